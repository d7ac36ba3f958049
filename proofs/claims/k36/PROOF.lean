import PyProof.Rows.All
import Wide.All
import OpenK.AllK
import Wide.FinOn
import Lean
import PyProof.EqAt
import PyProof.EqKinds
import PyProof.TupleCall
import PySem.Challenge.RW_wavewires_k36_steps_that_fit
section TopS
set_option Elab.async false
set_option linter.all false
open PySem PySem.W PyProof.Rows
def viewQ : Program := view PySem.Challenge.rw_wavewires_k36_steps_that_fit.prog [1, 2, 3, 5, 6, 8, 9, 10, 11, 12, 13, 14, 15, 16, 18, 19, 20, 21, 22, 23, 24, 25, 26, 27, 28]
local macro_rules
  | `(tactic| o_head $H) => do
    let hw := Lean.mkIdent `hw
    let hc := Lean.mkIdent `hc
    `(tactic| refine holds_open (q := viewQ) (loose := []) (Xt := fun s => xlAt viewQ [] s && recOk (RowW.records (OpenRow.toRowW PySem.Challenge.rw_wavewires_k36_steps_that_fit.row)) s) (XP := XL viewQ []) (Yf := Hook.obs $H) (Ya := Hook.val $H) (YP := Hook.says $H) (N := 6000) (fun w => by (unfold openEnds fencedOpening topFrom; rw [Fast.te10274390034422433532, Fast.te14082659384304107361, Fast.te1435165496053646825, Fast.te14289696077712309145, Fast.te14364793385576792824, Fast.te4187177175401517315, Fast.te5923862056798008813]; kernel_rfl)) (Hook.of $H) (Hook.keeps $H) (fun s e => xl_of s (Bool.and_eq_true_iff.mp e).1) XL.keeps (by rfl) (by rfl) (by rfl) (fun s e => recFacts_of (Bool.and_eq_true_iff.mp e).2) (by rfl) (by first | assumption | decide +kernel) (by decide +kernel) ⟨rfl, rfl, rfl, rfl, rfl, by decide +kernel⟩ ?$hw ?$hc)
set_option maxRecDepth 1000000 in
set_option maxHeartbeats 0 in
open_top topT for PySem.Challenge.rw_wavewires_k36_steps_that_fit
end TopS

set_option Elab.async false
set_option linter.all false
set_option maxRecDepth 100000
/-! THE HAND LAYER, for ints, bools, texts, own classes, LISTS and tuples (index, slices, in, append, pop ..), calls, loops. Paste it whole ahead of your own text; what your proof does not reach may be deleted. -/
namespace L2
open PySem PySem.Spec PyProof.Rows

/-- a key: an int or a str -/
abbrev Key := Sum Int Str
def keyIs : Key → Value → Bool
  | .inl k, v => Value.isInt k v
  | .inr x, v => Value.isStrOf x v
def keyH (w : World) : Key → Int
  | .inl k => hashInt k
  | .inr x => hashStr w x
theorem keyIs_shape : ∀ {k : Key} {v : Value}, keyIs k v = true → (∃ i t, k = Sum.inl i ∧ v = Value.int i t) ∨ (∃ x t, k = Sum.inr x ∧ v = Value.str x t)
  | .inl i, v, h => by
    obtain ⟨t, e⟩ := Value.isInt_shape (k := i) (v := v) h
    exact .inl ⟨i, t, rfl, e⟩
  | .inr x, v, h => by
    obtain ⟨t, e⟩ := Value.isStrOf_shape (x := x) (v := v) h
    exact .inr ⟨x, t, rfl, e⟩
theorem keyIs_int (i : Int) (t : Tok) : keyIs (.inl i) (.int i t) = true := by simp [keyIs, Value.isInt]
theorem keyIs_str (x : Str) (t : Tok) : keyIs (.inr x) (.str x t) = true := by simp [keyIs, Value.isStrOf]
theorem key_ll (a b : Int) : decide ((Sum.inl a : Key) = Sum.inl b) = (a == b) := by
  by_cases e : a = b
  · subst e; simp
  · have h : ¬ (Sum.inl a : Key) = Sum.inl b := fun q => e (Sum.inl.inj q)
    rw [decide_eq_false h]
    exact (beq_eq_false_iff_ne.mpr e).symm
theorem key_rr (a b : Str) : decide ((Sum.inr a : Key) = Sum.inr b) = decide (a = b) := by
  by_cases e : a = b
  · subst e; simp
  · have h : ¬ (Sum.inr a : Key) = Sum.inr b := fun q => e (Sum.inr.inj q)
    rw [decide_eq_false h, decide_eq_false e]
theorem key_lr (a : Int) (b : Str) : decide ((Sum.inl a : Key) = Sum.inr b) = false := decide_eq_false (fun q => nomatch q)
theorem key_rl (a : Str) (b : Int) : decide ((Sum.inr a : Key) = Sum.inl b) = false := decide_eq_false (fun q => nomatch q)

def mixKind (prog : Program) (w : World) : PySem.KeyKind prog w Key where
  is := keyIs
  hash := keyH w
  inj := fun v a b ha hb => by
    rcases keyIs_shape ha with ⟨i, t, rfl, rfl⟩ | ⟨x, t, rfl, rfl⟩
    · rcases keyIs_shape hb with ⟨j, u, rfl, e⟩ | ⟨y, u, rfl, e⟩
      · injection e with e1 _; rw [e1]
      · exact nomatch e
    · rcases keyIs_shape hb with ⟨j, u, rfl, e⟩ | ⟨y, u, rfl, e⟩
      · exact nomatch e
      · injection e with e1 _; rw [e1]
  byValue := fun k v h => by
    rcases keyIs_shape h with ⟨i, t, rfl, rfl⟩ | ⟨x, t, rfl, rfl⟩ <;> rfl
  pyHash := fun hv h => by
    rcases keyIs_shape hv with ⟨i, t, rfl, rfl⟩ | ⟨x, t, rfl, rfl⟩
    · exact wpAny_pyHash_int h
    · exact wpAny_pyHash_str h
  eqBool := fun hu hv h => by
    rcases keyIs_shape hu with ⟨i, t, rfl, rfl⟩ | ⟨x, t, rfl, rfl⟩
    · rcases keyIs_shape hv with ⟨j, u, rfl, rfl⟩ | ⟨y, u, rfl, rfl⟩
      · rw [key_ll] at h; exact wpAny_eqBool_int h
      · rw [key_lr] at h; exact SeqAt.EqAt.int_str i t y u _ _ _ _ h
    · rcases keyIs_shape hv with ⟨j, u, rfl, rfl⟩ | ⟨y, u, rfl, rfl⟩
      · rw [key_rl] at h; exact SeqAt.EqAt.str_int x t j u _ _ _ _ h
      · rw [key_rr] at h; exact wpAny_eqBool_str h
  «strs» := fun k x t v h => by
    rcases keyIs_shape h with ⟨i, u, rfl, e⟩ | ⟨y, u, rfl, e⟩
    · exact nomatch e
    · injection e with e1 _
      subst e1
      cases v <;> rfl

theorem mixKind_int (prog : Program) (w : World) (i : Int) (t : Tok) : (mixKind prog w).is (.inl i) (.int i t) = true := keyIs_int i t
theorem mixKind_str (prog : Program) (w : World) (x : Str) (t : Tok) : (mixKind prog w).is (.inr x) (.str x t) = true := keyIs_str x t
end L2

namespace L2
open PySem PySem.Spec PyProof.Rows

/-- a value, without the heap -/
inductive V where
  | non | bl (b : Bool) | int (i : Int) | str (x : Str) | byt (b : Array UInt8) | flt (b : UInt64) | ref (a : Addr) | ty (n : String)
  deriving DecidableEq

def RelV : V → Value → Prop
  | .non, u => u = Value.none
  | .bl b, u => u = Value.bool b
  | .int i, u => ∃ t, u = Value.int i t
  | .str x, u => ∃ t, u = Value.str x t
  | .byt b, u => ∃ t, u = Value.bytes b t
  | .flt b, u => ∃ t, u = Value.float b t
  | .ref a, u => u = Value.ref a
  | .ty n, u => u = Value.type n

abbrev Vals : List V → List Value → Prop := Paired RelV
theorem Vals.length {xs : List V} {us : List Value} (r : Vals xs us) : xs.length = us.length := Paired.length r
theorem Vals.get : ∀ {xs : List V} {us : List Value} {i : Nat} {x : V}, Vals xs us → xs[i]? = some x → ∃ u, us[i]? = some u ∧ RelV x u
  | _, _, _, _, .nil, e => by simp at e
  | _, _, 0, _, .cons r _, e => by simp at e; subst e; exact ⟨_, rfl, r⟩
  | _, _, i + 1, x, .cons _ t, e => by
    obtain ⟨u, h1, h2⟩ := Vals.get (i := i) (x := x) t (by simpa using e)
    exact ⟨u, by simpa using h1, h2⟩
theorem Vals.set {x : V} {u : Value} (r : RelV x u) : ∀ {xs : List V} {us : List Value} (i : Nat), Vals xs us → Vals (xs.set i x) (us.set i u)
  | _, _, _, .nil => .nil
  | _, _, 0, .cons _ t => .cons r t
  | _, _, i + 1, .cons q t => .cons q (Vals.set r i t)
theorem Vals.append : ∀ {xs ys : List V} {us ws : List Value}, Vals xs us → Vals ys ws → Vals (xs ++ ys) (us ++ ws)
  | _, _, _, _, .nil, s => s
  | _, _, _, _, .cons r t, s => .cons r (Vals.append t s)
theorem Vals.take : ∀ {xs : List V} {us : List Value} (n : Nat), Vals xs us → Vals (xs.take n) (us.take n)
  | _, _, 0, _ => .nil
  | _, _, _ + 1, .nil => .nil
  | _, _, n + 1, .cons r t => .cons r (Vals.take n t)
theorem Vals.drop : ∀ {xs : List V} {us : List Value} (n : Nat), Vals xs us → Vals (xs.drop n) (us.drop n)
  | _, _, 0, r => r
  | _, _, _ + 1, .nil => .nil
  | _, _, n + 1, .cons _ t => Vals.drop n t
def RelO : Option V → Option Value → Prop
  | some v, some u => RelV v u
  | none, none => True
  | _, _ => False
def KV {κ : Type} : List (κ × V) → List (κ × Value) → Prop := Paired fun (p : κ × V) (q : κ × Value) => p.1 = q.1 ∧ RelV p.2 q.2

/-- a key of a dict (00_mix): an int or a text -/
def kV : Key → V
  | .inl i => .int i
  | .inr x => .str x

/-- what stands at a tracked address -/
inductive HO where
  /-- a list -/
  | lst (xs : List V)
  /-- a tuple (never changes) -/
  | tup (xs : List V)
  /-- a dict whose keys are ints and texts; one whose keys are tuples of ints and texts (the empty one is both) -/
  | dK (kvs : List (Key × V)) | dT (kvs : List (List Key × V))
  /-- a set of ints: its members, its size -/
  | set (S : Int → Bool) (n : Nat)
  /-- an instance of the class at C, its dict at dx, its attributes -/
  | ins (C dx : Addr) (fs : List (Str × V))
  /-- the dict of the instance at x -/
  | own (x : Addr)
  /-- the dict of an exception -/
  | xd (fs : List (Str × V))
  /-- a bound method, f of x -/
  | met (f x : Addr)
  /-- a range object lo, lo + 1, .. below hi -/
  | rng (lo hi : Int)
  /-- a thing that is known to the object (the script; a dict while a loop walks it): read, never written while it is so -/
  | frz (o : Obj) (u : HO)
  /-- a code object's table -/
  | tbl (ps : Array Value)
  /-- any other thing, by what is true of its one object (a def of one's own: SetO a S n := HO.ext fun h => ..) -/
  | ext (φ : Heap → Prop)

abbrev Hp := Addr → Option HO
def upd (H : Hp) (a : Addr) (o : HO) : Hp := fun b => if b = a then some o else H b
theorem upd_same {H : Hp} {a : Addr} {o : HO} : upd H a o a = some o := by unfold upd; rw [if_pos rfl]
theorem upd_ne {H : Hp} {a b : Addr} {o : HO} (h : b ≠ a) : upd H a o b = H b := by unfold upd; rw [if_neg h]
/-- two objects of different content stand apart -/
theorem ne_of {H : Hp} {a b : Addr} {o u : HO} (h : H a = some o) (h' : H b = some u) (d : o ≠ u) : a ≠ b := by
  intro e; subst e; rw [h] at h'; exact d (Option.some.inj h')
theorem ne_of_none {H : Hp} {a b : Addr} {o : HO} (h : H a = some o) (h' : H b = none) : a ≠ b := by
  intro e; subst e; rw [h] at h'; cases h'

section
variable (P : Program) (w : World)
def ObjOk (H : Hp) (h : Heap) (a : Addr) : HO → Prop
  | .lst xs => xs.length ≤ sizeLine ∧ ∃ (its : List Value) (n : Nat), Vals xs its ∧ h.get? a = some { cls := .type "list", data := .seq its.toArray n }
  | .tup xs => xs.length ≤ sizeLine ∧ ∃ its : List Value, Vals xs its ∧ IsTup h a its.toArray
  | .dK kvs => kvs.length ≤ sizeLine ∧ (a == sysModules) = false ∧ ∃ vs, KV kvs vs ∧ h.DictOf (mixKind P w) a vs
  | .dT kvs => kvs.length ≤ sizeLine ∧ (a == sysModules) = false ∧ ∃ xs : List (List Key × Addr × Value),
      Paired (fun (p : List Key × V) (q : List Key × Addr × Value) => p.1 = q.1 ∧ H q.2.1 = some (.tup (p.1.map kV)) ∧ RelV p.2 q.2.2) kvs xs ∧
      ∃ o es ep, h.get? a = some o ∧ o.ExactDict ∧ o.data = .dict es ep ∧ es.toList = xs.map (entryOfKey (tupleKind (mixKind P w))) ∧ (xs.map (·.1)).Nodup
  | .set S n => h.SetOf (intKind P w) a S n
  | .ins C dx fs => H dx = some (.own a) ∧ fs.length ≤ 1000 ∧ dx ≠ a ∧ h.get? a = some (PySem.W.instObj C dx) ∧
      ∃ mA, h.Ns1 dx mA ∧ (∀ f, RelO (fs.lookup f) (mA f)) ∧ PySem.Within mA (fs.map (·.1))
  | .own _ => ∃ o, h.get? a = some o
  | .xd fs => ∃ mA, h.Ns1 a mA ∧ ∀ f, RelO (fs.lookup f) (mA f)
  | .rng lo hi => ∃ t u v, h.get? a = some { cls := .type "range", data := .fields #[.int lo t, .int hi u, .int 1 v] }
  | .frz o u => h.get? a = some o ∧ ObjOk H h a u
  | .tbl ps => h.get? a = some { cls := .none, data := .fields ps }
  | .met f x => h.get? a = some (PySem.W.methodObj (.ref f) (.ref x))
  | .ext φ => φ h ∧ (∃ o, h.get? a = some o) ∧ ∀ h1 h2 : Heap, φ h1 → (∀ o, h1.get? a = some o → h2.get? a = some o) → φ h2
/-- the abstract heap is held -/
def HOk (H : Hp) (h : Heap) : Prop := ∀ a o, H a = some o → ObjOk P w H h a o
end

section
variable {P : Program} {w : World} {H H' : Hp} {h h' : Heap} {a : Addr} {o : HO}
theorem ObjOk.lt (x : ObjOk P w H h a o) : a < h.objs.size := by
  cases o with
  | lst xs => obtain ⟨_, _, _, _, e⟩ := x; exact Heap.lt_size e
  | tup xs => obtain ⟨_, _, _, p⟩ := x; exact p.lt
  | dK kvs => obtain ⟨_, _, _, _, o, _, _, e, _⟩ := x; exact Heap.lt_size e
  | dT kvs => obtain ⟨_, _, _, _, o, _, _, e, _⟩ := x; exact Heap.lt_size e
  | set S n => obtain ⟨o, _, _, _, e, _⟩ := x; exact Heap.lt_size e
  | ins C dx fs => obtain ⟨_, _, _, e, _⟩ := x; exact Heap.lt_size e
  | own y => obtain ⟨_, e⟩ := x; exact Heap.lt_size e
  | xd fs => obtain ⟨_, ⟨_, _, _, e, _⟩, _⟩ := x; exact Heap.lt_size e
  | rng lo hi => obtain ⟨_, _, _, e⟩ := x; exact Heap.lt_size e
  | frz ob u => obtain ⟨e, _⟩ := x; exact Heap.lt_size e
  | tbl ps => exact Heap.lt_size (show h.get? a = some _ from x)
  | met f y => exact Heap.lt_size (show h.get? a = some _ from x)
  | ext φ => obtain ⟨_, ⟨_, e⟩, _⟩ := x; exact Heap.lt_size e
theorem Paired.mapP {α β : Type} {F G : α → β → Prop} : ∀ {l₁ : List α} {l₂ : List β}, Paired F l₁ l₂ → (∀ a b, F a b → G a b) → Paired G l₁ l₂
  | _, _, .nil, _ => .nil
  | _, _, .cons r t, f => .cons (f _ _ r) (Paired.mapP t f)
/-- what an object's description leans on: its own object, its own dict, the tuples -/
theorem ObjOk.stay (x : ObjOk P w H h a o) (k : ∀ b u, (b = a ∨ H b = some (.own a)) → h.get? b = some u → h'.get? b = some u)
    (ho : ∀ b, H b = some (.own a) → H' b = some (.own a)) (ht : ∀ b xs, H b = some (.tup xs) → H' b = some (.tup xs)) : ObjOk P w H' h' a o := by
  induction o with
  | lst xs => obtain ⟨z, its, n, r, e⟩ := x; exact ⟨z, its, n, r, k _ _ (.inl rfl) e⟩
  | tup xs => obtain ⟨z, its, r, ob, e, c⟩ := x; exact ⟨z, its, r, ob, k _ _ (.inl rfl) e, c⟩
  | dK kvs => obtain ⟨z, y, vs, r, ob, es, ep, e, c⟩ := x; exact ⟨z, y, vs, r, ob, es, ep, k _ _ (.inl rfl) e, c⟩
  | dT kvs =>
    obtain ⟨z, y, xs, r, ob, es, ep, e, c⟩ := x
    exact ⟨z, y, xs, Paired.mapP r fun p q z => ⟨z.1, ht _ _ z.2.1, z.2.2⟩, ob, es, ep, k _ _ (.inl rfl) e, c⟩
  | set S n => obtain ⟨ob, es, ep, t, e, c⟩ := x; exact ⟨ob, es, ep, t, k _ _ (.inl rfl) e, c⟩
  | ins C dx fs =>
    obtain ⟨d, z, ne, e, mA, ⟨od, es, ep, e2, c⟩, r⟩ := x
    exact ⟨ho _ d, z, ne, k _ _ (.inl rfl) e, mA, ⟨od, es, ep, k _ _ (.inr d) e2, c⟩, r⟩
  | own y => obtain ⟨ob, e⟩ := x; exact ⟨ob, k _ _ (.inl rfl) e⟩
  | xd fs => obtain ⟨mA, ⟨od, es, ep, e, c⟩, r⟩ := x; exact ⟨mA, ⟨od, es, ep, k _ _ (.inl rfl) e, c⟩, r⟩
  | rng lo hi => obtain ⟨t, u, v, e⟩ := x; exact ⟨t, u, v, k _ _ (.inl rfl) e⟩
  | frz ob u ih => obtain ⟨e, q⟩ := x; exact ⟨k _ _ (.inl rfl) e, ih q⟩
  | tbl ps =>
    have e : h.get? a = some { cls := .none, data := .fields ps } := x
    show h'.get? a = some { cls := .none, data := .fields ps }
    exact k a _ (.inl rfl) e
  | met f y =>
    have e : h.get? a = some (PySem.W.methodObj (.ref f) (.ref y)) := x
    show h'.get? a = some (PySem.W.methodObj (.ref f) (.ref y))
    exact k a _ (.inl rfl) e
  | ext φ => obtain ⟨p, ⟨o, e⟩, st⟩ := x; exact ⟨st _ _ p fun o q => k _ _ (.inl rfl) q, ⟨o, k _ _ (.inl rfl) e⟩, st⟩
theorem HOk.lt (x : HOk P w H h) (e : H a = some o) : a < h.objs.size := (x a o e).lt
theorem HOk.fresh (x : HOk P w H h) (e : h.objs.size ≤ a) : H a = none := by
  cases q : H a with
  | none => rfl
  | some u => exact absurd (Nat.lt_of_lt_of_le (x.lt q) e) (Nat.lt_irrefl _)
/-- every object of the heap is kept -/
theorem HOk.kept (x : HOk P w H h) (k : ∀ b u, h.get? b = some u → h'.get? b = some u) : HOk P w H h' := fun a o e =>
  (x a o e).stay (fun b u _ q => k b u q) (fun _ q => q) fun _ _ q => q
/-- a new object is laid and tracked -/
theorem HOk.laid (x : HOk P w H h) (k : ∀ b u, h.get? b = some u → h'.get? b = some u) (hp : h.objs.size ≤ a) (new : ObjOk P w (upd H a o) h' a o) : HOk P w (upd H a o) h' := fun b u e => by
  have hn := x.fresh hp
  by_cases hb : b = a
  · subst hb; rw [upd_same] at e; cases e; exact new
  · rw [upd_ne hb] at e
    exact (x b u e).stay (fun c v _ q => k c v q) (fun c q => by rw [upd_ne (ne_of_none q hn)]; exact q) fun c xs q => by rw [upd_ne (ne_of_none q hn)]; exact q
end

/-- what may be read as u: it is u, or a known u -/
def Rd (H : Hp) (a : Addr) (u : HO) : Prop := H a = some u ∨ ∃ o, H a = some (.frz o u)
theorem Rd.of {H : Hp} {a : Addr} {u : HO} (h : H a = some u) : Rd H a u := .inl h
theorem Rd.ok {P : Program} {w : World} {H : Hp} {h : Heap} {a : Addr} {u : HO} (r : Rd H a u) (x : HOk P w H h) : ObjOk P w H h a u := by
  rcases r with r | ⟨o, r⟩
  · exact x a u r
  · obtain ⟨_, q⟩ := x a _ r
    exact q
/-- what may be written -/
def Mut : Option HO → Prop
  | some (.lst _) => True
  | some (.dK _) => True
  | some (.dT _) => True
  | some (.set _ _) => True
  | some (.ins _ _ _) => True
  | some (.ext _) => True
  | _ => False
section
variable {P : Program} {w : World} {H : Hp} {h h' : Heap} {x e : Addr} {o' : HO}
/-- the object at e is changed: x itself, or the dict of the instance x -/
theorem HOk.write (ok : HOk P w H h) (mu : Mut (H x)) (he : e = x ∨ H e = some (.own x)) (k : ∀ b u, b ≠ e → h.get? b = some u → h'.get? b = some u) (heo : ∃ u, h'.get? e = some u)
    (new : ObjOk P w (upd H x o') h' x o') : HOk P w (upd H x o') h' := fun b u q => by
  have nown : ∀ c y, H c = some (.own y) → c ≠ x := fun c y r z => by subst z; rw [r] at mu; exact mu
  have ntup : ∀ c xs, H c = some (.tup xs) → c ≠ x := fun c xs r z => by subst z; rw [r] at mu; exact mu
  by_cases hb : b = x
  · subst hb; rw [upd_same] at q; cases q; exact new
  · rw [upd_ne hb] at q
    by_cases hbe : b = e
    · have q' : H b = some (.own x) := by
        rcases he with z | z
        · exact absurd (hbe.trans z) hb
        · rw [hbe]; exact z
      rw [q] at q'; cases q'
      obtain ⟨v, hv⟩ := heo
      exact ⟨v, by rw [hbe]; exact hv⟩
    · refine (ok b u q).stay (fun c v hc r => k c v ?_ r) (fun c r => by rw [upd_ne (nown c b r)]; exact r) fun c xs r => by rw [upd_ne (ntup c xs r)]; exact r
      rcases hc with rfl | hc
      · exact hbe
      · rintro rfl
        rcases he with z | z
        · exact nown c b hc z
        · rw [hc] at z; cases z; exact hb rfl
end

/-! ### kept unless tracked; of the frames at fs (the callers') the slots may change (an exception that passes writes there); of the records at ex (iterators) nothing is said -/
structure Un (fs ex : List Addr) (H H' : Hp) (h h' : Heap) : Prop where
  keep : ∀ b o, h.get? b = some o → H b = none → b ∉ fs → b ∉ ex → h'.get? b = some o
  slot : ∀ b o, h.get? b = some o → H b = none → b ∈ fs → b ∉ ex → ∃ sl, h'.get? b = some { o with slots := sl }
  free : ∀ b o, h.get? b = some o → H b = none → b ∉ ex → H' b = none
  there : ∀ b o, h.get? b = some o → b ∉ ex → ∃ o', h'.get? b = some o'
  tups : ∀ b xs, H b = some (.tup xs) → H' b = some (.tup xs)
  frzs : ∀ b o u, H b = some (.frz o u) → H' b = some (.frz o u)
  tbls : ∀ b ps, H b = some (.tbl ps) → ∃ more, H' b = some (.tbl (ps ++ more))
section
variable {fs fs' ex ex' : List Addr} {H H1 H2 : Hp} {h h1 h2 h' : Heap} {a x e : Addr} {o : HO}
theorem Un.any (u : Un fs ex H H1 h h1) {b : Addr} {ob : Obj} (q : h.get? b = some ob) (n : H b = none) (hx : b ∉ ex) : ∃ sl, h1.get? b = some { ob with slots := sl } := by
  by_cases hb : b ∈ fs
  · exact u.slot b ob q n hb hx
  · exact ⟨ob.slots, u.keep b ob q n hb hx⟩
theorem Un.trans (a : Un fs ex H H1 h h1) (b : Un fs ex H1 H2 h1 h2) : Un fs ex H H2 h h2 where
  keep := fun c ob q n hc hx => b.keep c ob (a.keep c ob q n hc hx) (a.free c ob q n hx) hc hx
  slot := fun c ob q n hc hx => by
    obtain ⟨sl, e1⟩ := a.slot c ob q n hc hx
    obtain ⟨sl', e2⟩ := b.slot c _ e1 (a.free c ob q n hx) hc hx
    exact ⟨sl', e2⟩
  free := fun c ob q n hx => by
    obtain ⟨o', e1⟩ := a.there c ob q hx
    exact b.free c o' e1 (a.free c ob q n hx) hx
  there := fun c ob q hx => by
    obtain ⟨o', e1⟩ := a.there c ob q hx
    exact b.there c o' e1 hx
  tups := fun c xs q => b.tups c xs (a.tups c xs q)
  frzs := fun c ob xs q => b.frzs c ob xs (a.frzs c ob xs q)
  tbls := fun c ps q => by
    obtain ⟨m1, e1⟩ := a.tbls c ps q
    obtain ⟨m2, e2⟩ := b.tbls c _ e1
    exact ⟨m1 ++ m2, by rw [e2, Array.append_assoc]⟩
theorem Un.kept (k : ∀ b u, h.get? b = some u → h'.get? b = some u) : Un fs ex H H h h' :=
  ⟨fun b ob q _ _ _ => k b ob q, fun b ob q _ _ _ => ⟨ob.slots, k b ob q⟩, fun _ _ _ n _ => n, fun b ob q _ => ⟨ob, k b ob q⟩, fun _ _ q => q, fun _ _ _ q => q, fun _ ps q => ⟨#[], by rw [q]; simp⟩⟩
theorem Un.refl : Un fs ex H H h h := Un.kept fun _ _ q => q
theorem Un.laid (k : ∀ b u, h.get? b = some u → h'.get? b = some u) (hp : h.objs.size ≤ a) (hn : H a = none) : Un fs ex H (upd H a o) h h' where
  keep := fun b u q _ _ _ => k b u q
  slot := fun b u q _ _ _ => ⟨u.slots, k b u q⟩
  free := fun b u q n _ => by rw [upd_ne (Nat.ne_of_lt (Nat.lt_of_lt_of_le (Heap.lt_size q) hp))]; exact n
  there := fun b u q _ => ⟨u, k b u q⟩
  tups := fun b xs q => by rw [upd_ne (ne_of_none q hn)]; exact q
  frzs := fun b u xs q => by rw [upd_ne (ne_of_none q hn)]; exact q
  tbls := fun b ps q => ⟨#[], by rw [upd_ne (ne_of_none q hn), q]; simp⟩
theorem Un.write (mu : Mut (H x)) (he : e = x ∨ H e = some (.own x)) (k : ∀ b u, b ≠ e → h.get? b = some u → h'.get? b = some u) (heo : ∃ u, h'.get? e = some u) : Un fs ex H (upd H x o) h h' := by
  have hx : ∀ b, H b = none → b ≠ x := fun b n z => by subst z; rw [n] at mu; exact mu
  have hb : ∀ b, H b = none → b ≠ e := fun b n z => by
    subst z
    rcases he with r | r
    · exact hx b n r
    · rw [n] at r; cases r
  have hm : ∀ b u, H b = some u → ¬ Mut (some u) → b ≠ x := fun b u q nm z => by subst z; rw [q] at mu; exact nm mu
  refine ⟨fun b u q n _ _ => k b u (hb b n) q, fun b u q n _ _ => ⟨u.slots, k b u (hb b n) q⟩, fun b u q n _ => by rw [upd_ne (hx b n)]; exact n, fun b u q _ => ?_,
    fun b xs q => by rw [upd_ne (hm b _ q fun z => z)]; exact q, fun b u xs q => by rw [upd_ne (hm b _ q fun z => z)]; exact q, fun b ps q => ⟨#[], by rw [upd_ne (hm b _ q fun z => z), q]; simp⟩⟩
  by_cases hbe : b = e
  · subst hbe; exact heo
  · exact ⟨u, k b u hbe q⟩
theorem Un.mono (u : Un fs ex H H1 h h1) (hs : ∀ b ∈ fs, b ∈ fs') (hx : ∀ b ∈ ex, b ∈ ex') : Un fs' ex' H H1 h h1 :=
  ⟨fun b ob q n hb he => u.keep b ob q n (fun z => hb (hs b z)) fun z => he (hx b z), fun _ _ q n _ he => u.any q n fun z => he (hx _ z), fun b ob q n he => u.free b ob q n fun z => he (hx b z), fun b ob q he => u.there b ob q fun z => he (hx b z), u.tups, u.frzs, u.tbls⟩
end

/-! ### the heap without what is tracked -/
def trk (h : Heap) (H : Hp) : List Addr := (List.range h.objs.size).filter fun a => (H a).isSome
def hidT (h : Heap) (H : Hp) : Heap := PySem.W.hideAll h (trk h H)
theorem hidT_size (h : Heap) (H : Hp) : (hidT h H).objs.size = h.objs.size := PySem.W.hideAll_size _ _
theorem hidT_get {h : Heap} {H : Hp} {b : Addr} {o : Obj} (e : h.get? b = some o) (n : H b = none) : (hidT h H).get? b = some o :=
  PySem.W.hideAll_get _ e fun hm => by
    have q : (H b).isSome = true := (List.mem_filter.mp hm).2
    rw [n] at q; simp at q
theorem of_hidT {h : Heap} {H : Hp} {b : Addr} {o : Obj} (e : (hidT h H).get? b = some o) : h.get? b = some o ∧ H b = none := by
  have e' : h.get? b = some o := PySem.W.of_hideAll (trk h H) e
  refine ⟨e', ?_⟩
  cases q : H b with
  | none => rfl
  | some x =>
    have hm : b ∈ trk h H := List.mem_filter.mpr ⟨List.mem_range.mpr (Heap.lt_size e'), by simp [q]⟩
    have z : (hidT h H).get? b = none := PySem.W.hideAll_none (trk h H) hm
    rw [z] at e; cases e

/-! ### OpenK's ledger, filled with every new object but one -/
def allNews (g h : Heap) (L : Addr) : List (Addr × Obj) := (List.range h.objs.size).filterMap fun a => if a = L ∨ (g.get? a).isSome = true then none else (h.get? a).map fun o => (a, o)
def rest (g h : Heap) (L d : Addr) : List (Addr × Obj) := (allNews g h L).filter fun p => decide (p.1 ≠ d)
end L2

namespace L2
open PySem PySem.Spec PyProof.Rows

/-- the module's facts, over the base: the heap at the law's entry without what is tracked there -/
structure Mod (K : PySem.W.Frag) (mg : Str → Option Value) (base : Heap) : Prop where
  kin : K.In base
  glob : base.Ns mainGlobals mg
  blt : ∃ mb, base.Ns builtinsNs mb ∧ ∀ x : Str, x ≠ "__name__" → mb x = bootBuiltins x
  nolimit : base.NoLimit

/-- the context: a def's body (or a comprehension's block) running. base: fixed through the whole law; s₀, H₀: the entry; outer: the frames whose slots others may change (a def's callers); stack: all frames that run;
   ex: iterators that were made ahead of the entry and are walked here (a comprehension's); fn: the names whose cells were made at the entry (a def: all; a comprehension's block: its own); calm: not within an except suite; pn: pins that every state bears; xe: what is wanted of an exception that leaves the code -/
structure Cx where
  prog : Program
  w : World
  K : PySem.W.Frag
  mg : Str → Option Value
  base : Heap
  A : Around
  N : List Str
  s₀ : Shared
  H₀ : Hp
  env : Env
  outer : List Env
  stack : List Env
  ex : List Addr
  fn : Str → Bool
  calm : Bool
  pn : List (Addr × Obj)
  xe : Value → Shared → Prop
/-- the callers' frames -/
def frs (l : List Env) : List Addr := l.filterMap (·.frame)
abbrev Cx.fs (X : Cx) : List Addr := frs X.outer

def Vis (sc : Scope) (x : Str) : Prop := sc.names.lookup x = some .local ∨ sc.names.lookup x = some .cell ∨ sc.names.lookup x = some .free
def Loc (sc : Scope) (x : Str) : Prop := sc.names.lookup x = some .local ∨ sc.names.lookup x = some .cell
def Look (env : Env) (h : Heap) (m : Str → Option Value) (x : Str) (u : Value) : Prop :=
  (env.kindOf x = some .local ∧ m x = some u) ∨ ((env.kindOf x = some .cell ∨ env.kindOf x = some .free) ∧ ∃ c, env.cells.lookup x = some c ∧ h.IsCell c (some u))

structure Cx.Ok (X : Cx) : Prop where
  mod : Mod X.K X.mg X.base
  kind : X.env.scope.kind = .function
  glob : X.env.globals = mainGlobals
  blt : X.env.builtins = builtinsNs
  above : X.s₀.heap.objs.size ≤ X.env.locals
  inj : ∀ x y c, X.env.cells.lookup x = some c → X.env.cells.lookup y = some c → x = y
  has : ∀ x, (X.env.kindOf x = some .cell ∨ X.env.kindOf x = some .free) → ∃ c, X.env.cells.lookup x = some c
  cab : ∀ x c, X.fn x = true → X.env.cells.lookup x = some c → X.s₀.heap.objs.size ≤ c
  hd : X.calm = true → X.A.handled = none
  frames : X.A.frames = some X.stack
  stk : X.stack = X.outer ∨ (X.stack = X.env :: X.outer ∧ X.env.frame = some X.env.locals)
  exf : ∀ b ∈ X.ex, b ≠ X.env.locals ∧ ∀ x c, X.env.cells.lookup x = some c → c ≠ b
  bs : ∀ b o, X.base.get? b = some o → X.s₀.heap.get? b = some o ∧ X.H₀ b = none
  bsz : X.base.objs.size ≤ X.s₀.heap.objs.size
  noex : ∀ b o, X.base.get? b = some o → b ∉ X.ex
  exfs : ∀ b ∈ X.ex, b ∉ X.fs
  funs : X.s₀.heap.FunFrames X.base X.outer
  frf : ∀ b ∈ X.fs, X.H₀ b = none

structure Inv (X : Cx) (pins : List (Addr × Obj)) (σ : List (Option V)) (H : Hp) (s : Shared) : Prop where
  ok : X.Ok
  os : s.os = X.s₀.os
  bare : AllBare s.gens
  base : Un X.fs X.ex X.H₀ H X.s₀.heap s.heap
  loc : ∃ m, s.heap.Ns X.env.locals m ∧ ∀ (i : Nat) (x : Str) (v : V), X.N[i]? = some x → σ[i]? = some (some v) → Vis X.env.scope x → ∃ u, RelV v u ∧ Look X.env s.heap m x u
  cell : ∀ x c, X.env.cells.lookup x = some c → ∃ v, s.heap.IsCell c v
  free : H X.env.locals = none
  freeC : ∀ x c, X.env.cells.lookup x = some c → H c = none
  pin : ∀ p ∈ X.pn ++ pins, s.heap.get? p.1 = some p.2 ∧ H p.1 = none ∧ p.1 ≠ X.env.locals ∧ p.1 ∉ X.fs ∧ ∀ v, p.2.data ≠ .cell v
  hok : HOk X.prog X.w H s.heap
  len : σ.length = X.N.length

section
variable {X : Cx} {pins : List (Addr × Obj)} {σ : List (Option V)} {H H' : Hp} {s : Shared} {h' : Heap}

theorem Cx.Ok.nofr (ok : X.Ok) {b : Addr} {o : Obj} (e : X.base.get? b = some o) : b ∉ X.fs := fun hb => by
  have := (ok.funs.mem hb).1
  rw [e] at this; cases this
theorem Inv.bs (I : Inv X pins σ H s) : ∀ b o, X.base.get? b = some o → s.heap.get? b = some o ∧ H b = none := fun b o e =>
  ⟨I.base.keep b o (I.ok.bs b o e).1 (I.ok.bs b o e).2 (I.ok.nofr e) (I.ok.noex b o e), I.base.free b o (I.ok.bs b o e).1 (I.ok.bs b o e).2 (I.ok.noex b o e)⟩
theorem Inv.bk (I : Inv X pins σ H s) : ∀ b o, X.base.get? b = some o → s.heap.get? b = some o := fun b o e => (I.bs b o e).1
theorem Inv.mod (I : Inv X pins σ H s) : Mod X.K X.mg X.base := I.ok.mod
theorem Inv.kIn (I : Inv X pins σ H s) : X.K.In s.heap := I.ok.mod.kin.keeps I.bk
theorem Inv.nolimit (I : Inv X pins σ H s) : s.heap.NoLimit := I.ok.mod.nolimit.keeps I.bk
theorem Inv.lt (I : Inv X pins σ H s) : X.env.locals < s.heap.objs.size := let ⟨_, hn, _⟩ := I.loc; hn.lt
theorem Inv.sz (I : Inv X pins σ H s) : X.s₀.heap.objs.size ≤ s.heap.objs.size := Nat.le_trans I.ok.above (Nat.le_of_lt I.lt)
theorem Inv.nofs (I : Inv X pins σ H s) {a : Addr} (h : s.heap.objs.size ≤ a) : a ∉ X.fs := fun hb => by
  obtain ⟨_, o, ho, _⟩ := I.ok.funs.mem hb
  exact absurd (Nat.lt_of_lt_of_le (Heap.lt_size ho) (Nat.le_trans I.sz h)) (Nat.lt_irrefl _)
theorem Inv.cne (I : Inv X pins σ H s) : ∀ x c, X.env.cells.lookup x = some c → c ≠ X.env.locals := fun x c e z => by
  obtain ⟨v, o, ho, hd⟩ := I.cell x c e
  obtain ⟨m, ⟨o', es, ep, ho', hd', _⟩, _⟩ := I.loc
  rw [z, ho'] at ho; cases ho; rw [hd'] at hd; cases hd
theorem Inv.funs (I : Inv X pins σ H s) : s.heap.FunFrames X.base X.outer := by
  have all : ∀ (l : List Env), (∀ b ∈ frs l, b ∈ X.fs) → X.s₀.heap.FunFrames X.base l → s.heap.FunFrames X.base l := by
    intro l
    induction l with
    | nil => intro _ _; trivial
    | cons env r ih =>
      intro hs hl
      obtain ⟨hk, ⟨L, o, hf, hn, ho, hd⟩, hr⟩ := hl
      have hL : L ∈ X.fs := hs L (by unfold frs; rw [List.filterMap_cons, hf]; exact List.mem_cons_self)
      obtain ⟨sl, e⟩ := I.base.slot L o ho (I.ok.frf L hL) hL fun z => I.ok.exfs L z hL
      exact ⟨hk, ⟨L, _, hf, hn, e, hd⟩, ih (fun b hb => hs b (by unfold frs; rw [List.filterMap_cons, hf]; exact List.mem_cons_of_mem _ hb)) hr⟩
  exact all X.outer (fun _ hb => hb) I.ok.funs

/-- the frames that run, for a call -/
theorem Inv.stack (I : Inv X pins σ H s) : s.heap.FunFrames X.base X.stack := by
  rcases I.ok.stk with e | ⟨e, hf⟩
  · rw [e]; exact I.funs
  · rw [e]
    obtain ⟨m, hn, _⟩ := I.loc
    refine .cons (by rw [I.ok.kind]; decide) hf hn ?_ I.funs
    exact Heap.get?_none_of_le (Nat.le_trans I.ok.bsz I.ok.above)
theorem Inv.stkSub (I : Inv X pins σ H s) : ∀ b ∈ frs X.stack, b ∈ X.env.locals :: X.fs := fun b hb => by
  rcases I.ok.stk with e | ⟨e, hf⟩
  · rw [e] at hb; exact List.mem_cons_of_mem _ hb
  · rw [e] at hb
    unfold frs at hb
    rw [List.filterMap_cons, hf] at hb
    exact hb
theorem Inv.stkFree (I : Inv X pins σ H s) : ∀ b ∈ frs X.stack, H b = none := fun b hb => by
  rcases List.mem_cons.mp (I.stkSub b hb) with e | hb
  · rw [e]; exact I.free
  · obtain ⟨_, o, ho, _⟩ := I.ok.funs.mem hb
    exact I.base.free b o ho (I.ok.frf b hb) fun z => I.ok.exfs b z hb

/-- THE STEP: the untracked objects but the frame and the records at ch are kept (the callers' frames up to slots), the frame's map is kept, the new abstract heap is held -/
theorem Inv.step {g' : Array GenState} {t' : Nat} {d' : Drawn} {ch : List Addr} (I : Inv X pins σ H s)
    (hch : ∀ b ∈ ch, (b ∈ X.ex ∨ X.s₀.heap.objs.size ≤ b) ∧ b ≠ X.env.locals ∧ (∀ x c, X.env.cells.lookup x = some c → c ≠ b) ∧ ∀ p ∈ X.pn ++ pins, p.1 ≠ b)
    (keep : ∀ b o, b ≠ X.env.locals → b ∉ X.fs → b ∉ ch → s.heap.get? b = some o → H b = none → h'.get? b = some o)
    (slot : ∀ b o, b ≠ X.env.locals → b ∈ X.fs → b ∉ ch → s.heap.get? b = some o → H b = none → ∃ sl, h'.get? b = some { o with slots := sl }) (free : ∀ b o, b ∉ ch → s.heap.get? b = some o → H b = none → H' b = none)
    (there : ∀ b o, b ∉ ch → s.heap.get? b = some o → ∃ o', h'.get? b = some o')
    (tups : ∀ b xs, H b = some (.tup xs) → H' b = some (.tup xs)) (frzs : ∀ b o u, H b = some (.frz o u) → H' b = some (.frz o u)) (tbls : ∀ b ps, H b = some (.tbl ps) → ∃ more, H' b = some (.tbl (ps ++ more)))
    (ns : ∀ m, s.heap.Ns X.env.locals m → h'.Ns X.env.locals m) (hok : HOk X.prog X.w H' h') (hg : AllBare g') :
    Inv X pins σ H' { s with heap := h', gens := g', drawn := d', toks := t' } := by
  have neL : ∀ b o, X.s₀.heap.get? b = some o → b ≠ X.env.locals := fun b o e => Nat.ne_of_lt (Nat.lt_of_lt_of_le (Heap.lt_size e) I.ok.above)
  have neC : ∀ b o, X.s₀.heap.get? b = some o → b ∉ X.ex → b ∉ ch := fun b o e hx hb => by
    rcases (hch b hb).1 with z | z
    · exact hx z
    · exact absurd (Nat.lt_of_lt_of_le (Heap.lt_size e) z) (Nat.lt_irrefl _)
  have cellK : ∀ x c, X.env.cells.lookup x = some c → ∀ v, s.heap.IsCell c v → h'.IsCell c v := fun x c e v ⟨o, ho, hd⟩ => by
    have nch : c ∉ ch := fun z => (hch c z).2.2.1 x c e rfl
    by_cases hc : c ∈ X.fs
    · obtain ⟨sl, q⟩ := slot c o (I.cne x c e) hc nch ho (I.freeC x c e)
      exact ⟨_, q, hd⟩
    · exact ⟨o, keep c o (I.cne x c e) hc nch ho (I.freeC x c e), hd⟩
  refine ⟨I.ok, I.os, hg, ⟨fun b o e n hb hx => ?_, fun b o e n hb hx => ?_, fun b o e n hx => ?_, fun b o e hx => ?_, fun b xs e => tups b xs (I.base.tups b xs e), fun b o xs e => frzs b o xs (I.base.frzs b o xs e), fun b ps e => ?_⟩, ?_, fun x c e => ?_, ?_, fun x c e => ?_, fun p hp => ?_, hok, I.len⟩
  · exact keep b o (neL b o e) hb (neC b o e hx) (I.base.keep b o e n hb hx) (I.base.free b o e n hx)
  · obtain ⟨sl, e1⟩ := I.base.slot b o e n hb hx
    obtain ⟨sl', e2⟩ := slot b _ (neL b o e) hb (neC b o e hx) e1 (I.base.free b o e n hx)
    exact ⟨sl', e2⟩
  · obtain ⟨o', e1⟩ := I.base.there b o e hx
    exact free b o' (neC b o e hx) e1 (I.base.free b o e n hx)
  · obtain ⟨o', e1⟩ := I.base.there b o e hx
    exact there b o' (neC b o e hx) e1
  · obtain ⟨m1, e1⟩ := I.base.tbls b ps e
    obtain ⟨m2, e2⟩ := tbls b _ e1
    exact ⟨m1 ++ m2, by rw [e2, Array.append_assoc]⟩
  · obtain ⟨m, hn, hl⟩ := I.loc
    refine ⟨m, ns m hn, fun i x v e1 e2 e3 => ?_⟩
    obtain ⟨u, r, l⟩ := hl i x v e1 e2 e3
    refine ⟨u, r, ?_⟩
    rcases l with l | ⟨k, c, e, z⟩
    · exact .inl l
    · exact .inr ⟨k, c, e, cellK x c e _ z⟩
  · obtain ⟨v, z⟩ := I.cell x c e
    exact ⟨v, cellK x c e v z⟩
  · obtain ⟨m, ⟨o, _, _, ho, _⟩, _⟩ := I.loc
    exact free _ o (fun z => (hch _ z).2.1 rfl) ho I.free
  · obtain ⟨v, o, ho, hd⟩ := I.cell x c e
    exact free c o (fun z => (hch c z).2.2.1 x c e rfl) ho (I.freeC x c e)
  · obtain ⟨e, n, ne, nf, d⟩ := I.pin p hp
    have nch : p.1 ∉ ch := fun z => (hch p.1 z).2.2.2 p hp rfl
    exact ⟨keep p.1 p.2 ne nf nch e n, free p.1 p.2 nch e n, ne, nf, d⟩
/-- .. where the frame's own object is kept too -/
theorem Inv.un {t' : Nat} (I : Inv X pins σ H s) (u : Un X.fs [] H H' s.heap h') (hok : HOk X.prog X.w H' h') : Inv X pins σ H' { s with heap := h', toks := t' } := by
  obtain ⟨m, ⟨o, es, ep, ho, r⟩, _⟩ := id I.loc
  obtain ⟨sl, hL⟩ := u.any ho I.free (by simp)
  exact I.step (g' := s.gens) (d' := s.drawn) (ch := []) (fun _ z => nomatch z) (fun b o _ hb _ e n => u.keep b o e n hb (by simp)) (fun b o _ hb _ e n => u.slot b o e n hb (by simp)) (fun b o _ e n => u.free b o e n (by simp)) (fun b o _ e => u.there b o e (by simp)) u.tups u.frzs u.tbls (fun m' hm => by
    obtain ⟨o', es', ep', ho', r'⟩ := hm
    rw [ho] at ho'; cases ho'
    exact ⟨_, es', ep', hL, r'⟩) hok I.bare
/-- behind a call (or a comprehension's block): the slots of this frame may have changed too, the records at ch may have turned -/
theorem Inv.call {g' : Array GenState} {t' : Nat} {d' : Drawn} {ch : List Addr} (I : Inv X pins σ H s) (u : Un (frs X.stack) ch H H' s.heap h') (hok : HOk X.prog X.w H' h') (hg : AllBare g')
    (hch : ∀ b ∈ ch, (b ∈ X.ex ∨ X.s₀.heap.objs.size ≤ b) ∧ b ≠ X.env.locals ∧ (∀ x c, X.env.cells.lookup x = some c → c ≠ b) ∧ ∀ p ∈ X.pn ++ pins, p.1 ≠ b) :
    Inv X pins σ H' { s with heap := h', gens := g', drawn := d', toks := t' } := by
  obtain ⟨m, ⟨o, es, ep, ho, r⟩, _⟩ := id I.loc
  obtain ⟨sl, hL⟩ := u.any ho I.free fun z => (hch _ z).2.1 rfl
  exact I.step (ch := ch) hch (fun b o hL hb hc e n => u.keep b o e n (fun z => (List.mem_cons.mp (I.stkSub b z)).elim hL hb) hc) (fun b o _ _ hc e n => u.any e n hc) (fun b o hc e n => u.free b o e n hc) (fun b o hc e => u.there b o e hc) u.tups u.frzs u.tbls (fun m' hm => by
    obtain ⟨o', es', ep', ho', r'⟩ := hm
    rw [ho] at ho'; cases ho'
    exact ⟨_, es', ep', hL, r'⟩) hok hg
/-- an untracked record of ours (an iterator) has turned -/
theorem Inv.turned {t' : Nat} {it : Addr} (I : Inv X pins σ H s) (k : ∀ b o, b ≠ it → s.heap.get? b = some o → h'.get? b = some o) (hn : H it = none) (hL : it ≠ X.env.locals)
    (h1 : it ∈ X.ex ∨ X.s₀.heap.objs.size ≤ it) (h2 : ∀ x c, X.env.cells.lookup x = some c → c ≠ it) (h3 : ∀ p ∈ X.pn ++ pins, p.1 ≠ it) : Inv X pins σ H { s with heap := h', toks := t' } := by
  have nit : ∀ b u, H b = some u → b ≠ it := fun b u e z => by rw [z, hn] at e; cases e
  refine I.step (g' := s.gens) (d' := s.drawn) (ch := [it]) (fun b hb => ?_) (fun b o _ _ hc e _ => k b o (fun z => hc (by simp [z])) e) (fun b o _ _ hc e _ => ⟨o.slots, k b o (fun z => hc (by simp [z])) e⟩) (fun _ _ _ _ n => n)
    (fun b o hc e => ⟨o, k b o (fun z => hc (by simp [z])) e⟩) (fun _ _ e => e) (fun _ _ _ e => e) (fun b ps e => ⟨#[], by rw [e]; simp⟩) (fun m hm => ?_) (fun b u e => ?_) I.bare
  · have e : b = it := by simpa using hb
    subst e
    exact ⟨h1, hL, h2, h3⟩
  · obtain ⟨o, es, ep, ho, r⟩ := hm
    exact ⟨o, es, ep, k _ o (Ne.symm hL) ho, r⟩
  · refine (I.hok b u e).stay (fun c v hc q => k c v ?_ q) (fun _ q => q) fun _ _ q => q
    rcases hc with z | z
    · rw [z]; exact nit b u e
    · exact nit c _ z
theorem Inv.tok (I : Inv X pins σ H s) (t : Nat) : Inv X pins σ H { s with toks := t } := I.un (h' := s.heap) (t' := t) Un.refl I.hok
/-- all objects kept -/
theorem Inv.kept {t' : Nat} (I : Inv X pins σ H s) (k : ∀ b u, s.heap.get? b = some u → h'.get? b = some u) : Inv X pins σ H { s with heap := h', toks := t' } := I.un (Un.kept k) (I.hok.kept k)
/-- a new object laid and tracked -/
theorem Inv.laid {a : Addr} {o : HO} {t' : Nat} (I : Inv X pins σ H s) (k : ∀ b u, s.heap.get? b = some u → h'.get? b = some u) (hp : s.heap.objs.size ≤ a) (new : ObjOk X.prog X.w (upd H a o) h' a o) :
    Inv X pins σ (upd H a o) { s with heap := h', toks := t' } := I.un (Un.laid k hp (I.hok.fresh hp)) (I.hok.laid k hp new)
/-- an object written -/
theorem Inv.write {x e : Addr} {o : HO} {t' : Nat} (I : Inv X pins σ H s) (mu : Mut (H x)) (he : e = x ∨ H e = some (.own x)) (k : ∀ b u, b ≠ e → s.heap.get? b = some u → h'.get? b = some u) (heo : ∃ u, h'.get? e = some u)
    (new : ObjOk X.prog X.w (upd H x o) h' x o) : Inv X pins σ (upd H x o) { s with heap := h', toks := t' } := I.un (Un.write mu he k heo) (I.hok.write mu he k heo new)
/-- forgetting slots, pins -/
theorem Inv.weak {σ' : List (Option V)} (I : Inv X pins σ H s) (hl : σ'.length = σ.length) (w : ∀ (i : Nat) v, σ'[i]? = some (some v) → σ[i]? = some (some v)) : Inv X pins σ' H s :=
  ⟨I.ok, I.os, I.bare, I.base, let ⟨m, hn, hl'⟩ := I.loc; ⟨m, hn, fun i x v e1 e2 e3 => hl' i x v e1 (w i v e2) e3⟩, I.cell, I.free, I.freeC, I.pin, I.hok, hl.trans I.len⟩
theorem Inv.pins_of {pins' : List (Addr × Obj)} (I : Inv X pins σ H s) (h : ∀ p ∈ pins', s.heap.get? p.1 = some p.2 ∧ H p.1 = none ∧ p.1 ≠ X.env.locals ∧ p.1 ∉ X.fs ∧ ∀ v, p.2.data ≠ .cell v) : Inv X pins' σ H s :=
  ⟨I.ok, I.os, I.bare, I.base, I.loc, I.cell, I.free, I.freeC, fun p hp => (List.mem_append.mp hp).elim (fun z => I.pin p (List.mem_append_left _ z)) (h p), I.hok, I.len⟩

theorem nodup_ix {N : List Str} (hN : N.Nodup) {i j : Nat} {x : Str} (a : N[i]? = some x) (b : N[j]? = some x) : i = j := by
  obtain ⟨h1, e1⟩ := List.getElem?_eq_some_iff.mp a
  obtain ⟨h2, e2⟩ := List.getElem?_eq_some_iff.mp b
  exact (List.getElem_inj hN).mp (e1.trans e2.symm)

/-- a name is stored; what changed -/
theorem store_ok2 {M : Model} {A : Around} {E : Value → Shared → Prop} {i : Nat} {x : Str} {v : V} {u : Value} {Q : Unit → Shared → Prop} (I : Inv X pins σ H s) (hN : X.N.Nodup) (hi : X.N[i]? = some x) (hx : Loc X.env.scope x) (r : RelV v u)
    (h : ∀ s', Inv X pins (σ.set i (some v)) H s' → (∃ a, Heap.SameBut a s.heap s'.heap ∧ (a = X.env.locals ∨ X.env.cells.lookup x = some a)) → Q () s') (hf : X.fn x = true ∨ X.env.scope.names.lookup x = some .local := by first | exact .inl rfl | exact .inr rfl | assumption) : wpAny M A (storeName X.env x u) Q E s := by
  obtain ⟨m, hn, hl⟩ := id I.loc
  have hcls : (X.env.scope.kind == .class || (X.env.scope.kind == .module && X.env.locals != X.env.globals)) = false := by rw [I.ok.kind]; rfl
  have hiσ : i < σ.length := by rw [I.len]; exact (List.getElem?_eq_some_iff.mp hi).1
  have cne := I.cne
  have tracked : ∀ {a : Addr} {h' : Heap}, (∃ o, s.heap.get? a = some o ∧ H a = none) → Heap.SameBut a s.heap h' → HOk X.prog X.w H h' := fun {a h'} ha hs b ob e => by
    obtain ⟨_, _, hfree⟩ := ha
    refine (I.hok b ob e).stay (fun c w' hc q => (hs.2 c ?_).trans q) (fun _ q => q) fun _ _ q => q
    rintro rfl
    rcases hc with rfl | hc
    · rw [hfree] at e; cases e
    · rw [hfree] at hc; cases hc
  rcases hx with hk | hk
  · refine wpAny_storeName_local hk hn (fun h' hn' hs => ?_) hcls
    obtain ⟨oL, _, _, hoL, _⟩ := id hn
    refine h _ ⟨I.ok, I.os, I.bare, ⟨fun b o e n hb hx => ?_, fun b o e n hb hx => ?_, I.base.free, fun b o e hx => ?_, I.base.tups, I.base.frzs, I.base.tbls⟩, ⟨_, hn', fun j y v' e1 e2 e3 => ?_⟩, fun y c e => ?_, I.free, I.freeC, fun p hp => ?_, tracked ⟨oL, hoL, I.free⟩ hs, by simpa using I.len⟩ ⟨_, hs, .inl rfl⟩
    · exact (hs.2 b (Nat.ne_of_lt (Nat.lt_of_lt_of_le (Heap.lt_size e) I.ok.above))).trans (I.base.keep b o e n hb hx)
    · obtain ⟨sl, e1⟩ := I.base.slot b o e n hb hx
      exact ⟨sl, (hs.2 b (Nat.ne_of_lt (Nat.lt_of_lt_of_le (Heap.lt_size e) I.ok.above))).trans e1⟩
    · obtain ⟨o', e1⟩ := I.base.there b o e hx
      exact ⟨o', (hs.2 b (Nat.ne_of_lt (Nat.lt_of_lt_of_le (Heap.lt_size e) I.ok.above))).trans e1⟩
    · by_cases hj : j = i
      · subst hj
        rw [hi] at e1; cases e1
        rw [List.getElem?_set_self hiσ] at e2
        cases e2
        exact ⟨u, r, .inl ⟨hk, by simp⟩⟩
      · rw [List.getElem?_set_ne (Ne.symm hj)] at e2
        obtain ⟨u', r', q⟩ := hl j y v' e1 e2 e3
        refine ⟨u', r', ?_⟩
        rcases q with ⟨k, e⟩ | ⟨k, c, e, z⟩
        · refine .inl ⟨k, ?_⟩
          have : y ≠ x := fun e => hj (nodup_ix hN e1 (e ▸ hi))
          simp [this, e]
        · exact .inr ⟨k, c, e, z.sameBut hs (cne y c e)⟩
    · obtain ⟨w', z⟩ := I.cell y c e
      exact ⟨w', z.sameBut hs (cne y c e)⟩
    · obtain ⟨e, n, ne, nf, d⟩ := I.pin p hp
      exact ⟨(hs.2 p.1 ne).trans e, n, ne, nf, d⟩
  · have hfn : X.fn x = true := by
      rcases hf with z | z
      · exact z
      · rw [z] at hk; cases hk
    obtain ⟨c, hc⟩ := I.ok.has x (.inl hk)
    obtain ⟨w', z⟩ := I.cell x c hc
    refine wpAny_storeName_cell I.ok.kind hk hc z (fun h' hc' hs => ?_)
    obtain ⟨oc, hoc, hocd⟩ := id z
    refine h { s with heap := h' } ⟨I.ok, I.os, I.bare, ⟨fun b o e n hb hx => ?_, fun b o e n hb hx => ?_, I.base.free, fun b o e hx => ?_, I.base.tups, I.base.frzs, I.base.tbls⟩, ⟨m, hn.sameBut hs (Ne.symm (cne x c hc)), fun j y v' e1 e2 e3 => ?_⟩, fun y c' e => ?_, I.free, I.freeC, fun p hp => ?_, tracked ⟨oc, hoc, I.freeC x c hc⟩ hs, by simpa using I.len⟩ ⟨c, hs, .inr hc⟩
    · exact (hs.2 b (Nat.ne_of_lt (Nat.lt_of_lt_of_le (Heap.lt_size e) (I.ok.cab x c hfn hc)))).trans (I.base.keep b o e n hb hx)
    · obtain ⟨sl, e1⟩ := I.base.slot b o e n hb hx
      exact ⟨sl, (hs.2 b (Nat.ne_of_lt (Nat.lt_of_lt_of_le (Heap.lt_size e) (I.ok.cab x c hfn hc)))).trans e1⟩
    · obtain ⟨o', e1⟩ := I.base.there b o e hx
      exact ⟨o', (hs.2 b (Nat.ne_of_lt (Nat.lt_of_lt_of_le (Heap.lt_size e) (I.ok.cab x c hfn hc)))).trans e1⟩
    · by_cases hj : j = i
      · subst hj
        rw [hi] at e1; cases e1
        rw [List.getElem?_set_self hiσ] at e2
        cases e2
        exact ⟨u, r, .inr ⟨.inl hk, c, hc, hc'⟩⟩
      · rw [List.getElem?_set_ne (Ne.symm hj)] at e2
        obtain ⟨u', r', q⟩ := hl j y v' e1 e2 e3
        refine ⟨u', r', ?_⟩
        rcases q with q | ⟨k, c', e, z'⟩
        · exact .inl q
        · refine .inr ⟨k, c', e, z'.sameBut hs ?_⟩
          rintro rfl
          exact hj (nodup_ix hN e1 (I.ok.inj _ _ _ e hc ▸ hi))
    · by_cases hcc : c' = c
      · subst hcc; exact ⟨_, hc'⟩
      · obtain ⟨w2, z2⟩ := I.cell y c' e
        exact ⟨w2, z2.sameBut hs hcc⟩
    · obtain ⟨e, n, ne, nf, d⟩ := I.pin p hp
      refine ⟨(hs.2 p.1 ?_).trans e, n, ne, nf, d⟩
      intro q
      rw [q, hoc] at e
      have q' : oc = p.2 := Option.some.inj e
      exact d w' (by rw [← q']; exact hocd)
theorem store_ok {M : Model} {A : Around} {E : Value → Shared → Prop} {i : Nat} {x : Str} {v : V} {u : Value} {Q : Unit → Shared → Prop} (I : Inv X pins σ H s) (hN : X.N.Nodup) (hi : X.N[i]? = some x) (hx : Loc X.env.scope x) (r : RelV v u)
    (h : ∀ s', Inv X pins (σ.set i (some v)) H s' → Q () s') (hf : X.fn x = true ∨ X.env.scope.names.lookup x = some .local := by first | exact .inl rfl | exact .inr rfl | assumption) : wpAny M A (storeName X.env x u) Q E s :=
  store_ok2 I hN hi hx r (fun s' I' _ => h s' I') hf
/-- behind a call or a block, the state as it is -/
theorem Inv.call' {s' : Shared} {ch : List Addr} (I : Inv X pins σ H s) (ho : s'.os = s.os) (u : Un (frs X.stack) ch H H' s.heap s'.heap) (hok : HOk X.prog X.w H' s'.heap) (hg : AllBare s'.gens)
    (hch : ∀ b ∈ ch, (b ∈ X.ex ∨ X.s₀.heap.objs.size ≤ b) ∧ b ≠ X.env.locals ∧ (∀ x c, X.env.cells.lookup x = some c → c ≠ b) ∧ ∀ p ∈ X.pn ++ pins, p.1 ≠ b) : Inv X pins σ H' s' := by
  obtain ⟨h', g', d', t', o'⟩ := s'
  have e : o' = s.os := ho
  subst e
  exact I.call (g' := g') (t' := t') (d' := d') u hok hg hch
end

/-! ### the judgements -/
/-- an exception: its class, its own dict's address (where it has one), the abstract heap behind it -/
abbrev XK := Value → Option Addr → Hp → Prop
abbrev St := List (Option V)
abbrev VK := V → Hp → Prop
/-- an expression's reading; a test's; an argument list's -/
abbrev TE := St → Hp → VK → Prop
abbrev TT := St → Hp → (Bool → Hp → Prop) → Prop
abbrev TA := St → Hp → (List V → Hp → Prop) → Prop
/-- what is wanted behind a statement -/
structure Ends where
  nx : St → Hp → Prop
  rt : VK
  bk : St → Hp → Prop := fun _ _ => False
  ct : St → Hp → Prop := fun _ _ => False
abbrev TS := Ends → St → Hp → Prop

def EP (X : Cx) (pins : List (Addr × Obj)) (σ : St) (Q : VK) (u : Value) (s' : Shared) : Prop := ∃ v H', Inv X pins σ H' s' ∧ RelV v u ∧ Q v H'
def TP (X : Cx) (pins : List (Addr × Obj)) (σ : St) (Q : Bool → Hp → Prop) (b : Bool) (s' : Shared) : Prop := ∃ H', Inv X pins σ H' s' ∧ Q b H'
def AP (X : Cx) (pins : List (Addr × Obj)) (σ : St) (Q : List V → Hp → Prop) (us : List Value) (s' : Shared) : Prop := ∃ vs H', Inv X pins σ H' s' ∧ Vals vs us ∧ Q vs H'
def SP (X : Cx) (pins : List (Addr × Obj)) (D : Ends) (f : Flow) (s' : Shared) : Prop :=
  match f with
  | .next => ∃ σ' H', Inv X pins σ' H' s' ∧ D.nx σ' H'
  | .brk => ∃ σ' H', Inv X pins σ' H' s' ∧ D.bk σ' H'
  | .cont => ∃ σ' H', Inv X pins σ' H' s' ∧ D.ct σ' H'
  | .ret u => ∃ v σ' H', Inv X pins σ' H' s' ∧ RelV v u ∧ D.rt v H'

def PE (X : Cx) (e : Expr) (t : TE) : Prop :=
  ∀ (pins : List (Addr × Obj)) (s : Shared) (σ : St) (H : Hp) (Q : VK), Inv X pins σ H s → t σ H Q → wpAny (model X.prog X.w) X.A (eval e X.env) (EP X pins σ Q) X.xe s
def PT (X : Cx) (e : Expr) (t : TT) : Prop :=
  ∀ (pins : List (Addr × Obj)) (s : Shared) (σ : St) (H : Hp) (Q : Bool → Hp → Prop), Inv X pins σ H s → t σ H Q → wpAny (model X.prog X.w) X.A (isTrue e X.env (eval e X.env)) (TP X pins σ Q) X.xe s
/-- a test whatever its 'whole' is (and, or) -/
def PW (X : Cx) (e : Expr) (t : TT) : Prop :=
  ∀ (whole : Sem Value) (pins : List (Addr × Obj)) (s : Shared) (σ : St) (H : Hp) (Q : Bool → Hp → Prop), Inv X pins σ H s → t σ H Q → wpAny (model X.prog X.w) X.A (isTrue e X.env whole) (TP X pins σ Q) X.xe s
theorem PW.pt {X : Cx} {e : Expr} {t : TT} (h : PW X e t) : PT X e t := h _
/-- an argument list (no star), from the left -/
def PA (X : Cx) (es : List Expr) (t : TA) : Prop :=
  ∀ (pos : Pos) (pins : List (Addr × Obj)) (s : Shared) (σ : St) (H : Hp) (Q : List V → Hp → Prop), Inv X pins σ H s → t σ H Q → wpAny (model X.prog X.w) X.A (spliced (backTo pos (starEach es X.env))) (AP X pins σ Q) X.xe s
def PS (X : Cx) (st : Stmt) (t : TS) : Prop :=
  ∀ (pins : List (Addr × Obj)) (s : Shared) (σ : St) (H : Hp) (D : Ends), Inv X pins σ H s → t D σ H → wpAny (model X.prog X.w) X.A (exec st X.env) (SP X pins D) X.xe s
def PSs (X : Cx) (st : List Stmt) (t : TS) : Prop :=
  ∀ (pins : List (Addr × Obj)) (s : Shared) (σ : St) (H : Hp) (D : Ends), Inv X pins σ H s → t D σ H → wpAny (model X.prog X.w) X.A (execs st X.env) (SP X pins D) X.xe s
/-- weaken the end -/
theorem thn {α : Type} {t : Sem α} {Q Q' : α → Shared → Prop} {M : Model} {A : Around} {E : Value → Shared → Prop} {s : Shared} (h : wpAny M A t Q E s) (hQ : ∀ a s, Q a s → Q' a s) : wpAny M A t Q' E s := wpAny_mono h hQ fun _ _ x => x
end L2

namespace L2
open PySem PySem.Spec PyProof.Rows
section
variable {X : Cx}

/-! ### names and constants -/
def tVar (i : Nat) : TE := fun σ H Q => ∃ v, σ[i]? = some (some v) ∧ Q v H
def tC (v : V) : TE := fun _ H Q => Q v H
theorem pe_var {i : Nat} {x : Str} {pos : Pos} (hN : X.N[i]? = some x) (hv : Vis X.env.scope x) (hd : (x == ("__debug__" : Str)) = false := by decide) (hcd : (x == ("__classdict__" : Str)) = false := by decide) : PE X (.Name x pos) (tVar i) := by
  intro pins s σ H Q I h
  obtain ⟨v, e, h⟩ := h
  obtain ⟨m, hn, hl⟩ := I.loc
  obtain ⟨u, r, l⟩ := hl i x v hN e hv
  have fin : EP X pins σ Q u s := ⟨v, H, I, r, h⟩
  rcases l with ⟨hk, hm⟩ | ⟨hk, c, hc, hcell⟩
  · exact wpAny_Name (wpAny_loadName_local I.ok.kind hk hn hm fin) hd
  · rcases hk with hk | hk
    · exact wpAny_Name (wpAny_loadName_cell I.ok.kind hk hc hcell fin) hd
    · exact wpAny_Name (wpAny_loadName_free I.ok.kind hk hc hcell fin hcd) hd
theorem pe_int {i j pos} : PE X (.Constant (.int i) j pos) (tC (.int i)) := fun _ _ _ H _ I h => wpAny_Constant_int ⟨.int i, H, I.tok _, ⟨_, rfl⟩, h⟩
theorem pe_bl {b j pos} : PE X (.Constant (.bool b) j pos) (tC (.bl b)) := fun _ _ _ H _ I h => Constant_bool ⟨.bl b, H, I, rfl, h⟩
theorem pe_str {x j pos} : PE X (.Constant (.str x) j pos) (tC (.str x)) := fun _ _ _ H _ I h => Calls.Constant_str ⟨.str x, H, I.tok _, ⟨_, rfl⟩, h⟩

/-- a global name of the def -/
def Gl (X : Cx) (x : Str) : Prop := X.env.kindOf x = some .globalImplicit
theorem ld_glob {E : Value → Shared → Prop} {pins : List (Addr × Obj)} {s : Shared} {σ : St} {H : Hp} {x : Str} {u : Value} {pos : Pos} {Q : Value → Shared → Prop} (I : Inv X pins σ H s) (hg : Gl X x) (hm : X.mg x = some u) (h : Q u s)
    (hd : (x == ("__debug__" : Str)) = false := by decide) : wpAny (model X.prog X.w) X.A (eval (.Name x pos) X.env) Q E s :=
  Calls.Name_function_global I.ok.kind hg (Calls.loadGlobal_global (by rw [I.ok.glob]; exact I.mod.glob.keeps I.bk) hm h) hd
theorem ld_blt {E : Value → Shared → Prop} {pins : List (Addr × Obj)} {s : Shared} {σ : St} {H : Hp} {x : Str} {u : Value} {pos : Pos} {Q : Value → Shared → Prop} (I : Inv X pins σ H s) (hg : Gl X x) (hm : X.mg x = none) (hv : bootBuiltins x = some u) (h : Q u s)
    (hn : x ≠ "__name__" := by decide) (hd : (x == ("__debug__" : Str)) = false := by decide) : wpAny (model X.prog X.w) X.A (eval (.Name x pos) X.env) Q E s := by
  obtain ⟨mb, h1, h2⟩ := I.mod.blt
  exact Calls.Name_function_global I.ok.kind hg (Calls.loadGlobal_builtin (by rw [I.ok.glob]; exact I.mod.glob.keeps I.bk) hm (by rw [I.ok.blt]; exact h1.keeps I.bk) ((h2 x hn).trans hv) h) hd
/-- a module's constant, a class, a function, as a value -/
theorem pe_glob {x : Str} {v : V} {u : Value} {pos : Pos} (hg : Gl X x) (hm : X.mg x = some u) (r : RelV v u) (hd : (x == ("__debug__" : Str)) = false := by decide) : PE X (.Name x pos) (tC v) :=
  fun _ _ _ H _ I h => ld_glob I hg hm ⟨v, H, I, r, h⟩ hd
theorem pe_bltn {x : Str} {v : V} {u : Value} {pos : Pos} (hg : Gl X x) (hm : X.mg x = none) (hv : bootBuiltins x = some u) (r : RelV v u) (hn : x ≠ "__name__" := by decide) (hd : (x == ("__debug__" : Str)) = false := by decide) : PE X (.Name x pos) (tC v) :=
  fun _ _ _ H _ I h => ld_blt I hg hm hv ⟨v, H, I, r, h⟩ hn hd

/-! ### arithmetic -/
variable {a b : Expr} {ta tb : TE} {pos : Pos}
/-! ### comparisons -/
/-- a comparison as a value, as a test -/
def tB (t : TE) : TT := fun σ H Q => t σ H fun x H1 => ∃ c, x = .bl c ∧ Q c H1
/-- an expression whose value is a bool, as a test -/
theorem pt_val {e : Expr} {t : TE} (h : PE X e t) (he : ∀ whole, isTrue e X.env whole = (do let v ← whole; standAt e.pos; holding [v] (truthy v)) := by intro _; rfl) : PT X e (tB t) := by
  intro pins s σ H Q I hw
  refine isTrue_plain (thn (h pins s σ H _ I hw) fun v s1 ⟨x, H1, I1, r1, q1⟩ => ?_) (he _)
  obtain ⟨d, rfl, q⟩ := q1
  cases r1
  exact wpAny_truthy_bool ⟨H1, I1, q⟩

/-! ### and, or, not -/
variable {tA tB' : TT} {rest : List Expr}
def tAnd (t u : TT) : TT := fun σ H Q => t σ H fun c H1 => if c = true then u σ H1 Q else Q false H1
def tOr (t u : TT) : TT := fun σ H Q => t σ H fun c H1 => if c = true then Q true H1 else u σ H1 Q
def tNot (t : TT) : TT := fun σ H Q => t σ H fun c H1 => Q (!c) H1
theorem pw_and1 (ha : PT X a tA) : PW X (.BoolOp .And [a] pos) tA := by
  intro wh pins s σ H Q I h
  refine isTrue_and (thn (ha pins s σ H Q I h) fun c s1 e => ?_)
  cases c with
  | true => exact isTrue_and_nil e
  | false => exact e
theorem pw_or1 (ha : PT X a tA) : PW X (.BoolOp .Or [a] pos) tA := by
  intro wh pins s σ H Q I h
  refine isTrue_or (thn (ha pins s σ H Q I h) fun c s1 e => ?_)
  cases c with
  | false => exact isTrue_or_nil e
  | true => exact e
theorem pw_and (ha : PT X a tA) (hb : PW X (.BoolOp .And (b :: rest) pos) tB') : PW X (.BoolOp .And (a :: b :: rest) pos) (tAnd tA tB') := by
  intro wh pins s σ H Q I h
  refine isTrue_and (thn (ha pins s σ H _ I h) fun c s1 ⟨H1, I1, q1⟩ => ?_)
  cases c with
  | true => exact hb wh pins s1 σ H1 Q I1 q1
  | false => exact ⟨H1, I1, q1⟩
theorem pw_or (ha : PT X a tA) (hb : PW X (.BoolOp .Or (b :: rest) pos) tB') : PW X (.BoolOp .Or (a :: b :: rest) pos) (tOr tA tB') := by
  intro wh pins s σ H Q I h
  refine isTrue_or (thn (ha pins s σ H _ I h) fun c s1 ⟨H1, I1, q1⟩ => ?_)
  cases c with
  | true => exact ⟨H1, I1, q1⟩
  | false => exact hb wh pins s1 σ H1 Q I1 q1
theorem pt_not (ha : PT X a tA) : PT X (.UnaryOp .Not a pos) (tNot tA) := by
  intro pins s σ H Q I h
  exact isTrue_not (ha pins s σ H (fun c H1 => Q (!c) H1) I h)
/-- .. as values (bools) -/
def tAndV (ta tb : TE) : TE := fun σ H Q => ta σ H fun x H1 => ∃ c, x = .bl c ∧ if c = true then tb σ H1 Q else Q (.bl false) H1
def tNotV (ta : TE) : TE := fun σ H Q => ta σ H fun x H1 => ∃ c, x = .bl c ∧ Q (.bl (!c)) H1
theorem pe_one {op} {t : TE} (h : PE X a t) : PE X (.BoolOp op [a] pos) t := fun pins s σ H Q I hw => BoolOp_one (h pins s σ H Q I hw)
theorem pe_and (ha : PE X a ta) (hb : PE X (.BoolOp .And (b :: rest) pos) tb) : PE X (.BoolOp .And (a :: b :: rest) pos) (tAndV ta tb) := by
  intro pins s σ H Q I h
  refine BoolOp_and (thn (ha pins s σ H _ I h) fun v s1 ⟨x, H1, I1, r1, q1⟩ => ?_)
  obtain ⟨c, rfl, q1⟩ := q1
  cases r1
  refine wpAny_truthy_bool ?_
  cases c with
  | true => exact hb pins s1 σ H1 Q I1 q1
  | false => exact ⟨.bl false, H1, I1, rfl, q1⟩
theorem pe_not (ha : PE X a ta) : PE X (.UnaryOp .Not a pos) (tNotV ta) := by
  intro pins s σ H Q I h
  refine UnaryOp_ (thn (ha pins s σ H _ I h) fun v s1 ⟨x, H1, I1, r1, q1⟩ => ?_)
  obtain ⟨c, rfl, q1⟩ := q1
  cases r1
  exact not_of (wpAny_truthy_bool ⟨.bl (!c), H1, I1, rfl, q1⟩)
end
end L2

namespace L2
open PySem PySem.Spec PyProof.Rows

/-! ### a list, a tuple that is read: tracked, frozen, or an object of the module -/
def SqL (K : PySem.W.Frag) (H : Hp) (a : Addr) (xs : List V) : Prop :=
  Rd H a (.lst xs) ∨
    ∃ (o : Obj) (its : Array Value) (n : Nat), K.lookup a = some o ∧ o.cls = .type "list" ∧ o.dict = none ∧ o.data = .seq its n ∧ its.size ≤ sizeLine ∧ Vals xs its.toList
def SqT (K : PySem.W.Frag) (H : Hp) (a : Addr) (xs : List V) : Prop :=
  Rd H a (.tup xs) ∨
    ∃ (o : Obj) (its : Array Value) (n : Nat), K.lookup a = some o ∧ o.cls = .type "tuple" ∧ o.data = .seq its n ∧ its.size ≤ sizeLine ∧ Vals xs its.toList
def absV : Value → Option V
  | .none => some .non
  | .bool b => some (.bl b)
  | .int i _ => some (.int i)
  | .str x _ => some (.str x)
  | .bytes b _ => some (.byt b)
  | .float b _ => some (.flt b)
  | .ref a => some (.ref a)
  | .type n => some (.ty n)
  | _ => none
theorem RelV.abs {x : V} {u : Value} (r : RelV x u) : absV u = some x := by
  cases x with
  | non => cases r; rfl
  | bl _ => cases r; rfl
  | int _ => obtain ⟨t, rfl⟩ := r; rfl
  | str _ => obtain ⟨t, rfl⟩ := r; rfl
  | byt _ => obtain ⟨t, rfl⟩ := r; rfl
  | flt _ => obtain ⟨t, rfl⟩ := r; rfl
  | ref _ => cases r; rfl
  | ty _ => cases r; rfl
theorem RelV.inj {x y : V} {u : Value} (r : RelV x u) (q : RelV y u) : x = y := Option.some.inj (r.abs.symm.trans q.abs)
theorem Vals.inj : ∀ {xs ys : List V} {us : List Value}, Vals xs us → Vals ys us → xs = ys
  | _, _, _, .nil, .nil => rfl
  | _, _, _, .cons r t, .cons r' t' => by rw [r.inj r', Vals.inj t t']
section
variable {X : Cx} {pins : List (Addr × Obj)} {σ : St} {H : Hp} {s : Shared} {a : Addr} {xs ys : List V}
theorem SqL.of {K : PySem.W.Frag} (h : H a = some (.lst xs)) : SqL K H a xs := .inl (.inl h)
theorem SqT.of {K : PySem.W.Frag} (h : H a = some (.tup xs)) : SqT K H a xs := .inl (.inl h)
theorem Inv.list (I : Inv X pins σ H s) (h : SqL X.K H a xs) : ∃ its : List Value, Vals xs its ∧ PlainL s.heap a its.toArray ∧ xs.length ≤ sizeLine := by
  rcases h with h | ⟨o, its, n, hk, hc, hd, hs, hz, r⟩
  · obtain ⟨z, its, n, r, e⟩ := h.ok I.hok
    exact ⟨its, r, ⟨_, n, e, rfl, rfl, rfl⟩, z⟩
  · refine ⟨its.toList, r, ⟨o, n, I.kIn a o hk, hc, hd, by simpa using hs⟩, ?_⟩
    have e := r.length
    simp only [Array.length_toList] at e
    omega
theorem Inv.tuple (I : Inv X pins σ H s) (h : SqT X.K H a xs) : ∃ its : List Value, Vals xs its ∧ IsTup s.heap a its.toArray ∧ xs.length ≤ sizeLine := by
  rcases h with h | ⟨o, its, n, hk, hc, hs, hz, r⟩
  · obtain ⟨z, its, r, p⟩ := h.ok I.hok
    exact ⟨its, r, p, z⟩
  · refine ⟨its.toList, r, ⟨o, I.kIn a o hk, hc, n, by simpa using hs⟩, ?_⟩
    have e := r.length
    simp only [Array.length_toList] at e
    omega
theorem Inv.list_inj (I : Inv X pins σ H s) (h : SqL X.K H a xs) (h' : SqL X.K H a ys) : xs = ys := by
  obtain ⟨its, r, ⟨o, n, e, _, _, d⟩, _⟩ := I.list h
  obtain ⟨its', r', ⟨o', n', e', _, _, d'⟩, _⟩ := I.list h'
  rw [e] at e'; cases e'
  rw [d] at d'
  injection d' with d1 _
  have : its = its' := by simpa using congrArg Array.toList d1
  subst this
  exact r.inj r'
theorem Inv.tuple_inj (I : Inv X pins σ H s) (h : SqT X.K H a xs) (h' : SqT X.K H a ys) : xs = ys := by
  obtain ⟨its, r, ⟨o, e, _, n, d⟩, _⟩ := I.tuple h
  obtain ⟨its', r', ⟨o', e', _, n', d'⟩, _⟩ := I.tuple h'
  rw [e] at e'; cases e'
  rw [d] at d'
  injection d' with d1 _
  have : its = its' := by simpa using congrArg Array.toList d1
  subst this
  exact r.inj r'
end

/-! ### another wish about exceptions -/
abbrev Cx.wish (X : Cx) (E : Value → Shared → Prop) : Cx := { X with xe := E }
/-- no exception leaves -/
abbrev Cx.nox (X : Cx) : Cx := X.wish fun _ _ => False
theorem Cx.Ok.wish {X : Cx} (ok : X.Ok) (E : Value → Shared → Prop) : (X.wish E).Ok :=
  ⟨ok.mod, ok.kind, ok.glob, ok.blt, ok.above, ok.inj, ok.has, ok.cab, ok.hd, ok.frames, ok.stk, ok.exf, ok.bs, ok.bsz, ok.noex, ok.exfs, ok.funs, ok.frf⟩
theorem Cx.Ok.unwish {X : Cx} {E : Value → Shared → Prop} (ok : (X.wish E).Ok) : X.Ok :=
  ⟨ok.mod, ok.kind, ok.glob, ok.blt, ok.above, ok.inj, ok.has, ok.cab, ok.hd, ok.frames, ok.stk, ok.exf, ok.bs, ok.bsz, ok.noex, ok.exfs, ok.funs, ok.frf⟩
section
variable {X : Cx} {pins : List (Addr × Obj)} {σ : St} {H : Hp} {s : Shared} {E : Value → Shared → Prop}
theorem Inv.wish (I : Inv X pins σ H s) (E : Value → Shared → Prop) : Inv (X.wish E) pins σ H s := ⟨I.ok.wish E, I.os, I.bare, I.base, I.loc, I.cell, I.free, I.freeC, I.pin, I.hok, I.len⟩
theorem Inv.unwish (I : Inv (X.wish E) pins σ H s) : Inv X pins σ H s := ⟨I.ok.unwish, I.os, I.bare, I.base, I.loc, I.cell, I.free, I.freeC, I.pin, I.hok, I.len⟩
theorem SP.unwish {D : Ends} {f : Flow} {s' : Shared} (h : SP (X.wish E) pins D f s') : SP X pins D f s' := by
  cases f with
  | next => obtain ⟨σ', H', I, q⟩ := h; exact ⟨σ', H', I.unwish, q⟩
  | brk => obtain ⟨σ', H', I, q⟩ := h; exact ⟨σ', H', I.unwish, q⟩
  | cont => obtain ⟨σ', H', I, q⟩ := h; exact ⟨σ', H', I.unwish, q⟩
  | ret u => obtain ⟨v, σ', H', I, r, q⟩ := h; exact ⟨v, σ', H', I.unwish, r, q⟩
theorem PE.nox {e : Expr} {t : TE} (h : PE X.nox e t) : PE X e t := fun pins s σ H Q I hw =>
  wpAny_mono (h pins s σ H Q (I.wish _) hw) (fun _ _ ⟨v, H', I', r, q⟩ => ⟨v, H', I'.unwish, r, q⟩) fun _ _ z => False.elim z
theorem PT.nox {e : Expr} {t : TT} (h : PT X.nox e t) : PT X e t := fun pins s σ H Q I hw =>
  wpAny_mono (h pins s σ H Q (I.wish _) hw) (fun _ _ ⟨H', I', q⟩ => ⟨H', I'.unwish, q⟩) fun _ _ z => False.elim z
theorem PSs.nox {st : List Stmt} {t : TS} (h : PSs X.nox st t) : PSs X st t := fun pins s σ H D I hw =>
  wpAny_mono (h pins s σ H D (I.wish _) hw) (fun _ _ q => q.unwish) fun _ _ z => False.elim z
end

/-! ### blocks and small statements -/
section
variable {X : Cx} {st : Stmt} {rest : List Stmt} {t u : TS} {e : Expr} {te : TE} {pos : Pos}
def tNext : TS := fun D σ H => D.nx σ H
def tSeq (t u : TS) : TS := fun D σ H => t { D with nx := u D } σ H
theorem pss_nil : PSs X [] tNext := fun _ _ σ H _ I h => wpAny_execs_nil ⟨σ, H, I, h⟩
theorem pss_cons (h1 : PS X st t) (h2 : PSs X rest u) : PSs X (st :: rest) (tSeq t u) := by
  intro pins s σ H D I h
  refine wpAny_execs_cons (thn (h1 pins s σ H { D with nx := u D } I h) fun f s1 q => ?_)
  cases f with
  | next =>
    obtain ⟨σ', H', I', q⟩ := q
    exact h2 pins s1 σ' H' D I' q
  | ret v => exact q
  | brk => exact q
  | cont => exact q
theorem pss_one (h1 : PS X st t) : PSs X [st] t := by
  intro pins s σ H D I h
  refine wpAny_execs_cons (thn (h1 pins s σ H D I h) fun f s1 q => ?_)
  cases f with
  | next => exact wpAny_execs_nil q
  | ret v => exact q
  | brk => exact q
  | cont => exact q
/-- in a def's body nothing is shown -/
theorem Inv.quiet {pins : List (Addr × Obj)} {σ : St} {H : Hp} {s : Shared} (I : Inv X pins σ H s) : interactive X.env = false := by simp [interactive, I.ok.kind]
/-- an expression whose value is dropped -/
def tDrop (te : TE) : TS := fun D σ H => te σ H fun _ H1 => D.nx σ H1
theorem ps_expr (he : PE X e te) (hs : swapsWith e none pos.line X.env = pure false := by rfl) : PS X (.Expr e pos) (tDrop te) := by
  intro pins s σ H D I h
  exact wpAny_Expr_any (thn (he pins s σ H _ I h) fun v s1 ⟨x, H1, I1, r1, q1⟩ => ⟨σ, H1, I1, q1⟩) I.quiet hs
def tRet (te : TE) : TS := fun D σ H => te σ H D.rt
theorem ps_ret (he : PE X e te) : PS X (.Return (some e) pos) (tRet te) := by
  intro pins s σ H D I h
  exact wpAny_Return_some (thn (he pins s σ H _ I h) fun v s1 ⟨x, H1, I1, r1, q1⟩ => ⟨x, σ, H1, I1, r1, q1⟩)
def tIfS (c : TT) (t u : TS) : TS := fun D σ H => c σ H fun b H1 => if b = true then t D σ H1 else u D σ H1
theorem ps_if {c : Expr} {a b : List Stmt} {tc : TT} (hc : PT X c tc) (ha : PSs X a t) (hb : PSs X b u) : PS X (.If c a b pos) (tIfS tc t u) := by
  intro pins s σ H D I h
  refine wpAny_If (thn (hc pins s σ H _ I h) fun d s1 ⟨H1, I1, q1⟩ => ?_)
  cases d with
  | true => exact ha pins s1 σ H1 D I1 q1
  | false => exact hb pins s1 σ H1 D I1 q1
end

/-! ### targets -/
abbrev TG := V → St → Hp → (St → Hp → Prop) → Prop
abbrev TGs := List V → St → Hp → (St → Hp → Prop) → Prop
def PG (X : Cx) (target : Expr) (t : TG) : Prop :=
  ∀ (pins : List (Addr × Obj)) (s : Shared) (σ : St) (H : Hp) (v : V) (u : Value) (Q : St → Hp → Prop), Inv X pins σ H s → RelV v u → t v σ H Q →
    wpAny (model X.prog X.w) X.A (assign target X.env u) (fun _ s' => ∃ σ' H', Inv X pins σ' H' s' ∧ Q σ' H') X.xe s
/-- several targets, one after another -/
def PGs (X : Cx) (ts : List Expr) (t : TGs) : Prop :=
  ∀ (pins : List (Addr × Obj)) (s : Shared) (σ : St) (H : Hp) (vs : List V) (us : List Value) (Q : St → Hp → Prop), Inv X pins σ H s → Vals vs us → t vs σ H Q →
    wpAny (model X.prog X.w) X.A (assignInOrder ((assignEach ts X.env).map (·.2)) us) (fun _ s' => ∃ σ' H', Inv X pins σ' H' s' ∧ Q σ' H') X.xe s
section
variable {X : Cx} {pos : Pos}
def gName (i : Nat) : TG := fun v σ H Q => Q (σ.set i (some v)) H
theorem pg_name {i : Nat} {x : Str} (hN : X.N.Nodup) (hi : X.N[i]? = some x) (hx : Loc X.env.scope x) (hf : X.fn x = true ∨ X.env.scope.names.lookup x = some .local := by first | exact .inl rfl | exact .inr rfl | assumption) : PG X (.Name x pos) (gName i) := by
  intro pins s σ H v u Q I r h
  exact wpAny_assign_Name (store_ok I hN hi hx r (fun s' I' => ⟨_, H, I', h⟩) hf)
/-- target = value -/
def tAsg (te : TE) (g : TG) : TS := fun D σ H => te σ H fun x H1 => g x σ H1 D.nx
/-- name = value -/
theorem ps_set {i : Nat} {x : Str} {e : Expr} {te : TE} {pos' : Pos} (hN : X.N.Nodup) (hi : X.N[i]? = some x) (hx : Loc X.env.scope x) (he : PE X e te) (hs : swapsWith e (some (.Name x pos')) pos.line X.env = pure false := by rfl) (hf : X.fn x = true ∨ X.env.scope.names.lookup x = some .local := by first | exact .inl rfl | exact .inr rfl | assumption) :
    PS X (.Assign [.Name x pos'] e pos) (tAsg te (gName i)) := by
  intro pins s σ H D I h
  refine wpAny_Assign_Name (thn (he pins s σ H _ I h) fun v s1 ⟨y, H1, I1, r1, q1⟩ => ?_) hs
  exact store_ok I1 hN hi hx r1 (fun s2 I2 => ⟨_, H1, I2, q1⟩) hf
end

/-! ### while -/
section
variable {X : Cx} {pos : Pos}
end

/-! ### what a loop or a comprehension walks -/
/-- at turn i: it yields x (the heap may grow), or it stops -/
structure It where
  go : Nat → Hp → Prop
  yld : Nat → Hp → V → Hp → Prop
  stop : Nat → Hp → Prop
/-- the iterator's own objects may turn: they are not the frame's, not pinned, younger than the entry (or a comprehension's own) -/
def FpOk (X : Cx) (pins : List (Addr × Obj)) (H : Hp) (b : Addr) : Prop :=
  H b = none ∧ b ≠ X.env.locals ∧ b ∉ X.fs ∧ (b ∈ X.ex ∨ X.s₀.heap.objs.size ≤ b) ∧ (∀ x c, X.env.cells.lookup x = some c → c ≠ b) ∧ ∀ p ∈ X.pn ++ pins, p.1 ≠ b
theorem Inv.fpOk {X : Cx} {pins : List (Addr × Obj)} {σ : St} {H H' : Hp} {s : Shared} {b : Addr} (I : Inv X pins σ H s) (hb : s.heap.objs.size ≤ b) (hn : H' b = none) : FpOk X pins H' b := by
  refine ⟨hn, Nat.ne_of_gt (Nat.lt_of_lt_of_le I.lt hb), I.nofs hb, .inr (Nat.le_trans I.sz hb), fun x c e z => ?_, fun p hp z => ?_⟩
  · obtain ⟨v, q⟩ := I.cell x c e
    exact absurd (Nat.lt_of_lt_of_le q.lt (by rw [z]; exact hb)) (Nat.lt_irrefl _)
  · exact absurd (Nat.lt_of_lt_of_le (Heap.lt_size (I.pin p hp).1) (by rw [z]; exact hb)) (Nat.lt_irrefl _)
structure Turn (P : Program) (w : World) (K : PySem.W.Frag) (tg : Expr) (J : It) (fp : List Addr) (it : Addr) (tn : Nat → Heap → Prop) : Prop where
  mem : it ∈ fp
  obj : ∀ i h, tn i h → ∀ b ∈ fp, ∃ o, h.get? b = some o ∧ ∀ v, o.data ≠ .cell v
  keep : ∀ i h h', tn i h → (∀ b ∈ fp, ∀ o, h.get? b = some o → h'.get? b = some o) → tn i h'
  item : ∀ (X : Cx), X.prog = P → X.w = w → X.K = K → X.calm = true → ∀ (i : Nat) (pins : List (Addr × Obj)) (s : Shared) (σ : St) (H : Hp) (E : Value → Shared → Prop), Inv X pins σ H s → (∀ b ∈ fp, FpOk X pins H b) → tn i s.heap → J.go i H →
    wpAny (model P w) X.A (pyNext (.ref it)) (fun r s1 => ∃ u, r = some u ∧
      wpAny (model P w) X.A (letOwnedTupleGo tg (.ref it) u) (fun _ s2 => ∃ x H', Inv X pins σ H' s2 ∧ RelV x u ∧ J.yld i H x H' ∧ tn (i + 1) s2.heap ∧ ∀ b ∈ fp, H' b = none) E s1) E s
  done : ∀ (X : Cx), X.prog = P → X.w = w → X.K = K → X.calm = true → ∀ (i : Nat) (pins : List (Addr × Obj)) (s : Shared) (σ : St) (H : Hp) (E : Value → Shared → Prop), Inv X pins σ H s → (∀ b ∈ fp, FpOk X pins H b) → tn i s.heap → J.stop i H →
    wpAny (model P w) X.A (pyNext (.ref it)) (fun r s1 => r = none ∧ Inv X pins σ H s1) E s
  self : ∀ (A : Around) (i : Nat) (s : Shared) (Q : Value → Shared → Prop) (E : Value → Shared → Prop), tn i s.heap → Q (.ref it) s → wpAny (model P w) A (pyIter (.ref it)) Q E s
abbrev TI := St → Hp → (It → Hp → Prop) → Prop
/-- an iterator has come -/
def PIE (X : Cx) (pins : List (Addr × Obj)) (σ : St) (tg : Expr) (R : It → Hp → Prop) (itv : Value) (s2 : Shared) : Prop :=
  ∃ (it : Addr) (fp : List Addr) (tn : Nat → Heap → Prop) (J : It) (H' : Hp), itv = .ref it ∧ Inv X pins σ H' s2 ∧ Turn X.prog X.w X.K tg J fp it tn ∧ tn 0 s2.heap ∧ (∀ b ∈ fp, FpOk X pins H' b) ∧ R J H'
def PI (X : Cx) (tg iter : Expr) (wi : TI) : Prop :=
  ∀ (pins : List (Addr × Obj)) (s : Shared) (σ : St) (H : Hp) (R : It → Hp → Prop), Inv X pins σ H s → wi σ H R →
    wpAny (model X.prog X.w) X.A (eval iter X.env) (fun v s1 => wpAny (model X.prog X.w) X.A (pyIter v) (PIE X pins σ tg R) X.xe s1) X.xe s

/-- the step ahead of the store is nothing for an iterator that keeps no tuple -/
theorem go_of {M : Model} {A : Around} {E : Value → Shared → Prop} {s : Shared} {tg : Expr} {it : Addr} {u : Value} {o : Obj} {n : String} {vs : Array Value} {Q : Unit → Shared → Prop} (ho : s.heap.get? it = some o) (hc : o.cls = .type n) (hd : o.data = .fields vs)
    (hn : ["enumerate", "zip", "dict_itemiterator", "dict_reverseitemiterator", "odict_iterator", "itertools.zip_longest", "itertools.pairwise"].contains n = false) (hQ : Q () s) : wpAny M A (letOwnedTupleGo tg (.ref it) u) Q E s := by
  unfold letOwnedTupleGo
  cases tg <;> first
    | exact wpAny_pure hQ
    | (cases u <;> first
        | exact wpAny_pure hQ
        | (refine wpAny_bind (wpAny_load ho ?_)
           rw [hc, hd]
           show wpAny M A (if (["enumerate", "zip", "dict_itemiterator", "dict_reverseitemiterator", "odict_iterator", "itertools.zip_longest", "itertools.pairwise"].contains n && vs[0]? == some (rawInt _)) = true then _ else _) Q E s
           rw [if_neg (by intro h; rw [hn, Bool.false_and] at h; cases h)]
           exact wpAny_pure hQ))

/-- the list at a, as it stands at each turn (a loop may append to it) -/
def Itl (K : PySem.W.Frag) (a : Addr) : It :=
  ⟨fun i H => ∃ xs x, SqL K H a xs ∧ xs[i]? = some x, fun i H x H' => H' = H ∧ ∀ xs, SqL K H a xs → xs[i]? = some x, fun i H => ∃ xs, SqL K H a xs ∧ xs.length ≤ i⟩
def Itt (K : PySem.W.Frag) (a : Addr) : It :=
  ⟨fun i H => ∃ xs x, SqT K H a xs ∧ xs[i]? = some x, fun i H x H' => H' = H ∧ ∀ xs, SqT K H a xs → xs[i]? = some x, fun i H => ∃ xs, SqT K H a xs ∧ xs.length ≤ i⟩
/-- lo, lo + 1, .. (n of them) -/
def Itr (lo : Int) (n : Nat) : It := ⟨fun i _ => i < n, fun i H x H' => H' = H ∧ x = .int (lo + i), fun i _ => n ≤ i⟩
theorem turn_list {P : Program} {w : World} {K : PySem.W.Frag} {tg : Expr} (a it : Addr) : Turn P w K tg (Itl K a) [it] it (fun i h => h.IsListIter it a i) where
  mem := by simp
  obj := fun i h st b hb => by
    have e : b = it := by simpa using hb
    subst e
    obtain ⟨o, e, c, d⟩ := st
    exact ⟨o, e, fun v z => by rw [d] at z; cases z⟩
  keep := fun i h h' st k => st.at fun o e => k it (by simp) o e
  item := by
    intro X hP hw hK hc i pins s σ H E I hf st hg
    subst hP hw hK
    obtain ⟨xs, x, hq, hx⟩ := hg
    obtain ⟨its, rv, p, hz⟩ := I.list hq
    obtain ⟨u, hu, ru⟩ := rv.get hx
    obtain ⟨f0, f1, f2, f3, f4, f5⟩ := hf it (by simp)
    refine wpAny_pyNext_list_item st p.isList (x := u) (by simpa using hu) fun h' st' sb => ?_
    have I1 : Inv X pins σ H { s with heap := h' } := I.turned (t' := s.toks) (fun b o hb e => (sb.2 b hb).trans e) f0 f1 f3 f4 f5
    obtain ⟨o, e, c, d⟩ := id st'
    exact ⟨u, rfl, go_of (s := { s with heap := h' }) e c d (by decide) ⟨x, H, I1, ru, ⟨rfl, fun ys hy => by rw [I.list_inj hy hq]; exact hx⟩, st', fun b hb => (hf b hb).1⟩⟩
  done := by
    intro X hP hw hK hc i pins s σ H E I hf st hg
    subst hP hw hK
    obtain ⟨xs, hq, hx⟩ := hg
    obtain ⟨its, rv, p, hz⟩ := I.list hq
    obtain ⟨f0, f1, f2, f3, f4, f5⟩ := hf it (by simp)
    have hl := rv.length
    exact wpAny_pyNext_list_end (I.ok.hd hc) st p.isList (by simp; omega) fun h' eb => ⟨rfl, I.turned (t' := s.toks) (fun b o hb e => eb b o hb e) f0 f1 f3 f4 f5⟩
  self := fun _ _ _ _ _ st h => wpAny_pyIter_listiter st h
theorem turn_tuple {P : Program} {w : World} {K : PySem.W.Frag} {tg : Expr} (a it : Addr) : Turn P w K tg (Itt K a) [it] it (fun i h => h.IsTupleIter it a i) where
  mem := by simp
  obj := fun i h st b hb => by
    have e : b = it := by simpa using hb
    subst e
    obtain ⟨o, e, c, d⟩ := st
    exact ⟨o, e, fun v z => by rw [d] at z; cases z⟩
  keep := fun i h h' st k => st.at fun o e => k it (by simp) o e
  item := by
    intro X hP hw hK hc i pins s σ H E I hf st hg
    subst hP hw hK
    obtain ⟨xs, x, hq, hx⟩ := hg
    obtain ⟨its, rv, p, hz⟩ := I.tuple hq
    obtain ⟨u, hu, ru⟩ := rv.get hx
    obtain ⟨f0, f1, f2, f3, f4, f5⟩ := hf it (by simp)
    refine wpAny_pyNext_tuple_item st (show s.heap.IsTuple a its.toArray from p) (x := u) (by simpa using hu) fun h' st' sb => ?_
    have I1 : Inv X pins σ H { s with heap := h' } := I.turned (t' := s.toks) (fun b o hb e => (sb.2 b hb).trans e) f0 f1 f3 f4 f5
    obtain ⟨o, e, c, d⟩ := id st'
    exact ⟨u, rfl, go_of (s := { s with heap := h' }) e c d (by decide) ⟨x, H, I1, ru, ⟨rfl, fun ys hy => by rw [I.tuple_inj hy hq]; exact hx⟩, st', fun b hb => (hf b hb).1⟩⟩
  done := by
    intro X hP hw hK hc i pins s σ H E I hf st hg
    subst hP hw hK
    obtain ⟨xs, hq, hx⟩ := hg
    obtain ⟨its, rv, p, hz⟩ := I.tuple hq
    obtain ⟨f0, f1, f2, f3, f4, f5⟩ := hf it (by simp)
    have hl := rv.length
    exact wpAny_pyNext_tuple_end (I.ok.hd hc) st (show s.heap.IsTuple a its.toArray from p) (by simp; omega) fun h' eb => ⟨rfl, I.turned (t' := s.toks) (fun b o hb e => eb b o hb e) f0 f1 f3 f4 f5⟩
  self := fun _ _ _ _ _ st h => wpAny_pyIter_tupleiter st h
theorem turn_range {P : Program} {w : World} {K : PySem.W.Frag} {tg : Expr} (it : Addr) (lo : Int) (n : Nat) : Turn P w K tg (Itr lo n) [it] it (fun i h => IsRangeIter h it (lo + (i : Nat) * 1) ((n : Int) - (i : Nat)) 1) where
  mem := by simp
  obj := fun i h st b hb => by
    have e : b = it := by simpa using hb
    subst e
    exact ⟨_, st, fun v z => by
      have z' : Data.fields _ = Data.cell v := z
      cases z'⟩
  keep := fun i h h' st k => k it (by simp) _ st
  item := by
    intro X hP hw hK hc i pins s σ H E I hf st hg
    subst hP hw hK
    obtain ⟨f0, f1, f2, f3, f4, f5⟩ := hf it (by simp)
    have W := Walks.range (prog := X.prog) (w := X.w) (I.ok.hd hc) it lo 1 n
    refine W.item i s _ _ hg st fun v h' tk hv st' kk => ?_
    obtain ⟨t, rfl⟩ := hv
    have I1 : Inv X pins σ H { s with heap := h', toks := tk } := I.turned (fun b o hb e => kk b o (by simpa using hb) e) f0 f1 f3 f4 f5
    refine ⟨_, rfl, go_of (s := { s with heap := h', toks := tk }) (n := "range_iterator") st' rfl rfl (by decide) ⟨.int (lo + i), H, I1, ⟨t, ?_⟩, ⟨rfl, rfl⟩, st', fun b hb => (hf b hb).1⟩⟩
    rw [Int.mul_one]
  done := by
    intro X hP hw hK hc i pins s σ H E I hf st hg
    subst hP hw hK
    obtain ⟨f0, f1, f2, f3, f4, f5⟩ := hf it (by simp)
    exact wpAny_pyNext_range_end (I.ok.hd hc) st (by have : n ≤ i := hg; omega) fun h' eb => ⟨rfl, I.turned (t' := s.toks) (fun b o hb e => eb b o hb e) f0 f1 f3 f4 f5⟩
  self := fun _ _ _ _ _ st h => wpAny_pyIter_rangeiter st h
end L2

namespace L2
open PySem PySem.Spec PyProof.Rows
section
variable {X : Cx} {tg : Expr}
def iList (K : PySem.W.Frag) (tl : TE) : TI := fun σ H R => tl σ H fun x H1 => ∃ a, x = .ref a ∧ (∃ xs, SqL K H1 a xs) ∧ R (Itl K a) H1
def iTup (K : PySem.W.Frag) (tl : TE) : TI := fun σ H R => tl σ H fun x H1 => ∃ a, x = .ref a ∧ (∃ xs, SqT K H1 a xs) ∧ R (Itt K a) H1
theorem pi_list {l : Expr} {tl : TE} (hl : PE X l tl) : PI X tg l (iList X.K tl) := by
  intro pins s σ H R I h
  refine thn (hl pins s σ H _ I h) fun v s1 ⟨x, H1, I1, r1, q1⟩ => ?_
  obtain ⟨a, e, ⟨xs, hq⟩, q⟩ := q1
  subst e
  cases r1
  obtain ⟨its, rv, p, hz⟩ := I1.list hq
  refine wpAny_pyIter_list p.isList ?_
  refine ⟨s1.heap.objs.size, [s1.heap.objs.size], _, _, H1, rfl, I1.kept (t' := s1.toks) fun b o e => Heap.get?_push_of_some _ e, turn_list a _, ⟨_, Heap.get?_push_size _ rfl, rfl, rfl⟩, fun b hb => ?_, q⟩
  have e : b = s1.heap.objs.size := by simpa using hb
  subst e
  exact I1.fpOk (Nat.le_refl _) (I1.hok.fresh (Nat.le_refl _))
theorem pi_tup {l : Expr} {tl : TE} (hl : PE X l tl) : PI X tg l (iTup X.K tl) := by
  intro pins s σ H R I h
  refine thn (hl pins s σ H _ I h) fun v s1 ⟨x, H1, I1, r1, q1⟩ => ?_
  obtain ⟨a, e, ⟨xs, hq⟩, q⟩ := q1
  subst e
  cases r1
  obtain ⟨its, rv, p, hz⟩ := I1.tuple hq
  refine wpAny_pyIter_tuple (show s1.heap.IsTuple a its.toArray from p) ?_
  refine ⟨s1.heap.objs.size, [s1.heap.objs.size], _, _, H1, rfl, I1.kept (t' := s1.toks) fun b o e => Heap.get?_push_of_some _ e, turn_tuple a _, ⟨_, Heap.get?_push_size _ rfl, rfl, rfl⟩, fun b hb => ?_, q⟩
  have e : b = s1.heap.objs.size := by simpa using hb
  subst e
  exact I1.fpOk (Nat.le_refl _) (I1.hok.fresh (Nat.le_refl _))
/-- a range object just made, walked -/
theorem range_it {pins : List (Addr × Obj)} {σ : St} {H : Hp} {s : Shared} {R : It → Hp → Prop} {E : Value → Shared → Prop} {lo hi : Int} {t u v : Tok} {tk : Nat} (I : Inv X pins σ H s) (h1 : -(2 ^ 62) ≤ lo) (h2 : lo < 2 ^ 62) (h3 : -(2 ^ 62) ≤ hi) (h4 : hi < 2 ^ 62)
    (q : R (Itr lo (hi - lo).toNat) H) : wpAny (model X.prog X.w) X.A (pyIter (.ref s.heap.objs.size)) (PIE X pins σ tg R) E { s with heap := s.heap.push { cls := .type "range", data := .fields #[.int lo t, .int hi u, .int 1 v] }, toks := tk } := by
  refine wpAny_pyIter_range (IsRange.new ..) (small_one h1 h2 h3 h4) ?_
  have I1 : Inv X pins σ H { s with heap := s.heap.push { cls := .type "range", data := .fields #[.int lo t, .int hi u, .int 1 v] }, toks := tk } := I.kept fun b o e => Heap.get?_push_of_some _ e
  refine ⟨(s.heap.push { cls := .type "range", data := .fields #[.int lo t, .int hi u, .int 1 v] }).objs.size, [(s.heap.push { cls := .type "range", data := .fields #[.int lo t, .int hi u, .int 1 v] }).objs.size], _, _, H, rfl,
    I1.kept (t' := tk) fun b o e => Heap.get?_push_of_some _ e, turn_range _ lo (hi - lo).toNat, ?_, fun b hb => ?_, q⟩
  · have e1 : lo + ((0 : Nat) : Int) * 1 = lo := by simp
    have e2 : (((hi - lo).toNat : Nat) : Int) - ((0 : Nat) : Int) = Builtin.Range.rangeSize lo hi 1 := by rw [rangeSize_one]; split <;> omega
    show IsRangeIter _ _ (lo + ((0 : Nat) : Int) * 1) ((((hi - lo).toNat : Nat) : Int) - ((0 : Nat) : Int)) 1
    rw [e1, e2]
    exact Heap.get?_push_size _ rfl
  · have e : b = (s.heap.push { cls := .type "range", data := .fields #[.int lo t, .int hi u, .int 1 v] }).objs.size := by simpa using hb
    subst e
    exact I1.fpOk (Nat.le_refl _) (I1.hok.fresh (Nat.le_refl _))
def iRng1 (ta : TA) : TI := fun σ H R => ta σ H fun vs H1 => ∃ j : Int, vs = [.int j] ∧ -(2 ^ 62) ≤ j ∧ j < 2 ^ 62 ∧ R (Itr 0 j.toNat) H1
theorem pi_range1 {a : Expr} {ta : TA} {p pos : Pos} (hg : Gl X "range") (hm : X.mg "range" = none) (ha : PA X [a] ta) (hs : starEach [a] X.env = [(false, eval a X.env)] := by rfl) : PI X tg (.Call (.Name "range" p) [a] [] pos) (iRng1 ta) := by
  intro pins s σ H R I h
  refine Call_ (ld_blt I hg hm boot_range (PyProof.Rows.callWith_type1 (thn (ha pos pins s σ H _ I h) fun us s1 ⟨vs, H1, I1, r1, q1⟩ => ?_) hs rfl))
  obtain ⟨j, e, q1, q2, q⟩ := q1
  subst e
  cases r1 with
  | cons r rr =>
    cases rr
    obtain ⟨t, rfl⟩ := r
    exact call_range_1 (range_it I1 (by omega) (by omega) q1 q2 (by simpa using q))
/-! ### for -/
/-- W: the invariant by the turn and a measure; N: what the body is to reach -/
def tFor (wi : TI) (g : TG) (tb : TS) : TS := fun D σ H => wi σ H fun J H1 => ∃ W : Nat → Nat → St → Hp → Prop, (∃ m, W 0 m σ H1) ∧ ∀ i m σ H, W i m σ H →
  (J.stop i H ∧ D.nx σ H) ∨ (J.go i H ∧ ∃ N : St → Hp → Prop, (∀ σ' H', N σ' H' → ∃ m', m' < m ∧ W (i + 1) m' σ' H') ∧ ∀ x H', J.yld i H x H' → g x σ H' fun σ2 H2 => tb { D with nx := N, ct := N, bk := D.nx } σ2 H2)
/-- the records at fp as they stand -/
def pinsAt (fp : List Addr) (h : Heap) : List (Addr × Obj) := fp.filterMap fun b => (h.get? b).map fun o => (b, o)
theorem mem_pinsAt {fp : List Addr} {h : Heap} {b : Addr} {o : Obj} (hb : b ∈ fp) (e : h.get? b = some o) : (b, o) ∈ pinsAt fp h := List.mem_filterMap.mpr ⟨b, hb, by rw [e]; rfl⟩
theorem of_pinsAt {fp : List Addr} {h : Heap} {p : Addr × Obj} (hp : p ∈ pinsAt fp h) : p.1 ∈ fp ∧ h.get? p.1 = some p.2 := by
  obtain ⟨b, hb, e⟩ := List.mem_filterMap.mp hp
  cases q : h.get? b with
  | none => rw [q] at e; cases e
  | some o =>
    rw [q] at e
    have e' : (b, o) = p := Option.some.inj e
    subst e'
    exact ⟨hb, q⟩
theorem Inv.pinned {pins : List (Addr × Obj)} {σ : St} {H : Hp} {s : Shared} {fp : List Addr} (I : Inv X pins σ H s) (hf : ∀ b ∈ fp, FpOk X pins H b) (ho : ∀ b ∈ fp, ∃ o, s.heap.get? b = some o ∧ ∀ v, o.data ≠ .cell v) : Inv X (pins ++ pinsAt fp s.heap) σ H s :=
  I.pins_of fun p hp => (List.mem_append.mp hp).elim (fun z => I.pin p (List.mem_append_right _ z)) fun z => by
    obtain ⟨hb, e⟩ := of_pinsAt z
    obtain ⟨f0, f1, f2, _⟩ := hf p.1 hb
    obtain ⟨o, e', d⟩ := ho p.1 hb
    rw [e] at e'; cases e'
    exact ⟨e, f0, f1, f2, d⟩
theorem Inv.unpinned {pins pl : List (Addr × Obj)} {σ : St} {H : Hp} {s : Shared} (I : Inv X (pins ++ pl) σ H s) : Inv X pins σ H s := I.pins_of fun p hp => I.pin p (List.mem_append_right _ (List.mem_append_left _ hp))
theorem ps_for {iter : Expr} {body : List Stmt} {wi : TI} {g : TG} {tb : TS} {pos : Pos} (hp : PassesOwn (model X.prog X.w) X.A X.env X.xe) (hc : X.calm = true) (hi : PI X tg iter wi) (hg : PG X tg g) (hb : PSs X body tb)
    (hs : ∀ x, foldedSetIterable iter X.env x = pure x := by intro _; rfl) : PS X (.For tg iter body [] pos) (tFor wi g tb) := by
  intro pins s σ H D I h
  refine wpAny_For (thn (hi pins s σ H _ I h) fun v s1 h1 => thn h1 fun itv s2 h2 => ?_) hs
  obtain ⟨it, fp, tn, J, H2, e, I2, T, st2, f2, W, ⟨m0, w0⟩, turn⟩ := h2
  subst e
  -- what stays true of the iterator's objects through the loop
  have stat : ∀ {H' : Hp}, (∀ b ∈ fp, H' b = none) → ∀ b ∈ fp, FpOk X pins H' b := fun hn b hb => ⟨hn b hb, (f2 b hb).2⟩
  refine codeAny_forLoop_any (fun n s' => ∃ i σ' H', Inv X pins σ' H' s' ∧ tn i s'.heap ∧ (∀ b ∈ fp, H' b = none) ∧ W i n σ' H') ?_ m0 ⟨0, σ, H2, I2, st2, fun b hb => (f2 b hb).1, w0⟩
  rintro n s3 ⟨i, σ3, H3, I3, st3, fr3, w3⟩
  rcases turn i n σ3 H3 w3 with ⟨stop, qn⟩ | ⟨go, N, hN, step⟩
  · refine wpAny_passesOwn hp (thn (T.done X rfl rfl rfl hc i pins s3 σ3 H3 X.xe I3 (stat fr3) st3 stop) fun r s4 ⟨hr, I4⟩ => ?_)
    subst hr
    exact wpAny_execs_nil ⟨σ3, H3, I4, qn⟩
  · refine wpAny_passesOwn hp (thn (T.item X rfl rfl rfl hc i pins s3 σ3 H3 X.xe I3 (stat fr3) st3 go) fun r s4 ⟨u, hr, h4⟩ => ?_)
    subst hr
    refine wpAny_passesOwn hp (thn h4 fun _ s5 ⟨x, H5, I5, r5, y5, st5, fr5⟩ => ?_)
    have I5' := I5.pinned (stat fr5) (T.obj _ _ st5)
    refine wpAny_passesOwn hp (thn (hg _ s5 σ3 H5 x u _ I5' r5 (step x H5 y5)) fun _ s6 ⟨σ6, H6, I6, q6⟩ => ?_)
    refine wpAny_passesOwn hp (thn (hb _ s6 σ6 H6 _ I6 q6) fun f s7 q7 => ?_)
    have again : ∀ {σ7 : St} {H7 : Hp}, Inv X (pins ++ pinsAt fp s5.heap) σ7 H7 s7 → N σ7 H7 → ∃ m, m < n ∧ ∃ i σ' H', Inv X pins σ' H' s7 ∧ tn i s7.heap ∧ (∀ b ∈ fp, H' b = none) ∧ W i m σ' H' := fun {σ7 H7} I7 n7 => by
      obtain ⟨m', hm, w7⟩ := hN σ7 H7 n7
      refine ⟨m', hm, i + 1, σ7, H7, I7.unpinned, T.keep _ _ _ st5 fun b hb o e => (I7.pin (b, o) (List.mem_append_right _ (List.mem_append_right _ (mem_pinsAt hb e)))).1, fun b hb => ?_, w7⟩
      obtain ⟨o, e, d⟩ := T.obj _ _ st5 b hb
      exact (I7.pin (b, o) (List.mem_append_right _ (List.mem_append_right _ (mem_pinsAt hb e)))).2.1
    cases f with
    | next => obtain ⟨σ7, H7, I7, n7⟩ := q7; exact again I7 n7
    | cont => obtain ⟨σ7, H7, I7, n7⟩ := q7; exact again I7 n7
    | brk => obtain ⟨σ7, H7, I7, q7⟩ := q7; exact ⟨σ7, H7, I7.unpinned, q7⟩
    | ret v => obtain ⟨x7, σ7, H7, I7, r7, q7⟩ := q7; exact ⟨x7, σ7, H7, I7.unpinned, r7, q7⟩
end

/-! ### the forms one uses -/
end L2

namespace L2
open PySem PySem.Spec PyProof.Rows

abbrev R2 := V → V → Hp → VK → Prop
/-- a two-place operation on values: f is binaryOp op, inplaceOp op or compareOp op -/
def OpR (X : Cx) (f : Value → Value → Sem Value) (r : R2) : Prop :=
  ∀ (pins : List (Addr × Obj)) (s : Shared) (σ : St) (H : Hp) (x y : V) (v u : Value) (Q : VK), Inv X pins σ H s → RelV x v → RelV y u → r x y H Q →
    wpAny (model X.prog X.w) X.A (f v u) (EP X pins σ Q) X.xe s
/-- a one-place operation -/
def UnR (X : Cx) (f : Value → Sem Value) (r : V → Hp → VK → Prop) : Prop :=
  ∀ (pins : List (Addr × Obj)) (s : Shared) (σ : St) (H : Hp) (x : V) (v : Value) (Q : VK), Inv X pins σ H s → RelV x v → r x H Q →
    wpAny (model X.prog X.w) X.A (f v) (EP X pins σ Q) X.xe s
/-- a call of a value that is known (a builtin, a type) with values -/
def CallR (X : Cx) (f : Value) (r : List V → Hp → VK → Prop) : Prop :=
  ∀ (pins : List (Addr × Obj)) (s : Shared) (σ : St) (H : Hp) (xs : List V) (us : List Value) (Q : VK), Inv X pins σ H s → Vals xs us → r xs H Q →
    wpAny (model X.prog X.w) X.A (call f us) (EP X pins σ Q) X.xe s
def tOp (r : R2) (ta tb : TE) : TE := fun σ H Q => ta σ H fun x H1 => tb σ H1 fun y H2 => r x y H2 Q
def tUn (r : V → Hp → VK → Prop) (ta : TE) : TE := fun σ H Q => ta σ H fun x H1 => r x H1 Q
/-- ints in, under C, and a value out -/
def rI (C : Int → Int → Prop) (g : Int → Int → V) : R2 := fun x y H Q => ∃ i j, x = .int i ∧ y = .int j ∧ C i j ∧ Q (g i j) H
def rI0 (g : Int → Int → V) : R2 := fun x y H Q => ∃ i j, x = .int i ∧ y = .int j ∧ Q (g i j) H
def rU (g : Int → V) : V → Hp → VK → Prop := fun x H Q => ∃ i, x = .int i ∧ Q (g i) H

section
variable {X : Cx} {a b c : Expr} {ta tb tc : TE} {pos : Pos}

theorem binT (ha : PE X a ta) (hb : PE X b tb) {pins : List (Addr × Obj)} {s : Shared} {σ : St} {H : Hp} {R : V → V → Hp → Prop} (I : Inv X pins σ H s)
    (h : ta σ H fun x H1 => tb σ H1 fun y H2 => R x y H2) {Q : Value → Shared → Prop} {f : Value → Value → Sem Value}
    (hf : ∀ v u s2 x y H2, Inv X pins σ H2 s2 → RelV x v → RelV y u → R x y H2 → wpAny (model X.prog X.w) X.A (f v u) Q X.xe s2) :
    wpAny (model X.prog X.w) X.A (eval a X.env) (fun v s₁ => wpAny (model X.prog X.w) X.A (eval b X.env) (fun u s₂ => wpAny (model X.prog X.w) X.A (f v u) Q X.xe s₂) X.xe s₁) X.xe s := by
  refine thn (ha pins s σ H _ I h) fun v s1 ⟨x, H1, I1, r1, q1⟩ => ?_
  refine thn (hb pins s1 σ H1 _ I1 q1) fun u s2 ⟨y, H2, I2, r2, q2⟩ => ?_
  exact hf v u s2 x y H2 I2 r1 r2 q2

theorem pe_op {op : Operator} {r : R2} (ho : OpR X (binaryOp op) r) (ha : PE X a ta) (hb : PE X b tb) : PE X (.BinOp a op b pos) (tOp r ta tb) := by
  intro pins s σ H Q I h
  exact wpAny_BinOp (binT ha hb I h fun v u s2 x y H2 I2 rx ry q => ho pins s2 σ H2 x y v u Q I2 rx ry q)
theorem pe_un {op : UnaryOp} {r : V → Hp → VK → Prop} (ho : UnR X (unaryOp op) r) (ha : PE X a ta) : PE X (.UnaryOp op a pos) (tUn r ta) := by
  intro pins s σ H Q I h
  exact UnaryOp_ (thn (ha pins s σ H _ I h) fun v s1 ⟨x, H1, I1, r1, q1⟩ => ho pins s1 σ H1 x v Q I1 r1 q1)
/-! ### ints -/
theorem opI {f : Value → Value → Sem Value} {C : Int → Int → Prop} {g : Int → Int → Int}
    (rule : ∀ (i j : Int) (t u : Tok) (s : Shared) (Q : Value → Shared → Prop) (E : Value → Shared → Prop), C i j → Q (.int (g i j) s.toks) { s with toks := s.toks + 1 } → wpAny (model X.prog X.w) X.A (f (.int i t) (.int j u)) Q E s) :
    OpR X f (rI C fun i j => .int (g i j)) := by
  intro pins s σ H x y v u Q I rx ry h
  obtain ⟨i, j, rfl, rfl, hc, q⟩ := h
  obtain ⟨t, rfl⟩ := rx
  obtain ⟨t', rfl⟩ := ry
  exact rule i j t t' s _ _ hc ⟨.int (g i j), H, I.tok _, ⟨_, rfl⟩, q⟩
theorem opI0 {f : Value → Value → Sem Value} {g : Int → Int → Int}
    (rule : ∀ (i j : Int) (t u : Tok) (s : Shared) (Q : Value → Shared → Prop) (E : Value → Shared → Prop), Q (.int (g i j) s.toks) { s with toks := s.toks + 1 } → wpAny (model X.prog X.w) X.A (f (.int i t) (.int j u)) Q E s) :
    OpR X f (rI0 fun i j => .int (g i j)) := by
  intro pins s σ H x y v u Q I rx ry h
  obtain ⟨i, j, rfl, rfl, q⟩ := h
  obtain ⟨t, rfl⟩ := rx
  obtain ⟨t', rfl⟩ := ry
  exact rule i j t t' s _ _ ⟨.int (g i j), H, I.tok _, ⟨_, rfl⟩, q⟩
theorem opB0 {f : Value → Value → Sem Value} {g : Int → Int → Bool}
    (rule : ∀ (i j : Int) (t u : Tok) (s : Shared) (Q : Value → Shared → Prop) (E : Value → Shared → Prop), Q (.bool (g i j)) s → wpAny (model X.prog X.w) X.A (f (.int i t) (.int j u)) Q E s) :
    OpR X f (rI0 fun i j => .bl (g i j)) := by
  intro pins s σ H x y v u Q I rx ry h
  obtain ⟨i, j, rfl, rfl, q⟩ := h
  obtain ⟨t, rfl⟩ := rx
  obtain ⟨t', rfl⟩ := ry
  exact rule i j t t' s _ _ ⟨.bl (g i j), H, I, rfl, q⟩

def CDiv (i j : Int) : Prop := 0 < j ∧ j < 1073741824
def CPow (i j : Int) : Prop := 0 ≤ j ∧ j ≤ 1000000 ∧ i.natAbs < 2 ^ 64
def CMul (i j : Int) : Prop := (-(2 ^ 64) < i ∧ i < 2 ^ 64) ∨ (-(2 ^ 64) < j ∧ j < 2 ^ 64)
theorem CMul.ok {i j : Int} (h : CMul i j) : IntMulOk i j := by
  rcases h with ⟨h1, h2⟩ | ⟨h1, h2⟩
  · exact .of_left (intBits_le_64 h1 h2)
  · exact .of_right (intBits_le_64 h1 h2)
theorem two_pow_nn (k : Nat) : (0 : Int) ≤ 2 ^ k := by
  rw [two_pow_cast]
  exact Int.natCast_nonneg _

theorem op_add : OpR X (binaryOp .Add) (rI0 fun i j => .int (i + j)) := opI0 fun _ _ _ _ _ _ _ q => add_int q
theorem op_sub : OpR X (binaryOp .Sub) (rI0 fun i j => .int (i - j)) := opI0 fun _ _ _ _ _ _ _ q => sub_int q
/-- // by a positive divisor -/
theorem op_fdiv : OpR X (binaryOp .FloorDiv) (rI CDiv fun i j => .int (i / j)) := opI fun i j _ _ _ _ _ hc q => by
  have h1 : (0 : Int) < j := hc.1
  have h2 : j < 1073741824 := hc.2
  exact floordiv_int (by omega) (by rw [Int.fdiv_eq_ediv_of_nonneg i (by omega)]; exact q) (.inl (PyProof.noPylong_small (by omega)))
/-- % by a positive divisor of any size -/
theorem op_mod : OpR X (binaryOp .Mod) (rI (fun _ j => 0 < j) fun i j => .int (i % j)) := opI fun i j _ _ _ _ _ hc q => by
  have h1 : (0 : Int) < j := hc
  exact mod_int' (by omega) (by rw [Int.fmod_eq_emod_of_nonneg i (by omega)]; exact q)
theorem op_pow : OpR X (binaryOp .Pow) (rI CPow fun i j => .int (i ^ j.toNat)) := opI fun _ _ _ _ _ _ _ hc q => pow_int_small hc.1 hc.2.1 hc.2.2 q
theorem op_shr : OpR X (binaryOp .RShift) (rI (fun _ j => 0 ≤ j) fun i j => .int (i / 2 ^ j.toNat)) := opI fun i j _ _ _ _ _ hc q =>
  rshift_int hc (by rw [Int.fdiv_eq_ediv_of_nonneg i (two_pow_nn _)]; exact q)
theorem op_and : OpR X (binaryOp .BitAnd) (rI0 fun i j => .int (Builtin.bitAnd i j)) := opI0 fun _ _ _ _ _ _ _ q => and_int q
theorem unI {f : Value → Sem Value} {g : Int → Int}
    (rule : ∀ (i : Int) (t : Tok) (s : Shared) (Q : Value → Shared → Prop) (E : Value → Shared → Prop), Q (.int (g i) s.toks) { s with toks := s.toks + 1 } → wpAny (model X.prog X.w) X.A (f (.int i t)) Q E s) :
    UnR X f (rU fun i => .int (g i)) := by
  intro pins s σ H x v Q I rx h
  obtain ⟨i, rfl, q⟩ := h
  obtain ⟨t, rfl⟩ := rx
  exact rule i t s _ _ ⟨.int (g i), H, I.tok _, ⟨_, rfl⟩, q⟩
theorem un_neg : UnR X (unaryOp .USub) (rU fun i => .int (-i)) := unI fun _ _ _ _ _ q => neg_int q
/-! ### bools among ints: n += (a < b) -/
end

/-! ### comparisons -/
section
variable {X : Cx} {a b c : Expr} {ta tb tc : TE} {pos : Pos}
theorem op_lt : OpR X (compareOp .Lt) (rI0 fun i j => .bl (decide (i < j))) := opB0 fun _ _ _ _ _ _ _ q => lt_int q
theorem op_gt : OpR X (compareOp .Gt) (rI0 fun i j => .bl (decide (j < i))) := opB0 fun _ _ _ _ _ _ _ q => gt_int q
/-- two rules for one operation: by cases -/
theorem OpR.or {f : Value → Value → Sem Value} {r r' : R2} (h : OpR X f r) (h' : OpR X f r') : OpR X f (fun x y H Q => r x y H Q ∨ r' x y H Q) := by
  intro pins s σ H x y v u Q I rx ry q
  rcases q with q | q
  · exact h pins s σ H x y v u Q I rx ry q
  · exact h' pins s σ H x y v u Q I rx ry q

theorem nomark (b : Expr) {op : CmpOp} (h : op ≠ .In := by decide) (h2 : op ≠ .NotIn := by decide) : behindInMarks op b = false := by
  have e1 : (op == CmpOp.In) = false := by cases op <;> first | rfl | exact absurd rfl h
  have e2 : (op == CmpOp.NotIn) = false := by cases op <;> first | rfl | exact absurd rfl h2
  cases b <;> simp [behindInMarks, e1, e2]
/-- a comparison as a value; hm: nomark b, or (for in, not in) by with_unfolding_all rfl -/
theorem pe_cmpR {op : CmpOp} {r : R2} (ho : OpR X (compareOp op) r) (ha : PE X a ta) (hb : PE X b tb) (hm : behindInMarks op b = false) : PE X (.Compare a [op] [b] pos) (tOp r ta tb) := by
  intro pins s σ H Q I h
  exact wpAny_Compare1 (binT ha hb I h fun v u s2 x y H2 I2 rx ry q => ho pins s2 σ H2 x y v u Q I2 rx ry q) hm
/-- a reading of a value as a test -/
def tTest (t : TE) : TT := fun σ H Q => t σ H fun x H' => ∃ k, x = .bl k ∧ Q k H'
theorem pt_cmpR {op : CmpOp} {r : R2} (ho : OpR X (compareOp op) r) (ha : PE X a ta) (hb : PE X b tb) (hm : behindInMarks op b = false) : PT X (.Compare a [op] [b] pos) (tTest (tOp r ta tb)) := by
  intro pins s σ H Q I h
  refine wpAny_isTrue_Compare1 (thn (ha pins s σ H _ I h) fun v s1 ⟨x, H1, I1, r1, q1⟩ => thn (hb pins s1 σ H1 _ I1 q1) fun u s2 ⟨y, H2, I2, r2, q2⟩ =>
    thn (ho pins s2 σ H2 x y v u _ I2 r1 r2 q2) fun c s3 ⟨z, H3, I3, r3, k, e, q3⟩ => ?_) hm
  subst e
  cases r3
  exact wpAny_truthy_bool ⟨H3, I3, q3⟩
/-! ### truth -/
theorem line63 : (sizeLine : Nat) < 2 ^ 63 := by rw [sizeLine_eq]; decide
/-! ### strs and bytes -/
theorem op_add_str : OpR X (binaryOp .Add) (fun x y H Q => ∃ i j, x = .str i ∧ y = .str j ∧ i.length + j.length ≤ sizeLine ∧ Q (.str (i ++ j)) H) := by
  intro pins s σ H x y v u Q I rx ry h
  obtain ⟨i, j, rfl, rfl, hz, q⟩ := h
  obtain ⟨t, rfl⟩ := rx
  obtain ⟨t', rfl⟩ := ry
  exact add_str (fun t' tk => ⟨.str (i ++ j), H, I.tok _, ⟨_, rfl⟩, q⟩) hz
/-! ### scalar builtins, by CallR -/
theorem vals1 {x : V} {us : List Value} (r : Vals [x] us) : ∃ u, us = [u] ∧ RelV x u := by
  cases r with
  | cons r1 r2 => cases r2; exact ⟨_, rfl, r1⟩
theorem vals2 {x y : V} {us : List Value} (r : Vals [x, y] us) : ∃ u w', us = [u, w'] ∧ RelV x u ∧ RelV y w' := by
  cases r with
  | cons r1 r2 =>
    cases r2 with
    | cons r3 r4 => cases r4; exact ⟨_, _, rfl, r1, r3⟩
theorem call_min2 (hc : X.calm = true) : CallR X (.builtin "min") (fun xs H Q => ∃ i j, xs = [.int i, .int j] ∧ Q (.int (if j < i then j else i)) H) := by
  intro pins s σ H xs us Q I r h
  obtain ⟨i, j, rfl, q⟩ := h
  obtain ⟨u, w', rfl, ⟨t, rfl⟩, ⟨t', rfl⟩⟩ := vals2 r
  refine min_two_ints (I.ok.hd hc) fun h' tk k => ⟨_, H, I.kept k, ?_, q⟩
  by_cases hj : j < i
  · rw [if_pos hj, if_pos hj]; exact ⟨_, rfl⟩
  · rw [if_neg hj, if_neg hj]; exact ⟨_, rfl⟩
/-- len of a str, a bytes, a list, a tuple -/
def LenV (K : PySem.W.Frag) (x : V) (H : Hp) (n : Nat) : Prop :=
  match x with
  | .str y => y.length ≤ sizeLine ∧ n = y.length
  | .byt y => y.size ≤ sizeLine ∧ n = y.size
  | .ref p => (∃ xs, SqL K H p xs ∧ n = xs.length) ∨ ∃ xs, SqT K H p xs ∧ n = xs.length
  | _ => False
theorem call_len : CallR X (.builtin "len") (fun xs H Q => ∃ x n, xs = [x] ∧ LenV X.K x H n ∧ Q (.int n) H) := by
  intro pins s σ H xs us Q I r h
  obtain ⟨x, n, rfl, e, q⟩ := h
  obtain ⟨u, rfl, rx⟩ := vals1 r
  have hl := line63
  have hs : sizeLine = 16777216 := sizeLine_eq
  cases x with
  | str y =>
    obtain ⟨t, rfl⟩ := rx
    obtain ⟨hy, e'⟩ : y.length ≤ sizeLine ∧ n = y.length := e
    subst e'
    exact len_str (by omega) ⟨.int _, H, I.tok _, ⟨_, rfl⟩, q⟩
  | byt y =>
    obtain ⟨t, rfl⟩ := rx
    obtain ⟨hy, e'⟩ : y.size ≤ sizeLine ∧ n = y.size := e
    subst e'
    exact PySem.W.len_bytes (by omega) ⟨.int _, H, I.tok _, ⟨_, rfl⟩, q⟩
  | ref p =>
    cases rx
    have e' : (∃ xs, SqL X.K H p xs ∧ n = xs.length) ∨ ∃ xs, SqT X.K H p xs ∧ n = xs.length := e
    rcases e' with ⟨xs, hx, e'⟩ | ⟨xs, hx, e'⟩
    · subst e'
      obtain ⟨its, r', pl, hz⟩ := I.list hx
      have hlen := r'.length
      exact Calls.call_len_list pl.isList (by simp only [List.size_toArray]; omega) ⟨.int xs.length, H, I.tok _, ⟨_, by simp only [List.size_toArray]; rw [hlen]⟩, q⟩
    · subst e'
      obtain ⟨its, r', pl, hz⟩ := I.tuple hx
      have hlen := r'.length
      exact len_tuple pl (by simp only [List.size_toArray]; omega) ⟨.int xs.length, H, I.tok _, ⟨_, by simp only [List.size_toArray]; rw [hlen]⟩, q⟩
  | _ => exact (show False from e).elim
end
end L2

namespace L2
open PySem PySem.Spec PyProof.Rows

/-! ### an instance, its attributes a map -/
structure ObjM (h : Heap) (x dx C : Addr) (mA : Str → Option Value) : Prop where
  obj : h.get? x = some (PySem.W.instObj C dx)
  ns : h.Ns1 dx mA
  ne : dx ≠ x

theorem lookIn_ns {h : Heap} {dx : Addr} {mA : Str → Option Value} (n : h.Ns1 dx mA) : ∃ od, h.get? dx = some od ∧ ∀ name, PySem.W.lookIn name od = some (mA name) := by
  obtain ⟨o, es, ep, ho, hd, hk, _, hm⟩ := n
  refine ⟨o, ho, fun name => ?_⟩
  have e := hm name
  unfold nsFind findBy at e
  rw [← Array.find?_toList] at e
  unfold PySem.W.lookIn
  rw [hd]
  dsimp only
  split
  · rename_i y q
    rw [q] at e
    exact congrArg some e
  · rename_i q
    rw [q] at e
    have a : es.toList.any (·.refKey) = false := by
      rw [List.any_eq_false]
      intro y hy
      obtain ⟨z, t, hkey⟩ := hk y (Array.mem_toList_iff.mp hy)
      simp [DictEntry.refKey, hkey]
    have a' : ¬ es.toList.any (·.refKey) = true := by rw [a]; exact Bool.false_ne_true
    rw [if_neg a']
    exact congrArg some e

theorem ObjM.look {h : Heap} {x dx C : Addr} {mA : Str → Option Value} (I : ObjM h x dx C mA) : ∃ od, PySem.W.InstAt h x (PySem.W.instObj C dx) C (some od) ∧ ∀ name, PySem.W.lookIn name od = some (mA name) :=
  let ⟨od, ho, hl⟩ := lookIn_ns I.ns
  ⟨od, ⟨I.obj, rfl, rfl, ho⟩, hl⟩

section
variable {prog : Program} {w : World} {A : Around} {E : Value → Shared → Prop} {s : Shared} {K : PySem.W.Frag} {x dx C f : Addr} {mA : Str → Option Value} {name : Str} {v : Value}

end

/-! ### the attributes as a list of pairs -/
theorem RelO.some_of {v : V} {o : Option Value} (r : RelO (some v) o) : ∃ u, o = some u ∧ RelV v u := by
  cases o with
  | none => exact (show False from r).elim
  | some u => exact ⟨u, rfl, r⟩
section
variable {P : Program} {w : World} {H H' : Hp} {h h' : Heap} {a C dx : Addr} {fs fs' : List (Str × V)}
theorem ins_get (hok : HOk P w H h) (e : H a = some (.ins C dx fs)) : ∃ mA, ObjM h a dx C mA ∧ (∀ f, RelO (fs.lookup f) (mA f)) ∧ PySem.Within mA (fs.map (·.1)) ∧ fs.length ≤ 1000 ∧ H dx = some (.own a) := by
  obtain ⟨d, z, ne, ob, mA, n, r, q⟩ := (show ObjOk P w H h a (.ins C dx fs) from hok a _ e)
  exact ⟨mA, ⟨ob, n, ne⟩, r, q, z, d⟩
end

/-! ### what of the text a class must have -/
structure Cls (K : PySem.W.Frag) (C : Addr) : Prop where
  pg : PySem.W.plainGet K C Str.empty = true
  hd : PySem.W.hasDictIn K C = true
  po : PySem.W.plainOver K C = true
  sa : PySem.W.findIn K (.ref C) "__setattr__" = some (some (.builtin "object.__setattr__"))
theorem Cls.get {K : PySem.W.Frag} {C : Addr} (c : Cls K C) (f : Str) : PySem.W.plainGet K C f = true := c.pg
/-- a constant of the class -/
structure Con (K : PySem.W.Frag) (C : Addr) (f : Str) (v : V) (u : Value) : Prop where
  at_ : PySem.W.findIn K (.ref C) f = some (some u)
  rel : RelV v u
  get : PySem.W.specialIn K u "__get__" = some none
  cp : PySem.W.copiedNames.contains f = false
/-- a method: a plain def of the class or of one above it -/
structure Meth (K : PySem.W.Frag) (C : Addr) (m : Str) (f : Addr) : Prop where
  at_ : PySem.W.findIn K (.ref C) m = some (some (.ref f))
  fn : PySem.W.isFn K (.ref f) = true
  kp : PySem.W.keepIn K (.ref f) = true

section
variable {X : Cx} {pins : List (Addr × Obj)} {σ : St} {H : Hp} {s : Shared} {a C dx : Addr} {fs : List (Str × V)} {f : Str} {v : V} {A : Around} {E : Value → Shared → Prop}

/-- a new instance, tracked, without attributes -/
theorem Inv.made (I : Inv X pins σ H s) : Inv X pins σ (upd (upd H s.heap.objs.size (.own (s.heap.objs.size + 1))) (s.heap.objs.size + 1) (.ins C s.heap.objs.size []))
    { s with heap := (s.heap.push PySem.W.emptyDict).push (PySem.W.instObj C s.heap.objs.size) } := by
  have e1 : (s.heap.push PySem.W.emptyDict).get? s.heap.objs.size = some PySem.W.emptyDict := Heap.get?_push_size s.heap rfl
  have e2 : ((s.heap.push PySem.W.emptyDict).push (PySem.W.instObj C s.heap.objs.size)).get? (s.heap.objs.size + 1) = some (PySem.W.instObj C s.heap.objs.size) := by
    have := Heap.get?_push_size (s.heap.push PySem.W.emptyDict) (o := PySem.W.instObj C s.heap.objs.size) rfl
    rwa [Heap.size_push] at this
  have e3 : (s.heap.push PySem.W.emptyDict).Ns s.heap.objs.size (fun _ => none) := ⟨PySem.W.emptyDict, #[], _, e1, rfl, (fun e he => absurd he (by simp)), fun _ => rfl⟩
  have I1 := I.laid (a := s.heap.objs.size) (o := .own (s.heap.objs.size + 1)) (h' := s.heap.push PySem.W.emptyDict) (t' := s.toks) (fun b u q => Heap.get?_push_of_some _ q) (Nat.le_refl _) ⟨_, e1⟩
  refine I1.laid (a := s.heap.objs.size + 1) (o := .ins C s.heap.objs.size []) (t' := s.toks) (fun b u q => Heap.get?_push_of_some _ q) (Nat.le_of_eq (Heap.size_push _ _)) ?_
  have ne : s.heap.objs.size ≠ s.heap.objs.size + 1 := Nat.ne_of_lt (Nat.lt_succ_self _)
  refine ⟨by rw [upd_ne ne, upd_same], Nat.zero_le _, ne, e2, fun _ => none, (Heap.Ns1.of_empty e3).at fun o q => Heap.get?_push_of_some _ q, fun _ => True.intro, fun y hy => absurd rfl hy⟩

end

/-! ### readings and rules -/
section
variable {X : Cx} {o e value : Expr} {f : Str} {pos pos' tpos : Pos} {ta tv : TE}
end

/-! ### isinstance -/
section
variable {X : Cx} {pins : List (Addr × Obj)} {σ : St} {H : Hp} {s : Shared} {A : Around} {E : Value → Shared → Prop} {Q : Value → Shared → Prop} {c : Value} {b : Bool}
/-- the type of a value, as the fragment's deciders take it; for an instance its class -/
inductive TyOf (K : PySem.W.Frag) (H : Hp) : V → Value → Prop where
  | non : TyOf K H .non (.type "NoneType")
  | bl (x : Bool) : TyOf K H (.bl x) (.type "bool")
  | int (i : Int) : TyOf K H (.int i) (.type "int")
  | str (x : Str) : TyOf K H (.str x) (.type "str")
  | flt (x : UInt64) : TyOf K H (.flt x) (.type "float")
  | lst {a : Addr} {xs : List V} (e : H a = some (.lst xs)) : TyOf K H (.ref a) (.type "list")
  | frz {a : Addr} {o : Obj} {xs : List V} (e : H a = some (.frz o (.lst xs))) : TyOf K H (.ref a) (.type "list")
  | tup {a : Addr} {xs : List V} (e : H a = some (.tup xs)) : TyOf K H (.ref a) (.type "tuple")
  | dK {a : Addr} {kvs : List (Key × V)} (e : H a = some (.dK kvs)) : TyOf K H (.ref a) (.type "dict")
  | dT {a : Addr} {kvs : List (List Key × V)} (e : H a = some (.dT kvs)) : TyOf K H (.ref a) (.type "dict")
  | ins {a C dx : Addr} {fs : List (Str × V)} (e : H a = some (.ins C dx fs)) (cl : Cls K C) (ha : PySem.W.findIn K (.ref C) "__class__" = some (some (.builtin "object.__class__")))
      (hn : PySem.W.specialIn K (.builtin "object.__class__") "__get__" = some (some (.builtin "getset_descriptor.__get__"))) (htk : PySem.W.takesIn K (.builtin "object.__class__") = some true)
      (hm : PySem.W.mroIn K C (.type "object") = some true) : TyOf K H (.ref a) (.ref C)
/-- isinstance(x, c) for one class c, a built-in or an own one: kitOne's answer -/
theorem isinst_ok {x : V} {u t : Value} (I : Inv X pins σ H s) (rx : RelV x u) (ty : TyOf X.K H x t) (e : PySem.W.kitOne X.K t c = some b) (h : ∀ tk, Q (.bool b) { s with toks := tk }) :
    wpAny (model X.prog X.w) A (call (.builtin "isinstance") [u, c]) Q E s := by
  cases ty with
  | non => cases (show u = Value.none from rx); exact PySem.W.kia_one PySem.W.kitx_none I.kIn True.intro e (fun z => nomatch z) h
  | bl y => cases (show u = Value.bool y from rx); exact PySem.W.kia_one PySem.W.kitx_bool I.kIn True.intro e (fun z => nomatch z) h
  | int i => obtain ⟨t, q⟩ := (show ∃ t, u = Value.int i t from rx); cases q; exact PySem.W.kia_one PySem.W.kitx_int I.kIn True.intro e (fun z => nomatch z) h
  | str y => obtain ⟨t, q⟩ := (show ∃ t, u = Value.str y t from rx); cases q; exact PySem.W.kia_one PySem.W.kitx_str I.kIn True.intro e (fun z => nomatch z) h
  | flt y => obtain ⟨t, q⟩ := (show ∃ t, u = Value.float y t from rx); cases q; exact PySem.W.kia_one PySem.W.kitx_float I.kIn True.intro e (fun z => nomatch z) h
  | @lst a xs ea =>
    cases (show u = Value.ref a from rx)
    obtain ⟨_, _, n, _, h1⟩ := (show ObjOk X.prog X.w H s.heap a (.lst xs) from I.hok a _ ea)
    exact PySem.W.kia_one PySem.W.kitx_list I.kIn ⟨_, h1, rfl⟩ e (fun z => nomatch z) h
  | @frz a ob xs ea =>
    cases (show u = Value.ref a from rx)
    obtain ⟨_, _, _, n, _, h1⟩ := (show ObjOk X.prog X.w H s.heap a (.frz ob (.lst xs)) from I.hok a _ ea)
    exact PySem.W.kia_one PySem.W.kitx_list I.kIn ⟨_, h1, rfl⟩ e (fun z => nomatch z) h
  | @tup a xs ea =>
    cases (show u = Value.ref a from rx)
    obtain ⟨_, _, _, p⟩ := (show ObjOk X.prog X.w H s.heap a (.tup xs) from I.hok a _ ea)
    obtain ⟨o, h1, h2, _⟩ := p
    exact PySem.W.kia_one PySem.W.kitx_tuple I.kIn ⟨o, h1, h2⟩ e (fun z => nomatch z) h
  | @dK a kvs ea =>
    cases (show u = Value.ref a from rx)
    obtain ⟨_, _, vs, _, p⟩ := (show ObjOk X.prog X.w H s.heap a (.dK kvs) from I.hok a _ ea)
    obtain ⟨o, es, ep, h1, h2, _⟩ := p
    exact PySem.W.kia_one PySem.W.kitx_dict I.kIn ⟨o, h1, h2.1⟩ e (fun z => nomatch z) h
  | @dT a kvs ea =>
    cases (show u = Value.ref a from rx)
    obtain ⟨_, _, xs, _, o, es, ep, h1, h2, _⟩ := (show ObjOk X.prog X.w H s.heap a (.dT kvs) from I.hok a _ ea)
    exact PySem.W.kia_one PySem.W.kitx_dict I.kIn ⟨o, h1, h2.1⟩ e (fun z => nomatch z) h
  | @ins a C dx fs ea cl ha hn htk hm =>
    cases (show u = Value.ref a from rx)
    obtain ⟨mA, O, _⟩ := ins_get I.hok ea
    obtain ⟨od, J, _⟩ := O.look
    exact PySem.W.kia_one (PySem.W.kitx_own (cl.get _) cl.hd ha hn htk hm) I.kIn J e (fun z => nomatch z) h
end
end L2

namespace L2
open PySem PySem.Spec PyProof.Rows

/-! ### room -/
structure Room (k : Nat) (A : Around) : Prop where
  hd : A.handled = none
  dp : A.depth + 3 * k + 5 < recursionLimit
  un : A.units + 16 * k + 200 < cLine
theorem Room.mono {j k : Nat} {A : Around} (r : Room k A) (h : j ≤ k) : Room j A := ⟨r.hd, by have := r.dp; omega, by have := r.un; omega⟩
theorem Room.deeper {k : Nat} {A : Around} (r : Room (k + 1) A) (env : Env) : Room k (A.deeper env) :=
  ⟨r.hd, by have := r.dp; show A.depth + 1 + 3 * k + 5 < _; omega, by have := r.un; show A.units + 3 + 16 * k + 200 < _; omega⟩
theorem Room.in1 {k : Nat} {A : Around} (r : Room (k + 1) A) : Room k A.in1 :=
  ⟨r.hd, by have := r.dp; show A.depth + 3 * k + 5 < _; omega, by have := r.un; show A.units + 1 + 16 * k + 200 < _; omega⟩
theorem Room.depth {k : Nat} {A : Around} (r : Room k A) : A.depth < recursionLimit := by have := r.dp; omega
theorem Room.units {k : Nat} {A : Around} (r : Room k A) : A.units + 64 < cLine := by have := r.un; omega
/-! ### argument lists and displays -/
def tNil : TA := fun _ H Q => Q [] H
def tCons (ta : TE) (tr : TA) : TA := fun σ H Q => ta σ H fun x H1 => tr σ H1 fun xs H2 => Q (x :: xs) H2
section
variable {X : Cx} {e : Expr} {es : List Expr} {te : TE} {t : TA} {pos : Pos}
theorem pa_nil : PA X [] tNil := fun _ _ _ _ H Q I h => Calls.spliced_nil ⟨[], H, I, .nil, h⟩
theorem pa_cons (ha : PE X e te) (hr : PA X es t) (hs : starEach (e :: es) X.env = (false, eval e X.env) :: starEach es X.env := by rfl) : PA X (e :: es) (tCons te t) := by
  intro pos pins s σ H Q I h
  rw [hs]
  show wpAny _ _ (spliced ((false, eval e X.env) :: backTo pos (starEach es X.env))) _ _ s
  refine Calls.spliced_cons (thn (ha pins s σ H _ I h) fun u s1 ⟨x, H1, I1, r1, q1⟩ => ?_)
  exact thn (hr pos pins s1 σ H1 _ I1 q1) fun us s2 ⟨xs, H2, I2, r2, q2⟩ => ⟨x :: xs, H2, I2, .cons r1 r2, q2⟩

/-- a tuple, a list of written items -/
def tTup (t : TA) : TE := fun σ H Q => t σ H fun xs H1 => xs.length ≤ sizeLine ∧ ∀ p, H1 p = none → Q (.ref p) (upd H1 p (.tup xs))
def tLst (t : TA) : TE := fun σ H Q => t σ H fun xs H1 => xs.length ≤ sizeLine ∧ ∀ p, H1 p = none → Q (.ref p) (upd H1 p (.lst xs))
theorem pe_tup {x1} (h : PA X es t) : PE X (.Tuple es x1 pos) (tTup t) := by
  intro pins s σ H Q I hq
  refine wpAny_Tuple_spliced (thn (h pos pins s σ H _ I hq) fun us s1 ⟨xs, H1, I1, r, z, q⟩ => ⟨by rw [← r.length]; exact z, ?_⟩)
  have hf : H1 s1.heap.objs.size = none := I1.hok.fresh (Nat.le_refl _)
  refine ⟨.ref s1.heap.objs.size, upd H1 s1.heap.objs.size (.tup xs), I1.laid (t' := s1.toks) (fun b u e => Heap.get?_push_of_some _ e) (Nat.le_refl _) ?_, rfl, q _ hf⟩
  exact ⟨z, us, r, ⟨_, Heap.get?_push_size _ rfl, rfl, _, rfl⟩⟩
theorem pe_lst (h : PA X es t) : PE X (.List es pos) (tLst t) := by
  intro pins s σ H Q I hq
  refine wpAny_List_spliced (thn (h pos pins s σ H _ I hq) fun us s1 ⟨xs, H1, I1, r, z, q⟩ => ⟨by rw [← r.length]; exact z, ?_⟩)
  have hf : H1 s1.heap.objs.size = none := I1.hok.fresh (Nat.le_refl _)
  refine ⟨.ref s1.heap.objs.size, upd H1 s1.heap.objs.size (.lst xs), I1.laid (t' := s1.toks) (fun b u e => Heap.get?_push_of_some _ e) (Nat.le_refl _) ?_, rfl, q _ hf⟩
  exact ⟨z, us, 0, r, Heap.get?_push_size _ rfl⟩
end

/-! ### what a def promises -/
/-- a def's promise: the bound arguments in the parameters' order, the heap, the wanted end, the wanted exception -/
abbrev Sp := List V → Hp → VK → XK → Prop
/-- how an exception lies behind a call (file 08 gives it): the callers' frames, abstract heap and state ahead of the call, the wish, the exception, the state -/
abbrev CXT := List Env → Hp → Shared → XK → Value → Shared → Prop

/-- the state at a call -/
structure Env0 (P : Program) (w : World) (K : PySem.W.Frag) (mg : Str → Option Value) (base : Heap) (A : Around) (outer : List Env) (s : Shared) (H : Hp) : Prop where
  frames : A.frames = some outer
  mod : Mod K mg base
  bs : ∀ b o, base.get? b = some o → s.heap.get? b = some o ∧ H b = none
  bsz : base.objs.size ≤ s.heap.objs.size
  funs : s.heap.FunFrames base outer
  frf : ∀ b ∈ frs outer, H b = none
  hok : HOk P w H s.heap
  bare : AllBare s.gens
/-- a call's end -/
def CE (outer : List Env) (P : Program) (w : World) (H : Hp) (s : Shared) (Q : VK) (u : Value) (s' : Shared) : Prop :=
  ∃ v H', s'.os = s.os ∧ AllBare s'.gens ∧ Un (frs outer) [] H H' s.heap s'.heap ∧ HOk P w H' s'.heap ∧ RelV v u ∧ Q v H'
def CR (CX : CXT) (outer : List Env) (P : Program) (w : World) (H : Hp) (s : Shared) (Q : VK) (E : XK) (r : Result) (s' : Shared) : Prop :=
  match r with
  | .ok (.ret u) => CE outer P w H s Q u s'
  | .ok _ => False
  | .error e => CX outer H s E e s'
structure FnOk (P : Program) (w : World) (K : PySem.W.Frag) (mg : Str → Option Value) (base : Heap) (CX : CXT) (k : Nat) (f : Addr) (fd : FuncData) (ps : List Str) (sp : Sp) : Prop where
  len : ∀ vs H Q E, sp vs H Q E → vs.length = ps.length
  run : ∀ (A : Around) (outer : List Env) (s : Shared) (H : Hp) (args : Args) (us : List Value) (vs : List V) (Q : VK) (E : XK), Room k A → Env0 P w K mg base A outer s H → BindsTo s fd args (ps.zip us) → Vals vs us → sp vs H Q E →
    codeAny (model P w) A (.call (.ref f) args) (CR CX outer P w H s Q E) s
theorem FnOk.mono {P : Program} {w : World} {K : PySem.W.Frag} {mg : Str → Option Value} {base : Heap} {CX : CXT} {j k : Nat} {f : Addr} {fd : FuncData} {ps : List Str} {sp : Sp} (F : FnOk P w K mg base CX j f fd ps sp) (h : j ≤ k) :
    FnOk P w K mg base CX k f fd ps sp := ⟨F.len, fun A outer s H args us vs Q E hr => F.run A outer s H args us vs Q E (hr.mono h)⟩
/-- a weaker promise -/
theorem FnOk.imp {P : Program} {w : World} {K : PySem.W.Frag} {mg : Str → Option Value} {base : Heap} {CX : CXT} {k : Nat} {f : Addr} {fd : FuncData} {ps : List Str} {sp sp' : Sp} (F : FnOk P w K mg base CX k f fd ps sp)
    (h : ∀ vs H Q E, sp' vs H Q E → sp vs H Q E) : FnOk P w K mg base CX k f fd ps sp' :=
  ⟨fun vs H Q E q => F.len vs H Q E (h _ _ _ _ q), fun A outer s H args us vs Q E hr he hb hv hs => F.run A outer s H args us vs Q E hr he hb hv (h _ _ _ _ hs)⟩

theorem Env0.in1 {P : Program} {w : World} {K : PySem.W.Frag} {mg : Str → Option Value} {base : Heap} {A : Around} {outer : List Env} {s : Shared} {H : Hp} (e : Env0 P w K mg base A outer s H) :
    Env0 P w K mg base A.in1 outer s H := ⟨e.frames, e.mod, e.bs, e.bsz, e.funs, e.frf, e.hok, e.bare⟩

section
variable {X : Cx} {pins : List (Addr × Obj)} {σ : St} {H : Hp} {s s' : Shared}
/-- from a body: what a callee wants -/
theorem Inv.env0 (I : Inv X pins σ H s) : Env0 X.prog X.w X.K X.mg X.base X.A X.stack s H :=
  ⟨I.ok.frames, I.ok.mod, I.bs, Nat.le_trans I.ok.bsz I.sz, I.stack, I.stkFree, I.hok, I.bare⟩
/-- behind a call -/
theorem Inv.after {Q : VK} {u : Value} (I : Inv X pins σ H s) (h : CE X.stack X.prog X.w H s Q u s') : EP X pins σ Q u s' := by
  obtain ⟨v, H', os, bare, un, hok, r, q⟩ := h
  obtain ⟨hh, g, d, t, os'⟩ := s'
  obtain rfl : os' = s.os := os
  exact ⟨v, H', I.call (h' := hh) (g' := g) (d' := d) (t' := t) (ch := []) un hok bare (fun b z => absurd z (by simp)), r, q⟩
end

/-! ### calls -/
/-- f(..): the written arguments, then the defaults dvs; E: what is wanted of an exception -/
def tCall (sp : Sp) (dvs : List V) (E : XK) (t : TA) : TE := fun σ H Q => t σ H fun vs H1 => sp (vs ++ dvs) H1 Q E
/-- how the parameters are bound: us the positional arguments, kw the keywords' values by name, ds the defaults that fill up -/
def Binds (K : PySem.W.Frag) (fd : FuncData) (ps : List Str) (ds : List Value) : Prop :=
  ∀ (s : Shared) (us : List Value), K.In s.heap → (us ++ ds).length = ps.length → BindsTo s fd ⟨us, []⟩ (ps.zip (us ++ ds))
/-- every parameter is given -/
theorem Binds.all {K : PySem.W.Frag} {fd : FuncData} {ps : List Str} (h : ∀ us : List Value, us.length = ps.length → bindArgs fd ⟨us, []⟩ = pure (ps.zip us)) : Binds K fd ps [] := fun s us _ hl => by
  rw [List.append_nil] at hl ⊢
  exact .of_eq (h us hl)

/-- an exception of a callee reaches what this body wants of exceptions -/
def Passes (CX : CXT) (X : Cx) (E : XK) : Prop := ∀ (pins : List (Addr × Obj)) (σ : St) (H : Hp) (s : Shared) (e : Value) (s' : Shared), Inv X pins σ H s → CX X.stack H s E e s' → X.xe e s'

section
variable {X : Cx} {CX : CXT} {k : Nat} {f C : Addr} {fd : FuncData} {ps : List Str} {sp : Sp} {dvs : List V} {ds : List Value} {E : XK} {x m : Str} {p pos apos : Pos} {e o : Expr} {es : List Expr} {ta : TE} {t : TA}

/-- the callee runs -/
theorem run_fn {pins : List (Addr × Obj)} {σ : St} {H : Hp} {s : Shared} {Q : VK} {us : List Value} {vs : List V} (F : FnOk X.prog X.w X.K X.mg X.base CX k f fd ps sp) (hr : Room k X.A) (hb : Binds X.K fd ps ds) (hd : Vals dvs ds) (hx : Passes CX X E)
    (I : Inv X pins σ H s) (r : Vals vs us) (h : sp (vs ++ dvs) H Q E) : wpAny (model X.prog X.w) X.A (call (.ref f) us) (EP X pins σ Q) X.xe s := by
  have r2 : Vals (vs ++ dvs) (us ++ ds) := r.append hd
  have hl : (us ++ ds).length = ps.length := by rw [← r2.length]; exact F.len _ _ _ _ h
  refine wpAny_call (codeAny_mono (F.run X.A X.stack s H ⟨us, []⟩ (us ++ ds) (vs ++ dvs) Q E hr I.env0 (hb s us I.kIn hl) r2 h) fun r s' hq => ?_)
  cases r with
  | error e => exact hx pins σ H s e s' I hq
  | ok fl =>
    cases fl with
    | ret u => exact I.after hq
    | next => exact False.elim hq
    | brk => exact False.elim hq
    | cont => exact False.elim hq

theorem pe_call (F : FnOk X.prog X.w X.K X.mg X.base CX k f fd ps sp) (hr : Room k X.A) (hg : Gl X x) (hm : X.mg x = some (.ref f)) (hk : PySem.W.keepIn X.K (.ref f) = true) (hb : Binds X.K fd ps ds) (hd : Vals dvs ds) (hx : Passes CX X E)
    (ha : PA X (e :: es) t) (hdb : (x == ("__debug__" : Str)) = false := by decide) (he : starEach (e :: es) X.env = (false, eval e X.env) :: starEach es X.env := by rfl) (hpl : (backTo pos (starEach es X.env)).any (·.1) = false := by rfl) :
    PE X (.Call (.Name x p) (e :: es) [] pos) (tCall sp dvs E t) := by
  intro pins s σ H Q I h
  refine wpAny_Call_Name_kw (ld_glob I hg hm ?_ hdb)
  refine PySem.W.callWith_K (h₀ := X.base) I.ok.mod.kin hk (thn (ha pos pins s σ H _ I h) fun us s1 ⟨vs, H1, I1, r, q⟩ => ⟨I1.kIn, ?_⟩) he hpl
  exact run_fn F hr hb hd hx I1 r q
/-- what a class must have to be made -/
structure Mk (K : PySem.W.Frag) (C f : Addr) : Prop where
  makes : PySem.W.makesIn K C = true
  init : PySem.W.findIn K (.ref C) "__init__" = some (some (.ref f))
  fn : PySem.W.isFn K (.ref f) = true
  kp : PySem.W.keepIn K (.ref C) = true

end

/-! ### keywords -/
section
variable {X : Cx} {CX : CXT} {k : Nat} {f C : Addr} {fd : FuncData} {ps ks : List Str} {sp : Sp} {E : XK} {x m : Str} {p pos apos kpos : Pos} {e o : Expr} {es : List Expr} {kws : List Keyword} {te ta : TE} {t tk : TA} {nm : Option Str}
/-- how a call with keywords binds: g puts the positional values us and the keywords' values ws (names ks) in the parameters' order, defaults among them -/
structure KBinds (K : PySem.W.Frag) (fd : FuncData) (ps ks : List Str) (g : List Value → List Value → List Value) (gV : List V → List V → List V) : Prop where
  to : ∀ (s : Shared) (us ws : List Value), K.In s.heap → (g us ws).length = ps.length → BindsTo s fd ⟨us, ks.zip ws⟩ (ps.zip (g us ws))
  rel : ∀ {vs : List V} {us : List Value} {zs : List V} {ws : List Value}, Vals vs us → Vals zs ws → Vals (gV vs zs) (g us ws)
variable {g : List Value → List Value → List Value} {gV : List V → List V → List V}
end

/-! ### a def's body keeps its promise -/
/-- names: the parameters first -/
structure FnScope (N P : List Str) (sc : Scope) : Prop where
  kind : sc.kind = .function
  co : sc.isCoroutine = false
  gen : sc.isGenerator = false
  nd : N.Nodup
  pre : N.take P.length = P
  par : ∀ x ∈ P, sc.names.lookup x = some .local ∨ sc.names.lookup x = some .cell
  nofree : ∀ y ∈ sc.names, y.2 ≠ .free

theorem bindL_out {kindOf : Str → Option NameKind} {x : Str} : ∀ {binds : List (Str × Value)} {m : Str → Option Value}, (∀ v, (x, v) ∉ binds) → bindL kindOf binds m x = m x
  | [], _, _ => rfl
  | (n, v) :: r, m, h => by
    unfold bindL
    rw [bindL_out fun w hw => h w (List.mem_cons_of_mem _ hw)]
    split
    · have : x ≠ n := by rintro rfl; exact h v List.mem_cons_self
      simp [this]
    · rfl
theorem bindC_out {kindOf : Str → Option NameKind} {x : Str} : ∀ {binds : List (Str × Value)} {m : Str → Option Value}, (∀ v, (x, v) ∉ binds) → bindC kindOf binds m x = m x
  | [], _, _ => rfl
  | (n, v) :: r, m, h => by
    unfold bindC
    rw [bindC_out fun w hw => h w (List.mem_cons_of_mem _ hw)]
    split
    · rfl
    · have : x ≠ n := by rintro rfl; exact h v List.mem_cons_self
      simp [this]
theorem bindL_get {kindOf : Str → Option NameKind} {x : Str} {v : Value} : ∀ {P : List Str} {vs : List Value} {i : Nat} {m : Str → Option Value}, P.Nodup → P[i]? = some x → vs[i]? = some v → kindOf x = some .local →
    bindL kindOf (P.zip vs) m x = some v
  | [], _, _, _, _, h, _, _ => by simp at h
  | _ :: _, [], _, _, _, _, h, _ => by simp at h
  | p :: P, w :: vs, 0, m, nd, h1, h2, hk => by
    simp at h1 h2; subst h1; subst h2
    show bindL kindOf ((p, w) :: P.zip vs) m p = _
    unfold bindL
    rw [bindL_out fun v hv => (List.nodup_cons.mp nd).1 (List.of_mem_zip hv).1, if_pos hk]
    simp
  | p :: P, w :: vs, i + 1, m, nd, h1, h2, hk => by
    show bindL kindOf ((p, w) :: P.zip vs) m x = _
    unfold bindL
    exact bindL_get (i := i) (List.nodup_cons.mp nd).2 (by simpa using h1) (by simpa using h2) hk
theorem bindC_get {kindOf : Str → Option NameKind} {x : Str} {v : Value} : ∀ {P : List Str} {vs : List Value} {i : Nat} {m : Str → Option Value}, P.Nodup → P[i]? = some x → vs[i]? = some v → kindOf x ≠ some .local →
    bindC kindOf (P.zip vs) m x = some v
  | [], _, _, _, _, h, _, _ => by simp at h
  | _ :: _, [], _, _, _, _, h, _ => by simp at h
  | p :: P, w :: vs, 0, m, nd, h1, h2, hk => by
    simp at h1 h2; subst h1; subst h2
    show bindC kindOf ((p, w) :: P.zip vs) m p = _
    unfold bindC
    rw [bindC_out fun v hv => (List.nodup_cons.mp nd).1 (List.of_mem_zip hv).1, if_neg hk]
    simp
  | p :: P, w :: vs, i + 1, m, nd, h1, h2, hk => by
    show bindC kindOf ((p, w) :: P.zip vs) m x = _
    unfold bindC
    exact bindC_get (i := i) (List.nodup_cons.mp nd).2 (by simpa using h1) (by simpa using h2) hk

/-- the names' values at the entry -/
def start (N : List Str) (vs : List V) : St := vs.map some ++ List.replicate (N.length - vs.length) none

/-- the context of a def's body, at its entry; an exception leaves the frame, then lies as CX says -/
def cxOf (CX : CXT) (P : Program) (w : World) (K : PySem.W.Frag) (mg : Str → Option Value) (base : Heap) (N : List Str) (qual : Str) (scope : Scope) (f : Addr) (cd : Value) (A : Around) (outer : List Env) (s : Shared) (H : Hp) (E : XK) : Cx where
  prog := P
  w := w
  K := K
  mg := mg
  base := base
  A := A.deeper (envOfC qual scope s.heap.objs.size f cd)
  N := N
  s₀ := s
  H₀ := H
  env := envOfC qual scope s.heap.objs.size f cd
  outer := outer
  stack := envOfC qual scope s.heap.objs.size f cd :: outer
  ex := []
  calm := true
  fn := fun _ => true
  pn := []
  xe := fun e s' => wpAny (model P w) (A.deeper (envOfC qual scope s.heap.objs.size f cd)) (leaving (envOfC qual scope s.heap.objs.size f cd) e) (fun _ s'' => CX outer H s E e s'') (fun e' s'' => CX outer H s E e' s'') s'

theorem cell_has {sc : Scope} {n : Nat} {x : Str} (h : sc.names.lookup x = some .cell) : ∃ c, (cellsFrom n sc.names []).lookup x = some c := by
  have q := PySem.W.cellsFrom_some sc.names n [] (.inl h)
  exact Option.isSome_iff_exists.mp q

theorem inv_start {CX : CXT} {P : Program} {w : World} {K : PySem.W.Frag} {mg : Str → Option Value} {base : Heap} {N ps : List Str} {qual : Str} {scope : Scope} {f : Addr} {cd : Value} {A : Around} {outer : List Env} {s s1 : Shared} {H : Hp} {E : XK} {us : List Value} {vs : List V}
    (S : FnScope N ps scope) (hd : A.handled = none) (e0 : Env0 P w K mg base A outer s H) (hl : vs.length = ps.length) (r : Vals vs us)
    (x : InCallC s s.heap.objs.size (bindL (envOfC qual scope s.heap.objs.size f cd).kindOf (ps.zip us) fun _ => none) (cellsFrom (s.heap.objs.size + 1) scope.names []) (bindC (envOfC qual scope s.heap.objs.size f cd).kindOf (ps.zip us) fun _ => none) s1) :
    Inv (cxOf CX P w K mg base N qual scope f cd A outer s H E) [] (start N vs) H s1 := by
  have hpl : ps.length ≤ N.length := by have := congrArg List.length S.pre; rw [List.length_take] at this; omega
  obtain ⟨h1, tk, rfl, hk⟩ := x.done
  have noA : ∀ b : Addr, b ∉ (cxOf CX P w K mg base N qual scope f cd A outer s H E).ex := fun b z => absurd (show b ∈ ([] : List Addr) from z) (by simp)
  refine ⟨⟨e0.mod, S.kind, rfl, rfl, Nat.le_refl _, fun y z c h1 h2 => ?_, fun y hy => ?_, fun y c _ h => ?_, fun _ => hd, Around.frames_deeper e0.frames, .inr ⟨rfl, rfl⟩, fun b z => absurd z (noA b), e0.bs, e0.bsz, fun b _ _ => noA b, fun b z => absurd z (noA b), e0.funs, e0.frf⟩,
    rfl, e0.bare, Un.kept hk, ⟨_, x.toInCall.ns, fun i y v h1 h2 h3 => ?_⟩, fun y c h => ⟨_, x.cell y c h⟩, e0.hok.fresh (Nat.le_refl _), fun y c h => ?_, fun p hp => absurd (show p ∈ ([] : List (Addr × Obj)) from hp) (by simp), e0.hok.kept hk, ?_⟩
  · exact name_of_addr x.apart (PySem.mem_of_lookup h1) (PySem.mem_of_lookup h2)
  · have hy : scope.names.lookup y = some .cell ∨ scope.names.lookup y = some .free := hy
    rcases hy with hy | hy
    · exact cell_has hy
    · exact absurd rfl (S.nofree _ (PySem.mem_of_lookup hy))
  · exact Nat.le_of_lt (x.above y c (PySem.mem_of_lookup h))
  · have hi : i < vs.length := by
      unfold start at h2
      by_cases hi : i < vs.length
      · exact hi
      · rw [List.getElem?_append_right (by simpa using hi)] at h2
        rw [List.getElem?_replicate] at h2
        split at h2 <;> cases h2
    have ha : vs[i]? = some v := by
      unfold start at h2
      rw [List.getElem?_append_left (by simpa using hi), List.getElem?_map] at h2
      cases e : vs[i]? with
      | none => rw [e] at h2; cases h2
      | some a => rw [e] at h2; cases h2; rfl
    obtain ⟨u, hu, rv⟩ := r.get ha
    have hp : ps[i]? = some y := by
      rw [← S.pre, List.getElem?_take_of_lt (by omega)]; exact h1
    have ndP : ps.Nodup := by rw [← S.pre]; exact S.nd.sublist (List.take_sublist _ _)
    refine ⟨u, rv, ?_⟩
    rcases S.par y (List.mem_of_getElem? hp) with k | k
    · exact .inl ⟨k, bindL_get ndP hp hu k⟩
    · obtain ⟨c, e⟩ := cell_has (n := s.heap.objs.size + 1) k
      refine .inr ⟨.inl k, c, e, ?_⟩
      have q := x.cell y c e
      rw [bindC_get ndP hp hu (by show scope.names.lookup y ≠ _; rw [k]; decide)] at q
      exact q
  · exact e0.hok.fresh (Nat.le_of_lt (x.above y c (PySem.mem_of_lookup h)))
  · unfold start
    show _ = N.length
    rw [List.length_append, List.length_map, List.length_replicate]
    omega

/-- THE RULE: a def (or a method) of the text, by its body. The body's reading t is chosen for each entry; it is run at the parameters' values -/
theorem fn_of {CX : CXT} {P : Program} {w : World} {K : PySem.W.Frag} {mg : Str → Option Value} {base : Heap} {k : Nat} {f : Addr} {name qual : Str} {params : Arguments} {body : List Stmt} {scope : Scope} {dV kV doc pm cdv ct oc : Value} {an od : Option Addr}
    {osl : Array (Option Value)} {N ps : List Str} {sp : Sp} (lk : K.lookup f = some ⟨oc, od, .func (PySem.W.fnOf name qual params body scope dV kV doc pm an cdv ct), osl⟩) (hcd : PySem.W.codeIn K cdv qual = true) (S : FnScope N ps scope)
    (len : ∀ vs H Q E, sp vs H Q E → vs.length = ps.length)
    (hbody : ∀ (A : Around) (outer : List Env) (s : Shared) (H : Hp) (vs : List V) (Q : VK) (E : XK), Room k (A.deeper (envOfC qual scope s.heap.objs.size f cdv)) → sp vs H Q E →
      ∃ t, PSs (cxOf CX P w K mg base N qual scope f cdv A outer s H E) body t ∧ t { nx := fun _ H' => Q .non H', rt := Q } (start N vs) H) :
    FnOk P w K mg base CX (k + 1) f (PySem.W.fnOf name qual params body scope dV kV doc pm an cdv ct) ps sp := by
  refine ⟨len, fun A outer s H args us vs Q E hr e0 hb r hsp => ?_⟩
  have hl := len _ _ _ _ hsp
  have KX : K.In s.heap := e0.mod.kin.keeps fun b o e => (e0.bs b o e).1
  have lim : s.heap.NoLimit := e0.mod.nolimit.keeps fun b o e => (e0.bs b o e).1
  have hkind : ∀ y ∈ ps.zip us, scope.names.lookup y.1 = some .local ∨ (scope.names.lookup y.1 = some .cell ∧ ((cellsFrom (s.heap.objs.size + 1) scope.names []).lookup y.1).isSome = true) := fun ⟨n, v⟩ hy => by
    rcases S.par n (List.of_mem_zip hy).1 with q | q
    · exact .inl q
    · exact .inr ⟨q, PySem.W.cellsFrom_some _ _ _ (.inl q)⟩
  refine codeAny_call_function hr.depth (KX _ _ lk) rfl S.co S.gen rfl (PySem.W.codeRec_of KX hcd) (hb _ _ _ _ ?_)
  refine wpAny_newFunctionEnv_cells S.kind hkind fun env he s1 x => ?_
  subst he
  refine ⟨lim.keeps x.toInCall.keep, codeAny_func ?_⟩
  obtain ⟨t, ht, hq⟩ := hbody A outer s H vs Q E (hr.deeper _) hsp
  have I : Inv (cxOf CX P w K mg base N qual scope f cdv A outer s H E) [] (start N vs) H s1 := inv_start S hr.hd e0 hl r x
  refine wpAny_mono (ht [] s1 (start N vs) H _ I hq) (fun fl s' hs => ?_) fun e s' hs => hs
  have fin : ∀ {σ' : St} {H' : Hp} {v : V} {u : Value}, Inv (cxOf CX P w K mg base N qual scope f cdv A outer s H E) [] σ' H' s' → RelV v u → Q v H' → CE outer P w H s Q u s' :=
    fun {σ' H' v u} J rv q => ⟨v, H', J.os, J.bare, J.base, J.hok, rv, q⟩
  cases fl with
  | ret u =>
    obtain ⟨v, σ', H', J, rv, q⟩ := hs
    exact fin J rv q
  | next =>
    obtain ⟨σ', H', J, q⟩ := hs
    exact fin (v := V.non) (u := Value.none) J rfl q
  | brk =>
    obtain ⟨_, _, _, q⟩ := hs
    exact False.elim q
  | cont =>
    obtain ⟨_, _, _, q⟩ := hs
    exact False.elim q
end L2

namespace L2
open PySem PySem.Spec PyProof.Rows
section
variable {X : Cx} {x : Str} {p pos : Pos} {e : Expr} {es : List Expr} {t : TA} {id T : String} {r : List V → Hp → VK → Prop}

def tCB (r : List V → Hp → VK → Prop) (t : TA) : TE := fun σ H Q => t σ H fun vs H1 => r vs H1 Q
/-- f(e, ..), f a built-in function -/
theorem pe_callB (hc : CallR X (.builtin id) r) (hg : Gl X x) (hm : X.mg x = none) (hv : bootBuiltins x = some (.builtin id)) (ha : PA X (e :: es) t) (hn : x ≠ "__name__" := by decide) (hdb : (x == ("__debug__" : Str)) = false := by decide)
    (he : starEach (e :: es) X.env = (false, eval e X.env) :: starEach es X.env := by rfl) (hpl : (backTo pos (starEach es X.env)).any (·.1) = false := by rfl) : PE X (.Call (.Name x p) (e :: es) [] pos) (tCB r t) := by
  intro pins s σ H Q I h
  refine wpAny_Call_Name_kw (ld_blt I hg hm hv ?_ hn hdb)
  exact PyProof.Rows.callWith_builtin1 (thn (ha pos pins s σ H _ I h) fun us s1 ⟨vs, H1, I1, r1, q1⟩ => hc pins s1 σ H1 vs us Q I1 r1 q1) he hpl
/-- T(e, ..), T a built-in type -/
theorem pe_callTy (hc : CallR X (.type T) r) (hg : Gl X x) (hm : X.mg x = none) (hv : bootBuiltins x = some (.type T)) (ha : PA X (e :: es) t) (hn : x ≠ "__name__" := by decide) (hdb : (x == ("__debug__" : Str)) = false := by decide)
    (he : starEach (e :: es) X.env = (false, eval e X.env) :: starEach es X.env := by rfl) (hpl : (backTo pos (starEach es X.env)).any (·.1) = false := by rfl) : PE X (.Call (.Name x p) (e :: es) [] pos) (tCB r t) := by
  intro pins s σ H Q I h
  refine wpAny_Call_Name_kw (ld_blt I hg hm hv ?_ hn hdb)
  exact PyProof.Rows.callWith_type1 (thn (ha pos pins s σ H _ I h) fun us s1 ⟨vs, H1, I1, r1, q1⟩ => hc pins s1 σ H1 vs us Q I1 r1 q1) he hpl
end
end L2

namespace HT
open PySem PyProof.Rows

section
open PySem.SeqAt
open PySem.AutoSeq1 (wpAny_loadPart')
open PySem.MeetsSeq PySem.MeetsSeq2 PySem.MeetsSeq3

end

section
variable {prog : Program} {w : World} {A : Around} {E : Value → Shared → Prop} {s : Shared}

/-- t + u, t not empty -/
theorem cat_tup {t b : Addr} {vs ws : List Value} {Q : Value → Shared → Prop} (ht : IsTup s.heap t vs.toArray) (hb : IsTup s.heap b ws.toArray) (hv : vs ≠ [])
    (h1 : ws = [] → Q (.ref t) s) (h2 : ws ≠ [] → Q (.ref s.heap.objs.size) { s with heap := s.heap.push { cls := .type "tuple", data := .seq (vs ++ ws).toArray } })
    (hsz : vs.length + ws.length ≤ sizeLine) : wpAny (model prog w) A (binaryOp .Add (.ref t) (.ref b)) Q E s := by
  obtain ⟨⟨cls, dd, data, sl⟩, ho, hc, n, hd⟩ := id ht
  obtain ⟨⟨cls2, dd2, data2, sl2⟩, ho2, hc2, n2, hd2⟩ := id hb
  simp only at hc hd hc2 hd2
  subst hc hd hc2 hd2
  have e : vs.toArray ++ ws.toArray = (vs ++ ws).toArray := by simp
  by_cases hw : ws = []
  · exact concat_meets ⟨_, ho, rfl⟩ ⟨_, ho2, rfl⟩ noFill_tuple_add seq_tuple_add PySem.F.slot_tuple_add PySem.F.entry_tuple_add (PySem.F.args_tuple_add_2 _ _)
      (tuple_addW1 t b vs.toArray ws.toArray n n2 dd dd2 sl sl2 (by simpa using hv) (by simp [hw])) ⟨ho, ho2, h1 hw⟩
  · refine concat_meets ⟨_, ho, rfl⟩ ⟨_, ho2, rfl⟩ noFill_tuple_add seq_tuple_add PySem.F.slot_tuple_add PySem.F.entry_tuple_add (PySem.F.args_tuple_add_2 _ _)
      (tuple_addW2 t b vs.toArray ws.toArray n n2 dd dd2 sl sl2 (by simpa using hv) (by simpa using hw) (by rw [List.size_toArray, List.size_toArray]; exact hsz)) ⟨ho, ho2, ?_⟩
    rw [e]
    exact h2 hw

/-! ### t[a:b], not the whole -/
/-- a slice's bound as a place among n (d where it is left out) -/
def sIx (n d : Nat) : Option Int → Nat
  | none => d
  | some v => if v < 0 then (v + (n : Int)).toNat else min v.toNat n
theorem sIx_le (n d : Nat) (hd : d ≤ n) (o : Option Int) : sIx n d o ≤ n := by
  cases o with
  | none => exact hd
  | some v =>
    show (if v < 0 then (v + (n : Int)).toNat else min v.toNat n) ≤ n
    by_cases hv : v < 0
    · rw [if_pos hv]; omega
    · rw [if_neg hv]; exact Nat.min_le_right _ _
theorem clip_eq (v : Int) (n d : Nat) : (if v < 0 then max (v + (n : Int)) 0 else min v (n : Int)) = ((sIx n d (some v) : Nat) : Int) := by
  show (if v < 0 then max (v + (n : Int)) 0 else min v (n : Int)) = (((if v < 0 then (v + (n : Int)).toNat else min v.toNat n) : Nat) : Int)
  by_cases hv : v < 0
  · simp only [if_pos hv]; omega
  · simp only [if_neg hv]; omega
theorem adjust_gen (lo hi : Option Int) (n : Nat) : Builtin.Slice.sliceAdjust lo hi 1 (n : Int) = (((sIx n 0 lo : Nat) : Int), ((sIx n n hi : Nat) : Int)) := by
  have h1 : ¬ ((1 : Int) < 0) := by omega
  unfold Builtin.Slice.sliceAdjust
  simp only [h1, if_false]
  refine Prod.ext ?_ ?_
  · cases lo with
    | none => rfl
    | some v => exact clip_eq v n 0
  · cases hi with
    | none => rfl
    | some v => exact clip_eq v n n
theorem places_gen (i j : Nat) : Builtin.Slice.slicePlaces (i : Int) (j : Int) 1 = j - i := by
  unfold Builtin.Slice.slicePlaces
  have h1 : (1 : Int) > 0 := by omega
  simp only [h1, if_true, Int.ediv_one]
  split <;> omega
theorem slicePart_ {v : Value} {o : Option Int} {Q : Option Int → Shared → Prop} (p : IsPart v o) (h : Q o s) : wpAny (model prog w) A (Builtin.Slice.slicePartIndex v) Q E s := by
  cases p with
  | none => exact slicePart_none h
  | int i t => exact slicePart_int h
theorem sliceApplied_gen {sl : Addr} {vl vu : Value} {lo hi : Option Int} {n : Nat} {Q : Int × Int × Nat → Shared → Prop} (hs : s.heap.IsSliceOf sl vl vu .none) (pl : IsPart vl lo) (pu : IsPart vu hi)
    (h : Q (((sIx n 0 lo : Nat) : Int), 1, sIx n n hi - sIx n 0 lo) s) : wpAny (model prog w) A (Builtin.Slice.sliceApplied (.ref sl) (pure (n : Int))) Q E s := by
  obtain ⟨os, hos, hcs, hds⟩ := id hs
  unfold Builtin.Slice.sliceApplied Builtin.Slice.sliceFields
  refine wpAny_bind (wpAny_bind (wpAny_field hos hds (x := vl) rfl (wpAny_bind (wpAny_field hos hds (x := vu) rfl (wpAny_bind (wpAny_field hos hds (x := .none) rfl (wpAny_pure ?_)))))))
  refine wpAny_bind (slicePart_none ?_)
  show wpAny _ _ (if ((1 : Int) == 0) = true then _ else _) _ _ s
  rw [if_neg (by decide)]
  refine wpAny_bind (slicePart_ pl (wpAny_bind (slicePart_ pu (wpAny_bind (wpAny_pure ?_)))))
  show wpAny _ _ (match Builtin.Slice.sliceAdjust lo hi 1 (n : Int) with | (lo, hi) => pure (lo, (1 : Int), Builtin.Slice.slicePlaces lo hi 1)) _ _ s
  rw [adjust_gen lo hi n]
  show wpAny _ _ (pure (((sIx n 0 lo : Nat) : Int), (1 : Int), Builtin.Slice.slicePlaces ((sIx n 0 lo : Nat) : Int) ((sIx n n hi : Nat) : Int) 1)) _ _ s
  rw [places_gen]
  exact wpAny_pure h
theorem pick_gen (xs : Array Value) (i k : Nat) : ((List.range k).filterMap fun (m : Nat) => xs[((i : Int) + (m : Int) * 1).toNat]?).toArray = ((xs.toList.drop i).take k).toArray := by
  have e : (fun (m : Nat) => xs[((i : Int) + (m : Int) * 1).toNat]?) = fun m => xs[i + m]? := by
    funext m
    have : ((i : Int) + (m : Int) * 1).toNat = i + m := by omega
    rw [this]
  rw [e]
  have := pick_run xs i k
  rw [List.filterMap_map] at this
  have e2 : ((fun x => xs[x]?) ∘ fun x => i + x) = fun m => xs[i + m]? := rfl
  rw [e2] at this
  rw [this]

theorem getItem_tuple_cut {t sl : Addr} {items : Array Value} {vl vu : Value} {lo hi : Option Int} {Q : Value → Shared → Prop} (ht : IsTup s.heap t items) (hs : s.heap.IsSliceOf sl vl vu .none) (pl : IsPart vl lo) (pu : IsPart vu hi)
    (hw : ¬ (sIx items.size 0 lo = 0 ∧ sIx items.size items.size hi = items.size))
    (h : Q (.ref s.heap.objs.size) { s with heap := s.heap.push { cls := .type "tuple", data := .seq ((items.toList.drop (sIx items.size 0 lo)).take (sIx items.size items.size hi - sIx items.size 0 lo)).toArray } })
    (hsz : items.size ≤ sizeLine) : wpAny (model prog w) A (getItem (.ref t) (.ref sl)) Q E s := by
  have htake : sizeOk (.seq ((items.toList.drop (sIx items.size 0 lo)).take (sIx items.size items.size hi - sIx items.size 0 lo)).toArray) := by
    show ((items.toList.drop (sIx items.size 0 lo)).take (sIx items.size items.size hi - sIx items.size 0 lo)).toArray.size ≤ sizeLine
    rw [List.size_toArray, List.length_take, List.length_drop, Array.length_toList]
    omega
  have hj : sIx items.size items.size hi ≤ items.size := sIx_le _ _ (Nat.le_refl _) hi
  obtain ⟨os, hos, hcs, hds⟩ := id hs
  have hTs : s.TypeIs (.ref sl) "slice" := ⟨os, hos, hcs⟩
  unfold getItem
  try with_reducible refine wpAny_holding ?_
  first | refine wpAny_bind (wpAny_pure ?_) | skip
  refine wpAny_bind (wpAny_sequenceKey ht.typeIs (by decide) ?_)
  refine wpAny_bind (wpAny_callSpecial?_slot (name := Str.ofString "__getitem__") ht.typeIs PyProof.Rows.slot_tuple_getitem
    (wpAny_call_entry PyProof.Rows.slot_tuple_getitem ht.typeIs entry_tuple_getitem ?_ (args_tuple_getitem _ _)))
  show wpAny _ _ (Builtin.Tuple.tupleItemsOf (.ref t) >>= _) _ _ s
  refine wpAny_bind (tupleItemsOf_ ht ?_)
  refine wpAny_bind (wpAny_typeOf hTs ?_)
  rw [if_pos (by decide)]
  refine wpAny_bind (sliceApplied_gen hs pl pu ?_)
  have hno : ¬ ((((sIx items.size 0 lo : Nat) : Int) == 0 && (1 : Int) == 1 && (sIx items.size items.size hi - sIx items.size 0 lo) == items.size) = true) := by
    intro q
    rw [Bool.and_eq_true, Bool.and_eq_true] at q
    have q1 : ((sIx items.size 0 lo : Nat) : Int) = 0 := eq_of_beq q.1.1
    have q2 : sIx items.size items.size hi - sIx items.size 0 lo = items.size := eq_of_beq q.2
    exact hw ⟨by omega, by omega⟩
  show wpAny _ _ (if (((sIx items.size 0 lo : Nat) : Int) == 0 && (1 : Int) == 1 && (sIx items.size items.size hi - sIx items.size 0 lo) == items.size) = true then _ else _) _ _ s
  rw [if_neg hno, pick_gen]
  first
    | exact wpAny_bind (m := Builtin.Tuple.tupleExact _) (wpAny_newObj_type (wpAny_pure ⟨_, rfl, wpAny_pure h⟩) htake)
    | exact wpAny_bind (m := Builtin.Tuple.tupleExact _) (wpAny_newObj_type (wpAny_bind (wpAny_pure (wpAny_pure ⟨_, rfl, wpAny_pure h⟩))) htake)
    | exact wpAny_bind (wpAny_bind (m := Builtin.Tuple.tupleExact _) (wpAny_newObj_type (wpAny_pure (wpAny_pure ⟨_, rfl, wpAny_pure h⟩)) htake))
    | exact wpAny_bind (wpAny_bind (m := Builtin.Tuple.tupleExact _) (wpAny_newObj_type (wpAny_pure ⟨_, rfl, wpAny_pure h⟩) htake))
end
end HT

namespace L2
open PySem PySem.Spec PyProof.Rows

/-! ### the parts of a slice -/
abbrev TO := St → Hp → (Option Int → Hp → Prop) → Prop
/-- a slice's part (left out, or an int) -/
def PO (X : Cx) (e : Option Expr) (t : TO) : Prop :=
  ∀ (pins : List (Addr × Obj)) (s : Shared) (σ : St) (H : Hp) (Q : Option Int → Hp → Prop), Inv X pins σ H s → t σ H Q →
    wpAny (model X.prog X.w) X.A (evalPart e X.env) (fun u s' => ∃ o H', Inv X pins σ H' s' ∧ IsPart u o ∧ Q o H') X.xe s
def tNoPart : TO := fun _ H Q => Q none H
def tPart (t : TE) : TO := fun σ H Q => t σ H fun x H1 => ∃ i, x = .int i ∧ Q (some i) H1

section
variable {X : Cx} {e : Expr} {te : TE} {lo hi : Option Expr} {tl th : TO} {pos p2 : Pos}

theorem po_none : PO X none tNoPart := by
  intro pins s σ H Q I h
  rw [evalPart_none]
  exact wpAny_pure ⟨none, H, I, .none, h⟩
theorem po_some (h : PE X e te) : PO X (some e) (tPart te) := by
  intro pins s σ H Q I hw
  rw [evalPart_some]
  refine thn (h pins s σ H _ I hw) fun u s1 ⟨x, H1, I1, r1, q1⟩ => ?_
  obtain ⟨i, rfl, q⟩ := q1
  obtain ⟨t, rfl⟩ := r1
  exact ⟨some i, H1, I1, .int i t, q⟩

/-- what a slice of a value is, by values: the slice object stands at sl -/
def SlR (X : Cx) (r : V → Option Int → Option Int → Hp → VK → Prop) : Prop :=
  ∀ (pins : List (Addr × Obj)) (s : Shared) (σ : St) (H : Hp) (x : V) (v vl vu : Value) (lo hi : Option Int) (sl : Addr) (Q : VK), Inv X pins σ H s → RelV x v → s.heap.IsSliceOf sl vl vu .none → IsPart vl lo → IsPart vu hi → r x lo hi H Q →
    ∃ T id, typeLookup (.type T) "__getitem__" = pure (some (.builtin id)) ∧ s.TypeIs v T ∧ wpAny (model X.prog X.w) X.A (getItem v (.ref sl)) (EP X pins σ Q) X.xe s
theorem SlR.or {r r' : V → Option Int → Option Int → Hp → VK → Prop} (h : SlR X r) (h' : SlR X r') : SlR X (fun x lo hi H Q => r x lo hi H Q ∨ r' x lo hi H Q) := by
  intro pins s σ H x v vl vu lo hi sl Q I rx hs pl pu q
  rcases q with q | q
  · exact h pins s σ H x v vl vu lo hi sl Q I rx hs pl pu q
  · exact h' pins s σ H x v vl vu lo hi sl Q I rx hs pl pu q
def tSl (r : V → Option Int → Option Int → Hp → VK → Prop) (te : TE) (tl th : TO) : TE := fun σ H Q => te σ H fun x H1 => tl σ H1 fun l H2 => th σ H2 fun u H3 => r x l u H3 Q
/-- a[lo:hi], any a -/
theorem pe_slice {r : V → Option Int → Option Int → Hp → VK → Prop} (hr : SlR X r) (he : PE X e te) (hl : PO X lo tl) (hu : PO X hi th) : PE X (.Subscript e (.Slice lo hi none p2) pos) (tSl r te tl th) := by
  intro pins s σ H Q I h
  refine Subscript_ (thn (he pins s σ H _ I h) fun v s1 ⟨x, H1, I1, r1, q1⟩ => ?_)
  refine wpAny_Slice (thn (hl pins s1 σ H1 _ I1 q1) fun vl s2 ⟨l, H2, I2, pl, q2⟩ => thn (hu pins s2 σ H2 _ I2 q2) fun vu s3 ⟨u, H3, I3, pu, q3⟩ => ?_)
  rw [evalPart_none]
  refine wpAny_pure ?_
  have I4 : Inv X pins σ H3 { s3 with heap := s3.heap.push { cls := .type "slice", data := .fields #[vl, vu, .none] } } := I3.kept (t' := s3.toks) fun b ob q => Heap.get?_push_of_some _ q
  obtain ⟨T, id, hT, ht, hg⟩ := hr pins { s3 with heap := s3.heap.push { cls := .type "slice", data := .fields #[vl, vu, .none] } } σ H3 x v vl vu l u s3.heap.objs.size Q I4 r1 (Heap.IsSliceOf.new ..) pl pu q3
  show wpAny (model X.prog X.w) X.A (subscriptTail e (.Slice lo hi none p2) v (.ref s3.heap.objs.size)) (EP X pins σ Q) X.xe { s3 with heap := s3.heap.push { cls := .type "slice", data := .fields #[vl, vu, .none] } }
  exact tail_any (ops := [.ref s3.heap.objs.size, v]) ht hT hg (by with_unfolding_all rfl)

/-- the items of xs[lo:hi] -/
def cutV (xs : List V) (lo hi : Option Int) : List V := (xs.drop (HT.sIx xs.length 0 lo)).take (HT.sIx xs.length xs.length hi - HT.sIx xs.length 0 lo)
theorem cutV_length (xs : List V) (lo hi : Option Int) : (cutV xs lo hi).length ≤ xs.length := by
  unfold cutV
  rw [List.length_take, List.length_drop]
  omega
/-- t[lo:hi], not the whole of it (the whole would be t itself) -/
def rSlT (K : PySem.W.Frag) : V → Option Int → Option Int → Hp → VK → Prop := fun x lo hi H Q => ∃ a xs, x = .ref a ∧ SqT K H a xs ∧
  ¬ (HT.sIx xs.length 0 lo = 0 ∧ HT.sIx xs.length xs.length hi = xs.length) ∧ ∀ p, H p = none → Q (.ref p) (upd H p (.tup (cutV xs lo hi)))
theorem sl_tup : SlR X (rSlT X.K) := by
  intro pins s σ H x v vl vu lo hi sl Q I rx hs pl pu h
  obtain ⟨a, xs, rfl, hx, hw, q⟩ := h
  cases rx
  obtain ⟨its, r, ht, hz⟩ := I.tuple hx
  have hlen : its.toArray.size = xs.length := by rw [List.size_toArray]; exact r.length.symm
  refine ⟨"tuple", _, PyProof.Rows.slot_tuple_getitem.lookup, ht.typeIs, ?_⟩
  refine HT.getItem_tuple_cut ht hs pl pu (by rw [hlen]; exact hw) ?_ (by rw [hlen]; exact hz)
  rw [hlen]
  refine ⟨.ref s.heap.objs.size, _, I.laid (t' := s.toks) (o := .tup (cutV xs lo hi)) (fun b ob q => Heap.get?_push_of_some _ q) (Nat.le_refl _) ?_, rfl, q _ (I.hok.fresh (Nat.le_refl _))⟩
  exact ⟨Nat.le_trans (cutV_length xs lo hi) hz, _, (r.drop (HT.sIx xs.length 0 lo)).take (HT.sIx xs.length xs.length hi - HT.sIx xs.length 0 lo), IsTup.new _ _⟩

/-! ### t < u, t + u -/
/-- t + u, t not empty: u empty gives t itself -/
def rCatT (K : PySem.W.Frag) : R2 := fun x y H Q => ∃ a b xs ys, x = .ref a ∧ y = .ref b ∧ SqT K H a xs ∧ SqT K H b ys ∧ xs ≠ [] ∧ xs.length + ys.length ≤ sizeLine ∧
  (ys = [] → Q (.ref a) H) ∧ (ys ≠ [] → ∀ p, H p = none → Q (.ref p) (upd H p (.tup (xs ++ ys))))
theorem Vals.nil_iff {xs : List V} {us : List Value} (r : Vals xs us) : us = [] ↔ xs = [] := by
  cases r with
  | nil => simp
  | cons _ _ => simp
theorem op_catT : OpR X (binaryOp .Add) (rCatT X.K) := by
  intro pins s σ H x y v u Q I rx ry h
  obtain ⟨a, b, xs, ys, rfl, rfl, ha, hb, hx, hz, q1, q2⟩ := h
  cases rx
  cases ry
  obtain ⟨its, r1, p1, _⟩ := I.tuple ha
  obtain ⟨its2, r2, p2, _⟩ := I.tuple hb
  refine HT.cat_tup p1 p2 (fun z => hx (r1.nil_iff.mp z)) (fun z => ⟨.ref a, H, I, rfl, q1 (r2.nil_iff.mp z)⟩) (fun z => ?_) (by rw [← r1.length, ← r2.length]; exact hz)
  refine ⟨.ref s.heap.objs.size, _, I.laid (t' := s.toks) (o := .tup (xs ++ ys)) (fun b ob q => Heap.get?_push_of_some _ q) (Nat.le_refl _) ?_, rfl, q2 (fun w => z (r2.nil_iff.mpr w)) _ (I.hok.fresh (Nat.le_refl _))⟩
  exact ⟨by rw [List.length_append]; exact hz, _, r1.append r2, IsTup.new _ _⟩
end
end L2

namespace L2
open PySem PySem.Spec PyProof.Rows

/-! ### places -/
/-- the place that an index of any sign means -/
def ixN (n : Nat) (i : Int) : Option Nat := if 0 ≤ i then (if i < n then some i.toNat else none) else if -(n : Int) ≤ i then some (i + n).toNat else none
def atI {α : Type} (xs : List α) (i : Int) : Option α := (ixN xs.length i).bind fun j => xs[j]?
theorem ixN_seq {n : Nat} {i : Int} {j : Nat} (h : ixN n i = some j) : seqIndex? i n = some j ∧ j < n ∧ -(n : Int) ≤ i ∧ i < n := by
  unfold ixN at h
  by_cases h0 : 0 ≤ i
  · rw [if_pos h0] at h
    by_cases h1 : i < n
    · rw [if_pos h1] at h
      have e : i.toNat = j := Option.some.inj h
      exact ⟨by rw [seqIndex_of h0 h1, e], by omega, by omega, h1⟩
    · rw [if_neg h1] at h; cases h
  · rw [if_neg h0] at h
    by_cases h1 : -(n : Int) ≤ i
    · rw [if_pos h1] at h
      have e : (i + n).toNat = j := Option.some.inj h
      exact ⟨by rw [seqIndex_neg (by omega) h1, e], by omega, h1, by omega⟩
    · rw [if_neg h1] at h; cases h
theorem atI_get {α : Type} {xs : List α} {i : Int} {v : α} (h : atI xs i = some v) : ∃ j, seqIndex? i xs.length = some j ∧ xs[j]? = some v ∧ j < xs.length ∧ -(xs.length : Int) ≤ i ∧ i < xs.length := by
  unfold atI at h
  cases e : ixN xs.length i with
  | none => rw [e] at h; cases h
  | some j =>
    rw [e] at h
    obtain ⟨h1, h2, h3, h4⟩ := ixN_seq e
    exact ⟨j, h1, h, h2, h3, h4⟩
/-! ### what may be subscripted -/
/-- what stands as an index of a plain subscript -/
def PlainIx (b : Expr) : Prop := ∀ o i, subscripted b false o i = operate [o, i] (getItem o i)
/-- a subscript by values -/
def IxR (X : Cx) (r : R2) : Prop :=
  ∀ (value slice : Expr) (pins : List (Addr × Obj)) (s : Shared) (σ : St) (H : Hp) (x y : V) (v u : Value) (Q : VK), Inv X pins σ H s → RelV x v → RelV y u → r x y H Q →
    subscripted slice false v u = operate [v, u] (getItem v u) → wpAny (model X.prog X.w) X.A (subscriptTail value slice v u) (EP X pins σ Q) X.xe s
/-- a call of a builtin's method by values: the receiver, the arguments -/
def MtR (X : Cx) (id : String) (r : V → List V → Hp → VK → Prop) : Prop :=
  ∀ (pins : List (Addr × Obj)) (s : Shared) (σ : St) (H : Hp) (x : V) (xs : List V) (v : Value) (us : List Value) (Q : VK), Inv X pins σ H s → RelV x v → Vals xs us → r x xs H Q →
    wpAny (model X.prog X.w) X.A (call (.builtin id) (v :: us)) (EP X pins σ Q) X.xe s
section
variable {X : Cx} {a b : Expr} {ta tb : TE} {pos : Pos}
theorem IxR.or {r r' : R2} (h : IxR X r) (h' : IxR X r') : IxR X (fun x y H Q => r x y H Q ∨ r' x y H Q) := by
  intro value slice pins s σ H x y v u Q I rx ry q hs
  rcases q with q | q
  · exact h value slice pins s σ H x y v u Q I rx ry q hs
  · exact h' value slice pins s σ H x y v u Q I rx ry q hs
theorem MtR.or {id : String} {r r' : V → List V → Hp → VK → Prop} (h : MtR X id r) (h' : MtR X id r') : MtR X id (fun x xs H Q => r x xs H Q ∨ r' x xs H Q) := by
  intro pins s σ H x xs v us Q I rx rs q
  rcases q with q | q
  · exact h pins s σ H x xs v us Q I rx rs q
  · exact h' pins s σ H x xs v us Q I rx rs q
/-- a[b] -/
theorem pe_ix {r : R2} (hr : IxR X r) (ha : PE X a ta) (hb : PE X b tb) (hs : PlainIx b) : PE X (.Subscript a b pos) (tOp r ta tb) := by
  intro pins s σ H Q I h
  exact Subscript_ (binT ha hb I h fun v u s2 x y H2 I2 rx ry q => hr a b pins s2 σ H2 x y v u Q I2 rx ry q (hs _ _))

def rIxL (K : PySem.W.Frag) : R2 := fun x y H Q => ∃ p xs i v, x = .ref p ∧ y = .int i ∧ SqL K H p xs ∧ atI xs i = some v ∧ Q v H
def rIxT (K : PySem.W.Frag) : R2 := fun x y H Q => ∃ p xs i v, x = .ref p ∧ y = .int i ∧ SqT K H p xs ∧ atI xs i = some v ∧ Q v H
theorem ix_list : IxR X (rIxL X.K) := by
  intro value slice pins s σ H x y v u Q I rx ry h hs
  obtain ⟨p, xs, i, z, rfl, rfl, hq, he, q⟩ := h
  cases rx
  obtain ⟨t, rfl⟩ := ry
  obtain ⟨its, r, pl, hz⟩ := I.list hq
  obtain ⟨j, h1, h2, h3, h4, h5⟩ := atI_get he
  obtain ⟨w, ew, rw'⟩ := r.get h2
  have hl := r.length
  have hn := line63
  have fin : EP X pins σ Q w s := ⟨z, H, I, rw', q⟩
  by_cases h0 : 0 ≤ i
  · have hj : i.toNat = j := by
      rw [seqIndex_of h0 h5] at h1
      exact Option.some.inj h1
    exact item_listR pl.isList h0 (by omega) (by rw [hj]; simpa using ew) fin hs
  · have hj : (i + (its.toArray.size : Int)).toNat = j := by
      rw [seqIndex_neg (by omega) h4] at h1
      rw [List.size_toArray, ← hl]
      exact Option.some.inj h1
    exact subscriptTail_builtinR (x := w) pl.isList.typeIs slot_list_getitem.lookup
      (wpAny_getItem_list_neg (Q := fun r s' => r = w ∧ EP X pins σ Q r s') pl.isList (by omega) (by rw [List.size_toArray] <;> omega) (by omega) (by rw [hj]; simpa using ew) ⟨rfl, fin⟩) hs
theorem ix_tup : IxR X (rIxT X.K) := by
  intro value slice pins s σ H x y v u Q I rx ry h hs
  obtain ⟨p, xs, i, z, rfl, rfl, hq, he, q⟩ := h
  cases rx
  obtain ⟨t, rfl⟩ := ry
  obtain ⟨its, r, pl, hz⟩ := I.tuple hq
  obtain ⟨j, h1, h2, h3, h4, h5⟩ := atI_get he
  obtain ⟨w, ew, rw'⟩ := r.get h2
  have hl := r.length
  have hn := line63
  have fin : EP X pins σ Q w s := ⟨z, H, I, rw', q⟩
  exact subscriptTail_builtinR (x := w) pl.typeIs slot_tuple_getitem.lookup
    (getItem_tuple (j := j) (Q := fun r s' => r = w ∧ EP X pins σ Q r s') pl (by omega) (by omega) (by rw [List.size_toArray, ← hl]; exact h1) (by simpa using ew) ⟨rfl, fin⟩) hs
/-! ### xs[i] = v, any sign -/
theorem Inv.lst {pins : List (Addr × Obj)} {σ : St} {H : Hp} {s : Shared} {p : Addr} {xs : List V} (I : Inv X pins σ H s) (h : H p = some (.lst xs)) :
    ∃ (its : List Value) (n : Nat), Vals xs its ∧ s.heap.get? p = some { cls := .type "list", data := .seq its.toArray n } ∧ xs.length ≤ sizeLine := by
  obtain ⟨z, its, n, r, e⟩ := I.hok p _ h
  exact ⟨its, n, r, e, z⟩
/-! ### slices -/
theorem slice_bounds (lo hi : Option Int) (n : Nat) : (sliceBounds lo hi none n).1 = ((HT.sIx n 0 lo : Nat) : Int) ∧ (sliceBounds lo hi none n).2.1 = ((HT.sIx n n hi : Nat) : Int) ∧ (sliceBounds lo hi none n).2.2 = 1 := by
  refine ⟨?_, ?_, rfl⟩
  · cases lo with
    | none => simp [sliceBounds, HT.sIx]
    | some i =>
      simp only [sliceBounds, HT.sIx, Option.getD_none, show (1 : Int) > 0 by decide, if_true]
      by_cases h : i < 0
      · simp only [h, if_true] <;> omega
      · simp only [h, if_false] <;> omega
  · cases hi with
    | none => simp [sliceBounds, HT.sIx]
    | some i =>
      simp only [sliceBounds, HT.sIx, Option.getD_none, show (1 : Int) > 0 by decide, if_true]
      by_cases h : i < 0
      · simp only [h, if_true] <;> omega
      · simp only [h, if_false] <;> omega
theorem slicePick_cut (its : List Value) (lo hi : Option Int) : slicePick its.toArray lo hi none = ((its.drop (HT.sIx its.length 0 lo)).take (HT.sIx its.length its.length hi - HT.sIx its.length 0 lo)).toArray := by
  obtain ⟨h1, h2, h3⟩ := slice_bounds lo hi its.toArray.size
  unfold slicePick
  rw [h1, h2, h3]
  simp only [sliceRange_one, pick_run, List.size_toArray] <;> rfl
/-- xs[lo:hi] of a list: a new list -/
def rSlL (K : PySem.W.Frag) : V → Option Int → Option Int → Hp → VK → Prop := fun x lo hi H Q => ∃ a xs, x = .ref a ∧ SqL K H a xs ∧ ∀ p, H p = none → Q (.ref p) (upd H p (.lst (cutV xs lo hi)))
theorem sl_list : SlR X (rSlL X.K) := by
  intro pins s σ H x v vl vu lo hi sl Q I rx hs pl pu h
  obtain ⟨a, xs, rfl, hx, q⟩ := h
  cases rx
  obtain ⟨its, r, ht, hz⟩ := I.list hx
  have hlen := r.length
  refine ⟨"list", _, slot_list_getitem.lookup, ht.isList.typeIs, ?_⟩
  refine wpAny_getItem_list_slice ht.isList hs pl pu .none (by simp) ?_ (by rw [List.size_toArray] <;> omega)
  rw [slicePick_cut, ← hlen]
  refine ⟨.ref s.heap.objs.size, _, I.laid (t' := s.toks) (o := .lst (cutV xs lo hi)) (fun b ob q => Heap.get?_push_of_some _ q) (Nat.le_refl _) ?_, rfl, q _ (I.hok.fresh (Nat.le_refl _))⟩
  exact ⟨Nat.le_trans (cutV_length xs lo hi) hz, _, 0, (r.drop (HT.sIx xs.length 0 lo)).take (HT.sIx xs.length xs.length hi - HT.sIx xs.length 0 lo), Heap.get?_push_size _ rfl⟩

/-! ### in, not in: flat items -/
def flatV : V → Bool
  | .non => true
  | .bl _ => true
  | .int _ => true
  | .str _ => true
  | _ => false
/-- == of flat values -/
def eqV : V → V → Bool
  | .non, .non => true
  | .bl a, .bl b => a == b
  | .bl a, .int b => (if a then 1 else 0) == b
  | .int a, .bl b => a == (if b then 1 else 0)
  | .int a, .int b => a == b
  | .str a, .str b => a == b
  | _, _ => false
theorem eqAt_V {A : Around} {s : Shared} {y x : V} {u v : Value} (ry : RelV y u) (rx : RelV x v) (fy : flatV y = true) (fx : flatV x = true) : SeqAt.EqAt A s u v (eqV y x) := by
  cases y with
  | non =>
    cases ry
    cases x with
    | non => cases rx; exact SeqAt.EqAt.same _
    | bl b => cases rx; exact SeqAt.EqAt.none_bool b
    | int b => obtain ⟨t, rfl⟩ := rx; exact SeqAt.EqAt.none_int b t
    | str b => obtain ⟨t, rfl⟩ := rx; exact SeqAt.EqAt.none_str b t
    | _ => exact absurd (show false = true from fx) Bool.false_ne_true
  | bl a =>
    cases ry
    cases x with
    | non => cases rx; exact SeqAt.EqAt.bool_none a
    | bl b => cases rx; exact SeqAt.EqAt.bool_bool a b
    | int b => obtain ⟨t, rfl⟩ := rx; exact SeqAt.EqAt.bool_int a b t
    | str b => obtain ⟨t, rfl⟩ := rx; exact SeqAt.EqAt.bool_str a b t
    | _ => exact absurd (show false = true from fx) Bool.false_ne_true
  | int a =>
    obtain ⟨t', rfl⟩ := ry
    cases x with
    | non => cases rx; exact SeqAt.EqAt.int_none a t'
    | bl b => cases rx; exact SeqAt.EqAt.int_bool a t' b
    | int b => obtain ⟨t, rfl⟩ := rx; exact SeqAt.EqAt.int_int a t' b t
    | str b => obtain ⟨t, rfl⟩ := rx; exact SeqAt.EqAt.int_str a t' b t
    | _ => exact absurd (show false = true from fx) Bool.false_ne_true
  | str a =>
    obtain ⟨t', rfl⟩ := ry
    cases x with
    | non => cases rx; exact SeqAt.EqAt.str_none a t'
    | bl b => cases rx; exact SeqAt.EqAt.str_bool a t' b
    | int b => obtain ⟨t, rfl⟩ := rx; exact SeqAt.EqAt.str_int a t' b t
    | str b => obtain ⟨t, rfl⟩ := rx; exact SeqAt.EqAt.str_str a t' b t
    | _ => exact absurd (show false = true from fx) Bool.false_ne_true
  | _ => exact absurd (show false = true from fy) Bool.false_ne_true
/-- the items' answers, read off the values (a value's own answer does not lean on its token) -/
def eqU (x : V) (u : Value) : Bool := match u with
  | .none => eqV .non x
  | .bool b => eqV (.bl b) x
  | .int i _ => eqV (.int i) x
  | .str z _ => eqV (.str z) x
  | _ => false
theorem eqU_of {x y : V} {u : Value} (r : RelV y u) (f : flatV y = true) : eqU x u = eqV y x := by
  cases y with
  | non => cases r; rfl
  | bl b => cases r; rfl
  | int i => obtain ⟨t, rfl⟩ := r; rfl
  | str z => obtain ⟨t, rfl⟩ := r; rfl
  | _ => exact absurd (show false = true from f) Bool.false_ne_true
theorem any_eqU {x : V} : ∀ {xs : List V} {us : List Value}, Vals xs us → xs.all flatV = true → us.any (eqU x) = xs.any fun y => eqV y x
  | _, _, .nil, _ => rfl
  | y :: xs, u :: us, .cons r t, f => by
    rw [List.all_cons, Bool.and_eq_true] at f
    rw [List.any_cons, List.any_cons, eqU_of r f.1, any_eqU t f.2]
theorem mem_eqAt {A : Around} {s : Shared} {x : V} {v : Value} (rx : RelV x v) (fx : flatV x = true) : ∀ {xs : List V} {us : List Value}, Vals xs us → xs.all flatV = true → ∀ u ∈ us, SeqAt.EqAt A s u v (eqU x u)
  | _, _, .nil, _ => fun u hu => by cases hu
  | y :: xs, u :: us, .cons r t, f => fun u' hu => by
    rw [List.all_cons, Bool.and_eq_true] at f
    rcases List.mem_cons.mp hu with rfl | hu
    · rw [eqU_of r f.1]; exact eqAt_V r rx f.1 fx
    · exact mem_eqAt rx fx t f.2 u' hu
def inV (x : V) (xs : List V) : Bool := xs.any fun y => eqV y x
/-- x in a list or tuple of flat items -/
def rIn (K : PySem.W.Frag) (neg : Bool) : R2 := fun x y H Q => ∃ p xs, y = .ref p ∧ (SqL K H p xs ∨ SqT K H p xs) ∧ flatV x = true ∧ xs.all flatV = true ∧ Q (.bl (if neg then !inV x xs else inV x xs)) H
theorem op_in_seq : OpR X (compareOp .In) (rIn X.K false) := by
  intro pins s σ H x y v u Q I rx ry h
  obtain ⟨p, xs, rfl, hq, fx, fs, q⟩ := h
  cases ry
  rcases hq with hq | hq
  · obtain ⟨its, r, pl, hz⟩ := I.list hq
    refine SeqAt.in_listAt (eqU x) pl.isList (fun w hw => mem_eqAt rx fx r fs w (by simpa using hw)) ⟨.bl _, H, I, rfl, ?_⟩
    rw [show its.toArray.any (eqU x) = its.any (eqU x) by simp, any_eqU r fs]
    exact q
  · obtain ⟨its, r, pl, hz⟩ := I.tuple hq
    refine SeqAt.in_tupleAt (eqU x) pl (fun w hw => mem_eqAt rx fx r fs w (by simpa using hw)) ⟨.bl _, H, I, rfl, ?_⟩
    rw [show its.toArray.any (eqU x) = its.any (eqU x) by simp, any_eqU r fs]
    exact q
/-! ### len, list(x), tuple(x) of any list or tuple that is read -/
theorem CallR.or {f : Value} {r r' : List V → Hp → VK → Prop} (h : CallR X f r) (h' : CallR X f r') : CallR X f (fun xs H Q => r xs H Q ∨ r' xs H Q) := by
  intro pins s σ H xs us Q I rs q
  rcases q with q | q
  · exact h pins s σ H xs us Q I rs q
  · exact h' pins s σ H xs us Q I rs q
theorem call_list_of : CallR X (.type "list") (fun xs H Q => ∃ p ys, xs = [.ref p] ∧ (SqL X.K H p ys ∨ SqT X.K H p ys) ∧ ∀ l, H l = none → Q (.ref l) (upd H l (.lst ys))) := by
  intro pins s σ H xs us Q I r h
  obtain ⟨p, ys, rfl, hq, q⟩ := h
  obtain ⟨u, rfl, rx⟩ := vals1 r
  cases rx
  have fin : ∀ (its : List Value), Vals ys its → ys.length ≤ sizeLine → ∀ (h' : Heap) (c' : Nat), (∀ b o', s.heap.get? b = some o' → h'.get? b = some o') →
      h'.get? s.heap.objs.size = some { cls := .type "list", dict := none, data := .seq its.toArray c', slots := #[] } → EP X pins σ Q (.ref s.heap.objs.size) { s with heap := h' } := fun its r' hz h' c' kp e =>
    ⟨.ref s.heap.objs.size, _, I.laid (t' := s.toks) kp (Nat.le_refl _) (show ObjOk X.prog X.w _ h' _ (.lst ys) from ⟨hz, its, c', r', e⟩), rfl, q _ (I.hok.fresh (Nat.le_refl _))⟩
  rcases hq with hq | hq
  · obtain ⟨its, r', pl, hz⟩ := I.list hq
    have hlen := r'.length
    obtain ⟨o, ho, hc, n, hd⟩ := pl.isList
    exact call_list_seq p (.inl rfl) ho hc hd (fun h' c' kp e => fin its r' hz h' c' kp e) (by simp only [List.size_toArray] <;> omega)
  · obtain ⟨its, r', pl, hz⟩ := I.tuple hq
    have hlen := r'.length
    obtain ⟨o, ho, hc, n, hd⟩ := pl
    exact call_list_seq p (.inr rfl) ho hc hd (fun h' c' kp e => fin its r' hz h' c' kp e) (by simp only [List.size_toArray] <;> omega)
theorem call_tuple_of : CallR X (.type "tuple") (fun xs H Q => ∃ p ys, xs = [.ref p] ∧ ((SqL X.K H p ys ∧ ∀ l, H l = none → Q (.ref l) (upd H l (.tup ys))) ∨ (SqT X.K H p ys ∧ Q (.ref p) H))) := by
  intro pins s σ H xs us Q I r h
  obtain ⟨p, ys, rfl, h⟩ := h
  obtain ⟨u, rfl, rx⟩ := vals1 r
  cases rx
  rcases h with ⟨hq, q⟩ | ⟨hq, q⟩
  · obtain ⟨its, r', pl, hz⟩ := I.list hq
    have hlen := r'.length
    refine call_tuple_list pl.isList (fun h' kp => ?_) (by simp only [List.size_toArray] <;> omega)
    have I1 : Inv X pins σ H { s with heap := h' } := I.kept (t' := s.toks) kp
    have I2 : Inv X pins σ (upd H h'.objs.size (.tup ys)) { s with heap := h'.push { cls := .type "tuple", data := .seq its.toArray } } :=
      I1.laid (t' := s.toks) (fun b o e => Heap.get?_push_of_some _ e) (Nat.le_refl _) (show ObjOk X.prog X.w _ _ _ (.tup ys) from ⟨hz, its, r', IsTup.new _ _⟩)
    exact ⟨.ref h'.objs.size, _, I2, rfl, q _ (I1.hok.fresh (Nat.le_refl _))⟩
  · obtain ⟨its, r', pl, hz⟩ := I.tuple hq
    exact call_tuple_same pl ⟨.ref p, H, I, rfl, q⟩

/-! ### the call of a builtin's method: o.m(..) -/
/-- the value is of that builtin type -/
def tyV (K : PySem.W.Frag) (T : String) (x : V) (H : Hp) : Prop := match x with
  | .str _ => T = "str"
  | .int _ => T = "int"
  | .ref p => (T = "list" ∧ ∃ xs, SqL K H p xs) ∨ (T = "tuple" ∧ ∃ o, K.lookup p = some o ∧ o.cls = .type "tuple" ∧ o.dict = none) ∨
      (T = "dict" ∧ ((∃ kvs, H p = some (.dK kvs)) ∨ ∃ kvs, H p = some (.dT kvs))) ∨ (T = "set" ∧ ∃ S n, H p = some (.set S n))
  | _ => False
theorem tyV_is {pins : List (Addr × Obj)} {σ : St} {H : Hp} {s : Shared} {T : String} {x : V} {v : Value} (I : Inv X pins σ H s) (r : RelV x v) (ty : tyV X.K T x H) :
    s.TypeIs v T ∧ ∀ a, v = .ref a → ∃ ob, s.heap.get? a = some ob ∧ ob.dict = none := by
  cases x with
  | str z =>
    obtain ⟨t, rfl⟩ := r
    cases (show T = "str" from ty)
    exact ⟨typeIs_str s z t, fun _ e => nomatch e⟩
  | int i =>
    obtain ⟨t, rfl⟩ := r
    cases (show T = "int" from ty)
    exact ⟨typeIs_int s i t, fun _ e => nomatch e⟩
  | ref p =>
    cases r
    rcases ty with ⟨rfl, xs, hq⟩ | ⟨rfl, o, hk, hc, hd⟩ | ⟨rfl, hk⟩ | ⟨rfl, S, n, hk⟩
    · obtain ⟨its, _, pl, _⟩ := I.list hq
      refine ⟨pl.isList.typeIs, fun a e => ?_⟩
      cases e
      obtain ⟨o, n, e, c, hd, _⟩ := pl
      exact ⟨o, e, hd⟩
    · refine ⟨⟨o, I.kIn p o hk, hc⟩, fun a e => ?_⟩
      cases e
      exact ⟨o, I.kIn _ o hk, hd⟩
    · have z : ∃ o, s.heap.get? p = some o ∧ o.ExactDict := by
        rcases hk with ⟨kvs, hk⟩ | ⟨kvs, hk⟩
        · obtain ⟨_, _, _, _, o, _, _, e, ex, _⟩ := I.hok p _ hk
          exact ⟨o, e, ex⟩
        · obtain ⟨_, _, _, _, o, _, _, e, ex, _⟩ := I.hok p _ hk
          exact ⟨o, e, ex⟩
      obtain ⟨o, e, ex⟩ := z
      refine ⟨⟨o, e, ex.1⟩, fun a e2 => ?_⟩
      cases e2
      exact ⟨o, e, ex.2.1⟩
    · obtain ⟨o, _, _, _, e, ex, _⟩ := I.hok p _ hk
      refine ⟨⟨o, e, ex.1⟩, fun a e2 => ?_⟩
      cases e2
      exact ⟨o, e, ex.2.1⟩
  | _ => exact False.elim ty
def tBM0 (K : PySem.W.Frag) (T : String) (r : V → List V → Hp → VK → Prop) (to : TE) : TE := fun σ H Q => to σ H fun x H1 => tyV K T x H1 ∧ r x [] H1 Q
def tBM (K : PySem.W.Frag) (T : String) (r : V → List V → Hp → VK → Prop) (to : TE) (t : TA) : TE := fun σ H Q => to σ H fun x H1 => tyV K T x H1 ∧ t σ H1 fun xs H2 => r x xs H2 Q
variable {o e : Expr} {es : List Expr} {to : TE} {t : TA} {name : Str} {apos cpos : Pos} {T id : String} {r : V → List V → Hp → VK → Prop}
theorem pe_bm0 (pa : PlainAttrs T) (slot : Slot T name id) (hty : typeOf (.builtin id) = pure (.type "method_descriptor")) (hm : MtR X id r) (ho : PE X o to)
    (hbase : attributeBase o name X.env (eval o X.env) = eval o X.env := by rfl) (hline : (apos.endLine == cpos.line) = true := by rfl) : PE X (.Call (.Attribute o name apos) [] [] cpos) (tBM0 X.K T r to) := by
  intro pins s σ H Q I h
  refine wpAny_Call_method0_late hbase hline (thn (ho pins s σ H _ I h) fun v s1 ⟨x, H1, I1, r1, ty, q1⟩ => ?_)
  obtain ⟨h1, h2⟩ := tyV_is I1 r1 ty
  exact ⟨T, id, pa, slot, hty, h1, h2, Calls.callWith_builtin rfl (PySem.evalArgs_none (hm pins s1 σ H1 x [] v [] Q I1 r1 .nil q1))⟩
theorem pe_bm (pa : PlainAttrs T) (slot : Slot T name id) (hty : typeOf (.builtin id) = pure (.type "method_descriptor")) (hm : MtR X id r) (ho : PE X o to) (ha : PA X (e :: es) t)
    (hbase : attributeBase o name X.env (eval o X.env) = eval o X.env := by rfl)
    (hfew : ((backTo cpos (starEach (e :: es) X.env)).all (fun x => !x.1) && (backToKw cpos (keywordEach [] X.env)).all (fun x => x.1.isSome)
      && decide ((e :: es).length + ([] : List Keyword).length + (if ([] : List Keyword).isEmpty then 0 else 1) < 30)) = true := by rfl)
    (hline : (apos.endLine == cpos.line) = true := by rfl) (hs : starEach (e :: es) X.env = (false, eval e X.env) :: starEach es X.env := by rfl) (hplain : (backTo cpos (starEach es X.env)).any (·.1) = false := by rfl) :
    PE X (.Call (.Attribute o name apos) (e :: es) [] cpos) (tBM X.K T r to t) := by
  intro pins s σ H Q I h
  refine wpAny_Call_method_late hbase hfew hline rfl (thn (ho pins s σ H _ I h) fun v s1 ⟨x, H1, I1, r1, ty, q1⟩ => ?_)
  obtain ⟨h1, h2⟩ := tyV_is I1 r1 ty
  refine ⟨T, id, pa, slot, hty, h1, h2, ?_⟩
  have hA := ha cpos pins s1 σ H1 _ I1 q1
  rw [hs] at hA ⊢
  refine Calls.callWith_builtin (by show (false || (backTo cpos (starEach es X.env)).any (·.1)) = false; rw [hplain] <;> rfl) (Calls.evalArgs_plain ?_)
  exact thn hA fun us s2 ⟨vs, H2, I2, r2, q2⟩ => hm pins s2 σ H2 x vs v us Q I2 r1 r2 q2
/- xs.append(e), list.index on a module's tuple .. are MtR facts of 06m -/
end
end L2

namespace L2
open PySem PySem.Spec PyProof.Rows

def MtM (X : Cx) (id : String) (r : V → List V → Hp → VK → Prop) : Prop :=
  ∀ (pins : List (Addr × Obj)) (s : Shared) (σ : St) (H : Hp) (x : V) (xs : List V) (v : Value) (us : List Value) (Q : VK), Inv X pins σ H s → RelV x v → Vals xs us → r x xs H Q →
    wpAny (model X.prog X.w) X.A (call (.builtin id) (v :: us)) (EP X pins σ Q) X.xe s

/-! ### lists of values -/
theorem Vals.one : ∀ {x : V} {us : List Value}, Vals [x] us → ∃ u, us = [u] ∧ RelV x u
  | _, _, h => by
    cases h with
    | cons r t =>
      cases t
      exact ⟨_, rfl, r⟩
theorem Vals.two : ∀ {x y : V} {us : List Value}, Vals [x, y] us → ∃ u v, us = [u, v] ∧ RelV x u ∧ RelV y v
  | _, _, _, h => by
    cases h with
    | cons r t =>
      cases t with
      | cons q t2 =>
        cases t2
        exact ⟨_, _, rfl, r, q⟩
theorem Vals.zero : ∀ {us : List Value}, Vals [] us → us = []
  | _, .nil => rfl
theorem Vals.reverse {xs : List V} {us : List Value} (h : Vals xs us) : Vals xs.reverse us.reverse := by
  induction h with
  | nil => exact .nil
  | cons r t ih => rw [List.reverse_cons, List.reverse_cons]; exact Vals.append ih (.cons r .nil)
section
variable {X : Cx} {pins : List (Addr × Obj)} {σ : St} {H : Hp} {s : Shared} {l b : Addr} {xs ys zs : List V}

/-! ### the two steps: a tracked list is rewritten, a new list is laid -/
theorem Inv.lset {its its' : List Value} {n : Nat} {f : Array Value → Array Value} {t' : Nat} (I : Inv X pins σ H s) (hH : H l = some (.lst xs))
    (e : s.heap.get? l = some { cls := .type "list", data := .seq its.toArray n }) (hf : f its.toArray = its'.toArray) (hv : Vals ys its') (hz : ys.length ≤ sizeLine) :
    Inv X pins σ (upd H l (.lst ys)) { s with heap := s.heap.update l (Obj.mapSeq f), toks := t' } := by
  have q := PySem.IsL.update e f
  rw [hf] at q
  refine I.write (x := l) (e := l) (by rw [hH]; exact trivial) (.inl rfl) (fun b' u hb hu => (Heap.get?_update_other s.heap (Obj.mapSeq f) (Ne.symm hb)).trans hu) ⟨_, q⟩ ?_
  exact ⟨hz, its', _, hv, q⟩
theorem Inv.lnew {its : List Value} {t' : Nat} (I : Inv X pins σ H s) (hv : Vals ys its) (hz : ys.length ≤ sizeLine) :
    Inv X pins σ (upd H s.heap.objs.size (.lst ys)) { s with heap := s.heap.push { cls := .type "list", data := .seq its.toArray }, toks := t' } :=
  I.laid (fun _ _ q => Heap.get?_push_of_some _ q) (Nat.le_refl _) ⟨hz, its, 0, hv, Heap.get?_push_size _ rfl⟩
theorem Inv.fresh (I : Inv X pins σ H s) : H s.heap.objs.size = none := I.hok.fresh (Nat.le_refl _)
theorem Inv.lstM (I : Inv X pins σ H s) (hH : H l = some (.lst xs)) : xs.length ≤ sizeLine ∧ ∃ (its : List Value) (n : Nat), Vals xs its ∧ xs.length = its.length ∧ s.heap.get? l = some { cls := .type "list", data := .seq its.toArray n } := by
  obtain ⟨z, its, n, r, e⟩ := I.hok l _ hH
  exact ⟨z, its, n, r, r.length, e⟩

theorem notLongL {n : Nat} (h : n ≤ sizeLine) : Builtin.List.listTooLong n = false := by
  unfold Builtin.List.listTooLong
  exact decide_eq_false (by omega)
end

section
variable {X : Cx}

/-! ### methods -/
def rAppend : V → List V → Hp → VK → Prop := fun x vs H Q => ∃ l xs y, x = .ref l ∧ vs = [y] ∧ H l = some (.lst xs) ∧ xs.length < sizeLine ∧ Q .non (upd H l (.lst (xs ++ [y])))
theorem mt_append : MtM X "list.append" rAppend := by
  intro pins s σ H x vs v us Q I rx rv h
  obtain ⟨l, xs, y, rfl, rfl, hH, hz, q⟩ := h
  cases rx
  obtain ⟨u, rfl, ru⟩ := rv.one
  obtain ⟨z, its, n, r, hl, e⟩ := I.lstM hH
  refine call_meets F.slot_list_append ⟨_, e, rfl⟩ F.entry_list_append (F.args_list_append_2 _ _) (PySem.list_append l its.toArray n u (by rw [List.size_toArray]; omega)) ⟨e, ?_⟩
  refine ⟨.non, _, I.lset (its' := its ++ [u]) hH e (by simp) (r.append (.cons ru .nil)) ?_, rfl, q⟩
  rw [List.length_append, List.length_singleton]
  omega

def rClear : V → List V → Hp → VK → Prop := fun x vs H Q => ∃ l xs, x = .ref l ∧ vs = [] ∧ H l = some (.lst xs) ∧ Q .non (upd H l (.lst []))
theorem mt_clear : MtM X "list.clear" rClear := by
  intro pins s σ H x vs v us Q I rx rv h
  obtain ⟨l, xs, rfl, rfl, hH, q⟩ := h
  cases rx
  have hus := rv.zero
  subst hus
  obtain ⟨z, its, n, r, hl, e⟩ := I.lstM hH
  refine call_meets F.slot_list_clear ⟨_, e, rfl⟩ F.entry_list_clear (F.args_list_clear_1 _) (AutoSeq1.list_clear_list_0 l its.toArray n (by rw [List.size_toArray]; omega)) ⟨e, ?_⟩
  exact ⟨.non, _, I.lset (its' := []) (ys := []) hH e rfl .nil (Nat.zero_le _), rfl, q⟩

/-! ### list + list, list += list, list * int -/
/-! ### del xs[i] -/
end

/-! ### xs[a:b] = ys -/
section
variable {prog : Program} {w : World} {A : Around} {E : Value → Shared → Prop} {s : Shared}
end

section
variable {X : Cx}
end
end L2

namespace Att
open PySem PySem.W PySem.Calls PyProof.Rows

/-! ### the script -/
theorem ints_of_wellAll {P : Params} {h : Heap} : ∀ (ns : List Int) (vs : List Value), WellAll P h vs (ns.map WData.int) → IntsAre vs ns := by
  intro ns
  induction ns with
  | nil =>
    intro vs w
    rw [List.map_nil] at w
    cases w
    exact .nil
  | cons n ns ih =>
    intro vs w
    rw [List.map_cons] at w
    cases w with
    | cons a b =>
      cases a
      exact .cons _ _ (ih _ b)

theorem script_of {l : OpenLaw} {n : Nat} (hn : l.most = some n) {P : Params} {h : Heap} {args : List WData} {vals : List Value}
    (hpre : l.row.toRowW.claim.pre args = true) (hwl : WellAll P h vals args) :
    ∃ a vs ns, vals = [Value.ref a] ∧ args = [WData.list (ns.map WData.int)] ∧ h.get? a = some { cls := .type "list", data := .seq vs.toArray } ∧ IntsAre vs ns ∧ ns.length ≤ n := by
  have hsh : WShape.hasAll [] args [.list .int] = true := (pre_splitW hpre).1
  have hc : l.pre.holds [] { args := args } = true := (pre_splitW hpre).2
  obtain ⟨d, r, rfl, h1, h2⟩ := hasAllW_cons hsh
  obtain rfl := hasAllW_nil h2
  obtain ⟨xs, rfl, h3⟩ := hasW_list h1
  obtain ⟨ns, rfl⟩ := items_int h3
  have hlen : ns.length ≤ n := by
    unfold OpenLaw.pre at hc
    have h4 : (WTm.not (.lt (.lit (.int (n : Int))) (.len (.arg 0)))).holds [] { args := [.list (ns.map .int)] } = true := by
      have h4 := (holds_andW hc).1
      rw [hn] at h4
      exact h4
    have h5 := condW_of h4 (w_not (w_lt w_lit (w_len_list (w_arg rfl))))
    rw [List.length_map] at h5
    refine Nat.le_of_not_lt fun q => ?_
    have q' : (n : Int) < ((ns.length : Nat) : Int) := by omega
    first
      | (rw [decide_eq_true q'] at h5; exact absurd h5 (by decide))
      | (simp at h5; omega)
  cases hwl with
  | cons w1 w2 =>
    cases w2
    cases w1 with
    | list ho hall => exact ⟨_, _, ns, rfl, rfl, ho, ints_of_wellAll ns _ hall, hlen⟩

theorem post_true (l : OpenLaw) (args : List WData) : l.row.toRowW.claim.post args (.bool true) args = true :=
  postW_of (r := l.row.toRowW) (X := (true == true))
    (show WShape.has [] (.bool true) .bool = true by first | rfl | decide | simp [WShape.has, WShape.arms, WShape.armsAll])
    (show (WTm.eq .res (.lit (.bool true))).value [] { args := args, res := some (.bool true), after := args } = some (.bool (true == true)) from w_eq_bool (w_res rfl) w_lit) rfl

/-! ### the attachment: holds_open's last premise (the goal 'hc' behind k_head) from a wpAny of the law's body -/
/-- the same from a codeAny of the CALL (for a layer whose function contracts speak of calls) -/
theorem attach_call {l : OpenLaw} {n : Nat} {q : Program} {loose : List Str} {XP : (Str → Option Value) → Heap → Prop} {YP : World → Heap → Prop} {d : DefRec}
    (hn : l.most = some n) (hdf : d.params.defaults = [])
    (call : ∀ (w : World) (s₀ s₁ : Shared) (mg mb : Str → Option Value) (fa : Addr) (o : Obj) (pm cd doc : Value) (a : Addr) (vs : List Value) (ns : List Int),
      Ground q loose [] XP w s₀ mg mb s₁.heap → YP w s₁.heap →
      s₁.heap.get? fa = some o → o.data = .func (docDef d.name d.params d.body d.scope pm cd doc) → s₁.heap.CodeRec cd d.name → mg d.name = some (.ref fa) →
      s₁.heap.get? a = some { cls := .type "list", data := .seq vs.toArray } → IntsAre vs ns → ns.length ≤ n → s₁.gens = #[] →
      codeAny (model l.prog w) callerA (.call (.ref fa) ⟨[.ref a], []⟩) (fun r s' => r = .ok (.ret (.bool true)) ∧ OldK s₁.heap s'.heap ∧ s'.os = s₁.os ∧ AllBare s'.gens) s₁) :
    WalkO q loose XP YP l.row.toRowW d [] (fun f vs => PySem.call f vs) := by
  intro w s₀ s₁ mg mb G Y fa o pm cd doc dV kV ho hd hcd hD hmg hg args vals as hpre hlay hrd hwl hlo
  obtain rfl : dV = .none := Dflts.none hD hdf
  obtain rfl : kV = .none := Dflts.noKw hD
  obtain ⟨a, vs, ns, rfl, rfl, hobj, hints, hlen⟩ := script_of hn hpre hwl
  refine enter_call (codeAny_mono (call w s₀ s₁ mg mb fa o pm cd doc a vs ns G Y ho (fd_plain hd) hcd hmg hobj hints hlen hg) fun r s' hq => ?_)
  obtain ⟨rfl, h2, h3, h4⟩ := hq
  exact ⟨.inl ⟨.bool true, .bool true, [], rfl, fun _ => rfl, .bool true, post_true l _, fun _ => ⟨List.Pairwise.nil, fun _ hm => (nomatch hm)⟩⟩, h2, h3, h4⟩

/-! ### rules over ANY heap (no ledger) from facts about the written part K: the library's own take a ledger (News) for what they write -/
section
variable {prog : Program} {w : World} {A : Around} {E : Value → Shared → Prop} {s : Shared} {K : Frag}

/-! the whole heap as the ledger: makes every rule that writes through a ledger a rule over any heap -/
def ledger (h : Heap) (L d : Addr) : List (Addr × Obj) := (List.range h.objs.size).filterMap fun a => if a = L ∨ a = d then none else (h.get? a).map fun o => (a, o)
end
end Att

namespace L2
open PySem PySem.Spec PyProof.Rows

theorem vals_ints : ∀ {vs : List Value} {ns : List Int}, IntsAre vs ns → Vals (ns.map V.int) vs
  | _, _, .nil => .nil
  | _, _, .cons n t h => .cons ⟨t, rfl⟩ (vals_ints h)

/-- nothing is tracked but the script, known to the object (or it is an object of the module) -/
def Only (H : Hp) : Prop := ∀ b, H b = none ∨ ∃ o xs, H b = some (.frz o (.lst xs))

/-- THE HEAD: the law's promise, at the heap behind the top. F, the promise of the law's def, may use that base is part of the heap (so K.In base, base.Ns mainGlobals mg stand in Mod) -/
theorem law_call {P : Program} {w : World} {K : PySem.W.Frag} {mg mb : Str → Option Value} {CX : CXT} {k : Nat} {fa a : Addr} {fd : FuncData} {x : Str} {sp : Sp} {s₁ : Shared} {vs : List Value} {ns : List Int}
    (KX : K.In s₁.heap) (hns : s₁.heap.Ns mainGlobals mg) (hb : s₁.heap.Ns builtinsNs mb) (hbb : ∀ x : Str, x ≠ "__name__" → mb x = bootBuiltins x) (hlim : s₁.heap.NoLimit) (hg : s₁.gens = #[])
    (ha : s₁.heap.get? a = some { cls := .type "list", data := .seq vs.toArray }) (hi : IntsAre vs ns) (hl : ns.length ≤ sizeLine) (hr : Room k callerA)
    (F : ∀ base : Heap, K.In base → base.Ns mainGlobals mg → FnOk P w K mg base CX k fa fd [x] sp) (hbind : ∀ (s : Shared) (u : Value), BindsTo s fd ⟨[u], []⟩ [(x, u)])
    (hsp : ∀ H : Hp, Only H → SqL K H a (ns.map V.int) → sp [.ref a] H (fun v _ => v = .bl true) fun _ _ _ => False)
    (hCX : ∀ H e s', CX [] H s₁ (fun _ _ _ => False) e s' → False) :
    codeAny (model P w) callerA (.call (.ref fa) ⟨[.ref a], []⟩) (fun r s' => r = .ok (.ret (.bool true)) ∧ OldK s₁.heap s'.heap ∧ s'.os = s₁.os ∧ AllBare s'.gens) s₁ := by
  have rv := vals_ints hi
  have lenV := hi.length
  -- from an abstract heap in which nothing but the script may be tracked
  have core : ∀ H : Hp, Only H → SqL K H a (ns.map V.int) → HOk P w H s₁.heap → (∀ b, H b ≠ none → b = a) → (H a ≠ none → K.lookup a = none) →
      codeAny (model P w) callerA (.call (.ref fa) ⟨[.ref a], []⟩) (fun r s' => r = .ok (.ret (.bool true)) ∧ OldK s₁.heap s'.heap ∧ s'.os = s₁.os ∧ AllBare s'.gens) s₁ := by
    intro H hO hS hok hA hK
    have base_of : ∀ {b : Addr} {o : Obj}, s₁.heap.get? b = some o → H b = none → (hidT s₁.heap H).get? b = some o := fun e n => hidT_get e n
    have noA : ∀ {b : Addr} {o : Obj} {es : Array DictEntry} {ep : Nat}, s₁.heap.get? b = some o → o.data = .dict es ep → H b = none := fun {b o es ep} e d => by
      cases q : H b with
      | none => rfl
      | some u =>
        have e' : b = a := hA b (by rw [q]; simp)
        subst e'
        rw [ha] at e; cases e
        have d' : Data.seq vs.toArray _ = Data.dict es ep := d
        cases d'
    have nsK : ∀ {b : Addr} {m : Str → Option Value}, s₁.heap.Ns b m → (hidT s₁.heap H).Ns b m := fun {b m} ⟨o, es, ep, e, d, r⟩ => ⟨o, es, ep, base_of e (noA e d), d, r⟩
    have hKb : K.In (hidT s₁.heap H) := fun b o e => base_of (KX b o e) (by
      cases q : H b with
      | none => rfl
      | some u =>
        have e' : b = a := hA b (by rw [q]; simp)
        subst e'
        rw [hK (by rw [q]; simp)] at e; cases e)
    have hM : Mod K mg (hidT s₁.heap H) := ⟨hKb, nsK hns, ⟨mb, nsK hb, hbb⟩, let ⟨mc, h1, h2⟩ := hlim; ⟨mc, nsK h1, h2⟩⟩
    have e0 : Env0 P w K mg (hidT s₁.heap H) callerA [] s₁ H := ⟨rfl, hM, fun b o e => of_hidT e, Nat.le_of_eq (hidT_size _ _), trivial, fun b hb => absurd (show b ∈ ([] : List Addr) from hb) (by simp), hok, .of_eq hg⟩
    refine codeAny_mono ((F _ hKb (nsK hns)).run callerA [] s₁ H ⟨[.ref a], []⟩ [.ref a] [.ref a] _ _ hr e0 (hbind s₁ (.ref a)) (.cons rfl .nil) (hsp H hO hS)) fun r s' h => ?_
    cases r with
    | error e => exact (hCX H e s' h).elim
    | ok fl =>
      cases fl with
      | next => exact False.elim h
      | brk => exact False.elim h
      | cont => exact False.elim h
      | ret u =>
        obtain ⟨v, H', os, bare, un, hok', r', q⟩ := h
        have q' : v = .bl true := q
        subst q'
        obtain rfl : u = Value.bool true := r'
        refine ⟨rfl, OldK.of_keep fun b o e => ?_, os, bare⟩
        cases q : H b with
        | none => exact un.keep b o e q (by intro z; exact absurd (show b ∈ ([] : List Addr) from z) (by simp)) (by simp)
        | some u =>
          rcases hO b with z | ⟨ob, xs, z⟩
          · rw [q] at z; cases z
          · have z2 := un.frzs b ob _ z
            obtain ⟨e1, _⟩ := hok b _ z
            obtain ⟨e2, _⟩ := hok' b _ z2
            rw [e] at e1; cases e1
            exact e2
  cases hk : K.lookup a with
  | some o =>
    -- the script is one of the module's own objects
    have e := KX a o hk
    rw [ha] at e
    cases e
    refine core (fun _ => none) (fun _ => .inl rfl) (.inr ⟨_, vs.toArray, _, hk, rfl, rfl, rfl, by rw [List.size_toArray, lenV]; exact hl, by simpa using rv⟩) (fun b u z => by have z' : (none : Option HO) = some u := z; cases z') (fun b z => absurd rfl z) fun z => absurd rfl z
  | none =>
    refine core (fun b => if b = a then some (.frz { cls := .type "list", data := .seq vs.toArray } (.lst (ns.map V.int))) else none) (fun b => ?_) (.inl (.inr ⟨{ cls := .type "list", data := .seq vs.toArray }, if_pos rfl⟩)) (fun b u z => ?_) (fun b z => ?_) fun _ => hk
    · by_cases hb : b = a
      · exact .inr ⟨_, _, if_pos hb⟩
      · exact .inl (if_neg hb)
    · by_cases hb : b = a
      · have z' := (if_pos hb).symm.trans z
        cases z'
        subst hb
        exact ⟨ha, by rw [List.length_map]; exact hl, vs, _, rv, ha⟩
      · have z' := (if_neg hb).symm.trans z
        cases z'
    · by_cases hb : b = a
      · exact hb
      · exact absurd (if_neg hb) z
end L2

namespace L2
open PySem PySem.Spec PyProof.Rows

abbrev KOf {K : PySem.W.Frag} {h : Heap} (_ : K.In h) : PySem.W.Frag := K

/-- the goal that k_head leaves (case hc), from the law's promise. F gives the function object fd (K's own) once, then the promise over every base -/
theorem walk_of {l : PySem.W.OpenLaw} {n k : Nat} {q : Program} {loose : List Str} {XP : (Str → Option Value) → Heap → Prop} {YP : World → Heap → Prop} {d : DefRec} {K : Params → PySem.W.Frag} {CX : World → CXT} {sp : World → Sp} {x : Str}
    (hn : l.most = some n) (hn2 : n ≤ sizeLine) (hdf : d.params.defaults = []) (hr : Room k callerA)
    (hY : ∀ (w : World) (h : Heap), YP w h → (K w.params).In h)
    (F : ∀ (w : World) (mg : Str → Option Value) (fa : Addr) (h : Heap), (K w.params).In h → h.Ns mainGlobals mg → mg d.name = some (.ref fa) →
      ∃ fd : FuncData, (∀ (s : Shared) (u : Value), BindsTo s fd ⟨[u], []⟩ [(x, u)]) ∧
        ∀ base : Heap, (K w.params).In base → base.Ns mainGlobals mg → FnOk l.prog w (K w.params) mg base (CX w) k fa fd [x] (sp w))
    (hsp : ∀ (w : World) (H : Hp) (a : Addr) (ns : List Int), ns.length ≤ n → Only H → SqL (K w.params) H a (ns.map V.int) → sp w [.ref a] H (fun v _ => v = .bl true) fun _ _ _ => False)
    (hCX : ∀ (w : World) (H : Hp) (s : Shared) (e : Value) (s' : Shared), CX w [] H s (fun _ _ _ => False) e s' → False) :
    PySem.W.WalkO q loose XP YP l.row.toRowW d [] (fun f vs => PySem.call f vs) := by
  refine Att.attach_call hn hdf fun w s₀ s₁ mg mb fa o pm cd doc a vs ns G Y ho hd hcd hmg hobj hints hlen hg => ?_
  have KX := hY w _ Y
  obtain ⟨fd, hb, hF⟩ := F w mg fa _ KX G.T.g hmg
  exact law_call KX G.T.g G.T.b G.T.builtins G.T.nolimit hg hobj hints (Nat.le_trans hlen hn2) hr hF hb (fun H hO hS => hsp w H a ns hlen hO hS) fun H e s' => hCX w H s₁ e s'
end L2

/- THE LAST THEOREM (shape; LID, My.* are yours):
   My.Adr: a structure of the addresses that your layer names (classes, functions); My.Txt K t: a structure (Prop) of the equations over K;
   My.txt_mk : {K} {implicit addresses ..} (e1 : nsIn K mainGlobals "law" = some (some (.ref f))) (e2 : K.lookup f = some ⟨oc, od, .func (fnOf "law" "law" params body scope dV kV doc pm an cdv ct), sl⟩) (e3 : codeIn K cdv "law" = true) .. : ∃ t, My.Txt K t

set_option maxRecDepth 100000 in
set_option maxHeartbeats 0 in
theorem PySem.Challenge.cw_LID_holds : PySem.Challenge.rw_LID.Holds := by
  w_on; o_law; k_head; (case hw => w_witness2)
  k_fill
  refine L2.walk_of (l := PySem.Challenge.rw_LID) (n := 63) (k := 40) (x := "script") (CX := fun w => ..) (sp := fun _ => My.sp_law) rfl (by decide) rfl ⟨rfl, by decide, by decide⟩ (fun w h Y => PySem.W.kIn_of Y) ?F ?S ?C
  case F =>
    intro w mg fa h KX G hmg
    have T : ∃ t, My.Txt (L2.KOf KX) t := by
      dsimp only [L2.KOf]                          -- K must stand as «<heap const> w.params» for k_is
      refine' My.txt_mk ?e1 ?e2 ?e3 ..
      (case e1 => PySem.W.k_is)                    -- in the order: a name -> its address -> its object -> its parts
      (case e2 => PySem.W.k_is)
      ..
    obtain ⟨t, T⟩ := T
    have e0 := hmg.symm.trans (PySem.W.mg_of KX G T.law)
    cases e0                                       -- fa is the law's own address
    exact ⟨_, fun s u => .of_eq rfl, fun base kb nb => My.law_fn T kb nb⟩     -- if «.of_eq rfl» comes too early: refine' ⟨_, ?b, fun base kb nb => My.law_fn T kb nb⟩; exact fun s u => .of_eq rfl
  case S => exact fun w H a ns hl hO hS => ..
  case C => exact ..
(the tactic k_is has no namespace: write k_is) -/

/-! SHORT WORDS over the layer: a def of the text, its body, what a loop and a test want. -/
namespace L2
open PySem PySem.Spec PyProof.Rows

/-! ### the text by places -/
def defArgs (s : Stmt) : Arguments := match s with
  | .FunctionDef _ a _ _ _ _ _ _ _ _ => a
  | _ => { posonlyargs := [], args := [], vararg := none, kwonlyargs := [], kw_defaults := [], kwarg := none, defaults := [] }
def defBody (s : Stmt) : List Stmt := match s with
  | .FunctionDef _ _ b _ _ _ _ _ _ _ => b
  | _ => []
def defScope (s : Stmt) : Scope := match s with
  | .FunctionDef _ _ _ _ _ _ sc _ _ _ => sc
  | _ => { kind := .function, names := [], isGenerator := false, isCoroutine := false }

/-! ### no exception leaves a def -/
abbrev CX0 : CXT := fun _ _ _ _ _ _ => False
abbrev E0 : XK := fun _ _ _ => False
theorem pass0 {X : Cx} : Passes CX0 X E0 := fun _ _ _ _ _ _ _ h => h.elim

/-! ### a def (or method) of the text as it stands behind the top -/
structure Fun (K : PySem.W.Frag) (x qual : Str) (st : Stmt) (f : Addr) (fd : FuncData) : Prop where
  ex : ∃ (oc : Value) (od : Option Addr) (kV doc pm : Value) (an : Option Addr) (cdv ct : Value) (osl : Array (Option Value)),
    fd = PySem.W.fnOf x qual (defArgs st) (defBody st) (defScope st) .none kV doc pm an cdv ct ∧ K.lookup f = some ⟨oc, od, .func fd, osl⟩ ∧ PySem.W.codeIn K cdv qual = true
  kp : PySem.W.keepIn K (.ref f) = true
section
variable {P : Program} {w : World} {K : PySem.W.Frag} {mg : Str → Option Value} {base : Heap}
/-- THE RULE for a def: its body as a term of rules, and the reading of that term -/
theorem Fun.ok {x qual : Str} {st : Stmt} {f : Addr} {fd : FuncData} {N ps : List Str} {k : Nat} {sp : Sp} (F : Fun K x qual st f fd) (S : FnScope N ps (defScope st)) (len : ∀ vs H Q E, sp vs H Q E → vs.length = ps.length)
    (hbody : ∀ (cdv : Value) (A : Around) (outer : List Env) (s : Shared) (H : Hp) (vs : List V) (Q : VK) (E : XK), Room k (A.deeper (envOfC qual (defScope st) s.heap.objs.size f cdv)) → sp vs H Q E →
      ∃ t, PSs (cxOf CX0 P w K mg base N qual (defScope st) f cdv A outer s H E).nox (defBody st) t ∧ t { nx := fun _ H' => Q .non H', rt := Q } (start N vs) H) : FnOk P w K mg base CX0 (k + 1) f fd ps sp := by
  obtain ⟨oc, od, kV, doc, pm, an, cdv, ct, osl, rfl, lk, hcd⟩ := F.ex
  refine fn_of lk hcd S len fun A outer s H vs Q E hr hsp => ?_
  obtain ⟨t, h, q⟩ := hbody cdv A outer s H vs Q E hr hsp
  exact ⟨t, h.nox, q⟩
/-- how its arguments bind (no defaults): h is «fun _ _ _ _ _ _ us hl => match us, hl with | [_, _], _ => rfl», one _ a parameter -/
theorem Fun.binds {x qual : Str} {st : Stmt} {f : Addr} {fd : FuncData} {ps : List Str} (F : Fun K x qual st f fd)
    (h : ∀ (kV doc pm : Value) (an : Option Addr) (cdv ct : Value) (us : List Value), us.length = ps.length → bindArgs (PySem.W.fnOf x qual (defArgs st) (defBody st) (defScope st) .none kV doc pm an cdv ct) ⟨us, []⟩ = pure (ps.zip us)) : Binds K fd ps [] := by
  obtain ⟨oc, od, kV, doc, pm, an, cdv, ct, osl, rfl, lk, hcd⟩ := F.ex
  exact .all (h kV doc pm an cdv ct)
end
/-! ### expressions in short: the name that stands in the i-th slot -/
section
variable {X : Cx}
end

/-! ### tests -/
/-! ### heaps -/
/-- all that was tracked is as it was -/
def Same (H H' : Hp) : Prop := ∀ b o, H b = some o → H' b = some o
theorem Same.refl (H : Hp) : Same H H := fun _ _ h => h
theorem Same.trans {H H1 H2 : Hp} (a : Same H H1) (b : Same H1 H2) : Same H H2 := fun c o h => b c o (a c o h)
theorem Same.free {H H' : Hp} (e : Same H H') {l : Addr} (h : H' l = Option.none) : H l = Option.none := by
  cases q : H l with
  | none => rfl
  | some o =>
    rw [e l o q] at h
    cases h
theorem Same.seq {K : PySem.W.Frag} {H H' : Hp} {a : Addr} {xs : List V} (e : Same H H') (h : SqL K H a xs) : SqL K H' a xs := by
  rcases h with (h | ⟨o, h⟩) | h
  · exact .inl (.inl (e _ _ h))
  · exact .inl (.inr ⟨o, e _ _ h⟩)
  · exact .inr h

end L2

set_option Elab.async false
set_option linter.all false
set_option maxRecDepth 100000
set_option maxHeartbeats 4000000
/-! Plain data, and the functions that expressions, statements and defs are. -/
namespace VL
open PySem L2
abbrev D := PyData
/-- what an own slot holds: a list, a dict -/
inductive Oc where
  | l (ds : List D) | d (es : List (Key × D))
inductive Sl where
  | un | fz (d : D) | own (c : Oc)
abbrev Sl.ow (ds : List D) : Sl := .own (.l ds)
abbrev Sl.od (es : List (Key × D)) : Sl := .own (.d es)
/-- a dict of whole numbers, kept as it is -/
def keyDD : Key → D
  | .inl i => .int i
  | .inr x => .str x
def dctD (es : List (Key × Int)) : List (D × D) := es.map fun p => (keyDD p.1, .int p.2)
abbrev Dv := List Sl
inductive Fl where
  | nx | bk | ct | rt (d : D)
abbrev Sf := Dv → Option (Fl × Dv)
@[simp] def o2 (f1 f2 : Dv → Option D) (g : D → D → Option D) : Dv → Option D := fun δ => (f1 δ).bind fun x => (f2 δ).bind fun y => g x y
@[simp] def o1 (f : Dv → Option D) (g : D → Option D) : Dv → Option D := fun δ => (f δ).bind g
@[simp] def os (f : Dv → Option (List D)) (g : List D → Option D) : Dv → Option D := fun δ => (f δ).bind g
def asB : D → Option Bool
  | .bool b => some b
  | _ => none
@[simp] theorem asB_bool (b : Bool) : asB (.bool b) = some b := rfl
@[simp] def ob (f : Dv → Option D) : Dv → Option Bool := fun δ => (f δ).bind asB
@[simp] def oAnd (t u : Dv → Option Bool) : Dv → Option Bool := fun δ => (t δ).bind fun b => if b = true then u δ else some false
@[simp] def oOr (t u : Dv → Option Bool) : Dv → Option Bool := fun δ => (t δ).bind fun b => if b = true then some true else u δ
@[simp] def oNot (t : Dv → Option Bool) : Dv → Option Bool := fun δ => (t δ).map (!·)
@[simp] def oAndV (f1 f2 : Dv → Option D) : Dv → Option D := fun δ => (f1 δ).bind fun x => (asB x).bind fun b => if b = true then f2 δ else some (.bool false)
@[simp] def oOrV (f1 f2 : Dv → Option D) : Dv → Option D := fun δ => (f1 δ).bind fun x => (asB x).bind fun b => if b = true then some (.bool true) else f2 δ
@[simp] def notD (d : D) : Option D := (asB d).map fun b => .bool (!b)
@[simp] def oIf (t : Dv → Option Bool) (f1 f2 : Dv → Option D) : Dv → Option D := fun δ => (t δ).bind fun b => if b = true then f1 δ else f2 δ
def slV : Option Sl → Option D
  | some (.fz d) => some d
  | _ => none
@[simp] theorem slV_fz (d : D) : slV (some (.fz d)) = some d := rfl
@[simp] def oV (i : Nat) : Dv → Option D := fun δ => slV δ[i]?
@[simp] def oC (d : D) : Dv → Option D := fun _ => some d
@[simp] def oNil : Dv → Option (List D) := fun _ => some []
@[simp] def oCons (f : Dv → Option D) (fs : Dv → Option (List D)) : Dv → Option (List D) := fun δ => (f δ).bind fun x => (fs δ).bind fun xs => some (x :: xs)
def tupD (ds : List D) : Option D := if ds.length ≤ sizeLine then some (.tuple ds) else none
def lstD (ds : List D) : Option D := if ds.length ≤ sizeLine then some (.list ds) else none
theorem tupD_ok {ds : List D} (h : ds.length ≤ 16777216) : tupD ds = some (.tuple ds) := if_pos h
theorem lstD_ok {ds : List D} (h : ds.length ≤ 16777216) : lstD ds = some (.list ds) := if_pos h
@[simp] theorem tupD0 : tupD [] = some (.tuple []) := rfl
@[simp] theorem tupD1 (a : D) : tupD [a] = some (.tuple [a]) := tupD_ok (by simp)
@[simp] theorem tupD2 (a b : D) : tupD [a, b] = some (.tuple [a, b]) := tupD_ok (by simp)
@[simp] theorem tupD3 (a b c : D) : tupD [a, b, c] = some (.tuple [a, b, c]) := tupD_ok (by simp)
@[simp] theorem tupD4 (a b c d : D) : tupD [a, b, c, d] = some (.tuple [a, b, c, d]) := tupD_ok (by simp)
@[simp] theorem tupD5 (a b c d e : D) : tupD [a, b, c, d, e] = some (.tuple [a, b, c, d, e]) := tupD_ok (by simp)
@[simp] theorem tupD8 (a b c d e f g h : D) : tupD [a, b, c, d, e, f, g, h] = some (.tuple [a, b, c, d, e, f, g, h]) := tupD_ok (by simp)
@[simp] theorem lstD0 : lstD [] = some (.list []) := rfl
@[simp] theorem lstD1 (a : D) : lstD [a] = some (.list [a]) := lstD_ok (by simp)
@[simp] theorem lstD2 (a b : D) : lstD [a, b] = some (.list [a, b]) := lstD_ok (by simp)
@[simp] theorem lstD3 (a b c : D) : lstD [a, b, c] = some (.list [a, b, c]) := lstD_ok (by simp)
@[simp] theorem lstD4 (a b c d : D) : lstD [a, b, c, d] = some (.list [a, b, c, d]) := lstD_ok (by simp)
@[simp] theorem lstD5 (a b c d e : D) : lstD [a, b, c, d, e] = some (.list [a, b, c, d, e]) := lstD_ok (by simp)
/-! ### ints -/
instance (i j : Int) : Decidable (IntMulOk i j) := by unfold IntMulOk; infer_instance
def iI (g : Int → Int → Int) : D → D → Option D
  | .int i, .int j => some (.int (g i j))
  | _, _ => none
def iC (C : Int → Int → Bool) (g : Int → Int → Int) : D → D → Option D
  | .int i, .int j => if C i j = true then some (.int (g i j)) else none
  | _, _ => none
def iB (g : Int → Int → Bool) : D → D → Option D
  | .int i, .int j => some (.bool (g i j))
  | _, _ => none
@[simp] theorem iI_int (g : Int → Int → Int) (i j : Int) : iI g (.int i) (.int j) = some (.int (g i j)) := rfl
@[simp] theorem iB_int (g : Int → Int → Bool) (i j : Int) : iB g (.int i) (.int j) = some (.bool (g i j)) := rfl
theorem iC_int {C : Int → Int → Bool} {g : Int → Int → Int} {i j : Int} (h : C i j = true) : iC C g (.int i) (.int j) = some (.int (g i j)) := if_pos h
def cMul (i j : Int) : Bool := decide (IntMulOk i j)
def cDiv (i j : Int) : Bool := decide (0 < j ∧ j < 1073741824)
def cMod (i j : Int) : Bool := decide (0 < j)
def cPow (i j : Int) : Bool := decide (0 ≤ j ∧ j ≤ 1000000 ∧ i.natAbs < 2 ^ 64)
def cShl (i j : Int) : Bool := decide (0 ≤ j ∧ (Builtin.Int.intBits i : Int) + j ≤ 2 ^ 27)
def cShr (i j : Int) : Bool := decide (0 ≤ j)
abbrev subD := iI fun i j => i - j
abbrev mulI := iC cMul fun i j => i * j
abbrev divD := iC cDiv fun i j => i / j
abbrev modD := iC cMod fun i j => i % j
abbrev powD := iC cPow fun i j => i ^ j.toNat
abbrev shlD := iC cShl fun i j => i * 2 ^ j.toNat
abbrev shrD := iC cShr fun i j => i / 2 ^ j.toNat
abbrev andD := iI Builtin.bitAnd
abbrev ltD := iB fun i j => decide (i < j)
abbrev gtD := iB fun i j => decide (j < i)
@[simp] theorem mulI_int {i j : Int} (h : IntMulOk i j) : mulI (.int i) (.int j) = some (.int (i * j)) := iC_int (decide_eq_true h)
@[simp] theorem divD_int {i j : Int} (h : 0 < j) (h2 : j < 1073741824) : divD (.int i) (.int j) = some (.int (i / j)) := iC_int (decide_eq_true ⟨h, h2⟩)
@[simp] theorem modD_int {i j : Int} (h : 0 < j) : modD (.int i) (.int j) = some (.int (i % j)) := iC_int (decide_eq_true h)
@[simp] theorem powD_int {i j : Int} (h : 0 ≤ j) (h2 : j ≤ 1000000) (h3 : i.natAbs < 2 ^ 64) : powD (.int i) (.int j) = some (.int (i ^ j.toNat)) := iC_int (decide_eq_true ⟨h, h2, h3⟩)
theorem shlD_int {i j : Int} (h : 0 ≤ j) (h2 : (Builtin.Int.intBits i : Int) + j ≤ 2 ^ 27) : shlD (.int i) (.int j) = some (.int (i * 2 ^ j.toNat)) := iC_int (decide_eq_true ⟨h, h2⟩)
@[simp] theorem shrD_int {i j : Int} (h : 0 ≤ j) : shrD (.int i) (.int j) = some (.int (i / 2 ^ j.toNat)) := iC_int (decide_eq_true h)
def negD : D → Option D
  | .int i => some (.int (-i))
  | _ => none
@[simp] theorem negD_int (i : Int) : negD (.int i) = some (.int (-i)) := rfl
def addD : D → D → Option D
  | .int i, .int j => some (.int (i + j))
  | .str x, .str y => if x.length + y.length ≤ sizeLine then some (.str (x ++ y)) else none
  | .list xs, .list ys => if xs.length + ys.length ≤ sizeLine then some (.list (xs ++ ys)) else none
  | .tuple xs, .tuple ys => if xs.length + ys.length ≤ sizeLine then some (.tuple (xs ++ ys)) else none
  | _, _ => none
@[simp] theorem addD_int (i j : Int) : addD (.int i) (.int j) = some (.int (i + j)) := rfl
theorem addD_list {xs ys : List D} (h : xs.length + ys.length ≤ 16777216) : addD (.list xs) (.list ys) = some (.list (xs ++ ys)) := if_pos h
/-! ### == -/
def shp (d : D) : Bool := PySem.SeqAt.shaped d
def eqD : D → D → Option D := fun a b => if shp a = true ∧ shp b = true then some (.bool (PyData.eqv a b)) else none
def neD : D → D → Option D := fun a b => if shp a = true ∧ shp b = true then some (.bool (!PyData.eqv a b)) else none
@[simp] theorem eqD_int (i j : Int) : eqD (.int i) (.int j) = some (.bool (i == j)) := rfl
@[simp] theorem neD_int (i j : Int) : neD (.int i) (.int j) = some (.bool (!(i == j))) := rfl
@[simp] theorem eqD_bool (i j : Bool) : eqD (.bool i) (.bool j) = some (.bool (i == j)) := rfl
@[simp] theorem neD_bool (i j : Bool) : neD (.bool i) (.bool j) = some (.bool (!(i == j))) := rfl
def isN (d : D) : Bool := match d with
  | .none => true
  | _ => false
def isD : D → D → Option D := fun a b => match b with
  | .none => some (.bool (isN a))
  | _ => none
def isntD : D → D → Option D := fun a b => match b with
  | .none => some (.bool (!isN a))
  | _ => none
@[simp] theorem isD_none (a : D) : isD a .none = some (.bool (isN a)) := rfl
@[simp] theorem isntD_none (a : D) : isntD a .none = some (.bool (!isN a)) := rfl
@[simp] theorem isN_none : isN .none = true := rfl
@[simp] theorem isN_int (i : Int) : isN (.int i) = false := rfl
/-! ### items -/
def ixD : D → D → Option D
  | .list xs, .int i => atI xs i
  | .tuple xs, .int i => atI xs i
  | _, _ => none
@[simp] theorem ixD_list (xs : List D) (i : Int) : ixD (.list xs) (.int i) = atI xs i := rfl
@[simp] theorem ixD_tuple (xs : List D) (i : Int) : ixD (.tuple xs) (.int i) = atI xs i := rfl
theorem atI_of {α : Type} {xs : List α} {i : Int} {j : Nat} {v : α} (hi : i = j) (h : xs[j]? = some v) : atI xs i = some v := by
  have hl : j < xs.length := (List.getElem?_eq_some_iff.mp h).1
  subst hi
  unfold atI ixN
  rw [if_pos (by omega), if_pos (by omega)]
  simpa using h
@[simp] theorem at0 {α : Type} (a : α) (r : List α) : atI (a :: r) 0 = some a := atI_of (j := 0) rfl rfl
@[simp] theorem at1 {α : Type} (a b : α) (r : List α) : atI (a :: b :: r) 1 = some b := atI_of (j := 1) rfl rfl
@[simp] theorem at2 {α : Type} (a b c : α) (r : List α) : atI (a :: b :: c :: r) 2 = some c := atI_of (j := 2) rfl rfl
@[simp] theorem at3 {α : Type} (a b c d : α) (r : List α) : atI (a :: b :: c :: d :: r) 3 = some d := atI_of (j := 3) rfl rfl
@[simp] theorem at4 {α : Type} (a b c d e : α) (r : List α) : atI (a :: b :: c :: d :: e :: r) 4 = some e := atI_of (j := 4) rfl rfl
@[simp] theorem at5 {α : Type} (a b c d e f : α) (r : List α) : atI (a :: b :: c :: d :: e :: f :: r) 5 = some f := atI_of (j := 5) rfl rfl
@[simp] theorem at6 {α : Type} (a b c d e f g : α) (r : List α) : atI (a :: b :: c :: d :: e :: f :: g :: r) 6 = some g := atI_of (j := 6) rfl rfl
@[simp] theorem at7 {α : Type} (a b c d e f g h : α) (r : List α) : atI (a :: b :: c :: d :: e :: f :: g :: h :: r) 7 = some h := atI_of (j := 7) rfl rfl
/-! ### builtins -/
def lenD : List D → Option D
  | [.list xs] => some (.int xs.length)
  | [.tuple xs] => some (.int xs.length)
  | _ => none
@[simp] theorem lenD_list (xs : List D) : lenD [.list xs] = some (.int xs.length) := rfl
@[simp] theorem lenD_tuple (xs : List D) : lenD [.tuple xs] = some (.int xs.length) := rfl
def minD : List D → Option D
  | [.int i, .int j] => some (.int (if j < i then j else i))
  | _ => none
def maxD : List D → Option D
  | [.int i, .int j] => some (.int (if j > i then j else i))
  | _ => none
@[simp] theorem minD_int (i j : Int) : minD [.int i, .int j] = some (.int (if j < i then j else i)) := rfl
@[simp] theorem maxD_int (i j : Int) : maxD [.int i, .int j] = some (.int (if j > i then j else i)) := rfl
def intD : List D → Option D
  | [.int i] => some (.int i)
  | [.bool b] => some (.int (if b then 1 else 0))
  | _ => none
@[simp] theorem intD_int (i : Int) : intD [.int i] = some (.int i) := rfl
@[simp] theorem intD_bool (b : Bool) : intD [.bool b] = some (.int (if b then 1 else 0)) := rfl
def listD : List D → Option D
  | [.list xs] => some (.list xs)
  | [.tuple xs] => some (.list xs)
  | _ => none
@[simp] theorem listD_list (xs : List D) : listD [.list xs] = some (.list xs) := rfl
@[simp] theorem listD_tuple (xs : List D) : listD [.tuple xs] = some (.list xs) := rfl
def tupleD : List D → Option D
  | [.list xs] => some (.tuple xs)
  | [.tuple xs] => some (.tuple xs)
  | _ => none
@[simp] theorem tupleD_list (xs : List D) : tupleD [.list xs] = some (.tuple xs) := rfl
@[simp] theorem tupleD_tuple (xs : List D) : tupleD [.tuple xs] = some (.tuple xs) := rfl
def bitsD : D → Option D
  | .int i => some (.int (Builtin.Int.intBits i))
  | _ => none
@[simp] theorem bitsD_int (i : Int) : bitsD (.int i) = some (.int (Builtin.Int.intBits i)) := rfl
def tyN : D → String
  | .none => "NoneType"
  | .bool _ => "bool"
  | .int _ => "int"
  | .str _ => "str"
  | .list _ => "list"
  | .tuple _ => "tuple"
  | .dict _ => "dict"
def isiB (t T : String) : Bool := t == T || (t == "bool" && T == "int")
def isDct : D → Bool
  | .dict _ => true
  | _ => false
def isiD (T : String) (d : D) : Option D := if isDct d = true then none else if T = "int" ∨ T = "bool" ∨ T = "str" ∨ T = "list" ∨ T = "tuple" then some (.bool (isiB (tyN d) T)) else none
@[simp] theorem isi_int_int (i : Int) : isiD "int" (.int i) = some (.bool true) := rfl
@[simp] theorem isi_bool_int (i : Int) : isiD "bool" (.int i) = some (.bool false) := rfl
@[simp] theorem isi_int_bool (i : Bool) : isiD "int" (.bool i) = some (.bool true) := rfl
@[simp] theorem isi_bool_bool (i : Bool) : isiD "bool" (.bool i) = some (.bool true) := rfl
@[simp] theorem isi_tuple_tuple (xs : List D) : isiD "tuple" (.tuple xs) = some (.bool true) := rfl
@[simp] theorem isi_list_list (xs : List D) : isiD "list" (.list xs) = some (.bool true) := rfl
/-! ### statements -/
@[simp] def sRet (f : Dv → Option D) : Sf := fun δ => (f δ).bind fun d => some (.rt d, δ)
@[simp] def sSet (i : Nat) (f : Dv → Option D) : Sf := fun δ => (f δ).bind fun d => some (.nx, δ.set i (.fz d))
@[simp] def sDrop (f : Dv → Option D) : Sf := fun δ => (f δ).bind fun _ => some (.nx, δ)
@[simp] def sNx : Sf := fun δ => some (.nx, δ)
@[simp] def sBk : Sf := fun δ => some (.bk, δ)
@[simp] def sCt : Sf := fun δ => some (.ct, δ)
@[simp] def sSeq (s t : Sf) : Sf := fun δ => (s δ).bind fun r => match r with
  | (.nx, δ') => t δ'
  | r => some r
@[simp] def sIf (t : Dv → Option Bool) (u w : Sf) : Sf := fun δ => (t δ).bind fun c => if c = true then u δ else w δ
def dFz (i : Nat) (δ : Dv) : Dv := match δ[i]? with
  | some (.own (.l ds)) => δ.set i (.fz (.list ds))
  | _ => δ
@[simp] def gN (i : Nat) : D → Dv → Option Dv := fun d δ => some (δ.set i (.fz d))
def loop (g : D → Dv → Option Dv) (b : Sf) : List D → Sf
  | [], δ => some (.nx, δ)
  | d :: ds, δ => (g d δ).bind fun δ1 => (b δ1).bind fun r => match r with
    | (.nx, δ2) => loop g b ds δ2
    | (.ct, δ2) => loop g b ds δ2
    | (.bk, δ2) => some (.nx, δ2)
    | (.rt x, δ2) => some (.rt x, δ2)
@[simp] theorem loop_nil (g : D → Dv → Option Dv) (b : Sf) (δ : Dv) : loop g b [] δ = some (.nx, δ) := rfl
@[simp] def sFor (f : Dv → Option (List D)) (g : D → Dv → Option Dv) (b : Sf) : Sf := fun δ => (f δ).bind fun ds => loop g b ds δ
def rngL (lo : Int) (n : Nat) : List D := (List.range n).map fun k => .int (lo + (k : Nat))
def rng1D : List D → Option (List D)
  | [.int j] => if j < 2 ^ 62 ∧ -(2 ^ 62) ≤ j then some (rngL 0 j.toNat) else none
  | _ => none
theorem rng1D_int {j : Int} (h : j < 4611686018427387904) (h2 : -4611686018427387904 ≤ j) : rng1D [.int j] = some (rngL 0 j.toNat) := if_pos ⟨h, h2⟩
@[simp] def oL (fs : Dv → Option (List D)) (g : List D → Option (List D)) : Dv → Option (List D) := fun δ => (fs δ).bind g
def itsD : D → Option (List D)
  | .list xs => some xs
  | .tuple xs => some xs
  | _ => none
@[simp] theorem itsD_list (xs : List D) : itsD (.list xs) = some xs := rfl
@[simp] theorem itsD_tuple (xs : List D) : itsD (.tuple xs) = some xs := rfl
def lstI : D → Option (List D)
  | .list xs => some xs
  | _ => none
def tupI : D → Option (List D)
  | .tuple xs => some xs
  | _ => none
@[simp] def oI (f : Dv → Option D) (g : D → Option (List D)) : Dv → Option (List D) := fun δ => (f δ).bind g
@[simp] def oNo : Dv → Option (Option Int) := fun _ => some none
def asI : D → Option (Option Int)
  | .int i => some (some i)
  | _ => none
@[simp] theorem asI_int (i : Int) : asI (.int i) = some (some i) := rfl
@[simp] def oP (f : Dv → Option D) : Dv → Option (Option Int) := fun δ => (f δ).bind asI
def cutD (xs : List D) (lo hi : Option Int) : List D := (xs.drop (HT.sIx xs.length 0 lo)).take (HT.sIx xs.length xs.length hi - HT.sIx xs.length 0 lo)
def slD : D → Option Int → Option Int → Option D
  | .list xs, lo, hi => some (.list (cutD xs lo hi))
  | .tuple xs, lo, hi => some (.tuple (cutD xs lo hi))
  | _, _, _ => none
@[simp] def oSl (f : Dv → Option D) (l u : Dv → Option (Option Int)) : Dv → Option D := fun δ => (f δ).bind fun x => (l δ).bind fun i => (u δ).bind fun j => slD x i j
def startD (N : List Str) (as : List D) : Dv := as.map .fz ++ List.replicate (N.length - as.length) .un
def runB (N : List Str) (n : Nat) (b : Sf) : List D → Option D := fun as => if as.length = n then (b (startD N as)).bind fun r => match r with
    | (.rt d, _) => some d
    | (.nx, _) => some .none
    | _ => none
  else none
theorem loop_nx {g : D → Dv → Option Dv} {b : Sf} (I : Dv → Prop) : ∀ (ds : List D), (∀ d ∈ ds, ∀ δ, I δ → ∃ δ1, g d δ = some δ1 ∧ ∃ δ2, b δ1 = some (.nx, δ2) ∧ I δ2) → ∀ δ, I δ → ∃ δ', loop g b ds δ = some (.nx, δ') ∧ I δ'
  | [], _, δ, hI => ⟨δ, rfl, hI⟩
  | d :: ds, h, δ, hI => by
    obtain ⟨δ1, e1, δ2, e2, h2⟩ := h d List.mem_cons_self δ hI
    obtain ⟨δ', e3, h3⟩ := loop_nx I ds (fun d hd => h d (List.mem_cons_of_mem _ hd)) δ2 h2
    refine ⟨δ', ?_, h3⟩
    rw [loop, e1]
    show (b δ1).bind _ = _
    rw [e2]
    exact e3
end VL

set_option Elab.async false
set_option linter.all false
set_option maxRecDepth 100000
set_option maxHeartbeats 4000000
/-! Values as plain data over the hand layer: what an expression, a statement, a def is worth, as a partial function over plain data. -/
namespace VL
open PySem PySem.Spec PyProof.Rows L2

abbrev Fg := PySem.W.Frag
abbrev St := L2.St

/-- things that are no plain data: an exception of a class of the text, a def of the text -/
def exO (a C : Addr) : HO := .ext fun h => ∃ o, h.get? a = some o ∧ o.cls = .ref C
inductive Opq (K : Fg) (Z : Hp) (a : Addr) : List (D × D) → Prop
  | exc {n : Str} {C : Addr} : PySem.W.nsIn K mainGlobals n = some (some (.ref C)) → Z a = some (exO a C) → Opq K Z a [(.str "exc", .str n)]
  | fn {n : Str} : PySem.W.nsIn K mainGlobals n = some (some (.ref a)) → Opq K Z a [(.str "fn", .str n)]
  | dct {kvs : List (D × D)} {es : List (Key × Int)} : kvs = dctD es → Z a = some (.dK (es.map fun p => (p.1, V.int p.2))) → Opq K Z a kvs
theorem dctD_no {es : List (Key × Int)} {a : D} {x : Str} {r : List (D × D)} (h : (a, PyData.str x) :: r = dctD es) : False := by
  cases es with
  | nil => cases h
  | cons e es => simp [dctD] at h
theorem Opq.same {K : Fg} {Z Z' : Hp} {a : Addr} {kvs : List (D × D)} (s : Same Z Z') (h : Opq K Z a kvs) : Opq K Z' a kvs := by
  cases h with
  | exc h1 h2 => exact .exc h1 (s _ _ h2)
  | fn h1 => exact .fn h1
  | dct h1 h2 => exact .dct h1 (s _ _ h2)
mutual
inductive Rep (K : Fg) (Z : Hp) : V → D → Prop
  | non : Rep K Z .non .none
  | bl (b : Bool) : Rep K Z (.bl b) (.bool b)
  | int (i : Int) : Rep K Z (.int i) (.int i)
  | str (x : Str) : Rep K Z (.str x) (.str x)
  | tup {a : Addr} {xs : List V} {ds : List D} : SqT K Z a xs → Reps K Z xs ds → Rep K Z (.ref a) (.tuple ds)
  | lst {a : Addr} {xs : List V} {ds : List D} : SqL K Z a xs → Reps K Z xs ds → Rep K Z (.ref a) (.list ds)
  | opq {a : Addr} {kvs : List (D × D)} : Opq K Z a kvs → Rep K Z (.ref a) (.dict kvs)
inductive Reps (K : Fg) (Z : Hp) : List V → List D → Prop
  | nil : Reps K Z [] []
  | cons {v : V} {d : D} {vs : List V} {ds : List D} : Rep K Z v d → Reps K Z vs ds → Reps K Z (v :: vs) (d :: ds)
end

theorem Rd.same {H H' : Hp} {a : Addr} {u : HO} (h : Rd H a u) (s : Same H H') : Rd H' a u := by
  rcases h with h | ⟨o, h⟩
  · exact .inl (s _ _ h)
  · exact .inr ⟨o, s _ _ h⟩
theorem SqT.same {K : Fg} {H H' : Hp} {a : Addr} {xs : List V} (h : SqT K H a xs) (s : Same H H') : SqT K H' a xs := by
  rcases h with h | h
  · exact .inl (Rd.same h s)
  · exact .inr h
theorem SqL.same {K : Fg} {H H' : Hp} {a : Addr} {xs : List V} (h : SqL K H a xs) (s : Same H H') : SqL K H' a xs := by
  rcases h with h | h
  · exact .inl (Rd.same h s)
  · exact .inr h
mutual
theorem Rep.same {K : Fg} {Z Z' : Hp} (s : Same Z Z') : ∀ {v : V} {d : D}, Rep K Z v d → Rep K Z' v d
  | _, _, .non => .non
  | _, _, .bl b => .bl b
  | _, _, .int i => .int i
  | _, _, .str x => .str x
  | _, _, .tup h r => .tup (SqT.same h s) (Reps.same s r)
  | _, _, .lst h r => .lst (SqL.same h s) (Reps.same s r)
  | _, _, .opq h => .opq (Opq.same s h)
theorem Reps.same {K : Fg} {Z Z' : Hp} (s : Same Z Z') : ∀ {vs : List V} {ds : List D}, Reps K Z vs ds → Reps K Z' vs ds
  | _, _, .nil => .nil
  | _, _, .cons h r => .cons (Rep.same s h) (Reps.same s r)
end
theorem Reps.length {K : Fg} {Z : Hp} : ∀ {vs : List V} {ds : List D}, Reps K Z vs ds → vs.length = ds.length
  | _, _, .nil => rfl
  | _, _, .cons _ r => congrArg (· + 1) (Reps.length r)
theorem Reps.get {K : Fg} {Z : Hp} : ∀ {vs : List V} {ds : List D} {i : Nat} {d : D}, Reps K Z vs ds → ds[i]? = some d → ∃ v, vs[i]? = some v ∧ Rep K Z v d
  | _, _, _, _, .nil, e => by simp at e
  | _, _, 0, _, .cons r _, e => by simp at e; subst e; exact ⟨_, rfl, r⟩
  | _, _, i + 1, d, .cons _ t, e => by
    obtain ⟨u, h1, h2⟩ := Reps.get (i := i) (d := d) t (by simpa using e)
    exact ⟨u, by simpa using h1, h2⟩
theorem Reps.set {K : Fg} {Z : Hp} {x : V} {u : D} (r : Rep K Z x u) : ∀ {xs : List V} {us : List D} (i : Nat), Reps K Z xs us → Reps K Z (xs.set i x) (us.set i u)
  | _, _, _, .nil => .nil
  | _, _, 0, .cons _ t => .cons r t
  | _, _, i + 1, .cons q t => .cons q (Reps.set r i t)
theorem Reps.append {K : Fg} {Z : Hp} : ∀ {xs ys : List V} {us ws : List D}, Reps K Z xs us → Reps K Z ys ws → Reps K Z (xs ++ ys) (us ++ ws)
  | _, _, _, _, .nil, s => s
  | _, _, _, _, .cons r t, s => .cons r (Reps.append t s)
theorem Reps.take {K : Fg} {Z : Hp} : ∀ {xs : List V} {us : List D} (n : Nat), Reps K Z xs us → Reps K Z (xs.take n) (us.take n)
  | _, _, 0, _ => .nil
  | _, _, _ + 1, .nil => .nil
  | _, _, n + 1, .cons r t => .cons r (Reps.take n t)
theorem Reps.drop {K : Fg} {Z : Hp} : ∀ {xs : List V} {us : List D} (n : Nat), Reps K Z xs us → Reps K Z (xs.drop n) (us.drop n)
  | _, _, 0, r => r
  | _, _, _ + 1, .nil => .nil
  | _, _, n + 1, .cons _ t => Reps.drop n t
theorem Rep.int_eq {K : Fg} {Z : Hp} {v : V} {i : Int} (h : Rep K Z v (.int i)) : v = .int i := by cases h; rfl
theorem Rep.bl_eq {K : Fg} {Z : Hp} {v : V} {b : Bool} (h : Rep K Z v (.bool b)) : v = .bl b := by cases h; rfl
theorem Reps.ints {K : Fg} {Z : Hp} : ∀ ns : List Int, Reps K Z (ns.map V.int) (ns.map PyData.int)
  | [] => .nil
  | n :: r => .cons (.int n) (Reps.ints r)

/-! ### from the abstract heap to the heap -/
mutual
theorem Rep.reads {X : Cx} {pins : List (Addr × Obj)} {σ : St} {H Z : Hp} {s : Shared} (I : Inv X pins σ H s) (zh : Same Z H) : ∀ {v : V} {d : D} {u : Value}, Rep X.K Z v d → RelV v u → d.canLay0 = true → ∃ as, Reads s.heap u d as
  | _, _, u, .non, r, _ => by cases (show u = Value.none from r); exact ⟨_, .none⟩
  | _, _, u, .bl b, r, _ => by cases (show u = Value.bool b from r); exact ⟨_, .bool b⟩
  | _, _, u, .int i, r, _ => by obtain ⟨t, rfl⟩ := (show ∃ t, u = Value.int i t from r); exact ⟨_, .int i t⟩
  | _, _, u, .str x, r, _ => by obtain ⟨t, rfl⟩ := (show ∃ t, u = Value.str x t from r); exact ⟨_, .str x t⟩
  | _, _, u, .tup (a := a) h q, r, hc => by
    cases (show u = Value.ref a from r)
    obtain ⟨its, rv, ht, _⟩ := I.tuple (SqT.same h zh)
    obtain ⟨as, ra⟩ := Reps.reads I zh q rv hc
    obtain ⟨o, e, c, n, dd⟩ := ht
    exact ⟨_, reads_tuple_at e c dd (by simpa using ra)⟩
  | _, _, u, .lst (a := a) h q, r, hc => by
    cases (show u = Value.ref a from r)
    obtain ⟨its, rv, ht, _⟩ := I.list (SqL.same h zh)
    obtain ⟨as, ra⟩ := Reps.reads I zh q rv hc
    obtain ⟨o, n, e, c, _, dd⟩ := ht
    exact ⟨_, reads_list_at e c dd (by simpa using ra)⟩
  | _, _, u, .opq h, r, hc => by cases hc
theorem Reps.reads {X : Cx} {pins : List (Addr × Obj)} {σ : St} {H Z : Hp} {s : Shared} (I : Inv X pins σ H s) (zh : Same Z H) : ∀ {vs : List V} {ds : List D} {us : List Value}, Reps X.K Z vs ds → Vals vs us → PyData.canLayAll0 ds = true → ∃ as, ReadsAll s.heap us ds as
  | _, _, _, .nil, .nil, _ => ⟨_, .nil⟩
  | _, _, _, .cons h q, .cons r t, hc => by
    have hc' := Bool.and_eq_true_iff.mp hc
    obtain ⟨as, ha⟩ := Rep.reads I zh h r hc'.1
    obtain ⟨bs, hb⟩ := Reps.reads I zh q t hc'.2
    exact ⟨_, .cons ha hb⟩
end

/-! ### what is new -/
structure New (Z H Z' H' : Hp) : Prop where
  z : Same Z Z'
  h : Same H H'
  zh : Same Z' H'
  o : ∀ b, H b ≠ none → Z' b = Z b
theorem New.refl {Z H : Hp} (zh : Same Z H) : New Z H Z H := ⟨Same.refl _, Same.refl _, zh, fun _ _ => rfl⟩
theorem New.trans {Z H Z1 H1 Z2 H2 : Hp} (a : New Z H Z1 H1) (b : New Z1 H1 Z2 H2) : New Z H Z2 H2 :=
  ⟨a.z.trans b.z, a.h.trans b.h, b.zh, fun c hc => by
    have : H1 c ≠ none := by
      cases e : H c with
      | none => exact absurd e hc
      | some o => rw [a.h c o e]; intro z; cases z
    rw [b.o c this, a.o c hc]⟩
theorem same_upd {H : Hp} {p : Addr} {o : HO} (h : H p = none) : Same H (upd H p o) := fun b u e => by
  rw [upd_ne (ne_of_none e h)]; exact e
theorem free_of {Z H : Hp} (zh : Same Z H) {p : Addr} (h : H p = none) : Z p = none := by
  cases e : Z p with
  | none => rfl
  | some o => rw [zh p o e] at h; cases h
/-- a new object, known for good -/
theorem New.add {Z H : Hp} (zh : Same Z H) {p : Addr} (hp : H p = none) (o : HO) : New Z H (upd Z p o) (upd H p o) where
  z := same_upd (free_of zh hp)
  h := same_upd hp
  zh := fun b u e => by
    by_cases hb : b = p
    · subst hb; rw [upd_same] at e ⊢; exact e
    · rw [upd_ne hb] at e ⊢; exact zh b u e
  o := fun b hb => by
    have : b ≠ p := fun z => hb (z ▸ hp)
    rw [upd_ne this]

/-! ### slots -/

/-- a dict's pairs and what they stand for -/
def RepK (K : Fg) (Z : Hp) (kvs : List (Key × V)) (es : List (Key × D)) : Prop := es.map (·.1) = kvs.map (·.1) ∧ Reps K Z (kvs.map (·.2)) (es.map (·.2))
inductive OwR (K : Fg) (Z : Hp) : HO → Oc → Prop
  | lst {xs : List V} {ds : List D} : Reps K Z xs ds → OwR K Z (.lst xs) (.l ds)
  | dct {kvs : List (Key × V)} {es : List (Key × D)} : RepK K Z kvs es → OwR K Z (.dK kvs) (.d es)
theorem OwR.same {K : Fg} {Z Z' : Hp} {o : HO} {c : Oc} (h : OwR K Z o c) (s : Same Z Z') : OwR K Z' o c := by
  cases h with
  | lst r => exact .lst (r.same s)
  | dct r => exact .dct ⟨r.1, r.2.same s⟩
structure Hold (K : Fg) (H₀ Z₀ Z : Hp) (δ : Dv) (σ : St) (H : Hp) : Prop where
  zh : Same Z H
  h0 : Same H₀ H
  z0 : Same Z₀ Z
  zb : ∀ b, H₀ b ≠ none → Z b = Z₀ b
  len : δ.length = σ.length
  fz : ∀ (i : Nat) d, δ[i]? = some (.fz d) → ∃ v, σ[i]? = some (some v) ∧ Rep K Z v d
  own : ∀ (i : Nat) c, δ[i]? = some (.own c) → ∃ a o, σ[i]? = some (some (.ref a)) ∧ H₀ a = none ∧ Z a = none ∧ H a = some o ∧ OwR K Z o c
  dja : ∀ (i j : Nat) c c' a, i ≠ j → δ[i]? = some (.own c) → δ[j]? = some (.own c') → σ[i]? = some (some (.ref a)) → σ[j]? ≠ some (some (V.ref a))
section
variable {K : Fg} {H₀ Z₀ Z Z' H H' : Hp} {δ : Dv} {σ : St}
theorem Hold.ow (h : Hold K H₀ Z₀ Z δ σ H) (i : Nat) (ds : List D) (e : δ[i]? = some (.ow ds)) : ∃ a xs, σ[i]? = some (some (.ref a)) ∧ H₀ a = none ∧ Z a = none ∧ H a = some (.lst xs) ∧ Reps K Z xs ds := by
  obtain ⟨a, o, h1, h2, h3, h4, h5⟩ := h.own i _ e
  cases h5 with
  | lst r => exact ⟨a, _, h1, h2, h3, h4, r⟩
theorem Hold.od (h : Hold K H₀ Z₀ Z δ σ H) (i : Nat) (es : List (Key × D)) (e : δ[i]? = some (.od es)) : ∃ a kvs, σ[i]? = some (some (.ref a)) ∧ H₀ a = none ∧ Z a = none ∧ H a = some (.dK kvs) ∧ RepK K Z kvs es := by
  obtain ⟨a, o, h1, h2, h3, h4, h5⟩ := h.own i _ e
  cases h5 with
  | dct r => exact ⟨a, _, h1, h2, h3, h4, r⟩
theorem Hold.new (h : Hold K H₀ Z₀ Z δ σ H) (n : New Z H Z' H') : Hold K H₀ Z₀ Z' δ σ H' where
  zh := n.zh
  h0 := h.h0.trans n.h
  z0 := h.z0.trans n.z
  zb := fun b hb => by
    have : H b ≠ none := by
      cases e : H₀ b with
      | none => exact absurd e hb
      | some o => rw [h.h0 b o e]; intro z; cases z
    rw [n.o b this, h.zb b hb]
  len := h.len
  fz := fun i d e => let ⟨v, a, r⟩ := h.fz i d e; ⟨v, a, r.same n.z⟩
  own := fun i ds e => by
    obtain ⟨a, xs, h1, h2, h3, h4, h5⟩ := h.own i ds e
    exact ⟨a, xs, h1, h2, by rw [n.o a (by rw [h4]; intro z; cases z)]; exact h3, n.h a _ h4, h5.same n.z⟩
  dja := h.dja
/-- a name is given a known value -/
theorem Hold.set (h : Hold K H₀ Z₀ Z δ σ H) {i : Nat} {v : V} {d : D} (r : Rep K Z v d) : Hold K H₀ Z₀ Z (δ.set i (.fz d)) (σ.set i (some v)) H where
  zh := h.zh
  h0 := h.h0
  z0 := h.z0
  zb := h.zb
  len := by simp [h.len]
  fz := fun j e q => by
    by_cases hj : i = j
    · subst hj
      have hl : i < δ.length := by
        have := (List.getElem?_eq_some_iff.mp q).1
        simpa using this
      rw [List.getElem?_set_self hl] at q
      cases q
      exact ⟨v, List.getElem?_set_self (by rw [← h.len]; exact hl), r⟩
    · rw [List.getElem?_set_ne hj] at q
      obtain ⟨u, a, b⟩ := h.fz j e q
      exact ⟨u, by rw [List.getElem?_set_ne hj]; exact a, b⟩
  own := fun j es q => by
    by_cases hj : i = j
    · subst hj
      have hl : i < δ.length := by
        have := (List.getElem?_eq_some_iff.mp q).1
        simpa using this
      rw [List.getElem?_set_self hl] at q
      cases q
    · rw [List.getElem?_set_ne hj] at q ⊢
      exact h.own j es q
  dja := fun j k ds es a hjk q1 q2 => by
    by_cases hj : i = j
    · subst hj
      have hl : i < δ.length := by
        have := (List.getElem?_eq_some_iff.mp q1).1
        simpa using this
      rw [List.getElem?_set_self hl] at q1
      cases q1
    · by_cases hk : i = k
      · subst hk
        have hl : i < δ.length := by
          have := (List.getElem?_eq_some_iff.mp q2).1
          simpa using this
        rw [List.getElem?_set_self hl] at q2
        cases q2
      · rw [List.getElem?_set_ne hj] at q1
        rw [List.getElem?_set_ne hk] at q2
        rw [List.getElem?_set_ne hj, List.getElem?_set_ne hk]
        exact h.dja j k ds es a hjk q1 q2
/-- a name is given a new list of its own -/
theorem Hold.setW (h : Hold K H₀ Z₀ Z δ σ H) {i : Nat} {p : Addr} {o : HO} {c : Oc} (hp : H p = none) (r : OwR K Z o c) : Hold K H₀ Z₀ Z (δ.set i (.own c)) (σ.set i (some (.ref p))) (upd H p o) where
  zh := h.zh.trans (same_upd hp)
  h0 := h.h0.trans (same_upd hp)
  z0 := h.z0
  zb := h.zb
  len := by simp [h.len]
  fz := fun j e q => by
    by_cases hj : i = j
    · subst hj
      have hl : i < δ.length := by
        have := (List.getElem?_eq_some_iff.mp q).1
        simpa using this
      rw [List.getElem?_set_self hl] at q
      cases q
    · rw [List.getElem?_set_ne hj] at q
      obtain ⟨u, a, b⟩ := h.fz j e q
      exact ⟨u, by rw [List.getElem?_set_ne hj]; exact a, b⟩
  own := fun j es q => by
    by_cases hj : i = j
    · subst hj
      have hl : i < δ.length := by
        have := (List.getElem?_eq_some_iff.mp q).1
        simpa using this
      rw [List.getElem?_set_self hl] at q
      cases q
      exact ⟨p, o, List.getElem?_set_self (by rw [← h.len]; exact hl), free_of h.h0 hp, free_of h.zh hp, upd_same, r⟩
    · rw [List.getElem?_set_ne hj] at q ⊢
      obtain ⟨a, ys, h1, h2, h3, h4, h5⟩ := h.own j es q
      exact ⟨a, ys, h1, h2, h3, by rw [upd_ne (ne_of_none h4 hp)]; exact h4, h5⟩
  dja := fun j k ds es a hjk q1 q2 => by
    have old : ∀ {m : Nat} {fs : Oc}, δ[m]? = some (.own fs) → σ[m]? ≠ some (some (V.ref p)) := fun {m fs} q z => by
      obtain ⟨b, ys, h1, h2, h3, h4, h5⟩ := h.own m fs q
      rw [h1] at z
      cases z
      rw [hp] at h4
      cases h4
    have hl : ∀ {m : Nat} {x : Sl}, (δ.set i x)[m]? ≠ none → m < σ.length := fun {m x} q => by
      have : m < (δ.set i x).length := by
        rcases Nat.lt_or_ge m (δ.set i x).length with g | g
        · exact g
        · exact absurd (List.getElem?_eq_none_iff.mpr g) q
      rw [← h.len]; simpa using this
    by_cases hj : i = j
    · subst hj
      have h1 : i < σ.length := hl (by rw [q1]; intro z; cases z)
      rw [List.getElem?_set_self h1]
      intro e
      cases e
      rw [List.getElem?_set_ne hjk] at q2 ⊢
      exact old q2
    · rw [List.getElem?_set_ne hj] at q1 ⊢
      by_cases hk : i = k
      · subst hk
        have h1 : i < σ.length := hl (by rw [q2]; intro z; cases z)
        intro e z
        rw [List.getElem?_set_self h1] at z
        cases z
        exact old q1 e
      · rw [List.getElem?_set_ne hk] at q2 ⊢
        exact h.dja j k ds es a hjk q1 q2
theorem Hold.setO (h : Hold K H₀ Z₀ Z δ σ H) {i : Nat} {p : Addr} {xs : List V} {ds : List D} (hp : H p = none) (r : Reps K Z xs ds) : Hold K H₀ Z₀ Z (δ.set i (.ow ds)) (σ.set i (some (.ref p))) (upd H p (.lst xs)) := h.setW hp (.lst r)
/-- a list of one's own is changed -/
theorem Hold.chgW (h : Hold K H₀ Z₀ Z δ σ H) {i : Nat} {p : Addr} {o : HO} {ds es : Oc} (e : δ[i]? = some (.own ds)) (ep : σ[i]? = some (some (.ref p))) (r : OwR K Z o es) : Hold K H₀ Z₀ Z (δ.set i (.own es)) σ (upd H p o) := by
  obtain ⟨a, zs, h1, h2, h3, h4, h5⟩ := h.own i ds e
  rw [ep] at h1
  cases h1
  have hl : i < δ.length := (List.getElem?_eq_some_iff.mp e).1
  refine ⟨fun b o' q => ?_, fun b o' q => ?_, h.z0, h.zb, by simp [h.len], fun j d q => ?_, fun j d q => ?_, fun j k d1 d2 a hjk q1 q2 => ?_⟩
  · rw [upd_ne (ne_of_none q h3)]; exact h.zh b o' q
  · rw [upd_ne (ne_of_none q h2)]; exact h.h0 b o' q
  · by_cases hj : i = j
    · subst hj
      rw [List.getElem?_set_self hl] at q
      cases q
    · rw [List.getElem?_set_ne hj] at q
      exact h.fz j d q
  · by_cases hj : i = j
    · subst hj
      rw [List.getElem?_set_self hl] at q
      cases q
      exact ⟨p, o, ep, h2, h3, upd_same, r⟩
    · rw [List.getElem?_set_ne hj] at q
      obtain ⟨b, ws, g1, g2, g3, g4, g5⟩ := h.own j d q
      refine ⟨b, ws, g1, g2, g3, ?_, g5⟩
      have : b ≠ p := fun z => by subst z; exact h.dja i j ds d b hj e q ep g1
      rw [upd_ne this]; exact g4
  · have f : ∀ {m : Nat} {dm : Oc}, (δ.set i (.own es))[m]? = some (.own dm) → ∃ dm', δ[m]? = some (.own dm') := fun {m dm} q => by
      by_cases hm : i = m
      · subst hm; exact ⟨ds, e⟩
      · rw [List.getElem?_set_ne hm] at q; exact ⟨dm, q⟩
    obtain ⟨e1, g1⟩ := f q1
    obtain ⟨e2, g2⟩ := f q2
    exact h.dja j k e1 e2 a hjk g1 g2
theorem Hold.chg (h : Hold K H₀ Z₀ Z δ σ H) {i : Nat} {p : Addr} {xs ys : List V} {ds es : List D} (e : δ[i]? = some (.ow ds)) (ep : σ[i]? = some (some (.ref p))) (r : Reps K Z ys es) : Hold K H₀ Z₀ Z (δ.set i (.ow es)) σ (upd H p (.lst ys)) := h.chgW e ep (.lst r)
/-- a list of one's own is known for good -/
theorem Hold.frz (h : Hold K H₀ Z₀ Z δ σ H) {i : Nat} {ds : List D} (e : δ[i]? = some (.ow ds)) : ∃ Z', Same Z Z' ∧ Hold K H₀ Z₀ Z' (δ.set i (.fz (.list ds))) σ H := by
  obtain ⟨a, xs, h1, h2, h3, h4, h5⟩ := h.ow i ds e
  have hl : i < δ.length := (List.getElem?_eq_some_iff.mp e).1
  have sz : Same Z (upd Z a (.lst xs)) := same_upd h3
  refine ⟨upd Z a (.lst xs), sz, fun b o q => ?_, h.h0, h.z0.trans sz, fun b hb => ?_, by simp [h.len], fun j d q => ?_, fun j d q => ?_, fun j k d1 d2 b hjk q1 q2 => ?_⟩
  · by_cases hb : b = a
    · subst hb; rw [upd_same] at q; cases q; exact h4
    · rw [upd_ne hb] at q; exact h.zh b o q
  · rw [upd_ne (fun z => hb (by rw [z]; exact h2))]; exact h.zb b hb
  · by_cases hj : i = j
    · subst hj
      rw [List.getElem?_set_self hl] at q
      cases q
      exact ⟨.ref a, h1, .lst (SqL.of upd_same) (h5.same sz)⟩
    · rw [List.getElem?_set_ne hj] at q
      obtain ⟨v, g1, g2⟩ := h.fz j d q
      exact ⟨v, g1, g2.same sz⟩
  · by_cases hj : i = j
    · subst hj
      rw [List.getElem?_set_self hl] at q
      cases q
    · rw [List.getElem?_set_ne hj] at q
      obtain ⟨b, ws, g1, g2, g3, g4, g5⟩ := h.own j d q
      have : b ≠ a := fun z => by subst z; exact h.dja i j _ d b hj e q h1 g1
      exact ⟨b, ws, g1, g2, by rw [upd_ne this]; exact g3, g4, g5.same sz⟩
  · by_cases hj : i = j
    · subst hj
      rw [List.getElem?_set_self hl] at q1
      cases q1
    · by_cases hk : i = k
      · subst hk
        rw [List.getElem?_set_self hl] at q2
        cases q2
      · rw [List.getElem?_set_ne hj] at q1
        rw [List.getElem?_set_ne hk] at q2
        exact h.dja j k d1 d2 b hjk q1 q2
end

/-! ### readings by plain functions -/
def tV (K : Fg) (f : Dv → Option D) : TE := fun σ H Q => ∃ H₀ Z₀ Z δ d, Hold K H₀ Z₀ Z δ σ H ∧ f δ = some d ∧ ∀ v Z' H', Hold K H₀ Z₀ Z' δ σ H' → Same Z Z' → Rep K Z' v d → Q v H'
def tVT (K : Fg) (f : Dv → Option Bool) : TT := fun σ H Q => ∃ H₀ Z₀ Z δ b, Hold K H₀ Z₀ Z δ σ H ∧ f δ = some b ∧ ∀ Z' H', Hold K H₀ Z₀ Z' δ σ H' → Same Z Z' → Q b H'
def tVA (K : Fg) (f : Dv → Option (List D)) : TA := fun σ H Q => ∃ H₀ Z₀ Z δ ds, Hold K H₀ Z₀ Z δ σ H ∧ f δ = some ds ∧ ∀ vs Z' H', Hold K H₀ Z₀ Z' δ σ H' → Same Z Z' → Reps K Z' vs ds → Q vs H'
def Fl.to (K : Fg) (Z : Hp) (D : Ends) (σ : St) (H : Hp) : Fl → Prop
  | .nx => D.nx σ H
  | .bk => D.bk σ H
  | .ct => D.ct σ H
  | .rt d => ∀ v, Rep K Z v d → D.rt v H
def tVS (K : Fg) (f : Dv → Option (Fl × Dv)) : TS := fun D σ H => ∃ H₀ Z₀ Z δ r, Hold K H₀ Z₀ Z δ σ H ∧ f δ = some r ∧ ∀ σ' H' Z', Hold K H₀ Z₀ Z' r.2 σ' H' → Same Z Z' → r.1.to K Z' D σ' H'
def EV (X : Cx) (e : Expr) (f : Dv → Option D) : Prop := PE X e (tV X.K f)
def TV (X : Cx) (e : Expr) (f : Dv → Option Bool) : Prop := PT X e (tVT X.K f)
def AV (X : Cx) (es : List Expr) (f : Dv → Option (List D)) : Prop := PA X es (tVA X.K f)
def SV (X : Cx) (st : Stmt) (f : Dv → Option (Fl × Dv)) : Prop := PS X st (tVS X.K f)
def BV (X : Cx) (st : List Stmt) (f : Dv → Option (Fl × Dv)) : Prop := PSs X st (tVS X.K f)

theorem PE.imp {X : Cx} {e : Expr} {t t' : TE} (h : PE X e t) (i : ∀ σ H Q, t' σ H Q → t σ H Q) : PE X e t' := fun pins s σ H Q I hw => h pins s σ H Q I (i _ _ _ hw)
theorem PT.imp {X : Cx} {e : Expr} {t t' : TT} (h : PT X e t) (i : ∀ σ H Q, t' σ H Q → t σ H Q) : PT X e t' := fun pins s σ H Q I hw => h pins s σ H Q I (i _ _ _ hw)
theorem PA.imp {X : Cx} {es : List Expr} {t t' : TA} (h : PA X es t) (i : ∀ σ H Q, t' σ H Q → t σ H Q) : PA X es t' := fun pos pins s σ H Q I hw => h pos pins s σ H Q I (i _ _ _ hw)
theorem PS.imp {X : Cx} {st : Stmt} {t t' : TS} (h : PS X st t) (i : ∀ D σ H, t' D σ H → t D σ H) : PS X st t' := fun pins s σ H D I hw => h pins s σ H D I (i _ _ _ hw)
theorem PSs.imp {X : Cx} {st : List Stmt} {t t' : TS} (h : PSs X st t) (i : ∀ D σ H, t' D σ H → t D σ H) : PSs X st t' := fun pins s σ H D I hw => h pins s σ H D I (i _ _ _ hw)
theorem OpR.imp {X : Cx} {f : Value → Value → Sem Value} {r r' : R2} (h : OpR X f r) (i : ∀ x y H Q, r' x y H Q → r x y H Q) : OpR X f r' := fun pins s σ H x y v u Q I rx ry q => h pins s σ H x y v u Q I rx ry (i _ _ _ _ q)
theorem CallR.imp {X : Cx} {f : Value} {r r' : List V → Hp → VK → Prop} (h : CallR X f r) (i : ∀ xs H Q, r' xs H Q → r xs H Q) : CallR X f r' := fun pins s σ H xs us Q I rx q => h pins s σ H xs us Q I rx (i _ _ _ q)

/-! ### operations on known values -/
def rD (K : Fg) (g : D → D → Option D) : R2 := fun x y H Q => ∃ Z a b d, Same Z H ∧ Rep K Z x a ∧ Rep K Z y b ∧ g a b = some d ∧ ∀ v Z' H', New Z H Z' H' → Rep K Z' v d → Q v H'
def rD1 (K : Fg) (g : D → Option D) : V → Hp → VK → Prop := fun x H Q => ∃ Z a d, Same Z H ∧ Rep K Z x a ∧ g a = some d ∧ ∀ v Z' H', New Z H Z' H' → Rep K Z' v d → Q v H'
def rDs (K : Fg) (g : List D → Option D) : List V → Hp → VK → Prop := fun xs H Q => ∃ Z as d, Same Z H ∧ Reps K Z xs as ∧ g as = some d ∧ ∀ v Z' H', New Z H Z' H' → Rep K Z' v d → Q v H'
def spD (K : Fg) (g : List D → Option D) : Sp := fun vs H Q _ => rDs K g vs H Q
section
variable {X : Cx} {a b c e : Expr} {es : List Expr} {pos p : Pos} {f f1 f2 f3 : Dv → Option D} {fs : Dv → Option (List D)} {ft fu : Dv → Option Bool}
theorem bind_some {α β : Type} {o : Option α} {k : α → Option β} {r : β} (h : o.bind k = some r) : ∃ a, o = some a ∧ k a = some r := by
  cases o with
  | none => cases h
  | some a => exact ⟨a, rfl, h⟩
/-- two in a row -/
theorem two {K : Fg} {g : D → D → Option D} {σ : St} {H : Hp} {Q : VK} {r : R2} (hr : ∀ x y H Q, rD K g x y H Q → r x y H Q) (h : tV K (o2 f1 f2 g) σ H Q) : tOp r (tV K f1) (tV K f2) σ H Q := by
  obtain ⟨H₀, Z₀, Z, δ, d, hh, e, k⟩ := h
  obtain ⟨x, e1, e⟩ := bind_some e
  obtain ⟨y, e2, e⟩ := bind_some e
  refine ⟨H₀, Z₀, Z, δ, x, hh, e1, fun v Z1 H1 hh1 s1 r1 => ⟨H₀, Z₀, Z1, δ, y, hh1, e2, fun u Z2 H2 hh2 s2 r2 => hr _ _ _ _ ⟨Z2, x, y, d, hh2.zh, r1.same s2, r2, e, fun w Z3 H3 n r3 => ?_⟩⟩⟩
  exact k w Z3 H3 (hh2.new n) ((s1.trans s2).trans n.z) r3
theorem ev_op {op : Operator} {g : D → D → Option D} (ho : OpR X (binaryOp op) (rD X.K g)) (ha : EV X a f1) (hb : EV X b f2) : EV X (.BinOp a op b pos) (o2 f1 f2 g) :=
  PE.imp (pe_op ho ha hb) fun _ _ _ h => two (fun _ _ _ _ q => q) h
theorem ev_un {op : UnaryOp} {g : D → Option D} (ho : UnR X (unaryOp op) (rD1 X.K g)) (ha : EV X a f) : EV X (.UnaryOp op a pos) (o1 f g) :=
  PE.imp (pe_un ho ha) fun σ H Q h => by
    obtain ⟨H₀, Z₀, Z, δ, d, hh, e, k⟩ := h
    obtain ⟨x, e1, e⟩ := bind_some e
    exact ⟨H₀, Z₀, Z, δ, x, hh, e1, fun v Z1 H1 hh1 s1 r1 => ⟨Z1, x, d, hh1.zh, r1, e, fun w Z3 H3 n r3 => k w Z3 H3 (hh1.new n) (s1.trans n.z) r3⟩⟩
theorem ev_cmp {op : CmpOp} {g : D → D → Option D} (ho : OpR X (compareOp op) (rD X.K g)) (ha : EV X a f1) (hb : EV X b f2) (hm : behindInMarks op b = false) : EV X (.Compare a [op] [b] pos) (o2 f1 f2 g) :=
  PE.imp (pe_cmpR ho ha hb hm) fun _ _ _ h => two (fun _ _ _ _ q => q) h
/-- a value's bool -/
theorem asB_eq {d : D} {b : Bool} (h : asB d = some b) : d = .bool b := by
  cases d <;> simp [asB] at h
  subst h; rfl
theorem toB {K : Fg} {σ : St} {H : Hp} {Q : Bool → Hp → Prop} (h : tVT K (ob f) σ H Q) : tV K f σ H fun x H1 => ∃ c, x = .bl c ∧ Q c H1 := by
  obtain ⟨H₀, Z₀, Z, δ, d, hh, e, k⟩ := h
  obtain ⟨x, e1, e⟩ := bind_some e
  have := asB_eq e
  subst this
  exact ⟨H₀, Z₀, Z, δ, _, hh, e1, fun v Z1 H1 hh1 s1 r1 => ⟨_, r1.bl_eq, k Z1 H1 hh1 s1⟩⟩
theorem tv_cmp {op : CmpOp} {g : D → D → Option D} (ho : OpR X (compareOp op) (rD X.K g)) (ha : EV X a f1) (hb : EV X b f2) (hm : behindInMarks op b = false) : TV X (.Compare a [op] [b] pos) (ob (o2 f1 f2 g)) :=
  PT.imp (pt_cmpR ho ha hb hm) fun σ H Q h => by
    have h' := toB h
    exact two (f1 := f1) (f2 := f2) (g := g) (fun _ _ _ _ q => q) h'
theorem tv_val (ha : EV X a f) (he : ∀ whole, isTrue a X.env whole = (do let v ← whole; standAt a.pos; holding [v] (truthy v)) := by intro _; rfl) : TV X a (ob f) :=
  PT.imp (pt_val ha he) fun _ _ _ h => toB h
def WV (X : Cx) (e : Expr) (f : Dv → Option Bool) : Prop := PW X e (tVT X.K f)
theorem PW.imp {X : Cx} {e : Expr} {t t' : TT} (h : PW X e t) (i : ∀ σ H Q, t' σ H Q → t σ H Q) : PW X e t' := fun whole pins s σ H Q I hw => h whole pins s σ H Q I (i _ _ _ hw)
theorem wv_and1 (ha : TV X a ft) : WV X (.BoolOp .And [a] pos) ft := pw_and1 ha
theorem wv_or1 (ha : TV X a ft) : WV X (.BoolOp .Or [a] pos) ft := pw_or1 ha
theorem wv_and {rest : List Expr} (ha : TV X a ft) (hb : WV X (.BoolOp .And (b :: rest) pos) fu) : WV X (.BoolOp .And (a :: b :: rest) pos) (oAnd ft fu) :=
  PW.imp (pw_and ha hb) fun σ H Q h => by
    obtain ⟨H₀, Z₀, Z, δ, d, hh, e, k⟩ := h
    obtain ⟨x, e1, e⟩ := bind_some e
    refine ⟨H₀, Z₀, Z, δ, x, hh, e1, fun Z1 H1 hh1 s1 => ?_⟩
    cases x with
    | true => exact ⟨H₀, Z₀, Z1, δ, d, hh1, e, fun Z2 H2 hh2 s2 => k Z2 H2 hh2 (s1.trans s2)⟩
    | false => cases e; exact k Z1 H1 hh1 s1
theorem wv_or {rest : List Expr} (ha : TV X a ft) (hb : WV X (.BoolOp .Or (b :: rest) pos) fu) : WV X (.BoolOp .Or (a :: b :: rest) pos) (oOr ft fu) :=
  PW.imp (pw_or ha hb) fun σ H Q h => by
    obtain ⟨H₀, Z₀, Z, δ, d, hh, e, k⟩ := h
    obtain ⟨x, e1, e⟩ := bind_some e
    refine ⟨H₀, Z₀, Z, δ, x, hh, e1, fun Z1 H1 hh1 s1 => ?_⟩
    cases x with
    | true => cases e; exact k Z1 H1 hh1 s1
    | false => exact ⟨H₀, Z₀, Z1, δ, d, hh1, e, fun Z2 H2 hh2 s2 => k Z2 H2 hh2 (s1.trans s2)⟩
theorem WV.tv (h : WV X a ft) : TV X a ft := PW.pt h
theorem tv_not (ha : TV X a ft) : TV X (.UnaryOp .Not a pos) (oNot ft) :=
  PT.imp (pt_not ha) fun σ H Q h => by
    obtain ⟨H₀, Z₀, Z, δ, d, hh, e, k⟩ := h
    cases e1 : ft δ with
    | none => unfold oNot at e; rw [e1] at e; cases e
    | some x =>
      unfold oNot at e
      rw [e1] at e
      cases e
      exact ⟨H₀, Z₀, Z, δ, x, hh, e1, fun Z1 H1 hh1 s1 => k Z1 H1 hh1 s1⟩
/-- and, or, not as values (bools) -/
theorem ev_one {op} (h : EV X a f) : EV X (.BoolOp op [a] pos) f := pe_one h
theorem ev_and {rest : List Expr} (ha : EV X a f1) (hb : EV X (.BoolOp .And (b :: rest) pos) f2) : EV X (.BoolOp .And (a :: b :: rest) pos) (oAndV f1 f2) :=
  PE.imp (pe_and ha hb) fun σ H Q h => by
    obtain ⟨H₀, Z₀, Z, δ, d, hh, e, k⟩ := h
    obtain ⟨x, e1, e⟩ := bind_some e
    obtain ⟨c, e2, e⟩ := bind_some e
    have := asB_eq e2
    subst this
    refine ⟨H₀, Z₀, Z, δ, _, hh, e1, fun v Z1 H1 hh1 s1 r1 => ⟨c, r1.bl_eq, ?_⟩⟩
    cases c with
    | true => exact ⟨H₀, Z₀, Z1, δ, d, hh1, e, fun v Z2 H2 hh2 s2 r2 => k v Z2 H2 hh2 (s1.trans s2) r2⟩
    | false => cases e; exact k _ Z1 H1 hh1 s1 (.bl false)
theorem ev_not (ha : EV X a f) : EV X (.UnaryOp .Not a pos) (o1 f notD) :=
  PE.imp (pe_not ha) fun σ H Q h => by
    obtain ⟨H₀, Z₀, Z, δ, d, hh, e, k⟩ := h
    obtain ⟨x, e1, e⟩ := bind_some e
    cases e2 : asB x with
    | none => unfold notD at e; rw [e2] at e; cases e
    | some c =>
      unfold notD at e
      rw [e2] at e
      cases e
      have := asB_eq e2
      subst this
      exact ⟨H₀, Z₀, Z, δ, _, hh, e1, fun v Z1 H1 hh1 s1 r1 => ⟨c, r1.bl_eq, k _ Z1 H1 hh1 s1 (.bl _)⟩⟩
/-! ### names, constants, argument lists, displays -/
theorem oV_eq {i : Nat} {δ : Dv} {d : D} (h : oV i δ = some d) : δ[i]? = some (.fz d) := by
  unfold oV at h
  cases q : δ[i]? with
  | none => rw [q] at h; cases h
  | some x =>
    rw [q] at h
    cases x with
    | fz e => cases h; rfl
    | un => cases h
    | own _ => cases h
theorem ev_var (i : Nat) {x : Str} (hN : X.N[i]? = some x := by rfl) (hv : Vis X.env.scope x := by first | exact Or.inl rfl | exact Or.inr (Or.inl rfl) | exact Or.inr (Or.inr rfl)) (hd : (x == ("__debug__" : Str)) = false := by decide) (hcd : (x == ("__classdict__" : Str)) = false := by decide) :
    EV X (.Name x pos) (oV i) :=
  PE.imp (pe_var hN hv hd hcd) fun σ H Q h => by
    obtain ⟨H₀, Z₀, Z, δ, d, hh, e, k⟩ := h
    obtain ⟨v, q, r⟩ := hh.fz i d (oV_eq e)
    exact ⟨v, q, k v Z H hh (Same.refl _) r⟩
theorem ev_c {d : D} {v : V} (h : PE X e (tC v)) (r : ∀ Z, Rep X.K Z v d) : EV X e (oC d) :=
  PE.imp h fun σ H Q h => by
    obtain ⟨H₀, Z₀, Z, δ, d', hh, e, k⟩ := h
    cases e
    exact k v Z H hh (Same.refl _) (r Z)
theorem ev_int {i j} : EV X (.Constant (.int i) j pos) (oC (.int i)) := ev_c pe_int fun _ => .int i
theorem ev_bl {i j} : EV X (.Constant (.bool i) j pos) (oC (.bool i)) := ev_c pe_bl fun _ => .bl i
theorem ev_str {i j} : EV X (.Constant (.str i) j pos) (oC (.str i)) := ev_c pe_str fun _ => .str i
theorem av_nil : AV X [] oNil :=
  PA.imp pa_nil fun σ H Q h => by
    obtain ⟨H₀, Z₀, Z, δ, d, hh, e, k⟩ := h
    cases e
    exact k [] Z H hh (Same.refl _) .nil
theorem av_cons (ha : EV X e f) (hr : AV X es fs) (hs : starEach (e :: es) X.env = (false, eval e X.env) :: starEach es X.env := by rfl) : AV X (e :: es) (oCons f fs) :=
  PA.imp (pa_cons ha hr hs) fun σ H Q h => by
    obtain ⟨H₀, Z₀, Z, δ, d, hh, e, k⟩ := h
    obtain ⟨x, e1, e⟩ := bind_some e
    obtain ⟨xs, e2, e⟩ := bind_some e
    cases e
    exact ⟨H₀, Z₀, Z, δ, x, hh, e1, fun v Z1 H1 hh1 s1 r1 => ⟨H₀, Z₀, Z1, δ, xs, hh1, e2, fun vs Z2 H2 hh2 s2 r2 => k _ Z2 H2 hh2 (s1.trans s2) (.cons (r1.same s2) r2)⟩⟩
theorem ev_tup {x1} (h : AV X es fs) : EV X (.Tuple es x1 pos) (os fs tupD) :=
  PE.imp (pe_tup h) fun σ H Q h => by
    obtain ⟨H₀, Z₀, Z, δ, d, hh, e, k⟩ := h
    obtain ⟨xs, e1, e⟩ := bind_some e
    refine ⟨H₀, Z₀, Z, δ, xs, hh, e1, fun vs Z1 H1 hh1 s1 r1 => ?_⟩
    by_cases hl : xs.length ≤ sizeLine
    · rw [tupD, if_pos hl] at e
      cases e
      refine ⟨by rw [r1.length]; exact hl, fun p hp => ?_⟩
      have n := New.add hh1.zh hp (.tup vs)
      exact k _ _ _ (hh1.new n) (s1.trans n.z) (.tup (SqT.of upd_same) (r1.same n.z))
    · rw [tupD, if_neg hl] at e; cases e
theorem ev_lst (h : AV X es fs) : EV X (.List es pos) (os fs lstD) :=
  PE.imp (pe_lst h) fun σ H Q h => by
    obtain ⟨H₀, Z₀, Z, δ, d, hh, e, k⟩ := h
    obtain ⟨xs, e1, e⟩ := bind_some e
    refine ⟨H₀, Z₀, Z, δ, xs, hh, e1, fun vs Z1 H1 hh1 s1 r1 => ?_⟩
    by_cases hl : xs.length ≤ sizeLine
    · rw [lstD, if_pos hl] at e
      cases e
      refine ⟨by rw [r1.length]; exact hl, fun p hp => ?_⟩
      have n := New.add hh1.zh hp (.lst vs)
      exact k _ _ _ (hh1.new n) (s1.trans n.z) (.lst (SqL.of upd_same) (r1.same n.z))
    · rw [lstD, if_neg hl] at e; cases e
/-! ### calls -/
theorem args {K : Fg} {g : List D → Option D} {σ : St} {H : Hp} {Q : VK} (h : tV K (os fs g) σ H Q) : tVA K fs σ H fun vs H1 => rDs K g vs H1 Q := by
  obtain ⟨H₀, Z₀, Z, δ, d, hh, e, k⟩ := h
  obtain ⟨xs, e1, e⟩ := bind_some e
  exact ⟨H₀, Z₀, Z, δ, xs, hh, e1, fun vs Z1 H1 hh1 s1 r1 => ⟨Z1, xs, d, hh1.zh, r1, e, fun w Z3 H3 n r3 => k w Z3 H3 (hh1.new n) (s1.trans n.z) r3⟩⟩
theorem ev_callB {x : Str} {id : String} {g : List D → Option D} (hc : CallR X (.builtin id) (rDs X.K g)) (hg : Gl X x) (hm : X.mg x = none) (hv : bootBuiltins x = some (.builtin id)) (ha : AV X (e :: es) fs) (hn : x ≠ "__name__" := by decide) (hdb : (x == ("__debug__" : Str)) = false := by decide)
    (he : starEach (e :: es) X.env = (false, eval e X.env) :: starEach es X.env := by rfl) (hpl : (backTo pos (starEach es X.env)).any (·.1) = false := by rfl) : EV X (.Call (.Name x p) (e :: es) [] pos) (os fs g) :=
  PE.imp (pe_callB hc hg hm hv ha hn hdb he hpl) fun _ _ _ h => args h
theorem ev_callTy {x : Str} {id : String} {g : List D → Option D} (hc : CallR X (.type id) (rDs X.K g)) (hg : Gl X x) (hm : X.mg x = none) (hv : bootBuiltins x = some (.type id)) (ha : AV X (e :: es) fs) (hn : x ≠ "__name__" := by decide) (hdb : (x == ("__debug__" : Str)) = false := by decide)
    (he : starEach (e :: es) X.env = (false, eval e X.env) :: starEach es X.env := by rfl) (hpl : (backTo pos (starEach es X.env)).any (·.1) = false := by rfl) : EV X (.Call (.Name x p) (e :: es) [] pos) (os fs g) :=
  PE.imp (pe_callTy hc hg hm hv ha hn hdb he hpl) fun _ _ _ h => args h
/-- a def of the text: dd the defaults that fill up (plain) -/
theorem ev_call {k : Nat} {fa : Addr} {fd : FuncData} {ps : List Str} {x : Str} {g : List D → Option D} {dd : List D} {dv : List V} {ds : List Value} (F : FnOk X.prog X.w X.K X.mg X.base CX0 k fa fd ps (spD X.K g)) (hr : Room k X.A) (hg : Gl X x) (hm : X.mg x = some (.ref fa)) (hk : PySem.W.keepIn X.K (.ref fa) = true)
    (hb : Binds X.K fd ps ds) (hd : Vals dv ds) (hdd : ∀ Z, Reps X.K Z dv dd) (hx : Passes CX0 X E0) (ha : AV X (e :: es) fs) (hdb : (x == ("__debug__" : Str)) = false := by decide) (he : starEach (e :: es) X.env = (false, eval e X.env) :: starEach es X.env := by rfl) (hpl : (backTo pos (starEach es X.env)).any (·.1) = false := by rfl) :
    EV X (.Call (.Name x p) (e :: es) [] pos) (os fs fun as => g (as ++ dd)) :=
  PE.imp (pe_call F hr hg hm hk hb hd hx ha hdb he hpl) fun σ H Q h => by
    obtain ⟨H₀, Z₀, Z, δ, xs, hh, e1, q⟩ := args h
    refine ⟨H₀, Z₀, Z, δ, xs, hh, e1, fun vs Z1 H1 hh1 s1 r1 => ?_⟩
    obtain ⟨Z2, as, d, zh, ra, eg, kk⟩ := q vs Z1 H1 hh1 s1 r1
    exact ⟨Z2, as ++ dd, d, zh, ra.append (hdd Z2), eg, kk⟩
/-! ### subscripts -/
theorem IxR.imp {r r' : R2} (h : IxR X r) (i : ∀ x y H Q, r' x y H Q → r x y H Q) : IxR X r' := fun value slice pins s σ H x y v u Q I rx ry q hs => h value slice pins s σ H x y v u Q I rx ry (i _ _ _ _ q) hs
theorem ev_ix {g : D → D → Option D} (ho : IxR X (rD X.K g)) (ha : EV X a f1) (hb : EV X b f2) (hs : PlainIx b) : EV X (.Subscript a b pos) (o2 f1 f2 g) :=
  PE.imp (pe_ix ho ha hb hs) fun _ _ _ h => two (fun _ _ _ _ q => q) h
end
end VL

set_option Elab.async false
set_option linter.all false
set_option maxRecDepth 100000
set_option maxHeartbeats 4000000
namespace VL
open PySem PySem.Spec PyProof.Rows L2
section
variable {X : Cx} {a b c e tg : Expr} {es : List Expr} {pos p : Pos} {f f1 f2 f3 : Dv → Option D} {fs : Dv → Option (List D)} {ft fu : Dv → Option Bool} {st : Stmt} {sts body : List Stmt} {s1 s2 : Dv → Option (Fl × Dv)}

/-! ### ints -/
theorem op_iI {F : Value → Value → Sem Value} {g : Int → Int → Int} (h : OpR X F (rI0 fun i j => .int (g i j))) : OpR X F (rD X.K (iI g)) :=
  OpR.imp h fun x y H Q q => by
    obtain ⟨Z, a, b, d, zh, ra, rb, e, k⟩ := q
    cases ra <;> cases rb <;> simp [iI] at e
    subst e
    exact ⟨_, _, rfl, rfl, k _ Z H (New.refl zh) (.int _)⟩
theorem op_iB {F : Value → Value → Sem Value} {g : Int → Int → Bool} (h : OpR X F (rI0 fun i j => .bl (g i j))) : OpR X F (rD X.K (iB g)) :=
  OpR.imp h fun x y H Q q => by
    obtain ⟨Z, a, b, d, zh, ra, rb, e, k⟩ := q
    cases ra <;> cases rb <;> simp [iB] at e
    subst e
    exact ⟨_, _, rfl, rfl, k _ Z H (New.refl zh) (.bl _)⟩
theorem op_iC {F : Value → Value → Sem Value} {P : Int → Int → Prop} {C : Int → Int → Bool} {g : Int → Int → Int} (h : OpR X F (rI P fun i j => .int (g i j))) (hc : ∀ i j, C i j = true → P i j) : OpR X F (rD X.K (iC C g)) :=
  OpR.imp h fun x y H Q q => by
    obtain ⟨Z, a, b, d, zh, ra, rb, e, k⟩ := q
    cases ra with
    | int i =>
      cases rb with
      | int j =>
        by_cases hh : C i j = true
        · simp only [iC, if_pos hh] at e
          cases e
          exact ⟨_, _, rfl, rfl, hc _ _ hh, k _ Z H (New.refl zh) (.int _)⟩
        · simp only [iC, if_neg hh] at e
          cases e
      | _ => simp [iC] at e
    | _ => simp [iC] at e
theorem d_sub : OpR X (binaryOp .Sub) (rD X.K subD) := op_iI op_sub
theorem d_mulI : OpR X (binaryOp .Mult) (rD X.K mulI) := op_iC (P := fun i j => IntMulOk i j) (opI fun _ _ _ _ _ _ _ hc q => mul_int q hc) fun i j h => of_decide_eq_true h
theorem d_div : OpR X (binaryOp .FloorDiv) (rD X.K divD) := op_iC op_fdiv fun i j h => (of_decide_eq_true h : 0 < j ∧ j < 1073741824)
theorem d_mod : OpR X (binaryOp .Mod) (rD X.K modD) := op_iC op_mod fun i j h => of_decide_eq_true h
theorem d_pow : OpR X (binaryOp .Pow) (rD X.K powD) := op_iC op_pow fun i j h => (of_decide_eq_true h : 0 ≤ j ∧ j ≤ 1000000 ∧ i.natAbs < 2 ^ 64)
theorem d_shl : OpR X (binaryOp .LShift) (rD X.K shlD) := op_iC (P := fun i j => 0 ≤ j ∧ (Builtin.Int.intBits i : Int) + j ≤ 2 ^ 27) (opI fun _ _ _ _ _ _ _ hc q => lshift_int hc.1 hc.2 q) fun i j h => of_decide_eq_true h
theorem d_shr : OpR X (binaryOp .RShift) (rD X.K shrD) := op_iC op_shr fun i j h => of_decide_eq_true h
theorem d_and : OpR X (binaryOp .BitAnd) (rD X.K andD) := op_iI op_and
theorem d_lt : OpR X (compareOp .Lt) (rD X.K ltD) := op_iB op_lt
theorem d_gt : OpR X (compareOp .Gt) (rD X.K gtD) := op_iB op_gt
theorem d_neg : UnR X (unaryOp .USub) (rD1 X.K negD) := by
  intro pins s σ H x v Q I rx q
  obtain ⟨Z, a, d, zh, ra, e, k⟩ := q
  cases ra <;> simp [negD] at e
  subst e
  exact un_neg pins s σ H _ v Q I rx ⟨_, rfl, k _ Z H (New.refl zh) (.int _)⟩
/-! ### + -/
theorem Rep.str_eq {K : Fg} {Z : Hp} {v : V} {x : Str} (h : Rep K Z v (.str x)) : v = .str x := by cases h; rfl
theorem Rep.tup_ex {K : Fg} {Z : Hp} {v : V} {ds : List D} (h : Rep K Z v (.tuple ds)) : ∃ a xs, v = .ref a ∧ SqT K Z a xs ∧ Reps K Z xs ds := by
  cases h with
  | tup p q => exact ⟨_, _, rfl, p, q⟩
theorem Rep.lst_ex {K : Fg} {Z : Hp} {v : V} {ds : List D} (h : Rep K Z v (.list ds)) : ∃ a xs, v = .ref a ∧ SqL K Z a xs ∧ Reps K Z xs ds := by
  cases h with
  | lst p q => exact ⟨_, _, rfl, p, q⟩
theorem ite_some {p : Prop} [Decidable p] {α : Type} {x y : α} (h : (if p then some x else none) = some y) : p ∧ x = y := by
  by_cases q : p
  · rw [if_pos q] at h; exact ⟨q, Option.some.inj h⟩
  · rw [if_neg q] at h; cases h
theorem addD_k {a b d : D} (h : addD a b = some d) : (∃ i, a = .int i) ∨ (∃ x, a = .str x) ∨ (∃ xs, a = .list xs) ∨ ∃ xs, a = .tuple xs := by
  cases a with
  | int i => exact .inl ⟨_, rfl⟩
  | str i => exact .inr (.inl ⟨_, rfl⟩)
  | list i => exact .inr (.inr (.inl ⟨_, rfl⟩))
  | tuple i => exact .inr (.inr (.inr ⟨_, rfl⟩))
  | _ => cases h
theorem addD_i {i : Int} {b d : D} (h : addD (.int i) b = some d) : ∃ j, b = .int j ∧ d = .int (i + j) := by
  cases b with
  | int j => exact ⟨j, rfl, (Option.some.inj h).symm⟩
  | _ => cases h
theorem addD_s {i : Str} {b d : D} (h : addD (.str i) b = some d) : ∃ j, b = .str j ∧ i.length + j.length ≤ sizeLine ∧ d = .str (i ++ j) := by
  cases b with
  | str j => obtain ⟨p, q⟩ := ite_some h; exact ⟨j, rfl, p, q.symm⟩
  | _ => cases h
theorem addD_l {i : List D} {b d : D} (h : addD (.list i) b = some d) : ∃ j, b = .list j ∧ i.length + j.length ≤ sizeLine ∧ d = .list (i ++ j) := by
  cases b with
  | list j => obtain ⟨p, q⟩ := ite_some h; exact ⟨j, rfl, p, q.symm⟩
  | _ => cases h
theorem addD_t {i : List D} {b d : D} (h : addD (.tuple i) b = some d) : ∃ j, b = .tuple j ∧ i.length + j.length ≤ sizeLine ∧ d = .tuple (i ++ j) := by
  cases b with
  | tuple j => obtain ⟨p, q⟩ := ite_some h; exact ⟨j, rfl, p, q.symm⟩
  | _ => cases h
theorem d_add : OpR X (binaryOp .Add) (rD X.K addD) := by
  intro pins s σ H x y v u Q I rx ry q
  obtain ⟨Z, a, b, d, zh, ra, rb, e, k⟩ := q
  rcases addD_k e with ⟨i, rfl⟩ | ⟨i, rfl⟩ | ⟨ds, rfl⟩ | ⟨ds, rfl⟩
  · obtain ⟨j, rfl, rfl⟩ := addD_i e
    cases ra.int_eq
    cases rb.int_eq
    exact op_add pins s σ H _ _ v u Q I rx ry ⟨_, _, rfl, rfl, k _ Z H (New.refl zh) (.int _)⟩
  · obtain ⟨j, rfl, hl, rfl⟩ := addD_s e
    cases ra.str_eq
    cases rb.str_eq
    exact op_add_str pins s σ H _ _ v u Q I rx ry ⟨_, _, rfl, rfl, hl, k _ Z H (New.refl zh) (.str _)⟩
  · obtain ⟨es, rfl, hl, rfl⟩ := addD_l e
    obtain ⟨a, xs, rfl, h1, q1⟩ := ra.lst_ex
    obtain ⟨b, ys, rfl, h2, q2⟩ := rb.lst_ex
    cases rx
    cases ry
    obtain ⟨its, r1, p1, z1⟩ := I.list (SqL.same h1 zh)
    obtain ⟨its2, r2, p2, z2⟩ := I.list (SqL.same h2 zh)
    obtain ⟨⟨cls, dd, data, sl⟩, n1, ho, hc, hdd, hd⟩ := p1
    obtain ⟨⟨cls2, dd2, data2, sl2⟩, n2, ho2, hc2, hdd2, hd2⟩ := p2
    simp only at hc hd hc2 hd2
    subst hc hd hc2 hd2
    have hl1 := r1.length
    have hl2 := r2.length
    have ql1 := q1.length
    have ql2 := q2.length
    refine concat_meets ⟨_, ho, rfl⟩ ⟨_, ho2, rfl⟩ noFill_list_add seq_list_add PySem.F.slot_list_add PySem.F.entry_list_add (PySem.F.args_list_add_2 _ _) (list_addW a b its.toArray its2.toArray n1 n2 dd dd2 sl sl2 (by simp; omega)) ⟨ho, ho2, ?_⟩
    have ea : its.toArray ++ its2.toArray = (its ++ its2).toArray := by simp
    rw [ea]
    have n := New.add zh I.fresh (.lst (xs ++ ys))
    exact ⟨.ref _, _, I.lnew (t' := s.toks) (r1.append r2) (by rw [List.length_append]; omega), rfl, k _ _ _ n (.lst (SqL.of upd_same) ((q1.append q2).same n.z))⟩
  · obtain ⟨es, rfl, hl, rfl⟩ := addD_t e
    obtain ⟨a, xs, rfl, h1, q1⟩ := ra.tup_ex
    obtain ⟨b, ys, rfl, h2, q2⟩ := rb.tup_ex
    by_cases h0 : ds.length = 0
    · have hd0 : ds = [] := List.eq_nil_of_length_eq_zero h0
      subst hd0
      cases q1
      cases rx
      cases ry
      obtain ⟨its, r1, p1, z1⟩ := I.tuple (SqT.same h1 zh)
      obtain ⟨its2, r2, p2, z2⟩ := I.tuple (SqT.same h2 zh)
      cases r1
      obtain ⟨⟨cls, dd, data, sl⟩, ho, hc, n, hd⟩ := id p1
      obtain ⟨⟨cls2, dd2, data2, sl2⟩, ho2, hc2, n2, hd2⟩ := id p2
      simp only at hc hd hc2 hd2
      subst hc hd hc2 hd2
      exact concat_meets ⟨_, ho, rfl⟩ ⟨_, ho2, rfl⟩ noFill_tuple_add seq_tuple_add PySem.F.slot_tuple_add PySem.F.entry_tuple_add (PySem.F.args_tuple_add_2 _ _)
        (tuple_addW0 a b _ its2.toArray n n2 dd dd2 sl sl2 (by simp)) ⟨ho, ho2, ⟨.ref b, H, I, rfl, k _ Z H (New.refl zh) (.tup h2 q2)⟩⟩
    refine op_catT pins s σ H _ _ v u Q I rx ry ⟨a, b, xs, ys, rfl, rfl, SqT.same h1 zh, SqT.same h2 zh, fun z => h0 (by rw [← q1.length, z]; rfl), by rw [q1.length, q2.length]; exact hl, fun z => ?_, fun z p hp => ?_⟩
    · subst z
      cases q2
      rw [List.append_nil] at k
      exact k _ Z H (New.refl zh) (.tup h1 q1)
    · have n := New.add zh hp (.tup (xs ++ ys))
      exact k _ _ _ n (.tup (SqT.of upd_same) ((q1.append q2).same n.z))

/-! ### == -/
theorem shp_lay {d : D} (h : shp d = true) : d.canLay0 = true := (Bool.and_eq_true_iff.mp h).1
theorem d_eq (hu : X.A.units + 64 < cLine) : OpR X (compareOp .Eq) (rD X.K eqD) := by
  intro pins s σ H x y v u Q I rx ry q
  obtain ⟨Z, a, b, d, zh, ra, rb, e, k⟩ := q
  by_cases hs : shp a = true ∧ shp b = true
  · rw [eqD, if_pos hs] at e
    cases e
    obtain ⟨as, r1⟩ := ra.reads I zh rx (shp_lay hs.1)
    obtain ⟨bs, r2⟩ := rb.reads I zh ry (shp_lay hs.2)
    exact eq_dataH r1 r2 hs.1 hs.2 hu ⟨.bl _, H, I, rfl, k _ Z H (New.refl zh) (.bl _)⟩
  · rw [eqD, if_neg hs] at e; cases e
theorem d_ne (hu : X.A.units + 64 < cLine) : OpR X (compareOp .NotEq) (rD X.K neD) := by
  intro pins s σ H x y v u Q I rx ry q
  obtain ⟨Z, a, b, d, zh, ra, rb, e, k⟩ := q
  by_cases hs : shp a = true ∧ shp b = true
  · rw [neD, if_pos hs] at e
    cases e
    obtain ⟨as, r1⟩ := ra.reads I zh rx (shp_lay hs.1)
    obtain ⟨bs, r2⟩ := rb.reads I zh ry (shp_lay hs.2)
    exact ne_dataH r1 r2 hs.1 hs.2 hu ⟨.bl _, H, I, rfl, k _ Z H (New.refl zh) (.bl _)⟩
  · rw [neD, if_neg hs] at e; cases e
/-! ### items -/
theorem Reps.at {K : Fg} {Z : Hp} {vs : List V} {ds : List D} {i : Int} {d : D} (r : Reps K Z vs ds) (h : atI ds i = some d) : ∃ v, atI vs i = some v ∧ Rep K Z v d := by
  unfold atI at h ⊢
  rw [r.length]
  obtain ⟨j, e, h⟩ := bind_some h
  obtain ⟨v, q, rr⟩ := r.get h
  exact ⟨v, by rw [e]; exact q, rr⟩
theorem ixD_k {a b d : D} (h : ixD a b = some d) : (∃ xs, a = .list xs) ∨ ∃ xs, a = .tuple xs := by
  cases a with
  | list i => exact .inl ⟨_, rfl⟩
  | tuple i => exact .inr ⟨_, rfl⟩
  | _ => cases h
theorem ixD_l {xs : List D} {b d : D} (h : ixD (.list xs) b = some d) : ∃ i, b = .int i ∧ atI xs i = some d := by
  cases b with
  | int i => exact ⟨i, rfl, h⟩
  | _ => cases h
theorem d_ix : IxR X (rD X.K ixD) :=
  IxR.imp (ix_list.or ix_tup) fun x y H Q q => by
    obtain ⟨Z, a, b, d, zh, ra, rb, e, k⟩ := q
    rcases ixD_k e with ⟨xs, rfl⟩ | ⟨xs, rfl⟩
    · obtain ⟨i, rfl, e⟩ := ixD_l e
      obtain ⟨a, vs, rfl, h1, q1⟩ := ra.lst_ex
      cases rb.int_eq
      obtain ⟨v, ev, rv⟩ := q1.at e
      exact .inl ⟨_, _, _, v, rfl, rfl, SqL.same h1 zh, ev, k v Z H (New.refl zh) rv⟩
    · obtain ⟨i, rfl, e⟩ := ixD_l (xs := xs) (b := b) (by cases b <;> exact e)
      obtain ⟨a, vs, rfl, h1, q1⟩ := ra.tup_ex
      cases rb.int_eq
      obtain ⟨v, ev, rv⟩ := q1.at e
      exact .inr ⟨_, _, _, v, rfl, rfl, SqT.same h1 zh, ev, k v Z H (New.refl zh) rv⟩
/-! ### builtins -/
theorem c_len : CallR X (.builtin "len") (rDs X.K lenD) :=
  CallR.imp call_len fun xs H Q q => by
    obtain ⟨Z, as, d, zh, ra, e, k⟩ := q
    cases ra with
    | nil => cases e
    | cons r1 r2 =>
      cases r2 with
      | cons _ _ => cases r1 <;> cases e
      | nil =>
        cases r1 with
        | lst h1 q1 => cases e; exact ⟨_, _, rfl, .inl ⟨_, SqL.same h1 zh, rfl⟩, k _ Z H (New.refl zh) (by rw [q1.length]; exact .int _)⟩
        | tup h1 q1 => cases e; exact ⟨_, _, rfl, .inr ⟨_, SqT.same h1 zh, rfl⟩, k _ Z H (New.refl zh) (by rw [q1.length]; exact .int _)⟩
        | _ => cases e
theorem two_ints {K : Fg} {Z : Hp} {xs : List V} {as : List D} {d : D} {g : List D → Option D} {h : Int → Int → Int} (hg : ∀ as d, g as = some d → ∃ i j, as = [.int i, .int j] ∧ d = .int (h i j)) (r : Reps K Z xs as) (e : g as = some d) :
    ∃ i j, xs = [.int i, .int j] ∧ d = .int (h i j) := by
  obtain ⟨i, j, rfl, rfl⟩ := hg _ _ e
  cases r with
  | cons r1 r2 =>
    cases r2 with
    | cons r3 r4 =>
      cases r4
      exact ⟨i, j, by rw [r1.int_eq, r3.int_eq], rfl⟩
theorem c_min (hc : X.calm = true) : CallR X (.builtin "min") (rDs X.K minD) :=
  CallR.imp (call_min2 hc) fun xs H Q q => by
    obtain ⟨Z, as, d, zh, ra, e, k⟩ := q
    obtain ⟨i, j, rfl, rfl⟩ := two_ints (h := fun i j => if j < i then j else i) (fun as d h => by unfold minD at h; split at h <;> cases h; exact ⟨_, _, rfl, rfl⟩) ra e
    exact ⟨i, j, rfl, k _ Z H (New.refl zh) (.int _)⟩
theorem c_list : CallR X (.type "list") (rDs X.K listD) :=
  CallR.imp call_list_of fun xs H Q q => by
    obtain ⟨Z, as, d, zh, ra, e, k⟩ := q
    cases ra with
    | nil => cases e
    | cons r1 r2 =>
      cases r2 with
      | cons _ _ => cases r1 <;> cases e
      | nil =>
        cases r1 with
        | lst h1 q1 => cases e; exact ⟨_, _, rfl, .inl (SqL.same h1 zh), fun l hl => let n := New.add zh hl (.lst _); k _ _ _ n (.lst (SqL.of upd_same) (q1.same n.z))⟩
        | tup h1 q1 => cases e; exact ⟨_, _, rfl, .inr (SqT.same h1 zh), fun l hl => let n := New.add zh hl (.lst _); k _ _ _ n (.lst (SqL.of upd_same) (q1.same n.z))⟩
        | _ => cases e
theorem c_tuple : CallR X (.type "tuple") (rDs X.K tupleD) :=
  CallR.imp call_tuple_of fun xs H Q q => by
    obtain ⟨Z, as, d, zh, ra, e, k⟩ := q
    cases ra with
    | nil => cases e
    | cons r1 r2 =>
      cases r2 with
      | cons _ _ => cases r1 <;> cases e
      | nil =>
        cases r1 with
        | lst h1 q1 => cases e; exact ⟨_, _, rfl, .inl ⟨SqL.same h1 zh, fun l hl => let n := New.add zh hl (.tup _); k _ _ _ n (.tup (SqT.of upd_same) (q1.same n.z))⟩⟩
        | tup h1 q1 => cases e; exact ⟨_, _, rfl, .inr ⟨SqT.same h1 zh, k _ Z H (New.refl zh) (.tup h1 q1)⟩⟩
        | _ => cases e
/-! ### isinstance -/
theorem kit_ok (K : Fg) {t T : String} (ht : t = "NoneType" ∨ t = "bool" ∨ t = "int" ∨ t = "str" ∨ t = "list" ∨ t = "tuple") (hT : T = "int" ∨ T = "bool" ∨ T = "str" ∨ T = "list" ∨ T = "tuple") : PySem.W.kitOne K (.type t) (.type T) = some (isiB t T) := by
  rcases ht with rfl | rfl | rfl | rfl | rfl | rfl <;> rcases hT with rfl | rfl | rfl | rfl | rfl <;> rfl
theorem Rep.ty {K : Fg} {Z H : Hp} {v : V} {d : D} (zh : Same Z H) (r : Rep K Z v d) (hD : ¬isDct d = true) : (tyN d = "NoneType" ∨ tyN d = "bool" ∨ tyN d = "int" ∨ tyN d = "str" ∨ tyN d = "list" ∨ tyN d = "tuple") := by
  cases r <;> simp [tyN]
  exact absurd rfl hD
theorem isi_ok {pins : List (Addr × Obj)} {σ : St} {H Z : Hp} {s : Shared} {x : V} {u : Value} {d : D} {T : String} {A : Around} {E : Value → Shared → Prop} {Q : Value → Shared → Prop} (I : Inv X pins σ H s) (zh : Same Z H) (rx : RelV x u) (r : Rep X.K Z x d) (hD : ¬isDct d = true)
    (hT : T = "int" ∨ T = "bool" ∨ T = "str" ∨ T = "list" ∨ T = "tuple") (h : ∀ tk, Q (.bool (isiB (tyN d) T)) { s with toks := tk }) : wpAny (model X.prog X.w) A (call (.builtin "isinstance") [u, .type T]) Q E s := by
  have ko := kit_ok X.K (Rep.ty zh r hD) hT
  cases r with
  | non => exact isinst_ok I rx (.non) ko h
  | bl b => exact isinst_ok I rx (.bl b) ko h
  | int b => exact isinst_ok I rx (.int b) ko h
  | str b => exact isinst_ok I rx (.str b) ko h
  | @tup a xs ds h1 q1 =>
    cases (show u = Value.ref a from rx)
    obtain ⟨its, _, p, _⟩ := I.tuple (SqT.same h1 zh)
    obtain ⟨o, h1, h2, _⟩ := p
    exact PySem.W.kia_one PySem.W.kitx_tuple I.kIn ⟨o, h1, h2⟩ ko (fun z => nomatch z) h
  | @lst a xs ds h1 q1 =>
    cases (show u = Value.ref a from rx)
    obtain ⟨its, _, p, _⟩ := I.list (SqL.same h1 zh)
    obtain ⟨o, n, h1, h2, _⟩ := p
    exact PySem.W.kia_one PySem.W.kitx_list I.kIn ⟨o, h1, h2⟩ ko (fun z => nomatch z) h
  | opq h1 => exact absurd rfl hD
theorem c_isi (T : String) : CallR X (.builtin "isinstance") (fun xs H Q => ∃ x Z d r, xs = [x, .ty T] ∧ Same Z H ∧ Rep X.K Z x d ∧ isiD T d = some r ∧ ∃ b, r = .bool b ∧ Q (.bl b) H) := by
  intro pins s σ H xs us Q I rv h
  obtain ⟨x, Z, d, r, rfl, zh, rr, e, b, rfl, q⟩ := h
  obtain ⟨u, w', rfl, r1, r2⟩ := vals2 rv
  cases (show w' = Value.type T from r2)
  by_cases hD : isDct d = true
  · rw [isiD, if_pos hD] at e; cases e
  by_cases hT : T = "int" ∨ T = "bool" ∨ T = "str" ∨ T = "list" ∨ T = "tuple"
  · rw [isiD, if_neg hD, if_pos hT] at e
    cases e
    exact isi_ok I zh r1 rr hD hT fun tk => ⟨.bl _, H, I.tok _, rfl, q⟩
  · rw [isiD, if_neg hD, if_neg hT] at e; cases e
theorem ev_isi {x : Str} {T : String} {p2 : Pos} (hg : Gl X "isinstance") (hm : X.mg "isinstance" = none) (hgT : Gl X x) (hmT : X.mg x = none) (hvT : bootBuiltins x = some (.type T)) (hnT : x ≠ "__name__") (hdT : (x == ("__debug__" : Str)) = false) (ha : EV X a f)
    (he : starEach (a :: [.Name x p2]) X.env = (false, eval a X.env) :: starEach [.Name x p2] X.env := by rfl) (he2 : starEach ((.Name x p2) :: []) X.env = (false, eval (.Name x p2) X.env) :: starEach [] X.env := by rfl) (hpl : (backTo pos (starEach [.Name x p2] X.env)).any (·.1) = false := by rfl) :
    EV X (.Call (.Name "isinstance" p) [a, .Name x p2] [] pos) (o1 f (isiD T)) :=
  PE.imp (pe_callB (c_isi T) hg hm PyProof.Rows.boot_isinstance (pa_cons ha (pa_cons (pe_bltn (v := .ty T) hgT hmT hvT rfl hnT hdT) pa_nil he2) he) (by decide) (by decide) he hpl) fun σ H Q h => by
    obtain ⟨H₀, Z₀, Z, δ, d, hh, e, k⟩ := h
    obtain ⟨y, e1, e⟩ := bind_some e
    refine ⟨H₀, Z₀, Z, δ, y, hh, e1, fun v Z1 H1 hh1 s1 r1 => ⟨v, Z1, y, d, rfl, hh1.zh, r1, e, ?_⟩⟩
    have : ∃ b, d = .bool b := by
      unfold isiD at e
      split at e
      · cases e
      · split at e
        · cases e; exact ⟨_, rfl⟩
        · cases e
    obtain ⟨b, rfl⟩ := this
    exact ⟨b, rfl, k _ Z1 H1 hh1 s1 (.bl b)⟩
end
end VL

set_option Elab.async false
set_option linter.all false
set_option maxRecDepth 100000
set_option maxHeartbeats 4000000
namespace VL
open PySem PySem.Spec PyProof.Rows L2
section
variable {X : Cx} {a b c e tg iter : Expr} {es : List Expr} {pos p : Pos} {f f1 f2 f3 : Dv → Option D} {fs : Dv → Option (List D)} {ft fu : Dv → Option Bool} {st : Stmt} {sts body orelse : List Stmt} {s1 s2 s3 : Sf}

/-! ### statements -/
theorem sv_ret (he : EV X e f) : SV X (.Return (some e) pos) (sRet f) :=
  PS.imp (ps_ret he) fun D σ H h => by
    obtain ⟨H₀, Z₀, Z, δ, r, hh, e, k⟩ := h
    obtain ⟨x, e1, e⟩ := bind_some e
    cases e
    exact ⟨H₀, Z₀, Z, δ, x, hh, e1, fun v Z1 H1 hh1 s1 r1 => k σ H1 Z1 hh1 s1 v r1⟩
theorem sv_set (i : Nat) {x : Str} {pos' : Pos} (hN : X.N.Nodup) (he : EV X e f) (hi : X.N[i]? = some x := by rfl) (hx : Loc X.env.scope x := by first | exact Or.inl rfl | exact Or.inr rfl) (hs : swapsWith e (some (.Name x pos')) pos.line X.env = pure false := by rfl)
    (hf : X.fn x = true ∨ X.env.scope.names.lookup x = some .local := by first | exact .inl rfl | exact .inr rfl | assumption) : SV X (.Assign [.Name x pos'] e pos) (sSet i f) :=
  PS.imp (ps_set hN hi hx he hs hf) fun D σ H h => by
    obtain ⟨H₀, Z₀, Z, δ, r, hh, e, k⟩ := h
    obtain ⟨x, e1, e⟩ := bind_some e
    cases e
    exact ⟨H₀, Z₀, Z, δ, x, hh, e1, fun v Z1 H1 hh1 s1 r1 => k _ H1 Z1 (hh1.set r1) s1⟩
theorem sv_expr (he : EV X e f) (hs : swapsWith e none pos.line X.env = pure false := by rfl) : SV X (.Expr e pos) (sDrop f) :=
  PS.imp (ps_expr he hs) fun D σ H h => by
    obtain ⟨H₀, Z₀, Z, δ, r, hh, e, k⟩ := h
    obtain ⟨x, e1, e⟩ := bind_some e
    cases e
    exact ⟨H₀, Z₀, Z, δ, x, hh, e1, fun v Z1 H1 hh1 s1 r1 => k σ H1 Z1 hh1 s1⟩
theorem nx_ok {D : Ends} {σ : St} {H : Hp} {K : Fg} (h : tVS K sNx D σ H) : D.nx σ H := by
  obtain ⟨H₀, Z₀, Z, δ, r, hh, e, k⟩ := h
  cases e
  exact k σ H Z hh (Same.refl _)
theorem bv_nil : BV X [] sNx := PSs.imp pss_nil fun D σ H h => nx_ok h
theorem bv_cons (h1 : SV X st s1) (h2 : BV X sts s2) : BV X (st :: sts) (sSeq s1 s2) :=
  PSs.imp (pss_cons h1 h2) fun D σ H h => by
    obtain ⟨H₀, Z₀, Z, δ, r, hh, e, k⟩ := h
    obtain ⟨⟨fl, δ'⟩, e1, e⟩ := bind_some e
    refine ⟨H₀, Z₀, Z, δ, (fl, δ'), hh, e1, fun σ' H' Z' hh' s' => ?_⟩
    cases fl with
    | nx => exact ⟨H₀, Z₀, Z', δ', r, hh', e, fun σ2 H2 Z2 hh2 s2 => by
        have := k σ2 H2 Z2 hh2 (s'.trans s2)
        obtain ⟨fl, δ2⟩ := r
        cases fl <;> exact this⟩
    | bk => cases e; exact k σ' H' Z' hh' s'
    | ct => cases e; exact k σ' H' Z' hh' s'
    | rt d => cases e; exact k σ' H' Z' hh' s'
theorem bv_one (h1 : SV X st s1) : BV X [st] s1 := pss_one h1
theorem sv_if (hc : TV X c ft) (ha : BV X body s1) (hb : BV X orelse s2) : SV X (.If c body orelse pos) (sIf ft s1 s2) :=
  PS.imp (ps_if hc ha hb) fun D σ H h => by
    obtain ⟨H₀, Z₀, Z, δ, r, hh, e, k⟩ := h
    obtain ⟨x, e1, e⟩ := bind_some e
    refine ⟨H₀, Z₀, Z, δ, x, hh, e1, fun Z1 H1 hh1 t1 => ?_⟩
    cases x with
    | true => exact ⟨H₀, Z₀, Z1, δ, r, hh1, e, fun σ2 H2 Z2 hh2 t2 => k σ2 H2 Z2 hh2 (t1.trans t2)⟩
    | false => exact ⟨H₀, Z₀, Z1, δ, r, hh1, e, fun σ2 H2 Z2 hh2 t2 => k σ2 H2 Z2 hh2 (t1.trans t2)⟩
/-- a list of one's own is known for good from here -/
theorem fz_ok {K : Fg} (i : Nat) {D : Ends} {σ : St} {H : Hp} (h : tVS K (fun δ => s1 (dFz i δ)) D σ H) : tVS K s1 D σ H := by
  obtain ⟨H₀, Z₀, Z, δ, r, hh, e, k⟩ := h
  have e : s1 (dFz i δ) = some r := e
  unfold dFz at e
  split at e
  · rename_i ds q
    obtain ⟨Z1, t1, hh1⟩ := hh.frz q
    exact ⟨H₀, Z₀, Z1, _, r, hh1, e, fun σ2 H2 Z2 hh2 t2 => k σ2 H2 Z2 hh2 (t1.trans t2)⟩
  · exact ⟨H₀, Z₀, Z, _, r, hh, e, k⟩
theorem sv_fz (i : Nat) (h : SV X st s1) : SV X st (fun δ => s1 (dFz i δ)) := PS.imp h fun D σ H q => fz_ok i q

/-! ### targets -/
def tVG (K : Fg) (g : D → Dv → Option Dv) : TG := fun v σ H Q => ∃ H₀ Z₀ Z δ d δ', Hold K H₀ Z₀ Z δ σ H ∧ Rep K Z v d ∧ g d δ = some δ' ∧ ∀ σ' H' Z', Hold K H₀ Z₀ Z' δ' σ' H' → Same Z Z' → Q σ' H'
def GV (X : Cx) (tg : Expr) (g : D → Dv → Option Dv) : Prop := PG X tg (tVG X.K g)
theorem PG.imp {t t' : TG} (h : PG X tg t) (i : ∀ v σ H Q, t' v σ H Q → t v σ H Q) : PG X tg t' := fun pins s σ H x v Q I r q => h pins s σ H x v Q I r (i _ _ _ _ q)
theorem gv_name (i : Nat) {x : Str} (hN : X.N.Nodup) (hi : X.N[i]? = some x := by rfl) (hx : Loc X.env.scope x := by first | exact Or.inl rfl | exact Or.inr rfl)
    (hf : X.fn x = true ∨ X.env.scope.names.lookup x = some .local := by first | exact .inl rfl | exact .inr rfl | assumption) : GV X (.Name x pos) (gN i) :=
  PG.imp (pg_name hN hi hx hf) fun v σ H Q h => by
    obtain ⟨H₀, Z₀, Z, δ, d, δ', hh, r, e, k⟩ := h
    cases e
    exact k _ H Z (hh.set r) (Same.refl _)
/-! ### loops -/
structure ItOk (K : Fg) (Z : Hp) (J : It) (ds : List D) : Prop where
  go : ∀ (i : Nat) (H : Hp), Same Z H → i < ds.length → J.go i H
  yld : ∀ (i : Nat) (H : Hp) x H' d, Same Z H → ds[i]? = some d → J.yld i H x H' → H' = H ∧ Rep K Z x d
  stop : ∀ (i : Nat) (H : Hp), Same Z H → ds.length ≤ i → J.stop i H
def tVI (K : Fg) (f : Dv → Option (List D)) : TI := fun σ H R => ∃ H₀ Z₀ Z δ ds, Hold K H₀ Z₀ Z δ σ H ∧ f δ = some ds ∧ ∀ J Z' H', Hold K H₀ Z₀ Z' δ σ H' → Same Z Z' → ItOk K Z' J ds → R J H'
def IV (X : Cx) (tg iter : Expr) (f : Dv → Option (List D)) : Prop := PI X tg iter (tVI X.K f)
theorem PI.imp {t t' : TI} (h : PI X tg iter t) (i : ∀ σ H R, t' σ H R → t σ H R) : PI X tg iter t' := fun pins s σ H R I q => h pins s σ H R I (i _ _ _ q)
theorem sv_for {g : D → Dv → Option Dv} (hp : PassesOwn (model X.prog X.w) X.A X.env X.xe) (hc : X.calm = true) (hi : IV X tg iter fs) (hg : GV X tg g) (hb : BV X body s1)
    (hs : ∀ x, foldedSetIterable iter X.env x = pure x := by intro _; rfl) : SV X (.For tg iter body [] pos) (sFor fs g s1) :=
  PS.imp (ps_for hp hc hi hg hb hs) fun D σ H h => by
    obtain ⟨H₀, Z₀, Z, δ, r, hh, e, k⟩ := h
    obtain ⟨ds, e1, e⟩ := bind_some e
    refine ⟨H₀, Z₀, Z, δ, ds, hh, e1, fun J Z1 H1 hh1 t1 ok => ?_⟩
    refine ⟨fun i m σ H => m = ds.length - i ∧ i ≤ ds.length ∧ ∃ Zc δc, Hold X.K H₀ Z₀ Zc δc σ H ∧ Same Z1 Zc ∧ loop g s1 (ds.drop i) δc = some r, ⟨ds.length, by simp, Nat.zero_le _, Z1, δ, hh1, Same.refl _, e⟩, ?_⟩
    rintro i m σ2 H2 ⟨rfl, hi2, Zc, δc, hhc, tc, ec⟩
    have zh : Same Z1 H2 := tc.trans hhc.zh
    by_cases hlt : i < ds.length
    · refine .inr ⟨ok.go i H2 zh hlt, fun σ3 H3 => ∃ Zc δc, Hold X.K H₀ Z₀ Zc δc σ3 H3 ∧ Same Z1 Zc ∧ loop g s1 (ds.drop (i + 1)) δc = some r, fun σ3 H3 q => ⟨ds.length - (i + 1), by omega, rfl, hlt, q⟩, fun x H3 y => ?_⟩
      have ed : ds[i]? = some ds[i] := by simp [hlt]
      obtain ⟨rfl, rx⟩ := ok.yld i H2 x H3 _ zh ed y
      rw [List.drop_eq_getElem_cons hlt] at ec
      obtain ⟨δ1, g1, ec⟩ := bind_some ec
      obtain ⟨⟨fl, δ2⟩, g2, ec⟩ := bind_some ec
      refine ⟨H₀, Z₀, Zc, δc, _, δ1, hhc, rx.same tc, g1, fun σ4 H4 Z4 hh4 t4 => ⟨H₀, Z₀, Z4, δ1, (fl, δ2), hh4, g2, fun σ5 H5 Z5 hh5 t5 => ?_⟩⟩
      cases fl with
      | nx => exact ⟨Z5, δ2, hh5, (tc.trans t4).trans t5, ec⟩
      | ct => exact ⟨Z5, δ2, hh5, (tc.trans t4).trans t5, ec⟩
      | bk => cases ec; exact k σ5 H5 Z5 hh5 (((t1.trans tc).trans t4).trans t5)
      | rt d => cases ec; exact k σ5 H5 Z5 hh5 (((t1.trans tc).trans t4).trans t5)
    · have e2 : ds.drop i = [] := List.drop_eq_nil_iff.mpr (by omega)
      rw [e2] at ec
      cases ec
      exact .inl ⟨ok.stop i H2 zh (by omega), k σ2 H2 Zc hhc (t1.trans tc)⟩
/-! ### what is walked -/
theorem itok_rng {K : Fg} {Z : Hp} {lo : Int} {n : Nat} : ItOk K Z (Itr lo n) (rngL lo n) where
  go := fun i H _ h => by simpa [rngL, Itr] using h
  yld := fun i H x H' d _ e y => by
    obtain ⟨rfl, rfl⟩ := y
    refine ⟨rfl, ?_⟩
    unfold rngL at e
    rw [List.getElem?_map] at e
    cases q : (List.range n)[i]? with
    | none => rw [q] at e; cases e
    | some k =>
      rw [q] at e
      cases e
      have : k = i := by
        obtain ⟨h, h2⟩ := List.getElem?_eq_some_iff.mp q
        simpa using h2.symm
      subst this
      exact .int _
  stop := fun i H _ h => by simpa [rngL, Itr] using h
theorem iv_range1 (hg : Gl X "range") (hm : X.mg "range" = none) (ha : AV X [a] fs) (hs : starEach [a] X.env = [(false, eval a X.env)] := by rfl) : IV X tg (.Call (.Name "range" p) [a] [] pos) (oL fs rng1D) :=
  PI.imp (pi_range1 hg hm ha hs) fun σ H R h => by
    obtain ⟨H₀, Z₀, Z, δ, ds, hh, e, k⟩ := h
    obtain ⟨as, e1, e⟩ := bind_some e
    refine ⟨H₀, Z₀, Z, δ, as, hh, e1, fun vs Z1 H1 hh1 t1 r1 => ?_⟩
    unfold rng1D at e
    split at e
    · rename_i j
      split at e
      · rename_i hj
        cases e
        cases r1 with
        | cons q1 q2 =>
          cases q2
          exact ⟨j, by rw [q1.int_eq], hj.2, hj.1, k _ Z1 H1 hh1 t1 itok_rng⟩
      · cases e
    · cases e
/-- a list or a tuple -/
theorem iv_list (ha : EV X a f) : IV X tg a (oI f lstI) :=
  PI.imp (pi_list ha) fun σ H R h => by
    obtain ⟨H₀, Z₀, Z, δ, ds, hh, e, k⟩ := h
    obtain ⟨y, e1, e⟩ := bind_some e
    refine ⟨H₀, Z₀, Z, δ, y, hh, e1, fun v Z1 H1 hh1 t1 r1 => ?_⟩
    cases r1 with
    | @lst l xs ds' h1 q1 =>
      cases e
      refine ⟨l, rfl, ⟨xs, SqL.same h1 hh1.zh⟩, k _ Z1 H1 hh1 t1 ⟨fun i H2 z hi => ?_, fun i H2 x H3 d z ed y => ?_, fun i H2 z hi => ⟨xs, SqL.same h1 z, by rw [q1.length]; exact hi⟩⟩⟩
      · have hi' : i < xs.length := by rw [q1.length]; exact hi
        exact ⟨xs, xs[i], SqL.same h1 z, by simp [hi']⟩
      · obtain ⟨rfl, y⟩ := y
        obtain ⟨v, ev, rv⟩ := q1.get ed
        have := y xs (SqL.same h1 z)
        rw [ev] at this
        cases this
        exact ⟨rfl, rv⟩
    | _ => cases e
theorem iv_tup (ha : EV X a f) : IV X tg a (oI f tupI) :=
  PI.imp (pi_tup ha) fun σ H R h => by
    obtain ⟨H₀, Z₀, Z, δ, ds, hh, e, k⟩ := h
    obtain ⟨y, e1, e⟩ := bind_some e
    refine ⟨H₀, Z₀, Z, δ, y, hh, e1, fun v Z1 H1 hh1 t1 r1 => ?_⟩
    cases r1 with
    | @tup l xs ds' h1 q1 =>
      cases e
      refine ⟨l, rfl, ⟨xs, SqT.same h1 hh1.zh⟩, k _ Z1 H1 hh1 t1 ⟨fun i H2 z hi => ?_, fun i H2 x H3 d z ed y => ?_, fun i H2 z hi => ⟨xs, SqT.same h1 z, by rw [q1.length]; exact hi⟩⟩⟩
      · have hi' : i < xs.length := by rw [q1.length]; exact hi
        exact ⟨xs, xs[i], SqT.same h1 z, by simp [hi']⟩
      · obtain ⟨rfl, y⟩ := y
        obtain ⟨v, ev, rv⟩ := q1.get ed
        have := y xs (SqT.same h1 z)
        rw [ev] at this
        cases this
        exact ⟨rfl, rv⟩
    | _ => cases e
end
/-! ### range(a, b, c) -/
section
variable {X : Cx} {a b c tg : Expr} {ta : TA} {p pos : Pos} {fs : Dv → Option (List D)}
end
/-! ### slices -/
section
variable {X : Cx} {e : Expr} {lo hi : Option Expr} {p2 pos : Pos} {f : Dv → Option D}
def tVO (K : Fg) (f : Dv → Option (Option Int)) : TO := fun σ H Q => ∃ H₀ Z₀ Z δ d, Hold K H₀ Z₀ Z δ σ H ∧ f δ = some d ∧ ∀ Z' H', Hold K H₀ Z₀ Z' δ σ H' → Same Z Z' → Q d H'
def OV (X : Cx) (e : Option Expr) (f : Dv → Option (Option Int)) : Prop := PO X e (tVO X.K f)
theorem PO.imp {eo : Option Expr} {t t' : TO} (h : PO X eo t) (i : ∀ σ H Q, t' σ H Q → t σ H Q) : PO X eo t' := fun pins s σ H Q I q => h pins s σ H Q I (i _ _ _ q)
theorem ov_none : OV X none oNo := PO.imp po_none fun σ H Q h => by
  obtain ⟨H₀, Z₀, Z, δ, d, hh, e, k⟩ := h
  cases e
  exact k Z H hh (Same.refl _)
theorem ov_some (h : EV X e f) : OV X (some e) (oP f) := PO.imp (po_some h) fun σ H Q h => by
  obtain ⟨H₀, Z₀, Z, δ, d, hh, e, k⟩ := h
  obtain ⟨x, e1, e⟩ := bind_some e
  refine ⟨H₀, Z₀, Z, δ, x, hh, e1, fun v Z1 H1 hh1 t1 r1 => ?_⟩
  cases r1 <;> simp [asI] at e
  subst e
  exact ⟨_, rfl, k Z1 H1 hh1 t1⟩
/-- the items of xs[lo:hi] -/
theorem Reps.cut {K : Fg} {Z : Hp} {vs : List V} {ds : List D} (r : Reps K Z vs ds) (lo hi : Option Int) : Reps K Z (cutV vs lo hi) (cutD ds lo hi) := by
  unfold cutV cutD
  rw [r.length]
  exact (r.drop _).take _
/-- t[lo:hi], the whole of it: t itself -/
theorem cutD_whole {ds : List D} {lo hi : Option Int} (h1 : HT.sIx ds.length 0 lo = 0) (h2 : HT.sIx ds.length ds.length hi = ds.length) : cutD ds lo hi = ds := by
  unfold cutD
  rw [h1, h2]
  simp
section
variable {prog : Program} {w : World} {A : Around} {E : Value → Shared → Prop} {s : Shared}
theorem tupCut_whole {t sl : Addr} {items : Array Value} {vl vu : Value} {lo hi : Option Int} {Q : Value → Shared → Prop} (ht : IsTup s.heap t items) (hs : s.heap.IsSliceOf sl vl vu .none) (pl : IsPart vl lo) (pu : IsPart vu hi)
    (h1 : HT.sIx items.size 0 lo = 0) (h2 : HT.sIx items.size items.size hi = items.size) (h : Q (.ref t) s) : wpAny (model prog w) A (getItem (.ref t) (.ref sl)) Q E s := by
  obtain ⟨osl, hos, hcs, hds⟩ := id hs
  have ty : s.TypeIs (.ref sl) "slice" := ⟨osl, hos, hcs⟩
  unfold getItem
  try with_reducible refine wpAny_holding ?_
  first | refine wpAny_bind (wpAny_pure ?_) | skip
  refine wpAny_bind (wpAny_sequenceKey ht.typeIs (by decide) ?_)
  refine wpAny_bind (wpAny_callSpecial?_slot (name := Str.ofString "__getitem__") ht.typeIs PyProof.Rows.slot_tuple_getitem
    (wpAny_call_entry PyProof.Rows.slot_tuple_getitem ht.typeIs PyProof.Rows.entry_tuple_getitem ?_ (PyProof.Rows.args_tuple_getitem _ _)))
  show wpAny _ _ (Builtin.Tuple.tupleItemsOf (.ref t) >>= _) _ _ s
  refine wpAny_bind (tupleItemsOf_ ht ?_)
  refine wpAny_bind (wpAny_typeOf ty ?_)
  rw [if_pos (by decide)]
  refine wpAny_bind (HT.sliceApplied_gen hs pl pu ?_)
  have yes : (((((HT.sIx items.size 0 lo : Nat) : Int) == 0) && ((1 : Int) == 1)) && ((HT.sIx items.size items.size hi - HT.sIx items.size 0 lo) == items.size)) = true := by
    rw [h1, h2]; simp
  show wpAny _ _ (if (((((HT.sIx items.size 0 lo : Nat) : Int) == 0) && ((1 : Int) == 1)) && ((HT.sIx items.size items.size hi - HT.sIx items.size 0 lo) == items.size)) = true then _ else _) _ _ s
  rw [if_pos yes]
  unfold Builtin.Tuple.tupleIsExact
  refine wpAny_bind (wpAny_bind (wpAny_typeOf ht.typeIs (wpAny_pure ?_)))
  rw [if_pos (by decide)]
  exact wpAny_bind (wpAny_rule (wpAny_pure ⟨_, rfl, wpAny_pure h⟩))
end
def rSlW (K : PySem.W.Frag) : V → Option Int → Option Int → Hp → VK → Prop := fun x lo hi H Q => ∃ a xs, x = .ref a ∧ SqT K H a xs ∧ HT.sIx xs.length 0 lo = 0 ∧ HT.sIx xs.length xs.length hi = xs.length ∧ Q (.ref a) H
theorem sl_tupW : SlR X (rSlW X.K) := by
  intro pins s σ H x v vl vu lo hi sl Q I rx hs pl pu h
  obtain ⟨a, xs, rfl, hx, w1, w2, q⟩ := h
  cases rx
  obtain ⟨its, r, ht, hz⟩ := I.tuple hx
  have hlen : its.toArray.size = xs.length := by rw [List.size_toArray]; exact r.length.symm
  refine ⟨"tuple", _, PyProof.Rows.slot_tuple_getitem.lookup, ht.typeIs, ?_⟩
  exact tupCut_whole ht hs pl pu (by rw [hlen]; exact w1) (by rw [hlen]; exact w2) ⟨.ref a, H, I, rfl, q⟩
theorem ev_slice {fl fu : Dv → Option (Option Int)} (he : EV X e f) (hl : OV X lo fl) (hu : OV X hi fu) : EV X (.Subscript e (.Slice lo hi none p2) pos) (oSl f fl fu) :=
  PE.imp (pe_slice (sl_list.or (sl_tup.or sl_tupW)) he hl hu) fun σ H Q h => by
    obtain ⟨H₀, Z₀, Z, δ, d, hh, e, k⟩ := h
    obtain ⟨x, e1, e⟩ := bind_some e
    obtain ⟨i, e2, e⟩ := bind_some e
    obtain ⟨j, e3, e⟩ := bind_some e
    refine ⟨H₀, Z₀, Z, δ, x, hh, e1, fun v Z1 H1 hh1 t1 r1 => ⟨H₀, Z₀, Z1, δ, i, hh1, e2, fun Z2 H2 hh2 t2 => ⟨H₀, Z₀, Z2, δ, j, hh2, e3, fun Z3 H3 hh3 t3 => ?_⟩⟩⟩
    have r3 := (r1.same t2).same t3
    have tt := (t1.trans t2).trans t3
    cases r3 with
    | @lst a xs ds h1 q1 =>
      cases e
      refine .inl ⟨_, _, rfl, SqL.same h1 hh3.zh, fun p hp => ?_⟩
      have n := New.add hh3.zh hp (.lst (cutV xs i j))
      exact k _ _ _ (hh3.new n) (tt.trans n.z) (.lst (SqL.of upd_same) ((q1.cut i j).same n.z))
    | @tup a xs ds h1 q1 =>
      simp only [slD] at e
      cases e
      by_cases hw : HT.sIx ds.length 0 i = 0 ∧ HT.sIx ds.length ds.length j = ds.length
      · refine .inr (.inr ⟨_, _, rfl, SqT.same h1 hh3.zh, by rw [q1.length]; exact hw.1, by rw [q1.length]; exact hw.2, ?_⟩)
        refine k _ _ _ hh3 tt ?_
        rw [cutD_whole hw.1 hw.2]
        exact .tup h1 q1
      · refine .inr (.inl ⟨_, _, rfl, SqT.same h1 hh3.zh, by rw [q1.length]; exact hw, fun p hp => ?_⟩)
        have n := New.add hh3.zh hp (.tup (cutV xs i j))
        exact k _ _ _ (hh3.new n) (tt.trans n.z) (.tup (SqT.of upd_same) ((q1.cut i j).same n.z))
    | _ => cases e
end
/-! ### defs -/
structure FunV (K : PySem.W.Frag) (x qual : Str) (st : Stmt) (f : Addr) (fd : FuncData) (dV : Value) : Prop where
  ex : ∃ (oc : Value) (od : Option Addr) (kV doc pm : Value) (an : Option Addr) (cdv ct : Value) (osl : Array (Option Value)),
    fd = PySem.W.fnOf x qual (defArgs st) (defBody st) (defScope st) dV kV doc pm an cdv ct ∧ K.lookup f = some ⟨oc, od, .func fd, osl⟩ ∧ PySem.W.codeIn K cdv qual = true
  kp : PySem.W.keepIn K (.ref f) = true
section
variable {P : Program} {w : World} {K : PySem.W.Frag} {mg : Str → Option Value} {base : Heap}
theorem start_get {N : List Str} {vs : List V} {as : List D} {Z : Hp} (r : Reps K Z vs as) : ∀ (i : Nat) d, (startD N as)[i]? = some (.fz d) → ∃ v, (start N vs)[i]? = some (some v) ∧ Rep K Z v d := by
  intro i d e
  unfold startD at e
  unfold L2.start
  by_cases hi : i < as.length
  · rw [List.getElem?_append_left (by simpa using hi), List.getElem?_map] at e
    cases q : as[i]? with
    | none => rw [q] at e; cases e
    | some d' =>
      rw [q] at e
      cases e
      obtain ⟨v, ev, rv⟩ := r.get q
      exact ⟨v, by rw [List.getElem?_append_left (by simpa [r.length] using hi), List.getElem?_map, ev]; rfl, rv⟩
  · rw [List.getElem?_append_right (by simpa using hi), List.getElem?_replicate] at e
    split at e <;> cases e
theorem start_now {N : List Str} {as : List D} : ∀ (i : Nat) ds, (startD N as)[i]? ≠ some (.own ds) := by
  intro i ds e
  unfold startD at e
  by_cases hi : i < as.length
  · rw [List.getElem?_append_left (by simpa using hi), List.getElem?_map] at e
    cases q : as[i]? with
    | none => rw [q] at e; cases e
    | some d' => rw [q] at e; cases e
  · rw [List.getElem?_append_right (by simpa using hi), List.getElem?_replicate] at e
    split at e <;> cases e
theorem hold_start {N : List Str} {vs : List V} {as : List D} {Z H : Hp} (zh : Same Z H) (r : Reps K Z vs as) : Hold K H Z Z (startD N as) (start N vs) H :=
  ⟨zh, Same.refl _, Same.refl _, fun _ _ => rfl, by simp [startD, L2.start, r.length], start_get r, fun i ds e => absurd e (start_now i ds), fun i j ds es a _ e => absurd e (start_now i ds)⟩
/-- THE RULE for a def: g what it is worth, b its body as a function -/
theorem fn_v {x qual : Str} {st : Stmt} {f : Addr} {fd : FuncData} {dV : Value} {N ps : List Str} {k : Nat} {g : List D → Option D} {b : Sf} (F : FunV K x qual st f fd dV) (S : FnScope N ps (defScope st)) (len : ∀ as d, g as = some d → as.length = ps.length)
    (hb : ∀ (cdv : Value) (A : Around) (outer : List Env) (s : Shared) (H : Hp) (E : XK), Room k (A.deeper (envOfC qual (defScope st) s.heap.objs.size f cdv)) → BV (cxOf CX0 P w K mg base N qual (defScope st) f cdv A outer s H E).nox (defBody st) b)
    (hg : ∀ as d, g as = some d → ∃ δ', b (startD N as) = some (.rt d, δ') ∨ (d = .none ∧ b (startD N as) = some (.nx, δ'))) : FnOk P w K mg base CX0 (k + 1) f fd ps (spD K g) := by
  obtain ⟨oc, od, kV, doc, pm, an, cdv, ct, osl, rfl, lk, hcd⟩ := F.ex
  refine fn_of lk hcd S (fun vs H Q E h => ?_) fun A outer s H vs Q E hr hsp => ?_
  · obtain ⟨Z, as, d, zh, r, e, _⟩ := h
    rw [r.length]
    exact len as d e
  · refine ⟨_, PSs.nox (hb cdv A outer s H E hr), ?_⟩
    obtain ⟨Z, as, d, zh, r, e, kk⟩ := hsp
    have hh := hold_start (N := N) zh r
    have fin : ∀ {σ' : St} {H' Z' : Hp} {δ' : Dv}, Hold K H Z Z' δ' σ' H' → Same Z Z' → New Z H Z' H' := fun h' z' => ⟨z', h'.h0, h'.zh, h'.zb⟩
    obtain ⟨δ', e2 | ⟨rfl, e2⟩⟩ := hg as d e
    · exact ⟨H, Z, Z, _, _, hh, e2, fun σ' H' Z' h' z' v rv => kk v Z' H' (fin h' z') rv⟩
    · exact ⟨H, Z, Z, _, _, hh, e2, fun σ' H' Z' h' z' => kk _ Z' H' (fin h' z') .non⟩
theorem FunV.binds {x qual : Str} {st : Stmt} {f : Addr} {fd : FuncData} {ps : List Str} (F : FunV K x qual st f fd .none)
    (h : ∀ (kV doc pm : Value) (an : Option Addr) (cdv ct : Value) (us : List Value), us.length = ps.length → bindArgs (PySem.W.fnOf x qual (defArgs st) (defBody st) (defScope st) .none kV doc pm an cdv ct) ⟨us, []⟩ = pure (ps.zip us)) : Binds K fd ps [] := by
  obtain ⟨oc, od, kV, doc, pm, an, cdv, ct, osl, rfl, lk, hcd⟩ := F.ex
  exact .all (h kV doc pm an cdv ct)
theorem funV_mk {x qual : Str} {st : Stmt} {f : Addr} {dV oc : Value} {od an : Option Addr} {osl : Array (Option Value)} {kV doc pm cdv ct : Value} (l : K.lookup f = some ⟨oc, od, .func (PySem.W.fnOf x qual (defArgs st) (defBody st) (defScope st) dV kV doc pm an cdv ct), osl⟩)
    (c : PySem.W.codeIn K cdv qual = true) (k : PySem.W.keepIn K (.ref f) = true) : FunV K x qual st f (PySem.W.fnOf x qual (defArgs st) (defBody st) (defScope st) dV kV doc pm an cdv ct) dV := ⟨⟨oc, od, kV, doc, pm, an, cdv, ct, osl, rfl, l, c⟩, k⟩
/-- law's: a list of at most 63 ints is handed in, True comes out -/
def spLaw (K : PySem.W.Frag) : Sp := fun vs H Q _ => ∃ (a : Addr) (ns : List Int), vs = [.ref a] ∧ SqL K H a (ns.map V.int) ∧ ns.length ≤ 63 ∧ ∀ H', Q (.bl true) H'
theorem law_v {g : List D → Option D} {k : Nat} {f : Addr} {fd : FuncData} (F : FnOk P w K mg base CX0 k f fd ["script"] (spD K g)) (hg : ∀ ns : List Int, ns.length ≤ 63 → g [.list (ns.map .int)] = some (.bool true)) : FnOk P w K mg base CX0 k f fd ["script"] (spLaw K) :=
  F.imp fun vs H Q E h => by
    obtain ⟨a, ns, rfl, hS, hl, q⟩ := h
    exact ⟨H, [.list (ns.map .int)], .bool true, Same.refl _, .cons (.lst hS (Reps.ints ns)) .nil, hg ns hl, fun v Z' H' _ r => by cases r; exact q H'⟩
end
theorem walkV {k : Nat} {l : PySem.W.OpenLaw} {q : Program} {loose : List Str} {XP : (Str → Option Value) → Heap → Prop} {YP : World → Heap → Prop} {d : DefRec} {K : Params → PySem.W.Frag} (hn : l.most = some 63) (hr : Room k callerA) (hdf : d.params.defaults = [])
    (hY : ∀ (w : World) (h : Heap), YP w h → (K w.params).In h)
    (F : ∀ (w : World) (mg : Str → Option Value) (fa : Addr) (h : Heap), (K w.params).In h → h.Ns mainGlobals mg → mg d.name = some (.ref fa) →
      ∃ fd : FuncData, (∀ (s : Shared) (u : Value), BindsTo s fd ⟨[u], []⟩ [("script", u)]) ∧ ∀ base : Heap, (K w.params).In base → base.Ns mainGlobals mg → FnOk l.prog w (K w.params) mg base CX0 k fa fd ["script"] (spLaw (K w.params))) :
    PySem.W.WalkO q loose XP YP l.row.toRowW d [] (fun f vs => PySem.call f vs) :=
  L2.walk_of (n := 63) (k := k) (x := "script") (CX := fun _ => CX0) (sp := fun w => spLaw (K w.params)) hn (by decide) hdf hr hY F (fun _ _ a ns hl _ hS => ⟨a, ns, rfl, hS, hl, fun _ => rfl⟩) fun _ _ _ _ _ z => z
/-! ### a def by its own body -/
section
variable {P : Program} {w : World} {K : PySem.W.Frag} {mg : Str → Option Value} {base : Heap}
theorem fn_b {x qual : Str} {st : Stmt} {f : Addr} {fd : FuncData} {dV : Value} {N ps : List Str} {k : Nat} {b : Sf} (F : FunV K x qual st f fd dV) (S : FnScope N ps (defScope st))
    (hb : ∀ (cdv : Value) (A : Around) (outer : List Env) (s : Shared) (H : Hp) (E : XK), Room k (A.deeper (envOfC qual (defScope st) s.heap.objs.size f cdv)) → BV (cxOf CX0 P w K mg base N qual (defScope st) f cdv A outer s H E).nox (defBody st) b) :
    FnOk P w K mg base CX0 (k + 1) f fd ps (spD K (runB N ps.length b)) := by
  refine fn_v F S (fun as d h => ?_) hb fun as d h => ?_
  · unfold runB at h
    split at h
    · assumption
    · cases h
  · unfold runB at h
    split at h
    · obtain ⟨⟨fl, δ'⟩, e, h⟩ := bind_some h
      cases fl with
      | nx => cases h; exact ⟨δ', .inr ⟨rfl, e⟩⟩
      | rt d => cases h; exact ⟨δ', .inl e⟩
      | bk => cases h
      | ct => cases h
    · cases h
/-- a def that may be called: g what it is worth, dd the defaults that fill up -/
structure Cal (P : Program) (w : World) (K : PySem.W.Frag) (mg : Str → Option Value) (base : Heap) (x : Str) (k : Nat) (g : List D → Option D) (dd : List D) : Prop where
  ex : ∃ (fa : Addr) (fd : FuncData) (ps : List Str) (ds : List Value) (dv : List V), FnOk P w K mg base CX0 k fa fd ps (spD K g) ∧ mg x = some (.ref fa) ∧ PySem.W.keepIn K (.ref fa) = true ∧ Binds K fd ps ds ∧ Vals dv ds ∧ ∀ Z, Reps K Z dv dd
theorem Cal.mk0 {x : Str} {k : Nat} {g : List D → Option D} {fa : Addr} {fd : FuncData} {ps : List Str} (F : FnOk P w K mg base CX0 k fa fd ps (spD K g)) (hm : mg x = some (.ref fa)) (hk : PySem.W.keepIn K (.ref fa) = true) (hb : Binds K fd ps []) : Cal P w K mg base x k g [] :=
  ⟨⟨fa, fd, ps, [], [], F, hm, hk, hb, .nil, fun _ => .nil⟩⟩
end
section
variable {X : Cx} {e : Expr} {es : List Expr} {p pos : Pos} {fs : Dv → Option (List D)}
theorem ev_def {k : Nat} {x : Str} {g : List D → Option D} {dd : List D} (C : Cal X.prog X.w X.K X.mg X.base x k g dd) (hr : Room k X.A) (hg : Gl X x) (ha : AV X (e :: es) fs) (hdb : (x == ("__debug__" : Str)) = false := by decide) (he : starEach (e :: es) X.env = (false, eval e X.env) :: starEach es X.env := by rfl)
    (hpl : (backTo pos (starEach es X.env)).any (·.1) = false := by rfl) : EV X (.Call (.Name x p) (e :: es) [] pos) (os fs fun as => g (as ++ dd)) := by
  obtain ⟨fa, fd, ps, ds, dv, F, hm, hk, hb, hd, hdd⟩ := C.ex
  exact ev_call F hr hg hm hk hb hd hdd pass0 ha hdb he hpl
variable {tg a : Expr} {f : Dv → Option D}
theorem iv_seq (ha : EV X a f) : IV X tg a (oI f itsD) := by
  intro pins s σ H R I h
  obtain ⟨H₀, Z₀, Z, δ, ds, hh, e, k⟩ := h
  obtain ⟨y, e1, e⟩ := bind_some e
  cases y with
  | list xs => exact iv_list ha pins s σ H R I ⟨H₀, Z₀, Z, δ, ds, hh, by unfold oI; rw [e1]; exact e, k⟩
  | tuple xs => exact iv_tup ha pins s σ H R I ⟨H₀, Z₀, Z, δ, ds, hh, by unfold oI; rw [e1]; exact e, k⟩
  | _ => cases e
end
end VL

set_option Elab.async false
set_option linter.all false
set_option maxRecDepth 100000
set_option maxHeartbeats 4000000
namespace VL
open PySem PySem.Spec PyProof.Rows L2
/-! ### comprehensions -/
/-- the cells that a block takes along -/
def clos (env : Env) : List (Str × NameKind) → List (Str × Addr) → List (Str × Addr)
  | [], cs => cs
  | (n, k) :: r, cs => if k == .free then clos env r ((n, (env.cells.lookup n).getD 0) :: cs) else clos env r cs
theorem forIn_clos {env : Env} : ∀ (l : List (Str × NameKind)) (cs : List (Str × Addr)), (∀ y ∈ l, y.2 = .free → ∃ c, env.cells.lookup y.1 = some c) →
    (forIn l cs fun (x : Str × NameKind) (r : List (Str × Addr)) => (if (x.2 == NameKind.free) = true then do let c ← cellOf env x.1; pure (ForInStep.yield ((x.1, c) :: r)) else pure (ForInStep.yield r) : Sem (ForInStep (List (Str × Addr))))) = pure (clos env l cs)
  | [], cs, _ => rfl
  | (n, k) :: r, cs, h => by
    have ih := fun cs' => forIn_clos r cs' fun y hy => h y (List.mem_cons_of_mem _ hy)
    rw [List.forIn_cons]
    cases hk : k == NameKind.free with
    | true =>
      have hk' : k = .free := by simpa using hk
      obtain ⟨c, ec⟩ := h (n, k) List.mem_cons_self hk'
      have e1 : cellOf env n = pure c := by unfold cellOf; rw [ec]
      simp only [hk, if_true, e1, pure_bind, clos, ec, Option.getD_some]
      exact ih _
    | false =>
      simp only [hk, Bool.false_eq_true, if_false, pure_bind, clos]
      exact ih _
theorem closureFor_eq {scope : Scope} {env : Env} (h : ∀ y ∈ scope.names, y.2 = .free → ∃ c, env.cells.lookup y.1 = some c) : closureFor scope env = pure (clos env scope.names []) := by
  simp only [closureFor]
  have := forIn_clos (env := env) scope.names [] h
  first
    | (rw [this]; rfl)
    | (simp only [this]; rfl)
    | (unfold closureFor; simp_all)
theorem clos_lookup {env : Env} : ∀ (l : List (Str × NameKind)) (cs : List (Str × Addr)) (y : Str) (c : Addr), (∀ z ∈ l, z.2 = .free → ∃ c, env.cells.lookup z.1 = some c) → (clos env l cs).lookup y = some c → cs.lookup y = some c ∨ env.cells.lookup y = some c
  | [], cs, y, c, _, e => .inl e
  | (n, k) :: r, cs, y, c, h, e => by
    unfold clos at e
    have hr := fun z hz => h z (List.mem_cons_of_mem _ hz)
    split at e
    · rename_i hk
      rcases clos_lookup r _ y c hr e with q | q
      · rw [List.lookup_cons] at q
        cases hy : y == n with
        | true =>
          have hy' : y = n := by simpa using hy
          subst hy'
          rw [hy] at q
          obtain ⟨c', ec⟩ := h (y, k) List.mem_cons_self (by simpa using hk)
          simp only [ec, Option.getD_some] at q
          cases q
          exact .inr ec
        | false => rw [hy] at q; exact .inl q
      · exact .inr q
    · exact clos_lookup r cs y c hr e
theorem clos_has {env : Env} : ∀ (l : List (Str × NameKind)) (cs : List (Str × Addr)) (y : Str), ((y, NameKind.free) ∈ l ∨ (cs.lookup y).isSome = true) → ((clos env l cs).lookup y).isSome = true
  | [], cs, y, h => by
    rcases h with h | h
    · cases h
    · exact h
  | (n, k) :: r, cs, y, h => by
    unfold clos
    split
    · rename_i hk
      refine clos_has r _ y ?_
      rcases h with h | h
      · rcases List.mem_cons.mp h with e | e
        · cases e; exact .inr (by simp [List.lookup_cons])
        · exact .inl e
      · refine .inr ?_
        rw [List.lookup_cons]
        cases hy : y == n with
        | true => rfl
        | false => exact h
    · rename_i hk
      refine clos_has r cs y ?_
      rcases h with h | h
      · rcases List.mem_cons.mp h with e | e
        · cases e; exact absurd rfl hk
        · exact .inl e
      · exact .inr h
theorem relabel_lookup {env : Env} {y : Str} : ∀ (l : List (Str × NameKind)), (∀ z ∈ l, z.2 ≠ .cell) →
    (((l.map fun (n, k) => if (k == NameKind.free && env.scope.kind == .function && env.kindOf n == some .cell) then (n, NameKind.cell) else (n, k)).lookup y = some .cell ∨ (l.map fun (n, k) => if (k == NameKind.free && env.scope.kind == .function && env.kindOf n == some .cell) then (n, NameKind.cell) else (n, k)).lookup y = some .free) ↔ l.lookup y = some .free)
  | [], _ => by simp
  | (n, k) :: r, h => by
    have ih := relabel_lookup (env := env) (y := y) r fun z hz => h z (List.mem_cons_of_mem _ hz)
    have hk : k ≠ .cell := h (n, k) List.mem_cons_self
    rw [List.map_cons]
    cases hy : y == n with
    | true =>
      by_cases hc : (k == NameKind.free && env.scope.kind == .function && env.kindOf n == some .cell) = true
      · have hf : k = .free := by
          simp only [Bool.and_eq_true] at hc
          simpa using hc.1.1
        simp only [if_pos hc, List.lookup_cons, hy]
        simp [hf]
      · simp only [if_neg hc, List.lookup_cons, hy]
        simp [hk]
    | false =>
      by_cases hc : (k == NameKind.free && env.scope.kind == .function && env.kindOf n == some .cell) = true
      · simp only [if_pos hc, List.lookup_cons, hy]; exact ih
      · simp only [if_neg hc, List.lookup_cons, hy]; exact ih
/-- the context of a comprehension's block -/
def blk (X : Cx) (scope : Scope) (N : List Str) (C : Addr) (s₀ : Shared) (H₀ : Hp) (ex : List Addr) : Cx :=
  { X with N := N, s₀ := s₀, H₀ := H₀, env := compEnvC scope (clos X.env scope.names []) C X.env, outer := X.stack, stack := X.stack, ex := ex, fn := fun _ => false, pn := [], xe := fun _ _ => False }
/-- what must be seen of the block's text: on the names of the code around, ON its slots -/
structure BlkOk (on : List (Str × NameKind)) (ON : List Str) (scope : Scope) (vars : List Str) (caps : List (Nat × Str)) : Prop where
  kind : scope.kind = .function
  cell : ∀ y ∈ scope.names, y.2 ≠ .cell
  names : ∀ y ∈ scope.names, y.2 = .local → scope.names.lookup y.1 = some .local
  free : ∀ y ∈ scope.names, y.2 = .free → on.lookup y.1 = some .cell ∨ on.lookup y.1 = some .free
  cap : ∀ p ∈ caps, ON[p.1]? = some p.2 ∧ scope.names.lookup p.2 = some .free
section
variable {X : Cx} {pins : List (Addr × Obj)} {σ : St} {H H' : Hp} {s s' : Shared} {scope : Scope} {vars : List Str} {caps : List (Nat × Str)} {fp : List Addr} {C : Addr}
def capV (σ : St) (caps : List (Nat × Str)) : St := caps.map fun p => (σ[p.1]?).getD none
theorem BlkOk.cells (B : BlkOk X.env.scope.names X.N scope vars caps) (I : Inv X pins σ H s) : ∀ y ∈ scope.names, y.2 = .free → ∃ c, X.env.cells.lookup y.1 = some c := fun y hy e => I.ok.has y.1 (B.free y hy e)
theorem blk_ok (B : BlkOk X.env.scope.names X.N scope vars caps) (I : Inv X pins σ H s) (hf : ∀ b ∈ fp, FpOk X pins H b) (hlt : ∀ b ∈ fp, b < s.heap.objs.size) (hC : s.heap.objs.size ≤ C) : (blk X scope (vars ++ caps.map (·.2)) C s H fp).Ok where
  mod := I.ok.mod
  kind := B.kind
  glob := I.ok.glob
  blt := I.ok.blt
  above := hC
  inj := fun x y c e1 e2 => by
    rcases clos_lookup _ _ _ _ (B.cells I) e1 with q1 | q1
    · cases q1
    · rcases clos_lookup _ _ _ _ (B.cells I) e2 with q2 | q2
      · cases q2
      · exact I.ok.inj x y c q1 q2
  has := fun x e => by
    have : scope.names.lookup x = some .free := (relabel_lookup scope.names B.cell).mp e
    have := clos_has (env := X.env) scope.names [] x (.inl (PySem.mem_of_lookup this))
    exact Option.isSome_iff_exists.mp this
  cab := fun x c e => nomatch e
  hd := I.ok.hd
  frames := I.ok.frames
  stk := .inl rfl
  exf := fun b hb => ⟨Nat.ne_of_lt (Nat.lt_of_lt_of_le (hlt b hb) hC), fun x c e => by
    rcases clos_lookup _ _ _ _ (B.cells I) e with q | q
    · cases q
    · exact (hf b hb).2.2.2.2.1 x c q⟩
  bs := I.bs
  bsz := Nat.le_trans I.ok.bsz I.sz
  noex := fun b o e hb => by
    rcases (hf b hb).2.2.2.1 with z | z
    · exact I.ok.noex b o e z
    · exact absurd (Nat.lt_of_lt_of_le (Heap.lt_size e) (Nat.le_trans I.ok.bsz z)) (Nat.lt_irrefl _)
  exfs := fun b hb z => by
    rcases List.mem_cons.mp (I.stkSub b z) with q | q
    · exact (hf b hb).2.1 q
    · exact (hf b hb).2.2.1 q
  funs := I.stack
  frf := I.stkFree
/-- the block is entered -/
theorem blk_inv (B : BlkOk X.env.scope.names X.N scope vars caps) (I : Inv X pins σ H s) (hf : ∀ b ∈ fp, FpOk X pins H b) (hlt : ∀ b ∈ fp, b < s.heap.objs.size) (hC : s.heap.objs.size ≤ C) {h₁ : Heap} {m : Str → Option Value} {tk : Nat} (hns : h₁.Ns C m) (old : ∀ b o, s.heap.get? b = some o → h₁.get? b = some o) :
    Inv (blk X scope (vars ++ caps.map (·.2)) C s H fp) [] (vars.map (fun _ => none) ++ capV σ caps) H { s with heap := h₁, toks := tk } := by
  refine ⟨blk_ok B I hf hlt hC, rfl, I.bare, Un.kept old, ⟨m, hns, fun i x v e1 e2 e3 => ?_⟩, fun x c e => ?_, I.hok.fresh hC, fun x c e => ?_, fun p hp => absurd (show p ∈ ([] : List (Addr × Obj)) from hp) (by simp), I.hok.kept old, ?_⟩
  · have e1 : (vars ++ caps.map (·.2))[i]? = some x := e1
    by_cases hi : i < vars.length
    · rw [List.getElem?_append_left (by simpa using hi), List.getElem?_map] at e2
      cases q : vars[i]? <;> rw [q] at e2 <;> cases e2
    · rw [List.getElem?_append_right (by simpa using hi)] at e1 e2
      simp only [List.length_map] at e2
      unfold capV at e2
      rw [List.getElem?_map] at e1 e2
      cases q : caps[i - vars.length]? with
      | none => rw [q] at e1; cases e1
      | some p =>
        rw [q] at e1 e2
        cases e1
        have hp := List.mem_of_getElem? q
        obtain ⟨g1, g2⟩ := B.cap p hp
        have gf : X.env.scope.names.lookup p.2 = some .cell ∨ X.env.scope.names.lookup p.2 = some .free := B.free (p.2, .free) (PySem.mem_of_lookup g2) rfl
        have ev : σ[p.1]? = some (some v) := by
          have e2 : (σ[p.1]?).getD none = some v := Option.some.inj e2
          cases z : σ[p.1]? with
          | none => rw [z] at e2; cases e2
          | some w => rw [z] at e2; rw [show w = some v from e2]
        obtain ⟨m', _, hl⟩ := I.loc
        obtain ⟨u, r, l⟩ := hl p.1 p.2 v g1 ev (gf.elim (fun z => .inr (.inl z)) fun z => .inr (.inr z))
        refine ⟨u, r, .inr ⟨?_, ?_⟩⟩
        · exact (relabel_lookup scope.names B.cell).mpr g2
        · rcases l with ⟨z, _⟩ | ⟨_, c, ec, hc⟩
          · have z : X.env.scope.names.lookup p.2 = some .local := z
            rcases gf with w | w <;> rw [z] at w <;> cases w
          · obtain ⟨c', q'⟩ := Option.isSome_iff_exists.mp (clos_has (env := X.env) scope.names [] p.2 (.inl (PySem.mem_of_lookup g2)))
            rcases clos_lookup _ _ _ _ (B.cells I) q' with w | w
            · cases w
            · rw [ec] at w
              cases w
              obtain ⟨o, ho, hd⟩ := hc
              exact ⟨c, q', o, old c o ho, hd⟩
  · rcases clos_lookup _ _ _ _ (B.cells I) e with q | q
    · cases q
    · obtain ⟨v, o, ho, hd⟩ := I.cell x c q
      exact ⟨v, o, old c o ho, hd⟩
  · rcases clos_lookup _ _ _ _ (B.cells I) e with q | q
    · cases q
    · exact I.freeC x c q
  · simp [blk, capV]
/-- the block is left: its list is told -/
theorem blk_out (I : Inv X pins σ H s) (hf : ∀ b ∈ fp, FpOk X pins H b) {D : Addr} {s' : Shared} {σ' : St} {N : List Str} {ys : List V} {its : List Value} (hC : s.heap.objs.size ≤ C) (hD : s.heap.objs.size ≤ D) (hDC : D ≠ C)
    (J : Inv (blk X scope N C s H fp) [] σ' H' s') (hD' : H' D = none) (hp : s'.heap.PlainList D its.toArray) (hv : Vals ys its) (hz : ys.length ≤ sizeLine) {h' : Heap} (hs : Heap.SameBut C s'.heap h') :
    Inv X pins σ (upd H' D (.lst ys)) { s' with heap := h' } := by
  have U : Un (frs X.stack) fp H H' s.heap s'.heap := J.base
  have neC : ∀ b o, s.heap.get? b = some o → b ≠ C := fun b o e => Nat.ne_of_lt (Nat.lt_of_lt_of_le (Heap.lt_size e) hC)
  have neD : ∀ b o, s.heap.get? b = some o → b ≠ D := fun b o e => Nat.ne_of_lt (Nat.lt_of_lt_of_le (Heap.lt_size e) hD)
  have mv : ∀ b o, b ≠ C → s'.heap.get? b = some o → h'.get? b = some o := fun b o hb e => hs.extBut b o hb e
  have tD : ∀ b o, H' b = some o → (upd H' D (.lst ys)) b = some o := fun b o e => by rw [upd_ne (ne_of_none e hD')]; exact e
  refine I.call' (s' := { s' with heap := h' }) (ch := fp) J.os ⟨fun b o e n h1 h2 => mv b o (neC b o e) (U.keep b o e n h1 h2), fun b o e n h1 h2 => ?_, fun b o e n h2 => ?_, fun b o e h2 => ?_, fun b xs e => tD _ _ (U.tups b xs e), fun b o xs e => tD _ _ (U.frzs b o xs e), fun b ps e => ?_⟩ (fun b o e => ?_) J.bare
    (fun b hb => ⟨(hf b hb).2.2.2.1, (hf b hb).2.1, (hf b hb).2.2.2.2.1, (hf b hb).2.2.2.2.2⟩)
  · obtain ⟨sl, q⟩ := U.slot b o e n h1 h2
    exact ⟨sl, mv b _ (neC b o e) q⟩
  · rw [upd_ne (neD b o e)]; exact U.free b o e n h2
  · obtain ⟨o', q⟩ := U.there b o e h2
    exact ⟨o', mv b _ (neC b o e) q⟩
  · obtain ⟨more, q⟩ := U.tbls b ps e
    exact ⟨more, tD _ _ q⟩
  · by_cases hb : b = D
    · subst hb
      rw [upd_same] at e
      cases e
      obtain ⟨n, q⟩ := hp
      exact ⟨hz, its, n, hv, mv _ _ hDC q⟩
    · rw [upd_ne hb] at e
      refine (J.hok b o e).stay (fun c v hc q => mv c v ?_ q) (fun c q => tD _ _ q) fun c xs q => tD _ _ q
      intro z
      have fc : H' C = none := J.free
      rcases hc with w | w
      · rw [← w, z, fc] at e; cases e
      · rw [z, fc] at w; cases w
theorem compTurn_go (elt target iter : Expr) (scope : Scope) (pos : Pos) (it acc : Value) (env : Env) :
    compTurn (.ListComp elt [⟨target, iter, [], 0⟩] scope pos) 0 it acc env = (standAt iter.pos >>= fun _ => pyNext it >>= fun r => match r with
      | none => pure (.done .next)
      | some v => letOwnedTupleGo target it v >>= fun _ => assign target env v >>= fun _ =>
        (eval elt env >>= fun x => call (.builtin "list.append") [acc, x] >>= fun _ => pure ()) >>= fun _ =>
          again (.compLoop (.ListComp elt [⟨target, iter, [], 0⟩] scope pos) 0 it acc env)) := by rfl
/-- what is wanted of a comprehension, turn by turn: W the invariant by the turn, a measure, the items so far -/
def KeepS (σ σ' : St) : Prop := σ.length = σ'.length ∧ ∀ (i : Nat) v, σ[i]? = some (some v) → σ'[i]? = some (some v)
def tComp (wi : TI) (g : TG) (te : TE) (vars : List Str) (caps : List (Nat × Str)) : TE := fun σ H Q => wi σ H fun J H1 => ∃ W : Nat → Nat → List V → Hp → Prop, (∃ m, W 0 m [] H1) ∧ ∀ i m ys H, W i m ys H →
  (J.stop i H ∧ ys.length ≤ sizeLine ∧ ∀ p, H p = none → Q (.ref p) (upd H p (.lst ys))) ∨
  (J.go i H ∧ ys.length < sizeLine ∧ ∀ x H', J.yld i H x H' → g x (vars.map (fun _ => none) ++ capV σ caps) H' fun σ2 H2 => KeepS (vars.map (fun _ => none) ++ capV σ caps) σ2 ∧ te σ2 H2 fun y H3 => ∃ m', m' < m ∧ W (i + 1) m' (ys ++ [y]) H3)
theorem Inv.weaken {X : Cx} {pins : List (Addr × Obj)} {σ σ' : St} {H : Hp} {s : Shared} (I : Inv X pins σ H s) (hl : σ'.length = σ.length) (w : ∀ (i : Nat) v, σ'[i]? = some (some v) → σ[i]? = some (some v)) : Inv X pins σ' H s := I.weak hl w
theorem codeAny_comp_go {prog : Program} {w : World} {A : Around} {R : Result → Shared → Prop} {s : Shared} {elt target iter : Expr} {scope : Scope} {pos : Pos} {it acc : Value} {env : Env} (I : Nat → Shared → Prop)
    (turn : ∀ n s, I n s → wpAny (model prog w) A (pyNext it) (fun r s₁ => match r with
      | none => R (.ok .next) s₁
      | some v => wpAny (model prog w) A (letOwnedTupleGo target it v) (fun _ s₁ => wpAny (model prog w) A (assign target env v) (fun _ s₂ => wpAny (model prog w) A (eval elt env) (fun x s₃ =>
          wpAny (model prog w) A (call (.builtin "list.append") [acc, x]) (fun _ s₄ => ∃ m, m < n ∧ I m s₄) (fun _ _ => False) s₃) (fun _ _ => False) s₂) (fun _ _ => False) s₁) (fun _ _ => False) s₁) (fun _ _ => False) s)
    (n : Nat) (h : I n s) : codeAny (model prog w) A (.compLoop (.ListComp elt [⟨target, iter, [], 0⟩] scope pos) 0 it acc env) R s := by
  refine codeAny_loop rfl I (fun n s hI => ?_) n h
  show wpAny _ _ ((compTurn (.ListComp elt [⟨target, iter, [], 0⟩] scope pos) 0 it acc env).onRaise (fun x => do noteFrame x env; theTreesLotGoes x)) _ _ s
  refine wpAny_noted ?_
  rw [compTurn_go]
  refine wpAny_bind (wpAny_standAt (wpAny_bind (wpAny_mono (turn n s hI) (fun r s₁ h₁ => ?_) fun _ _ h' => h'.elim)))
  cases r with
  | none => exact wpAny_pure h₁
  | some v =>
    refine wpAny_bind (wpAny_mono h₁ (fun _ s₁ h₁ => ?_) fun _ _ h' => h'.elim)
    exact wpAny_bind (wpAny_mono h₁ (fun _ s₂ h₂ => wpAny_bind (wpAny_bind (wpAny_mono h₂ (fun x s₃ h₃ => wpAny_bind (wpAny_mono h₃
      (fun _ s₄ h₄ => wpAny_pure (wpAny_pure ⟨rfl, h₄⟩)) fun _ _ h' => h'.elim)) fun _ _ h' => h'.elim))) fun _ _ h' => h'.elim)
end
section
variable {X : Cx} {scope : Scope} {vars : List Str} {caps : List (Nat × Str)} {elt tg iter : Expr} {pos : Pos} {wi : TI} {g : TG} {te : TE}
/-- the walk of the block -/
theorem comp_block (B : BlkOk X.env.scope.names X.N scope vars caps) (hc : X.calm = true)
    (hg : ∀ C s₀ H₀ ex, PG (blk X scope (vars ++ caps.map (·.2)) C s₀ H₀ ex) tg g) (he : ∀ C s₀ H₀ ex, PE (blk X scope (vars ++ caps.map (·.2)) C s₀ H₀ ex) elt te)
    {pins : List (Addr × Obj)} {σ : St} {H2 : Hp} {s2 : Shared} {Q : VK} {it : Addr} {fp : List Addr} {tn : Nat → Heap → Prop} {J : It} (I2 : Inv X pins σ H2 s2) (T : Turn X.prog X.w X.K tg J fp it tn) (st2 : tn 0 s2.heap) (f2 : ∀ b ∈ fp, FpOk X pins H2 b)
    {W : Nat → Nat → List V → Hp → Prop} {m0 : Nat} (w0 : W 0 m0 [] H2) (turn : ∀ i m ys H, W i m ys H →
      (J.stop i H ∧ ys.length ≤ sizeLine ∧ ∀ p, H p = none → Q (.ref p) (upd H p (.lst ys))) ∨
      (J.go i H ∧ ys.length < sizeLine ∧ ∀ x H', J.yld i H x H' → g x (vars.map (fun _ => none) ++ capV σ caps) H' fun σ2 H2 => KeepS (vars.map (fun _ => none) ++ capV σ caps) σ2 ∧ te σ2 H2 fun y H3 => ∃ m', m' < m ∧ W (i + 1) m' (ys ++ [y]) H3))
    {RR : Value → Addr → Result → Shared → Prop} {E : Value → Shared → Prop}
    (hRR : ∀ D C s' m, s'.heap.Ns C m → D ≠ C → s2.heap.objs.size ≤ D → s2.heap.objs.size ≤ C → ∀ H', H' C = none → (∀ h', Heap.SameBut C s'.heap h' → Inv X pins σ H' { s' with heap := h' }) → Q (.ref D) H' → RR (.ref D) C (.ok .next) s') :
    wpAny (model X.prog X.w) X.A (newList []) (fun acc s₃ => wpAny (model X.prog X.w) X.A (newFunctionEnv scope X.env.globals (clos X.env scope.names []) [] X.env.qual none .none (some X.env)) (fun cenv s₄ =>
      codeAny (model X.prog X.w) X.A (.compStart (.ListComp elt [⟨tg, iter, [], 0⟩] scope pos) 0 (.ref it) acc { cenv with scope := relabel scope X.env }) (RR acc cenv.locals) s₄) E s₃) E s2 := by
  refine wpAny_newObj_type (wpAny_newFunctionEnv B.cell (by intro y hy; simp at hy) (fun h₁ hns₁ hsb₁ => ?_) B.kind)
  dsimp only at hns₁ hsb₁ ⊢
  generalize hP : s2.heap.push { cls := .type "list", dict := none, data := .seq ([] : List Value).toArray } = HP at hns₁ hsb₁ ⊢
  have hCs : HP.objs.size = s2.heap.objs.size + 1 := by rw [← hP, Heap.size_push]
  have hDC : s2.heap.objs.size ≠ HP.objs.size := by rw [hCs]; exact Nat.ne_of_lt (Nat.lt_succ_self _)
  have hCle : s2.heap.objs.size ≤ HP.objs.size := by rw [hCs]; exact Nat.le_succ _
  have old : ∀ b o, s2.heap.get? b = some o → h₁.get? b = some o := fun b o e => hsb₁.extBut b o (Nat.ne_of_lt (Nat.lt_of_lt_of_le (Heap.lt_size e) hCle)) (Heap.get?_push_of_some _ (hP ▸ Heap.get?_push_of_some _ e))
  have hacc : h₁.PlainList s2.heap.objs.size #[] := ⟨_, hsb₁.extBut _ _ hDC (Heap.get?_push_of_some _ (hP ▸ Heap.get?_push_size _ rfl))⟩
  have flt : ∀ b ∈ fp, b < s2.heap.objs.size := fun b hb => by
    obtain ⟨o, e, _⟩ := T.obj _ _ st2 b hb
    exact Heap.lt_size e
  have st1 : tn 0 h₁ := T.keep _ _ _ st2 fun b _ o e => old b o e
  -- the loop
  have loop : ∀ s3 : Shared, s3 = { s2 with heap := h₁, toks := s2.toks + ([] : List (Str × Value)).length } →
      codeAny (model X.prog X.w) X.A (.compLoop (.ListComp elt [⟨tg, iter, [], 0⟩] scope pos) 0 (.ref it) (.ref s2.heap.objs.size) (compEnvC scope (clos X.env scope.names []) HP.objs.size X.env))
        (RR (.ref s2.heap.objs.size) HP.objs.size) s3 := by
    rintro s3 rfl
    have X' := blk X scope (vars ++ caps.map (·.2)) HP.objs.size s2 H2 fp
    have fpo : ∀ {H' : Hp}, (∀ b ∈ fp, H' b = none) → ∀ b ∈ fp, FpOk (blk X scope (vars ++ caps.map (·.2)) HP.objs.size s2 H2 fp) [] H' b := fun hn b hb => by
      have ok := blk_ok B I2 f2 flt hCle
      exact ⟨hn b hb, (ok.exf b hb).1, ok.exfs b hb, .inl hb, (ok.exf b hb).2, fun p hp => absurd (show p ∈ ([] : List (Addr × Obj)) from hp) (by simp)⟩
    refine codeAny_comp_go (fun n s => ∃ i ys H its, Inv (blk X scope (vars ++ caps.map (·.2)) HP.objs.size s2 H2 fp) [] (vars.map (fun _ => none) ++ capV σ caps) H s ∧ tn i s.heap ∧ (∀ b ∈ fp, H b = none) ∧ s.heap.PlainList s2.heap.objs.size (List.toArray its) ∧ H s2.heap.objs.size = none ∧ Vals ys its ∧ W i n ys H) ?_ m0
      ⟨0, [], H2, [], blk_inv B I2 f2 flt hCle hns₁ old, st1, fun b hb => (f2 b hb).1, hacc, I2.hok.fresh (Nat.le_refl _), .nil, w0⟩
    rintro n s4 ⟨i, ys, H4, its, I4, st4, fr4, pl4, nD4, v4, w4⟩
    obtain ⟨nn, eD⟩ := id pl4
    have DnL : s2.heap.objs.size ≠ (blk X scope (vars ++ caps.map (·.2)) HP.objs.size s2 H2 fp).env.locals := hDC
    have Dfs : s2.heap.objs.size ∉ (blk X scope (vars ++ caps.map (·.2)) HP.objs.size s2 H2 fp).fs := fun z => by
      rcases List.mem_cons.mp (I2.stkSub _ z) with q | q
      · have := I2.lt; rw [← q] at this; exact Nat.lt_irrefl _ this
      · exact I2.nofs (Nat.le_refl _) q
    have Dfp : ∀ b ∈ fp, s2.heap.objs.size ≠ b := fun b hb z => by have := flt b hb; rw [← z] at this; exact Nat.lt_irrefl _ this
    have DnC : ∀ x c, (blk X scope (vars ++ caps.map (·.2)) HP.objs.size s2 H2 fp).env.cells.lookup x = some c → c ≠ s2.heap.objs.size := fun x c e z => by
      rcases clos_lookup _ _ _ _ (B.cells I2) e with q | q
      · cases q
      · obtain ⟨v, o, ho, _⟩ := I2.cell x c q
        have := Heap.lt_size ho
        rw [z] at this
        exact Nat.lt_irrefl _ this
    have pinD : ∀ {σ' : St} {H' : Hp} {s' : Shared}, Inv (blk X scope (vars ++ caps.map (·.2)) HP.objs.size s2 H2 fp) [(s2.heap.objs.size, { cls := .type "list", data := .seq its.toArray nn })] σ' H' s' → s'.heap.PlainList s2.heap.objs.size its.toArray ∧ H' s2.heap.objs.size = none := fun {σ' H' s'} I' => by
      obtain ⟨q1, q2, _⟩ := I'.pin (s2.heap.objs.size, { cls := .type "list", data := .seq its.toArray nn }) (by simp [blk])
      exact ⟨⟨nn, q1⟩, q2⟩
    have I4p : Inv (blk X scope (vars ++ caps.map (·.2)) HP.objs.size s2 H2 fp) [(s2.heap.objs.size, { cls := .type "list", data := .seq its.toArray nn })] (vars.map (fun _ => none) ++ capV σ caps) H4 s4 :=
      I4.pins_of fun p hp => by
        have e : p = (s2.heap.objs.size, { cls := .type "list", data := .seq its.toArray nn }) := by simpa [blk] using hp
        subst e
        exact ⟨eD, nD4, DnL, Dfs, fun v z => by cases z⟩
    have fpo' : ∀ {H' : Hp}, (∀ b ∈ fp, H' b = none) → ∀ b ∈ fp, FpOk (blk X scope (vars ++ caps.map (·.2)) HP.objs.size s2 H2 fp) [(s2.heap.objs.size, { cls := .type "list", data := .seq its.toArray nn })] H' b := fun hn b hb => by
      obtain ⟨q1, q2, q3, q4, q5, _⟩ := fpo hn b hb
      exact ⟨q1, q2, q3, q4, q5, fun p hp => by
        have e : p = (s2.heap.objs.size, { cls := .type "list", data := .seq its.toArray nn }) := by simpa [blk] using hp
        subst e
        exact Dfp b hb⟩
    have unp : ∀ {pl : List (Addr × Obj)} {σ' : St} {H' : Hp} {s' : Shared}, Inv (blk X scope (vars ++ caps.map (·.2)) HP.objs.size s2 H2 fp) pl σ' H' s' → Inv (blk X scope (vars ++ caps.map (·.2)) HP.objs.size s2 H2 fp) [] σ' H' s' := fun {pl σ' H' s'} I' =>
      I'.pins_of fun p hp => absurd (show p ∈ ([] : List (Addr × Obj)) from hp) (by simp)
    rcases turn i n ys H4 w4 with ⟨stop, hz, qn⟩ | ⟨go, hz, step⟩
    · refine thn (T.done (blk X scope (vars ++ caps.map (·.2)) HP.objs.size s2 H2 fp) rfl rfl rfl hc i _ s4 _ H4 _ I4p (fpo' fr4) st4 stop) fun r s5 ⟨hr, I5⟩ => ?_
      subst hr
      obtain ⟨p5, n5⟩ := pinD I5
      obtain ⟨m5, ns5, _⟩ := I5.loc
      refine hRR _ _ s5 m5 ns5 hDC (Nat.le_refl _) hCle _ ?_ (fun h' hs' => blk_out I2 f2 hCle (Nat.le_refl _) hDC (unp I5) n5 p5 v4 hz hs') (qn _ n5)
      rw [upd_ne hDC.symm]
      exact I5.free
    · refine thn (T.item (blk X scope (vars ++ caps.map (·.2)) HP.objs.size s2 H2 fp) rfl rfl rfl hc i _ s4 _ H4 _ I4p (fpo' fr4) st4 go) fun r s5 ⟨u, hr, h5⟩ => ?_
      subst hr
      refine thn h5 fun _ s6 ⟨x, H6, I6, rx, yx, st6, fr6⟩ => ?_
      have I6p := I6.pinned (fpo' fr6) (T.obj _ _ st6)
      refine thn (hg _ _ _ _ _ s6 _ H6 x u _ I6p rx (step x H6 yx)) fun _ s7 ⟨σ7, H7, I7, kp, q7⟩ => ?_
      refine thn (he _ _ _ _ _ s7 σ7 H7 _ I7 q7) fun v s8 ⟨y, H8, I8, ry, m', hm, w8⟩ => ?_
      obtain ⟨p8, n8⟩ := pinD I8.unpinned
      have st8 : tn (i + 1) s8.heap := T.keep _ _ _ st6 fun b hb o e => (I8.pin (b, o) (List.mem_append_right _ (List.mem_append_right _ (mem_pinsAt hb e)))).1
      have fr8 : ∀ b ∈ fp, H8 b = none := fun b hb => by
        obtain ⟨o, e, d⟩ := T.obj _ _ st6 b hb
        exact (I8.pin (b, o) (List.mem_append_right _ (List.mem_append_right _ (mem_pinsAt hb e)))).2.1
      have hl := v4.length
      refine wpAny_list_append_plain p8 (fun h9 p9 sb9 => ⟨m', hm, i + 1, ys ++ [y], H8, its ++ [v], ?_, ?_, fr8, by simpa using p9, n8, v4.append (.cons ry .nil), w8⟩) (by simp; omega)
      · have I9 : Inv (blk X scope (vars ++ caps.map (·.2)) HP.objs.size s2 H2 fp) [] σ7 H8 { s8 with heap := h9, toks := s8.toks } :=
          (unp I8).turned (it := s2.heap.objs.size) (fun b o hb e => sb9.extBut b o hb e) n8 DnL (.inr (Nat.le_refl _)) DnC fun p hp => absurd (show p ∈ ([] : List (Addr × Obj)) from hp) (by simp)
        exact I9.weak kp.1 kp.2
      · exact T.keep _ _ _ st8 fun b hb o e => sb9.extBut b o (Dfp b hb).symm e
  exact codeAny_compStart_list (loop _ rfl) (T.self _ 0 _ _ _ st1 (loop _ rfl))
theorem pe_comp (B : BlkOk X.env.scope.names X.N scope vars caps) (hc : X.calm = true) (hi : PI X tg iter wi)
    (hg : ∀ C s₀ H₀ ex, PG (blk X scope (vars ++ caps.map (·.2)) C s₀ H₀ ex) tg g) (he : ∀ C s₀ H₀ ex, PE (blk X scope (vars ++ caps.map (·.2)) C s₀ H₀ ex) elt te) (hs : ∀ x, foldedSetIterable iter X.env x = pure x := by intro _; rfl) :
    PE X (.ListComp elt [⟨tg, iter, [], 0⟩] scope pos) (tComp wi g te vars caps) := by
  intro pins s σ H Q I h
  rw [eval_ListComp]
  refine wpAny_comprehension_free (use := none) rfl hs (closureFor_eq (B.cells I)) B.kind B.names ?_
  show wpAny _ _ (eval iter X.env) _ _ s
  refine thn (hi pins s σ H _ I h) fun v s1 h1 => thn h1 fun itv s2 h2 => ?_
  obtain ⟨it, fp, tn, J, H2, e, I2, T, st2, f2, W, ⟨m0, w0⟩, turn⟩ := h2
  subst e
  exact comp_block B hc hg he I2 T st2 f2 w0 turn (RR := fun acc C => compPost (model X.prog X.w) X.A X.xe none (EP X pins σ Q) acc C) fun D C s' m ns _ _ _ H' _ k q => ⟨m, ns, fun h' hs' => ⟨.ref D, H', k h' hs', rfl, q⟩⟩
end
/-! ### comprehensions by plain functions -/
def slF : Option Sl → Sl
  | some (.fz d) => .fz d
  | _ => .un
@[simp] theorem slF_fz (d : D) : slF (some (.fz d)) = .fz d := rfl
def capS (δ : Dv) (caps : List (Nat × Str)) : Dv := caps.map fun p => slF δ[p.1]?
def mapO (f : D → Option D) : List D → Option (List D)
  | [] => some []
  | d :: ds => (f d).bind fun e => (mapO f ds).bind fun es => some (e :: es)
def oComp (fi : Dv → Option (List D)) (caps : List (Nat × Str)) (bv : D → Option (List D)) (fe : Dv → Option D) : Dv → Option D := fun δ => (fi δ).bind fun ds => if ds.length ≤ sizeLine then (mapO (fun d => (bv d).bind fun vs => fe (vs.map .fz ++ capS δ caps)) ds).bind fun es => some (.list es) else none
def bv1 : D → Option (List D) := fun d => some [d]
theorem mapO_length {f : D → Option D} : ∀ {ds es : List D}, mapO f ds = some es → es.length = ds.length
  | [], es, h => by cases h; rfl
  | d :: ds, es, h => by
    obtain ⟨e, _, h⟩ := bind_some h
    obtain ⟨es', h2, h⟩ := bind_some h
    cases h
    exact congrArg (· + 1) (mapO_length h2)
theorem mapO_get {f : D → Option D} : ∀ {ds es : List D} {i : Nat} {d : D}, mapO f ds = some es → ds[i]? = some d → ∃ e, f d = some e ∧ es[i]? = some e
  | [], es, i, d, h, q => by simp at q
  | d :: ds, es, i, d', h, q => by
    obtain ⟨e, h1, h⟩ := bind_some h
    obtain ⟨es', h2, h⟩ := bind_some h
    cases h
    cases i with
    | zero => simp at q; subst q; exact ⟨e, h1, rfl⟩
    | succ i => simp at q; obtain ⟨e', g1, g2⟩ := mapO_get (i := i) h2 q; exact ⟨e', g1, by simpa using g2⟩
/-- how a target of the block binds -/
def TgOk (K : Fg) (g : TG) (n : Nat) (bv : D → Option (List D)) : Prop := ∀ (x : V) (Z : Hp) (d : D) (vs : List D) (σc : St) (H : Hp) (R : St → Hp → Prop), Rep K Z x d → Same Z H → bv d = some vs → (∀ us, Reps K Z us vs → us.length = n → R (us.map some ++ σc) H) → g x (List.replicate n none ++ σc) H R
theorem tg_one {K : Fg} : TgOk K (gName 0) 1 bv1 := fun x Z d vs σc H R r zh e k => by
  cases e
  exact k [x] (.cons r .nil) rfl
section
variable {X : Cx} {scope : Scope} {vars : List Str} {caps : List (Nat × Str)} {elt tg iter : Expr} {pos : Pos} {g : TG} {fi : Dv → Option (List D)} {fe : Dv → Option D} {bv : D → Option (List D)}
theorem capV_get {σ : St} {δ : Dv} {K : Fg} {H₀ Z₀ Z H : Hp} (hh : Hold K H₀ Z₀ Z δ σ H) : ∀ (j : Nat) d, (capS δ caps)[j]? = some (.fz d) → ∃ v, (capV σ caps)[j]? = some (some v) ∧ Rep K Z v d := fun j d e => by
  unfold capS at e
  unfold capV
  rw [List.getElem?_map] at e ⊢
  cases q : caps[j]? with
  | none => rw [q] at e; cases e
  | some p =>
    rw [q] at e
    have e : slF δ[p.1]? = .fz d := Option.some.inj e
    cases z : δ[p.1]? with
    | none => rw [z] at e; cases e
    | some sl =>
      rw [z] at e
      cases sl with
      | fz d' =>
        cases e
        obtain ⟨v, g1, g2⟩ := hh.fz p.1 _ z
        exact ⟨v, by show some ((σ[p.1]?).getD none) = _; rw [g1]; rfl, g2⟩
      | un => cases e
      | own _ => cases e
theorem capS_ow {δ : Dv} : ∀ (j : Nat) ds, (capS δ caps)[j]? ≠ some (.own ds) := fun j ds e => by
  unfold capS at e
  rw [List.getElem?_map] at e
  cases q : caps[j]? with
  | none => rw [q] at e; cases e
  | some p =>
    rw [q] at e
    have e : slF δ[p.1]? = .own ds := Option.some.inj e
    cases z : δ[p.1]? with
    | none => rw [z] at e; cases e
    | some sl => rw [z] at e; cases sl <;> cases e
/-- a block's slots hold -/
theorem blk_hold {σ : St} {δ : Dv} {K : Fg} {H₀ Z₀ Z H : Hp} (hh : Hold K H₀ Z₀ Z δ σ H) {us : List V} {vs : List D} (r : Reps K Z us vs) : Hold K H Z Z (vs.map .fz ++ capS δ caps) (us.map some ++ capV σ caps) H := by
  have hl := r.length
  refine ⟨hh.zh, Same.refl _, Same.refl _, fun _ _ => rfl, by simp [capS, capV, hl], fun i d e => ?_, fun i ds e => ?_, fun i j ds es a _ e => ?_⟩
  · by_cases hi : i < vs.length
    · rw [List.getElem?_append_left (by simpa using hi), List.getElem?_map] at e
      cases q : vs[i]? with
      | none => rw [q] at e; cases e
      | some d' =>
        rw [q] at e
        cases e
        obtain ⟨v, g1, g2⟩ := r.get q
        exact ⟨v, by rw [List.getElem?_append_left (by simpa [hl] using hi), List.getElem?_map, g1]; rfl, g2⟩
    · rw [List.getElem?_append_right (by simpa using hi)] at e
      obtain ⟨v, g1, g2⟩ := capV_get hh _ d e
      refine ⟨v, ?_, g2⟩
      rw [List.getElem?_append_right (by simpa [hl] using hi)]
      simp only [List.length_map] at g1 ⊢
      rw [hl]; exact g1
  all_goals
    exfalso
    by_cases hi : i < vs.length
    · rw [List.getElem?_append_left (by simpa using hi), List.getElem?_map] at e
      cases q : vs[i]? <;> rw [q] at e <;> cases e
    · rw [List.getElem?_append_right (by simpa using hi)] at e
      exact capS_ow _ _ e
theorem comp_read (tk : TgOk X.K g vars.length bv) {σ : St} {H : Hp} {Q : VK} (h : tV X.K (oComp fi caps bv fe) σ H Q) : tComp (tVI X.K fi) g (tV X.K fe) vars caps σ H Q := by
  obtain ⟨H₀, Z₀, Z, δ, d, hh, e, k⟩ := h
  obtain ⟨ds, e1, e⟩ := bind_some e
  by_cases hz : ds.length ≤ sizeLine
  · rw [if_pos hz] at e
    obtain ⟨es, e2, e⟩ := bind_some e
    cases e
    have le := mapO_length e2
    have hv : vars.map (fun _ => (none : Option V)) = List.replicate vars.length none := by rw [List.map_const']
    refine ⟨H₀, Z₀, Z, δ, ds, hh, e1, fun J Z1 H1 hh1 t1 ok => ?_⟩
    refine ⟨fun i m ys H => m = ds.length - i ∧ i ≤ ds.length ∧ ∃ Zc, Hold X.K H₀ Z₀ Zc δ σ H ∧ Same Z1 Zc ∧ Reps X.K Zc ys (es.take i), ⟨ds.length, by simp, Nat.zero_le _, Z1, hh1, Same.refl _, by simpa using .nil⟩, ?_⟩
    rintro i m ys H2 ⟨rfl, hi2, Zc, hhc, tc, rc⟩
    have zh : Same Z1 H2 := tc.trans hhc.zh
    have ly := rc.length
    rw [List.length_take] at ly
    by_cases hlt : i < ds.length
    · refine .inr ⟨ok.go i H2 zh hlt, by omega, fun x H3 y => ?_⟩
      have ed : ds[i]? = some ds[i] := by simp [hlt]
      obtain ⟨rfl, rx⟩ := ok.yld i H2 x H3 _ zh ed y
      obtain ⟨ei, f1, f2⟩ := mapO_get e2 ed
      obtain ⟨vs, f3, f1⟩ := bind_some f1
      rw [hv]
      refine tk x Zc ds[i] vs (capV σ caps) H3 _ (rx.same tc) hhc.zh f3 fun us ru hn => ⟨⟨by simp [hn], fun j v q => ?_⟩, ?_⟩
      · by_cases hj : j < vars.length
        · rw [List.getElem?_append_left (by simpa using hj), List.getElem?_replicate] at q
          split at q <;> cases q
        · rw [List.getElem?_append_right (by simpa using hj)] at q
          rw [List.getElem?_append_right (by simpa [hn] using hj)]
          simpa [hn] using q
      · refine ⟨H3, Zc, Zc, _, ei, blk_hold hhc ru, f1, fun v Z4 H4 h4 t4 r4 => ⟨ds.length - (i + 1), by omega, rfl, hlt, Z4, hhc.new ⟨t4, h4.h0, h4.zh, h4.zb⟩, tc.trans t4, ?_⟩⟩
        have : es.take (i + 1) = es.take i ++ [ei] := by
          rw [List.take_add_one, f2]; rfl
        rw [this]
        exact (rc.same t4).append (.cons r4 .nil)
    · have hie : i = ds.length := by omega
      subst hie
      refine .inl ⟨ok.stop _ H2 zh (Nat.le_refl _), by omega, fun p hp => ?_⟩
      rw [← le, List.take_length] at rc
      have n := New.add hhc.zh hp (.lst ys)
      exact k _ _ _ (hhc.new n) ((t1.trans tc).trans n.z) (.lst (SqL.of upd_same) (rc.same n.z))
  · rw [if_neg hz] at e; cases e
theorem ev_comp (B : BlkOk X.env.scope.names X.N scope vars caps) (hc : X.calm = true) (hi : IV X tg iter fi) (tk : TgOk X.K g vars.length bv)
    (hg : ∀ C s₀ H₀ ex, PG (blk X scope (vars ++ caps.map (·.2)) C s₀ H₀ ex) tg g) (he : ∀ C s₀ H₀ ex, EV (blk X scope (vars ++ caps.map (·.2)) C s₀ H₀ ex) elt fe) (hs : ∀ x, foldedSetIterable iter X.env x = pure x := by intro _; rfl) :
    EV X (.ListComp elt [⟨tg, iter, [], 0⟩] scope pos) (oComp fi caps bv fe) :=
  PE.imp (pe_comp (te := tV X.K fe) B hc hi hg he hs) fun _ _ _ h => comp_read tk h
end
end VL

set_option Elab.async false
set_option linter.all false
set_option maxRecDepth 100000
set_option maxHeartbeats 4000000
namespace VL
open PySem PySem.Spec PyProof.Rows L2
section
variable {X : Cx} {e : Expr} {es : List Expr} {p pos : Pos} {fs : Dv → Option (List D)}
/-- a def of the text, every argument given -/
theorem ev_def0 {k : Nat} {x : Str} {g : List D → Option D} (C : Cal X.prog X.w X.K X.mg X.base x k g []) (hr : Room k X.A) (hg : Gl X x) (ha : AV X (e :: es) fs) (hdb : (x == ("__debug__" : Str)) = false := by decide) (he : starEach (e :: es) X.env = (false, eval e X.env) :: starEach es X.env := by rfl)
    (hpl : (backTo pos (starEach es X.env)).any (·.1) = false := by rfl) : EV X (.Call (.Name x p) (e :: es) [] pos) (os fs g) := by
  have h := ev_def C hr hg ha hdb he hpl (p := p) (pos := pos)
  have e : (fun as => g (as ++ [])) = g := by funext as; rw [List.append_nil]
  rw [e] at h
  exact h
end
/-- a plain value at the module's top -/
structure TopV (K : Fg) (mg : Str → Option Value) (x : Str) (d : D) : Prop where
  ex : ∃ v u, mg x = some u ∧ RelV v u ∧ ∀ Z, Rep K Z v d
theorem TopV.tup {K : Fg} {mg : Str → Option Value} {x : Str} {a : Addr} {td : Option Addr} {its : Array Value} {tn : Nat} {ts : Array (Option Value)} {xs : List V} {ds : List D} (hm : mg x = some (.ref a)) (hk : K.lookup a = some ⟨.type "tuple", td, .seq its tn, ts⟩)
    (hz : its.size ≤ sizeLine) (hv : Vals xs its.toList) (hr : ∀ Z, Reps K Z xs ds) : TopV K mg x (.tuple ds) := ⟨.ref a, .ref a, hm, rfl, fun Z => .tup (.inr ⟨_, its, tn, hk, rfl, rfl, hz, hv⟩) (hr Z)⟩
theorem TopV.int {K : Fg} {mg : Str → Option Value} {x : Str} {i : Int} {t : Tok} (hm : mg x = some (.int i t)) : TopV K mg x (.int i) := ⟨.int i, .int i t, hm, ⟨t, rfl⟩, fun _ => .int i⟩
/-! ### lists of one's own -/
def slO : Option Sl → Option (List D)
  | some (.own (.l ds)) => some ds
  | _ => none
@[simp] theorem slO_ow (ds : List D) : slO (some (.ow ds)) = some ds := rfl
theorem slO_eq {o : Option Sl} {ds : List D} (h : slO o = some ds) : o = some (.ow ds) := by
  cases o with
  | none => cases h
  | some x =>
    cases x with
    | own c =>
      cases c with
      | l es => cases h; rfl
      | d es => cases h
    | un => cases h
    | fz d => cases h
@[simp] def sOwn (i : Nat) (fs : Dv → Option (List D)) : Sf := fun δ => (fs δ).bind fun ds => if ds.length ≤ sizeLine then some (.nx, δ.set i (.ow ds)) else none
/-- x[k] of one's own -/
@[simp] def oIxO (i : Nat) (f : Dv → Option D) : Dv → Option D := fun δ => (slO δ[i]?).bind fun ds => (f δ).bind fun k => ixD (.list ds) k
@[simp] def oLenO (i : Nat) : Dv → Option D := fun δ => (slO δ[i]?).bind fun ds => some (.int ds.length)
def putD (ds : List D) (k v : D) : Option (List D) := match k with
  | .int j => (ixN ds.length j).map fun n => ds.set n v
  | _ => none
@[simp] theorem putD_int (ds : List D) (j : Int) (v : D) : putD ds (.int j) v = (ixN ds.length j).map fun n => ds.set n v := rfl
/-- x[k] = v -/
@[simp] def sPut (i : Nat) (fk fv : Dv → Option D) : Sf := fun δ => (fv δ).bind fun v => (fk δ).bind fun k => (slO δ[i]?).bind fun ds => (putD ds k v).bind fun ds' => some (.nx, δ.set i (.ow ds'))
/-- x.append(v) -/
@[simp] def sApp (i : Nat) (f : Dv → Option D) : Sf := fun δ => (f δ).bind fun v => (slO δ[i]?).bind fun ds => if ds.length < sizeLine then some (.nx, δ.set i (.ow (ds ++ [v]))) else none
section
variable {X : Cx} {e b : Expr} {es : List Expr} {p pos tpos apos : Pos} {fs : Dv → Option (List D)} {f fk fv : Dv → Option D}
theorem sv_own (i : Nat) {x : Str} {pos' : Pos} (hN : X.N.Nodup) (ha : AV X es fs) (hi : X.N[i]? = some x := by rfl) (hx : Loc X.env.scope x := by first | exact Or.inl rfl | exact Or.inr rfl) (hs : swapsWith (.List es p) (some (.Name x pos')) pos.line X.env = pure false := by rfl)
    (hf : X.fn x = true ∨ X.env.scope.names.lookup x = some .local := by first | exact .inl rfl | exact .inr rfl | assumption) : SV X (.Assign [.Name x pos'] (.List es p) pos) (sOwn i fs) :=
  PS.imp (ps_set hN hi hx (pe_lst ha) hs hf) fun D σ H h => by
    obtain ⟨H₀, Z₀, Z, δ, r, hh, e, k⟩ := h
    obtain ⟨ds, e1, e⟩ := bind_some e
    by_cases hl : ds.length ≤ sizeLine
    · rw [if_pos hl] at e
      cases e
      exact ⟨H₀, Z₀, Z, δ, ds, hh, e1, fun vs Z1 H1 hh1 t1 r1 => ⟨by rw [r1.length]; exact hl, fun p hp => k _ _ Z1 (hh1.setO hp r1) t1⟩⟩
    · rw [if_neg hl] at e; cases e
theorem ow_at {K : Fg} {H₀ Z₀ Z : Hp} {δ : Dv} {σ : St} {H : Hp} (hh : Hold K H₀ Z₀ Z δ σ H) {i : Nat} {ds : List D} (h : slO δ[i]? = some ds) : ∃ a xs, σ[i]? = some (some (V.ref a)) ∧ H a = some (.lst xs) ∧ Reps K Z xs ds := by
  obtain ⟨a, xs, h1, _, _, h4, h5⟩ := hh.ow i ds (slO_eq h)
  exact ⟨a, xs, h1, h4, h5⟩
theorem sv_app (i : Nat) {x : Str} {cpos : Pos} (hv' : EV X e f) (hN : X.N[i]? = some x := by rfl) (hv : Vis X.env.scope x := by first | exact Or.inl rfl | exact Or.inr (Or.inl rfl) | exact Or.inr (Or.inr rfl)) (hd : (x == ("__debug__" : Str)) = false := by decide) (hcd : (x == ("__classdict__" : Str)) = false := by decide)
    (hbase : attributeBase (.Name x p) "append" X.env (eval (.Name x p) X.env) = eval (.Name x p) X.env := by rfl)
    (hfew : ((backTo cpos (starEach [e] X.env)).all (fun x => !x.1) && (backToKw cpos (keywordEach [] X.env)).all (fun x => x.1.isSome)
      && decide ([e].length + ([] : List Keyword).length + (if ([] : List Keyword).isEmpty then 0 else 1) < 30)) = true := by rfl)
    (hline : (apos.endLine == cpos.line) = true := by rfl) (hs : starEach [e] X.env = (false, eval e X.env) :: starEach [] X.env := by rfl) (hplain : (backTo cpos (starEach [] X.env)).any (·.1) = false := by rfl)
    (hsw : swapsWith (.Call (.Attribute (.Name x p) "append" apos) [e] [] cpos) none pos.line X.env = pure false := by rfl) : SV X (.Expr (.Call (.Attribute (.Name x p) "append" apos) [e] [] cpos) pos) (sApp i f) :=
  PS.imp (ps_expr (pe_bm PySem.F.plainAttrs_list PySem.F.slot_list_append PySem.F.type_list_append mt_append (pe_var hN hv hd hcd) (pa_cons hv' pa_nil hs) hbase hfew hline hs hplain) hsw) fun D σ H h => by
    obtain ⟨H₀, Z₀, Z, δ, r, hh, e, k⟩ := h
    obtain ⟨v, e1, e⟩ := bind_some e
    obtain ⟨ds, e2, e⟩ := bind_some e
    by_cases hl : ds.length < sizeLine
    · rw [if_pos hl] at e
      cases e
      obtain ⟨a, xs, h1, h4, h5⟩ := ow_at hh e2
      refine ⟨_, h1, .inl ⟨rfl, xs, SqL.of h4⟩, H₀, Z₀, Z, δ, v, hh, e1, fun w Z1 H1 hh1 t1 r1 => ?_⟩
      obtain ⟨a', xs', g1, g4, g5⟩ := ow_at hh1 e2
      rw [h1] at g1
      cases g1
      exact ⟨a, xs', w, rfl, rfl, g4, by rw [g5.length]; exact hl, k σ _ Z1 (hh1.chg (xs := xs') (slO_eq e2) h1 (g5.append (.cons r1 .nil))) t1⟩
    · rw [if_neg hl] at e; cases e
end
end VL

set_option Elab.async false
set_option linter.all false
set_option maxRecDepth 100000
set_option maxHeartbeats 4000000
namespace VL
open PySem PySem.Spec PyProof.Rows L2
/-! ### comprehensions with a test -/
section
def tCompI (wi : TI) (g : TG) (tt : TT) (te : TE) (vars : List Str) (caps : List (Nat × Str)) : TE := fun σ H Q => wi σ H fun J H1 => ∃ W : Nat → Nat → List V → Hp → Prop, (∃ m, W 0 m [] H1) ∧ ∀ i m ys H, W i m ys H →
  (J.stop i H ∧ ys.length ≤ sizeLine ∧ ∀ p, H p = none → Q (.ref p) (upd H p (.lst ys))) ∨
  (J.go i H ∧ ys.length < sizeLine ∧ ∀ x H', J.yld i H x H' → g x (vars.map (fun _ => none) ++ capV σ caps) H' fun σ2 H2 => KeepS (vars.map (fun _ => none) ++ capV σ caps) σ2 ∧ tt σ2 H2 fun b H3 => if b = true then te σ2 H3 fun y H4 => ∃ m', m' < m ∧ W (i + 1) m' (ys ++ [y]) H4 else ∃ m', m' < m ∧ W (i + 1) m' ys H3)
theorem codeAny_comp_goI {prog : Program} {w : World} {A : Around} {R : Result → Shared → Prop} {s : Shared} {elt target iter cnd : Expr} {scope : Scope} {pos : Pos} {it acc : Value} {env : Env} (I : Nat → Shared → Prop)
    (turn : ∀ n s, I n s → wpAny (model prog w) A (pyNext it) (fun r s₁ => match r with
      | none => R (.ok .next) s₁
      | some v => wpAny (model prog w) A (letOwnedTupleGo target it v) (fun _ s₁ => wpAny (model prog w) A (assign target env v) (fun _ s₂ => wpAny (model prog w) A (isTrue cnd env (eval cnd env)) (fun ok s₂ => if ok = true then wpAny (model prog w) A (eval elt env) (fun x s₃ =>
          wpAny (model prog w) A (call (.builtin "list.append") [acc, x]) (fun _ s₄ => ∃ m, m < n ∧ I m s₄) (fun _ _ => False) s₃) (fun _ _ => False) s₂ else ∃ m, m < n ∧ I m s₂) (fun _ _ => False) s₂) (fun _ _ => False) s₁) (fun _ _ => False) s₁) (fun _ _ => False) s)
    (n : Nat) (h : I n s) : codeAny (model prog w) A (.compLoop (.ListComp elt [⟨target, iter, [cnd], 0⟩] scope pos) 0 it acc env) R s := by
  refine codeAny_loop rfl I (fun n s hI => ?_) n h
  show wpAny _ _ ((compTurn (.ListComp elt [⟨target, iter, [cnd], 0⟩] scope pos) 0 it acc env).onRaise (fun x => do noteFrame x env; theTreesLotGoes x)) _ _ s
  refine wpAny_noted ?_
  rw [compTurn_list]
  refine wpAny_bind (wpAny_standAt (wpAny_bind (wpAny_mono (turn n s hI) (fun r s₁ h₁ => ?_) fun _ _ h' => h'.elim)))
  cases r with
  | none => exact wpAny_pure h₁
  | some v =>
    refine wpAny_bind (wpAny_mono h₁ (fun _ s₁ h₁ => ?_) fun _ _ h' => h'.elim)
    refine wpAny_bind (wpAny_mono h₁ (fun _ s₂ h₂ => ?_) fun _ _ h' => h'.elim)
    refine wpAny_bind (wpAny_tests_one (wpAny_mono h₂ (fun okb s₃ h₃ => ?_) fun _ _ h' => h'.elim))
    cases okb with
    | false => exact wpAny_pure ⟨rfl, h₃⟩
    | true => exact wpAny_bind (wpAny_bind (wpAny_mono h₃ (fun x s₄ h₄ => wpAny_bind (wpAny_mono h₄ (fun _ s₅ h₅ => wpAny_pure (wpAny_pure ⟨rfl, h₅⟩)) fun _ _ h' => h'.elim)) fun _ _ h' => h'.elim))
end
section
variable {X : Cx} {scope : Scope} {vars : List Str} {caps : List (Nat × Str)} {elt tg iter cnd : Expr} {pos : Pos} {wi : TI} {g : TG} {tt : TT} {te : TE}
/-- the walk of the block -/
theorem comp_blockI (B : BlkOk X.env.scope.names X.N scope vars caps) (hc : X.calm = true)
    (hg : ∀ C s₀ H₀ ex, PG (blk X scope (vars ++ caps.map (·.2)) C s₀ H₀ ex) tg g) (hb : ∀ C s₀ H₀ ex, PT (blk X scope (vars ++ caps.map (·.2)) C s₀ H₀ ex) cnd tt) (he : ∀ C s₀ H₀ ex, PE (blk X scope (vars ++ caps.map (·.2)) C s₀ H₀ ex) elt te)
    {pins : List (Addr × Obj)} {σ : St} {H2 : Hp} {s2 : Shared} {Q : VK} {it : Addr} {fp : List Addr} {tn : Nat → Heap → Prop} {J : It} (I2 : Inv X pins σ H2 s2) (T : Turn X.prog X.w X.K tg J fp it tn) (st2 : tn 0 s2.heap) (f2 : ∀ b ∈ fp, FpOk X pins H2 b)
    {W : Nat → Nat → List V → Hp → Prop} {m0 : Nat} (w0 : W 0 m0 [] H2) (turn : ∀ i m ys H, W i m ys H →
      (J.stop i H ∧ ys.length ≤ sizeLine ∧ ∀ p, H p = none → Q (.ref p) (upd H p (.lst ys))) ∨
      (J.go i H ∧ ys.length < sizeLine ∧ ∀ x H', J.yld i H x H' → g x (vars.map (fun _ => none) ++ capV σ caps) H' fun σ2 H2 => KeepS (vars.map (fun _ => none) ++ capV σ caps) σ2 ∧ tt σ2 H2 fun b H3 => if b = true then te σ2 H3 fun y H4 => ∃ m', m' < m ∧ W (i + 1) m' (ys ++ [y]) H4 else ∃ m', m' < m ∧ W (i + 1) m' ys H3))
    {RR : Value → Addr → Result → Shared → Prop} {E : Value → Shared → Prop}
    (hRR : ∀ D C s' m, s'.heap.Ns C m → D ≠ C → s2.heap.objs.size ≤ D → s2.heap.objs.size ≤ C → ∀ H', H' C = none → (∀ h', Heap.SameBut C s'.heap h' → Inv X pins σ H' { s' with heap := h' }) → Q (.ref D) H' → RR (.ref D) C (.ok .next) s') :
    wpAny (model X.prog X.w) X.A (newList []) (fun acc s₃ => wpAny (model X.prog X.w) X.A (newFunctionEnv scope X.env.globals (clos X.env scope.names []) [] X.env.qual none .none (some X.env)) (fun cenv s₄ =>
      codeAny (model X.prog X.w) X.A (.compStart (.ListComp elt [⟨tg, iter, [cnd], 0⟩] scope pos) 0 (.ref it) acc { cenv with scope := relabel scope X.env }) (RR acc cenv.locals) s₄) E s₃) E s2 := by
  refine wpAny_newObj_type (wpAny_newFunctionEnv B.cell (by intro y hy; simp at hy) (fun h₁ hns₁ hsb₁ => ?_) B.kind)
  dsimp only at hns₁ hsb₁ ⊢
  generalize hP : s2.heap.push { cls := .type "list", dict := none, data := .seq ([] : List Value).toArray } = HP at hns₁ hsb₁ ⊢
  have hCs : HP.objs.size = s2.heap.objs.size + 1 := by rw [← hP, Heap.size_push]
  have hDC : s2.heap.objs.size ≠ HP.objs.size := by rw [hCs]; exact Nat.ne_of_lt (Nat.lt_succ_self _)
  have hCle : s2.heap.objs.size ≤ HP.objs.size := by rw [hCs]; exact Nat.le_succ _
  have old : ∀ b o, s2.heap.get? b = some o → h₁.get? b = some o := fun b o e => hsb₁.extBut b o (Nat.ne_of_lt (Nat.lt_of_lt_of_le (Heap.lt_size e) hCle)) (Heap.get?_push_of_some _ (hP ▸ Heap.get?_push_of_some _ e))
  have hacc : h₁.PlainList s2.heap.objs.size #[] := ⟨_, hsb₁.extBut _ _ hDC (Heap.get?_push_of_some _ (hP ▸ Heap.get?_push_size _ rfl))⟩
  have flt : ∀ b ∈ fp, b < s2.heap.objs.size := fun b hb => by
    obtain ⟨o, e, _⟩ := T.obj _ _ st2 b hb
    exact Heap.lt_size e
  have st1 : tn 0 h₁ := T.keep _ _ _ st2 fun b _ o e => old b o e
  -- the loop
  have loop : ∀ s3 : Shared, s3 = { s2 with heap := h₁, toks := s2.toks + ([] : List (Str × Value)).length } →
      codeAny (model X.prog X.w) X.A (.compLoop (.ListComp elt [⟨tg, iter, [cnd], 0⟩] scope pos) 0 (.ref it) (.ref s2.heap.objs.size) (compEnvC scope (clos X.env scope.names []) HP.objs.size X.env))
        (RR (.ref s2.heap.objs.size) HP.objs.size) s3 := by
    rintro s3 rfl
    have X' := blk X scope (vars ++ caps.map (·.2)) HP.objs.size s2 H2 fp
    have fpo : ∀ {H' : Hp}, (∀ b ∈ fp, H' b = none) → ∀ b ∈ fp, FpOk (blk X scope (vars ++ caps.map (·.2)) HP.objs.size s2 H2 fp) [] H' b := fun hn b hb => by
      have ok := blk_ok B I2 f2 flt hCle
      exact ⟨hn b hb, (ok.exf b hb).1, ok.exfs b hb, .inl hb, (ok.exf b hb).2, fun p hp => absurd (show p ∈ ([] : List (Addr × Obj)) from hp) (by simp)⟩
    refine codeAny_comp_goI (fun n s => ∃ i ys H its, Inv (blk X scope (vars ++ caps.map (·.2)) HP.objs.size s2 H2 fp) [] (vars.map (fun _ => none) ++ capV σ caps) H s ∧ tn i s.heap ∧ (∀ b ∈ fp, H b = none) ∧ s.heap.PlainList s2.heap.objs.size (List.toArray its) ∧ H s2.heap.objs.size = none ∧ Vals ys its ∧ W i n ys H) ?_ m0
      ⟨0, [], H2, [], blk_inv B I2 f2 flt hCle hns₁ old, st1, fun b hb => (f2 b hb).1, hacc, I2.hok.fresh (Nat.le_refl _), .nil, w0⟩
    rintro n s4 ⟨i, ys, H4, its, I4, st4, fr4, pl4, nD4, v4, w4⟩
    obtain ⟨nn, eD⟩ := id pl4
    have DnL : s2.heap.objs.size ≠ (blk X scope (vars ++ caps.map (·.2)) HP.objs.size s2 H2 fp).env.locals := hDC
    have Dfs : s2.heap.objs.size ∉ (blk X scope (vars ++ caps.map (·.2)) HP.objs.size s2 H2 fp).fs := fun z => by
      rcases List.mem_cons.mp (I2.stkSub _ z) with q | q
      · have := I2.lt; rw [← q] at this; exact Nat.lt_irrefl _ this
      · exact I2.nofs (Nat.le_refl _) q
    have Dfp : ∀ b ∈ fp, s2.heap.objs.size ≠ b := fun b hb z => by have := flt b hb; rw [← z] at this; exact Nat.lt_irrefl _ this
    have DnC : ∀ x c, (blk X scope (vars ++ caps.map (·.2)) HP.objs.size s2 H2 fp).env.cells.lookup x = some c → c ≠ s2.heap.objs.size := fun x c e z => by
      rcases clos_lookup _ _ _ _ (B.cells I2) e with q | q
      · cases q
      · obtain ⟨v, o, ho, _⟩ := I2.cell x c q
        have := Heap.lt_size ho
        rw [z] at this
        exact Nat.lt_irrefl _ this
    have pinD : ∀ {σ' : St} {H' : Hp} {s' : Shared}, Inv (blk X scope (vars ++ caps.map (·.2)) HP.objs.size s2 H2 fp) [(s2.heap.objs.size, { cls := .type "list", data := .seq its.toArray nn })] σ' H' s' → s'.heap.PlainList s2.heap.objs.size its.toArray ∧ H' s2.heap.objs.size = none := fun {σ' H' s'} I' => by
      obtain ⟨q1, q2, _⟩ := I'.pin (s2.heap.objs.size, { cls := .type "list", data := .seq its.toArray nn }) (by simp [blk])
      exact ⟨⟨nn, q1⟩, q2⟩
    have I4p : Inv (blk X scope (vars ++ caps.map (·.2)) HP.objs.size s2 H2 fp) [(s2.heap.objs.size, { cls := .type "list", data := .seq its.toArray nn })] (vars.map (fun _ => none) ++ capV σ caps) H4 s4 :=
      I4.pins_of fun p hp => by
        have e : p = (s2.heap.objs.size, { cls := .type "list", data := .seq its.toArray nn }) := by simpa [blk] using hp
        subst e
        exact ⟨eD, nD4, DnL, Dfs, fun v z => by cases z⟩
    have fpo' : ∀ {H' : Hp}, (∀ b ∈ fp, H' b = none) → ∀ b ∈ fp, FpOk (blk X scope (vars ++ caps.map (·.2)) HP.objs.size s2 H2 fp) [(s2.heap.objs.size, { cls := .type "list", data := .seq its.toArray nn })] H' b := fun hn b hb => by
      obtain ⟨q1, q2, q3, q4, q5, _⟩ := fpo hn b hb
      exact ⟨q1, q2, q3, q4, q5, fun p hp => by
        have e : p = (s2.heap.objs.size, { cls := .type "list", data := .seq its.toArray nn }) := by simpa [blk] using hp
        subst e
        exact Dfp b hb⟩
    have unp : ∀ {pl : List (Addr × Obj)} {σ' : St} {H' : Hp} {s' : Shared}, Inv (blk X scope (vars ++ caps.map (·.2)) HP.objs.size s2 H2 fp) pl σ' H' s' → Inv (blk X scope (vars ++ caps.map (·.2)) HP.objs.size s2 H2 fp) [] σ' H' s' := fun {pl σ' H' s'} I' =>
      I'.pins_of fun p hp => absurd (show p ∈ ([] : List (Addr × Obj)) from hp) (by simp)
    rcases turn i n ys H4 w4 with ⟨stop, hz, qn⟩ | ⟨go, hz, step⟩
    · refine thn (T.done (blk X scope (vars ++ caps.map (·.2)) HP.objs.size s2 H2 fp) rfl rfl rfl hc i _ s4 _ H4 _ I4p (fpo' fr4) st4 stop) fun r s5 ⟨hr, I5⟩ => ?_
      subst hr
      obtain ⟨p5, n5⟩ := pinD I5
      obtain ⟨m5, ns5, _⟩ := I5.loc
      refine hRR _ _ s5 m5 ns5 hDC (Nat.le_refl _) hCle _ ?_ (fun h' hs' => blk_out I2 f2 hCle (Nat.le_refl _) hDC (unp I5) n5 p5 v4 hz hs') (qn _ n5)
      rw [upd_ne hDC.symm]
      exact I5.free
    · refine thn (T.item (blk X scope (vars ++ caps.map (·.2)) HP.objs.size s2 H2 fp) rfl rfl rfl hc i _ s4 _ H4 _ I4p (fpo' fr4) st4 go) fun r s5 ⟨u, hr, h5⟩ => ?_
      subst hr
      refine thn h5 fun _ s6 ⟨x, H6, I6, rx, yx, st6, fr6⟩ => ?_
      have I6p := I6.pinned (fpo' fr6) (T.obj _ _ st6)
      refine thn (hg _ _ _ _ _ s6 _ H6 x u _ I6p rx (step x H6 yx)) fun _ s7 ⟨σ7, H7, I7, kp, q7⟩ => ?_
      refine thn (hb _ _ _ _ _ s7 σ7 H7 _ I7 q7) fun okb s7' q7' => ?_
      obtain ⟨H7', I7', q7'⟩ := q7'
      cases okb with
      | false =>
        obtain ⟨m', hm, w8⟩ := q7'
        rw [if_neg (by decide)]
        obtain ⟨p8, n8⟩ := pinD I7'.unpinned
        have st8 : tn (i + 1) s7'.heap := T.keep _ _ _ st6 fun b hb o e => (I7'.pin (b, o) (List.mem_append_right _ (List.mem_append_right _ (mem_pinsAt hb e)))).1
        have fr8 : ∀ b ∈ fp, H7' b = none := fun b hb => by
          obtain ⟨o, e, d⟩ := T.obj _ _ st6 b hb
          exact (I7'.pin (b, o) (List.mem_append_right _ (List.mem_append_right _ (mem_pinsAt hb e)))).2.1
        exact ⟨m', hm, i + 1, ys, H7', its, (unp I7').weak kp.1 kp.2, st8, fr8, p8, n8, v4, w8⟩
      | true =>
      rw [if_pos rfl]
      rw [if_pos rfl] at q7'
      refine thn (he _ _ _ _ _ s7' σ7 H7' _ I7' q7') fun v s8 ⟨y, H8, I8, ry, m', hm, w8⟩ => ?_
      obtain ⟨p8, n8⟩ := pinD I8.unpinned
      have st8 : tn (i + 1) s8.heap := T.keep _ _ _ st6 fun b hb o e => (I8.pin (b, o) (List.mem_append_right _ (List.mem_append_right _ (mem_pinsAt hb e)))).1
      have fr8 : ∀ b ∈ fp, H8 b = none := fun b hb => by
        obtain ⟨o, e, d⟩ := T.obj _ _ st6 b hb
        exact (I8.pin (b, o) (List.mem_append_right _ (List.mem_append_right _ (mem_pinsAt hb e)))).2.1
      have hl := v4.length
      refine wpAny_list_append_plain p8 (fun h9 p9 sb9 => ⟨m', hm, i + 1, ys ++ [y], H8, its ++ [v], ?_, ?_, fr8, by simpa using p9, n8, v4.append (.cons ry .nil), w8⟩) (by simp; omega)
      · have I9 : Inv (blk X scope (vars ++ caps.map (·.2)) HP.objs.size s2 H2 fp) [] σ7 H8 { s8 with heap := h9, toks := s8.toks } :=
          (unp I8).turned (it := s2.heap.objs.size) (fun b o hb e => sb9.extBut b o hb e) n8 DnL (.inr (Nat.le_refl _)) DnC fun p hp => absurd (show p ∈ ([] : List (Addr × Obj)) from hp) (by simp)
        exact I9.weak kp.1 kp.2
      · exact T.keep _ _ _ st8 fun b hb o e => sb9.extBut b o (Dfp b hb).symm e
  exact codeAny_compStart_list (loop _ rfl) (T.self _ 0 _ _ _ st1 (loop _ rfl))
theorem pe_compI (B : BlkOk X.env.scope.names X.N scope vars caps) (hc : X.calm = true) (hi : PI X tg iter wi)
    (hg : ∀ C s₀ H₀ ex, PG (blk X scope (vars ++ caps.map (·.2)) C s₀ H₀ ex) tg g) (hb : ∀ C s₀ H₀ ex, PT (blk X scope (vars ++ caps.map (·.2)) C s₀ H₀ ex) cnd tt) (he : ∀ C s₀ H₀ ex, PE (blk X scope (vars ++ caps.map (·.2)) C s₀ H₀ ex) elt te) (hs : ∀ x, foldedSetIterable iter X.env x = pure x := by intro _; rfl) :
    PE X (.ListComp elt [⟨tg, iter, [cnd], 0⟩] scope pos) (tCompI wi g tt te vars caps) := by
  intro pins s σ H Q I h
  rw [eval_ListComp]
  refine wpAny_comprehension_free (use := none) rfl hs (closureFor_eq (B.cells I)) B.kind B.names ?_
  show wpAny _ _ (eval iter X.env) _ _ s
  refine thn (hi pins s σ H _ I h) fun v s1 h1 => thn h1 fun itv s2 h2 => ?_
  obtain ⟨it, fp, tn, J, H2, e, I2, T, st2, f2, W, ⟨m0, w0⟩, turn⟩ := h2
  subst e
  exact comp_blockI B hc hg hb he I2 T st2 f2 w0 turn (RR := fun acc C => compPost (model X.prog X.w) X.A X.xe none (EP X pins σ Q) acc C) fun D C s' m ns _ _ _ H' _ k q => ⟨m, ns, fun h' hs' => ⟨.ref D, H', k h' hs', rfl, q⟩⟩
/-- y = [..]: the store is exchanged with the block's own names -/
theorem ps_compI {i : Nat} {y : Str} {py spos : Pos} (B : BlkOk X.env.scope.names X.N scope vars caps) (hc : X.calm = true) (hi : PI X tg iter wi)
    (hg : ∀ C s₀ H₀ ex, PG (blk X scope (vars ++ caps.map (·.2)) C s₀ H₀ ex) tg g) (hb : ∀ C s₀ H₀ ex, PT (blk X scope (vars ++ caps.map (·.2)) C s₀ H₀ ex) cnd tt) (he : ∀ C s₀ H₀ ex, PE (blk X scope (vars ++ caps.map (·.2)) C s₀ H₀ ex) elt te)
    (hN : X.N.Nodup) (hy : X.N[i]? = some y) (hx : Loc X.env.scope y) (hsw : swapsWith (.ListComp elt [⟨tg, iter, [cnd], 0⟩] scope pos) (some (.Name y py)) spos.line X.env = pure true)
    (hf : X.fn y = true ∨ X.env.scope.names.lookup y = some .local) (hs : ∀ x, foldedSetIterable iter X.env x = pure x := by intro _; rfl) :
    PS X (.Assign [.Name y py] (.ListComp elt [⟨tg, iter, [cnd], 0⟩] scope pos) spos) (fun D σ H => tCompI wi g tt te vars caps σ H fun v H1 => D.nx (σ.set i (some v)) H1) := by
  intro pins s σ H DE I h
  rw [exec_Assign_Name_used _ _ _ _ hsw]
  refine wpAny_bind (wpAny_standAt (wpAny_bind ?_))
  show wpAny _ X.A (do let _ ← comprehension (.ListComp elt [⟨tg, iter, [cnd], 0⟩] scope pos) scope X.env _ (newList []) false (eval iter X.env) (some (assign (.Name y py) X.env))) _ _ s
  refine wpAny_bind (wpAny_mono (wpAny_comprehension_free (use := some (assign (.Name y py) X.env)) (Q := fun _ s' => SP X pins DE .next s') rfl hs (closureFor_eq (B.cells I)) B.kind B.names
    (thn (hi pins s σ H _ I h) fun v s1 h1 => thn h1 fun itv s2 h2 => ?_)) (fun _ s' hq => wpAny_pure (wpAny_pure hq)) fun _ _ e => e)
  obtain ⟨it, fp, tn, J, H2, e, I2, T, st2, f2, W, ⟨m0, w0⟩, turn⟩ := h2
  subst e
  refine comp_blockI (Q := fun v H1 => DE.nx (σ.set i (some v)) H1) B hc hg hb he I2 T st2 f2 w0 turn (RR := fun acc C => compPost (model X.prog X.w) X.A X.xe (some (assign (.Name y py) X.env)) (fun _ s' => SP X pins DE .next s') acc C) ?_
  intro D C s' m ns hDC hD hC H' hHC k q
  obtain ⟨oC, es, ep, eC, dC, rC⟩ := ns
  have I' : Inv X pins σ H' s' := k s'.heap (Heap.SameBut.refl ..)
  have nL : C ≠ X.env.locals := fun z => by have := I2.lt; rw [← z] at this; exact absurd (Nat.lt_of_lt_of_le this hC) (Nat.lt_irrefl _)
  have nF : C ∉ X.fs := I2.nofs hC
  have nCell : ∀ x c, X.env.cells.lookup x = some c → c ≠ C := fun x c e z => by
    obtain ⟨v, o, ho, _⟩ := I2.cell x c e
    have := Heap.lt_size ho
    rw [z] at this
    exact absurd (Nat.lt_of_lt_of_le this hC) (Nat.lt_irrefl _)
  have nPin : ∀ p ∈ X.pn ++ pins, p.1 ≠ C := fun p hp z => by
    have := Heap.lt_size (I2.pin p hp).1
    rw [z] at this
    exact absurd (Nat.lt_of_lt_of_le this hC) (Nat.lt_irrefl _)
  have Ip : Inv X (pins ++ [(C, oC)]) σ H' s' := I'.pins_of fun p hp => by
    rcases List.mem_append.mp hp with z | z
    · exact I'.pin p (List.mem_append_right _ z)
    · have e : p = (C, oC) := by simpa using z
      subst e
      exact ⟨eC, hHC, nL, nF, fun v z => by rw [dC] at z; cases z⟩
  refine thn (pg_name (pos := py) hN hy hx hf _ s' σ H' (.ref D) (.ref D) (fun σ' H'' => σ' = σ.set i (some (.ref D)) ∧ H'' = H' ∧ DE.nx σ' H'') Ip rfl ⟨rfl, rfl, q⟩) fun _ s'' ⟨σ'', H'', I'', e1, e2, q''⟩ => ?_
  subst e1 e2
  have eC'' : s''.heap.get? C = some oC := (I''.pin (C, oC) (List.mem_append_right _ (List.mem_append_right _ (by simp)))).1
  refine ⟨m, ⟨oC, es, ep, eC'', dC, rC⟩, fun h' hs' => ⟨_, H'', ?_, q''⟩⟩
  exact I''.unpinned.turned (t' := s''.toks) (it := C) (fun b o hb e => hs'.extBut b o hb e) hHC nL (.inr (Nat.le_trans I2.sz hC)) nCell nPin
end
/-! ### by plain functions -/
def filO (t : D → Option Bool) (f : D → Option D) : List D → Option (List D)
  | [] => some []
  | d :: ds => (t d).bind fun b => if b = true then (f d).bind fun e => (filO t f ds).bind fun es => some (e :: es) else filO t f ds
@[simp] theorem filO_nil {t : D → Option Bool} {f : D → Option D} : filO t f [] = some [] := rfl
def oCompI (fi : Dv → Option (List D)) (caps : List (Nat × Str)) (bv : D → Option (List D)) (ft : Dv → Option Bool) (fe : Dv → Option D) : Dv → Option D := fun δ => (fi δ).bind fun ds => if ds.length ≤ sizeLine then (filO (fun d => (bv d).bind fun vs => ft (vs.map .fz ++ capS δ caps)) (fun d => (bv d).bind fun vs => fe (vs.map .fz ++ capS δ caps)) ds).bind fun es => some (.list es) else none
theorem filO_snoc {t : D → Option Bool} {f : D → Option D} : ∀ {ds es : List D} {i : Nat} {d : D}, filO t f ds = some es → ds[i]? = some d → ∃ xs, filO t f (ds.take i) = some xs ∧ ∃ b, t d = some b ∧ (b = false → filO t f (ds.take (i + 1)) = some xs) ∧ (b = true → ∃ e, f d = some e ∧ filO t f (ds.take (i + 1)) = some (xs ++ [e]))
  | [], es, i, d, h, q => by simp at q
  | d :: ds, es, i, d', h, q => by
    obtain ⟨b, h1, h⟩ := bind_some h
    cases i with
    | zero =>
      simp at q; subst q
      refine ⟨[], rfl, b, h1, fun hb => ?_, fun hb => ?_⟩
      · subst hb; simp [filO, h1]
      · subst hb
        rw [if_pos rfl] at h
        obtain ⟨e, h2, h⟩ := bind_some h
        exact ⟨e, h2, by simp [filO, h1, h2]⟩
    | succ i =>
      simp at q
      cases b with
      | false =>
        rw [if_neg (by decide)] at h
        obtain ⟨xs, g1, b', g2, g3, g4⟩ := filO_snoc (i := i) h q
        refine ⟨xs, by simp [filO, h1, g1], b', g2, fun hb => by simpa [filO, h1] using g3 hb, fun hb => ?_⟩
        obtain ⟨e, k1, k2⟩ := g4 hb
        exact ⟨e, k1, by simpa [filO, h1] using k2⟩
      | true =>
        rw [if_pos rfl] at h
        obtain ⟨e0, h2, h⟩ := bind_some h
        obtain ⟨es', h3, h⟩ := bind_some h
        obtain ⟨xs, g1, b', g2, g3, g4⟩ := filO_snoc (i := i) h3 q
        refine ⟨e0 :: xs, by simp [filO, h1, h2, g1], b', g2, fun hb => by simp [filO, h1, h2, g3 hb], fun hb => ?_⟩
        obtain ⟨e, k1, k2⟩ := g4 hb
        exact ⟨e, k1, by simp [filO, h1, h2, k2]⟩
theorem filO_le {t : D → Option Bool} {f : D → Option D} : ∀ {ds es : List D}, filO t f ds = some es → es.length ≤ ds.length
  | [], es, h => by cases h; exact Nat.le_refl _
  | d :: ds, es, h => by
    obtain ⟨b, h1, h⟩ := bind_some h
    cases b with
    | false => rw [if_neg (by decide)] at h; exact Nat.le_succ_of_le (filO_le h)
    | true =>
      rw [if_pos rfl] at h
      obtain ⟨e0, h2, h⟩ := bind_some h
      obtain ⟨es', h3, h⟩ := bind_some h
      cases h
      exact Nat.succ_le_succ (filO_le h3)
section
variable {X : Cx} {scope : Scope} {vars : List Str} {caps : List (Nat × Str)} {elt tg iter cnd : Expr} {pos : Pos} {g : TG} {fi : Dv → Option (List D)} {ft : Dv → Option Bool} {fe : Dv → Option D} {bv : D → Option (List D)}
theorem comp_readI (tk : TgOk X.K g vars.length bv) {σ : St} {H : Hp} {Q : VK} (h : tV X.K (oCompI fi caps bv ft fe) σ H Q) : tCompI (tVI X.K fi) g (tVT X.K ft) (tV X.K fe) vars caps σ H Q := by
  obtain ⟨H₀, Z₀, Z, δ, d, hh, e, k⟩ := h
  obtain ⟨ds, e1, e⟩ := bind_some e
  by_cases hz : ds.length ≤ sizeLine
  · rw [if_pos hz] at e
    obtain ⟨es, e2, e⟩ := bind_some e
    cases e
    have hv : vars.map (fun _ => (none : Option V)) = List.replicate vars.length none := by rw [List.map_const']
    refine ⟨H₀, Z₀, Z, δ, ds, hh, e1, fun J Z1 H1 hh1 t1 ok => ?_⟩
    refine ⟨fun i m ys H => m = ds.length - i ∧ i ≤ ds.length ∧ ∃ Zc xs, Hold X.K H₀ Z₀ Zc δ σ H ∧ Same Z1 Zc ∧ filO (fun d => (bv d).bind fun vs => ft (vs.map .fz ++ capS δ caps)) (fun d => (bv d).bind fun vs => fe (vs.map .fz ++ capS δ caps)) (ds.take i) = some xs ∧ Reps X.K Zc ys xs, ⟨ds.length, by simp, Nat.zero_le _, Z1, [], hh1, Same.refl _, rfl, .nil⟩, ?_⟩
    rintro i m ys H2 ⟨rfl, hi2, Zc, xs, hhc, tc, fx, rc⟩
    have zh : Same Z1 H2 := tc.trans hhc.zh
    have ly := rc.length
    have lx := filO_le fx
    rw [List.length_take] at lx
    by_cases hlt : i < ds.length
    · refine .inr ⟨ok.go i H2 zh hlt, by omega, fun x H3 y => ?_⟩
      have ed : ds[i]? = some ds[i] := by simp [hlt]
      obtain ⟨rfl, rx⟩ := ok.yld i H2 x H3 _ zh ed y
      obtain ⟨xs', f0, b, fb, ff, ftr⟩ := filO_snoc e2 ed
      rw [fx] at f0
      cases f0
      obtain ⟨vs, f3, f1⟩ := bind_some fb
      rw [hv]
      refine tk x Zc ds[i] vs (capV σ caps) H3 _ (rx.same tc) hhc.zh f3 fun us ru hn => ⟨⟨by simp [hn], fun j v q => ?_⟩, ?_⟩
      · by_cases hj : j < vars.length
        · rw [List.getElem?_append_left (by simpa using hj), List.getElem?_replicate] at q
          split at q <;> cases q
        · rw [List.getElem?_append_right (by simpa using hj)] at q
          rw [List.getElem?_append_right (by simpa [hn] using hj)]
          simpa [hn] using q
      · refine ⟨H3, Zc, Zc, _, b, blk_hold hhc ru, f1, fun Z3 H3' h3 t3 => ?_⟩
        have hh3 := hhc.new ⟨t3, h3.h0, h3.zh, h3.zb⟩
        cases b with
        | false =>
          dsimp only
          rw [if_neg (by decide)]
          exact ⟨ds.length - (i + 1), by omega, rfl, hlt, Z3, xs, hh3, tc.trans t3, ff rfl, rc.same t3⟩
        | true =>
          dsimp only
          rw [if_pos rfl]
          obtain ⟨ei, f2, f4⟩ := ftr rfl
          rw [f3] at f2
          refine ⟨H3, Zc, Z3, _, ei, h3, f2, fun v Z4 H4 h4 t4 r4 => ⟨ds.length - (i + 1), by omega, rfl, hlt, Z4, xs ++ [ei], ?_, (tc.trans t3).trans t4, f4, ((rc.same t3).same t4).append (.cons r4 .nil)⟩⟩
          exact hhc.new ⟨t3.trans t4, h4.h0, h4.zh, h4.zb⟩
    · have hie : i = ds.length := by omega
      subst hie
      refine .inl ⟨ok.stop _ H2 zh (Nat.le_refl _), by omega, fun p hp => ?_⟩
      rw [List.take_length, e2] at fx
      cases fx
      have n := New.add hhc.zh hp (.lst ys)
      exact k _ _ _ (hhc.new n) ((t1.trans tc).trans n.z) (.lst (SqL.of upd_same) (rc.same n.z))
  · rw [if_neg hz] at e; cases e
theorem ev_compI (B : BlkOk X.env.scope.names X.N scope vars caps) (hc : X.calm = true) (hi : IV X tg iter fi) (tk : TgOk X.K g vars.length bv)
    (hg : ∀ C s₀ H₀ ex, PG (blk X scope (vars ++ caps.map (·.2)) C s₀ H₀ ex) tg g) (hb : ∀ C s₀ H₀ ex, TV (blk X scope (vars ++ caps.map (·.2)) C s₀ H₀ ex) cnd ft) (he : ∀ C s₀ H₀ ex, EV (blk X scope (vars ++ caps.map (·.2)) C s₀ H₀ ex) elt fe) (hs : ∀ x, foldedSetIterable iter X.env x = pure x := by intro _; rfl) :
    EV X (.ListComp elt [⟨tg, iter, [cnd], 0⟩] scope pos) (oCompI fi caps bv ft fe) :=
  PE.imp (pe_compI (tt := tVT X.K ft) (te := tV X.K fe) B hc hi hg hb he hs) fun _ _ _ h => comp_readI tk h
theorem sv_compI (i : Nat) {y : Str} {py spos : Pos} (hN : X.N.Nodup) (B : BlkOk X.env.scope.names X.N scope vars caps) (hc : X.calm = true) (hi : IV X tg iter fi) (tk : TgOk X.K g vars.length bv)
    (hg : ∀ C s₀ H₀ ex, PG (blk X scope (vars ++ caps.map (·.2)) C s₀ H₀ ex) tg g) (hb : ∀ C s₀ H₀ ex, TV (blk X scope (vars ++ caps.map (·.2)) C s₀ H₀ ex) cnd ft) (he : ∀ C s₀ H₀ ex, EV (blk X scope (vars ++ caps.map (·.2)) C s₀ H₀ ex) elt fe)
    (hy : X.N[i]? = some y := by rfl) (hx : Loc X.env.scope y := by first | exact Or.inl rfl | exact Or.inr rfl) (hsw : swapsWith (.ListComp elt [⟨tg, iter, [cnd], 0⟩] scope pos) (some (.Name y py)) spos.line X.env = pure true := by rfl)
    (hf : X.fn y = true ∨ X.env.scope.names.lookup y = some .local := by first | exact .inl rfl | exact .inr rfl | assumption) (hs : ∀ x, foldedSetIterable iter X.env x = pure x := by intro _; rfl) :
    SV X (.Assign [.Name y py] (.ListComp elt [⟨tg, iter, [cnd], 0⟩] scope pos) spos) (sSet i (oCompI fi caps bv ft fe)) :=
  PS.imp (ps_compI (tt := tVT X.K ft) (te := tV X.K fe) B hc hi hg hb he hN hy hx hsw hf hs) fun D σ H h => by
    obtain ⟨H₀, Z₀, Z, δ, r, hh, e, k⟩ := h
    obtain ⟨x, e1, e⟩ := bind_some e
    cases e
    exact comp_readI tk ⟨H₀, Z₀, Z, δ, x, hh, e1, fun v Z1 H1 hh1 s1 r1 => k _ H1 Z1 (hh1.set r1) s1⟩
end
end VL

set_option Elab.async false
set_option linter.all false
set_option maxRecDepth 100000
set_option maxHeartbeats 4000000
namespace VL
open PySem PySem.Spec PyProof.Rows L2
/-! ### a op b op c -/
section
variable {X : Cx} {a b c : Expr} {pos : Pos} {f1 f2 f3 : Dv → Option D}
end
/-! ### in, not in: flat items -/
def flD : D → Bool
  | .none => true
  | .bool _ => true
  | .int _ => true
  | .str _ => true
  | _ => false
def inL (x : D) (ds : List D) : Bool := ds.any fun y => PyData.eqv y x
def inD (neg : Bool) : D → D → Option D := fun a b => (itsD b).bind fun ds => if flD a = true ∧ ds.all flD = true then some (.bool (if neg = true then !inL a ds else inL a ds)) else none
theorem Rep.flat {K : Fg} {Z : Hp} {v : V} {d : D} (r : Rep K Z v d) : flatV v = flD d := by cases r <;> rfl
theorem Rep.eqF {K : Fg} {Z : Hp} {v u : V} {d e : D} (r : Rep K Z v d) (q : Rep K Z u e) (h1 : flD d = true) (h2 : flD e = true) : eqV v u = PyData.eqv d e := by
  cases r <;> first | (cases q <;> first | rfl | cases h2) | cases h1
theorem Reps.allF {K : Fg} {Z : Hp} : ∀ {vs : List V} {ds : List D}, Reps K Z vs ds → vs.all flatV = ds.all flD
  | _, _, .nil => rfl
  | _, _, .cons r t => by rw [List.all_cons, List.all_cons, r.flat, t.allF]
theorem Reps.inF {K : Fg} {Z : Hp} {x : V} {a : D} (q : Rep K Z x a) (h : flD a = true) : ∀ {vs : List V} {ds : List D}, Reps K Z vs ds → ds.all flD = true → inV x vs = inL a ds
  | _, _, .nil, _ => rfl
  | _, _, .cons r t, f => by
    rw [List.all_cons, Bool.and_eq_true] at f
    show (eqV _ x || inV x _) = (PyData.eqv _ a || inL a _)
    rw [r.eqF q f.1 h, t.inF q h f.2]
theorem in_read {K : Fg} {neg : Bool} {x y : V} {H : Hp} {Q : VK} (h : rD K (inD neg) x y H Q) : rIn K neg x y H Q := by
  obtain ⟨Z, a, b, d, zh, ra, rb, e, k⟩ := h
  obtain ⟨ds, e1, e⟩ := bind_some e
  by_cases c : flD a = true ∧ ds.all flD = true
  · rw [if_pos c] at e
    cases e
    have go : ∀ (xs : List V), Reps K Z xs ds → (∃ p, y = .ref p ∧ (SqL K H p xs ∨ SqT K H p xs)) → rIn K neg x y H Q := fun xs r ⟨p, ey, hq⟩ => by
      refine ⟨p, xs, ey, hq, by rw [ra.flat]; exact c.1, by rw [r.allF]; exact c.2, ?_⟩
      have := r.inF ra c.1 c.2
      rw [this]
      exact k _ Z H (New.refl zh) (.bl _)
    cases rb with
    | lst h q => cases e1; exact go _ q ⟨_, rfl, .inl (SqL.same h zh)⟩
    | tup h q => cases e1; exact go _ q ⟨_, rfl, .inr (SqT.same h zh)⟩
    | _ => cases e1
  · rw [if_neg c] at e; cases e
theorem d_in {X : Cx} : OpR X (compareOp .In) (rD X.K (inD false)) := OpR.imp op_in_seq fun _ _ _ _ h => in_read h
/-! ### targets that are tuples -/
def gT : List (D → Dv → Option Dv) → List D → Dv → Option Dv
  | [], [], δ => some δ
  | g :: gs, d :: ds, δ => (g d δ).bind fun δ1 => gT gs ds δ1
  | _, _, _ => none
def gTu (gs : List (D → Dv → Option Dv)) : D → Dv → Option Dv
  | .tuple ds, δ => gT gs ds δ
  | _, _ => none
@[simp] theorem gT_nil (δ : Dv) : gT [] [] δ = some δ := rfl
@[simp] theorem gT_cons (g : D → Dv → Option Dv) (gs : List (D → Dv → Option Dv)) (d : D) (ds : List D) (δ : Dv) : gT (g :: gs) (d :: ds) δ = (g d δ).bind fun δ1 => gT gs ds δ1 := rfl
@[simp] theorem gTu_tup (gs : List (D → Dv → Option Dv)) (ds : List D) (δ : Dv) : gTu gs (.tuple ds) δ = gT gs ds δ := rfl
section
variable {X : Cx} {pos : Pos} {e : Expr} {es : List Expr} {g : D → Dv → Option Dv} {gs : List (D → Dv → Option Dv)}
theorem PGs.imp {t t' : TGs} (h : PGs X es t) (i : ∀ v σ H Q, t' v σ H Q → t v σ H Q) : PGs X es t' := fun pins s σ H x v Q I r q => h pins s σ H x v Q I r (i _ _ _ _ q)
end
/-! ### a block's target that is a tuple of names -/
/-! ### while -/
theorem loop_step {g : D → Dv → Option Dv} {b : Sf} {d : D} {ds : List D} {δ δ1 δ2 : Dv} (h1 : g d δ = some δ1) (h2 : b δ1 = some (.nx, δ2)) : loop g b (d :: ds) δ = loop g b ds δ2 := by
  show ((g d δ).bind fun δ1 => _) = _
  rw [h1, Option.bind_some, h2]; rfl
/-! ### a def that calls itself -/
end VL

set_option Elab.async false
set_option linter.all false
set_option maxRecDepth 100000
set_option maxHeartbeats 4000000
namespace VL
open PySem PySem.Spec PyProof.Rows L2
/-! ### an expression whose value is a list of one's own -/
def tO (K : Fg) (f : Dv → Option (List D)) : TE := fun σ H Q => ∃ H₀ Z₀ Z δ ds, Hold K H₀ Z₀ Z δ σ H ∧ f δ = some ds ∧ ∀ p vs Z' H', Hold K H₀ Z₀ Z' δ σ H' → Same Z Z' → H' p = none → Reps K Z' vs ds → Q (.ref p) (upd H' p (.lst vs))
def EO (X : Cx) (e : Expr) (f : Dv → Option (List D)) : Prop := PE X e (tO X.K f)
/-- the items of a list -/
def oLi (f : Dv → Option D) : Dv → Option (List D) := fun δ => (f δ).bind lstI
@[simp] def sOwnE (i : Nat) (f : Dv → Option (List D)) : Sf := fun δ => (f δ).bind fun ds => some (.nx, δ.set i (.ow ds))
section
variable {X : Cx} {e : Expr} {es : List Expr} {p pos : Pos} {f : Dv → Option (List D)} {fs : Dv → Option (List D)}
theorem own_read {K : Fg} {D : Ends} {i : Nat} {σ : St} {H : Hp} (h : tVS K (sOwnE i f) D σ H) : tO K f σ H fun v H1 => D.nx (σ.set i (some v)) H1 := by
  obtain ⟨H₀, Z₀, Z, δ, r, hh, e, k⟩ := h
  obtain ⟨ds, e1, e⟩ := bind_some e
  cases e
  exact ⟨H₀, Z₀, Z, δ, ds, hh, e1, fun p vs Z1 H1 hh1 t1 hp r1 => k _ _ Z1 (hh1.setO hp r1) t1⟩
theorem sv_ownE (i : Nat) {x : Str} {pos' : Pos} (hN : X.N.Nodup) (ha : EO X e f) (hi : X.N[i]? = some x := by rfl) (hx : Loc X.env.scope x := by first | exact Or.inl rfl | exact Or.inr rfl) (hs : swapsWith e (some (.Name x pos')) pos.line X.env = pure false := by rfl)
    (hf : X.fn x = true ∨ X.env.scope.names.lookup x = some .local := by first | exact .inl rfl | exact .inr rfl | assumption) : SV X (.Assign [.Name x pos'] e pos) (sOwnE i f) :=
  PS.imp (ps_set hN hi hx ha hs hf) fun D σ H h => own_read h
end
section
variable {X : Cx} {scope : Scope} {vars : List Str} {caps : List (Nat × Str)} {elt tg iter cnd : Expr} {pos : Pos} {g : TG} {fi : Dv → Option (List D)} {ft : Dv → Option Bool} {fe : Dv → Option D} {bv : D → Option (List D)}
theorem comp_readIO (tk : TgOk X.K g vars.length bv) {σ : St} {H : Hp} {Q : VK} (h : tO X.K (oLi (oCompI fi caps bv ft fe)) σ H Q) : tCompI (tVI X.K fi) g (tVT X.K ft) (tV X.K fe) vars caps σ H Q := by
  obtain ⟨H₀, Z₀, Z, δ, d0, hh, e0, k⟩ := h
  obtain ⟨d, e, e0⟩ := bind_some e0
  obtain ⟨ds, e1, e⟩ := bind_some e
  by_cases hz : ds.length ≤ sizeLine
  · rw [if_pos hz] at e
    obtain ⟨es, e2, e⟩ := bind_some e
    cases e
    obtain rfl : es = d0 := Option.some.inj e0
    have hv : vars.map (fun _ => (none : Option V)) = List.replicate vars.length none := by rw [List.map_const']
    refine ⟨H₀, Z₀, Z, δ, ds, hh, e1, fun J Z1 H1 hh1 t1 ok => ?_⟩
    refine ⟨fun i m ys H => m = ds.length - i ∧ i ≤ ds.length ∧ ∃ Zc xs, Hold X.K H₀ Z₀ Zc δ σ H ∧ Same Z1 Zc ∧ filO (fun d => (bv d).bind fun vs => ft (vs.map .fz ++ capS δ caps)) (fun d => (bv d).bind fun vs => fe (vs.map .fz ++ capS δ caps)) (ds.take i) = some xs ∧ Reps X.K Zc ys xs, ⟨ds.length, by simp, Nat.zero_le _, Z1, [], hh1, Same.refl _, rfl, .nil⟩, ?_⟩
    rintro i m ys H2 ⟨rfl, hi2, Zc, xs, hhc, tc, fx, rc⟩
    have zh : Same Z1 H2 := tc.trans hhc.zh
    have ly := rc.length
    have lx := filO_le fx
    rw [List.length_take] at lx
    by_cases hlt : i < ds.length
    · refine .inr ⟨ok.go i H2 zh hlt, by omega, fun x H3 y => ?_⟩
      have ed : ds[i]? = some ds[i] := by simp [hlt]
      obtain ⟨rfl, rx⟩ := ok.yld i H2 x H3 _ zh ed y
      obtain ⟨xs', f0, b, fb, ff, ftr⟩ := filO_snoc e2 ed
      rw [fx] at f0
      cases f0
      obtain ⟨vs, f3, f1⟩ := bind_some fb
      rw [hv]
      refine tk x Zc ds[i] vs (capV σ caps) H3 _ (rx.same tc) hhc.zh f3 fun us ru hn => ⟨⟨by simp [hn], fun j v q => ?_⟩, ?_⟩
      · by_cases hj : j < vars.length
        · rw [List.getElem?_append_left (by simpa using hj), List.getElem?_replicate] at q
          split at q <;> cases q
        · rw [List.getElem?_append_right (by simpa using hj)] at q
          rw [List.getElem?_append_right (by simpa [hn] using hj)]
          simpa [hn] using q
      · refine ⟨H3, Zc, Zc, _, b, blk_hold hhc ru, f1, fun Z3 H3' h3 t3 => ?_⟩
        have hh3 := hhc.new ⟨t3, h3.h0, h3.zh, h3.zb⟩
        cases b with
        | false =>
          dsimp only
          rw [if_neg (by decide)]
          exact ⟨ds.length - (i + 1), by omega, rfl, hlt, Z3, xs, hh3, tc.trans t3, ff rfl, rc.same t3⟩
        | true =>
          dsimp only
          rw [if_pos rfl]
          obtain ⟨ei, f2, f4⟩ := ftr rfl
          rw [f3] at f2
          refine ⟨H3, Zc, Z3, _, ei, h3, f2, fun v Z4 H4 h4 t4 r4 => ⟨ds.length - (i + 1), by omega, rfl, hlt, Z4, xs ++ [ei], ?_, (tc.trans t3).trans t4, f4, ((rc.same t3).same t4).append (.cons r4 .nil)⟩⟩
          exact hhc.new ⟨t3.trans t4, h4.h0, h4.zh, h4.zb⟩
    · have hie : i = ds.length := by omega
      subst hie
      refine .inl ⟨ok.stop _ H2 zh (Nat.le_refl _), by omega, fun p hp => ?_⟩
      rw [List.take_length, e2] at fx
      cases fx
      exact k p ys Zc _ hhc (t1.trans tc) hp rc
  · rw [if_neg hz] at e; cases e
theorem sv_compIO (i : Nat) {y : Str} {py spos : Pos} (hN : X.N.Nodup) (B : BlkOk X.env.scope.names X.N scope vars caps) (hc : X.calm = true) (hi : IV X tg iter fi) (tk : TgOk X.K g vars.length bv)
    (hg : ∀ C s₀ H₀ ex, PG (blk X scope (vars ++ caps.map (·.2)) C s₀ H₀ ex) tg g) (hb : ∀ C s₀ H₀ ex, TV (blk X scope (vars ++ caps.map (·.2)) C s₀ H₀ ex) cnd ft) (he : ∀ C s₀ H₀ ex, EV (blk X scope (vars ++ caps.map (·.2)) C s₀ H₀ ex) elt fe)
    (hy : X.N[i]? = some y := by rfl) (hx : Loc X.env.scope y := by first | exact Or.inl rfl | exact Or.inr rfl) (hsw : swapsWith (.ListComp elt [⟨tg, iter, [cnd], 0⟩] scope pos) (some (.Name y py)) spos.line X.env = pure true := by rfl)
    (hf : X.fn y = true ∨ X.env.scope.names.lookup y = some .local := by first | exact .inl rfl | exact .inr rfl | assumption) (hs : ∀ x, foldedSetIterable iter X.env x = pure x := by intro _; rfl) :
    SV X (.Assign [.Name y py] (.ListComp elt [⟨tg, iter, [cnd], 0⟩] scope pos) spos) (sOwnE i (oLi (oCompI fi caps bv ft fe))) :=
  PS.imp (ps_compI (tt := tVT X.K ft) (te := tV X.K fe) B hc hi hg hb he hN hy hx hsw hf hs) fun D σ H h => comp_readIO tk (own_read h)
end
/-! ### evaluation without the dead ways -/
def seqK (t : Sf) : Fl × Dv → Option (Fl × Dv)
  | (.nx, δ) => t δ
  | r => some r
@[simp] theorem seqK_nx (t : Sf) (δ : Dv) : seqK t (.nx, δ) = t δ := rfl
@[simp] theorem seqK_rt (t : Sf) (d : D) (δ : Dv) : seqK t (.rt d, δ) = some (.rt d, δ) := rfl
@[simp] theorem seqK_bk (t : Sf) (δ : Dv) : seqK t (.bk, δ) = some (.bk, δ) := rfl
@[simp] theorem seqK_ct (t : Sf) (δ : Dv) : seqK t (.ct, δ) = some (.ct, δ) := rfl
def ifK (u w : Sf) (δ : Dv) : Bool → Option (Fl × Dv)
  | true => u δ
  | false => w δ
@[simp] theorem ifK_t (u w : Sf) (δ : Dv) : ifK u w δ true = u δ := rfl
@[simp] theorem ifK_f (u w : Sf) (δ : Dv) : ifK u w δ false = w δ := rfl
end VL

set_option Elab.async false
set_option linter.all false
set_option maxRecDepth 100000
set_option maxHeartbeats 4000000
namespace VL
open PySem PySem.Spec PyProof.Rows L2
/-! ### all, any, sum of a list; reversed; raise; extend -/
def blsD : List D → Option (List Bool)
  | [] => some []
  | .bool b :: r => (blsD r).map (b :: ·)
  | _ => none
def allD : List D → Option D
  | [.list xs] => (blsD xs).map fun bs => .bool (bs.all id)
  | _ => none
def anyD : List D → Option D
  | [.list xs] => (blsD xs).map fun bs => .bool (bs.any id)
  | _ => none
def intsD : List D → Option (List Int)
  | [] => some []
  | .int b :: r => (intsD r).map (b :: ·)
  | _ => none
def sumD : List D → Option D
  | [.list xs] => (intsD xs).map fun bs => .int bs.sum
  | _ => none
theorem blsD_map {α : Type} (f : α → Bool) : ∀ xs : List α, blsD (xs.map fun a => .bool (f a)) = some (xs.map f)
  | [] => rfl
  | a :: r => by simp [blsD, blsD_map f r]
theorem allD_map {α : Type} (f : α → Bool) (xs : List α) : allD [.list (xs.map fun a => .bool (f a))] = some (.bool (xs.all f)) := by
  simp [allD, blsD_map, List.all_map]
theorem anyD_map {α : Type} (f : α → Bool) (xs : List α) : anyD [.list (xs.map fun a => .bool (f a))] = some (.bool (xs.any f)) := by
  simp [anyD, blsD_map, List.any_map]
theorem intsD_map {α : Type} (f : α → Int) : ∀ xs : List α, intsD (xs.map fun a => .int (f a)) = some (xs.map f)
  | [] => rfl
  | a :: r => by simp [intsD, intsD_map f r]
theorem sumD_map {α : Type} (f : α → Int) (xs : List α) : sumD [.list (xs.map fun a => .int (f a))] = some (.int (xs.map f).sum) := by
  simp [sumD, intsD_map]
/-- list(reversed(x)) -/
def revLD : D → Option D
  | .list xs => some (.list xs.reverse)
  | _ => none
@[simp] theorem revLD_list (xs : List D) : revLD (.list xs) = some (.list xs.reverse) := rfl
/-- for .. in reversed(x) -/
def revI : D → Option (List D)
  | .list xs => some xs.reverse
  | .tuple xs => some xs.reverse
  | _ => none
@[simp] theorem revI_list (xs : List D) : revI (.list xs) = some xs.reverse := rfl
@[simp] theorem revI_tuple (xs : List D) : revI (.tuple xs) = some xs.reverse := rfl
@[simp] def sNo : Sf := fun _ => none
/-- x.extend(v) -/
@[simp] def sExt (i : Nat) (f : Dv → Option D) : Sf := fun δ => (f δ).bind fun v => (itsD v).bind fun es => (slO δ[i]?).bind fun ds => if ds.length + es.length ≤ sizeLine then some (.nx, δ.set i (.ow (ds ++ es))) else none

section
variable {X : Cx} {e : Expr} {es : List Expr} {p pos tpos apos : Pos} {f : Dv → Option D} {st : Stmt}
theorem bls_get {K : Fg} {Z : Hp} : ∀ {xs : List V} {ds : List D} {bs : List Bool} {its : List Value}, Reps K Z xs ds → Vals xs its → blsD ds = some bs → its.length = bs.length ∧ ∀ (i : Nat) (v : Value), its[i]? = some v → ∃ b, bs[i]? = some b ∧ v = .bool b
  | _, _, bs, _, .nil, .nil, h => by cases h; exact ⟨rfl, fun i v q => by simp at q⟩
  | _, _, bs, _, .cons r t, .cons q u, h => by
    cases r with
    | bl b =>
      unfold blsD at h
      cases g : blsD _ with
      | none => rw [g] at h; cases h
      | some cs =>
        rw [g] at h
        cases h
        obtain ⟨h1, h2⟩ := bls_get t u g
        refine ⟨by simp [h1], fun i v e => ?_⟩
        cases i with
        | zero => simp at e; subst e; exact ⟨b, rfl, q⟩
        | succ i => simp at e; simpa using h2 i v e
    | _ => cases h
theorem ints_get {K : Fg} {Z : Hp} : ∀ {xs : List V} {ds : List D} {bs : List Int} {its : List Value}, Reps K Z xs ds → Vals xs its → intsD ds = some bs → IntsAre its bs
  | _, _, bs, _, .nil, .nil, h => by cases h; exact .nil
  | _, _, bs, _, .cons r t, .cons q u, h => by
    cases r with
    | int b =>
      unfold intsD at h
      cases g : intsD _ with
      | none => rw [g] at h; cases h
      | some cs =>
        rw [g] at h
        cases h
        obtain ⟨tk, rfl⟩ := q
        exact .cons _ _ (ints_get t u g)
    | _ => cases h
theorem c_all (hc : X.calm = true) : CallR X (.builtin "all") (rDs X.K allD) := by
  intro pins s σ H xs us Q I rs q
  obtain ⟨Z, as, d, zh, ra, e, k⟩ := q
  cases ra with
  | nil => cases e
  | cons r1 r2 =>
    cases r2 with
    | cons _ _ => cases r1 <;> cases e
    | nil =>
      cases r1 with
      | @lst l ys ds h1 q1 =>
        have e : (blsD ds).map (fun bs => PyData.bool (bs.all id)) = some d := e
        cases g : blsD ds with
        | none => rw [g] at e; cases e
        | some bs =>
          rw [g] at e
          cases e
          obtain ⟨u, rfl, ru⟩ := vals1 rs
          cases ru
          obtain ⟨its, rv, pl, hz⟩ := I.list (SqL.same h1 zh)
          obtain ⟨hlen, hget⟩ := bls_get q1 rv g
          have hl := pl.isList
          have hlt : l < s.heap.objs.size := by obtain ⟨_, e, _⟩ := hl; exact Heap.lt_size e
          refine call_all_walk (wpAny_pyIter_list hl ?_)
          refine ⟨s.heap.objs.size, [s.heap.objs.size, l], [s.heap.objs.size], its.toArray.size, _, _, fun i => (bs[i]?).getD true, rfl, Walks.list (A := X.A.in1) (I.ok.hd hc) _ l (Nat.ne_of_lt hlt) its.toArray,
            ⟨⟨_, Heap.get?_push_size _ rfl, rfl, rfl⟩, hl.push _⟩, fun i v s' Q' E' hP hQ => ?_, fun h' tk hk => ?_⟩
          · obtain ⟨b, e, rfl⟩ := hget i v (by simpa using hP)
            simp only [e, Option.getD_some] at hQ
            exact wpAny_truthy_bool hQ
          · have e : ((List.range its.toArray.size).all fun i => (bs[i]?).getD true) = bs.all id := by
              rw [List.size_toArray, hlen]; exact LSm.range_all bs
            rw [e]
            exact ⟨.bl _, H, I.kept (t' := tk) (LSm.kept_iter hk), rfl, k _ Z H (New.refl zh) (.bl _)⟩
      | _ => cases e
theorem c_any (hc : X.calm = true) : CallR X (.builtin "any") (rDs X.K anyD) := by
  intro pins s σ H xs us Q I rs q
  obtain ⟨Z, as, d, zh, ra, e, k⟩ := q
  cases ra with
  | nil => cases e
  | cons r1 r2 =>
    cases r2 with
    | cons _ _ => cases r1 <;> cases e
    | nil =>
      cases r1 with
      | @lst l ys ds h1 q1 =>
        have e : (blsD ds).map (fun bs => PyData.bool (bs.any id)) = some d := e
        cases g : blsD ds with
        | none => rw [g] at e; cases e
        | some bs =>
          rw [g] at e
          cases e
          obtain ⟨u, rfl, ru⟩ := vals1 rs
          cases ru
          obtain ⟨its, rv, pl, hz⟩ := I.list (SqL.same h1 zh)
          obtain ⟨hlen, hget⟩ := bls_get q1 rv g
          have hl := pl.isList
          have hlt : l < s.heap.objs.size := by obtain ⟨_, e, _⟩ := hl; exact Heap.lt_size e
          refine call_any_walk (wpAny_pyIter_list hl ?_)
          refine ⟨s.heap.objs.size, [s.heap.objs.size, l], [s.heap.objs.size], its.toArray.size, _, _, fun i => (bs[i]?).getD false, rfl, Walks.list (A := X.A.in1) (I.ok.hd hc) _ l (Nat.ne_of_lt hlt) its.toArray,
            ⟨⟨_, Heap.get?_push_size _ rfl, rfl, rfl⟩, hl.push _⟩, fun i v s' Q' E' hP hQ => ?_, fun h' tk hk => ?_⟩
          · obtain ⟨b, e, rfl⟩ := hget i v (by simpa using hP)
            simp only [e, Option.getD_some] at hQ
            exact wpAny_truthy_bool hQ
          · have e : ((List.range its.toArray.size).any fun i => (bs[i]?).getD false) = bs.any id := by
              rw [List.size_toArray, hlen]; exact LSm.range_any bs
            rw [e]
            exact ⟨.bl _, H, I.kept (t' := tk) (LSm.kept_iter hk), rfl, k _ Z H (New.refl zh) (.bl _)⟩
      | _ => cases e
theorem c_sum (hc : X.calm = true) : CallR X (.builtin "sum") (rDs X.K sumD) := by
  intro pins s σ H xs us Q I rs q
  obtain ⟨Z, as, d, zh, ra, e, k⟩ := q
  cases ra with
  | nil => cases e
  | cons r1 r2 =>
    cases r2 with
    | cons _ _ => cases r1 <;> cases e
    | nil =>
      cases r1 with
      | @lst l ys ds h1 q1 =>
        have e : (intsD ds).map (fun bs => PyData.int bs.sum) = some d := e
        cases g : intsD ds with
        | none => rw [g] at e; cases e
        | some bs =>
          rw [g] at e
          cases e
          obtain ⟨u, rfl, ru⟩ := vals1 rs
          cases ru
          obtain ⟨its, rv, pl, hz⟩ := I.list (SqL.same h1 zh)
          have hi := ints_get q1 rv g
          obtain ⟨zs, hx⟩ := hi.allInts.items
          have hl' : s.heap.IsList l (intItems zs) := hx ▸ pl.isList
          refine sum_intListG (I.ok.hd hc) hl' fun h' tk t' hk => ?_
          have e1 : bs = zs.toList.map (·.1) := by
            rw [← nums_intItems, ← hx]
            exact (show numsOf its.toArray.toList = bs from hi.numsOf).symm
          have e2 : preSum (numAt zs) zs.size = bs.sum := by
            rw [preSum_eq, List.take_of_length_le (by simp), e1]
          rw [e2]
          exact ⟨.int _, H, I.kept (t' := tk) hk, ⟨t', rfl⟩, k _ Z H (New.refl zh) (.int _)⟩
      | _ => cases e
theorem sv_no {st : Stmt} : SV X st sNo := fun pins s σ H D I h => by
  obtain ⟨_, _, _, _, _, _, e, _⟩ := h
  cases e
end
end VL

set_option Elab.async false
set_option linter.all false
set_option maxRecDepth 100000
set_option maxHeartbeats 4000000
namespace VL
open PySem PySem.Spec PyProof.Rows L2
/-! ### list(reversed(a list)) -/
section
variable {prog : Program} {w : World} {A : Around} {s : Shared} {R : Result → Shared → Prop}
variable {I : Addr} {fp wr : List Addr} {G : Array GenState → Array GenState → Prop} {n : Nat} {P : Nat → Value → Prop} {St : Nat → Shared → Prop}
end
section
variable {prog : Program} {w : World} {A : Around} {E : Value → Shared → Prop} {s : Shared}
variable {I : Addr} {fp wr : List Addr} {G : Array GenState → Array GenState → Prop} {n : Nat} {P : Nat → Value → Prop} {St : Nat → Shared → Prop}
end
section
variable {X : Cx} {e : Expr} {p p2 pos pos2 : Pos} {te : TE} {f : Dv → Option D}
end
end VL

set_option Elab.async false
set_option linter.all false
set_option maxRecDepth 100000
set_option maxHeartbeats 4000000
namespace VL
open PySem PySem.Spec PyProof.Rows L2
section
variable {prog : Program} {w : World} {A : Around} {E : Value → Shared → Prop} {s : Shared}
/-! the walk -/
def IsRv (h : Heap) (a l : Addr) (i : Int) : Prop := ∃ o, h.get? a = some o ∧ o.cls = .type "reversed" ∧ o.data = .fields #[.ref l, rawInt i]
theorem IsRv.typeIs {a l : Addr} {i : Int} (x : IsRv s.heap a l i) : s.TypeIs (.ref a) "reversed" := let ⟨o, ho, hc, _⟩ := x; ⟨o, ho, hc⟩
theorem IsRv.at {h h' : Heap} {a l : Addr} {i : Int} (x : IsRv h a l i) (e : ∀ o, h.get? a = some o → h'.get? a = some o) : IsRv h' a l i := let ⟨o, ho, r⟩ := x; ⟨o, e _ ho, r⟩
end
/-! ### for x in reversed(a tuple) -/
def revT : D → Option (List D)
  | .tuple xs => some xs.reverse
  | _ => none
@[simp] theorem revT_tuple (xs : List D) : revT (.tuple xs) = some xs.reverse := rfl
section
variable {X : Cx} {tg e : Expr} {p pos : Pos} {te : TE} {f : Dv → Option D}
end
end VL

set_option Elab.async false
set_option linter.all false
set_option maxRecDepth 100000
set_option maxHeartbeats 4000000
/-! Exceptions of the text's own classes: raised, passed on, caught, asked for their class. -/
namespace VL
open PySem PySem.Spec PyProof.Rows L2
/-! ### exceptions as plain data, and the functions of code that raises -/
def exD (n : Str) : D := .dict [(.str "exc", .str n)]
abbrev Xf := Dv → Option (Str × Dv)
@[simp] def xNo : Xf := fun _ => none
@[simp] def xRaise (n : Str) (f : Dv → Option D) : Xf := fun δ => (f δ).bind fun _ => some (n, δ)
@[simp] def xE (f : Dv → Option Str) : Xf := fun δ => (f δ).bind fun n => some (n, δ)
@[simp] def xIf (t : Dv → Option Bool) (u w : Xf) : Xf := fun δ => (t δ).bind fun c => if c = true then u δ else w δ
@[simp] def xSeq (s : Sf) (u : Xf) : Xf := fun δ => (s δ).bind fun r => match r with
  | (.nx, δ') => u δ'
  | _ => none
@[simp] def xBoth (u1 : Xf) (s : Sf) (u : Xf) : Xf := fun δ => match u1 δ with
  | some r => some r
  | none => xSeq s u δ
def runX (N : List Str) (m : Nat) (fx : Xf) : List D → Option Str := fun as => if as.length = m then (fx (startD N as)).bind fun r => some r.1 else none
@[simp] def osX (fs : Dv → Option (List D)) (g : List D → Option Str) : Dv → Option Str := fun δ => (fs δ).bind g
def sTry (i : Nat) (ns : List Str) (b : Sf) (bx : Xf) (bs : Sf) : Sf := fun δ => match bx δ with
  | some (n, δ') => if ns.contains n = true then (bs (δ'.set i (.fz (exD n)))).bind fun r => some (r.1, r.2.set i .un) else none
  | none => b δ
def isxL (t : List (Str × Bool)) (n : Str) : Option D := (t.lookup n).map .bool
def isxD (t : List (Str × Bool)) : D → Option D
  | .dict [(.str k, .str n)] => if k = "exc" then isxL t n else none
  | _ => none
theorem isxD_ex (t : List (Str × Bool)) (n : Str) : isxD t (exD n) = isxL t n := by simp [isxD, exD]
theorem objOk_there {P : Program} {w : World} {H : Hp} {h : Heap} {a : Addr} {o : HO} (x : ObjOk P w H h a o) : ∃ ob, h.get? a = some ob := by
  cases o with
  | lst xs => obtain ⟨_, _, _, _, e⟩ := x; exact ⟨_, e⟩
  | tup xs => obtain ⟨_, _, _, ob, e, _⟩ := x; exact ⟨_, e⟩
  | dK kvs => obtain ⟨_, _, _, _, o, _, _, e, _⟩ := x; exact ⟨_, e⟩
  | dT kvs => obtain ⟨_, _, _, _, o, _, _, e, _⟩ := x; exact ⟨_, e⟩
  | set S n => obtain ⟨o, _, _, _, e, _⟩ := x; exact ⟨_, e⟩
  | ins C dx fs => obtain ⟨_, _, _, e, _⟩ := x; exact ⟨_, e⟩
  | own y => exact x
  | xd fs => obtain ⟨_, ⟨_, _, _, e, _⟩, _⟩ := x; exact ⟨_, e⟩
  | rng lo hi => obtain ⟨_, _, _, e⟩ := x; exact ⟨_, e⟩
  | frz ob u => exact ⟨_, x.1⟩
  | tbl ps => exact ⟨_, x⟩
  | met f y => exact ⟨_, x⟩
  | ext φ => exact x.2.1
theorem exO_ok {P : Program} {w : World} {H : Hp} {h : Heap} {x C : Addr} {o : Obj} (e : h.get? x = some o) (c : o.cls = .ref C) : ObjOk P w H h x (exO x C) :=
  ⟨⟨o, e, c⟩, ⟨o, e⟩, fun h1 h2 ⟨o', e', c'⟩ k => ⟨o', k o' e', c'⟩⟩
/-- on its way out of a call: outer the frames that run -/
structure Thrown (P : Program) (w : World) (outer : List Env) (H : Hp) (s : Shared) (x C : Addr) (H' : Hp) (s' : Shared) : Prop where
  os : s'.os = s.os
  bare : AllBare s'.gens
  un : Un (frs outer) [] H H' s.heap s'.heap
  hok : HOk P w H' s'.heap
  sm : Same H H'
  is : H' x = some (exO x C)
  fly : ∃ B t, Heap.FlyingW B outer x (.ref C) t s'.heap ∧ (∀ b o, H' b = some o → b ≠ x → ∃ ob, B.get? b = some ob) ∧ (∀ b o, s.heap.get? b = some o → H b = none → b ∉ frs outer → B.get? b = some o)
def CXX (P : Program) (w : World) : CXT := fun outer H s E e s' => ∃ x C H', e = .ref x ∧ Thrown P w outer H s x C H' s' ∧ E (.ref C) (some x) H'
theorem hok_fly {P : Program} {w : World} {H2 : Hp} {B h2 h' : Heap} {l l' : List Env} {x C : Addr} {t t' : Value} (ok : HOk P w H2 h2) (is : H2 x = some (exO x C)) (k2 : B.StaysIn h2) (fl' : Heap.FlyingW B l' x (.ref C) t' h')
    (hB : ∀ b o, H2 b = some o → b ≠ x → ∃ ob, B.get? b = some ob) : HOk P w H2 h' := fun b o e => by
  by_cases hb : b = x
  · subst hb
    rw [is] at e; cases e
    obtain ⟨ob, h1, h2⟩ := fl'.there
    exact exO_ok h1 h2
  · refine (ok b o e).stay (fun c u hc q => ?_) (fun _ q => q) fun _ _ q => q
    have : ∃ ob, B.get? c = some ob := by
      rcases hc with rfl | hc
      · exact hB c o e hb
      · refine hB c _ hc fun z => ?_
        subst z; rw [is] at hc; cases hc
    obtain ⟨ob, hob⟩ := this
    have := k2 c ob hob
    rw [q] at this; cases this
    exact fl'.1 c _ hob
section
variable {P : Program} {w : World} {K : PySem.W.Frag} {mg : Str → Option Value} {base : Heap} {N : List Str} {qual : Str} {scope : Scope} {f : Addr} {cd : Value} {A : Around} {outer : List Env} {s : Shared} {H : Hp} {E : XK} {pins : List (Addr × Obj)} {σ : St} {H1 H2 : Hp} {s1 s2 : Shared} {x C : Addr}
/-- it leaves one frame more -/
theorem leave_on (I : Inv (cxOf (CXX P w) P w K mg base N qual scope f cd A outer s H E) pins σ H1 s1) (T : Thrown P w (cxOf (CXX P w) P w K mg base N qual scope f cd A outer s H E).stack H1 s1 x C H2 s2) (hE : E (.ref C) (some x) H2) (h0 : Same H H2) :
    (cxOf (CXX P w) P w K mg base N qual scope f cd A outer s H E).xe (.ref x) s2 := by
  obtain ⟨B, t, fl, hB1, hB2⟩ := T.fly
  have hfr := I.ok.frames
  have loc : ∀ b o, s.heap.get? b = some o → b ∉ frs outer → b ∉ frs (cxOf (CXX P w) P w K mg base N qual scope f cd A outer s H E).stack := fun b o q hb z => by
    rcases List.mem_cons.mp (I.stkSub b z) with e | e
    · exact absurd (Heap.lt_size q) (by rw [e]; exact Nat.not_lt.mpr I.ok.above)
    · exact hb e
  have keep : ∀ b o, s.heap.get? b = some o → H b = none → b ∉ frs outer → B.get? b = some o := fun b o q n hb =>
    hB2 b o (I.base.keep b o q n hb (fun z => nomatch z)) (I.base.free b o q n (fun z => nomatch z)) (loc b o q hb)
  refine wpAny_leaves_onW hfr rfl fl fun h' fl' sm => ?_
  have slot : ∀ b o, s.heap.get? b = some o → H b = none → b ∈ frs outer → ∃ sl, h'.get? b = some { o with slots := sl } := fun b o q n hb => by
    obtain ⟨sl, e1⟩ := I.base.slot b o q n hb (fun z => nomatch z)
    have hb' : b ∈ frs (cxOf (CXX P w) P w K mg base N qual scope f cd A outer s H E).stack := by
      show b ∈ List.filterMap _ (_ :: outer)
      exact List.mem_filterMap.mpr (by obtain ⟨env, he, hf⟩ := List.mem_filterMap.mp hb; exact ⟨env, List.mem_cons_of_mem _ he, hf⟩)
    obtain ⟨sl2, e2⟩ := T.un.slot b _ e1 (I.base.free b o q n (fun z => nomatch z)) hb' (fun z => nomatch z)
    obtain ⟨_, o', ho', hd⟩ := I.ok.funs.mem hb
    have ho2 : s.heap.get? b = some o' := ho'
    rw [q] at ho2; cases ho2
    obtain ⟨sl3, e3⟩ := sm b _ e2 hd
    exact ⟨sl3, e3⟩
  refine ⟨x, C, H2, rfl, ⟨T.os.trans I.os, T.bare, ⟨fun b o q n hb _ => fl'.1 b o (keep b o q n hb), fun b o q n hb _ => slot b o q n hb, fun b o q n _ => ?_, fun b o q _ => ?_, fun b xs e => T.un.tups b xs (I.base.tups b xs e), fun b o u e => T.un.frzs b o u (I.base.frzs b o u e), fun b ps e => ?_⟩, hok_fly (l := []) (t := t) T.hok T.is fl.1 fl' hB1, h0, T.is, ⟨B, t, fl', hB1, keep⟩⟩, hE⟩
  · obtain ⟨o1, e1⟩ := I.base.there b o q (fun z => nomatch z)
    exact T.un.free b o1 e1 (I.base.free b o q n (fun z => nomatch z)) (fun z => nomatch z)
  · cases q2 : H2 b with
    | some ho =>
      by_cases hb : b = x
      · subst hb; obtain ⟨ob, e1, _⟩ := fl'.there; exact ⟨ob, e1⟩
      · obtain ⟨ob, e1⟩ := hB1 b ho q2 hb; exact ⟨ob, fl'.1 b ob e1⟩
    | none =>
      have n : H b = none := by
        cases e : H b with
        | none => rfl
        | some z => rw [h0 b z e] at q2; cases q2
      by_cases hb : b ∈ frs outer
      · obtain ⟨sl, e⟩ := slot b o q n hb; exact ⟨_, e⟩
      · exact ⟨o, fl'.1 b o (keep b o q n hb)⟩
  · obtain ⟨m1, e1⟩ := I.base.tbls b ps e
    obtain ⟨m2, e2⟩ := T.un.tbls b _ e1
    exact ⟨m1 ++ m2, by rw [e2, Array.append_assoc]⟩
/-- it is made in this frame, and leaves it -/
theorem leave_made {vs : List Value} (I : Inv (cxOf (CXX P w) P w K mg base N qual scope f cd A outer s H E) pins σ H1 s1) (hs : s2 = { s1 with heap := s2.heap }) (hx : Heap.MadeExcOf s1.heap s2.heap x (.ref C) vs) (h0 : Same H H1) (hE : H1 x = none → E (.ref C) (some x) (upd H1 x (exO x C))) :
    (cxOf (CXX P w) P w K mg base N qual scope f cd A outer s H E).xe (.ref x) s2 := by
  have hfr := I.ok.frames
  have n1 : H1 x = none := by
    cases e : H1 x with
    | none => rfl
    | some o => obtain ⟨ob, h⟩ := objOk_there (I.hok x o e); rw [hx.new] at h; cases h
  have loc : ∀ b o, s.heap.get? b = some o → b ∉ frs outer → b ∉ frs (cxOf (CXX P w) P w K mg base N qual scope f cd A outer s H E).stack := fun b o q hb z => by
    rcases List.mem_cons.mp (I.stkSub b z) with e | e
    · exact absurd (Heap.lt_size q) (by rw [e]; exact Nat.not_lt.mpr I.ok.above)
    · exact hb e
  have hin : ∀ env ∈ (cxOf (CXX P w) P w K mg base N qual scope f cd A outer s H E).stack, ∀ b, env.frame = some b → b ∈ frs (cxOf (CXX P w) P w K mg base N qual scope f cd A outer s H E).stack := fun env he b hb => List.mem_filterMap.mpr ⟨env, he, hb⟩
  have keep : ∀ b o, s.heap.get? b = some o → H b = none → b ∉ frs outer → (PySem.W.hideAll s1.heap (frs (cxOf (CXX P w) P w K mg base N qual scope f cd A outer s H E).stack)).get? b = some o := fun b o q n hb =>
    PySem.W.hideAll_get _ (I.base.keep b o q n hb (fun z => nomatch z)) (loc b o q hb)
  have trk : ∀ b o, H1 b = some o → ∃ ob, (PySem.W.hideAll s1.heap (frs (cxOf (CXX P w) P w K mg base N qual scope f cd A outer s H E).stack)).get? b = some ob := fun b o e => by
    obtain ⟨ob, h⟩ := objOk_there (I.hok b o e)
    refine ⟨ob, PySem.W.hideAll_get _ h fun z => ?_⟩
    rw [I.stkFree b z] at e; cases e
  refine wpAny_leaves_madeW hfr rfl (fun b o q => PySem.W.of_hideAll _ q) (PySem.W.funFrames_hide I.stack hin) hx fun h' t fl _ _ sm => ?_
  have slot : ∀ b o, s.heap.get? b = some o → H b = none → b ∈ frs outer → ∃ sl, h'.get? b = some { o with slots := sl } := fun b o q n hb => by
    obtain ⟨sl, e1⟩ := I.base.slot b o q n hb (fun z => nomatch z)
    obtain ⟨_, o', ho', hd⟩ := I.ok.funs.mem hb
    have ho2 : s.heap.get? b = some o' := ho'
    rw [q] at ho2; cases ho2
    obtain ⟨sl3, e3⟩ := sm b _ (hx.keeps b _ e1) hd
    exact ⟨sl3, e3⟩
  have ne : ∀ b o, s1.heap.get? b = some o → b ≠ x := fun b o q z => by subst z; rw [hx.new] at q; cases q
  have os2 : s2.os = s1.os := by rw [hs]
  have g2 : s2.gens = s1.gens := by rw [hs]
  have hok2 : HOk P w (upd H1 x (exO x C)) h' := fun b o e => by
    by_cases hb : b = x
    · subst hb; rw [upd_same] at e; cases e; obtain ⟨ob, q1, q2⟩ := fl.there; exact exO_ok q1 q2
    · rw [upd_ne hb] at e
      refine (I.hok b o e).stay (fun c u hc q => ?_) (fun c q => ?_) fun c xs q => ?_
      · have : ∃ ho, H1 c = some ho := by rcases hc with rfl | hc; exact ⟨_, e⟩; exact ⟨_, hc⟩
        obtain ⟨ho, hc⟩ := this
        obtain ⟨ob, hob⟩ := trk c ho hc
        have := PySem.W.of_hideAll _ hob
        rw [q] at this; cases this
        exact fl.1 c _ hob
      · rw [upd_ne (ne_of_none q n1)]; exact q
      · rw [upd_ne (ne_of_none q n1)]; exact q
  refine ⟨x, C, upd H1 x (exO x C), rfl, ⟨os2.trans I.os, by rw [show ({ s2 with heap := h' } : Shared).gens = s1.gens from g2]; exact I.bare, ⟨fun b o q n hb _ => fl.1 b o (keep b o q n hb), fun b o q n hb _ => slot b o q n hb, fun b o q n _ => ?_, fun b o q _ => ?_, fun b xs e => ?_, fun b o u e => ?_, fun b ps e => ?_⟩, hok2, h0.trans (same_upd n1), upd_same, ⟨_, _, fl, fun b o e hb => ?_, keep⟩⟩, hE n1⟩
  · obtain ⟨o1, e1⟩ := I.base.there b o q (fun z => nomatch z)
    rw [upd_ne (ne b o1 e1)]
    exact I.base.free b o q n (fun z => nomatch z)
  · obtain ⟨o1, e1⟩ := I.base.there b o q (fun z => nomatch z)
    cases q2 : H1 b with
    | some ho => obtain ⟨ob, e⟩ := trk b ho q2; exact ⟨ob, fl.1 b ob e⟩
    | none =>
      have n : H b = none := by
        cases e : H b with
        | none => rfl
        | some z => rw [h0 b z e] at q2; cases q2
      by_cases hb : b ∈ frs outer
      · obtain ⟨sl, e⟩ := slot b o q n hb; exact ⟨_, e⟩
      · exact ⟨o, fl.1 b o (keep b o q n hb)⟩
  · have := I.base.tups b xs e
    rw [upd_ne (ne_of_none this n1)]; exact this
  · have := I.base.frzs b o u e
    rw [upd_ne (ne_of_none this n1)]; exact this
  · obtain ⟨m1, e1⟩ := I.base.tbls b ps e
    exact ⟨m1, by rw [upd_ne (ne_of_none e1 n1)]; exact e1⟩
  · rw [upd_ne hb] at e
    exact trk b o e
end
end VL

set_option Elab.async false
set_option linter.all false
set_option maxRecDepth 100000
set_option maxHeartbeats 4000000
namespace VL
open PySem PySem.Spec PyProof.Rows L2
/-! ### facts of a class -/
abbrev vMro : List Value := [.type "ValueError", .type "Exception", .type "BaseException", .type "object"]
structure ExcC (K : Fg) (n : Str) (C : Addr) : Prop where
  nm : PySem.W.nsIn K mainGlobals n = some (some (.ref C))
  ex : PySem.W.excIn K C vMro "ValueError.__new__" = true
  ga : PySem.W.findIn K (.ref C) "__getattribute__" = some (some (.builtin "BaseException.__getattribute__"))
  gt : PySem.W.findIn K (.ref C) "__getattr__" = some none
  cl : PySem.W.findIn K (.ref C) "__class__" = some (some (.builtin "object.__class__"))
  mo : PySem.W.mroIn K C (.type "object") = some true
  be : PySem.W.mroIn K C (.type "BaseException") = some true
theorem exc_obj {K : Fg} {h : Heap} {C : Addr} {mB : List Value} {newId : String} (kin : K.In h) (q : PySem.W.excIn K C mB newId = true) :
    ∃ mr ns nm qn bs hd sn sub ab col dd a0 a1 a2 a3 a5 mN, h.get? C = some (excClassObj nm qn C ns bs mr hd sn sub ab col dd a0 a1 a2 a3 a5 newId) ∧ h.Ns ns mN ∧ mN "__init__" = none ∧ OwnTail h mB mr := by
  unfold PySem.W.excIn at q
  split at q
  · rename_i dct cda slo lk
    split at q
    · rename_i C2 mr a0 a1 a2 a3 nw a5 em es
      simp only [Bool.and_eq_true, beq_iff_eq, Bool.not_eq_true'] at q
      obtain ⟨⟨⟨⟨⟨rfl, rfl⟩, nodel⟩, tl⟩, okn⟩, noini⟩ := q
      obtain ⟨nm, bs, mro, ns, qn, hd, sn, sub, ab, col, del⟩ := cda
      dsimp only at em nodel okn noini
      subst em nodel
      have esl : slo = #[a0, a1, a2, a3, some (.builtin nw), a5] := by
        obtain ⟨ll⟩ := slo
        simp only at es
        rw [es]
      subst esl
      exact ⟨mr, ns, nm, qn, bs, hd, sn, sub, ab, col, dct, a0, a1, a2, a3, a5, _, kin _ _ lk, Heap.Ns.of_isNs (PySem.W.isNs_of_in kin okn), PySem.W.nsMap_none_of_in kin okn noini, PySem.W.tail_of_in kin tl⟩
    · cases q
  · cases q
section
variable {K : Fg} {n : Str} {C x : Addr}
theorem looks_ty {M : Model} {h : Heap} {o : Obj} (e : h.get? x = some o) (c : o.cls = .ref C) : PySem.W.Looks M h (typeOf (.ref x)) (.ref C) := c ▸ (PySem.W.Looks.ld e).andThen .now
variable {prog : Program} {w : World} {A : Around} {E : Value → Shared → Prop}
open Builtin Builtin.ObjectAttr Builtin.Getset_descriptor in
theorem exc_get {R : Result → Shared → Prop} {tp : Value} {o : Obj} {s : Shared} (F : ExcC K n C) (kin : K.In s.heap) (e : s.heap.get? x = some o) (c : o.cls = .ref C) (h : R (.ok (.ret (.ref C))) s) :
    codeAny (model prog w) A (.call (.builtin "getset_descriptor.__get__") ⟨[.builtin "object.__class__", .ref x, tp], []⟩) R s := by
  obtain ⟨hh, g, dr, t, os⟩ := s
  have L0 := looks_ty (M := model prog w) e c
  have L1 := PySem.W.looks_mroIn (M := model prog w) kin F.mo
  refine codeAny_call_builtin PySem.W.KF.slot_gs.plain PySem.W.KF.entry_gs (PySem.W.KF.slot_gs.check _ _ _ _ _ _ _ _ PySem.W.KF.type_class (PySem.W.KF.args_gs _ _ _) ?_)
  unfold Builtin.«getset_descriptor.__get__» descrGet
  rw [PySem.W.dga_obj]
  refine wpAny_bind (wpAny_pure ?_)
  unfold descrGetter descrCheckInstance descrNameAndClass isInstance
  simp only [PySem.W.KF.owner_class]
  repeat lk
  refine ⟨Code.quiet_builtin _ (by decide +kernel), codeAny_builtin PySem.W.KF.entry_class ?_⟩
  unfold Builtin.«object.__class__» shownTypeOf
  repeat lk
  exact h
theorem exc_check {M : Model} {o : Obj} {s : Shared} {nameV : Value} {Q : Unit → Shared → Prop} (F : ExcC K n C) (kin : K.In s.heap) (e : s.heap.get? x = some o) (c : o.cls = .ref C) (h : Q () s) :
    wpAny M A (checkBuiltinCall "BaseException.__getattribute__" ⟨[.ref x, nameV], []⟩) Q E s := by
  obtain ⟨hh, g, dr, t, os⟩ := s
  have L0 := looks_ty (M := M) e c
  have L1 := PySem.W.looks_mroIn (M := M) kin F.be
  have kd : builtinKind "BaseException.__getattribute__" = some .slot := by decide +kernel
  have sp : splitId "BaseException.__getattribute__" = some ("BaseException", "__getattribute__") := by decide +kernel
  have ao := PySem.F.args_bexc_ga (.ref x) nameV
  simp only [checkBuiltinCall, kd, sp]
  refine wpAny_bind ?_
  unfold isInstance
  refine wpAny_bind (L0.at (L1.at ?_))
  repeat wp_step
  exact h
theorem exc_entry {tk : Tok} {o : Obj} {s : Shared} {Q : Fin → Shared → Prop} (F : ExcC K n C) (kin : K.In s.heap) (e : s.heap.get? x = some o) (c : o.cls = .ref C) (h : Q (.done (.ret (.ref C))) s) :
    wpAny (model prog w) A (Builtin.«object.__getattribute__» ⟨[.ref x, .str "__class__" tk], []⟩) Q E s := by
  obtain ⟨hh, g, dr, t, os⟩ := s
  have L0 := looks_ty (M := model prog w) e c
  have L1 := PySem.W.looks_findIn (M := model prog w) kin F.cl
  have t5 : (⟨hh, g, dr, t, os⟩ : Shared).TypeIs (.builtin "object.__class__") "getset_descriptor" := PySem.F.typeOf_object_class
  have f5 := PySem.F.typeOf_object_class
  have f6 := PySem.F.slot_gs_get.lookup
  have f7 := PySem.F.slot_gs_set.lookup
  repeat (any_goals (first | assumption | with_reducible refine L0.at ?_ | with_reducible refine L1.at ?_ | wp_step))
  refine exc_get F kin e c ?_
  repeat (any_goals (first | assumption | wp_step))
end
end VL

set_option Elab.async false
set_option linter.all false
set_option maxRecDepth 100000
set_option maxHeartbeats 4000000
namespace VL
open PySem PySem.Spec PyProof.Rows L2
section
variable {K : Fg} {n : Str} {C x : Addr} {prog : Program} {w : World} {A : Around} {E : Value → Shared → Prop}
theorem exc_class {o : Obj} {s : Shared} {Q : Option Value → Shared → Prop} (F : ExcC K n C) (kin : K.In s.heap) (e : s.heap.get? x = some o) (c : o.cls = .ref C) (h : Q (some (.ref C)) { s with toks := s.toks + 1 }) :
    wpAny (model prog w) A (getAttr? (.ref x) "__class__") Q E s := by
  obtain ⟨hh, g, dr, t, os⟩ := s
  have L0 := looks_ty (M := model prog w) e c
  have L1 := PySem.W.looks_findIn (M := model prog w) kin F.ga
  have L2 := PySem.W.looks_findIn (M := model prog w) kin F.gt
  have b3 := PySem.F.attr_ValueError.ga.bind (.ref x)
  have n2 : (Value.builtin "BaseException.__getattribute__" == Value.builtin "object.__getattribute__") = false := by decide +kernel
  have n1 : (onTheHeap (Value.ref C) && Value.builtin "BaseException.__getattribute__" == Value.builtin "object.__getattribute__") = false := by rw [n2]; rfl
  have go : ∀ {tk : Tok} {R : Result → Shared → Prop} {A' : Around}, R (.ok (.ret (.ref C))) ⟨hh, g, dr, t + 1, os⟩ → codeAny (model prog w) A' (.call (.builtin "BaseException.__getattribute__") ⟨[.ref x, .str "__class__" tk], []⟩) R ⟨hh, g, dr, t + 1, os⟩ := fun {tk R A'} q =>
    codeAny_call_builtin PySem.F.attr_ValueError.ga.plain PySem.F.entry_bexc_ga (exc_check (s := ⟨hh, g, dr, t + 1, os⟩) F kin e c (exc_entry (s := ⟨hh, g, dr, t + 1, os⟩) F kin e c q))
  unfold getAttr? getAttrBy? getAttrBy
  repeat (any_goals (first | assumption | with_reducible refine L0.at ?_ | with_reducible refine L1.at ?_ | with_reducible refine L2.at ?_ | wp_step))
  refine go ?_
  repeat (any_goals (first | assumption | wp_step))
theorem looks_isType {M : Model} {h : Heap} (F : ExcC K n C) (kin : K.In h) : PySem.W.Looks M h (isType (.ref C)) true := by
  obtain ⟨_, _, _, _, _, _, _, _, _, _, _, _, _, _, _, _, _, hC, _⟩ := exc_obj kin F.ex
  intro A' Q' E' s' k q
  unfold isType loadHead
  exact wpAny_bind (wpAny_loadPart (k _ _ hC) (wpAny_pure q))
theorem kitx_exc (F : ExcC K n C) : PySem.W.KitX K (.ref x) (.ref C) (fun h => ∃ o, h.get? x = some o ∧ o.cls = .ref C) where
  ty := fun M h _ ⟨o, e, c⟩ => looks_ty e c
  it := fun M h kin _ => looks_isType F kin
  ne := fun h tp dd its m sl kin htp => by
    obtain ⟨_, _, _, _, _, _, _, _, _, _, _, _, _, _, _, _, _, hC, _⟩ := exc_obj kin F.ex
    refine Bool.eq_false_iff.mpr fun q => ?_
    have z : C = tp := Value.ref.inj (beq_iff_eq.mp q)
    subst z
    rw [htp] at hC
    have z2 := congrArg (fun z : Option Obj => z.map (·.cls)) hC
    simp [excClassObj] at z2
  ca := fun {_ _ _ _ _ s} kin ⟨o, e, c⟩ k => exc_class F kin e c k
end
/-! ### isinstance of an exception -/
inductive IsX (K : Fg) (D : Str) : List (Str × Bool) → Prop
  | nil : IsX K D []
  | cons {n : Str} {b : Bool} {t : List (Str × Bool)} {C dC : Addr} : ExcC K n C → PySem.W.nsIn K mainGlobals D = some (some (.ref dC)) → PySem.W.kitOne K (.ref C) (.ref dC) = some b → IsX K D t → IsX K D ((n, b) :: t)
inductive IsT (K : Fg) (D : String) : List (Str × Bool) → Prop
  | nil : IsT K D []
  | cons {n : Str} {b : Bool} {t : List (Str × Bool)} {C : Addr} : ExcC K n C → PySem.W.kitOne K (.ref C) (.type D) = some b → IsT K D t → IsT K D ((n, b) :: t)
theorem lookup_cons_some {n m : Str} {b c : Bool} {t : List (Str × Bool)} (h : List.lookup m ((n, b) :: t) = some c) : (m = n ∧ c = b) ∨ List.lookup m t = some c := by
  rw [List.lookup_cons] at h
  split at h
  · rename_i q; cases h; exact .inl ⟨by simpa using q, rfl⟩
  · exact .inr h
theorem IsX.get {K : Fg} {D : Str} {t : List (Str × Bool)} (h : IsX K D t) {n : Str} {b : Bool} (e : t.lookup n = some b) : ∃ C dC, ExcC K n C ∧ PySem.W.nsIn K mainGlobals D = some (some (.ref dC)) ∧ PySem.W.kitOne K (.ref C) (.ref dC) = some b := by
  induction h with
  | nil => cases e
  | cons h1 h2 h3 _ ih =>
    rcases lookup_cons_some e with ⟨rfl, rfl⟩ | e
    · exact ⟨_, _, h1, h2, h3⟩
    · exact ih e
theorem IsT.get {K : Fg} {D : String} {t : List (Str × Bool)} (h : IsT K D t) {n : Str} {b : Bool} (e : t.lookup n = some b) : ∃ C, ExcC K n C ∧ PySem.W.kitOne K (.ref C) (.type D) = some b := by
  induction h with
  | nil => cases e
  | cons h1 h3 _ ih =>
    rcases lookup_cons_some e with ⟨rfl, rfl⟩ | e
    · exact ⟨_, h1, h3⟩
    · exact ih e
theorem isxD_some {t : List (Str × Bool)} {d r : D} (h : isxD t d = some r) : ∃ n b, d = .dict [(.str "exc", .str n)] ∧ t.lookup n = some b ∧ r = .bool b := by
  unfold isxD at h
  split at h
  · rename_i k n
    split at h
    · rename_i hk
      subst hk
      unfold isxL at h
      cases e : List.lookup n t with
      | none => rw [e] at h; cases h
      | some b => rw [e] at h; cases h; exact ⟨n, b, rfl, e, rfl⟩
    · cases h
  · cases h
section
variable {X : Cx} {a : Expr} {f : Dv → Option D} {p pos : Pos}
theorem isx_call {pins : List (Addr × Obj)} {σ : St} {H Z : Hp} {s : Shared} {x : Addr} {n : Str} {C : Addr} {c : Value} {b : Bool} {A : Around} {E : Value → Shared → Prop} {Q : Value → Shared → Prop} (I : Inv X pins σ H s) (zh : Same Z H) (r : Rep X.K Z (.ref x) (.dict [(.str "exc", .str n)])) (F : ExcC X.K n C) (ko : PySem.W.kitOne X.K (.ref C) c = some b)
    (h : ∀ tk, Q (.bool b) { s with toks := tk }) : wpAny (model X.prog X.w) A (call (.builtin "isinstance") [.ref x, c]) Q E s := by
  cases r with
  | opq q =>
    cases q with
    | @exc _ C' h1 h2 =>
      have : C' = C := by have := h1.symm.trans F.nm; simpa using this
      subst this
      exact PySem.W.kia_one (kitx_exc F) I.kIn (I.hok x _ (zh _ _ h2)).1 ko (fun z => nomatch z) h
    | dct h1 _ => exact absurd h1 fun z => dctD_no z
theorem ev_isx {x : Str} {t : List (Str × Bool)} {p2 : Pos} (T : IsX X.K x t) (hg : Gl X "isinstance") (hm : X.mg "isinstance" = none) (hgT : Gl X x) (ha : EV X a f) (hdT : (x == ("__debug__" : Str)) = false := by decide)
    (he : starEach (a :: [.Name x p2]) X.env = (false, eval a X.env) :: starEach [.Name x p2] X.env := by rfl) (he2 : starEach ((.Name x p2) :: []) X.env = (false, eval (.Name x p2) X.env) :: starEach [] X.env := by rfl) (hpl : (backTo pos (starEach [.Name x p2] X.env)).any (·.1) = false := by rfl) :
    EV X (.Call (.Name "isinstance" p) [a, .Name x p2] [] pos) (o1 f (isxD t)) := by
  intro pins s σ H Q I h
  obtain ⟨H₀, Z₀, Z, δ, d, hh, e, k⟩ := h
  obtain ⟨y, e1, e⟩ := bind_some e
  obtain ⟨n, b, rfl, e2, rfl⟩ := isxD_some e
  obtain ⟨C, dC, F, hD, ko⟩ := T.get e2
  have hmT := PySem.W.mg_of I.ok.mod.kin I.ok.mod.glob hD
  have cr : CallR X (.builtin "isinstance") (fun xs H Q => ∃ z Z, xs = [z, .ref dC] ∧ Same Z H ∧ Rep X.K Z z (.dict [(.str "exc", .str n)]) ∧ Q (.bl b) H) := by
    intro pins s σ H xs us Q I rv h
    obtain ⟨z, Z, rfl, zh, r, q⟩ := h
    obtain ⟨u, w', rfl, r1, r2⟩ := vals2 rv
    cases (show w' = Value.ref dC from r2)
    cases r with
    | @opq a' _ q' =>
      cases (show u = Value.ref a' from r1)
      exact isx_call I zh (.opq q') F ko fun tk => ⟨.bl b, H, I.tok _, rfl, q⟩
  exact pe_callB cr hg hm PyProof.Rows.boot_isinstance (pa_cons ha (pa_cons (pe_glob (v := .ref dC) hgT hmT rfl hdT) pa_nil he2) he) (by decide) (by decide) he hpl pins s σ H Q I
    ⟨H₀, Z₀, Z, δ, _, hh, e1, fun v Z1 H1 hh1 s1 r1 => ⟨v, Z1, rfl, hh1.zh, r1, k _ Z1 H1 hh1 s1 (.bl b)⟩⟩
theorem ev_isxT {x : Str} {D : String} {t : List (Str × Bool)} {p2 : Pos} (T : IsT X.K D t) (hg : Gl X "isinstance") (hm : X.mg "isinstance" = none) (hgT : Gl X x) (hmT : X.mg x = none) (ha : EV X a f) (hvT : bootBuiltins x = some (.type D) := by decide +kernel) (hnT : x ≠ "__name__" := by decide) (hdT : (x == ("__debug__" : Str)) = false := by decide)
    (he : starEach (a :: [.Name x p2]) X.env = (false, eval a X.env) :: starEach [.Name x p2] X.env := by rfl) (he2 : starEach ((.Name x p2) :: []) X.env = (false, eval (.Name x p2) X.env) :: starEach [] X.env := by rfl) (hpl : (backTo pos (starEach [.Name x p2] X.env)).any (·.1) = false := by rfl) :
    EV X (.Call (.Name "isinstance" p) [a, .Name x p2] [] pos) (o1 f (isxD t)) := by
  intro pins s σ H Q I h
  obtain ⟨H₀, Z₀, Z, δ, d, hh, e, k⟩ := h
  obtain ⟨y, e1, e⟩ := bind_some e
  obtain ⟨n, b, rfl, e2, rfl⟩ := isxD_some e
  obtain ⟨C, F, ko⟩ := T.get e2
  have cr : CallR X (.builtin "isinstance") (fun xs H Q => ∃ z Z, xs = [z, .ty D] ∧ Same Z H ∧ Rep X.K Z z (.dict [(.str "exc", .str n)]) ∧ Q (.bl b) H) := by
    intro pins s σ H xs us Q I rv h
    obtain ⟨z, Z, rfl, zh, r, q⟩ := h
    obtain ⟨u, w', rfl, r1, r2⟩ := vals2 rv
    cases (show w' = Value.type D from r2)
    cases r with
    | @opq a' _ q' =>
      cases (show u = Value.ref a' from r1)
      exact isx_call I zh (.opq q') F ko fun tk => ⟨.bl b, H, I.tok _, rfl, q⟩
  exact pe_callB cr hg hm PyProof.Rows.boot_isinstance (pa_cons ha (pa_cons (pe_bltn (v := .ty D) hgT hmT hvT rfl hnT hdT) pa_nil he2) he) (by decide) (by decide) he hpl pins s σ H Q I
    ⟨H₀, Z₀, Z, δ, _, hh, e1, fun v Z1 H1 hh1 s1 r1 => ⟨v, Z1, rfl, hh1.zh, r1, k _ Z1 H1 hh1 s1 (.bl b)⟩⟩
end
end VL

set_option Elab.async false
set_option linter.all false
set_option maxRecDepth 100000
set_option maxHeartbeats 4000000
namespace VL
open PySem PySem.Spec PyProof.Rows L2
/-! ### code that raises -/
inductive Flung (m : Bool) (X : Cx) (n : Str) (Z H : Hp) (s : Shared) (e : Value) (s' : Shared) : Prop
  | made {x C : Addr} {vs : List Value} : m = true → PySem.W.nsIn X.K mainGlobals n = some (some (.ref C)) → e = .ref x → s' = { s with heap := s'.heap } → Heap.MadeExcOf s.heap s'.heap x (.ref C) vs → Flung m X n Z H s e s'
  | thrown {x C : Addr} {H' Z' : Hp} : PySem.W.nsIn X.K mainGlobals n = some (some (.ref C)) → e = .ref x → Thrown X.prog X.w X.stack H s x C H' s' → New Z H Z' H' → Z' x = some (exO x C) → Flung m X n Z H s e s'
def tVX (m : Bool) (X : Cx) (f : Xf) : TS := fun _ σ H => ∃ H₀ Z₀ Z δ r, Hold X.K H₀ Z₀ Z δ σ H ∧ f δ = some r ∧ ∀ pins σ' H' Z' s e s', Hold X.K H₀ Z₀ Z' r.2 σ' H' → Same Z Z' → Inv X pins σ' H' s → Flung m X r.1 Z' H' s e s' → X.xe e s'
def tEX (m : Bool) (X : Cx) (f : Dv → Option Str) : TE := fun σ H _ => ∃ H₀ Z₀ Z δ n, Hold X.K H₀ Z₀ Z δ σ H ∧ f δ = some n ∧ ∀ pins σ' H' Z' s e s', Hold X.K H₀ Z₀ Z' δ σ' H' → Same Z Z' → Inv X pins σ' H' s → Flung m X n Z' H' s e s' → X.xe e s'
def SX (m : Bool) (X : Cx) (st : Stmt) (f : Xf) : Prop := PS X st (tVX m X f)
def BX (m : Bool) (X : Cx) (st : List Stmt) (f : Xf) : Prop := PSs X st (tVX m X f)
def EX (m : Bool) (X : Cx) (e : Expr) (f : Dv → Option Str) : Prop := PE X e (tEX m X f)
section
variable {m : Bool} {X : Cx} {e c : Expr} {es : List Expr} {f : Dv → Option D} {fs : Dv → Option (List D)} {ft : Dv → Option Bool} {fx : Dv → Option Str} {st : Stmt} {sts body orelse : List Stmt} {s1 : Sf} {u u1 u2 : Xf} {pos p : Pos}
theorem SV.lift (h : SV X.nox st s1) : SV X st s1 := fun pins s σ H D I hw =>
  wpAny_mono (h pins s σ H D (I.wish _) hw) (fun _ _ q => q.unwish) fun _ _ z => False.elim z
theorem BV.lift (h : BV X.nox sts s1) : BV X sts s1 := PSs.nox h
theorem EV.lift (h : EV X.nox e f) : EV X e f := PE.nox h
theorem TV.lift (h : TV X.nox e ft) : TV X e ft := PT.nox h
theorem AV.lift (h : AV X.nox es fs) : AV X es fs := fun pos pins s σ H Q I hw =>
  wpAny_mono (h pos pins s σ H Q (I.wish _) hw) (fun _ _ ⟨vs, H', I', r, q⟩ => ⟨vs, H', I'.unwish, r, q⟩) fun _ _ z => False.elim z
theorem bx_no : BX m X sts xNo := fun _ _ _ _ _ _ ⟨_, _, _, _, _, _, e, _⟩ => nomatch e
theorem sx_expr (h : EX m X e fx) (hs : swapsWith e none pos.line X.env = pure false := by rfl) : SX m X (.Expr e pos) (xE fx) :=
  PS.imp (ps_expr h hs) fun D σ H q => by
    obtain ⟨H₀, Z₀, Z, δ, r, hh, e, k⟩ := q
    obtain ⟨n, e1, e⟩ := bind_some e
    cases e
    exact ⟨H₀, Z₀, Z, δ, n, hh, e1, k⟩
theorem bx_here (h : SX m X st u) : BX m X (st :: sts) u :=
  PSs.imp (pss_cons h (u := fun _ _ _ => False) fun _ _ _ _ _ _ z => z.elim) fun D σ H q => q
theorem sx_if (hc : TV X c ft) (ha : BX m X body u1) (hb : BX m X orelse u2) : SX m X (.If c body orelse pos) (xIf ft u1 u2) :=
  PS.imp (ps_if hc ha hb) fun D σ H q => by
    obtain ⟨H₀, Z₀, Z, δ, r, hh, e, k⟩ := q
    obtain ⟨x, e1, e⟩ := bind_some e
    refine ⟨H₀, Z₀, Z, δ, x, hh, e1, fun Z1 H1 hh1 t1 => ?_⟩
    cases x with
    | true => exact ⟨H₀, Z₀, Z1, δ, r, hh1, e, fun pins σ2 H2 Z2 s e s' hh2 t2 I fl => k pins σ2 H2 Z2 s e s' hh2 (t1.trans t2) I fl⟩
    | false => exact ⟨H₀, Z₀, Z1, δ, r, hh1, e, fun pins σ2 H2 Z2 s e s' hh2 t2 I fl => k pins σ2 H2 Z2 s e s' hh2 (t1.trans t2) I fl⟩
/-! ### raise -/
structure ExcX (K : Fg) (n : Str) : Prop where
  ex : ∃ C, ExcC K n C
theorem sx_raise {x : Str} {np cpos : Pos} (O : ExcX X.K x) (hg : Gl X x) (hc : X.calm = true) (ha : EV X e f) (hdb : (x == ("__debug__" : Str)) = false := by decide)
    (he : starEach (e :: []) X.env = (false, eval e X.env) :: starEach [] X.env := by rfl) (hpl : (backTo cpos (starEach [] X.env)).any (·.1) = false := by rfl) :
    SX true X (.Raise (some (.Call (.Name x np) [e] [] cpos)) none pos) (xRaise x f) := by
  intro pins s σ H D I h
  obtain ⟨H₀, Z₀, Z, δ, r, hh, e0, k⟩ := h
  obtain ⟨d, e1, e0⟩ := bind_some e0
  cases e0
  obtain ⟨C, F⟩ := O.ex
  obtain ⟨mr, ns, nm, qn, bs, hd, sn, sub, ab, col, dd, a0, a1, a2, a3, a5, mN, hC, hN, hni, TL⟩ := exc_obj I.ok.mod.kin F.ex
  have hm := PySem.W.mg_of I.ok.mod.kin I.ok.mod.glob F.nm
  refine wpAny_Raise_call_subU (C := C) (nm := nm) (q := qn) (N := ns) (bs := bs) (bm := mr) (hdct := hd) (sn := sn) (sub := sub) (ab := ab) (col := col) (dd := dd) (k0 := a0) (k1 := a1) (k2 := a2) (k3 := a3) (k5 := a5) (bmB := vMro)
    PySem.F.excBase_ValueError (by decide +kernel) PySem.F.excBase_ValueError (mN := mN) (TL.hasType (by decide +kernel)) (I.ok.hd hc) (by rw [he]; show (false || (backTo cpos (starEach [] X.env)).any (·.1)) = false; rw [hpl]; rfl) hni (ld_glob I hg hm ⟨rfl, ?_⟩ hdb)
  rw [he]
  have one : wpAny (model X.prog X.w) X.A (spliced (backTo cpos (starEach (e :: []) X.env))) (AP X pins σ fun vs H1 => vs.length = 1 ∧ ∃ Z1, Hold X.K H₀ Z₀ Z1 δ σ H1 ∧ Same Z Z1) X.xe s :=
    (pa_cons ha pa_nil he) cpos pins s σ H _ I ⟨H₀, Z₀, Z, δ, d, hh, e1, fun v Z1 H1 hh1 t1 r1 => ⟨rfl, Z1, hh1, t1⟩⟩
  rw [he] at one
  refine Calls.evalArgs_plain (wpAny_mono one (fun us s2 z => ?_) fun _ _ y => y)
  obtain ⟨vs, H1, I1, rv, hl, Z1, hh1, t1⟩ := z
  have lu : us.length = 1 := by rw [← rv.length]; exact hl
  refine ⟨rfl, by show us.length ≤ sizeLine; rw [lu]; decide, I1.bk _ _ hC, hN.keeps I1.bk, TL.keeps I1.bk, fun h' ex hmd => ?_⟩
  exact k pins σ H1 Z1 s2 _ _ hh1 t1 I1 (.made rfl F.nm rfl rfl hmd)
/-! ### a call that raises -/
def spX (K : Fg) (g : List D → Option Str) : Sp := fun vs H _ E => ∃ Z as n, Same Z H ∧ Reps K Z vs as ∧ g as = some n ∧ ∀ C x Z' H', PySem.W.nsIn K mainGlobals n = some (some (.ref C)) → New Z H Z' H' → Z' x = some (exO x C) → E (.ref C) (some x) H'
structure CalX (P : Program) (w : World) (K : PySem.W.Frag) (mg : Str → Option Value) (base : Heap) (x : Str) (k : Nat) (g : List D → Option Str) (dd : List D) : Prop where
  ex : ∃ (fa : Addr) (fd : FuncData) (ps : List Str) (ds : List Value) (dv : List V), FnOk P w K mg base (CXX P w) k fa fd ps (spX K g) ∧ mg x = some (.ref fa) ∧ PySem.W.keepIn K (.ref fa) = true ∧ Binds K fd ps ds ∧ Vals dv ds ∧ ∀ Z, Reps K Z dv dd
theorem ex_def {k : Nat} {x : Str} {g : List D → Option Str} (Y : CalX X.prog X.w X.K X.mg X.base x k g []) (hr : Room k X.A) (hg : Gl X x) (ha : AV X (e :: es) fs) (hdb : (x == ("__debug__" : Str)) = false := by decide) (he : starEach (e :: es) X.env = (false, eval e X.env) :: starEach es X.env := by rfl)
    (hpl : (backTo pos (starEach es X.env)).any (·.1) = false := by rfl) : EX m X (.Call (.Name x p) (e :: es) [] pos) (osX fs g) := by
  obtain ⟨fa, fd, ps, ds, dv, F, hm, hk, hb, hd, hdd⟩ := Y.ex
  intro pins s σ H Q I h
  obtain ⟨H₀, Z₀, Z, δ, n, hh, e0, k⟩ := h
  obtain ⟨as, e1, e0⟩ := bind_some e0
  refine wpAny_Call_Name_kw (ld_glob I hg hm ?_ hdb)
  refine PySem.W.callWith_K (h₀ := X.base) I.ok.mod.kin hk (thn (ha pos pins s σ H (fun vs H1 => ∃ Z1, Hold X.K H₀ Z₀ Z1 δ σ H1 ∧ Same Z Z1 ∧ Reps X.K Z1 vs as) I ⟨H₀, Z₀, Z, δ, as, hh, e1, fun vs Z1 H1 hh1 t1 r1 => ⟨Z1, hh1, t1, r1⟩⟩) fun us s1 ⟨vs, H1, I1, r, Z1, hh1, t1, r1⟩ => ⟨I1.kIn, ?_⟩) he hpl
  have r2 : Vals (vs ++ dv) (us ++ ds) := r.append hd
  have sp : spX X.K g (vs ++ dv) H1 Q (fun c ox H2 => ∃ C xx Z2, c = .ref C ∧ ox = some xx ∧ PySem.W.nsIn X.K mainGlobals n = some (some (.ref C)) ∧ New Z1 H1 Z2 H2 ∧ Z2 xx = some (exO xx C)) := ⟨Z1, as ++ [], n, hh1.zh, r1.append (hdd Z1), by rw [List.append_nil]; exact e0, fun C xx Z2 H2 hC n2 h2 => ⟨C, xx, Z2, rfl, rfl, hC, n2, h2⟩⟩
  have hl : (us ++ ds).length = ps.length := by rw [← r2.length]; exact F.len _ _ _ _ sp
  refine wpAny_call (codeAny_mono (F.run X.A X.stack s1 H1 ⟨us, []⟩ (us ++ ds) (vs ++ dv) Q _ hr I1.env0 (hb s1 us I1.kIn hl) r2 sp) fun res s' hq => ?_)
  cases res with
  | error ee =>
    obtain ⟨xx, C', H2, rfl, T, C, xx', Z2, hC', hx', hC, n2, h2⟩ := hq
    cases hx'
    cases hC'
    exact k pins σ H1 Z1 s1 _ s' hh1 t1 I1 (.thrown hC rfl T n2 h2)
  | ok fl =>
    cases fl with
    | ret z => exact I1.after hq
    | next => exact False.elim hq
    | brk => exact False.elim hq
    | cont => exact False.elim hq
end
section
variable {P : Program} {w : World} {K : PySem.W.Frag} {mg : Str → Option Value} {base : Heap}
theorem fn_x {x qual : Str} {st : Stmt} {f : Addr} {fd : FuncData} {dV : Value} {N ps : List Str} {k : Nat} {fx : Xf} (F : FunV K x qual st f fd dV) (S : FnScope N ps (defScope st))
    (hb : ∀ (cdv : Value) (A : Around) (outer : List Env) (s : Shared) (H : Hp) (E : XK), Room k (A.deeper (envOfC qual (defScope st) s.heap.objs.size f cdv)) → BX true (cxOf (CXX P w) P w K mg base N qual (defScope st) f cdv A outer s H E) (defBody st) fx) :
    FnOk P w K mg base (CXX P w) (k + 1) f fd ps (spX K (runX N ps.length fx)) := by
  obtain ⟨oc, od, kV, doc, pm, an, cdv, ct, osl, rfl, lk, hcd⟩ := F.ex
  have some_of : ∀ {as : List D} {n : Str}, runX N ps.length fx as = some n → as.length = ps.length ∧ ∃ δ', fx (startD N as) = some (n, δ') := fun {as n} h => by
    unfold runX at h
    split at h
    · rename_i hl
      obtain ⟨⟨n', δ'⟩, e, h⟩ := bind_some h
      cases h
      exact ⟨hl, δ', e⟩
    · cases h
  refine fn_of lk hcd S (fun vs H Q E h => ?_) fun A outer s H vs Q E hr hsp => ?_
  · obtain ⟨Z, as, n, zh, r, e, _⟩ := h
    rw [r.length]
    exact (some_of e).1
  · refine ⟨_, hb cdv A outer s H E hr, ?_⟩
    obtain ⟨Z, as, n, zh, r, e, kk⟩ := hsp
    obtain ⟨_, δ', e2⟩ := some_of e
    have hh := hold_start (N := N) zh r
    refine ⟨H, Z, Z, _, (n, δ'), hh, e2, fun pins σ' H' Z' s1 ee s2 h' z' I fl => ?_⟩
    have nw : New Z H Z' H' := ⟨z', h'.h0, h'.zh, h'.zb⟩
    cases fl with
    | @made xx C' vs' _ hC' he hs hmd =>
      subst he
      exact leave_made I hs hmd h'.h0 fun hn => kk C' xx (upd Z' xx (exO xx C')) _ hC' (nw.trans (New.add h'.zh hn _)) upd_same
    | @thrown xx C' H2 Z2 hC' he T n2 hx =>
      subst he
      exact leave_on I T (kk C' xx Z2 H2 hC' (nw.trans n2) hx) (h'.h0.trans n2.h)
end
end VL

set_option Elab.async false
set_option linter.all false
set_option maxRecDepth 100000
set_option maxHeartbeats 4000000
namespace VL
open PySem PySem.Spec PyProof.Rows L2
/-! ### try: body except W as n: suite -/
/-- of two exceptions' classes the handler's one is asked -/
theorem exc_match {K : Fg} {n : Str} {M : Model} {A : Around} {E : Value → Shared → Prop} {s : Shared} {x C W : Addr} {o : Obj} {Q : Bool → Shared → Prop} (kin : K.In s.heap) (F : ExcC K n C) (FW : PySem.W.excIn K W vMro "ValueError.__new__" = true) (hs : PySem.W.subIn K (.ref C) (.ref W) = some true)
    (e : s.heap.get? x = some o) (c : o.cls = .ref C) (h : Q true s) : wpAny M A (excMatches (.ref x) (.ref W)) Q E s := by
  obtain ⟨mr, ns, nm, qn, bs, hd, sn, sub, ab, col, dd, a0, a1, a2, a3, a5, mN, hW, hN, hni, TL⟩ := exc_obj kin FW
  obtain ⟨hh, g, d, t, os⟩ := s
  have cB : (Value.ref W :: mr).contains (.type "BaseException") = true := by rw [List.contains_cons, TL.hasType (b := true) (by decide +kernel), Bool.or_true]
  have L := PySem.W.looks_subIn (M := M) kin hs
  have L0 := looks_ty (M := M) e c
  have nt := tc_notTuple
  unfold excMatches
  repeat (first | with_reducible refine L0.at ?_ | with_reducible refine L.at ?_ | with_reducible refine wpAny_loadPart_at hW ?_ | (with_reducible refine wpAny_isSubtype_exc hW ?_; rw [cB]) | wp_step)
  exact h
inductive HndL (K : Fg) (W : Addr) : List Str → Prop
  | nil : HndL K W []
  | cons {n : Str} {t : List Str} {C : Addr} : ExcC K n C → PySem.W.subIn K (.ref C) (.ref W) = some true → HndL K W t → HndL K W (n :: t)
theorem HndL.get {K : Fg} {W : Addr} {t : List Str} (h : HndL K W t) {n : Str} (e : t.contains n = true) : ∃ C, ExcC K n C ∧ PySem.W.subIn K (.ref C) (.ref W) = some true := by
  induction h with
  | nil => cases e
  | cons h1 h2 _ ih =>
    rw [List.contains_cons, Bool.or_eq_true] at e
    rcases e with e | e
    · have := eq_of_beq e; subst this; exact ⟨_, h1, h2⟩
    · exact ih e
structure Hnd (K : Fg) (W : Str) (ns : List Str) : Prop where
  ex : ∃ wC, PySem.W.nsIn K mainGlobals W = some (some (.ref wC)) ∧ PySem.W.excIn K wC vMro "ValueError.__new__" = true ∧ HndL K wC ns
/-- the exception's own record has changed, else nothing but slots of frames -/
theorem Thrown.move {P : Program} {w : World} {l : List Env} {H H2 : Hp} {s s2 : Shared} {x C : Addr} (T : Thrown P w l H s x C H2 s2) (hf : ∀ b ∈ frs l, ∃ o, s.heap.get? b = some o ∧ ∀ vs, o.data ≠ .fields vs) (hn : ∀ b ∈ frs l, H b = none) :
    ∃ B t, Heap.FlyingW B l x (.ref C) t s2.heap ∧ ∀ h' t', Heap.FlyingW B l x (.ref C) t' h' → s2.heap.UpToSlots h' → Thrown P w l H s x C H2 { s2 with heap := h' } := by
  obtain ⟨B, t, fl, hB1, hB2⟩ := T.fly
  refine ⟨B, t, fl, fun h' t' fl' sm => ?_⟩
  have slot : ∀ b o, s.heap.get? b = some o → H b = none → b ∈ frs l → ∃ sl, h'.get? b = some { o with slots := sl } := fun b o q n hb => by
    obtain ⟨sl2, e2⟩ := T.un.slot b o q n hb (fun z => nomatch z)
    obtain ⟨o', ho', hd⟩ := hf b hb
    rw [q] at ho'; cases ho'
    obtain ⟨sl3, e3⟩ := sm b _ e2 hd
    exact ⟨sl3, e3⟩
  refine ⟨T.os, T.bare, ⟨fun b o q n hb _ => fl'.1 b o (hB2 b o q n hb), fun b o q n hb _ => slot b o q n hb, fun b o q n z => T.un.free b o q n z, fun b o q _ => ?_, T.un.tups, T.un.frzs, T.un.tbls⟩, hok_fly (l := []) (t := t) T.hok T.is fl.1 fl' hB1, T.sm, T.is, ⟨B, t', fl', hB1, hB2⟩⟩
  cases q2 : H2 b with
  | some ho =>
    by_cases hb : b = x
    · subst hb; obtain ⟨ob, e1, _⟩ := fl'.there; exact ⟨ob, e1⟩
    · obtain ⟨ob, e1⟩ := hB1 b ho q2 hb; exact ⟨ob, fl'.1 b ob e1⟩
  | none =>
    have n : H b = none := by
      cases e : H b with
      | none => rfl
      | some z => rw [T.sm b z e] at q2; cases q2
    by_cases hb : b ∈ frs l
    · obtain ⟨sl, e⟩ := slot b o q n hb; exact ⟨_, e⟩
    · exact ⟨o, fl'.1 b o (hB2 b o q n hb)⟩
section
variable {X : Cx} {pins : List (Addr × Obj)} {σ : St} {H : Hp} {s : Shared}
/-- a name goes -/
theorem del_ok {M : Model} {A : Around} {E : Value → Shared → Prop} {i : Nat} {x : Str} {v : V} {Q : Unit → Shared → Prop} (I : Inv X pins σ H s) (hN : X.N.Nodup) (hi : X.N[i]? = some x) (hk : X.env.scope.names.lookup x = some .local) (hv : σ[i]? = some (some v))
    (h : ∀ s', Inv X pins (σ.set i none) H s' → Q () s') : wpAny M A (unbindName X.env x) Q E s := by
  obtain ⟨m, hn, hl⟩ := id I.loc
  have hcls : (X.env.scope.kind == .class || (X.env.scope.kind == .module && X.env.locals != X.env.globals)) = false := by rw [I.ok.kind]; rfl
  have hiσ : i < σ.length := by rw [I.len]; exact (List.getElem?_eq_some_iff.mp hi).1
  have cne := I.cne
  obtain ⟨u, rv, lk⟩ := hl i x v hi hv (.inl hk)
  have hmx : m x = some u := by
    rcases lk with ⟨_, q⟩ | ⟨q, _⟩
    · exact q
    · rcases q with q | q
      · rw [show X.env.kindOf x = some .local from hk] at q; cases q
      · rw [show X.env.kindOf x = some .local from hk] at q; cases q
  refine wpAny_unbindName_local hk hn hmx hcls fun h' u' hn' hs => ?_
  obtain ⟨oL, _, _, hoL, _⟩ := id hn
  have tracked : HOk X.prog X.w H h' := fun b ob e => by
    refine (I.hok b ob e).stay (fun c w' hc q => (hs.2 c ?_).trans q) (fun _ q => q) fun _ _ q => q
    rintro rfl
    rcases hc with z | hc
    · rw [← z, I.free] at e; cases e
    · rw [I.free] at hc; cases hc
  refine h _ ⟨I.ok, I.os, I.bare, ⟨fun b o e n hb hx => ?_, fun b o e n hb hx => ?_, I.base.free, fun b o e hx => ?_, I.base.tups, I.base.frzs, I.base.tbls⟩, ⟨_, hn', fun j y v' e1 e2 e3 => ?_⟩, fun y c e => ?_, I.free, I.freeC, fun p hp => ?_, tracked, by simpa using I.len⟩
  · exact (hs.2 b (Nat.ne_of_lt (Nat.lt_of_lt_of_le (Heap.lt_size e) I.ok.above))).trans (I.base.keep b o e n hb hx)
  · obtain ⟨sl, e1⟩ := I.base.slot b o e n hb hx
    exact ⟨sl, (hs.2 b (Nat.ne_of_lt (Nat.lt_of_lt_of_le (Heap.lt_size e) I.ok.above))).trans e1⟩
  · obtain ⟨o', e1⟩ := I.base.there b o e hx
    exact ⟨o', (hs.2 b (Nat.ne_of_lt (Nat.lt_of_lt_of_le (Heap.lt_size e) I.ok.above))).trans e1⟩
  · by_cases hj : j = i
    · subst hj
      rw [List.getElem?_set_self hiσ] at e2
      cases e2
    · rw [List.getElem?_set_ne (Ne.symm hj)] at e2
      obtain ⟨z', r', q⟩ := hl j y v' e1 e2 e3
      refine ⟨z', r', ?_⟩
      rcases q with ⟨k, e⟩ | ⟨k, c, e, z⟩
      · refine .inl ⟨k, ?_⟩
        have : y ≠ x := fun e => hj (nodup_ix hN e1 (e ▸ hi))
        simp [this, e]
      · exact .inr ⟨k, c, e, z.sameBut hs (cne y c e)⟩
  · obtain ⟨w', z⟩ := I.cell y c e
    exact ⟨w', z.sameBut hs (cne y c e)⟩
  · obtain ⟨e, n, ne, nf, d⟩ := I.pin p hp
    exact ⟨(hs.2 p.1 ne).trans e, n, ne, nf, d⟩
/-- behind an except suite: its name goes -/
theorem unb_ok {M : Model} {A : Around} {E : Value → Shared → Prop} {i : Nat} {x : Str} {pos : Pos} {Q : Unit → Shared → Prop} (I : Inv X pins σ H s) (hN : X.N.Nodup) (hi : X.N[i]? = some x) (hk : X.env.scope.names.lookup x = some .local)
    (h : ∀ s', Inv X pins (σ.set i none) H s' → Q () s') : wpAny M A (do bindName X.env x .none; unbindBehindTheSuite X.env x pos) Q E s := by
  have hiσ : i < σ.length := by rw [I.len]; exact (List.getElem?_eq_some_iff.mp hi).1
  refine wpAny_bind (wpAny_bindName (store_ok I hN hi (.inl hk) (v := .non) (u := .none) rfl (fun s1 I1 => ?_) (.inr hk)))
  unfold unbindBehindTheSuite
  refine wpAny_onRaise ?_
  refine del_ok (v := .non) I1 hN hi hk (List.getElem?_set_self hiσ) fun s2 I2 => ?_
  rw [List.set_set] at I2
  exact h s2 I2
end
theorem Hold.unset {K : Fg} {H₀ Z₀ Z H : Hp} {δ : Dv} {σ : St} (h : Hold K H₀ Z₀ Z δ σ H) (i : Nat) : Hold K H₀ Z₀ Z (δ.set i .un) (σ.set i none) H where
  zh := h.zh
  h0 := h.h0
  z0 := h.z0
  zb := h.zb
  len := by simp [h.len]
  fz := fun j e q => by
    by_cases hj : i = j
    · subst hj
      have hl : i < δ.length := by have := (List.getElem?_eq_some_iff.mp q).1; simpa using this
      rw [List.getElem?_set_self hl] at q
      cases q
    · rw [List.getElem?_set_ne hj] at q
      obtain ⟨u, a, b⟩ := h.fz j e q
      exact ⟨u, by rw [List.getElem?_set_ne hj]; exact a, b⟩
  own := fun j es q => by
    by_cases hj : i = j
    · subst hj
      have hl : i < δ.length := by have := (List.getElem?_eq_some_iff.mp q).1; simpa using this
      rw [List.getElem?_set_self hl] at q
      cases q
    · rw [List.getElem?_set_ne hj] at q ⊢
      exact h.own j es q
  dja := fun j k ds es a hjk q1 q2 => by
    have f : ∀ {m : Nat} {ds : Oc}, (δ.set i .un)[m]? = some (.own ds) → i ≠ m ∧ δ[m]? = some (.own ds) := fun {m ds} q => by
      by_cases hm : i = m
      · subst hm
        have hl : i < δ.length := by have := (List.getElem?_eq_some_iff.mp q).1; simpa using this
        rw [List.getElem?_set_self hl] at q
        cases q
      · rw [List.getElem?_set_ne hm] at q; exact ⟨hm, q⟩
    obtain ⟨a1, b1⟩ := f q1
    obtain ⟨a2, b2⟩ := f q2
    rw [List.getElem?_set_ne a1, List.getElem?_set_ne a2]
    exact h.dja j k ds es a hjk b1 b2
/-- the context of a try's body, of an except suite -/
abbrev cxT (X : Cx) (pn : List (Addr × Obj)) (E : Value → Shared → Prop) : Cx := { X with pn := pn, xe := E }
abbrev cxH (X : Cx) (x : Addr) : Cx := { X with A := X.A.mark (some (.ref x)), calm := false, xe := fun _ _ => False }
theorem Inv.toT {X : Cx} {pins : List (Addr × Obj)} {σ : St} {H : Hp} {s : Shared} (I : Inv X pins σ H s) (E : Value → Shared → Prop) : Inv (cxT X (X.pn ++ pins) E) [] σ H s :=
  ⟨⟨I.ok.mod, I.ok.kind, I.ok.glob, I.ok.blt, I.ok.above, I.ok.inj, I.ok.has, I.ok.cab, I.ok.hd, I.ok.frames, I.ok.stk, I.ok.exf, I.ok.bs, I.ok.bsz, I.ok.noex, I.ok.exfs, I.ok.funs, I.ok.frf⟩, I.os, I.bare, I.base, I.loc, I.cell, I.free, I.freeC, fun p hp => I.pin p (by simpa using hp), I.hok, I.len⟩
theorem Inv.ofT {X : Cx} {pins pins' : List (Addr × Obj)} {σ : St} {H : Hp} {s : Shared} {E : Value → Shared → Prop} (I : Inv (cxT X (X.pn ++ pins) E) pins' σ H s) : Inv X pins σ H s :=
  ⟨⟨I.ok.mod, I.ok.kind, I.ok.glob, I.ok.blt, I.ok.above, I.ok.inj, I.ok.has, I.ok.cab, I.ok.hd, I.ok.frames, I.ok.stk, I.ok.exf, I.ok.bs, I.ok.bsz, I.ok.noex, I.ok.exfs, I.ok.funs, I.ok.frf⟩, I.os, I.bare, I.base, I.loc, I.cell, I.free, I.freeC, fun p hp => I.pin p (List.mem_append_left _ hp), I.hok, I.len⟩
theorem Inv.toH {X : Cx} {pins : List (Addr × Obj)} {σ : St} {H : Hp} {s : Shared} (I : Inv X pins σ H s) (x : Addr) : Inv (cxH X x) pins σ H s :=
  ⟨⟨I.ok.mod, I.ok.kind, I.ok.glob, I.ok.blt, I.ok.above, I.ok.inj, I.ok.has, I.ok.cab, (fun z => (nomatch z)), I.ok.frames, I.ok.stk, I.ok.exf, I.ok.bs, I.ok.bsz, I.ok.noex, I.ok.exfs, I.ok.funs, I.ok.frf⟩, I.os, I.bare, I.base, I.loc, I.cell, I.free, I.freeC, I.pin, I.hok, I.len⟩
theorem Inv.ofH {X : Cx} {pins : List (Addr × Obj)} {σ : St} {H : Hp} {s : Shared} {x : Addr} (hc : X.A.handled = none) (I : Inv (cxH X x) pins σ H s) : Inv X pins σ H s :=
  ⟨⟨I.ok.mod, I.ok.kind, I.ok.glob, I.ok.blt, I.ok.above, I.ok.inj, I.ok.has, I.ok.cab, fun _ => hc, I.ok.frames, I.ok.stk, I.ok.exf, I.ok.bs, I.ok.bsz, I.ok.noex, I.ok.exfs, I.ok.funs, I.ok.frf⟩, I.os, I.bare, I.base, I.loc, I.cell, I.free, I.freeC, I.pin, I.hok, I.len⟩
section
variable {X : Cx} {body suite : List Stmt} {b₀ : Stmt} {b bs : Sf} {bx : Xf} {np hpos pos : Pos}
theorem sv_try (i : Nat) {n W : Str} {ns : List Str} (O : Hnd X.K W ns) (hgW : Gl X W) (hN : X.N.Nodup) (hi : X.N[i]? = some n) (hloc : X.env.scope.names.lookup n = some .local) (hcalm : X.calm = true) (hstk : X.stack = X.env :: X.outer)
    (hb : BV X.nox body b) (hx : ∀ pn E', BX false (cxT X pn E') body bx) (hs : ∀ x, BV (cxH X x) (b₀ :: suite) bs) (hfrm : X.env.frame = some X.env.locals := by rfl) (hdb : (W == ("__debug__" : Str)) = false := by decide) :
    SV X (.Try body [.ExceptHandler (some (.Name W np)) (some n) (b₀ :: suite) hpos] [] [] pos) (sTry i ns b bx bs) := by
  intro pins s σ H D I h
  obtain ⟨H₀, Z₀, Z, δ, r, hh, e, k⟩ := h
  unfold sTry at e
  cases hbx : bx δ with
  | none =>
    rw [hbx] at e
    refine wpAny_Try_except (wpAny_mono (hb pins s σ H D (I.wish _) ⟨H₀, Z₀, Z, δ, r, hh, e, k⟩) (fun f s1 q => ?_) fun _ _ z => False.elim z)
    have q := q.unwish
    cases f with
    | next => exact wpAny_execs_nil q
    | brk => exact q
    | cont => exact q
    | ret u => exact q
  | some pr =>
    obtain ⟨nm, δ'⟩ := pr
    rw [hbx] at e
    dsimp only at e
    split at e
    rotate_left
    · cases e
    rename_i hcn
    obtain ⟨⟨fl, δ2⟩, e2, e⟩ := bind_some e
    cases e
    obtain ⟨wC, hW, FW, L⟩ := O.ex
    obtain ⟨C, F, hsub⟩ := L.get hcn
    have hhd := I.ok.hd hcalm
    refine wpAny_Try_except (wpAny_mono (hx (X.pn ++ pins) _ [] s σ H ⟨fun _ _ => False, fun _ _ => False, fun _ _ => False, fun _ _ => False⟩ (Inv.toT I _) ⟨H₀, Z₀, Z, δ, (nm, δ'), hh, hbx, ?_⟩) (fun f s1 q => ?_) fun _ _ z => z)
    rotate_left
    · cases f with
      | next => obtain ⟨_, _, _, q⟩ := q; exact q.elim
      | brk => obtain ⟨_, _, _, q⟩ := q; exact q.elim
      | cont => obtain ⟨_, _, _, q⟩ := q; exact q.elim
      | ret u => obtain ⟨_, _, _, _, _, q⟩ := q; exact q.elim
    intro pins' σ' H' Z' s1 e1 s2 hh' sm I1 fg
    cases fg with
    | made hm _ _ _ _ => cases hm
    | @thrown x C' H2 Z2 hC' he T nw hx2 =>
      subst he
      have : C' = C := by have := hC'.symm.trans F.nm; simpa using this
      subst this
      have I1 : Inv X pins σ' H' s1 := Inv.ofT I1
      have T : Thrown X.prog X.w X.stack H' s1 x C' H2 s2 := T
      have ff : ∀ b ∈ frs X.stack, ∃ o, s1.heap.get? b = some o ∧ ∀ vs, o.data ≠ .fields vs := fun b hb => (I1.stack.mem hb).2
      obtain ⟨B, t, fl0, mv⟩ := T.move ff I1.stkFree
      have fl1 := fl0
      rw [hstk] at fl1
      refine wpAny_looks_onW (by rw [I1.ok.frames, hstk]) hfrm fl1 fun h4 held4 sm4 => ?_
      refine wpAny_landsW held4 fun h5 fl5 sm5 => ?_
      have fl5' := fl5
      rw [← hstk] at fl5'
      have T5 := mv h5 t fl5' (sm4.trans sm5)
      have I5 : Inv X pins σ' H2 { s2 with heap := h5 } := I1.call' T5.os T5.un T5.hok T5.bare (fun _ z => nomatch z)
      have hmW := PySem.W.mg_of I.ok.mod.kin I.ok.mod.glob hW
      refine wpAny_handleBy_cons (codeAny_handlers_test (ld_glob (X := cxH X x) (Inv.toH I5 x) hgW hmW ?_ hdb)) (by intro q; cases q)
      obtain ⟨oe, hoe, hoec⟩ := fl5.there
      refine exc_match I5.kIn F FW hsub hoe hoec (codeAny_handlers_suite_as ?_)
      refine lands_againW fl5 fun h6 fl6 sm6 => ?_
      have fl6' := fl6
      rw [← hstk] at fl6'
      have T6 := mv h6 t fl6' ((sm4.trans sm5).trans sm6)
      have I6 : Inv X pins σ' H2 { s2 with heap := h6 } := I1.call' T6.os T6.un T6.hok T6.bare (fun _ z => nomatch z)
      refine store_ok (X := cxH X x) (v := .ref x) (u := .ref x) (Inv.toH I6 x) hN hi (.inl hloc) rfl (fun s7 I7 => ?_) (.inr hloc)
      have hh7 : Hold X.K H₀ Z₀ Z2 (δ'.set i (.fz (exD nm))) (σ'.set i (some (.ref x))) H2 := (hh'.new nw).set (.opq (.exc hC' hx2))
      refine wpAny_mono (hs x pins s7 _ H2 ⟨fun σ8 H8 => D.nx (σ8.set i none) H8, D.rt, fun σ8 H8 => D.bk (σ8.set i none) H8, fun σ8 H8 => D.ct (σ8.set i none) H8⟩ I7 ⟨H₀, Z₀, Z2, _, (fl, δ2), hh7, e2, fun σ8 H8 Z8 hh8 t8 => ?_⟩) (fun f s8 q => ?_) fun _ _ z => False.elim z
      · have := k (σ8.set i none) H8 Z8 (hh8.unset i) ((sm.trans nw.z).trans t8)
        cases fl <;> exact this
      · cases f with
        | next =>
          obtain ⟨σ8, H8, I8, q⟩ := q
          exact unb_ok (Inv.ofH hhd I8) hN hi hloc fun s9 I9 => ⟨_, H8, I9, q⟩
        | brk =>
          obtain ⟨σ8, H8, I8, q⟩ := q
          exact unb_ok (Inv.ofH hhd I8) hN hi hloc fun s9 I9 => ⟨_, H8, I9, q⟩
        | cont =>
          obtain ⟨σ8, H8, I8, q⟩ := q
          exact unb_ok (Inv.ofH hhd I8) hN hi hloc fun s9 I9 => ⟨_, H8, I9, q⟩
        | ret u =>
          obtain ⟨v, σ8, H8, I8, rv, q⟩ := q
          exact unb_ok (Inv.ofH hhd I8) hN hi hloc fun s9 I9 => ⟨v, _, H8, I9, rv, q⟩
end
end VL

set_option Elab.async false
set_option linter.all false
set_option maxRecDepth 100000
set_option maxHeartbeats 4000000
namespace VL
open PySem PySem.Spec PyProof.Rows L2
/-! ### a test that looks at the one list of one's own -/
--PURE
def isOw : Sl → Bool
  | .own _ => true
  | _ => false
@[simp] theorem isOw_fz (d : D) : isOw (.fz d) = false := rfl
@[simp] theorem isOw_un : isOw .un = false := rfl
def sole : Nat → Dv → Bool
  | _, [] => true
  | 0, _ :: r => r.all fun s => !isOw s
  | n + 1, s :: r => !isOw s && sole n r
@[simp] theorem sole_nil (n : Nat) : sole n [] = true := by cases n <;> rfl
@[simp] theorem sole_zero (s : Sl) (r : Dv) : sole 0 (s :: r) = r.all fun s => !isOw s := rfl
@[simp] theorem sole_succ (n : Nat) (s : Sl) (r : Dv) : sole (n + 1) (s :: r) = (!isOw s && sole n r) := rfl
def oPeek (i : Nat) (ft : Dv → Option Bool) : Dv → Option Bool := fun δ => if sole i δ = true then ft (dFz i δ) else none
--END
theorem sole_get : ∀ (i : Nat) (δ : Dv), sole i δ = true → ∀ (j : Nat) (ds : Oc), δ[j]? = some (.own ds) → j = i
  | _, [], _, j, ds, e => by simp at e
  | 0, s :: r, h, 0, ds, e => rfl
  | 0, s :: r, h, j + 1, ds, e => by
    have := List.all_eq_true.mp h (.own ds) (List.mem_of_getElem? (by simpa using e))
    cases this
  | i + 1, s :: r, h, 0, ds, e => by
    have h := (Bool.and_eq_true_iff.mp h).1
    have e : s = .own ds := by simpa using e
    subst e; cases h
  | i + 1, s :: r, h, j + 1, ds, e => congrArg (· + 1) (sole_get i r (Bool.and_eq_true_iff.mp h).2 j ds (by simpa using e))
theorem tv_peek {X : Cx} {e : Expr} {ft : Dv → Option Bool} (i : Nat) (h : TV X e ft) : TV X e (oPeek i ft) :=
  PT.imp h fun σ H Q q => by
    obtain ⟨H₀, Z₀, Z, δ, b, hh, e, k⟩ := q
    unfold oPeek at e
    split at e
    rotate_left
    · cases e
    rename_i hso
    unfold dFz at e
    split at e
    · rename_i ds q
      obtain ⟨a, xs, h1, h2, h3, h4, h5⟩ := hh.ow i ds q
      have hl : i < δ.length := (List.getElem?_eq_some_iff.mp q).1
      have sz : Same Z (upd Z a (.lst xs)) := same_upd h3
      have hh1 : Hold X.K H₀ Z₀ (upd Z a (.lst xs)) (δ.set i (.fz (.list ds))) σ H := by
        refine ⟨fun b o q => ?_, hh.h0, hh.z0.trans sz, fun b hb => ?_, by simp [hh.len], fun j d q => ?_, fun j d q => ?_, fun j k d1 d2 b hjk q1 q2 => ?_⟩
        · by_cases hb : b = a
          · subst hb; rw [upd_same] at q; cases q; exact h4
          · rw [upd_ne hb] at q; exact hh.zh b o q
        · rw [upd_ne (fun z => hb (by rw [z]; exact h2))]; exact hh.zb b hb
        · by_cases hj : i = j
          · subst hj
            rw [List.getElem?_set_self hl] at q
            cases q
            exact ⟨.ref a, h1, .lst (SqL.of upd_same) (h5.same sz)⟩
          · rw [List.getElem?_set_ne hj] at q
            obtain ⟨v, g1, g2⟩ := hh.fz j d q
            exact ⟨v, g1, g2.same sz⟩
        · by_cases hj : i = j
          · subst hj
            rw [List.getElem?_set_self hl] at q
            cases q
          · rw [List.getElem?_set_ne hj] at q
            obtain ⟨b, ws, g1, g2, g3, g4, g5⟩ := hh.own j d q
            have : b ≠ a := fun z => by subst z; rename_i q0; exact hh.dja i j _ d b hj q0 q h1 g1
            exact ⟨b, ws, g1, g2, by rw [upd_ne this]; exact g3, g4, g5.same sz⟩
        · by_cases hj : i = j
          · subst hj
            rw [List.getElem?_set_self hl] at q1
            cases q1
          · by_cases hk : i = k
            · subst hk
              rw [List.getElem?_set_self hl] at q2
              cases q2
            · rw [List.getElem?_set_ne hj] at q1
              rw [List.getElem?_set_ne hk] at q2
              exact hh.dja j k d1 d2 b hjk q1 q2
      refine ⟨H₀, Z₀, _, _, b, hh1, e, fun Z2 H2 hh2 t2 => ?_⟩
      have zl : Same Z (fun c => if c = a then none else Z2 c) := fun c o q => by
        have hc : c ≠ a := ne_of_none q h3
        show (if c = a then none else Z2 c) = some o
        rw [if_neg hc]
        exact t2 c o (sz c o q)
      have back : Hold X.K H₀ Z₀ (fun c => if c = a then none else Z2 c) δ σ H2 := by
        refine ⟨fun b o q => ?_, hh2.h0, hh.z0.trans zl, fun b hb => ?_, hh.len, fun j d q => ?_, fun j d q => ?_, hh.dja⟩
        · have q : (if b = a then none else Z2 b) = some o := q
          split at q
          · cases q
          · exact hh2.zh b o q
        · show (if b = a then none else Z2 b) = _
          rw [if_neg (fun z => hb (by rw [z]; exact h2))]
          exact hh2.zb b hb
        · obtain ⟨v, g1, g2⟩ := hh.fz j d q
          exact ⟨v, g1, g2.same zl⟩
        · by_cases hj : i = j
          · subst hj
            rename_i q0
            rw [q0] at q
            cases q
            refine ⟨a, .lst xs, h1, h2, by simp, hh2.zh a _ (t2 a _ upd_same), .lst (h5.same zl)⟩
          · exact absurd (sole_get i δ hso j d q) (Ne.symm hj)
      exact k _ H2 back zl
    · exact ⟨H₀, Z₀, Z, _, b, hh, e, k⟩
end VL

set_option Elab.async false
set_option linter.all false
set_option maxRecDepth 100000
set_option maxHeartbeats 4000000
namespace VL
open PySem PySem.Spec PyProof.Rows L2
/-! ### xs.count(x), xs.index(x) of flat items -/
--PURE
@[simp] def xThen (f : Dv → Option D) (u : Dv → Option Str) : Dv → Option Str := fun δ => (f δ).bind fun _ => u δ
--END
section
variable {X : Cx} {a b : Expr} {f1 f2 : Dv → Option D} {pos apos : Pos}
/-! ### what raises within a tuple's display -/
variable {m : Bool} {e : Expr} {es : List Expr} {f : Dv → Option D} {fx : Dv → Option Str} {x1 : Nat}
end
end VL

set_option Elab.async false
set_option linter.all false
set_option maxRecDepth 100000
set_option maxHeartbeats 4000000
namespace VL
open PySem PySem.Spec PyProof.Rows L2
/-! ### defs of the text as values -/
--PURE
/-- x.extend(a list) -/
@[simp] def sExtL (i : Nat) (f : Dv → Option D) : Sf := fun δ => (f δ).bind fun v => (lstI v).bind fun es => (slO δ[i]?).bind fun ds => if ds.length + es.length ≤ sizeLine then some (.nx, δ.set i (.ow (ds ++ es))) else none
--END
/-- a def of the text under its name -/
structure CalF (P : Program) (w : World) (K : PySem.W.Frag) (mg : Str → Option Value) (base : Heap) (x : Str) (k : Nat) (g : List D → Option D) : Prop where
  ex : ∃ (fa : Addr) (fd : FuncData) (ps : List Str), FnOk P w K mg base CX0 k fa fd ps (spD K g) ∧ PySem.W.nsIn K mainGlobals x = some (some (.ref fa)) ∧ mg x = some (.ref fa) ∧ PySem.W.keepIn K (.ref fa) = true ∧ Binds K fd ps []
structure Fnm (K : PySem.W.Frag) (mg : Str → Option Value) (x : Str) : Prop where
  ex : ∃ fa, PySem.W.nsIn K mainGlobals x = some (some (.ref fa)) ∧ mg x = some (.ref fa)
section
variable {X : Cx} {e : Expr} {es : List Expr} {p pos : Pos} {fs : Dv → Option (List D)}
end
theorem extend_gen (l : Addr) (items : Array Value) (n : Nat) (b : Addr) (items2 : Array Value) (n2 : Nat) (sl : Array (Option Value)) (hc0 : ¬(!items.isEmpty && Builtin.List.listTooLong (items.size + items2.size)) = true) (hc1 : items.size ≤ sizeLine) (hs2 : items.size + items2.size ≤ sizeLine + 1) :
    Meets (Builtin.«list.extend» ⟨[.ref l, .ref b], []⟩) (fun _ R s => s.heap.get? l = some { cls := .type "list", dict := none, data := .seq items n, slots := #[] } ∧ s.heap.get? b = some { cls := .type "list", dict := none, data := .seq items2 n2, slots := sl } ∧ R (.ok (.ret Value.none)) { s with heap := s.heap.update l (Obj.mapSeq fun x => x ++ items2), toks := s.toks }) :=
  .of_wp fun prog w A R s h => by
    obtain ⟨hp, g, d, tk, os⟩ := s; obtain ⟨hl, hb, h⟩ := h; have f1 := AutoSeq1.idx_int; have f2 := AutoSeq1.sub_tuple_tuple; have f3 := AutoSeq1.sub_list_list; have f4 := AutoSeq1.sub_tuple_list; have f5 := AutoSeq1.sub_list_tuple;
    have hz' : (items ++ items2).size ≤ sizeLine + 1 := by rw [Array.size_append]; exact hs2
    wp_walk using (wpAny_updateSeq hl rfl (hz := hc1) (_hz' := hz')), AutoSeq1.wpAny_loadPart' hl, AutoSeq1.wpAny_loadPart' hb; exact ⟨_, rfl, h⟩
def rExtK (K : Fg) : V → List V → Hp → VK → Prop := fun x vs H Q => ∃ l b xs zs, x = .ref l ∧ vs = [.ref b] ∧ H l = some (.lst xs) ∧ SqL K H b zs ∧ xs.length + zs.length ≤ sizeLine ∧ Q .non (upd H l (.lst (xs ++ zs)))
section
variable {X : Cx}
theorem mt_extK : MtM X "list.extend" (rExtK X.K) := by
  intro pins s σ H x vs v us Q I rx rv h
  obtain ⟨l, b, xs, zs, rfl, rfl, hH, hB, hz, q⟩ := h
  cases rx
  obtain ⟨u, rfl, ru⟩ := rv.one
  cases ru
  obtain ⟨z, its, n, r, hl, e⟩ := I.lstM hH
  obtain ⟨its2, r2, ⟨o2, n2, e2, hc, hd, hs⟩, z2⟩ := I.list hB
  have hl2 := r2.length
  obtain ⟨c2, d2, dt2, sl2⟩ := o2
  dsimp only at hc hd hs
  subst hc hd hs
  have hsz : its.toArray.size + its2.toArray.size ≤ sizeLine := by rw [List.size_toArray, List.size_toArray]; omega
  have hlong : ¬ (!its.toArray.isEmpty && Builtin.List.listTooLong (its.toArray.size + its2.toArray.size)) = true := by
    rw [notLongL hsz, Bool.and_false]
    exact Bool.false_ne_true
  refine call_meets F.slot_list_extend ⟨_, e, rfl⟩ F.entry_list_extend (F.args_list_extend_2 _ _)
    (extend_gen l its.toArray n b its2.toArray n2 sl2 hlong (by rw [List.size_toArray]; omega) (by omega)) ⟨e, e2, ?_⟩
  refine ⟨.non, _, I.lset (its' := its ++ its2) hH e (by simp) (r.append r2) ?_, rfl, q⟩
  rw [List.length_append]
  omega
end
section
variable {X : Cx} {e : Expr} {f : Dv → Option D} {p pos apos : Pos}
theorem sv_extL (i : Nat) {x : Str} {cpos : Pos} (hv' : EV X e f) (hN : X.N[i]? = some x := by rfl) (hv : Vis X.env.scope x := by first | exact Or.inl rfl | exact Or.inr (Or.inl rfl) | exact Or.inr (Or.inr rfl)) (hd : (x == ("__debug__" : Str)) = false := by decide) (hcd : (x == ("__classdict__" : Str)) = false := by decide)
    (hbase : attributeBase (.Name x p) "extend" X.env (eval (.Name x p) X.env) = eval (.Name x p) X.env := by rfl)
    (hfew : ((backTo cpos (starEach [e] X.env)).all (fun x => !x.1) && (backToKw cpos (keywordEach [] X.env)).all (fun x => x.1.isSome)
      && decide ([e].length + ([] : List Keyword).length + (if ([] : List Keyword).isEmpty then 0 else 1) < 30)) = true := by rfl)
    (hline : (apos.endLine == cpos.line) = true := by rfl) (hs : starEach [e] X.env = (false, eval e X.env) :: starEach [] X.env := by rfl) (hplain : (backTo cpos (starEach [] X.env)).any (·.1) = false := by rfl)
    (hsw : swapsWith (.Call (.Attribute (.Name x p) "extend" apos) [e] [] cpos) none pos.line X.env = pure false := by rfl) : SV X (.Expr (.Call (.Attribute (.Name x p) "extend" apos) [e] [] cpos) pos) (sExtL i f) :=
  PS.imp (ps_expr (pe_bm PySem.F.plainAttrs_list PySem.F.slot_list_extend PySem.F.type_list_extend mt_extK (pe_var hN hv hd hcd) (pa_cons hv' pa_nil hs) hbase hfew hline hs hplain) hsw) fun D σ H h => by
    obtain ⟨H₀, Z₀, Z, δ, r, hh, e, k⟩ := h
    obtain ⟨v, e1, e⟩ := bind_some e
    obtain ⟨es, e3, e⟩ := bind_some e
    obtain ⟨ds, e2, e⟩ := bind_some e
    by_cases hl : ds.length + es.length ≤ sizeLine
    · rw [if_pos hl] at e
      cases e
      cases v with
      | list es' =>
        cases e3
        obtain ⟨a, xs, h1, h4, h5⟩ := ow_at hh e2
        refine ⟨_, h1, .inl ⟨rfl, xs, SqL.of h4⟩, H₀, Z₀, Z, δ, _, hh, e1, fun w Z1 H1 hh1 t1 r1 => ?_⟩
        obtain ⟨a', xs', g1, g4, g5⟩ := ow_at hh1 e2
        rw [h1] at g1
        cases g1
        cases r1 with
        | lst q1 q2 =>
          exact ⟨a, _, xs', _, rfl, rfl, g4, SqL.same q1 hh1.zh, by rw [g5.length, q2.length]; exact hl, k σ _ Z1 (hh1.chg (xs := xs') (slO_eq e2) h1 (g5.append q2)) t1⟩
      | _ => cases e3
    · rw [if_neg hl] at e; cases e
end
/-- a comprehension that takes nothing from around it -/
theorem BlkOk.none {on : List (Str × NameKind)} {ON : List Str} {scope : Scope} {vars : List Str} (hk : scope.kind = .function) (hc : ∀ y ∈ scope.names, y.2 ≠ .cell) (hn : ∀ y ∈ scope.names, y.2 = .local → scope.names.lookup y.1 = some .local) (hf : ∀ y ∈ scope.names, y.2 ≠ .free) : BlkOk on ON scope vars [] :=
  ⟨hk, hc, hn, fun y hy e => absurd e (hf y hy), fun p hp => (nomatch hp)⟩
end VL

set_option Elab.async false
set_option linter.all false
set_option maxRecDepth 100000
set_option maxHeartbeats 4000000
namespace VL
open PySem PySem.Spec PyProof.Rows L2
/-! ### a list times an int -/
--PURE
--END
section
variable {X : Cx}
variable {a b : Expr} {pos : Pos} {f1 f2 : Dv → Option D}
end
end VL

set_option Elab.async false
set_option linter.all false
set_option maxRecDepth 100000
set_option maxHeartbeats 4000000
namespace VL
open PySem PySem.Spec PyProof.Rows L2
/-! ### a comprehension whose variable another comprehension within it takes along -/
structure BlkOkC (on : List (Str × NameKind)) (ON : List Str) (scope : Scope) (m : Str) (vars : List Str) (caps : List (Nat × Str)) : Prop where
  kind : scope.kind = .function
  one : (scope.names.filter fun y => y.2 == NameKind.cell) = [(m, NameKind.cell)]
  names : ∀ y ∈ scope.names, y.2 = .local → scope.names.lookup y.1 = some .local
  free : ∀ y ∈ scope.names, y.2 = .free → on.lookup y.1 = some .cell ∨ on.lookup y.1 = some .free
  cap : ∀ p ∈ caps, ON[p.1]? = some p.2 ∧ scope.names.lookup p.2 = some .free
  mc : scope.names.lookup m = some .cell
section
variable {X : Cx} {pins : List (Addr × Obj)} {σ : St} {H H' : Hp} {s s' : Shared} {scope : Scope} {m : Str} {vars : List Str} {caps : List (Nat × Str)} {fp : List Addr} {C : Addr}
theorem BlkOkC.cells (B : BlkOkC X.env.scope.names X.N scope m vars caps) (I : Inv X pins σ H s) : ∀ y ∈ scope.names, y.2 = .free → ∃ c, X.env.cells.lookup y.1 = some c := fun y hy e => I.ok.has y.1 (B.free y hy e)
end
section
variable {X : Cx} {scope : Scope} {m : Str} {vars : List Str} {caps : List (Nat × Str)} {elt tg iter : Expr} {pos : Pos} {wi : TI} {g : TG} {te : TE}
end
section
variable {X : Cx} {scope : Scope} {m : Str} {vars : List Str} {caps : List (Nat × Str)} {elt tg iter : Expr} {pos : Pos} {g : TG} {fi : Dv → Option (List D)} {fe : Dv → Option D} {bv : D → Option (List D)}
end
end VL

set_option Elab.async false
set_option linter.all false
set_option maxRecDepth 100000
set_option maxHeartbeats 4000000
namespace VL
open PySem PySem.Spec PyProof.Rows L2
/-! ### a def that tells a new list -/
def spO (K : Fg) (g : List D → Option D) : Sp := fun vs H Q _ => ∃ Z as ds, Same Z H ∧ Reps K Z vs as ∧ g as = some (.list ds) ∧ ∀ p us Z' H', New Z H Z' H' → H' p = none → Reps K Z' us ds → Q (.ref p) (upd H' p (.lst us))
def tNO (K : Fg) (f : Dv → Option (List D)) : TS := fun D σ H => ∃ H₀ Z₀ Z δ ds, Hold K H₀ Z₀ Z δ σ H ∧ f δ = some ds ∧ ∀ σ' H' Z' δ' p us, Hold K H₀ Z₀ Z' δ' σ' H' → Same Z Z' → H' p = none → Reps K Z' us ds → D.rt (.ref p) (upd H' p (.lst us))
def BO (X : Cx) (sts : List Stmt) (f : Dv → Option (List D)) : Prop := PSs X sts (tNO X.K f)
def sqO (s : Sf) (f : Dv → Option (List D)) : Dv → Option (List D) := fun δ => (s δ).bind fun r => match r.1 with
  | .nx => f r.2
  | _ => none
/-- a statement that always goes on -/
def Nxt (s : Sf) : Prop := ∀ δ r, s δ = some r → r.1 = .nx
section
variable {X : Cx} {e : Expr} {es : List Expr} {p pos : Pos} {st : Stmt} {sts : List Stmt} {f : Dv → Option (List D)} {fs : Dv → Option (List D)} {s : Sf}
theorem bo_cons (h1 : SV X st s) (hn : Nxt s) (h2 : BO X sts f) : BO X (st :: sts) (sqO s f) :=
  PSs.imp (pss_cons h1 h2) fun D σ H h => by
    obtain ⟨H₀, Z₀, Z, δ, ds, hh, e, k⟩ := h
    obtain ⟨⟨fl, δ'⟩, e1, e⟩ := bind_some e
    have hf : fl = .nx := hn δ _ e1
    subst hf
    refine ⟨H₀, Z₀, Z, δ, (.nx, δ'), hh, e1, fun σ' H' Z' hh' t' => ?_⟩
    exact ⟨H₀, Z₀, Z', δ', ds, hh', e, fun σ2 H2 Z2 δ2 p us hh2 t2 hp ru => k σ2 H2 Z2 δ2 p us hh2 (t'.trans t2) hp ru⟩
end
section
variable {P : Program} {w : World} {K : PySem.W.Frag} {mg : Str → Option Value} {base : Heap}
theorem fn_bO {x qual : Str} {st : Stmt} {f : Addr} {fd : FuncData} {dV : Value} {N ps : List Str} {k : Nat} {g : List D → Option D} {b : Dv → Option (List D)} (F : FunV K x qual st f fd dV) (S : FnScope N ps (defScope st))
    (hb : ∀ (cdv : Value) (A : Around) (outer : List Env) (s : Shared) (H : Hp) (E : XK), Room k (A.deeper (envOfC qual (defScope st) s.heap.objs.size f cdv)) → BO (cxOf CX0 P w K mg base N qual (defScope st) f cdv A outer s H E).nox (defBody st) b)
    (hg : ∀ as ds, g as = some (.list ds) → as.length = ps.length ∧ b (startD N as) = some ds) : FnOk P w K mg base CX0 (k + 1) f fd ps (spO K g) := by
  obtain ⟨oc, od, kV, doc, pm, an, cdv, ct, osl, rfl, lk, hcd⟩ := F.ex
  refine fn_of lk hcd S (fun vs H Q E h => ?_) fun A outer s H vs Q E hr hsp => ?_
  · obtain ⟨Z, as, ds, zh, r, e, _⟩ := h
    rw [r.length]
    exact (hg as ds e).1
  · refine ⟨_, PSs.nox (hb cdv A outer s H E hr), ?_⟩
    obtain ⟨Z, as, ds, zh, r, e, kk⟩ := hsp
    have hh := hold_start (N := N) zh r
    exact ⟨H, Z, Z, _, ds, hh, (hg as ds e).2, fun σ' H' Z' δ' p us h' z' hp ru => kk p us Z' H' ⟨z', h'.h0, h'.zh, h'.zb⟩ hp ru⟩
structure CalO (P : Program) (w : World) (K : PySem.W.Frag) (mg : Str → Option Value) (base : Heap) (x : Str) (k : Nat) (g : List D → Option D) (dd : List D) : Prop where
  ex : ∃ (fa : Addr) (fd : FuncData) (ps : List Str) (ds : List Value) (dv : List V), FnOk P w K mg base CX0 k fa fd ps (spO K g) ∧ mg x = some (.ref fa) ∧ PySem.W.keepIn K (.ref fa) = true ∧ Binds K fd ps ds ∧ Vals dv ds ∧ ∀ Z, Reps K Z dv dd
end
section
variable {X : Cx} {e : Expr} {es : List Expr} {p pos : Pos} {fs : Dv → Option (List D)}
theorem eo_def {k : Nat} {x : Str} {g : List D → Option D} {dd : List D} (C : CalO X.prog X.w X.K X.mg X.base x k g dd) (hr : Room k X.A) (hg : Gl X x) (ha : AV X (e :: es) fs) (hdb : (x == ("__debug__" : Str)) = false := by decide) (he : starEach (e :: es) X.env = (false, eval e X.env) :: starEach es X.env := by rfl)
    (hpl : (backTo pos (starEach es X.env)).any (·.1) = false := by rfl) : EO X (.Call (.Name x p) (e :: es) [] pos) (oLi (os fs fun as => g (as ++ dd))) := by
  obtain ⟨fa, fd, ps, ds, dv, F, hm, hk, hb, hd, hdd⟩ := C.ex
  refine PE.imp (pe_call F hr hg hm hk hb hd pass0 ha hdb he hpl) fun σ H Q h => ?_
  obtain ⟨H₀, Z₀, Z, δ, xs, hh, e0, q⟩ := h
  obtain ⟨d, e1, e2⟩ := bind_some e0
  obtain ⟨as, e4, e3⟩ := bind_some e1
  cases d with
  | list ys =>
    cases e2
    exact ⟨H₀, Z₀, Z, δ, as, hh, e4, fun vs Z1 H1 hh1 s1 r1 => ⟨Z1, as ++ dd, xs, hh1.zh, r1.append (hdd Z1), e3, fun p us Z' H' n hp ru => q p us Z' H' (hh1.new n) (s1.trans n.z) hp ru⟩⟩
  | _ => cases e2
theorem eo_def0 {k : Nat} {x : Str} {g : List D → Option D} (C : CalO X.prog X.w X.K X.mg X.base x k g []) (hr : Room k X.A) (hg : Gl X x) (ha : AV X (e :: es) fs) (hdb : (x == ("__debug__" : Str)) = false := by decide) (he : starEach (e :: es) X.env = (false, eval e X.env) :: starEach es X.env := by rfl)
    (hpl : (backTo pos (starEach es X.env)).any (·.1) = false := by rfl) : EO X (.Call (.Name x p) (e :: es) [] pos) (oLi (os fs g)) := by
  have h := eo_def C hr hg ha hdb he hpl (p := p) (pos := pos)
  have e : (fun as => g (as ++ [])) = g := by funext as; rw [List.append_nil]
  rw [e] at h
  exact h
end
section
variable {X : Cx} {scope : Scope} {m : Str} {vars : List Str} {caps : List (Nat × Str)} {elt tg iter : Expr} {pos : Pos} {g : TG} {fi : Dv → Option (List D)} {fe : Dv → Option D} {bv : D → Option (List D)}
end
/-! ### lists of so many -/
theorem len1 {α : Type} : ∀ {us : List α}, us.length = 1 → ∃ a, us = [a]
  | [a], _ => ⟨a, rfl⟩
theorem len2 {α : Type} {us : List α} (h : us.length = 2) : ∃ a b, us = [a, b] := by
  cases us with
  | nil => cases h
  | cons a r =>
    obtain ⟨b, rfl⟩ := len1 (Nat.succ.inj h)
    exact ⟨a, b, rfl⟩
theorem len3 {α : Type} {us : List α} (h : us.length = 3) : ∃ a b c, us = [a, b, c] := by
  cases us with
  | nil => cases h
  | cons a r =>
    obtain ⟨b, c, rfl⟩ := len2 (Nat.succ.inj h)
    exact ⟨a, b, c, rfl⟩
end VL

set_option Elab.async false
set_option linter.all false
set_option maxRecDepth 100000
set_option maxHeartbeats 4000000
namespace VL
open PySem PySem.Spec PyProof.Rows L2
--PURE
/-! ### lists of one's own handed on -/
/-- x.clear() -/
def sClr (i : Nat) : Sf := fun δ => (slO δ[i]?).bind fun _ => some (.nx, δ.set i (.ow []))
def sRetO (i : Nat) : Sf := fun δ => (slO δ[i]?).bind fun ds => some (.rt (.list ds), dFz i δ)
def oOw (i : Nat) : Dv → Option (List D) := fun δ => slO δ[i]?
--END
section
variable {X : Cx} {e : Expr} {es : List Expr} {p p' pos : Pos} {st : Stmt} {sts body : List Stmt} {f f1 f2 : Dv → Option (List D)} {s : Sf} {c : Expr} {ft : Dv → Option Bool}
theorem sv_clear (i : Nat) {x : Str} {apos cpos : Pos} (hN : X.N[i]? = some x := by rfl) (hv : Vis X.env.scope x := by first | exact Or.inl rfl | exact Or.inr (Or.inl rfl) | exact Or.inr (Or.inr rfl)) (hd : (x == ("__debug__" : Str)) = false := by decide) (hcd : (x == ("__classdict__" : Str)) = false := by decide)
    (hbase : attributeBase (.Name x p) "clear" X.env (eval (.Name x p) X.env) = eval (.Name x p) X.env := by rfl) (hline : (apos.endLine == cpos.line) = true := by rfl)
    (hsw : swapsWith (.Call (.Attribute (.Name x p) "clear" apos) [] [] cpos) none pos.line X.env = pure false := by rfl) : SV X (.Expr (.Call (.Attribute (.Name x p) "clear" apos) [] [] cpos) pos) (sClr i) :=
  PS.imp (ps_expr (pe_bm0 PySem.F.plainAttrs_list PySem.F.slot_list_clear PySem.F.type_list_clear mt_clear (pe_var hN hv hd hcd) hbase hline) hsw) fun D σ H h => by
    obtain ⟨H₀, Z₀, Z, δ, r, hh, e, k⟩ := h
    obtain ⟨ds, e2, e⟩ := bind_some e
    cases e
    obtain ⟨a, xs, h1, h4, h5⟩ := ow_at hh e2
    exact ⟨_, h1, .inl ⟨rfl, xs, SqL.of h4⟩, a, xs, rfl, rfl, h4, k σ _ Z (hh.chg (xs := xs) (slO_eq e2) h1 .nil) (Same.refl _)⟩
theorem bo_retV (i : Nat) {x : Str} (hN : X.N[i]? = some x := by rfl) (hv : Vis X.env.scope x := by first | exact Or.inl rfl | exact Or.inr (Or.inl rfl) | exact Or.inr (Or.inr rfl)) (hd : (x == ("__debug__" : Str)) = false := by decide) (hcd : (x == ("__classdict__" : Str)) = false := by decide) : BO X [.Return (some (.Name x p)) pos] (oOw i) :=
  PSs.imp (pss_one (ps_ret (pe_var hN hv hd hcd))) fun D σ H h => by
    obtain ⟨H₀, Z₀, Z, δ, ds, hh, e, k⟩ := h
    obtain ⟨a, xs, h1, h2, h3, h4, h5⟩ := hh.ow i ds (slO_eq e)
    refine ⟨_, h1, ?_⟩
    have eH : upd (fun b => if b = a then none else H b) a (.lst xs) = H := funext fun b => by
      by_cases hb : b = a
      · subst hb; rw [upd_same, h4]
      · rw [upd_ne hb]; exact if_neg hb
    have := k σ (fun b => if b = a then none else H b) Z (List.replicate σ.length .un) a xs ⟨fun b o q => ?_, fun b o q => ?_, hh.z0, hh.zb, by simp, fun j d q => ?_, fun j d q => ?_, fun j l d d' b _ q => ?_⟩ (Same.refl _) (if_pos rfl) h5
    · rw [eH] at this; exact this
    · have : b ≠ a := fun z => by rw [z, h3] at q; cases q
      show (if b = a then none else H b) = some o
      rw [if_neg this]; exact hh.zh b o q
    · have : b ≠ a := fun z => by rw [z, h2] at q; cases q
      show (if b = a then none else H b) = some o
      rw [if_neg this]; exact hh.h0 b o q
    all_goals
      rw [List.getElem?_replicate] at q
      split at q <;> cases q
end
/-! ### statements that always go on -/
theorem nxt_ownE (i : Nat) (f : Dv → Option (List D)) : Nxt (sOwnE i f) := fun δ r h => by
  obtain ⟨x, _, h⟩ := bind_some h
  cases h; rfl
theorem nxt_loop {g : D → Dv → Option Dv} {b : Sf} (hb : Nxt b) : ∀ ds, Nxt (loop g b ds)
  | [], δ, r, h => by cases h; rfl
  | d :: ds, δ, r, h => by
    obtain ⟨δ1, e1, h⟩ := bind_some (show (g d δ).bind _ = _ from h)
    obtain ⟨⟨fl, δ2⟩, e2, h⟩ := bind_some h
    have : fl = .nx := hb _ _ e2
    subst this
    exact nxt_loop hb ds δ2 r h
theorem nxt_for {f : Dv → Option (List D)} {g : D → Dv → Option Dv} {b : Sf} (hb : Nxt b) : Nxt (sFor f g b) := fun δ r h => by
  obtain ⟨ds, e, h⟩ := bind_some h
  exact nxt_loop hb ds δ r h
theorem nxt_extL (i : Nat) (f : Dv → Option D) : Nxt (sExtL i f) := fun δ r h => by
  revert h
  unfold sExtL
  intro h
  obtain ⟨x, _, h⟩ := bind_some h
  obtain ⟨y, _, h⟩ := bind_some h
  obtain ⟨z, _, h⟩ := bind_some h
  split at h
  · cases h; rfl
  · cases h
/-- how a body's own end and its plain end go together -/
def OEnd (b : Sf) (f : Dv → Option (List D)) : Prop := ∀ δ δ' ds, b δ = some (.rt (.list ds), δ') → f δ = some ds
theorem oe_cons {s t : Sf} {f : Dv → Option (List D)} (hs : Nxt s) (h : OEnd t f) : OEnd (sSeq s t) (sqO s f) := fun δ δ' ds e => by
  obtain ⟨⟨fl, δ1⟩, e1, e⟩ := bind_some e
  have : fl = .nx := hs _ _ e1
  subst this
  unfold sqO
  rw [e1, Option.bind_some]
  exact h _ _ _ e
theorem oe_retV (i : Nat) : OEnd (sRetO i) (oOw i) := fun δ δ' ds e => by
  obtain ⟨es, e1, e⟩ := bind_some e
  cases e
  exact e1
theorem SV.sub {X : Cx} {st : Stmt} {f f' : Sf} (h : SV X st f) (w : ∀ δ r, f' δ = some r → f δ = some r) : SV X st f' := PS.imp h fun D σ H q => by
  obtain ⟨H₀, Z₀, Z, δ, r, hh, e, k⟩ := q
  exact ⟨H₀, Z₀, Z, δ, r, hh, w _ _ e, k⟩
theorem sv_retO {X : Cx} {p pos : Pos} (i : Nat) {x : Str} (hN : X.N[i]? = some x := by rfl) (hv : Vis X.env.scope x := by first | exact Or.inl rfl | exact Or.inr (Or.inl rfl) | exact Or.inr (Or.inr rfl)) (hd : (x == ("__debug__" : Str)) = false := by decide) (hcd : (x == ("__classdict__" : Str)) = false := by decide) : SV X (.Return (some (.Name x p)) pos) (sRetO i) :=
  SV.sub (sv_fz i (sv_ret (ev_var i hN hv hd hcd))) fun δ r e => by
    obtain ⟨es, e1, e⟩ := bind_some e
    cases e
    have h := slO_eq e1
    have l := (List.getElem?_eq_some_iff.mp h).1
    have ef : dFz i δ = δ.set i (.fz (.list es)) := by unfold dFz; rw [h]
    show (oV i (dFz i δ)).bind _ = _
    rw [ef]
    unfold oV slV
    rw [List.getElem?_set_self l]
    rfl
theorem run_O {N : List Str} {n : Nat} {b : Sf} {f : Dv → Option (List D)} (h : OEnd b f) : ∀ as ds, runB N n b as = some (.list ds) → as.length = n ∧ f (startD N as) = some ds := fun as ds e => by
  unfold runB at e
  split at e
  · rename_i hl
    obtain ⟨⟨fl, δ'⟩, e1, e⟩ := bind_some e
    refine ⟨hl, ?_⟩
    cases fl with
    | rt d => cases e; exact h _ _ _ e1
    | nx => cases e
    | bk => cases e
    | ct => cases e
  · cases e
end VL

set_option Elab.async false
set_option linter.all false
set_option maxRecDepth 100000
set_option maxHeartbeats 4000000
namespace VL
open PySem PySem.Spec PyProof.Rows L2
--PURE
/-! ### max of a list of ints -/
--END
section
variable {X : Cx}
end
end VL

set_option Elab.async false
set_option linter.all false
set_option maxRecDepth 100000
set_option maxHeartbeats 4000000
namespace VL
open PySem PySem.Spec PyProof.Rows L2
/-! ### a def without defaults, at the top -/
def DefIn (K : PySem.W.Frag) (x y : Str) (st : Stmt) : Prop := ∃ f fd, PySem.W.nsIn K mainGlobals x = some (some (.ref f)) ∧ FunV K y y st f fd .none ∧ PySem.W.keepIn K (.ref f) = true
def BindsAs (x : Str) (st : Stmt) (ps : List Str) : Prop := ∀ (kV doc pm : Value) (an : Option Addr) (cdv ct : Value) (us : List Value), us.length = ps.length → bindArgs (PySem.W.fnOf x x (defArgs st) (defBody st) (defScope st) .none kV doc pm an cdv ct) ⟨us, []⟩ = pure (ps.zip us)
section
variable {P : Program} {w : World} {K : PySem.W.Frag} {mg : Str → Option Value} {base h : Heap} {x y : Str} {st : Stmt} {k : Nat} {ps : List Str}
theorem DefIn.mk {f : Addr} {oc : Value} {od an : Option Addr} {osl : Array (Option Value)} {kV doc pm cdv ct : Value} (a : PySem.W.nsIn K mainGlobals x = some (some (.ref f))) (l : K.lookup f = some ⟨oc, od, .func (PySem.W.fnOf y y (defArgs st) (defBody st) (defScope st) .none kV doc pm an cdv ct), osl⟩)
    (c : PySem.W.codeIn K cdv y = true) (k : PySem.W.keepIn K (.ref f) = true) : DefIn K x y st := ⟨_, _, a, funV_mk l c k, k⟩
variable (D : DefIn K x y st) (X : K.In h) (G : h.Ns mainGlobals mg) (b : BindsAs y st ps)
include D X G
include b
theorem DefIn.cal {g : List VL.D → Option VL.D} (ok : ∀ f fd, FunV K y y st f fd .none → FnOk P w K mg base CX0 k f fd ps (spD K g)) : Cal P w K mg base x k g [] := by
  obtain ⟨f, fd, a, F, hk⟩ := D
  exact Cal.mk0 (ok f fd F) (PySem.W.mg_of X G a) hk (F.binds b)
theorem DefIn.calX {g : List VL.D → Option Str} (ok : ∀ f fd, FunV K y y st f fd .none → FnOk P w K mg base (CXX P w) k f fd ps (spX K g)) : CalX P w K mg base x k g [] := by
  obtain ⟨f, fd, a, F, hk⟩ := D
  exact ⟨⟨_, _, _, [], [], ok f fd F, PySem.W.mg_of X G a, hk, F.binds b, .nil, fun _ => .nil⟩⟩
theorem DefIn.calO {g : List VL.D → Option VL.D} (ok : ∀ f fd, FunV K y y st f fd .none → FnOk P w K mg base CX0 k f fd ps (spO K g)) : CalO P w K mg base x k g [] := by
  obtain ⟨f, fd, a, F, hk⟩ := D
  exact ⟨⟨_, _, _, [], [], ok f fd F, PySem.W.mg_of X G a, hk, F.binds b, .nil, fun _ => .nil⟩⟩
end
end VL

set_option Elab.async false
set_option linter.all false
set_option maxRecDepth 100000
set_option maxHeartbeats 4000000
namespace VL
open PySem PySem.Spec PyProof.Rows L2
open AutoSeq1 (wpAny_loadPart')
/-! ### a tuple times an int -/
--PURE
--END
section
variable {X : Cx}
end
end VL

set_option Elab.async false
set_option linter.all false
set_option maxRecDepth 100000
set_option maxHeartbeats 4000000
namespace VL
open PySem PySem.Spec PyProof.Rows L2
/-! ### is True, is not True, of bools -/
--PURE
def isB (z : Bool) : D → D → Option D
  | .bool a, .bool b => some (.bool (z != (a == b)))
  | _, _ => none
@[simp] theorem isB_bool (z a b : Bool) : isB z (.bool a) (.bool b) = some (.bool (z != (a == b))) := rfl
--END
section
variable {X : Cx}
end
end VL

set_option Elab.async false
set_option linter.all false
set_option maxRecDepth 100000
set_option maxHeartbeats 4000000
namespace VL
open PySem PySem.Spec PyProof.Rows L2
/-! ### a call that raises, of a def with defaults -/
section
variable {m : Bool} {X : Cx} {e c : Expr} {es : List Expr} {f : Dv → Option D} {fs : Dv → Option (List D)} {ft : Dv → Option Bool} {fx : Dv → Option Str} {st : Stmt} {sts body orelse : List Stmt} {s1 : Sf} {u u1 u2 : Xf} {pos p : Pos}
end
end VL

-- CHANGE: your row's module here, as the last of these rows
set_option Elab.async false
set_option linter.all false
set_option maxRecDepth 100000
/-! THE HAND LAYER, for ints, bools, texts, own classes, DICTS (int and text keys), calls, loops. Paste it whole ahead of your own text; what your proof does not reach may be deleted. -/
namespace L2
open PySem PySem.Spec PyProof.Rows

end L2

namespace L2
open PySem PySem.Spec PyProof.Rows

section
variable (P : Program) (w : World)
end

section
variable {P : Program} {w : World} {H H' : Hp} {h h' : Heap} {a : Addr} {o : HO}
end

section
variable {P : Program} {w : World} {H : Hp} {h h' : Heap} {x e : Addr} {o' : HO}
end

/-! ### kept unless tracked; of the frames at fs (the callers') the slots may change (an exception that passes writes there); of the records at ex (iterators) nothing is said -/
section
variable {fs fs' ex ex' : List Addr} {H H1 H2 : Hp} {h h1 h2 h' : Heap} {a x e : Addr} {o : HO}
end

/-! ### the heap without what is tracked -/
/-! ### OpenK's ledger, filled with every new object but one -/
end L2

namespace L2
open PySem PySem.Spec PyProof.Rows

section
variable {X : Cx} {pins : List (Addr × Obj)} {σ : List (Option V)} {H H' : Hp} {s : Shared} {h' : Heap}

end

/-! ### the judgements -/
end L2

namespace L2
open PySem PySem.Spec PyProof.Rows
section
variable {X : Cx}

/-! ### names and constants -/
/-! ### arithmetic -/
variable {a b : Expr} {ta tb : TE} {pos : Pos}
/-! ### comparisons -/
/-! ### and, or, not -/
variable {tA tB' : TT} {rest : List Expr}
end
end L2

namespace L2
open PySem PySem.Spec PyProof.Rows

/-! ### a list, a tuple that is read: tracked, frozen, or an object of the module -/
section
variable {X : Cx} {pins : List (Addr × Obj)} {σ : St} {H : Hp} {s : Shared} {a : Addr} {xs ys : List V}
end

/-! ### another wish about exceptions -/
section
variable {X : Cx} {pins : List (Addr × Obj)} {σ : St} {H : Hp} {s : Shared} {E : Value → Shared → Prop}
end

/-! ### blocks and small statements -/
section
variable {X : Cx} {st : Stmt} {rest : List Stmt} {t u : TS} {e : Expr} {te : TE} {pos : Pos}
end

/-! ### targets -/
section
variable {X : Cx} {pos : Pos}
end

/-! ### while -/
section
variable {X : Cx} {pos : Pos}
end

/-! ### what a loop or a comprehension walks -/
end L2

namespace L2
open PySem PySem.Spec PyProof.Rows
section
variable {X : Cx} {tg : Expr}
/-! ### for -/
end

/-! ### the forms one uses -/
end L2

namespace L2
open PySem PySem.Spec PyProof.Rows

section
variable {X : Cx} {a b c : Expr} {ta tb tc : TE} {pos : Pos}

/-! ### ints -/
/-! ### bools among ints: n += (a < b) -/
end

/-! ### comparisons -/
section
variable {X : Cx} {a b c : Expr} {ta tb tc : TE} {pos : Pos}
/-! ### truth -/
/-! ### strs and bytes -/
/-! ### scalar builtins, by CallR -/
end
end L2

namespace L2
open PySem PySem.Spec PyProof.Rows

/-! ### an instance, its attributes a map -/
section
variable {prog : Program} {w : World} {A : Around} {E : Value → Shared → Prop} {s : Shared} {K : PySem.W.Frag} {x dx C f : Addr} {mA : Str → Option Value} {name : Str} {v : Value}

end

/-! ### the attributes as a list of pairs -/
section
variable {P : Program} {w : World} {H H' : Hp} {h h' : Heap} {a C dx : Addr} {fs fs' : List (Str × V)}
end

/-! ### what of the text a class must have -/
section
variable {X : Cx} {pins : List (Addr × Obj)} {σ : St} {H : Hp} {s : Shared} {a C dx : Addr} {fs : List (Str × V)} {f : Str} {v : V} {A : Around} {E : Value → Shared → Prop}

end

/-! ### readings and rules -/
section
variable {X : Cx} {o e value : Expr} {f : Str} {pos pos' tpos : Pos} {ta tv : TE}
end

/-! ### isinstance -/
section
variable {X : Cx} {pins : List (Addr × Obj)} {σ : St} {H : Hp} {s : Shared} {A : Around} {E : Value → Shared → Prop} {Q : Value → Shared → Prop} {c : Value} {b : Bool}
end
end L2

namespace L2
open PySem PySem.Spec PyProof.Rows

/-! ### room -/
/-! ### argument lists and displays -/
section
variable {X : Cx} {e : Expr} {es : List Expr} {te : TE} {t : TA} {pos : Pos}
end

/-! ### what a def promises -/
section
variable {X : Cx} {pins : List (Addr × Obj)} {σ : St} {H : Hp} {s s' : Shared}
end

/-! ### calls -/
section
variable {X : Cx} {CX : CXT} {k : Nat} {f C : Addr} {fd : FuncData} {ps : List Str} {sp : Sp} {dvs : List V} {ds : List Value} {E : XK} {x m : Str} {p pos apos : Pos} {e o : Expr} {es : List Expr} {ta : TE} {t : TA}

end

/-! ### keywords -/
section
variable {X : Cx} {CX : CXT} {k : Nat} {f C : Addr} {fd : FuncData} {ps ks : List Str} {sp : Sp} {E : XK} {x m : Str} {p pos apos kpos : Pos} {e o : Expr} {es : List Expr} {kws : List Keyword} {te ta : TE} {t tk : TA} {nm : Option Str}
variable {g : List Value → List Value → List Value} {gV : List V → List V → List V}
end

/-! ### a def's body keeps its promise -/
end L2

namespace L2
open PySem PySem.Spec PyProof.Rows
section
variable {X : Cx} {x : Str} {p pos : Pos} {e : Expr} {es : List Expr} {t : TA} {id T : String} {r : List V → Hp → VK → Prop}

end
end L2

namespace L2
open PySem PySem.Spec PyProof.Rows

/-! ### lists of pairs as tables -/
section
variable {κ : Type} [DecidableEq κ]
def valV (kvs : List (κ × V)) (k : κ) : Option V := (kvs.find? fun kv => decide (kv.1 = k)).map (·.2)
/-- in its place, or at the end -/
def putK (kvs : List (κ × V)) (k : κ) (v : V) : List (κ × V) :=
  if (kvs.any fun kv => decide (kv.1 = k)) = true then kvs.map (fun kv => if kv.1 = k then (kv.1, v) else kv) else kvs ++ [(k, v)]
def dropK (kvs : List (κ × V)) (k : κ) : List (κ × V) := kvs.filter fun kv => decide (kv.1 ≠ k)

theorem valV_pos {p : κ × V} {r : List (κ × V)} {k : κ} (e : p.1 = k) : valV (p :: r) k = some p.2 := by simp [valV, List.find?_cons, e]
theorem valV_neg {p : κ × V} {r : List (κ × V)} {k : κ} (e : ¬ p.1 = k) : valV (p :: r) k = valV r k := by simp [valV, List.find?_cons, e]
theorem valV_any (k : κ) : ∀ kvs : List (κ × V), (kvs.any fun kv => decide (kv.1 = k)) = (valV kvs k).isSome
  | [] => rfl
  | p :: r => by
    rw [List.any_cons]
    by_cases e : p.1 = k
    · simp only [valV_pos e, decide_eq_true e, Bool.true_or, Option.isSome_some]
    · rw [valV_neg e, decide_eq_false e, Bool.false_or]; exact valV_any k r
theorem length_putK (kvs : List (κ × V)) (k : κ) (v : V) : (putK kvs k v).length ≤ kvs.length + 1 := by
  unfold putK
  split
  · rw [List.length_map]; omega
  · rw [List.length_append, List.length_cons, List.length_nil]; omega
theorem RelO.isSome_eq {o : Option V} {u : Option Value} (r : RelO o u) : o.isSome = u.isSome := by
  cases o with
  | none => cases u with
    | none => rfl
    | some _ => exact (show False from r).elim
  | some _ => cases u with
    | none => exact (show False from r).elim
    | some _ => rfl
theorem RelO.getD {o : Option V} {u : Option Value} {d : V} {d' : Value} (r : RelO o u) (rd : RelV d d') : RelV (o.getD d) (u.getD d') := by
  cases o with
  | none => cases u with
    | none => exact rd
    | some _ => exact (show False from r).elim
  | some _ => cases u with
    | none => exact (show False from r).elim
    | some _ => exact r

/-- raw tables of the same keys -/
theorem KV.val {kvs : List (κ × V)} {vs : List (κ × Value)} (r : KV kvs vs) (k : κ) : RelO (valV kvs k) (valueAt vs k) := by
  unfold KV at r
  induction r with
  | nil => exact True.intro
  | @cons p q ps qs h t ih =>
    obtain ⟨h1, h2⟩ := h
    by_cases e : p.1 = k
    · have e' : q.1 = k := h1.symm.trans e
      have b : valueAt (q :: qs) k = some q.2 := by simp [valueAt, List.find?_cons, e']
      rw [valV_pos e, b]; exact h2
    · have e' : ¬ q.1 = k := fun z => e (h1.trans z)
      have b : valueAt (q :: qs) k = valueAt qs k := by simp [valueAt, List.find?_cons, e']
      rw [valV_neg e, b]; exact ih
theorem KV.any {kvs : List (κ × V)} {vs : List (κ × Value)} (r : KV kvs vs) (k : κ) : (kvs.any fun kv => decide (kv.1 = k)) = vs.any fun kv => decide (kv.1 = k) := by
  unfold KV at r
  induction r with
  | nil => rfl
  | cons h t ih => rw [List.any_cons, List.any_cons, ih, h.1]
theorem KV.repl {kvs : List (κ × V)} {vs : List (κ × Value)} (r : KV kvs vs) (k : κ) {y : V} {u : Value} (ry : RelV y u) :
    KV (kvs.map fun kv => if kv.1 = k then (kv.1, y) else kv) (vs.map fun kv => if kv.1 = k then (kv.1, u) else kv) := by
  unfold KV at r ⊢
  induction r with
  | nil => exact .nil
  | @cons p q ps qs h t ih =>
    rw [List.map_cons, List.map_cons]
    refine .cons ?_ ih
    obtain ⟨h1, h2⟩ := h
    by_cases e : p.1 = k
    · rw [if_pos e, if_pos (h1.symm.trans e)]; exact ⟨h1, ry⟩
    · rw [if_neg e, if_neg (fun z => e (h1.trans z))]; exact ⟨h1, h2⟩
theorem KV.put {kvs : List (κ × V)} {vs : List (κ × Value)} (r : KV kvs vs) (k : κ) {y : V} {u : Value} (ry : RelV y u) : KV (putK kvs k y) (stored vs k u) := by
  unfold putK stored
  rw [r.any k]
  by_cases e : (vs.any fun kv => decide (kv.1 = k)) = true
  · rw [if_pos e, if_pos e]; exact r.repl k ry
  · rw [if_neg e, if_neg e]; exact Paired.snoc r ⟨rfl, ry⟩
theorem KV.drop {kvs : List (κ × V)} {vs : List (κ × Value)} (r : KV kvs vs) (k : κ) : KV (dropK kvs k) (without vs k) := by
  unfold KV at r ⊢
  unfold dropK without
  induction r with
  | nil => exact .nil
  | @cons p q ps qs h t ih =>
    obtain ⟨h1, h2⟩ := h
    rw [List.filter_cons, List.filter_cons]
    by_cases e : p.1 = k
    · have a : ¬ decide (p.1 ≠ k) = true := by simp [e]
      have b : ¬ decide (q.1 ≠ k) = true := by simp [h1.symm.trans e]
      rw [if_neg a, if_neg b]; exact ih
    · have e' : ¬ q.1 = k := fun z => e (h1.trans z)
      have a : decide (p.1 ≠ k) = true := by simp [e]
      have b : decide (q.1 ≠ k) = true := by simp [e']
      rw [if_pos a, if_pos b]; exact .cons ⟨h1, h2⟩ ih
theorem KV.keys {kvs : List (κ × V)} {vs : List (κ × Value)} (r : KV kvs vs) : kvs.map (·.1) = vs.map (·.1) := by
  unfold KV at r
  induction r with
  | nil => rfl
  | cons h t ih => rw [List.map_cons, List.map_cons, ih, h.1]
theorem KV.length {kvs : List (κ × V)} {vs : List (κ × Value)} (r : KV kvs vs) : kvs.length = vs.length := Paired.length r
end


/-! ### a tracked dict, its keys ints and texts or tuples of these -/
theorem kV_is {P : Program} {w : World} {k : Key} {u : Value} (r : RelV (kV k) u) : (mixKind P w).is k u = true := by
  cases k with
  | inl i => obtain ⟨t, e⟩ := (show ∃ t, u = Value.int i t from r); subst e; exact mixKind_int P w i t
  | inr x => obtain ⟨t, e⟩ := (show ∃ t, u = Value.str x t from r); subst e; exact mixKind_str P w x t
theorem items_are {P : Program} {w : World} : ∀ {ks : List Key} {us : List Value}, Vals (ks.map kV) us → ItemsAre (mixKind P w) ks us
  | [], _, r => by rw [List.map_nil] at r; cases r; exact .nil
  | k :: ks, _, r => by
    rw [List.map_cons] at r
    cases r with
    | cons h t => exact .cons (kV_is h) (items_are t)

/-- raw entries of a dict with tuple keys -/
abbrev KT (H : Hp) : List (List Key × V) → List (List Key × Addr × Value) → Prop := Paired fun p q => p.1 = q.1 ∧ H q.2.1 = some (.tup (p.1.map kV)) ∧ RelV p.2 q.2.2
theorem KT.val {H : Hp} {kvs : List (List Key × V)} {xs : List (List Key × Addr × Value)} (r : KT H kvs xs) (k : List Key) : RelO (valV kvs k) ((atKey xs k).map (·.2)) := by
  induction r with
  | nil => exact True.intro
  | @cons p q ps qs h t ih =>
    obtain ⟨h1, _, h2⟩ := h
    by_cases e : p.1 = k
    · have e' : q.1 = k := h1.symm.trans e
      have b : atKey (q :: qs) k = some q.2 := by simp [atKey, List.find?_cons, e']
      rw [valV_pos e, b]; exact h2
    · have e' : ¬ q.1 = k := fun z => e (h1.trans z)
      have b : atKey (q :: qs) k = atKey qs k := by simp [atKey, List.find?_cons, e']
      rw [valV_neg e, b]; exact ih
theorem KT.repl {H : Hp} {kvs : List (List Key × V)} {xs : List (List Key × Addr × Value)} (r : KT H kvs xs) (k : List Key) {y : V} {u : Value} (ry : RelV y u) :
    KT H (kvs.map fun kv => if kv.1 = k then (kv.1, y) else kv) (xs.map (putAt k u)) := by
  induction r with
  | nil => exact .nil
  | @cons p q ps qs h t ih =>
    rw [List.map_cons, List.map_cons]
    refine .cons ?_ ih
    obtain ⟨h1, h2, h3⟩ := h
    unfold putAt
    by_cases e : p.1 = k
    · rw [if_pos e, if_pos (h1.symm.trans e)]; exact ⟨h1, h2, ry⟩
    · rw [if_neg e, if_neg (fun z => e (h1.trans z))]; exact ⟨h1, h2, h3⟩
theorem KT.put {H : Hp} {kvs : List (List Key × V)} {xs : List (List Key × Addr × Value)} (r : KT H kvs xs) (k : List Key) {b : Addr} {y : V} {u : Value} (hb : H b = some (.tup (k.map kV))) (ry : RelV y u) :
    KT H (putK kvs k y) (storedH xs k b u) := by
  have e : (kvs.any fun kv => decide (kv.1 = k)) = (atKey xs k).isSome := by
    rw [valV_any, (r.val k).isSome_eq, Option.isSome_map]
  unfold putK storedH
  rw [e]
  by_cases q : (atKey xs k).isSome = true
  · rw [if_pos q, if_pos q]; exact r.repl k ry
  · rw [if_neg q, if_neg q]; exact Paired.snoc r ⟨rfl, hb, ry⟩
theorem KT.keeps {H H' : Hp} {kvs : List (List Key × V)} {xs : List (List Key × Addr × Value)} (r : KT H kvs xs) (ht : ∀ b ys, H b = some (.tup ys) → H' b = some (.tup ys)) : KT H' kvs xs :=
  Paired.mapP r fun _ _ z => ⟨z.1, ht _ _ z.2.1, z.2.2⟩

section
variable {P : Program} {w : World} {H : Hp} {h : Heap} {a : Addr}
theorem rd_of {u : HO} (ok : HOk P w H h) (e : Rd H a u) : ObjOk P w H h a u := e.ok ok
theorem dk_rd {kvs : List (Key × V)} (ok : HOk P w H h) (e : Rd H a (.dK kvs)) : kvs.length ≤ sizeLine ∧ (a == sysModules) = false ∧ ∃ vs, KV kvs vs ∧ h.DictOf (mixKind P w) a vs :=
  show ObjOk P w H h a (.dK kvs) from rd_of ok e
theorem dk_of {kvs : List (Key × V)} (ok : HOk P w H h) (e : H a = some (.dK kvs)) : kvs.length ≤ sizeLine ∧ (a == sysModules) = false ∧ ∃ vs, KV kvs vs ∧ h.DictOf (mixKind P w) a vs := dk_rd ok (.inl e)
/-- a tracked tuple of ints and texts is a key -/
theorem key_of {ks : List Key} (ok : HOk P w H h) (e : H a = some (.tup (ks.map kV))) : (tupleKind (mixKind P w)).is h ks a := by
  obtain ⟨_, its, r, o, h1, h2, n, h3⟩ := (show ObjOk P w H h a (.tup (ks.map kV)) from ok a _ e)
  exact ⟨o, its.toArray, n, h1, h2, h3, by simpa using items_are r⟩
theorem dt_rd {kvs : List (List Key × V)} (ok : HOk P w H h) (e : Rd H a (.dT kvs)) : kvs.length ≤ sizeLine ∧ (a == sysModules) = false ∧
    ∃ xs, KT H kvs xs ∧ h.DictOfH (tupleKind (mixKind P w)) a xs := by
  obtain ⟨z, y, xs, r, o, es, ep, h1, h2, h3, h4, h5⟩ := (show ObjOk P w H h a (.dT kvs) from rd_of ok e)
  refine ⟨z, y, xs, r, o, es, ep, h1, h2, h3, h4, fun x hx => ?_, h5⟩
  have all : ∀ {l : List (List Key × V)} {m : List (List Key × Addr × Value)}, KT H l m → ∀ x ∈ m, (tupleKind (mixKind P w)).is h x.1 x.2.1 := by
    intro l m q
    induction q with
    | nil => intro x hx; exact nomatch hx
    | @cons p q ps qs hq t ih =>
      intro x hx
      rcases List.mem_cons.mp hx with e | hx
      · subst e
        exact key_of ok (by rw [← hq.1]; exact hq.2.1)
      · exact ih x hx
  exact all r x hx
theorem dt_of {kvs : List (List Key × V)} (ok : HOk P w H h) (e : H a = some (.dT kvs)) : kvs.length ≤ sizeLine ∧ (a == sysModules) = false ∧
    ∃ xs, KT H kvs xs ∧ h.DictOfH (tupleKind (mixKind P w)) a xs := dt_rd ok (.inl e)
end

/-- what the dict at a holds at the key y -/
def DGet (H : Hp) (a : Addr) (y : V) (r : Option V) : Prop :=
  (∃ kvs k, Rd H a (.dK kvs) ∧ y = kV k ∧ r = valV kvs k) ∨ ∃ kvs k b, Rd H a (.dT kvs) ∧ y = .ref b ∧ H b = some (.tup (k.map kV)) ∧ r = valV kvs k
/-- the heap behind a[y] = v -/
def DPut (H : Hp) (a : Addr) (y v : V) (H' : Hp) : Prop :=
  (∃ kvs k, H a = some (.dK kvs) ∧ y = kV k ∧ kvs.length < sizeLine ∧ H' = upd H a (.dK (putK kvs k v))) ∨
  ∃ kvs k b, H a = some (.dT kvs) ∧ y = .ref b ∧ H b = some (.tup (k.map kV)) ∧ kvs.length < sizeLine ∧ H' = upd H a (.dT (putK kvs k v))
theorem DGet.k {H : Hp} {a : Addr} {kvs : List (Key × V)} {k : Key} (e : H a = some (.dK kvs)) : DGet H a (kV k) (valV kvs k) := .inl ⟨kvs, k, .inl e, rfl, rfl⟩
theorem DGet.t {H : Hp} {a b : Addr} {kvs : List (List Key × V)} {k : List Key} (e : H a = some (.dT kvs)) (eb : H b = some (.tup (k.map kV))) : DGet H a (.ref b) (valV kvs k) := .inr ⟨kvs, k, b, .inl e, rfl, eb, rfl⟩
theorem DPut.k {H : Hp} {a : Addr} {kvs : List (Key × V)} {k : Key} {v : V} (e : H a = some (.dK kvs)) (hl : kvs.length < sizeLine) : DPut H a (kV k) v (upd H a (.dK (putK kvs k v))) := .inl ⟨kvs, k, e, rfl, hl, rfl⟩
theorem DPut.t {H : Hp} {a b : Addr} {kvs : List (List Key × V)} {k : List Key} {v : V} (e : H a = some (.dT kvs)) (eb : H b = some (.tup (k.map kV))) (hl : kvs.length < sizeLine) :
    DPut H a (.ref b) v (upd H a (.dT (putK kvs k v))) := .inr ⟨kvs, k, b, e, rfl, eb, hl, rfl⟩


section
variable {X : Cx} {pins : List (Addr × Obj)} {σ : St} {H : Hp} {s : Shared} {a : Addr} {y v : V} {u r : Value} {o : Option V} {A : Around} {E : Value → Shared → Prop}

theorem Inv.big (I : Inv X pins σ H s) : sysModules < s.heap.objs.size := by
  have h : mainGlobals < s.heap.objs.size := (I.mod.glob.keeps I.bk).lt
  exact Nat.lt_trans (by decide) h

/-- d[y], there -/
theorem d_getItem {Q : Value → Shared → Prop} (hu : A.units + 1 < cLine) (I : Inv X pins σ H s) (g : DGet H a y (some v)) (ry : RelV y u) (h : ∀ w' s', Inv X pins σ H s' → RelV v w' → Q w' s') :
    wpAny (model X.prog X.w) A (getItem (.ref a) u) Q E s := by
  rcases g with ⟨kvs, k, e, ey, l⟩ | ⟨kvs, k, b, e, ey, eb, l⟩
  · subst ey
    obtain ⟨z, hd, vs, rel, dd⟩ := dk_rd I.hok e
    obtain ⟨w', hw, rw'⟩ := RelO.some_of (v := v) (o := valueAt vs k) (by rw [l]; exact rel.val k)
    exact wpAny_getItem_of (kV_is ry) dd.mapOf hw (h w' _ (I.tok _) rw')
  · subst ey
    cases (show u = Value.ref b from ry)
    obtain ⟨z, hd, xs, rel, dd⟩ := dt_rd I.hok e
    obtain ⟨w', hw, rw'⟩ := RelO.some_of (v := v) (o := (atKey xs k).map (·.2)) (by rw [l]; exact rel.val k)
    obtain ⟨p, hp, hp2⟩ := Option.map_eq_some_iff.mp hw
    refine wpAny_getItem_heap (tupleKind_room_in1 hu) (key_of I.hok eb) dd hp ?_
    rw [hp2]
    exact h w' _ (I.tok _) rw'
/-- y in d -/
theorem d_in {Q : Value → Shared → Prop} (hu : A.units + 1 < cLine) (I : Inv X pins σ H s) (g : DGet H a y o) (ry : RelV y u) (h : ∀ s', Inv X pins σ H s' → Q (.bool o.isSome) s') :
    wpAny (model X.prog X.w) A (compareOp .In u (.ref a)) Q E s := by
  rcases g with ⟨kvs, k, e, ey, l⟩ | ⟨kvs, k, b, e, ey, eb, l⟩
  · subst ey
    obtain ⟨z, hd, vs, rel, dd⟩ := dk_rd I.hok e
    refine wpAny_in_of (kV_is ry) hd dd.mapOf ?_
    rw [← (rel.val k).isSome_eq, ← l]
    exact h _ (I.tok _)
  · subst ey
    cases (show u = Value.ref b from ry)
    obtain ⟨z, hd, xs, rel, dd⟩ := dt_rd I.hok e
    refine wpAny_in_heap (tupleKind_room_in1 hu) (key_of I.hok eb) hd dd ?_
    have q := (rel.val k).isSome_eq
    rw [Option.isSome_map] at q
    rw [← q, ← l]
    exact h _ (I.tok _)
/-- a dict's object is replaced -/
theorem d_write {h' : Heap} {t' : Nat} {ob : HO} (I : Inv X pins σ H s) (mu : Mut (H a)) (hs : Heap.SameBut a s.heap h') (he : ∃ q, h'.get? a = some q) (new : ObjOk X.prog X.w (upd H a ob) h' a ob) :
    Inv X pins σ (upd H a ob) { s with heap := h', toks := t' } :=
  I.write (x := a) (e := a) mu (.inl rfl) (fun b q hb z => (hs.2 b hb).trans z) he new
theorem dk_new {P : Program} {w : World} {H' : Hp} {h' : Heap} {kvs : List (Key × V)} {vs : List (Key × Value)} (z : kvs.length ≤ sizeLine) (hd : (a == sysModules) = false) (rel : KV kvs vs) (dd : h'.DictOf (mixKind P w) a vs) :
    ObjOk P w H' h' a (.dK kvs) := ⟨z, hd, vs, rel, dd⟩
/-- d[y] = v -/
theorem d_setItem {H' : Hp} {Q : Unit → Shared → Prop} (hu : A.units + 1 < cLine) (I : Inv X pins σ H s) (g : DPut H a y v H') (ry : RelV y u) (rv : RelV v r) (h : ∀ s', Inv X pins σ H' s' → Q () s') :
    wpAny (model X.prog X.w) A (setItem (.ref a) u r) Q E s := by
  rcases g with ⟨kvs, k, e, ey, l, eH⟩ | ⟨kvs, k, b, e, ey, eb, l, eH⟩
  · subst ey eH
    obtain ⟨z, hd, vs, rel, dd⟩ := dk_of I.hok e
    have hz : vs.length ≤ sizeLine := by rw [← rel.length]; exact z
    have hl : (putK kvs k v).length ≤ sizeLine := by have := length_putK kvs k v; omega
    refine wpAny_setItem_pairs (hsz := hz) (kV_is ry) dd fun h' dd' hs => h _ ?_
    have he : ∃ q, h'.get? a = some q := let ⟨q, _, _, hq, _⟩ := dd'; ⟨q, hq⟩
    exact d_write I (by rw [e]; exact True.intro) hs he (dk_new hl hd (rel.put k rv) dd')
  · subst ey eH
    cases (show u = Value.ref b from ry)
    obtain ⟨z, hd, xs, rel, dd⟩ := dt_of I.hok e
    have hz : xs.length ≤ sizeLine := by rw [← Paired.length rel]; exact z
    have hl : (putK kvs k v).length ≤ sizeLine := by have := length_putK kvs k v; omega
    refine wpAny_setItem_heap (hsz := hz) (tupleKind_room_in1 hu) (key_of I.hok eb) dd fun h' dd' hs => h _ ?_
    obtain ⟨q, es, ep, hq, h2, h3, h4, _, h5⟩ := dd'
    refine d_write I (by rw [e]; exact True.intro) hs ⟨q, hq⟩ ⟨hl, hd, _, (rel.put k eb rv).keeps fun c ys ec => ?_, q, es, ep, hq, h2, h3, h4, h5⟩
    rw [upd_ne (ne_of ec e (fun z => nomatch z))]
    exact ec
end

section
variable {X : Cx} {pins : List (Addr × Obj)} {σ : St} {H : Hp} {s : Shared} {a : Addr} {kvs : List (Key × V)} {k : Key} {u : Value} {A : Around} {E : Value → Shared → Prop}
/-- len(d) -/
theorem d_len {Q : Value → Shared → Prop} (I : Inv X pins σ H s) (e : Rd H a (.dK kvs)) (h : ∀ t s', Inv X pins σ H s' → Q (.int kvs.length t) s') : wpAny (model X.prog X.w) A (call (.builtin "len") [.ref a]) Q E s := by
  obtain ⟨z, hd, vs, rel, dd⟩ := dk_rd I.hok e
  refine call_len_dict hd dd (by rw [← rel.length]; rw [sizeLine_eq] at z; omega) ?_
  rw [← rel.length]
  exact h _ _ (I.tok _)
end


/-! ### readings and rules -/
/-- the element of a subscription, not a slice -/
def NoSl (i : Expr) : Prop := ∀ ov iv, subscripted i false ov iv = operate [ov, iv] (getItem ov iv)
theorem subD_of {prog : Program} {w : World} {A : Around} {E : Value → Shared → Prop} {s : Shared} {env : Env} {value slice : Expr} {pos : Pos} {T id : String} {Q : Value → Shared → Prop}
    (hl : typeLookup (.type T) "__getitem__" = pure (some (.builtin id))) (hs : NoSl slice)
    (h : wpAny (model prog w) A (eval value env) (fun o s₁ => wpAny (model prog w) A (eval slice env) (fun i s₂ => s₂.TypeIs o T ∧ wpAny (model prog w) A (getItem o i) Q E s₂) E s₁) E s) :
    wpAny (model prog w) A (eval (.Subscript value slice pos) env) Q E s := by
  refine Subscript_ (wpAny_mono h (fun o s₁ h₁ => wpAny_mono h₁ (fun i s₂ h₂ => ?_) fun _ _ x => x) fun _ _ x => x)
  obtain ⟨hT, h₂⟩ := h₂
  unfold subscriptTail
  refine wpAny_bind ?_
  rw [getitemInPython_of_ne hT.not_modules]
  refine wpAny_bind (wpAny_specialOf hT hl ?_)
  have fin : wpAny (model prog w) A (subscripted slice false o i) (fun r s₃ => wpAny (model prog w) A (letTemporaryGo value o r >>= fun _ => pure r) Q E s₃) E s₂ := by
    rw [hs o i]
    exact wpAny_operating (wpAny_mono h₂ (fun r s₃ h₃ => wpAny_bind (wpAny_letTemporaryGo (wpAny_pure h₃))) fun _ _ x => x)
  first
    | exact wpAny_pure (wpAny_bind fin)
    | exact wpAny_bind (wpAny_pure (wpAny_bind fin))
    | exact wpAny_bind fin

theorem dict_typeIs {X : Cx} {pins : List (Addr × Obj)} {σ : St} {H : Hp} {s : Shared} {a : Addr} {y : V} {o : Option V} (I : Inv X pins σ H s) (g : DGet H a y o) : s.TypeIs (.ref a) "dict" := by
  rcases g with ⟨kvs, k, e, _, _⟩ | ⟨kvs, k, b, e, _, _, _⟩
  · obtain ⟨_, _, vs, _, dd⟩ := dk_rd I.hok e
    exact dd.typeIs
  · obtain ⟨_, _, xs, _, dd⟩ := dt_rd I.hok e
    exact dd.typeIs
/-- d[y] -/
def tDGet (td ty : TE) : TE := fun σ H Q => td σ H fun x H1 => ty σ H1 fun y H2 => ∃ a v, x = .ref a ∧ DGet H2 a y (some v) ∧ Q v H2
/-- d[y] = v -/
def sDPut (td ty tv : TE) : TS := fun D σ H => tv σ H fun v H1 => td σ H1 fun x H2 => ty σ H2 fun y H3 => ∃ a H4, x = .ref a ∧ DPut H3 a y v H4 ∧ D.nx σ H4
section
variable {X : Cx} {o i e value : Expr} {pos pos' tpos : Pos} {td ty tv : TE}
theorem pe_dget (hu : X.A.units + 1 < cLine) (ho : PE X o td) (hi : PE X i ty) (hs : NoSl i) : PE X (.Subscript o i pos) (tDGet td ty) := by
  intro pins s σ H Q I h
  refine subD_of PySem.F.slot_dict_getitem.lookup hs (thn (ho pins s σ H _ I h) fun u s1 ⟨x, H1, I1, rx, q1⟩ => thn (hi pins s1 σ H1 _ I1 q1) fun iv s2 ⟨y, H2, I2, ry, a, v, ex, g, q2⟩ => ?_)
  subst ex
  obtain rfl : u = Value.ref a := rx
  exact ⟨dict_typeIs I2 g, d_getItem hu I2 g ry fun w' s3 I3 rw' => ⟨v, H2, I3, rw', q2⟩⟩
theorem ps_dput (hu : X.A.units + 1 < cLine) (ho : PE X o td) (hi : PE X i ty) (hv : PE X value tv) (hs : swapsWith value (some (.Subscript o i pos')) pos.line X.env = pure false) :
    PS X (.Assign [.Subscript o i pos'] value pos) (sDPut td ty tv) := by
  intro pins s σ H D I h
  refine wpAny_Assign_Subscript (thn (hv pins s σ H _ I h) fun r s1 ⟨v, H1, I1, rv, q1⟩ => thn (ho pins s1 σ H1 _ I1 q1) fun u s2 ⟨x, H2, I2, rx, q2⟩ => thn (hi pins s2 σ H2 _ I2 q2) fun iv s3 ⟨y, H3, I3, ry, a, H4, ex, g, q3⟩ => ?_) hs
  subst ex
  obtain rfl : u = Value.ref a := rx
  exact d_setItem hu I3 g ry rv fun s4 I4 => ⟨σ, H4, I4, q3⟩
end


/-! ### displays -/
theorem dk_empty {P : Program} {w : World} {H : Hp} (h : Heap) (hb : sysModules < h.objs.size) : ObjOk P w H (h.push { cls := .type "dict", data := .dict #[] }) h.objs.size (.dK []) :=
  ⟨Nat.zero_le _, beq_eq_false_iff_ne.mpr (Ne.symm (Nat.ne_of_lt hb)), [], .nil, Heap.DictOf.new h⟩
/-- {}, to be a dict of the kind that is wanted -/
def tDNewK : TE := fun _ H Q => ∀ p, H p = none → Q (.ref p) (upd H p (.dK []))
section
variable {X : Cx} {pos : Pos}
theorem pe_dnewK : PE X (.Dict [] [] pos) tDNewK := fun pins s σ H Q I h =>
  wpAny_Dict_empty ⟨.ref s.heap.objs.size, _, I.laid (a := s.heap.objs.size) (o := .dK []) (t' := s.toks) (fun _ _ q => Heap.get?_push_of_some _ q) (Nat.le_refl _) (dk_empty s.heap I.big), rfl, h _ (I.hok.fresh (Nat.le_refl _))⟩
end

/-! ### methods -/
/-- a method call o.m(e) of a built-in, with one argument: what must be seen of the text -/
structure M1 (X : Cx) (o : Expr) (m : Str) (apos : Pos) (e : Expr) (cpos : Pos) : Prop where
  base : attributeBase o m X.env (eval o X.env) = eval o X.env
  few : ((backTo cpos (starEach [e] X.env)).all (fun x => !x.1) && (backToKw cpos (keywordEach [] X.env)).all (fun x => x.1.isSome)
    && decide (([e] : List Expr).length + ([] : List Keyword).length + (if ([] : List Keyword).isEmpty then 0 else 1) < 30)) = true
  line : (apos.endLine == cpos.line) = true
  trees : backTo cpos (starEach [e] X.env) = [(false, eval e X.env)]
structure M2 (X : Cx) (o : Expr) (m : Str) (apos : Pos) (e f : Expr) (cpos : Pos) : Prop where
  base : attributeBase o m X.env (eval o X.env) = eval o X.env
  few : ((backTo cpos (starEach [e, f] X.env)).all (fun x => !x.1) && (backToKw cpos (keywordEach [] X.env)).all (fun x => x.1.isSome)
    && decide (([e, f] : List Expr).length + ([] : List Keyword).length + (if ([] : List Keyword).isEmpty then 0 else 1) < 30)) = true
  line : (apos.endLine == cpos.line) = true
  trees : backTo cpos (starEach [e, f] X.env) = [(false, eval e X.env), (false, eval f X.env)]

section
variable {X : Cx} {pins : List (Addr × Obj)} {σ : St} {H : Hp} {s : Shared} {a : Addr} {y d : V} {u r : Value} {o : Option V} {A : Around} {E : Value → Shared → Prop}
end

section
variable {X : Cx} {o e f : Expr} {apos cpos : Pos} {td ty tx : TE}
end

/-! ### dict(d): a copy -/
section
variable {X : Cx} {pins : List (Addr × Obj)} {σ : St} {H : Hp} {s : Shared} {a : Addr} {kvs : List (Key × V)} {A : Around} {E : Value → Shared → Prop}
end


section
variable {X : Cx} {pins : List (Addr × Obj)} {σ : St} {H : Hp} {s : Shared} {a : Addr} {y : V} {u : Value} {A : Around} {E : Value → Shared → Prop}
end
end L2

namespace Att
open PySem PySem.W PySem.Calls PyProof.Rows

/-! ### the script -/
/-! ### the attachment: holds_open's last premise (the goal 'hc' behind k_head) from a wpAny of the law's body -/
/-! ### rules over ANY heap (no ledger) from facts about the written part K: the library's own take a ledger (News) for what they write -/
section
variable {prog : Program} {w : World} {A : Around} {E : Value → Shared → Prop} {s : Shared} {K : Frag}

/-! the whole heap as the ledger: makes every rule that writes through a ledger a rule over any heap -/
end
end Att

namespace L2
open PySem PySem.Spec PyProof.Rows

end L2

namespace L2
open PySem PySem.Spec PyProof.Rows

end L2

/- THE LAST THEOREM (shape; LID, My.* are yours):
   My.Adr: a structure of the addresses that your layer names (classes, functions); My.Txt K t: a structure (Prop) of the equations over K;
   My.txt_mk : {K} {implicit addresses ..} (e1 : nsIn K mainGlobals "law" = some (some (.ref f))) (e2 : K.lookup f = some ⟨oc, od, .func (fnOf "law" "law" params body scope dV kV doc pm an cdv ct), sl⟩) (e3 : codeIn K cdv "law" = true) .. : ∃ t, My.Txt K t

(the tactic k_is has no namespace: write k_is) -/

/-! SHORT WORDS over the layer: a def of the text, its body, what a loop and a test want. -/
namespace L2
open PySem PySem.Spec PyProof.Rows

/-! ### the text by places -/
/-! ### no exception leaves a def -/
/-! ### a def (or method) of the text as it stands behind the top -/
section
variable {P : Program} {w : World} {K : PySem.W.Frag} {mg : Str → Option Value} {base : Heap}
end
/-! ### expressions in short: the name that stands in the i-th slot -/
section
variable {X : Cx}
/-- len of a dict -/
theorem call_lenD : CallR X (.builtin "len") (fun xs H Q => ∃ a kvs, xs = [V.ref a] ∧ H a = some (.dK kvs) ∧ Q (.int kvs.length) H) := by
  intro pins s σ H xs us Q I r h
  obtain ⟨a, kvs, rfl, ha, q⟩ := h
  obtain ⟨u, rfl, ru⟩ := vals1 r
  cases ru
  exact d_len I (.inl ha) fun t s' I' => ⟨.int kvs.length, H, I', ⟨t, rfl⟩, q⟩
end

/-! ### tests -/
/-! ### heaps -/
/-! ### a dict's pairs: keys that differ -/
section
variable {κ : Type} [DecidableEq κ]
end
end L2

set_option Elab.async false
set_option linter.all false
set_option maxRecDepth 100000
set_option maxHeartbeats 4000000
namespace VL
open PySem PySem.Spec PyProof.Rows L2
/-! ### dicts of one's own -/
--PURE
def keyD : D → Option Key
  | .int i => some (.inl i)
  | .str x => some (.inr x)
  | _ => none
@[simp] theorem keyD_int (i : Int) : keyD (.int i) = some (.inl i) := rfl
def slK : Option Sl → Option (List (Key × D))
  | some (.own (.d es)) => some es
  | _ => none
@[simp] theorem slK_od (es : List (Key × D)) : slK (some (.od es)) = some es := rfl
def putE (es : List (Key × D)) (k : Key) (d : D) : List (Key × D) := if (es.any fun p => decide (p.1 = k)) = true then es.map (fun p => if p.1 = k then (p.1, d) else p) else es ++ [(k, d)]
/-- x = {} -/
def sDNew (i : Nat) : Sf := fun δ => some (.nx, δ.set i (.od []))
/-- x[k] = v -/
def sDPutE (i : Nat) (fk fv : Dv → Option D) : Sf := fun δ => (fv δ).bind fun v => (slK δ[i]?).bind fun es => (fk δ).bind fun k => (keyD k).bind fun k => if es.length < sizeLine then some (.nx, δ.set i (.od (putE es k v))) else none
/-- len(x) -/
def oDLen (i : Nat) : Dv → Option D := fun δ => (slK δ[i]?).bind fun es => some (.int es.length)
--END
theorem slK_eq {o : Option Sl} {es : List (Key × D)} (h : slK o = some es) : o = some (.od es) := by
  cases o with
  | none => cases h
  | some x =>
    cases x with
    | own c =>
      cases c with
      | l ds => cases h
      | d fs => cases h; rfl
    | un => cases h
    | fz d => cases h
theorem keyD_rep {K : Fg} {Z : Hp} {v : V} {d : D} {k : Key} (r : Rep K Z v d) (h : keyD d = some k) : v = kV k := by
  cases d with
  | int i => cases h; exact r.int_eq
  | str x => cases h; exact r.str_eq
  | _ => cases h
theorem repK_len {K : Fg} {Z : Hp} {kvs : List (Key × V)} {es : List (Key × D)} (h : RepK K Z kvs es) : kvs.length = es.length := by
  have := congrArg List.length h.1
  rw [List.length_map, List.length_map] at this
  exact this.symm
theorem repK_cons {K : Fg} {Z : Hp} {kv : Key × V} {kvs : List (Key × V)} {es : List (Key × D)} (h : RepK K Z (kv :: kvs) es) : ∃ d fs, es = (kv.1, d) :: fs ∧ Rep K Z kv.2 d ∧ RepK K Z kvs fs := by
  obtain ⟨h1, h2⟩ := h
  cases es with
  | nil => cases h1
  | cons e fs =>
    obtain ⟨k, d⟩ := e
    rw [List.map_cons, List.map_cons, List.cons.injEq] at h1
    cases h2 with
    | cons r q => exact ⟨d, fs, by rw [← h1.1], r, h1.2, q⟩
theorem repK_put {K : Fg} {Z : Hp} {kvs : List (Key × V)} {es : List (Key × D)} (h : RepK K Z kvs es) (k : Key) {v : V} {d : D} (r : Rep K Z v d) : RepK K Z (putK kvs k v) (putE es k d) := by
  have any : ∀ {kvs : List (Key × V)} {es : List (Key × D)}, RepK K Z kvs es → (kvs.any fun kv => decide (kv.1 = k)) = es.any fun p => decide (p.1 = k) := by
    intro kvs
    induction kvs with
    | nil =>
      intro es h
      have : es = [] := List.length_eq_zero_iff.mp (repK_len h).symm
      subst this; rfl
    | cons kv kvs ih =>
      intro es h
      obtain ⟨d, fs, rfl, _, q⟩ := repK_cons h
      rw [List.any_cons, List.any_cons, ih q]
  unfold putK putE
  rw [any h]
  by_cases a : (es.any fun p => decide (p.1 = k)) = true
  · rw [if_pos a, if_pos a]
    clear a any
    revert es
    induction kvs with
    | nil =>
      intro es h
      have : es = [] := List.length_eq_zero_iff.mp (repK_len h).symm
      subst this; exact ⟨rfl, .nil⟩
    | cons kv kvs ih =>
      intro es h
      obtain ⟨d', fs, rfl, r', q⟩ := repK_cons h
      obtain ⟨i1, i2⟩ := ih q
      by_cases e : kv.1 = k
      · rw [List.map_cons, List.map_cons, if_pos e, if_pos e]
        exact ⟨by rw [List.map_cons, List.map_cons, i1], .cons r i2⟩
      · rw [List.map_cons, List.map_cons, if_neg e, if_neg e]
        exact ⟨by rw [List.map_cons, List.map_cons, i1], .cons r' i2⟩
  · rw [if_neg a, if_neg a]
    refine ⟨by rw [List.map_append, List.map_append, h.1]; rfl, ?_⟩
    rw [List.map_append, List.map_append]
    exact h.2.append (.cons r .nil)
theorem un1 {n : Nat} (h : n + 64 < cLine) : n + 1 < cLine := by omega
section
variable {X : Cx} {e b c : Expr} {p pos tpos apos cpos : Pos} {f fk fv fx : Dv → Option D}
theorem sv_dnew (i : Nat) {x : Str} {pos' : Pos} (hN : X.N.Nodup) (hi : X.N[i]? = some x := by rfl) (hx : Loc X.env.scope x := by first | exact Or.inl rfl | exact Or.inr rfl) (hs : swapsWith (.Dict [] [] p) (some (.Name x pos')) pos.line X.env = pure false := by rfl)
    (hf : X.fn x = true ∨ X.env.scope.names.lookup x = some .local := by first | exact .inl rfl | exact .inr rfl | assumption) : SV X (.Assign [.Name x pos'] (.Dict [] [] p) pos) (sDNew i) :=
  PS.imp (ps_set hN hi hx pe_dnewK hs hf) fun D σ H h => by
    obtain ⟨H₀, Z₀, Z, δ, r, hh, e, k⟩ := h
    cases e
    exact fun p hp => k _ _ Z (hh.setW hp (.dct ⟨rfl, .nil⟩)) (Same.refl _)
theorem od_at {K : Fg} {H₀ Z₀ Z : Hp} {δ : Dv} {σ : St} {H : Hp} (hh : Hold K H₀ Z₀ Z δ σ H) {i : Nat} {es : List (Key × D)} (h : slK δ[i]? = some es) : ∃ a kvs, σ[i]? = some (some (V.ref a)) ∧ H a = some (.dK kvs) ∧ RepK K Z kvs es := by
  obtain ⟨a, kvs, h1, _, _, h4, h5⟩ := hh.od i es (slK_eq h)
  exact ⟨a, kvs, h1, h4, h5⟩
theorem sv_dput (i : Nat) {x : Str} (hu : X.A.units + 1 < cLine) (hb : EV X b fk) (hv' : EV X e fv) (hN : X.N[i]? = some x := by rfl) (hv : Vis X.env.scope x := by first | exact Or.inl rfl | exact Or.inr (Or.inl rfl) | exact Or.inr (Or.inr rfl)) (hd : (x == ("__debug__" : Str)) = false := by decide) (hcd : (x == ("__classdict__" : Str)) = false := by decide)
    (hs : swapsWith e (some (.Subscript (.Name x p) b tpos)) pos.line X.env = pure false := by rfl) : SV X (.Assign [.Subscript (.Name x p) b tpos] e pos) (sDPutE i fk fv) :=
  PS.imp (ps_dput hu (pe_var hN hv hd hcd) hb hv' hs) fun D σ H h => by
    obtain ⟨H₀, Z₀, Z, δ, r, hh, e, k⟩ := h
    obtain ⟨v, e1, e⟩ := bind_some e
    obtain ⟨es, e2, e⟩ := bind_some e
    obtain ⟨y, e3, e⟩ := bind_some e
    obtain ⟨ky, e4, e⟩ := bind_some e
    obtain ⟨hl, e5⟩ := ite_some e
    cases e5
    refine ⟨H₀, Z₀, Z, δ, v, hh, e1, fun w Z1 H1 hh1 t1 r1 => ?_⟩
    obtain ⟨a, kvs, h1, h4, h5⟩ := od_at hh1 e2
    refine ⟨_, h1, H₀, Z₀, Z1, δ, y, hh1, e3, fun u Z2 H2 hh2 t2 r2 => ?_⟩
    obtain ⟨a', kvs', g1, g4, g5⟩ := od_at hh2 e2
    rw [h1] at g1
    cases g1
    obtain rfl := keyD_rep r2 e4
    exact ⟨a, _, rfl, DPut.k g4 (by rw [repK_len g5]; exact hl), k σ _ Z2 (hh2.chgW (slK_eq e2) h1 (.dct (repK_put g5 ky (r1.same t2)))) (t1.trans t2)⟩
theorem ev_dlen (i : Nat) {x : Str} {p2 : Pos} (hg : Gl X "len") (hm : X.mg "len" = none) (hN : X.N[i]? = some x := by rfl) (hv : Vis X.env.scope x := by first | exact Or.inl rfl | exact Or.inr (Or.inl rfl) | exact Or.inr (Or.inr rfl)) (hd : (x == ("__debug__" : Str)) = false := by decide) (hcd : (x == ("__classdict__" : Str)) = false := by decide)
    (he : starEach [.Name x p2] X.env = (false, eval (.Name x p2) X.env) :: starEach [] X.env := by rfl) (hpl : (backTo pos (starEach [] X.env)).any (·.1) = false := by rfl) : EV X (.Call (.Name "len" p) [.Name x p2] [] pos) (oDLen i) :=
  PE.imp (pe_callB call_lenD hg hm PySem.boot_len (pa_cons (pe_var hN hv hd hcd) pa_nil he) (by decide) (by decide) he hpl) fun σ H Q h => by
    obtain ⟨H₀, Z₀, Z, δ, d, hh, e, k⟩ := h
    obtain ⟨es, e1, e⟩ := bind_some e
    cases e
    obtain ⟨a, kvs, h1, h4, h5⟩ := od_at hh e1
    exact ⟨_, h1, a, kvs, rfl, h4, k _ Z H hh (Same.refl _) (by rw [repK_len h5]; exact .int _)⟩
end
end VL

set_option Elab.async false
set_option linter.all false
set_option maxRecDepth 100000
set_option maxHeartbeats 4000000
namespace VL
open PySem PySem.Spec PyProof.Rows L2
/-! ### sorted(x) of a dict of one's own, with whole numbers for keys; list(range(n)) -/
--PURE
def insI (x : Int) : List Int → List Int
  | [] => [x]
  | y :: r => if x ≤ y then x :: y :: r else y :: insI x r
def isortI : List Int → List Int
  | [] => []
  | x :: r => insI x (isortI r)
theorem insI_perm (x : Int) : ∀ l : List Int, (insI x l).Perm (x :: l)
  | [] => .refl _
  | y :: r => by
    unfold insI
    split
    · exact .refl _
    · exact ((insI_perm x r).cons y).trans (.swap x y r)
theorem isortI_perm : ∀ l : List Int, (isortI l).Perm l
  | [] => .refl _
  | x :: r => (insI_perm x _).trans ((isortI_perm r).cons x)
theorem insI_pw (x : Int) : ∀ l : List Int, l.Pairwise (· ≤ ·) → (insI x l).Pairwise (· ≤ ·)
  | [], _ => by simp [insI]
  | y :: r, h => by
    obtain ⟨h1, h2⟩ := List.pairwise_cons.mp h
    unfold insI
    split
    · rename_i hx
      exact List.pairwise_cons.mpr ⟨fun z hz => by rcases List.mem_cons.mp hz with rfl | hz; exact hx; exact Int.le_trans hx (h1 z hz), h⟩
    · rename_i hx
      refine List.pairwise_cons.mpr ⟨fun z hz => ?_, insI_pw x r h2⟩
      rcases List.mem_cons.mp ((insI_perm x r).mem_iff.mp hz) with rfl | hz
      · omega
      · exact h1 z hz
theorem isortI_pw : ∀ l : List Int, (isortI l).Pairwise (· ≤ ·)
  | [] => .nil
  | x :: r => insI_pw x _ (isortI_pw r)
theorem sorted_one : ∀ {a b : List Int}, a.Perm b → a.Pairwise (· ≤ ·) → b.Pairwise (· ≤ ·) → a = b
  | [], b, p, _, _ => (List.nil_perm.mp p).symm
  | x :: a, b, p, ha, hb => by
    cases b with
    | nil => exact absurd (List.perm_nil.mp p) (by simp)
    | cons y b =>
      obtain ⟨ha1, ha2⟩ := List.pairwise_cons.mp ha
      obtain ⟨hb1, hb2⟩ := List.pairwise_cons.mp hb
      have e : x = y := by
        have h1 : x ∈ y :: b := p.mem_iff.mp List.mem_cons_self
        have h2 : y ∈ x :: a := p.mem_iff.mpr List.mem_cons_self
        rcases List.mem_cons.mp h1 with h1 | h1
        · exact h1
        · rcases List.mem_cons.mp h2 with h2 | h2
          · exact h2.symm
          · exact Int.le_antisymm (ha1 y h2) (hb1 x h1)
      subst e
      rw [sorted_one (List.perm_cons x |>.mp p) ha2 hb2]
theorem isortI_of {a b : List Int} (p : a.Perm b) (h : a.Pairwise (· ≤ ·)) : a = isortI b := sorted_one (p.trans (isortI_perm b).symm) h (isortI_pw b)
/-- the whole numbers that are the keys -/
def keyI : Key → Option Int
  | .inl i => some i
  | .inr _ => none
def keysI : List (Key × D) → Option (List Int)
  | [] => some []
  | p :: r => (keyI p.1).bind fun i => (keysI r).bind fun l => some (i :: l)
/-- sorted(x) -/
def oDSort (i : Nat) : Dv → Option D := fun δ => (slK δ[i]?).bind fun es => (keysI es).bind fun l => if l.length < 64 then some (.list ((isortI l).map .int)) else none
/-- list(range(n)) -/
def lrngD : D → Option D
  | .int j => if j ≤ 16777216 ∧ -4611686018427387904 ≤ j then some (.list (rngL 0 j.toNat)) else none
  | _ => none
--END
theorem keysI_eq : ∀ {es : List (Key × D)} {l : List Int}, keysI es = some l → es.map (·.1) = l.map Sum.inl
  | [], _, h => by cases h; rfl
  | (.inl i, d) :: r, l, h => by
    obtain ⟨m, hm, e⟩ := bind_some h
    cases hm
    obtain ⟨l', h', e⟩ := bind_some e
    cases e
    rw [List.map_cons, keysI_eq h']; rfl
  | (.inr x, d) :: r, l, h => by cases h
theorem ints_of {P : Program} {w : World} : ∀ {acc : List Value} {kvs : List (Key × Value)} {l : List Int}, acc.length = kvs.length → (∀ (j : Nat) (v : Value), acc[j]? = some v → ∃ k x, kvs[j]? = some (k, x) ∧ (mixKind P w).is k v = true) → kvs.map (·.1) = l.map Sum.inl → IntsAre acc l
  | [], kvs, l, h1, _, h3 => by
    have : kvs = [] := List.length_eq_zero_iff.mp h1.symm
    subst this
    have : l = [] := by simpa using h3.symm
    subst this; exact .nil
  | v :: acc, kv :: kvs, l, h1, h2, h3 => by
    cases l with
    | nil => cases h3
    | cons i l =>
      rw [List.map_cons, List.map_cons, List.cons.injEq] at h3
      obtain ⟨k, x, e, hk⟩ := h2 0 v rfl
      cases e
      have hk' : keyIs k v = true := hk
      have h3' : k = Sum.inl i := h3.1
      subst h3'
      rcases keyIs_shape hk' with ⟨i', t, e1, rfl⟩ | ⟨y, t, e1, rfl⟩
      · cases e1
        exact .cons i t (ints_of (P := P) (w := w) (by simpa using h1) (fun j v e => h2 (j + 1) v e) h3.2)
      · cases e1
theorem vals_ints : ∀ {out : List Value} {l : List Int}, IntsAre out l → Vals (l.map V.int) out
  | _, _, .nil => .nil
  | _, _, .cons n t r => .cons ⟨t, rfl⟩ (vals_ints r)
theorem kv_keys {κ : Type} : ∀ {kvs : List (κ × V)} {vs : List (κ × Value)}, KV kvs vs → vs.map (·.1) = kvs.map (·.1)
  | _, _, .nil => rfl
  | _, _, .cons r q => by rw [List.map_cons, List.map_cons, kv_keys q, r.1]
theorem kept_update {h : Heap} {a b : Addr} {f : Obj → Obj} {o : Obj} (hab : b ≠ a) (e : h.get? b = some o) : (h.update a f).get? b = some o := (Heap.get?_update_other _ _ (Ne.symm hab)).trans e
theorem acc_ints {acc : Array Value} {n : Nat} (h : ItemsOf (fun i v => ∃ t, v = .int ((0 : Int) + i * 1) t) acc n) : Vals ((List.range n).map fun k => V.int (k : Nat)) acc.toList := by
  obtain ⟨h1, h2⟩ := h
  subst h1
  have key : ∀ (l : List Value) (m : Nat), (∀ (j : Nat) (v : Value), l[j]? = some v → ∃ t, v = Value.int ((m + j : Nat) : Int) t) → Vals ((List.range' m l.length).map fun k => V.int (k : Nat)) l := by
    intro l
    induction l with
    | nil => intro m _; exact .nil
    | cons v l ih =>
      intro m h
      obtain ⟨t, rfl⟩ := h 0 v rfl
      rw [List.length_cons, List.range'_succ]
      exact .cons ⟨t, rfl⟩ (ih (m + 1) fun j v e => by obtain ⟨t, q⟩ := h (j + 1) v e; exact ⟨t, by rw [q]; congr 2; omega⟩)
  have := key acc.toList 0 fun j v e => by
    obtain ⟨t, q⟩ := h2 j v (by rw [← Array.getElem?_toList]; exact e)
    exact ⟨t, by rw [q]; congr 1; omega⟩
  rwa [Array.length_toList, ← List.range_eq_range'] at this
section
variable {X : Cx}
theorem call_sortedD (hc : X.calm = true) : CallR X (.builtin "sorted") (fun xs H Q => ∃ a kvs ns, xs = [V.ref a] ∧ H a = some (.dK kvs) ∧ kvs.map (·.1) = ns.map Sum.inl ∧ ns.length < 64 ∧ ∀ l, H l = none → Q (.ref l) (upd H l (.lst ((isortI ns).map V.int)))) := by
  intro pins s σ H xs us Q I r h
  obtain ⟨a, kvs, ns, rfl, ha, hk, h64, q⟩ := h
  obtain ⟨u, rfl, ru⟩ := vals1 r
  cases ru
  obtain ⟨z, hd, vs, rel, dd⟩ := dk_rd I.hok (.inl ha)
  obtain ⟨ep, dat⟩ := dd.dictAt
  have hln : vs.length = ns.length := by
    have := congrArg List.length hk
    simp only [List.length_map] at this
    rw [← rel.length, this]
  refine Calls.call_function_entry kind_sorted plain_sorted entry_sorted (args_sorted1 _) ?_
  unfold Builtin.«sorted»
  refine wpAny_bind (m := checkCount "sorted" 1 1 _) (wpAny_pure ?_)
  refine wpAny_bind (PySem.W.kdu_collect (A := X.A.in1) (PySem.W.kdl_dict (knd := mixKind X.prog X.w) (kvs := vs) (ep := ep) hd) (I.ok.hd hc) dat (by rw [hln, sizeLine_eq]; omega) fun h' tk acc hk' hacc => ?_)
  have hal : acc.toList.length = vs.length := by rw [Array.length_toList]; exact hacc.1
  have hI : IntsAre acc.toList ns := ints_of (P := X.prog) (w := X.w) hal (fun j v e => hacc.2 j v (by rw [← Array.getElem?_toList]; exact e)) (by rw [kv_keys rel]; exact hk)
  refine wpAny_bind (wpAny_newList ?_ (by rw [hal, hln, sizeLine_eq]; omega))
  have hoL : (h'.push (seqObj "list" acc.toList.toArray 0)).get? h'.objs.size = some (seqObj "list" acc.toList.toArray 0) := Heap.get?_push_size _ rfl
  refine wpAny_bind (wpAny_holding (wpAny_call_entry slot_list_sort ⟨_, hoL, rfl⟩ entry_list_sort (list_sort_tree hoL hI (by rw [hal, hln]; exact h64) fun out ns' a1 a2 a3 => ⟨_, rfl, ?_⟩) (args_list_sort _)))
  refine wpAny_pure ⟨_, rfl, ?_⟩
  have e := isortI_of a2 a3
  subst e
  have I1 : Inv X pins σ H { s with heap := h', toks := tk } := I.kept hk'
  have kp : ∀ b o, h'.get? b = some o → (sortedHeap (h'.push (seqObj "list" acc.toList.toArray 0)) h'.objs.size acc.toList out).get? b = some o := fun b o eo => by
    have hb : b ≠ h'.objs.size := Nat.ne_of_lt (Heap.lt_size eo)
    exact kept_update hb (Heap.get?_push_of_some _ (Heap.get?_push_of_some _ (kept_update hb (Heap.get?_push_of_some _ eo))))
  have hlen : out.toList.length = ns.length := by rw [(vals_ints a1).length.symm, List.length_map, a2.length_eq]
  obtain ⟨e1, ho1⟩ : ∃ e1, ((h'.push (seqObj "list" acc.toList.toArray 0)).update h'.objs.size (Obj.mapSeq fun _ => #[])).get? h'.objs.size = some (seqObj "list" #[] e1) := ⟨_, get?_update_seq hoL (fun _ => #[])⟩
  have ho2 := Heap.get?_push_of_some (seqObj "list" #[] 0) (Heap.get?_push_of_some (seqObj "tuple" acc.toList.toArray 0) ho1)
  have ho3 := get?_update_seq ho2 (fun _ => out)
  have L := I1.laid (h' := sortedHeap (h'.push (seqObj "list" acc.toList.toArray 0)) h'.objs.size acc.toList out) (a := h'.objs.size) (o := .lst ((isortI ns).map V.int)) (t' := tk) kp (Nat.le_refl _)
    (show ObjOk X.prog X.w _ _ _ (.lst ((isortI ns).map V.int)) from ⟨by rw [List.length_map, (isortI_perm ns).length_eq, sizeLine_eq]; omega, out.toList, _, vals_ints a1, by rw [Array.toArray_toList]; exact ho3⟩)
  exact ⟨.ref h'.objs.size, _, L, rfl, q _ (I1.hok.fresh (Nat.le_refl _))⟩
variable {e : Expr} {p p2 pos pos2 : Pos} {te : TE} {f : Dv → Option D}
theorem ev_dsort (i : Nat) {x : Str} (hg : Gl X "sorted") (hm : X.mg "sorted" = none) (hc : X.calm = true := by rfl) (hN : X.N[i]? = some x := by rfl) (hv : Vis X.env.scope x := by first | exact Or.inl rfl | exact Or.inr (Or.inl rfl) | exact Or.inr (Or.inr rfl)) (hd : (x == ("__debug__" : Str)) = false := by decide) (hcd : (x == ("__classdict__" : Str)) = false := by decide)
    (he : starEach [.Name x p2] X.env = (false, eval (.Name x p2) X.env) :: starEach [] X.env := by rfl) (hpl : (backTo pos (starEach [] X.env)).any (·.1) = false := by rfl) : EV X (.Call (.Name "sorted" p) [.Name x p2] [] pos) (oDSort i) :=
  PE.imp (pe_callB (call_sortedD hc) hg hm (by decide +kernel) (pa_cons (pe_var hN hv hd hcd) pa_nil he) (by decide) (by decide) he hpl) fun σ H Q h => by
    obtain ⟨H₀, Z₀, Z, δ, d, hh, e, k⟩ := h
    obtain ⟨es, e1, e⟩ := bind_some e
    obtain ⟨l, e2, e⟩ := bind_some e
    obtain ⟨h64, e⟩ := ite_some e
    cases e
    obtain ⟨a, kvs, h1, h4, h5⟩ := od_at hh e1
    refine ⟨_, h1, a, kvs, l, rfl, h4, by rw [← h5.1]; exact keysI_eq e2, h64, fun l' hl => ?_⟩
    have n := New.add hh.zh hl (.lst ((isortI l).map V.int))
    exact k _ _ _ (hh.new n) n.z (.lst (SqL.of upd_same) (Reps.ints _))
/-- list(range(n)) -/
def tLrng (te : TE) : TE := fun σ H Q => te σ H fun v H1 => ∃ j : Int, [v] = [V.int j] ∧ j ≤ 16777216 ∧ -4611686018427387904 ≤ j ∧ ∀ l, H1 l = none → Q (.ref l) (upd H1 l (.lst ((List.range j.toNat).map fun k => V.int (k : Nat))))
theorem pe_lrng (hc : X.calm = true) (hg : Gl X "list") (hm : X.mg "list" = none) (hg' : Gl X "range") (hm' : X.mg "range" = none) (ha : PE X e te)
    (he : starEach [.Call (.Name "range" p2) [e] [] pos2] X.env = (false, eval (.Call (.Name "range" p2) [e] [] pos2) X.env) :: starEach [] X.env := by rfl)
    (he2 : starEach [e] X.env = (false, eval e X.env) :: starEach [] X.env := by rfl) (hpl : (backTo pos (starEach [] X.env)).any (·.1) = false := by rfl) (hpl2 : (backTo pos2 (starEach [] X.env)).any (·.1) = false := by rfl) :
    PE X (.Call (.Name "list" p) [.Call (.Name "range" p2) [e] [] pos2] [] pos) (tLrng te) := by
  intro pins s σ H Q I h
  refine wpAny_Call_Name_kw (ld_blt I hg hm (u := .type "list") (by decide +kernel) ?_ (by decide) (by decide))
  refine PyProof.Rows.callWith_type1 ?_ he hpl
  rw [he]
  show wpAny _ _ (spliced ((false, eval _ X.env) :: backTo pos (starEach [] X.env))) _ _ s
  refine Calls.spliced_cons ?_
  refine wpAny_Call_Name_kw (ld_blt I hg' hm' (u := .type "range") (by decide +kernel) ?_ (by decide) (by decide))
  refine PyProof.Rows.callWith_type1 (thn (pa_cons ha pa_nil he2 pos2 pins s σ H (fun xs H1 => ∃ j : Int, xs = [V.int j] ∧ j ≤ 16777216 ∧ -4611686018427387904 ≤ j ∧ ∀ l, H1 l = none → Q (.ref l) (upd H1 l (.lst ((List.range j.toNat).map fun k => V.int (k : Nat))))) I (by exact h)) fun us s1 ⟨vs, H1, I1, r1, q1⟩ => ?_) he2 hpl2
  obtain ⟨j, e1, h1, h2, q⟩ := q1
  subst e1
  obtain ⟨u, rfl, rx⟩ := vals1 r1
  obtain ⟨t, rfl⟩ := rx
  refine call_range_1 ?_
  refine Calls.spliced_nil ?_
  refine call_list_range (I1.ok.hd hc) (IsRange.new ..) (small_one (by omega) (by omega) (by omega) (by omega)) (n := j.toNat) (by rw [rangeSize_one]; split <;> omega) (by omega) fun h' tk acc c hk hS hacc => ?_
  have hal := acc_ints hacc
  have L := I1.laid (h' := h') (a := (s1.heap.push { cls := .type "range", data := .fields #[.int 0 s1.toks, .int j t, .int 1 (s1.toks + 1)] }).objs.size) (o := .lst ((List.range j.toNat).map fun k => V.int (k : Nat))) (t' := tk) (fun b o eo => hk b o (Heap.get?_push_of_some _ eo)) (by rw [Heap.size_push]; exact Nat.le_succ _)
    (show ObjOk X.prog X.w _ _ _ (.lst ((List.range j.toNat).map fun k => V.int (k : Nat))) from ⟨by rw [List.length_map, List.length_range, sizeLine_eq]; omega, acc.toList, _, hal, by rw [Array.toArray_toList]; exact hS⟩)
  exact ⟨.ref _, _, L, rfl, q _ (I1.hok.fresh (by rw [Heap.size_push]; exact Nat.le_succ _))⟩
/-- list(range(n)) -/
theorem ev_lrng (hg : Gl X "list") (hm : X.mg "list" = none) (hg' : Gl X "range") (hm' : X.mg "range" = none) (ha : EV X e f) (hc : X.calm = true := by rfl)
    (he : starEach [.Call (.Name "range" p2) [e] [] pos2] X.env = (false, eval (.Call (.Name "range" p2) [e] [] pos2) X.env) :: starEach [] X.env := by rfl)
    (he2 : starEach [e] X.env = (false, eval e X.env) :: starEach [] X.env := by rfl) (hpl : (backTo pos (starEach [] X.env)).any (·.1) = false := by rfl) (hpl2 : (backTo pos2 (starEach [] X.env)).any (·.1) = false := by rfl) :
    EV X (.Call (.Name "list" p) [.Call (.Name "range" p2) [e] [] pos2] [] pos) (o1 f lrngD) :=
  PE.imp (pe_lrng hc hg hm hg' hm' ha he he2 hpl hpl2) fun σ H Q h => by
    obtain ⟨H₀, Z₀, Z, δ, d, hh, e, k⟩ := h
    obtain ⟨d1, e1, e⟩ := bind_some e
    refine ⟨H₀, Z₀, Z, δ, d1, hh, e1, fun v Z1 H1 hh1 t1 r1 => ?_⟩
    cases d1 with
    | int j =>
      obtain ⟨hj, e⟩ := ite_some e
      cases e
      refine ⟨j, by rw [r1.int_eq], hj.1, hj.2, fun l hl => ?_⟩
      have n := New.add hh1.zh hl (.lst ((List.range j.toNat).map fun k => V.int (k : Nat)))
      refine k _ _ _ (hh1.new n) (t1.trans n.z) (.lst (SqL.of upd_same) ?_)
      have := Reps.ints (K := X.K) (Z := upd Z1 l (.lst ((List.range j.toNat).map fun k => V.int (k : Nat)))) ((List.range j.toNat).map fun k => ((k : Nat) : Int))
      simpa [rngL, List.map_map, Function.comp_def] using this
    | _ => cases e
end
end VL

set_option Elab.async false
set_option linter.all false
set_option maxRecDepth 100000
set_option maxHeartbeats 4000000
namespace VL
open PySem PySem.Spec PyProof.Rows L2
/-! ### list(zip(x, y)) of two lists -/
section
variable {prog : Program} {w : World} {A : Around} {E : Value → Shared → Prop} {s : Shared}
/-- the pairs told so far -/
structure ZG (xs ys : Array Value) (lo : Addr) (h : Heap) (as : List Addr) : Prop where
  above : ∀ a ∈ as, lo ≤ a
  rise : as.Pairwise (· < ·)
  pairs : ∀ (j : Nat) (a : Addr), as[j]? = some a → ∃ x y, xs[j]? = some x ∧ ys[j]? = some y ∧ IsPair h a x y
end
end VL

set_option Elab.async false
set_option linter.all false
set_option maxRecDepth 100000
set_option maxHeartbeats 4000000
namespace VL
open PySem PySem.Spec PyProof.Rows L2
--PURE
/-- list(zip(x, y)) -/
def zipLD : List D → Option D
  | [.list a, .list b] => some (.list (List.zipWith (fun x y => .tuple [x, y]) a b))
  | _ => none
@[simp] def oLD (fs : Dv → Option (List D)) (g : List D → Option D) : Dv → Option D := fun δ => (fs δ).bind g
@[simp] theorem zipLD_l (a b : List D) : zipLD [.list a, .list b] = some (.list (List.zipWith (fun x y => .tuple [x, y]) a b)) := rfl
--END
section
variable {prog : Program} {w : World} {A : Around} {s : Shared} {R : Result → Shared → Prop} {z TI TO i1 i2 l1 l2 S lo : Addr} {xs ys : Array Value}
end
section
variable {prog : Program} {w : World} {A : Around} {E : Value → Shared → Prop} {s : Shared} {z TI TO i1 i2 l1 l2 : Addr} {xs ys : Array Value}
end
/-! several objects laid at once -/
section
variable {X : Cx} {e1 e2 : Expr} {p p2 pos pos2 : Pos} {ta : TA} {fs : Dv → Option (List D)}
/-- new cells, in both heaps -/
theorem New.many {Z H H' : Hp} (zh : Same Z H) (ext : ∀ b, H b ≠ none → H' b = H b) : New Z H (fun b => if H b = none then H' b else Z b) H' where
  z := fun b u e => by
    have : H b = some u := zh b u e
    show (if H b = none then _ else _) = _
    rw [if_neg (by rw [this]; simp)]; exact e
  h := fun b u e => by rw [ext b (by rw [e]; simp), e]
  zh := fun b u e => by
    have e : (if H b = none then H' b else Z b) = some u := e
    split at e
    · exact e
    · rename_i n
      rw [ext b n]; exact zh b u e
  o := fun b hb => if_neg hb
end
end VL

set_option Elab.async false
set_option linter.all false
set_option maxRecDepth 100000
set_option maxHeartbeats 4000000
namespace VL
open PySem PySem.Spec PyProof.Rows L2
/-! ### a dict of one's own, of whole numbers, that is known for good from here -/
--PURE
def intsE : List (Key × D) → Option (List (Key × Int))
  | [] => some []
  | (k, .int i) :: r => (intsE r).bind fun l => some ((k, i) :: l)
  | _ => none
def dFzD (i : Nat) (δ : Dv) : Dv := match δ[i]? with
  | some (.own (.d es)) => match intsE es with
    | some l => δ.set i (.fz (.dict (dctD l)))
    | none => δ
  | _ => δ
def undct : List (D × D) → Option (List (Key × Int))
  | [] => some []
  | (k, .int i) :: r => (keyD k).bind fun k => (undct r).bind fun l => some ((k, i) :: l)
  | _ => none
theorem keyD_keyDD (k : Key) : keyD (keyDD k) = some k := by cases k <;> rfl
@[simp] theorem undct_dctD : ∀ es : List (Key × Int), undct (dctD es) = some es
  | [] => rfl
  | (k, i) :: r => by
    show (keyD (keyDD k)).bind _ = _
    rw [keyD_keyDD]
    show (undct (dctD r)).bind _ = _
    rw [undct_dctD r]; rfl
def getFI (es : List (Key × Int)) (k : Key) : Option Int := (es.find? fun p => decide (p.1 = k)).map (·.2)
/-- x[k] -/
def getFD : D → D → Option D
  | .dict kvs, k => (undct kvs).bind fun es => (keyD k).bind fun k => (getFI es k).map .int
  | _, _ => none
/-- sorted(x) -/
def sortFD : D → Option D
  | .dict kvs => (undct kvs).bind fun es => (keysI (es.map fun p => (p.1, PyData.int p.2))).bind fun l => if l.length < 64 then some (.list ((isortI l).map .int)) else none
  | _ => none
--END
theorem intsE_eq : ∀ {es : List (Key × D)} {l : List (Key × Int)}, intsE es = some l → es = l.map fun p => (p.1, PyData.int p.2)
  | [], _, h => by cases h; rfl
  | (k, .int i) :: r, l, h => by
    obtain ⟨m, hm, e⟩ := bind_some h
    cases e
    rw [intsE_eq hm]; rfl
  | (k, .none) :: r, l, h => by cases h
  | (k, .bool _) :: r, l, h => by cases h
  | (k, .str _) :: r, l, h => by cases h
  | (k, .tuple _) :: r, l, h => by cases h
  | (k, .list _) :: r, l, h => by cases h
  | (k, .dict _) :: r, l, h => by cases h
theorem repK_ints {K : Fg} {Z : Hp} : ∀ {kvs : List (Key × V)} {l : List (Key × Int)}, RepK K Z kvs (l.map fun p => (p.1, PyData.int p.2)) → kvs = l.map fun p => (p.1, V.int p.2)
  | [], l, h => by
    have : (l.map fun p => (p.1, PyData.int p.2)) = [] := List.length_eq_zero_iff.mp (repK_len h).symm
    rw [List.map_eq_nil_iff.mp this]; rfl
  | kv :: kvs, l, h => by
    obtain ⟨d, fs, e, r, q⟩ := repK_cons h
    cases l with
    | nil => cases e
    | cons p l =>
      rw [List.map_cons, List.cons.injEq, Prod.mk.injEq] at e
      obtain ⟨⟨e1, e2⟩, e3⟩ := e
      subst e2
      subst e3
      obtain ⟨k, v⟩ := kv
      have e1 : p.1 = k := e1
      have rv : v = V.int p.2 := r.int_eq
      subst rv
      rw [List.map_cons, ← repK_ints q, e1]
theorem hold_frzD {K : Fg} {H₀ Z₀ Z H : Hp} {δ : Dv} {σ : St} (h : Hold K H₀ Z₀ Z δ σ H) {i : Nat} {l : List (Key × Int)} (e : δ[i]? = some (.od (l.map fun p => (p.1, PyData.int p.2)))) : ∃ Z', Same Z Z' ∧ Hold K H₀ Z₀ Z' (δ.set i (.fz (.dict (dctD l)))) σ H := by
  obtain ⟨a, kvs, h1, h2, h3, h4, h5⟩ := h.od i _ e
  obtain rfl := repK_ints h5
  have hl : i < δ.length := (List.getElem?_eq_some_iff.mp e).1
  have sz : Same Z (upd Z a (.dK (l.map fun p => (p.1, V.int p.2)))) := same_upd h3
  refine ⟨_, sz, fun b o q => ?_, h.h0, h.z0.trans sz, fun b hb => ?_, by simp [h.len], fun j d q => ?_, fun j d q => ?_, fun j k d1 d2 b hjk q1 q2 => ?_⟩
  · by_cases hb : b = a
    · subst hb; rw [upd_same] at q; cases q; exact h4
    · rw [upd_ne hb] at q; exact h.zh b o q
  · rw [upd_ne (fun z => hb (by rw [z]; exact h2))]; exact h.zb b hb
  · by_cases hj : i = j
    · subst hj
      rw [List.getElem?_set_self hl] at q
      cases q
      exact ⟨.ref a, h1, .opq (.dct rfl upd_same)⟩
    · rw [List.getElem?_set_ne hj] at q
      obtain ⟨v, g1, g2⟩ := h.fz j d q
      exact ⟨v, g1, g2.same sz⟩
  · by_cases hj : i = j
    · subst hj
      rw [List.getElem?_set_self hl] at q
      cases q
    · rw [List.getElem?_set_ne hj] at q
      obtain ⟨b, ws, g1, g2, g3, g4, g5⟩ := h.own j d q
      have : b ≠ a := fun z => by subst z; exact h.dja i j _ d b hj e q h1 g1
      exact ⟨b, ws, g1, g2, by rw [upd_ne this]; exact g3, g4, g5.same sz⟩
  · by_cases hj : i = j
    · subst hj
      rw [List.getElem?_set_self hl] at q1
      cases q1
    · by_cases hk : i = k
      · subst hk
        rw [List.getElem?_set_self hl] at q2
        cases q2
      · rw [List.getElem?_set_ne hj] at q1
        rw [List.getElem?_set_ne hk] at q2
        exact h.dja j k d1 d2 b hjk q1 q2
section
variable {X : Cx} {st : Stmt} {s1 : Sf} {a b : Expr} {f fk : Dv → Option D} {p pos : Pos}
theorem fzD_ok {K : Fg} (i : Nat) {D : Ends} {σ : St} {H : Hp} (h : tVS K (fun δ => s1 (dFzD i δ)) D σ H) : tVS K s1 D σ H := by
  obtain ⟨H₀, Z₀, Z, δ, r, hh, e, k⟩ := h
  have e : s1 (dFzD i δ) = some r := e
  unfold dFzD at e
  split at e
  · rename_i es q
    split at e
    · rename_i l ql
      rw [intsE_eq ql] at q
      obtain ⟨Z1, t1, hh1⟩ := hold_frzD hh q
      exact ⟨H₀, Z₀, Z1, _, r, hh1, e, fun σ2 H2 Z2 hh2 t2 => k σ2 H2 Z2 hh2 (t1.trans t2)⟩
    · exact ⟨H₀, Z₀, Z, _, r, hh, e, k⟩
  · exact ⟨H₀, Z₀, Z, _, r, hh, e, k⟩
theorem sv_fzD (i : Nat) (h : SV X st s1) : SV X st (fun δ => s1 (dFzD i δ)) := PS.imp h fun D σ H q => fzD_ok i q
theorem dct_at {K : Fg} {Z : Hp} {v : V} {kvs : List (D × D)} {es : List (Key × Int)} (r : Rep K Z v (.dict kvs)) (h : undct kvs = some es) : ∃ a, v = .ref a ∧ Z a = some (.dK (es.map fun p => (p.1, V.int p.2))) := by
  cases r with
  | @opq a _ q =>
    cases q with
    | exc _ _ => cases h
    | fn _ => cases h
    | dct h1 h2 =>
      subst h1
      rw [undct_dctD] at h
      cases h
      exact ⟨a, rfl, h2⟩
theorem valV_ints (k : Key) : ∀ es : List (Key × Int), valV (es.map fun p => (p.1, V.int p.2)) k = (getFI es k).map V.int
  | [] => rfl
  | (k', i) :: r => by
    by_cases e : k' = k
    · rw [List.map_cons, valV_pos e]; simp [getFI, List.find?_cons, e]
    · rw [List.map_cons, valV_neg e, valV_ints k r]; simp [getFI, List.find?_cons, e]
theorem ev_dgetF (hu : X.A.units + 1 < cLine) (ha : EV X a f) (hb : EV X b fk) (hsl : NoSl b) : EV X (.Subscript a b pos) (o2 f fk getFD) :=
  PE.imp (pe_dget hu ha hb hsl) fun σ H Q h => by
    obtain ⟨H₀, Z₀, Z, δ, d, hh, e, k⟩ := h
    obtain ⟨x, e1, e⟩ := bind_some e
    obtain ⟨y, e2, e⟩ := bind_some e
    cases x with
    | dict kvs =>
      obtain ⟨es, e3, e⟩ := bind_some e
      obtain ⟨ky, e4, e⟩ := bind_some e
      obtain ⟨i, e5, e⟩ := Option.map_eq_some_iff.mp e
      subst e
      refine ⟨H₀, Z₀, Z, δ, _, hh, e1, fun v Z1 H1 hh1 t1 r1 => ⟨H₀, Z₀, Z1, δ, y, hh1, e2, fun u Z2 H2 hh2 t2 r2 => ?_⟩⟩
      obtain ⟨ad, rfl, g⟩ := dct_at r1 e3
      obtain rfl := keyD_rep r2 e4
      exact ⟨ad, V.int i, rfl, by have := DGet.k (k := ky) (hh2.zh _ _ (t2 _ _ g)); rw [valV_ints, e5] at this; exact this, k _ Z2 H2 hh2 (t1.trans t2) (.int i)⟩
    | _ => cases e
theorem ev_dsortF (hg : Gl X "sorted") (hm : X.mg "sorted" = none) (ha : EV X a f) (hc : X.calm = true := by rfl)
    (he : starEach [a] X.env = (false, eval a X.env) :: starEach [] X.env := by rfl) (hpl : (backTo pos (starEach [] X.env)).any (·.1) = false := by rfl) : EV X (.Call (.Name "sorted" p) [a] [] pos) (o1 f sortFD) :=
  PE.imp (pe_callB (call_sortedD hc) hg hm (by decide +kernel) (pa_cons ha pa_nil he) (by decide) (by decide) he hpl) fun σ H Q h => by
    obtain ⟨H₀, Z₀, Z, δ, d, hh, e, k⟩ := h
    obtain ⟨x, e1, e⟩ := bind_some e
    cases x with
    | dict kvs =>
      obtain ⟨es, e3, e⟩ := bind_some e
      obtain ⟨l, e4, e⟩ := bind_some e
      obtain ⟨h64, e⟩ := ite_some e
      cases e
      refine ⟨H₀, Z₀, Z, δ, _, hh, e1, fun v Z1 H1 hh1 t1 r1 => ?_⟩
      obtain ⟨ad, rfl, g⟩ := dct_at r1 e3
      refine ⟨ad, _, l, rfl, hh1.zh _ _ g, by have := keysI_eq e4; rw [← this]; simp [List.map_map, Function.comp_def], h64, fun l' hl => ?_⟩
      have n := New.add hh1.zh hl (.lst ((isortI l).map V.int))
      exact k _ _ _ (hh1.new n) (t1.trans n.z) (.lst (SqL.of upd_same) (Reps.ints _))
    | _ => cases e
end
end VL

set_option Elab.async false
set_option linter.all false
set_option maxRecDepth 100000
set_option maxHeartbeats 4000000
namespace VL
open PySem PySem.Spec PyProof.Rows L2
/-! ### in, not in, of any plain data; list(range(a, b)) -/
--PURE
def inG (neg : Bool) : D → D → Option D
  | a, .list xs => if shp a = true ∧ PyData.canLayAll0 xs = true then some (.bool (if neg = true then !inL a xs else inL a xs)) else none
  | a, .tuple xs => if shp a = true ∧ PyData.canLayAll0 xs = true then some (.bool (if neg = true then !inL a xs else inL a xs)) else none
  | _, _ => none
/-- list(range(a, b)) -/
def lrng2D : D → D → Option D
  | .int i, .int j => if -1000000 ≤ i ∧ i ≤ 1000000 ∧ -1000000 ≤ j ∧ j ≤ 1000000 then some (.list (rngL i (j - i).toNat)) else none
  | _, _ => none
--END
theorem un65 {k : Nat} {A : Around} (r : Room k A) : A.units + 65 < cLine := by have := r.un; omega
section
variable {X : Cx}
theorem d_notinG (hu : X.A.units + 65 < cLine) : OpR X (compareOp .NotIn) (rD X.K (inG true)) := by
  intro pins s σ H x y v u Q I rx ry q
  obtain ⟨Z, a, b, d, zh, ra, rb, e, k⟩ := q
  cases b with
  | list xs =>
    obtain ⟨hs, e⟩ := ite_some e
    cases e
    obtain ⟨as, r1⟩ := ra.reads I zh rx (shp_lay hs.1)
    obtain ⟨bs, r2⟩ := rb.reads I zh ry hs.2
    exact SeqAt.notIn_list_reads r2 r1 hs.2 (shp_lay hs.1) (room_in_shaped hs.1 hu) ⟨.bl _, H, I, rfl, k _ Z H (New.refl zh) (.bl _)⟩
  | tuple xs =>
    obtain ⟨hs, e⟩ := ite_some e
    cases e
    obtain ⟨as, r1⟩ := ra.reads I zh rx (shp_lay hs.1)
    obtain ⟨bs, r2⟩ := rb.reads I zh ry hs.2
    exact SeqAt.notIn_tuple_reads r2 r1 hs.2 (shp_lay hs.1) (room_in_shaped hs.1 hu) ⟨.bl _, H, I, rfl, k _ Z H (New.refl zh) (.bl _)⟩
  | _ => cases e
end
theorem acc_intsA {acc : Array Value} {n : Nat} {i : Int} (h : ItemsOf (fun k v => ∃ t, v = .int (i + k * 1) t) acc n) : Vals ((List.range n).map fun k : Nat => V.int (i + (k : Nat))) acc.toList := by
  obtain ⟨h1, h2⟩ := h
  subst h1
  have key : ∀ (l : List Value) (m : Nat), (∀ (j : Nat) (v : Value), l[j]? = some v → ∃ t, v = Value.int (i + ((m + j : Nat) : Int)) t) → Vals ((List.range' m l.length).map fun k : Nat => V.int (i + (k : Nat))) l := by
    intro l
    induction l with
    | nil => intro m _; exact .nil
    | cons v l ih =>
      intro m h
      obtain ⟨t, rfl⟩ := h 0 v rfl
      rw [List.length_cons, List.range'_succ]
      exact .cons ⟨t, rfl⟩ (ih (m + 1) fun j v e => by obtain ⟨t, q⟩ := h (j + 1) v e; exact ⟨t, by rw [q]; congr 2; omega⟩)
  have := key acc.toList 0 fun j v e => by
    obtain ⟨t, q⟩ := h2 j v (by rw [← Array.getElem?_toList]; exact e)
    exact ⟨t, by rw [q, Int.mul_one, Nat.zero_add]⟩
  rwa [Array.length_toList, ← List.range_eq_range'] at this
section
variable {X : Cx} {e1 e2 : Expr} {p p2 pos pos2 : Pos} {ta : TA} {f g : Dv → Option D}
def tLrng2 (ta : TA) : TE := fun σ H Q => ta σ H fun vs H1 => ∃ i j : Int, vs = [V.int i, V.int j] ∧ (-1000000 ≤ i ∧ i ≤ 1000000 ∧ -1000000 ≤ j ∧ j ≤ 1000000) ∧ ∀ l, H1 l = none → Q (.ref l) (upd H1 l (.lst ((List.range (j - i).toNat).map fun k : Nat => V.int (i + (k : Nat)))))
theorem pe_lrng2 (hc : X.calm = true) (hg : Gl X "list") (hm : X.mg "list" = none) (hg' : Gl X "range") (hm' : X.mg "range" = none) (ha : PA X [e1, e2] ta)
    (he : starEach [.Call (.Name "range" p2) [e1, e2] [] pos2] X.env = (false, eval (.Call (.Name "range" p2) [e1, e2] [] pos2) X.env) :: starEach [] X.env := by rfl)
    (he2 : starEach [e1, e2] X.env = (false, eval e1 X.env) :: starEach [e2] X.env := by rfl) (hpl : (backTo pos (starEach [] X.env)).any (·.1) = false := by rfl) (hpl2 : (backTo pos2 (starEach [e2] X.env)).any (·.1) = false := by rfl) :
    PE X (.Call (.Name "list" p) [.Call (.Name "range" p2) [e1, e2] [] pos2] [] pos) (tLrng2 ta) := by
  intro pins s σ H Q I h
  refine wpAny_Call_Name_kw (ld_blt I hg hm (u := .type "list") (by decide +kernel) ?_ (by decide) (by decide))
  refine PyProof.Rows.callWith_type1 ?_ he hpl
  rw [he]
  show wpAny _ _ (spliced ((false, eval _ X.env) :: backTo pos (starEach [] X.env))) _ _ s
  refine Calls.spliced_cons ?_
  refine wpAny_Call_Name_kw (ld_blt I hg' hm' (u := .type "range") (by decide +kernel) ?_ (by decide) (by decide))
  refine PyProof.Rows.callWith_type1 (thn (ha pos2 pins s σ H _ I h) fun us s1 ⟨vs, H1, I1, r1, q1⟩ => ?_) he2 hpl2
  obtain ⟨i, j, e, ⟨b1, b2, b3, b4⟩, q⟩ := q1
  subst e
  cases r1 with
  | cons r rr =>
    cases rr with
    | cons r' rr =>
      cases rr
      obtain ⟨t, rfl⟩ := r
      obtain ⟨t', rfl⟩ := r'
      refine call_range_2 ?_
      refine Calls.spliced_nil ?_
      refine call_list_range (I1.ok.hd hc) (IsRange.new ..) (small_one (by omega) (by omega) (by omega) (by omega)) (n := (j - i).toNat) (by rw [rangeSize_one]; split <;> omega) (by omega) fun h' tk acc c hk hS hacc => ?_
      have hal := acc_intsA hacc
      have L := I1.laid (h' := h') (a := (s1.heap.push { cls := .type "range", data := .fields #[.int i t, .int j t', .int 1 s1.toks] }).objs.size) (o := .lst ((List.range (j - i).toNat).map fun k : Nat => V.int (i + (k : Nat)))) (t' := tk) (fun b o eo => hk b o (Heap.get?_push_of_some _ eo)) (by rw [Heap.size_push]; exact Nat.le_succ _)
        (show ObjOk X.prog X.w _ _ _ (.lst ((List.range (j - i).toNat).map fun k : Nat => V.int (i + (k : Nat)))) from ⟨by rw [List.length_map, List.length_range, sizeLine_eq]; omega, acc.toList, _, hal, by rw [Array.toArray_toList]; exact hS⟩)
      exact ⟨.ref _, _, L, rfl, q _ (I1.hok.fresh (by rw [Heap.size_push]; exact Nat.le_succ _))⟩
/-- list(range(a, b)) -/
theorem ev_lrng2 (hg : Gl X "list") (hm : X.mg "list" = none) (hg' : Gl X "range") (hm' : X.mg "range" = none) (h1 : EV X e1 f) (h2 : EV X e2 g) (hc : X.calm = true := by rfl)
    (he : starEach [.Call (.Name "range" p2) [e1, e2] [] pos2] X.env = (false, eval (.Call (.Name "range" p2) [e1, e2] [] pos2) X.env) :: starEach [] X.env := by rfl)
    (he2 : starEach [e1, e2] X.env = (false, eval e1 X.env) :: starEach [e2] X.env := by rfl) (he3 : starEach [e2] X.env = (false, eval e2 X.env) :: starEach [] X.env := by rfl) (hpl : (backTo pos (starEach [] X.env)).any (·.1) = false := by rfl) (hpl2 : (backTo pos2 (starEach [e2] X.env)).any (·.1) = false := by rfl) :
    EV X (.Call (.Name "list" p) [.Call (.Name "range" p2) [e1, e2] [] pos2] [] pos) (o2 f g lrng2D) :=
  PE.imp (pe_lrng2 hc hg hm hg' hm' (av_cons h1 (av_cons h2 av_nil he3) he2) he he2 hpl hpl2) fun σ H Q h => by
    obtain ⟨H₀, Z₀, Z, δ, d, hh, e, k⟩ := h
    obtain ⟨x, e1, e⟩ := bind_some e
    obtain ⟨y, e2, e⟩ := bind_some e
    refine ⟨H₀, Z₀, Z, δ, [x, y], hh, by simp [e1, e2], fun vs Z1 H1 hh1 t1 r1 => ?_⟩
    cases x with
    | int i =>
      cases y with
      | int j =>
        obtain ⟨hj, e⟩ := ite_some e
        cases e
        cases r1 with
        | cons q1 q2 =>
          cases q2 with
          | cons q2 q3 =>
            cases q3
            refine ⟨i, j, by rw [q1.int_eq, q2.int_eq], hj, fun l hl => ?_⟩
            have n := New.add hh1.zh hl (.lst ((List.range (j - i).toNat).map fun k : Nat => V.int (i + (k : Nat))))
            refine k _ _ _ (hh1.new n) (t1.trans n.z) (.lst (SqL.of upd_same) ?_)
            have := Reps.ints (K := X.K) (Z := upd Z1 l (.lst ((List.range (j - i).toNat).map fun k : Nat => V.int (i + (k : Nat))))) ((List.range (j - i).toNat).map fun k : Nat => i + ((k : Nat) : Int))
            simpa [rngL, List.map_map, Function.comp_def] using this
      | _ => cases e
    | _ => cases e
end
end VL

set_option Elab.async false
set_option linter.all false
set_option maxRecDepth 100000
set_option maxHeartbeats 4000000
namespace MA
open PySem
/-! ### or, the twos that are shared -/
theorem or_halves (x y : Int) : Builtin.bitOr x y = 2 * Builtin.bitOr (x / 2) (y / 2) + (if x % 2 = 0 ∧ y % 2 = 0 then 0 else 1) := by
  unfold Builtin.bitOr Builtin.bitNot
  have h := PySem.W.kbt_halves (-x - 1) (-y - 1)
  have hx : (-x - 1) / 2 = -(x / 2) - 1 := by omega
  have hy : (-y - 1) / 2 = -(y / 2) - 1 := by omega
  rw [hx, hy] at h
  rw [h]
  by_cases c : x % 2 = 0 ∧ y % 2 = 0
  · rw [if_pos c, if_pos (by omega)]; omega
  · rw [if_neg c, if_neg (by omega)]; omega
theorem pow_pos' (n : Nat) : (0 : Int) < 2 ^ n := by
  induction n with
  | zero => decide
  | succ n ih => rw [Int.pow_succ]; omega
theorem div_pow_succ (x : Int) (n : Nat) : x / 2 ^ (n + 1) = x / 2 / 2 ^ n := by
  rw [Int.pow_succ, Int.mul_comm, Int.ediv_ediv_of_nonneg (by decide)]
theorem dvd_pow_succ (x : Int) (n : Nat) : 2 ^ (n + 1) ∣ x ↔ x % 2 = 0 ∧ 2 ^ n ∣ x / 2 := by
  constructor
  · rintro ⟨c, rfl⟩
    rw [Int.pow_succ]
    refine ⟨?_, c, ?_⟩
    · rw [Int.mul_comm (2 ^ n) 2, Int.mul_assoc]; omega
    · rw [Int.mul_comm (2 ^ n) 2, Int.mul_assoc, Int.mul_ediv_cancel_left _ (by decide)]
  · rintro ⟨h, c, hc⟩
    refine ⟨c, ?_⟩
    rw [Int.pow_succ, Int.mul_comm (2 ^ n) 2, Int.mul_assoc, ← hc]
    omega
theorem or_pow (n : Nat) : ∀ x y : Int, (2 ^ n ∣ Builtin.bitOr x y ↔ 2 ^ n ∣ x ∧ 2 ^ n ∣ y) ∧ (2 ^ n ∣ Builtin.bitOr x y → Builtin.bitOr x y / 2 ^ n = Builtin.bitOr (x / 2 ^ n) (y / 2 ^ n)) := by
  induction n with
  | zero => intro x y; simp
  | succ n ih =>
    intro x y
    have h := or_halves x y
    have hd : Builtin.bitOr x y / 2 = Builtin.bitOr (x / 2) (y / 2) := by rw [h]; split <;> omega
    have hm : Builtin.bitOr x y % 2 = 0 ↔ x % 2 = 0 ∧ y % 2 = 0 := by
      rw [h]
      by_cases c : x % 2 = 0 ∧ y % 2 = 0
      · rw [if_pos c]; constructor
        · intro _; exact c
        · intro _; omega
      · rw [if_neg c]; constructor
        · intro z; omega
        · intro z; exact absurd z c
    obtain ⟨i1, i2⟩ := ih (x / 2) (y / 2)
    constructor
    · rw [dvd_pow_succ, dvd_pow_succ, dvd_pow_succ, hd, hm, i1]
      constructor
      · rintro ⟨⟨a, b⟩, c, d⟩; exact ⟨⟨a, c⟩, b, d⟩
      · rintro ⟨⟨a, c⟩, b, d⟩; exact ⟨⟨a, b⟩, c, d⟩
    · intro q
      rw [dvd_pow_succ, hd] at q
      rw [div_pow_succ, div_pow_succ, div_pow_succ, hd, i2 q.2]
theorem split2 : ∀ (n : Nat) (j : Int), j.natAbs ≤ n → j ≠ 0 → ∃ (t : Nat) (a : Int), j = 2 ^ t * (2 * a + 1)
  | 0, j, h, h0 => by omega
  | n + 1, j, h, h0 => by
    by_cases c : j % 2 = 0
    · obtain ⟨t, a, e⟩ := split2 n (j / 2) (by omega) (by omega)
      refine ⟨t + 1, a, ?_⟩
      rw [Int.pow_succ, Int.mul_comm (2 ^ t) 2, Int.mul_assoc, ← e]
      omega
    · exact ⟨0, j / 2, by simp; omega⟩
theorem bits_pow (t : Nat) : Builtin.Int.intBits (2 ^ t) = t + 1 := by
  unfold Builtin.Int.intBits
  have h : (2 : Int) ^ t ≠ 0 := Int.ne_of_gt (pow_pos' t)
  have e : ((2 : Int) ^ t).natAbs = 2 ^ t := by
    have : ((2 ^ t : Nat) : Int) = (2 : Int) ^ t := by simp
    rw [← this, Int.natAbs_natCast]
  rw [if_neg (by simpa using h), e, Nat.log2_two_pow]
/-- the number of twos, bounded: what twos_shared tells -/
def twos (j most : Int) : Int := if j = 0 then most else if (Builtin.Int.intBits (Builtin.bitAnd j (-j)) : Int) - 1 < most then (Builtin.Int.intBits (Builtin.bitAnd j (-j)) : Int) - 1 else most
theorem twos_spec (j most : Int) (hm : 0 ≤ most) : ∃ t : Nat, twos j most = t ∧ (t : Int) ≤ most ∧ 2 ^ t ∣ j ∧ ((t : Int) < most → ¬ j / 2 ^ t % 2 = 0) := by
  unfold twos
  by_cases h : j = 0
  · subst h
    refine ⟨most.toNat, by rw [if_pos rfl]; omega, by omega, Int.dvd_zero _, fun z => by omega⟩
  · obtain ⟨t, a, e⟩ := split2 _ j (Nat.le_refl _) h
    have hb : Builtin.Int.intBits (Builtin.bitAnd j (-j)) = t + 1 := by rw [e, PySem.W.kbt_low, bits_pow]
    rw [if_neg h, hb]
    have q : ((t + 1 : Nat) : Int) - 1 = t := by omega
    rw [q]
    by_cases c : (t : Int) < most
    · refine ⟨t, by rw [if_pos c], by omega, ⟨_, e⟩, fun _ => ?_⟩
      rw [e, Int.mul_ediv_cancel_left _ (Int.ne_of_gt (pow_pos' t))]
      omega
    · refine ⟨most.toNat, by rw [if_neg c]; omega, by omega, ?_, fun z => by omega⟩
      refine Int.dvd_trans ?_ ⟨_, e⟩
      have : t = most.toNat + (t - most.toNat) := by omega
      rw [this, Int.pow_add]
      exact Int.dvd_mul_right _ _
/-! ### sizes -/
theorem bits_le {a : Int} {m : Nat} (h : a.natAbs < 2 ^ m) : Builtin.Int.intBits a ≤ m := by
  unfold Builtin.Int.intBits
  split
  · exact Nat.zero_le _
  · rename_i h0
    have h0 : a ≠ 0 := by simpa using h0
    have : a.natAbs.log2 < m := (Nat.log2_lt (by omega)).mpr h
    omega
/-! ### four parts -/
structure Q4 where
  a : Int
  b : Int
  c : Int
  d : Int
namespace Q4
theorem ext' {x y : Q4} (h1 : x.a = y.a) (h2 : x.b = y.b) (h3 : x.c = y.c) (h4 : x.d = y.d) : x = y := by
  cases x; cases y; simp at h1 h2 h3 h4; subst h1 h2 h3 h4; rfl
def add (x y : Q4) : Q4 := ⟨x.a + y.a, x.b + y.b, x.c + y.c, x.d + y.d⟩
def neg (x : Q4) : Q4 := ⟨-x.a, -x.b, -x.c, -x.d⟩
def mul (x y : Q4) : Q4 := ⟨x.a * y.a - x.b * y.d - x.c * y.c - x.d * y.b, x.a * y.b + x.b * y.a - x.c * y.d - x.d * y.c, x.a * y.c + x.b * y.b + x.c * y.a - x.d * y.d, x.a * y.d + x.b * y.c + x.c * y.b + x.d * y.a⟩
/-- times the root of two -/
def rt (x : Q4) : Q4 := ⟨x.b - x.d, x.a + x.c, x.b + x.d, x.c - x.a⟩
def dbl (n : Int) (x : Q4) : Q4 := ⟨x.a * n, x.b * n, x.c * n, x.d * n⟩
/-- an eighth turn -/
def tn (x : Q4) : Q4 := ⟨-x.d, x.a, x.b, x.c⟩
def rtn : Nat → Q4 → Q4
  | 0, x => x
  | n + 1, x => rtn n (rt x)
theorem rtn_succ (n : Nat) (x : Q4) : rtn (n + 1) x = rt (rtn n x) := by
  induction n generalizing x with
  | zero => rfl
  | succ n ih => exact ih (rt x)
theorem rtn_add (m n : Nat) (x : Q4) : rtn (m + n) x = rtn m (rtn n x) := by
  induction n generalizing x with
  | zero => rfl
  | succ n ih => exact ih (rt x)
theorem rt_rt (x : Q4) : rt (rt x) = dbl 2 x := by
  apply ext' <;> simp [rt, dbl] <;> omega
theorem dbl_dbl (m n : Int) (x : Q4) : dbl m (dbl n x) = dbl (n * m) x := by
  apply ext' <;> simp [dbl, Int.mul_assoc]
theorem rtn_two (t : Nat) (x : Q4) : rtn (2 * t) x = dbl (2 ^ t) x := by
  induction t generalizing x with
  | zero => apply ext' <;> simp [rtn, dbl]
  | succ t ih =>
    have e : 2 * (t + 1) = 2 * t + 1 + 1 := by omega
    rw [e]
    show rtn (2 * t) (rt (rt x)) = _
    rw [ih, rt_rt, dbl_dbl, Int.pow_succ, Int.mul_comm]
theorem rt_inj {x y : Q4} (h : rt x = rt y) : x = y := by
  have h1 := congrArg rt h
  rw [rt_rt, rt_rt] at h1
  have h2 := congrArg Q4.a h1
  have h3 := congrArg Q4.b h1
  have h4 := congrArg Q4.c h1
  have h5 := congrArg Q4.d h1
  simp only [dbl] at h2 h3 h4 h5
  apply ext' <;> omega
theorem rtn_inj {n : Nat} {x y : Q4} (h : rtn n x = rtn n y) : x = y := by
  induction n generalizing x y with
  | zero => exact h
  | succ n ih => exact rt_inj (ih h)
theorem rt_add (x y : Q4) : rt (add x y) = add (rt x) (rt y) := by apply ext' <;> simp [rt, add] <;> omega
theorem rtn_addQ (n : Nat) (x y : Q4) : rtn n (add x y) = add (rtn n x) (rtn n y) := by
  induction n generalizing x y with
  | zero => rfl
  | succ n ih => show rtn n (rt (add x y)) = _; rw [rt_add, ih]; rfl
theorem rt_mul (x y : Q4) : rt (mul x y) = mul (rt x) y := by apply ext' <;> simp only [rt, mul] <;> grind
theorem rtn_mul (n : Nat) (x y : Q4) : rtn n (mul x y) = mul (rtn n x) y := by
  induction n generalizing x with
  | zero => rfl
  | succ n ih => show rtn n (rt (mul x y)) = _; rw [rt_mul, ih]; rfl
theorem mul_comm (x y : Q4) : mul x y = mul y x := by apply ext' <;> simp only [mul] <;> grind
theorem mul_assoc (x y z : Q4) : mul (mul x y) z = mul x (mul y z) := by apply ext' <;> simp only [mul] <;> grind
theorem mul_add (x y z : Q4) : mul x (add y z) = add (mul x y) (mul x z) := by apply ext' <;> simp only [mul, add] <;> grind
theorem add_comm (x y : Q4) : add x y = add y x := by apply ext' <;> simp only [add] <;> omega
theorem rtn_mul2 (m n : Nat) (x y : Q4) : rtn (m + n) (mul x y) = mul (rtn m x) (rtn n y) := by
  rw [rtn_add, mul_comm, rtn_mul, mul_comm, rtn_mul]
theorem tn_mul (x y : Q4) : tn (mul x y) = mul x (tn y) := by apply ext' <;> simp only [mul, tn] <;> grind
theorem tn_rt (x : Q4) : tn (rt x) = rt (tn x) := by apply ext' <;> simp only [rt, tn] <;> omega
/-- no root can be taken out -/
def Odd (x : Q4) : Prop := ¬ ((x.a - x.c) % 2 = 0 ∧ (x.b - x.d) % 2 = 0)
theorem rt_even (x : Q4) : ¬ Odd (rt x) := by
  unfold Odd rt
  simp only
  omega
/-- least form -/
def Least (x : Q4) (k : Int) : Prop := 0 ≤ k ∧ (0 < k → Odd x)
theorem Least.one {x y : Q4} {k l m : Nat} (hx : Least x k) (hy : Least y l) (h1 : k ≤ m) (h2 : l ≤ m) (h : rtn (m - k) x = rtn (m - l) y) : x = y ∧ k = l := by
  have key : ∀ {x y : Q4} {k l : Nat}, Least y l → k ≤ m → l ≤ m → k < l → rtn (m - k) x = rtn (m - l) y → False := by
    intro x y k l hy h1 h2 hlt h
    have e : m - k = (m - l) + (l - k) := by omega
    rw [e, rtn_add] at h
    have h3 := rtn_inj h
    obtain ⟨n, hn⟩ : ∃ n, l - k = n + 1 := ⟨l - k - 1, by omega⟩
    rw [hn, rtn_succ] at h3
    have := hy.2 (by omega)
    rw [← h3] at this
    exact rt_even _ this
  rcases Nat.lt_trichotomy k l with q | q | q
  · exact (key hy h1 h2 q h).elim
  · subst q; exact ⟨rtn_inj h, rfl⟩
  · exact (key hx h2 h1 q h.symm).elim
end Q4
/-- the four parts' twos -/
theorem twos_four (a b c d most : Int) (hm : 0 ≤ most) : ∃ t : Nat, twos (Builtin.bitOr (Builtin.bitOr (Builtin.bitOr a b) c) d) most = t ∧ (t : Int) ≤ most ∧ a = a / 2 ^ t * 2 ^ t ∧ b = b / 2 ^ t * 2 ^ t ∧ c = c / 2 ^ t * 2 ^ t ∧ d = d / 2 ^ t * 2 ^ t ∧
    ((t : Int) < most → ¬ (a / 2 ^ t % 2 = 0 ∧ b / 2 ^ t % 2 = 0 ∧ c / 2 ^ t % 2 = 0 ∧ d / 2 ^ t % 2 = 0)) := by
  obtain ⟨t, e, h1, h2, h3⟩ := twos_spec (Builtin.bitOr (Builtin.bitOr (Builtin.bitOr a b) c) d) most hm
  have o1 := or_pow t (Builtin.bitOr (Builtin.bitOr a b) c) d
  have d1 := o1.1.mp h2
  have o2 := or_pow t (Builtin.bitOr a b) c
  have d2 := o2.1.mp d1.1
  have o3 := or_pow t a b
  have d3 := o3.1.mp d2.1
  refine ⟨t, e, h1, (Int.ediv_mul_cancel d3.1).symm, (Int.ediv_mul_cancel d3.2).symm, (Int.ediv_mul_cancel d2.2).symm, (Int.ediv_mul_cancel d1.2).symm, fun z w => h3 z ?_⟩
  have ev : ∀ x y : Int, x % 2 = 0 → y % 2 = 0 → Builtin.bitOr x y % 2 = 0 := fun x y hx hy => by
    rw [or_halves, if_pos ⟨hx, hy⟩]; omega
  rw [o1.2 h2, o2.2 d1.1, o3.2 d2.1]
  exact ev _ _ (ev _ _ (ev _ _ w.1 w.2.1) w.2.2.1) w.2.2.2
/-- what number tells -/
def num (x : Q4) (k : Int) : Q4 × Int :=
  let t := (twos (Builtin.bitOr (Builtin.bitOr (Builtin.bitOr x.a x.b) x.c) x.d) (k / 2)).toNat
  let y : Q4 := ⟨x.a / 2 ^ t, x.b / 2 ^ t, x.c / 2 ^ t, x.d / 2 ^ t⟩
  if k - 2 * t = 0 ∨ (y.a - y.c) % 2 = 1 ∨ (y.b - y.d) % 2 = 1 then (y, k - 2 * t) else (⟨(y.b - y.d) / 2, (y.a + y.c) / 2, (y.b + y.d) / 2, (y.c - y.a) / 2⟩, k - 2 * t - 1)
theorem half_s {p q : Int} (h : (p - q) % 2 = 0) : (p + q) / 2 - (q - p) / 2 = p ∧ (p + q) / 2 + (q - p) / 2 = q := by omega
theorem half_t {p q : Int} (h : (p - q) % 2 = 0) : (p - q) / 2 + (p + q) / 2 = p ∧ (p + q) / 2 - (p - q) / 2 = q := by omega
theorem par_of {x y : Int} (h : (x - y) % 2 = 0) (k : y % 2 = 0) : x % 2 = 0 := by omega
theorem par_of' {x y : Int} (h : (x - y) % 2 = 0) (k : x % 2 = 0) : y % 2 = 0 := by omega
theorem odd_half {a b c d : Int} (g1 : (a - c) % 2 = 0) (g2 : (b - d) % 2 = 0) (h : ¬ (a % 2 = 0 ∧ b % 2 = 0 ∧ c % 2 = 0 ∧ d % 2 = 0)) : Q4.Odd ⟨(b - d) / 2, (a + c) / 2, (b + d) / 2, (c - a) / 2⟩ := fun z => by
  have z1 : ((b - d) / 2 - (b + d) / 2) % 2 = 0 := z.1
  have z2 : ((a + c) / 2 - (c - a) / 2) % 2 = 0 := z.2
  rw [(half_s g1).1] at z2
  have e := (half_t g2).2
  have z3 : d % 2 = 0 := by omega
  exact h ⟨z2, par_of g2 z3, par_of' g1 z2, z3⟩
theorem num_spec (x : Q4) (k : Int) (hk : 0 ≤ k) : Q4.Least (num x k).1 (num x k).2 ∧ (num x k).2 ≤ k ∧ Q4.rtn (k - (num x k).2).toNat (num x k).1 = x := by
  obtain ⟨t, e, h1, ha, hb, hc, hd, h3⟩ := twos_four x.a x.b x.c x.d (k / 2) (by omega)
  have l2 : 2 * (t : Int) ≤ k := by omega
  unfold num
  simp only [e, Int.toNat_natCast]
  generalize x.a / 2 ^ t = a at *
  generalize x.b / 2 ^ t = b at *
  generalize x.c / 2 ^ t = c at *
  generalize x.d / 2 ^ t = d at *
  have e2 : Q4.dbl (2 ^ t) ⟨a, b, c, d⟩ = x := Q4.ext' ha.symm hb.symm hc.symm hd.symm
  split
  · rename_i h
    refine ⟨⟨Int.sub_nonneg_of_le l2, fun z => ?_⟩, Int.sub_le_self _ (by omega), ?_⟩
    · rcases h with h | h | h
      · exact absurd h (Int.ne_of_gt z)
      · exact fun w => absurd (h.symm.trans w.1) (by decide)
      · exact fun w => absurd (h.symm.trans w.2) (by decide)
    · have : (k - (k - 2 * (t : Int))).toNat = 2 * t := by omega
      simp only [this]
      rw [Q4.rtn_two, e2]
  · rename_i h
    have g0 : k - 2 * (t : Int) ≠ 0 := fun z => h (.inl z)
    have g1 : (a - c) % 2 = 0 := (Int.emod_two_eq (a - c)).resolve_right fun z => h (.inr (.inl z))
    have g2 : (b - d) % 2 = 0 := (Int.emod_two_eq (b - d)).resolve_right fun z => h (.inr (.inr z))
    refine ⟨⟨(by omega : 0 ≤ k - 2 * (t : Int) - 1), fun z => odd_half g1 g2 (h3 ?_)⟩, (by omega : k - 2 * (t : Int) - 1 ≤ k), ?_⟩
    · have z : 0 < k - 2 * (t : Int) - 1 := z
      omega
    · have : (k - (k - 2 * (t : Int) - 1)).toNat = 2 * t + 1 := by omega
      simp only [this]
      show Q4.rtn (2 * t) (Q4.rt _) = x
      rw [Q4.rtn_two]
      have e3 : Q4.rt ⟨(b - d) / 2, (a + c) / 2, (b + d) / 2, (c - a) / 2⟩ = ⟨a, b, c, d⟩ := Q4.ext' (half_s g1).1 (half_t g2).1 (half_s g1).2 (half_t g2).2
      rw [e3, e2]
/-- no part above a bound -/
def Q4.Le (M : Nat) (x : Q4) : Prop := x.a.natAbs ≤ M ∧ x.b.natAbs ≤ M ∧ x.c.natAbs ≤ M ∧ x.d.natAbs ≤ M
theorem Q4.Le.mono {x : Q4} {M N : Nat} (h : Q4.Le M x) (hl : M ≤ N) : Q4.Le N x := ⟨Nat.le_trans h.1 hl, Nat.le_trans h.2.1 hl, Nat.le_trans h.2.2.1 hl, Nat.le_trans h.2.2.2 hl⟩
/-- the sum and the product, as the program tells them -/
def plusQ (x : Q4) (c : Int) (y : Q4) (d : Int) : Q4 × Int := num (Q4.add (Q4.rtn (max c d - c).toNat x) (Q4.rtn (max c d - d).toNat y)) (max c d)
/-- turned by eighths -/
def tnn : Nat → Q4 → Q4
  | 0, x => x
  | n + 1, x => Q4.tn (tnn n x)
/-- x over c roots is u over k roots, and it is in least form -/
def Is (x : Q4) (c : Nat) (u : Q4) (k : Nat) : Prop := Q4.Least x c ∧ Q4.rtn k x = Q4.rtn c u
theorem rtn_swap (m n : Nat) (x : Q4) : Q4.rtn m (Q4.rtn n x) = Q4.rtn n (Q4.rtn m x) := by rw [← Q4.rtn_add, ← Q4.rtn_add, Nat.add_comm]
theorem Is.self {x : Q4} {c : Nat} (h : Q4.Least x c) : Is x c x c := ⟨h, rfl⟩
theorem Is.one {x y u v : Q4} {c d k l : Nat} (hx : Is x c u k) (hy : Is y d v l) (h : Q4.rtn l u = Q4.rtn k v) : x = y ∧ c = d := by
  have e : Q4.rtn d x = Q4.rtn c y := by
    refine Q4.rtn_inj (n := k + l) ?_
    rw [Q4.rtn_add, Q4.rtn_add, rtn_swap l d x, rtn_swap k d, rtn_swap k l, hx.2, rtn_swap l c u, h, rtn_swap l c y, hy.2, rtn_swap k c, rtn_swap k d v, rtn_swap d c]
  exact Q4.Least.one (m := c + d) hx.1 hy.1 (by omega) (by omega) (by rw [show c + d - c = d by omega, show c + d - d = c by omega]; exact e)
theorem Is.trans {x u v : Q4} {c k l : Nat} (h : Is x c u k) (e : Q4.rtn l u = Q4.rtn k v) : Is x c v l := by
  refine ⟨h.1, Q4.rtn_inj (n := k) ?_⟩
  rw [rtn_swap, h.2, rtn_swap, e, rtn_swap]
theorem tn_rtn (n : Nat) (x : Q4) : Q4.tn (Q4.rtn n x) = Q4.rtn n (Q4.tn x) := by
  induction n generalizing x with
  | zero => rfl
  | succ n ih => show Q4.tn (Q4.rtn n (Q4.rt x)) = Q4.rtn n (Q4.rt (Q4.tn x)); rw [ih, Q4.tn_rt]
theorem tnn_rtn (m n : Nat) (x : Q4) : tnn m (Q4.rtn n x) = Q4.rtn n (tnn m x) := by
  induction m with
  | zero => rfl
  | succ m ih => show Q4.tn (tnn m (Q4.rtn n x)) = _; rw [ih, tn_rtn]; rfl
theorem tnn_add (m n : Nat) (x : Q4) : tnn (m + n) x = tnn m (tnn n x) := by
  induction m with
  | zero => rw [Nat.zero_add]; rfl
  | succ m ih => rw [Nat.succ_add]; show Q4.tn (tnn (m + n) x) = _; rw [ih]; rfl
theorem tnn_mul (n : Nat) (x y : Q4) : tnn n (Q4.mul x y) = Q4.mul x (tnn n y) := by
  induction n with
  | zero => rfl
  | succ n ih => show Q4.tn (tnn n (Q4.mul x y)) = _; rw [ih, Q4.tn_mul]; rfl
/-! ### shares -/
structure S2 where
  p : Int
  q : Int
namespace S2
theorem ext' {x y : S2} (h1 : x.p = y.p) (h2 : x.q = y.q) : x = y := by
  cases x; cases y; simp at h1 h2; subst h1 h2; rfl
def add (x y : S2) : S2 := ⟨x.p + y.p, x.q + y.q⟩
def mul (x y : S2) : S2 := ⟨x.p * y.p + 2 * x.q * y.q, x.p * y.q + x.q * y.p⟩
def sc (n : Nat) (x : S2) : S2 := ⟨x.p * 2 ^ n, x.q * 2 ^ n⟩
theorem sc_add (m n : Nat) (x : S2) : sc (m + n) x = sc m (sc n x) := by
  apply ext' <;> simp only [sc, Int.pow_add] <;> rw [Int.mul_assoc, Int.mul_comm (2 ^ n)]
theorem sc_swap (m n : Nat) (x : S2) : sc m (sc n x) = sc n (sc m x) := by rw [← sc_add, ← sc_add, Nat.add_comm]
theorem sc_inj {n : Nat} {x y : S2} (h : sc n x = sc n y) : x = y := by
  have pw := pow_pos' n
  have h1 := congrArg S2.p h
  have h2 := congrArg S2.q h
  simp only [sc] at h1 h2
  exact ext' (Int.eq_of_mul_eq_mul_right (by omega) h1) (Int.eq_of_mul_eq_mul_right (by omega) h2)
def Odd (x : S2) : Prop := ¬ (x.p % 2 = 0 ∧ x.q % 2 = 0)
theorem sc_even (n : Nat) (x : S2) : ¬ Odd (sc (n + 1) x) := by
  unfold Odd sc
  rw [Int.pow_succ, ← Int.mul_assoc, ← Int.mul_assoc]
  simp only
  omega
def Least (x : S2) (c : Nat) : Prop := 0 < c → Odd x
theorem Least.one {x y : S2} {k l m : Nat} (hx : Least x k) (hy : Least y l) (h1 : k ≤ m) (h2 : l ≤ m) (h : sc (m - k) x = sc (m - l) y) : x = y ∧ k = l := by
  have key : ∀ {x y : S2} {k l : Nat}, Least y l → k ≤ m → l ≤ m → k < l → sc (m - k) x = sc (m - l) y → False := by
    intro x y k l hy h1 h2 hlt h
    have e : m - k = (m - l) + (l - k) := by omega
    rw [e, sc_add] at h
    have h3 := sc_inj h
    obtain ⟨n, hn⟩ : ∃ n, l - k = n + 1 := ⟨l - k - 1, by omega⟩
    rw [hn] at h3
    have := hy (by omega)
    rw [← h3] at this
    exact sc_even _ _ this
  rcases Nat.lt_trichotomy k l with q | q | q
  · exact (key hy h1 h2 q h).elim
  · subst q; exact ⟨sc_inj h, rfl⟩
  · exact (key hx h2 h1 q h.symm).elim
def Le (M : Nat) (x : S2) : Prop := x.p.natAbs ≤ M ∧ x.q.natAbs ≤ M
theorem Le.mono {x : S2} {M N : Nat} (h : Le M x) (hl : M ≤ N) : Le N x := ⟨Nat.le_trans h.1 hl, Nat.le_trans h.2 hl⟩
/-- x over c twos is u over k twos, in least form -/
def Is (x : S2) (c : Nat) (u : S2) (k : Nat) : Prop := Least x c ∧ sc k x = sc c u
theorem Is.one {x y u v : S2} {c d k l : Nat} (hx : Is x c u k) (hy : Is y d v l) (h : sc l u = sc k v) : x = y ∧ c = d := by
  have e : sc d x = sc c y := by
    refine sc_inj (n := k + l) ?_
    rw [sc_add, sc_add, sc_swap l d x, sc_swap k d, sc_swap k l, hx.2, sc_swap l c u, h, sc_swap l c y, hy.2, sc_swap k c, sc_swap k d v, sc_swap d c]
  exact Least.one (m := c + d) hx.1 hy.1 (by omega) (by omega) (by rw [show c + d - c = d by omega, show c + d - d = c by omega]; exact e)
theorem Is.trans {x u v : S2} {c k l : Nat} (h : Is x c u k) (e : sc l u = sc k v) : Is x c v l := by
  refine ⟨h.1, sc_inj (n := k) ?_⟩
  rw [sc_swap, h.2, sc_swap, e, sc_swap]
end S2
/-! ### states -/
abbrev Nu := Q4 × Nat
inductive Row where
  | swing (j : Nat) | turn (j : Nat) (e : Nat) | flip (j : Nat) | tie (i j : Nat) | sign (i j : Nat) | cross (i j : Nat)
def plusN (u v : Nu) : Nu := ((plusQ u.1 u.2 v.1 v.2).1, (plusQ u.1 u.2 v.1 v.2).2.toNat)
def halfN (u : Nu) : Nu := ((num u.1 ((u.2 + 1 : Nat) : Int)).1, (num u.1 ((u.2 + 1 : Nat) : Int)).2.toNat)
def turnN (e : Nat) (u : Nu) : Nu := (tnn (e % 8) u.1, u.2)
/-- what wire j's bit is worth -/
def wt (n j : Nat) : Nat := 2 ^ (n - 1 - j)
def bit (w p : Nat) : Nat := p / w % 2
def flp (w p : Nat) : Nat := if bit w p = 0 then p + w else p - w
/-- where a flip, a tie, a cross take the number from -/
def from_ (n : Nat) : Row → Nat → Nat
  | .flip j, p => flp (wt n j) p
  | .tie i j, p => if bit (wt n i) p = 0 then p else flp (wt n j) p
  | .cross i j, p => if bit (wt n i) p = bit (wt n j) p then p else flp (wt n j) (flp (wt n i) p)
  | _, p => p
def doneAt (n : Nat) (f : Nat → Nu) : Row → Nat → Nu
  | .swing j, p => if bit (wt n j) p = 0 then halfN (plusN (f p) (f (p + wt n j))) else halfN (plusN (f (p - wt n j)) (turnN 4 (f p)))
  | .turn j e, p => turnN (e * bit (wt n j) p) (f p)
  | .sign i j, p => turnN (4 * bit (wt n i) p * bit (wt n j) p) (f p)
  | r, p => f (from_ n r p)
def Row.ok (n : Nat) : Row → Prop
  | .swing j => j < n
  | .turn j e => j < n ∧ 1 ≤ e ∧ e ≤ 7
  | .flip j => j < n
  | .tie i j => i < n ∧ j < n ∧ i ≠ j
  | .sign i j => i < n ∧ j < n ∧ i ≠ j
  | .cross i j => i < n ∧ j < n ∧ i ≠ j
/-! ### bits of a whole number -/
theorem band (a b : Nat) : Builtin.bitAnd (a : Int) (b : Int) = ((a &&& b : Nat) : Int) := by
  unfold Builtin.bitAnd
  simp
/-- how many bits are 1 -/
def cnt (n : Nat) : Nat := if n = 0 then 0 else n % 2 + cnt (n / 2)
termination_by n
decreasing_by omega
/-- is an odd number of bits 1? -/
def par (n : Nat) : Nat := cnt n % 2
/-! ### words -/
structure Wd where
  x : Nat
  z : Nat
  s : Nat
def Wd.ok (n : Nat) (w : Wd) : Prop := w.x < 2 ^ n ∧ w.z < 2 ^ n ∧ w.s < 4
/-! ### shapes: == of a thing with itself -/
def Sh (k : Nat) (d : PyData) : Prop := d.canLay0 = true ∧ d.depth ≤ k
theorem Sh.int (k : Nat) (i : Int) : Sh k (.int i) := ⟨by simp [PyData.canLay0], by simp [PyData.depth]⟩
theorem Sh.all {k : Nat} : ∀ (xs : List PyData), (∀ x ∈ xs, Sh k x) → PyData.canLayAll0 xs = true ∧ PyData.depthAll xs ≤ k
  | [], _ => ⟨by simp [PyData.canLayAll0], by simp [PyData.depthAll]⟩
  | x :: xs, h => by
    obtain ⟨a, b⟩ := Sh.all xs fun y hy => h y (List.mem_cons_of_mem _ hy)
    obtain ⟨c, d⟩ := h x List.mem_cons_self
    refine ⟨by simp [PyData.canLayAll0, a, c], ?_⟩
    simp only [PyData.depthAll]
    omega
theorem Sh.tuple {k : Nat} {xs : List PyData} (h : ∀ x ∈ xs, Sh k x) : Sh (k + 1) (.tuple xs) := by
  obtain ⟨a, b⟩ := Sh.all xs h
  exact ⟨by simp [PyData.canLay0, a], by simp only [PyData.depth]; omega⟩
theorem Sh.list {k : Nat} {xs : List PyData} (h : ∀ x ∈ xs, Sh k x) : Sh (k + 1) (.list xs) := by
  obtain ⟨a, b⟩ := Sh.all xs h
  exact ⟨by simp [PyData.canLay0, a], by simp only [PyData.depth]; omega⟩
/-! ### all numbers over one great r**M -/
def val (M : Nat) (u : Nu) : Q4 := Q4.rtn (M - u.2) u.1
theorem num_rtn (x : Q4) (k M : Nat) (h : k ≤ M) : Q4.rtn (M - (num x k).2.toNat) (num x k).1 = Q4.rtn (M - k) x := by
  obtain ⟨s1, s2, s3⟩ := num_spec x k (by omega)
  have h0 := s1.1
  have e : M - (num x (k : Int)).2.toNat = (M - k) + ((k : Int) - (num x (k : Int)).2).toNat := by omega
  rw [e, Q4.rtn_add, s3]
theorem val_turn (M e : Nat) (u : Nu) : val M (turnN e u) = tnn (e % 8) (val M u) := by
  unfold val turnN
  rw [tnn_rtn]
theorem val_plus {M : Nat} {u v : Nu} (hu : u.2 ≤ M) (hv : v.2 ≤ M) : val M (plusN u v) = Q4.add (val M u) (val M v) := by
  unfold val plusN plusQ
  have hk : max (u.2 : Int) v.2 = ((max u.2 v.2 : Nat) : Int) := by omega
  rw [hk]
  simp only
  rw [num_rtn _ _ M (by omega), Q4.rtn_addQ, ← Q4.rtn_add, ← Q4.rtn_add]
  congr 2 <;> congr 1 <;> omega
theorem val_half {M : Nat} {u : Nu} (hu : u.2 + 1 ≤ M) : Q4.rt (val M (halfN u)) = val M u := by
  unfold val halfN
  rw [num_rtn _ _ M hu, ← Q4.rtn_succ]
  congr 1
  omega
/-! ### sums over places -/
def sumI : Nat → (Nat → Int) → Int
  | 0, _ => 0
  | n + 1, F => sumI n F + F n
theorem sumI_congr {F G : Nat → Int} : ∀ (n : Nat), (∀ p, p < n → F p = G p) → sumI n F = sumI n G
  | 0, _ => rfl
  | n + 1, h => by
    show sumI n F + F n = sumI n G + G n
    rw [sumI_congr n fun p hp => h p (by omega), h n (by omega)]
theorem sumI_add (F G : Nat → Int) : ∀ n : Nat, sumI n (fun p => F p + G p) = sumI n F + sumI n G
  | 0 => rfl
  | n + 1 => by
    show sumI n _ + (F n + G n) = sumI n F + F n + (sumI n G + G n)
    rw [sumI_add F G n]; omega
theorem plusN_le' (u v : Nu) : (plusN u v).2 ≤ max u.2 v.2 := by
  have hk : max (u.2 : Int) v.2 = ((max u.2 v.2 : Nat) : Int) := by omega
  unfold plusN plusQ
  rw [hk]
  obtain ⟨s1, s2, s3⟩ := num_spec (Q4.add (Q4.rtn (((max u.2 v.2 : Nat) : Int) - u.2).toNat u.1) (Q4.rtn (((max u.2 v.2 : Nat) : Int) - v.2).toNat v.1)) ((max u.2 v.2 : Nat) : Int) (by omega)
  show (num _ _).2.toNat ≤ _
  omega
/-! ### the whole and the inner number stay -/
/-! ### inner numbers -/
def sumQ (N : Nat) (F : Nat → Q4) : Q4 := ⟨sumI N (fun p => (F p).a), sumI N (fun p => (F p).b), sumI N (fun p => (F p).c), sumI N (fun p => (F p).d)⟩
theorem sumQ_succ (N : Nat) (F : Nat → Q4) : sumQ (N + 1) F = Q4.add (sumQ N F) (F N) := rfl
theorem sumQ_congr {F G : Nat → Q4} (N : Nat) (h : ∀ p, p < N → F p = G p) : sumQ N F = sumQ N G := by
  apply Q4.ext'
  · exact sumI_congr N fun p hp => by rw [h p hp]
  · exact sumI_congr N fun p hp => by rw [h p hp]
  · exact sumI_congr N fun p hp => by rw [h p hp]
  · exact sumI_congr N fun p hp => by rw [h p hp]
theorem rtn_zero : ∀ k, Q4.rtn k ⟨0, 0, 0, 0⟩ = ⟨0, 0, 0, 0⟩
  | 0 => rfl
  | k + 1 => by rw [Q4.rtn_succ, rtn_zero k]; rfl
/-! ### columns: the state of a sum is the sum of the states -/
theorem sumQ_rt (F : Nat → Q4) : ∀ N : Nat, Q4.rt (sumQ N F) = sumQ N (fun p => Q4.rt (F p))
  | 0 => by apply Q4.ext' <;> rfl
  | N + 1 => by rw [sumQ_succ, Q4.rt_add, sumQ_rt F N]; rfl
theorem tn_add (x y : Q4) : Q4.tn (Q4.add x y) = Q4.add (Q4.tn x) (Q4.tn y) := by apply Q4.ext' <;> simp only [Q4.tn, Q4.add] <;> omega
theorem tnn_addQ (e : Nat) : ∀ (x y : Q4), tnn e (Q4.add x y) = Q4.add (tnn e x) (tnn e y) := by
  induction e with
  | zero => intro x y; rfl
  | succ e ih =>
    intro x y
    have e1 : ∀ z, tnn (e + 1) z = tnn e (Q4.tn z) := fun z => by rw [tnn_add e 1 z]; rfl
    rw [e1, e1, e1, tn_add, ih]
theorem tnn_zero (e : Nat) : tnn e ⟨0, 0, 0, 0⟩ = ⟨0, 0, 0, 0⟩ := by
  induction e with
  | zero => rfl
  | succ e ih =>
    have e1 : ∀ z, tnn (e + 1) z = tnn e (Q4.tn z) := fun z => by rw [tnn_add e 1 z]; rfl
    rw [e1]
    exact ih
theorem sumQ_tnn (e : Nat) (F : Nat → Q4) : ∀ N : Nat, tnn e (sumQ N F) = sumQ N (fun p => tnn e (F p))
  | 0 => tnn_zero e
  | N + 1 => by rw [sumQ_succ, tnn_addQ, sumQ_tnn e F N]; rfl
theorem sumQ_add (F G : Nat → Q4) (N : Nat) : sumQ N (fun p => Q4.add (F p) (G p)) = Q4.add (sumQ N F) (sumQ N G) := by
  apply Q4.ext'
  · exact sumI_add (fun p => (F p).a) (fun p => (G p).a) N
  · exact sumI_add (fun p => (F p).b) (fun p => (G p).b) N
  · exact sumI_add (fun p => (F p).c) (fun p => (G p).c) N
  · exact sumI_add (fun p => (F p).d) (fun p => (G p).d) N
theorem val_swing {n M j : Nat} {f : Nat → Nu} (hf : ∀ p, (f p).2 + 1 ≤ M) (x : Nat) : Q4.rt (val M (doneAt n f (.swing j) x)) = if bit (wt n j) x = 0 then Q4.add (val M (f x)) (val M (f (x + wt n j))) else Q4.add (val M (f (x - wt n j))) (tnn 4 (val M (f x))) := by
  show Q4.rt (val M (if bit (wt n j) x = 0 then halfN (plusN (f x) (f (x + wt n j))) else halfN (plusN (f (x - wt n j)) (turnN 4 (f x))))) = _
  split
  · have a := hf x
    have b := hf (x + wt n j)
    have l := plusN_le' (f x) (f (x + wt n j))
    rw [val_half (by omega), val_plus (by omega) (by omega)]
  · have a := hf x
    have b := hf (x - wt n j)
    have l : (plusN (f (x - wt n j)) (turnN 4 (f x))).2 ≤ max (f (x - wt n j)).2 (f x).2 := plusN_le' _ _
    rw [val_half (by omega), val_plus (by omega) (by show (f x).2 ≤ M; omega), val_turn]
/-- g is the sum of the c p, each times a p -/
def Sup (N M K : Nat) (a : Nat → Q4) (c : Nat → Nat → Nu) (g : Nat → Nu) : Prop := ∀ x, val N (g x) = sumQ K (fun p => Q4.mul (a p) (val M (c p x)))
theorem Sup.done {n N M K : Nat} {a : Nat → Q4} {c : Nat → Nat → Nu} {g : Nat → Nu} (h : Sup N M K a c g) (hg : ∀ p, (g p).2 + 1 ≤ N) (hc : ∀ p x, (c p x).2 + 1 ≤ M) (r : Row) : Sup N M K a (fun p => doneAt n (c p) r) (doneAt n g r) := by
  have tm : ∀ (e : Nat) (x : Nat), val N (turnN e (g x)) = sumQ K (fun p => Q4.mul (a p) (val M (turnN e (c p x)))) := fun e x => by
    rw [val_turn, h x, sumQ_tnn]
    refine sumQ_congr _ fun p _ => ?_
    rw [tnn_mul, val_turn]
  intro x
  cases r with
  | swing j =>
    apply Q4.rt_inj
    rw [val_swing hg x, sumQ_rt]
    have e : ∀ p, Q4.rt (Q4.mul (a p) (val M (doneAt n (c p) (.swing j) x))) = Q4.mul (a p) (if bit (wt n j) x = 0 then Q4.add (val M (c p x)) (val M (c p (x + wt n j))) else Q4.add (val M (c p (x - wt n j))) (tnn 4 (val M (c p x)))) := fun p => by
      rw [← val_swing (hc p) x, Q4.mul_comm, Q4.rt_mul, Q4.mul_comm]
    simp only [e]
    split
    · rw [h x, h (x + wt n j), ← sumQ_add]
      exact sumQ_congr _ fun p _ => by rw [Q4.mul_add]
    · rw [h x, h (x - wt n j), sumQ_tnn, ← sumQ_add]
      exact sumQ_congr _ fun p _ => by rw [Q4.mul_add, tnn_mul]
  | turn j e => exact tm _ x
  | sign i j => exact tm _ x
  | flip j => exact h _
  | tie i j => exact h _
  | cross i j => exact h _
/-- one at p, nought elsewhere -/
def oneAt (p : Nat) : Nat → Nu := fun q => if q = p then (⟨1, 0, 0, 0⟩, 0) else (⟨0, 0, 0, 0⟩, 0)
theorem sumQ_one {F : Nat → Q4} {x : Nat} (hF : ∀ p, p ≠ x → F p = ⟨0, 0, 0, 0⟩) : ∀ N : Nat, sumQ N F = if x < N then F x else ⟨0, 0, 0, 0⟩
  | 0 => by rw [if_neg (by omega)]; apply Q4.ext' <;> rfl
  | N + 1 => by
    rw [sumQ_succ, sumQ_one hF N]
    by_cases h : x < N
    · rw [if_pos h, if_pos (by omega), hF N (by omega)]
      apply Q4.ext' <;> simp [Q4.add]
    · by_cases h2 : x = N
      · subst h2
        rw [if_neg h, if_pos (by omega)]
        apply Q4.ext' <;> simp [Q4.add]
      · rw [if_neg h, if_neg (by omega), hF N (Ne.symm h2)]
        apply Q4.ext' <;> simp [Q4.add]
theorem mul_zero' (x : Q4) : Q4.mul x ⟨0, 0, 0, 0⟩ = ⟨0, 0, 0, 0⟩ := by apply Q4.ext' <;> simp [Q4.mul]
theorem mul_one' (x : Q4) : Q4.mul x ⟨1, 0, 0, 0⟩ = x := by apply Q4.ext' <;> simp [Q4.mul]
theorem val_zero (M : Nat) : val M (⟨0, 0, 0, 0⟩, 0) = ⟨0, 0, 0, 0⟩ := rtn_zero _
theorem Sup.start {n M : Nat} (s : Nat → Nu) (hs : ∀ p, (s p).2 ≤ M) (hz : ∀ p, 2 ^ n ≤ p → s p = (⟨0, 0, 0, 0⟩, 0)) : Sup (M + M) M (2 ^ n) (fun p => val M (s p)) oneAt s := by
  intro x
  have hF : ∀ p, p ≠ x → Q4.mul (val M (s p)) (val M (oneAt p x)) = ⟨0, 0, 0, 0⟩ := fun p hp => by
    unfold oneAt
    rw [if_neg (Ne.symm hp), val_zero, mul_zero']
  rw [sumQ_one hF]
  by_cases h : x < 2 ^ n
  · rw [if_pos h]
    unfold oneAt
    rw [if_pos rfl]
    unfold val
    have := hs x
    show Q4.rtn (M + M - (s x).2) (s x).1 = Q4.mul (Q4.rtn (M - (s x).2) (s x).1) (Q4.rtn (M - 0) ⟨1, 0, 0, 0⟩)
    rw [← Q4.rtn_mul2, mul_one']
    congr 1
    omega
  · rw [if_neg h, hz x (by omega), val_zero]
end MA
namespace GN
open PySem L2 VL
def top (i : Nat) : Stmt := PySem.Challenge.pw_wavewires_k36_steps_that_fit.main.body.getD i (.Pass ⟨0, 0, 0, 0⟩)
def tt_NoStep : List (Str × Bool) := [("NoStep", true)]
def tt_ValueError : List (Str × Bool) := [("NoStep", true)]
def tt_TooGreat : List (Str × Bool) := [("NoStep", false)]
def hs_WaveError : List Str := ["NoStep"]
abbrev s_has : Stmt := top 8
abbrev N_has : List Str := ["bitset", "bit"]
def b_has : Sf := sRet (o2 (o2 (o2 (oV 0) (oV 1) shrD) (oC (.int 1)) andD) (oC (.int 1)) eqD)
def g_has : List D → Option D := runB N_has 2 b_has
abbrev s_goes_away : Stmt := top 9
abbrev N_goes_away : List Str := ["one", "bit"]
def p1_goes_away : Dv → Option D := oComp (oI (o2 (oV 0) (oC (.int 4)) ixD) itsD) [(1, "bit")] bv1 (os (oCons (oV 0) (oCons (oV 1) (oNil))) g_has)
def p2_goes_away : Dv → Option D := oCompI (oI (o2 (oV 0) (oC (.int 3)) ixD) itsD) [(1, "bit")] bv1 (ob (os (oCons (o2 (oV 0) (oC (.int 0)) ixD) (oCons (oV 1) (oNil))) g_has)) (o2 (o2 (o2 (oV 0) (oC (.int 1)) ixD) (oC (.int 2)) modD) (oC (.int 0)) eqD)
def b_goes_away : Sf := sSeq (sIf (ob (os (oCons (p1_goes_away) (oNil)) anyD)) (sRet (oC (.bool false))) (sNx)) (sRet (os (oCons (p2_goes_away) (oNil)) allD))
def g_goes_away : List D → Option D := runB N_goes_away 2 b_goes_away
abbrev s_steps_of : Stmt := top 10
abbrev N_steps_of : List Str := ["one", "steps", "tie"]
def p1_steps_of : Dv → Option D := oCompI (oI (o2 (oV 0) (oC (.int 5)) ixD) itsD) [(0, "one")] bv1 (ob (os (oCons (oV 1) (oCons (oV 0) (oNil))) g_goes_away)) (os (oCons (oC (.str "away")) (oCons (oV 0) (oNil))) tupD)
def p2_steps_of : Dv → Option D := oCompI (oI (o2 (oV 0) (oC (.int 5)) ixD) itsD) [(2, "tie")] bv1 (ob (os (oCons (oV 1) (oCons (oV 0) (oNil))) g_has)) (os (oCons (oC (.str "put")) (oCons (oV 1) (oCons (oV 0) (oNil)))) tupD)
def l1_steps_of : Sf := sExtL 1 (p2_steps_of)
def b_steps_of : Sf := sSeq (sOwnE 1 (oLi (p1_steps_of))) (sSeq (sFor (oI (o2 (oV 0) (oC (.int 4)) ixD) itsD) (gN 2) (l1_steps_of)) (sRetO 1))
def g_steps_of : List D → Option D := runB N_steps_of 1 b_steps_of
abbrev s_fits : Stmt := top 11
abbrev N_fits : List Str := ["one", "step"]
def b_fits : Sf := sSeq (sIf (ob (o2 (o2 (oV 1) (oC (.int 0)) ixD) (oC (.str "away")) eqD)) (sRet (oAndV (o2 (o2 (oV 1) (oC (.int 1)) ixD) (o2 (oV 0) (oC (.int 5)) ixD) (inD false)) (os (oCons (oV 0) (oCons (o2 (oV 1) (oC (.int 1)) ixD) (oNil))) g_goes_away))) (sNx)) (sRet (oAndV (o2 (o2 (oV 1) (oC (.int 1)) ixD) (o2 (oV 0) (oC (.int 4)) ixD) (inD false)) (oAndV (o2 (o2 (oV 1) (oC (.int 2)) ixD) (o2 (oV 0) (oC (.int 5)) ixD) (inD false)) (os (oCons (o2 (oV 1) (oC (.int 1)) ixD) (oCons (o2 (oV 1) (oC (.int 2)) ixD) (oNil))) g_has))))
def g_fits : List D → Option D := runB N_fits 2 b_fits
abbrev s_stepped : Stmt := top 16
abbrev N_stepped : List Str := ["one", "step"]
def b_stepped : Sf := sSeq (sIf (oNot (ob (os (oCons (oV 0) (oCons (oV 1) (oNil))) g_fits))) (sNo) (sNx)) (sSeq (sIf (ob (o2 (o2 (oV 1) (oC (.int 0)) ixD) (oC (.str "away")) eqD)) (sNo) (sNx)) (sNo))
def g_stepped : List D → Option D := runB N_stepped 2 b_stepped
def bx_stepped : Xf := xIf (oNot (ob (os (oCons (oV 0) (oCons (oV 1) (oNil))) g_fits))) (xRaise "NoStep" (oC (.str "the step does not fit the sum"))) (xNo)
def x_stepped : List D → Option Str := runX N_stepped 2 bx_stepped
abbrev s__law_cell_at : Stmt := top 18
abbrev N__law_cell_at : List Str := ["script", "k"]
def b__law_cell_at : Sf := sSeq (sIf (ob (o2 (oV 1) (os (oCons (oV 0) (oNil)) lenD) ltD)) (sRet (o2 (oV 0) (oV 1) ixD)) (sNx)) (sRet (oC (.int 0)))
def g__law_cell_at : List D → Option D := runB N__law_cell_at 2 b__law_cell_at
abbrev s__law_mixed : Stmt := top 19
abbrev N__law_mixed : List Str := ["cell"]
def b__law_mixed : Sf := sRet (o2 (o2 (o2 (o2 (oV 0) (o2 (oC (.int 10)) (oC (.int 60)) powD) modD) (oC (.int 48271)) mulI) (oC (.int 12345)) addD) (oC (.int 2147483629)) modD)
def g__law_mixed : List D → Option D := runB N__law_mixed 1 b__law_mixed
abbrev s__law_whole : Stmt := top 20
abbrev N__law_whole : List Str := ["found"]
def b__law_whole : Sf := sRet (oAndV (o1 (oV 0) (isiD "int")) (o1 (o1 (oV 0) (isiD "bool")) notD))
def g__law_whole : List D → Option D := runB N__law_whole 1 b__law_whole
abbrev s__law_bits_by : Stmt := top 21
abbrev N__law_bits_by : List Str := ["head", "cells", "first", "hidden", "bit", "k"]
def l1__law_bits_by : Sf := sSeq (sSet 4 (o2 (o2 (oV 4) (oC (.int 1)) addD) (o2 (os (oCons (oV 1) (oCons (oV 5) (oNil))) g__law_cell_at) (o2 (os (oCons (oC (.int 1)) (oCons (oC (.int 1)) (oCons (oC (.int 2)) (oCons (oC (.int 40)) (oNil))))) lstD) (o2 (o2 (oV 0) (oC (.int 45)) divD) (oC (.int 4)) modD) ixD) modD) addD)) (sApp 3 (oV 4))
def b__law_bits_by : Sf := sSeq (sOwn 3 (oNil)) (sSeq (sSet 4 (o2 (oV 2) (oC (.int 1)) subD)) (sSeq (sFor (oL (oCons (o2 (o2 (oV 0) (oC (.int 9)) divD) (oC (.int 6)) modD) (oNil)) rng1D) (gN 5) (l1__law_bits_by)) (fun δ => (sRet (oV 3)) (dFz 3 δ))))
def g__law_bits_by : List D → Option D := runB N__law_bits_by 3 b__law_bits_by
abbrev s__law_some_sum : Stmt := top 22
abbrev N__law_some_sum : List Str := ["head", "cells", "wires", "looks", "hidden", "allowed", "turns", "ties", "cell", "turn", "bitset", "halves", "pairs_of"]
def p1__law_some_sum : Dv → Option D := oCompI (oL (oCons (os (oCons (oV 5) (oNil)) lenD) (oNil)) rng1D) [(5, "allowed"), (9, "turn")] bv1 (ob (o2 (o2 (o2 (oV 2) (o2 (oV 0) (oC (.int 6)) addD) shrD) (oC (.int 2)) modD) (oC (.int 1)) eqD)) (o2 (oC (.int 1)) (o2 (oV 1) (oV 0) ixD) shlD)
def p2__law_some_sum : Dv → Option D := oComp (oI (o1 (oV 6) sortFD) itsD) [(6, "turns")] bv1 (os (oCons (oV 0) (oCons (o2 (oV 1) (oV 0) getFD) (oNil))) tupD)
def l1__law_some_sum : Sf := sSeq (sSet 9 (os (oCons (oV 8) (oNil)) g__law_mixed)) (sSeq (sSet 10 (os (oCons (p1__law_some_sum) (oNil)) sumD)) (sIf (oAnd (ob (o2 (o2 (oV 9) (oC (.int 5)) modD) (oC (.int 1)) eqD)) (oAnd (ob (o2 (oDLen 7) (oC (.int 4)) ltD)) (ob (o2 (oV 10) (oC (.int 0)) gtD)))) (sDPutE 7 (oV 10) (oC (.bool true))) (sIf (oAnd (ob (o2 (o2 (oV 9) (oC (.int 5)) modD) (oC (.int 1)) neD)) (oAnd (ob (o2 (oV 10) (oC (.int 1)) gtD)) (ob (o2 (oDLen 6) (oC (.int 12)) ltD)))) (sDPutE 6 (o2 (oV 10) (o2 (oV 10) (oC (.int 2)) modD) subD) (o2 (os (oCons (o2 (oC (.int 1)) (o2 (o2 (oV 9) (oC (.int 5)) divD) (oC (.int 7)) modD) addD) (oCons (o2 (oC (.int 2)) (o2 (oC (.int 2)) (o2 (o2 (oV 9) (oC (.int 5)) divD) (oC (.int 3)) modD) mulI) addD) (oNil))) lstD) (os (oCons (oC (.int 1)) (oCons (o2 (o2 (oV 0) (oC (.int 11)) divD) (oC (.int 3)) modD) (oNil))) minD) ixD)) (sNx))))
def b__law_some_sum : Sf := sSeq (sSet 2 (o2 (oC (.int 1)) (o2 (oV 0) (oC (.int 3)) modD) addD)) (sSeq (sSet 3 (o2 (o2 (oV 0) (oC (.int 3)) divD) (oC (.int 3)) modD)) (sSeq (sSet 4 (os (oCons (oV 0) (oCons (oV 1) (oCons (o2 (o2 (o2 (oC (.int 2)) (oV 2) mulI) (oC (.int 1)) addD) (oV 3) addD) (oNil)))) g__law_bits_by)) (sSeq (sSet 5 (o2 (o1 (o2 (o2 (o2 (oC (.int 2)) (oV 2) mulI) (oC (.int 1)) addD) (oV 3) addD) lrngD) (oV 4) addD)) (sSeq (sDNew 6) (sSeq (sDNew 7) (sSeq (sFor (oI (oV 1) itsD) (gN 8) (l1__law_some_sum)) (sSeq (sSet 11 (o2 (o2 (o2 (oV 0) (oC (.int 180)) divD) (oC (.int 13)) modD) (oC (.int 6)) subD)) (sSeq (sIf (ob (o2 (o2 (o2 (oV 0) (oC (.int 2340)) divD) (oC (.int 9)) modD) (oC (.int 1)) eqD)) (sSet 11 (o2 (o2 (o2 (oV 0) (oC (.int 2340)) divD) (oC (.int 401)) modD) (oC (.int 200)) subD)) (sNx)) (sSeq (fun δ => (sSet 12 (os (oCons (p2__law_some_sum) (oNil)) tupleD)) (dFzD 6 δ)) (sRet (os (oCons (os (oCons (oV 2) (oCons (oV 3) (oNil))) tupD) (oCons (oV 11) (oCons (o2 (o2 (oV 0) (oC (.int 7)) divD) (oC (.int 8)) modD) (oCons (oV 12) (oCons (os (oCons (oDSort 7) (oNil)) tupleD) (oCons (os (oCons (oV 4) (oNil)) tupleD) (oNil))))))) tupD)))))))))))
def g__law_some_sum : List D → Option D := runB N__law_some_sum 2 b__law_some_sum
abbrev s__law_fits_away : Stmt := top 23
abbrev N__law_fits_away : List Str := ["one", "bit", "tie"]
def p1__law_fits_away : Dv → Option D := oCompI (oI (o2 (oV 0) (oC (.int 3)) ixD) itsD) [(1, "bit")] bv1 (oAnd (ob (o2 (o2 (o2 (o2 (oV 0) (oC (.int 0)) ixD) (oV 1) shrD) (oC (.int 2)) modD) (oC (.int 1)) eqD)) (ob (o2 (o2 (o2 (oV 0) (oC (.int 1)) ixD) (oC (.int 2)) modD) (oC (.int 1)) eqD))) (oV 0)
def l1__law_fits_away : Sf := sIf (ob (o2 (o2 (o2 (oV 2) (oV 1) shrD) (oC (.int 2)) modD) (oC (.int 1)) eqD)) (sRet (oC (.bool false))) (sNx)
def b__law_fits_away : Sf := sSeq (sFor (oI (o2 (oV 0) (oC (.int 4)) ixD) itsD) (gN 2) (l1__law_fits_away)) (sRet (o2 (os (oCons (p1__law_fits_away) (oNil)) lenD) (oC (.int 0)) eqD))
def g__law_fits_away : List D → Option D := runB N__law_fits_away 2 b__law_fits_away
abbrev s__law_steps : Stmt := top 24
abbrev N__law_steps : List Str := ["one", "steps", "tie"]
def p1__law_steps : Dv → Option D := oCompI (oI (o2 (oV 0) (oC (.int 5)) ixD) itsD) [(0, "one")] bv1 (ob (os (oCons (oV 1) (oCons (oV 0) (oNil))) g__law_fits_away)) (os (oCons (oC (.str "away")) (oCons (oV 0) (oNil))) tupD)
def p2__law_steps : Dv → Option D := oCompI (oI (o2 (oV 0) (oC (.int 5)) ixD) itsD) [(2, "tie")] bv1 (ob (o2 (o2 (o2 (oV 1) (oV 0) shrD) (oC (.int 2)) modD) (oC (.int 1)) eqD)) (os (oCons (oC (.str "put")) (oCons (oV 1) (oCons (oV 0) (oNil)))) tupD)
def l1__law_steps : Sf := sSet 1 (o2 (oV 1) (p2__law_steps) addD)
def b__law_steps : Sf := sSeq (sSet 1 (p1__law_steps)) (sSeq (sFor (oI (o2 (oV 0) (oC (.int 4)) ixD) itsD) (gN 2) (l1__law_steps)) (sRet (oV 1)))
def g__law_steps : List D → Option D := runB N__law_steps 1 b__law_steps
abbrev s__law_no_step : Stmt := top 25
abbrev N__law_no_step : List Str := ["one", "step", "good", "e"]
def b__law_no_step : Sf := sSeq (sSet 2 (oC (.bool false))) (sSeq (sTry 3 hs_WaveError (sDrop (os (oCons (oV 0) (oCons (oV 1) (oNil))) g_stepped)) (xE (osX (oCons (oV 0) (oCons (oV 1) (oNil))) x_stepped)) (sSet 2 (oAndV (o1 (oV 3) (isxD tt_NoStep)) (oAndV (o1 (oV 3) (isxD tt_ValueError)) (o1 (o1 (oV 3) (isxD tt_TooGreat)) notD))))) (sRet (oV 2)))
def g__law_no_step : List D → Option D := runB N__law_no_step 2 b__law_no_step
abbrev s__law_drawn_step : Stmt := top 26
abbrev N__law_drawn_step : List Str := ["one", "cell", "turn", "bits", "sets"]
def p1__law_drawn_step : Dv → Option D := oComp (oI (o2 (oV 0) (oC (.int 3)) ixD) itsD) [] bv1 (o2 (oV 0) (oC (.int 0)) ixD)
def b__law_drawn_step : Sf := sSeq (sSet 2 (os (oCons (oV 1) (oNil)) g__law_mixed)) (sSeq (sSet 3 (o2 (o2 (os (oCons (o2 (oV 0) (oC (.int 5)) ixD) (oNil)) listD) (o2 (oC (.int 1)) (oC (.int 14)) lrng2D) addD) (os (oCons (o2 (oV 1) (o2 (oC (.int 10)) (oC (.int 60)) powD) modD) (oCons (o2 (o1 (oC (.int 1)) negD) (o2 (oV 1) (o2 (oC (.int 10)) (oC (.int 6)) powD) modD) subD) (oNil))) lstD) addD)) (sSeq (sSet 4 (o2 (o2 (os (oCons (o2 (oV 0) (oC (.int 4)) ixD) (oNil)) listD) (p1__law_drawn_step) addD) (os (oCons (oC (.int 0)) (oCons (oC (.int 1)) (oCons (o2 (oV 1) (o2 (oC (.int 10)) (oC (.int 60)) powD) modD) (oCons (o2 (o1 (oC (.int 1)) negD) (o2 (oV 1) (o2 (oC (.int 10)) (oC (.int 6)) powD) modD) subD) (oNil))))) lstD) addD)) (sSeq (sIf (ob (o2 (o2 (oV 2) (oC (.int 2)) modD) (oC (.int 0)) eqD)) (sRet (os (oCons (oC (.str "away")) (oCons (o2 (oV 3) (o2 (o2 (oV 2) (oC (.int 2)) divD) (os (oCons (oV 3) (oNil)) lenD) modD) ixD) (oNil))) tupD)) (sNx)) (sRet (os (oCons (oC (.str "put")) (oCons (o2 (oV 4) (o2 (o2 (oV 2) (oC (.int 2)) divD) (os (oCons (oV 4) (oNil)) lenD) modD) ixD) (oCons (o2 (oV 3) (o2 (o2 (oV 2) (oC (.int 62)) divD) (os (oCons (oV 3) (oNil)) lenD) modD) ixD) (oNil)))) tupD)))))
def g__law_drawn_step : List D → Option D := runB N__law_drawn_step 2 b__law_drawn_step
abbrev s__law_same_steps : Stmt := top 27
abbrev N__law_same_steps : List Str := ["found", "due", "k"]
def p1__law_same_steps : Dv → Option D := oCompI (oI (oSl (o2 (oV 0) (oV 2) ixD) (oP (oC (.int 1))) (oNo)) itsD) [] bv1 (oNot (ob (os (oCons (oV 0) (oNil)) g__law_whole))) (oV 0)
def l1__law_same_steps : Sf := sSeq (sIf (oOr (oNot (ob (o1 (o2 (oV 0) (oV 2) ixD) (isiD "tuple")))) (ob (o2 (o2 (oV 0) (oV 2) ixD) (o2 (oV 1) (oV 2) ixD) neD))) (sRet (oC (.bool false))) (sNx)) (sIf (ob (o2 (os (oCons (p1__law_same_steps) (oNil)) lenD) (oC (.int 0)) gtD)) (sRet (oC (.bool false))) (sNx))
def b__law_same_steps : Sf := sSeq (sIf (oOr (oNot (ob (o1 (oV 0) (isiD "list")))) (ob (o2 (os (oCons (oV 0) (oNil)) lenD) (os (oCons (oV 1) (oNil)) lenD) neD))) (sRet (oC (.bool false))) (sNx)) (sSeq (sFor (oL (oCons (os (oCons (oV 1) (oNil)) lenD) (oNil)) rng1D) (gN 2) (l1__law_same_steps)) (sRet (oC (.bool true))))
def g__law_same_steps : List D → Option D := runB N__law_same_steps 2 b__law_same_steps
abbrev s_law : Stmt := top 28
abbrev N_law : List Str := ["script", "head", "one", "due", "told", "cell", "step"]
def l1_law : Sf := sSeq (sSet 6 (os (oCons (oV 2) (oCons (oV 5) (oNil))) g__law_drawn_step)) (sIf (oAnd (ob (o2 (oV 6) (oV 3) (inG true))) (oNot (ob (os (oCons (oV 2) (oCons (oV 6) (oNil))) g__law_no_step)))) (sRet (oC (.bool false))) (sNx))
def b_law : Sf := sSeq (sSet 1 (o2 (os (oCons (oV 0) (oCons (oC (.int 0)) (oNil))) g__law_cell_at) (o2 (oC (.int 10)) (oC (.int 9)) powD) modD)) (sSeq (sSet 2 (os (oCons (oV 1) (oCons (oSl (oV 0) (oP (oC (.int 1))) (oP (oC (.int 61)))) (oNil))) g__law_some_sum)) (sSeq (sSet 3 (os (oCons (oV 2) (oNil)) g__law_steps)) (sSeq (sOwnE 4 (oLi (os (oCons (oV 2) (oNil)) g_steps_of))) (sSeq (sIf (oPeek 4 (oNot (ob (os (oCons (oV 4) (oCons (oV 3) (oNil))) g__law_same_steps)))) (sRet (oC (.bool false))) (sNx)) (sSeq (sClr 4) (sSeq (sFor (oI (o2 (oSl (oV 0) (oP (oC (.int 1))) (oP (oC (.int 61)))) (os (oCons (oC (.int 0)) (oNil)) lstD) addD) itsD) (gN 5) (l1_law)) (sRet (os (oCons (os (oCons (oV 2) (oNil)) g_steps_of) (oCons (oV 3) (oNil))) g__law_same_steps))))))))
def g_law : List D → Option D := runB N_law 1 b_law

theorem nseq {s t : Sf} {δ δ' : Dv} (h : s δ = some (.nx, δ')) : sSeq s t δ = t δ' := by simp only [sSeq, h, Option.bind_some]
theorem nret {s t : Sf} {δ δ' : Dv} {d : D} (h : s δ = some (.rt d, δ')) : sSeq s t δ = some (.rt d, δ') := by simp only [sSeq, h, Option.bind_some]
theorem nrun {N : List Str} {n : Nat} {b : Sf} {as : List D} {d : D} {δ' : Dv} (hl : as.length = n) (h : b (startD N as) = some (.rt d, δ')) : runB N n b as = some d := by unfold runB; rw [if_pos hl, h]; rfl
theorem sIf_t {t : Dv → Option Bool} {u w : Sf} {δ : Dv} (h : t δ = some true) : sIf t u w δ = u δ := by unfold sIf; rw [h]; rfl
theorem sIf_f {t : Dv → Option Bool} {u w : Sf} {δ : Dv} (h : t δ = some false) : sIf t u w δ = w δ := by unfold sIf; rw [h]; rfl
theorem sum_cast (g : Nat → Nat) (l : List Nat) : (l.map fun p => ((g p : Nat) : Int)).sum = ((l.map g).sum : Nat) := by
  induction l with
  | nil => rfl
  | cons x l ih => rw [List.map_cons, List.map_cons, List.sum_cons, List.sum_cons, ih]; omega
theorem and1 (a : Nat) : Builtin.bitAnd (a : Int) 1 = ((a % 2 : Nat) : Int) := by
  have := MA.band a 1
  rw [show ((1 : Nat) : Int) = 1 from rfl] at this
  rw [this, Nat.and_one_is_mod]
theorem shr_nat (a h : Nat) : shrD (.int (a : Int)) (.int (h : Int)) = some (.int ((a / 2 ^ h : Nat) : Int)) := by
  rw [shrD_int (by omega), Int.toNat_natCast]
  congr 2
theorem shl_nat {a : Nat} (k : Nat) (ha : a < 2 ^ 100000) (hk : k ≤ 100000) : shlD (.int (a : Int)) (.int (k : Int)) = some (.int ((a * 2 ^ k : Nat) : Int)) := by
  have hb : (a : Int).natAbs < 2 ^ 100000 := by rw [Int.natAbs_natCast]; exact ha
  have := MA.bits_le hb
  rw [shlD_int (by omega) (by omega), Int.toNat_natCast]
  congr 2
theorem small_big {a : Nat} (h : a < 2 ^ 64) : a < 2 ^ 100000 := Nat.lt_of_lt_of_le h (Nat.pow_le_pow_right (by decide) (by decide))
def natsD (hs : List Nat) : List D := hs.map fun h => .int ((h : Nat) : Int)
theorem natsD_len (hs : List Nat) : (natsD hs).length = hs.length := by simp [natsD]
theorem natsD_at (hs : List Nat) {k : Nat} (h : k < hs.length) : atI (natsD hs) (k : Int) = some (.int (hs.getD k 0 : Nat)) := by
  refine atI_of rfl ?_
  unfold natsD
  rw [List.getElem?_map, List.getD_eq_getElem?_getD, List.getElem?_eq_getElem h]
  rfl
theorem rngS {n : Nat} (hn : n ≤ 16777216) : rng1D [.int (n : Int)] = some ((List.range n).map fun k : Nat => PyData.int (0 + (k : Int))) := rng1D_int (j := (n : Int)) (by omega) (by omega)
theorem oL_of {fs : Dv → Option (List D)} {g : List D → Option (List D)} {δ : Dv} {ds r : List D} (h : fs δ = some ds) (h2 : g ds = some r) : oL fs g δ = some r := by unfold oL; rw [h]; exact h2
theorem oI_list {δ : Dv} {i : Nat} {xs : List D} (e : slV δ[i]? = some (.list xs)) : (oI (oV i) itsD) δ = some xs := by unfold oI oV; rw [e]; rfl
def prD (p : Nat × Int) : D := .tuple [.int p.1, .int p.2]
theorem mod_nat (a : Nat) {k : Nat} (hk : 0 < k) : modD (.int (a : Int)) (.int (k : Int)) = some (.int ((a % k : Nat) : Int)) := by
  rw [modD_int (by omega)]
  congr 2
theorem mod2_nat (a : Nat) : modD (.int (a : Int)) (.int 2) = some (.int ((a % 2 : Nat) : Int)) := mod_nat a (k := 2) (by decide)
theorem pow2_nat {k : Nat} (hk : k ≤ 100000) : shlD (.int 1) (.int (k : Int)) = some (.int ((2 ^ k : Nat) : Int)) := by
  have := shl_nat (a := 1) k (small_big (by decide)) hk
  rw [Nat.one_mul] at this
  exact this
theorem natsD_app (a b : List Nat) : natsD (a ++ b) = natsD a ++ natsD b := by simp [natsD]
theorem getD_mem {hs : List Nat} {i : Nat} (hi : i < hs.length) : hs.getD i 0 ∈ hs := by
  rw [List.getD_eq_getElem?_getD, List.getElem?_eq_getElem hi]
  exact List.getElem_mem hi
def oneD (w l : Nat) (hv : Int) (c : Nat) (ps : List (Nat × Int)) (ts hs : List Nat) : D := .tuple [.tuple [.int w, .int l], .int hv, .int c, .tuple (ps.map prD), .tuple (natsD ts), .tuple (natsD hs)]
theorem one_4 (w l : Nat) (hv : Int) (c : Nat) (ps : List (Nat × Int)) (ts hs : List Nat) : ixD (oneD w l hv c ps ts hs) (.int 4) = some (.tuple (natsD ts)) := rfl
theorem one_5 (w l : Nat) (hv : Int) (c : Nat) (ps : List (Nat × Int)) (ts hs : List Nat) : ixD (oneD w l hv c ps ts hs) (.int 5) = some (.tuple (natsD hs)) := rfl
@[simp] theorem ifK_beq (u w : Sf) (δ : Dv) (a b : Int) : ifK u w δ (a == b) = if a = b then u δ else w δ := by
  by_cases h : a = b
  · subst h; simp
  · have : (a == b) = false := by simpa using h
    rw [this, if_neg h]; rfl
theorem mapO_map {α : Type} {f : D → Option D} {h k : α → D} : ∀ (xs : List α), (∀ x ∈ xs, f (h x) = some (k x)) → mapO f (xs.map h) = some (xs.map k)
  | [], _ => rfl
  | x :: xs, H => by
    show ((f (h x)).bind fun y => _) = _
    rw [H x List.mem_cons_self]
    show ((mapO f (xs.map h)).bind fun ys => _) = _
    rw [mapO_map xs fun y hy => H y (List.mem_cons_of_mem _ hy)]
    rfl
theorem filO_map {α : Type} {t : D → Option Bool} {f : D → Option D} {h k : α → D} {b : α → Bool} : ∀ (xs : List α), (∀ x ∈ xs, t (h x) = some (b x)) → (∀ x ∈ xs, b x = true → f (h x) = some (k x)) → filO t f (xs.map h) = some ((xs.filter b).map k)
  | [], _, _ => rfl
  | x :: xs, H, G => by
    have ih := filO_map (k := k) xs (fun y hy => H y (List.mem_cons_of_mem _ hy)) (fun y hy => G y (List.mem_cons_of_mem _ hy))
    show ((t (h x)).bind fun c => _) = _
    rw [H x List.mem_cons_self, Option.bind_some]
    cases e : b x with
    | false => simp [e, ih]
    | true => simp [e, ih, G x List.mem_cons_self e]
theorem comp_map {α : Type} {fi : Dv → Option (List D)} {caps : List (Nat × Str)} {fe : Dv → Option D} {δ : Dv} {h k : α → D} {xs : List α} (e : fi δ = some (xs.map h)) (hl : xs.length ≤ 16777216) (H : ∀ x ∈ xs, fe (.fz (h x) :: capS δ caps) = some (k x)) : oComp fi caps bv1 fe δ = some (.list (xs.map k)) := by
  unfold oComp
  rw [e, Option.bind_some, if_pos (by rw [List.length_map]; exact hl), mapO_map xs (k := k) fun x hx => by
    show fe _ = _
    exact H x hx]
  rfl
theorem compI_map {α : Type} {fi : Dv → Option (List D)} {caps : List (Nat × Str)} {ft : Dv → Option Bool} {fe : Dv → Option D} {δ : Dv} {h k : α → D} {b : α → Bool} {xs : List α} (e : fi δ = some (xs.map h)) (hl : xs.length ≤ 16777216) (H : ∀ x ∈ xs, ft (.fz (h x) :: capS δ caps) = some (b x)) (G : ∀ x ∈ xs, b x = true → fe (.fz (h x) :: capS δ caps) = some (k x)) : oCompI fi caps bv1 ft fe δ = some (.list ((xs.filter b).map k)) := by
  unfold oCompI
  rw [e, Option.bind_some, if_pos (by rw [List.length_map]; exact hl), filO_map xs (b := b) (k := k) (fun x hx => by
    show ft _ = _
    exact H x hx) (fun x hx hb => by
    show fe _ = _
    exact G x hx hb)]
  rfl

theorem loop_rng {b : Sf} {k : Nat} (I : Nat → Dv → Prop) (n : Nat) (h : ∀ i, i < n → ∀ δ, I i δ → ∃ δ2, b (δ.set k (.fz (.int i))) = some (.nx, δ2) ∧ I (i + 1) δ2) : ∀ δ, I 0 δ → ∃ δ', loop (gN k) b (rngL 0 n) δ = some (.nx, δ') ∧ I n δ' := by
  have go : ∀ (m i : Nat), i + m = n → ∀ δ, I i δ → ∃ δ', loop (gN k) b ((List.range' i m).map fun (k : Nat) => PyData.int (0 + (k : Int))) δ = some (.nx, δ') ∧ I n δ' := by
    intro m
    induction m with
    | zero => intro i e δ h; exact ⟨δ, rfl, by rw [← e]; exact h⟩
    | succ m ih =>
      intro i e δ hi
      obtain ⟨δ2, e2, h2⟩ := h i (by omega) δ hi
      obtain ⟨δ', e3, h3⟩ := ih (i + 1) (by omega) δ2 h2
      refine ⟨δ', ?_, h3⟩
      rw [← e3, List.range'_succ, List.map_cons]
      exact loop_step (δ1 := δ.set k (.fz (.int i))) (by simp) e2
  intro δ h0
  have := go n 0 (by omega) δ h0
  rw [← List.range_eq_range'] at this
  exact this

theorem e60 : powD (.int 10) (.int 60) = some (.int 1000000000000000000000000000000000000000000000000000000000000) := rfl
theorem lmixed_eq (c : Int) : ∃ T : Nat, g__law_mixed [.int c] = some (.int T) := by
  have m : IntMulOk (c % 1000000000000000000000000000000000000000000000000000000000000) 48271 := .of_right (by decide +kernel)
  have h2 : 0 ≤ (c % 1000000000000000000000000000000000000000000000000000000000000 * 48271 + 12345) % 2147483629 := Int.emod_nonneg _ (by decide)
  refine ⟨((c % 1000000000000000000000000000000000000000000000000000000000000 * 48271 + 12345) % 2147483629).toNat, ?_⟩
  rw [Int.toNat_of_nonneg h2]
  simp [g__law_mixed, runB, b__law_mixed, startD, e60, m]
theorem cell_eq (ns : List Int) (k : Int) (hk : 0 ≤ k) : ∃ c, g__law_cell_at [.list (ns.map .int), .int k] = some (.int c) := by
  by_cases h : k < ns.length
  · have hk' : k.toNat < ns.length := by omega
    refine ⟨ns[k.toNat], ?_⟩
    have e : atI (ns.map PyData.int) k = some (.int ns[k.toNat]) := atI_of (j := k.toNat) (by omega) (by simp [hk'])
    simp [g__law_cell_at, runB, b__law_cell_at, startD, h, e]
  · exact ⟨0, by simp [g__law_cell_at, runB, b__law_cell_at, startD, h]⟩

/-! ### the hidden bits drawn -/
structure HB (first : Nat) (hs : List Nat) (bit : Int) (i : Nat) : Prop where
  len : hs.length = i
  pw : hs.Pairwise (· < ·)
  lo : ∀ h ∈ hs, first ≤ h
  hi : ∀ h ∈ hs, (h : Int) ≤ bit
  b1 : (first : Int) - 1 ≤ bit
  b2 : bit ≤ (first : Int) - 1 + 41 * i
theorem HB.more {first i : Nat} {hs : List Nat} {bit : Int} (h : HB first hs bit i) (d : Int) (h0 : 0 ≤ d) (h1 : d ≤ 40) : HB first (hs ++ [(bit + 1 + d).toNat]) (bit + 1 + d) (i + 1) where
  len := by rw [List.length_append, h.len]; rfl
  pw := by
    refine List.pairwise_append.mpr ⟨h.pw, List.pairwise_singleton _ _, fun a ha b hb => ?_⟩
    rw [List.mem_singleton.mp hb]
    have := h.hi a ha
    omega
  lo := fun a ha => by
    rcases List.mem_append.mp ha with ha | ha
    · exact h.lo a ha
    · rw [List.mem_singleton.mp ha]; have := h.b1; omega
  hi := fun a ha => by
    rcases List.mem_append.mp ha with ha | ha
    · have := h.hi a ha; omega
    · rw [List.mem_singleton.mp ha]; have := h.b1; omega
  b1 := by have := h.b1; omega
  b2 := by have := h.b2; omega
theorem bb_s (hd bit k c m z v : Int) (C : D) (W : List D) (x2 : Sl) (g : g__law_cell_at [C, .int k] = some (.int c)) (hz : hd / 45 % 4 = z) (ha : atI [PyData.int 1, .int 1, .int 2, .int 40] z = some (.int m)) (hm : 0 < m) (hv : bit + 1 + c % m = v) (hl : W.length < sizeLine) :
    l1__law_bits_by [.fz (.int hd), .fz C, x2, .ow W, .fz (.int bit), .fz (.int k)] = some (.nx, [.fz (.int hd), .fz C, x2, .ow (W ++ [.int v]), .fz (.int v), .fz (.int k)]) := by
  have hmod := modD_int (i := c) hm
  simp [l1__law_bits_by, g, hz, ha, hmod, hv, hl]
theorem bb_x (hd n f : Int) (C : D) (L W : List D) (x4 x5 : Sl) (hn : hd / 9 % 6 = n) (r : rng1D [.int n] = some L) (lp : loop (gN 5) l1__law_bits_by L [.fz (.int hd), .fz C, .fz (.int f), .ow [], .fz (.int (f - 1)), .un] = some (.nx, [.fz (.int hd), .fz C, .fz (.int f), .ow W, x4, x5])) : g__law_bits_by [.int hd, C, .int f] = some (.list W) := by
  simp [g__law_bits_by, runB, b__law_bits_by, startD, hn, r, lp, dFz]
theorem bits_by_eq (hd first : Nat) (cells : List Int) : ∃ hs : List Nat, g__law_bits_by [.int hd, .list (cells.map .int), .int first] = some (.list (natsD hs)) ∧ hs.length ≤ 5 ∧ hs.Pairwise (· < ·) ∧ ∀ h ∈ hs, first ≤ h ∧ h ≤ first + 205 := by
  obtain ⟨n, hn⟩ : ∃ n : Nat, (hd : Int) / 9 % 6 = n := ⟨hd / 9 % 6, by omega⟩
  have hn4 : n ≤ 5 := by omega
  have r := rngS (n := n) (by omega)
  obtain ⟨δ, e, hs, bit, x5, hb, rfl⟩ := loop_rng (b := l1__law_bits_by) (k := 5) (fun i δ => ∃ (hs : List Nat) (bit : Int) (x5 : Sl), HB first hs bit i ∧ δ = [.fz (.int hd), .fz (.list (cells.map .int)), .fz (.int first), .ow (natsD hs), .fz (.int bit), x5]) n (fun i hi δ hdl => by
    obtain ⟨hs, bit, x5, hb, rfl⟩ := hdl
    obtain ⟨c, hc⟩ := cell_eq cells i (by omega)
    obtain ⟨z, hz⟩ : ∃ z : Nat, (hd : Int) / 45 % 4 = z := ⟨hd / 45 % 4, by omega⟩
    obtain ⟨m, ha, hm, hm2⟩ : ∃ m : Int, atI [PyData.int 1, .int 1, .int 2, .int 40] (z : Int) = some (.int m) ∧ 0 < m ∧ m ≤ 40 := by
      have : z = 0 ∨ z = 1 ∨ z = 2 ∨ z = 3 := by omega
      rcases this with rfl | rfl | rfl | rfl
      · exact ⟨1, rfl, by decide, by decide⟩
      · exact ⟨1, rfl, by decide, by decide⟩
      · exact ⟨2, rfl, by decide, by decide⟩
      · exact ⟨40, rfl, by decide, by decide⟩
    have d0 : 0 ≤ c % m := Int.emod_nonneg _ (by omega)
    have d1 : c % m < m := Int.emod_lt_of_pos _ hm
    refine ⟨_, bb_s hd bit i c m z _ _ (natsD hs) _ hc hz ha hm rfl (by rw [natsD_len, hb.len, sizeLine_eq]; omega), hs ++ [(bit + 1 + c % m).toNat], bit + 1 + c % m, .fz (.int i), hb.more _ d0 (by omega), ?_⟩
    have : natsD (hs ++ [(bit + 1 + c % m).toNat]) = natsD hs ++ [.int (bit + 1 + c % m)] := by
      rw [natsD_app]
      unfold natsD
      rw [List.map_cons, List.map_nil, Int.toNat_of_nonneg (by have := hb.b1; omega)]
    rw [this]) [.fz (.int hd), .fz (.list (cells.map .int)), .fz (.int first), .ow [], .fz (.int ((first : Int) - 1)), .un] ⟨[], _, .un, ⟨rfl, .nil, fun h q => (by cases q), fun h q => (by cases q), Int.le_refl _, by omega⟩, rfl⟩
  refine ⟨hs, bb_x hd n first _ _ _ _ _ hn r e, by rw [hb.len]; exact hn4, hb.pw, fun h hh => ⟨hb.lo h hh, ?_⟩⟩
  have := hb.hi h hh
  have := hb.b2
  omega
/-! ### dicts that grow -/
def enc (l : List (Nat × Int)) : List (Key × D) := l.map fun p => (.inl (p.1 : Int), .int p.2)
def encT (l : List Nat) : List (Key × D) := l.map fun p : Nat => (.inl ((p : Nat) : Int), .bool true)
theorem enc_put (l : List (Nat × Int)) (k : Nat) (v : Int) : ∃ l', putE (enc l) (.inl (k : Int)) (.int v) = enc l' ∧ l'.length ≤ l.length + 1 := by
  unfold putE
  split
  · refine ⟨l.map fun p => if p.1 = k then (p.1, v) else p, ?_, by simp⟩
    unfold enc
    rw [List.map_map, List.map_map]
    apply List.map_congr_left
    intro p _
    by_cases h : p.1 = k
    · simp [h]
    · have : ¬ ((p.1 : Int) = (k : Int)) := by omega
      simp [h, this]
  · exact ⟨l ++ [(k, v)], by simp [enc], by simp⟩
theorem encT_put (l : List Nat) (k : Nat) : ∃ l', putE (encT l) (.inl (k : Int)) (.bool true) = encT l' ∧ l'.length ≤ l.length + 1 := by
  unfold putE
  split
  · refine ⟨l, ?_, by omega⟩
    unfold encT
    rw [List.map_map]
    apply List.map_congr_left
    intro p _
    by_cases h : (p : Int) = (k : Int)
    · simp [h]
    · simp [h]
  · exact ⟨l ++ [k], by simp [encT], by simp⟩
theorem enc_keys : ∀ l : List (Nat × Int), keysI (enc l) = some (l.map fun p => (p.1 : Int))
  | [] => rfl
  | p :: r => by
    show ((keyI (Sum.inl (p.1 : Int))).bind fun i => (keysI (enc r)).bind fun l => some (i :: l)) = _
    rw [enc_keys r]; rfl
theorem encT_keys : ∀ l : List Nat, keysI (encT l) = some (l.map fun p : Nat => ((p : Nat) : Int))
  | [] => rfl
  | p :: r => by
    show ((keyI (Sum.inl (p : Int))).bind fun i => (keysI (encT r)).bind fun l => some (i :: l)) = _
    rw [encT_keys r]; rfl
theorem sort_nat (l : List Nat) : ∃ ss : List Nat, ((isortI (l.map fun p : Nat => ((p : Nat) : Int))).map PyData.int) = natsD ss ∧ ss.length = l.length ∧ ∀ s ∈ ss, s ∈ l := by
  have hp := isortI_perm (l.map fun p : Nat => ((p : Nat) : Int))
  generalize isortI (l.map fun p : Nat => ((p : Nat) : Int)) = L at *
  have mem : ∀ x ∈ L, ∃ s ∈ l, (s : Int) = x := fun x hx => List.mem_map.mp (hp.mem_iff.mp hx)
  refine ⟨L.map Int.toNat, ?_, by rw [List.length_map, hp.length_eq, List.length_map], fun s hs => ?_⟩
  · unfold natsD
    rw [List.map_map]
    apply List.map_congr_left
    intro x hx
    obtain ⟨s, _, rfl⟩ := mem x hx
    rfl
  · obtain ⟨x, hx, rfl⟩ := List.mem_map.mp hs
    obtain ⟨s, h1, rfl⟩ := mem x hx
    simpa using h1
def encI (l : List (Nat × Int)) : List (Key × Int) := l.map fun p => (.inl (p.1 : Int), p.2)
theorem enc_ints : ∀ l : List (Nat × Int), intsE (enc l) = some (encI l)
  | [] => rfl
  | p :: r => by
    show (intsE (enc r)).bind _ = _
    rw [enc_ints r]; rfl
theorem getF_mem : ∀ (l : List (Nat × Int)) (s : Nat), s ∈ l.map (·.1) → ∃ v, getFI (encI l) (.inl (s : Int)) = some v
  | [], s, h => by cases h
  | p :: r, s, h => by
    by_cases e : p.1 = s
    · exact ⟨p.2, by simp [getFI, encI, e]⟩
    · have hs : s ∈ r.map (·.1) := by
        rcases List.mem_cons.mp h with q | q
        · exact absurd q.symm e
        · exact q
      obtain ⟨v, hv⟩ := getF_mem r s hs
      refine ⟨v, ?_⟩
      have e' : ¬ ((Sum.inl (p.1 : Int) : Key) = .inl (s : Int)) := fun z => e (by cases z; omega)
      rw [← hv]
      show Option.map _ (List.find? _ ((Sum.inl (p.1 : Int), p.2) :: encI r)) = _
      rw [List.find?_cons, decide_eq_false e']
      rfl

def sq_1 : Sf := sSet 2 (o2 (oC (.int 1)) (o2 (oV 0) (oC (.int 3)) modD) addD)
def sq_2 : Sf := sSet 3 (o2 (o2 (oV 0) (oC (.int 3)) divD) (oC (.int 3)) modD)
def sq_3 : Sf := sSet 4 (VL.os (oCons (oV 0) (oCons (oV 1) (oCons (o2 (o2 (o2 (oC (.int 2)) (oV 2) mulI) (oC (.int 1)) addD) (oV 3) addD) (oNil)))) g__law_bits_by)
def sq_4 : Sf := sSet 5 (o2 (o1 (o2 (o2 (o2 (oC (.int 2)) (oV 2) mulI) (oC (.int 1)) addD) (oV 3) addD) lrngD) (oV 4) addD)
def sq_5 : Sf := sDNew 6
def sq_6 : Sf := sDNew 7
def sq_7 : Sf := sFor (oI (oV 1) itsD) (gN 8) (l1__law_some_sum)
def sq_8 : Sf := sSet 11 (o2 (o2 (o2 (oV 0) (oC (.int 180)) divD) (oC (.int 13)) modD) (oC (.int 6)) subD)
def sq_9 : Sf := sIf (ob (o2 (o2 (o2 (oV 0) (oC (.int 2340)) divD) (oC (.int 9)) modD) (oC (.int 1)) eqD)) (sSet 11 (o2 (o2 (o2 (oV 0) (oC (.int 2340)) divD) (oC (.int 401)) modD) (oC (.int 200)) subD)) (sNx)
def sq_10 : Sf := fun δ => (sSet 12 (VL.os (oCons (p2__law_some_sum) (oNil)) tupleD)) (dFzD 6 δ)
def sq_11 : Sf := sRet (VL.os (oCons (VL.os (oCons (oV 2) (oCons (oV 3) (oNil))) tupD) (oCons (oV 11) (oCons (o2 (o2 (oV 0) (oC (.int 7)) divD) (oC (.int 8)) modD) (oCons (oV 12) (oCons (VL.os (oCons (oDSort 7) (oNil)) tupleD) (oCons (VL.os (oCons (oV 4) (oNil)) tupleD) (oNil))))))) tupD)
theorem sq_st : b__law_some_sum = sSeq sq_1 (sSeq sq_2 (sSeq sq_3 (sSeq sq_4 (sSeq sq_5 (sSeq sq_6 (sSeq sq_7 (sSeq sq_8 (sSeq sq_9 (sSeq sq_10 (sq_11)))))))))) := rfl

/-! ### a sum by hand -/
theorem pw_sum (al : List Nat) : ∀ l : List Nat, ∃ b : Nat, (l.map fun k => ((2 ^ al.getD k 0 : Nat) : Int)).sum = (b : Int) := fun l => ⟨_, sum_cast (fun k => 2 ^ al.getD k 0) l⟩
theorem sq_p1 (al : List Nat) (T : Nat) (x0 x1 x2 x3 x4 x6 x7 x8 x10 x11 x12 : Sl) (hl : al.length ≤ 1000) (hb : ∀ a ∈ al, a ≤ 1000) : ∃ (S : D) (b : Nat), p1__law_some_sum [x0, x1, x2, x3, x4, .fz (.list (natsD al)), x6, x7, x8, .fz (.int T), x10, x11, x12] = some S ∧ sumD [S] = some (.int (b : Int)) := by
  obtain ⟨b, hs⟩ := pw_sum al ((List.range al.length).filter fun k => decide (T / 2 ^ (k + 6) % 2 = 1))
  refine ⟨.list (((List.range al.length).filter fun k => decide (T / 2 ^ (k + 6) % 2 = 1)).map fun k => .int ((2 ^ al.getD k 0 : Nat) : Int)), b, ?_, by rw [sumD_map (fun k => ((2 ^ al.getD k 0 : Nat) : Int)), hs]⟩
  unfold p1__law_some_sum
  refine compI_map (xs := List.range al.length) (h := fun k : Nat => PyData.int (0 + (k : Int))) ?_ (by rw [List.length_range]; omega) (fun k hk => ?_) fun k hk _ => ?_
  · have h1 : lenD [.list (natsD al)] = some (.int (al.length : Int)) := by rw [lenD_list, natsD_len]
    refine oL_of (ds := [.int (al.length : Int)]) ?_ (rngS (by omega))
    simp only [oCons, VL.os, oV, oNil]
    show (((some (PyData.list (natsD al))).bind fun x => some [x]).bind lenD).bind _ = _
    simp only [Option.bind_some, h1]
  · have s := shr_nat T (k + 6)
    have m := mod2_nat (T / 2 ^ (k + 6))
    rw [show ((k + 6 : Nat) : Int) = (k : Int) + 6 by omega] at s
    have d : decide (T / 2 ^ (k + 6) % 2 = 1) = (((T / 2 ^ (k + 6) % 2 : Nat) : Int) == 1) := by
      rcases Nat.mod_two_eq_zero_or_one (T / 2 ^ (k + 6)) with h | h <;> rw [h] <;> rfl
    rw [d]
    generalize T / 2 ^ (k + 6) % 2 = z at *
    generalize T / 2 ^ (k + 6) = y at *
    rw [Int.zero_add]
    simp only [ob, o2, oV, oC, capS]
    simp [s, m]
  · have hk' := List.mem_range.mp hk
    have a := natsD_at al hk'
    have p := pow2_nat (k := al.getD k 0) (by have := hb _ (getD_mem hk'); omega)
    rw [Int.zero_add]
    generalize 2 ^ al.getD k 0 = z at *
    generalize al.getD k 0 = y at *
    simp [capS, a, p]
def sA : Sf := sSet 9 (VL.os (oCons (oV 8) (oNil)) g__law_mixed)
def sB : Sf := sSet 10 (VL.os (oCons (p1__law_some_sum) (oNil)) sumD)
def t1S : Dv → Option Bool := oAnd (ob (o2 (o2 (oV 9) (oC (.int 5)) modD) (oC (.int 1)) eqD)) (oAnd (ob (o2 (oDLen 7) (oC (.int 4)) ltD)) (ob (o2 (oV 10) (oC (.int 0)) gtD)))
def t2S : Dv → Option Bool := oAnd (ob (o2 (o2 (oV 9) (oC (.int 5)) modD) (oC (.int 1)) neD)) (oAnd (ob (o2 (oV 10) (oC (.int 1)) gtD)) (ob (o2 (oDLen 6) (oC (.int 12)) ltD)))
def p7S : Sf := sDPutE 7 (oV 10) (oC (.bool true))
def fvS : Dv → Option D := o2 (VL.os (oCons (o2 (oC (.int 1)) (o2 (o2 (oV 9) (oC (.int 5)) divD) (oC (.int 7)) modD) addD) (oCons (o2 (oC (.int 2)) (o2 (oC (.int 2)) (o2 (o2 (oV 9) (oC (.int 5)) divD) (oC (.int 3)) modD) mulI) addD) (oNil))) lstD) (VL.os (oCons (oC (.int 1)) (oCons (o2 (o2 (oV 0) (oC (.int 11)) divD) (oC (.int 3)) modD) (oNil))) minD) ixD
def p6S : Sf := sDPutE 6 (o2 (oV 10) (o2 (oV 10) (oC (.int 2)) modD) subD) fvS
theorem l1_sum_st : l1__law_some_sum = sSeq sA (sSeq sB (sIf t1S p7S (sIf t2S p6S sNx))) := rfl
section
variable (x0 x1 x2 x3 x4 x5 x6 x7 x8 x9 x10 x11 x12 : Sl) (E6 E7 : List (Key × D)) (T b : Int)
theorem sA_eq (cell T : Int) (h : g__law_mixed [.int cell] = some (.int T)) : sA [x0, x1, x2, x3, x4, x5, x6, x7, .fz (.int cell), x9, x10, x11, x12] = some (.nx, [x0, x1, x2, x3, x4, x5, x6, x7, .fz (.int cell), .fz (.int T), x10, x11, x12]) := by simp [sA, h]
theorem sB_eq (S : D) (hp : p1__law_some_sum [x0, x1, x2, x3, x4, x5, x6, x7, x8, x9, x10, x11, x12] = some S) (hs : sumD [S] = some (.int b)) : sB [x0, x1, x2, x3, x4, x5, x6, x7, x8, x9, x10, x11, x12] = some (.nx, [x0, x1, x2, x3, x4, x5, x6, x7, x8, x9, .fz (.int b), x11, x12]) := by simp [sB, hp, hs]
theorem dl7 : oDLen 7 [x0, x1, x2, x3, x4, x5, x6, .od E7, x8, x9, x10, x11, x12] = some (.int (E7.length : Int)) := rfl
theorem dl6 : oDLen 6 [x0, x1, x2, x3, x4, x5, .od E6, x7, x8, x9, x10, x11, x12] = some (.int (E6.length : Int)) := rfl
theorem t1_eq (n : Int) (hn : (E7.length : Int) = n) : t1S [x0, x1, x2, x3, x4, x5, x6, .od E7, x8, .fz (.int T), .fz (.int b), x11, x12] = some (decide (T % 5 = 1) && (decide (n < 4) && decide (0 < b))) := by
  have l := dl7 x0 x1 x2 x3 x4 x5 x6 x8 (.fz (.int T)) (.fz (.int b)) x11 x12 E7
  rw [hn] at l
  unfold t1S
  simp only [oAnd, ob, o2, l]
  by_cases h1 : T % 5 = 1 <;> by_cases h2 : n < 4 <;> by_cases h3 : 0 < b <;> simp [h1, h2, h3]
theorem t2_eq (n : Int) (hn : (E6.length : Int) = n) : t2S [x0, x1, x2, x3, x4, x5, .od E6, x7, x8, .fz (.int T), .fz (.int b), x11, x12] = some (decide (¬ T % 5 = 1) && (decide (1 < b) && decide (n < 12))) := by
  have l := dl6 x0 x1 x2 x3 x4 x5 x7 x8 (.fz (.int T)) (.fz (.int b)) x11 x12 E6
  rw [hn] at l
  unfold t2S
  simp only [oAnd, ob, o2, l]
  by_cases h1 : T % 5 = 1 <;> by_cases h2 : n < 12 <;> by_cases h3 : 1 < b <;> simp [h1, h2, h3]
theorem p7_eq (E7' : List (Key × D)) (hl : E7.length < sizeLine) (hp : putE E7 (.inl b) (.bool true) = E7') : p7S [x0, x1, x2, x3, x4, x5, x6, .od E7, x8, x9, .fz (.int b), x11, x12] = some (.nx, [x0, x1, x2, x3, x4, x5, x6, .od E7', x8, x9, .fz (.int b), x11, x12]) := by
  subst hp
  have k : keyD (.int b) = some (.inl b) := rfl
  simp only [p7S, sDPutE, oC, oV, Option.bind_some]
  show (slK (some (.od E7))).bind _ = _
  rw [slK_od, Option.bind_some]
  show (slV (some (.fz (.int b)))).bind _ = _
  rw [slV_fz, Option.bind_some, k, Option.bind_some, if_pos hl]
  rfl
theorem fv_ex (hd : Int) : ∃ v : Int, fvS [.fz (.int hd), x1, x2, x3, x4, x5, x6, x7, x8, .fz (.int T), x10, x11, x12] = some (.int v) := by
  have mk : mulI (.int 2) (.int (T / 5 % 3)) = some (.int (2 * (T / 5 % 3))) := mulI_int (.of_left (by decide))
  have hz : hd / 11 % 3 = 0 ∨ hd / 11 % 3 = 1 ∨ hd / 11 % 3 = 2 := by omega
  rcases hz with h | h | h
  · exact ⟨1 + T / 5 % 7, by simp [fvS, mk, h]⟩
  · exact ⟨2 + 2 * (T / 5 % 3), by simp [fvS, mk, h]⟩
  · exact ⟨2 + 2 * (T / 5 % 3), by simp [fvS, mk, h]⟩
theorem p6_eq (E6' : List (Key × D)) (k v : Int) (hl : E6.length < sizeLine) (hk : b - b % 2 = k) (hv : fvS [x0, x1, x2, x3, x4, x5, .od E6, x7, x8, .fz (.int T), .fz (.int b), x11, x12] = some (.int v)) (hp : putE E6 (.inl k) (.int v) = E6') : p6S [x0, x1, x2, x3, x4, x5, .od E6, x7, x8, .fz (.int T), .fz (.int b), x11, x12] = some (.nx, [x0, x1, x2, x3, x4, x5, .od E6', x7, x8, .fz (.int T), .fz (.int b), x11, x12]) := by
  subst hp
  have kk : keyD (.int k) = some (.inl k) := rfl
  have f1 : (o2 (oV 10) (o2 (oV 10) (oC (.int 2)) modD) subD) [x0, x1, x2, x3, x4, x5, .od E6, x7, x8, .fz (.int T), .fz (.int b), x11, x12] = some (.int k) := by simp [hk]
  simp only [p6S, sDPutE, f1, hv, Option.bind_some]
  show (slK (some (.od E6))).bind _ = _
  rw [slK_od, Option.bind_some, kk, Option.bind_some, if_pos hl]
  rfl
end
theorem sq_step (hd : Int) (C W L Hd : D) (al : List Nat) (l6 : List (Nat × Int)) (l7 : List Nat) (cell : Int) (x9 x10 x11 x12 : Sl) (hl : al.length ≤ 1000) (hb : ∀ a ∈ al, a ≤ 1000) (h6 : l6.length ≤ 12) (h7 : l7.length ≤ 4) :
    ∃ (l6' : List (Nat × Int)) (l7' : List Nat) (y9 y10 : Sl), l6'.length ≤ 12 ∧ l7'.length ≤ 4 ∧ l1__law_some_sum [.fz (.int hd), .fz C, .fz W, .fz L, .fz Hd, .fz (.list (natsD al)), .od (enc l6), .od (encT l7), .fz (.int cell), x9, x10, x11, x12] = some (.nx, [.fz (.int hd), .fz C, .fz W, .fz L, .fz Hd, .fz (.list (natsD al)), .od (enc l6'), .od (encT l7'), .fz (.int cell), y9, y10, x11, x12]) := by
  obtain ⟨T, hT⟩ := lmixed_eq cell
  obtain ⟨S, b, hp, hs⟩ := sq_p1 al T (.fz (.int hd)) (.fz C) (.fz W) (.fz L) (.fz Hd) (.od (enc l6)) (.od (encT l7)) (.fz (.int cell)) x10 x11 x12 hl hb
  have e6 : (enc l6).length = l6.length := by simp [enc]
  have e7 : (encT l7).length = l7.length := by simp [encT]
  have z6 : (enc l6).length < sizeLine := by rw [e6, sizeLine_eq]; omega
  have z7 : (encT l7).length < sizeLine := by rw [e7, sizeLine_eq]; omega
  have go : l1__law_some_sum [.fz (.int hd), .fz C, .fz W, .fz L, .fz Hd, .fz (.list (natsD al)), .od (enc l6), .od (encT l7), .fz (.int cell), x9, x10, x11, x12] = (sIf t1S p7S (sIf t2S p6S sNx)) [.fz (.int hd), .fz C, .fz W, .fz L, .fz Hd, .fz (.list (natsD al)), .od (enc l6), .od (encT l7), .fz (.int cell), .fz (.int T), .fz (.int b), x11, x12] := by
    rw [l1_sum_st]
    exact (nseq (sA_eq _ _ _ _ _ _ _ _ _ _ _ _ cell T hT)).trans (nseq (sB_eq _ _ _ _ _ _ _ _ _ _ _ _ _ b S hp hs))
  have t1 := t1_eq (.fz (.int hd)) (.fz C) (.fz W) (.fz L) (.fz Hd) (.fz (.list (natsD al))) (.od (enc l6)) (.fz (.int cell)) x11 x12 (encT l7) T b l7.length (by rw [e7])
  have t2 := t2_eq (.fz (.int hd)) (.fz C) (.fz W) (.fz L) (.fz Hd) (.fz (.list (natsD al))) (.od (encT l7)) (.fz (.int cell)) x11 x12 (enc l6) T b l6.length (by rw [e6])
  rw [go]
  cases q1 : (decide ((T : Int) % 5 = 1) && (decide ((l7.length : Int) < 4) && decide ((0 : Int) < b))) with
  | true =>
    rw [q1] at t1
    simp only [Bool.and_eq_true, decide_eq_true_eq] at q1
    obtain ⟨l7', w1, w2⟩ := encT_put l7 b
    exact ⟨l6, l7', _, _, h6, by omega, (sIf_t t1).trans (p7_eq _ _ _ _ _ _ _ _ _ _ _ _ _ _ z7 w1)⟩
  | false =>
    rw [q1] at t1
    cases q2 : (decide (¬ (T : Int) % 5 = 1) && (decide ((1 : Int) < b) && decide ((l6.length : Int) < 12))) with
    | true =>
      rw [q2] at t2
      simp only [Bool.and_eq_true, decide_eq_true_eq] at q2
      obtain ⟨k, hk⟩ : ∃ k : Nat, (b : Int) - (b : Int) % 2 = k := ⟨b - b % 2, by omega⟩
      obtain ⟨v, hv⟩ := fv_ex (.fz C) (.fz W) (.fz L) (.fz Hd) (.fz (.list (natsD al))) (.od (enc l6)) (.od (encT l7)) (.fz (.int cell)) (.fz (.int b)) x11 x12 T hd
      obtain ⟨l6', w1, w2⟩ := enc_put l6 k v
      exact ⟨l6', l7, _, _, by omega, h7, (sIf_f t1).trans ((sIf_t t2).trans (p6_eq _ _ _ _ _ _ _ _ _ _ _ _ _ _ k _ z6 hk hv w1))⟩
    | false =>
      rw [q2] at t2
      exact ⟨l6, l7, _, _, h6, h7, (sIf_f t1).trans ((sIf_f t2).trans rfl)⟩

theorem sq_loop (hd : Int) (W L Hd : D) (al : List Nat) (cells : List Int) (x11 x12 : Sl) (hl : al.length ≤ 1000) (hb : ∀ a ∈ al, a ≤ 1000) : ∃ (l6 : List (Nat × Int)) (l7 : List Nat) (y8 y9 y10 : Sl), l6.length ≤ 12 ∧ l7.length ≤ 4 ∧
    loop (gN 8) l1__law_some_sum (cells.map .int) [.fz (.int hd), .fz (.list (cells.map .int)), .fz W, .fz L, .fz Hd, .fz (.list (natsD al)), .od [], .od [], .un, .un, .un, x11, x12] = some (.nx, [.fz (.int hd), .fz (.list (cells.map .int)), .fz W, .fz L, .fz Hd, .fz (.list (natsD al)), .od (enc l6), .od (encT l7), y8, y9, y10, x11, x12]) := by
  obtain ⟨δ', e, l6, l7, y8, y9, y10, h6, h7, rfl⟩ := loop_nx (g := gN 8) (b := l1__law_some_sum) (fun δ => ∃ (l6 : List (Nat × Int)) (l7 : List Nat) (y8 y9 y10 : Sl), l6.length ≤ 12 ∧ l7.length ≤ 4 ∧ δ = [.fz (.int hd), .fz (.list (cells.map .int)), .fz W, .fz L, .fz Hd, .fz (.list (natsD al)), .od (enc l6), .od (encT l7), y8, y9, y10, x11, x12]) (cells.map .int) (fun d hdm δ hI => by
    obtain ⟨l6, l7, y8, y9, y10, h6, h7, rfl⟩ := hI
    obtain ⟨cell, _, rfl⟩ := List.mem_map.mp hdm
    obtain ⟨l6', l7', z9, z10, k6, k7, q⟩ := sq_step hd (.list (cells.map .int)) W L Hd al l6 l7 cell y9 y10 x11 x12 hl hb h6 h7
    exact ⟨_, rfl, _, q, l6', l7', _, _, _, k6, k7, rfl⟩) [.fz (.int hd), .fz (.list (cells.map .int)), .fz W, .fz L, .fz Hd, .fz (.list (natsD al)), .od [], .od [], .un, .un, .un, x11, x12] ⟨[], [], _, _, _, by simp, by simp, rfl⟩
  exact ⟨l6, l7, y8, y9, y10, h6, h7, e⟩
theorem encI_back (l : List (Nat × Int)) : ((encI l).map fun p => (p.1, PyData.int p.2)) = enc l := by
  unfold encI enc
  rw [List.map_map]
  rfl
theorem sort_enc (l : List (Nat × Int)) (hl : l.length ≤ 12) : ∃ ss : List Nat, sortFD (.dict (dctD (encI l))) = some (.list (natsD ss)) ∧ ss.length = l.length ∧ ∀ s ∈ ss, s ∈ l.map (·.1) := by
  obtain ⟨ss, h1, h2, h3⟩ := sort_nat (l.map (·.1))
  rw [List.map_map] at h1
  refine ⟨ss, ?_, by rw [h2, List.length_map], h3⟩
  have k := enc_keys l
  show (undct (dctD (encI l))).bind _ = _
  rw [undct_dctD, Option.bind_some, encI_back, k, Option.bind_some, if_pos (by rw [List.length_map]; omega)]
  have h1 : (isortI (l.map fun p => ((p.1 : Nat) : Int))).map PyData.int = natsD ss := h1
  rw [h1]
theorem sort_encT (l : List Nat) (hl : l.length ≤ 4) (x0 x1 x2 x3 x4 x5 x6 x8 x9 x10 x11 x12 : Sl) : ∃ ss : List Nat, oDSort 7 [x0, x1, x2, x3, x4, x5, x6, .od (encT l), x8, x9, x10, x11, x12] = some (.list (natsD ss)) ∧ ss.length = l.length := by
  obtain ⟨ss, h1, h2, h3⟩ := sort_nat l
  refine ⟨ss, ?_, h2⟩
  have k := encT_keys l
  show (slK (some (.od (encT l)))).bind _ = _
  rw [slK_od, Option.bind_some, k, Option.bind_some, if_pos (by rw [List.length_map]; omega), h1]
theorem dfz6 (l : List (Nat × Int)) (x0 x1 x2 x3 x4 x5 x7 x8 x9 x10 x11 x12 : Sl) : dFzD 6 [x0, x1, x2, x3, x4, x5, .od (enc l), x7, x8, x9, x10, x11, x12] = [x0, x1, x2, x3, x4, x5, .fz (.dict (dctD (encI l))), x7, x8, x9, x10, x11, x12] := by
  have h := enc_ints l
  show (match intsE (enc l) with | some l' => _ | none => _) = _
  rw [h]
  rfl
theorem sq10_eq (l : List (Nat × Int)) (hl : l.length ≤ 12) (x0 x1 x2 x3 x4 x5 x7 x8 x9 x10 x11 x12 : Sl) : ∃ ps : List (Nat × Int), ps.length ≤ 12 ∧ sq_10 [x0, x1, x2, x3, x4, x5, .od (enc l), x7, x8, x9, x10, x11, x12] = some (.nx, [x0, x1, x2, x3, x4, x5, .fz (.dict (dctD (encI l))), x7, x8, x9, x10, x11, .fz (.tuple (ps.map prD))]) := by
  obtain ⟨ss, h1, h2, h3⟩ := sort_enc l hl
  refine ⟨ss.map fun s : Nat => (s, (getFI (encI l) (.inl ((s : Nat) : Int))).getD 0), by rw [List.length_map]; omega, ?_⟩
  show (sSet 12 (VL.os (oCons (p2__law_some_sum) (oNil)) tupleD)) (dFzD 6 [x0, x1, x2, x3, x4, x5, .od (enc l), x7, x8, x9, x10, x11, x12]) = _
  rw [dfz6]
  have p : p2__law_some_sum [x0, x1, x2, x3, x4, x5, .fz (.dict (dctD (encI l))), x7, x8, x9, x10, x11, x12] = some (.list ((ss.map fun s : Nat => (s, (getFI (encI l) (.inl ((s : Nat) : Int))).getD 0)).map prD)) := by
    unfold p2__law_some_sum
    rw [List.map_map]
    refine comp_map (xs := ss) (h := fun s => .int ((s : Nat) : Int)) ?_ (by omega) fun s hs => ?_
    · have : (oI (o1 (oV 6) sortFD) itsD) [x0, x1, x2, x3, x4, x5, .fz (.dict (dctD (encI l))), x7, x8, x9, x10, x11, x12] = some (natsD ss) := by
        show ((sortFD (.dict (dctD (encI l))))).bind itsD = _
        rw [h1]; rfl
      exact this
    · obtain ⟨v, hv⟩ := getF_mem l s (h3 s hs)
      have g : getFD (.dict (dctD (encI l))) (.int (s : Int)) = some (.int v) := by
        show (undct (dctD (encI l))).bind _ = _
        rw [undct_dctD, Option.bind_some]
        show (keyD (.int (s : Int))).bind _ = _
        rw [keyD_int, Option.bind_some, hv]; rfl
      generalize PyData.dict (dctD (encI l)) = Z at *
      simp [capS, g, prD, hv]
  simp only [sSet, VL.os, oCons, oNil, p, Option.bind_some, tupleD_list]
  rfl
theorem sq11_eq (hd w l : Nat) (hv : Int) (ps : List (Nat × Int)) (ts hs : List Nat) (x1 x5 x6 x7 x8 x9 x10 : Sl) (q : oDSort 7 [.fz (.int hd), x1, .fz (.int w), .fz (.int l), .fz (.list (natsD hs)), x5, x6, x7, x8, x9, x10, .fz (.int hv), .fz (.tuple (ps.map prD))] = some (.list (natsD ts))) :
    sq_11 [.fz (.int hd), x1, .fz (.int w), .fz (.int l), .fz (.list (natsD hs)), x5, x6, x7, x8, x9, x10, .fz (.int hv), .fz (.tuple (ps.map prD))] = some (.rt (oneD w l hv (hd / 7 % 8) ps ts hs), [.fz (.int hd), x1, .fz (.int w), .fz (.int l), .fz (.list (natsD hs)), x5, x6, x7, x8, x9, x10, .fz (.int hv), .fz (.tuple (ps.map prD))]) := by
  have t6 : ∀ a b c d e f : D, tupD [a, b, c, d, e, f] = some (.tuple [a, b, c, d, e, f]) := fun a b c d e f => tupD_ok (by simp)
  have hc : (hd : Int) / 7 % 8 = ((hd / 7 % 8 : Nat) : Int) := by omega
  unfold oneD
  generalize natsD hs = HS at *
  generalize natsD ts = TS at *
  generalize ps.map prD = PS at *
  generalize hd / 7 % 8 = c at *
  simp [sq_11, q, t6, hc]
/-- what a sum drawn holds to -/
structure Sm (w l : Nat) (hv : Int) (c : Nat) (ps : List (Nat × Int)) (ts hs : List Nat) (n : Nat) : Prop where
  w1 : 1 ≤ w
  w3 : w ≤ 3
  l2 : l ≤ 2
  v1 : -1000 ≤ hv
  v2 : hv ≤ 1000
  c8 : c < 8
  pl : ps.length ≤ 100
  tl : ts.length ≤ 100
  hl : hs.length ≤ n
  pw : hs.Pairwise (· < ·)
  hb : ∀ h ∈ hs, 2 * w + 1 + l ≤ h ∧ h < 900
section
variable (C : D) (x3 x4 x5 x6 x7 x8 x9 x10 x11 x12 : Sl)
theorem sq1_eq (hd w : Int) (hw : 1 + hd % 3 = w) (x2 : Sl) : sq_1 [.fz (.int hd), .fz C, x2, x3, x4, x5, x6, x7, x8, x9, x10, x11, x12] = some (.nx, [.fz (.int hd), .fz C, .fz (.int w), x3, x4, x5, x6, x7, x8, x9, x10, x11, x12]) := by simp [sq_1, hw]
theorem sq2_eq (hd l : Int) (hl : hd / 3 % 3 = l) (x2 : Sl) : sq_2 [.fz (.int hd), .fz C, x2, x3, x4, x5, x6, x7, x8, x9, x10, x11, x12] = some (.nx, [.fz (.int hd), .fz C, x2, .fz (.int l), x4, x5, x6, x7, x8, x9, x10, x11, x12]) := by simp [sq_2, hl]
theorem sq3_eq (hd w l f m : Int) (B : D) (mw : mulI (.int 2) (.int w) = some (.int m)) (hf : m + 1 + l = f) (b1 : g__law_bits_by [.int hd, C, .int f] = some B) : sq_3 [.fz (.int hd), .fz C, .fz (.int w), .fz (.int l), x4, x5, x6, x7, x8, x9, x10, x11, x12] = some (.nx, [.fz (.int hd), .fz C, .fz (.int w), .fz (.int l), .fz B, x5, x6, x7, x8, x9, x10, x11, x12]) := by simp [sq_3, mw, hf, b1]
theorem sq4_eq (H : D) (w l f m : Int) (B R A : D) (mw : mulI (.int 2) (.int w) = some (.int m)) (hf : m + 1 + l = f) (lr : lrngD (.int f) = some R) (al : addD R B = some A) : sq_4 [.fz H, .fz C, .fz (.int w), .fz (.int l), .fz B, x5, x6, x7, x8, x9, x10, x11, x12] = some (.nx, [.fz H, .fz C, .fz (.int w), .fz (.int l), .fz B, .fz A, x6, x7, x8, x9, x10, x11, x12]) := by
  have e : (o2 (o2 (o2 (oC (.int 2)) (oV 2) mulI) (oC (.int 1)) addD) (oV 3) addD) [.fz H, .fz C, .fz (.int w), .fz (.int l), .fz B, x5, x6, x7, x8, x9, x10, x11, x12] = some (.int f) := by simp [mw, hf]
  have e2 : (o1 (o2 (o2 (o2 (oC (.int 2)) (oV 2) mulI) (oC (.int 1)) addD) (oV 3) addD) lrngD) [.fz H, .fz C, .fz (.int w), .fz (.int l), .fz B, x5, x6, x7, x8, x9, x10, x11, x12] = some R := by
    unfold o1
    rw [e]
    exact lr
  unfold sq_4 sSet
  show ((((o1 _ lrngD) _).bind fun x => ((some B).bind fun y => addD x y)).bind _) = _
  rw [e2, Option.bind_some, Option.bind_some, al]
  rfl
theorem sq8_eq (hd h0 : Int) (h : hd / 180 % 13 - 6 = h0) (x1 x2 : Sl) : sq_8 [.fz (.int hd), x1, x2, x3, x4, x5, x6, x7, x8, x9, x10, x11, x12] = some (.nx, [.fz (.int hd), x1, x2, x3, x4, x5, x6, x7, x8, x9, x10, .fz (.int h0), x12]) := by simp [sq_8, h]
theorem sq9_y (hd h1 : Int) (q : hd / 2340 % 9 = 1) (h : hd / 2340 % 401 - 200 = h1) (x1 x2 : Sl) : sq_9 [.fz (.int hd), x1, x2, x3, x4, x5, x6, x7, x8, x9, x10, x11, x12] = some (.nx, [.fz (.int hd), x1, x2, x3, x4, x5, x6, x7, x8, x9, x10, .fz (.int h1), x12]) := by simp [sq_9, q, h]
theorem sq9_n (hd : Int) (q : ¬ hd / 2340 % 9 = 1) (x1 x2 : Sl) : sq_9 [.fz (.int hd), x1, x2, x3, x4, x5, x6, x7, x8, x9, x10, x11, x12] = some (.nx, [.fz (.int hd), x1, x2, x3, x4, x5, x6, x7, x8, x9, x10, x11, x12]) := by simp [sq_9, q]
end
theorem lrngD_int {j : Int} (h : j ≤ 16777216) (h2 : -4611686018427387904 ≤ j) : lrngD (.int j) = some (.list (rngL 0 j.toNat)) := if_pos ⟨h, h2⟩
theorem rngL_nats (f : Nat) : rngL 0 f = natsD (List.range f) := by
  unfold rngL natsD
  simp
theorem lrng_nat {f : Nat} (h : f ≤ 1000) : lrngD (.int (f : Int)) = some (.list (natsD (List.range f))) := by
  rw [lrngD_int (by omega) (by omega), Int.toNat_natCast, rngL_nats]
theorem some_sum_eq (hd : Nat) (cells : List Int) : ∃ (w l : Nat) (hv : Int) (c : Nat) (ps : List (Nat × Int)) (ts hs : List Nat), g__law_some_sum [.int hd, .list (cells.map .int)] = some (oneD w l hv c ps ts hs) ∧ Sm w l hv c ps ts hs 5 ∧ ∀ h ∈ hs, h ≤ 300 := by
  obtain ⟨w, hw⟩ : ∃ w : Nat, 1 + (hd : Int) % 3 = w := ⟨1 + hd % 3, by omega⟩
  obtain ⟨l, hl⟩ : ∃ l : Nat, (hd : Int) / 3 % 3 = l := ⟨hd / 3 % 3, by omega⟩
  obtain ⟨f, hf⟩ : ∃ f : Nat, 2 * (w : Int) + 1 + l = f := ⟨2 * w + 1 + l, by omega⟩
  obtain ⟨hs, b1, b2, b3, b4⟩ := bits_by_eq hd f cells
  have mw : mulI (.int 2) (.int (w : Int)) = some (.int (2 * (w : Int))) := mulI_int (.of_left (by decide))
  have lr := lrng_nat (f := f) (by omega)
  have al : addD (.list (natsD (List.range f))) (.list (natsD hs)) = some (.list (natsD (List.range f ++ hs))) := by
    rw [addD_list (by rw [natsD_len, natsD_len, List.length_range]; omega), natsD_app]
  obtain ⟨l6, l7, y8, y9, y10, h6, h7, lp⟩ := sq_loop hd (.int w) (.int l) (.list (natsD hs)) (List.range f ++ hs) cells .un .un (by rw [List.length_append, List.length_range]; omega) (fun a ha => by
    rcases List.mem_append.mp ha with ha | ha
    · have := List.mem_range.mp ha; omega
    · have := (b4 a ha).2; omega)
  have s7 : sq_7 [.fz (.int hd), .fz (.list (cells.map .int)), .fz (.int w), .fz (.int l), .fz (.list (natsD hs)), .fz (.list (natsD (List.range f ++ hs))), .od [], .od [], .un, .un, .un, .un, .un] = some (.nx, [.fz (.int hd), .fz (.list (cells.map .int)), .fz (.int w), .fz (.int l), .fz (.list (natsD hs)), .fz (.list (natsD (List.range f ++ hs))), .od (enc l6), .od (encT l7), y8, y9, y10, .un, .un]) := by
    unfold sq_7 sFor
    rw [oI_list rfl, Option.bind_some]
    exact lp
  obtain ⟨h0, hh0⟩ : ∃ h0 : Int, (hd : Int) / 180 % 13 - 6 = h0 := ⟨_, rfl⟩
  obtain ⟨hv, v1, v2, s9⟩ : ∃ hv : Int, -1000 ≤ hv ∧ hv ≤ 1000 ∧ ∀ x1 x2 x3 x4 x5 x6 x7, sq_9 [.fz (.int hd), x1, x2, x3, x4, x5, x6, x7, y8, y9, y10, .fz (.int h0), .un] = some (.nx, [.fz (.int hd), x1, x2, x3, x4, x5, x6, x7, y8, y9, y10, .fz (.int hv), .un]) := by
    by_cases q : (hd : Int) / 2340 % 9 = 1
    · exact ⟨(hd : Int) / 2340 % 401 - 200, by omega, by omega, fun x1 x2 x3 x4 x5 x6 x7 => sq9_y _ _ _ _ _ _ _ _ _ _ hd _ q rfl _ _⟩
    · exact ⟨h0, by omega, by omega, fun x1 x2 x3 x4 x5 x6 x7 => sq9_n _ _ _ _ _ _ _ _ _ _ hd q _ _⟩
  obtain ⟨ps, hps, s10⟩ := sq10_eq l6 h6 (.fz (.int hd)) (.fz (.list (cells.map .int))) (.fz (.int w)) (.fz (.int l)) (.fz (.list (natsD hs))) (.fz (.list (natsD (List.range f ++ hs)))) (.od (encT l7)) y8 y9 y10 (.fz (.int hv)) .un
  obtain ⟨ts, hts, htl⟩ := sort_encT l7 h7 (.fz (.int hd)) (.fz (.list (cells.map .int))) (.fz (.int w)) (.fz (.int l)) (.fz (.list (natsD hs))) (.fz (.list (natsD (List.range f ++ hs)))) (.fz (.dict (dctD (encI l6)))) y8 y9 y10 (.fz (.int hv)) (.fz (.tuple (ps.map prD)))
  have s11 := sq11_eq hd w l hv ps ts hs (.fz (.list (cells.map .int))) (.fz (.list (natsD (List.range f ++ hs)))) (.fz (.dict (dctD (encI l6)))) (.od (encT l7)) y8 y9 y10 hts
  have d5 : sq_5 [.fz (.int hd), .fz (.list (cells.map .int)), .fz (.int w), .fz (.int l), .fz (.list (natsD hs)), .fz (.list (natsD (List.range f ++ hs))), .un, .un, .un, .un, .un, .un, .un] = some (.nx, [.fz (.int hd), .fz (.list (cells.map .int)), .fz (.int w), .fz (.int l), .fz (.list (natsD hs)), .fz (.list (natsD (List.range f ++ hs))), .od [], .un, .un, .un, .un, .un, .un]) := rfl
  have d6 : sq_6 [.fz (.int hd), .fz (.list (cells.map .int)), .fz (.int w), .fz (.int l), .fz (.list (natsD hs)), .fz (.list (natsD (List.range f ++ hs))), .od [], .un, .un, .un, .un, .un, .un] = some (.nx, [.fz (.int hd), .fz (.list (cells.map .int)), .fz (.int w), .fz (.int l), .fz (.list (natsD hs)), .fz (.list (natsD (List.range f ++ hs))), .od [], .od [], .un, .un, .un, .un, .un]) := rfl
  refine ⟨w, l, hv, hd / 7 % 8, ps, ts, hs, nrun (δ' := [.fz (.int hd), .fz (.list (cells.map .int)), .fz (.int w), .fz (.int l), .fz (.list (natsD hs)), .fz (.list (natsD (List.range f ++ hs))), .fz (.dict (dctD (encI l6))), .od (encT l7), y8, y9, y10, .fz (.int hv), .fz (.tuple (ps.map prD))]) rfl ?_, ⟨by omega, by omega, by omega, v1, v2, by omega, by omega, by omega, by omega, b3, fun h hh => ?_⟩, fun h hh => ?_⟩
  · rw [sq_st]
    exact (nseq (sq1_eq _ _ _ _ _ _ _ _ _ _ _ hd w hw _)).trans ((nseq (sq2_eq _ _ _ _ _ _ _ _ _ _ _ hd l hl _)).trans ((nseq (sq3_eq _ _ _ _ _ _ _ _ _ _ hd w l f _ _ mw hf b1)).trans ((nseq (sq4_eq _ _ _ _ _ _ _ _ _ _ w l f _ _ _ _ mw hf lr al)).trans ((nseq d5).trans ((nseq d6).trans ((nseq s7).trans ((nseq (sq8_eq _ _ _ _ _ _ _ _ _ _ hd h0 hh0 _ _)).trans ((nseq (s9 _ _ _ _ _ _ _)).trans ((nseq s10).trans s11)))))))))
  · have := b4 h hh; omega
  · have := b4 h hh; omega


/-! ### steps -/
def hasB (b k : Nat) : Bool := decide (b / 2 ^ k % 2 = 1)
theorem hasB_i (b k : Nat) : (((b / 2 ^ k % 2 : Nat) : Int) == 1) = hasB b k := by
  unfold hasB
  rcases Nat.mod_two_eq_zero_or_one (b / 2 ^ k) with h | h <;> rw [h] <;> rfl
theorem has_eq (b k : Nat) : g_has [.int b, .int k] = some (.bool (hasB b k)) := by
  have s := shr_nat b k
  have o := and1 (b / 2 ^ k)
  have h := hasB_i b k
  generalize b / 2 ^ k % 2 = z at *
  generalize b / 2 ^ k = y at *
  simp [g_has, runB, b_has, startD, s, o, h]
theorem odd_t (b k : Nat) {δ : Dv} {f1 f2 : Dv → Option D} (h1 : f1 δ = some (.int b)) (h2 : f2 δ = some (.int k)) : (ob (o2 (o2 (o2 f1 f2 shrD) (oC (.int 2)) modD) (oC (.int 1)) eqD)) δ = some (hasB b k) := by
  have s := shr_nat b k
  have m := mod2_nat (b / 2 ^ k)
  have h := hasB_i b k
  generalize b / 2 ^ k % 2 = z at *
  generalize b / 2 ^ k = y at *
  simp only [ob, o2, oC, h1, h2, Option.bind_some, s, m, eqD_int, asB_bool, h]
def fa (ps : List (Nat × Int)) (ts : List Nat) (k : Nat) : Bool := if (ts.any fun t => hasB t k) = true then false else (ps.filter fun p => hasB p.1 k).all fun p => p.2 % 2 == 0
section
variable (w l : Nat) (hv : Int) (c : Nat) (ps : List (Nat × Int)) (ts hs : List Nat)
theorem ga_p1 (k : Nat) (ht : ts.length ≤ 1000) : p1_goes_away [.fz (oneD w l hv c ps ts hs), .fz (.int k)] = some (.list (ts.map fun t => .bool (hasB t k))) := by
  unfold p1_goes_away
  refine comp_map (xs := ts) (h := fun t => .int ((t : Nat) : Int)) ?_ (by omega) fun t _ => ?_
  · have : (oI (o2 (oV 0) (oC (.int 4)) ixD) itsD) [.fz (oneD w l hv c ps ts hs), .fz (.int k)] = some (natsD ts) := rfl
    exact this
  · have h := has_eq t k
    generalize hasB t k = z at *
    simp [capS, h]
theorem ga_p2 (k : Nat) (hp : ps.length ≤ 1000) : p2_goes_away [.fz (oneD w l hv c ps ts hs), .fz (.int k)] = some (.list ((ps.filter fun p => hasB p.1 k).map fun p => .bool (p.2 % 2 == 0))) := by
  unfold p2_goes_away
  refine compI_map (xs := ps) (h := prD) ?_ (by omega) (fun p _ => ?_) fun p _ _ => ?_
  · have : (oI (o2 (oV 0) (oC (.int 3)) ixD) itsD) [.fz (oneD w l hv c ps ts hs), .fz (.int k)] = some (ps.map prD) := rfl
    exact this
  · have h := has_eq p.1 k
    generalize hasB p.1 k = z at *
    simp [capS, prD, h]
  · simp [capS, prD]
theorem goes_eq (k : Nat) (ht : ts.length ≤ 1000) (hp : ps.length ≤ 1000) : g_goes_away [oneD w l hv c ps ts hs, .int k] = some (.bool (fa ps ts k)) := by
  have p1 := ga_p1 w l hv c ps ts hs k ht
  have p2 := ga_p2 w l hv c ps ts hs k hp
  have a1 := anyD_map (fun t => hasB t k) ts
  have a2 := allD_map (fun p : Nat × Int => p.2 % 2 == 0) (ps.filter fun p => hasB p.1 k)
  unfold fa
  generalize oneD w l hv c ps ts hs = O at *
  generalize (ps.filter fun p => hasB p.1 k).all (fun p : Nat × Int => p.2 % 2 == 0) = r at *
  generalize ((ps.filter fun p => hasB p.1 k).map fun p => PyData.bool (p.2 % 2 == 0)) = L2 at *
  generalize (ts.map fun t => PyData.bool (hasB t k)) = L1 at *
  cases h : ts.any fun t => hasB t k with
  | true =>
    rw [h] at a1
    simp [g_goes_away, runB, b_goes_away, startD, p1, a1]
  | false =>
    rw [h] at a1
    simp [g_goes_away, runB, b_goes_away, startD, p1, a1, p2, a2]
/-- the law's own way -/
theorem lfa_loop (O : D) (k : Nat) : ∀ (ts : List Nat) (x2 : Sl), (∃ y2, (ts.any fun t => hasB t k) = false ∧ loop (gN 2) l1__law_fits_away (natsD ts) [.fz O, .fz (.int k), x2] = some (.nx, [.fz O, .fz (.int k), y2])) ∨ ∃ δ, (ts.any fun t => hasB t k) = true ∧ loop (gN 2) l1__law_fits_away (natsD ts) [.fz O, .fz (.int k), x2] = some (.rt (.bool false), δ)
  | [], x2 => .inl ⟨x2, rfl, rfl⟩
  | t :: r, x2 => by
    have te := odd_t t k (δ := [.fz O, .fz (.int k), .fz (.int t)]) (f1 := oV 2) (f2 := oV 1) rfl rfl
    cases h : hasB t k with
    | true =>
      rw [h] at te
      have b : l1__law_fits_away [.fz O, .fz (.int k), .fz (.int t)] = some (.rt (.bool false), [.fz O, .fz (.int k), .fz (.int t)]) := (sIf_t te).trans rfl
      refine .inr ⟨[.fz O, .fz (.int k), .fz (.int t)], by rw [List.any_cons, h]; rfl, ?_⟩
      show ((gN 2 (.int t) [.fz O, .fz (.int k), x2]).bind _) = _
      show ((l1__law_fits_away [.fz O, .fz (.int k), .fz (.int t)]).bind _) = _
      rw [b]; rfl
    | false =>
      rw [h] at te
      have b : l1__law_fits_away [.fz O, .fz (.int k), .fz (.int t)] = some (.nx, [.fz O, .fz (.int k), .fz (.int t)]) := (sIf_f te).trans rfl
      have e : loop (gN 2) l1__law_fits_away (natsD (t :: r)) [.fz O, .fz (.int k), x2] = loop (gN 2) l1__law_fits_away (natsD r) [.fz O, .fz (.int k), .fz (.int t)] := loop_step rfl b
      rw [e, List.any_cons, h, Bool.false_or]
      exact lfa_loop O k r _
theorem lfa_p1 (k : Nat) (hp : ps.length ≤ 1000) (x2 : Sl) : p1__law_fits_away [.fz (oneD w l hv c ps ts hs), .fz (.int k), x2] = some (.list ((ps.filter fun p => hasB p.1 k && (p.2 % 2 == 1)).map prD)) := by
  unfold p1__law_fits_away
  refine compI_map (xs := ps) (h := prD) ?_ (by omega) (fun p _ => ?_) fun p _ _ => ?_
  · have : (oI (o2 (oV 0) (oC (.int 3)) ixD) itsD) [.fz (oneD w l hv c ps ts hs), .fz (.int k), x2] = some (ps.map prD) := rfl
    exact this
  · have te := odd_t p.1 k (δ := .fz (prD p) :: capS [.fz (oneD w l hv c ps ts hs), .fz (.int k), x2] [(1, "bit")]) (f1 := o2 (oV 0) (oC (.int 0)) ixD) (f2 := oV 1) rfl rfl
    unfold oAnd
    rw [te, Option.bind_some]
    cases h : hasB p.1 k with
    | true => simp [prD]
    | false => rfl
  · rfl
theorem even_odd (ps : List (Nat × Int)) (k : Nat) : (((ps.filter fun p => hasB p.1 k && (p.2 % 2 == 1)).length : Int) == 0) = (ps.filter fun p => hasB p.1 k).all fun p => p.2 % 2 == 0 := by
  induction ps with
  | nil => rfl
  | cons p r ih =>
    rw [List.filter_cons, List.filter_cons]
    cases h : hasB p.1 k with
    | false => simpa using ih
    | true =>
      by_cases q : p.2 % 2 = 1
      · have q0 : ¬ p.2 % 2 = 0 := by omega
        have e1 : (p.2 % 2 == 1) = true := by simpa using q
        have e0 : (p.2 % 2 == 0) = false := by simpa using q0
        simp only [Bool.true_and, e1, if_true, List.length_cons, List.all_cons, e0, Bool.false_and]
        rw [beq_eq_false_iff_ne]
        omega
      · have q0 : p.2 % 2 = 0 := by omega
        have e1 : (p.2 % 2 == 1) = false := by simpa using q
        have e0 : (p.2 % 2 == 0) = true := by simpa using q0
        simp only [Bool.true_and, e1, if_true, List.all_cons, e0]
        simpa using ih
theorem lfa_eq (k : Nat) (hp : ps.length ≤ 1000) : g__law_fits_away [oneD w l hv c ps ts hs, .int k] = some (.bool (fa ps ts k)) := by
  have it : (oI (o2 (oV 0) (oC (.int 4)) ixD) itsD) [.fz (oneD w l hv c ps ts hs), .fz (.int k), .un] = some (natsD ts) := rfl
  unfold fa
  rcases lfa_loop (oneD w l hv c ps ts hs) k ts .un with ⟨y2, h, e⟩ | ⟨δ, h, e⟩
  · rw [if_neg (by rw [h]; decide)]
    have p := lfa_p1 w l hv c ps ts hs k hp y2
    have z := even_odd ps k
    have s1 : (sFor (oI (o2 (oV 0) (oC (.int 4)) ixD) itsD) (gN 2) (l1__law_fits_away)) [.fz (oneD w l hv c ps ts hs), .fz (.int k), .un] = some (.nx, [.fz (oneD w l hv c ps ts hs), .fz (.int k), y2]) := by
      unfold sFor; rw [it]; exact e
    refine nrun (δ' := [.fz (oneD w l hv c ps ts hs), .fz (.int k), y2]) rfl ((nseq s1).trans ?_)
    have ln : lenD [.list ((ps.filter fun p => hasB p.1 k && (p.2 % 2 == 1)).map prD)] = some (.int ((ps.filter fun p => hasB p.1 k && (p.2 % 2 == 1)).length : Int)) := by rw [lenD_list, List.length_map]
    simp only [sRet, o2, VL.os, oCons, oNil, oC, p, Option.bind_some, ln, eqD_int, z]
  · rw [if_pos h]
    have s1 : (sFor (oI (o2 (oV 0) (oC (.int 4)) ixD) itsD) (gN 2) (l1__law_fits_away)) [.fz (oneD w l hv c ps ts hs), .fz (.int k), .un] = some (.rt (.bool false), δ) := by
      unfold sFor; rw [it]; exact e
    exact nrun (δ' := δ) rfl (nret s1)
end

def awT (h : Int) : D := .tuple [.str "away", .int h]
def ptT (t h : Int) : D := .tuple [.str "put", .int t, .int h]
def puts (hs : List Nat) (t : Nat) : List D := (hs.filter fun h => hasB t h).map fun h : Nat => ptT (t : Int) ((h : Nat) : Int)
def stp (ps : List (Nat × Int)) (ts hs : List Nat) : List D := ((hs.filter fun h => fa ps ts h).map fun h : Nat => awT ((h : Nat) : Int)) ++ (ts.map (puts hs)).flatten
theorem puts_len (hs : List Nat) (t : Nat) : (puts hs t).length ≤ hs.length := by
  unfold puts
  rw [List.length_map]
  exact List.length_filter_le _ _
section
variable (w l : Nat) (hv : Int) (c : Nat) (ps : List (Nat × Int)) (ts hs : List Nat)
theorem so_p1 (ht : ts.length ≤ 1000) (hp : ps.length ≤ 1000) (hh : hs.length ≤ 1000) (x1 x2 : Sl) : p1_steps_of [.fz (oneD w l hv c ps ts hs), x1, x2] = some (.list ((hs.filter fun h => fa ps ts h).map fun h : Nat => awT ((h : Nat) : Int))) := by
  unfold p1_steps_of
  refine compI_map (xs := hs) (h := fun h => .int ((h : Nat) : Int)) ?_ (by omega) (fun h _ => ?_) fun h _ _ => ?_
  · have : (oI (o2 (oV 0) (oC (.int 5)) ixD) itsD) [.fz (oneD w l hv c ps ts hs), x1, x2] = some (natsD hs) := rfl
    exact this
  · have g := goes_eq w l hv c ps ts hs h ht hp
    generalize fa ps ts h = z at *
    generalize oneD w l hv c ps ts hs = O at *
    simp [capS, g]
  · simp [awT]
theorem so_p2 (hh : hs.length ≤ 1000) (t : Nat) (x1 : Sl) : p2_steps_of [.fz (oneD w l hv c ps ts hs), x1, .fz (.int t)] = some (.list (puts hs t)) := by
  unfold p2_steps_of puts
  refine compI_map (xs := hs) (h := fun h => .int ((h : Nat) : Int)) ?_ (by omega) (fun h _ => ?_) fun h _ _ => ?_
  · have : (oI (o2 (oV 0) (oC (.int 5)) ixD) itsD) [.fz (oneD w l hv c ps ts hs), x1, .fz (.int t)] = some (natsD hs) := rfl
    exact this
  · have g := has_eq t h
    generalize hasB t h = z at *
    simp [capS, g]
  · simp [ptT, capS]
theorem so_loop (hh : hs.length ≤ 1000) : ∀ (us : List Nat) (A : List D) (x2 : Sl), A.length + us.length * 1000 ≤ 10000000 → ∃ y2, loop (gN 2) l1_steps_of (natsD us) [.fz (oneD w l hv c ps ts hs), .ow A, x2] = some (.nx, [.fz (oneD w l hv c ps ts hs), .ow (A ++ (us.map (puts hs)).flatten), y2])
  | [], A, x2, _ => ⟨x2, by rw [List.map_nil, List.flatten_nil, List.append_nil]; rfl⟩
  | t :: us, A, x2, hA => by
    have p := so_p2 w l hv c ps ts hs hh t (.ow A)
    have pl := puts_len hs t
    have hz : A.length + (puts hs t).length ≤ sizeLine := by rw [sizeLine_eq]; simp only [List.length_cons] at hA; omega
    have b : l1_steps_of [.fz (oneD w l hv c ps ts hs), .ow A, .fz (.int t)] = some (.nx, [.fz (oneD w l hv c ps ts hs), .ow (A ++ puts hs t), .fz (.int t)]) := by
      generalize puts hs t = U at *
      generalize oneD w l hv c ps ts hs = O at *
      simp [l1_steps_of, p, lstI, hz]
    obtain ⟨y2, e⟩ := so_loop hh us (A ++ puts hs t) (.fz (.int t)) (by rw [List.length_append]; simp only [List.length_cons] at hA; omega)
    refine ⟨y2, ?_⟩
    have e0 : loop (gN 2) l1_steps_of (natsD (t :: us)) [.fz (oneD w l hv c ps ts hs), .ow A, x2] = loop (gN 2) l1_steps_of (natsD us) [.fz (oneD w l hv c ps ts hs), .ow (A ++ puts hs t), .fz (.int t)] := loop_step rfl b
    rw [e0, e, List.map_cons, List.flatten_cons, List.append_assoc]
theorem steps_of_eq (ht : ts.length ≤ 1000) (hp : ps.length ≤ 1000) (hh : hs.length ≤ 1000) : g_steps_of [oneD w l hv c ps ts hs] = some (.list (stp ps ts hs)) := by
  have p := so_p1 w l hv c ps ts hs ht hp hh .un .un
  have hl : ((hs.filter fun h => fa ps ts h).map fun h : Nat => awT ((h : Nat) : Int)).length ≤ hs.length := by rw [List.length_map]; exact List.length_filter_le _ _
  obtain ⟨y2, e⟩ := so_loop w l hv c ps ts hs hh ts ((hs.filter fun h => fa ps ts h).map fun h : Nat => awT ((h : Nat) : Int)) .un (by omega)
  have s1 : (sOwnE 1 (oLi (p1_steps_of))) [.fz (oneD w l hv c ps ts hs), .un, .un] = some (.nx, [.fz (oneD w l hv c ps ts hs), .ow ((hs.filter fun h => fa ps ts h).map fun h : Nat => awT ((h : Nat) : Int)), .un]) := by
    simp only [sOwnE, oLi, p, Option.bind_some, lstI]
    rfl
  have s2 : (sFor (oI (o2 (oV 0) (oC (.int 4)) ixD) itsD) (gN 2) (l1_steps_of)) [.fz (oneD w l hv c ps ts hs), .ow ((hs.filter fun h => fa ps ts h).map fun h : Nat => awT ((h : Nat) : Int)), .un] = some (.nx, [.fz (oneD w l hv c ps ts hs), .ow (stp ps ts hs), y2]) := by
    unfold sFor
    rw [show (oI (o2 (oV 0) (oC (.int 4)) ixD) itsD) [.fz (oneD w l hv c ps ts hs), .ow ((hs.filter fun h => fa ps ts h).map fun h : Nat => awT ((h : Nat) : Int)), .un] = some (natsD ts) from rfl]
    exact e
  exact nrun (δ' := dFz 1 [.fz (oneD w l hv c ps ts hs), .ow (stp ps ts hs), y2]) rfl ((nseq s1).trans ((nseq s2).trans rfl))
theorem ls_p1 (ht : ts.length ≤ 1000) (hp : ps.length ≤ 1000) (hh : hs.length ≤ 1000) (x1 x2 : Sl) : p1__law_steps [.fz (oneD w l hv c ps ts hs), x1, x2] = some (.list ((hs.filter fun h => fa ps ts h).map fun h : Nat => awT ((h : Nat) : Int))) := by
  unfold p1__law_steps
  refine compI_map (xs := hs) (h := fun h => .int ((h : Nat) : Int)) ?_ (by omega) (fun h _ => ?_) fun h _ _ => ?_
  · have : (oI (o2 (oV 0) (oC (.int 5)) ixD) itsD) [.fz (oneD w l hv c ps ts hs), x1, x2] = some (natsD hs) := rfl
    exact this
  · have g := lfa_eq w l hv c ps ts hs h hp
    generalize fa ps ts h = z at *
    generalize oneD w l hv c ps ts hs = O at *
    simp [capS, g]
  · simp [awT]
theorem ls_p2 (hh : hs.length ≤ 1000) (t : Nat) (x1 : Sl) : p2__law_steps [.fz (oneD w l hv c ps ts hs), x1, .fz (.int t)] = some (.list (puts hs t)) := by
  unfold p2__law_steps puts
  refine compI_map (xs := hs) (h := fun h => .int ((h : Nat) : Int)) ?_ (by omega) (fun h _ => ?_) fun h _ _ => ?_
  · have : (oI (o2 (oV 0) (oC (.int 5)) ixD) itsD) [.fz (oneD w l hv c ps ts hs), x1, .fz (.int t)] = some (natsD hs) := rfl
    exact this
  · exact odd_t t h (δ := .fz (.int h) :: capS [.fz (oneD w l hv c ps ts hs), x1, .fz (.int t)] [(2, "tie")]) (f1 := oV 1) (f2 := oV 0) rfl rfl
  · simp [ptT, capS]
theorem ls_loop (hh : hs.length ≤ 1000) : ∀ (us : List Nat) (A : List D) (x2 : Sl), A.length + us.length * 1000 ≤ 10000000 → ∃ y2, loop (gN 2) l1__law_steps (natsD us) [.fz (oneD w l hv c ps ts hs), .fz (.list A), x2] = some (.nx, [.fz (oneD w l hv c ps ts hs), .fz (.list (A ++ (us.map (puts hs)).flatten)), y2])
  | [], A, x2, _ => ⟨x2, by rw [List.map_nil, List.flatten_nil, List.append_nil]; rfl⟩
  | t :: us, A, x2, hA => by
    have p := ls_p2 w l hv c ps ts hs hh t (.fz (.list A))
    have pl := puts_len hs t
    have ad : addD (.list A) (.list (puts hs t)) = some (.list (A ++ puts hs t)) := addD_list (by simp only [List.length_cons] at hA; omega)
    have b : l1__law_steps [.fz (oneD w l hv c ps ts hs), .fz (.list A), .fz (.int t)] = some (.nx, [.fz (oneD w l hv c ps ts hs), .fz (.list (A ++ puts hs t)), .fz (.int t)]) := by
      generalize puts hs t = U at *
      generalize oneD w l hv c ps ts hs = O at *
      simp [l1__law_steps, p, ad]
    obtain ⟨y2, e⟩ := ls_loop hh us (A ++ puts hs t) (.fz (.int t)) (by rw [List.length_append]; simp only [List.length_cons] at hA; omega)
    refine ⟨y2, ?_⟩
    have e0 : loop (gN 2) l1__law_steps (natsD (t :: us)) [.fz (oneD w l hv c ps ts hs), .fz (.list A), x2] = loop (gN 2) l1__law_steps (natsD us) [.fz (oneD w l hv c ps ts hs), .fz (.list (A ++ puts hs t)), .fz (.int t)] := loop_step rfl b
    rw [e0, e, List.map_cons, List.flatten_cons, List.append_assoc]
theorem law_steps_eq (ht : ts.length ≤ 1000) (hp : ps.length ≤ 1000) (hh : hs.length ≤ 1000) : g__law_steps [oneD w l hv c ps ts hs] = some (.list (stp ps ts hs)) := by
  have p := ls_p1 w l hv c ps ts hs ht hp hh .un .un
  have hl : ((hs.filter fun h => fa ps ts h).map fun h : Nat => awT ((h : Nat) : Int)).length ≤ hs.length := by rw [List.length_map]; exact List.length_filter_le _ _
  obtain ⟨y2, e⟩ := ls_loop w l hv c ps ts hs hh ts ((hs.filter fun h => fa ps ts h).map fun h : Nat => awT ((h : Nat) : Int)) .un (by omega)
  have s1 : (sSet 1 (p1__law_steps)) [.fz (oneD w l hv c ps ts hs), .un, .un] = some (.nx, [.fz (oneD w l hv c ps ts hs), .fz (.list ((hs.filter fun h => fa ps ts h).map fun h : Nat => awT ((h : Nat) : Int))), .un]) := by
    simp only [sSet, p, Option.bind_some]
    rfl
  have s2 : (sFor (oI (o2 (oV 0) (oC (.int 4)) ixD) itsD) (gN 2) (l1__law_steps)) [.fz (oneD w l hv c ps ts hs), .fz (.list ((hs.filter fun h => fa ps ts h).map fun h : Nat => awT ((h : Nat) : Int))), .un] = some (.nx, [.fz (oneD w l hv c ps ts hs), .fz (.list (stp ps ts hs)), y2]) := by
    unfold sFor
    rw [show (oI (o2 (oV 0) (oC (.int 4)) ixD) itsD) [.fz (oneD w l hv c ps ts hs), .fz (.list ((hs.filter fun h => fa ps ts h).map fun h : Nat => awT ((h : Nat) : Int))), .un] = some (natsD ts) from rfl]
    exact e
  exact nrun (δ' := [.fz (oneD w l hv c ps ts hs), .fz (.list (stp ps ts hs)), y2]) rfl ((nseq s1).trans ((nseq s2).trans rfl))
end
/-! ### the same steps -/
inductive Stp : D → Prop
  | aw (h : Int) : Stp (awT h)
  | pt (t h : Int) : Stp (ptT t h)
theorem stp_all (ps : List (Nat × Int)) (ts hs : List Nat) : ∀ d ∈ stp ps ts hs, Stp d := fun d hd => by
  rcases List.mem_append.mp hd with hd | hd
  · obtain ⟨h, _, rfl⟩ := List.mem_map.mp hd
    exact .aw _
  · obtain ⟨x, hx, hd⟩ := List.mem_flatten.mp hd
    obtain ⟨t, _, rfl⟩ := List.mem_map.mp hx
    obtain ⟨h, _, rfl⟩ := List.mem_map.mp hd
    exact .pt _ _
theorem away_lay : PyData.canLay0 (.str "away") = true := by decide +kernel
theorem put_lay : PyData.canLay0 (.str "put") = true := by decide +kernel
theorem shp_aw (h : Int) : shp (awT h) = true := by
  have := away_lay
  simp [shp, PySem.SeqAt.shaped, awT, PyData.canLay0, PyData.canLayAll0, PyData.depth, PyData.depthAll] at this ⊢
  exact this
theorem shp_pt (t h : Int) : shp (ptT t h) = true := by
  have := put_lay
  simp [shp, PySem.SeqAt.shaped, ptT, PyData.canLay0, PyData.canLayAll0, PyData.depth, PyData.depthAll] at this ⊢
  exact this

theorem aw_self (h : Int) : neD (awT h) (awT h) = some (.bool false) := by
  unfold neD
  rw [if_pos ⟨shp_aw h, shp_aw h⟩]
  simp [awT, PyData.eqv, PyData.eqvAll]
theorem pt_self (t h : Int) : neD (ptT t h) (ptT t h) = some (.bool false) := by
  unfold neD
  rw [if_pos ⟨shp_pt t h, shp_pt t h⟩]
  simp [ptT, PyData.eqv, PyData.eqvAll]
theorem Stp.ne {d : D} (h : Stp d) : neD d d = some (.bool false) := by
  cases h with
  | aw h => exact aw_self h
  | pt t h => exact pt_self t h
theorem Stp.tup {d : D} (h : Stp d) : isiD "tuple" d = some (.bool true) := by cases h <;> rfl
theorem Stp.rest {d : D} (h : Stp d) : ∃ ns : List Int, slD d (some 1) none = some (.tuple (ns.map .int)) ∧ ns.length ≤ 2 := by
  cases h with
  | aw h => exact ⟨[h], rfl, by simp⟩
  | pt t h => exact ⟨[t, h], rfl, by simp⟩
theorem Stp.shp {d : D} (h : Stp d) : shp d = true := by
  cases h with
  | aw h => exact shp_aw h
  | pt t h => exact shp_pt t h
theorem whole_t (i : Int) : g__law_whole [.int i] = some (.bool true) := by simp [g__law_whole, runB, b__law_whole, startD]
theorem ss_p1 (L : List D) (k : Int) (d : D) (x1 : Sl) (hd : atI L k = some d) (h : Stp d) : p1__law_same_steps [.fz (.list L), x1, .fz (.int k)] = some (.list []) := by
  obtain ⟨ns, hs, hn⟩ := h.rest
  unfold p1__law_same_steps
  refine (compI_map (xs := ns) (h := PyData.int) (k := PyData.int) (b := fun _ => false) ?_ (by omega) (fun x _ => ?_) (fun x _ h => by cases h)).trans ?_
  · simp [hd, hs]
  · simp [whole_t]
  · simp
theorem ss_s (L : List D) (k : Int) (d : D) (hd : atI L k = some d) (h : Stp d) : l1__law_same_steps [.fz (.list L), .fz (.list L), .fz (.int k)] = some (.nx, [.fz (.list L), .fz (.list L), .fz (.int k)]) := by
  have p := ss_p1 L k d (.fz (.list L)) hd h
  have h1 := h.ne
  have h2 := h.tup
  simp [l1__law_same_steps, hd, h1, h2, p]
def ss1 : Sf := sIf (oOr (oNot (ob (o1 (oV 0) (isiD "list")))) (ob (o2 (VL.os (oCons (oV 0) (oNil)) lenD) (VL.os (oCons (oV 1) (oNil)) lenD) neD))) (sRet (oC (.bool false))) (sNx)
def ss2 : Sf := sFor (oL (oCons (VL.os (oCons (oV 1) (oNil)) lenD) (oNil)) rng1D) (gN 2) (l1__law_same_steps)
theorem ss_st : b__law_same_steps = sSeq ss1 (sSeq ss2 (sRet (oC (.bool true)))) := rfl
theorem ss1_eq (L : List D) (x2 : Sl) : ss1 [.fz (.list L), .fz (.list L), x2] = some (.nx, [.fz (.list L), .fz (.list L), x2]) := by
  simp [ss1]
theorem ss_x (L R : List D) (n : Nat) (x2 : Sl) (hl : L.length = n) (r : rng1D [.int (n : Int)] = some R) (lp : loop (gN 2) l1__law_same_steps R [.fz (.list L), .fz (.list L), .un] = some (.nx, [.fz (.list L), .fz (.list L), x2])) : g__law_same_steps [.list L, .list L] = some (.bool true) := by
  have s2 : ss2 [.fz (.list L), .fz (.list L), .un] = some (.nx, [.fz (.list L), .fz (.list L), x2]) := by
    have e : (oCons (VL.os (oCons (oV 1) (oNil)) lenD) (oNil)) [.fz (.list L), .fz (.list L), .un] = some [.int (n : Int)] := by
      subst hl; rfl
    unfold ss2 sFor
    rw [oL_of e r, Option.bind_some]
    exact lp
  refine nrun (δ' := [.fz (.list L), .fz (.list L), x2]) rfl ?_
  rw [ss_st]
  exact (nseq (ss1_eq L .un)).trans ((nseq s2).trans rfl)
theorem same_steps_eq (L : List D) (hl : L.length ≤ 100000) (h : ∀ d ∈ L, Stp d) : g__law_same_steps [.list L, .list L] = some (.bool true) := by
  have r := rngS (n := L.length) (by omega)
  obtain ⟨δ, e, x2, rfl⟩ := loop_rng (b := l1__law_same_steps) (k := 2) (fun i δ => ∃ x2 : Sl, δ = [.fz (.list L), .fz (.list L), x2]) L.length (fun i hi δ hI => by
    obtain ⟨x2, rfl⟩ := hI
    exact ⟨_, ss_s L i L[i] (atI_of rfl (List.getElem?_eq_getElem hi)) (h _ (List.getElem_mem hi)), _, rfl⟩) [.fz (.list L), .fz (.list L), .un] ⟨_, rfl⟩
  exact ss_x L _ _ x2 rfl r e
/-! ### a step that is in, a step that fits -/
theorem eqv_aa (h b : Int) : PyData.eqv (awT h) (awT b) = (h == b) := by simp [awT, PyData.eqv, PyData.eqvAll]
theorem eqv_ap (h s b : Int) : PyData.eqv (awT h) (ptT s b) = false := by simp [awT, ptT, PyData.eqv, PyData.eqvAll]
theorem eqv_pa (t h b : Int) : PyData.eqv (ptT t h) (awT b) = false := by simp [awT, ptT, PyData.eqv, PyData.eqvAll]
theorem eqv_pp (t h s b : Int) : PyData.eqv (ptT t h) (ptT s b) = ((t == s) && (h == b)) := by simp [ptT, PyData.eqv, PyData.eqvAll]
theorem in_aw (ps : List (Nat × Int)) (ts hs : List Nat) (b : Int) : inL (awT b) (stp ps ts hs) = (hs.filter fun h => fa ps ts h).any fun h => ((h : Nat) : Int) == b := by
  unfold inL stp
  rw [List.any_append, List.any_map]
  have z : ((ts.map (puts hs)).flatten.any fun y => PyData.eqv y (awT b)) = false := by
    rw [List.any_eq_false]
    intro y hy
    obtain ⟨x, hx, hy⟩ := List.mem_flatten.mp hy
    obtain ⟨t, _, rfl⟩ := List.mem_map.mp hx
    obtain ⟨h, _, rfl⟩ := List.mem_map.mp hy
    rw [eqv_pa]; decide
  rw [z, Bool.or_false]
  simp only [Function.comp_def, eqv_aa]
theorem in_pt (ps : List (Nat × Int)) (ts hs : List Nat) (s b : Int) : inL (ptT s b) (stp ps ts hs) = ts.any fun t => (((t : Nat) : Int) == s) && (hs.filter fun h => hasB t h).any fun h => ((h : Nat) : Int) == b := by
  unfold inL stp
  rw [List.any_append, List.any_map, List.any_flatten, List.any_map]
  have z : ((hs.filter fun h => fa ps ts h).any ((fun y => PyData.eqv y (ptT s b)) ∘ fun h : Nat => awT ((h : Nat) : Int))) = false := by
    rw [List.any_eq_false]
    intro y hy
    show ¬ PyData.eqv (awT ((y : Nat) : Int)) (ptT s b) = true
    rw [eqv_ap]; decide
  rw [z, Bool.false_or]
  congr 1
  funext t
  show (puts hs t).any _ = _
  unfold puts
  rw [List.any_map]
  simp only [Function.comp_def, eqv_pp]
  cases q : (((t : Nat) : Int) == s) with
  | true => simp
  | false => simp
theorem inN (hs : List Nat) (b : Int) : inD false (.int b) (.tuple (natsD hs)) = some (.bool (hs.any fun h => ((h : Nat) : Int) == b)) := by
  have f : (natsD hs).all flD = true := by
    rw [List.all_eq_true]
    intro d hd
    obtain ⟨h, _, rfl⟩ := List.mem_map.mp hd
    rfl
  show (if flD (.int b) = true ∧ (natsD hs).all flD = true then some (PyData.bool (if false = true then !inL (.int b) (natsD hs) else inL (.int b) (natsD hs))) else none) = _
  rw [if_pos ⟨rfl, f⟩, if_neg (by decide)]
  unfold inL natsD
  rw [List.any_map]
  simp only [Function.comp_def, PyData.eqv]
theorem kAA : eqD (.str "away") (.str "away") = some (.bool true) := by
  unfold eqD
  rw [if_pos ⟨by decide +kernel, by decide +kernel⟩]
  simp [PyData.eqv]
theorem kPA : eqD (.str "put") (.str "away") = some (.bool false) := by
  unfold eqD
  rw [if_pos ⟨by decide +kernel, by decide +kernel⟩]
  have : (("put" : Str) == ("away" : Str)) = false := by decide +kernel
  simp [PyData.eqv, this]
section
variable (w l : Nat) (hv : Int) (c : Nat) (ps : List (Nat × Int)) (ts hs : List Nat)
theorem fits_aw (b : Int) (ht : ts.length ≤ 1000) (hp : ps.length ≤ 1000) : g_fits [oneD w l hv c ps ts hs, awT b] = some (.bool (inL (awT b) (stp ps ts hs))) := by
  have i := inN hs b
  have a := kAA
  have o5 := one_5 w l hv c ps ts hs
  rw [in_aw]
  cases q : hs.any fun h => ((h : Nat) : Int) == b with
  | false =>
    rw [q] at i
    have z : ((hs.filter fun h => fa ps ts h).any fun h => ((h : Nat) : Int) == b) = false := by
      rw [List.any_eq_false] at q ⊢
      intro x hx
      exact q x (List.mem_filter.mp hx).1
    rw [z]
    generalize oneD w l hv c ps ts hs = O at *
    simp [g_fits, runB, b_fits, startD, awT, a, o5, i]
  | true =>
    rw [q] at i
    obtain ⟨h, hm, hb⟩ := List.any_eq_true.mp q
    have hb : (h : Int) = b := by simpa using hb
    subst hb
    have g := goes_eq w l hv c ps ts hs h ht hp
    have z : ((hs.filter fun h => fa ps ts h).any fun x => ((x : Nat) : Int) == (h : Int)) = fa ps ts h := by
      cases f : fa ps ts h with
      | true => exact List.any_eq_true.mpr ⟨h, List.mem_filter.mpr ⟨hm, f⟩, by simp⟩
      | false =>
        rw [List.any_eq_false]
        intro x hx
        have := (List.mem_filter.mp hx).2
        intro e
        have e : (x : Int) = (h : Int) := by simpa using e
        have e : x = h := by omega
        rw [e, f] at this
        cases this
    rw [z]
    generalize oneD w l hv c ps ts hs = O at *
    generalize fa ps ts h = r at *
    simp [g_fits, runB, b_fits, startD, awT, a, o5, i, g]
theorem fits_pt (s b : Int) : g_fits [oneD w l hv c ps ts hs, ptT s b] = some (.bool (inL (ptT s b) (stp ps ts hs))) := by
  have i1 := inN ts s
  have i2 := inN hs b
  have a := kPA
  have o4 := one_4 w l hv c ps ts hs
  have o5 := one_5 w l hv c ps ts hs
  rw [in_pt]
  cases q1 : ts.any fun t => ((t : Nat) : Int) == s with
  | false =>
    rw [q1] at i1
    have z : (ts.any fun t => (((t : Nat) : Int) == s) && (hs.filter fun h => hasB t h).any fun h => ((h : Nat) : Int) == b) = false := by
      rw [List.any_eq_false] at q1 ⊢
      intro x hx e
      exact q1 x hx (Bool.and_eq_true_iff.mp e).1
    rw [z]
    generalize oneD w l hv c ps ts hs = O at *
    simp [g_fits, runB, b_fits, startD, ptT, a, o4, i1]
  | true =>
    rw [q1] at i1
    cases q2 : hs.any fun h => ((h : Nat) : Int) == b with
    | false =>
      rw [q2] at i2
      have z : (ts.any fun t => (((t : Nat) : Int) == s) && (hs.filter fun h => hasB t h).any fun h => ((h : Nat) : Int) == b) = false := by
        rw [List.any_eq_false] at q2 ⊢
        intro x hx e
        obtain ⟨h, hm, hb⟩ := List.any_eq_true.mp (Bool.and_eq_true_iff.mp e).2
        exact q2 h (List.mem_filter.mp hm).1 hb
      rw [z]
      generalize oneD w l hv c ps ts hs = O at *
      simp [g_fits, runB, b_fits, startD, ptT, a, o4, o5, i1, i2]
    | true =>
      rw [q2] at i2
      obtain ⟨t, tm, tb⟩ := List.any_eq_true.mp q1
      obtain ⟨h, hm, hb⟩ := List.any_eq_true.mp q2
      have tb : (t : Int) = s := by simpa using tb
      have hb : (h : Int) = b := by simpa using hb
      subst tb
      subst hb
      have g := has_eq t h
      have z : (ts.any fun x => (((x : Nat) : Int) == (t : Int)) && (hs.filter fun y => hasB x y).any fun y => ((y : Nat) : Int) == (h : Int)) = hasB t h := by
        cases f : hasB t h with
        | true => exact List.any_eq_true.mpr ⟨t, tm, Bool.and_eq_true_iff.mpr ⟨by simp, List.any_eq_true.mpr ⟨h, List.mem_filter.mpr ⟨hm, f⟩, by simp⟩⟩⟩
        | false =>
          rw [List.any_eq_false]
          intro x hx e
          obtain ⟨e1, e2⟩ := Bool.and_eq_true_iff.mp e
          obtain ⟨y, ym, yb⟩ := List.any_eq_true.mp e2
          have e1 : (x : Int) = (t : Int) := by simpa using e1
          have yb : (y : Int) = (h : Int) := by simpa using yb
          have e1 : x = t := by omega
          have yb : y = h := by omega
          have := (List.mem_filter.mp ym).2
          rw [e1, yb, f] at this
          cases this
      rw [z]
      generalize oneD w l hv c ps ts hs = O at *
      generalize hasB t h = r at *
      simp [g_fits, runB, b_fits, startD, ptT, a, o4, o5, i1, i2, g]
end
/-! ### refused -/
theorem hs_has : ("NoStep" : Str) ∈ hs_WaveError := List.mem_cons_self
theorem isl (t : List (Str × Bool)) (n : Str) (b : Bool) (h : t.lookup n = some b) : isxD t (exD n) = some (.bool b) := by
  rw [isxD_ex]; unfold isxL; rw [h]; rfl
theorem i_ns : isxD tt_NoStep (exD "NoStep") = some (.bool true) := isl _ _ _ (by decide +kernel)
theorem i_ve : isxD tt_ValueError (exD "NoStep") = some (.bool true) := isl _ _ _ (by decide +kernel)
theorem i_tg : isxD tt_TooGreat (exD "NoStep") = some (.bool false) := isl _ _ _ (by decide +kernel)
theorem no_x (O s : D) (h : g_fits [O, s] = some (.bool false)) : g__law_no_step [O, s] = some (.bool true) := by
  have x : x_stepped [O, s] = some ("NoStep" : Str) := by simp [x_stepped, runX, bx_stepped, startD, h]
  simp [g__law_no_step, runB, b__law_no_step, startD, sTry, x, hs_has, i_ns, i_ve, i_tg]

def dw_1 : Sf := sSet 2 (VL.os (oCons (oV 1) (oNil)) g__law_mixed)
def dw_2 : Sf := sSet 3 (o2 (o2 (VL.os (oCons (o2 (oV 0) (oC (.int 5)) ixD) (oNil)) listD) (o2 (oC (.int 1)) (oC (.int 14)) lrng2D) addD) (VL.os (oCons (o2 (oV 1) (o2 (oC (.int 10)) (oC (.int 60)) powD) modD) (oCons (o2 (o1 (oC (.int 1)) negD) (o2 (oV 1) (o2 (oC (.int 10)) (oC (.int 6)) powD) modD) subD) (oNil))) lstD) addD)
def dw_3 : Sf := sSet 4 (o2 (o2 (VL.os (oCons (o2 (oV 0) (oC (.int 4)) ixD) (oNil)) listD) (p1__law_drawn_step) addD) (VL.os (oCons (oC (.int 0)) (oCons (oC (.int 1)) (oCons (o2 (oV 1) (o2 (oC (.int 10)) (oC (.int 60)) powD) modD) (oCons (o2 (o1 (oC (.int 1)) negD) (o2 (oV 1) (o2 (oC (.int 10)) (oC (.int 6)) powD) modD) subD) (oNil))))) lstD) addD)
def dw_4 : Sf := sIf (ob (o2 (o2 (oV 2) (oC (.int 2)) modD) (oC (.int 0)) eqD)) (sRet (VL.os (oCons (oC (.str "away")) (oCons (o2 (oV 3) (o2 (o2 (oV 2) (oC (.int 2)) divD) (VL.os (oCons (oV 3) (oNil)) lenD) modD) ixD) (oNil))) tupD)) (sNx)
def dw_5 : Sf := sRet (VL.os (oCons (oC (.str "put")) (oCons (o2 (oV 4) (o2 (o2 (oV 2) (oC (.int 2)) divD) (VL.os (oCons (oV 4) (oNil)) lenD) modD) ixD) (oCons (o2 (oV 3) (o2 (o2 (oV 2) (oC (.int 62)) divD) (VL.os (oCons (oV 3) (oNil)) lenD) modD) ixD) (oNil)))) tupD)
theorem dw_st : b__law_drawn_step = sSeq dw_1 (sSeq dw_2 (sSeq dw_3 (sSeq dw_4 (dw_5)))) := rfl

/-! ### a step drawn -/
theorem e6 : powD (.int 10) (.int 6) = some (.int 1000000) := rfl
theorem intI {is : List Int} (hn : 0 < is.length) (x : Int) : ∃ b : Int, modD (.int x) (.int (is.length : Int)) = some (.int (x % (is.length : Int))) ∧ atI (is.map PyData.int) (x % (is.length : Int)) = some (.int b) := by
  have h0 : 0 ≤ x % (is.length : Int) := Int.emod_nonneg _ (by omega)
  have h1 : x % (is.length : Int) < is.length := Int.emod_lt_of_pos _ (by omega)
  have hk : (x % (is.length : Int)).toNat < is.length := by omega
  exact ⟨is[(x % (is.length : Int)).toNat], modD_int (by omega), atI_of (j := (x % (is.length : Int)).toNat) (by omega) (by rw [List.getElem?_map, List.getElem?_eq_getElem hk]; rfl)⟩
theorem natsD_i (hs : List Nat) : natsD hs = (hs.map fun h : Nat => ((h : Nat) : Int)).map PyData.int := by unfold natsD; rw [List.map_map]; rfl
theorem lr2 : lrng2D (.int 1) (.int 14) = some (.list ([1, 2, 3, 4, 5, 6, 7, 8, 9, 10, 11, 12, 13].map PyData.int)) := rfl
theorem addI (a b : List Int) (h : a.length + b.length ≤ 100000) : addD (.list (a.map PyData.int)) (.list (b.map PyData.int)) = some (.list ((a ++ b).map PyData.int)) := by
  rw [addD_list (by rw [List.length_map, List.length_map]; omega), List.map_append]
section
variable (w l : Nat) (hv : Int) (c : Nat) (ps : List (Nat × Int)) (ts hs : List Nat)
theorem dw_p1 (hp : ps.length ≤ 1000) (x1 x2 x3 x4 : Sl) : p1__law_drawn_step [.fz (oneD w l hv c ps ts hs), x1, x2, x3, x4] = some (.list ((ps.map fun p => (p.1 : Int)).map PyData.int)) := by
  unfold p1__law_drawn_step
  rw [List.map_map]
  refine comp_map (xs := ps) (h := prD) ?_ (by omega) fun p _ => ?_
  · have : (oI (o2 (oV 0) (oC (.int 3)) ixD) itsD) [.fz (oneD w l hv c ps ts hs), x1, x2, x3, x4] = some (ps.map prD) := rfl
    exact this
  · simp [prD]
theorem dw3 (cell a b : Int) (hh : hs.length ≤ 1000) (ha : cell % 1000000000000000000000000000000000000000000000000000000000000 = a) (hb : -1 - cell % 1000000 = b) (x2 x3 x4 : Sl) : ∃ is : List Int, 0 < is.length ∧ dw_2 [.fz (oneD w l hv c ps ts hs), .fz (.int cell), x2, x3, x4] = some (.nx, [.fz (oneD w l hv c ps ts hs), .fz (.int cell), x2, .fz (.list (is.map .int)), x4]) := by
  have o5 := one_5 w l hv c ps ts hs
  rw [natsD_i] at o5
  have a1 := addI (hs.map fun h : Nat => ((h : Nat) : Int)) [1, 2, 3, 4, 5, 6, 7, 8, 9, 10, 11, 12, 13] (by simp; omega)
  have a2 := addI ((hs.map fun h : Nat => ((h : Nat) : Int)) ++ [1, 2, 3, 4, 5, 6, 7, 8, 9, 10, 11, 12, 13]) [a, b] (by simp; omega)
  have l2 := lr2
  refine ⟨(hs.map fun h : Nat => ((h : Nat) : Int)) ++ [1, 2, 3, 4, 5, 6, 7, 8, 9, 10, 11, 12, 13] ++ [a, b], by simp only [List.length_append, List.length_cons, List.length_nil]; omega, ?_⟩
  · have a2 : addD (.list (((hs.map fun h : Nat => ((h : Nat) : Int)) ++ [1, 2, 3, 4, 5, 6, 7, 8, 9, 10, 11, 12, 13]).map PyData.int)) (.list [.int a, .int b]) = _ := a2
    generalize oneD w l hv c ps ts hs = O at *
    generalize ((hs.map fun h : Nat => ((h : Nat) : Int)) ++ [1, 2, 3, 4, 5, 6, 7, 8, 9, 10, 11, 12, 13]) = A at *
    generalize ((hs.map fun h : Nat => ((h : Nat) : Int)).map PyData.int) = H at *
    generalize ([1, 2, 3, 4, 5, 6, 7, 8, 9, 10, 11, 12, 13].map PyData.int) = R at *
    generalize (A ++ [a, b]) = B at *
    simp only [dw_2, sSet, o2, o1, oV, oC, VL.os, oCons, oNil]
    simp [o5, l2, a1, e60, e6, ha, hb, a2]
theorem dw4 (cell a b : Int) (ht : ts.length ≤ 1000) (hp : ps.length ≤ 1000) (ha : cell % 1000000000000000000000000000000000000000000000000000000000000 = a) (hb : -1 - cell % 1000000 = b) (x2 x3 x4 : Sl) : ∃ is : List Int, 0 < is.length ∧ dw_3 [.fz (oneD w l hv c ps ts hs), .fz (.int cell), x2, x3, x4] = some (.nx, [.fz (oneD w l hv c ps ts hs), .fz (.int cell), x2, x3, .fz (.list (is.map .int))]) := by
  have o4 := one_4 w l hv c ps ts hs
  rw [natsD_i] at o4
  have p := dw_p1 w l hv c ps ts hs hp (.fz (.int cell)) x2 x3 x4
  have a1 := addI (ts.map fun h : Nat => ((h : Nat) : Int)) (ps.map fun p => (p.1 : Int)) (by simp; omega)
  have a2 := addI ((ts.map fun h : Nat => ((h : Nat) : Int)) ++ (ps.map fun p => (p.1 : Int))) [0, 1, a, b] (by simp; omega)
  refine ⟨(ts.map fun h : Nat => ((h : Nat) : Int)) ++ (ps.map fun p => (p.1 : Int)) ++ [0, 1, a, b], by simp only [List.length_append, List.length_cons, List.length_nil]; omega, ?_⟩
  have a2 : addD (.list (((ts.map fun h : Nat => ((h : Nat) : Int)) ++ (ps.map fun p => (p.1 : Int))).map PyData.int)) (.list [.int 0, .int 1, .int a, .int b]) = _ := a2
  generalize oneD w l hv c ps ts hs = O at *
  generalize ((ts.map fun h : Nat => ((h : Nat) : Int)) ++ (ps.map fun p => (p.1 : Int))) = A at *
  generalize ((ts.map fun h : Nat => ((h : Nat) : Int)).map PyData.int) = H at *
  generalize ((ps.map fun p => (p.1 : Int)).map PyData.int) = R at *
  generalize (A ++ [0, 1, a, b]) = B at *
  simp only [dw_3, sSet, o2, o1, oV, oC, VL.os, oCons, oNil]
  simp [o4, p, a1, e60, e6, ha, hb, a2]
theorem dw5y (T : Int) (is js : List Int) (hn : 0 < is.length) (h : T % 2 = 0) (x0 x1 : Sl) : ∃ (b : Int) (δ : Dv), (sSeq dw_4 dw_5) [x0, x1, .fz (.int T), .fz (.list (is.map .int)), .fz (.list (js.map .int))] = some (.rt (awT b), δ) := by
  obtain ⟨b, m, a⟩ := intI hn (T / 2)
  refine ⟨b, [x0, x1, .fz (.int T), .fz (.list (is.map .int)), .fz (.list (js.map .int))], nret ?_⟩
  have ln : lenD [.list (is.map PyData.int)] = some (.int (is.length : Int)) := by rw [lenD_list, List.length_map]
  generalize is.map PyData.int = L at *
  generalize js.map PyData.int = M at *
  generalize (T / 2) % (is.length : Int) = z at *
  generalize (is.length : Int) = n at *
  simp [dw_4, h, ln, m, a, awT, -lenD_list]
theorem dw5n (T : Int) (is js : List Int) (hn : 0 < is.length) (hm : 0 < js.length) (h : ¬ T % 2 = 0) (x0 x1 : Sl) : ∃ (s b : Int) (δ : Dv), (sSeq dw_4 dw_5) [x0, x1, .fz (.int T), .fz (.list (is.map .int)), .fz (.list (js.map .int))] = some (.rt (ptT s b), δ) := by
  obtain ⟨b, m, a⟩ := intI hn (T / 62)
  obtain ⟨s, m', a'⟩ := intI hm (T / 2)
  have ln : lenD [.list (is.map PyData.int)] = some (.int (is.length : Int)) := by rw [lenD_list, List.length_map]
  have ln' : lenD [.list (js.map PyData.int)] = some (.int (js.length : Int)) := by rw [lenD_list, List.length_map]
  refine ⟨s, b, [x0, x1, .fz (.int T), .fz (.list (is.map .int)), .fz (.list (js.map .int))], ?_⟩
  generalize is.map PyData.int = L at *
  generalize js.map PyData.int = M at *
  generalize (T / 62) % (is.length : Int) = z at *
  generalize (T / 2) % (js.length : Int) = z' at *
  generalize (is.length : Int) = n at *
  generalize (js.length : Int) = n' at *
  have s4 : dw_4 [x0, x1, .fz (.int T), .fz (.list L), .fz (.list M)] = some (.nx, [x0, x1, .fz (.int T), .fz (.list L), .fz (.list M)]) := by simp [dw_4, h]
  refine (nseq s4).trans ?_
  simp [dw_5, ln, ln', m, m', a, a', ptT, -lenD_list]
theorem drawn_eq (cell : Int) (ht : ts.length ≤ 1000) (hp : ps.length ≤ 1000) (hh : hs.length ≤ 1000) : ∃ s, g__law_drawn_step [oneD w l hv c ps ts hs, .int cell] = some s ∧ Stp s := by
  obtain ⟨T, hT⟩ := lmixed_eq cell
  obtain ⟨is, hi, s3⟩ := dw3 w l hv c ps ts hs cell _ _ hh rfl rfl (.fz (.int T)) .un .un
  obtain ⟨js, hj, s4⟩ := dw4 w l hv c ps ts hs cell _ _ ht hp rfl rfl (.fz (.int T)) (.fz (.list (is.map .int))) .un
  have s1 : dw_1 [.fz (oneD w l hv c ps ts hs), .fz (.int cell), .un, .un, .un] = some (.nx, [.fz (oneD w l hv c ps ts hs), .fz (.int cell), .fz (.int T), .un, .un]) := by simp [dw_1, hT]
  have go : b__law_drawn_step (startD N__law_drawn_step [oneD w l hv c ps ts hs, .int cell]) = (sSeq dw_4 dw_5) [.fz (oneD w l hv c ps ts hs), .fz (.int cell), .fz (.int T), .fz (.list (is.map .int)), .fz (.list (js.map .int))] := by
    rw [dw_st]
    exact (nseq s1).trans ((nseq s3).trans (nseq s4))
  by_cases h : (T : Int) % 2 = 0
  · obtain ⟨b, δ, e⟩ := dw5y T is js hi h (.fz (oneD w l hv c ps ts hs)) (.fz (.int cell))
    exact ⟨_, nrun rfl (go.trans e), .aw b⟩
  · obtain ⟨s, b, δ, e⟩ := dw5n T is js hi hj h (.fz (oneD w l hv c ps ts hs)) (.fz (.int cell))
    exact ⟨_, nrun rfl (go.trans e), .pt s b⟩
end

theorem cut_map (ns : List Int) (lo hi : Option Int) : ∃ ms : List Int, ms.length ≤ ns.length ∧ slD (.list (ns.map .int)) lo hi = some (.list (ms.map .int)) := by
  refine ⟨(ns.drop (HT.sIx ns.length 0 lo)).take (HT.sIx ns.length ns.length hi - HT.sIx ns.length 0 lo), ?_, ?_⟩
  · rw [List.length_take, List.length_drop]; omega
  · show some (PyData.list (cutD _ _ _)) = _
    unfold cutD
    rw [List.length_map, ← List.map_drop, ← List.map_take]

def lw_1 : Sf := sSet 1 (o2 (VL.os (oCons (oV 0) (oCons (oC (.int 0)) (oNil))) g__law_cell_at) (o2 (oC (.int 10)) (oC (.int 9)) powD) modD)
def lw_2 : Sf := sSet 2 (VL.os (oCons (oV 1) (oCons (oSl (oV 0) (oP (oC (.int 1))) (oP (oC (.int 61)))) (oNil))) g__law_some_sum)
def lw_3 : Sf := sSet 3 (VL.os (oCons (oV 2) (oNil)) g__law_steps)
def lw_4 : Sf := sOwnE 4 (oLi (VL.os (oCons (oV 2) (oNil)) g_steps_of))
def lw_5 : Sf := sIf (oPeek 4 (oNot (ob (VL.os (oCons (oV 4) (oCons (oV 3) (oNil))) g__law_same_steps)))) (sRet (oC (.bool false))) (sNx)
def lw_6 : Sf := sClr 4
def lw_7 : Sf := sFor (oI (o2 (oSl (oV 0) (oP (oC (.int 1))) (oP (oC (.int 61)))) (VL.os (oCons (oC (.int 0)) (oNil)) lstD) addD) itsD) (gN 5) (l1_law)
def lw_8 : Sf := sRet (VL.os (oCons (VL.os (oCons (oV 2) (oNil)) g_steps_of) (oCons (oV 3) (oNil))) g__law_same_steps)
theorem lw_st : b_law = sSeq lw_1 (sSeq lw_2 (sSeq lw_3 (sSeq lw_4 (sSeq lw_5 (sSeq lw_6 (sSeq lw_7 (lw_8))))))) := rfl

/-! ### the law -/
theorem lay_all : ∀ L : List D, (∀ d ∈ L, Stp d) → PyData.canLayAll0 L = true
  | [], _ => rfl
  | d :: r, h => by
    show (PyData.canLay0 d && PyData.canLayAll0 r) = true
    rw [lay_all r fun x hx => h x (List.mem_cons_of_mem _ hx), shp_lay (h d List.mem_cons_self).shp]
    rfl
theorem inG_eq (L : List D) (s : D) (hs : Stp s) (hL : ∀ d ∈ L, Stp d) : inG true s (.list L) = some (.bool (!inL s L)) := by
  show (if shp s = true ∧ PyData.canLayAll0 L = true then some (PyData.bool (if true = true then !inL s L else inL s L)) else none) = _
  rw [if_pos ⟨hs.shp, lay_all L hL⟩, if_pos rfl]
theorem ll_s (O s : D) (L : List D) (cell : Int) (r : Bool) (x0 x1 x4 x6 : Sl) (hd : g__law_drawn_step [O, .int cell] = some s) (hi : inG true s (.list L) = some (.bool (!r))) (hn : r = false → g__law_no_step [O, s] = some (.bool true)) :
    l1_law [x0, x1, .fz O, .fz (.list L), x4, .fz (.int cell), x6] = some (.nx, [x0, x1, .fz O, .fz (.list L), x4, .fz (.int cell), .fz s]) := by
  cases r with
  | true => simp [l1_law, hd, hi]
  | false =>
    have hn := hn rfl
    simp [l1_law, hd, hi, hn]
section
variable {w l : Nat} {hv : Int} {c : Nat} {ps : List (Nat × Int)} {ts hs : List Nat}
theorem ll_eq (S : Sm w l hv c ps ts hs 5) (cell : Int) (x0 x1 x4 x6 : Sl) : ∃ y6, l1_law [x0, x1, .fz (oneD w l hv c ps ts hs), .fz (.list (stp ps ts hs)), x4, .fz (.int cell), x6] = some (.nx, [x0, x1, .fz (oneD w l hv c ps ts hs), .fz (.list (stp ps ts hs)), x4, .fz (.int cell), y6]) := by
  have ht : ts.length ≤ 1000 := by have := S.tl; omega
  have hp : ps.length ≤ 1000 := by have := S.pl; omega
  have hh : hs.length ≤ 1000 := by have := S.hl; omega
  obtain ⟨s, e, hs'⟩ := drawn_eq w l hv c ps ts hs cell ht hp hh
  have fit : g_fits [oneD w l hv c ps ts hs, s] = some (.bool (inL s (stp ps ts hs))) := by
    cases hs' with
    | aw b => exact fits_aw w l hv c ps ts hs b ht hp
    | pt t b => exact fits_pt w l hv c ps ts hs t b
  exact ⟨_, ll_s _ s _ cell (inL s (stp ps ts hs)) x0 x1 x4 x6 e (inG_eq _ s hs' (stp_all ps ts hs)) fun h => no_x _ s (by rw [fit, h])⟩
end
theorem e9 : powD (.int 10) (.int 9) = some (.int 1000000000) := rfl
section
variable (x1 x2 x3 x4 x5 x6 : Sl)
theorem lw1 (Sc : D) (c h : Int) (g : g__law_cell_at [Sc, .int 0] = some (.int c)) (hh : c % 1000000000 = h) : lw_1 [.fz Sc, x1, x2, x3, x4, x5, x6] = some (.nx, [.fz Sc, .fz (.int h), x2, x3, x4, x5, x6]) := by simp [lw_1, g, e9, hh]
theorem lw2 (Sc A H O : D) (s : slD Sc (some 1) (some 61) = some A) (g : g__law_some_sum [H, A] = some O) : lw_2 [.fz Sc, .fz H, x2, x3, x4, x5, x6] = some (.nx, [.fz Sc, .fz H, .fz O, x3, x4, x5, x6]) := by simp [lw_2, s, g]
theorem lw3 (x0 : Sl) (O L : D) (g : g__law_steps [O] = some L) : lw_3 [x0, x1, .fz O, x3, x4, x5, x6] = some (.nx, [x0, x1, .fz O, .fz L, x4, x5, x6]) := by simp [lw_3, g]
theorem lw4 (x0 : Sl) (O : D) (L : List D) (g : g_steps_of [O] = some (.list L)) : lw_4 [x0, x1, .fz O, x3, x4, x5, x6] = some (.nx, [x0, x1, .fz O, x3, .ow L, x5, x6]) := by simp [lw_4, oLi, g, lstI]
theorem lw5 (a b O M : D) (L : List D) (g : g__law_same_steps [.list L, M] = some (.bool true)) : lw_5 [.fz a, .fz b, .fz O, .fz M, .ow L, .un, .un] = some (.nx, [.fz a, .fz b, .fz O, .fz M, .ow L, .un, .un]) := by
  have t : (oPeek 4 (oNot (ob (VL.os (oCons (oV 4) (oCons (oV 3) (oNil))) g__law_same_steps)))) [.fz a, .fz b, .fz O, .fz M, .ow L, .un, .un] = some false := by
    show (if sole 4 [.fz a, .fz b, .fz O, .fz M, .ow L, .un, .un] = true then (oNot (ob (VL.os (oCons (oV 4) (oCons (oV 3) (oNil))) g__law_same_steps))) [.fz a, .fz b, .fz O, .fz M, .fz (.list L), .un, .un] else none) = _
    rw [if_pos (by simp)]
    simp [g]
  exact (sIf_f t).trans rfl
theorem lw6 (x0 : Sl) (L : List D) : lw_6 [x0, x1, x2, x3, .ow L, x5, x6] = some (.nx, [x0, x1, x2, x3, .ow [], x5, x6]) := rfl
theorem lw7 (Sc : D) (A L : List D) (δ : Dv) (s : slD Sc (some 1) (some 61) = some (.list A)) (ha : addD (.list A) (.list [.int 0]) = some (.list L)) (lp : loop (gN 5) l1_law L [.fz Sc, x1, x2, x3, x4, x5, x6] = some (.nx, δ)) : lw_7 [.fz Sc, x1, x2, x3, x4, x5, x6] = some (.nx, δ) := by simp [lw_7, s, ha, lp]
theorem lw8 (x0 : Sl) (O M R : D) (g1 : g_steps_of [O] = some R) (g2 : g__law_same_steps [R, M] = some (.bool true)) : lw_8 [x0, x1, .fz O, .fz M, x4, x5, x6] = some (.rt (.bool true), [x0, x1, .fz O, .fz M, x4, x5, x6]) := by simp [lw_8, g1, g2]
end
theorem flat_len (hs : List Nat) : ∀ us : List Nat, ((us.map (puts hs)).flatten).length ≤ us.length * hs.length
  | [] => by simp
  | t :: us => by
    have := flat_len hs us
    have p := puts_len hs t
    rw [List.map_cons, List.flatten_cons, List.length_append, List.length_cons, Nat.succ_mul]
    omega
theorem stp_len (ps : List (Nat × Int)) (ts hs : List Nat) (h1 : ts.length ≤ 100) (h2 : hs.length ≤ 5) : (stp ps ts hs).length ≤ 1000 := by
  have f := flat_len hs ts
  have g : ((hs.filter fun h => fa ps ts h).map fun h : Nat => awT ((h : Nat) : Int)).length ≤ hs.length := by rw [List.length_map]; exact List.length_filter_le _ _
  have m : ts.length * hs.length ≤ 100 * 5 := Nat.mul_le_mul h1 h2
  unfold stp
  rw [List.length_append]
  omega
theorem law_true (ns : List Int) (hl : ns.length ≤ 63) : g_law [.list (ns.map .int)] = some (.bool true) := by
  obtain ⟨cc, g0⟩ := cell_eq ns 0 (by omega)
  obtain ⟨hd, hh⟩ : ∃ hd : Nat, cc % 1000000000 = hd := ⟨(cc % 1000000000).toNat, by omega⟩
  obtain ⟨ms, ml, hc⟩ := cut_map ns (some 1) (some 61)
  obtain ⟨w, l, hv, c, ps, ts, hs, g1, S, hb⟩ := some_sum_eq hd ms
  have ht : ts.length ≤ 1000 := by have := S.tl; omega
  have hp : ps.length ≤ 1000 := by have := S.pl; omega
  have hhs : hs.length ≤ 1000 := by have := S.hl; omega
  have a1 := law_steps_eq w l hv c ps ts hs ht hp hhs
  have a2 := steps_of_eq w l hv c ps ts hs ht hp hhs
  have a3 := same_steps_eq (stp ps ts hs) (by have := stp_len ps ts hs S.tl S.hl; omega) (stp_all ps ts hs)
  have ad : addD (.list (ms.map .int)) (.list [.int 0]) = some (.list ((ms ++ [0]).map .int)) := by
    rw [addD_list (by rw [List.length_map]; simp; omega), List.map_append]; rfl
  obtain ⟨δ', e, y5, y6, rfl⟩ := loop_nx (g := gN 5) (b := l1_law) (fun δ => ∃ y5 y6 : Sl, δ = [.fz (.list (ns.map .int)), .fz (.int hd), .fz (oneD w l hv c ps ts hs), .fz (.list (stp ps ts hs)), .ow [], y5, y6]) ((ms ++ [0]).map .int) (fun d hdm δ hI => by
    obtain ⟨y5, y6, rfl⟩ := hI
    obtain ⟨cell, _, rfl⟩ := List.mem_map.mp hdm
    obtain ⟨z6, q⟩ := ll_eq S cell (.fz (.list (ns.map .int))) (.fz (.int hd)) (.ow []) y6
    exact ⟨_, rfl, _, q, _, _, rfl⟩) [.fz (.list (ns.map .int)), .fz (.int hd), .fz (oneD w l hv c ps ts hs), .fz (.list (stp ps ts hs)), .ow [], .un, .un] ⟨_, _, rfl⟩
  refine nrun (δ' := [.fz (.list (ns.map .int)), .fz (.int hd), .fz (oneD w l hv c ps ts hs), .fz (.list (stp ps ts hs)), .ow [], y5, y6]) rfl ?_
  rw [lw_st]
  exact (nseq (lw1 _ _ _ _ _ _ _ cc hd g0 hh)).trans ((nseq (lw2 _ _ _ _ _ _ _ _ _ hc g1)).trans ((nseq (lw3 _ _ _ _ _ _ _ _ a1)).trans ((nseq (lw4 _ _ _ _ _ _ _ _ a2)).trans ((nseq (lw5 _ _ _ _ _ a3)).trans ((nseq (lw6 _ _ _ _ _ _ _)).trans ((nseq (lw7 _ _ _ _ _ _ _ _ _ _ hc ad e)).trans (lw8 _ _ _ _ _ _ _ _ a2 a3)))))))

end GN
namespace GN
open PySem PySem.Spec PyProof.Rows L2 VL
structure Txt (mg : Str → Option Value) : Prop where
  any : mg "any" = none
  all : mg "all" = none
  len : mg "len" = none
  isinstance : mg "isinstance" = none
  int : mg "int" = none
  bool : mg "bool" = none
  range : mg "range" = none
  tuple : mg "tuple" = none
  list : mg "list" = none
  sum : mg "sum" = none
  sorted : mg "sorted" = none
  min : mg "min" = none
  ValueError : mg "ValueError" = none
section
variable {P : Program} {w : World} {K : PySem.W.Frag} {mg : Str → Option Value} {base : Heap}
theorem sc_has : FnScope N_has ["bitset", "bit"] (defScope s_has) := ⟨rfl, rfl, rfl, by decide +kernel, rfl, by decide +kernel, by decide +kernel⟩
theorem ok_has {f : Addr} {fd : FuncData} {dV : Value} (F : FunV K "has" "has" s_has f fd dV) (T : Txt mg) : FnOk P w K mg base CX0 1 f fd ["bitset", "bit"] (spD K g_has) :=
  fn_b (k := 0) (b := b_has) F sc_has fun cdv A outer s H E hr => (bv_one (sv_ret (ev_cmp (d_eq hr.units) (ev_op d_and (ev_op d_shr (ev_var 0) (ev_var 1)) ev_int) ev_int (nomark _))))
theorem sc_goes_away : FnScope N_goes_away ["one", "bit"] (defScope s_goes_away) := ⟨rfl, rfl, rfl, by decide +kernel, rfl, by decide +kernel, by decide +kernel⟩
theorem ok_goes_away {f : Addr} {fd : FuncData} {dV : Value} (F : FunV K "goes_away" "goes_away" s_goes_away f fd dV) (T : Txt mg) (C_has : Cal P w K mg base "has" 1 g_has []) : FnOk P w K mg base CX0 2 f fd ["one", "bit"] (spD K g_goes_away) :=
  fn_b (k := 1) (b := b_goes_away) F sc_goes_away fun cdv A outer s H E hr => (bv_cons (sv_if (tv_val (ev_callB (c_any rfl) rfl T.any (by decide +kernel) (av_cons (ev_comp (vars := ["tie"]) (caps := [(1, "bit")]) (by change BlkOk (defScope s_goes_away).names N_goes_away _ _ _; exact ⟨rfl, by decide +kernel, by decide +kernel, by decide +kernel, by decide +kernel⟩) rfl (iv_seq (ev_ix d_ix (ev_var 0) ev_int (fun _ _ => rfl))) tg_one (fun _ _ _ _ => pg_name (i := 0) (show (["tie", "bit"] : List Str).Nodup by decide +kernel) rfl (Or.inl rfl) (.inr rfl)) (fun _ _ _ _ => (ev_def0 C_has (hr.mono (by decide)) rfl (av_cons (ev_var 0) (av_cons (ev_var 1) av_nil))))) av_nil))) (bv_one (sv_ret ev_bl)) bv_nil) (bv_one (sv_ret (ev_callB (c_all rfl) rfl T.all (by decide +kernel) (av_cons (ev_compI (vars := ["pair"]) (caps := [(1, "bit")]) (by change BlkOk (defScope s_goes_away).names N_goes_away _ _ _; exact ⟨rfl, by decide +kernel, by decide +kernel, by decide +kernel, by decide +kernel⟩) rfl (iv_seq (ev_ix d_ix (ev_var 0) ev_int (fun _ _ => rfl))) tg_one (fun _ _ _ _ => pg_name (i := 0) (show (["pair", "bit"] : List Str).Nodup by decide +kernel) rfl (Or.inl rfl) (.inr rfl)) (fun _ _ _ _ => (tv_val (ev_def0 C_has (hr.mono (by decide)) rfl (av_cons (ev_ix d_ix (ev_var 0) ev_int (fun _ _ => rfl)) (av_cons (ev_var 1) av_nil))))) (fun _ _ _ _ => (ev_cmp (d_eq hr.units) (ev_op d_mod (ev_ix d_ix (ev_var 0) ev_int (fun _ _ => rfl)) ev_int) ev_int (nomark _)))) av_nil)))))
theorem sc_steps_of : FnScope N_steps_of ["one"] (defScope s_steps_of) := ⟨rfl, rfl, rfl, by decide +kernel, rfl, by decide +kernel, by decide +kernel⟩
theorem ok_steps_of {f : Addr} {fd : FuncData} {dV : Value} (F : FunV K "steps_of" "steps_of" s_steps_of f fd dV) (T : Txt mg) (C_goes_away : Cal P w K mg base "goes_away" 2 g_goes_away []) (C_has : Cal P w K mg base "has" 1 g_has []) : FnOk P w K mg base CX0 3 f fd ["one"] (spD K g_steps_of) :=
  fn_b (k := 2) (b := b_steps_of) F sc_steps_of fun cdv A outer s H E hr => (bv_cons (sv_compIO 1 sc_steps_of.nd (vars := ["bit"]) (caps := [(0, "one")]) (by change BlkOk (defScope s_steps_of).names N_steps_of _ _ _; exact ⟨rfl, by decide +kernel, by decide +kernel, by decide +kernel, by decide +kernel⟩) rfl (iv_seq (ev_ix d_ix (ev_var 0) ev_int (fun _ _ => rfl))) tg_one (fun _ _ _ _ => pg_name (i := 0) (show (["bit", "one"] : List Str).Nodup by decide +kernel) rfl (Or.inl rfl) (.inr rfl)) (fun _ _ _ _ => (tv_val (ev_def0 C_goes_away (hr.mono (by decide)) rfl (av_cons (ev_var 1) (av_cons (ev_var 0) av_nil))))) (fun _ _ _ _ => (ev_tup (av_cons ev_str (av_cons (ev_var 0) av_nil))))) (bv_cons (sv_for PassesOwn.never rfl (iv_seq (ev_ix d_ix (ev_var 0) ev_int (fun _ _ => rfl))) (gv_name 2 sc_steps_of.nd) (bv_one (sv_extL 1 (ev_compI (vars := ["bit"]) (caps := [(2, "tie")]) (by change BlkOk (defScope s_steps_of).names N_steps_of _ _ _; exact ⟨rfl, by decide +kernel, by decide +kernel, by decide +kernel, by decide +kernel⟩) rfl (iv_seq (ev_ix d_ix (ev_var 0) ev_int (fun _ _ => rfl))) tg_one (fun _ _ _ _ => pg_name (i := 0) (show (["bit", "tie"] : List Str).Nodup by decide +kernel) rfl (Or.inl rfl) (.inr rfl)) (fun _ _ _ _ => (tv_val (ev_def0 C_has (hr.mono (by decide)) rfl (av_cons (ev_var 1) (av_cons (ev_var 0) av_nil))))) (fun _ _ _ _ => (ev_tup (av_cons ev_str (av_cons (ev_var 1) (av_cons (ev_var 0) av_nil))))))))) (bv_one (sv_retO 1))))
theorem oko_steps_of {f : Addr} {fd : FuncData} {dV : Value} (F : FunV K "steps_of" "steps_of" s_steps_of f fd dV) (T : Txt mg) (C_goes_away : Cal P w K mg base "goes_away" 2 g_goes_away []) (C_has : Cal P w K mg base "has" 1 g_has []) : FnOk P w K mg base CX0 3 f fd ["one"] (spO K g_steps_of) :=
  fn_bO (k := 2) F sc_steps_of (fun cdv A outer s H E hr => (bo_cons (sv_compIO 1 sc_steps_of.nd (vars := ["bit"]) (caps := [(0, "one")]) (by change BlkOk (defScope s_steps_of).names N_steps_of _ _ _; exact ⟨rfl, by decide +kernel, by decide +kernel, by decide +kernel, by decide +kernel⟩) rfl (iv_seq (ev_ix d_ix (ev_var 0) ev_int (fun _ _ => rfl))) tg_one (fun _ _ _ _ => pg_name (i := 0) (show (["bit", "one"] : List Str).Nodup by decide +kernel) rfl (Or.inl rfl) (.inr rfl)) (fun _ _ _ _ => (tv_val (ev_def0 C_goes_away (hr.mono (by decide)) rfl (av_cons (ev_var 1) (av_cons (ev_var 0) av_nil))))) (fun _ _ _ _ => (ev_tup (av_cons ev_str (av_cons (ev_var 0) av_nil))))) (nxt_ownE _ _) (bo_cons (sv_for PassesOwn.never rfl (iv_seq (ev_ix d_ix (ev_var 0) ev_int (fun _ _ => rfl))) (gv_name 2 sc_steps_of.nd) (bv_one (sv_extL 1 (ev_compI (vars := ["bit"]) (caps := [(2, "tie")]) (by change BlkOk (defScope s_steps_of).names N_steps_of _ _ _; exact ⟨rfl, by decide +kernel, by decide +kernel, by decide +kernel, by decide +kernel⟩) rfl (iv_seq (ev_ix d_ix (ev_var 0) ev_int (fun _ _ => rfl))) tg_one (fun _ _ _ _ => pg_name (i := 0) (show (["bit", "tie"] : List Str).Nodup by decide +kernel) rfl (Or.inl rfl) (.inr rfl)) (fun _ _ _ _ => (tv_val (ev_def0 C_has (hr.mono (by decide)) rfl (av_cons (ev_var 1) (av_cons (ev_var 0) av_nil))))) (fun _ _ _ _ => (ev_tup (av_cons ev_str (av_cons (ev_var 1) (av_cons (ev_var 0) av_nil))))))))) (nxt_for (show Nxt l1_steps_of from (nxt_extL _ _))) (bo_retV 1)))) (run_O (oe_cons (nxt_ownE _ _) (oe_cons (nxt_for (show Nxt l1_steps_of from (nxt_extL _ _))) (oe_retV 1))))
theorem sc_fits : FnScope N_fits ["one", "step"] (defScope s_fits) := ⟨rfl, rfl, rfl, by decide +kernel, rfl, by decide +kernel, by decide +kernel⟩
theorem ok_fits {f : Addr} {fd : FuncData} {dV : Value} (F : FunV K "fits" "fits" s_fits f fd dV) (T : Txt mg) (C_has : Cal P w K mg base "has" 1 g_has []) (C_goes_away : Cal P w K mg base "goes_away" 2 g_goes_away []) : FnOk P w K mg base CX0 3 f fd ["one", "step"] (spD K g_fits) :=
  fn_b (k := 2) (b := b_fits) F sc_fits fun cdv A outer s H E hr => (bv_cons (sv_if (tv_cmp (d_eq hr.units) (ev_ix d_ix (ev_var 1) ev_int (fun _ _ => rfl)) ev_str (nomark _)) (bv_one (sv_ret (ev_and (ev_cmp d_in (ev_ix d_ix (ev_var 1) ev_int (fun _ _ => rfl)) (ev_ix d_ix (ev_var 0) ev_int (fun _ _ => rfl)) (by with_unfolding_all rfl)) (ev_one (ev_def0 C_goes_away (hr.mono (by decide)) rfl (av_cons (ev_var 0) (av_cons (ev_ix d_ix (ev_var 1) ev_int (fun _ _ => rfl)) av_nil))))))) bv_nil) (bv_one (sv_ret (ev_and (ev_cmp d_in (ev_ix d_ix (ev_var 1) ev_int (fun _ _ => rfl)) (ev_ix d_ix (ev_var 0) ev_int (fun _ _ => rfl)) (by with_unfolding_all rfl)) (ev_and (ev_cmp d_in (ev_ix d_ix (ev_var 1) ev_int (fun _ _ => rfl)) (ev_ix d_ix (ev_var 0) ev_int (fun _ _ => rfl)) (by with_unfolding_all rfl)) (ev_one (ev_def0 C_has (hr.mono (by decide)) rfl (av_cons (ev_ix d_ix (ev_var 1) ev_int (fun _ _ => rfl)) (av_cons (ev_ix d_ix (ev_var 1) ev_int (fun _ _ => rfl)) av_nil)))))))))
theorem sc_stepped : FnScope N_stepped ["one", "step"] (defScope s_stepped) := ⟨rfl, rfl, rfl, by decide +kernel, rfl, by decide +kernel, by decide +kernel⟩
theorem okx_stepped {f : Addr} {fd : FuncData} {dV : Value} (F : FunV K "stepped" "stepped" s_stepped f fd dV) (T : Txt mg) (C_fits : Cal P w K mg base "fits" 3 g_fits []) (E_NoStep : ExcX K "NoStep") : FnOk P w K mg base (CXX P w) 4 f fd ["one", "step"] (spX K x_stepped) :=
  fn_x (k := 3) (fx := bx_stepped) F sc_stepped fun cdv A outer s H E hr => (bx_here (sx_if (TV.lift (tv_not (tv_val (ev_def0 C_fits (hr.mono (by decide)) rfl (av_cons (ev_var 0) (av_cons (ev_var 1) av_nil)))))) (bx_here (sx_raise E_NoStep rfl rfl (EV.lift ev_str))) bx_no))
theorem ok_stepped {f : Addr} {fd : FuncData} {dV : Value} (F : FunV K "stepped" "stepped" s_stepped f fd dV) (T : Txt mg) (C_fits : Cal P w K mg base "fits" 3 g_fits []) : FnOk P w K mg base CX0 4 f fd ["one", "step"] (spD K g_stepped) :=
  fn_b (k := 3) (b := b_stepped) F sc_stepped fun cdv A outer s H E hr => (bv_cons (sv_if (tv_not (tv_val (ev_def0 C_fits (hr.mono (by decide)) rfl (av_cons (ev_var 0) (av_cons (ev_var 1) av_nil))))) (bv_one sv_no) bv_nil) (bv_cons (sv_if (tv_cmp (d_eq hr.units) (ev_ix d_ix (ev_var 1) ev_int (fun _ _ => rfl)) ev_str (nomark _)) (bv_one sv_no) bv_nil) (bv_one sv_no)))
theorem sc__law_cell_at : FnScope N__law_cell_at ["script", "k"] (defScope s__law_cell_at) := ⟨rfl, rfl, rfl, by decide +kernel, rfl, by decide +kernel, by decide +kernel⟩
theorem ok__law_cell_at {f : Addr} {fd : FuncData} {dV : Value} (F : FunV K "_law_cell_at" "_law_cell_at" s__law_cell_at f fd dV) (T : Txt mg) : FnOk P w K mg base CX0 1 f fd ["script", "k"] (spD K g__law_cell_at) :=
  fn_b (k := 0) (b := b__law_cell_at) F sc__law_cell_at fun cdv A outer s H E hr => (bv_cons (sv_if (tv_cmp d_lt (ev_var 1) (ev_callB c_len rfl T.len (by decide +kernel) (av_cons (ev_var 0) av_nil)) (nomark _)) (bv_one (sv_ret (ev_ix d_ix (ev_var 0) (ev_var 1) (fun _ _ => rfl)))) bv_nil) (bv_one (sv_ret ev_int)))
theorem sc__law_mixed : FnScope N__law_mixed ["cell"] (defScope s__law_mixed) := ⟨rfl, rfl, rfl, by decide +kernel, rfl, by decide +kernel, by decide +kernel⟩
theorem ok__law_mixed {f : Addr} {fd : FuncData} {dV : Value} (F : FunV K "_law_mixed" "_law_mixed" s__law_mixed f fd dV) (T : Txt mg) : FnOk P w K mg base CX0 1 f fd ["cell"] (spD K g__law_mixed) :=
  fn_b (k := 0) (b := b__law_mixed) F sc__law_mixed fun cdv A outer s H E hr => (bv_one (sv_ret (ev_op d_mod (ev_op d_add (ev_op d_mulI (ev_op d_mod (ev_var 0) (ev_op d_pow ev_int ev_int)) ev_int) ev_int) ev_int)))
theorem sc__law_whole : FnScope N__law_whole ["found"] (defScope s__law_whole) := ⟨rfl, rfl, rfl, by decide +kernel, rfl, by decide +kernel, by decide +kernel⟩
theorem ok__law_whole {f : Addr} {fd : FuncData} {dV : Value} (F : FunV K "_law_whole" "_law_whole" s__law_whole f fd dV) (T : Txt mg) : FnOk P w K mg base CX0 1 f fd ["found"] (spD K g__law_whole) :=
  fn_b (k := 0) (b := b__law_whole) F sc__law_whole fun cdv A outer s H E hr => (bv_one (sv_ret (ev_and (ev_isi (T := "int") rfl T.isinstance rfl T.int (by decide +kernel) (by decide) (by decide) (ev_var 0)) (ev_one (ev_not (ev_isi (T := "bool") rfl T.isinstance rfl T.bool (by decide +kernel) (by decide) (by decide) (ev_var 0)))))))
theorem sc__law_bits_by : FnScope N__law_bits_by ["head", "cells", "first"] (defScope s__law_bits_by) := ⟨rfl, rfl, rfl, by decide +kernel, rfl, by decide +kernel, by decide +kernel⟩
theorem ok__law_bits_by {f : Addr} {fd : FuncData} {dV : Value} (F : FunV K "_law_bits_by" "_law_bits_by" s__law_bits_by f fd dV) (T : Txt mg) (C__law_cell_at : Cal P w K mg base "_law_cell_at" 1 g__law_cell_at []) : FnOk P w K mg base CX0 2 f fd ["head", "cells", "first"] (spD K g__law_bits_by) :=
  fn_b (k := 1) (b := b__law_bits_by) F sc__law_bits_by fun cdv A outer s H E hr => (bv_cons (sv_own 3 sc__law_bits_by.nd av_nil) (bv_cons (sv_set 4 sc__law_bits_by.nd (ev_op d_sub (ev_var 2) ev_int)) (bv_cons (sv_for PassesOwn.never rfl (iv_range1 rfl T.range (av_cons (ev_op d_mod (ev_op d_div (ev_var 0) ev_int) ev_int) av_nil)) (gv_name 5 sc__law_bits_by.nd) (bv_cons (sv_set 4 sc__law_bits_by.nd (ev_op d_add (ev_op d_add (ev_var 4) ev_int) (ev_op d_mod (ev_def0 C__law_cell_at (hr.mono (by decide)) rfl (av_cons (ev_var 1) (av_cons (ev_var 5) av_nil))) (ev_ix d_ix (ev_lst (av_cons ev_int (av_cons ev_int (av_cons ev_int (av_cons ev_int av_nil))))) (ev_op d_mod (ev_op d_div (ev_var 0) ev_int) ev_int) (fun _ _ => rfl))))) (bv_one (sv_app 3 (ev_var 4))))) (bv_one (sv_fz 3 (sv_ret (ev_var 3)))))))
theorem sc__law_some_sum : FnScope N__law_some_sum ["head", "cells"] (defScope s__law_some_sum) := ⟨rfl, rfl, rfl, by decide +kernel, rfl, by decide +kernel, by decide +kernel⟩
theorem ok__law_some_sum {f : Addr} {fd : FuncData} {dV : Value} (F : FunV K "_law_some_sum" "_law_some_sum" s__law_some_sum f fd dV) (T : Txt mg) (C__law_bits_by : Cal P w K mg base "_law_bits_by" 2 g__law_bits_by []) (C__law_mixed : Cal P w K mg base "_law_mixed" 1 g__law_mixed []) : FnOk P w K mg base CX0 3 f fd ["head", "cells"] (spD K g__law_some_sum) :=
  fn_b (k := 2) (b := b__law_some_sum) F sc__law_some_sum fun cdv A outer s H E hr => (bv_cons (sv_set 2 sc__law_some_sum.nd (ev_op d_add ev_int (ev_op d_mod (ev_var 0) ev_int))) (bv_cons (sv_set 3 sc__law_some_sum.nd (ev_op d_mod (ev_op d_div (ev_var 0) ev_int) ev_int)) (bv_cons (sv_set 4 sc__law_some_sum.nd (ev_def0 C__law_bits_by (hr.mono (by decide)) rfl (av_cons (ev_var 0) (av_cons (ev_var 1) (av_cons (ev_op d_add (ev_op d_add (ev_op d_mulI ev_int (ev_var 2)) ev_int) (ev_var 3)) av_nil))))) (bv_cons (sv_set 5 sc__law_some_sum.nd (ev_op d_add (ev_lrng rfl T.list rfl T.range (ev_op d_add (ev_op d_add (ev_op d_mulI ev_int (ev_var 2)) ev_int) (ev_var 3))) (ev_var 4))) (bv_cons (sv_dnew 6 sc__law_some_sum.nd) (bv_cons (sv_dnew 7 sc__law_some_sum.nd) (bv_cons (sv_for PassesOwn.never rfl (iv_seq (ev_var 1)) (gv_name 8 sc__law_some_sum.nd) (bv_cons (sv_set 9 sc__law_some_sum.nd (ev_def0 C__law_mixed (hr.mono (by decide)) rfl (av_cons (ev_var 8) av_nil))) (bv_cons (sv_set 10 sc__law_some_sum.nd (ev_callB (c_sum rfl) rfl T.sum (by decide +kernel) (av_cons (ev_compI (vars := ["k"]) (caps := [(5, "allowed"), (9, "turn")]) (by change BlkOk (defScope s__law_some_sum).names N__law_some_sum _ _ _; exact ⟨rfl, by decide +kernel, by decide +kernel, by decide +kernel, by decide +kernel⟩) rfl (iv_range1 rfl T.range (av_cons (ev_callB c_len rfl T.len (by decide +kernel) (av_cons (ev_var 5) av_nil)) av_nil)) tg_one (fun _ _ _ _ => pg_name (i := 0) (show (["k", "allowed", "turn"] : List Str).Nodup by decide +kernel) rfl (Or.inl rfl) (.inr rfl)) (fun _ _ _ _ => (tv_cmp (d_eq hr.units) (ev_op d_mod (ev_op d_shr (ev_var 2) (ev_op d_add (ev_var 0) ev_int)) ev_int) ev_int (nomark _))) (fun _ _ _ _ => (ev_op d_shl ev_int (ev_ix d_ix (ev_var 1) (ev_var 0) (fun _ _ => rfl))))) av_nil))) (bv_one (sv_if (WV.tv (wv_and (tv_cmp (d_eq hr.units) (ev_op d_mod (ev_var 9) ev_int) ev_int (nomark _)) (wv_and (tv_cmp d_lt (ev_dlen 7 rfl T.len) ev_int (nomark _)) (wv_and1 (tv_cmp d_gt (ev_var 10) ev_int (nomark _)))))) (bv_one (sv_dput 7 (un1 hr.units) (ev_var 10) ev_bl)) (bv_one (sv_if (WV.tv (wv_and (tv_cmp (d_ne hr.units) (ev_op d_mod (ev_var 9) ev_int) ev_int (nomark _)) (wv_and (tv_cmp d_gt (ev_var 10) ev_int (nomark _)) (wv_and1 (tv_cmp d_lt (ev_dlen 6 rfl T.len) ev_int (nomark _)))))) (bv_one (sv_dput 6 (un1 hr.units) (ev_op d_sub (ev_var 10) (ev_op d_mod (ev_var 10) ev_int)) (ev_ix d_ix (ev_lst (av_cons (ev_op d_add ev_int (ev_op d_mod (ev_op d_div (ev_var 9) ev_int) ev_int)) (av_cons (ev_op d_add ev_int (ev_op d_mulI ev_int (ev_op d_mod (ev_op d_div (ev_var 9) ev_int) ev_int))) av_nil))) (ev_callB (c_min rfl) rfl T.min (by decide +kernel) (av_cons ev_int (av_cons (ev_op d_mod (ev_op d_div (ev_var 0) ev_int) ev_int) av_nil))) (fun _ _ => rfl)))) bv_nil))))))) (bv_cons (sv_set 11 sc__law_some_sum.nd (ev_op d_sub (ev_op d_mod (ev_op d_div (ev_var 0) ev_int) ev_int) ev_int)) (bv_cons (sv_if (tv_cmp (d_eq hr.units) (ev_op d_mod (ev_op d_div (ev_var 0) ev_int) ev_int) ev_int (nomark _)) (bv_one (sv_set 11 sc__law_some_sum.nd (ev_op d_sub (ev_op d_mod (ev_op d_div (ev_var 0) ev_int) ev_int) ev_int))) bv_nil) (bv_cons (sv_fzD 6 (sv_set 12 sc__law_some_sum.nd (ev_callTy c_tuple rfl T.tuple (by decide +kernel) (av_cons (ev_comp (vars := ["bitset"]) (caps := [(6, "turns")]) (by change BlkOk (defScope s__law_some_sum).names N__law_some_sum _ _ _; exact ⟨rfl, by decide +kernel, by decide +kernel, by decide +kernel, by decide +kernel⟩) rfl (iv_seq (ev_dsortF rfl T.sorted (ev_var 6))) tg_one (fun _ _ _ _ => pg_name (i := 0) (show (["bitset", "turns"] : List Str).Nodup by decide +kernel) rfl (Or.inl rfl) (.inr rfl)) (fun _ _ _ _ => (ev_tup (av_cons (ev_var 0) (av_cons (ev_dgetF (un1 hr.units) (ev_var 1) (ev_var 0) (fun _ _ => rfl)) av_nil))))) av_nil)))) (bv_one (sv_ret (ev_tup (av_cons (ev_tup (av_cons (ev_var 2) (av_cons (ev_var 3) av_nil))) (av_cons (ev_var 11) (av_cons (ev_op d_mod (ev_op d_div (ev_var 0) ev_int) ev_int) (av_cons (ev_var 12) (av_cons (ev_callTy c_tuple rfl T.tuple (by decide +kernel) (av_cons (ev_dsort 7 rfl T.sorted) av_nil)) (av_cons (ev_callTy c_tuple rfl T.tuple (by decide +kernel) (av_cons (ev_var 4) av_nil)) av_nil)))))))))))))))))))
theorem sc__law_fits_away : FnScope N__law_fits_away ["one", "bit"] (defScope s__law_fits_away) := ⟨rfl, rfl, rfl, by decide +kernel, rfl, by decide +kernel, by decide +kernel⟩
theorem ok__law_fits_away {f : Addr} {fd : FuncData} {dV : Value} (F : FunV K "_law_fits_away" "_law_fits_away" s__law_fits_away f fd dV) (T : Txt mg) : FnOk P w K mg base CX0 1 f fd ["one", "bit"] (spD K g__law_fits_away) :=
  fn_b (k := 0) (b := b__law_fits_away) F sc__law_fits_away fun cdv A outer s H E hr => (bv_cons (sv_for PassesOwn.never rfl (iv_seq (ev_ix d_ix (ev_var 0) ev_int (fun _ _ => rfl))) (gv_name 2 sc__law_fits_away.nd) (bv_one (sv_if (tv_cmp (d_eq hr.units) (ev_op d_mod (ev_op d_shr (ev_var 2) (ev_var 1)) ev_int) ev_int (nomark _)) (bv_one (sv_ret ev_bl)) bv_nil))) (bv_one (sv_ret (ev_cmp (d_eq hr.units) (ev_callB c_len rfl T.len (by decide +kernel) (av_cons (ev_compI (vars := ["pair"]) (caps := [(1, "bit")]) (by change BlkOk (defScope s__law_fits_away).names N__law_fits_away _ _ _; exact ⟨rfl, by decide +kernel, by decide +kernel, by decide +kernel, by decide +kernel⟩) rfl (iv_seq (ev_ix d_ix (ev_var 0) ev_int (fun _ _ => rfl))) tg_one (fun _ _ _ _ => pg_name (i := 0) (show (["pair", "bit"] : List Str).Nodup by decide +kernel) rfl (Or.inl rfl) (.inr rfl)) (fun _ _ _ _ => (WV.tv (wv_and (tv_cmp (d_eq hr.units) (ev_op d_mod (ev_op d_shr (ev_ix d_ix (ev_var 0) ev_int (fun _ _ => rfl)) (ev_var 1)) ev_int) ev_int (nomark _)) (wv_and1 (tv_cmp (d_eq hr.units) (ev_op d_mod (ev_ix d_ix (ev_var 0) ev_int (fun _ _ => rfl)) ev_int) ev_int (nomark _)))))) (fun _ _ _ _ => (ev_var 0))) av_nil)) ev_int (nomark _)))))
theorem sc__law_steps : FnScope N__law_steps ["one"] (defScope s__law_steps) := ⟨rfl, rfl, rfl, by decide +kernel, rfl, by decide +kernel, by decide +kernel⟩
theorem ok__law_steps {f : Addr} {fd : FuncData} {dV : Value} (F : FunV K "_law_steps" "_law_steps" s__law_steps f fd dV) (T : Txt mg) (C__law_fits_away : Cal P w K mg base "_law_fits_away" 1 g__law_fits_away []) : FnOk P w K mg base CX0 2 f fd ["one"] (spD K g__law_steps) :=
  fn_b (k := 1) (b := b__law_steps) F sc__law_steps fun cdv A outer s H E hr => (bv_cons (sv_compI 1 sc__law_steps.nd (vars := ["bit"]) (caps := [(0, "one")]) (by change BlkOk (defScope s__law_steps).names N__law_steps _ _ _; exact ⟨rfl, by decide +kernel, by decide +kernel, by decide +kernel, by decide +kernel⟩) rfl (iv_seq (ev_ix d_ix (ev_var 0) ev_int (fun _ _ => rfl))) tg_one (fun _ _ _ _ => pg_name (i := 0) (show (["bit", "one"] : List Str).Nodup by decide +kernel) rfl (Or.inl rfl) (.inr rfl)) (fun _ _ _ _ => (tv_val (ev_def0 C__law_fits_away (hr.mono (by decide)) rfl (av_cons (ev_var 1) (av_cons (ev_var 0) av_nil))))) (fun _ _ _ _ => (ev_tup (av_cons ev_str (av_cons (ev_var 0) av_nil))))) (bv_cons (sv_for PassesOwn.never rfl (iv_seq (ev_ix d_ix (ev_var 0) ev_int (fun _ _ => rfl))) (gv_name 2 sc__law_steps.nd) (bv_one (sv_set 1 sc__law_steps.nd (ev_op d_add (ev_var 1) (ev_compI (vars := ["bit"]) (caps := [(2, "tie")]) (by change BlkOk (defScope s__law_steps).names N__law_steps _ _ _; exact ⟨rfl, by decide +kernel, by decide +kernel, by decide +kernel, by decide +kernel⟩) rfl (iv_seq (ev_ix d_ix (ev_var 0) ev_int (fun _ _ => rfl))) tg_one (fun _ _ _ _ => pg_name (i := 0) (show (["bit", "tie"] : List Str).Nodup by decide +kernel) rfl (Or.inl rfl) (.inr rfl)) (fun _ _ _ _ => (tv_cmp (d_eq hr.units) (ev_op d_mod (ev_op d_shr (ev_var 1) (ev_var 0)) ev_int) ev_int (nomark _))) (fun _ _ _ _ => (ev_tup (av_cons ev_str (av_cons (ev_var 1) (av_cons (ev_var 0) av_nil)))))))))) (bv_one (sv_ret (ev_var 1)))))
theorem sc__law_no_step : FnScope N__law_no_step ["one", "step"] (defScope s__law_no_step) := ⟨rfl, rfl, rfl, by decide +kernel, rfl, by decide +kernel, by decide +kernel⟩
theorem ok__law_no_step {f : Addr} {fd : FuncData} {dV : Value} (F : FunV K "_law_no_step" "_law_no_step" s__law_no_step f fd dV) (T : Txt mg) (C_stepped : Cal P w K mg base "stepped" 4 g_stepped []) (Y_stepped : CalX P w K mg base "stepped" 4 x_stepped []) (I_TooGreat : IsX K "TooGreat" tt_TooGreat) (I_ValueError : IsT K "ValueError" tt_ValueError) (I_NoStep : IsX K "NoStep" tt_NoStep) (H_WaveError : Hnd K "WaveError" hs_WaveError) : FnOk P w K mg base CX0 5 f fd ["one", "step"] (spD K g__law_no_step) :=
  fn_b (k := 4) (b := b__law_no_step) F sc__law_no_step fun cdv A outer s H E hr => (bv_cons (sv_set 2 sc__law_no_step.nd ev_bl) (bv_cons (sv_try 3 H_WaveError rfl sc__law_no_step.nd rfl rfl rfl rfl (bv_one (sv_expr (ev_def0 C_stepped (hr.mono (by decide)) rfl (av_cons (ev_var 0) (av_cons (ev_var 1) av_nil))))) (fun _ _ => (bx_here (sx_expr (ex_def Y_stepped (hr.mono (by decide)) rfl (AV.lift (av_cons (ev_var 0) (av_cons (ev_var 1) av_nil))))))) (fun _ => (bv_one (sv_set 2 sc__law_no_step.nd (ev_and (ev_isx I_NoStep rfl T.isinstance rfl (ev_var 3)) (ev_and (ev_isxT I_ValueError rfl T.isinstance rfl T.ValueError (ev_var 3)) (ev_one (ev_not (ev_isx I_TooGreat rfl T.isinstance rfl (ev_var 3)))))))))) (bv_one (sv_ret (ev_var 2)))))
theorem sc__law_drawn_step : FnScope N__law_drawn_step ["one", "cell"] (defScope s__law_drawn_step) := ⟨rfl, rfl, rfl, by decide +kernel, rfl, by decide +kernel, by decide +kernel⟩
theorem ok__law_drawn_step {f : Addr} {fd : FuncData} {dV : Value} (F : FunV K "_law_drawn_step" "_law_drawn_step" s__law_drawn_step f fd dV) (T : Txt mg) (C__law_mixed : Cal P w K mg base "_law_mixed" 1 g__law_mixed []) : FnOk P w K mg base CX0 2 f fd ["one", "cell"] (spD K g__law_drawn_step) :=
  fn_b (k := 1) (b := b__law_drawn_step) F sc__law_drawn_step fun cdv A outer s H E hr => (bv_cons (sv_set 2 sc__law_drawn_step.nd (ev_def0 C__law_mixed (hr.mono (by decide)) rfl (av_cons (ev_var 1) av_nil))) (bv_cons (sv_set 3 sc__law_drawn_step.nd (ev_op d_add (ev_op d_add (ev_callTy c_list rfl T.list (by decide +kernel) (av_cons (ev_ix d_ix (ev_var 0) ev_int (fun _ _ => rfl)) av_nil)) (ev_lrng2 rfl T.list rfl T.range ev_int ev_int)) (ev_lst (av_cons (ev_op d_mod (ev_var 1) (ev_op d_pow ev_int ev_int)) (av_cons (ev_op d_sub (ev_un d_neg ev_int) (ev_op d_mod (ev_var 1) (ev_op d_pow ev_int ev_int))) av_nil))))) (bv_cons (sv_set 4 sc__law_drawn_step.nd (ev_op d_add (ev_op d_add (ev_callTy c_list rfl T.list (by decide +kernel) (av_cons (ev_ix d_ix (ev_var 0) ev_int (fun _ _ => rfl)) av_nil)) (ev_comp (vars := ["pair"]) (caps := []) (by change BlkOk (defScope s__law_drawn_step).names N__law_drawn_step _ _ _; exact ⟨rfl, by decide +kernel, by decide +kernel, by decide +kernel, by decide +kernel⟩) rfl (iv_seq (ev_ix d_ix (ev_var 0) ev_int (fun _ _ => rfl))) tg_one (fun _ _ _ _ => pg_name (i := 0) (show (["pair"] : List Str).Nodup by decide +kernel) rfl (Or.inl rfl) (.inr rfl)) (fun _ _ _ _ => (ev_ix d_ix (ev_var 0) ev_int (fun _ _ => rfl))))) (ev_lst (av_cons ev_int (av_cons ev_int (av_cons (ev_op d_mod (ev_var 1) (ev_op d_pow ev_int ev_int)) (av_cons (ev_op d_sub (ev_un d_neg ev_int) (ev_op d_mod (ev_var 1) (ev_op d_pow ev_int ev_int))) av_nil))))))) (bv_cons (sv_if (tv_cmp (d_eq hr.units) (ev_op d_mod (ev_var 2) ev_int) ev_int (nomark _)) (bv_one (sv_ret (ev_tup (av_cons ev_str (av_cons (ev_ix d_ix (ev_var 3) (ev_op d_mod (ev_op d_div (ev_var 2) ev_int) (ev_callB c_len rfl T.len (by decide +kernel) (av_cons (ev_var 3) av_nil))) (fun _ _ => rfl)) av_nil))))) bv_nil) (bv_one (sv_ret (ev_tup (av_cons ev_str (av_cons (ev_ix d_ix (ev_var 4) (ev_op d_mod (ev_op d_div (ev_var 2) ev_int) (ev_callB c_len rfl T.len (by decide +kernel) (av_cons (ev_var 4) av_nil))) (fun _ _ => rfl)) (av_cons (ev_ix d_ix (ev_var 3) (ev_op d_mod (ev_op d_div (ev_var 2) ev_int) (ev_callB c_len rfl T.len (by decide +kernel) (av_cons (ev_var 3) av_nil))) (fun _ _ => rfl)) av_nil))))))))))
theorem sc__law_same_steps : FnScope N__law_same_steps ["found", "due"] (defScope s__law_same_steps) := ⟨rfl, rfl, rfl, by decide +kernel, rfl, by decide +kernel, by decide +kernel⟩
theorem ok__law_same_steps {f : Addr} {fd : FuncData} {dV : Value} (F : FunV K "_law_same_steps" "_law_same_steps" s__law_same_steps f fd dV) (T : Txt mg) (C__law_whole : Cal P w K mg base "_law_whole" 1 g__law_whole []) : FnOk P w K mg base CX0 2 f fd ["found", "due"] (spD K g__law_same_steps) :=
  fn_b (k := 1) (b := b__law_same_steps) F sc__law_same_steps fun cdv A outer s H E hr => (bv_cons (sv_if (WV.tv (wv_or (tv_not (tv_val (ev_isi (T := "list") rfl T.isinstance rfl T.list (by decide +kernel) (by decide) (by decide) (ev_var 0)))) (wv_or1 (tv_cmp (d_ne hr.units) (ev_callB c_len rfl T.len (by decide +kernel) (av_cons (ev_var 0) av_nil)) (ev_callB c_len rfl T.len (by decide +kernel) (av_cons (ev_var 1) av_nil)) (nomark _))))) (bv_one (sv_ret ev_bl)) bv_nil) (bv_cons (sv_for PassesOwn.never rfl (iv_range1 rfl T.range (av_cons (ev_callB c_len rfl T.len (by decide +kernel) (av_cons (ev_var 1) av_nil)) av_nil)) (gv_name 2 sc__law_same_steps.nd) (bv_cons (sv_if (WV.tv (wv_or (tv_not (tv_val (ev_isi (T := "tuple") rfl T.isinstance rfl T.tuple (by decide +kernel) (by decide) (by decide) (ev_ix d_ix (ev_var 0) (ev_var 2) (fun _ _ => rfl))))) (wv_or1 (tv_cmp (d_ne hr.units) (ev_ix d_ix (ev_var 0) (ev_var 2) (fun _ _ => rfl)) (ev_ix d_ix (ev_var 1) (ev_var 2) (fun _ _ => rfl)) (nomark _))))) (bv_one (sv_ret ev_bl)) bv_nil) (bv_one (sv_if (tv_cmp d_gt (ev_callB c_len rfl T.len (by decide +kernel) (av_cons (ev_compI (vars := ["part"]) (caps := []) (by change BlkOk (defScope s__law_same_steps).names N__law_same_steps _ _ _; exact ⟨rfl, by decide +kernel, by decide +kernel, by decide +kernel, by decide +kernel⟩) rfl (iv_seq (ev_slice (ev_ix d_ix (ev_var 0) (ev_var 2) (fun _ _ => rfl)) (ov_some ev_int) ov_none)) tg_one (fun _ _ _ _ => pg_name (i := 0) (show (["part"] : List Str).Nodup by decide +kernel) rfl (Or.inl rfl) (.inr rfl)) (fun _ _ _ _ => (tv_not (tv_val (ev_def0 C__law_whole (hr.mono (by decide)) rfl (av_cons (ev_var 0) av_nil))))) (fun _ _ _ _ => (ev_var 0))) av_nil)) ev_int (nomark _)) (bv_one (sv_ret ev_bl)) bv_nil)))) (bv_one (sv_ret ev_bl))))
theorem sc_law : FnScope N_law ["script"] (defScope s_law) := ⟨rfl, rfl, rfl, by decide +kernel, rfl, by decide +kernel, by decide +kernel⟩
theorem ok_law {f : Addr} {fd : FuncData} {dV : Value} (F : FunV K "law" "law" s_law f fd dV) (T : Txt mg) (C__law_some_sum : Cal P w K mg base "_law_some_sum" 3 g__law_some_sum []) (C__law_steps : Cal P w K mg base "_law_steps" 2 g__law_steps []) (C_steps_of : Cal P w K mg base "steps_of" 3 g_steps_of []) (C__law_same_steps : Cal P w K mg base "_law_same_steps" 2 g__law_same_steps []) (C__law_cell_at : Cal P w K mg base "_law_cell_at" 1 g__law_cell_at []) (C__law_drawn_step : Cal P w K mg base "_law_drawn_step" 2 g__law_drawn_step []) (C__law_no_step : Cal P w K mg base "_law_no_step" 5 g__law_no_step []) (O_steps_of : CalO P w K mg base "steps_of" 3 g_steps_of []) : FnOk P w K mg base CX0 6 f fd ["script"] (spD K g_law) :=
  fn_b (k := 5) (b := b_law) F sc_law fun cdv A outer s H E hr => (bv_cons (sv_set 1 sc_law.nd (ev_op d_mod (ev_def0 C__law_cell_at (hr.mono (by decide)) rfl (av_cons (ev_var 0) (av_cons ev_int av_nil))) (ev_op d_pow ev_int ev_int))) (bv_cons (sv_set 2 sc_law.nd (ev_def0 C__law_some_sum (hr.mono (by decide)) rfl (av_cons (ev_var 1) (av_cons (ev_slice (ev_var 0) (ov_some ev_int) (ov_some ev_int)) av_nil)))) (bv_cons (sv_set 3 sc_law.nd (ev_def0 C__law_steps (hr.mono (by decide)) rfl (av_cons (ev_var 2) av_nil))) (bv_cons (sv_ownE 4 sc_law.nd (eo_def0 O_steps_of (hr.mono (by decide)) rfl (av_cons (ev_var 2) av_nil))) (bv_cons (sv_if (tv_peek 4 (tv_not (tv_val (ev_def0 C__law_same_steps (hr.mono (by decide)) rfl (av_cons (ev_var 4) (av_cons (ev_var 3) av_nil)))))) (bv_one (sv_ret ev_bl)) bv_nil) (bv_cons (sv_clear 4) (bv_cons (sv_for PassesOwn.never rfl (iv_seq (ev_op d_add (ev_slice (ev_var 0) (ov_some ev_int) (ov_some ev_int)) (ev_lst (av_cons ev_int av_nil)))) (gv_name 5 sc_law.nd) (bv_cons (sv_set 6 sc_law.nd (ev_def0 C__law_drawn_step (hr.mono (by decide)) rfl (av_cons (ev_var 2) (av_cons (ev_var 5) av_nil)))) (bv_one (sv_if (WV.tv (wv_and (tv_cmp (d_notinG (un65 hr)) (ev_var 6) (ev_var 3) (by with_unfolding_all rfl)) (wv_and1 (tv_not (tv_val (ev_def0 C__law_no_step (hr.mono (by decide)) rfl (av_cons (ev_var 2) (av_cons (ev_var 6) av_nil)))))))) (bv_one (sv_ret ev_bl)) bv_nil)))) (bv_one (sv_ret (ev_def0 C__law_same_steps (hr.mono (by decide)) rfl (av_cons (ev_def0 C_steps_of (hr.mono (by decide)) rfl (av_cons (ev_var 2) av_nil)) (av_cons (ev_var 3) av_nil))))))))))))
end

theorem bd_has : BindsAs "has" s_has ["bitset", "bit"] := fun _ _ _ _ _ _ us hl => by obtain ⟨_, _, rfl⟩ := len2 hl; exact rfl
theorem bd_goes_away : BindsAs "goes_away" s_goes_away ["one", "bit"] := fun _ _ _ _ _ _ us hl => by obtain ⟨_, _, rfl⟩ := len2 hl; exact rfl
theorem bd_steps_of : BindsAs "steps_of" s_steps_of ["one"] := fun _ _ _ _ _ _ us hl => by obtain ⟨_, rfl⟩ := len1 hl; exact rfl
theorem bd_fits : BindsAs "fits" s_fits ["one", "step"] := fun _ _ _ _ _ _ us hl => by obtain ⟨_, _, rfl⟩ := len2 hl; exact rfl
theorem bd_stepped : BindsAs "stepped" s_stepped ["one", "step"] := fun _ _ _ _ _ _ us hl => by obtain ⟨_, _, rfl⟩ := len2 hl; exact rfl
theorem bd__law_cell_at : BindsAs "_law_cell_at" s__law_cell_at ["script", "k"] := fun _ _ _ _ _ _ us hl => by obtain ⟨_, _, rfl⟩ := len2 hl; exact rfl
theorem bd__law_mixed : BindsAs "_law_mixed" s__law_mixed ["cell"] := fun _ _ _ _ _ _ us hl => by obtain ⟨_, rfl⟩ := len1 hl; exact rfl
theorem bd__law_whole : BindsAs "_law_whole" s__law_whole ["found"] := fun _ _ _ _ _ _ us hl => by obtain ⟨_, rfl⟩ := len1 hl; exact rfl
theorem bd__law_bits_by : BindsAs "_law_bits_by" s__law_bits_by ["head", "cells", "first"] := fun _ _ _ _ _ _ us hl => by obtain ⟨_, _, _, rfl⟩ := len3 hl; exact rfl
theorem bd__law_some_sum : BindsAs "_law_some_sum" s__law_some_sum ["head", "cells"] := fun _ _ _ _ _ _ us hl => by obtain ⟨_, _, rfl⟩ := len2 hl; exact rfl
theorem bd__law_fits_away : BindsAs "_law_fits_away" s__law_fits_away ["one", "bit"] := fun _ _ _ _ _ _ us hl => by obtain ⟨_, _, rfl⟩ := len2 hl; exact rfl
theorem bd__law_steps : BindsAs "_law_steps" s__law_steps ["one"] := fun _ _ _ _ _ _ us hl => by obtain ⟨_, rfl⟩ := len1 hl; exact rfl
theorem bd__law_no_step : BindsAs "_law_no_step" s__law_no_step ["one", "step"] := fun _ _ _ _ _ _ us hl => by obtain ⟨_, _, rfl⟩ := len2 hl; exact rfl
theorem bd__law_drawn_step : BindsAs "_law_drawn_step" s__law_drawn_step ["one", "cell"] := fun _ _ _ _ _ _ us hl => by obtain ⟨_, _, rfl⟩ := len2 hl; exact rfl
theorem bd__law_same_steps : BindsAs "_law_same_steps" s__law_same_steps ["found", "due"] := fun _ _ _ _ _ _ us hl => by obtain ⟨_, _, rfl⟩ := len2 hl; exact rfl
theorem all_mk {l : PySem.W.OpenLaw} {w : World} {K : PySem.W.Frag} {h : Heap} {mg : Str → Option Value} {fa f15 xc_TooGreat xc_NoStep xc_WaveError : Addr} {od15 an15 : Option Addr} {sl15 : Array (Option Value)} {oc15 kV15 dc15 pm15 cd15 ct15 : Value} (X : K.In h) (G : h.Ns mainGlobals mg) (hfa : mg "law" = some (.ref fa))
    (D0 : DefIn K "has" "has" s_has)
    (D1 : DefIn K "goes_away" "goes_away" s_goes_away)
    (D2 : DefIn K "steps_of" "steps_of" s_steps_of)
    (D3 : DefIn K "fits" "fits" s_fits)
    (D4 : DefIn K "stepped" "stepped" s_stepped)
    (D5 : DefIn K "_law_cell_at" "_law_cell_at" s__law_cell_at)
    (D6 : DefIn K "_law_mixed" "_law_mixed" s__law_mixed)
    (D7 : DefIn K "_law_whole" "_law_whole" s__law_whole)
    (D8 : DefIn K "_law_bits_by" "_law_bits_by" s__law_bits_by)
    (D9 : DefIn K "_law_some_sum" "_law_some_sum" s__law_some_sum)
    (D10 : DefIn K "_law_fits_away" "_law_fits_away" s__law_fits_away)
    (D11 : DefIn K "_law_steps" "_law_steps" s__law_steps)
    (D12 : DefIn K "_law_no_step" "_law_no_step" s__law_no_step)
    (D13 : DefIn K "_law_drawn_step" "_law_drawn_step" s__law_drawn_step)
    (D14 : DefIn K "_law_same_steps" "_law_same_steps" s__law_same_steps)
    (a15 : PySem.W.nsIn K mainGlobals "law" = some (some (.ref f15))) (l15 : K.lookup f15 = some ⟨oc15, od15, .func (PySem.W.fnOf "law" "law" (defArgs s_law) (defBody s_law) (defScope s_law) .none kV15 dc15 pm15 an15 cd15 ct15), sl15⟩) (c15 : PySem.W.codeIn K cd15 "law" = true) (k15 : PySem.W.keepIn K (.ref f15) = true)
    (z_any : PySem.W.nsIn K mainGlobals "any" = some none)
    (z_all : PySem.W.nsIn K mainGlobals "all" = some none)
    (z_len : PySem.W.nsIn K mainGlobals "len" = some none)
    (z_isinstance : PySem.W.nsIn K mainGlobals "isinstance" = some none)
    (z_int : PySem.W.nsIn K mainGlobals "int" = some none)
    (z_bool : PySem.W.nsIn K mainGlobals "bool" = some none)
    (z_range : PySem.W.nsIn K mainGlobals "range" = some none)
    (z_tuple : PySem.W.nsIn K mainGlobals "tuple" = some none)
    (z_list : PySem.W.nsIn K mainGlobals "list" = some none)
    (z_sum : PySem.W.nsIn K mainGlobals "sum" = some none)
    (z_sorted : PySem.W.nsIn K mainGlobals "sorted" = some none)
    (z_min : PySem.W.nsIn K mainGlobals "min" = some none)
    (z_ValueError : PySem.W.nsIn K mainGlobals "ValueError" = some none)
    (xn_TooGreat : PySem.W.nsIn K mainGlobals "TooGreat" = some (some (.ref xc_TooGreat)))
    (xn_NoStep : PySem.W.nsIn K mainGlobals "NoStep" = some (some (.ref xc_NoStep)))
    (xn_WaveError : PySem.W.nsIn K mainGlobals "WaveError" = some (some (.ref xc_WaveError)))
    (xe_NoStep : PySem.W.excIn K xc_NoStep [.type "ValueError", .type "Exception", .type "BaseException", .type "object"] "ValueError.__new__" = true)
    (xe_WaveError : PySem.W.excIn K xc_WaveError [.type "ValueError", .type "Exception", .type "BaseException", .type "object"] "ValueError.__new__" = true)
    (xga_NoStep : PySem.W.findIn K (.ref xc_NoStep) "__getattribute__" = some (some (.builtin "BaseException.__getattribute__")))
    (xgt_NoStep : PySem.W.findIn K (.ref xc_NoStep) "__getattr__" = some none)
    (xcl_NoStep : PySem.W.findIn K (.ref xc_NoStep) "__class__" = some (some (.builtin "object.__class__")))
    (xmo_NoStep : PySem.W.mroIn K xc_NoStep (.type "object") = some true)
    (xbe_NoStep : PySem.W.mroIn K xc_NoStep (.type "BaseException") = some true)
    (xk_NoStep_TooGreat : PySem.W.kitOne K (.ref xc_NoStep) (.ref xc_TooGreat) = some false)
    (xk_NoStep_ValueError : PySem.W.kitOne K (.ref xc_NoStep) (.type "ValueError") = some true)
    (xk_NoStep_NoStep : PySem.W.kitOne K (.ref xc_NoStep) (.ref xc_NoStep) = some true)
    (xs_NoStep_WaveError : PySem.W.subIn K (.ref xc_NoStep) (.ref xc_WaveError) = some true)
    : ∃ fd : FuncData, (∀ (s : Shared) (v : Value), BindsTo s fd ⟨[v], []⟩ [("script", v)]) ∧ ∀ base : Heap, K.In base → base.Ns mainGlobals mg → FnOk l.prog w K mg base CX0 6 fa fd ["script"] (spLaw K) := by
  have e := hfa.symm.trans (PySem.W.mg_of X G a15)
  cases e
  have T : Txt mg := ⟨PySem.W.mg_none_of X G z_any, PySem.W.mg_none_of X G z_all, PySem.W.mg_none_of X G z_len, PySem.W.mg_none_of X G z_isinstance, PySem.W.mg_none_of X G z_int, PySem.W.mg_none_of X G z_bool, PySem.W.mg_none_of X G z_range, PySem.W.mg_none_of X G z_tuple, PySem.W.mg_none_of X G z_list, PySem.W.mg_none_of X G z_sum, PySem.W.mg_none_of X G z_sorted, PySem.W.mg_none_of X G z_min, PySem.W.mg_none_of X G z_ValueError⟩
  have F15 := funV_mk (st := s_law) l15 c15 k15
  have F_NoStep : ExcC K "NoStep" xc_NoStep := ⟨xn_NoStep, xe_NoStep, xga_NoStep, xgt_NoStep, xcl_NoStep, xmo_NoStep, xbe_NoStep⟩
  have E_NoStep : ExcX K "NoStep" := ⟨⟨_, F_NoStep⟩⟩
  have I_TooGreat : IsX K "TooGreat" tt_TooGreat := (.cons F_NoStep xn_TooGreat xk_NoStep_TooGreat .nil)
  have I_ValueError : IsT K "ValueError" tt_ValueError := (.cons F_NoStep xk_NoStep_ValueError .nil)
  have I_NoStep : IsX K "NoStep" tt_NoStep := (.cons F_NoStep xn_NoStep xk_NoStep_NoStep .nil)
  have H_WaveError : Hnd K "WaveError" hs_WaveError := ⟨⟨_, xn_WaveError, xe_WaveError, (.cons F_NoStep xs_NoStep_WaveError .nil)⟩⟩
  refine ⟨PySem.W.fnOf "law" "law" (defArgs s_law) (defBody s_law) (defScope s_law) .none kV15 dc15 pm15 an15 cd15 ct15, fun s v => .of_eq rfl, fun base _ _ => ?_⟩
  have C_has : Cal l.prog w K mg base "has" 1 g_has [] := D0.cal X G bd_has fun _ _ F => ok_has F T
  have C_goes_away : Cal l.prog w K mg base "goes_away" 2 g_goes_away [] := D1.cal X G bd_goes_away fun _ _ F => ok_goes_away F T C_has
  have O_steps_of : CalO l.prog w K mg base "steps_of" 3 g_steps_of [] := D2.calO X G bd_steps_of fun _ _ F => oko_steps_of F T C_goes_away C_has
  have C_steps_of : Cal l.prog w K mg base "steps_of" 3 g_steps_of [] := D2.cal X G bd_steps_of fun _ _ F => ok_steps_of F T C_goes_away C_has
  have C_fits : Cal l.prog w K mg base "fits" 3 g_fits [] := D3.cal X G bd_fits fun _ _ F => ok_fits F T C_has C_goes_away
  have Y_stepped : CalX l.prog w K mg base "stepped" 4 x_stepped [] := D4.calX X G bd_stepped fun _ _ F => okx_stepped F T C_fits E_NoStep
  have C_stepped : Cal l.prog w K mg base "stepped" 4 g_stepped [] := D4.cal X G bd_stepped fun _ _ F => ok_stepped F T C_fits
  have C__law_cell_at : Cal l.prog w K mg base "_law_cell_at" 1 g__law_cell_at [] := D5.cal X G bd__law_cell_at fun _ _ F => ok__law_cell_at F T
  have C__law_mixed : Cal l.prog w K mg base "_law_mixed" 1 g__law_mixed [] := D6.cal X G bd__law_mixed fun _ _ F => ok__law_mixed F T
  have C__law_whole : Cal l.prog w K mg base "_law_whole" 1 g__law_whole [] := D7.cal X G bd__law_whole fun _ _ F => ok__law_whole F T
  have C__law_bits_by : Cal l.prog w K mg base "_law_bits_by" 2 g__law_bits_by [] := D8.cal X G bd__law_bits_by fun _ _ F => ok__law_bits_by F T C__law_cell_at
  have C__law_some_sum : Cal l.prog w K mg base "_law_some_sum" 3 g__law_some_sum [] := D9.cal X G bd__law_some_sum fun _ _ F => ok__law_some_sum F T C__law_bits_by C__law_mixed
  have C__law_fits_away : Cal l.prog w K mg base "_law_fits_away" 1 g__law_fits_away [] := D10.cal X G bd__law_fits_away fun _ _ F => ok__law_fits_away F T
  have C__law_steps : Cal l.prog w K mg base "_law_steps" 2 g__law_steps [] := D11.cal X G bd__law_steps fun _ _ F => ok__law_steps F T C__law_fits_away
  have C__law_no_step : Cal l.prog w K mg base "_law_no_step" 5 g__law_no_step [] := D12.cal X G bd__law_no_step fun _ _ F => ok__law_no_step F T C_stepped Y_stepped I_TooGreat I_ValueError I_NoStep H_WaveError
  have C__law_drawn_step : Cal l.prog w K mg base "_law_drawn_step" 2 g__law_drawn_step [] := D13.cal X G bd__law_drawn_step fun _ _ F => ok__law_drawn_step F T C__law_mixed
  have C__law_same_steps : Cal l.prog w K mg base "_law_same_steps" 2 g__law_same_steps [] := D14.cal X G bd__law_same_steps fun _ _ F => ok__law_same_steps F T C__law_whole
  have O15 : FnOk l.prog w K mg base CX0 6 _ _ _ (spD K g_law) := ok_law F15 T C__law_some_sum C__law_steps C_steps_of C__law_same_steps C__law_cell_at C__law_drawn_step C__law_no_step O_steps_of
  exact law_v O15 fun ns hl => law_true ns hl

end GN
open PySem PySem.W PyProof.Rows
set_option maxRecDepth 1000000 in
set_option maxHeartbeats 0 in
theorem PySem.Challenge.cw_wavewires_k36_steps_that_fit_holds : PySem.Challenge.rw_wavewires_k36_steps_that_fit.Holds := by
  refine topT ?_
  k_fill
  refine VL.walkV (k := 6) (l := PySem.Challenge.rw_wavewires_k36_steps_that_fit) rfl ⟨rfl, by decide, by decide⟩ rfl (fun w h Y => PySem.W.kIn_of Y) ?F
  case F =>
    intro w mg fa h KX G hmg
    refine' GN.all_mk KX G hmg (VL.DefIn.mk ?a0 ?l0 ?c0 ?k0) (VL.DefIn.mk ?a1 ?l1 ?c1 ?k1) (VL.DefIn.mk ?a2 ?l2 ?c2 ?k2) (VL.DefIn.mk ?a3 ?l3 ?c3 ?k3) (VL.DefIn.mk ?a4 ?l4 ?c4 ?k4) (VL.DefIn.mk ?a5 ?l5 ?c5 ?k5) (VL.DefIn.mk ?a6 ?l6 ?c6 ?k6) (VL.DefIn.mk ?a7 ?l7 ?c7 ?k7) (VL.DefIn.mk ?a8 ?l8 ?c8 ?k8) (VL.DefIn.mk ?a9 ?l9 ?c9 ?k9) (VL.DefIn.mk ?a10 ?l10 ?c10 ?k10) (VL.DefIn.mk ?a11 ?l11 ?c11 ?k11) (VL.DefIn.mk ?a12 ?l12 ?c12 ?k12) (VL.DefIn.mk ?a13 ?l13 ?c13 ?k13) (VL.DefIn.mk ?a14 ?l14 ?c14 ?k14) ?a15 ?l15 ?c15 ?k15 ?z_any ?z_all ?z_len ?z_isinstance ?z_int ?z_bool ?z_range ?z_tuple ?z_list ?z_sum ?z_sorted ?z_min ?z_ValueError ?xn_TooGreat ?xn_NoStep ?xn_WaveError ?xe_NoStep ?xe_WaveError ?xga_NoStep ?xgt_NoStep ?xcl_NoStep ?xmo_NoStep ?xbe_NoStep ?xk_NoStep_TooGreat ?xk_NoStep_ValueError ?xk_NoStep_NoStep ?xs_NoStep_WaveError
    (case a0 => k_is)
    (case l0 => k_is)
    (case c0 => k_is)
    (case k0 => k_is)
    (case a1 => k_is)
    (case l1 => k_is)
    (case c1 => k_is)
    (case k1 => k_is)
    (case a2 => k_is)
    (case l2 => k_is)
    (case c2 => k_is)
    (case k2 => k_is)
    (case a3 => k_is)
    (case l3 => k_is)
    (case c3 => k_is)
    (case k3 => k_is)
    (case a4 => k_is)
    (case l4 => k_is)
    (case c4 => k_is)
    (case k4 => k_is)
    (case a5 => k_is)
    (case l5 => k_is)
    (case c5 => k_is)
    (case k5 => k_is)
    (case a6 => k_is)
    (case l6 => k_is)
    (case c6 => k_is)
    (case k6 => k_is)
    (case a7 => k_is)
    (case l7 => k_is)
    (case c7 => k_is)
    (case k7 => k_is)
    (case a8 => k_is)
    (case l8 => k_is)
    (case c8 => k_is)
    (case k8 => k_is)
    (case a9 => k_is)
    (case l9 => k_is)
    (case c9 => k_is)
    (case k9 => k_is)
    (case a10 => k_is)
    (case l10 => k_is)
    (case c10 => k_is)
    (case k10 => k_is)
    (case a11 => k_is)
    (case l11 => k_is)
    (case c11 => k_is)
    (case k11 => k_is)
    (case a12 => k_is)
    (case l12 => k_is)
    (case c12 => k_is)
    (case k12 => k_is)
    (case a13 => k_is)
    (case l13 => k_is)
    (case c13 => k_is)
    (case k13 => k_is)
    (case a14 => k_is)
    (case l14 => k_is)
    (case c14 => k_is)
    (case k14 => k_is)
    (case a15 => k_is)
    (case l15 => k_is)
    (case c15 => k_is)
    (case k15 => k_is)
    (case z_any => k_is)
    (case z_all => k_is)
    (case z_len => k_is)
    (case z_isinstance => k_is)
    (case z_int => k_is)
    (case z_bool => k_is)
    (case z_range => k_is)
    (case z_tuple => k_is)
    (case z_list => k_is)
    (case z_sum => k_is)
    (case z_sorted => k_is)
    (case z_min => k_is)
    (case z_ValueError => k_is)
    (case xn_TooGreat => k_is)
    (case xn_NoStep => k_is)
    (case xn_WaveError => k_is)
    (case xe_NoStep => k_exc)
    (case xe_WaveError => k_exc)
    (case xga_NoStep => k_is)
    (case xgt_NoStep => k_is)
    (case xcl_NoStep => k_is)
    (case xmo_NoStep => k_is)
    (case xbe_NoStep => k_is)
    (case xk_NoStep_TooGreat => kit_is)
    (case xk_NoStep_ValueError => kit_is)
    (case xk_NoStep_NoStep => kit_is)
    (case xs_NoStep_WaveError => k_is)
