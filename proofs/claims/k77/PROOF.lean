import PyProof.Rows.All
import Wide.All
import OpenK.AllK
import Wide.FinOn
import Lean
import PyProof.EqAt
import PyProof.EqKinds
import PyProof.TupleCall
import PySem.Challenge.RW_wavewires_k77_whole_side_by_side
section TopS
set_option Elab.async false
set_option linter.all false
open PySem PySem.W PyProof.Rows
def viewQ : Program := view PySem.Challenge.rw_wavewires_k77_whole_side_by_side.prog [1, 2, 4, 5, 6, 7, 10, 11, 12, 13, 14, 15, 18, 19, 20, 21, 22, 24, 26, 27, 28, 29, 30, 31, 33, 34, 35, 36, 37, 38, 39, 41, 42, 43, 45, 46, 47, 48, 49, 50, 53, 56, 57, 58, 59, 60, 61, 62]
local macro_rules
  | `(tactic| o_head $H) => do
    let hw := Lean.mkIdent `hw
    let hc := Lean.mkIdent `hc
    `(tactic| refine holds_open (q := viewQ) (loose := ["number", "parts_over_ring", "share", "parts_over_shares", "beginning", "branches", "mark_shares", "marks_told"]) (Xt := fun s => xlAt viewQ [] s && recOk (RowW.records (OpenRow.toRowW PySem.Challenge.rw_wavewires_k77_whole_side_by_side.row)) s) (XP := XL viewQ []) (Yf := Hook.obs $H) (Ya := Hook.val $H) (YP := Hook.says $H) (N := 6000) (fun w => by (unfold openEnds fencedOpening topFrom; rw [Fast.te10274390034422433532, Fast.te14082659384304107361, Fast.te1435165496053646825, Fast.te14289696077712309145, Fast.te14364793385576792824, Fast.te4187177175401517315, Fast.te5923862056798008813]; kernel_rfl)) (Hook.of $H) (Hook.keeps $H) (fun s e => xl_of s (Bool.and_eq_true_iff.mp e).1) XL.keeps (by rfl) (by rfl) (by rfl) (fun s e => recFacts_of (Bool.and_eq_true_iff.mp e).2) (by rfl) (by first | assumption | decide +kernel) (by decide +kernel) ⟨rfl, rfl, rfl, rfl, rfl, by decide +kernel⟩ ?$hw ?$hc)
set_option maxRecDepth 1000000 in
set_option maxHeartbeats 0 in
open_top topT for PySem.Challenge.rw_wavewires_k77_whole_side_by_side
end TopS

set_option Elab.async false
set_option linter.all false
set_option maxRecDepth 100000
/-! THE HAND LAYER, for ints, bools, texts, own classes, LISTS and tuples (index, slices, in, append, pop ..), calls, loops. Paste it whole ahead of your own text; what your proof does not reach may be deleted. -/
namespace L2
open PySem PySem.Spec PyProof.Rows

/-- a key: an int or a str -/
abbrev Key := Sum Int Str
def keyIs : Key → Value → Bool
  | .inl k, v => Value.isInt k v
  | .inr x, v => Value.isStrOf x v
def keyH (w : World) : Key → Int
  | .inl k => hashInt k
  | .inr x => hashStr w x
theorem keyIs_shape : ∀ {k : Key} {v : Value}, keyIs k v = true → (∃ i t, k = Sum.inl i ∧ v = Value.int i t) ∨ (∃ x t, k = Sum.inr x ∧ v = Value.str x t)
  | .inl i, v, h => by
    obtain ⟨t, e⟩ := Value.isInt_shape (k := i) (v := v) h
    exact .inl ⟨i, t, rfl, e⟩
  | .inr x, v, h => by
    obtain ⟨t, e⟩ := Value.isStrOf_shape (x := x) (v := v) h
    exact .inr ⟨x, t, rfl, e⟩
theorem key_ll (a b : Int) : decide ((Sum.inl a : Key) = Sum.inl b) = (a == b) := by
  by_cases e : a = b
  · subst e; simp
  · have h : ¬ (Sum.inl a : Key) = Sum.inl b := fun q => e (Sum.inl.inj q)
    rw [decide_eq_false h]
    exact (beq_eq_false_iff_ne.mpr e).symm
theorem key_rr (a b : Str) : decide ((Sum.inr a : Key) = Sum.inr b) = decide (a = b) := by
  by_cases e : a = b
  · subst e; simp
  · have h : ¬ (Sum.inr a : Key) = Sum.inr b := fun q => e (Sum.inr.inj q)
    rw [decide_eq_false h, decide_eq_false e]
theorem key_lr (a : Int) (b : Str) : decide ((Sum.inl a : Key) = Sum.inr b) = false := decide_eq_false (fun q => nomatch q)
theorem key_rl (a : Str) (b : Int) : decide ((Sum.inr a : Key) = Sum.inl b) = false := decide_eq_false (fun q => nomatch q)

def mixKind (prog : Program) (w : World) : PySem.KeyKind prog w Key where
  is := keyIs
  hash := keyH w
  inj := fun v a b ha hb => by
    rcases keyIs_shape ha with ⟨i, t, rfl, rfl⟩ | ⟨x, t, rfl, rfl⟩
    · rcases keyIs_shape hb with ⟨j, u, rfl, e⟩ | ⟨y, u, rfl, e⟩
      · injection e with e1 _; rw [e1]
      · exact nomatch e
    · rcases keyIs_shape hb with ⟨j, u, rfl, e⟩ | ⟨y, u, rfl, e⟩
      · exact nomatch e
      · injection e with e1 _; rw [e1]
  byValue := fun k v h => by
    rcases keyIs_shape h with ⟨i, t, rfl, rfl⟩ | ⟨x, t, rfl, rfl⟩ <;> rfl
  pyHash := fun hv h => by
    rcases keyIs_shape hv with ⟨i, t, rfl, rfl⟩ | ⟨x, t, rfl, rfl⟩
    · exact wpAny_pyHash_int h
    · exact wpAny_pyHash_str h
  eqBool := fun hu hv h => by
    rcases keyIs_shape hu with ⟨i, t, rfl, rfl⟩ | ⟨x, t, rfl, rfl⟩
    · rcases keyIs_shape hv with ⟨j, u, rfl, rfl⟩ | ⟨y, u, rfl, rfl⟩
      · rw [key_ll] at h; exact wpAny_eqBool_int h
      · rw [key_lr] at h; exact SeqAt.EqAt.int_str i t y u _ _ _ _ h
    · rcases keyIs_shape hv with ⟨j, u, rfl, rfl⟩ | ⟨y, u, rfl, rfl⟩
      · rw [key_rl] at h; exact SeqAt.EqAt.str_int x t j u _ _ _ _ h
      · rw [key_rr] at h; exact wpAny_eqBool_str h
  «strs» := fun k x t v h => by
    rcases keyIs_shape h with ⟨i, u, rfl, e⟩ | ⟨y, u, rfl, e⟩
    · exact nomatch e
    · injection e with e1 _
      subst e1
      cases v <;> rfl

end L2

namespace L2
open PySem PySem.Spec PyProof.Rows

/-- a value, without the heap -/
inductive V where
  | non | bl (b : Bool) | int (i : Int) | str (x : Str) | byt (b : Array UInt8) | flt (b : UInt64) | ref (a : Addr) | ty (n : String)
  deriving DecidableEq

def RelV : V → Value → Prop
  | .non, u => u = Value.none
  | .bl b, u => u = Value.bool b
  | .int i, u => ∃ t, u = Value.int i t
  | .str x, u => ∃ t, u = Value.str x t
  | .byt b, u => ∃ t, u = Value.bytes b t
  | .flt b, u => ∃ t, u = Value.float b t
  | .ref a, u => u = Value.ref a
  | .ty n, u => u = Value.type n

abbrev Vals : List V → List Value → Prop := Paired RelV
theorem Vals.length {xs : List V} {us : List Value} (r : Vals xs us) : xs.length = us.length := Paired.length r
theorem Vals.get : ∀ {xs : List V} {us : List Value} {i : Nat} {x : V}, Vals xs us → xs[i]? = some x → ∃ u, us[i]? = some u ∧ RelV x u
  | _, _, _, _, .nil, e => by simp at e
  | _, _, 0, _, .cons r _, e => by simp at e; subst e; exact ⟨_, rfl, r⟩
  | _, _, i + 1, x, .cons _ t, e => by
    obtain ⟨u, h1, h2⟩ := Vals.get (i := i) (x := x) t (by simpa using e)
    exact ⟨u, by simpa using h1, h2⟩
theorem Vals.set {x : V} {u : Value} (r : RelV x u) : ∀ {xs : List V} {us : List Value} (i : Nat), Vals xs us → Vals (xs.set i x) (us.set i u)
  | _, _, _, .nil => .nil
  | _, _, 0, .cons _ t => .cons r t
  | _, _, i + 1, .cons q t => .cons q (Vals.set r i t)
theorem Vals.append : ∀ {xs ys : List V} {us ws : List Value}, Vals xs us → Vals ys ws → Vals (xs ++ ys) (us ++ ws)
  | _, _, _, _, .nil, s => s
  | _, _, _, _, .cons r t, s => .cons r (Vals.append t s)
theorem Vals.take : ∀ {xs : List V} {us : List Value} (n : Nat), Vals xs us → Vals (xs.take n) (us.take n)
  | _, _, 0, _ => .nil
  | _, _, _ + 1, .nil => .nil
  | _, _, n + 1, .cons r t => .cons r (Vals.take n t)
theorem Vals.drop : ∀ {xs : List V} {us : List Value} (n : Nat), Vals xs us → Vals (xs.drop n) (us.drop n)
  | _, _, 0, r => r
  | _, _, _ + 1, .nil => .nil
  | _, _, n + 1, .cons _ t => Vals.drop n t
def RelO : Option V → Option Value → Prop
  | some v, some u => RelV v u
  | none, none => True
  | _, _ => False
def KV {κ : Type} : List (κ × V) → List (κ × Value) → Prop := Paired fun (p : κ × V) (q : κ × Value) => p.1 = q.1 ∧ RelV p.2 q.2

/-- a key of a dict (00_mix): an int or a text -/
def kV : Key → V
  | .inl i => .int i
  | .inr x => .str x

/-- what stands at a tracked address -/
inductive HO where
  /-- a list -/
  | lst (xs : List V)
  /-- a tuple (never changes) -/
  | tup (xs : List V)
  /-- a dict whose keys are ints and texts; one whose keys are tuples of ints and texts (the empty one is both) -/
  | dK (kvs : List (Key × V)) | dT (kvs : List (List Key × V))
  /-- a set of ints: its members, its size -/
  | set (S : Int → Bool) (n : Nat)
  /-- an instance of the class at C, its dict at dx, its attributes -/
  | ins (C dx : Addr) (fs : List (Str × V))
  /-- the dict of the instance at x -/
  | own (x : Addr)
  /-- the dict of an exception -/
  | xd (fs : List (Str × V))
  /-- a bound method, f of x -/
  | met (f x : Addr)
  /-- a range object lo, lo + 1, .. below hi -/
  | rng (lo hi : Int)
  /-- a thing that is known to the object (the script; a dict while a loop walks it): read, never written while it is so -/
  | frz (o : Obj) (u : HO)
  /-- a code object's table -/
  | tbl (ps : Array Value)
  /-- any other thing, by what is true of its one object (a def of one's own: SetO a S n := HO.ext fun h => ..) -/
  | ext (φ : Heap → Prop)

abbrev Hp := Addr → Option HO
def upd (H : Hp) (a : Addr) (o : HO) : Hp := fun b => if b = a then some o else H b
theorem upd_same {H : Hp} {a : Addr} {o : HO} : upd H a o a = some o := by unfold upd; rw [if_pos rfl]
theorem upd_ne {H : Hp} {a b : Addr} {o : HO} (h : b ≠ a) : upd H a o b = H b := by unfold upd; rw [if_neg h]
theorem ne_of_none {H : Hp} {a b : Addr} {o : HO} (h : H a = some o) (h' : H b = none) : a ≠ b := by
  intro e; subst e; rw [h] at h'; cases h'

section
variable (P : Program) (w : World)
def ObjOk (H : Hp) (h : Heap) (a : Addr) : HO → Prop
  | .lst xs => xs.length ≤ sizeLine ∧ ∃ (its : List Value) (n : Nat), Vals xs its ∧ h.get? a = some { cls := .type "list", data := .seq its.toArray n }
  | .tup xs => xs.length ≤ sizeLine ∧ ∃ its : List Value, Vals xs its ∧ IsTup h a its.toArray
  | .dK kvs => kvs.length ≤ sizeLine ∧ (a == sysModules) = false ∧ ∃ vs, KV kvs vs ∧ h.DictOf (mixKind P w) a vs
  | .dT kvs => kvs.length ≤ sizeLine ∧ (a == sysModules) = false ∧ ∃ xs : List (List Key × Addr × Value),
      Paired (fun (p : List Key × V) (q : List Key × Addr × Value) => p.1 = q.1 ∧ H q.2.1 = some (.tup (p.1.map kV)) ∧ RelV p.2 q.2.2) kvs xs ∧
      ∃ o es ep, h.get? a = some o ∧ o.ExactDict ∧ o.data = .dict es ep ∧ es.toList = xs.map (entryOfKey (tupleKind (mixKind P w))) ∧ (xs.map (·.1)).Nodup
  | .set S n => h.SetOf (intKind P w) a S n
  | .ins C dx fs => H dx = some (.own a) ∧ fs.length ≤ 1000 ∧ dx ≠ a ∧ h.get? a = some (PySem.W.instObj C dx) ∧
      ∃ mA, h.Ns1 dx mA ∧ (∀ f, RelO (fs.lookup f) (mA f)) ∧ PySem.Within mA (fs.map (·.1))
  | .own _ => ∃ o, h.get? a = some o
  | .xd fs => ∃ mA, h.Ns1 a mA ∧ ∀ f, RelO (fs.lookup f) (mA f)
  | .rng lo hi => ∃ t u v, h.get? a = some { cls := .type "range", data := .fields #[.int lo t, .int hi u, .int 1 v] }
  | .frz o u => h.get? a = some o ∧ ObjOk H h a u
  | .tbl ps => h.get? a = some { cls := .none, data := .fields ps }
  | .met f x => h.get? a = some (PySem.W.methodObj (.ref f) (.ref x))
  | .ext φ => φ h ∧ (∃ o, h.get? a = some o) ∧ ∀ h1 h2 : Heap, φ h1 → (∀ o, h1.get? a = some o → h2.get? a = some o) → φ h2
/-- the abstract heap is held -/
def HOk (H : Hp) (h : Heap) : Prop := ∀ a o, H a = some o → ObjOk P w H h a o
end

section
variable {P : Program} {w : World} {H H' : Hp} {h h' : Heap} {a : Addr} {o : HO}
theorem ObjOk.lt (x : ObjOk P w H h a o) : a < h.objs.size := by
  cases o with
  | lst xs => obtain ⟨_, _, _, _, e⟩ := x; exact Heap.lt_size e
  | tup xs => obtain ⟨_, _, _, p⟩ := x; exact p.lt
  | dK kvs => obtain ⟨_, _, _, _, o, _, _, e, _⟩ := x; exact Heap.lt_size e
  | dT kvs => obtain ⟨_, _, _, _, o, _, _, e, _⟩ := x; exact Heap.lt_size e
  | set S n => obtain ⟨o, _, _, _, e, _⟩ := x; exact Heap.lt_size e
  | ins C dx fs => obtain ⟨_, _, _, e, _⟩ := x; exact Heap.lt_size e
  | own y => obtain ⟨_, e⟩ := x; exact Heap.lt_size e
  | xd fs => obtain ⟨_, ⟨_, _, _, e, _⟩, _⟩ := x; exact Heap.lt_size e
  | rng lo hi => obtain ⟨_, _, _, e⟩ := x; exact Heap.lt_size e
  | frz ob u => obtain ⟨e, _⟩ := x; exact Heap.lt_size e
  | tbl ps => exact Heap.lt_size (show h.get? a = some _ from x)
  | met f y => exact Heap.lt_size (show h.get? a = some _ from x)
  | ext φ => obtain ⟨_, ⟨_, e⟩, _⟩ := x; exact Heap.lt_size e
theorem Paired.mapP {α β : Type} {F G : α → β → Prop} : ∀ {l₁ : List α} {l₂ : List β}, Paired F l₁ l₂ → (∀ a b, F a b → G a b) → Paired G l₁ l₂
  | _, _, .nil, _ => .nil
  | _, _, .cons r t, f => .cons (f _ _ r) (Paired.mapP t f)
/-- what an object's description leans on: its own object, its own dict, the tuples -/
theorem ObjOk.stay (x : ObjOk P w H h a o) (k : ∀ b u, (b = a ∨ H b = some (.own a)) → h.get? b = some u → h'.get? b = some u)
    (ho : ∀ b, H b = some (.own a) → H' b = some (.own a)) (ht : ∀ b xs, H b = some (.tup xs) → H' b = some (.tup xs)) : ObjOk P w H' h' a o := by
  induction o with
  | lst xs => obtain ⟨z, its, n, r, e⟩ := x; exact ⟨z, its, n, r, k _ _ (.inl rfl) e⟩
  | tup xs => obtain ⟨z, its, r, ob, e, c⟩ := x; exact ⟨z, its, r, ob, k _ _ (.inl rfl) e, c⟩
  | dK kvs => obtain ⟨z, y, vs, r, ob, es, ep, e, c⟩ := x; exact ⟨z, y, vs, r, ob, es, ep, k _ _ (.inl rfl) e, c⟩
  | dT kvs =>
    obtain ⟨z, y, xs, r, ob, es, ep, e, c⟩ := x
    exact ⟨z, y, xs, Paired.mapP r fun p q z => ⟨z.1, ht _ _ z.2.1, z.2.2⟩, ob, es, ep, k _ _ (.inl rfl) e, c⟩
  | set S n => obtain ⟨ob, es, ep, t, e, c⟩ := x; exact ⟨ob, es, ep, t, k _ _ (.inl rfl) e, c⟩
  | ins C dx fs =>
    obtain ⟨d, z, ne, e, mA, ⟨od, es, ep, e2, c⟩, r⟩ := x
    exact ⟨ho _ d, z, ne, k _ _ (.inl rfl) e, mA, ⟨od, es, ep, k _ _ (.inr d) e2, c⟩, r⟩
  | own y => obtain ⟨ob, e⟩ := x; exact ⟨ob, k _ _ (.inl rfl) e⟩
  | xd fs => obtain ⟨mA, ⟨od, es, ep, e, c⟩, r⟩ := x; exact ⟨mA, ⟨od, es, ep, k _ _ (.inl rfl) e, c⟩, r⟩
  | rng lo hi => obtain ⟨t, u, v, e⟩ := x; exact ⟨t, u, v, k _ _ (.inl rfl) e⟩
  | frz ob u ih => obtain ⟨e, q⟩ := x; exact ⟨k _ _ (.inl rfl) e, ih q⟩
  | tbl ps =>
    have e : h.get? a = some { cls := .none, data := .fields ps } := x
    show h'.get? a = some { cls := .none, data := .fields ps }
    exact k a _ (.inl rfl) e
  | met f y =>
    have e : h.get? a = some (PySem.W.methodObj (.ref f) (.ref y)) := x
    show h'.get? a = some (PySem.W.methodObj (.ref f) (.ref y))
    exact k a _ (.inl rfl) e
  | ext φ => obtain ⟨p, ⟨o, e⟩, st⟩ := x; exact ⟨st _ _ p fun o q => k _ _ (.inl rfl) q, ⟨o, k _ _ (.inl rfl) e⟩, st⟩
theorem HOk.lt (x : HOk P w H h) (e : H a = some o) : a < h.objs.size := (x a o e).lt
theorem HOk.fresh (x : HOk P w H h) (e : h.objs.size ≤ a) : H a = none := by
  cases q : H a with
  | none => rfl
  | some u => exact absurd (Nat.lt_of_lt_of_le (x.lt q) e) (Nat.lt_irrefl _)
/-- every object of the heap is kept -/
theorem HOk.kept (x : HOk P w H h) (k : ∀ b u, h.get? b = some u → h'.get? b = some u) : HOk P w H h' := fun a o e =>
  (x a o e).stay (fun b u _ q => k b u q) (fun _ q => q) fun _ _ q => q
/-- a new object is laid and tracked -/
theorem HOk.laid (x : HOk P w H h) (k : ∀ b u, h.get? b = some u → h'.get? b = some u) (hp : h.objs.size ≤ a) (new : ObjOk P w (upd H a o) h' a o) : HOk P w (upd H a o) h' := fun b u e => by
  have hn := x.fresh hp
  by_cases hb : b = a
  · subst hb; rw [upd_same] at e; cases e; exact new
  · rw [upd_ne hb] at e
    exact (x b u e).stay (fun c v _ q => k c v q) (fun c q => by rw [upd_ne (ne_of_none q hn)]; exact q) fun c xs q => by rw [upd_ne (ne_of_none q hn)]; exact q
end

/-- what may be read as u: it is u, or a known u -/
def Rd (H : Hp) (a : Addr) (u : HO) : Prop := H a = some u ∨ ∃ o, H a = some (.frz o u)
theorem Rd.of {H : Hp} {a : Addr} {u : HO} (h : H a = some u) : Rd H a u := .inl h
theorem Rd.ok {P : Program} {w : World} {H : Hp} {h : Heap} {a : Addr} {u : HO} (r : Rd H a u) (x : HOk P w H h) : ObjOk P w H h a u := by
  rcases r with r | ⟨o, r⟩
  · exact x a u r
  · obtain ⟨_, q⟩ := x a _ r
    exact q
/-- what may be written -/
def Mut : Option HO → Prop
  | some (.lst _) => True
  | some (.dK _) => True
  | some (.dT _) => True
  | some (.set _ _) => True
  | some (.ins _ _ _) => True
  | some (.ext _) => True
  | _ => False
section
variable {P : Program} {w : World} {H : Hp} {h h' : Heap} {x e : Addr} {o' : HO}
/-- the object at e is changed: x itself, or the dict of the instance x -/
theorem HOk.write (ok : HOk P w H h) (mu : Mut (H x)) (he : e = x ∨ H e = some (.own x)) (k : ∀ b u, b ≠ e → h.get? b = some u → h'.get? b = some u) (heo : ∃ u, h'.get? e = some u)
    (new : ObjOk P w (upd H x o') h' x o') : HOk P w (upd H x o') h' := fun b u q => by
  have nown : ∀ c y, H c = some (.own y) → c ≠ x := fun c y r z => by subst z; rw [r] at mu; exact mu
  have ntup : ∀ c xs, H c = some (.tup xs) → c ≠ x := fun c xs r z => by subst z; rw [r] at mu; exact mu
  by_cases hb : b = x
  · subst hb; rw [upd_same] at q; cases q; exact new
  · rw [upd_ne hb] at q
    by_cases hbe : b = e
    · have q' : H b = some (.own x) := by
        rcases he with z | z
        · exact absurd (hbe.trans z) hb
        · rw [hbe]; exact z
      rw [q] at q'; cases q'
      obtain ⟨v, hv⟩ := heo
      exact ⟨v, by rw [hbe]; exact hv⟩
    · refine (ok b u q).stay (fun c v hc r => k c v ?_ r) (fun c r => by rw [upd_ne (nown c b r)]; exact r) fun c xs r => by rw [upd_ne (ntup c xs r)]; exact r
      rcases hc with rfl | hc
      · exact hbe
      · rintro rfl
        rcases he with z | z
        · exact nown c b hc z
        · rw [hc] at z; cases z; exact hb rfl
end

/-! ### kept unless tracked; of the frames at fs (the callers') the slots may change (an exception that passes writes there); of the records at ex (iterators) nothing is said -/
structure Un (fs ex : List Addr) (H H' : Hp) (h h' : Heap) : Prop where
  keep : ∀ b o, h.get? b = some o → H b = none → b ∉ fs → b ∉ ex → h'.get? b = some o
  slot : ∀ b o, h.get? b = some o → H b = none → b ∈ fs → b ∉ ex → ∃ sl, h'.get? b = some { o with slots := sl }
  free : ∀ b o, h.get? b = some o → H b = none → b ∉ ex → H' b = none
  there : ∀ b o, h.get? b = some o → b ∉ ex → ∃ o', h'.get? b = some o'
  tups : ∀ b xs, H b = some (.tup xs) → H' b = some (.tup xs)
  frzs : ∀ b o u, H b = some (.frz o u) → H' b = some (.frz o u)
  tbls : ∀ b ps, H b = some (.tbl ps) → ∃ more, H' b = some (.tbl (ps ++ more))
section
variable {fs fs' ex ex' : List Addr} {H H1 H2 : Hp} {h h1 h2 h' : Heap} {a x e : Addr} {o : HO}
theorem Un.any (u : Un fs ex H H1 h h1) {b : Addr} {ob : Obj} (q : h.get? b = some ob) (n : H b = none) (hx : b ∉ ex) : ∃ sl, h1.get? b = some { ob with slots := sl } := by
  by_cases hb : b ∈ fs
  · exact u.slot b ob q n hb hx
  · exact ⟨ob.slots, u.keep b ob q n hb hx⟩
theorem Un.trans (a : Un fs ex H H1 h h1) (b : Un fs ex H1 H2 h1 h2) : Un fs ex H H2 h h2 where
  keep := fun c ob q n hc hx => b.keep c ob (a.keep c ob q n hc hx) (a.free c ob q n hx) hc hx
  slot := fun c ob q n hc hx => by
    obtain ⟨sl, e1⟩ := a.slot c ob q n hc hx
    obtain ⟨sl', e2⟩ := b.slot c _ e1 (a.free c ob q n hx) hc hx
    exact ⟨sl', e2⟩
  free := fun c ob q n hx => by
    obtain ⟨o', e1⟩ := a.there c ob q hx
    exact b.free c o' e1 (a.free c ob q n hx) hx
  there := fun c ob q hx => by
    obtain ⟨o', e1⟩ := a.there c ob q hx
    exact b.there c o' e1 hx
  tups := fun c xs q => b.tups c xs (a.tups c xs q)
  frzs := fun c ob xs q => b.frzs c ob xs (a.frzs c ob xs q)
  tbls := fun c ps q => by
    obtain ⟨m1, e1⟩ := a.tbls c ps q
    obtain ⟨m2, e2⟩ := b.tbls c _ e1
    exact ⟨m1 ++ m2, by rw [e2, Array.append_assoc]⟩
theorem Un.kept (k : ∀ b u, h.get? b = some u → h'.get? b = some u) : Un fs ex H H h h' :=
  ⟨fun b ob q _ _ _ => k b ob q, fun b ob q _ _ _ => ⟨ob.slots, k b ob q⟩, fun _ _ _ n _ => n, fun b ob q _ => ⟨ob, k b ob q⟩, fun _ _ q => q, fun _ _ _ q => q, fun _ ps q => ⟨#[], by rw [q]; simp⟩⟩
theorem Un.refl : Un fs ex H H h h := Un.kept fun _ _ q => q
theorem Un.laid (k : ∀ b u, h.get? b = some u → h'.get? b = some u) (hp : h.objs.size ≤ a) (hn : H a = none) : Un fs ex H (upd H a o) h h' where
  keep := fun b u q _ _ _ => k b u q
  slot := fun b u q _ _ _ => ⟨u.slots, k b u q⟩
  free := fun b u q n _ => by rw [upd_ne (Nat.ne_of_lt (Nat.lt_of_lt_of_le (Heap.lt_size q) hp))]; exact n
  there := fun b u q _ => ⟨u, k b u q⟩
  tups := fun b xs q => by rw [upd_ne (ne_of_none q hn)]; exact q
  frzs := fun b u xs q => by rw [upd_ne (ne_of_none q hn)]; exact q
  tbls := fun b ps q => ⟨#[], by rw [upd_ne (ne_of_none q hn), q]; simp⟩
theorem Un.write (mu : Mut (H x)) (he : e = x ∨ H e = some (.own x)) (k : ∀ b u, b ≠ e → h.get? b = some u → h'.get? b = some u) (heo : ∃ u, h'.get? e = some u) : Un fs ex H (upd H x o) h h' := by
  have hx : ∀ b, H b = none → b ≠ x := fun b n z => by subst z; rw [n] at mu; exact mu
  have hb : ∀ b, H b = none → b ≠ e := fun b n z => by
    subst z
    rcases he with r | r
    · exact hx b n r
    · rw [n] at r; cases r
  have hm : ∀ b u, H b = some u → ¬ Mut (some u) → b ≠ x := fun b u q nm z => by subst z; rw [q] at mu; exact nm mu
  refine ⟨fun b u q n _ _ => k b u (hb b n) q, fun b u q n _ _ => ⟨u.slots, k b u (hb b n) q⟩, fun b u q n _ => by rw [upd_ne (hx b n)]; exact n, fun b u q _ => ?_,
    fun b xs q => by rw [upd_ne (hm b _ q fun z => z)]; exact q, fun b u xs q => by rw [upd_ne (hm b _ q fun z => z)]; exact q, fun b ps q => ⟨#[], by rw [upd_ne (hm b _ q fun z => z), q]; simp⟩⟩
  by_cases hbe : b = e
  · subst hbe; exact heo
  · exact ⟨u, k b u hbe q⟩
theorem Un.mono (u : Un fs ex H H1 h h1) (hs : ∀ b ∈ fs, b ∈ fs') (hx : ∀ b ∈ ex, b ∈ ex') : Un fs' ex' H H1 h h1 :=
  ⟨fun b ob q n hb he => u.keep b ob q n (fun z => hb (hs b z)) fun z => he (hx b z), fun _ _ q n _ he => u.any q n fun z => he (hx _ z), fun b ob q n he => u.free b ob q n fun z => he (hx b z), fun b ob q he => u.there b ob q fun z => he (hx b z), u.tups, u.frzs, u.tbls⟩
end

/-! ### the heap without what is tracked -/
def trk (h : Heap) (H : Hp) : List Addr := (List.range h.objs.size).filter fun a => (H a).isSome
def hidT (h : Heap) (H : Hp) : Heap := PySem.W.hideAll h (trk h H)
theorem hidT_size (h : Heap) (H : Hp) : (hidT h H).objs.size = h.objs.size := PySem.W.hideAll_size _ _
theorem hidT_get {h : Heap} {H : Hp} {b : Addr} {o : Obj} (e : h.get? b = some o) (n : H b = none) : (hidT h H).get? b = some o :=
  PySem.W.hideAll_get _ e fun hm => by
    have q : (H b).isSome = true := (List.mem_filter.mp hm).2
    rw [n] at q; simp at q
theorem of_hidT {h : Heap} {H : Hp} {b : Addr} {o : Obj} (e : (hidT h H).get? b = some o) : h.get? b = some o ∧ H b = none := by
  have e' : h.get? b = some o := PySem.W.of_hideAll (trk h H) e
  refine ⟨e', ?_⟩
  cases q : H b with
  | none => rfl
  | some x =>
    have hm : b ∈ trk h H := List.mem_filter.mpr ⟨List.mem_range.mpr (Heap.lt_size e'), by simp [q]⟩
    have z : (hidT h H).get? b = none := PySem.W.hideAll_none (trk h H) hm
    rw [z] at e; cases e

/-! ### OpenK's ledger, filled with every new object but one -/
def allNews (g h : Heap) (L : Addr) : List (Addr × Obj) := (List.range h.objs.size).filterMap fun a => if a = L ∨ (g.get? a).isSome = true then none else (h.get? a).map fun o => (a, o)
def rest (g h : Heap) (L d : Addr) : List (Addr × Obj) := (allNews g h L).filter fun p => decide (p.1 ≠ d)
end L2

namespace L2
open PySem PySem.Spec PyProof.Rows

/-- the module's facts, over the base: the heap at the law's entry without what is tracked there -/
structure Mod (K : PySem.W.Frag) (mg : Str → Option Value) (base : Heap) : Prop where
  kin : K.In base
  glob : base.Ns mainGlobals mg
  blt : ∃ mb, base.Ns builtinsNs mb ∧ ∀ x : Str, x ≠ "__name__" → mb x = bootBuiltins x
  nolimit : base.NoLimit

/-- the context: a def's body (or a comprehension's block) running. base: fixed through the whole law; s₀, H₀: the entry; outer: the frames whose slots others may change (a def's callers); stack: all frames that run;
   ex: iterators that were made ahead of the entry and are walked here (a comprehension's); fn: the names whose cells were made at the entry (a def: all; a comprehension's block: its own); calm: not within an except suite; pn: pins that every state bears; xe: what is wanted of an exception that leaves the code -/
structure Cx where
  prog : Program
  w : World
  K : PySem.W.Frag
  mg : Str → Option Value
  base : Heap
  A : Around
  N : List Str
  s₀ : Shared
  H₀ : Hp
  env : Env
  outer : List Env
  stack : List Env
  ex : List Addr
  fn : Str → Bool
  calm : Bool
  pn : List (Addr × Obj)
  xe : Value → Shared → Prop
/-- the callers' frames -/
def frs (l : List Env) : List Addr := l.filterMap (·.frame)
abbrev Cx.fs (X : Cx) : List Addr := frs X.outer

def Vis (sc : Scope) (x : Str) : Prop := sc.names.lookup x = some .local ∨ sc.names.lookup x = some .cell ∨ sc.names.lookup x = some .free
def Loc (sc : Scope) (x : Str) : Prop := sc.names.lookup x = some .local ∨ sc.names.lookup x = some .cell
def Look (env : Env) (h : Heap) (m : Str → Option Value) (x : Str) (u : Value) : Prop :=
  (env.kindOf x = some .local ∧ m x = some u) ∨ ((env.kindOf x = some .cell ∨ env.kindOf x = some .free) ∧ ∃ c, env.cells.lookup x = some c ∧ h.IsCell c (some u))

structure Cx.Ok (X : Cx) : Prop where
  mod : Mod X.K X.mg X.base
  kind : X.env.scope.kind = .function
  glob : X.env.globals = mainGlobals
  blt : X.env.builtins = builtinsNs
  above : X.s₀.heap.objs.size ≤ X.env.locals
  inj : ∀ x y c, X.env.cells.lookup x = some c → X.env.cells.lookup y = some c → x = y
  has : ∀ x, (X.env.kindOf x = some .cell ∨ X.env.kindOf x = some .free) → ∃ c, X.env.cells.lookup x = some c
  cab : ∀ x c, X.fn x = true → X.env.cells.lookup x = some c → X.s₀.heap.objs.size ≤ c
  hd : X.calm = true → X.A.handled = none
  frames : X.A.frames = some X.stack
  stk : X.stack = X.outer ∨ (X.stack = X.env :: X.outer ∧ X.env.frame = some X.env.locals)
  exf : ∀ b ∈ X.ex, b ≠ X.env.locals ∧ ∀ x c, X.env.cells.lookup x = some c → c ≠ b
  bs : ∀ b o, X.base.get? b = some o → X.s₀.heap.get? b = some o ∧ X.H₀ b = none
  bsz : X.base.objs.size ≤ X.s₀.heap.objs.size
  noex : ∀ b o, X.base.get? b = some o → b ∉ X.ex
  exfs : ∀ b ∈ X.ex, b ∉ X.fs
  funs : X.s₀.heap.FunFrames X.base X.outer
  frf : ∀ b ∈ X.fs, X.H₀ b = none

structure Inv (X : Cx) (pins : List (Addr × Obj)) (σ : List (Option V)) (H : Hp) (s : Shared) : Prop where
  ok : X.Ok
  os : s.os = X.s₀.os
  bare : AllBare s.gens
  base : Un X.fs X.ex X.H₀ H X.s₀.heap s.heap
  loc : ∃ m, s.heap.Ns X.env.locals m ∧ ∀ (i : Nat) (x : Str) (v : V), X.N[i]? = some x → σ[i]? = some (some v) → Vis X.env.scope x → ∃ u, RelV v u ∧ Look X.env s.heap m x u
  cell : ∀ x c, X.env.cells.lookup x = some c → ∃ v, s.heap.IsCell c v
  free : H X.env.locals = none
  freeC : ∀ x c, X.env.cells.lookup x = some c → H c = none
  pin : ∀ p ∈ X.pn ++ pins, s.heap.get? p.1 = some p.2 ∧ H p.1 = none ∧ p.1 ≠ X.env.locals ∧ p.1 ∉ X.fs ∧ ∀ v, p.2.data ≠ .cell v
  hok : HOk X.prog X.w H s.heap
  len : σ.length = X.N.length

section
variable {X : Cx} {pins : List (Addr × Obj)} {σ : List (Option V)} {H H' : Hp} {s : Shared} {h' : Heap}

theorem Cx.Ok.nofr (ok : X.Ok) {b : Addr} {o : Obj} (e : X.base.get? b = some o) : b ∉ X.fs := fun hb => by
  have := (ok.funs.mem hb).1
  rw [e] at this; cases this
theorem Inv.bs (I : Inv X pins σ H s) : ∀ b o, X.base.get? b = some o → s.heap.get? b = some o ∧ H b = none := fun b o e =>
  ⟨I.base.keep b o (I.ok.bs b o e).1 (I.ok.bs b o e).2 (I.ok.nofr e) (I.ok.noex b o e), I.base.free b o (I.ok.bs b o e).1 (I.ok.bs b o e).2 (I.ok.noex b o e)⟩
theorem Inv.bk (I : Inv X pins σ H s) : ∀ b o, X.base.get? b = some o → s.heap.get? b = some o := fun b o e => (I.bs b o e).1
theorem Inv.mod (I : Inv X pins σ H s) : Mod X.K X.mg X.base := I.ok.mod
theorem Inv.kIn (I : Inv X pins σ H s) : X.K.In s.heap := I.ok.mod.kin.keeps I.bk
theorem Inv.nolimit (I : Inv X pins σ H s) : s.heap.NoLimit := I.ok.mod.nolimit.keeps I.bk
theorem Inv.lt (I : Inv X pins σ H s) : X.env.locals < s.heap.objs.size := let ⟨_, hn, _⟩ := I.loc; hn.lt
theorem Inv.sz (I : Inv X pins σ H s) : X.s₀.heap.objs.size ≤ s.heap.objs.size := Nat.le_trans I.ok.above (Nat.le_of_lt I.lt)
theorem Inv.nofs (I : Inv X pins σ H s) {a : Addr} (h : s.heap.objs.size ≤ a) : a ∉ X.fs := fun hb => by
  obtain ⟨_, o, ho, _⟩ := I.ok.funs.mem hb
  exact absurd (Nat.lt_of_lt_of_le (Heap.lt_size ho) (Nat.le_trans I.sz h)) (Nat.lt_irrefl _)
theorem Inv.cne (I : Inv X pins σ H s) : ∀ x c, X.env.cells.lookup x = some c → c ≠ X.env.locals := fun x c e z => by
  obtain ⟨v, o, ho, hd⟩ := I.cell x c e
  obtain ⟨m, ⟨o', es, ep, ho', hd', _⟩, _⟩ := I.loc
  rw [z, ho'] at ho; cases ho; rw [hd'] at hd; cases hd
theorem Inv.funs (I : Inv X pins σ H s) : s.heap.FunFrames X.base X.outer := by
  have all : ∀ (l : List Env), (∀ b ∈ frs l, b ∈ X.fs) → X.s₀.heap.FunFrames X.base l → s.heap.FunFrames X.base l := by
    intro l
    induction l with
    | nil => intro _ _; trivial
    | cons env r ih =>
      intro hs hl
      obtain ⟨hk, ⟨L, o, hf, hn, ho, hd⟩, hr⟩ := hl
      have hL : L ∈ X.fs := hs L (by unfold frs; rw [List.filterMap_cons, hf]; exact List.mem_cons_self)
      obtain ⟨sl, e⟩ := I.base.slot L o ho (I.ok.frf L hL) hL fun z => I.ok.exfs L z hL
      exact ⟨hk, ⟨L, _, hf, hn, e, hd⟩, ih (fun b hb => hs b (by unfold frs; rw [List.filterMap_cons, hf]; exact List.mem_cons_of_mem _ hb)) hr⟩
  exact all X.outer (fun _ hb => hb) I.ok.funs

/-- the frames that run, for a call -/
theorem Inv.stack (I : Inv X pins σ H s) : s.heap.FunFrames X.base X.stack := by
  rcases I.ok.stk with e | ⟨e, hf⟩
  · rw [e]; exact I.funs
  · rw [e]
    obtain ⟨m, hn, _⟩ := I.loc
    refine .cons (by rw [I.ok.kind]; decide) hf hn ?_ I.funs
    exact Heap.get?_none_of_le (Nat.le_trans I.ok.bsz I.ok.above)
theorem Inv.stkSub (I : Inv X pins σ H s) : ∀ b ∈ frs X.stack, b ∈ X.env.locals :: X.fs := fun b hb => by
  rcases I.ok.stk with e | ⟨e, hf⟩
  · rw [e] at hb; exact List.mem_cons_of_mem _ hb
  · rw [e] at hb
    unfold frs at hb
    rw [List.filterMap_cons, hf] at hb
    exact hb
theorem Inv.stkFree (I : Inv X pins σ H s) : ∀ b ∈ frs X.stack, H b = none := fun b hb => by
  rcases List.mem_cons.mp (I.stkSub b hb) with e | hb
  · rw [e]; exact I.free
  · obtain ⟨_, o, ho, _⟩ := I.ok.funs.mem hb
    exact I.base.free b o ho (I.ok.frf b hb) fun z => I.ok.exfs b z hb

/-- THE STEP: the untracked objects but the frame and the records at ch are kept (the callers' frames up to slots), the frame's map is kept, the new abstract heap is held -/
theorem Inv.step {g' : Array GenState} {t' : Nat} {d' : Drawn} {ch : List Addr} (I : Inv X pins σ H s)
    (hch : ∀ b ∈ ch, (b ∈ X.ex ∨ X.s₀.heap.objs.size ≤ b) ∧ b ≠ X.env.locals ∧ (∀ x c, X.env.cells.lookup x = some c → c ≠ b) ∧ ∀ p ∈ X.pn ++ pins, p.1 ≠ b)
    (keep : ∀ b o, b ≠ X.env.locals → b ∉ X.fs → b ∉ ch → s.heap.get? b = some o → H b = none → h'.get? b = some o)
    (slot : ∀ b o, b ≠ X.env.locals → b ∈ X.fs → b ∉ ch → s.heap.get? b = some o → H b = none → ∃ sl, h'.get? b = some { o with slots := sl }) (free : ∀ b o, b ∉ ch → s.heap.get? b = some o → H b = none → H' b = none)
    (there : ∀ b o, b ∉ ch → s.heap.get? b = some o → ∃ o', h'.get? b = some o')
    (tups : ∀ b xs, H b = some (.tup xs) → H' b = some (.tup xs)) (frzs : ∀ b o u, H b = some (.frz o u) → H' b = some (.frz o u)) (tbls : ∀ b ps, H b = some (.tbl ps) → ∃ more, H' b = some (.tbl (ps ++ more)))
    (ns : ∀ m, s.heap.Ns X.env.locals m → h'.Ns X.env.locals m) (hok : HOk X.prog X.w H' h') (hg : AllBare g') :
    Inv X pins σ H' { s with heap := h', gens := g', drawn := d', toks := t' } := by
  have neL : ∀ b o, X.s₀.heap.get? b = some o → b ≠ X.env.locals := fun b o e => Nat.ne_of_lt (Nat.lt_of_lt_of_le (Heap.lt_size e) I.ok.above)
  have neC : ∀ b o, X.s₀.heap.get? b = some o → b ∉ X.ex → b ∉ ch := fun b o e hx hb => by
    rcases (hch b hb).1 with z | z
    · exact hx z
    · exact absurd (Nat.lt_of_lt_of_le (Heap.lt_size e) z) (Nat.lt_irrefl _)
  have cellK : ∀ x c, X.env.cells.lookup x = some c → ∀ v, s.heap.IsCell c v → h'.IsCell c v := fun x c e v ⟨o, ho, hd⟩ => by
    have nch : c ∉ ch := fun z => (hch c z).2.2.1 x c e rfl
    by_cases hc : c ∈ X.fs
    · obtain ⟨sl, q⟩ := slot c o (I.cne x c e) hc nch ho (I.freeC x c e)
      exact ⟨_, q, hd⟩
    · exact ⟨o, keep c o (I.cne x c e) hc nch ho (I.freeC x c e), hd⟩
  refine ⟨I.ok, I.os, hg, ⟨fun b o e n hb hx => ?_, fun b o e n hb hx => ?_, fun b o e n hx => ?_, fun b o e hx => ?_, fun b xs e => tups b xs (I.base.tups b xs e), fun b o xs e => frzs b o xs (I.base.frzs b o xs e), fun b ps e => ?_⟩, ?_, fun x c e => ?_, ?_, fun x c e => ?_, fun p hp => ?_, hok, I.len⟩
  · exact keep b o (neL b o e) hb (neC b o e hx) (I.base.keep b o e n hb hx) (I.base.free b o e n hx)
  · obtain ⟨sl, e1⟩ := I.base.slot b o e n hb hx
    obtain ⟨sl', e2⟩ := slot b _ (neL b o e) hb (neC b o e hx) e1 (I.base.free b o e n hx)
    exact ⟨sl', e2⟩
  · obtain ⟨o', e1⟩ := I.base.there b o e hx
    exact free b o' (neC b o e hx) e1 (I.base.free b o e n hx)
  · obtain ⟨o', e1⟩ := I.base.there b o e hx
    exact there b o' (neC b o e hx) e1
  · obtain ⟨m1, e1⟩ := I.base.tbls b ps e
    obtain ⟨m2, e2⟩ := tbls b _ e1
    exact ⟨m1 ++ m2, by rw [e2, Array.append_assoc]⟩
  · obtain ⟨m, hn, hl⟩ := I.loc
    refine ⟨m, ns m hn, fun i x v e1 e2 e3 => ?_⟩
    obtain ⟨u, r, l⟩ := hl i x v e1 e2 e3
    refine ⟨u, r, ?_⟩
    rcases l with l | ⟨k, c, e, z⟩
    · exact .inl l
    · exact .inr ⟨k, c, e, cellK x c e _ z⟩
  · obtain ⟨v, z⟩ := I.cell x c e
    exact ⟨v, cellK x c e v z⟩
  · obtain ⟨m, ⟨o, _, _, ho, _⟩, _⟩ := I.loc
    exact free _ o (fun z => (hch _ z).2.1 rfl) ho I.free
  · obtain ⟨v, o, ho, hd⟩ := I.cell x c e
    exact free c o (fun z => (hch c z).2.2.1 x c e rfl) ho (I.freeC x c e)
  · obtain ⟨e, n, ne, nf, d⟩ := I.pin p hp
    have nch : p.1 ∉ ch := fun z => (hch p.1 z).2.2.2 p hp rfl
    exact ⟨keep p.1 p.2 ne nf nch e n, free p.1 p.2 nch e n, ne, nf, d⟩
/-- .. where the frame's own object is kept too -/
theorem Inv.un {t' : Nat} (I : Inv X pins σ H s) (u : Un X.fs [] H H' s.heap h') (hok : HOk X.prog X.w H' h') : Inv X pins σ H' { s with heap := h', toks := t' } := by
  obtain ⟨m, ⟨o, es, ep, ho, r⟩, _⟩ := id I.loc
  obtain ⟨sl, hL⟩ := u.any ho I.free (by simp)
  exact I.step (g' := s.gens) (d' := s.drawn) (ch := []) (fun _ z => nomatch z) (fun b o _ hb _ e n => u.keep b o e n hb (by simp)) (fun b o _ hb _ e n => u.slot b o e n hb (by simp)) (fun b o _ e n => u.free b o e n (by simp)) (fun b o _ e => u.there b o e (by simp)) u.tups u.frzs u.tbls (fun m' hm => by
    obtain ⟨o', es', ep', ho', r'⟩ := hm
    rw [ho] at ho'; cases ho'
    exact ⟨_, es', ep', hL, r'⟩) hok I.bare
/-- behind a call (or a comprehension's block): the slots of this frame may have changed too, the records at ch may have turned -/
theorem Inv.call {g' : Array GenState} {t' : Nat} {d' : Drawn} {ch : List Addr} (I : Inv X pins σ H s) (u : Un (frs X.stack) ch H H' s.heap h') (hok : HOk X.prog X.w H' h') (hg : AllBare g')
    (hch : ∀ b ∈ ch, (b ∈ X.ex ∨ X.s₀.heap.objs.size ≤ b) ∧ b ≠ X.env.locals ∧ (∀ x c, X.env.cells.lookup x = some c → c ≠ b) ∧ ∀ p ∈ X.pn ++ pins, p.1 ≠ b) :
    Inv X pins σ H' { s with heap := h', gens := g', drawn := d', toks := t' } := by
  obtain ⟨m, ⟨o, es, ep, ho, r⟩, _⟩ := id I.loc
  obtain ⟨sl, hL⟩ := u.any ho I.free fun z => (hch _ z).2.1 rfl
  exact I.step (ch := ch) hch (fun b o hL hb hc e n => u.keep b o e n (fun z => (List.mem_cons.mp (I.stkSub b z)).elim hL hb) hc) (fun b o _ _ hc e n => u.any e n hc) (fun b o hc e n => u.free b o e n hc) (fun b o hc e => u.there b o e hc) u.tups u.frzs u.tbls (fun m' hm => by
    obtain ⟨o', es', ep', ho', r'⟩ := hm
    rw [ho] at ho'; cases ho'
    exact ⟨_, es', ep', hL, r'⟩) hok hg
/-- an untracked record of ours (an iterator) has turned -/
theorem Inv.turned {t' : Nat} {it : Addr} (I : Inv X pins σ H s) (k : ∀ b o, b ≠ it → s.heap.get? b = some o → h'.get? b = some o) (hn : H it = none) (hL : it ≠ X.env.locals)
    (h1 : it ∈ X.ex ∨ X.s₀.heap.objs.size ≤ it) (h2 : ∀ x c, X.env.cells.lookup x = some c → c ≠ it) (h3 : ∀ p ∈ X.pn ++ pins, p.1 ≠ it) : Inv X pins σ H { s with heap := h', toks := t' } := by
  have nit : ∀ b u, H b = some u → b ≠ it := fun b u e z => by rw [z, hn] at e; cases e
  refine I.step (g' := s.gens) (d' := s.drawn) (ch := [it]) (fun b hb => ?_) (fun b o _ _ hc e _ => k b o (fun z => hc (by simp [z])) e) (fun b o _ _ hc e _ => ⟨o.slots, k b o (fun z => hc (by simp [z])) e⟩) (fun _ _ _ _ n => n)
    (fun b o hc e => ⟨o, k b o (fun z => hc (by simp [z])) e⟩) (fun _ _ e => e) (fun _ _ _ e => e) (fun b ps e => ⟨#[], by rw [e]; simp⟩) (fun m hm => ?_) (fun b u e => ?_) I.bare
  · have e : b = it := by simpa using hb
    subst e
    exact ⟨h1, hL, h2, h3⟩
  · obtain ⟨o, es, ep, ho, r⟩ := hm
    exact ⟨o, es, ep, k _ o (Ne.symm hL) ho, r⟩
  · refine (I.hok b u e).stay (fun c v hc q => k c v ?_ q) (fun _ q => q) fun _ _ q => q
    rcases hc with z | z
    · rw [z]; exact nit b u e
    · exact nit c _ z
theorem Inv.tok (I : Inv X pins σ H s) (t : Nat) : Inv X pins σ H { s with toks := t } := I.un (h' := s.heap) (t' := t) Un.refl I.hok
/-- all objects kept -/
theorem Inv.kept {t' : Nat} (I : Inv X pins σ H s) (k : ∀ b u, s.heap.get? b = some u → h'.get? b = some u) : Inv X pins σ H { s with heap := h', toks := t' } := I.un (Un.kept k) (I.hok.kept k)
/-- a new object laid and tracked -/
theorem Inv.laid {a : Addr} {o : HO} {t' : Nat} (I : Inv X pins σ H s) (k : ∀ b u, s.heap.get? b = some u → h'.get? b = some u) (hp : s.heap.objs.size ≤ a) (new : ObjOk X.prog X.w (upd H a o) h' a o) :
    Inv X pins σ (upd H a o) { s with heap := h', toks := t' } := I.un (Un.laid k hp (I.hok.fresh hp)) (I.hok.laid k hp new)
/-- an object written -/
theorem Inv.write {x e : Addr} {o : HO} {t' : Nat} (I : Inv X pins σ H s) (mu : Mut (H x)) (he : e = x ∨ H e = some (.own x)) (k : ∀ b u, b ≠ e → s.heap.get? b = some u → h'.get? b = some u) (heo : ∃ u, h'.get? e = some u)
    (new : ObjOk X.prog X.w (upd H x o) h' x o) : Inv X pins σ (upd H x o) { s with heap := h', toks := t' } := I.un (Un.write mu he k heo) (I.hok.write mu he k heo new)
/-- forgetting slots, pins -/
theorem Inv.weak {σ' : List (Option V)} (I : Inv X pins σ H s) (hl : σ'.length = σ.length) (w : ∀ (i : Nat) v, σ'[i]? = some (some v) → σ[i]? = some (some v)) : Inv X pins σ' H s :=
  ⟨I.ok, I.os, I.bare, I.base, let ⟨m, hn, hl'⟩ := I.loc; ⟨m, hn, fun i x v e1 e2 e3 => hl' i x v e1 (w i v e2) e3⟩, I.cell, I.free, I.freeC, I.pin, I.hok, hl.trans I.len⟩
theorem Inv.pins_of {pins' : List (Addr × Obj)} (I : Inv X pins σ H s) (h : ∀ p ∈ pins', s.heap.get? p.1 = some p.2 ∧ H p.1 = none ∧ p.1 ≠ X.env.locals ∧ p.1 ∉ X.fs ∧ ∀ v, p.2.data ≠ .cell v) : Inv X pins' σ H s :=
  ⟨I.ok, I.os, I.bare, I.base, I.loc, I.cell, I.free, I.freeC, fun p hp => (List.mem_append.mp hp).elim (fun z => I.pin p (List.mem_append_left _ z)) (h p), I.hok, I.len⟩

theorem nodup_ix {N : List Str} (hN : N.Nodup) {i j : Nat} {x : Str} (a : N[i]? = some x) (b : N[j]? = some x) : i = j := by
  obtain ⟨h1, e1⟩ := List.getElem?_eq_some_iff.mp a
  obtain ⟨h2, e2⟩ := List.getElem?_eq_some_iff.mp b
  exact (List.getElem_inj hN).mp (e1.trans e2.symm)

/-- a name is stored; what changed -/
theorem store_ok2 {M : Model} {A : Around} {E : Value → Shared → Prop} {i : Nat} {x : Str} {v : V} {u : Value} {Q : Unit → Shared → Prop} (I : Inv X pins σ H s) (hN : X.N.Nodup) (hi : X.N[i]? = some x) (hx : Loc X.env.scope x) (r : RelV v u)
    (h : ∀ s', Inv X pins (σ.set i (some v)) H s' → (∃ a, Heap.SameBut a s.heap s'.heap ∧ (a = X.env.locals ∨ X.env.cells.lookup x = some a)) → Q () s') (hf : X.fn x = true ∨ X.env.scope.names.lookup x = some .local := by first | exact .inl rfl | exact .inr rfl | assumption) : wpAny M A (storeName X.env x u) Q E s := by
  obtain ⟨m, hn, hl⟩ := id I.loc
  have hcls : (X.env.scope.kind == .class || (X.env.scope.kind == .module && X.env.locals != X.env.globals)) = false := by rw [I.ok.kind]; rfl
  have hiσ : i < σ.length := by rw [I.len]; exact (List.getElem?_eq_some_iff.mp hi).1
  have cne := I.cne
  have tracked : ∀ {a : Addr} {h' : Heap}, (∃ o, s.heap.get? a = some o ∧ H a = none) → Heap.SameBut a s.heap h' → HOk X.prog X.w H h' := fun {a h'} ha hs b ob e => by
    obtain ⟨_, _, hfree⟩ := ha
    refine (I.hok b ob e).stay (fun c w' hc q => (hs.2 c ?_).trans q) (fun _ q => q) fun _ _ q => q
    rintro rfl
    rcases hc with rfl | hc
    · rw [hfree] at e; cases e
    · rw [hfree] at hc; cases hc
  rcases hx with hk | hk
  · refine wpAny_storeName_local hk hn (fun h' hn' hs => ?_) hcls
    obtain ⟨oL, _, _, hoL, _⟩ := id hn
    refine h _ ⟨I.ok, I.os, I.bare, ⟨fun b o e n hb hx => ?_, fun b o e n hb hx => ?_, I.base.free, fun b o e hx => ?_, I.base.tups, I.base.frzs, I.base.tbls⟩, ⟨_, hn', fun j y v' e1 e2 e3 => ?_⟩, fun y c e => ?_, I.free, I.freeC, fun p hp => ?_, tracked ⟨oL, hoL, I.free⟩ hs, by simpa using I.len⟩ ⟨_, hs, .inl rfl⟩
    · exact (hs.2 b (Nat.ne_of_lt (Nat.lt_of_lt_of_le (Heap.lt_size e) I.ok.above))).trans (I.base.keep b o e n hb hx)
    · obtain ⟨sl, e1⟩ := I.base.slot b o e n hb hx
      exact ⟨sl, (hs.2 b (Nat.ne_of_lt (Nat.lt_of_lt_of_le (Heap.lt_size e) I.ok.above))).trans e1⟩
    · obtain ⟨o', e1⟩ := I.base.there b o e hx
      exact ⟨o', (hs.2 b (Nat.ne_of_lt (Nat.lt_of_lt_of_le (Heap.lt_size e) I.ok.above))).trans e1⟩
    · by_cases hj : j = i
      · subst hj
        rw [hi] at e1; cases e1
        rw [List.getElem?_set_self hiσ] at e2
        cases e2
        exact ⟨u, r, .inl ⟨hk, by simp⟩⟩
      · rw [List.getElem?_set_ne (Ne.symm hj)] at e2
        obtain ⟨u', r', q⟩ := hl j y v' e1 e2 e3
        refine ⟨u', r', ?_⟩
        rcases q with ⟨k, e⟩ | ⟨k, c, e, z⟩
        · refine .inl ⟨k, ?_⟩
          have : y ≠ x := fun e => hj (nodup_ix hN e1 (e ▸ hi))
          simp [this, e]
        · exact .inr ⟨k, c, e, z.sameBut hs (cne y c e)⟩
    · obtain ⟨w', z⟩ := I.cell y c e
      exact ⟨w', z.sameBut hs (cne y c e)⟩
    · obtain ⟨e, n, ne, nf, d⟩ := I.pin p hp
      exact ⟨(hs.2 p.1 ne).trans e, n, ne, nf, d⟩
  · have hfn : X.fn x = true := by
      rcases hf with z | z
      · exact z
      · rw [z] at hk; cases hk
    obtain ⟨c, hc⟩ := I.ok.has x (.inl hk)
    obtain ⟨w', z⟩ := I.cell x c hc
    refine wpAny_storeName_cell I.ok.kind hk hc z (fun h' hc' hs => ?_)
    obtain ⟨oc, hoc, hocd⟩ := id z
    refine h { s with heap := h' } ⟨I.ok, I.os, I.bare, ⟨fun b o e n hb hx => ?_, fun b o e n hb hx => ?_, I.base.free, fun b o e hx => ?_, I.base.tups, I.base.frzs, I.base.tbls⟩, ⟨m, hn.sameBut hs (Ne.symm (cne x c hc)), fun j y v' e1 e2 e3 => ?_⟩, fun y c' e => ?_, I.free, I.freeC, fun p hp => ?_, tracked ⟨oc, hoc, I.freeC x c hc⟩ hs, by simpa using I.len⟩ ⟨c, hs, .inr hc⟩
    · exact (hs.2 b (Nat.ne_of_lt (Nat.lt_of_lt_of_le (Heap.lt_size e) (I.ok.cab x c hfn hc)))).trans (I.base.keep b o e n hb hx)
    · obtain ⟨sl, e1⟩ := I.base.slot b o e n hb hx
      exact ⟨sl, (hs.2 b (Nat.ne_of_lt (Nat.lt_of_lt_of_le (Heap.lt_size e) (I.ok.cab x c hfn hc)))).trans e1⟩
    · obtain ⟨o', e1⟩ := I.base.there b o e hx
      exact ⟨o', (hs.2 b (Nat.ne_of_lt (Nat.lt_of_lt_of_le (Heap.lt_size e) (I.ok.cab x c hfn hc)))).trans e1⟩
    · by_cases hj : j = i
      · subst hj
        rw [hi] at e1; cases e1
        rw [List.getElem?_set_self hiσ] at e2
        cases e2
        exact ⟨u, r, .inr ⟨.inl hk, c, hc, hc'⟩⟩
      · rw [List.getElem?_set_ne (Ne.symm hj)] at e2
        obtain ⟨u', r', q⟩ := hl j y v' e1 e2 e3
        refine ⟨u', r', ?_⟩
        rcases q with q | ⟨k, c', e, z'⟩
        · exact .inl q
        · refine .inr ⟨k, c', e, z'.sameBut hs ?_⟩
          rintro rfl
          exact hj (nodup_ix hN e1 (I.ok.inj _ _ _ e hc ▸ hi))
    · by_cases hcc : c' = c
      · subst hcc; exact ⟨_, hc'⟩
      · obtain ⟨w2, z2⟩ := I.cell y c' e
        exact ⟨w2, z2.sameBut hs hcc⟩
    · obtain ⟨e, n, ne, nf, d⟩ := I.pin p hp
      refine ⟨(hs.2 p.1 ?_).trans e, n, ne, nf, d⟩
      intro q
      rw [q, hoc] at e
      have q' : oc = p.2 := Option.some.inj e
      exact d w' (by rw [← q']; exact hocd)
theorem store_ok {M : Model} {A : Around} {E : Value → Shared → Prop} {i : Nat} {x : Str} {v : V} {u : Value} {Q : Unit → Shared → Prop} (I : Inv X pins σ H s) (hN : X.N.Nodup) (hi : X.N[i]? = some x) (hx : Loc X.env.scope x) (r : RelV v u)
    (h : ∀ s', Inv X pins (σ.set i (some v)) H s' → Q () s') (hf : X.fn x = true ∨ X.env.scope.names.lookup x = some .local := by first | exact .inl rfl | exact .inr rfl | assumption) : wpAny M A (storeName X.env x u) Q E s :=
  store_ok2 I hN hi hx r (fun s' I' _ => h s' I') hf
/-- behind a call or a block, the state as it is -/
theorem Inv.call' {s' : Shared} {ch : List Addr} (I : Inv X pins σ H s) (ho : s'.os = s.os) (u : Un (frs X.stack) ch H H' s.heap s'.heap) (hok : HOk X.prog X.w H' s'.heap) (hg : AllBare s'.gens)
    (hch : ∀ b ∈ ch, (b ∈ X.ex ∨ X.s₀.heap.objs.size ≤ b) ∧ b ≠ X.env.locals ∧ (∀ x c, X.env.cells.lookup x = some c → c ≠ b) ∧ ∀ p ∈ X.pn ++ pins, p.1 ≠ b) : Inv X pins σ H' s' := by
  obtain ⟨h', g', d', t', o'⟩ := s'
  have e : o' = s.os := ho
  subst e
  exact I.call (g' := g') (t' := t') (d' := d') u hok hg hch
end

/-! ### the judgements -/
/-- an exception: its class, its own dict's address (where it has one), the abstract heap behind it -/
abbrev XK := Value → Option Addr → Hp → Prop
abbrev St := List (Option V)
abbrev VK := V → Hp → Prop
/-- an expression's reading; a test's; an argument list's -/
abbrev TE := St → Hp → VK → Prop
abbrev TT := St → Hp → (Bool → Hp → Prop) → Prop
abbrev TA := St → Hp → (List V → Hp → Prop) → Prop
/-- what is wanted behind a statement -/
structure Ends where
  nx : St → Hp → Prop
  rt : VK
  bk : St → Hp → Prop := fun _ _ => False
  ct : St → Hp → Prop := fun _ _ => False
abbrev TS := Ends → St → Hp → Prop

def EP (X : Cx) (pins : List (Addr × Obj)) (σ : St) (Q : VK) (u : Value) (s' : Shared) : Prop := ∃ v H', Inv X pins σ H' s' ∧ RelV v u ∧ Q v H'
def TP (X : Cx) (pins : List (Addr × Obj)) (σ : St) (Q : Bool → Hp → Prop) (b : Bool) (s' : Shared) : Prop := ∃ H', Inv X pins σ H' s' ∧ Q b H'
def AP (X : Cx) (pins : List (Addr × Obj)) (σ : St) (Q : List V → Hp → Prop) (us : List Value) (s' : Shared) : Prop := ∃ vs H', Inv X pins σ H' s' ∧ Vals vs us ∧ Q vs H'
def SP (X : Cx) (pins : List (Addr × Obj)) (D : Ends) (f : Flow) (s' : Shared) : Prop :=
  match f with
  | .next => ∃ σ' H', Inv X pins σ' H' s' ∧ D.nx σ' H'
  | .brk => ∃ σ' H', Inv X pins σ' H' s' ∧ D.bk σ' H'
  | .cont => ∃ σ' H', Inv X pins σ' H' s' ∧ D.ct σ' H'
  | .ret u => ∃ v σ' H', Inv X pins σ' H' s' ∧ RelV v u ∧ D.rt v H'

def PE (X : Cx) (e : Expr) (t : TE) : Prop :=
  ∀ (pins : List (Addr × Obj)) (s : Shared) (σ : St) (H : Hp) (Q : VK), Inv X pins σ H s → t σ H Q → wpAny (model X.prog X.w) X.A (eval e X.env) (EP X pins σ Q) X.xe s
def PT (X : Cx) (e : Expr) (t : TT) : Prop :=
  ∀ (pins : List (Addr × Obj)) (s : Shared) (σ : St) (H : Hp) (Q : Bool → Hp → Prop), Inv X pins σ H s → t σ H Q → wpAny (model X.prog X.w) X.A (isTrue e X.env (eval e X.env)) (TP X pins σ Q) X.xe s
/-- a test whatever its 'whole' is (and, or) -/
def PW (X : Cx) (e : Expr) (t : TT) : Prop :=
  ∀ (whole : Sem Value) (pins : List (Addr × Obj)) (s : Shared) (σ : St) (H : Hp) (Q : Bool → Hp → Prop), Inv X pins σ H s → t σ H Q → wpAny (model X.prog X.w) X.A (isTrue e X.env whole) (TP X pins σ Q) X.xe s
theorem PW.pt {X : Cx} {e : Expr} {t : TT} (h : PW X e t) : PT X e t := h _
/-- an argument list (no star), from the left -/
def PA (X : Cx) (es : List Expr) (t : TA) : Prop :=
  ∀ (pos : Pos) (pins : List (Addr × Obj)) (s : Shared) (σ : St) (H : Hp) (Q : List V → Hp → Prop), Inv X pins σ H s → t σ H Q → wpAny (model X.prog X.w) X.A (spliced (backTo pos (starEach es X.env))) (AP X pins σ Q) X.xe s
def PS (X : Cx) (st : Stmt) (t : TS) : Prop :=
  ∀ (pins : List (Addr × Obj)) (s : Shared) (σ : St) (H : Hp) (D : Ends), Inv X pins σ H s → t D σ H → wpAny (model X.prog X.w) X.A (exec st X.env) (SP X pins D) X.xe s
def PSs (X : Cx) (st : List Stmt) (t : TS) : Prop :=
  ∀ (pins : List (Addr × Obj)) (s : Shared) (σ : St) (H : Hp) (D : Ends), Inv X pins σ H s → t D σ H → wpAny (model X.prog X.w) X.A (execs st X.env) (SP X pins D) X.xe s
/-- weaken the end -/
theorem thn {α : Type} {t : Sem α} {Q Q' : α → Shared → Prop} {M : Model} {A : Around} {E : Value → Shared → Prop} {s : Shared} (h : wpAny M A t Q E s) (hQ : ∀ a s, Q a s → Q' a s) : wpAny M A t Q' E s := wpAny_mono h hQ fun _ _ x => x
end L2

namespace L2
open PySem PySem.Spec PyProof.Rows
section
variable {X : Cx}

/-! ### names and constants -/
def tVar (i : Nat) : TE := fun σ H Q => ∃ v, σ[i]? = some (some v) ∧ Q v H
def tC (v : V) : TE := fun _ H Q => Q v H
theorem pe_var {i : Nat} {x : Str} {pos : Pos} (hN : X.N[i]? = some x) (hv : Vis X.env.scope x) (hd : (x == ("__debug__" : Str)) = false := by decide) (hcd : (x == ("__classdict__" : Str)) = false := by decide) : PE X (.Name x pos) (tVar i) := by
  intro pins s σ H Q I h
  obtain ⟨v, e, h⟩ := h
  obtain ⟨m, hn, hl⟩ := I.loc
  obtain ⟨u, r, l⟩ := hl i x v hN e hv
  have fin : EP X pins σ Q u s := ⟨v, H, I, r, h⟩
  rcases l with ⟨hk, hm⟩ | ⟨hk, c, hc, hcell⟩
  · exact wpAny_Name (wpAny_loadName_local I.ok.kind hk hn hm fin) hd
  · rcases hk with hk | hk
    · exact wpAny_Name (wpAny_loadName_cell I.ok.kind hk hc hcell fin) hd
    · exact wpAny_Name (wpAny_loadName_free I.ok.kind hk hc hcell fin hcd) hd
theorem pe_int {i j pos} : PE X (.Constant (.int i) j pos) (tC (.int i)) := fun _ _ _ H _ I h => wpAny_Constant_int ⟨.int i, H, I.tok _, ⟨_, rfl⟩, h⟩
theorem pe_bl {b j pos} : PE X (.Constant (.bool b) j pos) (tC (.bl b)) := fun _ _ _ H _ I h => Constant_bool ⟨.bl b, H, I, rfl, h⟩
theorem pe_str {x j pos} : PE X (.Constant (.str x) j pos) (tC (.str x)) := fun _ _ _ H _ I h => Calls.Constant_str ⟨.str x, H, I.tok _, ⟨_, rfl⟩, h⟩

/-- a global name of the def -/
def Gl (X : Cx) (x : Str) : Prop := X.env.kindOf x = some .globalImplicit
theorem ld_glob {E : Value → Shared → Prop} {pins : List (Addr × Obj)} {s : Shared} {σ : St} {H : Hp} {x : Str} {u : Value} {pos : Pos} {Q : Value → Shared → Prop} (I : Inv X pins σ H s) (hg : Gl X x) (hm : X.mg x = some u) (h : Q u s)
    (hd : (x == ("__debug__" : Str)) = false := by decide) : wpAny (model X.prog X.w) X.A (eval (.Name x pos) X.env) Q E s :=
  Calls.Name_function_global I.ok.kind hg (Calls.loadGlobal_global (by rw [I.ok.glob]; exact I.mod.glob.keeps I.bk) hm h) hd
theorem ld_blt {E : Value → Shared → Prop} {pins : List (Addr × Obj)} {s : Shared} {σ : St} {H : Hp} {x : Str} {u : Value} {pos : Pos} {Q : Value → Shared → Prop} (I : Inv X pins σ H s) (hg : Gl X x) (hm : X.mg x = none) (hv : bootBuiltins x = some u) (h : Q u s)
    (hn : x ≠ "__name__" := by decide) (hd : (x == ("__debug__" : Str)) = false := by decide) : wpAny (model X.prog X.w) X.A (eval (.Name x pos) X.env) Q E s := by
  obtain ⟨mb, h1, h2⟩ := I.mod.blt
  exact Calls.Name_function_global I.ok.kind hg (Calls.loadGlobal_builtin (by rw [I.ok.glob]; exact I.mod.glob.keeps I.bk) hm (by rw [I.ok.blt]; exact h1.keeps I.bk) ((h2 x hn).trans hv) h) hd
/-- a module's constant, a class, a function, as a value -/
theorem pe_glob {x : Str} {v : V} {u : Value} {pos : Pos} (hg : Gl X x) (hm : X.mg x = some u) (r : RelV v u) (hd : (x == ("__debug__" : Str)) = false := by decide) : PE X (.Name x pos) (tC v) :=
  fun _ _ _ H _ I h => ld_glob I hg hm ⟨v, H, I, r, h⟩ hd
/-! ### arithmetic -/
variable {a b : Expr} {ta tb : TE} {pos : Pos}
/-! ### comparisons -/
/-- a comparison as a value, as a test -/
def tB (t : TE) : TT := fun σ H Q => t σ H fun x H1 => ∃ c, x = .bl c ∧ Q c H1
/-- an expression whose value is a bool, as a test -/
theorem pt_val {e : Expr} {t : TE} (h : PE X e t) (he : ∀ whole, isTrue e X.env whole = (do let v ← whole; standAt e.pos; holding [v] (truthy v)) := by intro _; rfl) : PT X e (tB t) := by
  intro pins s σ H Q I hw
  refine isTrue_plain (thn (h pins s σ H _ I hw) fun v s1 ⟨x, H1, I1, r1, q1⟩ => ?_) (he _)
  obtain ⟨d, rfl, q⟩ := q1
  cases r1
  exact wpAny_truthy_bool ⟨H1, I1, q⟩

/-! ### and, or, not -/
variable {tA tB' : TT} {rest : List Expr}
def tAnd (t u : TT) : TT := fun σ H Q => t σ H fun c H1 => if c = true then u σ H1 Q else Q false H1
def tOr (t u : TT) : TT := fun σ H Q => t σ H fun c H1 => if c = true then Q true H1 else u σ H1 Q
def tNot (t : TT) : TT := fun σ H Q => t σ H fun c H1 => Q (!c) H1
theorem pw_and1 (ha : PT X a tA) : PW X (.BoolOp .And [a] pos) tA := by
  intro wh pins s σ H Q I h
  refine isTrue_and (thn (ha pins s σ H Q I h) fun c s1 e => ?_)
  cases c with
  | true => exact isTrue_and_nil e
  | false => exact e
theorem pw_or1 (ha : PT X a tA) : PW X (.BoolOp .Or [a] pos) tA := by
  intro wh pins s σ H Q I h
  refine isTrue_or (thn (ha pins s σ H Q I h) fun c s1 e => ?_)
  cases c with
  | false => exact isTrue_or_nil e
  | true => exact e
theorem pw_and (ha : PT X a tA) (hb : PW X (.BoolOp .And (b :: rest) pos) tB') : PW X (.BoolOp .And (a :: b :: rest) pos) (tAnd tA tB') := by
  intro wh pins s σ H Q I h
  refine isTrue_and (thn (ha pins s σ H _ I h) fun c s1 ⟨H1, I1, q1⟩ => ?_)
  cases c with
  | true => exact hb wh pins s1 σ H1 Q I1 q1
  | false => exact ⟨H1, I1, q1⟩
theorem pw_or (ha : PT X a tA) (hb : PW X (.BoolOp .Or (b :: rest) pos) tB') : PW X (.BoolOp .Or (a :: b :: rest) pos) (tOr tA tB') := by
  intro wh pins s σ H Q I h
  refine isTrue_or (thn (ha pins s σ H _ I h) fun c s1 ⟨H1, I1, q1⟩ => ?_)
  cases c with
  | true => exact ⟨H1, I1, q1⟩
  | false => exact hb wh pins s1 σ H1 Q I1 q1
theorem pt_not (ha : PT X a tA) : PT X (.UnaryOp .Not a pos) (tNot tA) := by
  intro pins s σ H Q I h
  exact isTrue_not (ha pins s σ H (fun c H1 => Q (!c) H1) I h)
/-- a if t else b -/
def tIf (t : TT) (ta tb : TE) : TE := fun σ H Q => t σ H fun c H1 => if c = true then ta σ H1 Q else tb σ H1 Q
theorem pe_ifExp {c : Expr} (hc : PT X c tA) (ha : PE X a ta) (hb : PE X b tb) : PE X (.IfExp c a b pos) (tIf tA ta tb) := by
  intro pins s σ H Q I h
  refine wpAny_IfExp (thn (hc pins s σ H _ I h) fun d s1 ⟨H1, I1, q1⟩ => ?_)
  cases d with
  | true => exact ha pins s1 σ H1 Q I1 q1
  | false => exact hb pins s1 σ H1 Q I1 q1
end
end L2

namespace L2
open PySem PySem.Spec PyProof.Rows

/-! ### a list, a tuple that is read: tracked, frozen, or an object of the module -/
def SqL (K : PySem.W.Frag) (H : Hp) (a : Addr) (xs : List V) : Prop :=
  Rd H a (.lst xs) ∨
    ∃ (o : Obj) (its : Array Value) (n : Nat), K.lookup a = some o ∧ o.cls = .type "list" ∧ o.dict = none ∧ o.data = .seq its n ∧ its.size ≤ sizeLine ∧ Vals xs its.toList
def SqT (K : PySem.W.Frag) (H : Hp) (a : Addr) (xs : List V) : Prop :=
  Rd H a (.tup xs) ∨
    ∃ (o : Obj) (its : Array Value) (n : Nat), K.lookup a = some o ∧ o.cls = .type "tuple" ∧ o.data = .seq its n ∧ its.size ≤ sizeLine ∧ Vals xs its.toList
def absV : Value → Option V
  | .none => some .non
  | .bool b => some (.bl b)
  | .int i _ => some (.int i)
  | .str x _ => some (.str x)
  | .bytes b _ => some (.byt b)
  | .float b _ => some (.flt b)
  | .ref a => some (.ref a)
  | .type n => some (.ty n)
  | _ => none
theorem RelV.abs {x : V} {u : Value} (r : RelV x u) : absV u = some x := by
  cases x with
  | non => cases r; rfl
  | bl _ => cases r; rfl
  | int _ => obtain ⟨t, rfl⟩ := r; rfl
  | str _ => obtain ⟨t, rfl⟩ := r; rfl
  | byt _ => obtain ⟨t, rfl⟩ := r; rfl
  | flt _ => obtain ⟨t, rfl⟩ := r; rfl
  | ref _ => cases r; rfl
  | ty _ => cases r; rfl
theorem RelV.inj {x y : V} {u : Value} (r : RelV x u) (q : RelV y u) : x = y := Option.some.inj (r.abs.symm.trans q.abs)
theorem Vals.inj : ∀ {xs ys : List V} {us : List Value}, Vals xs us → Vals ys us → xs = ys
  | _, _, _, .nil, .nil => rfl
  | _, _, _, .cons r t, .cons r' t' => by rw [r.inj r', Vals.inj t t']
section
variable {X : Cx} {pins : List (Addr × Obj)} {σ : St} {H : Hp} {s : Shared} {a : Addr} {xs ys : List V}
theorem SqL.of {K : PySem.W.Frag} (h : H a = some (.lst xs)) : SqL K H a xs := .inl (.inl h)
theorem SqT.of {K : PySem.W.Frag} (h : H a = some (.tup xs)) : SqT K H a xs := .inl (.inl h)
theorem Inv.list (I : Inv X pins σ H s) (h : SqL X.K H a xs) : ∃ its : List Value, Vals xs its ∧ PlainL s.heap a its.toArray ∧ xs.length ≤ sizeLine := by
  rcases h with h | ⟨o, its, n, hk, hc, hd, hs, hz, r⟩
  · obtain ⟨z, its, n, r, e⟩ := h.ok I.hok
    exact ⟨its, r, ⟨_, n, e, rfl, rfl, rfl⟩, z⟩
  · refine ⟨its.toList, r, ⟨o, n, I.kIn a o hk, hc, hd, by simpa using hs⟩, ?_⟩
    have e := r.length
    simp only [Array.length_toList] at e
    omega
theorem Inv.tuple (I : Inv X pins σ H s) (h : SqT X.K H a xs) : ∃ its : List Value, Vals xs its ∧ IsTup s.heap a its.toArray ∧ xs.length ≤ sizeLine := by
  rcases h with h | ⟨o, its, n, hk, hc, hs, hz, r⟩
  · obtain ⟨z, its, r, p⟩ := h.ok I.hok
    exact ⟨its, r, p, z⟩
  · refine ⟨its.toList, r, ⟨o, I.kIn a o hk, hc, n, by simpa using hs⟩, ?_⟩
    have e := r.length
    simp only [Array.length_toList] at e
    omega
theorem Inv.list_inj (I : Inv X pins σ H s) (h : SqL X.K H a xs) (h' : SqL X.K H a ys) : xs = ys := by
  obtain ⟨its, r, ⟨o, n, e, _, _, d⟩, _⟩ := I.list h
  obtain ⟨its', r', ⟨o', n', e', _, _, d'⟩, _⟩ := I.list h'
  rw [e] at e'; cases e'
  rw [d] at d'
  injection d' with d1 _
  have : its = its' := by simpa using congrArg Array.toList d1
  subst this
  exact r.inj r'
theorem Inv.tuple_inj (I : Inv X pins σ H s) (h : SqT X.K H a xs) (h' : SqT X.K H a ys) : xs = ys := by
  obtain ⟨its, r, ⟨o, e, _, n, d⟩, _⟩ := I.tuple h
  obtain ⟨its', r', ⟨o', e', _, n', d'⟩, _⟩ := I.tuple h'
  rw [e] at e'; cases e'
  rw [d] at d'
  injection d' with d1 _
  have : its = its' := by simpa using congrArg Array.toList d1
  subst this
  exact r.inj r'
end

/-! ### another wish about exceptions -/
abbrev Cx.wish (X : Cx) (E : Value → Shared → Prop) : Cx := { X with xe := E }
/-- no exception leaves -/
abbrev Cx.nox (X : Cx) : Cx := X.wish fun _ _ => False
theorem Cx.Ok.wish {X : Cx} (ok : X.Ok) (E : Value → Shared → Prop) : (X.wish E).Ok :=
  ⟨ok.mod, ok.kind, ok.glob, ok.blt, ok.above, ok.inj, ok.has, ok.cab, ok.hd, ok.frames, ok.stk, ok.exf, ok.bs, ok.bsz, ok.noex, ok.exfs, ok.funs, ok.frf⟩
theorem Cx.Ok.unwish {X : Cx} {E : Value → Shared → Prop} (ok : (X.wish E).Ok) : X.Ok :=
  ⟨ok.mod, ok.kind, ok.glob, ok.blt, ok.above, ok.inj, ok.has, ok.cab, ok.hd, ok.frames, ok.stk, ok.exf, ok.bs, ok.bsz, ok.noex, ok.exfs, ok.funs, ok.frf⟩
section
variable {X : Cx} {pins : List (Addr × Obj)} {σ : St} {H : Hp} {s : Shared} {E : Value → Shared → Prop}
theorem Inv.wish (I : Inv X pins σ H s) (E : Value → Shared → Prop) : Inv (X.wish E) pins σ H s := ⟨I.ok.wish E, I.os, I.bare, I.base, I.loc, I.cell, I.free, I.freeC, I.pin, I.hok, I.len⟩
theorem Inv.unwish (I : Inv (X.wish E) pins σ H s) : Inv X pins σ H s := ⟨I.ok.unwish, I.os, I.bare, I.base, I.loc, I.cell, I.free, I.freeC, I.pin, I.hok, I.len⟩
theorem SP.unwish {D : Ends} {f : Flow} {s' : Shared} (h : SP (X.wish E) pins D f s') : SP X pins D f s' := by
  cases f with
  | next => obtain ⟨σ', H', I, q⟩ := h; exact ⟨σ', H', I.unwish, q⟩
  | brk => obtain ⟨σ', H', I, q⟩ := h; exact ⟨σ', H', I.unwish, q⟩
  | cont => obtain ⟨σ', H', I, q⟩ := h; exact ⟨σ', H', I.unwish, q⟩
  | ret u => obtain ⟨v, σ', H', I, r, q⟩ := h; exact ⟨v, σ', H', I.unwish, r, q⟩
theorem PE.nox {e : Expr} {t : TE} (h : PE X.nox e t) : PE X e t := fun pins s σ H Q I hw =>
  wpAny_mono (h pins s σ H Q (I.wish _) hw) (fun _ _ ⟨v, H', I', r, q⟩ => ⟨v, H', I'.unwish, r, q⟩) fun _ _ z => False.elim z
theorem PT.nox {e : Expr} {t : TT} (h : PT X.nox e t) : PT X e t := fun pins s σ H Q I hw =>
  wpAny_mono (h pins s σ H Q (I.wish _) hw) (fun _ _ ⟨H', I', q⟩ => ⟨H', I'.unwish, q⟩) fun _ _ z => False.elim z
theorem PSs.nox {st : List Stmt} {t : TS} (h : PSs X.nox st t) : PSs X st t := fun pins s σ H D I hw =>
  wpAny_mono (h pins s σ H D (I.wish _) hw) (fun _ _ q => q.unwish) fun _ _ z => False.elim z
end

/-! ### blocks and small statements -/
section
variable {X : Cx} {st : Stmt} {rest : List Stmt} {t u : TS} {e : Expr} {te : TE} {pos : Pos}
def tNext : TS := fun D σ H => D.nx σ H
def tSeq (t u : TS) : TS := fun D σ H => t { D with nx := u D } σ H
theorem pss_nil : PSs X [] tNext := fun _ _ σ H _ I h => wpAny_execs_nil ⟨σ, H, I, h⟩
theorem pss_cons (h1 : PS X st t) (h2 : PSs X rest u) : PSs X (st :: rest) (tSeq t u) := by
  intro pins s σ H D I h
  refine wpAny_execs_cons (thn (h1 pins s σ H { D with nx := u D } I h) fun f s1 q => ?_)
  cases f with
  | next =>
    obtain ⟨σ', H', I', q⟩ := q
    exact h2 pins s1 σ' H' D I' q
  | ret v => exact q
  | brk => exact q
  | cont => exact q
theorem pss_one (h1 : PS X st t) : PSs X [st] t := by
  intro pins s σ H D I h
  refine wpAny_execs_cons (thn (h1 pins s σ H D I h) fun f s1 q => ?_)
  cases f with
  | next => exact wpAny_execs_nil q
  | ret v => exact q
  | brk => exact q
  | cont => exact q
/-- in a def's body nothing is shown -/
theorem Inv.quiet {pins : List (Addr × Obj)} {σ : St} {H : Hp} {s : Shared} (I : Inv X pins σ H s) : interactive X.env = false := by simp [interactive, I.ok.kind]
/-- an expression whose value is dropped -/
def tDrop (te : TE) : TS := fun D σ H => te σ H fun _ H1 => D.nx σ H1
theorem ps_expr (he : PE X e te) (hs : swapsWith e none pos.line X.env = pure false := by rfl) : PS X (.Expr e pos) (tDrop te) := by
  intro pins s σ H D I h
  exact wpAny_Expr_any (thn (he pins s σ H _ I h) fun v s1 ⟨x, H1, I1, r1, q1⟩ => ⟨σ, H1, I1, q1⟩) I.quiet hs
def tRet (te : TE) : TS := fun D σ H => te σ H D.rt
theorem ps_ret (he : PE X e te) : PS X (.Return (some e) pos) (tRet te) := by
  intro pins s σ H D I h
  exact wpAny_Return_some (thn (he pins s σ H _ I h) fun v s1 ⟨x, H1, I1, r1, q1⟩ => ⟨x, σ, H1, I1, r1, q1⟩)
def tIfS (c : TT) (t u : TS) : TS := fun D σ H => c σ H fun b H1 => if b = true then t D σ H1 else u D σ H1
theorem ps_if {c : Expr} {a b : List Stmt} {tc : TT} (hc : PT X c tc) (ha : PSs X a t) (hb : PSs X b u) : PS X (.If c a b pos) (tIfS tc t u) := by
  intro pins s σ H D I h
  refine wpAny_If (thn (hc pins s σ H _ I h) fun d s1 ⟨H1, I1, q1⟩ => ?_)
  cases d with
  | true => exact ha pins s1 σ H1 D I1 q1
  | false => exact hb pins s1 σ H1 D I1 q1
end

/-! ### targets -/
abbrev TG := V → St → Hp → (St → Hp → Prop) → Prop
abbrev TGs := List V → St → Hp → (St → Hp → Prop) → Prop
def PG (X : Cx) (target : Expr) (t : TG) : Prop :=
  ∀ (pins : List (Addr × Obj)) (s : Shared) (σ : St) (H : Hp) (v : V) (u : Value) (Q : St → Hp → Prop), Inv X pins σ H s → RelV v u → t v σ H Q →
    wpAny (model X.prog X.w) X.A (assign target X.env u) (fun _ s' => ∃ σ' H', Inv X pins σ' H' s' ∧ Q σ' H') X.xe s
/-- several targets, one after another -/
def PGs (X : Cx) (ts : List Expr) (t : TGs) : Prop :=
  ∀ (pins : List (Addr × Obj)) (s : Shared) (σ : St) (H : Hp) (vs : List V) (us : List Value) (Q : St → Hp → Prop), Inv X pins σ H s → Vals vs us → t vs σ H Q →
    wpAny (model X.prog X.w) X.A (assignInOrder ((assignEach ts X.env).map (·.2)) us) (fun _ s' => ∃ σ' H', Inv X pins σ' H' s' ∧ Q σ' H') X.xe s
section
variable {X : Cx} {pos : Pos}
def gName (i : Nat) : TG := fun v σ H Q => Q (σ.set i (some v)) H
theorem pg_name {i : Nat} {x : Str} (hN : X.N.Nodup) (hi : X.N[i]? = some x) (hx : Loc X.env.scope x) (hf : X.fn x = true ∨ X.env.scope.names.lookup x = some .local := by first | exact .inl rfl | exact .inr rfl | assumption) : PG X (.Name x pos) (gName i) := by
  intro pins s σ H v u Q I r h
  exact wpAny_assign_Name (store_ok I hN hi hx r (fun s' I' => ⟨_, H, I', h⟩) hf)
/-- target = value -/
def tAsg (te : TE) (g : TG) : TS := fun D σ H => te σ H fun x H1 => g x σ H1 D.nx
/-- name = value -/
theorem ps_set {i : Nat} {x : Str} {e : Expr} {te : TE} {pos' : Pos} (hN : X.N.Nodup) (hi : X.N[i]? = some x) (hx : Loc X.env.scope x) (he : PE X e te) (hs : swapsWith e (some (.Name x pos')) pos.line X.env = pure false := by rfl) (hf : X.fn x = true ∨ X.env.scope.names.lookup x = some .local := by first | exact .inl rfl | exact .inr rfl | assumption) :
    PS X (.Assign [.Name x pos'] e pos) (tAsg te (gName i)) := by
  intro pins s σ H D I h
  refine wpAny_Assign_Name (thn (he pins s σ H _ I h) fun v s1 ⟨y, H1, I1, r1, q1⟩ => ?_) hs
  exact store_ok I1 hN hi hx r1 (fun s2 I2 => ⟨_, H1, I2, q1⟩) hf
end

/-! ### while -/
section
variable {X : Cx} {pos : Pos}
end

/-! ### what a loop or a comprehension walks -/
/-- at turn i: it yields x (the heap may grow), or it stops -/
structure It where
  go : Nat → Hp → Prop
  yld : Nat → Hp → V → Hp → Prop
  stop : Nat → Hp → Prop
/-- the iterator's own objects may turn: they are not the frame's, not pinned, younger than the entry (or a comprehension's own) -/
def FpOk (X : Cx) (pins : List (Addr × Obj)) (H : Hp) (b : Addr) : Prop :=
  H b = none ∧ b ≠ X.env.locals ∧ b ∉ X.fs ∧ (b ∈ X.ex ∨ X.s₀.heap.objs.size ≤ b) ∧ (∀ x c, X.env.cells.lookup x = some c → c ≠ b) ∧ ∀ p ∈ X.pn ++ pins, p.1 ≠ b
theorem Inv.fpOk {X : Cx} {pins : List (Addr × Obj)} {σ : St} {H H' : Hp} {s : Shared} {b : Addr} (I : Inv X pins σ H s) (hb : s.heap.objs.size ≤ b) (hn : H' b = none) : FpOk X pins H' b := by
  refine ⟨hn, Nat.ne_of_gt (Nat.lt_of_lt_of_le I.lt hb), I.nofs hb, .inr (Nat.le_trans I.sz hb), fun x c e z => ?_, fun p hp z => ?_⟩
  · obtain ⟨v, q⟩ := I.cell x c e
    exact absurd (Nat.lt_of_lt_of_le q.lt (by rw [z]; exact hb)) (Nat.lt_irrefl _)
  · exact absurd (Nat.lt_of_lt_of_le (Heap.lt_size (I.pin p hp).1) (by rw [z]; exact hb)) (Nat.lt_irrefl _)
structure Turn (P : Program) (w : World) (K : PySem.W.Frag) (tg : Expr) (J : It) (fp : List Addr) (it : Addr) (tn : Nat → Heap → Prop) : Prop where
  mem : it ∈ fp
  obj : ∀ i h, tn i h → ∀ b ∈ fp, ∃ o, h.get? b = some o ∧ ∀ v, o.data ≠ .cell v
  keep : ∀ i h h', tn i h → (∀ b ∈ fp, ∀ o, h.get? b = some o → h'.get? b = some o) → tn i h'
  item : ∀ (X : Cx), X.prog = P → X.w = w → X.K = K → X.calm = true → ∀ (i : Nat) (pins : List (Addr × Obj)) (s : Shared) (σ : St) (H : Hp) (E : Value → Shared → Prop), Inv X pins σ H s → (∀ b ∈ fp, FpOk X pins H b) → tn i s.heap → J.go i H →
    wpAny (model P w) X.A (pyNext (.ref it)) (fun r s1 => ∃ u, r = some u ∧
      wpAny (model P w) X.A (letOwnedTupleGo tg (.ref it) u) (fun _ s2 => ∃ x H', Inv X pins σ H' s2 ∧ RelV x u ∧ J.yld i H x H' ∧ tn (i + 1) s2.heap ∧ ∀ b ∈ fp, H' b = none) E s1) E s
  done : ∀ (X : Cx), X.prog = P → X.w = w → X.K = K → X.calm = true → ∀ (i : Nat) (pins : List (Addr × Obj)) (s : Shared) (σ : St) (H : Hp) (E : Value → Shared → Prop), Inv X pins σ H s → (∀ b ∈ fp, FpOk X pins H b) → tn i s.heap → J.stop i H →
    wpAny (model P w) X.A (pyNext (.ref it)) (fun r s1 => r = none ∧ Inv X pins σ H s1) E s
  self : ∀ (A : Around) (i : Nat) (s : Shared) (Q : Value → Shared → Prop) (E : Value → Shared → Prop), tn i s.heap → Q (.ref it) s → wpAny (model P w) A (pyIter (.ref it)) Q E s
abbrev TI := St → Hp → (It → Hp → Prop) → Prop
/-- an iterator has come -/
def PIE (X : Cx) (pins : List (Addr × Obj)) (σ : St) (tg : Expr) (R : It → Hp → Prop) (itv : Value) (s2 : Shared) : Prop :=
  ∃ (it : Addr) (fp : List Addr) (tn : Nat → Heap → Prop) (J : It) (H' : Hp), itv = .ref it ∧ Inv X pins σ H' s2 ∧ Turn X.prog X.w X.K tg J fp it tn ∧ tn 0 s2.heap ∧ (∀ b ∈ fp, FpOk X pins H' b) ∧ R J H'
def PI (X : Cx) (tg iter : Expr) (wi : TI) : Prop :=
  ∀ (pins : List (Addr × Obj)) (s : Shared) (σ : St) (H : Hp) (R : It → Hp → Prop), Inv X pins σ H s → wi σ H R →
    wpAny (model X.prog X.w) X.A (eval iter X.env) (fun v s1 => wpAny (model X.prog X.w) X.A (pyIter v) (PIE X pins σ tg R) X.xe s1) X.xe s

/-- the step ahead of the store is nothing for an iterator that keeps no tuple -/
theorem go_of {M : Model} {A : Around} {E : Value → Shared → Prop} {s : Shared} {tg : Expr} {it : Addr} {u : Value} {o : Obj} {n : String} {vs : Array Value} {Q : Unit → Shared → Prop} (ho : s.heap.get? it = some o) (hc : o.cls = .type n) (hd : o.data = .fields vs)
    (hn : ["enumerate", "zip", "dict_itemiterator", "dict_reverseitemiterator", "odict_iterator", "itertools.zip_longest", "itertools.pairwise"].contains n = false) (hQ : Q () s) : wpAny M A (letOwnedTupleGo tg (.ref it) u) Q E s := by
  unfold letOwnedTupleGo
  cases tg <;> first
    | exact wpAny_pure hQ
    | (cases u <;> first
        | exact wpAny_pure hQ
        | (refine wpAny_bind (wpAny_load ho ?_)
           rw [hc, hd]
           show wpAny M A (if (["enumerate", "zip", "dict_itemiterator", "dict_reverseitemiterator", "odict_iterator", "itertools.zip_longest", "itertools.pairwise"].contains n && vs[0]? == some (rawInt _)) = true then _ else _) Q E s
           rw [if_neg (by intro h; rw [hn, Bool.false_and] at h; cases h)]
           exact wpAny_pure hQ))

/-- the list at a, as it stands at each turn (a loop may append to it) -/
def Itl (K : PySem.W.Frag) (a : Addr) : It :=
  ⟨fun i H => ∃ xs x, SqL K H a xs ∧ xs[i]? = some x, fun i H x H' => H' = H ∧ ∀ xs, SqL K H a xs → xs[i]? = some x, fun i H => ∃ xs, SqL K H a xs ∧ xs.length ≤ i⟩
def Itt (K : PySem.W.Frag) (a : Addr) : It :=
  ⟨fun i H => ∃ xs x, SqT K H a xs ∧ xs[i]? = some x, fun i H x H' => H' = H ∧ ∀ xs, SqT K H a xs → xs[i]? = some x, fun i H => ∃ xs, SqT K H a xs ∧ xs.length ≤ i⟩
/-- lo, lo + 1, .. (n of them) -/
def Itr (lo : Int) (n : Nat) : It := ⟨fun i _ => i < n, fun i H x H' => H' = H ∧ x = .int (lo + i), fun i _ => n ≤ i⟩
theorem turn_list {P : Program} {w : World} {K : PySem.W.Frag} {tg : Expr} (a it : Addr) : Turn P w K tg (Itl K a) [it] it (fun i h => h.IsListIter it a i) where
  mem := by simp
  obj := fun i h st b hb => by
    have e : b = it := by simpa using hb
    subst e
    obtain ⟨o, e, c, d⟩ := st
    exact ⟨o, e, fun v z => by rw [d] at z; cases z⟩
  keep := fun i h h' st k => st.at fun o e => k it (by simp) o e
  item := by
    intro X hP hw hK hc i pins s σ H E I hf st hg
    subst hP hw hK
    obtain ⟨xs, x, hq, hx⟩ := hg
    obtain ⟨its, rv, p, hz⟩ := I.list hq
    obtain ⟨u, hu, ru⟩ := rv.get hx
    obtain ⟨f0, f1, f2, f3, f4, f5⟩ := hf it (by simp)
    refine wpAny_pyNext_list_item st p.isList (x := u) (by simpa using hu) fun h' st' sb => ?_
    have I1 : Inv X pins σ H { s with heap := h' } := I.turned (t' := s.toks) (fun b o hb e => (sb.2 b hb).trans e) f0 f1 f3 f4 f5
    obtain ⟨o, e, c, d⟩ := id st'
    exact ⟨u, rfl, go_of (s := { s with heap := h' }) e c d (by decide) ⟨x, H, I1, ru, ⟨rfl, fun ys hy => by rw [I.list_inj hy hq]; exact hx⟩, st', fun b hb => (hf b hb).1⟩⟩
  done := by
    intro X hP hw hK hc i pins s σ H E I hf st hg
    subst hP hw hK
    obtain ⟨xs, hq, hx⟩ := hg
    obtain ⟨its, rv, p, hz⟩ := I.list hq
    obtain ⟨f0, f1, f2, f3, f4, f5⟩ := hf it (by simp)
    have hl := rv.length
    exact wpAny_pyNext_list_end (I.ok.hd hc) st p.isList (by simp; omega) fun h' eb => ⟨rfl, I.turned (t' := s.toks) (fun b o hb e => eb b o hb e) f0 f1 f3 f4 f5⟩
  self := fun _ _ _ _ _ st h => wpAny_pyIter_listiter st h
theorem turn_tuple {P : Program} {w : World} {K : PySem.W.Frag} {tg : Expr} (a it : Addr) : Turn P w K tg (Itt K a) [it] it (fun i h => h.IsTupleIter it a i) where
  mem := by simp
  obj := fun i h st b hb => by
    have e : b = it := by simpa using hb
    subst e
    obtain ⟨o, e, c, d⟩ := st
    exact ⟨o, e, fun v z => by rw [d] at z; cases z⟩
  keep := fun i h h' st k => st.at fun o e => k it (by simp) o e
  item := by
    intro X hP hw hK hc i pins s σ H E I hf st hg
    subst hP hw hK
    obtain ⟨xs, x, hq, hx⟩ := hg
    obtain ⟨its, rv, p, hz⟩ := I.tuple hq
    obtain ⟨u, hu, ru⟩ := rv.get hx
    obtain ⟨f0, f1, f2, f3, f4, f5⟩ := hf it (by simp)
    refine wpAny_pyNext_tuple_item st (show s.heap.IsTuple a its.toArray from p) (x := u) (by simpa using hu) fun h' st' sb => ?_
    have I1 : Inv X pins σ H { s with heap := h' } := I.turned (t' := s.toks) (fun b o hb e => (sb.2 b hb).trans e) f0 f1 f3 f4 f5
    obtain ⟨o, e, c, d⟩ := id st'
    exact ⟨u, rfl, go_of (s := { s with heap := h' }) e c d (by decide) ⟨x, H, I1, ru, ⟨rfl, fun ys hy => by rw [I.tuple_inj hy hq]; exact hx⟩, st', fun b hb => (hf b hb).1⟩⟩
  done := by
    intro X hP hw hK hc i pins s σ H E I hf st hg
    subst hP hw hK
    obtain ⟨xs, hq, hx⟩ := hg
    obtain ⟨its, rv, p, hz⟩ := I.tuple hq
    obtain ⟨f0, f1, f2, f3, f4, f5⟩ := hf it (by simp)
    have hl := rv.length
    exact wpAny_pyNext_tuple_end (I.ok.hd hc) st (show s.heap.IsTuple a its.toArray from p) (by simp; omega) fun h' eb => ⟨rfl, I.turned (t' := s.toks) (fun b o hb e => eb b o hb e) f0 f1 f3 f4 f5⟩
  self := fun _ _ _ _ _ st h => wpAny_pyIter_tupleiter st h
theorem turn_range {P : Program} {w : World} {K : PySem.W.Frag} {tg : Expr} (it : Addr) (lo : Int) (n : Nat) : Turn P w K tg (Itr lo n) [it] it (fun i h => IsRangeIter h it (lo + (i : Nat) * 1) ((n : Int) - (i : Nat)) 1) where
  mem := by simp
  obj := fun i h st b hb => by
    have e : b = it := by simpa using hb
    subst e
    exact ⟨_, st, fun v z => by
      have z' : Data.fields _ = Data.cell v := z
      cases z'⟩
  keep := fun i h h' st k => k it (by simp) _ st
  item := by
    intro X hP hw hK hc i pins s σ H E I hf st hg
    subst hP hw hK
    obtain ⟨f0, f1, f2, f3, f4, f5⟩ := hf it (by simp)
    have W := Walks.range (prog := X.prog) (w := X.w) (I.ok.hd hc) it lo 1 n
    refine W.item i s _ _ hg st fun v h' tk hv st' kk => ?_
    obtain ⟨t, rfl⟩ := hv
    have I1 : Inv X pins σ H { s with heap := h', toks := tk } := I.turned (fun b o hb e => kk b o (by simpa using hb) e) f0 f1 f3 f4 f5
    refine ⟨_, rfl, go_of (s := { s with heap := h', toks := tk }) (n := "range_iterator") st' rfl rfl (by decide) ⟨.int (lo + i), H, I1, ⟨t, ?_⟩, ⟨rfl, rfl⟩, st', fun b hb => (hf b hb).1⟩⟩
    rw [Int.mul_one]
  done := by
    intro X hP hw hK hc i pins s σ H E I hf st hg
    subst hP hw hK
    obtain ⟨f0, f1, f2, f3, f4, f5⟩ := hf it (by simp)
    exact wpAny_pyNext_range_end (I.ok.hd hc) st (by have : n ≤ i := hg; omega) fun h' eb => ⟨rfl, I.turned (t' := s.toks) (fun b o hb e => eb b o hb e) f0 f1 f3 f4 f5⟩
  self := fun _ _ _ _ _ st h => wpAny_pyIter_rangeiter st h
end L2

namespace L2
open PySem PySem.Spec PyProof.Rows
section
variable {X : Cx} {tg : Expr}
def iList (K : PySem.W.Frag) (tl : TE) : TI := fun σ H R => tl σ H fun x H1 => ∃ a, x = .ref a ∧ (∃ xs, SqL K H1 a xs) ∧ R (Itl K a) H1
def iTup (K : PySem.W.Frag) (tl : TE) : TI := fun σ H R => tl σ H fun x H1 => ∃ a, x = .ref a ∧ (∃ xs, SqT K H1 a xs) ∧ R (Itt K a) H1
theorem pi_list {l : Expr} {tl : TE} (hl : PE X l tl) : PI X tg l (iList X.K tl) := by
  intro pins s σ H R I h
  refine thn (hl pins s σ H _ I h) fun v s1 ⟨x, H1, I1, r1, q1⟩ => ?_
  obtain ⟨a, e, ⟨xs, hq⟩, q⟩ := q1
  subst e
  cases r1
  obtain ⟨its, rv, p, hz⟩ := I1.list hq
  refine wpAny_pyIter_list p.isList ?_
  refine ⟨s1.heap.objs.size, [s1.heap.objs.size], _, _, H1, rfl, I1.kept (t' := s1.toks) fun b o e => Heap.get?_push_of_some _ e, turn_list a _, ⟨_, Heap.get?_push_size _ rfl, rfl, rfl⟩, fun b hb => ?_, q⟩
  have e : b = s1.heap.objs.size := by simpa using hb
  subst e
  exact I1.fpOk (Nat.le_refl _) (I1.hok.fresh (Nat.le_refl _))
theorem pi_tup {l : Expr} {tl : TE} (hl : PE X l tl) : PI X tg l (iTup X.K tl) := by
  intro pins s σ H R I h
  refine thn (hl pins s σ H _ I h) fun v s1 ⟨x, H1, I1, r1, q1⟩ => ?_
  obtain ⟨a, e, ⟨xs, hq⟩, q⟩ := q1
  subst e
  cases r1
  obtain ⟨its, rv, p, hz⟩ := I1.tuple hq
  refine wpAny_pyIter_tuple (show s1.heap.IsTuple a its.toArray from p) ?_
  refine ⟨s1.heap.objs.size, [s1.heap.objs.size], _, _, H1, rfl, I1.kept (t' := s1.toks) fun b o e => Heap.get?_push_of_some _ e, turn_tuple a _, ⟨_, Heap.get?_push_size _ rfl, rfl, rfl⟩, fun b hb => ?_, q⟩
  have e : b = s1.heap.objs.size := by simpa using hb
  subst e
  exact I1.fpOk (Nat.le_refl _) (I1.hok.fresh (Nat.le_refl _))
/-- a range object just made, walked -/
theorem range_it {pins : List (Addr × Obj)} {σ : St} {H : Hp} {s : Shared} {R : It → Hp → Prop} {E : Value → Shared → Prop} {lo hi : Int} {t u v : Tok} {tk : Nat} (I : Inv X pins σ H s) (h1 : -(2 ^ 62) ≤ lo) (h2 : lo < 2 ^ 62) (h3 : -(2 ^ 62) ≤ hi) (h4 : hi < 2 ^ 62)
    (q : R (Itr lo (hi - lo).toNat) H) : wpAny (model X.prog X.w) X.A (pyIter (.ref s.heap.objs.size)) (PIE X pins σ tg R) E { s with heap := s.heap.push { cls := .type "range", data := .fields #[.int lo t, .int hi u, .int 1 v] }, toks := tk } := by
  refine wpAny_pyIter_range (IsRange.new ..) (small_one h1 h2 h3 h4) ?_
  have I1 : Inv X pins σ H { s with heap := s.heap.push { cls := .type "range", data := .fields #[.int lo t, .int hi u, .int 1 v] }, toks := tk } := I.kept fun b o e => Heap.get?_push_of_some _ e
  refine ⟨(s.heap.push { cls := .type "range", data := .fields #[.int lo t, .int hi u, .int 1 v] }).objs.size, [(s.heap.push { cls := .type "range", data := .fields #[.int lo t, .int hi u, .int 1 v] }).objs.size], _, _, H, rfl,
    I1.kept (t' := tk) fun b o e => Heap.get?_push_of_some _ e, turn_range _ lo (hi - lo).toNat, ?_, fun b hb => ?_, q⟩
  · have e1 : lo + ((0 : Nat) : Int) * 1 = lo := by simp
    have e2 : (((hi - lo).toNat : Nat) : Int) - ((0 : Nat) : Int) = Builtin.Range.rangeSize lo hi 1 := by rw [rangeSize_one]; split <;> omega
    show IsRangeIter _ _ (lo + ((0 : Nat) : Int) * 1) ((((hi - lo).toNat : Nat) : Int) - ((0 : Nat) : Int)) 1
    rw [e1, e2]
    exact Heap.get?_push_size _ rfl
  · have e : b = (s.heap.push { cls := .type "range", data := .fields #[.int lo t, .int hi u, .int 1 v] }).objs.size := by simpa using hb
    subst e
    exact I1.fpOk (Nat.le_refl _) (I1.hok.fresh (Nat.le_refl _))
def iRng1 (ta : TA) : TI := fun σ H R => ta σ H fun vs H1 => ∃ j : Int, vs = [.int j] ∧ -(2 ^ 62) ≤ j ∧ j < 2 ^ 62 ∧ R (Itr 0 j.toNat) H1
theorem pi_range1 {a : Expr} {ta : TA} {p pos : Pos} (hg : Gl X "range") (hm : X.mg "range" = none) (ha : PA X [a] ta) (hs : starEach [a] X.env = [(false, eval a X.env)] := by rfl) : PI X tg (.Call (.Name "range" p) [a] [] pos) (iRng1 ta) := by
  intro pins s σ H R I h
  refine Call_ (ld_blt I hg hm boot_range (PyProof.Rows.callWith_type1 (thn (ha pos pins s σ H _ I h) fun us s1 ⟨vs, H1, I1, r1, q1⟩ => ?_) hs rfl))
  obtain ⟨j, e, q1, q2, q⟩ := q1
  subst e
  cases r1 with
  | cons r rr =>
    cases rr
    obtain ⟨t, rfl⟩ := r
    exact call_range_1 (range_it I1 (by omega) (by omega) q1 q2 (by simpa using q))
/-! ### for -/
/-- W: the invariant by the turn and a measure; N: what the body is to reach -/
def tFor (wi : TI) (g : TG) (tb : TS) : TS := fun D σ H => wi σ H fun J H1 => ∃ W : Nat → Nat → St → Hp → Prop, (∃ m, W 0 m σ H1) ∧ ∀ i m σ H, W i m σ H →
  (J.stop i H ∧ D.nx σ H) ∨ (J.go i H ∧ ∃ N : St → Hp → Prop, (∀ σ' H', N σ' H' → ∃ m', m' < m ∧ W (i + 1) m' σ' H') ∧ ∀ x H', J.yld i H x H' → g x σ H' fun σ2 H2 => tb { D with nx := N, ct := N, bk := D.nx } σ2 H2)
/-- the records at fp as they stand -/
def pinsAt (fp : List Addr) (h : Heap) : List (Addr × Obj) := fp.filterMap fun b => (h.get? b).map fun o => (b, o)
theorem mem_pinsAt {fp : List Addr} {h : Heap} {b : Addr} {o : Obj} (hb : b ∈ fp) (e : h.get? b = some o) : (b, o) ∈ pinsAt fp h := List.mem_filterMap.mpr ⟨b, hb, by rw [e]; rfl⟩
theorem of_pinsAt {fp : List Addr} {h : Heap} {p : Addr × Obj} (hp : p ∈ pinsAt fp h) : p.1 ∈ fp ∧ h.get? p.1 = some p.2 := by
  obtain ⟨b, hb, e⟩ := List.mem_filterMap.mp hp
  cases q : h.get? b with
  | none => rw [q] at e; cases e
  | some o =>
    rw [q] at e
    have e' : (b, o) = p := Option.some.inj e
    subst e'
    exact ⟨hb, q⟩
theorem Inv.pinned {pins : List (Addr × Obj)} {σ : St} {H : Hp} {s : Shared} {fp : List Addr} (I : Inv X pins σ H s) (hf : ∀ b ∈ fp, FpOk X pins H b) (ho : ∀ b ∈ fp, ∃ o, s.heap.get? b = some o ∧ ∀ v, o.data ≠ .cell v) : Inv X (pins ++ pinsAt fp s.heap) σ H s :=
  I.pins_of fun p hp => (List.mem_append.mp hp).elim (fun z => I.pin p (List.mem_append_right _ z)) fun z => by
    obtain ⟨hb, e⟩ := of_pinsAt z
    obtain ⟨f0, f1, f2, _⟩ := hf p.1 hb
    obtain ⟨o, e', d⟩ := ho p.1 hb
    rw [e] at e'; cases e'
    exact ⟨e, f0, f1, f2, d⟩
theorem Inv.unpinned {pins pl : List (Addr × Obj)} {σ : St} {H : Hp} {s : Shared} (I : Inv X (pins ++ pl) σ H s) : Inv X pins σ H s := I.pins_of fun p hp => I.pin p (List.mem_append_right _ (List.mem_append_left _ hp))
theorem ps_for {iter : Expr} {body : List Stmt} {wi : TI} {g : TG} {tb : TS} {pos : Pos} (hp : PassesOwn (model X.prog X.w) X.A X.env X.xe) (hc : X.calm = true) (hi : PI X tg iter wi) (hg : PG X tg g) (hb : PSs X body tb)
    (hs : ∀ x, foldedSetIterable iter X.env x = pure x := by intro _; rfl) : PS X (.For tg iter body [] pos) (tFor wi g tb) := by
  intro pins s σ H D I h
  refine wpAny_For (thn (hi pins s σ H _ I h) fun v s1 h1 => thn h1 fun itv s2 h2 => ?_) hs
  obtain ⟨it, fp, tn, J, H2, e, I2, T, st2, f2, W, ⟨m0, w0⟩, turn⟩ := h2
  subst e
  -- what stays true of the iterator's objects through the loop
  have stat : ∀ {H' : Hp}, (∀ b ∈ fp, H' b = none) → ∀ b ∈ fp, FpOk X pins H' b := fun hn b hb => ⟨hn b hb, (f2 b hb).2⟩
  refine codeAny_forLoop_any (fun n s' => ∃ i σ' H', Inv X pins σ' H' s' ∧ tn i s'.heap ∧ (∀ b ∈ fp, H' b = none) ∧ W i n σ' H') ?_ m0 ⟨0, σ, H2, I2, st2, fun b hb => (f2 b hb).1, w0⟩
  rintro n s3 ⟨i, σ3, H3, I3, st3, fr3, w3⟩
  rcases turn i n σ3 H3 w3 with ⟨stop, qn⟩ | ⟨go, N, hN, step⟩
  · refine wpAny_passesOwn hp (thn (T.done X rfl rfl rfl hc i pins s3 σ3 H3 X.xe I3 (stat fr3) st3 stop) fun r s4 ⟨hr, I4⟩ => ?_)
    subst hr
    exact wpAny_execs_nil ⟨σ3, H3, I4, qn⟩
  · refine wpAny_passesOwn hp (thn (T.item X rfl rfl rfl hc i pins s3 σ3 H3 X.xe I3 (stat fr3) st3 go) fun r s4 ⟨u, hr, h4⟩ => ?_)
    subst hr
    refine wpAny_passesOwn hp (thn h4 fun _ s5 ⟨x, H5, I5, r5, y5, st5, fr5⟩ => ?_)
    have I5' := I5.pinned (stat fr5) (T.obj _ _ st5)
    refine wpAny_passesOwn hp (thn (hg _ s5 σ3 H5 x u _ I5' r5 (step x H5 y5)) fun _ s6 ⟨σ6, H6, I6, q6⟩ => ?_)
    refine wpAny_passesOwn hp (thn (hb _ s6 σ6 H6 _ I6 q6) fun f s7 q7 => ?_)
    have again : ∀ {σ7 : St} {H7 : Hp}, Inv X (pins ++ pinsAt fp s5.heap) σ7 H7 s7 → N σ7 H7 → ∃ m, m < n ∧ ∃ i σ' H', Inv X pins σ' H' s7 ∧ tn i s7.heap ∧ (∀ b ∈ fp, H' b = none) ∧ W i m σ' H' := fun {σ7 H7} I7 n7 => by
      obtain ⟨m', hm, w7⟩ := hN σ7 H7 n7
      refine ⟨m', hm, i + 1, σ7, H7, I7.unpinned, T.keep _ _ _ st5 fun b hb o e => (I7.pin (b, o) (List.mem_append_right _ (List.mem_append_right _ (mem_pinsAt hb e)))).1, fun b hb => ?_, w7⟩
      obtain ⟨o, e, d⟩ := T.obj _ _ st5 b hb
      exact (I7.pin (b, o) (List.mem_append_right _ (List.mem_append_right _ (mem_pinsAt hb e)))).2.1
    cases f with
    | next => obtain ⟨σ7, H7, I7, n7⟩ := q7; exact again I7 n7
    | cont => obtain ⟨σ7, H7, I7, n7⟩ := q7; exact again I7 n7
    | brk => obtain ⟨σ7, H7, I7, q7⟩ := q7; exact ⟨σ7, H7, I7.unpinned, q7⟩
    | ret v => obtain ⟨x7, σ7, H7, I7, r7, q7⟩ := q7; exact ⟨x7, σ7, H7, I7.unpinned, r7, q7⟩
end

/-! ### the forms one uses -/
end L2

namespace L2
open PySem PySem.Spec PyProof.Rows

abbrev R2 := V → V → Hp → VK → Prop
/-- a two-place operation on values: f is binaryOp op, inplaceOp op or compareOp op -/
def OpR (X : Cx) (f : Value → Value → Sem Value) (r : R2) : Prop :=
  ∀ (pins : List (Addr × Obj)) (s : Shared) (σ : St) (H : Hp) (x y : V) (v u : Value) (Q : VK), Inv X pins σ H s → RelV x v → RelV y u → r x y H Q →
    wpAny (model X.prog X.w) X.A (f v u) (EP X pins σ Q) X.xe s
/-- a one-place operation -/
def UnR (X : Cx) (f : Value → Sem Value) (r : V → Hp → VK → Prop) : Prop :=
  ∀ (pins : List (Addr × Obj)) (s : Shared) (σ : St) (H : Hp) (x : V) (v : Value) (Q : VK), Inv X pins σ H s → RelV x v → r x H Q →
    wpAny (model X.prog X.w) X.A (f v) (EP X pins σ Q) X.xe s
/-- a call of a value that is known (a builtin, a type) with values -/
def CallR (X : Cx) (f : Value) (r : List V → Hp → VK → Prop) : Prop :=
  ∀ (pins : List (Addr × Obj)) (s : Shared) (σ : St) (H : Hp) (xs : List V) (us : List Value) (Q : VK), Inv X pins σ H s → Vals xs us → r xs H Q →
    wpAny (model X.prog X.w) X.A (call f us) (EP X pins σ Q) X.xe s
def tOp (r : R2) (ta tb : TE) : TE := fun σ H Q => ta σ H fun x H1 => tb σ H1 fun y H2 => r x y H2 Q
def tUn (r : V → Hp → VK → Prop) (ta : TE) : TE := fun σ H Q => ta σ H fun x H1 => r x H1 Q
/-- ints in, under C, and a value out -/
def rI (C : Int → Int → Prop) (g : Int → Int → V) : R2 := fun x y H Q => ∃ i j, x = .int i ∧ y = .int j ∧ C i j ∧ Q (g i j) H
def rI0 (g : Int → Int → V) : R2 := fun x y H Q => ∃ i j, x = .int i ∧ y = .int j ∧ Q (g i j) H
def rU (g : Int → V) : V → Hp → VK → Prop := fun x H Q => ∃ i, x = .int i ∧ Q (g i) H

section
variable {X : Cx} {a b c : Expr} {ta tb tc : TE} {pos : Pos}

theorem binT (ha : PE X a ta) (hb : PE X b tb) {pins : List (Addr × Obj)} {s : Shared} {σ : St} {H : Hp} {R : V → V → Hp → Prop} (I : Inv X pins σ H s)
    (h : ta σ H fun x H1 => tb σ H1 fun y H2 => R x y H2) {Q : Value → Shared → Prop} {f : Value → Value → Sem Value}
    (hf : ∀ v u s2 x y H2, Inv X pins σ H2 s2 → RelV x v → RelV y u → R x y H2 → wpAny (model X.prog X.w) X.A (f v u) Q X.xe s2) :
    wpAny (model X.prog X.w) X.A (eval a X.env) (fun v s₁ => wpAny (model X.prog X.w) X.A (eval b X.env) (fun u s₂ => wpAny (model X.prog X.w) X.A (f v u) Q X.xe s₂) X.xe s₁) X.xe s := by
  refine thn (ha pins s σ H _ I h) fun v s1 ⟨x, H1, I1, r1, q1⟩ => ?_
  refine thn (hb pins s1 σ H1 _ I1 q1) fun u s2 ⟨y, H2, I2, r2, q2⟩ => ?_
  exact hf v u s2 x y H2 I2 r1 r2 q2

theorem pe_op {op : Operator} {r : R2} (ho : OpR X (binaryOp op) r) (ha : PE X a ta) (hb : PE X b tb) : PE X (.BinOp a op b pos) (tOp r ta tb) := by
  intro pins s σ H Q I h
  exact wpAny_BinOp (binT ha hb I h fun v u s2 x y H2 I2 rx ry q => ho pins s2 σ H2 x y v u Q I2 rx ry q)
theorem pe_un {op : UnaryOp} {r : V → Hp → VK → Prop} (ho : UnR X (unaryOp op) r) (ha : PE X a ta) : PE X (.UnaryOp op a pos) (tUn r ta) := by
  intro pins s σ H Q I h
  exact UnaryOp_ (thn (ha pins s σ H _ I h) fun v s1 ⟨x, H1, I1, r1, q1⟩ => ho pins s1 σ H1 x v Q I1 r1 q1)
/-! ### ints -/
theorem opI {f : Value → Value → Sem Value} {C : Int → Int → Prop} {g : Int → Int → Int}
    (rule : ∀ (i j : Int) (t u : Tok) (s : Shared) (Q : Value → Shared → Prop) (E : Value → Shared → Prop), C i j → Q (.int (g i j) s.toks) { s with toks := s.toks + 1 } → wpAny (model X.prog X.w) X.A (f (.int i t) (.int j u)) Q E s) :
    OpR X f (rI C fun i j => .int (g i j)) := by
  intro pins s σ H x y v u Q I rx ry h
  obtain ⟨i, j, rfl, rfl, hc, q⟩ := h
  obtain ⟨t, rfl⟩ := rx
  obtain ⟨t', rfl⟩ := ry
  exact rule i j t t' s _ _ hc ⟨.int (g i j), H, I.tok _, ⟨_, rfl⟩, q⟩
theorem opI0 {f : Value → Value → Sem Value} {g : Int → Int → Int}
    (rule : ∀ (i j : Int) (t u : Tok) (s : Shared) (Q : Value → Shared → Prop) (E : Value → Shared → Prop), Q (.int (g i j) s.toks) { s with toks := s.toks + 1 } → wpAny (model X.prog X.w) X.A (f (.int i t) (.int j u)) Q E s) :
    OpR X f (rI0 fun i j => .int (g i j)) := by
  intro pins s σ H x y v u Q I rx ry h
  obtain ⟨i, j, rfl, rfl, q⟩ := h
  obtain ⟨t, rfl⟩ := rx
  obtain ⟨t', rfl⟩ := ry
  exact rule i j t t' s _ _ ⟨.int (g i j), H, I.tok _, ⟨_, rfl⟩, q⟩
theorem opB0 {f : Value → Value → Sem Value} {g : Int → Int → Bool}
    (rule : ∀ (i j : Int) (t u : Tok) (s : Shared) (Q : Value → Shared → Prop) (E : Value → Shared → Prop), Q (.bool (g i j)) s → wpAny (model X.prog X.w) X.A (f (.int i t) (.int j u)) Q E s) :
    OpR X f (rI0 fun i j => .bl (g i j)) := by
  intro pins s σ H x y v u Q I rx ry h
  obtain ⟨i, j, rfl, rfl, q⟩ := h
  obtain ⟨t, rfl⟩ := rx
  obtain ⟨t', rfl⟩ := ry
  exact rule i j t t' s _ _ ⟨.bl (g i j), H, I, rfl, q⟩

def CDiv (i j : Int) : Prop := 0 < j ∧ j < 1073741824
def CMul (i j : Int) : Prop := (-(2 ^ 64) < i ∧ i < 2 ^ 64) ∨ (-(2 ^ 64) < j ∧ j < 2 ^ 64)
theorem CMul.ok {i j : Int} (h : CMul i j) : IntMulOk i j := by
  rcases h with ⟨h1, h2⟩ | ⟨h1, h2⟩
  · exact .of_left (intBits_le_64 h1 h2)
  · exact .of_right (intBits_le_64 h1 h2)
theorem two_pow_nn (k : Nat) : (0 : Int) ≤ 2 ^ k := by
  rw [two_pow_cast]
  exact Int.natCast_nonneg _

theorem op_add : OpR X (binaryOp .Add) (rI0 fun i j => .int (i + j)) := opI0 fun _ _ _ _ _ _ _ q => add_int q
theorem op_sub : OpR X (binaryOp .Sub) (rI0 fun i j => .int (i - j)) := opI0 fun _ _ _ _ _ _ _ q => sub_int q
/-- // by a positive divisor -/
theorem op_fdiv : OpR X (binaryOp .FloorDiv) (rI CDiv fun i j => .int (i / j)) := opI fun i j _ _ _ _ _ hc q => by
  have h1 : (0 : Int) < j := hc.1
  have h2 : j < 1073741824 := hc.2
  exact floordiv_int (by omega) (by rw [Int.fdiv_eq_ediv_of_nonneg i (by omega)]; exact q) (.inl (PyProof.noPylong_small (by omega)))
/-- % by a positive divisor of any size -/
theorem op_mod : OpR X (binaryOp .Mod) (rI (fun _ j => 0 < j) fun i j => .int (i % j)) := opI fun i j _ _ _ _ _ hc q => by
  have h1 : (0 : Int) < j := hc
  exact mod_int' (by omega) (by rw [Int.fmod_eq_emod_of_nonneg i (by omega)]; exact q)
theorem op_shr : OpR X (binaryOp .RShift) (rI (fun _ j => 0 ≤ j) fun i j => .int (i / 2 ^ j.toNat)) := opI fun i j _ _ _ _ _ hc q =>
  rshift_int hc (by rw [Int.fdiv_eq_ediv_of_nonneg i (two_pow_nn _)]; exact q)
theorem op_and : OpR X (binaryOp .BitAnd) (rI0 fun i j => .int (Builtin.bitAnd i j)) := opI0 fun _ _ _ _ _ _ _ q => and_int q
theorem op_or : OpR X (binaryOp .BitOr) (rI0 fun i j => .int (Builtin.bitOr i j)) := opI0 fun _ _ _ _ _ _ _ q => or_int q
theorem op_xor : OpR X (binaryOp .BitXor) (rI0 fun i j => .int (Builtin.bitXor i j)) := opI0 fun _ _ _ _ _ _ _ q => xor_int q

theorem unI {f : Value → Sem Value} {g : Int → Int}
    (rule : ∀ (i : Int) (t : Tok) (s : Shared) (Q : Value → Shared → Prop) (E : Value → Shared → Prop), Q (.int (g i) s.toks) { s with toks := s.toks + 1 } → wpAny (model X.prog X.w) X.A (f (.int i t)) Q E s) :
    UnR X f (rU fun i => .int (g i)) := by
  intro pins s σ H x v Q I rx h
  obtain ⟨i, rfl, q⟩ := h
  obtain ⟨t, rfl⟩ := rx
  exact rule i t s _ _ ⟨.int (g i), H, I.tok _, ⟨_, rfl⟩, q⟩
theorem un_neg : UnR X (unaryOp .USub) (rU fun i => .int (-i)) := unI fun _ _ _ _ _ q => neg_int q
/-! ### bools among ints: n += (a < b) -/
end

/-! ### comparisons -/
section
variable {X : Cx} {a b c : Expr} {ta tb tc : TE} {pos : Pos}
theorem op_lt : OpR X (compareOp .Lt) (rI0 fun i j => .bl (decide (i < j))) := opB0 fun _ _ _ _ _ _ _ q => lt_int q
theorem op_gt : OpR X (compareOp .Gt) (rI0 fun i j => .bl (decide (j < i))) := opB0 fun _ _ _ _ _ _ _ q => gt_int q
/-- two rules for one operation: by cases -/
theorem OpR.or {f : Value → Value → Sem Value} {r r' : R2} (h : OpR X f r) (h' : OpR X f r') : OpR X f (fun x y H Q => r x y H Q ∨ r' x y H Q) := by
  intro pins s σ H x y v u Q I rx ry q
  rcases q with q | q
  · exact h pins s σ H x y v u Q I rx ry q
  · exact h' pins s σ H x y v u Q I rx ry q

theorem nomark (b : Expr) {op : CmpOp} (h : op ≠ .In := by decide) (h2 : op ≠ .NotIn := by decide) : behindInMarks op b = false := by
  have e1 : (op == CmpOp.In) = false := by cases op <;> first | rfl | exact absurd rfl h
  have e2 : (op == CmpOp.NotIn) = false := by cases op <;> first | rfl | exact absurd rfl h2
  cases b <;> simp [behindInMarks, e1, e2]
/-- a comparison as a value; hm: nomark b, or (for in, not in) by with_unfolding_all rfl -/
theorem pe_cmpR {op : CmpOp} {r : R2} (ho : OpR X (compareOp op) r) (ha : PE X a ta) (hb : PE X b tb) (hm : behindInMarks op b = false) : PE X (.Compare a [op] [b] pos) (tOp r ta tb) := by
  intro pins s σ H Q I h
  exact wpAny_Compare1 (binT ha hb I h fun v u s2 x y H2 I2 rx ry q => ho pins s2 σ H2 x y v u Q I2 rx ry q) hm
/-- a reading of a value as a test -/
def tTest (t : TE) : TT := fun σ H Q => t σ H fun x H' => ∃ k, x = .bl k ∧ Q k H'
theorem pt_cmpR {op : CmpOp} {r : R2} (ho : OpR X (compareOp op) r) (ha : PE X a ta) (hb : PE X b tb) (hm : behindInMarks op b = false) : PT X (.Compare a [op] [b] pos) (tTest (tOp r ta tb)) := by
  intro pins s σ H Q I h
  refine wpAny_isTrue_Compare1 (thn (ha pins s σ H _ I h) fun v s1 ⟨x, H1, I1, r1, q1⟩ => thn (hb pins s1 σ H1 _ I1 q1) fun u s2 ⟨y, H2, I2, r2, q2⟩ =>
    thn (ho pins s2 σ H2 x y v u _ I2 r1 r2 q2) fun c s3 ⟨z, H3, I3, r3, k, e, q3⟩ => ?_) hm
  subst e
  cases r3
  exact wpAny_truthy_bool ⟨H3, I3, q3⟩
/-! ### truth -/
theorem line63 : (sizeLine : Nat) < 2 ^ 63 := by rw [sizeLine_eq]; decide
/-! ### strs and bytes -/
theorem op_add_str : OpR X (binaryOp .Add) (fun x y H Q => ∃ i j, x = .str i ∧ y = .str j ∧ i.length + j.length ≤ sizeLine ∧ Q (.str (i ++ j)) H) := by
  intro pins s σ H x y v u Q I rx ry h
  obtain ⟨i, j, rfl, rfl, hz, q⟩ := h
  obtain ⟨t, rfl⟩ := rx
  obtain ⟨t', rfl⟩ := ry
  exact add_str (fun t' tk => ⟨.str (i ++ j), H, I.tok _, ⟨_, rfl⟩, q⟩) hz
/-! ### scalar builtins, by CallR -/
theorem vals1 {x : V} {us : List Value} (r : Vals [x] us) : ∃ u, us = [u] ∧ RelV x u := by
  cases r with
  | cons r1 r2 => cases r2; exact ⟨_, rfl, r1⟩
theorem vals2 {x y : V} {us : List Value} (r : Vals [x, y] us) : ∃ u w', us = [u, w'] ∧ RelV x u ∧ RelV y w' := by
  cases r with
  | cons r1 r2 =>
    cases r2 with
    | cons r3 r4 => cases r4; exact ⟨_, _, rfl, r1, r3⟩
theorem call_max2 (hc : X.calm = true) : CallR X (.builtin "max") (fun xs H Q => ∃ i j, xs = [.int i, .int j] ∧ Q (.int (if j > i then j else i)) H) := by
  intro pins s σ H xs us Q I r h
  obtain ⟨i, j, rfl, q⟩ := h
  obtain ⟨u, w', rfl, ⟨t, rfl⟩, ⟨t', rfl⟩⟩ := vals2 r
  refine max_two_ints (I.ok.hd hc) fun h' tk k => ⟨_, H, I.kept k, ?_, q⟩
  by_cases hj : j > i
  · rw [if_pos hj, if_pos hj]; exact ⟨_, rfl⟩
  · rw [if_neg hj, if_neg hj]; exact ⟨_, rfl⟩
theorem call_min2 (hc : X.calm = true) : CallR X (.builtin "min") (fun xs H Q => ∃ i j, xs = [.int i, .int j] ∧ Q (.int (if j < i then j else i)) H) := by
  intro pins s σ H xs us Q I r h
  obtain ⟨i, j, rfl, q⟩ := h
  obtain ⟨u, w', rfl, ⟨t, rfl⟩, ⟨t', rfl⟩⟩ := vals2 r
  refine min_two_ints (I.ok.hd hc) fun h' tk k => ⟨_, H, I.kept k, ?_, q⟩
  by_cases hj : j < i
  · rw [if_pos hj, if_pos hj]; exact ⟨_, rfl⟩
  · rw [if_neg hj, if_neg hj]; exact ⟨_, rfl⟩
/-- len of a str, a bytes, a list, a tuple -/
def LenV (K : PySem.W.Frag) (x : V) (H : Hp) (n : Nat) : Prop :=
  match x with
  | .str y => y.length ≤ sizeLine ∧ n = y.length
  | .byt y => y.size ≤ sizeLine ∧ n = y.size
  | .ref p => (∃ xs, SqL K H p xs ∧ n = xs.length) ∨ ∃ xs, SqT K H p xs ∧ n = xs.length
  | _ => False
theorem call_len : CallR X (.builtin "len") (fun xs H Q => ∃ x n, xs = [x] ∧ LenV X.K x H n ∧ Q (.int n) H) := by
  intro pins s σ H xs us Q I r h
  obtain ⟨x, n, rfl, e, q⟩ := h
  obtain ⟨u, rfl, rx⟩ := vals1 r
  have hl := line63
  have hs : sizeLine = 16777216 := sizeLine_eq
  cases x with
  | str y =>
    obtain ⟨t, rfl⟩ := rx
    obtain ⟨hy, e'⟩ : y.length ≤ sizeLine ∧ n = y.length := e
    subst e'
    exact len_str (by omega) ⟨.int _, H, I.tok _, ⟨_, rfl⟩, q⟩
  | byt y =>
    obtain ⟨t, rfl⟩ := rx
    obtain ⟨hy, e'⟩ : y.size ≤ sizeLine ∧ n = y.size := e
    subst e'
    exact PySem.W.len_bytes (by omega) ⟨.int _, H, I.tok _, ⟨_, rfl⟩, q⟩
  | ref p =>
    cases rx
    have e' : (∃ xs, SqL X.K H p xs ∧ n = xs.length) ∨ ∃ xs, SqT X.K H p xs ∧ n = xs.length := e
    rcases e' with ⟨xs, hx, e'⟩ | ⟨xs, hx, e'⟩
    · subst e'
      obtain ⟨its, r', pl, hz⟩ := I.list hx
      have hlen := r'.length
      exact Calls.call_len_list pl.isList (by simp only [List.size_toArray]; omega) ⟨.int xs.length, H, I.tok _, ⟨_, by simp only [List.size_toArray]; rw [hlen]⟩, q⟩
    · subst e'
      obtain ⟨its, r', pl, hz⟩ := I.tuple hx
      have hlen := r'.length
      exact len_tuple pl (by simp only [List.size_toArray]; omega) ⟨.int xs.length, H, I.tok _, ⟨_, by simp only [List.size_toArray]; rw [hlen]⟩, q⟩
  | _ => exact (show False from e).elim
end
end L2

namespace L2
open PySem PySem.Spec PyProof.Rows

/-! ### an instance, its attributes a map -/
structure ObjM (h : Heap) (x dx C : Addr) (mA : Str → Option Value) : Prop where
  obj : h.get? x = some (PySem.W.instObj C dx)
  ns : h.Ns1 dx mA
  ne : dx ≠ x

theorem lookIn_ns {h : Heap} {dx : Addr} {mA : Str → Option Value} (n : h.Ns1 dx mA) : ∃ od, h.get? dx = some od ∧ ∀ name, PySem.W.lookIn name od = some (mA name) := by
  obtain ⟨o, es, ep, ho, hd, hk, _, hm⟩ := n
  refine ⟨o, ho, fun name => ?_⟩
  have e := hm name
  unfold nsFind findBy at e
  rw [← Array.find?_toList] at e
  unfold PySem.W.lookIn
  rw [hd]
  dsimp only
  split
  · rename_i y q
    rw [q] at e
    exact congrArg some e
  · rename_i q
    rw [q] at e
    have a : es.toList.any (·.refKey) = false := by
      rw [List.any_eq_false]
      intro y hy
      obtain ⟨z, t, hkey⟩ := hk y (Array.mem_toList_iff.mp hy)
      simp [DictEntry.refKey, hkey]
    have a' : ¬ es.toList.any (·.refKey) = true := by rw [a]; exact Bool.false_ne_true
    rw [if_neg a']
    exact congrArg some e

theorem ObjM.look {h : Heap} {x dx C : Addr} {mA : Str → Option Value} (I : ObjM h x dx C mA) : ∃ od, PySem.W.InstAt h x (PySem.W.instObj C dx) C (some od) ∧ ∀ name, PySem.W.lookIn name od = some (mA name) :=
  let ⟨od, ho, hl⟩ := lookIn_ns I.ns
  ⟨od, ⟨I.obj, rfl, rfl, ho⟩, hl⟩

section
variable {prog : Program} {w : World} {A : Around} {E : Value → Shared → Prop} {s : Shared} {K : PySem.W.Frag} {x dx C f : Addr} {mA : Str → Option Value} {name : Str} {v : Value}

end

/-! ### the attributes as a list of pairs -/
section
variable {P : Program} {w : World} {H H' : Hp} {h h' : Heap} {a C dx : Addr} {fs fs' : List (Str × V)}
end

/-! ### what of the text a class must have -/
structure Cls (K : PySem.W.Frag) (C : Addr) : Prop where
  pg : PySem.W.plainGet K C Str.empty = true
  hd : PySem.W.hasDictIn K C = true
  po : PySem.W.plainOver K C = true
  sa : PySem.W.findIn K (.ref C) "__setattr__" = some (some (.builtin "object.__setattr__"))
theorem Cls.get {K : PySem.W.Frag} {C : Addr} (c : Cls K C) (f : Str) : PySem.W.plainGet K C f = true := c.pg
/-- a constant of the class -/
structure Con (K : PySem.W.Frag) (C : Addr) (f : Str) (v : V) (u : Value) : Prop where
  at_ : PySem.W.findIn K (.ref C) f = some (some u)
  rel : RelV v u
  get : PySem.W.specialIn K u "__get__" = some none
  cp : PySem.W.copiedNames.contains f = false
/-- a method: a plain def of the class or of one above it -/
structure Meth (K : PySem.W.Frag) (C : Addr) (m : Str) (f : Addr) : Prop where
  at_ : PySem.W.findIn K (.ref C) m = some (some (.ref f))
  fn : PySem.W.isFn K (.ref f) = true
  kp : PySem.W.keepIn K (.ref f) = true

section
variable {X : Cx} {pins : List (Addr × Obj)} {σ : St} {H : Hp} {s : Shared} {a C dx : Addr} {fs : List (Str × V)} {f : Str} {v : V} {A : Around} {E : Value → Shared → Prop}

/-- a new instance, tracked, without attributes -/
theorem Inv.made (I : Inv X pins σ H s) : Inv X pins σ (upd (upd H s.heap.objs.size (.own (s.heap.objs.size + 1))) (s.heap.objs.size + 1) (.ins C s.heap.objs.size []))
    { s with heap := (s.heap.push PySem.W.emptyDict).push (PySem.W.instObj C s.heap.objs.size) } := by
  have e1 : (s.heap.push PySem.W.emptyDict).get? s.heap.objs.size = some PySem.W.emptyDict := Heap.get?_push_size s.heap rfl
  have e2 : ((s.heap.push PySem.W.emptyDict).push (PySem.W.instObj C s.heap.objs.size)).get? (s.heap.objs.size + 1) = some (PySem.W.instObj C s.heap.objs.size) := by
    have := Heap.get?_push_size (s.heap.push PySem.W.emptyDict) (o := PySem.W.instObj C s.heap.objs.size) rfl
    rwa [Heap.size_push] at this
  have e3 : (s.heap.push PySem.W.emptyDict).Ns s.heap.objs.size (fun _ => none) := ⟨PySem.W.emptyDict, #[], _, e1, rfl, (fun e he => absurd he (by simp)), fun _ => rfl⟩
  have I1 := I.laid (a := s.heap.objs.size) (o := .own (s.heap.objs.size + 1)) (h' := s.heap.push PySem.W.emptyDict) (t' := s.toks) (fun b u q => Heap.get?_push_of_some _ q) (Nat.le_refl _) ⟨_, e1⟩
  refine I1.laid (a := s.heap.objs.size + 1) (o := .ins C s.heap.objs.size []) (t' := s.toks) (fun b u q => Heap.get?_push_of_some _ q) (Nat.le_of_eq (Heap.size_push _ _)) ?_
  have ne : s.heap.objs.size ≠ s.heap.objs.size + 1 := Nat.ne_of_lt (Nat.lt_succ_self _)
  refine ⟨by rw [upd_ne ne, upd_same], Nat.zero_le _, ne, e2, fun _ => none, (Heap.Ns1.of_empty e3).at fun o q => Heap.get?_push_of_some _ q, fun _ => True.intro, fun y hy => absurd rfl hy⟩

end

/-! ### readings and rules -/
section
variable {X : Cx} {o e value : Expr} {f : Str} {pos pos' tpos : Pos} {ta tv : TE}
end

/-! ### isinstance -/
section
variable {X : Cx} {pins : List (Addr × Obj)} {σ : St} {H : Hp} {s : Shared} {A : Around} {E : Value → Shared → Prop} {Q : Value → Shared → Prop} {c : Value} {b : Bool}
/-- the type of a value, as the fragment's deciders take it; for an instance its class -/
inductive TyOf (K : PySem.W.Frag) (H : Hp) : V → Value → Prop where
  | non : TyOf K H .non (.type "NoneType")
  | bl (x : Bool) : TyOf K H (.bl x) (.type "bool")
  | int (i : Int) : TyOf K H (.int i) (.type "int")
  | str (x : Str) : TyOf K H (.str x) (.type "str")
  | flt (x : UInt64) : TyOf K H (.flt x) (.type "float")
  | lst {a : Addr} {xs : List V} (e : H a = some (.lst xs)) : TyOf K H (.ref a) (.type "list")
  | frz {a : Addr} {o : Obj} {xs : List V} (e : H a = some (.frz o (.lst xs))) : TyOf K H (.ref a) (.type "list")
  | tup {a : Addr} {xs : List V} (e : H a = some (.tup xs)) : TyOf K H (.ref a) (.type "tuple")
  | dK {a : Addr} {kvs : List (Key × V)} (e : H a = some (.dK kvs)) : TyOf K H (.ref a) (.type "dict")
  | dT {a : Addr} {kvs : List (List Key × V)} (e : H a = some (.dT kvs)) : TyOf K H (.ref a) (.type "dict")
  | ins {a C dx : Addr} {fs : List (Str × V)} (e : H a = some (.ins C dx fs)) (cl : Cls K C) (ha : PySem.W.findIn K (.ref C) "__class__" = some (some (.builtin "object.__class__")))
      (hn : PySem.W.specialIn K (.builtin "object.__class__") "__get__" = some (some (.builtin "getset_descriptor.__get__"))) (htk : PySem.W.takesIn K (.builtin "object.__class__") = some true)
      (hm : PySem.W.mroIn K C (.type "object") = some true) : TyOf K H (.ref a) (.ref C)
end
end L2

namespace L2
open PySem PySem.Spec PyProof.Rows

/-! ### room -/
structure Room (k : Nat) (A : Around) : Prop where
  hd : A.handled = none
  dp : A.depth + 3 * k + 5 < recursionLimit
  un : A.units + 16 * k + 200 < cLine
theorem Room.mono {j k : Nat} {A : Around} (r : Room k A) (h : j ≤ k) : Room j A := ⟨r.hd, by have := r.dp; omega, by have := r.un; omega⟩
theorem Room.deeper {k : Nat} {A : Around} (r : Room (k + 1) A) (env : Env) : Room k (A.deeper env) :=
  ⟨r.hd, by have := r.dp; show A.depth + 1 + 3 * k + 5 < _; omega, by have := r.un; show A.units + 3 + 16 * k + 200 < _; omega⟩
theorem Room.in1 {k : Nat} {A : Around} (r : Room (k + 1) A) : Room k A.in1 :=
  ⟨r.hd, by have := r.dp; show A.depth + 3 * k + 5 < _; omega, by have := r.un; show A.units + 1 + 16 * k + 200 < _; omega⟩
theorem Room.depth {k : Nat} {A : Around} (r : Room k A) : A.depth < recursionLimit := by have := r.dp; omega
theorem Room.units {k : Nat} {A : Around} (r : Room k A) : A.units + 64 < cLine := by have := r.un; omega
/-! ### argument lists and displays -/
def tNil : TA := fun _ H Q => Q [] H
def tCons (ta : TE) (tr : TA) : TA := fun σ H Q => ta σ H fun x H1 => tr σ H1 fun xs H2 => Q (x :: xs) H2
section
variable {X : Cx} {e : Expr} {es : List Expr} {te : TE} {t : TA} {pos : Pos}
theorem pa_nil : PA X [] tNil := fun _ _ _ _ H Q I h => Calls.spliced_nil ⟨[], H, I, .nil, h⟩
theorem pa_cons (ha : PE X e te) (hr : PA X es t) (hs : starEach (e :: es) X.env = (false, eval e X.env) :: starEach es X.env := by rfl) : PA X (e :: es) (tCons te t) := by
  intro pos pins s σ H Q I h
  rw [hs]
  show wpAny _ _ (spliced ((false, eval e X.env) :: backTo pos (starEach es X.env))) _ _ s
  refine Calls.spliced_cons (thn (ha pins s σ H _ I h) fun u s1 ⟨x, H1, I1, r1, q1⟩ => ?_)
  exact thn (hr pos pins s1 σ H1 _ I1 q1) fun us s2 ⟨xs, H2, I2, r2, q2⟩ => ⟨x :: xs, H2, I2, .cons r1 r2, q2⟩

/-- a tuple, a list of written items -/
def tTup (t : TA) : TE := fun σ H Q => t σ H fun xs H1 => xs.length ≤ sizeLine ∧ ∀ p, H1 p = none → Q (.ref p) (upd H1 p (.tup xs))
def tLst (t : TA) : TE := fun σ H Q => t σ H fun xs H1 => xs.length ≤ sizeLine ∧ ∀ p, H1 p = none → Q (.ref p) (upd H1 p (.lst xs))
theorem pe_tup {x1} (h : PA X es t) : PE X (.Tuple es x1 pos) (tTup t) := by
  intro pins s σ H Q I hq
  refine wpAny_Tuple_spliced (thn (h pos pins s σ H _ I hq) fun us s1 ⟨xs, H1, I1, r, z, q⟩ => ⟨by rw [← r.length]; exact z, ?_⟩)
  have hf : H1 s1.heap.objs.size = none := I1.hok.fresh (Nat.le_refl _)
  refine ⟨.ref s1.heap.objs.size, upd H1 s1.heap.objs.size (.tup xs), I1.laid (t' := s1.toks) (fun b u e => Heap.get?_push_of_some _ e) (Nat.le_refl _) ?_, rfl, q _ hf⟩
  exact ⟨z, us, r, ⟨_, Heap.get?_push_size _ rfl, rfl, _, rfl⟩⟩
theorem pe_lst (h : PA X es t) : PE X (.List es pos) (tLst t) := by
  intro pins s σ H Q I hq
  refine wpAny_List_spliced (thn (h pos pins s σ H _ I hq) fun us s1 ⟨xs, H1, I1, r, z, q⟩ => ⟨by rw [← r.length]; exact z, ?_⟩)
  have hf : H1 s1.heap.objs.size = none := I1.hok.fresh (Nat.le_refl _)
  refine ⟨.ref s1.heap.objs.size, upd H1 s1.heap.objs.size (.lst xs), I1.laid (t' := s1.toks) (fun b u e => Heap.get?_push_of_some _ e) (Nat.le_refl _) ?_, rfl, q _ hf⟩
  exact ⟨z, us, 0, r, Heap.get?_push_size _ rfl⟩
end

/-! ### what a def promises -/
/-- a def's promise: the bound arguments in the parameters' order, the heap, the wanted end, the wanted exception -/
abbrev Sp := List V → Hp → VK → XK → Prop
/-- how an exception lies behind a call (file 08 gives it): the callers' frames, abstract heap and state ahead of the call, the wish, the exception, the state -/
abbrev CXT := List Env → Hp → Shared → XK → Value → Shared → Prop

/-- the state at a call -/
structure Env0 (P : Program) (w : World) (K : PySem.W.Frag) (mg : Str → Option Value) (base : Heap) (A : Around) (outer : List Env) (s : Shared) (H : Hp) : Prop where
  frames : A.frames = some outer
  mod : Mod K mg base
  bs : ∀ b o, base.get? b = some o → s.heap.get? b = some o ∧ H b = none
  bsz : base.objs.size ≤ s.heap.objs.size
  funs : s.heap.FunFrames base outer
  frf : ∀ b ∈ frs outer, H b = none
  hok : HOk P w H s.heap
  bare : AllBare s.gens
/-- a call's end -/
def CE (outer : List Env) (P : Program) (w : World) (H : Hp) (s : Shared) (Q : VK) (u : Value) (s' : Shared) : Prop :=
  ∃ v H', s'.os = s.os ∧ AllBare s'.gens ∧ Un (frs outer) [] H H' s.heap s'.heap ∧ HOk P w H' s'.heap ∧ RelV v u ∧ Q v H'
def CR (CX : CXT) (outer : List Env) (P : Program) (w : World) (H : Hp) (s : Shared) (Q : VK) (E : XK) (r : Result) (s' : Shared) : Prop :=
  match r with
  | .ok (.ret u) => CE outer P w H s Q u s'
  | .ok _ => False
  | .error e => CX outer H s E e s'
structure FnOk (P : Program) (w : World) (K : PySem.W.Frag) (mg : Str → Option Value) (base : Heap) (CX : CXT) (k : Nat) (f : Addr) (fd : FuncData) (ps : List Str) (sp : Sp) : Prop where
  len : ∀ vs H Q E, sp vs H Q E → vs.length = ps.length
  run : ∀ (A : Around) (outer : List Env) (s : Shared) (H : Hp) (args : Args) (us : List Value) (vs : List V) (Q : VK) (E : XK), Room k A → Env0 P w K mg base A outer s H → BindsTo s fd args (ps.zip us) → Vals vs us → sp vs H Q E →
    codeAny (model P w) A (.call (.ref f) args) (CR CX outer P w H s Q E) s
theorem FnOk.mono {P : Program} {w : World} {K : PySem.W.Frag} {mg : Str → Option Value} {base : Heap} {CX : CXT} {j k : Nat} {f : Addr} {fd : FuncData} {ps : List Str} {sp : Sp} (F : FnOk P w K mg base CX j f fd ps sp) (h : j ≤ k) :
    FnOk P w K mg base CX k f fd ps sp := ⟨F.len, fun A outer s H args us vs Q E hr => F.run A outer s H args us vs Q E (hr.mono h)⟩
/-- a weaker promise -/
theorem FnOk.imp {P : Program} {w : World} {K : PySem.W.Frag} {mg : Str → Option Value} {base : Heap} {CX : CXT} {k : Nat} {f : Addr} {fd : FuncData} {ps : List Str} {sp sp' : Sp} (F : FnOk P w K mg base CX k f fd ps sp)
    (h : ∀ vs H Q E, sp' vs H Q E → sp vs H Q E) : FnOk P w K mg base CX k f fd ps sp' :=
  ⟨fun vs H Q E q => F.len vs H Q E (h _ _ _ _ q), fun A outer s H args us vs Q E hr he hb hv hs => F.run A outer s H args us vs Q E hr he hb hv (h _ _ _ _ hs)⟩

theorem Env0.in1 {P : Program} {w : World} {K : PySem.W.Frag} {mg : Str → Option Value} {base : Heap} {A : Around} {outer : List Env} {s : Shared} {H : Hp} (e : Env0 P w K mg base A outer s H) :
    Env0 P w K mg base A.in1 outer s H := ⟨e.frames, e.mod, e.bs, e.bsz, e.funs, e.frf, e.hok, e.bare⟩

section
variable {X : Cx} {pins : List (Addr × Obj)} {σ : St} {H : Hp} {s s' : Shared}
/-- from a body: what a callee wants -/
theorem Inv.env0 (I : Inv X pins σ H s) : Env0 X.prog X.w X.K X.mg X.base X.A X.stack s H :=
  ⟨I.ok.frames, I.ok.mod, I.bs, Nat.le_trans I.ok.bsz I.sz, I.stack, I.stkFree, I.hok, I.bare⟩
/-- behind a call -/
theorem Inv.after {Q : VK} {u : Value} (I : Inv X pins σ H s) (h : CE X.stack X.prog X.w H s Q u s') : EP X pins σ Q u s' := by
  obtain ⟨v, H', os, bare, un, hok, r, q⟩ := h
  obtain ⟨hh, g, d, t, os'⟩ := s'
  obtain rfl : os' = s.os := os
  exact ⟨v, H', I.call (h' := hh) (g' := g) (d' := d) (t' := t) (ch := []) un hok bare (fun b z => absurd z (by simp)), r, q⟩
end

/-! ### calls -/
/-- f(..): the written arguments, then the defaults dvs; E: what is wanted of an exception -/
def tCall (sp : Sp) (dvs : List V) (E : XK) (t : TA) : TE := fun σ H Q => t σ H fun vs H1 => sp (vs ++ dvs) H1 Q E
/-- how the parameters are bound: us the positional arguments, kw the keywords' values by name, ds the defaults that fill up -/
def Binds (K : PySem.W.Frag) (fd : FuncData) (ps : List Str) (ds : List Value) : Prop :=
  ∀ (s : Shared) (us : List Value), K.In s.heap → (us ++ ds).length = ps.length → BindsTo s fd ⟨us, []⟩ (ps.zip (us ++ ds))
/-- every parameter is given -/
theorem Binds.all {K : PySem.W.Frag} {fd : FuncData} {ps : List Str} (h : ∀ us : List Value, us.length = ps.length → bindArgs fd ⟨us, []⟩ = pure (ps.zip us)) : Binds K fd ps [] := fun s us _ hl => by
  rw [List.append_nil] at hl ⊢
  exact .of_eq (h us hl)

/-- an exception of a callee reaches what this body wants of exceptions -/
def Passes (CX : CXT) (X : Cx) (E : XK) : Prop := ∀ (pins : List (Addr × Obj)) (σ : St) (H : Hp) (s : Shared) (e : Value) (s' : Shared), Inv X pins σ H s → CX X.stack H s E e s' → X.xe e s'

section
variable {X : Cx} {CX : CXT} {k : Nat} {f C : Addr} {fd : FuncData} {ps : List Str} {sp : Sp} {dvs : List V} {ds : List Value} {E : XK} {x m : Str} {p pos apos : Pos} {e o : Expr} {es : List Expr} {ta : TE} {t : TA}

/-- the callee runs -/
theorem run_fn {pins : List (Addr × Obj)} {σ : St} {H : Hp} {s : Shared} {Q : VK} {us : List Value} {vs : List V} (F : FnOk X.prog X.w X.K X.mg X.base CX k f fd ps sp) (hr : Room k X.A) (hb : Binds X.K fd ps ds) (hd : Vals dvs ds) (hx : Passes CX X E)
    (I : Inv X pins σ H s) (r : Vals vs us) (h : sp (vs ++ dvs) H Q E) : wpAny (model X.prog X.w) X.A (call (.ref f) us) (EP X pins σ Q) X.xe s := by
  have r2 : Vals (vs ++ dvs) (us ++ ds) := r.append hd
  have hl : (us ++ ds).length = ps.length := by rw [← r2.length]; exact F.len _ _ _ _ h
  refine wpAny_call (codeAny_mono (F.run X.A X.stack s H ⟨us, []⟩ (us ++ ds) (vs ++ dvs) Q E hr I.env0 (hb s us I.kIn hl) r2 h) fun r s' hq => ?_)
  cases r with
  | error e => exact hx pins σ H s e s' I hq
  | ok fl =>
    cases fl with
    | ret u => exact I.after hq
    | next => exact False.elim hq
    | brk => exact False.elim hq
    | cont => exact False.elim hq

theorem pe_call (F : FnOk X.prog X.w X.K X.mg X.base CX k f fd ps sp) (hr : Room k X.A) (hg : Gl X x) (hm : X.mg x = some (.ref f)) (hk : PySem.W.keepIn X.K (.ref f) = true) (hb : Binds X.K fd ps ds) (hd : Vals dvs ds) (hx : Passes CX X E)
    (ha : PA X (e :: es) t) (hdb : (x == ("__debug__" : Str)) = false := by decide) (he : starEach (e :: es) X.env = (false, eval e X.env) :: starEach es X.env := by rfl) (hpl : (backTo pos (starEach es X.env)).any (·.1) = false := by rfl) :
    PE X (.Call (.Name x p) (e :: es) [] pos) (tCall sp dvs E t) := by
  intro pins s σ H Q I h
  refine wpAny_Call_Name_kw (ld_glob I hg hm ?_ hdb)
  refine PySem.W.callWith_K (h₀ := X.base) I.ok.mod.kin hk (thn (ha pos pins s σ H _ I h) fun us s1 ⟨vs, H1, I1, r, q⟩ => ⟨I1.kIn, ?_⟩) he hpl
  exact run_fn F hr hb hd hx I1 r q
/-- what a class must have to be made -/
structure Mk (K : PySem.W.Frag) (C f : Addr) : Prop where
  makes : PySem.W.makesIn K C = true
  init : PySem.W.findIn K (.ref C) "__init__" = some (some (.ref f))
  fn : PySem.W.isFn K (.ref f) = true
  kp : PySem.W.keepIn K (.ref C) = true

end

/-! ### keywords -/
section
variable {X : Cx} {CX : CXT} {k : Nat} {f C : Addr} {fd : FuncData} {ps ks : List Str} {sp : Sp} {E : XK} {x m : Str} {p pos apos kpos : Pos} {e o : Expr} {es : List Expr} {kws : List Keyword} {te ta : TE} {t tk : TA} {nm : Option Str}
/-- how a call with keywords binds: g puts the positional values us and the keywords' values ws (names ks) in the parameters' order, defaults among them -/
structure KBinds (K : PySem.W.Frag) (fd : FuncData) (ps ks : List Str) (g : List Value → List Value → List Value) (gV : List V → List V → List V) : Prop where
  to : ∀ (s : Shared) (us ws : List Value), K.In s.heap → (g us ws).length = ps.length → BindsTo s fd ⟨us, ks.zip ws⟩ (ps.zip (g us ws))
  rel : ∀ {vs : List V} {us : List Value} {zs : List V} {ws : List Value}, Vals vs us → Vals zs ws → Vals (gV vs zs) (g us ws)
variable {g : List Value → List Value → List Value} {gV : List V → List V → List V}
end

/-! ### a def's body keeps its promise -/
/-- names: the parameters first -/
structure FnScope (N P : List Str) (sc : Scope) : Prop where
  kind : sc.kind = .function
  co : sc.isCoroutine = false
  gen : sc.isGenerator = false
  nd : N.Nodup
  pre : N.take P.length = P
  par : ∀ x ∈ P, sc.names.lookup x = some .local ∨ sc.names.lookup x = some .cell
  nofree : ∀ y ∈ sc.names, y.2 ≠ .free

theorem bindL_out {kindOf : Str → Option NameKind} {x : Str} : ∀ {binds : List (Str × Value)} {m : Str → Option Value}, (∀ v, (x, v) ∉ binds) → bindL kindOf binds m x = m x
  | [], _, _ => rfl
  | (n, v) :: r, m, h => by
    unfold bindL
    rw [bindL_out fun w hw => h w (List.mem_cons_of_mem _ hw)]
    split
    · have : x ≠ n := by rintro rfl; exact h v List.mem_cons_self
      simp [this]
    · rfl
theorem bindC_out {kindOf : Str → Option NameKind} {x : Str} : ∀ {binds : List (Str × Value)} {m : Str → Option Value}, (∀ v, (x, v) ∉ binds) → bindC kindOf binds m x = m x
  | [], _, _ => rfl
  | (n, v) :: r, m, h => by
    unfold bindC
    rw [bindC_out fun w hw => h w (List.mem_cons_of_mem _ hw)]
    split
    · rfl
    · have : x ≠ n := by rintro rfl; exact h v List.mem_cons_self
      simp [this]
theorem bindL_get {kindOf : Str → Option NameKind} {x : Str} {v : Value} : ∀ {P : List Str} {vs : List Value} {i : Nat} {m : Str → Option Value}, P.Nodup → P[i]? = some x → vs[i]? = some v → kindOf x = some .local →
    bindL kindOf (P.zip vs) m x = some v
  | [], _, _, _, _, h, _, _ => by simp at h
  | _ :: _, [], _, _, _, _, h, _ => by simp at h
  | p :: P, w :: vs, 0, m, nd, h1, h2, hk => by
    simp at h1 h2; subst h1; subst h2
    show bindL kindOf ((p, w) :: P.zip vs) m p = _
    unfold bindL
    rw [bindL_out fun v hv => (List.nodup_cons.mp nd).1 (List.of_mem_zip hv).1, if_pos hk]
    simp
  | p :: P, w :: vs, i + 1, m, nd, h1, h2, hk => by
    show bindL kindOf ((p, w) :: P.zip vs) m x = _
    unfold bindL
    exact bindL_get (i := i) (List.nodup_cons.mp nd).2 (by simpa using h1) (by simpa using h2) hk
theorem bindC_get {kindOf : Str → Option NameKind} {x : Str} {v : Value} : ∀ {P : List Str} {vs : List Value} {i : Nat} {m : Str → Option Value}, P.Nodup → P[i]? = some x → vs[i]? = some v → kindOf x ≠ some .local →
    bindC kindOf (P.zip vs) m x = some v
  | [], _, _, _, _, h, _, _ => by simp at h
  | _ :: _, [], _, _, _, _, h, _ => by simp at h
  | p :: P, w :: vs, 0, m, nd, h1, h2, hk => by
    simp at h1 h2; subst h1; subst h2
    show bindC kindOf ((p, w) :: P.zip vs) m p = _
    unfold bindC
    rw [bindC_out fun v hv => (List.nodup_cons.mp nd).1 (List.of_mem_zip hv).1, if_neg hk]
    simp
  | p :: P, w :: vs, i + 1, m, nd, h1, h2, hk => by
    show bindC kindOf ((p, w) :: P.zip vs) m x = _
    unfold bindC
    exact bindC_get (i := i) (List.nodup_cons.mp nd).2 (by simpa using h1) (by simpa using h2) hk

/-- the names' values at the entry -/
def start (N : List Str) (vs : List V) : St := vs.map some ++ List.replicate (N.length - vs.length) none

/-- the context of a def's body, at its entry; an exception leaves the frame, then lies as CX says -/
def cxOf (CX : CXT) (P : Program) (w : World) (K : PySem.W.Frag) (mg : Str → Option Value) (base : Heap) (N : List Str) (qual : Str) (scope : Scope) (f : Addr) (cd : Value) (A : Around) (outer : List Env) (s : Shared) (H : Hp) (E : XK) : Cx where
  prog := P
  w := w
  K := K
  mg := mg
  base := base
  A := A.deeper (envOfC qual scope s.heap.objs.size f cd)
  N := N
  s₀ := s
  H₀ := H
  env := envOfC qual scope s.heap.objs.size f cd
  outer := outer
  stack := envOfC qual scope s.heap.objs.size f cd :: outer
  ex := []
  calm := true
  fn := fun _ => true
  pn := []
  xe := fun e s' => wpAny (model P w) (A.deeper (envOfC qual scope s.heap.objs.size f cd)) (leaving (envOfC qual scope s.heap.objs.size f cd) e) (fun _ s'' => CX outer H s E e s'') (fun e' s'' => CX outer H s E e' s'') s'

theorem cell_has {sc : Scope} {n : Nat} {x : Str} (h : sc.names.lookup x = some .cell) : ∃ c, (cellsFrom n sc.names []).lookup x = some c := by
  have q := PySem.W.cellsFrom_some sc.names n [] (.inl h)
  exact Option.isSome_iff_exists.mp q

theorem inv_start {CX : CXT} {P : Program} {w : World} {K : PySem.W.Frag} {mg : Str → Option Value} {base : Heap} {N ps : List Str} {qual : Str} {scope : Scope} {f : Addr} {cd : Value} {A : Around} {outer : List Env} {s s1 : Shared} {H : Hp} {E : XK} {us : List Value} {vs : List V}
    (S : FnScope N ps scope) (hd : A.handled = none) (e0 : Env0 P w K mg base A outer s H) (hl : vs.length = ps.length) (r : Vals vs us)
    (x : InCallC s s.heap.objs.size (bindL (envOfC qual scope s.heap.objs.size f cd).kindOf (ps.zip us) fun _ => none) (cellsFrom (s.heap.objs.size + 1) scope.names []) (bindC (envOfC qual scope s.heap.objs.size f cd).kindOf (ps.zip us) fun _ => none) s1) :
    Inv (cxOf CX P w K mg base N qual scope f cd A outer s H E) [] (start N vs) H s1 := by
  have hpl : ps.length ≤ N.length := by have := congrArg List.length S.pre; rw [List.length_take] at this; omega
  obtain ⟨h1, tk, rfl, hk⟩ := x.done
  have noA : ∀ b : Addr, b ∉ (cxOf CX P w K mg base N qual scope f cd A outer s H E).ex := fun b z => absurd (show b ∈ ([] : List Addr) from z) (by simp)
  refine ⟨⟨e0.mod, S.kind, rfl, rfl, Nat.le_refl _, fun y z c h1 h2 => ?_, fun y hy => ?_, fun y c _ h => ?_, fun _ => hd, Around.frames_deeper e0.frames, .inr ⟨rfl, rfl⟩, fun b z => absurd z (noA b), e0.bs, e0.bsz, fun b _ _ => noA b, fun b z => absurd z (noA b), e0.funs, e0.frf⟩,
    rfl, e0.bare, Un.kept hk, ⟨_, x.toInCall.ns, fun i y v h1 h2 h3 => ?_⟩, fun y c h => ⟨_, x.cell y c h⟩, e0.hok.fresh (Nat.le_refl _), fun y c h => ?_, fun p hp => absurd (show p ∈ ([] : List (Addr × Obj)) from hp) (by simp), e0.hok.kept hk, ?_⟩
  · exact name_of_addr x.apart (PySem.mem_of_lookup h1) (PySem.mem_of_lookup h2)
  · have hy : scope.names.lookup y = some .cell ∨ scope.names.lookup y = some .free := hy
    rcases hy with hy | hy
    · exact cell_has hy
    · exact absurd rfl (S.nofree _ (PySem.mem_of_lookup hy))
  · exact Nat.le_of_lt (x.above y c (PySem.mem_of_lookup h))
  · have hi : i < vs.length := by
      unfold start at h2
      by_cases hi : i < vs.length
      · exact hi
      · rw [List.getElem?_append_right (by simpa using hi)] at h2
        rw [List.getElem?_replicate] at h2
        split at h2 <;> cases h2
    have ha : vs[i]? = some v := by
      unfold start at h2
      rw [List.getElem?_append_left (by simpa using hi), List.getElem?_map] at h2
      cases e : vs[i]? with
      | none => rw [e] at h2; cases h2
      | some a => rw [e] at h2; cases h2; rfl
    obtain ⟨u, hu, rv⟩ := r.get ha
    have hp : ps[i]? = some y := by
      rw [← S.pre, List.getElem?_take_of_lt (by omega)]; exact h1
    have ndP : ps.Nodup := by rw [← S.pre]; exact S.nd.sublist (List.take_sublist _ _)
    refine ⟨u, rv, ?_⟩
    rcases S.par y (List.mem_of_getElem? hp) with k | k
    · exact .inl ⟨k, bindL_get ndP hp hu k⟩
    · obtain ⟨c, e⟩ := cell_has (n := s.heap.objs.size + 1) k
      refine .inr ⟨.inl k, c, e, ?_⟩
      have q := x.cell y c e
      rw [bindC_get ndP hp hu (by show scope.names.lookup y ≠ _; rw [k]; decide)] at q
      exact q
  · exact e0.hok.fresh (Nat.le_of_lt (x.above y c (PySem.mem_of_lookup h)))
  · unfold start
    show _ = N.length
    rw [List.length_append, List.length_map, List.length_replicate]
    omega

/-- THE RULE: a def (or a method) of the text, by its body. The body's reading t is chosen for each entry; it is run at the parameters' values -/
theorem fn_of {CX : CXT} {P : Program} {w : World} {K : PySem.W.Frag} {mg : Str → Option Value} {base : Heap} {k : Nat} {f : Addr} {name qual : Str} {params : Arguments} {body : List Stmt} {scope : Scope} {dV kV doc pm cdv ct oc : Value} {an od : Option Addr}
    {osl : Array (Option Value)} {N ps : List Str} {sp : Sp} (lk : K.lookup f = some ⟨oc, od, .func (PySem.W.fnOf name qual params body scope dV kV doc pm an cdv ct), osl⟩) (hcd : PySem.W.codeIn K cdv qual = true) (S : FnScope N ps scope)
    (len : ∀ vs H Q E, sp vs H Q E → vs.length = ps.length)
    (hbody : ∀ (A : Around) (outer : List Env) (s : Shared) (H : Hp) (vs : List V) (Q : VK) (E : XK), Room k (A.deeper (envOfC qual scope s.heap.objs.size f cdv)) → sp vs H Q E →
      ∃ t, PSs (cxOf CX P w K mg base N qual scope f cdv A outer s H E) body t ∧ t { nx := fun _ H' => Q .non H', rt := Q } (start N vs) H) :
    FnOk P w K mg base CX (k + 1) f (PySem.W.fnOf name qual params body scope dV kV doc pm an cdv ct) ps sp := by
  refine ⟨len, fun A outer s H args us vs Q E hr e0 hb r hsp => ?_⟩
  have hl := len _ _ _ _ hsp
  have KX : K.In s.heap := e0.mod.kin.keeps fun b o e => (e0.bs b o e).1
  have lim : s.heap.NoLimit := e0.mod.nolimit.keeps fun b o e => (e0.bs b o e).1
  have hkind : ∀ y ∈ ps.zip us, scope.names.lookup y.1 = some .local ∨ (scope.names.lookup y.1 = some .cell ∧ ((cellsFrom (s.heap.objs.size + 1) scope.names []).lookup y.1).isSome = true) := fun ⟨n, v⟩ hy => by
    rcases S.par n (List.of_mem_zip hy).1 with q | q
    · exact .inl q
    · exact .inr ⟨q, PySem.W.cellsFrom_some _ _ _ (.inl q)⟩
  refine codeAny_call_function hr.depth (KX _ _ lk) rfl S.co S.gen rfl (PySem.W.codeRec_of KX hcd) (hb _ _ _ _ ?_)
  refine wpAny_newFunctionEnv_cells S.kind hkind fun env he s1 x => ?_
  subst he
  refine ⟨lim.keeps x.toInCall.keep, codeAny_func ?_⟩
  obtain ⟨t, ht, hq⟩ := hbody A outer s H vs Q E (hr.deeper _) hsp
  have I : Inv (cxOf CX P w K mg base N qual scope f cdv A outer s H E) [] (start N vs) H s1 := inv_start S hr.hd e0 hl r x
  refine wpAny_mono (ht [] s1 (start N vs) H _ I hq) (fun fl s' hs => ?_) fun e s' hs => hs
  have fin : ∀ {σ' : St} {H' : Hp} {v : V} {u : Value}, Inv (cxOf CX P w K mg base N qual scope f cdv A outer s H E) [] σ' H' s' → RelV v u → Q v H' → CE outer P w H s Q u s' :=
    fun {σ' H' v u} J rv q => ⟨v, H', J.os, J.bare, J.base, J.hok, rv, q⟩
  cases fl with
  | ret u =>
    obtain ⟨v, σ', H', J, rv, q⟩ := hs
    exact fin J rv q
  | next =>
    obtain ⟨σ', H', J, q⟩ := hs
    exact fin (v := V.non) (u := Value.none) J rfl q
  | brk =>
    obtain ⟨_, _, _, q⟩ := hs
    exact False.elim q
  | cont =>
    obtain ⟨_, _, _, q⟩ := hs
    exact False.elim q
end L2

namespace L2
open PySem PySem.Spec PyProof.Rows
section
variable {X : Cx} {x : Str} {p pos : Pos} {e : Expr} {es : List Expr} {t : TA} {id T : String} {r : List V → Hp → VK → Prop}

def tCB (r : List V → Hp → VK → Prop) (t : TA) : TE := fun σ H Q => t σ H fun vs H1 => r vs H1 Q
/-- f(e, ..), f a built-in function -/
theorem pe_callB (hc : CallR X (.builtin id) r) (hg : Gl X x) (hm : X.mg x = none) (hv : bootBuiltins x = some (.builtin id)) (ha : PA X (e :: es) t) (hn : x ≠ "__name__" := by decide) (hdb : (x == ("__debug__" : Str)) = false := by decide)
    (he : starEach (e :: es) X.env = (false, eval e X.env) :: starEach es X.env := by rfl) (hpl : (backTo pos (starEach es X.env)).any (·.1) = false := by rfl) : PE X (.Call (.Name x p) (e :: es) [] pos) (tCB r t) := by
  intro pins s σ H Q I h
  refine wpAny_Call_Name_kw (ld_blt I hg hm hv ?_ hn hdb)
  exact PyProof.Rows.callWith_builtin1 (thn (ha pos pins s σ H _ I h) fun us s1 ⟨vs, H1, I1, r1, q1⟩ => hc pins s1 σ H1 vs us Q I1 r1 q1) he hpl
/-- T(e, ..), T a built-in type -/
theorem pe_callTy (hc : CallR X (.type T) r) (hg : Gl X x) (hm : X.mg x = none) (hv : bootBuiltins x = some (.type T)) (ha : PA X (e :: es) t) (hn : x ≠ "__name__" := by decide) (hdb : (x == ("__debug__" : Str)) = false := by decide)
    (he : starEach (e :: es) X.env = (false, eval e X.env) :: starEach es X.env := by rfl) (hpl : (backTo pos (starEach es X.env)).any (·.1) = false := by rfl) : PE X (.Call (.Name x p) (e :: es) [] pos) (tCB r t) := by
  intro pins s σ H Q I h
  refine wpAny_Call_Name_kw (ld_blt I hg hm hv ?_ hn hdb)
  exact PyProof.Rows.callWith_type1 (thn (ha pos pins s σ H _ I h) fun us s1 ⟨vs, H1, I1, r1, q1⟩ => hc pins s1 σ H1 vs us Q I1 r1 q1) he hpl
end
end L2

namespace HT
open PySem PyProof.Rows

section
open PySem.SeqAt
open PySem.AutoSeq1 (wpAny_loadPart')
open PySem.MeetsSeq PySem.MeetsSeq2 PySem.MeetsSeq3

end

section
variable {prog : Program} {w : World} {A : Around} {E : Value → Shared → Prop} {s : Shared}

/-- t + u, t not empty -/
theorem cat_tup {t b : Addr} {vs ws : List Value} {Q : Value → Shared → Prop} (ht : IsTup s.heap t vs.toArray) (hb : IsTup s.heap b ws.toArray) (hv : vs ≠ [])
    (h1 : ws = [] → Q (.ref t) s) (h2 : ws ≠ [] → Q (.ref s.heap.objs.size) { s with heap := s.heap.push { cls := .type "tuple", data := .seq (vs ++ ws).toArray } })
    (hsz : vs.length + ws.length ≤ sizeLine) : wpAny (model prog w) A (binaryOp .Add (.ref t) (.ref b)) Q E s := by
  obtain ⟨⟨cls, dd, data, sl⟩, ho, hc, n, hd⟩ := id ht
  obtain ⟨⟨cls2, dd2, data2, sl2⟩, ho2, hc2, n2, hd2⟩ := id hb
  simp only at hc hd hc2 hd2
  subst hc hd hc2 hd2
  have e : vs.toArray ++ ws.toArray = (vs ++ ws).toArray := by simp
  by_cases hw : ws = []
  · exact concat_meets ⟨_, ho, rfl⟩ ⟨_, ho2, rfl⟩ noFill_tuple_add seq_tuple_add PySem.F.slot_tuple_add PySem.F.entry_tuple_add (PySem.F.args_tuple_add_2 _ _)
      (tuple_addW1 t b vs.toArray ws.toArray n n2 dd dd2 sl sl2 (by simpa using hv) (by simp [hw])) ⟨ho, ho2, h1 hw⟩
  · refine concat_meets ⟨_, ho, rfl⟩ ⟨_, ho2, rfl⟩ noFill_tuple_add seq_tuple_add PySem.F.slot_tuple_add PySem.F.entry_tuple_add (PySem.F.args_tuple_add_2 _ _)
      (tuple_addW2 t b vs.toArray ws.toArray n n2 dd dd2 sl sl2 (by simpa using hv) (by simpa using hw) (by rw [List.size_toArray, List.size_toArray]; exact hsz)) ⟨ho, ho2, ?_⟩
    rw [e]
    exact h2 hw

/-! ### t[a:b], not the whole -/
/-- a slice's bound as a place among n (d where it is left out) -/
def sIx (n d : Nat) : Option Int → Nat
  | none => d
  | some v => if v < 0 then (v + (n : Int)).toNat else min v.toNat n
theorem sIx_le (n d : Nat) (hd : d ≤ n) (o : Option Int) : sIx n d o ≤ n := by
  cases o with
  | none => exact hd
  | some v =>
    show (if v < 0 then (v + (n : Int)).toNat else min v.toNat n) ≤ n
    by_cases hv : v < 0
    · rw [if_pos hv]; omega
    · rw [if_neg hv]; exact Nat.min_le_right _ _
theorem clip_eq (v : Int) (n d : Nat) : (if v < 0 then max (v + (n : Int)) 0 else min v (n : Int)) = ((sIx n d (some v) : Nat) : Int) := by
  show (if v < 0 then max (v + (n : Int)) 0 else min v (n : Int)) = (((if v < 0 then (v + (n : Int)).toNat else min v.toNat n) : Nat) : Int)
  by_cases hv : v < 0
  · simp only [if_pos hv]; omega
  · simp only [if_neg hv]; omega
theorem adjust_gen (lo hi : Option Int) (n : Nat) : Builtin.Slice.sliceAdjust lo hi 1 (n : Int) = (((sIx n 0 lo : Nat) : Int), ((sIx n n hi : Nat) : Int)) := by
  have h1 : ¬ ((1 : Int) < 0) := by omega
  unfold Builtin.Slice.sliceAdjust
  simp only [h1, if_false]
  refine Prod.ext ?_ ?_
  · cases lo with
    | none => rfl
    | some v => exact clip_eq v n 0
  · cases hi with
    | none => rfl
    | some v => exact clip_eq v n n
theorem places_gen (i j : Nat) : Builtin.Slice.slicePlaces (i : Int) (j : Int) 1 = j - i := by
  unfold Builtin.Slice.slicePlaces
  have h1 : (1 : Int) > 0 := by omega
  simp only [h1, if_true, Int.ediv_one]
  split <;> omega
theorem slicePart_ {v : Value} {o : Option Int} {Q : Option Int → Shared → Prop} (p : IsPart v o) (h : Q o s) : wpAny (model prog w) A (Builtin.Slice.slicePartIndex v) Q E s := by
  cases p with
  | none => exact slicePart_none h
  | int i t => exact slicePart_int h
theorem sliceApplied_gen {sl : Addr} {vl vu : Value} {lo hi : Option Int} {n : Nat} {Q : Int × Int × Nat → Shared → Prop} (hs : s.heap.IsSliceOf sl vl vu .none) (pl : IsPart vl lo) (pu : IsPart vu hi)
    (h : Q (((sIx n 0 lo : Nat) : Int), 1, sIx n n hi - sIx n 0 lo) s) : wpAny (model prog w) A (Builtin.Slice.sliceApplied (.ref sl) (pure (n : Int))) Q E s := by
  obtain ⟨os, hos, hcs, hds⟩ := id hs
  unfold Builtin.Slice.sliceApplied Builtin.Slice.sliceFields
  refine wpAny_bind (wpAny_bind (wpAny_field hos hds (x := vl) rfl (wpAny_bind (wpAny_field hos hds (x := vu) rfl (wpAny_bind (wpAny_field hos hds (x := .none) rfl (wpAny_pure ?_)))))))
  refine wpAny_bind (slicePart_none ?_)
  show wpAny _ _ (if ((1 : Int) == 0) = true then _ else _) _ _ s
  rw [if_neg (by decide)]
  refine wpAny_bind (slicePart_ pl (wpAny_bind (slicePart_ pu (wpAny_bind (wpAny_pure ?_)))))
  show wpAny _ _ (match Builtin.Slice.sliceAdjust lo hi 1 (n : Int) with | (lo, hi) => pure (lo, (1 : Int), Builtin.Slice.slicePlaces lo hi 1)) _ _ s
  rw [adjust_gen lo hi n]
  show wpAny _ _ (pure (((sIx n 0 lo : Nat) : Int), (1 : Int), Builtin.Slice.slicePlaces ((sIx n 0 lo : Nat) : Int) ((sIx n n hi : Nat) : Int) 1)) _ _ s
  rw [places_gen]
  exact wpAny_pure h
theorem pick_gen (xs : Array Value) (i k : Nat) : ((List.range k).filterMap fun (m : Nat) => xs[((i : Int) + (m : Int) * 1).toNat]?).toArray = ((xs.toList.drop i).take k).toArray := by
  have e : (fun (m : Nat) => xs[((i : Int) + (m : Int) * 1).toNat]?) = fun m => xs[i + m]? := by
    funext m
    have : ((i : Int) + (m : Int) * 1).toNat = i + m := by omega
    rw [this]
  rw [e]
  have := pick_run xs i k
  rw [List.filterMap_map] at this
  have e2 : ((fun x => xs[x]?) ∘ fun x => i + x) = fun m => xs[i + m]? := rfl
  rw [e2] at this
  rw [this]

theorem getItem_tuple_cut {t sl : Addr} {items : Array Value} {vl vu : Value} {lo hi : Option Int} {Q : Value → Shared → Prop} (ht : IsTup s.heap t items) (hs : s.heap.IsSliceOf sl vl vu .none) (pl : IsPart vl lo) (pu : IsPart vu hi)
    (hw : ¬ (sIx items.size 0 lo = 0 ∧ sIx items.size items.size hi = items.size))
    (h : Q (.ref s.heap.objs.size) { s with heap := s.heap.push { cls := .type "tuple", data := .seq ((items.toList.drop (sIx items.size 0 lo)).take (sIx items.size items.size hi - sIx items.size 0 lo)).toArray } })
    (hsz : items.size ≤ sizeLine) : wpAny (model prog w) A (getItem (.ref t) (.ref sl)) Q E s := by
  have htake : sizeOk (.seq ((items.toList.drop (sIx items.size 0 lo)).take (sIx items.size items.size hi - sIx items.size 0 lo)).toArray) := by
    show ((items.toList.drop (sIx items.size 0 lo)).take (sIx items.size items.size hi - sIx items.size 0 lo)).toArray.size ≤ sizeLine
    rw [List.size_toArray, List.length_take, List.length_drop, Array.length_toList]
    omega
  have hj : sIx items.size items.size hi ≤ items.size := sIx_le _ _ (Nat.le_refl _) hi
  obtain ⟨os, hos, hcs, hds⟩ := id hs
  have hTs : s.TypeIs (.ref sl) "slice" := ⟨os, hos, hcs⟩
  unfold getItem
  try with_reducible refine wpAny_holding ?_
  first | refine wpAny_bind (wpAny_pure ?_) | skip
  refine wpAny_bind (wpAny_sequenceKey ht.typeIs (by decide) ?_)
  refine wpAny_bind (wpAny_callSpecial?_slot (name := Str.ofString "__getitem__") ht.typeIs PyProof.Rows.slot_tuple_getitem
    (wpAny_call_entry PyProof.Rows.slot_tuple_getitem ht.typeIs entry_tuple_getitem ?_ (args_tuple_getitem _ _)))
  show wpAny _ _ (Builtin.Tuple.tupleItemsOf (.ref t) >>= _) _ _ s
  refine wpAny_bind (tupleItemsOf_ ht ?_)
  refine wpAny_bind (wpAny_typeOf hTs ?_)
  rw [if_pos (by decide)]
  refine wpAny_bind (sliceApplied_gen hs pl pu ?_)
  have hno : ¬ ((((sIx items.size 0 lo : Nat) : Int) == 0 && (1 : Int) == 1 && (sIx items.size items.size hi - sIx items.size 0 lo) == items.size) = true) := by
    intro q
    rw [Bool.and_eq_true, Bool.and_eq_true] at q
    have q1 : ((sIx items.size 0 lo : Nat) : Int) = 0 := eq_of_beq q.1.1
    have q2 : sIx items.size items.size hi - sIx items.size 0 lo = items.size := eq_of_beq q.2
    exact hw ⟨by omega, by omega⟩
  show wpAny _ _ (if (((sIx items.size 0 lo : Nat) : Int) == 0 && (1 : Int) == 1 && (sIx items.size items.size hi - sIx items.size 0 lo) == items.size) = true then _ else _) _ _ s
  rw [if_neg hno, pick_gen]
  first
    | exact wpAny_bind (m := Builtin.Tuple.tupleExact _) (wpAny_newObj_type (wpAny_pure ⟨_, rfl, wpAny_pure h⟩) htake)
    | exact wpAny_bind (m := Builtin.Tuple.tupleExact _) (wpAny_newObj_type (wpAny_bind (wpAny_pure (wpAny_pure ⟨_, rfl, wpAny_pure h⟩))) htake)
    | exact wpAny_bind (wpAny_bind (m := Builtin.Tuple.tupleExact _) (wpAny_newObj_type (wpAny_pure (wpAny_pure ⟨_, rfl, wpAny_pure h⟩)) htake))
    | exact wpAny_bind (wpAny_bind (m := Builtin.Tuple.tupleExact _) (wpAny_newObj_type (wpAny_pure ⟨_, rfl, wpAny_pure h⟩) htake))
end
end HT

namespace L2
open PySem PySem.Spec PyProof.Rows

/-! ### the parts of a slice -/
abbrev TO := St → Hp → (Option Int → Hp → Prop) → Prop
/-- a slice's part (left out, or an int) -/
def PO (X : Cx) (e : Option Expr) (t : TO) : Prop :=
  ∀ (pins : List (Addr × Obj)) (s : Shared) (σ : St) (H : Hp) (Q : Option Int → Hp → Prop), Inv X pins σ H s → t σ H Q →
    wpAny (model X.prog X.w) X.A (evalPart e X.env) (fun u s' => ∃ o H', Inv X pins σ H' s' ∧ IsPart u o ∧ Q o H') X.xe s
def tNoPart : TO := fun _ H Q => Q none H
def tPart (t : TE) : TO := fun σ H Q => t σ H fun x H1 => ∃ i, x = .int i ∧ Q (some i) H1

section
variable {X : Cx} {e : Expr} {te : TE} {lo hi : Option Expr} {tl th : TO} {pos p2 : Pos}

theorem po_none : PO X none tNoPart := by
  intro pins s σ H Q I h
  rw [evalPart_none]
  exact wpAny_pure ⟨none, H, I, .none, h⟩
theorem po_some (h : PE X e te) : PO X (some e) (tPart te) := by
  intro pins s σ H Q I hw
  rw [evalPart_some]
  refine thn (h pins s σ H _ I hw) fun u s1 ⟨x, H1, I1, r1, q1⟩ => ?_
  obtain ⟨i, rfl, q⟩ := q1
  obtain ⟨t, rfl⟩ := r1
  exact ⟨some i, H1, I1, .int i t, q⟩

/-- what a slice of a value is, by values: the slice object stands at sl -/
def SlR (X : Cx) (r : V → Option Int → Option Int → Hp → VK → Prop) : Prop :=
  ∀ (pins : List (Addr × Obj)) (s : Shared) (σ : St) (H : Hp) (x : V) (v vl vu : Value) (lo hi : Option Int) (sl : Addr) (Q : VK), Inv X pins σ H s → RelV x v → s.heap.IsSliceOf sl vl vu .none → IsPart vl lo → IsPart vu hi → r x lo hi H Q →
    ∃ T id, typeLookup (.type T) "__getitem__" = pure (some (.builtin id)) ∧ s.TypeIs v T ∧ wpAny (model X.prog X.w) X.A (getItem v (.ref sl)) (EP X pins σ Q) X.xe s
theorem SlR.or {r r' : V → Option Int → Option Int → Hp → VK → Prop} (h : SlR X r) (h' : SlR X r') : SlR X (fun x lo hi H Q => r x lo hi H Q ∨ r' x lo hi H Q) := by
  intro pins s σ H x v vl vu lo hi sl Q I rx hs pl pu q
  rcases q with q | q
  · exact h pins s σ H x v vl vu lo hi sl Q I rx hs pl pu q
  · exact h' pins s σ H x v vl vu lo hi sl Q I rx hs pl pu q
def tSl (r : V → Option Int → Option Int → Hp → VK → Prop) (te : TE) (tl th : TO) : TE := fun σ H Q => te σ H fun x H1 => tl σ H1 fun l H2 => th σ H2 fun u H3 => r x l u H3 Q
/-- a[lo:hi], any a -/
theorem pe_slice {r : V → Option Int → Option Int → Hp → VK → Prop} (hr : SlR X r) (he : PE X e te) (hl : PO X lo tl) (hu : PO X hi th) : PE X (.Subscript e (.Slice lo hi none p2) pos) (tSl r te tl th) := by
  intro pins s σ H Q I h
  refine Subscript_ (thn (he pins s σ H _ I h) fun v s1 ⟨x, H1, I1, r1, q1⟩ => ?_)
  refine wpAny_Slice (thn (hl pins s1 σ H1 _ I1 q1) fun vl s2 ⟨l, H2, I2, pl, q2⟩ => thn (hu pins s2 σ H2 _ I2 q2) fun vu s3 ⟨u, H3, I3, pu, q3⟩ => ?_)
  rw [evalPart_none]
  refine wpAny_pure ?_
  have I4 : Inv X pins σ H3 { s3 with heap := s3.heap.push { cls := .type "slice", data := .fields #[vl, vu, .none] } } := I3.kept (t' := s3.toks) fun b ob q => Heap.get?_push_of_some _ q
  obtain ⟨T, id, hT, ht, hg⟩ := hr pins { s3 with heap := s3.heap.push { cls := .type "slice", data := .fields #[vl, vu, .none] } } σ H3 x v vl vu l u s3.heap.objs.size Q I4 r1 (Heap.IsSliceOf.new ..) pl pu q3
  show wpAny (model X.prog X.w) X.A (subscriptTail e (.Slice lo hi none p2) v (.ref s3.heap.objs.size)) (EP X pins σ Q) X.xe { s3 with heap := s3.heap.push { cls := .type "slice", data := .fields #[vl, vu, .none] } }
  exact tail_any (ops := [.ref s3.heap.objs.size, v]) ht hT hg (by with_unfolding_all rfl)

/-- the items of xs[lo:hi] -/
def cutV (xs : List V) (lo hi : Option Int) : List V := (xs.drop (HT.sIx xs.length 0 lo)).take (HT.sIx xs.length xs.length hi - HT.sIx xs.length 0 lo)
theorem cutV_length (xs : List V) (lo hi : Option Int) : (cutV xs lo hi).length ≤ xs.length := by
  unfold cutV
  rw [List.length_take, List.length_drop]
  omega
/-- t[lo:hi], not the whole of it (the whole would be t itself) -/
def rSlT (K : PySem.W.Frag) : V → Option Int → Option Int → Hp → VK → Prop := fun x lo hi H Q => ∃ a xs, x = .ref a ∧ SqT K H a xs ∧
  ¬ (HT.sIx xs.length 0 lo = 0 ∧ HT.sIx xs.length xs.length hi = xs.length) ∧ ∀ p, H p = none → Q (.ref p) (upd H p (.tup (cutV xs lo hi)))
theorem sl_tup : SlR X (rSlT X.K) := by
  intro pins s σ H x v vl vu lo hi sl Q I rx hs pl pu h
  obtain ⟨a, xs, rfl, hx, hw, q⟩ := h
  cases rx
  obtain ⟨its, r, ht, hz⟩ := I.tuple hx
  have hlen : its.toArray.size = xs.length := by rw [List.size_toArray]; exact r.length.symm
  refine ⟨"tuple", _, PyProof.Rows.slot_tuple_getitem.lookup, ht.typeIs, ?_⟩
  refine HT.getItem_tuple_cut ht hs pl pu (by rw [hlen]; exact hw) ?_ (by rw [hlen]; exact hz)
  rw [hlen]
  refine ⟨.ref s.heap.objs.size, _, I.laid (t' := s.toks) (o := .tup (cutV xs lo hi)) (fun b ob q => Heap.get?_push_of_some _ q) (Nat.le_refl _) ?_, rfl, q _ (I.hok.fresh (Nat.le_refl _))⟩
  exact ⟨Nat.le_trans (cutV_length xs lo hi) hz, _, (r.drop (HT.sIx xs.length 0 lo)).take (HT.sIx xs.length xs.length hi - HT.sIx xs.length 0 lo), IsTup.new _ _⟩

/-! ### t < u, t + u -/
/-- t + u, t not empty: u empty gives t itself -/
def rCatT (K : PySem.W.Frag) : R2 := fun x y H Q => ∃ a b xs ys, x = .ref a ∧ y = .ref b ∧ SqT K H a xs ∧ SqT K H b ys ∧ xs ≠ [] ∧ xs.length + ys.length ≤ sizeLine ∧
  (ys = [] → Q (.ref a) H) ∧ (ys ≠ [] → ∀ p, H p = none → Q (.ref p) (upd H p (.tup (xs ++ ys))))
theorem Vals.nil_iff {xs : List V} {us : List Value} (r : Vals xs us) : us = [] ↔ xs = [] := by
  cases r with
  | nil => simp
  | cons _ _ => simp
theorem op_catT : OpR X (binaryOp .Add) (rCatT X.K) := by
  intro pins s σ H x y v u Q I rx ry h
  obtain ⟨a, b, xs, ys, rfl, rfl, ha, hb, hx, hz, q1, q2⟩ := h
  cases rx
  cases ry
  obtain ⟨its, r1, p1, _⟩ := I.tuple ha
  obtain ⟨its2, r2, p2, _⟩ := I.tuple hb
  refine HT.cat_tup p1 p2 (fun z => hx (r1.nil_iff.mp z)) (fun z => ⟨.ref a, H, I, rfl, q1 (r2.nil_iff.mp z)⟩) (fun z => ?_) (by rw [← r1.length, ← r2.length]; exact hz)
  refine ⟨.ref s.heap.objs.size, _, I.laid (t' := s.toks) (o := .tup (xs ++ ys)) (fun b ob q => Heap.get?_push_of_some _ q) (Nat.le_refl _) ?_, rfl, q2 (fun w => z (r2.nil_iff.mpr w)) _ (I.hok.fresh (Nat.le_refl _))⟩
  exact ⟨by rw [List.length_append]; exact hz, _, r1.append r2, IsTup.new _ _⟩
end
end L2

namespace L2
open PySem PySem.Spec PyProof.Rows

/-! ### places -/
/-- the place that an index of any sign means -/
def ixN (n : Nat) (i : Int) : Option Nat := if 0 ≤ i then (if i < n then some i.toNat else none) else if -(n : Int) ≤ i then some (i + n).toNat else none
def atI {α : Type} (xs : List α) (i : Int) : Option α := (ixN xs.length i).bind fun j => xs[j]?
theorem ixN_seq {n : Nat} {i : Int} {j : Nat} (h : ixN n i = some j) : seqIndex? i n = some j ∧ j < n ∧ -(n : Int) ≤ i ∧ i < n := by
  unfold ixN at h
  by_cases h0 : 0 ≤ i
  · rw [if_pos h0] at h
    by_cases h1 : i < n
    · rw [if_pos h1] at h
      have e : i.toNat = j := Option.some.inj h
      exact ⟨by rw [seqIndex_of h0 h1, e], by omega, by omega, h1⟩
    · rw [if_neg h1] at h; cases h
  · rw [if_neg h0] at h
    by_cases h1 : -(n : Int) ≤ i
    · rw [if_pos h1] at h
      have e : (i + n).toNat = j := Option.some.inj h
      exact ⟨by rw [seqIndex_neg (by omega) h1, e], by omega, h1, by omega⟩
    · rw [if_neg h1] at h; cases h
theorem atI_get {α : Type} {xs : List α} {i : Int} {v : α} (h : atI xs i = some v) : ∃ j, seqIndex? i xs.length = some j ∧ xs[j]? = some v ∧ j < xs.length ∧ -(xs.length : Int) ≤ i ∧ i < xs.length := by
  unfold atI at h
  cases e : ixN xs.length i with
  | none => rw [e] at h; cases h
  | some j =>
    rw [e] at h
    obtain ⟨h1, h2, h3, h4⟩ := ixN_seq e
    exact ⟨j, h1, h, h2, h3, h4⟩
/-! ### what may be subscripted -/
/-- what stands as an index of a plain subscript -/
def PlainIx (b : Expr) : Prop := ∀ o i, subscripted b false o i = operate [o, i] (getItem o i)
/-- a subscript by values -/
def IxR (X : Cx) (r : R2) : Prop :=
  ∀ (value slice : Expr) (pins : List (Addr × Obj)) (s : Shared) (σ : St) (H : Hp) (x y : V) (v u : Value) (Q : VK), Inv X pins σ H s → RelV x v → RelV y u → r x y H Q →
    subscripted slice false v u = operate [v, u] (getItem v u) → wpAny (model X.prog X.w) X.A (subscriptTail value slice v u) (EP X pins σ Q) X.xe s
/-- a call of a builtin's method by values: the receiver, the arguments -/
def MtR (X : Cx) (id : String) (r : V → List V → Hp → VK → Prop) : Prop :=
  ∀ (pins : List (Addr × Obj)) (s : Shared) (σ : St) (H : Hp) (x : V) (xs : List V) (v : Value) (us : List Value) (Q : VK), Inv X pins σ H s → RelV x v → Vals xs us → r x xs H Q →
    wpAny (model X.prog X.w) X.A (call (.builtin id) (v :: us)) (EP X pins σ Q) X.xe s
section
variable {X : Cx} {a b : Expr} {ta tb : TE} {pos : Pos}
theorem IxR.or {r r' : R2} (h : IxR X r) (h' : IxR X r') : IxR X (fun x y H Q => r x y H Q ∨ r' x y H Q) := by
  intro value slice pins s σ H x y v u Q I rx ry q hs
  rcases q with q | q
  · exact h value slice pins s σ H x y v u Q I rx ry q hs
  · exact h' value slice pins s σ H x y v u Q I rx ry q hs
theorem MtR.or {id : String} {r r' : V → List V → Hp → VK → Prop} (h : MtR X id r) (h' : MtR X id r') : MtR X id (fun x xs H Q => r x xs H Q ∨ r' x xs H Q) := by
  intro pins s σ H x xs v us Q I rx rs q
  rcases q with q | q
  · exact h pins s σ H x xs v us Q I rx rs q
  · exact h' pins s σ H x xs v us Q I rx rs q
/-- a[b] -/
theorem pe_ix {r : R2} (hr : IxR X r) (ha : PE X a ta) (hb : PE X b tb) (hs : PlainIx b) : PE X (.Subscript a b pos) (tOp r ta tb) := by
  intro pins s σ H Q I h
  exact Subscript_ (binT ha hb I h fun v u s2 x y H2 I2 rx ry q => hr a b pins s2 σ H2 x y v u Q I2 rx ry q (hs _ _))

def rIxL (K : PySem.W.Frag) : R2 := fun x y H Q => ∃ p xs i v, x = .ref p ∧ y = .int i ∧ SqL K H p xs ∧ atI xs i = some v ∧ Q v H
def rIxT (K : PySem.W.Frag) : R2 := fun x y H Q => ∃ p xs i v, x = .ref p ∧ y = .int i ∧ SqT K H p xs ∧ atI xs i = some v ∧ Q v H
theorem ix_list : IxR X (rIxL X.K) := by
  intro value slice pins s σ H x y v u Q I rx ry h hs
  obtain ⟨p, xs, i, z, rfl, rfl, hq, he, q⟩ := h
  cases rx
  obtain ⟨t, rfl⟩ := ry
  obtain ⟨its, r, pl, hz⟩ := I.list hq
  obtain ⟨j, h1, h2, h3, h4, h5⟩ := atI_get he
  obtain ⟨w, ew, rw'⟩ := r.get h2
  have hl := r.length
  have hn := line63
  have fin : EP X pins σ Q w s := ⟨z, H, I, rw', q⟩
  by_cases h0 : 0 ≤ i
  · have hj : i.toNat = j := by
      rw [seqIndex_of h0 h5] at h1
      exact Option.some.inj h1
    exact item_listR pl.isList h0 (by omega) (by rw [hj]; simpa using ew) fin hs
  · have hj : (i + (its.toArray.size : Int)).toNat = j := by
      rw [seqIndex_neg (by omega) h4] at h1
      rw [List.size_toArray, ← hl]
      exact Option.some.inj h1
    exact subscriptTail_builtinR (x := w) pl.isList.typeIs slot_list_getitem.lookup
      (wpAny_getItem_list_neg (Q := fun r s' => r = w ∧ EP X pins σ Q r s') pl.isList (by omega) (by rw [List.size_toArray] <;> omega) (by omega) (by rw [hj]; simpa using ew) ⟨rfl, fin⟩) hs
theorem ix_tup : IxR X (rIxT X.K) := by
  intro value slice pins s σ H x y v u Q I rx ry h hs
  obtain ⟨p, xs, i, z, rfl, rfl, hq, he, q⟩ := h
  cases rx
  obtain ⟨t, rfl⟩ := ry
  obtain ⟨its, r, pl, hz⟩ := I.tuple hq
  obtain ⟨j, h1, h2, h3, h4, h5⟩ := atI_get he
  obtain ⟨w, ew, rw'⟩ := r.get h2
  have hl := r.length
  have hn := line63
  have fin : EP X pins σ Q w s := ⟨z, H, I, rw', q⟩
  exact subscriptTail_builtinR (x := w) pl.typeIs slot_tuple_getitem.lookup
    (getItem_tuple (j := j) (Q := fun r s' => r = w ∧ EP X pins σ Q r s') pl (by omega) (by omega) (by rw [List.size_toArray, ← hl]; exact h1) (by simpa using ew) ⟨rfl, fin⟩) hs
/-! ### xs[i] = v, any sign -/
theorem Inv.lst {pins : List (Addr × Obj)} {σ : St} {H : Hp} {s : Shared} {p : Addr} {xs : List V} (I : Inv X pins σ H s) (h : H p = some (.lst xs)) :
    ∃ (its : List Value) (n : Nat), Vals xs its ∧ s.heap.get? p = some { cls := .type "list", data := .seq its.toArray n } ∧ xs.length ≤ sizeLine := by
  obtain ⟨z, its, n, r, e⟩ := I.hok p _ h
  exact ⟨its, n, r, e, z⟩
/-! ### slices -/
theorem slice_bounds (lo hi : Option Int) (n : Nat) : (sliceBounds lo hi none n).1 = ((HT.sIx n 0 lo : Nat) : Int) ∧ (sliceBounds lo hi none n).2.1 = ((HT.sIx n n hi : Nat) : Int) ∧ (sliceBounds lo hi none n).2.2 = 1 := by
  refine ⟨?_, ?_, rfl⟩
  · cases lo with
    | none => simp [sliceBounds, HT.sIx]
    | some i =>
      simp only [sliceBounds, HT.sIx, Option.getD_none, show (1 : Int) > 0 by decide, if_true]
      by_cases h : i < 0
      · simp only [h, if_true] <;> omega
      · simp only [h, if_false] <;> omega
  · cases hi with
    | none => simp [sliceBounds, HT.sIx]
    | some i =>
      simp only [sliceBounds, HT.sIx, Option.getD_none, show (1 : Int) > 0 by decide, if_true]
      by_cases h : i < 0
      · simp only [h, if_true] <;> omega
      · simp only [h, if_false] <;> omega
theorem slicePick_cut (its : List Value) (lo hi : Option Int) : slicePick its.toArray lo hi none = ((its.drop (HT.sIx its.length 0 lo)).take (HT.sIx its.length its.length hi - HT.sIx its.length 0 lo)).toArray := by
  obtain ⟨h1, h2, h3⟩ := slice_bounds lo hi its.toArray.size
  unfold slicePick
  rw [h1, h2, h3]
  simp only [sliceRange_one, pick_run, List.size_toArray] <;> rfl
/-- xs[lo:hi] of a list: a new list -/
def rSlL (K : PySem.W.Frag) : V → Option Int → Option Int → Hp → VK → Prop := fun x lo hi H Q => ∃ a xs, x = .ref a ∧ SqL K H a xs ∧ ∀ p, H p = none → Q (.ref p) (upd H p (.lst (cutV xs lo hi)))
theorem sl_list : SlR X (rSlL X.K) := by
  intro pins s σ H x v vl vu lo hi sl Q I rx hs pl pu h
  obtain ⟨a, xs, rfl, hx, q⟩ := h
  cases rx
  obtain ⟨its, r, ht, hz⟩ := I.list hx
  have hlen := r.length
  refine ⟨"list", _, slot_list_getitem.lookup, ht.isList.typeIs, ?_⟩
  refine wpAny_getItem_list_slice ht.isList hs pl pu .none (by simp) ?_ (by rw [List.size_toArray] <;> omega)
  rw [slicePick_cut, ← hlen]
  refine ⟨.ref s.heap.objs.size, _, I.laid (t' := s.toks) (o := .lst (cutV xs lo hi)) (fun b ob q => Heap.get?_push_of_some _ q) (Nat.le_refl _) ?_, rfl, q _ (I.hok.fresh (Nat.le_refl _))⟩
  exact ⟨Nat.le_trans (cutV_length xs lo hi) hz, _, 0, (r.drop (HT.sIx xs.length 0 lo)).take (HT.sIx xs.length xs.length hi - HT.sIx xs.length 0 lo), Heap.get?_push_size _ rfl⟩

/-! ### in, not in: flat items -/
def flatV : V → Bool
  | .non => true
  | .bl _ => true
  | .int _ => true
  | .str _ => true
  | _ => false
/-- == of flat values -/
def eqV : V → V → Bool
  | .non, .non => true
  | .bl a, .bl b => a == b
  | .bl a, .int b => (if a then 1 else 0) == b
  | .int a, .bl b => a == (if b then 1 else 0)
  | .int a, .int b => a == b
  | .str a, .str b => a == b
  | _, _ => false
theorem eqAt_V {A : Around} {s : Shared} {y x : V} {u v : Value} (ry : RelV y u) (rx : RelV x v) (fy : flatV y = true) (fx : flatV x = true) : SeqAt.EqAt A s u v (eqV y x) := by
  cases y with
  | non =>
    cases ry
    cases x with
    | non => cases rx; exact SeqAt.EqAt.same _
    | bl b => cases rx; exact SeqAt.EqAt.none_bool b
    | int b => obtain ⟨t, rfl⟩ := rx; exact SeqAt.EqAt.none_int b t
    | str b => obtain ⟨t, rfl⟩ := rx; exact SeqAt.EqAt.none_str b t
    | _ => exact absurd (show false = true from fx) Bool.false_ne_true
  | bl a =>
    cases ry
    cases x with
    | non => cases rx; exact SeqAt.EqAt.bool_none a
    | bl b => cases rx; exact SeqAt.EqAt.bool_bool a b
    | int b => obtain ⟨t, rfl⟩ := rx; exact SeqAt.EqAt.bool_int a b t
    | str b => obtain ⟨t, rfl⟩ := rx; exact SeqAt.EqAt.bool_str a b t
    | _ => exact absurd (show false = true from fx) Bool.false_ne_true
  | int a =>
    obtain ⟨t', rfl⟩ := ry
    cases x with
    | non => cases rx; exact SeqAt.EqAt.int_none a t'
    | bl b => cases rx; exact SeqAt.EqAt.int_bool a t' b
    | int b => obtain ⟨t, rfl⟩ := rx; exact SeqAt.EqAt.int_int a t' b t
    | str b => obtain ⟨t, rfl⟩ := rx; exact SeqAt.EqAt.int_str a t' b t
    | _ => exact absurd (show false = true from fx) Bool.false_ne_true
  | str a =>
    obtain ⟨t', rfl⟩ := ry
    cases x with
    | non => cases rx; exact SeqAt.EqAt.str_none a t'
    | bl b => cases rx; exact SeqAt.EqAt.str_bool a t' b
    | int b => obtain ⟨t, rfl⟩ := rx; exact SeqAt.EqAt.str_int a t' b t
    | str b => obtain ⟨t, rfl⟩ := rx; exact SeqAt.EqAt.str_str a t' b t
    | _ => exact absurd (show false = true from fx) Bool.false_ne_true
  | _ => exact absurd (show false = true from fy) Bool.false_ne_true
/-- the items' answers, read off the values (a value's own answer does not lean on its token) -/
def eqU (x : V) (u : Value) : Bool := match u with
  | .none => eqV .non x
  | .bool b => eqV (.bl b) x
  | .int i _ => eqV (.int i) x
  | .str z _ => eqV (.str z) x
  | _ => false
theorem eqU_of {x y : V} {u : Value} (r : RelV y u) (f : flatV y = true) : eqU x u = eqV y x := by
  cases y with
  | non => cases r; rfl
  | bl b => cases r; rfl
  | int i => obtain ⟨t, rfl⟩ := r; rfl
  | str z => obtain ⟨t, rfl⟩ := r; rfl
  | _ => exact absurd (show false = true from f) Bool.false_ne_true
theorem any_eqU {x : V} : ∀ {xs : List V} {us : List Value}, Vals xs us → xs.all flatV = true → us.any (eqU x) = xs.any fun y => eqV y x
  | _, _, .nil, _ => rfl
  | y :: xs, u :: us, .cons r t, f => by
    rw [List.all_cons, Bool.and_eq_true] at f
    rw [List.any_cons, List.any_cons, eqU_of r f.1, any_eqU t f.2]
theorem mem_eqAt {A : Around} {s : Shared} {x : V} {v : Value} (rx : RelV x v) (fx : flatV x = true) : ∀ {xs : List V} {us : List Value}, Vals xs us → xs.all flatV = true → ∀ u ∈ us, SeqAt.EqAt A s u v (eqU x u)
  | _, _, .nil, _ => fun u hu => by cases hu
  | y :: xs, u :: us, .cons r t, f => fun u' hu => by
    rw [List.all_cons, Bool.and_eq_true] at f
    rcases List.mem_cons.mp hu with rfl | hu
    · rw [eqU_of r f.1]; exact eqAt_V r rx f.1 fx
    · exact mem_eqAt rx fx t f.2 u' hu
def inV (x : V) (xs : List V) : Bool := xs.any fun y => eqV y x
/-- x in a list or tuple of flat items -/
def rIn (K : PySem.W.Frag) (neg : Bool) : R2 := fun x y H Q => ∃ p xs, y = .ref p ∧ (SqL K H p xs ∨ SqT K H p xs) ∧ flatV x = true ∧ xs.all flatV = true ∧ Q (.bl (if neg then !inV x xs else inV x xs)) H
theorem op_in_seq : OpR X (compareOp .In) (rIn X.K false) := by
  intro pins s σ H x y v u Q I rx ry h
  obtain ⟨p, xs, rfl, hq, fx, fs, q⟩ := h
  cases ry
  rcases hq with hq | hq
  · obtain ⟨its, r, pl, hz⟩ := I.list hq
    refine SeqAt.in_listAt (eqU x) pl.isList (fun w hw => mem_eqAt rx fx r fs w (by simpa using hw)) ⟨.bl _, H, I, rfl, ?_⟩
    rw [show its.toArray.any (eqU x) = its.any (eqU x) by simp, any_eqU r fs]
    exact q
  · obtain ⟨its, r, pl, hz⟩ := I.tuple hq
    refine SeqAt.in_tupleAt (eqU x) pl (fun w hw => mem_eqAt rx fx r fs w (by simpa using hw)) ⟨.bl _, H, I, rfl, ?_⟩
    rw [show its.toArray.any (eqU x) = its.any (eqU x) by simp, any_eqU r fs]
    exact q
/-! ### len, list(x), tuple(x) of any list or tuple that is read -/
theorem CallR.or {f : Value} {r r' : List V → Hp → VK → Prop} (h : CallR X f r) (h' : CallR X f r') : CallR X f (fun xs H Q => r xs H Q ∨ r' xs H Q) := by
  intro pins s σ H xs us Q I rs q
  rcases q with q | q
  · exact h pins s σ H xs us Q I rs q
  · exact h' pins s σ H xs us Q I rs q
theorem call_tuple_of : CallR X (.type "tuple") (fun xs H Q => ∃ p ys, xs = [.ref p] ∧ ((SqL X.K H p ys ∧ ∀ l, H l = none → Q (.ref l) (upd H l (.tup ys))) ∨ (SqT X.K H p ys ∧ Q (.ref p) H))) := by
  intro pins s σ H xs us Q I r h
  obtain ⟨p, ys, rfl, h⟩ := h
  obtain ⟨u, rfl, rx⟩ := vals1 r
  cases rx
  rcases h with ⟨hq, q⟩ | ⟨hq, q⟩
  · obtain ⟨its, r', pl, hz⟩ := I.list hq
    have hlen := r'.length
    refine call_tuple_list pl.isList (fun h' kp => ?_) (by simp only [List.size_toArray] <;> omega)
    have I1 : Inv X pins σ H { s with heap := h' } := I.kept (t' := s.toks) kp
    have I2 : Inv X pins σ (upd H h'.objs.size (.tup ys)) { s with heap := h'.push { cls := .type "tuple", data := .seq its.toArray } } :=
      I1.laid (t' := s.toks) (fun b o e => Heap.get?_push_of_some _ e) (Nat.le_refl _) (show ObjOk X.prog X.w _ _ _ (.tup ys) from ⟨hz, its, r', IsTup.new _ _⟩)
    exact ⟨.ref h'.objs.size, _, I2, rfl, q _ (I1.hok.fresh (Nat.le_refl _))⟩
  · obtain ⟨its, r', pl, hz⟩ := I.tuple hq
    exact call_tuple_same pl ⟨.ref p, H, I, rfl, q⟩

/-! ### the call of a builtin's method: o.m(..) -/
/-- the value is of that builtin type -/
def tyV (K : PySem.W.Frag) (T : String) (x : V) (H : Hp) : Prop := match x with
  | .str _ => T = "str"
  | .int _ => T = "int"
  | .ref p => (T = "list" ∧ ∃ xs, SqL K H p xs) ∨ (T = "tuple" ∧ ∃ o, K.lookup p = some o ∧ o.cls = .type "tuple" ∧ o.dict = none) ∨
      (T = "dict" ∧ ((∃ kvs, H p = some (.dK kvs)) ∨ ∃ kvs, H p = some (.dT kvs))) ∨ (T = "set" ∧ ∃ S n, H p = some (.set S n))
  | _ => False
theorem tyV_is {pins : List (Addr × Obj)} {σ : St} {H : Hp} {s : Shared} {T : String} {x : V} {v : Value} (I : Inv X pins σ H s) (r : RelV x v) (ty : tyV X.K T x H) :
    s.TypeIs v T ∧ ∀ a, v = .ref a → ∃ ob, s.heap.get? a = some ob ∧ ob.dict = none := by
  cases x with
  | str z =>
    obtain ⟨t, rfl⟩ := r
    cases (show T = "str" from ty)
    exact ⟨typeIs_str s z t, fun _ e => nomatch e⟩
  | int i =>
    obtain ⟨t, rfl⟩ := r
    cases (show T = "int" from ty)
    exact ⟨typeIs_int s i t, fun _ e => nomatch e⟩
  | ref p =>
    cases r
    rcases ty with ⟨rfl, xs, hq⟩ | ⟨rfl, o, hk, hc, hd⟩ | ⟨rfl, hk⟩ | ⟨rfl, S, n, hk⟩
    · obtain ⟨its, _, pl, _⟩ := I.list hq
      refine ⟨pl.isList.typeIs, fun a e => ?_⟩
      cases e
      obtain ⟨o, n, e, c, hd, _⟩ := pl
      exact ⟨o, e, hd⟩
    · refine ⟨⟨o, I.kIn p o hk, hc⟩, fun a e => ?_⟩
      cases e
      exact ⟨o, I.kIn _ o hk, hd⟩
    · have z : ∃ o, s.heap.get? p = some o ∧ o.ExactDict := by
        rcases hk with ⟨kvs, hk⟩ | ⟨kvs, hk⟩
        · obtain ⟨_, _, _, _, o, _, _, e, ex, _⟩ := I.hok p _ hk
          exact ⟨o, e, ex⟩
        · obtain ⟨_, _, _, _, o, _, _, e, ex, _⟩ := I.hok p _ hk
          exact ⟨o, e, ex⟩
      obtain ⟨o, e, ex⟩ := z
      refine ⟨⟨o, e, ex.1⟩, fun a e2 => ?_⟩
      cases e2
      exact ⟨o, e, ex.2.1⟩
    · obtain ⟨o, _, _, _, e, ex, _⟩ := I.hok p _ hk
      refine ⟨⟨o, e, ex.1⟩, fun a e2 => ?_⟩
      cases e2
      exact ⟨o, e, ex.2.1⟩
  | _ => exact False.elim ty
def tBM0 (K : PySem.W.Frag) (T : String) (r : V → List V → Hp → VK → Prop) (to : TE) : TE := fun σ H Q => to σ H fun x H1 => tyV K T x H1 ∧ r x [] H1 Q
def tBM (K : PySem.W.Frag) (T : String) (r : V → List V → Hp → VK → Prop) (to : TE) (t : TA) : TE := fun σ H Q => to σ H fun x H1 => tyV K T x H1 ∧ t σ H1 fun xs H2 => r x xs H2 Q
variable {o e : Expr} {es : List Expr} {to : TE} {t : TA} {name : Str} {apos cpos : Pos} {T id : String} {r : V → List V → Hp → VK → Prop}
theorem pe_bm0 (pa : PlainAttrs T) (slot : Slot T name id) (hty : typeOf (.builtin id) = pure (.type "method_descriptor")) (hm : MtR X id r) (ho : PE X o to)
    (hbase : attributeBase o name X.env (eval o X.env) = eval o X.env := by rfl) (hline : (apos.endLine == cpos.line) = true := by rfl) : PE X (.Call (.Attribute o name apos) [] [] cpos) (tBM0 X.K T r to) := by
  intro pins s σ H Q I h
  refine wpAny_Call_method0_late hbase hline (thn (ho pins s σ H _ I h) fun v s1 ⟨x, H1, I1, r1, ty, q1⟩ => ?_)
  obtain ⟨h1, h2⟩ := tyV_is I1 r1 ty
  exact ⟨T, id, pa, slot, hty, h1, h2, Calls.callWith_builtin rfl (PySem.evalArgs_none (hm pins s1 σ H1 x [] v [] Q I1 r1 .nil q1))⟩
theorem pe_bm (pa : PlainAttrs T) (slot : Slot T name id) (hty : typeOf (.builtin id) = pure (.type "method_descriptor")) (hm : MtR X id r) (ho : PE X o to) (ha : PA X (e :: es) t)
    (hbase : attributeBase o name X.env (eval o X.env) = eval o X.env := by rfl)
    (hfew : ((backTo cpos (starEach (e :: es) X.env)).all (fun x => !x.1) && (backToKw cpos (keywordEach [] X.env)).all (fun x => x.1.isSome)
      && decide ((e :: es).length + ([] : List Keyword).length + (if ([] : List Keyword).isEmpty then 0 else 1) < 30)) = true := by rfl)
    (hline : (apos.endLine == cpos.line) = true := by rfl) (hs : starEach (e :: es) X.env = (false, eval e X.env) :: starEach es X.env := by rfl) (hplain : (backTo cpos (starEach es X.env)).any (·.1) = false := by rfl) :
    PE X (.Call (.Attribute o name apos) (e :: es) [] cpos) (tBM X.K T r to t) := by
  intro pins s σ H Q I h
  refine wpAny_Call_method_late hbase hfew hline rfl (thn (ho pins s σ H _ I h) fun v s1 ⟨x, H1, I1, r1, ty, q1⟩ => ?_)
  obtain ⟨h1, h2⟩ := tyV_is I1 r1 ty
  refine ⟨T, id, pa, slot, hty, h1, h2, ?_⟩
  have hA := ha cpos pins s1 σ H1 _ I1 q1
  rw [hs] at hA ⊢
  refine Calls.callWith_builtin (by show (false || (backTo cpos (starEach es X.env)).any (·.1)) = false; rw [hplain] <;> rfl) (Calls.evalArgs_plain ?_)
  exact thn hA fun us s2 ⟨vs, H2, I2, r2, q2⟩ => hm pins s2 σ H2 x vs v us Q I2 r1 r2 q2
/- xs.append(e), list.index on a module's tuple .. are MtR facts of 06m -/
end
end L2

namespace L2
open PySem PySem.Spec PyProof.Rows

def MtM (X : Cx) (id : String) (r : V → List V → Hp → VK → Prop) : Prop :=
  ∀ (pins : List (Addr × Obj)) (s : Shared) (σ : St) (H : Hp) (x : V) (xs : List V) (v : Value) (us : List Value) (Q : VK), Inv X pins σ H s → RelV x v → Vals xs us → r x xs H Q →
    wpAny (model X.prog X.w) X.A (call (.builtin id) (v :: us)) (EP X pins σ Q) X.xe s

/-! ### lists of values -/
theorem Vals.one : ∀ {x : V} {us : List Value}, Vals [x] us → ∃ u, us = [u] ∧ RelV x u
  | _, _, h => by
    cases h with
    | cons r t =>
      cases t
      exact ⟨_, rfl, r⟩
theorem Vals.two : ∀ {x y : V} {us : List Value}, Vals [x, y] us → ∃ u v, us = [u, v] ∧ RelV x u ∧ RelV y v
  | _, _, _, h => by
    cases h with
    | cons r t =>
      cases t with
      | cons q t2 =>
        cases t2
        exact ⟨_, _, rfl, r, q⟩
theorem Vals.zero : ∀ {us : List Value}, Vals [] us → us = []
  | _, .nil => rfl
theorem Vals.reverse {xs : List V} {us : List Value} (h : Vals xs us) : Vals xs.reverse us.reverse := by
  induction h with
  | nil => exact .nil
  | cons r t ih => rw [List.reverse_cons, List.reverse_cons]; exact Vals.append ih (.cons r .nil)
section
variable {X : Cx} {pins : List (Addr × Obj)} {σ : St} {H : Hp} {s : Shared} {l b : Addr} {xs ys zs : List V}

/-! ### the two steps: a tracked list is rewritten, a new list is laid -/
theorem Inv.lset {its its' : List Value} {n : Nat} {f : Array Value → Array Value} {t' : Nat} (I : Inv X pins σ H s) (hH : H l = some (.lst xs))
    (e : s.heap.get? l = some { cls := .type "list", data := .seq its.toArray n }) (hf : f its.toArray = its'.toArray) (hv : Vals ys its') (hz : ys.length ≤ sizeLine) :
    Inv X pins σ (upd H l (.lst ys)) { s with heap := s.heap.update l (Obj.mapSeq f), toks := t' } := by
  have q := PySem.IsL.update e f
  rw [hf] at q
  refine I.write (x := l) (e := l) (by rw [hH]; exact trivial) (.inl rfl) (fun b' u hb hu => (Heap.get?_update_other s.heap (Obj.mapSeq f) (Ne.symm hb)).trans hu) ⟨_, q⟩ ?_
  exact ⟨hz, its', _, hv, q⟩
theorem Inv.lnew {its : List Value} {t' : Nat} (I : Inv X pins σ H s) (hv : Vals ys its) (hz : ys.length ≤ sizeLine) :
    Inv X pins σ (upd H s.heap.objs.size (.lst ys)) { s with heap := s.heap.push { cls := .type "list", data := .seq its.toArray }, toks := t' } :=
  I.laid (fun _ _ q => Heap.get?_push_of_some _ q) (Nat.le_refl _) ⟨hz, its, 0, hv, Heap.get?_push_size _ rfl⟩
theorem Inv.fresh (I : Inv X pins σ H s) : H s.heap.objs.size = none := I.hok.fresh (Nat.le_refl _)
theorem Inv.lstM (I : Inv X pins σ H s) (hH : H l = some (.lst xs)) : xs.length ≤ sizeLine ∧ ∃ (its : List Value) (n : Nat), Vals xs its ∧ xs.length = its.length ∧ s.heap.get? l = some { cls := .type "list", data := .seq its.toArray n } := by
  obtain ⟨z, its, n, r, e⟩ := I.hok l _ hH
  exact ⟨z, its, n, r, r.length, e⟩

theorem notLongL {n : Nat} (h : n ≤ sizeLine) : Builtin.List.listTooLong n = false := by
  unfold Builtin.List.listTooLong
  exact decide_eq_false (by omega)
end

section
variable {X : Cx}

/-! ### methods -/
def rAppend : V → List V → Hp → VK → Prop := fun x vs H Q => ∃ l xs y, x = .ref l ∧ vs = [y] ∧ H l = some (.lst xs) ∧ xs.length < sizeLine ∧ Q .non (upd H l (.lst (xs ++ [y])))
theorem mt_append : MtM X "list.append" rAppend := by
  intro pins s σ H x vs v us Q I rx rv h
  obtain ⟨l, xs, y, rfl, rfl, hH, hz, q⟩ := h
  cases rx
  obtain ⟨u, rfl, ru⟩ := rv.one
  obtain ⟨z, its, n, r, hl, e⟩ := I.lstM hH
  refine call_meets F.slot_list_append ⟨_, e, rfl⟩ F.entry_list_append (F.args_list_append_2 _ _) (PySem.list_append l its.toArray n u (by rw [List.size_toArray]; omega)) ⟨e, ?_⟩
  refine ⟨.non, _, I.lset (its' := its ++ [u]) hH e (by simp) (r.append (.cons ru .nil)) ?_, rfl, q⟩
  rw [List.length_append, List.length_singleton]
  omega

/-! ### list + list, list += list, list * int -/
/-! ### del xs[i] -/
end

/-! ### xs[a:b] = ys -/
section
variable {prog : Program} {w : World} {A : Around} {E : Value → Shared → Prop} {s : Shared}
end

section
variable {X : Cx}
end
end L2

namespace Att
open PySem PySem.W PySem.Calls PyProof.Rows

/-! ### the script -/
theorem ints_of_wellAll {P : Params} {h : Heap} : ∀ (ns : List Int) (vs : List Value), WellAll P h vs (ns.map WData.int) → IntsAre vs ns := by
  intro ns
  induction ns with
  | nil =>
    intro vs w
    rw [List.map_nil] at w
    cases w
    exact .nil
  | cons n ns ih =>
    intro vs w
    rw [List.map_cons] at w
    cases w with
    | cons a b =>
      cases a
      exact .cons _ _ (ih _ b)

theorem script_of {l : OpenLaw} {n : Nat} (hn : l.most = some n) {P : Params} {h : Heap} {args : List WData} {vals : List Value}
    (hpre : l.row.toRowW.claim.pre args = true) (hwl : WellAll P h vals args) :
    ∃ a vs ns, vals = [Value.ref a] ∧ args = [WData.list (ns.map WData.int)] ∧ h.get? a = some { cls := .type "list", data := .seq vs.toArray } ∧ IntsAre vs ns ∧ ns.length ≤ n := by
  have hsh : WShape.hasAll [] args [.list .int] = true := (pre_splitW hpre).1
  have hc : l.pre.holds [] { args := args } = true := (pre_splitW hpre).2
  obtain ⟨d, r, rfl, h1, h2⟩ := hasAllW_cons hsh
  obtain rfl := hasAllW_nil h2
  obtain ⟨xs, rfl, h3⟩ := hasW_list h1
  obtain ⟨ns, rfl⟩ := items_int h3
  have hlen : ns.length ≤ n := by
    unfold OpenLaw.pre at hc
    have h4 : (WTm.not (.lt (.lit (.int (n : Int))) (.len (.arg 0)))).holds [] { args := [.list (ns.map .int)] } = true := by
      have h4 := (holds_andW hc).1
      rw [hn] at h4
      exact h4
    have h5 := condW_of h4 (w_not (w_lt w_lit (w_len_list (w_arg rfl))))
    rw [List.length_map] at h5
    refine Nat.le_of_not_lt fun q => ?_
    have q' : (n : Int) < ((ns.length : Nat) : Int) := by omega
    first
      | (rw [decide_eq_true q'] at h5; exact absurd h5 (by decide))
      | (simp at h5; omega)
  cases hwl with
  | cons w1 w2 =>
    cases w2
    cases w1 with
    | list ho hall => exact ⟨_, _, ns, rfl, rfl, ho, ints_of_wellAll ns _ hall, hlen⟩

theorem post_true (l : OpenLaw) (args : List WData) : l.row.toRowW.claim.post args (.bool true) args = true :=
  postW_of (r := l.row.toRowW) (X := (true == true))
    (show WShape.has [] (.bool true) .bool = true by first | rfl | decide | simp [WShape.has, WShape.arms, WShape.armsAll])
    (show (WTm.eq .res (.lit (.bool true))).value [] { args := args, res := some (.bool true), after := args } = some (.bool (true == true)) from w_eq_bool (w_res rfl) w_lit) rfl

/-! ### the attachment: holds_open's last premise (the goal 'hc' behind k_head) from a wpAny of the law's body -/
/-- the same from a codeAny of the CALL (for a layer whose function contracts speak of calls) -/
theorem attach_call {l : OpenLaw} {n : Nat} {q : Program} {loose : List Str} {XP : (Str → Option Value) → Heap → Prop} {YP : World → Heap → Prop} {d : DefRec}
    (hn : l.most = some n) (hdf : d.params.defaults = [])
    (call : ∀ (w : World) (s₀ s₁ : Shared) (mg mb : Str → Option Value) (fa : Addr) (o : Obj) (pm cd doc : Value) (a : Addr) (vs : List Value) (ns : List Int),
      Ground q loose [] XP w s₀ mg mb s₁.heap → YP w s₁.heap →
      s₁.heap.get? fa = some o → o.data = .func (docDef d.name d.params d.body d.scope pm cd doc) → s₁.heap.CodeRec cd d.name → mg d.name = some (.ref fa) →
      s₁.heap.get? a = some { cls := .type "list", data := .seq vs.toArray } → IntsAre vs ns → ns.length ≤ n → s₁.gens = #[] →
      codeAny (model l.prog w) callerA (.call (.ref fa) ⟨[.ref a], []⟩) (fun r s' => r = .ok (.ret (.bool true)) ∧ OldK s₁.heap s'.heap ∧ s'.os = s₁.os ∧ AllBare s'.gens) s₁) :
    WalkO q loose XP YP l.row.toRowW d [] (fun f vs => PySem.call f vs) := by
  intro w s₀ s₁ mg mb G Y fa o pm cd doc dV kV ho hd hcd hD hmg hg args vals as hpre hlay hrd hwl hlo
  obtain rfl : dV = .none := Dflts.none hD hdf
  obtain rfl : kV = .none := Dflts.noKw hD
  obtain ⟨a, vs, ns, rfl, rfl, hobj, hints, hlen⟩ := script_of hn hpre hwl
  refine enter_call (codeAny_mono (call w s₀ s₁ mg mb fa o pm cd doc a vs ns G Y ho (fd_plain hd) hcd hmg hobj hints hlen hg) fun r s' hq => ?_)
  obtain ⟨rfl, h2, h3, h4⟩ := hq
  exact ⟨.inl ⟨.bool true, .bool true, [], rfl, fun _ => rfl, .bool true, post_true l _, fun _ => ⟨List.Pairwise.nil, fun _ hm => (nomatch hm)⟩⟩, h2, h3, h4⟩

/-! ### rules over ANY heap (no ledger) from facts about the written part K: the library's own take a ledger (News) for what they write -/
section
variable {prog : Program} {w : World} {A : Around} {E : Value → Shared → Prop} {s : Shared} {K : Frag}

/-! the whole heap as the ledger: makes every rule that writes through a ledger a rule over any heap -/
def ledger (h : Heap) (L d : Addr) : List (Addr × Obj) := (List.range h.objs.size).filterMap fun a => if a = L ∨ a = d then none else (h.get? a).map fun o => (a, o)
end
end Att

namespace L2
open PySem PySem.Spec PyProof.Rows

theorem vals_ints : ∀ {vs : List Value} {ns : List Int}, IntsAre vs ns → Vals (ns.map V.int) vs
  | _, _, .nil => .nil
  | _, _, .cons n t h => .cons ⟨t, rfl⟩ (vals_ints h)

/-- nothing is tracked but the script, known to the object (or it is an object of the module) -/
def Only (H : Hp) : Prop := ∀ b, H b = none ∨ ∃ o xs, H b = some (.frz o (.lst xs))

/-- THE HEAD: the law's promise, at the heap behind the top. F, the promise of the law's def, may use that base is part of the heap (so K.In base, base.Ns mainGlobals mg stand in Mod) -/
theorem law_call {P : Program} {w : World} {K : PySem.W.Frag} {mg mb : Str → Option Value} {CX : CXT} {k : Nat} {fa a : Addr} {fd : FuncData} {x : Str} {sp : Sp} {s₁ : Shared} {vs : List Value} {ns : List Int}
    (KX : K.In s₁.heap) (hns : s₁.heap.Ns mainGlobals mg) (hb : s₁.heap.Ns builtinsNs mb) (hbb : ∀ x : Str, x ≠ "__name__" → mb x = bootBuiltins x) (hlim : s₁.heap.NoLimit) (hg : s₁.gens = #[])
    (ha : s₁.heap.get? a = some { cls := .type "list", data := .seq vs.toArray }) (hi : IntsAre vs ns) (hl : ns.length ≤ sizeLine) (hr : Room k callerA)
    (F : ∀ base : Heap, K.In base → base.Ns mainGlobals mg → FnOk P w K mg base CX k fa fd [x] sp) (hbind : ∀ (s : Shared) (u : Value), BindsTo s fd ⟨[u], []⟩ [(x, u)])
    (hsp : ∀ H : Hp, Only H → SqL K H a (ns.map V.int) → sp [.ref a] H (fun v _ => v = .bl true) fun _ _ _ => False)
    (hCX : ∀ H e s', CX [] H s₁ (fun _ _ _ => False) e s' → False) :
    codeAny (model P w) callerA (.call (.ref fa) ⟨[.ref a], []⟩) (fun r s' => r = .ok (.ret (.bool true)) ∧ OldK s₁.heap s'.heap ∧ s'.os = s₁.os ∧ AllBare s'.gens) s₁ := by
  have rv := vals_ints hi
  have lenV := hi.length
  -- from an abstract heap in which nothing but the script may be tracked
  have core : ∀ H : Hp, Only H → SqL K H a (ns.map V.int) → HOk P w H s₁.heap → (∀ b, H b ≠ none → b = a) → (H a ≠ none → K.lookup a = none) →
      codeAny (model P w) callerA (.call (.ref fa) ⟨[.ref a], []⟩) (fun r s' => r = .ok (.ret (.bool true)) ∧ OldK s₁.heap s'.heap ∧ s'.os = s₁.os ∧ AllBare s'.gens) s₁ := by
    intro H hO hS hok hA hK
    have base_of : ∀ {b : Addr} {o : Obj}, s₁.heap.get? b = some o → H b = none → (hidT s₁.heap H).get? b = some o := fun e n => hidT_get e n
    have noA : ∀ {b : Addr} {o : Obj} {es : Array DictEntry} {ep : Nat}, s₁.heap.get? b = some o → o.data = .dict es ep → H b = none := fun {b o es ep} e d => by
      cases q : H b with
      | none => rfl
      | some u =>
        have e' : b = a := hA b (by rw [q]; simp)
        subst e'
        rw [ha] at e; cases e
        have d' : Data.seq vs.toArray _ = Data.dict es ep := d
        cases d'
    have nsK : ∀ {b : Addr} {m : Str → Option Value}, s₁.heap.Ns b m → (hidT s₁.heap H).Ns b m := fun {b m} ⟨o, es, ep, e, d, r⟩ => ⟨o, es, ep, base_of e (noA e d), d, r⟩
    have hKb : K.In (hidT s₁.heap H) := fun b o e => base_of (KX b o e) (by
      cases q : H b with
      | none => rfl
      | some u =>
        have e' : b = a := hA b (by rw [q]; simp)
        subst e'
        rw [hK (by rw [q]; simp)] at e; cases e)
    have hM : Mod K mg (hidT s₁.heap H) := ⟨hKb, nsK hns, ⟨mb, nsK hb, hbb⟩, let ⟨mc, h1, h2⟩ := hlim; ⟨mc, nsK h1, h2⟩⟩
    have e0 : Env0 P w K mg (hidT s₁.heap H) callerA [] s₁ H := ⟨rfl, hM, fun b o e => of_hidT e, Nat.le_of_eq (hidT_size _ _), trivial, fun b hb => absurd (show b ∈ ([] : List Addr) from hb) (by simp), hok, .of_eq hg⟩
    refine codeAny_mono ((F _ hKb (nsK hns)).run callerA [] s₁ H ⟨[.ref a], []⟩ [.ref a] [.ref a] _ _ hr e0 (hbind s₁ (.ref a)) (.cons rfl .nil) (hsp H hO hS)) fun r s' h => ?_
    cases r with
    | error e => exact (hCX H e s' h).elim
    | ok fl =>
      cases fl with
      | next => exact False.elim h
      | brk => exact False.elim h
      | cont => exact False.elim h
      | ret u =>
        obtain ⟨v, H', os, bare, un, hok', r', q⟩ := h
        have q' : v = .bl true := q
        subst q'
        obtain rfl : u = Value.bool true := r'
        refine ⟨rfl, OldK.of_keep fun b o e => ?_, os, bare⟩
        cases q : H b with
        | none => exact un.keep b o e q (by intro z; exact absurd (show b ∈ ([] : List Addr) from z) (by simp)) (by simp)
        | some u =>
          rcases hO b with z | ⟨ob, xs, z⟩
          · rw [q] at z; cases z
          · have z2 := un.frzs b ob _ z
            obtain ⟨e1, _⟩ := hok b _ z
            obtain ⟨e2, _⟩ := hok' b _ z2
            rw [e] at e1; cases e1
            exact e2
  cases hk : K.lookup a with
  | some o =>
    -- the script is one of the module's own objects
    have e := KX a o hk
    rw [ha] at e
    cases e
    refine core (fun _ => none) (fun _ => .inl rfl) (.inr ⟨_, vs.toArray, _, hk, rfl, rfl, rfl, by rw [List.size_toArray, lenV]; exact hl, by simpa using rv⟩) (fun b u z => by have z' : (none : Option HO) = some u := z; cases z') (fun b z => absurd rfl z) fun z => absurd rfl z
  | none =>
    refine core (fun b => if b = a then some (.frz { cls := .type "list", data := .seq vs.toArray } (.lst (ns.map V.int))) else none) (fun b => ?_) (.inl (.inr ⟨{ cls := .type "list", data := .seq vs.toArray }, if_pos rfl⟩)) (fun b u z => ?_) (fun b z => ?_) fun _ => hk
    · by_cases hb : b = a
      · exact .inr ⟨_, _, if_pos hb⟩
      · exact .inl (if_neg hb)
    · by_cases hb : b = a
      · have z' := (if_pos hb).symm.trans z
        cases z'
        subst hb
        exact ⟨ha, by rw [List.length_map]; exact hl, vs, _, rv, ha⟩
      · have z' := (if_neg hb).symm.trans z
        cases z'
    · by_cases hb : b = a
      · exact hb
      · exact absurd (if_neg hb) z
end L2

namespace L2
open PySem PySem.Spec PyProof.Rows

abbrev KOf {K : PySem.W.Frag} {h : Heap} (_ : K.In h) : PySem.W.Frag := K

/-- the goal that k_head leaves (case hc), from the law's promise. F gives the function object fd (K's own) once, then the promise over every base -/
theorem walk_of {l : PySem.W.OpenLaw} {n k : Nat} {q : Program} {loose : List Str} {XP : (Str → Option Value) → Heap → Prop} {YP : World → Heap → Prop} {d : DefRec} {K : Params → PySem.W.Frag} {CX : World → CXT} {sp : World → Sp} {x : Str}
    (hn : l.most = some n) (hn2 : n ≤ sizeLine) (hdf : d.params.defaults = []) (hr : Room k callerA)
    (hY : ∀ (w : World) (h : Heap), YP w h → (K w.params).In h)
    (F : ∀ (w : World) (mg : Str → Option Value) (fa : Addr) (h : Heap), (K w.params).In h → h.Ns mainGlobals mg → mg d.name = some (.ref fa) →
      ∃ fd : FuncData, (∀ (s : Shared) (u : Value), BindsTo s fd ⟨[u], []⟩ [(x, u)]) ∧
        ∀ base : Heap, (K w.params).In base → base.Ns mainGlobals mg → FnOk l.prog w (K w.params) mg base (CX w) k fa fd [x] (sp w))
    (hsp : ∀ (w : World) (H : Hp) (a : Addr) (ns : List Int), ns.length ≤ n → Only H → SqL (K w.params) H a (ns.map V.int) → sp w [.ref a] H (fun v _ => v = .bl true) fun _ _ _ => False)
    (hCX : ∀ (w : World) (H : Hp) (s : Shared) (e : Value) (s' : Shared), CX w [] H s (fun _ _ _ => False) e s' → False) :
    PySem.W.WalkO q loose XP YP l.row.toRowW d [] (fun f vs => PySem.call f vs) := by
  refine Att.attach_call hn hdf fun w s₀ s₁ mg mb fa o pm cd doc a vs ns G Y ho hd hcd hmg hobj hints hlen hg => ?_
  have KX := hY w _ Y
  obtain ⟨fd, hb, hF⟩ := F w mg fa _ KX G.T.g hmg
  exact law_call KX G.T.g G.T.b G.T.builtins G.T.nolimit hg hobj hints (Nat.le_trans hlen hn2) hr hF hb (fun H hO hS => hsp w H a ns hlen hO hS) fun H e s' => hCX w H s₁ e s'
end L2

/- THE LAST THEOREM (shape; LID, My.* are yours):
   My.Adr: a structure of the addresses that your layer names (classes, functions); My.Txt K t: a structure (Prop) of the equations over K;
   My.txt_mk : {K} {implicit addresses ..} (e1 : nsIn K mainGlobals "law" = some (some (.ref f))) (e2 : K.lookup f = some ⟨oc, od, .func (fnOf "law" "law" params body scope dV kV doc pm an cdv ct), sl⟩) (e3 : codeIn K cdv "law" = true) .. : ∃ t, My.Txt K t

set_option maxRecDepth 100000 in
set_option maxHeartbeats 0 in
theorem PySem.Challenge.cw_LID_holds : PySem.Challenge.rw_LID.Holds := by
  w_on; o_law; k_head; (case hw => w_witness2)
  k_fill
  refine L2.walk_of (l := PySem.Challenge.rw_LID) (n := 63) (k := 40) (x := "script") (CX := fun w => ..) (sp := fun _ => My.sp_law) rfl (by decide) rfl ⟨rfl, by decide, by decide⟩ (fun w h Y => PySem.W.kIn_of Y) ?F ?S ?C
  case F =>
    intro w mg fa h KX G hmg
    have T : ∃ t, My.Txt (L2.KOf KX) t := by
      dsimp only [L2.KOf]                          -- K must stand as «<heap const> w.params» for k_is
      refine' My.txt_mk ?e1 ?e2 ?e3 ..
      (case e1 => PySem.W.k_is)                    -- in the order: a name -> its address -> its object -> its parts
      (case e2 => PySem.W.k_is)
      ..
    obtain ⟨t, T⟩ := T
    have e0 := hmg.symm.trans (PySem.W.mg_of KX G T.law)
    cases e0                                       -- fa is the law's own address
    exact ⟨_, fun s u => .of_eq rfl, fun base kb nb => My.law_fn T kb nb⟩     -- if «.of_eq rfl» comes too early: refine' ⟨_, ?b, fun base kb nb => My.law_fn T kb nb⟩; exact fun s u => .of_eq rfl
  case S => exact fun w H a ns hl hO hS => ..
  case C => exact ..
(the tactic k_is has no namespace: write k_is) -/

/-! SHORT WORDS over the layer: a def of the text, its body, what a loop and a test want. -/
namespace L2
open PySem PySem.Spec PyProof.Rows

/-! ### the text by places -/
def defArgs (s : Stmt) : Arguments := match s with
  | .FunctionDef _ a _ _ _ _ _ _ _ _ => a
  | _ => { posonlyargs := [], args := [], vararg := none, kwonlyargs := [], kw_defaults := [], kwarg := none, defaults := [] }
def defBody (s : Stmt) : List Stmt := match s with
  | .FunctionDef _ _ b _ _ _ _ _ _ _ => b
  | _ => []
def defScope (s : Stmt) : Scope := match s with
  | .FunctionDef _ _ _ _ _ _ sc _ _ _ => sc
  | _ => { kind := .function, names := [], isGenerator := false, isCoroutine := false }

/-! ### no exception leaves a def -/
abbrev CX0 : CXT := fun _ _ _ _ _ _ => False
abbrev E0 : XK := fun _ _ _ => False
theorem pass0 {X : Cx} : Passes CX0 X E0 := fun _ _ _ _ _ _ _ h => h.elim

/-! ### a def (or method) of the text as it stands behind the top -/
structure Fun (K : PySem.W.Frag) (x qual : Str) (st : Stmt) (f : Addr) (fd : FuncData) : Prop where
  ex : ∃ (oc : Value) (od : Option Addr) (kV doc pm : Value) (an : Option Addr) (cdv ct : Value) (osl : Array (Option Value)),
    fd = PySem.W.fnOf x qual (defArgs st) (defBody st) (defScope st) .none kV doc pm an cdv ct ∧ K.lookup f = some ⟨oc, od, .func fd, osl⟩ ∧ PySem.W.codeIn K cdv qual = true
  kp : PySem.W.keepIn K (.ref f) = true
section
variable {P : Program} {w : World} {K : PySem.W.Frag} {mg : Str → Option Value} {base : Heap}
/-- THE RULE for a def: its body as a term of rules, and the reading of that term -/
theorem Fun.ok {x qual : Str} {st : Stmt} {f : Addr} {fd : FuncData} {N ps : List Str} {k : Nat} {sp : Sp} (F : Fun K x qual st f fd) (S : FnScope N ps (defScope st)) (len : ∀ vs H Q E, sp vs H Q E → vs.length = ps.length)
    (hbody : ∀ (cdv : Value) (A : Around) (outer : List Env) (s : Shared) (H : Hp) (vs : List V) (Q : VK) (E : XK), Room k (A.deeper (envOfC qual (defScope st) s.heap.objs.size f cdv)) → sp vs H Q E →
      ∃ t, PSs (cxOf CX0 P w K mg base N qual (defScope st) f cdv A outer s H E).nox (defBody st) t ∧ t { nx := fun _ H' => Q .non H', rt := Q } (start N vs) H) : FnOk P w K mg base CX0 (k + 1) f fd ps sp := by
  obtain ⟨oc, od, kV, doc, pm, an, cdv, ct, osl, rfl, lk, hcd⟩ := F.ex
  refine fn_of lk hcd S len fun A outer s H vs Q E hr hsp => ?_
  obtain ⟨t, h, q⟩ := hbody cdv A outer s H vs Q E hr hsp
  exact ⟨t, h.nox, q⟩
/-- how its arguments bind (no defaults): h is «fun _ _ _ _ _ _ us hl => match us, hl with | [_, _], _ => rfl», one _ a parameter -/
theorem Fun.binds {x qual : Str} {st : Stmt} {f : Addr} {fd : FuncData} {ps : List Str} (F : Fun K x qual st f fd)
    (h : ∀ (kV doc pm : Value) (an : Option Addr) (cdv ct : Value) (us : List Value), us.length = ps.length → bindArgs (PySem.W.fnOf x qual (defArgs st) (defBody st) (defScope st) .none kV doc pm an cdv ct) ⟨us, []⟩ = pure (ps.zip us)) : Binds K fd ps [] := by
  obtain ⟨oc, od, kV, doc, pm, an, cdv, ct, osl, rfl, lk, hcd⟩ := F.ex
  exact .all (h kV doc pm an cdv ct)
end
/-! ### expressions in short: the name that stands in the i-th slot -/
section
variable {X : Cx}
end

/-! ### tests -/
/-! ### heaps -/
/-- all that was tracked is as it was -/
def Same (H H' : Hp) : Prop := ∀ b o, H b = some o → H' b = some o
theorem Same.refl (H : Hp) : Same H H := fun _ _ h => h
theorem Same.trans {H H1 H2 : Hp} (a : Same H H1) (b : Same H1 H2) : Same H H2 := fun c o h => b c o (a c o h)
theorem Same.free {H H' : Hp} (e : Same H H') {l : Addr} (h : H' l = Option.none) : H l = Option.none := by
  cases q : H l with
  | none => rfl
  | some o =>
    rw [e l o q] at h
    cases h
theorem Same.seq {K : PySem.W.Frag} {H H' : Hp} {a : Addr} {xs : List V} (e : Same H H') (h : SqL K H a xs) : SqL K H' a xs := by
  rcases h with (h | ⟨o, h⟩) | h
  · exact .inl (.inl (e _ _ h))
  · exact .inl (.inr ⟨o, e _ _ h⟩)
  · exact .inr h

end L2

set_option Elab.async false
set_option linter.all false
set_option maxRecDepth 100000
set_option maxHeartbeats 4000000
/-! Plain data, and the functions that expressions, statements and defs are. -/
namespace VL
open PySem L2
abbrev D := PyData
inductive Sl where
  | un | fz (d : D) | ow (ds : List D)
abbrev Dv := List Sl
inductive Fl where
  | nx | bk | ct | rt (d : D)
abbrev Sf := Dv → Option (Fl × Dv)
@[simp] def o2 (f1 f2 : Dv → Option D) (g : D → D → Option D) : Dv → Option D := fun δ => (f1 δ).bind fun x => (f2 δ).bind fun y => g x y
@[simp] def o1 (f : Dv → Option D) (g : D → Option D) : Dv → Option D := fun δ => (f δ).bind g
@[simp] def os (f : Dv → Option (List D)) (g : List D → Option D) : Dv → Option D := fun δ => (f δ).bind g
def asB : D → Option Bool
  | .bool b => some b
  | _ => none
@[simp] theorem asB_bool (b : Bool) : asB (.bool b) = some b := rfl
@[simp] def ob (f : Dv → Option D) : Dv → Option Bool := fun δ => (f δ).bind asB
@[simp] def oAnd (t u : Dv → Option Bool) : Dv → Option Bool := fun δ => (t δ).bind fun b => if b = true then u δ else some false
@[simp] def oOr (t u : Dv → Option Bool) : Dv → Option Bool := fun δ => (t δ).bind fun b => if b = true then some true else u δ
@[simp] def oNot (t : Dv → Option Bool) : Dv → Option Bool := fun δ => (t δ).map (!·)
@[simp] def oAndV (f1 f2 : Dv → Option D) : Dv → Option D := fun δ => (f1 δ).bind fun x => (asB x).bind fun b => if b = true then f2 δ else some (.bool false)
@[simp] def oOrV (f1 f2 : Dv → Option D) : Dv → Option D := fun δ => (f1 δ).bind fun x => (asB x).bind fun b => if b = true then some (.bool true) else f2 δ
@[simp] def notD (d : D) : Option D := (asB d).map fun b => .bool (!b)
@[simp] def oIf (t : Dv → Option Bool) (f1 f2 : Dv → Option D) : Dv → Option D := fun δ => (t δ).bind fun b => if b = true then f1 δ else f2 δ
def slV : Option Sl → Option D
  | some (.fz d) => some d
  | _ => none
@[simp] theorem slV_fz (d : D) : slV (some (.fz d)) = some d := rfl
@[simp] def oV (i : Nat) : Dv → Option D := fun δ => slV δ[i]?
@[simp] def oC (d : D) : Dv → Option D := fun _ => some d
@[simp] def oNil : Dv → Option (List D) := fun _ => some []
@[simp] def oCons (f : Dv → Option D) (fs : Dv → Option (List D)) : Dv → Option (List D) := fun δ => (f δ).bind fun x => (fs δ).bind fun xs => some (x :: xs)
def tupD (ds : List D) : Option D := if ds.length ≤ sizeLine then some (.tuple ds) else none
def lstD (ds : List D) : Option D := if ds.length ≤ sizeLine then some (.list ds) else none
theorem tupD_ok {ds : List D} (h : ds.length ≤ 16777216) : tupD ds = some (.tuple ds) := if_pos h
theorem lstD_ok {ds : List D} (h : ds.length ≤ 16777216) : lstD ds = some (.list ds) := if_pos h
@[simp] theorem tupD0 : tupD [] = some (.tuple []) := rfl
@[simp] theorem tupD1 (a : D) : tupD [a] = some (.tuple [a]) := tupD_ok (by simp)
@[simp] theorem tupD2 (a b : D) : tupD [a, b] = some (.tuple [a, b]) := tupD_ok (by simp)
@[simp] theorem tupD3 (a b c : D) : tupD [a, b, c] = some (.tuple [a, b, c]) := tupD_ok (by simp)
@[simp] theorem tupD4 (a b c d : D) : tupD [a, b, c, d] = some (.tuple [a, b, c, d]) := tupD_ok (by simp)
@[simp] theorem tupD5 (a b c d e : D) : tupD [a, b, c, d, e] = some (.tuple [a, b, c, d, e]) := tupD_ok (by simp)
@[simp] theorem tupD8 (a b c d e f g h : D) : tupD [a, b, c, d, e, f, g, h] = some (.tuple [a, b, c, d, e, f, g, h]) := tupD_ok (by simp)
@[simp] theorem lstD0 : lstD [] = some (.list []) := rfl
@[simp] theorem lstD1 (a : D) : lstD [a] = some (.list [a]) := lstD_ok (by simp)
@[simp] theorem lstD2 (a b : D) : lstD [a, b] = some (.list [a, b]) := lstD_ok (by simp)
@[simp] theorem lstD3 (a b c : D) : lstD [a, b, c] = some (.list [a, b, c]) := lstD_ok (by simp)
@[simp] theorem lstD4 (a b c d : D) : lstD [a, b, c, d] = some (.list [a, b, c, d]) := lstD_ok (by simp)
@[simp] theorem lstD5 (a b c d e : D) : lstD [a, b, c, d, e] = some (.list [a, b, c, d, e]) := lstD_ok (by simp)
/-! ### ints -/
instance (i j : Int) : Decidable (IntMulOk i j) := by unfold IntMulOk; infer_instance
def iI (g : Int → Int → Int) : D → D → Option D
  | .int i, .int j => some (.int (g i j))
  | _, _ => none
def iC (C : Int → Int → Bool) (g : Int → Int → Int) : D → D → Option D
  | .int i, .int j => if C i j = true then some (.int (g i j)) else none
  | _, _ => none
def iB (g : Int → Int → Bool) : D → D → Option D
  | .int i, .int j => some (.bool (g i j))
  | _, _ => none
@[simp] theorem iI_int (g : Int → Int → Int) (i j : Int) : iI g (.int i) (.int j) = some (.int (g i j)) := rfl
@[simp] theorem iB_int (g : Int → Int → Bool) (i j : Int) : iB g (.int i) (.int j) = some (.bool (g i j)) := rfl
theorem iC_int {C : Int → Int → Bool} {g : Int → Int → Int} {i j : Int} (h : C i j = true) : iC C g (.int i) (.int j) = some (.int (g i j)) := if_pos h
def cMul (i j : Int) : Bool := decide (IntMulOk i j)
def cDiv (i j : Int) : Bool := decide (0 < j ∧ j < 1073741824)
def cMod (i j : Int) : Bool := decide (0 < j)
def cPow (i j : Int) : Bool := decide (0 ≤ j ∧ j ≤ 1000000 ∧ i.natAbs < 2 ^ 64)
def cShl (i j : Int) : Bool := decide (0 ≤ j ∧ (Builtin.Int.intBits i : Int) + j ≤ 2 ^ 27)
def cShr (i j : Int) : Bool := decide (0 ≤ j)
abbrev subD := iI fun i j => i - j
abbrev mulI := iC cMul fun i j => i * j
abbrev divD := iC cDiv fun i j => i / j
abbrev modD := iC cMod fun i j => i % j
abbrev powD := iC cPow fun i j => i ^ j.toNat
abbrev shlD := iC cShl fun i j => i * 2 ^ j.toNat
abbrev shrD := iC cShr fun i j => i / 2 ^ j.toNat
abbrev andD := iI Builtin.bitAnd
abbrev orD := iI Builtin.bitOr
abbrev xorD := iI Builtin.bitXor
abbrev ltD := iB fun i j => decide (i < j)
abbrev gtD := iB fun i j => decide (j < i)
@[simp] theorem mulI_int {i j : Int} (h : IntMulOk i j) : mulI (.int i) (.int j) = some (.int (i * j)) := iC_int (decide_eq_true h)
@[simp] theorem divD_int {i j : Int} (h : 0 < j) (h2 : j < 1073741824) : divD (.int i) (.int j) = some (.int (i / j)) := iC_int (decide_eq_true ⟨h, h2⟩)
@[simp] theorem modD_int {i j : Int} (h : 0 < j) : modD (.int i) (.int j) = some (.int (i % j)) := iC_int (decide_eq_true h)
@[simp] theorem powD_int {i j : Int} (h : 0 ≤ j) (h2 : j ≤ 1000000) (h3 : i.natAbs < 2 ^ 64) : powD (.int i) (.int j) = some (.int (i ^ j.toNat)) := iC_int (decide_eq_true ⟨h, h2, h3⟩)
theorem shlD_int {i j : Int} (h : 0 ≤ j) (h2 : (Builtin.Int.intBits i : Int) + j ≤ 2 ^ 27) : shlD (.int i) (.int j) = some (.int (i * 2 ^ j.toNat)) := iC_int (decide_eq_true ⟨h, h2⟩)
@[simp] theorem shrD_int {i j : Int} (h : 0 ≤ j) : shrD (.int i) (.int j) = some (.int (i / 2 ^ j.toNat)) := iC_int (decide_eq_true h)
def negD : D → Option D
  | .int i => some (.int (-i))
  | _ => none
@[simp] theorem negD_int (i : Int) : negD (.int i) = some (.int (-i)) := rfl
def addD : D → D → Option D
  | .int i, .int j => some (.int (i + j))
  | .str x, .str y => if x.length + y.length ≤ sizeLine then some (.str (x ++ y)) else none
  | .list xs, .list ys => if xs.length + ys.length ≤ sizeLine then some (.list (xs ++ ys)) else none
  | .tuple xs, .tuple ys => if xs.length + ys.length ≤ sizeLine then some (.tuple (xs ++ ys)) else none
  | _, _ => none
@[simp] theorem addD_int (i j : Int) : addD (.int i) (.int j) = some (.int (i + j)) := rfl
theorem addD_list {xs ys : List D} (h : xs.length + ys.length ≤ 16777216) : addD (.list xs) (.list ys) = some (.list (xs ++ ys)) := if_pos h
theorem addD_tup {xs ys : List D} (h : xs.length + ys.length ≤ 16777216) : addD (.tuple xs) (.tuple ys) = some (.tuple (xs ++ ys)) := if_pos h
/-! ### == -/
def shp (d : D) : Bool := PySem.SeqAt.shaped d
def eqD : D → D → Option D := fun a b => if shp a = true ∧ shp b = true then some (.bool (PyData.eqv a b)) else none
def neD : D → D → Option D := fun a b => if shp a = true ∧ shp b = true then some (.bool (!PyData.eqv a b)) else none
@[simp] theorem eqD_int (i j : Int) : eqD (.int i) (.int j) = some (.bool (i == j)) := rfl
@[simp] theorem neD_int (i j : Int) : neD (.int i) (.int j) = some (.bool (!(i == j))) := rfl
@[simp] theorem eqD_bool (i j : Bool) : eqD (.bool i) (.bool j) = some (.bool (i == j)) := rfl
@[simp] theorem neD_bool (i j : Bool) : neD (.bool i) (.bool j) = some (.bool (!(i == j))) := rfl
def isN (d : D) : Bool := match d with
  | .none => true
  | _ => false
def isD : D → D → Option D := fun a b => match b with
  | .none => some (.bool (isN a))
  | _ => none
def isntD : D → D → Option D := fun a b => match b with
  | .none => some (.bool (!isN a))
  | _ => none
@[simp] theorem isD_none (a : D) : isD a .none = some (.bool (isN a)) := rfl
@[simp] theorem isntD_none (a : D) : isntD a .none = some (.bool (!isN a)) := rfl
@[simp] theorem isN_none : isN .none = true := rfl
@[simp] theorem isN_int (i : Int) : isN (.int i) = false := rfl
/-! ### items -/
def ixD : D → D → Option D
  | .list xs, .int i => atI xs i
  | .tuple xs, .int i => atI xs i
  | _, _ => none
@[simp] theorem ixD_list (xs : List D) (i : Int) : ixD (.list xs) (.int i) = atI xs i := rfl
@[simp] theorem ixD_tuple (xs : List D) (i : Int) : ixD (.tuple xs) (.int i) = atI xs i := rfl
theorem atI_of {α : Type} {xs : List α} {i : Int} {j : Nat} {v : α} (hi : i = j) (h : xs[j]? = some v) : atI xs i = some v := by
  have hl : j < xs.length := (List.getElem?_eq_some_iff.mp h).1
  subst hi
  unfold atI ixN
  rw [if_pos (by omega), if_pos (by omega)]
  simpa using h
@[simp] theorem at0 {α : Type} (a : α) (r : List α) : atI (a :: r) 0 = some a := atI_of (j := 0) rfl rfl
@[simp] theorem at1 {α : Type} (a b : α) (r : List α) : atI (a :: b :: r) 1 = some b := atI_of (j := 1) rfl rfl
@[simp] theorem at2 {α : Type} (a b c : α) (r : List α) : atI (a :: b :: c :: r) 2 = some c := atI_of (j := 2) rfl rfl
@[simp] theorem at3 {α : Type} (a b c d : α) (r : List α) : atI (a :: b :: c :: d :: r) 3 = some d := atI_of (j := 3) rfl rfl
@[simp] theorem at4 {α : Type} (a b c d e : α) (r : List α) : atI (a :: b :: c :: d :: e :: r) 4 = some e := atI_of (j := 4) rfl rfl
@[simp] theorem at5 {α : Type} (a b c d e f : α) (r : List α) : atI (a :: b :: c :: d :: e :: f :: r) 5 = some f := atI_of (j := 5) rfl rfl
@[simp] theorem at6 {α : Type} (a b c d e f g : α) (r : List α) : atI (a :: b :: c :: d :: e :: f :: g :: r) 6 = some g := atI_of (j := 6) rfl rfl
@[simp] theorem at7 {α : Type} (a b c d e f g h : α) (r : List α) : atI (a :: b :: c :: d :: e :: f :: g :: h :: r) 7 = some h := atI_of (j := 7) rfl rfl
/-! ### builtins -/
def lenD : List D → Option D
  | [.list xs] => some (.int xs.length)
  | [.tuple xs] => some (.int xs.length)
  | _ => none
@[simp] theorem lenD_list (xs : List D) : lenD [.list xs] = some (.int xs.length) := rfl
@[simp] theorem lenD_tuple (xs : List D) : lenD [.tuple xs] = some (.int xs.length) := rfl
def minD : List D → Option D
  | [.int i, .int j] => some (.int (if j < i then j else i))
  | _ => none
def maxD : List D → Option D
  | [.int i, .int j] => some (.int (if j > i then j else i))
  | _ => none
@[simp] theorem minD_int (i j : Int) : minD [.int i, .int j] = some (.int (if j < i then j else i)) := rfl
@[simp] theorem maxD_int (i j : Int) : maxD [.int i, .int j] = some (.int (if j > i then j else i)) := rfl
def intD : List D → Option D
  | [.int i] => some (.int i)
  | [.bool b] => some (.int (if b then 1 else 0))
  | _ => none
@[simp] theorem intD_int (i : Int) : intD [.int i] = some (.int i) := rfl
@[simp] theorem intD_bool (b : Bool) : intD [.bool b] = some (.int (if b then 1 else 0)) := rfl
def listD : List D → Option D
  | [.list xs] => some (.list xs)
  | [.tuple xs] => some (.list xs)
  | _ => none
@[simp] theorem listD_list (xs : List D) : listD [.list xs] = some (.list xs) := rfl
@[simp] theorem listD_tuple (xs : List D) : listD [.tuple xs] = some (.list xs) := rfl
def tupleD : List D → Option D
  | [.list xs] => some (.tuple xs)
  | [.tuple xs] => some (.tuple xs)
  | _ => none
@[simp] theorem tupleD_list (xs : List D) : tupleD [.list xs] = some (.tuple xs) := rfl
@[simp] theorem tupleD_tuple (xs : List D) : tupleD [.tuple xs] = some (.tuple xs) := rfl
def bitsD : D → Option D
  | .int i => some (.int (Builtin.Int.intBits i))
  | _ => none
@[simp] theorem bitsD_int (i : Int) : bitsD (.int i) = some (.int (Builtin.Int.intBits i)) := rfl
def tyN : D → String
  | .none => "NoneType"
  | .bool _ => "bool"
  | .int _ => "int"
  | .str _ => "str"
  | .list _ => "list"
  | .tuple _ => "tuple"
  | .dict _ => "dict"
def isiB (t T : String) : Bool := t == T || (t == "bool" && T == "int")
def isDct : D → Bool
  | .dict _ => true
  | _ => false
def isiD (T : String) (d : D) : Option D := if isDct d = true then none else if T = "int" ∨ T = "bool" ∨ T = "str" ∨ T = "list" ∨ T = "tuple" then some (.bool (isiB (tyN d) T)) else none
@[simp] theorem isi_int_int (i : Int) : isiD "int" (.int i) = some (.bool true) := rfl
@[simp] theorem isi_bool_int (i : Int) : isiD "bool" (.int i) = some (.bool false) := rfl
@[simp] theorem isi_int_bool (i : Bool) : isiD "int" (.bool i) = some (.bool true) := rfl
@[simp] theorem isi_bool_bool (i : Bool) : isiD "bool" (.bool i) = some (.bool true) := rfl
@[simp] theorem isi_tuple_tuple (xs : List D) : isiD "tuple" (.tuple xs) = some (.bool true) := rfl
@[simp] theorem isi_list_list (xs : List D) : isiD "list" (.list xs) = some (.bool true) := rfl
/-! ### statements -/
@[simp] def sRet (f : Dv → Option D) : Sf := fun δ => (f δ).bind fun d => some (.rt d, δ)
@[simp] def sSet (i : Nat) (f : Dv → Option D) : Sf := fun δ => (f δ).bind fun d => some (.nx, δ.set i (.fz d))
@[simp] def sDrop (f : Dv → Option D) : Sf := fun δ => (f δ).bind fun _ => some (.nx, δ)
@[simp] def sNx : Sf := fun δ => some (.nx, δ)
@[simp] def sBk : Sf := fun δ => some (.bk, δ)
@[simp] def sCt : Sf := fun δ => some (.ct, δ)
@[simp] def sSeq (s t : Sf) : Sf := fun δ => (s δ).bind fun r => match r with
  | (.nx, δ') => t δ'
  | r => some r
@[simp] def sIf (t : Dv → Option Bool) (u w : Sf) : Sf := fun δ => (t δ).bind fun c => if c = true then u δ else w δ
def dFz (i : Nat) (δ : Dv) : Dv := match δ[i]? with
  | some (.ow ds) => δ.set i (.fz (.list ds))
  | _ => δ
@[simp] def gN (i : Nat) : D → Dv → Option Dv := fun d δ => some (δ.set i (.fz d))
def loop (g : D → Dv → Option Dv) (b : Sf) : List D → Sf
  | [], δ => some (.nx, δ)
  | d :: ds, δ => (g d δ).bind fun δ1 => (b δ1).bind fun r => match r with
    | (.nx, δ2) => loop g b ds δ2
    | (.ct, δ2) => loop g b ds δ2
    | (.bk, δ2) => some (.nx, δ2)
    | (.rt x, δ2) => some (.rt x, δ2)
@[simp] theorem loop_nil (g : D → Dv → Option Dv) (b : Sf) (δ : Dv) : loop g b [] δ = some (.nx, δ) := rfl
@[simp] def sFor (f : Dv → Option (List D)) (g : D → Dv → Option Dv) (b : Sf) : Sf := fun δ => (f δ).bind fun ds => loop g b ds δ
def rngL (lo : Int) (n : Nat) : List D := (List.range n).map fun k => .int (lo + (k : Nat))
def rng1D : List D → Option (List D)
  | [.int j] => if j < 2 ^ 62 ∧ -(2 ^ 62) ≤ j then some (rngL 0 j.toNat) else none
  | _ => none
theorem rng1D_int {j : Int} (h : j < 4611686018427387904) (h2 : -4611686018427387904 ≤ j) : rng1D [.int j] = some (rngL 0 j.toNat) := if_pos ⟨h, h2⟩
@[simp] def oL (fs : Dv → Option (List D)) (g : List D → Option (List D)) : Dv → Option (List D) := fun δ => (fs δ).bind g
def itsD : D → Option (List D)
  | .list xs => some xs
  | .tuple xs => some xs
  | _ => none
@[simp] theorem itsD_list (xs : List D) : itsD (.list xs) = some xs := rfl
@[simp] theorem itsD_tuple (xs : List D) : itsD (.tuple xs) = some xs := rfl
def lstI : D → Option (List D)
  | .list xs => some xs
  | _ => none
def tupI : D → Option (List D)
  | .tuple xs => some xs
  | _ => none
@[simp] def oI (f : Dv → Option D) (g : D → Option (List D)) : Dv → Option (List D) := fun δ => (f δ).bind g
def rngN (lo hi st : Int) : Nat := if lo < hi then ((hi - lo - 1) / st + 1).toNat else 0
def rngL3 (lo st : Int) (n : Nat) : List D := (List.range n).map fun k => .int (lo + (k : Nat) * st)
def rng3D : List D → Option (List D)
  | [.int i, .int j, .int k] => if -(2 ^ 40) ≤ i ∧ i < 2 ^ 40 ∧ -(2 ^ 40) ≤ j ∧ j < 2 ^ 40 ∧ 0 < k ∧ k < 2 ^ 20 then some (rngL3 i k (rngN i j k)) else none
  | _ => none
theorem rng3D_int {i j k : Int} (h : -1099511627776 ≤ i ∧ i < 1099511627776 ∧ -1099511627776 ≤ j ∧ j < 1099511627776 ∧ 0 < k ∧ k < 1048576) : rng3D [.int i, .int j, .int k] = some (rngL3 i k (rngN i j k)) := if_pos h
@[simp] def oNo : Dv → Option (Option Int) := fun _ => some none
def asI : D → Option (Option Int)
  | .int i => some (some i)
  | _ => none
@[simp] theorem asI_int (i : Int) : asI (.int i) = some (some i) := rfl
@[simp] def oP (f : Dv → Option D) : Dv → Option (Option Int) := fun δ => (f δ).bind asI
def cutD (xs : List D) (lo hi : Option Int) : List D := (xs.drop (HT.sIx xs.length 0 lo)).take (HT.sIx xs.length xs.length hi - HT.sIx xs.length 0 lo)
def slD : D → Option Int → Option Int → Option D
  | .list xs, lo, hi => some (.list (cutD xs lo hi))
  | .tuple xs, lo, hi => some (.tuple (cutD xs lo hi))
  | _, _, _ => none
@[simp] def oSl (f : Dv → Option D) (l u : Dv → Option (Option Int)) : Dv → Option D := fun δ => (f δ).bind fun x => (l δ).bind fun i => (u δ).bind fun j => slD x i j
def startD (N : List Str) (as : List D) : Dv := as.map .fz ++ List.replicate (N.length - as.length) .un
def runB (N : List Str) (n : Nat) (b : Sf) : List D → Option D := fun as => if as.length = n then (b (startD N as)).bind fun r => match r with
    | (.rt d, _) => some d
    | (.nx, _) => some .none
    | _ => none
  else none
end VL

set_option Elab.async false
set_option linter.all false
set_option maxRecDepth 100000
set_option maxHeartbeats 4000000
/-! Values as plain data over the hand layer: what an expression, a statement, a def is worth, as a partial function over plain data. -/
namespace VL
open PySem PySem.Spec PyProof.Rows L2

abbrev Fg := PySem.W.Frag
abbrev St := L2.St

/-- things that are no plain data: an exception of a class of the text, a def of the text -/
def exO (a C : Addr) : HO := .ext fun h => ∃ o, h.get? a = some o ∧ o.cls = .ref C
inductive Opq (K : Fg) (Z : Hp) (a : Addr) : List (D × D) → Prop
  | exc {n : Str} {C : Addr} : PySem.W.nsIn K mainGlobals n = some (some (.ref C)) → Z a = some (exO a C) → Opq K Z a [(.str "exc", .str n)]
  | fn {n : Str} : PySem.W.nsIn K mainGlobals n = some (some (.ref a)) → Opq K Z a [(.str "fn", .str n)]
theorem Opq.same {K : Fg} {Z Z' : Hp} {a : Addr} {kvs : List (D × D)} (s : Same Z Z') (h : Opq K Z a kvs) : Opq K Z' a kvs := by
  cases h with
  | exc h1 h2 => exact .exc h1 (s _ _ h2)
  | fn h1 => exact .fn h1
mutual
inductive Rep (K : Fg) (Z : Hp) : V → D → Prop
  | non : Rep K Z .non .none
  | bl (b : Bool) : Rep K Z (.bl b) (.bool b)
  | int (i : Int) : Rep K Z (.int i) (.int i)
  | str (x : Str) : Rep K Z (.str x) (.str x)
  | tup {a : Addr} {xs : List V} {ds : List D} : SqT K Z a xs → Reps K Z xs ds → Rep K Z (.ref a) (.tuple ds)
  | lst {a : Addr} {xs : List V} {ds : List D} : SqL K Z a xs → Reps K Z xs ds → Rep K Z (.ref a) (.list ds)
  | opq {a : Addr} {kvs : List (D × D)} : Opq K Z a kvs → Rep K Z (.ref a) (.dict kvs)
inductive Reps (K : Fg) (Z : Hp) : List V → List D → Prop
  | nil : Reps K Z [] []
  | cons {v : V} {d : D} {vs : List V} {ds : List D} : Rep K Z v d → Reps K Z vs ds → Reps K Z (v :: vs) (d :: ds)
end

theorem Rd.same {H H' : Hp} {a : Addr} {u : HO} (h : Rd H a u) (s : Same H H') : Rd H' a u := by
  rcases h with h | ⟨o, h⟩
  · exact .inl (s _ _ h)
  · exact .inr ⟨o, s _ _ h⟩
theorem SqT.same {K : Fg} {H H' : Hp} {a : Addr} {xs : List V} (h : SqT K H a xs) (s : Same H H') : SqT K H' a xs := by
  rcases h with h | h
  · exact .inl (Rd.same h s)
  · exact .inr h
theorem SqL.same {K : Fg} {H H' : Hp} {a : Addr} {xs : List V} (h : SqL K H a xs) (s : Same H H') : SqL K H' a xs := by
  rcases h with h | h
  · exact .inl (Rd.same h s)
  · exact .inr h
mutual
theorem Rep.same {K : Fg} {Z Z' : Hp} (s : Same Z Z') : ∀ {v : V} {d : D}, Rep K Z v d → Rep K Z' v d
  | _, _, .non => .non
  | _, _, .bl b => .bl b
  | _, _, .int i => .int i
  | _, _, .str x => .str x
  | _, _, .tup h r => .tup (SqT.same h s) (Reps.same s r)
  | _, _, .lst h r => .lst (SqL.same h s) (Reps.same s r)
  | _, _, .opq h => .opq (Opq.same s h)
theorem Reps.same {K : Fg} {Z Z' : Hp} (s : Same Z Z') : ∀ {vs : List V} {ds : List D}, Reps K Z vs ds → Reps K Z' vs ds
  | _, _, .nil => .nil
  | _, _, .cons h r => .cons (Rep.same s h) (Reps.same s r)
end
theorem Reps.length {K : Fg} {Z : Hp} : ∀ {vs : List V} {ds : List D}, Reps K Z vs ds → vs.length = ds.length
  | _, _, .nil => rfl
  | _, _, .cons _ r => congrArg (· + 1) (Reps.length r)
theorem Reps.get {K : Fg} {Z : Hp} : ∀ {vs : List V} {ds : List D} {i : Nat} {d : D}, Reps K Z vs ds → ds[i]? = some d → ∃ v, vs[i]? = some v ∧ Rep K Z v d
  | _, _, _, _, .nil, e => by simp at e
  | _, _, 0, _, .cons r _, e => by simp at e; subst e; exact ⟨_, rfl, r⟩
  | _, _, i + 1, d, .cons _ t, e => by
    obtain ⟨u, h1, h2⟩ := Reps.get (i := i) (d := d) t (by simpa using e)
    exact ⟨u, by simpa using h1, h2⟩
theorem Reps.set {K : Fg} {Z : Hp} {x : V} {u : D} (r : Rep K Z x u) : ∀ {xs : List V} {us : List D} (i : Nat), Reps K Z xs us → Reps K Z (xs.set i x) (us.set i u)
  | _, _, _, .nil => .nil
  | _, _, 0, .cons _ t => .cons r t
  | _, _, i + 1, .cons q t => .cons q (Reps.set r i t)
theorem Reps.append {K : Fg} {Z : Hp} : ∀ {xs ys : List V} {us ws : List D}, Reps K Z xs us → Reps K Z ys ws → Reps K Z (xs ++ ys) (us ++ ws)
  | _, _, _, _, .nil, s => s
  | _, _, _, _, .cons r t, s => .cons r (Reps.append t s)
theorem Reps.take {K : Fg} {Z : Hp} : ∀ {xs : List V} {us : List D} (n : Nat), Reps K Z xs us → Reps K Z (xs.take n) (us.take n)
  | _, _, 0, _ => .nil
  | _, _, _ + 1, .nil => .nil
  | _, _, n + 1, .cons r t => .cons r (Reps.take n t)
theorem Reps.drop {K : Fg} {Z : Hp} : ∀ {xs : List V} {us : List D} (n : Nat), Reps K Z xs us → Reps K Z (xs.drop n) (us.drop n)
  | _, _, 0, r => r
  | _, _, _ + 1, .nil => .nil
  | _, _, n + 1, .cons _ t => Reps.drop n t
theorem Rep.int_eq {K : Fg} {Z : Hp} {v : V} {i : Int} (h : Rep K Z v (.int i)) : v = .int i := by cases h; rfl
theorem Rep.bl_eq {K : Fg} {Z : Hp} {v : V} {b : Bool} (h : Rep K Z v (.bool b)) : v = .bl b := by cases h; rfl
theorem Reps.ints {K : Fg} {Z : Hp} : ∀ ns : List Int, Reps K Z (ns.map V.int) (ns.map PyData.int)
  | [] => .nil
  | n :: r => .cons (.int n) (Reps.ints r)

/-! ### from the abstract heap to the heap -/
mutual
theorem Rep.reads {X : Cx} {pins : List (Addr × Obj)} {σ : St} {H Z : Hp} {s : Shared} (I : Inv X pins σ H s) (zh : Same Z H) : ∀ {v : V} {d : D} {u : Value}, Rep X.K Z v d → RelV v u → d.canLay0 = true → ∃ as, Reads s.heap u d as
  | _, _, u, .non, r, _ => by cases (show u = Value.none from r); exact ⟨_, .none⟩
  | _, _, u, .bl b, r, _ => by cases (show u = Value.bool b from r); exact ⟨_, .bool b⟩
  | _, _, u, .int i, r, _ => by obtain ⟨t, rfl⟩ := (show ∃ t, u = Value.int i t from r); exact ⟨_, .int i t⟩
  | _, _, u, .str x, r, _ => by obtain ⟨t, rfl⟩ := (show ∃ t, u = Value.str x t from r); exact ⟨_, .str x t⟩
  | _, _, u, .tup (a := a) h q, r, hc => by
    cases (show u = Value.ref a from r)
    obtain ⟨its, rv, ht, _⟩ := I.tuple (SqT.same h zh)
    obtain ⟨as, ra⟩ := Reps.reads I zh q rv hc
    obtain ⟨o, e, c, n, dd⟩ := ht
    exact ⟨_, reads_tuple_at e c dd (by simpa using ra)⟩
  | _, _, u, .lst (a := a) h q, r, hc => by
    cases (show u = Value.ref a from r)
    obtain ⟨its, rv, ht, _⟩ := I.list (SqL.same h zh)
    obtain ⟨as, ra⟩ := Reps.reads I zh q rv hc
    obtain ⟨o, n, e, c, _, dd⟩ := ht
    exact ⟨_, reads_list_at e c dd (by simpa using ra)⟩
  | _, _, u, .opq h, r, hc => by cases hc
theorem Reps.reads {X : Cx} {pins : List (Addr × Obj)} {σ : St} {H Z : Hp} {s : Shared} (I : Inv X pins σ H s) (zh : Same Z H) : ∀ {vs : List V} {ds : List D} {us : List Value}, Reps X.K Z vs ds → Vals vs us → PyData.canLayAll0 ds = true → ∃ as, ReadsAll s.heap us ds as
  | _, _, _, .nil, .nil, _ => ⟨_, .nil⟩
  | _, _, _, .cons h q, .cons r t, hc => by
    have hc' := Bool.and_eq_true_iff.mp hc
    obtain ⟨as, ha⟩ := Rep.reads I zh h r hc'.1
    obtain ⟨bs, hb⟩ := Reps.reads I zh q t hc'.2
    exact ⟨_, .cons ha hb⟩
end

/-! ### what is new -/
structure New (Z H Z' H' : Hp) : Prop where
  z : Same Z Z'
  h : Same H H'
  zh : Same Z' H'
  o : ∀ b, H b ≠ none → Z' b = Z b
theorem New.refl {Z H : Hp} (zh : Same Z H) : New Z H Z H := ⟨Same.refl _, Same.refl _, zh, fun _ _ => rfl⟩
theorem New.trans {Z H Z1 H1 Z2 H2 : Hp} (a : New Z H Z1 H1) (b : New Z1 H1 Z2 H2) : New Z H Z2 H2 :=
  ⟨a.z.trans b.z, a.h.trans b.h, b.zh, fun c hc => by
    have : H1 c ≠ none := by
      cases e : H c with
      | none => exact absurd e hc
      | some o => rw [a.h c o e]; intro z; cases z
    rw [b.o c this, a.o c hc]⟩
theorem same_upd {H : Hp} {p : Addr} {o : HO} (h : H p = none) : Same H (upd H p o) := fun b u e => by
  rw [upd_ne (ne_of_none e h)]; exact e
theorem free_of {Z H : Hp} (zh : Same Z H) {p : Addr} (h : H p = none) : Z p = none := by
  cases e : Z p with
  | none => rfl
  | some o => rw [zh p o e] at h; cases h
/-- a new object, known for good -/
theorem New.add {Z H : Hp} (zh : Same Z H) {p : Addr} (hp : H p = none) (o : HO) : New Z H (upd Z p o) (upd H p o) where
  z := same_upd (free_of zh hp)
  h := same_upd hp
  zh := fun b u e => by
    by_cases hb : b = p
    · subst hb; rw [upd_same] at e ⊢; exact e
    · rw [upd_ne hb] at e ⊢; exact zh b u e
  o := fun b hb => by
    have : b ≠ p := fun z => hb (z ▸ hp)
    rw [upd_ne this]

/-! ### slots -/

structure Hold (K : Fg) (H₀ Z₀ Z : Hp) (δ : Dv) (σ : St) (H : Hp) : Prop where
  zh : Same Z H
  h0 : Same H₀ H
  z0 : Same Z₀ Z
  zb : ∀ b, H₀ b ≠ none → Z b = Z₀ b
  len : δ.length = σ.length
  fz : ∀ (i : Nat) d, δ[i]? = some (.fz d) → ∃ v, σ[i]? = some (some v) ∧ Rep K Z v d
  ow : ∀ (i : Nat) ds, δ[i]? = some (.ow ds) → ∃ a xs, σ[i]? = some (some (.ref a)) ∧ H₀ a = none ∧ Z a = none ∧ H a = some (.lst xs) ∧ Reps K Z xs ds
  dj : ∀ (i j : Nat) ds es a, i ≠ j → δ[i]? = some (.ow ds) → δ[j]? = some (.ow es) → σ[i]? = some (some (.ref a)) → σ[j]? ≠ some (some (V.ref a))
section
variable {K : Fg} {H₀ Z₀ Z Z' H H' : Hp} {δ : Dv} {σ : St}
theorem Hold.new (h : Hold K H₀ Z₀ Z δ σ H) (n : New Z H Z' H') : Hold K H₀ Z₀ Z' δ σ H' where
  zh := n.zh
  h0 := h.h0.trans n.h
  z0 := h.z0.trans n.z
  zb := fun b hb => by
    have : H b ≠ none := by
      cases e : H₀ b with
      | none => exact absurd e hb
      | some o => rw [h.h0 b o e]; intro z; cases z
    rw [n.o b this, h.zb b hb]
  len := h.len
  fz := fun i d e => let ⟨v, a, r⟩ := h.fz i d e; ⟨v, a, r.same n.z⟩
  ow := fun i ds e => by
    obtain ⟨a, xs, h1, h2, h3, h4, h5⟩ := h.ow i ds e
    exact ⟨a, xs, h1, h2, by rw [n.o a (by rw [h4]; intro z; cases z)]; exact h3, n.h a _ h4, h5.same n.z⟩
  dj := h.dj
/-- a name is given a known value -/
theorem Hold.set (h : Hold K H₀ Z₀ Z δ σ H) {i : Nat} {v : V} {d : D} (r : Rep K Z v d) : Hold K H₀ Z₀ Z (δ.set i (.fz d)) (σ.set i (some v)) H where
  zh := h.zh
  h0 := h.h0
  z0 := h.z0
  zb := h.zb
  len := by simp [h.len]
  fz := fun j e q => by
    by_cases hj : i = j
    · subst hj
      have hl : i < δ.length := by
        have := (List.getElem?_eq_some_iff.mp q).1
        simpa using this
      rw [List.getElem?_set_self hl] at q
      cases q
      exact ⟨v, List.getElem?_set_self (by rw [← h.len]; exact hl), r⟩
    · rw [List.getElem?_set_ne hj] at q
      obtain ⟨u, a, b⟩ := h.fz j e q
      exact ⟨u, by rw [List.getElem?_set_ne hj]; exact a, b⟩
  ow := fun j es q => by
    by_cases hj : i = j
    · subst hj
      have hl : i < δ.length := by
        have := (List.getElem?_eq_some_iff.mp q).1
        simpa using this
      rw [List.getElem?_set_self hl] at q
      cases q
    · rw [List.getElem?_set_ne hj] at q ⊢
      exact h.ow j es q
  dj := fun j k ds es a hjk q1 q2 => by
    by_cases hj : i = j
    · subst hj
      have hl : i < δ.length := by
        have := (List.getElem?_eq_some_iff.mp q1).1
        simpa using this
      rw [List.getElem?_set_self hl] at q1
      cases q1
    · by_cases hk : i = k
      · subst hk
        have hl : i < δ.length := by
          have := (List.getElem?_eq_some_iff.mp q2).1
          simpa using this
        rw [List.getElem?_set_self hl] at q2
        cases q2
      · rw [List.getElem?_set_ne hj] at q1
        rw [List.getElem?_set_ne hk] at q2
        rw [List.getElem?_set_ne hj, List.getElem?_set_ne hk]
        exact h.dj j k ds es a hjk q1 q2
/-- a name is given a new list of its own -/
theorem Hold.setO (h : Hold K H₀ Z₀ Z δ σ H) {i : Nat} {p : Addr} {xs : List V} {ds : List D} (hp : H p = none) (r : Reps K Z xs ds) : Hold K H₀ Z₀ Z (δ.set i (.ow ds)) (σ.set i (some (.ref p))) (upd H p (.lst xs)) where
  zh := h.zh.trans (same_upd hp)
  h0 := h.h0.trans (same_upd hp)
  z0 := h.z0
  zb := h.zb
  len := by simp [h.len]
  fz := fun j e q => by
    by_cases hj : i = j
    · subst hj
      have hl : i < δ.length := by
        have := (List.getElem?_eq_some_iff.mp q).1
        simpa using this
      rw [List.getElem?_set_self hl] at q
      cases q
    · rw [List.getElem?_set_ne hj] at q
      obtain ⟨u, a, b⟩ := h.fz j e q
      exact ⟨u, by rw [List.getElem?_set_ne hj]; exact a, b⟩
  ow := fun j es q => by
    by_cases hj : i = j
    · subst hj
      have hl : i < δ.length := by
        have := (List.getElem?_eq_some_iff.mp q).1
        simpa using this
      rw [List.getElem?_set_self hl] at q
      cases q
      exact ⟨p, xs, List.getElem?_set_self (by rw [← h.len]; exact hl), free_of h.h0 hp, free_of h.zh hp, upd_same, r⟩
    · rw [List.getElem?_set_ne hj] at q ⊢
      obtain ⟨a, ys, h1, h2, h3, h4, h5⟩ := h.ow j es q
      exact ⟨a, ys, h1, h2, h3, by rw [upd_ne (ne_of_none h4 hp)]; exact h4, h5⟩
  dj := fun j k ds es a hjk q1 q2 => by
    have old : ∀ {m : Nat} {fs : List D}, δ[m]? = some (.ow fs) → σ[m]? ≠ some (some (V.ref p)) := fun {m fs} q z => by
      obtain ⟨b, ys, h1, h2, h3, h4, h5⟩ := h.ow m fs q
      rw [h1] at z
      cases z
      rw [hp] at h4
      cases h4
    have hl : ∀ {m : Nat} {x : Sl}, (δ.set i x)[m]? ≠ none → m < σ.length := fun {m x} q => by
      have : m < (δ.set i x).length := by
        rcases Nat.lt_or_ge m (δ.set i x).length with g | g
        · exact g
        · exact absurd (List.getElem?_eq_none_iff.mpr g) q
      rw [← h.len]; simpa using this
    by_cases hj : i = j
    · subst hj
      have h1 : i < σ.length := hl (by rw [q1]; intro z; cases z)
      rw [List.getElem?_set_self h1]
      intro e
      cases e
      rw [List.getElem?_set_ne hjk] at q2 ⊢
      exact old q2
    · rw [List.getElem?_set_ne hj] at q1 ⊢
      by_cases hk : i = k
      · subst hk
        have h1 : i < σ.length := hl (by rw [q2]; intro z; cases z)
        intro e z
        rw [List.getElem?_set_self h1] at z
        cases z
        exact old q1 e
      · rw [List.getElem?_set_ne hk] at q2 ⊢
        exact h.dj j k ds es a hjk q1 q2
/-- a list of one's own is changed -/
theorem Hold.chg (h : Hold K H₀ Z₀ Z δ σ H) {i : Nat} {p : Addr} {xs ys : List V} {ds es : List D} (e : δ[i]? = some (.ow ds)) (ep : σ[i]? = some (some (.ref p))) (r : Reps K Z ys es) : Hold K H₀ Z₀ Z (δ.set i (.ow es)) σ (upd H p (.lst ys)) := by
  obtain ⟨a, zs, h1, h2, h3, h4, h5⟩ := h.ow i ds e
  rw [ep] at h1
  cases h1
  have hl : i < δ.length := (List.getElem?_eq_some_iff.mp e).1
  refine ⟨fun b o q => ?_, fun b o q => ?_, h.z0, h.zb, by simp [h.len], fun j d q => ?_, fun j d q => ?_, fun j k d1 d2 a hjk q1 q2 => ?_⟩
  · rw [upd_ne (ne_of_none q h3)]; exact h.zh b o q
  · rw [upd_ne (ne_of_none q h2)]; exact h.h0 b o q
  · by_cases hj : i = j
    · subst hj
      rw [List.getElem?_set_self hl] at q
      cases q
    · rw [List.getElem?_set_ne hj] at q
      exact h.fz j d q
  · by_cases hj : i = j
    · subst hj
      rw [List.getElem?_set_self hl] at q
      cases q
      exact ⟨p, ys, ep, h2, h3, upd_same, r⟩
    · rw [List.getElem?_set_ne hj] at q
      obtain ⟨b, ws, g1, g2, g3, g4, g5⟩ := h.ow j d q
      refine ⟨b, ws, g1, g2, g3, ?_, g5⟩
      have : b ≠ p := fun z => by subst z; exact h.dj i j ds d b hj e q ep g1
      rw [upd_ne this]; exact g4
  · have f : ∀ {m : Nat} {dm : List D}, (δ.set i (.ow es))[m]? = some (.ow dm) → ∃ dm', δ[m]? = some (.ow dm') := fun {m dm} q => by
      by_cases hm : i = m
      · subst hm; exact ⟨ds, e⟩
      · rw [List.getElem?_set_ne hm] at q; exact ⟨dm, q⟩
    obtain ⟨e1, g1⟩ := f q1
    obtain ⟨e2, g2⟩ := f q2
    exact h.dj j k e1 e2 a hjk g1 g2
/-- a list of one's own is known for good -/
theorem Hold.frz (h : Hold K H₀ Z₀ Z δ σ H) {i : Nat} {ds : List D} (e : δ[i]? = some (.ow ds)) : ∃ Z', Same Z Z' ∧ Hold K H₀ Z₀ Z' (δ.set i (.fz (.list ds))) σ H := by
  obtain ⟨a, xs, h1, h2, h3, h4, h5⟩ := h.ow i ds e
  have hl : i < δ.length := (List.getElem?_eq_some_iff.mp e).1
  have sz : Same Z (upd Z a (.lst xs)) := same_upd h3
  refine ⟨upd Z a (.lst xs), sz, fun b o q => ?_, h.h0, h.z0.trans sz, fun b hb => ?_, by simp [h.len], fun j d q => ?_, fun j d q => ?_, fun j k d1 d2 b hjk q1 q2 => ?_⟩
  · by_cases hb : b = a
    · subst hb; rw [upd_same] at q; cases q; exact h4
    · rw [upd_ne hb] at q; exact h.zh b o q
  · rw [upd_ne (fun z => hb (by rw [z]; exact h2))]; exact h.zb b hb
  · by_cases hj : i = j
    · subst hj
      rw [List.getElem?_set_self hl] at q
      cases q
      exact ⟨.ref a, h1, .lst (SqL.of upd_same) (h5.same sz)⟩
    · rw [List.getElem?_set_ne hj] at q
      obtain ⟨v, g1, g2⟩ := h.fz j d q
      exact ⟨v, g1, g2.same sz⟩
  · by_cases hj : i = j
    · subst hj
      rw [List.getElem?_set_self hl] at q
      cases q
    · rw [List.getElem?_set_ne hj] at q
      obtain ⟨b, ws, g1, g2, g3, g4, g5⟩ := h.ow j d q
      have : b ≠ a := fun z => by subst z; exact h.dj i j ds d b hj e q h1 g1
      exact ⟨b, ws, g1, g2, by rw [upd_ne this]; exact g3, g4, g5.same sz⟩
  · by_cases hj : i = j
    · subst hj
      rw [List.getElem?_set_self hl] at q1
      cases q1
    · by_cases hk : i = k
      · subst hk
        rw [List.getElem?_set_self hl] at q2
        cases q2
      · rw [List.getElem?_set_ne hj] at q1
        rw [List.getElem?_set_ne hk] at q2
        exact h.dj j k d1 d2 b hjk q1 q2
end

/-! ### readings by plain functions -/
def tV (K : Fg) (f : Dv → Option D) : TE := fun σ H Q => ∃ H₀ Z₀ Z δ d, Hold K H₀ Z₀ Z δ σ H ∧ f δ = some d ∧ ∀ v Z' H', Hold K H₀ Z₀ Z' δ σ H' → Same Z Z' → Rep K Z' v d → Q v H'
def tVT (K : Fg) (f : Dv → Option Bool) : TT := fun σ H Q => ∃ H₀ Z₀ Z δ b, Hold K H₀ Z₀ Z δ σ H ∧ f δ = some b ∧ ∀ Z' H', Hold K H₀ Z₀ Z' δ σ H' → Same Z Z' → Q b H'
def tVA (K : Fg) (f : Dv → Option (List D)) : TA := fun σ H Q => ∃ H₀ Z₀ Z δ ds, Hold K H₀ Z₀ Z δ σ H ∧ f δ = some ds ∧ ∀ vs Z' H', Hold K H₀ Z₀ Z' δ σ H' → Same Z Z' → Reps K Z' vs ds → Q vs H'
def Fl.to (K : Fg) (Z : Hp) (D : Ends) (σ : St) (H : Hp) : Fl → Prop
  | .nx => D.nx σ H
  | .bk => D.bk σ H
  | .ct => D.ct σ H
  | .rt d => ∀ v, Rep K Z v d → D.rt v H
def tVS (K : Fg) (f : Dv → Option (Fl × Dv)) : TS := fun D σ H => ∃ H₀ Z₀ Z δ r, Hold K H₀ Z₀ Z δ σ H ∧ f δ = some r ∧ ∀ σ' H' Z', Hold K H₀ Z₀ Z' r.2 σ' H' → Same Z Z' → r.1.to K Z' D σ' H'
def EV (X : Cx) (e : Expr) (f : Dv → Option D) : Prop := PE X e (tV X.K f)
def TV (X : Cx) (e : Expr) (f : Dv → Option Bool) : Prop := PT X e (tVT X.K f)
def AV (X : Cx) (es : List Expr) (f : Dv → Option (List D)) : Prop := PA X es (tVA X.K f)
def SV (X : Cx) (st : Stmt) (f : Dv → Option (Fl × Dv)) : Prop := PS X st (tVS X.K f)
def BV (X : Cx) (st : List Stmt) (f : Dv → Option (Fl × Dv)) : Prop := PSs X st (tVS X.K f)

theorem PE.imp {X : Cx} {e : Expr} {t t' : TE} (h : PE X e t) (i : ∀ σ H Q, t' σ H Q → t σ H Q) : PE X e t' := fun pins s σ H Q I hw => h pins s σ H Q I (i _ _ _ hw)
theorem PT.imp {X : Cx} {e : Expr} {t t' : TT} (h : PT X e t) (i : ∀ σ H Q, t' σ H Q → t σ H Q) : PT X e t' := fun pins s σ H Q I hw => h pins s σ H Q I (i _ _ _ hw)
theorem PA.imp {X : Cx} {es : List Expr} {t t' : TA} (h : PA X es t) (i : ∀ σ H Q, t' σ H Q → t σ H Q) : PA X es t' := fun pos pins s σ H Q I hw => h pos pins s σ H Q I (i _ _ _ hw)
theorem PS.imp {X : Cx} {st : Stmt} {t t' : TS} (h : PS X st t) (i : ∀ D σ H, t' D σ H → t D σ H) : PS X st t' := fun pins s σ H D I hw => h pins s σ H D I (i _ _ _ hw)
theorem PSs.imp {X : Cx} {st : List Stmt} {t t' : TS} (h : PSs X st t) (i : ∀ D σ H, t' D σ H → t D σ H) : PSs X st t' := fun pins s σ H D I hw => h pins s σ H D I (i _ _ _ hw)
theorem OpR.imp {X : Cx} {f : Value → Value → Sem Value} {r r' : R2} (h : OpR X f r) (i : ∀ x y H Q, r' x y H Q → r x y H Q) : OpR X f r' := fun pins s σ H x y v u Q I rx ry q => h pins s σ H x y v u Q I rx ry (i _ _ _ _ q)
theorem CallR.imp {X : Cx} {f : Value} {r r' : List V → Hp → VK → Prop} (h : CallR X f r) (i : ∀ xs H Q, r' xs H Q → r xs H Q) : CallR X f r' := fun pins s σ H xs us Q I rx q => h pins s σ H xs us Q I rx (i _ _ _ q)

/-! ### operations on known values -/
def rD (K : Fg) (g : D → D → Option D) : R2 := fun x y H Q => ∃ Z a b d, Same Z H ∧ Rep K Z x a ∧ Rep K Z y b ∧ g a b = some d ∧ ∀ v Z' H', New Z H Z' H' → Rep K Z' v d → Q v H'
def rD1 (K : Fg) (g : D → Option D) : V → Hp → VK → Prop := fun x H Q => ∃ Z a d, Same Z H ∧ Rep K Z x a ∧ g a = some d ∧ ∀ v Z' H', New Z H Z' H' → Rep K Z' v d → Q v H'
def rDs (K : Fg) (g : List D → Option D) : List V → Hp → VK → Prop := fun xs H Q => ∃ Z as d, Same Z H ∧ Reps K Z xs as ∧ g as = some d ∧ ∀ v Z' H', New Z H Z' H' → Rep K Z' v d → Q v H'
def spD (K : Fg) (g : List D → Option D) : Sp := fun vs H Q _ => rDs K g vs H Q
section
variable {X : Cx} {a b c e : Expr} {es : List Expr} {pos p : Pos} {f f1 f2 f3 : Dv → Option D} {fs : Dv → Option (List D)} {ft fu : Dv → Option Bool}
theorem bind_some {α β : Type} {o : Option α} {k : α → Option β} {r : β} (h : o.bind k = some r) : ∃ a, o = some a ∧ k a = some r := by
  cases o with
  | none => cases h
  | some a => exact ⟨a, rfl, h⟩
/-- two in a row -/
theorem two {K : Fg} {g : D → D → Option D} {σ : St} {H : Hp} {Q : VK} {r : R2} (hr : ∀ x y H Q, rD K g x y H Q → r x y H Q) (h : tV K (o2 f1 f2 g) σ H Q) : tOp r (tV K f1) (tV K f2) σ H Q := by
  obtain ⟨H₀, Z₀, Z, δ, d, hh, e, k⟩ := h
  obtain ⟨x, e1, e⟩ := bind_some e
  obtain ⟨y, e2, e⟩ := bind_some e
  refine ⟨H₀, Z₀, Z, δ, x, hh, e1, fun v Z1 H1 hh1 s1 r1 => ⟨H₀, Z₀, Z1, δ, y, hh1, e2, fun u Z2 H2 hh2 s2 r2 => hr _ _ _ _ ⟨Z2, x, y, d, hh2.zh, r1.same s2, r2, e, fun w Z3 H3 n r3 => ?_⟩⟩⟩
  exact k w Z3 H3 (hh2.new n) ((s1.trans s2).trans n.z) r3
theorem ev_op {op : Operator} {g : D → D → Option D} (ho : OpR X (binaryOp op) (rD X.K g)) (ha : EV X a f1) (hb : EV X b f2) : EV X (.BinOp a op b pos) (o2 f1 f2 g) :=
  PE.imp (pe_op ho ha hb) fun _ _ _ h => two (fun _ _ _ _ q => q) h
theorem ev_un {op : UnaryOp} {g : D → Option D} (ho : UnR X (unaryOp op) (rD1 X.K g)) (ha : EV X a f) : EV X (.UnaryOp op a pos) (o1 f g) :=
  PE.imp (pe_un ho ha) fun σ H Q h => by
    obtain ⟨H₀, Z₀, Z, δ, d, hh, e, k⟩ := h
    obtain ⟨x, e1, e⟩ := bind_some e
    exact ⟨H₀, Z₀, Z, δ, x, hh, e1, fun v Z1 H1 hh1 s1 r1 => ⟨Z1, x, d, hh1.zh, r1, e, fun w Z3 H3 n r3 => k w Z3 H3 (hh1.new n) (s1.trans n.z) r3⟩⟩
theorem ev_cmp {op : CmpOp} {g : D → D → Option D} (ho : OpR X (compareOp op) (rD X.K g)) (ha : EV X a f1) (hb : EV X b f2) (hm : behindInMarks op b = false) : EV X (.Compare a [op] [b] pos) (o2 f1 f2 g) :=
  PE.imp (pe_cmpR ho ha hb hm) fun _ _ _ h => two (fun _ _ _ _ q => q) h
/-- a value's bool -/
theorem asB_eq {d : D} {b : Bool} (h : asB d = some b) : d = .bool b := by
  cases d <;> simp [asB] at h
  subst h; rfl
theorem toB {K : Fg} {σ : St} {H : Hp} {Q : Bool → Hp → Prop} (h : tVT K (ob f) σ H Q) : tV K f σ H fun x H1 => ∃ c, x = .bl c ∧ Q c H1 := by
  obtain ⟨H₀, Z₀, Z, δ, d, hh, e, k⟩ := h
  obtain ⟨x, e1, e⟩ := bind_some e
  have := asB_eq e
  subst this
  exact ⟨H₀, Z₀, Z, δ, _, hh, e1, fun v Z1 H1 hh1 s1 r1 => ⟨_, r1.bl_eq, k Z1 H1 hh1 s1⟩⟩
theorem tv_cmp {op : CmpOp} {g : D → D → Option D} (ho : OpR X (compareOp op) (rD X.K g)) (ha : EV X a f1) (hb : EV X b f2) (hm : behindInMarks op b = false) : TV X (.Compare a [op] [b] pos) (ob (o2 f1 f2 g)) :=
  PT.imp (pt_cmpR ho ha hb hm) fun σ H Q h => by
    have h' := toB h
    exact two (f1 := f1) (f2 := f2) (g := g) (fun _ _ _ _ q => q) h'
theorem tv_val (ha : EV X a f) (he : ∀ whole, isTrue a X.env whole = (do let v ← whole; standAt a.pos; holding [v] (truthy v)) := by intro _; rfl) : TV X a (ob f) :=
  PT.imp (pt_val ha he) fun _ _ _ h => toB h
def WV (X : Cx) (e : Expr) (f : Dv → Option Bool) : Prop := PW X e (tVT X.K f)
theorem PW.imp {X : Cx} {e : Expr} {t t' : TT} (h : PW X e t) (i : ∀ σ H Q, t' σ H Q → t σ H Q) : PW X e t' := fun whole pins s σ H Q I hw => h whole pins s σ H Q I (i _ _ _ hw)
theorem wv_and1 (ha : TV X a ft) : WV X (.BoolOp .And [a] pos) ft := pw_and1 ha
theorem wv_or1 (ha : TV X a ft) : WV X (.BoolOp .Or [a] pos) ft := pw_or1 ha
theorem wv_and {rest : List Expr} (ha : TV X a ft) (hb : WV X (.BoolOp .And (b :: rest) pos) fu) : WV X (.BoolOp .And (a :: b :: rest) pos) (oAnd ft fu) :=
  PW.imp (pw_and ha hb) fun σ H Q h => by
    obtain ⟨H₀, Z₀, Z, δ, d, hh, e, k⟩ := h
    obtain ⟨x, e1, e⟩ := bind_some e
    refine ⟨H₀, Z₀, Z, δ, x, hh, e1, fun Z1 H1 hh1 s1 => ?_⟩
    cases x with
    | true => exact ⟨H₀, Z₀, Z1, δ, d, hh1, e, fun Z2 H2 hh2 s2 => k Z2 H2 hh2 (s1.trans s2)⟩
    | false => cases e; exact k Z1 H1 hh1 s1
theorem wv_or {rest : List Expr} (ha : TV X a ft) (hb : WV X (.BoolOp .Or (b :: rest) pos) fu) : WV X (.BoolOp .Or (a :: b :: rest) pos) (oOr ft fu) :=
  PW.imp (pw_or ha hb) fun σ H Q h => by
    obtain ⟨H₀, Z₀, Z, δ, d, hh, e, k⟩ := h
    obtain ⟨x, e1, e⟩ := bind_some e
    refine ⟨H₀, Z₀, Z, δ, x, hh, e1, fun Z1 H1 hh1 s1 => ?_⟩
    cases x with
    | true => cases e; exact k Z1 H1 hh1 s1
    | false => exact ⟨H₀, Z₀, Z1, δ, d, hh1, e, fun Z2 H2 hh2 s2 => k Z2 H2 hh2 (s1.trans s2)⟩
theorem WV.tv (h : WV X a ft) : TV X a ft := PW.pt h
theorem tv_not (ha : TV X a ft) : TV X (.UnaryOp .Not a pos) (oNot ft) :=
  PT.imp (pt_not ha) fun σ H Q h => by
    obtain ⟨H₀, Z₀, Z, δ, d, hh, e, k⟩ := h
    cases e1 : ft δ with
    | none => unfold oNot at e; rw [e1] at e; cases e
    | some x =>
      unfold oNot at e
      rw [e1] at e
      cases e
      exact ⟨H₀, Z₀, Z, δ, x, hh, e1, fun Z1 H1 hh1 s1 => k Z1 H1 hh1 s1⟩
theorem ev_ifx (hc : TV X c ft) (ha : EV X a f1) (hb : EV X b f2) : EV X (.IfExp c a b pos) (oIf ft f1 f2) :=
  PE.imp (pe_ifExp hc ha hb) fun σ H Q h => by
    obtain ⟨H₀, Z₀, Z, δ, d, hh, e, k⟩ := h
    obtain ⟨x, e1, e⟩ := bind_some e
    refine ⟨H₀, Z₀, Z, δ, x, hh, e1, fun Z1 H1 hh1 s1 => ?_⟩
    cases x with
    | true => exact ⟨H₀, Z₀, Z1, δ, d, hh1, e, fun v Z2 H2 hh2 s2 r2 => k v Z2 H2 hh2 (s1.trans s2) r2⟩
    | false => exact ⟨H₀, Z₀, Z1, δ, d, hh1, e, fun v Z2 H2 hh2 s2 r2 => k v Z2 H2 hh2 (s1.trans s2) r2⟩

/-! ### names, constants, argument lists, displays -/
theorem oV_eq {i : Nat} {δ : Dv} {d : D} (h : oV i δ = some d) : δ[i]? = some (.fz d) := by
  unfold oV at h
  cases q : δ[i]? with
  | none => rw [q] at h; cases h
  | some x =>
    rw [q] at h
    cases x with
    | fz e => cases h; rfl
    | un => cases h
    | ow _ => cases h
theorem ev_var (i : Nat) {x : Str} (hN : X.N[i]? = some x := by rfl) (hv : Vis X.env.scope x := by first | exact Or.inl rfl | exact Or.inr (Or.inl rfl) | exact Or.inr (Or.inr rfl)) (hd : (x == ("__debug__" : Str)) = false := by decide) (hcd : (x == ("__classdict__" : Str)) = false := by decide) :
    EV X (.Name x pos) (oV i) :=
  PE.imp (pe_var hN hv hd hcd) fun σ H Q h => by
    obtain ⟨H₀, Z₀, Z, δ, d, hh, e, k⟩ := h
    obtain ⟨v, q, r⟩ := hh.fz i d (oV_eq e)
    exact ⟨v, q, k v Z H hh (Same.refl _) r⟩
theorem ev_c {d : D} {v : V} (h : PE X e (tC v)) (r : ∀ Z, Rep X.K Z v d) : EV X e (oC d) :=
  PE.imp h fun σ H Q h => by
    obtain ⟨H₀, Z₀, Z, δ, d', hh, e, k⟩ := h
    cases e
    exact k v Z H hh (Same.refl _) (r Z)
theorem ev_int {i j} : EV X (.Constant (.int i) j pos) (oC (.int i)) := ev_c pe_int fun _ => .int i
theorem ev_bl {i j} : EV X (.Constant (.bool i) j pos) (oC (.bool i)) := ev_c pe_bl fun _ => .bl i
theorem ev_str {i j} : EV X (.Constant (.str i) j pos) (oC (.str i)) := ev_c pe_str fun _ => .str i
theorem av_nil : AV X [] oNil :=
  PA.imp pa_nil fun σ H Q h => by
    obtain ⟨H₀, Z₀, Z, δ, d, hh, e, k⟩ := h
    cases e
    exact k [] Z H hh (Same.refl _) .nil
theorem av_cons (ha : EV X e f) (hr : AV X es fs) (hs : starEach (e :: es) X.env = (false, eval e X.env) :: starEach es X.env := by rfl) : AV X (e :: es) (oCons f fs) :=
  PA.imp (pa_cons ha hr hs) fun σ H Q h => by
    obtain ⟨H₀, Z₀, Z, δ, d, hh, e, k⟩ := h
    obtain ⟨x, e1, e⟩ := bind_some e
    obtain ⟨xs, e2, e⟩ := bind_some e
    cases e
    exact ⟨H₀, Z₀, Z, δ, x, hh, e1, fun v Z1 H1 hh1 s1 r1 => ⟨H₀, Z₀, Z1, δ, xs, hh1, e2, fun vs Z2 H2 hh2 s2 r2 => k _ Z2 H2 hh2 (s1.trans s2) (.cons (r1.same s2) r2)⟩⟩
theorem ev_tup {x1} (h : AV X es fs) : EV X (.Tuple es x1 pos) (os fs tupD) :=
  PE.imp (pe_tup h) fun σ H Q h => by
    obtain ⟨H₀, Z₀, Z, δ, d, hh, e, k⟩ := h
    obtain ⟨xs, e1, e⟩ := bind_some e
    refine ⟨H₀, Z₀, Z, δ, xs, hh, e1, fun vs Z1 H1 hh1 s1 r1 => ?_⟩
    by_cases hl : xs.length ≤ sizeLine
    · rw [tupD, if_pos hl] at e
      cases e
      refine ⟨by rw [r1.length]; exact hl, fun p hp => ?_⟩
      have n := New.add hh1.zh hp (.tup vs)
      exact k _ _ _ (hh1.new n) (s1.trans n.z) (.tup (SqT.of upd_same) (r1.same n.z))
    · rw [tupD, if_neg hl] at e; cases e
theorem ev_lst (h : AV X es fs) : EV X (.List es pos) (os fs lstD) :=
  PE.imp (pe_lst h) fun σ H Q h => by
    obtain ⟨H₀, Z₀, Z, δ, d, hh, e, k⟩ := h
    obtain ⟨xs, e1, e⟩ := bind_some e
    refine ⟨H₀, Z₀, Z, δ, xs, hh, e1, fun vs Z1 H1 hh1 s1 r1 => ?_⟩
    by_cases hl : xs.length ≤ sizeLine
    · rw [lstD, if_pos hl] at e
      cases e
      refine ⟨by rw [r1.length]; exact hl, fun p hp => ?_⟩
      have n := New.add hh1.zh hp (.lst vs)
      exact k _ _ _ (hh1.new n) (s1.trans n.z) (.lst (SqL.of upd_same) (r1.same n.z))
    · rw [lstD, if_neg hl] at e; cases e
/-! ### calls -/
theorem args {K : Fg} {g : List D → Option D} {σ : St} {H : Hp} {Q : VK} (h : tV K (os fs g) σ H Q) : tVA K fs σ H fun vs H1 => rDs K g vs H1 Q := by
  obtain ⟨H₀, Z₀, Z, δ, d, hh, e, k⟩ := h
  obtain ⟨xs, e1, e⟩ := bind_some e
  exact ⟨H₀, Z₀, Z, δ, xs, hh, e1, fun vs Z1 H1 hh1 s1 r1 => ⟨Z1, xs, d, hh1.zh, r1, e, fun w Z3 H3 n r3 => k w Z3 H3 (hh1.new n) (s1.trans n.z) r3⟩⟩
theorem ev_callB {x : Str} {id : String} {g : List D → Option D} (hc : CallR X (.builtin id) (rDs X.K g)) (hg : Gl X x) (hm : X.mg x = none) (hv : bootBuiltins x = some (.builtin id)) (ha : AV X (e :: es) fs) (hn : x ≠ "__name__" := by decide) (hdb : (x == ("__debug__" : Str)) = false := by decide)
    (he : starEach (e :: es) X.env = (false, eval e X.env) :: starEach es X.env := by rfl) (hpl : (backTo pos (starEach es X.env)).any (·.1) = false := by rfl) : EV X (.Call (.Name x p) (e :: es) [] pos) (os fs g) :=
  PE.imp (pe_callB hc hg hm hv ha hn hdb he hpl) fun _ _ _ h => args h
theorem ev_callTy {x : Str} {id : String} {g : List D → Option D} (hc : CallR X (.type id) (rDs X.K g)) (hg : Gl X x) (hm : X.mg x = none) (hv : bootBuiltins x = some (.type id)) (ha : AV X (e :: es) fs) (hn : x ≠ "__name__" := by decide) (hdb : (x == ("__debug__" : Str)) = false := by decide)
    (he : starEach (e :: es) X.env = (false, eval e X.env) :: starEach es X.env := by rfl) (hpl : (backTo pos (starEach es X.env)).any (·.1) = false := by rfl) : EV X (.Call (.Name x p) (e :: es) [] pos) (os fs g) :=
  PE.imp (pe_callTy hc hg hm hv ha hn hdb he hpl) fun _ _ _ h => args h
/-- a def of the text: dd the defaults that fill up (plain) -/
theorem ev_call {k : Nat} {fa : Addr} {fd : FuncData} {ps : List Str} {x : Str} {g : List D → Option D} {dd : List D} {dv : List V} {ds : List Value} (F : FnOk X.prog X.w X.K X.mg X.base CX0 k fa fd ps (spD X.K g)) (hr : Room k X.A) (hg : Gl X x) (hm : X.mg x = some (.ref fa)) (hk : PySem.W.keepIn X.K (.ref fa) = true)
    (hb : Binds X.K fd ps ds) (hd : Vals dv ds) (hdd : ∀ Z, Reps X.K Z dv dd) (hx : Passes CX0 X E0) (ha : AV X (e :: es) fs) (hdb : (x == ("__debug__" : Str)) = false := by decide) (he : starEach (e :: es) X.env = (false, eval e X.env) :: starEach es X.env := by rfl) (hpl : (backTo pos (starEach es X.env)).any (·.1) = false := by rfl) :
    EV X (.Call (.Name x p) (e :: es) [] pos) (os fs fun as => g (as ++ dd)) :=
  PE.imp (pe_call F hr hg hm hk hb hd hx ha hdb he hpl) fun σ H Q h => by
    obtain ⟨H₀, Z₀, Z, δ, xs, hh, e1, q⟩ := args h
    refine ⟨H₀, Z₀, Z, δ, xs, hh, e1, fun vs Z1 H1 hh1 s1 r1 => ?_⟩
    obtain ⟨Z2, as, d, zh, ra, eg, kk⟩ := q vs Z1 H1 hh1 s1 r1
    exact ⟨Z2, as ++ dd, d, zh, ra.append (hdd Z2), eg, kk⟩
/-! ### subscripts -/
theorem IxR.imp {r r' : R2} (h : IxR X r) (i : ∀ x y H Q, r' x y H Q → r x y H Q) : IxR X r' := fun value slice pins s σ H x y v u Q I rx ry q hs => h value slice pins s σ H x y v u Q I rx ry (i _ _ _ _ q) hs
theorem ev_ix {g : D → D → Option D} (ho : IxR X (rD X.K g)) (ha : EV X a f1) (hb : EV X b f2) (hs : PlainIx b) : EV X (.Subscript a b pos) (o2 f1 f2 g) :=
  PE.imp (pe_ix ho ha hb hs) fun _ _ _ h => two (fun _ _ _ _ q => q) h
end
end VL

set_option Elab.async false
set_option linter.all false
set_option maxRecDepth 100000
set_option maxHeartbeats 4000000
namespace VL
open PySem PySem.Spec PyProof.Rows L2
section
variable {X : Cx} {a b c e tg : Expr} {es : List Expr} {pos p : Pos} {f f1 f2 f3 : Dv → Option D} {fs : Dv → Option (List D)} {ft fu : Dv → Option Bool} {st : Stmt} {sts body : List Stmt} {s1 s2 : Dv → Option (Fl × Dv)}

/-! ### ints -/
theorem op_iI {F : Value → Value → Sem Value} {g : Int → Int → Int} (h : OpR X F (rI0 fun i j => .int (g i j))) : OpR X F (rD X.K (iI g)) :=
  OpR.imp h fun x y H Q q => by
    obtain ⟨Z, a, b, d, zh, ra, rb, e, k⟩ := q
    cases ra <;> cases rb <;> simp [iI] at e
    subst e
    exact ⟨_, _, rfl, rfl, k _ Z H (New.refl zh) (.int _)⟩
theorem op_iB {F : Value → Value → Sem Value} {g : Int → Int → Bool} (h : OpR X F (rI0 fun i j => .bl (g i j))) : OpR X F (rD X.K (iB g)) :=
  OpR.imp h fun x y H Q q => by
    obtain ⟨Z, a, b, d, zh, ra, rb, e, k⟩ := q
    cases ra <;> cases rb <;> simp [iB] at e
    subst e
    exact ⟨_, _, rfl, rfl, k _ Z H (New.refl zh) (.bl _)⟩
theorem op_iC {F : Value → Value → Sem Value} {P : Int → Int → Prop} {C : Int → Int → Bool} {g : Int → Int → Int} (h : OpR X F (rI P fun i j => .int (g i j))) (hc : ∀ i j, C i j = true → P i j) : OpR X F (rD X.K (iC C g)) :=
  OpR.imp h fun x y H Q q => by
    obtain ⟨Z, a, b, d, zh, ra, rb, e, k⟩ := q
    cases ra with
    | int i =>
      cases rb with
      | int j =>
        by_cases hh : C i j = true
        · simp only [iC, if_pos hh] at e
          cases e
          exact ⟨_, _, rfl, rfl, hc _ _ hh, k _ Z H (New.refl zh) (.int _)⟩
        · simp only [iC, if_neg hh] at e
          cases e
      | _ => simp [iC] at e
    | _ => simp [iC] at e
theorem d_sub : OpR X (binaryOp .Sub) (rD X.K subD) := op_iI op_sub
theorem d_mulI : OpR X (binaryOp .Mult) (rD X.K mulI) := op_iC (P := fun i j => IntMulOk i j) (opI fun _ _ _ _ _ _ _ hc q => mul_int q hc) fun i j h => of_decide_eq_true h
theorem d_div : OpR X (binaryOp .FloorDiv) (rD X.K divD) := op_iC op_fdiv fun i j h => (of_decide_eq_true h : 0 < j ∧ j < 1073741824)
theorem d_mod : OpR X (binaryOp .Mod) (rD X.K modD) := op_iC op_mod fun i j h => of_decide_eq_true h
theorem d_shl : OpR X (binaryOp .LShift) (rD X.K shlD) := op_iC (P := fun i j => 0 ≤ j ∧ (Builtin.Int.intBits i : Int) + j ≤ 2 ^ 27) (opI fun _ _ _ _ _ _ _ hc q => lshift_int hc.1 hc.2 q) fun i j h => of_decide_eq_true h
theorem d_shr : OpR X (binaryOp .RShift) (rD X.K shrD) := op_iC op_shr fun i j h => of_decide_eq_true h
theorem d_and : OpR X (binaryOp .BitAnd) (rD X.K andD) := op_iI op_and
theorem d_or : OpR X (binaryOp .BitOr) (rD X.K orD) := op_iI op_or
theorem d_xor : OpR X (binaryOp .BitXor) (rD X.K xorD) := op_iI op_xor
theorem d_lt : OpR X (compareOp .Lt) (rD X.K ltD) := op_iB op_lt
theorem d_gt : OpR X (compareOp .Gt) (rD X.K gtD) := op_iB op_gt
theorem d_neg : UnR X (unaryOp .USub) (rD1 X.K negD) := by
  intro pins s σ H x v Q I rx q
  obtain ⟨Z, a, d, zh, ra, e, k⟩ := q
  cases ra <;> simp [negD] at e
  subst e
  exact un_neg pins s σ H _ v Q I rx ⟨_, rfl, k _ Z H (New.refl zh) (.int _)⟩
/-! ### + -/
theorem Rep.str_eq {K : Fg} {Z : Hp} {v : V} {x : Str} (h : Rep K Z v (.str x)) : v = .str x := by cases h; rfl
theorem Rep.tup_ex {K : Fg} {Z : Hp} {v : V} {ds : List D} (h : Rep K Z v (.tuple ds)) : ∃ a xs, v = .ref a ∧ SqT K Z a xs ∧ Reps K Z xs ds := by
  cases h with
  | tup p q => exact ⟨_, _, rfl, p, q⟩
theorem Rep.lst_ex {K : Fg} {Z : Hp} {v : V} {ds : List D} (h : Rep K Z v (.list ds)) : ∃ a xs, v = .ref a ∧ SqL K Z a xs ∧ Reps K Z xs ds := by
  cases h with
  | lst p q => exact ⟨_, _, rfl, p, q⟩
theorem ite_some {p : Prop} [Decidable p] {α : Type} {x y : α} (h : (if p then some x else none) = some y) : p ∧ x = y := by
  by_cases q : p
  · rw [if_pos q] at h; exact ⟨q, Option.some.inj h⟩
  · rw [if_neg q] at h; cases h
theorem addD_k {a b d : D} (h : addD a b = some d) : (∃ i, a = .int i) ∨ (∃ x, a = .str x) ∨ (∃ xs, a = .list xs) ∨ ∃ xs, a = .tuple xs := by
  cases a with
  | int i => exact .inl ⟨_, rfl⟩
  | str i => exact .inr (.inl ⟨_, rfl⟩)
  | list i => exact .inr (.inr (.inl ⟨_, rfl⟩))
  | tuple i => exact .inr (.inr (.inr ⟨_, rfl⟩))
  | _ => cases h
theorem addD_i {i : Int} {b d : D} (h : addD (.int i) b = some d) : ∃ j, b = .int j ∧ d = .int (i + j) := by
  cases b with
  | int j => exact ⟨j, rfl, (Option.some.inj h).symm⟩
  | _ => cases h
theorem addD_s {i : Str} {b d : D} (h : addD (.str i) b = some d) : ∃ j, b = .str j ∧ i.length + j.length ≤ sizeLine ∧ d = .str (i ++ j) := by
  cases b with
  | str j => obtain ⟨p, q⟩ := ite_some h; exact ⟨j, rfl, p, q.symm⟩
  | _ => cases h
theorem addD_l {i : List D} {b d : D} (h : addD (.list i) b = some d) : ∃ j, b = .list j ∧ i.length + j.length ≤ sizeLine ∧ d = .list (i ++ j) := by
  cases b with
  | list j => obtain ⟨p, q⟩ := ite_some h; exact ⟨j, rfl, p, q.symm⟩
  | _ => cases h
theorem addD_t {i : List D} {b d : D} (h : addD (.tuple i) b = some d) : ∃ j, b = .tuple j ∧ i.length + j.length ≤ sizeLine ∧ d = .tuple (i ++ j) := by
  cases b with
  | tuple j => obtain ⟨p, q⟩ := ite_some h; exact ⟨j, rfl, p, q.symm⟩
  | _ => cases h
theorem d_add : OpR X (binaryOp .Add) (rD X.K addD) := by
  intro pins s σ H x y v u Q I rx ry q
  obtain ⟨Z, a, b, d, zh, ra, rb, e, k⟩ := q
  rcases addD_k e with ⟨i, rfl⟩ | ⟨i, rfl⟩ | ⟨ds, rfl⟩ | ⟨ds, rfl⟩
  · obtain ⟨j, rfl, rfl⟩ := addD_i e
    cases ra.int_eq
    cases rb.int_eq
    exact op_add pins s σ H _ _ v u Q I rx ry ⟨_, _, rfl, rfl, k _ Z H (New.refl zh) (.int _)⟩
  · obtain ⟨j, rfl, hl, rfl⟩ := addD_s e
    cases ra.str_eq
    cases rb.str_eq
    exact op_add_str pins s σ H _ _ v u Q I rx ry ⟨_, _, rfl, rfl, hl, k _ Z H (New.refl zh) (.str _)⟩
  · obtain ⟨es, rfl, hl, rfl⟩ := addD_l e
    obtain ⟨a, xs, rfl, h1, q1⟩ := ra.lst_ex
    obtain ⟨b, ys, rfl, h2, q2⟩ := rb.lst_ex
    cases rx
    cases ry
    obtain ⟨its, r1, p1, z1⟩ := I.list (SqL.same h1 zh)
    obtain ⟨its2, r2, p2, z2⟩ := I.list (SqL.same h2 zh)
    obtain ⟨⟨cls, dd, data, sl⟩, n1, ho, hc, hdd, hd⟩ := p1
    obtain ⟨⟨cls2, dd2, data2, sl2⟩, n2, ho2, hc2, hdd2, hd2⟩ := p2
    simp only at hc hd hc2 hd2
    subst hc hd hc2 hd2
    have hl1 := r1.length
    have hl2 := r2.length
    have ql1 := q1.length
    have ql2 := q2.length
    refine concat_meets ⟨_, ho, rfl⟩ ⟨_, ho2, rfl⟩ noFill_list_add seq_list_add PySem.F.slot_list_add PySem.F.entry_list_add (PySem.F.args_list_add_2 _ _) (list_addW a b its.toArray its2.toArray n1 n2 dd dd2 sl sl2 (by simp; omega)) ⟨ho, ho2, ?_⟩
    have ea : its.toArray ++ its2.toArray = (its ++ its2).toArray := by simp
    rw [ea]
    have n := New.add zh I.fresh (.lst (xs ++ ys))
    exact ⟨.ref _, _, I.lnew (t' := s.toks) (r1.append r2) (by rw [List.length_append]; omega), rfl, k _ _ _ n (.lst (SqL.of upd_same) ((q1.append q2).same n.z))⟩
  · obtain ⟨es, rfl, hl, rfl⟩ := addD_t e
    obtain ⟨a, xs, rfl, h1, q1⟩ := ra.tup_ex
    obtain ⟨b, ys, rfl, h2, q2⟩ := rb.tup_ex
    by_cases h0 : ds.length = 0
    · have hd0 : ds = [] := List.eq_nil_of_length_eq_zero h0
      subst hd0
      cases q1
      cases rx
      cases ry
      obtain ⟨its, r1, p1, z1⟩ := I.tuple (SqT.same h1 zh)
      obtain ⟨its2, r2, p2, z2⟩ := I.tuple (SqT.same h2 zh)
      cases r1
      obtain ⟨⟨cls, dd, data, sl⟩, ho, hc, n, hd⟩ := id p1
      obtain ⟨⟨cls2, dd2, data2, sl2⟩, ho2, hc2, n2, hd2⟩ := id p2
      simp only at hc hd hc2 hd2
      subst hc hd hc2 hd2
      exact concat_meets ⟨_, ho, rfl⟩ ⟨_, ho2, rfl⟩ noFill_tuple_add seq_tuple_add PySem.F.slot_tuple_add PySem.F.entry_tuple_add (PySem.F.args_tuple_add_2 _ _)
        (tuple_addW0 a b _ its2.toArray n n2 dd dd2 sl sl2 (by simp)) ⟨ho, ho2, ⟨.ref b, H, I, rfl, k _ Z H (New.refl zh) (.tup h2 q2)⟩⟩
    refine op_catT pins s σ H _ _ v u Q I rx ry ⟨a, b, xs, ys, rfl, rfl, SqT.same h1 zh, SqT.same h2 zh, fun z => h0 (by rw [← q1.length, z]; rfl), by rw [q1.length, q2.length]; exact hl, fun z => ?_, fun z p hp => ?_⟩
    · subst z
      cases q2
      rw [List.append_nil] at k
      exact k _ Z H (New.refl zh) (.tup h1 q1)
    · have n := New.add zh hp (.tup (xs ++ ys))
      exact k _ _ _ n (.tup (SqT.of upd_same) ((q1.append q2).same n.z))

/-! ### == -/
theorem shp_lay {d : D} (h : shp d = true) : d.canLay0 = true := (Bool.and_eq_true_iff.mp h).1
theorem d_eq (hu : X.A.units + 64 < cLine) : OpR X (compareOp .Eq) (rD X.K eqD) := by
  intro pins s σ H x y v u Q I rx ry q
  obtain ⟨Z, a, b, d, zh, ra, rb, e, k⟩ := q
  by_cases hs : shp a = true ∧ shp b = true
  · rw [eqD, if_pos hs] at e
    cases e
    obtain ⟨as, r1⟩ := ra.reads I zh rx (shp_lay hs.1)
    obtain ⟨bs, r2⟩ := rb.reads I zh ry (shp_lay hs.2)
    exact eq_dataH r1 r2 hs.1 hs.2 hu ⟨.bl _, H, I, rfl, k _ Z H (New.refl zh) (.bl _)⟩
  · rw [eqD, if_neg hs] at e; cases e
theorem d_ne (hu : X.A.units + 64 < cLine) : OpR X (compareOp .NotEq) (rD X.K neD) := by
  intro pins s σ H x y v u Q I rx ry q
  obtain ⟨Z, a, b, d, zh, ra, rb, e, k⟩ := q
  by_cases hs : shp a = true ∧ shp b = true
  · rw [neD, if_pos hs] at e
    cases e
    obtain ⟨as, r1⟩ := ra.reads I zh rx (shp_lay hs.1)
    obtain ⟨bs, r2⟩ := rb.reads I zh ry (shp_lay hs.2)
    exact ne_dataH r1 r2 hs.1 hs.2 hu ⟨.bl _, H, I, rfl, k _ Z H (New.refl zh) (.bl _)⟩
  · rw [neD, if_neg hs] at e; cases e
/-! ### items -/
theorem Reps.at {K : Fg} {Z : Hp} {vs : List V} {ds : List D} {i : Int} {d : D} (r : Reps K Z vs ds) (h : atI ds i = some d) : ∃ v, atI vs i = some v ∧ Rep K Z v d := by
  unfold atI at h ⊢
  rw [r.length]
  obtain ⟨j, e, h⟩ := bind_some h
  obtain ⟨v, q, rr⟩ := r.get h
  exact ⟨v, by rw [e]; exact q, rr⟩
theorem ixD_k {a b d : D} (h : ixD a b = some d) : (∃ xs, a = .list xs) ∨ ∃ xs, a = .tuple xs := by
  cases a with
  | list i => exact .inl ⟨_, rfl⟩
  | tuple i => exact .inr ⟨_, rfl⟩
  | _ => cases h
theorem ixD_l {xs : List D} {b d : D} (h : ixD (.list xs) b = some d) : ∃ i, b = .int i ∧ atI xs i = some d := by
  cases b with
  | int i => exact ⟨i, rfl, h⟩
  | _ => cases h
theorem d_ix : IxR X (rD X.K ixD) :=
  IxR.imp (ix_list.or ix_tup) fun x y H Q q => by
    obtain ⟨Z, a, b, d, zh, ra, rb, e, k⟩ := q
    rcases ixD_k e with ⟨xs, rfl⟩ | ⟨xs, rfl⟩
    · obtain ⟨i, rfl, e⟩ := ixD_l e
      obtain ⟨a, vs, rfl, h1, q1⟩ := ra.lst_ex
      cases rb.int_eq
      obtain ⟨v, ev, rv⟩ := q1.at e
      exact .inl ⟨_, _, _, v, rfl, rfl, SqL.same h1 zh, ev, k v Z H (New.refl zh) rv⟩
    · obtain ⟨i, rfl, e⟩ := ixD_l (xs := xs) (b := b) (by cases b <;> exact e)
      obtain ⟨a, vs, rfl, h1, q1⟩ := ra.tup_ex
      cases rb.int_eq
      obtain ⟨v, ev, rv⟩ := q1.at e
      exact .inr ⟨_, _, _, v, rfl, rfl, SqT.same h1 zh, ev, k v Z H (New.refl zh) rv⟩
/-! ### builtins -/
theorem c_len : CallR X (.builtin "len") (rDs X.K lenD) :=
  CallR.imp call_len fun xs H Q q => by
    obtain ⟨Z, as, d, zh, ra, e, k⟩ := q
    cases ra with
    | nil => cases e
    | cons r1 r2 =>
      cases r2 with
      | cons _ _ => cases r1 <;> cases e
      | nil =>
        cases r1 with
        | lst h1 q1 => cases e; exact ⟨_, _, rfl, .inl ⟨_, SqL.same h1 zh, rfl⟩, k _ Z H (New.refl zh) (by rw [q1.length]; exact .int _)⟩
        | tup h1 q1 => cases e; exact ⟨_, _, rfl, .inr ⟨_, SqT.same h1 zh, rfl⟩, k _ Z H (New.refl zh) (by rw [q1.length]; exact .int _)⟩
        | _ => cases e
theorem two_ints {K : Fg} {Z : Hp} {xs : List V} {as : List D} {d : D} {g : List D → Option D} {h : Int → Int → Int} (hg : ∀ as d, g as = some d → ∃ i j, as = [.int i, .int j] ∧ d = .int (h i j)) (r : Reps K Z xs as) (e : g as = some d) :
    ∃ i j, xs = [.int i, .int j] ∧ d = .int (h i j) := by
  obtain ⟨i, j, rfl, rfl⟩ := hg _ _ e
  cases r with
  | cons r1 r2 =>
    cases r2 with
    | cons r3 r4 =>
      cases r4
      exact ⟨i, j, by rw [r1.int_eq, r3.int_eq], rfl⟩
theorem c_min (hc : X.calm = true) : CallR X (.builtin "min") (rDs X.K minD) :=
  CallR.imp (call_min2 hc) fun xs H Q q => by
    obtain ⟨Z, as, d, zh, ra, e, k⟩ := q
    obtain ⟨i, j, rfl, rfl⟩ := two_ints (h := fun i j => if j < i then j else i) (fun as d h => by unfold minD at h; split at h <;> cases h; exact ⟨_, _, rfl, rfl⟩) ra e
    exact ⟨i, j, rfl, k _ Z H (New.refl zh) (.int _)⟩
theorem c_max (hc : X.calm = true) : CallR X (.builtin "max") (rDs X.K maxD) :=
  CallR.imp (call_max2 hc) fun xs H Q q => by
    obtain ⟨Z, as, d, zh, ra, e, k⟩ := q
    obtain ⟨i, j, rfl, rfl⟩ := two_ints (h := fun i j => if j > i then j else i) (fun as d h => by unfold maxD at h; split at h <;> cases h; exact ⟨_, _, rfl, rfl⟩) ra e
    exact ⟨i, j, rfl, k _ Z H (New.refl zh) (.int _)⟩
theorem c_tuple : CallR X (.type "tuple") (rDs X.K tupleD) :=
  CallR.imp call_tuple_of fun xs H Q q => by
    obtain ⟨Z, as, d, zh, ra, e, k⟩ := q
    cases ra with
    | nil => cases e
    | cons r1 r2 =>
      cases r2 with
      | cons _ _ => cases r1 <;> cases e
      | nil =>
        cases r1 with
        | lst h1 q1 => cases e; exact ⟨_, _, rfl, .inl ⟨SqL.same h1 zh, fun l hl => let n := New.add zh hl (.tup _); k _ _ _ n (.tup (SqT.of upd_same) (q1.same n.z))⟩⟩
        | tup h1 q1 => cases e; exact ⟨_, _, rfl, .inr ⟨SqT.same h1 zh, k _ Z H (New.refl zh) (.tup h1 q1)⟩⟩
        | _ => cases e
/-- n.bit_length() -/
theorem mt_bits : MtR X "int.bit_length" (fun x xs H Q => ∃ i, x = .int i ∧ xs = [] ∧ Q (.int (Builtin.Int.intBits i)) H) := by
  intro pins s σ H x xs v us Q I rx rs q
  obtain ⟨i, rfl, rfl, q⟩ := q
  obtain ⟨t, rfl⟩ := rx
  cases rs
  exact call_int_bit_length ⟨.int _, H, I.tok _, ⟨_, rfl⟩, q⟩
theorem ev_bits {apos : Pos} (ha : EV X a f) (hbase : attributeBase a "bit_length" X.env (eval a X.env) = eval a X.env := by rfl) (hline : (apos.endLine == pos.line) = true := by rfl) : EV X (.Call (.Attribute a "bit_length" apos) [] [] pos) (o1 f bitsD) :=
  PE.imp (pe_bm0 PySem.F.plainAttrs_int PySem.F.slot_int_bit_length PySem.F.type_int_bit_length mt_bits ha hbase hline) fun σ H Q h => by
    obtain ⟨H₀, Z₀, Z, δ, d, hh, e, k⟩ := h
    obtain ⟨x, e1, e⟩ := bind_some e
    refine ⟨H₀, Z₀, Z, δ, x, hh, e1, fun v Z1 H1 hh1 s1 r1 => ?_⟩
    cases r1 <;> simp [bitsD] at e
    subst e
    exact ⟨rfl, _, rfl, rfl, k _ Z1 H1 hh1 s1 (.int _)⟩
/-! ### isinstance -/
theorem Rep.ty {K : Fg} {Z H : Hp} {v : V} {d : D} (zh : Same Z H) (r : Rep K Z v d) (hD : ¬isDct d = true) : (tyN d = "NoneType" ∨ tyN d = "bool" ∨ tyN d = "int" ∨ tyN d = "str" ∨ tyN d = "list" ∨ tyN d = "tuple") := by
  cases r <;> simp [tyN]
  exact absurd rfl hD
end
end VL

set_option Elab.async false
set_option linter.all false
set_option maxRecDepth 100000
set_option maxHeartbeats 4000000
namespace VL
open PySem PySem.Spec PyProof.Rows L2
section
variable {X : Cx} {a b c e tg iter : Expr} {es : List Expr} {pos p : Pos} {f f1 f2 f3 : Dv → Option D} {fs : Dv → Option (List D)} {ft fu : Dv → Option Bool} {st : Stmt} {sts body orelse : List Stmt} {s1 s2 s3 : Sf}

/-! ### statements -/
theorem sv_ret (he : EV X e f) : SV X (.Return (some e) pos) (sRet f) :=
  PS.imp (ps_ret he) fun D σ H h => by
    obtain ⟨H₀, Z₀, Z, δ, r, hh, e, k⟩ := h
    obtain ⟨x, e1, e⟩ := bind_some e
    cases e
    exact ⟨H₀, Z₀, Z, δ, x, hh, e1, fun v Z1 H1 hh1 s1 r1 => k σ H1 Z1 hh1 s1 v r1⟩
theorem sv_set (i : Nat) {x : Str} {pos' : Pos} (hN : X.N.Nodup) (he : EV X e f) (hi : X.N[i]? = some x := by rfl) (hx : Loc X.env.scope x := by first | exact Or.inl rfl | exact Or.inr rfl) (hs : swapsWith e (some (.Name x pos')) pos.line X.env = pure false := by rfl)
    (hf : X.fn x = true ∨ X.env.scope.names.lookup x = some .local := by first | exact .inl rfl | exact .inr rfl | assumption) : SV X (.Assign [.Name x pos'] e pos) (sSet i f) :=
  PS.imp (ps_set hN hi hx he hs hf) fun D σ H h => by
    obtain ⟨H₀, Z₀, Z, δ, r, hh, e, k⟩ := h
    obtain ⟨x, e1, e⟩ := bind_some e
    cases e
    exact ⟨H₀, Z₀, Z, δ, x, hh, e1, fun v Z1 H1 hh1 s1 r1 => k _ H1 Z1 (hh1.set r1) s1⟩
theorem nx_ok {D : Ends} {σ : St} {H : Hp} {K : Fg} (h : tVS K sNx D σ H) : D.nx σ H := by
  obtain ⟨H₀, Z₀, Z, δ, r, hh, e, k⟩ := h
  cases e
  exact k σ H Z hh (Same.refl _)
theorem bv_nil : BV X [] sNx := PSs.imp pss_nil fun D σ H h => nx_ok h
theorem bv_cons (h1 : SV X st s1) (h2 : BV X sts s2) : BV X (st :: sts) (sSeq s1 s2) :=
  PSs.imp (pss_cons h1 h2) fun D σ H h => by
    obtain ⟨H₀, Z₀, Z, δ, r, hh, e, k⟩ := h
    obtain ⟨⟨fl, δ'⟩, e1, e⟩ := bind_some e
    refine ⟨H₀, Z₀, Z, δ, (fl, δ'), hh, e1, fun σ' H' Z' hh' s' => ?_⟩
    cases fl with
    | nx => exact ⟨H₀, Z₀, Z', δ', r, hh', e, fun σ2 H2 Z2 hh2 s2 => by
        have := k σ2 H2 Z2 hh2 (s'.trans s2)
        obtain ⟨fl, δ2⟩ := r
        cases fl <;> exact this⟩
    | bk => cases e; exact k σ' H' Z' hh' s'
    | ct => cases e; exact k σ' H' Z' hh' s'
    | rt d => cases e; exact k σ' H' Z' hh' s'
theorem bv_one (h1 : SV X st s1) : BV X [st] s1 := pss_one h1
theorem sv_if (hc : TV X c ft) (ha : BV X body s1) (hb : BV X orelse s2) : SV X (.If c body orelse pos) (sIf ft s1 s2) :=
  PS.imp (ps_if hc ha hb) fun D σ H h => by
    obtain ⟨H₀, Z₀, Z, δ, r, hh, e, k⟩ := h
    obtain ⟨x, e1, e⟩ := bind_some e
    refine ⟨H₀, Z₀, Z, δ, x, hh, e1, fun Z1 H1 hh1 t1 => ?_⟩
    cases x with
    | true => exact ⟨H₀, Z₀, Z1, δ, r, hh1, e, fun σ2 H2 Z2 hh2 t2 => k σ2 H2 Z2 hh2 (t1.trans t2)⟩
    | false => exact ⟨H₀, Z₀, Z1, δ, r, hh1, e, fun σ2 H2 Z2 hh2 t2 => k σ2 H2 Z2 hh2 (t1.trans t2)⟩
/-- a list of one's own is known for good from here -/
theorem fz_ok {K : Fg} (i : Nat) {D : Ends} {σ : St} {H : Hp} (h : tVS K (fun δ => s1 (dFz i δ)) D σ H) : tVS K s1 D σ H := by
  obtain ⟨H₀, Z₀, Z, δ, r, hh, e, k⟩ := h
  have e : s1 (dFz i δ) = some r := e
  unfold dFz at e
  split at e
  · rename_i ds q
    obtain ⟨Z1, t1, hh1⟩ := hh.frz q
    exact ⟨H₀, Z₀, Z1, _, r, hh1, e, fun σ2 H2 Z2 hh2 t2 => k σ2 H2 Z2 hh2 (t1.trans t2)⟩
  · exact ⟨H₀, Z₀, Z, _, r, hh, e, k⟩
theorem sv_fz (i : Nat) (h : SV X st s1) : SV X st (fun δ => s1 (dFz i δ)) := PS.imp h fun D σ H q => fz_ok i q

/-! ### targets -/
def tVG (K : Fg) (g : D → Dv → Option Dv) : TG := fun v σ H Q => ∃ H₀ Z₀ Z δ d δ', Hold K H₀ Z₀ Z δ σ H ∧ Rep K Z v d ∧ g d δ = some δ' ∧ ∀ σ' H' Z', Hold K H₀ Z₀ Z' δ' σ' H' → Same Z Z' → Q σ' H'
def GV (X : Cx) (tg : Expr) (g : D → Dv → Option Dv) : Prop := PG X tg (tVG X.K g)
theorem PG.imp {t t' : TG} (h : PG X tg t) (i : ∀ v σ H Q, t' v σ H Q → t v σ H Q) : PG X tg t' := fun pins s σ H x v Q I r q => h pins s σ H x v Q I r (i _ _ _ _ q)
theorem gv_name (i : Nat) {x : Str} (hN : X.N.Nodup) (hi : X.N[i]? = some x := by rfl) (hx : Loc X.env.scope x := by first | exact Or.inl rfl | exact Or.inr rfl)
    (hf : X.fn x = true ∨ X.env.scope.names.lookup x = some .local := by first | exact .inl rfl | exact .inr rfl | assumption) : GV X (.Name x pos) (gN i) :=
  PG.imp (pg_name hN hi hx hf) fun v σ H Q h => by
    obtain ⟨H₀, Z₀, Z, δ, d, δ', hh, r, e, k⟩ := h
    cases e
    exact k _ H Z (hh.set r) (Same.refl _)
/-! ### loops -/
structure ItOk (K : Fg) (Z : Hp) (J : It) (ds : List D) : Prop where
  go : ∀ (i : Nat) (H : Hp), Same Z H → i < ds.length → J.go i H
  yld : ∀ (i : Nat) (H : Hp) x H' d, Same Z H → ds[i]? = some d → J.yld i H x H' → H' = H ∧ Rep K Z x d
  stop : ∀ (i : Nat) (H : Hp), Same Z H → ds.length ≤ i → J.stop i H
def tVI (K : Fg) (f : Dv → Option (List D)) : TI := fun σ H R => ∃ H₀ Z₀ Z δ ds, Hold K H₀ Z₀ Z δ σ H ∧ f δ = some ds ∧ ∀ J Z' H', Hold K H₀ Z₀ Z' δ σ H' → Same Z Z' → ItOk K Z' J ds → R J H'
def IV (X : Cx) (tg iter : Expr) (f : Dv → Option (List D)) : Prop := PI X tg iter (tVI X.K f)
theorem PI.imp {t t' : TI} (h : PI X tg iter t) (i : ∀ σ H R, t' σ H R → t σ H R) : PI X tg iter t' := fun pins s σ H R I q => h pins s σ H R I (i _ _ _ q)
theorem sv_for {g : D → Dv → Option Dv} (hp : PassesOwn (model X.prog X.w) X.A X.env X.xe) (hc : X.calm = true) (hi : IV X tg iter fs) (hg : GV X tg g) (hb : BV X body s1)
    (hs : ∀ x, foldedSetIterable iter X.env x = pure x := by intro _; rfl) : SV X (.For tg iter body [] pos) (sFor fs g s1) :=
  PS.imp (ps_for hp hc hi hg hb hs) fun D σ H h => by
    obtain ⟨H₀, Z₀, Z, δ, r, hh, e, k⟩ := h
    obtain ⟨ds, e1, e⟩ := bind_some e
    refine ⟨H₀, Z₀, Z, δ, ds, hh, e1, fun J Z1 H1 hh1 t1 ok => ?_⟩
    refine ⟨fun i m σ H => m = ds.length - i ∧ i ≤ ds.length ∧ ∃ Zc δc, Hold X.K H₀ Z₀ Zc δc σ H ∧ Same Z1 Zc ∧ loop g s1 (ds.drop i) δc = some r, ⟨ds.length, by simp, Nat.zero_le _, Z1, δ, hh1, Same.refl _, e⟩, ?_⟩
    rintro i m σ2 H2 ⟨rfl, hi2, Zc, δc, hhc, tc, ec⟩
    have zh : Same Z1 H2 := tc.trans hhc.zh
    by_cases hlt : i < ds.length
    · refine .inr ⟨ok.go i H2 zh hlt, fun σ3 H3 => ∃ Zc δc, Hold X.K H₀ Z₀ Zc δc σ3 H3 ∧ Same Z1 Zc ∧ loop g s1 (ds.drop (i + 1)) δc = some r, fun σ3 H3 q => ⟨ds.length - (i + 1), by omega, rfl, hlt, q⟩, fun x H3 y => ?_⟩
      have ed : ds[i]? = some ds[i] := by simp [hlt]
      obtain ⟨rfl, rx⟩ := ok.yld i H2 x H3 _ zh ed y
      rw [List.drop_eq_getElem_cons hlt] at ec
      obtain ⟨δ1, g1, ec⟩ := bind_some ec
      obtain ⟨⟨fl, δ2⟩, g2, ec⟩ := bind_some ec
      refine ⟨H₀, Z₀, Zc, δc, _, δ1, hhc, rx.same tc, g1, fun σ4 H4 Z4 hh4 t4 => ⟨H₀, Z₀, Z4, δ1, (fl, δ2), hh4, g2, fun σ5 H5 Z5 hh5 t5 => ?_⟩⟩
      cases fl with
      | nx => exact ⟨Z5, δ2, hh5, (tc.trans t4).trans t5, ec⟩
      | ct => exact ⟨Z5, δ2, hh5, (tc.trans t4).trans t5, ec⟩
      | bk => cases ec; exact k σ5 H5 Z5 hh5 (((t1.trans tc).trans t4).trans t5)
      | rt d => cases ec; exact k σ5 H5 Z5 hh5 (((t1.trans tc).trans t4).trans t5)
    · have e2 : ds.drop i = [] := List.drop_eq_nil_iff.mpr (by omega)
      rw [e2] at ec
      cases ec
      exact .inl ⟨ok.stop i H2 zh (by omega), k σ2 H2 Zc hhc (t1.trans tc)⟩
/-! ### what is walked -/
theorem itok_rng {K : Fg} {Z : Hp} {lo : Int} {n : Nat} : ItOk K Z (Itr lo n) (rngL lo n) where
  go := fun i H _ h => by simpa [rngL, Itr] using h
  yld := fun i H x H' d _ e y => by
    obtain ⟨rfl, rfl⟩ := y
    refine ⟨rfl, ?_⟩
    unfold rngL at e
    rw [List.getElem?_map] at e
    cases q : (List.range n)[i]? with
    | none => rw [q] at e; cases e
    | some k =>
      rw [q] at e
      cases e
      have : k = i := by
        obtain ⟨h, h2⟩ := List.getElem?_eq_some_iff.mp q
        simpa using h2.symm
      subst this
      exact .int _
  stop := fun i H _ h => by simpa [rngL, Itr] using h
theorem iv_range1 (hg : Gl X "range") (hm : X.mg "range" = none) (ha : AV X [a] fs) (hs : starEach [a] X.env = [(false, eval a X.env)] := by rfl) : IV X tg (.Call (.Name "range" p) [a] [] pos) (oL fs rng1D) :=
  PI.imp (pi_range1 hg hm ha hs) fun σ H R h => by
    obtain ⟨H₀, Z₀, Z, δ, ds, hh, e, k⟩ := h
    obtain ⟨as, e1, e⟩ := bind_some e
    refine ⟨H₀, Z₀, Z, δ, as, hh, e1, fun vs Z1 H1 hh1 t1 r1 => ?_⟩
    unfold rng1D at e
    split at e
    · rename_i j
      split at e
      · rename_i hj
        cases e
        cases r1 with
        | cons q1 q2 =>
          cases q2
          exact ⟨j, by rw [q1.int_eq], hj.2, hj.1, k _ Z1 H1 hh1 t1 itok_rng⟩
      · cases e
    · cases e
/-- a list or a tuple -/
theorem iv_list (ha : EV X a f) : IV X tg a (oI f lstI) :=
  PI.imp (pi_list ha) fun σ H R h => by
    obtain ⟨H₀, Z₀, Z, δ, ds, hh, e, k⟩ := h
    obtain ⟨y, e1, e⟩ := bind_some e
    refine ⟨H₀, Z₀, Z, δ, y, hh, e1, fun v Z1 H1 hh1 t1 r1 => ?_⟩
    cases r1 with
    | @lst l xs ds' h1 q1 =>
      cases e
      refine ⟨l, rfl, ⟨xs, SqL.same h1 hh1.zh⟩, k _ Z1 H1 hh1 t1 ⟨fun i H2 z hi => ?_, fun i H2 x H3 d z ed y => ?_, fun i H2 z hi => ⟨xs, SqL.same h1 z, by rw [q1.length]; exact hi⟩⟩⟩
      · have hi' : i < xs.length := by rw [q1.length]; exact hi
        exact ⟨xs, xs[i], SqL.same h1 z, by simp [hi']⟩
      · obtain ⟨rfl, y⟩ := y
        obtain ⟨v, ev, rv⟩ := q1.get ed
        have := y xs (SqL.same h1 z)
        rw [ev] at this
        cases this
        exact ⟨rfl, rv⟩
    | _ => cases e
theorem iv_tup (ha : EV X a f) : IV X tg a (oI f tupI) :=
  PI.imp (pi_tup ha) fun σ H R h => by
    obtain ⟨H₀, Z₀, Z, δ, ds, hh, e, k⟩ := h
    obtain ⟨y, e1, e⟩ := bind_some e
    refine ⟨H₀, Z₀, Z, δ, y, hh, e1, fun v Z1 H1 hh1 t1 r1 => ?_⟩
    cases r1 with
    | @tup l xs ds' h1 q1 =>
      cases e
      refine ⟨l, rfl, ⟨xs, SqT.same h1 hh1.zh⟩, k _ Z1 H1 hh1 t1 ⟨fun i H2 z hi => ?_, fun i H2 x H3 d z ed y => ?_, fun i H2 z hi => ⟨xs, SqT.same h1 z, by rw [q1.length]; exact hi⟩⟩⟩
      · have hi' : i < xs.length := by rw [q1.length]; exact hi
        exact ⟨xs, xs[i], SqT.same h1 z, by simp [hi']⟩
      · obtain ⟨rfl, y⟩ := y
        obtain ⟨v, ev, rv⟩ := q1.get ed
        have := y xs (SqT.same h1 z)
        rw [ev] at this
        cases this
        exact ⟨rfl, rv⟩
    | _ => cases e
end
/-! ### range(a, b, c) -/
def Itr3 (lo st : Int) (n : Nat) : It := ⟨fun i _ => i < n, fun i H x H' => H' = H ∧ x = .int (lo + i * st), fun i _ => n ≤ i⟩
theorem turn_range3 {P : Program} {w : World} {K : PySem.W.Frag} {tg : Expr} (it : Addr) (lo st : Int) (n : Nat) : Turn P w K tg (Itr3 lo st n) [it] it (fun i h => IsRangeIter h it (lo + (i : Nat) * st) ((n : Int) - (i : Nat)) st) where
  mem := by simp
  obj := fun i h st b hb => by
    have e : b = it := by simpa using hb
    subst e
    exact ⟨_, st, fun v z => by
      have z' : Data.fields _ = Data.cell v := z
      cases z'⟩
  keep := fun i h h' st k => k it (by simp) _ st
  item := by
    intro X hP hw hK hc i pins s σ H E I hf st' hg
    subst hP hw hK
    obtain ⟨f0, f1, f2, f3, f4, f5⟩ := hf it (by simp)
    have W := Walks.range (prog := X.prog) (w := X.w) (I.ok.hd hc) it lo st n
    refine W.item i s _ _ hg st' fun v h' tk hv st'' kk => ?_
    obtain ⟨t, rfl⟩ := hv
    have I1 : Inv X pins σ H { s with heap := h', toks := tk } := I.turned (fun b o hb e => kk b o (by simpa using hb) e) f0 f1 f3 f4 f5
    exact ⟨_, rfl, go_of (s := { s with heap := h', toks := tk }) (n := "range_iterator") st'' rfl rfl (by decide) ⟨.int (lo + i * st), H, I1, ⟨t, rfl⟩, ⟨rfl, rfl⟩, st'', fun b hb => (hf b hb).1⟩⟩
  done := by
    intro X hP hw hK hc i pins s σ H E I hf st' hg
    subst hP hw hK
    obtain ⟨f0, f1, f2, f3, f4, f5⟩ := hf it (by simp)
    exact wpAny_pyNext_range_end (I.ok.hd hc) st' (by have : n ≤ i := hg; omega) fun h' eb => ⟨rfl, I.turned (t' := s.toks) (fun b o hb e => eb b o hb e) f0 f1 f3 f4 f5⟩
  self := fun _ _ _ _ _ st h => wpAny_pyIter_rangeiter st h
theorem small_step {a b c : Int} (ha : -(2 ^ 40) ≤ a) (ha' : a < 2 ^ 40) (hb : -(2 ^ 40) ≤ b) (hb' : b < 2 ^ 40) (hc : 0 < c) (hc' : c < 2 ^ 20) : Builtin.Range.small a b c = true := by
  have h0 : 0 ≤ (b - a - 1) / c ∨ b - a - 1 < 0 := by
    rcases Int.lt_or_le (b - a - 1) 0 with h | h
    · exact .inr h
    · exact .inl (Int.ediv_nonneg h (by omega))
  have h1 : 0 ≤ b - a - 1 → (b - a - 1) / c ≤ b - a - 1 := fun h => Int.ediv_le_self _ h
  have h2 : 0 ≤ b - a - 1 → (b - a - 1) / c * c ≤ b - a - 1 := fun h => Int.ediv_mul_le _ (by omega)
  have hp : 0 ≤ (b - a - 1) / c → 0 ≤ (b - a - 1) / c * c := fun h => Int.mul_nonneg h (by omega)
  unfold Builtin.Range.small Builtin.Range.rangeSize
  simp only [Builtin.Range.rangeFitsLong, Bool.and_eq_true, Bool.or_eq_true, decide_eq_true_eq, beq_iff_eq, if_pos (show c > 0 from hc)]
  split <;> omega
section
variable {X : Cx} {a b c tg : Expr} {ta : TA} {p pos : Pos} {fs : Dv → Option (List D)}
theorem range_it3 {pins : List (Addr × Obj)} {σ : St} {H : Hp} {s : Shared} {R : It → Hp → Prop} {E : Value → Shared → Prop} {lo hi st : Int} {t u v : Tok} {tk : Nat} (I : Inv X pins σ H s) (h1 : -(2 ^ 40) ≤ lo) (h2 : lo < 2 ^ 40) (h3 : -(2 ^ 40) ≤ hi) (h4 : hi < 2 ^ 40) (h5 : 0 < st) (h6 : st < 2 ^ 20)
    (q : R (Itr3 lo st (rngN lo hi st)) H) : wpAny (model X.prog X.w) X.A (pyIter (.ref s.heap.objs.size)) (PIE X pins σ tg R) E { s with heap := s.heap.push { cls := .type "range", data := .fields #[.int lo t, .int hi u, .int st v] }, toks := tk } := by
  refine wpAny_pyIter_range (IsRange.new ..) (small_step h1 h2 h3 h4 h5 h6) ?_
  have I1 : Inv X pins σ H { s with heap := s.heap.push { cls := .type "range", data := .fields #[.int lo t, .int hi u, .int st v] }, toks := tk } := I.kept fun b o e => Heap.get?_push_of_some _ e
  refine ⟨(s.heap.push { cls := .type "range", data := .fields #[.int lo t, .int hi u, .int st v] }).objs.size, [(s.heap.push { cls := .type "range", data := .fields #[.int lo t, .int hi u, .int st v] }).objs.size], _, _, H, rfl,
    I1.kept (t' := tk) fun b o e => Heap.get?_push_of_some _ e, turn_range3 _ lo st (rngN lo hi st), ?_, fun b hb => ?_, q⟩
  · have e1 : lo + ((0 : Nat) : Int) * st = lo := by simp
    have e2 : ((rngN lo hi st : Nat) : Int) - ((0 : Nat) : Int) = Builtin.Range.rangeSize lo hi st := by
      unfold rngN Builtin.Range.rangeSize
      rw [if_pos (show st > 0 from h5)]
      split
      · have : 0 ≤ (hi - lo - 1) / st := Int.ediv_nonneg (by omega) (by omega)
        omega
      · rfl
    show IsRangeIter _ _ (lo + ((0 : Nat) : Int) * st) (((rngN lo hi st : Nat) : Int) - ((0 : Nat) : Int)) st
    rw [e1, e2]
    exact Heap.get?_push_size _ rfl
  · have e : b = (s.heap.push { cls := .type "range", data := .fields #[.int lo t, .int hi u, .int st v] }).objs.size := by simpa using hb
    subst e
    exact I1.fpOk (Nat.le_refl _) (I1.hok.fresh (Nat.le_refl _))
def iRng3 (ta : TA) : TI := fun σ H R => ta σ H fun vs H1 => ∃ i j k : Int, vs = [.int i, .int j, .int k] ∧ (-(2 ^ 40) ≤ i ∧ i < 2 ^ 40 ∧ -(2 ^ 40) ≤ j ∧ j < 2 ^ 40 ∧ 0 < k ∧ k < 2 ^ 20) ∧ R (Itr3 i k (rngN i j k)) H1
theorem pi_range3 (hg : Gl X "range") (hm : X.mg "range" = none) (ha : PA X [a, b, c] ta) (hs : starEach [a, b, c] X.env = [(false, eval a X.env), (false, eval b X.env), (false, eval c X.env)] := by rfl) (hs2 : starEach [b, c] X.env = [(false, eval b X.env), (false, eval c X.env)] := by rfl) :
    PI X tg (.Call (.Name "range" p) [a, b, c] [] pos) (iRng3 ta) := by
  intro pins s σ H R I h
  refine Call_ (ld_blt I hg hm boot_range (PyProof.Rows.callWith_type1 (thn (ha pos pins s σ H _ I h) fun us s1 ⟨vs, H1, I1, r1, q1⟩ => ?_) (by rw [hs, hs2]) (by rw [hs2]; rfl)))
  obtain ⟨i, j, k, e, ⟨q1, q2, q3, q4, q5, q6⟩, q⟩ := q1
  subst e
  cases r1 with
  | cons r rr =>
    cases rr with
    | cons r' rr =>
      cases rr with
      | cons r'' rr =>
        cases rr
        obtain ⟨t, rfl⟩ := r
        obtain ⟨t', rfl⟩ := r'
        obtain ⟨t'', rfl⟩ := r''
        exact call_range_3 (by omega) (range_it3 I1 q1 q2 q3 q4 q5 q6 q) (.inl (PyProof.noPylong_small (by omega)))
theorem itok_rng3 {K : Fg} {Z : Hp} {lo st : Int} {n : Nat} : ItOk K Z (Itr3 lo st n) (rngL3 lo st n) where
  go := fun i H _ h => by simpa [rngL3, Itr3] using h
  yld := fun i H x H' d _ e y => by
    obtain ⟨rfl, rfl⟩ := y
    refine ⟨rfl, ?_⟩
    unfold rngL3 at e
    rw [List.getElem?_map] at e
    cases q : (List.range n)[i]? with
    | none => rw [q] at e; cases e
    | some k =>
      rw [q] at e
      cases e
      have : k = i := by
        obtain ⟨h, h2⟩ := List.getElem?_eq_some_iff.mp q
        simpa using h2.symm
      subst this
      exact .int _
  stop := fun i H _ h => by simpa [rngL3, Itr3] using h
theorem iv_range3 (hg : Gl X "range") (hm : X.mg "range" = none) (ha : AV X [a, b, c] fs) (hs : starEach [a, b, c] X.env = [(false, eval a X.env), (false, eval b X.env), (false, eval c X.env)] := by rfl) (hs2 : starEach [b, c] X.env = [(false, eval b X.env), (false, eval c X.env)] := by rfl) :
    IV X tg (.Call (.Name "range" p) [a, b, c] [] pos) (oL fs rng3D) :=
  PI.imp (pi_range3 hg hm ha hs hs2) fun σ H R h => by
    obtain ⟨H₀, Z₀, Z, δ, ds, hh, e, k⟩ := h
    obtain ⟨as, e1, e⟩ := bind_some e
    refine ⟨H₀, Z₀, Z, δ, as, hh, e1, fun vs Z1 H1 hh1 t1 r1 => ?_⟩
    unfold rng3D at e
    split at e
    · rename_i i j m
      split at e
      · rename_i hj
        cases e
        cases r1 with
        | cons q1 q2 =>
          cases q2 with
          | cons q2 q3 =>
            cases q3 with
            | cons q3 q4 =>
              cases q4
              exact ⟨i, j, m, by rw [q1.int_eq, q2.int_eq, q3.int_eq], hj, k _ Z1 H1 hh1 t1 itok_rng3⟩
      · cases e
    · cases e
end
/-! ### slices -/
section
variable {X : Cx} {e : Expr} {lo hi : Option Expr} {p2 pos : Pos} {f : Dv → Option D}
def tVO (K : Fg) (f : Dv → Option (Option Int)) : TO := fun σ H Q => ∃ H₀ Z₀ Z δ d, Hold K H₀ Z₀ Z δ σ H ∧ f δ = some d ∧ ∀ Z' H', Hold K H₀ Z₀ Z' δ σ H' → Same Z Z' → Q d H'
def OV (X : Cx) (e : Option Expr) (f : Dv → Option (Option Int)) : Prop := PO X e (tVO X.K f)
theorem PO.imp {eo : Option Expr} {t t' : TO} (h : PO X eo t) (i : ∀ σ H Q, t' σ H Q → t σ H Q) : PO X eo t' := fun pins s σ H Q I q => h pins s σ H Q I (i _ _ _ q)
theorem ov_none : OV X none oNo := PO.imp po_none fun σ H Q h => by
  obtain ⟨H₀, Z₀, Z, δ, d, hh, e, k⟩ := h
  cases e
  exact k Z H hh (Same.refl _)
theorem ov_some (h : EV X e f) : OV X (some e) (oP f) := PO.imp (po_some h) fun σ H Q h => by
  obtain ⟨H₀, Z₀, Z, δ, d, hh, e, k⟩ := h
  obtain ⟨x, e1, e⟩ := bind_some e
  refine ⟨H₀, Z₀, Z, δ, x, hh, e1, fun v Z1 H1 hh1 t1 r1 => ?_⟩
  cases r1 <;> simp [asI] at e
  subst e
  exact ⟨_, rfl, k Z1 H1 hh1 t1⟩
/-- the items of xs[lo:hi] -/
theorem Reps.cut {K : Fg} {Z : Hp} {vs : List V} {ds : List D} (r : Reps K Z vs ds) (lo hi : Option Int) : Reps K Z (cutV vs lo hi) (cutD ds lo hi) := by
  unfold cutV cutD
  rw [r.length]
  exact (r.drop _).take _
/-- t[lo:hi], the whole of it: t itself -/
theorem cutD_whole {ds : List D} {lo hi : Option Int} (h1 : HT.sIx ds.length 0 lo = 0) (h2 : HT.sIx ds.length ds.length hi = ds.length) : cutD ds lo hi = ds := by
  unfold cutD
  rw [h1, h2]
  simp
section
variable {prog : Program} {w : World} {A : Around} {E : Value → Shared → Prop} {s : Shared}
theorem tupCut_whole {t sl : Addr} {items : Array Value} {vl vu : Value} {lo hi : Option Int} {Q : Value → Shared → Prop} (ht : IsTup s.heap t items) (hs : s.heap.IsSliceOf sl vl vu .none) (pl : IsPart vl lo) (pu : IsPart vu hi)
    (h1 : HT.sIx items.size 0 lo = 0) (h2 : HT.sIx items.size items.size hi = items.size) (h : Q (.ref t) s) : wpAny (model prog w) A (getItem (.ref t) (.ref sl)) Q E s := by
  obtain ⟨osl, hos, hcs, hds⟩ := id hs
  have ty : s.TypeIs (.ref sl) "slice" := ⟨osl, hos, hcs⟩
  unfold getItem
  try with_reducible refine wpAny_holding ?_
  first | refine wpAny_bind (wpAny_pure ?_) | skip
  refine wpAny_bind (wpAny_sequenceKey ht.typeIs (by decide) ?_)
  refine wpAny_bind (wpAny_callSpecial?_slot (name := Str.ofString "__getitem__") ht.typeIs PyProof.Rows.slot_tuple_getitem
    (wpAny_call_entry PyProof.Rows.slot_tuple_getitem ht.typeIs PyProof.Rows.entry_tuple_getitem ?_ (PyProof.Rows.args_tuple_getitem _ _)))
  show wpAny _ _ (Builtin.Tuple.tupleItemsOf (.ref t) >>= _) _ _ s
  refine wpAny_bind (tupleItemsOf_ ht ?_)
  refine wpAny_bind (wpAny_typeOf ty ?_)
  rw [if_pos (by decide)]
  refine wpAny_bind (HT.sliceApplied_gen hs pl pu ?_)
  have yes : (((((HT.sIx items.size 0 lo : Nat) : Int) == 0) && ((1 : Int) == 1)) && ((HT.sIx items.size items.size hi - HT.sIx items.size 0 lo) == items.size)) = true := by
    rw [h1, h2]; simp
  show wpAny _ _ (if (((((HT.sIx items.size 0 lo : Nat) : Int) == 0) && ((1 : Int) == 1)) && ((HT.sIx items.size items.size hi - HT.sIx items.size 0 lo) == items.size)) = true then _ else _) _ _ s
  rw [if_pos yes]
  unfold Builtin.Tuple.tupleIsExact
  refine wpAny_bind (wpAny_bind (wpAny_typeOf ht.typeIs (wpAny_pure ?_)))
  rw [if_pos (by decide)]
  exact wpAny_bind (wpAny_rule (wpAny_pure ⟨_, rfl, wpAny_pure h⟩))
end
def rSlW (K : PySem.W.Frag) : V → Option Int → Option Int → Hp → VK → Prop := fun x lo hi H Q => ∃ a xs, x = .ref a ∧ SqT K H a xs ∧ HT.sIx xs.length 0 lo = 0 ∧ HT.sIx xs.length xs.length hi = xs.length ∧ Q (.ref a) H
theorem sl_tupW : SlR X (rSlW X.K) := by
  intro pins s σ H x v vl vu lo hi sl Q I rx hs pl pu h
  obtain ⟨a, xs, rfl, hx, w1, w2, q⟩ := h
  cases rx
  obtain ⟨its, r, ht, hz⟩ := I.tuple hx
  have hlen : its.toArray.size = xs.length := by rw [List.size_toArray]; exact r.length.symm
  refine ⟨"tuple", _, PyProof.Rows.slot_tuple_getitem.lookup, ht.typeIs, ?_⟩
  exact tupCut_whole ht hs pl pu (by rw [hlen]; exact w1) (by rw [hlen]; exact w2) ⟨.ref a, H, I, rfl, q⟩
theorem ev_slice {fl fu : Dv → Option (Option Int)} (he : EV X e f) (hl : OV X lo fl) (hu : OV X hi fu) : EV X (.Subscript e (.Slice lo hi none p2) pos) (oSl f fl fu) :=
  PE.imp (pe_slice (sl_list.or (sl_tup.or sl_tupW)) he hl hu) fun σ H Q h => by
    obtain ⟨H₀, Z₀, Z, δ, d, hh, e, k⟩ := h
    obtain ⟨x, e1, e⟩ := bind_some e
    obtain ⟨i, e2, e⟩ := bind_some e
    obtain ⟨j, e3, e⟩ := bind_some e
    refine ⟨H₀, Z₀, Z, δ, x, hh, e1, fun v Z1 H1 hh1 t1 r1 => ⟨H₀, Z₀, Z1, δ, i, hh1, e2, fun Z2 H2 hh2 t2 => ⟨H₀, Z₀, Z2, δ, j, hh2, e3, fun Z3 H3 hh3 t3 => ?_⟩⟩⟩
    have r3 := (r1.same t2).same t3
    have tt := (t1.trans t2).trans t3
    cases r3 with
    | @lst a xs ds h1 q1 =>
      cases e
      refine .inl ⟨_, _, rfl, SqL.same h1 hh3.zh, fun p hp => ?_⟩
      have n := New.add hh3.zh hp (.lst (cutV xs i j))
      exact k _ _ _ (hh3.new n) (tt.trans n.z) (.lst (SqL.of upd_same) ((q1.cut i j).same n.z))
    | @tup a xs ds h1 q1 =>
      simp only [slD] at e
      cases e
      by_cases hw : HT.sIx ds.length 0 i = 0 ∧ HT.sIx ds.length ds.length j = ds.length
      · refine .inr (.inr ⟨_, _, rfl, SqT.same h1 hh3.zh, by rw [q1.length]; exact hw.1, by rw [q1.length]; exact hw.2, ?_⟩)
        refine k _ _ _ hh3 tt ?_
        rw [cutD_whole hw.1 hw.2]
        exact .tup h1 q1
      · refine .inr (.inl ⟨_, _, rfl, SqT.same h1 hh3.zh, by rw [q1.length]; exact hw, fun p hp => ?_⟩)
        have n := New.add hh3.zh hp (.tup (cutV xs i j))
        exact k _ _ _ (hh3.new n) (tt.trans n.z) (.tup (SqT.of upd_same) ((q1.cut i j).same n.z))
    | _ => cases e
end
/-! ### defs -/
structure FunV (K : PySem.W.Frag) (x qual : Str) (st : Stmt) (f : Addr) (fd : FuncData) (dV : Value) : Prop where
  ex : ∃ (oc : Value) (od : Option Addr) (kV doc pm : Value) (an : Option Addr) (cdv ct : Value) (osl : Array (Option Value)),
    fd = PySem.W.fnOf x qual (defArgs st) (defBody st) (defScope st) dV kV doc pm an cdv ct ∧ K.lookup f = some ⟨oc, od, .func fd, osl⟩ ∧ PySem.W.codeIn K cdv qual = true
  kp : PySem.W.keepIn K (.ref f) = true
section
variable {P : Program} {w : World} {K : PySem.W.Frag} {mg : Str → Option Value} {base : Heap}
theorem start_get {N : List Str} {vs : List V} {as : List D} {Z : Hp} (r : Reps K Z vs as) : ∀ (i : Nat) d, (startD N as)[i]? = some (.fz d) → ∃ v, (start N vs)[i]? = some (some v) ∧ Rep K Z v d := by
  intro i d e
  unfold startD at e
  unfold L2.start
  by_cases hi : i < as.length
  · rw [List.getElem?_append_left (by simpa using hi), List.getElem?_map] at e
    cases q : as[i]? with
    | none => rw [q] at e; cases e
    | some d' =>
      rw [q] at e
      cases e
      obtain ⟨v, ev, rv⟩ := r.get q
      exact ⟨v, by rw [List.getElem?_append_left (by simpa [r.length] using hi), List.getElem?_map, ev]; rfl, rv⟩
  · rw [List.getElem?_append_right (by simpa using hi), List.getElem?_replicate] at e
    split at e <;> cases e
theorem start_now {N : List Str} {as : List D} : ∀ (i : Nat) ds, (startD N as)[i]? ≠ some (.ow ds) := by
  intro i ds e
  unfold startD at e
  by_cases hi : i < as.length
  · rw [List.getElem?_append_left (by simpa using hi), List.getElem?_map] at e
    cases q : as[i]? with
    | none => rw [q] at e; cases e
    | some d' => rw [q] at e; cases e
  · rw [List.getElem?_append_right (by simpa using hi), List.getElem?_replicate] at e
    split at e <;> cases e
theorem hold_start {N : List Str} {vs : List V} {as : List D} {Z H : Hp} (zh : Same Z H) (r : Reps K Z vs as) : Hold K H Z Z (startD N as) (start N vs) H :=
  ⟨zh, Same.refl _, Same.refl _, fun _ _ => rfl, by simp [startD, L2.start, r.length], start_get r, fun i ds e => absurd e (start_now i ds), fun i j ds es a _ e => absurd e (start_now i ds)⟩
/-- THE RULE for a def: g what it is worth, b its body as a function -/
theorem fn_v {x qual : Str} {st : Stmt} {f : Addr} {fd : FuncData} {dV : Value} {N ps : List Str} {k : Nat} {g : List D → Option D} {b : Sf} (F : FunV K x qual st f fd dV) (S : FnScope N ps (defScope st)) (len : ∀ as d, g as = some d → as.length = ps.length)
    (hb : ∀ (cdv : Value) (A : Around) (outer : List Env) (s : Shared) (H : Hp) (E : XK), Room k (A.deeper (envOfC qual (defScope st) s.heap.objs.size f cdv)) → BV (cxOf CX0 P w K mg base N qual (defScope st) f cdv A outer s H E).nox (defBody st) b)
    (hg : ∀ as d, g as = some d → ∃ δ', b (startD N as) = some (.rt d, δ') ∨ (d = .none ∧ b (startD N as) = some (.nx, δ'))) : FnOk P w K mg base CX0 (k + 1) f fd ps (spD K g) := by
  obtain ⟨oc, od, kV, doc, pm, an, cdv, ct, osl, rfl, lk, hcd⟩ := F.ex
  refine fn_of lk hcd S (fun vs H Q E h => ?_) fun A outer s H vs Q E hr hsp => ?_
  · obtain ⟨Z, as, d, zh, r, e, _⟩ := h
    rw [r.length]
    exact len as d e
  · refine ⟨_, PSs.nox (hb cdv A outer s H E hr), ?_⟩
    obtain ⟨Z, as, d, zh, r, e, kk⟩ := hsp
    have hh := hold_start (N := N) zh r
    have fin : ∀ {σ' : St} {H' Z' : Hp} {δ' : Dv}, Hold K H Z Z' δ' σ' H' → Same Z Z' → New Z H Z' H' := fun h' z' => ⟨z', h'.h0, h'.zh, h'.zb⟩
    obtain ⟨δ', e2 | ⟨rfl, e2⟩⟩ := hg as d e
    · exact ⟨H, Z, Z, _, _, hh, e2, fun σ' H' Z' h' z' v rv => kk v Z' H' (fin h' z') rv⟩
    · exact ⟨H, Z, Z, _, _, hh, e2, fun σ' H' Z' h' z' => kk _ Z' H' (fin h' z') .non⟩
theorem FunV.binds {x qual : Str} {st : Stmt} {f : Addr} {fd : FuncData} {ps : List Str} (F : FunV K x qual st f fd .none)
    (h : ∀ (kV doc pm : Value) (an : Option Addr) (cdv ct : Value) (us : List Value), us.length = ps.length → bindArgs (PySem.W.fnOf x qual (defArgs st) (defBody st) (defScope st) .none kV doc pm an cdv ct) ⟨us, []⟩ = pure (ps.zip us)) : Binds K fd ps [] := by
  obtain ⟨oc, od, kV, doc, pm, an, cdv, ct, osl, rfl, lk, hcd⟩ := F.ex
  exact .all (h kV doc pm an cdv ct)
/-- with defaults: ds of them fill up -/
theorem FunV.bindsD {x qual : Str} {st : Stmt} {f T : Addr} {fd : FuncData} {ps : List Str} {o : Obj} {items : Array Value} {n : Nat} {ds : List Value} (F : FunV K x qual st f fd (.ref T)) (ho : K.lookup T = some o) (hs : o.data = .seq items n) (nu : Nat) (hn : nu + ds.length = ps.length)
    (h : ∀ (kV doc pm : Value) (an : Option Addr) (cdv ct : Value) (us : List Value), us.length = nu → ∃ kk, bindArgs (PySem.W.fnOf x qual (defArgs st) (defBody st) (defScope st) (.ref T) kV doc pm an cdv ct) ⟨us, []⟩ = seqItems? (.ref T) >>= kk ∧ kk (some items) = pure (ps.zip (us ++ ds))) : Binds K fd ps ds := by
  obtain ⟨oc, od, kV, doc, pm, an, cdv, ct, osl, rfl, lk, hcd⟩ := F.ex
  intro s us KX hl
  obtain ⟨kk, h1, h2⟩ := h kV doc pm an cdv ct us (by rw [List.length_append] at hl; omega)
  exact BindsTo.of_defaults rfl (KX _ _ ho) hs h1 h2
theorem funV_mk {x qual : Str} {st : Stmt} {f : Addr} {dV oc : Value} {od an : Option Addr} {osl : Array (Option Value)} {kV doc pm cdv ct : Value} (l : K.lookup f = some ⟨oc, od, .func (PySem.W.fnOf x qual (defArgs st) (defBody st) (defScope st) dV kV doc pm an cdv ct), osl⟩)
    (c : PySem.W.codeIn K cdv qual = true) (k : PySem.W.keepIn K (.ref f) = true) : FunV K x qual st f (PySem.W.fnOf x qual (defArgs st) (defBody st) (defScope st) dV kV doc pm an cdv ct) dV := ⟨⟨oc, od, kV, doc, pm, an, cdv, ct, osl, rfl, l, c⟩, k⟩
/-- law's: a list of at most 63 ints is handed in, True comes out -/
def spLaw (K : PySem.W.Frag) : Sp := fun vs H Q _ => ∃ (a : Addr) (ns : List Int), vs = [.ref a] ∧ SqL K H a (ns.map V.int) ∧ ns.length ≤ 63 ∧ ∀ H', Q (.bl true) H'
theorem law_v {g : List D → Option D} {k : Nat} {f : Addr} {fd : FuncData} (F : FnOk P w K mg base CX0 k f fd ["script"] (spD K g)) (hg : ∀ ns : List Int, ns.length ≤ 63 → g [.list (ns.map .int)] = some (.bool true)) : FnOk P w K mg base CX0 k f fd ["script"] (spLaw K) :=
  F.imp fun vs H Q E h => by
    obtain ⟨a, ns, rfl, hS, hl, q⟩ := h
    exact ⟨H, [.list (ns.map .int)], .bool true, Same.refl _, .cons (.lst hS (Reps.ints ns)) .nil, hg ns hl, fun v Z' H' _ r => by cases r; exact q H'⟩
end
theorem walkV {k : Nat} {l : PySem.W.OpenLaw} {q : Program} {loose : List Str} {XP : (Str → Option Value) → Heap → Prop} {YP : World → Heap → Prop} {d : DefRec} {K : Params → PySem.W.Frag} (hn : l.most = some 63) (hr : Room k callerA) (hdf : d.params.defaults = [])
    (hY : ∀ (w : World) (h : Heap), YP w h → (K w.params).In h)
    (F : ∀ (w : World) (mg : Str → Option Value) (fa : Addr) (h : Heap), (K w.params).In h → h.Ns mainGlobals mg → mg d.name = some (.ref fa) →
      ∃ fd : FuncData, (∀ (s : Shared) (u : Value), BindsTo s fd ⟨[u], []⟩ [("script", u)]) ∧ ∀ base : Heap, (K w.params).In base → base.Ns mainGlobals mg → FnOk l.prog w (K w.params) mg base CX0 k fa fd ["script"] (spLaw (K w.params))) :
    PySem.W.WalkO q loose XP YP l.row.toRowW d [] (fun f vs => PySem.call f vs) :=
  L2.walk_of (n := 63) (k := k) (x := "script") (CX := fun _ => CX0) (sp := fun w => spLaw (K w.params)) hn (by decide) hdf hr hY F (fun _ _ a ns hl _ hS => ⟨a, ns, rfl, hS, hl, fun _ => rfl⟩) fun _ _ _ _ _ z => z
/-! ### a def by its own body -/
section
variable {P : Program} {w : World} {K : PySem.W.Frag} {mg : Str → Option Value} {base : Heap}
theorem fn_b {x qual : Str} {st : Stmt} {f : Addr} {fd : FuncData} {dV : Value} {N ps : List Str} {k : Nat} {b : Sf} (F : FunV K x qual st f fd dV) (S : FnScope N ps (defScope st))
    (hb : ∀ (cdv : Value) (A : Around) (outer : List Env) (s : Shared) (H : Hp) (E : XK), Room k (A.deeper (envOfC qual (defScope st) s.heap.objs.size f cdv)) → BV (cxOf CX0 P w K mg base N qual (defScope st) f cdv A outer s H E).nox (defBody st) b) :
    FnOk P w K mg base CX0 (k + 1) f fd ps (spD K (runB N ps.length b)) := by
  refine fn_v F S (fun as d h => ?_) hb fun as d h => ?_
  · unfold runB at h
    split at h
    · assumption
    · cases h
  · unfold runB at h
    split at h
    · obtain ⟨⟨fl, δ'⟩, e, h⟩ := bind_some h
      cases fl with
      | nx => cases h; exact ⟨δ', .inr ⟨rfl, e⟩⟩
      | rt d => cases h; exact ⟨δ', .inl e⟩
      | bk => cases h
      | ct => cases h
    · cases h
/-- a def that may be called: g what it is worth, dd the defaults that fill up -/
structure Cal (P : Program) (w : World) (K : PySem.W.Frag) (mg : Str → Option Value) (base : Heap) (x : Str) (k : Nat) (g : List D → Option D) (dd : List D) : Prop where
  ex : ∃ (fa : Addr) (fd : FuncData) (ps : List Str) (ds : List Value) (dv : List V), FnOk P w K mg base CX0 k fa fd ps (spD K g) ∧ mg x = some (.ref fa) ∧ PySem.W.keepIn K (.ref fa) = true ∧ Binds K fd ps ds ∧ Vals dv ds ∧ ∀ Z, Reps K Z dv dd
theorem Cal.mk0 {x : Str} {k : Nat} {g : List D → Option D} {fa : Addr} {fd : FuncData} {ps : List Str} (F : FnOk P w K mg base CX0 k fa fd ps (spD K g)) (hm : mg x = some (.ref fa)) (hk : PySem.W.keepIn K (.ref fa) = true) (hb : Binds K fd ps []) : Cal P w K mg base x k g [] :=
  ⟨⟨fa, fd, ps, [], [], F, hm, hk, hb, .nil, fun _ => .nil⟩⟩
end
section
variable {X : Cx} {e : Expr} {es : List Expr} {p pos : Pos} {fs : Dv → Option (List D)}
theorem ev_def {k : Nat} {x : Str} {g : List D → Option D} {dd : List D} (C : Cal X.prog X.w X.K X.mg X.base x k g dd) (hr : Room k X.A) (hg : Gl X x) (ha : AV X (e :: es) fs) (hdb : (x == ("__debug__" : Str)) = false := by decide) (he : starEach (e :: es) X.env = (false, eval e X.env) :: starEach es X.env := by rfl)
    (hpl : (backTo pos (starEach es X.env)).any (·.1) = false := by rfl) : EV X (.Call (.Name x p) (e :: es) [] pos) (os fs fun as => g (as ++ dd)) := by
  obtain ⟨fa, fd, ps, ds, dv, F, hm, hk, hb, hd, hdd⟩ := C.ex
  exact ev_call F hr hg hm hk hb hd hdd pass0 ha hdb he hpl
variable {tg a : Expr} {f : Dv → Option D}
theorem iv_seq (ha : EV X a f) : IV X tg a (oI f itsD) := by
  intro pins s σ H R I h
  obtain ⟨H₀, Z₀, Z, δ, ds, hh, e, k⟩ := h
  obtain ⟨y, e1, e⟩ := bind_some e
  cases y with
  | list xs => exact iv_list ha pins s σ H R I ⟨H₀, Z₀, Z, δ, ds, hh, by unfold oI; rw [e1]; exact e, k⟩
  | tuple xs => exact iv_tup ha pins s σ H R I ⟨H₀, Z₀, Z, δ, ds, hh, by unfold oI; rw [e1]; exact e, k⟩
  | _ => cases e
end
end VL

set_option Elab.async false
set_option linter.all false
set_option maxRecDepth 100000
set_option maxHeartbeats 4000000
namespace VL
open PySem PySem.Spec PyProof.Rows L2
/-! ### comprehensions -/
/-- the cells that a block takes along -/
def clos (env : Env) : List (Str × NameKind) → List (Str × Addr) → List (Str × Addr)
  | [], cs => cs
  | (n, k) :: r, cs => if k == .free then clos env r ((n, (env.cells.lookup n).getD 0) :: cs) else clos env r cs
theorem forIn_clos {env : Env} : ∀ (l : List (Str × NameKind)) (cs : List (Str × Addr)), (∀ y ∈ l, y.2 = .free → ∃ c, env.cells.lookup y.1 = some c) →
    (forIn l cs fun (x : Str × NameKind) (r : List (Str × Addr)) => (if (x.2 == NameKind.free) = true then do let c ← cellOf env x.1; pure (ForInStep.yield ((x.1, c) :: r)) else pure (ForInStep.yield r) : Sem (ForInStep (List (Str × Addr))))) = pure (clos env l cs)
  | [], cs, _ => rfl
  | (n, k) :: r, cs, h => by
    have ih := fun cs' => forIn_clos r cs' fun y hy => h y (List.mem_cons_of_mem _ hy)
    rw [List.forIn_cons]
    cases hk : k == NameKind.free with
    | true =>
      have hk' : k = .free := by simpa using hk
      obtain ⟨c, ec⟩ := h (n, k) List.mem_cons_self hk'
      have e1 : cellOf env n = pure c := by unfold cellOf; rw [ec]
      simp only [hk, if_true, e1, pure_bind, clos, ec, Option.getD_some]
      exact ih _
    | false =>
      simp only [hk, Bool.false_eq_true, if_false, pure_bind, clos]
      exact ih _
theorem closureFor_eq {scope : Scope} {env : Env} (h : ∀ y ∈ scope.names, y.2 = .free → ∃ c, env.cells.lookup y.1 = some c) : closureFor scope env = pure (clos env scope.names []) := by
  simp only [closureFor]
  have := forIn_clos (env := env) scope.names [] h
  first
    | (rw [this]; rfl)
    | (simp only [this]; rfl)
    | (unfold closureFor; simp_all)
theorem clos_lookup {env : Env} : ∀ (l : List (Str × NameKind)) (cs : List (Str × Addr)) (y : Str) (c : Addr), (∀ z ∈ l, z.2 = .free → ∃ c, env.cells.lookup z.1 = some c) → (clos env l cs).lookup y = some c → cs.lookup y = some c ∨ env.cells.lookup y = some c
  | [], cs, y, c, _, e => .inl e
  | (n, k) :: r, cs, y, c, h, e => by
    unfold clos at e
    have hr := fun z hz => h z (List.mem_cons_of_mem _ hz)
    split at e
    · rename_i hk
      rcases clos_lookup r _ y c hr e with q | q
      · rw [List.lookup_cons] at q
        cases hy : y == n with
        | true =>
          have hy' : y = n := by simpa using hy
          subst hy'
          rw [hy] at q
          obtain ⟨c', ec⟩ := h (y, k) List.mem_cons_self (by simpa using hk)
          simp only [ec, Option.getD_some] at q
          cases q
          exact .inr ec
        | false => rw [hy] at q; exact .inl q
      · exact .inr q
    · exact clos_lookup r cs y c hr e
theorem clos_has {env : Env} : ∀ (l : List (Str × NameKind)) (cs : List (Str × Addr)) (y : Str), ((y, NameKind.free) ∈ l ∨ (cs.lookup y).isSome = true) → ((clos env l cs).lookup y).isSome = true
  | [], cs, y, h => by
    rcases h with h | h
    · cases h
    · exact h
  | (n, k) :: r, cs, y, h => by
    unfold clos
    split
    · rename_i hk
      refine clos_has r _ y ?_
      rcases h with h | h
      · rcases List.mem_cons.mp h with e | e
        · cases e; exact .inr (by simp [List.lookup_cons])
        · exact .inl e
      · refine .inr ?_
        rw [List.lookup_cons]
        cases hy : y == n with
        | true => rfl
        | false => exact h
    · rename_i hk
      refine clos_has r cs y ?_
      rcases h with h | h
      · rcases List.mem_cons.mp h with e | e
        · cases e; exact absurd rfl hk
        · exact .inl e
      · exact .inr h
theorem relabel_lookup {env : Env} {y : Str} : ∀ (l : List (Str × NameKind)), (∀ z ∈ l, z.2 ≠ .cell) →
    (((l.map fun (n, k) => if (k == NameKind.free && env.scope.kind == .function && env.kindOf n == some .cell) then (n, NameKind.cell) else (n, k)).lookup y = some .cell ∨ (l.map fun (n, k) => if (k == NameKind.free && env.scope.kind == .function && env.kindOf n == some .cell) then (n, NameKind.cell) else (n, k)).lookup y = some .free) ↔ l.lookup y = some .free)
  | [], _ => by simp
  | (n, k) :: r, h => by
    have ih := relabel_lookup (env := env) (y := y) r fun z hz => h z (List.mem_cons_of_mem _ hz)
    have hk : k ≠ .cell := h (n, k) List.mem_cons_self
    rw [List.map_cons]
    cases hy : y == n with
    | true =>
      by_cases hc : (k == NameKind.free && env.scope.kind == .function && env.kindOf n == some .cell) = true
      · have hf : k = .free := by
          simp only [Bool.and_eq_true] at hc
          simpa using hc.1.1
        simp only [if_pos hc, List.lookup_cons, hy]
        simp [hf]
      · simp only [if_neg hc, List.lookup_cons, hy]
        simp [hk]
    | false =>
      by_cases hc : (k == NameKind.free && env.scope.kind == .function && env.kindOf n == some .cell) = true
      · simp only [if_pos hc, List.lookup_cons, hy]; exact ih
      · simp only [if_neg hc, List.lookup_cons, hy]; exact ih
/-- the context of a comprehension's block -/
def blk (X : Cx) (scope : Scope) (N : List Str) (C : Addr) (s₀ : Shared) (H₀ : Hp) (ex : List Addr) : Cx :=
  { X with N := N, s₀ := s₀, H₀ := H₀, env := compEnvC scope (clos X.env scope.names []) C X.env, outer := X.stack, stack := X.stack, ex := ex, fn := fun _ => false, pn := [], xe := fun _ _ => False }
/-- what must be seen of the block's text: on the names of the code around, ON its slots -/
structure BlkOk (on : List (Str × NameKind)) (ON : List Str) (scope : Scope) (vars : List Str) (caps : List (Nat × Str)) : Prop where
  kind : scope.kind = .function
  cell : ∀ y ∈ scope.names, y.2 ≠ .cell
  names : ∀ y ∈ scope.names, y.2 = .local → scope.names.lookup y.1 = some .local
  free : ∀ y ∈ scope.names, y.2 = .free → on.lookup y.1 = some .cell ∨ on.lookup y.1 = some .free
  cap : ∀ p ∈ caps, ON[p.1]? = some p.2 ∧ scope.names.lookup p.2 = some .free
section
variable {X : Cx} {pins : List (Addr × Obj)} {σ : St} {H H' : Hp} {s s' : Shared} {scope : Scope} {vars : List Str} {caps : List (Nat × Str)} {fp : List Addr} {C : Addr}
def capV (σ : St) (caps : List (Nat × Str)) : St := caps.map fun p => (σ[p.1]?).getD none
theorem BlkOk.cells (B : BlkOk X.env.scope.names X.N scope vars caps) (I : Inv X pins σ H s) : ∀ y ∈ scope.names, y.2 = .free → ∃ c, X.env.cells.lookup y.1 = some c := fun y hy e => I.ok.has y.1 (B.free y hy e)
theorem blk_ok (B : BlkOk X.env.scope.names X.N scope vars caps) (I : Inv X pins σ H s) (hf : ∀ b ∈ fp, FpOk X pins H b) (hlt : ∀ b ∈ fp, b < s.heap.objs.size) (hC : s.heap.objs.size ≤ C) : (blk X scope (vars ++ caps.map (·.2)) C s H fp).Ok where
  mod := I.ok.mod
  kind := B.kind
  glob := I.ok.glob
  blt := I.ok.blt
  above := hC
  inj := fun x y c e1 e2 => by
    rcases clos_lookup _ _ _ _ (B.cells I) e1 with q1 | q1
    · cases q1
    · rcases clos_lookup _ _ _ _ (B.cells I) e2 with q2 | q2
      · cases q2
      · exact I.ok.inj x y c q1 q2
  has := fun x e => by
    have : scope.names.lookup x = some .free := (relabel_lookup scope.names B.cell).mp e
    have := clos_has (env := X.env) scope.names [] x (.inl (PySem.mem_of_lookup this))
    exact Option.isSome_iff_exists.mp this
  cab := fun x c e => nomatch e
  hd := I.ok.hd
  frames := I.ok.frames
  stk := .inl rfl
  exf := fun b hb => ⟨Nat.ne_of_lt (Nat.lt_of_lt_of_le (hlt b hb) hC), fun x c e => by
    rcases clos_lookup _ _ _ _ (B.cells I) e with q | q
    · cases q
    · exact (hf b hb).2.2.2.2.1 x c q⟩
  bs := I.bs
  bsz := Nat.le_trans I.ok.bsz I.sz
  noex := fun b o e hb => by
    rcases (hf b hb).2.2.2.1 with z | z
    · exact I.ok.noex b o e z
    · exact absurd (Nat.lt_of_lt_of_le (Heap.lt_size e) (Nat.le_trans I.ok.bsz z)) (Nat.lt_irrefl _)
  exfs := fun b hb z => by
    rcases List.mem_cons.mp (I.stkSub b z) with q | q
    · exact (hf b hb).2.1 q
    · exact (hf b hb).2.2.1 q
  funs := I.stack
  frf := I.stkFree
/-- the block is entered -/
theorem blk_inv (B : BlkOk X.env.scope.names X.N scope vars caps) (I : Inv X pins σ H s) (hf : ∀ b ∈ fp, FpOk X pins H b) (hlt : ∀ b ∈ fp, b < s.heap.objs.size) (hC : s.heap.objs.size ≤ C) {h₁ : Heap} {m : Str → Option Value} {tk : Nat} (hns : h₁.Ns C m) (old : ∀ b o, s.heap.get? b = some o → h₁.get? b = some o) :
    Inv (blk X scope (vars ++ caps.map (·.2)) C s H fp) [] (vars.map (fun _ => none) ++ capV σ caps) H { s with heap := h₁, toks := tk } := by
  refine ⟨blk_ok B I hf hlt hC, rfl, I.bare, Un.kept old, ⟨m, hns, fun i x v e1 e2 e3 => ?_⟩, fun x c e => ?_, I.hok.fresh hC, fun x c e => ?_, fun p hp => absurd (show p ∈ ([] : List (Addr × Obj)) from hp) (by simp), I.hok.kept old, ?_⟩
  · have e1 : (vars ++ caps.map (·.2))[i]? = some x := e1
    by_cases hi : i < vars.length
    · rw [List.getElem?_append_left (by simpa using hi), List.getElem?_map] at e2
      cases q : vars[i]? <;> rw [q] at e2 <;> cases e2
    · rw [List.getElem?_append_right (by simpa using hi)] at e1 e2
      simp only [List.length_map] at e2
      unfold capV at e2
      rw [List.getElem?_map] at e1 e2
      cases q : caps[i - vars.length]? with
      | none => rw [q] at e1; cases e1
      | some p =>
        rw [q] at e1 e2
        cases e1
        have hp := List.mem_of_getElem? q
        obtain ⟨g1, g2⟩ := B.cap p hp
        have gf : X.env.scope.names.lookup p.2 = some .cell ∨ X.env.scope.names.lookup p.2 = some .free := B.free (p.2, .free) (PySem.mem_of_lookup g2) rfl
        have ev : σ[p.1]? = some (some v) := by
          have e2 : (σ[p.1]?).getD none = some v := Option.some.inj e2
          cases z : σ[p.1]? with
          | none => rw [z] at e2; cases e2
          | some w => rw [z] at e2; rw [show w = some v from e2]
        obtain ⟨m', _, hl⟩ := I.loc
        obtain ⟨u, r, l⟩ := hl p.1 p.2 v g1 ev (gf.elim (fun z => .inr (.inl z)) fun z => .inr (.inr z))
        refine ⟨u, r, .inr ⟨?_, ?_⟩⟩
        · exact (relabel_lookup scope.names B.cell).mpr g2
        · rcases l with ⟨z, _⟩ | ⟨_, c, ec, hc⟩
          · have z : X.env.scope.names.lookup p.2 = some .local := z
            rcases gf with w | w <;> rw [z] at w <;> cases w
          · obtain ⟨c', q'⟩ := Option.isSome_iff_exists.mp (clos_has (env := X.env) scope.names [] p.2 (.inl (PySem.mem_of_lookup g2)))
            rcases clos_lookup _ _ _ _ (B.cells I) q' with w | w
            · cases w
            · rw [ec] at w
              cases w
              obtain ⟨o, ho, hd⟩ := hc
              exact ⟨c, q', o, old c o ho, hd⟩
  · rcases clos_lookup _ _ _ _ (B.cells I) e with q | q
    · cases q
    · obtain ⟨v, o, ho, hd⟩ := I.cell x c q
      exact ⟨v, o, old c o ho, hd⟩
  · rcases clos_lookup _ _ _ _ (B.cells I) e with q | q
    · cases q
    · exact I.freeC x c q
  · simp [blk, capV]
/-- the block is left: its list is told -/
theorem blk_out (I : Inv X pins σ H s) (hf : ∀ b ∈ fp, FpOk X pins H b) {D : Addr} {s' : Shared} {σ' : St} {N : List Str} {ys : List V} {its : List Value} (hC : s.heap.objs.size ≤ C) (hD : s.heap.objs.size ≤ D) (hDC : D ≠ C)
    (J : Inv (blk X scope N C s H fp) [] σ' H' s') (hD' : H' D = none) (hp : s'.heap.PlainList D its.toArray) (hv : Vals ys its) (hz : ys.length ≤ sizeLine) {h' : Heap} (hs : Heap.SameBut C s'.heap h') :
    Inv X pins σ (upd H' D (.lst ys)) { s' with heap := h' } := by
  have U : Un (frs X.stack) fp H H' s.heap s'.heap := J.base
  have neC : ∀ b o, s.heap.get? b = some o → b ≠ C := fun b o e => Nat.ne_of_lt (Nat.lt_of_lt_of_le (Heap.lt_size e) hC)
  have neD : ∀ b o, s.heap.get? b = some o → b ≠ D := fun b o e => Nat.ne_of_lt (Nat.lt_of_lt_of_le (Heap.lt_size e) hD)
  have mv : ∀ b o, b ≠ C → s'.heap.get? b = some o → h'.get? b = some o := fun b o hb e => hs.extBut b o hb e
  have tD : ∀ b o, H' b = some o → (upd H' D (.lst ys)) b = some o := fun b o e => by rw [upd_ne (ne_of_none e hD')]; exact e
  refine I.call' (s' := { s' with heap := h' }) (ch := fp) J.os ⟨fun b o e n h1 h2 => mv b o (neC b o e) (U.keep b o e n h1 h2), fun b o e n h1 h2 => ?_, fun b o e n h2 => ?_, fun b o e h2 => ?_, fun b xs e => tD _ _ (U.tups b xs e), fun b o xs e => tD _ _ (U.frzs b o xs e), fun b ps e => ?_⟩ (fun b o e => ?_) J.bare
    (fun b hb => ⟨(hf b hb).2.2.2.1, (hf b hb).2.1, (hf b hb).2.2.2.2.1, (hf b hb).2.2.2.2.2⟩)
  · obtain ⟨sl, q⟩ := U.slot b o e n h1 h2
    exact ⟨sl, mv b _ (neC b o e) q⟩
  · rw [upd_ne (neD b o e)]; exact U.free b o e n h2
  · obtain ⟨o', q⟩ := U.there b o e h2
    exact ⟨o', mv b _ (neC b o e) q⟩
  · obtain ⟨more, q⟩ := U.tbls b ps e
    exact ⟨more, tD _ _ q⟩
  · by_cases hb : b = D
    · subst hb
      rw [upd_same] at e
      cases e
      obtain ⟨n, q⟩ := hp
      exact ⟨hz, its, n, hv, mv _ _ hDC q⟩
    · rw [upd_ne hb] at e
      refine (J.hok b o e).stay (fun c v hc q => mv c v ?_ q) (fun c q => tD _ _ q) fun c xs q => tD _ _ q
      intro z
      have fc : H' C = none := J.free
      rcases hc with w | w
      · rw [← w, z, fc] at e; cases e
      · rw [z, fc] at w; cases w
theorem compTurn_go (elt target iter : Expr) (scope : Scope) (pos : Pos) (it acc : Value) (env : Env) :
    compTurn (.ListComp elt [⟨target, iter, [], 0⟩] scope pos) 0 it acc env = (standAt iter.pos >>= fun _ => pyNext it >>= fun r => match r with
      | none => pure (.done .next)
      | some v => letOwnedTupleGo target it v >>= fun _ => assign target env v >>= fun _ =>
        (eval elt env >>= fun x => call (.builtin "list.append") [acc, x] >>= fun _ => pure ()) >>= fun _ =>
          again (.compLoop (.ListComp elt [⟨target, iter, [], 0⟩] scope pos) 0 it acc env)) := by rfl
/-- what is wanted of a comprehension, turn by turn: W the invariant by the turn, a measure, the items so far -/
def KeepS (σ σ' : St) : Prop := σ.length = σ'.length ∧ ∀ (i : Nat) v, σ[i]? = some (some v) → σ'[i]? = some (some v)
def tComp (wi : TI) (g : TG) (te : TE) (vars : List Str) (caps : List (Nat × Str)) : TE := fun σ H Q => wi σ H fun J H1 => ∃ W : Nat → Nat → List V → Hp → Prop, (∃ m, W 0 m [] H1) ∧ ∀ i m ys H, W i m ys H →
  (J.stop i H ∧ ys.length ≤ sizeLine ∧ ∀ p, H p = none → Q (.ref p) (upd H p (.lst ys))) ∨
  (J.go i H ∧ ys.length < sizeLine ∧ ∀ x H', J.yld i H x H' → g x (vars.map (fun _ => none) ++ capV σ caps) H' fun σ2 H2 => KeepS (vars.map (fun _ => none) ++ capV σ caps) σ2 ∧ te σ2 H2 fun y H3 => ∃ m', m' < m ∧ W (i + 1) m' (ys ++ [y]) H3)
theorem Inv.weaken {X : Cx} {pins : List (Addr × Obj)} {σ σ' : St} {H : Hp} {s : Shared} (I : Inv X pins σ H s) (hl : σ'.length = σ.length) (w : ∀ (i : Nat) v, σ'[i]? = some (some v) → σ[i]? = some (some v)) : Inv X pins σ' H s := I.weak hl w
theorem codeAny_comp_go {prog : Program} {w : World} {A : Around} {R : Result → Shared → Prop} {s : Shared} {elt target iter : Expr} {scope : Scope} {pos : Pos} {it acc : Value} {env : Env} (I : Nat → Shared → Prop)
    (turn : ∀ n s, I n s → wpAny (model prog w) A (pyNext it) (fun r s₁ => match r with
      | none => R (.ok .next) s₁
      | some v => wpAny (model prog w) A (letOwnedTupleGo target it v) (fun _ s₁ => wpAny (model prog w) A (assign target env v) (fun _ s₂ => wpAny (model prog w) A (eval elt env) (fun x s₃ =>
          wpAny (model prog w) A (call (.builtin "list.append") [acc, x]) (fun _ s₄ => ∃ m, m < n ∧ I m s₄) (fun _ _ => False) s₃) (fun _ _ => False) s₂) (fun _ _ => False) s₁) (fun _ _ => False) s₁) (fun _ _ => False) s)
    (n : Nat) (h : I n s) : codeAny (model prog w) A (.compLoop (.ListComp elt [⟨target, iter, [], 0⟩] scope pos) 0 it acc env) R s := by
  refine codeAny_loop rfl I (fun n s hI => ?_) n h
  show wpAny _ _ ((compTurn (.ListComp elt [⟨target, iter, [], 0⟩] scope pos) 0 it acc env).onRaise (fun x => do noteFrame x env; theTreesLotGoes x)) _ _ s
  refine wpAny_noted ?_
  rw [compTurn_go]
  refine wpAny_bind (wpAny_standAt (wpAny_bind (wpAny_mono (turn n s hI) (fun r s₁ h₁ => ?_) fun _ _ h' => h'.elim)))
  cases r with
  | none => exact wpAny_pure h₁
  | some v =>
    refine wpAny_bind (wpAny_mono h₁ (fun _ s₁ h₁ => ?_) fun _ _ h' => h'.elim)
    exact wpAny_bind (wpAny_mono h₁ (fun _ s₂ h₂ => wpAny_bind (wpAny_bind (wpAny_mono h₂ (fun x s₃ h₃ => wpAny_bind (wpAny_mono h₃
      (fun _ s₄ h₄ => wpAny_pure (wpAny_pure ⟨rfl, h₄⟩)) fun _ _ h' => h'.elim)) fun _ _ h' => h'.elim))) fun _ _ h' => h'.elim)
end
section
variable {X : Cx} {scope : Scope} {vars : List Str} {caps : List (Nat × Str)} {elt tg iter : Expr} {pos : Pos} {wi : TI} {g : TG} {te : TE}
/-- the walk of the block -/
theorem comp_block (B : BlkOk X.env.scope.names X.N scope vars caps) (hc : X.calm = true)
    (hg : ∀ C s₀ H₀ ex, PG (blk X scope (vars ++ caps.map (·.2)) C s₀ H₀ ex) tg g) (he : ∀ C s₀ H₀ ex, PE (blk X scope (vars ++ caps.map (·.2)) C s₀ H₀ ex) elt te)
    {pins : List (Addr × Obj)} {σ : St} {H2 : Hp} {s2 : Shared} {Q : VK} {it : Addr} {fp : List Addr} {tn : Nat → Heap → Prop} {J : It} (I2 : Inv X pins σ H2 s2) (T : Turn X.prog X.w X.K tg J fp it tn) (st2 : tn 0 s2.heap) (f2 : ∀ b ∈ fp, FpOk X pins H2 b)
    {W : Nat → Nat → List V → Hp → Prop} {m0 : Nat} (w0 : W 0 m0 [] H2) (turn : ∀ i m ys H, W i m ys H →
      (J.stop i H ∧ ys.length ≤ sizeLine ∧ ∀ p, H p = none → Q (.ref p) (upd H p (.lst ys))) ∨
      (J.go i H ∧ ys.length < sizeLine ∧ ∀ x H', J.yld i H x H' → g x (vars.map (fun _ => none) ++ capV σ caps) H' fun σ2 H2 => KeepS (vars.map (fun _ => none) ++ capV σ caps) σ2 ∧ te σ2 H2 fun y H3 => ∃ m', m' < m ∧ W (i + 1) m' (ys ++ [y]) H3))
    {RR : Value → Addr → Result → Shared → Prop} {E : Value → Shared → Prop}
    (hRR : ∀ D C s' m, s'.heap.Ns C m → D ≠ C → s2.heap.objs.size ≤ D → s2.heap.objs.size ≤ C → ∀ H', H' C = none → (∀ h', Heap.SameBut C s'.heap h' → Inv X pins σ H' { s' with heap := h' }) → Q (.ref D) H' → RR (.ref D) C (.ok .next) s') :
    wpAny (model X.prog X.w) X.A (newList []) (fun acc s₃ => wpAny (model X.prog X.w) X.A (newFunctionEnv scope X.env.globals (clos X.env scope.names []) [] X.env.qual none .none (some X.env)) (fun cenv s₄ =>
      codeAny (model X.prog X.w) X.A (.compStart (.ListComp elt [⟨tg, iter, [], 0⟩] scope pos) 0 (.ref it) acc { cenv with scope := relabel scope X.env }) (RR acc cenv.locals) s₄) E s₃) E s2 := by
  refine wpAny_newObj_type (wpAny_newFunctionEnv B.cell (by intro y hy; simp at hy) (fun h₁ hns₁ hsb₁ => ?_) B.kind)
  dsimp only at hns₁ hsb₁ ⊢
  generalize hP : s2.heap.push { cls := .type "list", dict := none, data := .seq ([] : List Value).toArray } = HP at hns₁ hsb₁ ⊢
  have hCs : HP.objs.size = s2.heap.objs.size + 1 := by rw [← hP, Heap.size_push]
  have hDC : s2.heap.objs.size ≠ HP.objs.size := by rw [hCs]; exact Nat.ne_of_lt (Nat.lt_succ_self _)
  have hCle : s2.heap.objs.size ≤ HP.objs.size := by rw [hCs]; exact Nat.le_succ _
  have old : ∀ b o, s2.heap.get? b = some o → h₁.get? b = some o := fun b o e => hsb₁.extBut b o (Nat.ne_of_lt (Nat.lt_of_lt_of_le (Heap.lt_size e) hCle)) (Heap.get?_push_of_some _ (hP ▸ Heap.get?_push_of_some _ e))
  have hacc : h₁.PlainList s2.heap.objs.size #[] := ⟨_, hsb₁.extBut _ _ hDC (Heap.get?_push_of_some _ (hP ▸ Heap.get?_push_size _ rfl))⟩
  have flt : ∀ b ∈ fp, b < s2.heap.objs.size := fun b hb => by
    obtain ⟨o, e, _⟩ := T.obj _ _ st2 b hb
    exact Heap.lt_size e
  have st1 : tn 0 h₁ := T.keep _ _ _ st2 fun b _ o e => old b o e
  -- the loop
  have loop : ∀ s3 : Shared, s3 = { s2 with heap := h₁, toks := s2.toks + ([] : List (Str × Value)).length } →
      codeAny (model X.prog X.w) X.A (.compLoop (.ListComp elt [⟨tg, iter, [], 0⟩] scope pos) 0 (.ref it) (.ref s2.heap.objs.size) (compEnvC scope (clos X.env scope.names []) HP.objs.size X.env))
        (RR (.ref s2.heap.objs.size) HP.objs.size) s3 := by
    rintro s3 rfl
    have X' := blk X scope (vars ++ caps.map (·.2)) HP.objs.size s2 H2 fp
    have fpo : ∀ {H' : Hp}, (∀ b ∈ fp, H' b = none) → ∀ b ∈ fp, FpOk (blk X scope (vars ++ caps.map (·.2)) HP.objs.size s2 H2 fp) [] H' b := fun hn b hb => by
      have ok := blk_ok B I2 f2 flt hCle
      exact ⟨hn b hb, (ok.exf b hb).1, ok.exfs b hb, .inl hb, (ok.exf b hb).2, fun p hp => absurd (show p ∈ ([] : List (Addr × Obj)) from hp) (by simp)⟩
    refine codeAny_comp_go (fun n s => ∃ i ys H its, Inv (blk X scope (vars ++ caps.map (·.2)) HP.objs.size s2 H2 fp) [] (vars.map (fun _ => none) ++ capV σ caps) H s ∧ tn i s.heap ∧ (∀ b ∈ fp, H b = none) ∧ s.heap.PlainList s2.heap.objs.size (List.toArray its) ∧ H s2.heap.objs.size = none ∧ Vals ys its ∧ W i n ys H) ?_ m0
      ⟨0, [], H2, [], blk_inv B I2 f2 flt hCle hns₁ old, st1, fun b hb => (f2 b hb).1, hacc, I2.hok.fresh (Nat.le_refl _), .nil, w0⟩
    rintro n s4 ⟨i, ys, H4, its, I4, st4, fr4, pl4, nD4, v4, w4⟩
    obtain ⟨nn, eD⟩ := id pl4
    have DnL : s2.heap.objs.size ≠ (blk X scope (vars ++ caps.map (·.2)) HP.objs.size s2 H2 fp).env.locals := hDC
    have Dfs : s2.heap.objs.size ∉ (blk X scope (vars ++ caps.map (·.2)) HP.objs.size s2 H2 fp).fs := fun z => by
      rcases List.mem_cons.mp (I2.stkSub _ z) with q | q
      · have := I2.lt; rw [← q] at this; exact Nat.lt_irrefl _ this
      · exact I2.nofs (Nat.le_refl _) q
    have Dfp : ∀ b ∈ fp, s2.heap.objs.size ≠ b := fun b hb z => by have := flt b hb; rw [← z] at this; exact Nat.lt_irrefl _ this
    have DnC : ∀ x c, (blk X scope (vars ++ caps.map (·.2)) HP.objs.size s2 H2 fp).env.cells.lookup x = some c → c ≠ s2.heap.objs.size := fun x c e z => by
      rcases clos_lookup _ _ _ _ (B.cells I2) e with q | q
      · cases q
      · obtain ⟨v, o, ho, _⟩ := I2.cell x c q
        have := Heap.lt_size ho
        rw [z] at this
        exact Nat.lt_irrefl _ this
    have pinD : ∀ {σ' : St} {H' : Hp} {s' : Shared}, Inv (blk X scope (vars ++ caps.map (·.2)) HP.objs.size s2 H2 fp) [(s2.heap.objs.size, { cls := .type "list", data := .seq its.toArray nn })] σ' H' s' → s'.heap.PlainList s2.heap.objs.size its.toArray ∧ H' s2.heap.objs.size = none := fun {σ' H' s'} I' => by
      obtain ⟨q1, q2, _⟩ := I'.pin (s2.heap.objs.size, { cls := .type "list", data := .seq its.toArray nn }) (by simp [blk])
      exact ⟨⟨nn, q1⟩, q2⟩
    have I4p : Inv (blk X scope (vars ++ caps.map (·.2)) HP.objs.size s2 H2 fp) [(s2.heap.objs.size, { cls := .type "list", data := .seq its.toArray nn })] (vars.map (fun _ => none) ++ capV σ caps) H4 s4 :=
      I4.pins_of fun p hp => by
        have e : p = (s2.heap.objs.size, { cls := .type "list", data := .seq its.toArray nn }) := by simpa [blk] using hp
        subst e
        exact ⟨eD, nD4, DnL, Dfs, fun v z => by cases z⟩
    have fpo' : ∀ {H' : Hp}, (∀ b ∈ fp, H' b = none) → ∀ b ∈ fp, FpOk (blk X scope (vars ++ caps.map (·.2)) HP.objs.size s2 H2 fp) [(s2.heap.objs.size, { cls := .type "list", data := .seq its.toArray nn })] H' b := fun hn b hb => by
      obtain ⟨q1, q2, q3, q4, q5, _⟩ := fpo hn b hb
      exact ⟨q1, q2, q3, q4, q5, fun p hp => by
        have e : p = (s2.heap.objs.size, { cls := .type "list", data := .seq its.toArray nn }) := by simpa [blk] using hp
        subst e
        exact Dfp b hb⟩
    have unp : ∀ {pl : List (Addr × Obj)} {σ' : St} {H' : Hp} {s' : Shared}, Inv (blk X scope (vars ++ caps.map (·.2)) HP.objs.size s2 H2 fp) pl σ' H' s' → Inv (blk X scope (vars ++ caps.map (·.2)) HP.objs.size s2 H2 fp) [] σ' H' s' := fun {pl σ' H' s'} I' =>
      I'.pins_of fun p hp => absurd (show p ∈ ([] : List (Addr × Obj)) from hp) (by simp)
    rcases turn i n ys H4 w4 with ⟨stop, hz, qn⟩ | ⟨go, hz, step⟩
    · refine thn (T.done (blk X scope (vars ++ caps.map (·.2)) HP.objs.size s2 H2 fp) rfl rfl rfl hc i _ s4 _ H4 _ I4p (fpo' fr4) st4 stop) fun r s5 ⟨hr, I5⟩ => ?_
      subst hr
      obtain ⟨p5, n5⟩ := pinD I5
      obtain ⟨m5, ns5, _⟩ := I5.loc
      refine hRR _ _ s5 m5 ns5 hDC (Nat.le_refl _) hCle _ ?_ (fun h' hs' => blk_out I2 f2 hCle (Nat.le_refl _) hDC (unp I5) n5 p5 v4 hz hs') (qn _ n5)
      rw [upd_ne hDC.symm]
      exact I5.free
    · refine thn (T.item (blk X scope (vars ++ caps.map (·.2)) HP.objs.size s2 H2 fp) rfl rfl rfl hc i _ s4 _ H4 _ I4p (fpo' fr4) st4 go) fun r s5 ⟨u, hr, h5⟩ => ?_
      subst hr
      refine thn h5 fun _ s6 ⟨x, H6, I6, rx, yx, st6, fr6⟩ => ?_
      have I6p := I6.pinned (fpo' fr6) (T.obj _ _ st6)
      refine thn (hg _ _ _ _ _ s6 _ H6 x u _ I6p rx (step x H6 yx)) fun _ s7 ⟨σ7, H7, I7, kp, q7⟩ => ?_
      refine thn (he _ _ _ _ _ s7 σ7 H7 _ I7 q7) fun v s8 ⟨y, H8, I8, ry, m', hm, w8⟩ => ?_
      obtain ⟨p8, n8⟩ := pinD I8.unpinned
      have st8 : tn (i + 1) s8.heap := T.keep _ _ _ st6 fun b hb o e => (I8.pin (b, o) (List.mem_append_right _ (List.mem_append_right _ (mem_pinsAt hb e)))).1
      have fr8 : ∀ b ∈ fp, H8 b = none := fun b hb => by
        obtain ⟨o, e, d⟩ := T.obj _ _ st6 b hb
        exact (I8.pin (b, o) (List.mem_append_right _ (List.mem_append_right _ (mem_pinsAt hb e)))).2.1
      have hl := v4.length
      refine wpAny_list_append_plain p8 (fun h9 p9 sb9 => ⟨m', hm, i + 1, ys ++ [y], H8, its ++ [v], ?_, ?_, fr8, by simpa using p9, n8, v4.append (.cons ry .nil), w8⟩) (by simp; omega)
      · have I9 : Inv (blk X scope (vars ++ caps.map (·.2)) HP.objs.size s2 H2 fp) [] σ7 H8 { s8 with heap := h9, toks := s8.toks } :=
          (unp I8).turned (it := s2.heap.objs.size) (fun b o hb e => sb9.extBut b o hb e) n8 DnL (.inr (Nat.le_refl _)) DnC fun p hp => absurd (show p ∈ ([] : List (Addr × Obj)) from hp) (by simp)
        exact I9.weak kp.1 kp.2
      · exact T.keep _ _ _ st8 fun b hb o e => sb9.extBut b o (Dfp b hb).symm e
  exact codeAny_compStart_list (loop _ rfl) (T.self _ 0 _ _ _ st1 (loop _ rfl))
theorem pe_comp (B : BlkOk X.env.scope.names X.N scope vars caps) (hc : X.calm = true) (hi : PI X tg iter wi)
    (hg : ∀ C s₀ H₀ ex, PG (blk X scope (vars ++ caps.map (·.2)) C s₀ H₀ ex) tg g) (he : ∀ C s₀ H₀ ex, PE (blk X scope (vars ++ caps.map (·.2)) C s₀ H₀ ex) elt te) (hs : ∀ x, foldedSetIterable iter X.env x = pure x := by intro _; rfl) :
    PE X (.ListComp elt [⟨tg, iter, [], 0⟩] scope pos) (tComp wi g te vars caps) := by
  intro pins s σ H Q I h
  rw [eval_ListComp]
  refine wpAny_comprehension_free (use := none) rfl hs (closureFor_eq (B.cells I)) B.kind B.names ?_
  show wpAny _ _ (eval iter X.env) _ _ s
  refine thn (hi pins s σ H _ I h) fun v s1 h1 => thn h1 fun itv s2 h2 => ?_
  obtain ⟨it, fp, tn, J, H2, e, I2, T, st2, f2, W, ⟨m0, w0⟩, turn⟩ := h2
  subst e
  exact comp_block B hc hg he I2 T st2 f2 w0 turn (RR := fun acc C => compPost (model X.prog X.w) X.A X.xe none (EP X pins σ Q) acc C) fun D C s' m ns _ _ _ H' _ k q => ⟨m, ns, fun h' hs' => ⟨.ref D, H', k h' hs', rfl, q⟩⟩
/-- y = [..]: the store is exchanged with the block's own names -/
theorem ps_comp {i : Nat} {y : Str} {py spos : Pos} (B : BlkOk X.env.scope.names X.N scope vars caps) (hc : X.calm = true) (hi : PI X tg iter wi)
    (hg : ∀ C s₀ H₀ ex, PG (blk X scope (vars ++ caps.map (·.2)) C s₀ H₀ ex) tg g) (he : ∀ C s₀ H₀ ex, PE (blk X scope (vars ++ caps.map (·.2)) C s₀ H₀ ex) elt te)
    (hN : X.N.Nodup) (hy : X.N[i]? = some y) (hx : Loc X.env.scope y) (hsw : swapsWith (.ListComp elt [⟨tg, iter, [], 0⟩] scope pos) (some (.Name y py)) spos.line X.env = pure true)
    (hf : X.fn y = true ∨ X.env.scope.names.lookup y = some .local) (hs : ∀ x, foldedSetIterable iter X.env x = pure x := by intro _; rfl) :
    PS X (.Assign [.Name y py] (.ListComp elt [⟨tg, iter, [], 0⟩] scope pos) spos) (fun D σ H => tComp wi g te vars caps σ H fun v H1 => D.nx (σ.set i (some v)) H1) := by
  intro pins s σ H DE I h
  rw [exec_Assign_Name_used _ _ _ _ hsw]
  refine wpAny_bind (wpAny_standAt (wpAny_bind ?_))
  show wpAny _ X.A (do let _ ← comprehension (.ListComp elt [⟨tg, iter, [], 0⟩] scope pos) scope X.env _ (newList []) false (eval iter X.env) (some (assign (.Name y py) X.env))) _ _ s
  refine wpAny_bind (wpAny_mono (wpAny_comprehension_free (use := some (assign (.Name y py) X.env)) (Q := fun _ s' => SP X pins DE .next s') rfl hs (closureFor_eq (B.cells I)) B.kind B.names
    (thn (hi pins s σ H _ I h) fun v s1 h1 => thn h1 fun itv s2 h2 => ?_)) (fun _ s' hq => wpAny_pure (wpAny_pure hq)) fun _ _ e => e)
  obtain ⟨it, fp, tn, J, H2, e, I2, T, st2, f2, W, ⟨m0, w0⟩, turn⟩ := h2
  subst e
  refine comp_block (Q := fun v H1 => DE.nx (σ.set i (some v)) H1) B hc hg he I2 T st2 f2 w0 turn (RR := fun acc C => compPost (model X.prog X.w) X.A X.xe (some (assign (.Name y py) X.env)) (fun _ s' => SP X pins DE .next s') acc C) ?_
  intro D C s' m ns hDC hD hC H' hHC k q
  obtain ⟨oC, es, ep, eC, dC, rC⟩ := ns
  have I' : Inv X pins σ H' s' := k s'.heap (Heap.SameBut.refl ..)
  have nL : C ≠ X.env.locals := fun z => by have := I2.lt; rw [← z] at this; exact absurd (Nat.lt_of_lt_of_le this hC) (Nat.lt_irrefl _)
  have nF : C ∉ X.fs := I2.nofs hC
  have nCell : ∀ x c, X.env.cells.lookup x = some c → c ≠ C := fun x c e z => by
    obtain ⟨v, o, ho, _⟩ := I2.cell x c e
    have := Heap.lt_size ho
    rw [z] at this
    exact absurd (Nat.lt_of_lt_of_le this hC) (Nat.lt_irrefl _)
  have nPin : ∀ p ∈ X.pn ++ pins, p.1 ≠ C := fun p hp z => by
    have := Heap.lt_size (I2.pin p hp).1
    rw [z] at this
    exact absurd (Nat.lt_of_lt_of_le this hC) (Nat.lt_irrefl _)
  have Ip : Inv X (pins ++ [(C, oC)]) σ H' s' := I'.pins_of fun p hp => by
    rcases List.mem_append.mp hp with z | z
    · exact I'.pin p (List.mem_append_right _ z)
    · have e : p = (C, oC) := by simpa using z
      subst e
      exact ⟨eC, hHC, nL, nF, fun v z => by rw [dC] at z; cases z⟩
  refine thn (pg_name (pos := py) hN hy hx hf _ s' σ H' (.ref D) (.ref D) (fun σ' H'' => σ' = σ.set i (some (.ref D)) ∧ H'' = H' ∧ DE.nx σ' H'') Ip rfl ⟨rfl, rfl, q⟩) fun _ s'' ⟨σ'', H'', I'', e1, e2, q''⟩ => ?_
  subst e1 e2
  have eC'' : s''.heap.get? C = some oC := (I''.pin (C, oC) (List.mem_append_right _ (List.mem_append_right _ (by simp)))).1
  refine ⟨m, ⟨oC, es, ep, eC'', dC, rC⟩, fun h' hs' => ⟨_, H'', ?_, q''⟩⟩
  exact I''.unpinned.turned (t' := s''.toks) (it := C) (fun b o hb e => hs'.extBut b o hb e) hHC nL (.inr (Nat.le_trans I2.sz hC)) nCell nPin
end
/-! ### comprehensions by plain functions -/
def slF : Option Sl → Sl
  | some (.fz d) => .fz d
  | _ => .un
@[simp] theorem slF_fz (d : D) : slF (some (.fz d)) = .fz d := rfl
def capS (δ : Dv) (caps : List (Nat × Str)) : Dv := caps.map fun p => slF δ[p.1]?
def mapO (f : D → Option D) : List D → Option (List D)
  | [] => some []
  | d :: ds => (f d).bind fun e => (mapO f ds).bind fun es => some (e :: es)
def oComp (fi : Dv → Option (List D)) (caps : List (Nat × Str)) (bv : D → Option (List D)) (fe : Dv → Option D) : Dv → Option D := fun δ => (fi δ).bind fun ds => if ds.length ≤ sizeLine then (mapO (fun d => (bv d).bind fun vs => fe (vs.map .fz ++ capS δ caps)) ds).bind fun es => some (.list es) else none
def bv1 : D → Option (List D) := fun d => some [d]
theorem mapO_length {f : D → Option D} : ∀ {ds es : List D}, mapO f ds = some es → es.length = ds.length
  | [], es, h => by cases h; rfl
  | d :: ds, es, h => by
    obtain ⟨e, _, h⟩ := bind_some h
    obtain ⟨es', h2, h⟩ := bind_some h
    cases h
    exact congrArg (· + 1) (mapO_length h2)
theorem mapO_get {f : D → Option D} : ∀ {ds es : List D} {i : Nat} {d : D}, mapO f ds = some es → ds[i]? = some d → ∃ e, f d = some e ∧ es[i]? = some e
  | [], es, i, d, h, q => by simp at q
  | d :: ds, es, i, d', h, q => by
    obtain ⟨e, h1, h⟩ := bind_some h
    obtain ⟨es', h2, h⟩ := bind_some h
    cases h
    cases i with
    | zero => simp at q; subst q; exact ⟨e, h1, rfl⟩
    | succ i => simp at q; obtain ⟨e', g1, g2⟩ := mapO_get (i := i) h2 q; exact ⟨e', g1, by simpa using g2⟩
/-- how a target of the block binds -/
def TgOk (K : Fg) (g : TG) (n : Nat) (bv : D → Option (List D)) : Prop := ∀ (x : V) (Z : Hp) (d : D) (vs : List D) (σc : St) (H : Hp) (R : St → Hp → Prop), Rep K Z x d → Same Z H → bv d = some vs → (∀ us, Reps K Z us vs → us.length = n → R (us.map some ++ σc) H) → g x (List.replicate n none ++ σc) H R
theorem tg_one {K : Fg} : TgOk K (gName 0) 1 bv1 := fun x Z d vs σc H R r zh e k => by
  cases e
  exact k [x] (.cons r .nil) rfl
section
variable {X : Cx} {scope : Scope} {vars : List Str} {caps : List (Nat × Str)} {elt tg iter : Expr} {pos : Pos} {g : TG} {fi : Dv → Option (List D)} {fe : Dv → Option D} {bv : D → Option (List D)}
theorem capV_get {σ : St} {δ : Dv} {K : Fg} {H₀ Z₀ Z H : Hp} (hh : Hold K H₀ Z₀ Z δ σ H) : ∀ (j : Nat) d, (capS δ caps)[j]? = some (.fz d) → ∃ v, (capV σ caps)[j]? = some (some v) ∧ Rep K Z v d := fun j d e => by
  unfold capS at e
  unfold capV
  rw [List.getElem?_map] at e ⊢
  cases q : caps[j]? with
  | none => rw [q] at e; cases e
  | some p =>
    rw [q] at e
    have e : slF δ[p.1]? = .fz d := Option.some.inj e
    cases z : δ[p.1]? with
    | none => rw [z] at e; cases e
    | some sl =>
      rw [z] at e
      cases sl with
      | fz d' =>
        cases e
        obtain ⟨v, g1, g2⟩ := hh.fz p.1 _ z
        exact ⟨v, by show some ((σ[p.1]?).getD none) = _; rw [g1]; rfl, g2⟩
      | un => cases e
      | ow _ => cases e
theorem capS_ow {δ : Dv} : ∀ (j : Nat) ds, (capS δ caps)[j]? ≠ some (.ow ds) := fun j ds e => by
  unfold capS at e
  rw [List.getElem?_map] at e
  cases q : caps[j]? with
  | none => rw [q] at e; cases e
  | some p =>
    rw [q] at e
    have e : slF δ[p.1]? = .ow ds := Option.some.inj e
    cases z : δ[p.1]? with
    | none => rw [z] at e; cases e
    | some sl => rw [z] at e; cases sl <;> cases e
/-- a block's slots hold -/
theorem blk_hold {σ : St} {δ : Dv} {K : Fg} {H₀ Z₀ Z H : Hp} (hh : Hold K H₀ Z₀ Z δ σ H) {us : List V} {vs : List D} (r : Reps K Z us vs) : Hold K H Z Z (vs.map .fz ++ capS δ caps) (us.map some ++ capV σ caps) H := by
  have hl := r.length
  refine ⟨hh.zh, Same.refl _, Same.refl _, fun _ _ => rfl, by simp [capS, capV, hl], fun i d e => ?_, fun i ds e => ?_, fun i j ds es a _ e => ?_⟩
  · by_cases hi : i < vs.length
    · rw [List.getElem?_append_left (by simpa using hi), List.getElem?_map] at e
      cases q : vs[i]? with
      | none => rw [q] at e; cases e
      | some d' =>
        rw [q] at e
        cases e
        obtain ⟨v, g1, g2⟩ := r.get q
        exact ⟨v, by rw [List.getElem?_append_left (by simpa [hl] using hi), List.getElem?_map, g1]; rfl, g2⟩
    · rw [List.getElem?_append_right (by simpa using hi)] at e
      obtain ⟨v, g1, g2⟩ := capV_get hh _ d e
      refine ⟨v, ?_, g2⟩
      rw [List.getElem?_append_right (by simpa [hl] using hi)]
      simp only [List.length_map] at g1 ⊢
      rw [hl]; exact g1
  all_goals
    exfalso
    by_cases hi : i < vs.length
    · rw [List.getElem?_append_left (by simpa using hi), List.getElem?_map] at e
      cases q : vs[i]? <;> rw [q] at e <;> cases e
    · rw [List.getElem?_append_right (by simpa using hi)] at e
      exact capS_ow _ _ e
theorem comp_read (tk : TgOk X.K g vars.length bv) {σ : St} {H : Hp} {Q : VK} (h : tV X.K (oComp fi caps bv fe) σ H Q) : tComp (tVI X.K fi) g (tV X.K fe) vars caps σ H Q := by
  obtain ⟨H₀, Z₀, Z, δ, d, hh, e, k⟩ := h
  obtain ⟨ds, e1, e⟩ := bind_some e
  by_cases hz : ds.length ≤ sizeLine
  · rw [if_pos hz] at e
    obtain ⟨es, e2, e⟩ := bind_some e
    cases e
    have le := mapO_length e2
    have hv : vars.map (fun _ => (none : Option V)) = List.replicate vars.length none := by rw [List.map_const']
    refine ⟨H₀, Z₀, Z, δ, ds, hh, e1, fun J Z1 H1 hh1 t1 ok => ?_⟩
    refine ⟨fun i m ys H => m = ds.length - i ∧ i ≤ ds.length ∧ ∃ Zc, Hold X.K H₀ Z₀ Zc δ σ H ∧ Same Z1 Zc ∧ Reps X.K Zc ys (es.take i), ⟨ds.length, by simp, Nat.zero_le _, Z1, hh1, Same.refl _, by simpa using .nil⟩, ?_⟩
    rintro i m ys H2 ⟨rfl, hi2, Zc, hhc, tc, rc⟩
    have zh : Same Z1 H2 := tc.trans hhc.zh
    have ly := rc.length
    rw [List.length_take] at ly
    by_cases hlt : i < ds.length
    · refine .inr ⟨ok.go i H2 zh hlt, by omega, fun x H3 y => ?_⟩
      have ed : ds[i]? = some ds[i] := by simp [hlt]
      obtain ⟨rfl, rx⟩ := ok.yld i H2 x H3 _ zh ed y
      obtain ⟨ei, f1, f2⟩ := mapO_get e2 ed
      obtain ⟨vs, f3, f1⟩ := bind_some f1
      rw [hv]
      refine tk x Zc ds[i] vs (capV σ caps) H3 _ (rx.same tc) hhc.zh f3 fun us ru hn => ⟨⟨by simp [hn], fun j v q => ?_⟩, ?_⟩
      · by_cases hj : j < vars.length
        · rw [List.getElem?_append_left (by simpa using hj), List.getElem?_replicate] at q
          split at q <;> cases q
        · rw [List.getElem?_append_right (by simpa using hj)] at q
          rw [List.getElem?_append_right (by simpa [hn] using hj)]
          simpa [hn] using q
      · refine ⟨H3, Zc, Zc, _, ei, blk_hold hhc ru, f1, fun v Z4 H4 h4 t4 r4 => ⟨ds.length - (i + 1), by omega, rfl, hlt, Z4, hhc.new ⟨t4, h4.h0, h4.zh, h4.zb⟩, tc.trans t4, ?_⟩⟩
        have : es.take (i + 1) = es.take i ++ [ei] := by
          rw [List.take_add_one, f2]; rfl
        rw [this]
        exact (rc.same t4).append (.cons r4 .nil)
    · have hie : i = ds.length := by omega
      subst hie
      refine .inl ⟨ok.stop _ H2 zh (Nat.le_refl _), by omega, fun p hp => ?_⟩
      rw [← le, List.take_length] at rc
      have n := New.add hhc.zh hp (.lst ys)
      exact k _ _ _ (hhc.new n) ((t1.trans tc).trans n.z) (.lst (SqL.of upd_same) (rc.same n.z))
  · rw [if_neg hz] at e; cases e
theorem ev_comp (B : BlkOk X.env.scope.names X.N scope vars caps) (hc : X.calm = true) (hi : IV X tg iter fi) (tk : TgOk X.K g vars.length bv)
    (hg : ∀ C s₀ H₀ ex, PG (blk X scope (vars ++ caps.map (·.2)) C s₀ H₀ ex) tg g) (he : ∀ C s₀ H₀ ex, EV (blk X scope (vars ++ caps.map (·.2)) C s₀ H₀ ex) elt fe) (hs : ∀ x, foldedSetIterable iter X.env x = pure x := by intro _; rfl) :
    EV X (.ListComp elt [⟨tg, iter, [], 0⟩] scope pos) (oComp fi caps bv fe) :=
  PE.imp (pe_comp (te := tV X.K fe) B hc hi hg he hs) fun _ _ _ h => comp_read tk h
theorem sv_comp (i : Nat) {y : Str} {py spos : Pos} (hN : X.N.Nodup) (B : BlkOk X.env.scope.names X.N scope vars caps) (hc : X.calm = true) (hi : IV X tg iter fi) (tk : TgOk X.K g vars.length bv)
    (hg : ∀ C s₀ H₀ ex, PG (blk X scope (vars ++ caps.map (·.2)) C s₀ H₀ ex) tg g) (he : ∀ C s₀ H₀ ex, EV (blk X scope (vars ++ caps.map (·.2)) C s₀ H₀ ex) elt fe)
    (hy : X.N[i]? = some y := by rfl) (hx : Loc X.env.scope y := by first | exact Or.inl rfl | exact Or.inr rfl) (hsw : swapsWith (.ListComp elt [⟨tg, iter, [], 0⟩] scope pos) (some (.Name y py)) spos.line X.env = pure true := by rfl)
    (hf : X.fn y = true ∨ X.env.scope.names.lookup y = some .local := by first | exact .inl rfl | exact .inr rfl | assumption) (hs : ∀ x, foldedSetIterable iter X.env x = pure x := by intro _; rfl) :
    SV X (.Assign [.Name y py] (.ListComp elt [⟨tg, iter, [], 0⟩] scope pos) spos) (sSet i (oComp fi caps bv fe)) :=
  PS.imp (ps_comp (te := tV X.K fe) B hc hi hg he hN hy hx hsw hf hs) fun D σ H h => by
    obtain ⟨H₀, Z₀, Z, δ, r, hh, e, k⟩ := h
    obtain ⟨x, e1, e⟩ := bind_some e
    cases e
    exact comp_read tk ⟨H₀, Z₀, Z, δ, x, hh, e1, fun v Z1 H1 hh1 s1 r1 => k _ H1 Z1 (hh1.set r1) s1⟩
end
end VL

set_option Elab.async false
set_option linter.all false
set_option maxRecDepth 100000
set_option maxHeartbeats 4000000
namespace VL
open PySem PySem.Spec PyProof.Rows L2
section
variable {X : Cx} {e : Expr} {es : List Expr} {p pos : Pos} {fs : Dv → Option (List D)}
/-- a def of the text, every argument given -/
theorem ev_def0 {k : Nat} {x : Str} {g : List D → Option D} (C : Cal X.prog X.w X.K X.mg X.base x k g []) (hr : Room k X.A) (hg : Gl X x) (ha : AV X (e :: es) fs) (hdb : (x == ("__debug__" : Str)) = false := by decide) (he : starEach (e :: es) X.env = (false, eval e X.env) :: starEach es X.env := by rfl)
    (hpl : (backTo pos (starEach es X.env)).any (·.1) = false := by rfl) : EV X (.Call (.Name x p) (e :: es) [] pos) (os fs g) := by
  have h := ev_def C hr hg ha hdb he hpl (p := p) (pos := pos)
  have e : (fun as => g (as ++ [])) = g := by funext as; rw [List.append_nil]
  rw [e] at h
  exact h
end
/-- a plain value at the module's top -/
structure TopV (K : Fg) (mg : Str → Option Value) (x : Str) (d : D) : Prop where
  ex : ∃ v u, mg x = some u ∧ RelV v u ∧ ∀ Z, Rep K Z v d
theorem TopV.tup {K : Fg} {mg : Str → Option Value} {x : Str} {a : Addr} {td : Option Addr} {its : Array Value} {tn : Nat} {ts : Array (Option Value)} {xs : List V} {ds : List D} (hm : mg x = some (.ref a)) (hk : K.lookup a = some ⟨.type "tuple", td, .seq its tn, ts⟩)
    (hz : its.size ≤ sizeLine) (hv : Vals xs its.toList) (hr : ∀ Z, Reps K Z xs ds) : TopV K mg x (.tuple ds) := ⟨.ref a, .ref a, hm, rfl, fun Z => .tup (.inr ⟨_, its, tn, hk, rfl, rfl, hz, hv⟩) (hr Z)⟩
theorem TopV.int {K : Fg} {mg : Str → Option Value} {x : Str} {i : Int} {t : Tok} (hm : mg x = some (.int i t)) : TopV K mg x (.int i) := ⟨.int i, .int i t, hm, ⟨t, rfl⟩, fun _ => .int i⟩
theorem ev_topV {X : Cx} {x : Str} {pos : Pos} {d : D} (T : TopV X.K X.mg x d) (hg : Gl X x) (hd : (x == ("__debug__" : Str)) = false := by decide) : EV X (.Name x pos) (oC d) := by
  obtain ⟨v, u, hm, r, h⟩ := T.ex
  exact ev_c (pe_glob hg hm r hd) h
/-! ### lists of one's own -/
def slO : Option Sl → Option (List D)
  | some (.ow ds) => some ds
  | _ => none
@[simp] theorem slO_ow (ds : List D) : slO (some (.ow ds)) = some ds := rfl
theorem slO_eq {o : Option Sl} {ds : List D} (h : slO o = some ds) : o = some (.ow ds) := by
  cases o with
  | none => cases h
  | some s => cases s <;> cases h; rfl
/-- x = [..] -/
@[simp] def sOwn (i : Nat) (fs : Dv → Option (List D)) : Sf := fun δ => (fs δ).bind fun ds => if ds.length ≤ sizeLine then some (.nx, δ.set i (.ow ds)) else none
/-- x[k] of one's own -/
@[simp] def oIxO (i : Nat) (f : Dv → Option D) : Dv → Option D := fun δ => (slO δ[i]?).bind fun ds => (f δ).bind fun k => ixD (.list ds) k
@[simp] def oLenO (i : Nat) : Dv → Option D := fun δ => (slO δ[i]?).bind fun ds => some (.int ds.length)
def putD (ds : List D) (k v : D) : Option (List D) := match k with
  | .int j => (ixN ds.length j).map fun n => ds.set n v
  | _ => none
@[simp] theorem putD_int (ds : List D) (j : Int) (v : D) : putD ds (.int j) v = (ixN ds.length j).map fun n => ds.set n v := rfl
/-- x[k] = v -/
@[simp] def sPut (i : Nat) (fk fv : Dv → Option D) : Sf := fun δ => (fv δ).bind fun v => (fk δ).bind fun k => (slO δ[i]?).bind fun ds => (putD ds k v).bind fun ds' => some (.nx, δ.set i (.ow ds'))
/-- x.append(v) -/
@[simp] def sApp (i : Nat) (f : Dv → Option D) : Sf := fun δ => (f δ).bind fun v => (slO δ[i]?).bind fun ds => if ds.length < sizeLine then some (.nx, δ.set i (.ow (ds ++ [v]))) else none
section
variable {X : Cx} {e b : Expr} {es : List Expr} {p pos tpos apos : Pos} {fs : Dv → Option (List D)} {f fk fv : Dv → Option D}
theorem sv_own (i : Nat) {x : Str} {pos' : Pos} (hN : X.N.Nodup) (ha : AV X es fs) (hi : X.N[i]? = some x := by rfl) (hx : Loc X.env.scope x := by first | exact Or.inl rfl | exact Or.inr rfl) (hs : swapsWith (.List es p) (some (.Name x pos')) pos.line X.env = pure false := by rfl)
    (hf : X.fn x = true ∨ X.env.scope.names.lookup x = some .local := by first | exact .inl rfl | exact .inr rfl | assumption) : SV X (.Assign [.Name x pos'] (.List es p) pos) (sOwn i fs) :=
  PS.imp (ps_set hN hi hx (pe_lst ha) hs hf) fun D σ H h => by
    obtain ⟨H₀, Z₀, Z, δ, r, hh, e, k⟩ := h
    obtain ⟨ds, e1, e⟩ := bind_some e
    by_cases hl : ds.length ≤ sizeLine
    · rw [if_pos hl] at e
      cases e
      exact ⟨H₀, Z₀, Z, δ, ds, hh, e1, fun vs Z1 H1 hh1 t1 r1 => ⟨by rw [r1.length]; exact hl, fun p hp => k _ _ Z1 (hh1.setO hp r1) t1⟩⟩
    · rw [if_neg hl] at e; cases e
theorem ow_at {K : Fg} {H₀ Z₀ Z : Hp} {δ : Dv} {σ : St} {H : Hp} (hh : Hold K H₀ Z₀ Z δ σ H) {i : Nat} {ds : List D} (h : slO δ[i]? = some ds) : ∃ a xs, σ[i]? = some (some (V.ref a)) ∧ H a = some (.lst xs) ∧ Reps K Z xs ds := by
  obtain ⟨a, xs, h1, _, _, h4, h5⟩ := hh.ow i ds (slO_eq h)
  exact ⟨a, xs, h1, h4, h5⟩
theorem sv_app (i : Nat) {x : Str} {cpos : Pos} (hv' : EV X e f) (hN : X.N[i]? = some x := by rfl) (hv : Vis X.env.scope x := by first | exact Or.inl rfl | exact Or.inr (Or.inl rfl) | exact Or.inr (Or.inr rfl)) (hd : (x == ("__debug__" : Str)) = false := by decide) (hcd : (x == ("__classdict__" : Str)) = false := by decide)
    (hbase : attributeBase (.Name x p) "append" X.env (eval (.Name x p) X.env) = eval (.Name x p) X.env := by rfl)
    (hfew : ((backTo cpos (starEach [e] X.env)).all (fun x => !x.1) && (backToKw cpos (keywordEach [] X.env)).all (fun x => x.1.isSome)
      && decide ([e].length + ([] : List Keyword).length + (if ([] : List Keyword).isEmpty then 0 else 1) < 30)) = true := by rfl)
    (hline : (apos.endLine == cpos.line) = true := by rfl) (hs : starEach [e] X.env = (false, eval e X.env) :: starEach [] X.env := by rfl) (hplain : (backTo cpos (starEach [] X.env)).any (·.1) = false := by rfl)
    (hsw : swapsWith (.Call (.Attribute (.Name x p) "append" apos) [e] [] cpos) none pos.line X.env = pure false := by rfl) : SV X (.Expr (.Call (.Attribute (.Name x p) "append" apos) [e] [] cpos) pos) (sApp i f) :=
  PS.imp (ps_expr (pe_bm PySem.F.plainAttrs_list PySem.F.slot_list_append PySem.F.type_list_append mt_append (pe_var hN hv hd hcd) (pa_cons hv' pa_nil hs) hbase hfew hline hs hplain) hsw) fun D σ H h => by
    obtain ⟨H₀, Z₀, Z, δ, r, hh, e, k⟩ := h
    obtain ⟨v, e1, e⟩ := bind_some e
    obtain ⟨ds, e2, e⟩ := bind_some e
    by_cases hl : ds.length < sizeLine
    · rw [if_pos hl] at e
      cases e
      obtain ⟨a, xs, h1, h4, h5⟩ := ow_at hh e2
      refine ⟨_, h1, .inl ⟨rfl, xs, SqL.of h4⟩, H₀, Z₀, Z, δ, v, hh, e1, fun w Z1 H1 hh1 t1 r1 => ?_⟩
      obtain ⟨a', xs', g1, g4, g5⟩ := ow_at hh1 e2
      rw [h1] at g1
      cases g1
      exact ⟨a, xs', w, rfl, rfl, g4, by rw [g5.length]; exact hl, k σ _ Z1 (hh1.chg (xs := xs') (slO_eq e2) h1 (g5.append (.cons r1 .nil))) t1⟩
    · rw [if_neg hl] at e; cases e
end
end VL

set_option Elab.async false
set_option linter.all false
set_option maxRecDepth 100000
set_option maxHeartbeats 4000000
namespace VL
open PySem PySem.Spec PyProof.Rows L2
/-! ### comprehensions with a test -/
section
def tCompI (wi : TI) (g : TG) (tt : TT) (te : TE) (vars : List Str) (caps : List (Nat × Str)) : TE := fun σ H Q => wi σ H fun J H1 => ∃ W : Nat → Nat → List V → Hp → Prop, (∃ m, W 0 m [] H1) ∧ ∀ i m ys H, W i m ys H →
  (J.stop i H ∧ ys.length ≤ sizeLine ∧ ∀ p, H p = none → Q (.ref p) (upd H p (.lst ys))) ∨
  (J.go i H ∧ ys.length < sizeLine ∧ ∀ x H', J.yld i H x H' → g x (vars.map (fun _ => none) ++ capV σ caps) H' fun σ2 H2 => KeepS (vars.map (fun _ => none) ++ capV σ caps) σ2 ∧ tt σ2 H2 fun b H3 => if b = true then te σ2 H3 fun y H4 => ∃ m', m' < m ∧ W (i + 1) m' (ys ++ [y]) H4 else ∃ m', m' < m ∧ W (i + 1) m' ys H3)
theorem codeAny_comp_goI {prog : Program} {w : World} {A : Around} {R : Result → Shared → Prop} {s : Shared} {elt target iter cnd : Expr} {scope : Scope} {pos : Pos} {it acc : Value} {env : Env} (I : Nat → Shared → Prop)
    (turn : ∀ n s, I n s → wpAny (model prog w) A (pyNext it) (fun r s₁ => match r with
      | none => R (.ok .next) s₁
      | some v => wpAny (model prog w) A (letOwnedTupleGo target it v) (fun _ s₁ => wpAny (model prog w) A (assign target env v) (fun _ s₂ => wpAny (model prog w) A (isTrue cnd env (eval cnd env)) (fun ok s₂ => if ok = true then wpAny (model prog w) A (eval elt env) (fun x s₃ =>
          wpAny (model prog w) A (call (.builtin "list.append") [acc, x]) (fun _ s₄ => ∃ m, m < n ∧ I m s₄) (fun _ _ => False) s₃) (fun _ _ => False) s₂ else ∃ m, m < n ∧ I m s₂) (fun _ _ => False) s₂) (fun _ _ => False) s₁) (fun _ _ => False) s₁) (fun _ _ => False) s)
    (n : Nat) (h : I n s) : codeAny (model prog w) A (.compLoop (.ListComp elt [⟨target, iter, [cnd], 0⟩] scope pos) 0 it acc env) R s := by
  refine codeAny_loop rfl I (fun n s hI => ?_) n h
  show wpAny _ _ ((compTurn (.ListComp elt [⟨target, iter, [cnd], 0⟩] scope pos) 0 it acc env).onRaise (fun x => do noteFrame x env; theTreesLotGoes x)) _ _ s
  refine wpAny_noted ?_
  rw [compTurn_list]
  refine wpAny_bind (wpAny_standAt (wpAny_bind (wpAny_mono (turn n s hI) (fun r s₁ h₁ => ?_) fun _ _ h' => h'.elim)))
  cases r with
  | none => exact wpAny_pure h₁
  | some v =>
    refine wpAny_bind (wpAny_mono h₁ (fun _ s₁ h₁ => ?_) fun _ _ h' => h'.elim)
    refine wpAny_bind (wpAny_mono h₁ (fun _ s₂ h₂ => ?_) fun _ _ h' => h'.elim)
    refine wpAny_bind (wpAny_tests_one (wpAny_mono h₂ (fun okb s₃ h₃ => ?_) fun _ _ h' => h'.elim))
    cases okb with
    | false => exact wpAny_pure ⟨rfl, h₃⟩
    | true => exact wpAny_bind (wpAny_bind (wpAny_mono h₃ (fun x s₄ h₄ => wpAny_bind (wpAny_mono h₄ (fun _ s₅ h₅ => wpAny_pure (wpAny_pure ⟨rfl, h₅⟩)) fun _ _ h' => h'.elim)) fun _ _ h' => h'.elim))
end
section
variable {X : Cx} {scope : Scope} {vars : List Str} {caps : List (Nat × Str)} {elt tg iter cnd : Expr} {pos : Pos} {wi : TI} {g : TG} {tt : TT} {te : TE}
/-- the walk of the block -/
theorem comp_blockI (B : BlkOk X.env.scope.names X.N scope vars caps) (hc : X.calm = true)
    (hg : ∀ C s₀ H₀ ex, PG (blk X scope (vars ++ caps.map (·.2)) C s₀ H₀ ex) tg g) (hb : ∀ C s₀ H₀ ex, PT (blk X scope (vars ++ caps.map (·.2)) C s₀ H₀ ex) cnd tt) (he : ∀ C s₀ H₀ ex, PE (blk X scope (vars ++ caps.map (·.2)) C s₀ H₀ ex) elt te)
    {pins : List (Addr × Obj)} {σ : St} {H2 : Hp} {s2 : Shared} {Q : VK} {it : Addr} {fp : List Addr} {tn : Nat → Heap → Prop} {J : It} (I2 : Inv X pins σ H2 s2) (T : Turn X.prog X.w X.K tg J fp it tn) (st2 : tn 0 s2.heap) (f2 : ∀ b ∈ fp, FpOk X pins H2 b)
    {W : Nat → Nat → List V → Hp → Prop} {m0 : Nat} (w0 : W 0 m0 [] H2) (turn : ∀ i m ys H, W i m ys H →
      (J.stop i H ∧ ys.length ≤ sizeLine ∧ ∀ p, H p = none → Q (.ref p) (upd H p (.lst ys))) ∨
      (J.go i H ∧ ys.length < sizeLine ∧ ∀ x H', J.yld i H x H' → g x (vars.map (fun _ => none) ++ capV σ caps) H' fun σ2 H2 => KeepS (vars.map (fun _ => none) ++ capV σ caps) σ2 ∧ tt σ2 H2 fun b H3 => if b = true then te σ2 H3 fun y H4 => ∃ m', m' < m ∧ W (i + 1) m' (ys ++ [y]) H4 else ∃ m', m' < m ∧ W (i + 1) m' ys H3))
    {RR : Value → Addr → Result → Shared → Prop} {E : Value → Shared → Prop}
    (hRR : ∀ D C s' m, s'.heap.Ns C m → D ≠ C → s2.heap.objs.size ≤ D → s2.heap.objs.size ≤ C → ∀ H', H' C = none → (∀ h', Heap.SameBut C s'.heap h' → Inv X pins σ H' { s' with heap := h' }) → Q (.ref D) H' → RR (.ref D) C (.ok .next) s') :
    wpAny (model X.prog X.w) X.A (newList []) (fun acc s₃ => wpAny (model X.prog X.w) X.A (newFunctionEnv scope X.env.globals (clos X.env scope.names []) [] X.env.qual none .none (some X.env)) (fun cenv s₄ =>
      codeAny (model X.prog X.w) X.A (.compStart (.ListComp elt [⟨tg, iter, [cnd], 0⟩] scope pos) 0 (.ref it) acc { cenv with scope := relabel scope X.env }) (RR acc cenv.locals) s₄) E s₃) E s2 := by
  refine wpAny_newObj_type (wpAny_newFunctionEnv B.cell (by intro y hy; simp at hy) (fun h₁ hns₁ hsb₁ => ?_) B.kind)
  dsimp only at hns₁ hsb₁ ⊢
  generalize hP : s2.heap.push { cls := .type "list", dict := none, data := .seq ([] : List Value).toArray } = HP at hns₁ hsb₁ ⊢
  have hCs : HP.objs.size = s2.heap.objs.size + 1 := by rw [← hP, Heap.size_push]
  have hDC : s2.heap.objs.size ≠ HP.objs.size := by rw [hCs]; exact Nat.ne_of_lt (Nat.lt_succ_self _)
  have hCle : s2.heap.objs.size ≤ HP.objs.size := by rw [hCs]; exact Nat.le_succ _
  have old : ∀ b o, s2.heap.get? b = some o → h₁.get? b = some o := fun b o e => hsb₁.extBut b o (Nat.ne_of_lt (Nat.lt_of_lt_of_le (Heap.lt_size e) hCle)) (Heap.get?_push_of_some _ (hP ▸ Heap.get?_push_of_some _ e))
  have hacc : h₁.PlainList s2.heap.objs.size #[] := ⟨_, hsb₁.extBut _ _ hDC (Heap.get?_push_of_some _ (hP ▸ Heap.get?_push_size _ rfl))⟩
  have flt : ∀ b ∈ fp, b < s2.heap.objs.size := fun b hb => by
    obtain ⟨o, e, _⟩ := T.obj _ _ st2 b hb
    exact Heap.lt_size e
  have st1 : tn 0 h₁ := T.keep _ _ _ st2 fun b _ o e => old b o e
  -- the loop
  have loop : ∀ s3 : Shared, s3 = { s2 with heap := h₁, toks := s2.toks + ([] : List (Str × Value)).length } →
      codeAny (model X.prog X.w) X.A (.compLoop (.ListComp elt [⟨tg, iter, [cnd], 0⟩] scope pos) 0 (.ref it) (.ref s2.heap.objs.size) (compEnvC scope (clos X.env scope.names []) HP.objs.size X.env))
        (RR (.ref s2.heap.objs.size) HP.objs.size) s3 := by
    rintro s3 rfl
    have X' := blk X scope (vars ++ caps.map (·.2)) HP.objs.size s2 H2 fp
    have fpo : ∀ {H' : Hp}, (∀ b ∈ fp, H' b = none) → ∀ b ∈ fp, FpOk (blk X scope (vars ++ caps.map (·.2)) HP.objs.size s2 H2 fp) [] H' b := fun hn b hb => by
      have ok := blk_ok B I2 f2 flt hCle
      exact ⟨hn b hb, (ok.exf b hb).1, ok.exfs b hb, .inl hb, (ok.exf b hb).2, fun p hp => absurd (show p ∈ ([] : List (Addr × Obj)) from hp) (by simp)⟩
    refine codeAny_comp_goI (fun n s => ∃ i ys H its, Inv (blk X scope (vars ++ caps.map (·.2)) HP.objs.size s2 H2 fp) [] (vars.map (fun _ => none) ++ capV σ caps) H s ∧ tn i s.heap ∧ (∀ b ∈ fp, H b = none) ∧ s.heap.PlainList s2.heap.objs.size (List.toArray its) ∧ H s2.heap.objs.size = none ∧ Vals ys its ∧ W i n ys H) ?_ m0
      ⟨0, [], H2, [], blk_inv B I2 f2 flt hCle hns₁ old, st1, fun b hb => (f2 b hb).1, hacc, I2.hok.fresh (Nat.le_refl _), .nil, w0⟩
    rintro n s4 ⟨i, ys, H4, its, I4, st4, fr4, pl4, nD4, v4, w4⟩
    obtain ⟨nn, eD⟩ := id pl4
    have DnL : s2.heap.objs.size ≠ (blk X scope (vars ++ caps.map (·.2)) HP.objs.size s2 H2 fp).env.locals := hDC
    have Dfs : s2.heap.objs.size ∉ (blk X scope (vars ++ caps.map (·.2)) HP.objs.size s2 H2 fp).fs := fun z => by
      rcases List.mem_cons.mp (I2.stkSub _ z) with q | q
      · have := I2.lt; rw [← q] at this; exact Nat.lt_irrefl _ this
      · exact I2.nofs (Nat.le_refl _) q
    have Dfp : ∀ b ∈ fp, s2.heap.objs.size ≠ b := fun b hb z => by have := flt b hb; rw [← z] at this; exact Nat.lt_irrefl _ this
    have DnC : ∀ x c, (blk X scope (vars ++ caps.map (·.2)) HP.objs.size s2 H2 fp).env.cells.lookup x = some c → c ≠ s2.heap.objs.size := fun x c e z => by
      rcases clos_lookup _ _ _ _ (B.cells I2) e with q | q
      · cases q
      · obtain ⟨v, o, ho, _⟩ := I2.cell x c q
        have := Heap.lt_size ho
        rw [z] at this
        exact Nat.lt_irrefl _ this
    have pinD : ∀ {σ' : St} {H' : Hp} {s' : Shared}, Inv (blk X scope (vars ++ caps.map (·.2)) HP.objs.size s2 H2 fp) [(s2.heap.objs.size, { cls := .type "list", data := .seq its.toArray nn })] σ' H' s' → s'.heap.PlainList s2.heap.objs.size its.toArray ∧ H' s2.heap.objs.size = none := fun {σ' H' s'} I' => by
      obtain ⟨q1, q2, _⟩ := I'.pin (s2.heap.objs.size, { cls := .type "list", data := .seq its.toArray nn }) (by simp [blk])
      exact ⟨⟨nn, q1⟩, q2⟩
    have I4p : Inv (blk X scope (vars ++ caps.map (·.2)) HP.objs.size s2 H2 fp) [(s2.heap.objs.size, { cls := .type "list", data := .seq its.toArray nn })] (vars.map (fun _ => none) ++ capV σ caps) H4 s4 :=
      I4.pins_of fun p hp => by
        have e : p = (s2.heap.objs.size, { cls := .type "list", data := .seq its.toArray nn }) := by simpa [blk] using hp
        subst e
        exact ⟨eD, nD4, DnL, Dfs, fun v z => by cases z⟩
    have fpo' : ∀ {H' : Hp}, (∀ b ∈ fp, H' b = none) → ∀ b ∈ fp, FpOk (blk X scope (vars ++ caps.map (·.2)) HP.objs.size s2 H2 fp) [(s2.heap.objs.size, { cls := .type "list", data := .seq its.toArray nn })] H' b := fun hn b hb => by
      obtain ⟨q1, q2, q3, q4, q5, _⟩ := fpo hn b hb
      exact ⟨q1, q2, q3, q4, q5, fun p hp => by
        have e : p = (s2.heap.objs.size, { cls := .type "list", data := .seq its.toArray nn }) := by simpa [blk] using hp
        subst e
        exact Dfp b hb⟩
    have unp : ∀ {pl : List (Addr × Obj)} {σ' : St} {H' : Hp} {s' : Shared}, Inv (blk X scope (vars ++ caps.map (·.2)) HP.objs.size s2 H2 fp) pl σ' H' s' → Inv (blk X scope (vars ++ caps.map (·.2)) HP.objs.size s2 H2 fp) [] σ' H' s' := fun {pl σ' H' s'} I' =>
      I'.pins_of fun p hp => absurd (show p ∈ ([] : List (Addr × Obj)) from hp) (by simp)
    rcases turn i n ys H4 w4 with ⟨stop, hz, qn⟩ | ⟨go, hz, step⟩
    · refine thn (T.done (blk X scope (vars ++ caps.map (·.2)) HP.objs.size s2 H2 fp) rfl rfl rfl hc i _ s4 _ H4 _ I4p (fpo' fr4) st4 stop) fun r s5 ⟨hr, I5⟩ => ?_
      subst hr
      obtain ⟨p5, n5⟩ := pinD I5
      obtain ⟨m5, ns5, _⟩ := I5.loc
      refine hRR _ _ s5 m5 ns5 hDC (Nat.le_refl _) hCle _ ?_ (fun h' hs' => blk_out I2 f2 hCle (Nat.le_refl _) hDC (unp I5) n5 p5 v4 hz hs') (qn _ n5)
      rw [upd_ne hDC.symm]
      exact I5.free
    · refine thn (T.item (blk X scope (vars ++ caps.map (·.2)) HP.objs.size s2 H2 fp) rfl rfl rfl hc i _ s4 _ H4 _ I4p (fpo' fr4) st4 go) fun r s5 ⟨u, hr, h5⟩ => ?_
      subst hr
      refine thn h5 fun _ s6 ⟨x, H6, I6, rx, yx, st6, fr6⟩ => ?_
      have I6p := I6.pinned (fpo' fr6) (T.obj _ _ st6)
      refine thn (hg _ _ _ _ _ s6 _ H6 x u _ I6p rx (step x H6 yx)) fun _ s7 ⟨σ7, H7, I7, kp, q7⟩ => ?_
      refine thn (hb _ _ _ _ _ s7 σ7 H7 _ I7 q7) fun okb s7' q7' => ?_
      obtain ⟨H7', I7', q7'⟩ := q7'
      cases okb with
      | false =>
        obtain ⟨m', hm, w8⟩ := q7'
        rw [if_neg (by decide)]
        obtain ⟨p8, n8⟩ := pinD I7'.unpinned
        have st8 : tn (i + 1) s7'.heap := T.keep _ _ _ st6 fun b hb o e => (I7'.pin (b, o) (List.mem_append_right _ (List.mem_append_right _ (mem_pinsAt hb e)))).1
        have fr8 : ∀ b ∈ fp, H7' b = none := fun b hb => by
          obtain ⟨o, e, d⟩ := T.obj _ _ st6 b hb
          exact (I7'.pin (b, o) (List.mem_append_right _ (List.mem_append_right _ (mem_pinsAt hb e)))).2.1
        exact ⟨m', hm, i + 1, ys, H7', its, (unp I7').weak kp.1 kp.2, st8, fr8, p8, n8, v4, w8⟩
      | true =>
      rw [if_pos rfl]
      rw [if_pos rfl] at q7'
      refine thn (he _ _ _ _ _ s7' σ7 H7' _ I7' q7') fun v s8 ⟨y, H8, I8, ry, m', hm, w8⟩ => ?_
      obtain ⟨p8, n8⟩ := pinD I8.unpinned
      have st8 : tn (i + 1) s8.heap := T.keep _ _ _ st6 fun b hb o e => (I8.pin (b, o) (List.mem_append_right _ (List.mem_append_right _ (mem_pinsAt hb e)))).1
      have fr8 : ∀ b ∈ fp, H8 b = none := fun b hb => by
        obtain ⟨o, e, d⟩ := T.obj _ _ st6 b hb
        exact (I8.pin (b, o) (List.mem_append_right _ (List.mem_append_right _ (mem_pinsAt hb e)))).2.1
      have hl := v4.length
      refine wpAny_list_append_plain p8 (fun h9 p9 sb9 => ⟨m', hm, i + 1, ys ++ [y], H8, its ++ [v], ?_, ?_, fr8, by simpa using p9, n8, v4.append (.cons ry .nil), w8⟩) (by simp; omega)
      · have I9 : Inv (blk X scope (vars ++ caps.map (·.2)) HP.objs.size s2 H2 fp) [] σ7 H8 { s8 with heap := h9, toks := s8.toks } :=
          (unp I8).turned (it := s2.heap.objs.size) (fun b o hb e => sb9.extBut b o hb e) n8 DnL (.inr (Nat.le_refl _)) DnC fun p hp => absurd (show p ∈ ([] : List (Addr × Obj)) from hp) (by simp)
        exact I9.weak kp.1 kp.2
      · exact T.keep _ _ _ st8 fun b hb o e => sb9.extBut b o (Dfp b hb).symm e
  exact codeAny_compStart_list (loop _ rfl) (T.self _ 0 _ _ _ st1 (loop _ rfl))
theorem pe_compI (B : BlkOk X.env.scope.names X.N scope vars caps) (hc : X.calm = true) (hi : PI X tg iter wi)
    (hg : ∀ C s₀ H₀ ex, PG (blk X scope (vars ++ caps.map (·.2)) C s₀ H₀ ex) tg g) (hb : ∀ C s₀ H₀ ex, PT (blk X scope (vars ++ caps.map (·.2)) C s₀ H₀ ex) cnd tt) (he : ∀ C s₀ H₀ ex, PE (blk X scope (vars ++ caps.map (·.2)) C s₀ H₀ ex) elt te) (hs : ∀ x, foldedSetIterable iter X.env x = pure x := by intro _; rfl) :
    PE X (.ListComp elt [⟨tg, iter, [cnd], 0⟩] scope pos) (tCompI wi g tt te vars caps) := by
  intro pins s σ H Q I h
  rw [eval_ListComp]
  refine wpAny_comprehension_free (use := none) rfl hs (closureFor_eq (B.cells I)) B.kind B.names ?_
  show wpAny _ _ (eval iter X.env) _ _ s
  refine thn (hi pins s σ H _ I h) fun v s1 h1 => thn h1 fun itv s2 h2 => ?_
  obtain ⟨it, fp, tn, J, H2, e, I2, T, st2, f2, W, ⟨m0, w0⟩, turn⟩ := h2
  subst e
  exact comp_blockI B hc hg hb he I2 T st2 f2 w0 turn (RR := fun acc C => compPost (model X.prog X.w) X.A X.xe none (EP X pins σ Q) acc C) fun D C s' m ns _ _ _ H' _ k q => ⟨m, ns, fun h' hs' => ⟨.ref D, H', k h' hs', rfl, q⟩⟩
end
/-! ### by plain functions -/
def filO (t : D → Option Bool) (f : D → Option D) : List D → Option (List D)
  | [] => some []
  | d :: ds => (t d).bind fun b => if b = true then (f d).bind fun e => (filO t f ds).bind fun es => some (e :: es) else filO t f ds
@[simp] theorem filO_nil {t : D → Option Bool} {f : D → Option D} : filO t f [] = some [] := rfl
def oCompI (fi : Dv → Option (List D)) (caps : List (Nat × Str)) (bv : D → Option (List D)) (ft : Dv → Option Bool) (fe : Dv → Option D) : Dv → Option D := fun δ => (fi δ).bind fun ds => if ds.length ≤ sizeLine then (filO (fun d => (bv d).bind fun vs => ft (vs.map .fz ++ capS δ caps)) (fun d => (bv d).bind fun vs => fe (vs.map .fz ++ capS δ caps)) ds).bind fun es => some (.list es) else none
theorem filO_snoc {t : D → Option Bool} {f : D → Option D} : ∀ {ds es : List D} {i : Nat} {d : D}, filO t f ds = some es → ds[i]? = some d → ∃ xs, filO t f (ds.take i) = some xs ∧ ∃ b, t d = some b ∧ (b = false → filO t f (ds.take (i + 1)) = some xs) ∧ (b = true → ∃ e, f d = some e ∧ filO t f (ds.take (i + 1)) = some (xs ++ [e]))
  | [], es, i, d, h, q => by simp at q
  | d :: ds, es, i, d', h, q => by
    obtain ⟨b, h1, h⟩ := bind_some h
    cases i with
    | zero =>
      simp at q; subst q
      refine ⟨[], rfl, b, h1, fun hb => ?_, fun hb => ?_⟩
      · subst hb; simp [filO, h1]
      · subst hb
        rw [if_pos rfl] at h
        obtain ⟨e, h2, h⟩ := bind_some h
        exact ⟨e, h2, by simp [filO, h1, h2]⟩
    | succ i =>
      simp at q
      cases b with
      | false =>
        rw [if_neg (by decide)] at h
        obtain ⟨xs, g1, b', g2, g3, g4⟩ := filO_snoc (i := i) h q
        refine ⟨xs, by simp [filO, h1, g1], b', g2, fun hb => by simpa [filO, h1] using g3 hb, fun hb => ?_⟩
        obtain ⟨e, k1, k2⟩ := g4 hb
        exact ⟨e, k1, by simpa [filO, h1] using k2⟩
      | true =>
        rw [if_pos rfl] at h
        obtain ⟨e0, h2, h⟩ := bind_some h
        obtain ⟨es', h3, h⟩ := bind_some h
        obtain ⟨xs, g1, b', g2, g3, g4⟩ := filO_snoc (i := i) h3 q
        refine ⟨e0 :: xs, by simp [filO, h1, h2, g1], b', g2, fun hb => by simp [filO, h1, h2, g3 hb], fun hb => ?_⟩
        obtain ⟨e, k1, k2⟩ := g4 hb
        exact ⟨e, k1, by simp [filO, h1, h2, k2]⟩
theorem filO_le {t : D → Option Bool} {f : D → Option D} : ∀ {ds es : List D}, filO t f ds = some es → es.length ≤ ds.length
  | [], es, h => by cases h; exact Nat.le_refl _
  | d :: ds, es, h => by
    obtain ⟨b, h1, h⟩ := bind_some h
    cases b with
    | false => rw [if_neg (by decide)] at h; exact Nat.le_succ_of_le (filO_le h)
    | true =>
      rw [if_pos rfl] at h
      obtain ⟨e0, h2, h⟩ := bind_some h
      obtain ⟨es', h3, h⟩ := bind_some h
      cases h
      exact Nat.succ_le_succ (filO_le h3)
section
variable {X : Cx} {scope : Scope} {vars : List Str} {caps : List (Nat × Str)} {elt tg iter cnd : Expr} {pos : Pos} {g : TG} {fi : Dv → Option (List D)} {ft : Dv → Option Bool} {fe : Dv → Option D} {bv : D → Option (List D)}
theorem comp_readI (tk : TgOk X.K g vars.length bv) {σ : St} {H : Hp} {Q : VK} (h : tV X.K (oCompI fi caps bv ft fe) σ H Q) : tCompI (tVI X.K fi) g (tVT X.K ft) (tV X.K fe) vars caps σ H Q := by
  obtain ⟨H₀, Z₀, Z, δ, d, hh, e, k⟩ := h
  obtain ⟨ds, e1, e⟩ := bind_some e
  by_cases hz : ds.length ≤ sizeLine
  · rw [if_pos hz] at e
    obtain ⟨es, e2, e⟩ := bind_some e
    cases e
    have hv : vars.map (fun _ => (none : Option V)) = List.replicate vars.length none := by rw [List.map_const']
    refine ⟨H₀, Z₀, Z, δ, ds, hh, e1, fun J Z1 H1 hh1 t1 ok => ?_⟩
    refine ⟨fun i m ys H => m = ds.length - i ∧ i ≤ ds.length ∧ ∃ Zc xs, Hold X.K H₀ Z₀ Zc δ σ H ∧ Same Z1 Zc ∧ filO (fun d => (bv d).bind fun vs => ft (vs.map .fz ++ capS δ caps)) (fun d => (bv d).bind fun vs => fe (vs.map .fz ++ capS δ caps)) (ds.take i) = some xs ∧ Reps X.K Zc ys xs, ⟨ds.length, by simp, Nat.zero_le _, Z1, [], hh1, Same.refl _, rfl, .nil⟩, ?_⟩
    rintro i m ys H2 ⟨rfl, hi2, Zc, xs, hhc, tc, fx, rc⟩
    have zh : Same Z1 H2 := tc.trans hhc.zh
    have ly := rc.length
    have lx := filO_le fx
    rw [List.length_take] at lx
    by_cases hlt : i < ds.length
    · refine .inr ⟨ok.go i H2 zh hlt, by omega, fun x H3 y => ?_⟩
      have ed : ds[i]? = some ds[i] := by simp [hlt]
      obtain ⟨rfl, rx⟩ := ok.yld i H2 x H3 _ zh ed y
      obtain ⟨xs', f0, b, fb, ff, ftr⟩ := filO_snoc e2 ed
      rw [fx] at f0
      cases f0
      obtain ⟨vs, f3, f1⟩ := bind_some fb
      rw [hv]
      refine tk x Zc ds[i] vs (capV σ caps) H3 _ (rx.same tc) hhc.zh f3 fun us ru hn => ⟨⟨by simp [hn], fun j v q => ?_⟩, ?_⟩
      · by_cases hj : j < vars.length
        · rw [List.getElem?_append_left (by simpa using hj), List.getElem?_replicate] at q
          split at q <;> cases q
        · rw [List.getElem?_append_right (by simpa using hj)] at q
          rw [List.getElem?_append_right (by simpa [hn] using hj)]
          simpa [hn] using q
      · refine ⟨H3, Zc, Zc, _, b, blk_hold hhc ru, f1, fun Z3 H3' h3 t3 => ?_⟩
        have hh3 := hhc.new ⟨t3, h3.h0, h3.zh, h3.zb⟩
        cases b with
        | false =>
          dsimp only
          rw [if_neg (by decide)]
          exact ⟨ds.length - (i + 1), by omega, rfl, hlt, Z3, xs, hh3, tc.trans t3, ff rfl, rc.same t3⟩
        | true =>
          dsimp only
          rw [if_pos rfl]
          obtain ⟨ei, f2, f4⟩ := ftr rfl
          rw [f3] at f2
          refine ⟨H3, Zc, Z3, _, ei, h3, f2, fun v Z4 H4 h4 t4 r4 => ⟨ds.length - (i + 1), by omega, rfl, hlt, Z4, xs ++ [ei], ?_, (tc.trans t3).trans t4, f4, ((rc.same t3).same t4).append (.cons r4 .nil)⟩⟩
          exact hhc.new ⟨t3.trans t4, h4.h0, h4.zh, h4.zb⟩
    · have hie : i = ds.length := by omega
      subst hie
      refine .inl ⟨ok.stop _ H2 zh (Nat.le_refl _), by omega, fun p hp => ?_⟩
      rw [List.take_length, e2] at fx
      cases fx
      have n := New.add hhc.zh hp (.lst ys)
      exact k _ _ _ (hhc.new n) ((t1.trans tc).trans n.z) (.lst (SqL.of upd_same) (rc.same n.z))
  · rw [if_neg hz] at e; cases e
theorem ev_compI (B : BlkOk X.env.scope.names X.N scope vars caps) (hc : X.calm = true) (hi : IV X tg iter fi) (tk : TgOk X.K g vars.length bv)
    (hg : ∀ C s₀ H₀ ex, PG (blk X scope (vars ++ caps.map (·.2)) C s₀ H₀ ex) tg g) (hb : ∀ C s₀ H₀ ex, TV (blk X scope (vars ++ caps.map (·.2)) C s₀ H₀ ex) cnd ft) (he : ∀ C s₀ H₀ ex, EV (blk X scope (vars ++ caps.map (·.2)) C s₀ H₀ ex) elt fe) (hs : ∀ x, foldedSetIterable iter X.env x = pure x := by intro _; rfl) :
    EV X (.ListComp elt [⟨tg, iter, [cnd], 0⟩] scope pos) (oCompI fi caps bv ft fe) :=
  PE.imp (pe_compI (tt := tVT X.K ft) (te := tV X.K fe) B hc hi hg hb he hs) fun _ _ _ h => comp_readI tk h
end
end VL

set_option Elab.async false
set_option linter.all false
set_option maxRecDepth 100000
set_option maxHeartbeats 4000000
namespace VL
open PySem PySem.Spec PyProof.Rows L2
/-! ### a op b op c -/
section
variable {X : Cx} {a b c : Expr} {pos : Pos} {f1 f2 f3 : Dv → Option D}
end
/-! ### in, not in: flat items -/
def flD : D → Bool
  | .none => true
  | .bool _ => true
  | .int _ => true
  | .str _ => true
  | _ => false
def inL (x : D) (ds : List D) : Bool := ds.any fun y => PyData.eqv y x
def inD (neg : Bool) : D → D → Option D := fun a b => (itsD b).bind fun ds => if flD a = true ∧ ds.all flD = true then some (.bool (if neg = true then !inL a ds else inL a ds)) else none
theorem Rep.flat {K : Fg} {Z : Hp} {v : V} {d : D} (r : Rep K Z v d) : flatV v = flD d := by cases r <;> rfl
theorem Rep.eqF {K : Fg} {Z : Hp} {v u : V} {d e : D} (r : Rep K Z v d) (q : Rep K Z u e) (h1 : flD d = true) (h2 : flD e = true) : eqV v u = PyData.eqv d e := by
  cases r <;> first | (cases q <;> first | rfl | cases h2) | cases h1
theorem Reps.allF {K : Fg} {Z : Hp} : ∀ {vs : List V} {ds : List D}, Reps K Z vs ds → vs.all flatV = ds.all flD
  | _, _, .nil => rfl
  | _, _, .cons r t => by rw [List.all_cons, List.all_cons, r.flat, t.allF]
theorem Reps.inF {K : Fg} {Z : Hp} {x : V} {a : D} (q : Rep K Z x a) (h : flD a = true) : ∀ {vs : List V} {ds : List D}, Reps K Z vs ds → ds.all flD = true → inV x vs = inL a ds
  | _, _, .nil, _ => rfl
  | _, _, .cons r t, f => by
    rw [List.all_cons, Bool.and_eq_true] at f
    show (eqV _ x || inV x _) = (PyData.eqv _ a || inL a _)
    rw [r.eqF q f.1 h, t.inF q h f.2]
theorem in_read {K : Fg} {neg : Bool} {x y : V} {H : Hp} {Q : VK} (h : rD K (inD neg) x y H Q) : rIn K neg x y H Q := by
  obtain ⟨Z, a, b, d, zh, ra, rb, e, k⟩ := h
  obtain ⟨ds, e1, e⟩ := bind_some e
  by_cases c : flD a = true ∧ ds.all flD = true
  · rw [if_pos c] at e
    cases e
    have go : ∀ (xs : List V), Reps K Z xs ds → (∃ p, y = .ref p ∧ (SqL K H p xs ∨ SqT K H p xs)) → rIn K neg x y H Q := fun xs r ⟨p, ey, hq⟩ => by
      refine ⟨p, xs, ey, hq, by rw [ra.flat]; exact c.1, by rw [r.allF]; exact c.2, ?_⟩
      have := r.inF ra c.1 c.2
      rw [this]
      exact k _ Z H (New.refl zh) (.bl _)
    cases rb with
    | lst h q => cases e1; exact go _ q ⟨_, rfl, .inl (SqL.same h zh)⟩
    | tup h q => cases e1; exact go _ q ⟨_, rfl, .inr (SqT.same h zh)⟩
    | _ => cases e1
  · rw [if_neg c] at e; cases e
theorem d_in {X : Cx} : OpR X (compareOp .In) (rD X.K (inD false)) := OpR.imp op_in_seq fun _ _ _ _ h => in_read h
/-! ### targets that are tuples -/
def gT : List (D → Dv → Option Dv) → List D → Dv → Option Dv
  | [], [], δ => some δ
  | g :: gs, d :: ds, δ => (g d δ).bind fun δ1 => gT gs ds δ1
  | _, _, _ => none
def gTu (gs : List (D → Dv → Option Dv)) : D → Dv → Option Dv
  | .tuple ds, δ => gT gs ds δ
  | _, _ => none
@[simp] theorem gT_nil (δ : Dv) : gT [] [] δ = some δ := rfl
@[simp] theorem gT_cons (g : D → Dv → Option Dv) (gs : List (D → Dv → Option Dv)) (d : D) (ds : List D) (δ : Dv) : gT (g :: gs) (d :: ds) δ = (g d δ).bind fun δ1 => gT gs ds δ1 := rfl
@[simp] theorem gTu_tup (gs : List (D → Dv → Option Dv)) (ds : List D) (δ : Dv) : gTu gs (.tuple ds) δ = gT gs ds δ := rfl
section
variable {X : Cx} {pos : Pos} {e : Expr} {es : List Expr} {g : D → Dv → Option Dv} {gs : List (D → Dv → Option Dv)}
theorem PGs.imp {t t' : TGs} (h : PGs X es t) (i : ∀ v σ H Q, t' v σ H Q → t v σ H Q) : PGs X es t' := fun pins s σ H x v Q I r q => h pins s σ H x v Q I r (i _ _ _ _ q)
end
/-! ### a block's target that is a tuple of names -/
/-! ### while -/
theorem loop_step {g : D → Dv → Option Dv} {b : Sf} {d : D} {ds : List D} {δ δ1 δ2 : Dv} (h1 : g d δ = some δ1) (h2 : b δ1 = some (.nx, δ2)) : loop g b (d :: ds) δ = loop g b ds δ2 := by
  show ((g d δ).bind fun δ1 => _) = _
  rw [h1, Option.bind_some, h2]; rfl
/-! ### a def that calls itself -/
theorem bv_no {X : Cx} {ss : List Stmt} : BV X ss (fun _ => none) := fun pins s σ H D I h => by
  obtain ⟨_, _, _, _, _, _, e, _⟩ := h
  cases e
end VL

set_option Elab.async false
set_option linter.all false
set_option maxRecDepth 100000
set_option maxHeartbeats 4000000
namespace VL
open PySem PySem.Spec PyProof.Rows L2
/-! ### an expression whose value is a list of one's own -/
@[simp] def sOwnE (i : Nat) (f : Dv → Option (List D)) : Sf := fun δ => (f δ).bind fun ds => some (.nx, δ.set i (.ow ds))
section
variable {X : Cx} {e : Expr} {es : List Expr} {p pos : Pos} {f : Dv → Option (List D)} {fs : Dv → Option (List D)}
end
section
variable {X : Cx} {scope : Scope} {vars : List Str} {caps : List (Nat × Str)} {elt tg iter cnd : Expr} {pos : Pos} {g : TG} {fi : Dv → Option (List D)} {ft : Dv → Option Bool} {fe : Dv → Option D} {bv : D → Option (List D)}
end
/-! ### evaluation without the dead ways -/
def seqK (t : Sf) : Fl × Dv → Option (Fl × Dv)
  | (.nx, δ) => t δ
  | r => some r
@[simp] theorem seqK_nx (t : Sf) (δ : Dv) : seqK t (.nx, δ) = t δ := rfl
@[simp] theorem seqK_rt (t : Sf) (d : D) (δ : Dv) : seqK t (.rt d, δ) = some (.rt d, δ) := rfl
@[simp] theorem seqK_bk (t : Sf) (δ : Dv) : seqK t (.bk, δ) = some (.bk, δ) := rfl
@[simp] theorem seqK_ct (t : Sf) (δ : Dv) : seqK t (.ct, δ) = some (.ct, δ) := rfl
def ifK (u w : Sf) (δ : Dv) : Bool → Option (Fl × Dv)
  | true => u δ
  | false => w δ
@[simp] theorem ifK_t (u w : Sf) (δ : Dv) : ifK u w δ true = u δ := rfl
@[simp] theorem ifK_f (u w : Sf) (δ : Dv) : ifK u w δ false = w δ := rfl
theorem sSeq_k (s t : Sf) (δ : Dv) : sSeq s t δ = (s δ).bind (seqK t) := by
  unfold sSeq seqK
  congr 1
theorem sIf_k (t : Dv → Option Bool) (u w : Sf) (δ : Dv) : sIf t u w δ = (t δ).bind (ifK u w δ) := by
  unfold sIf
  congr 1
  funext c
  cases c <;> rfl
end VL

set_option Elab.async false
set_option linter.all false
set_option maxRecDepth 100000
set_option maxHeartbeats 4000000
namespace VL
open PySem PySem.Spec PyProof.Rows L2
/-! ### all, any, sum of a list; reversed; raise; extend -/
def blsD : List D → Option (List Bool)
  | [] => some []
  | .bool b :: r => (blsD r).map (b :: ·)
  | _ => none
def allD : List D → Option D
  | [.list xs] => (blsD xs).map fun bs => .bool (bs.all id)
  | _ => none
theorem blsD_map {α : Type} (f : α → Bool) : ∀ xs : List α, blsD (xs.map fun a => .bool (f a)) = some (xs.map f)
  | [] => rfl
  | a :: r => by simp [blsD, blsD_map f r]
theorem allD_map {α : Type} (f : α → Bool) (xs : List α) : allD [.list (xs.map fun a => .bool (f a))] = some (.bool (xs.all f)) := by
  simp [allD, blsD_map, List.all_map]
/-- list(reversed(x)) -/
def revLD : D → Option D
  | .list xs => some (.list xs.reverse)
  | _ => none
@[simp] theorem revLD_list (xs : List D) : revLD (.list xs) = some (.list xs.reverse) := rfl
/-- for .. in reversed(x) -/
def revI : D → Option (List D)
  | .list xs => some xs.reverse
  | .tuple xs => some xs.reverse
  | _ => none
@[simp] theorem revI_list (xs : List D) : revI (.list xs) = some xs.reverse := rfl
@[simp] theorem revI_tuple (xs : List D) : revI (.tuple xs) = some xs.reverse := rfl
@[simp] def sNo : Sf := fun _ => none
/-- x.extend(v) -/
@[simp] def sExt (i : Nat) (f : Dv → Option D) : Sf := fun δ => (f δ).bind fun v => (itsD v).bind fun es => (slO δ[i]?).bind fun ds => if ds.length + es.length ≤ sizeLine then some (.nx, δ.set i (.ow (ds ++ es))) else none

section
variable {X : Cx} {e : Expr} {es : List Expr} {p pos tpos apos : Pos} {f : Dv → Option D} {st : Stmt}
theorem bls_get {K : Fg} {Z : Hp} : ∀ {xs : List V} {ds : List D} {bs : List Bool} {its : List Value}, Reps K Z xs ds → Vals xs its → blsD ds = some bs → its.length = bs.length ∧ ∀ (i : Nat) (v : Value), its[i]? = some v → ∃ b, bs[i]? = some b ∧ v = .bool b
  | _, _, bs, _, .nil, .nil, h => by cases h; exact ⟨rfl, fun i v q => by simp at q⟩
  | _, _, bs, _, .cons r t, .cons q u, h => by
    cases r with
    | bl b =>
      unfold blsD at h
      cases g : blsD _ with
      | none => rw [g] at h; cases h
      | some cs =>
        rw [g] at h
        cases h
        obtain ⟨h1, h2⟩ := bls_get t u g
        refine ⟨by simp [h1], fun i v e => ?_⟩
        cases i with
        | zero => simp at e; subst e; exact ⟨b, rfl, q⟩
        | succ i => simp at e; simpa using h2 i v e
    | _ => cases h
theorem c_all (hc : X.calm = true) : CallR X (.builtin "all") (rDs X.K allD) := by
  intro pins s σ H xs us Q I rs q
  obtain ⟨Z, as, d, zh, ra, e, k⟩ := q
  cases ra with
  | nil => cases e
  | cons r1 r2 =>
    cases r2 with
    | cons _ _ => cases r1 <;> cases e
    | nil =>
      cases r1 with
      | @lst l ys ds h1 q1 =>
        have e : (blsD ds).map (fun bs => PyData.bool (bs.all id)) = some d := e
        cases g : blsD ds with
        | none => rw [g] at e; cases e
        | some bs =>
          rw [g] at e
          cases e
          obtain ⟨u, rfl, ru⟩ := vals1 rs
          cases ru
          obtain ⟨its, rv, pl, hz⟩ := I.list (SqL.same h1 zh)
          obtain ⟨hlen, hget⟩ := bls_get q1 rv g
          have hl := pl.isList
          have hlt : l < s.heap.objs.size := by obtain ⟨_, e, _⟩ := hl; exact Heap.lt_size e
          refine call_all_walk (wpAny_pyIter_list hl ?_)
          refine ⟨s.heap.objs.size, [s.heap.objs.size, l], [s.heap.objs.size], its.toArray.size, _, _, fun i => (bs[i]?).getD true, rfl, Walks.list (A := X.A.in1) (I.ok.hd hc) _ l (Nat.ne_of_lt hlt) its.toArray,
            ⟨⟨_, Heap.get?_push_size _ rfl, rfl, rfl⟩, hl.push _⟩, fun i v s' Q' E' hP hQ => ?_, fun h' tk hk => ?_⟩
          · obtain ⟨b, e, rfl⟩ := hget i v (by simpa using hP)
            simp only [e, Option.getD_some] at hQ
            exact wpAny_truthy_bool hQ
          · have e : ((List.range its.toArray.size).all fun i => (bs[i]?).getD true) = bs.all id := by
              rw [List.size_toArray, hlen]; exact LSm.range_all bs
            rw [e]
            exact ⟨.bl _, H, I.kept (t' := tk) (LSm.kept_iter hk), rfl, k _ Z H (New.refl zh) (.bl _)⟩
      | _ => cases e
theorem sv_no {st : Stmt} : SV X st sNo := fun pins s σ H D I h => by
  obtain ⟨_, _, _, _, _, _, e, _⟩ := h
  cases e
end
end VL

set_option Elab.async false
set_option linter.all false
set_option maxRecDepth 100000
set_option maxHeartbeats 4000000
namespace VL
open PySem PySem.Spec PyProof.Rows L2
/-! ### list(reversed(a list)) -/
section
variable {prog : Program} {w : World} {A : Around} {s : Shared} {R : Result → Shared → Prop}
variable {I : Addr} {fp wr : List Addr} {G : Array GenState → Array GenState → Prop} {n : Nat} {P : Nat → Value → Prop} {St : Nat → Shared → Prop}
end
section
variable {prog : Program} {w : World} {A : Around} {E : Value → Shared → Prop} {s : Shared}
variable {I : Addr} {fp wr : List Addr} {G : Array GenState → Array GenState → Prop} {n : Nat} {P : Nat → Value → Prop} {St : Nat → Shared → Prop}
end
section
variable {X : Cx} {e : Expr} {p p2 pos pos2 : Pos} {te : TE} {f : Dv → Option D}
end
end VL

set_option Elab.async false
set_option linter.all false
set_option maxRecDepth 100000
set_option maxHeartbeats 4000000
namespace VL
open PySem PySem.Spec PyProof.Rows L2
section
variable {prog : Program} {w : World} {A : Around} {E : Value → Shared → Prop} {s : Shared}
/-! the walk -/
def IsRv (h : Heap) (a l : Addr) (i : Int) : Prop := ∃ o, h.get? a = some o ∧ o.cls = .type "reversed" ∧ o.data = .fields #[.ref l, rawInt i]
theorem IsRv.typeIs {a l : Addr} {i : Int} (x : IsRv s.heap a l i) : s.TypeIs (.ref a) "reversed" := let ⟨o, ho, hc, _⟩ := x; ⟨o, ho, hc⟩
theorem IsRv.at {h h' : Heap} {a l : Addr} {i : Int} (x : IsRv h a l i) (e : ∀ o, h.get? a = some o → h'.get? a = some o) : IsRv h' a l i := let ⟨o, ho, r⟩ := x; ⟨o, e _ ho, r⟩
end
/-! ### for x in reversed(a tuple) -/
def revT : D → Option (List D)
  | .tuple xs => some xs.reverse
  | _ => none
@[simp] theorem revT_tuple (xs : List D) : revT (.tuple xs) = some xs.reverse := rfl
section
variable {X : Cx} {tg e : Expr} {p pos : Pos} {te : TE} {f : Dv → Option D}
end
end VL

set_option Elab.async false
set_option linter.all false
set_option maxRecDepth 100000
set_option maxHeartbeats 4000000
/-! Exceptions of the text's own classes: raised, passed on, caught, asked for their class. -/
namespace VL
open PySem PySem.Spec PyProof.Rows L2
/-! ### exceptions as plain data, and the functions of code that raises -/
def fnD (n : Str) : D := .dict [(.str "fn", .str n)]
abbrev Xf := Dv → Option (Str × Dv)
@[simp] def xNo : Xf := fun _ => none
@[simp] def xRaise (n : Str) (f : Dv → Option D) : Xf := fun δ => (f δ).bind fun _ => some (n, δ)
@[simp] def xE (f : Dv → Option Str) : Xf := fun δ => (f δ).bind fun n => some (n, δ)
@[simp] def xIf (t : Dv → Option Bool) (u w : Xf) : Xf := fun δ => (t δ).bind fun c => if c = true then u δ else w δ
@[simp] def xSeq (s : Sf) (u : Xf) : Xf := fun δ => (s δ).bind fun r => match r with
  | (.nx, δ') => u δ'
  | _ => none
@[simp] def xBoth (u1 : Xf) (s : Sf) (u : Xf) : Xf := fun δ => match u1 δ with
  | some r => some r
  | none => xSeq s u δ
@[simp] def osX (fs : Dv → Option (List D)) (g : List D → Option Str) : Dv → Option Str := fun δ => (fs δ).bind g
/-- on its way out of a call: outer the frames that run -/
structure Thrown (P : Program) (w : World) (outer : List Env) (H : Hp) (s : Shared) (x C : Addr) (H' : Hp) (s' : Shared) : Prop where
  os : s'.os = s.os
  bare : AllBare s'.gens
  un : Un (frs outer) [] H H' s.heap s'.heap
  hok : HOk P w H' s'.heap
  sm : Same H H'
  is : H' x = some (exO x C)
  fly : ∃ B t, Heap.FlyingW B outer x (.ref C) t s'.heap ∧ (∀ b o, H' b = some o → b ≠ x → ∃ ob, B.get? b = some ob) ∧ (∀ b o, s.heap.get? b = some o → H b = none → b ∉ frs outer → B.get? b = some o)
def CXX (P : Program) (w : World) : CXT := fun outer H s E e s' => ∃ x C H', e = .ref x ∧ Thrown P w outer H s x C H' s' ∧ E (.ref C) (some x) H'
section
variable {P : Program} {w : World} {K : PySem.W.Frag} {mg : Str → Option Value} {base : Heap} {N : List Str} {qual : Str} {scope : Scope} {f : Addr} {cd : Value} {A : Around} {outer : List Env} {s : Shared} {H : Hp} {E : XK} {pins : List (Addr × Obj)} {σ : St} {H1 H2 : Hp} {s1 s2 : Shared} {x C : Addr}
end
end VL

set_option Elab.async false
set_option linter.all false
set_option maxRecDepth 100000
set_option maxHeartbeats 4000000
namespace VL
open PySem PySem.Spec PyProof.Rows L2
/-! ### facts of a class -/
abbrev vMro : List Value := [.type "ValueError", .type "Exception", .type "BaseException", .type "object"]
structure ExcC (K : Fg) (n : Str) (C : Addr) : Prop where
  nm : PySem.W.nsIn K mainGlobals n = some (some (.ref C))
  ex : PySem.W.excIn K C vMro "ValueError.__new__" = true
  ga : PySem.W.findIn K (.ref C) "__getattribute__" = some (some (.builtin "BaseException.__getattribute__"))
  gt : PySem.W.findIn K (.ref C) "__getattr__" = some none
  cl : PySem.W.findIn K (.ref C) "__class__" = some (some (.builtin "object.__class__"))
  mo : PySem.W.mroIn K C (.type "object") = some true
  be : PySem.W.mroIn K C (.type "BaseException") = some true
section
variable {K : Fg} {n : Str} {C x : Addr}
variable {prog : Program} {w : World} {A : Around} {E : Value → Shared → Prop}
open Builtin Builtin.ObjectAttr Builtin.Getset_descriptor in
end
end VL

set_option Elab.async false
set_option linter.all false
set_option maxRecDepth 100000
set_option maxHeartbeats 4000000
namespace VL
open PySem PySem.Spec PyProof.Rows L2
section
variable {K : Fg} {n : Str} {C x : Addr} {prog : Program} {w : World} {A : Around} {E : Value → Shared → Prop}
end
/-! ### isinstance of an exception -/
inductive IsX (K : Fg) (D : Str) : List (Str × Bool) → Prop
  | nil : IsX K D []
  | cons {n : Str} {b : Bool} {t : List (Str × Bool)} {C dC : Addr} : ExcC K n C → PySem.W.nsIn K mainGlobals D = some (some (.ref dC)) → PySem.W.kitOne K (.ref C) (.ref dC) = some b → IsX K D t → IsX K D ((n, b) :: t)
inductive IsT (K : Fg) (D : String) : List (Str × Bool) → Prop
  | nil : IsT K D []
  | cons {n : Str} {b : Bool} {t : List (Str × Bool)} {C : Addr} : ExcC K n C → PySem.W.kitOne K (.ref C) (.type D) = some b → IsT K D t → IsT K D ((n, b) :: t)
theorem lookup_cons_some {n m : Str} {b c : Bool} {t : List (Str × Bool)} (h : List.lookup m ((n, b) :: t) = some c) : (m = n ∧ c = b) ∨ List.lookup m t = some c := by
  rw [List.lookup_cons] at h
  split at h
  · rename_i q; cases h; exact .inl ⟨by simpa using q, rfl⟩
  · exact .inr h
theorem IsX.get {K : Fg} {D : Str} {t : List (Str × Bool)} (h : IsX K D t) {n : Str} {b : Bool} (e : t.lookup n = some b) : ∃ C dC, ExcC K n C ∧ PySem.W.nsIn K mainGlobals D = some (some (.ref dC)) ∧ PySem.W.kitOne K (.ref C) (.ref dC) = some b := by
  induction h with
  | nil => cases e
  | cons h1 h2 h3 _ ih =>
    rcases lookup_cons_some e with ⟨rfl, rfl⟩ | e
    · exact ⟨_, _, h1, h2, h3⟩
    · exact ih e
theorem IsT.get {K : Fg} {D : String} {t : List (Str × Bool)} (h : IsT K D t) {n : Str} {b : Bool} (e : t.lookup n = some b) : ∃ C, ExcC K n C ∧ PySem.W.kitOne K (.ref C) (.type D) = some b := by
  induction h with
  | nil => cases e
  | cons h1 h3 _ ih =>
    rcases lookup_cons_some e with ⟨rfl, rfl⟩ | e
    · exact ⟨_, h1, h3⟩
    · exact ih e
section
variable {X : Cx} {a : Expr} {f : Dv → Option D} {p pos : Pos}
end
end VL

set_option Elab.async false
set_option linter.all false
set_option maxRecDepth 100000
set_option maxHeartbeats 4000000
namespace VL
open PySem PySem.Spec PyProof.Rows L2
/-! ### code that raises -/
inductive Flung (m : Bool) (X : Cx) (n : Str) (Z H : Hp) (s : Shared) (e : Value) (s' : Shared) : Prop
  | made {x C : Addr} {vs : List Value} : m = true → PySem.W.nsIn X.K mainGlobals n = some (some (.ref C)) → e = .ref x → s' = { s with heap := s'.heap } → Heap.MadeExcOf s.heap s'.heap x (.ref C) vs → Flung m X n Z H s e s'
  | thrown {x C : Addr} {H' Z' : Hp} : PySem.W.nsIn X.K mainGlobals n = some (some (.ref C)) → e = .ref x → Thrown X.prog X.w X.stack H s x C H' s' → New Z H Z' H' → Z' x = some (exO x C) → Flung m X n Z H s e s'
section
variable {m : Bool} {X : Cx} {e c : Expr} {es : List Expr} {f : Dv → Option D} {fs : Dv → Option (List D)} {ft : Dv → Option Bool} {fx : Dv → Option Str} {st : Stmt} {sts body orelse : List Stmt} {s1 : Sf} {u u1 u2 : Xf} {pos p : Pos}
/-! ### raise -/
structure ExcX (K : Fg) (n : Str) : Prop where
  ex : ∃ C, ExcC K n C
/-! ### a call that raises -/
def spX (K : Fg) (g : List D → Option Str) : Sp := fun vs H _ E => ∃ Z as n, Same Z H ∧ Reps K Z vs as ∧ g as = some n ∧ ∀ C x Z' H', PySem.W.nsIn K mainGlobals n = some (some (.ref C)) → New Z H Z' H' → Z' x = some (exO x C) → E (.ref C) (some x) H'
structure CalX (P : Program) (w : World) (K : PySem.W.Frag) (mg : Str → Option Value) (base : Heap) (x : Str) (k : Nat) (g : List D → Option Str) (dd : List D) : Prop where
  ex : ∃ (fa : Addr) (fd : FuncData) (ps : List Str) (ds : List Value) (dv : List V), FnOk P w K mg base (CXX P w) k fa fd ps (spX K g) ∧ mg x = some (.ref fa) ∧ PySem.W.keepIn K (.ref fa) = true ∧ Binds K fd ps ds ∧ Vals dv ds ∧ ∀ Z, Reps K Z dv dd
end
section
variable {P : Program} {w : World} {K : PySem.W.Frag} {mg : Str → Option Value} {base : Heap}
end
end VL

set_option Elab.async false
set_option linter.all false
set_option maxRecDepth 100000
set_option maxHeartbeats 4000000
namespace VL
open PySem PySem.Spec PyProof.Rows L2
/-! ### try: body except W as n: suite -/
inductive HndL (K : Fg) (W : Addr) : List Str → Prop
  | nil : HndL K W []
  | cons {n : Str} {t : List Str} {C : Addr} : ExcC K n C → PySem.W.subIn K (.ref C) (.ref W) = some true → HndL K W t → HndL K W (n :: t)
theorem HndL.get {K : Fg} {W : Addr} {t : List Str} (h : HndL K W t) {n : Str} (e : t.contains n = true) : ∃ C, ExcC K n C ∧ PySem.W.subIn K (.ref C) (.ref W) = some true := by
  induction h with
  | nil => cases e
  | cons h1 h2 _ ih =>
    rw [List.contains_cons, Bool.or_eq_true] at e
    rcases e with e | e
    · have := eq_of_beq e; subst this; exact ⟨_, h1, h2⟩
    · exact ih e
structure Hnd (K : Fg) (W : Str) (ns : List Str) : Prop where
  ex : ∃ wC, PySem.W.nsIn K mainGlobals W = some (some (.ref wC)) ∧ PySem.W.excIn K wC vMro "ValueError.__new__" = true ∧ HndL K wC ns
section
variable {X : Cx} {pins : List (Addr × Obj)} {σ : St} {H : Hp} {s : Shared}
end
section
variable {X : Cx} {body suite : List Stmt} {b₀ : Stmt} {b bs : Sf} {bx : Xf} {np hpos pos : Pos}
end
end VL

set_option Elab.async false
set_option linter.all false
set_option maxRecDepth 100000
set_option maxHeartbeats 4000000
namespace VL
open PySem PySem.Spec PyProof.Rows L2
/-! ### a test that looks at the one list of one's own -/
--PURE
def isOw : Sl → Bool
  | .ow _ => true
  | _ => false
@[simp] theorem isOw_fz (d : D) : isOw (.fz d) = false := rfl
@[simp] theorem isOw_un : isOw .un = false := rfl
def sole : Nat → Dv → Bool
  | _, [] => true
  | 0, _ :: r => r.all fun s => !isOw s
  | n + 1, s :: r => !isOw s && sole n r
@[simp] theorem sole_nil (n : Nat) : sole n [] = true := by cases n <;> rfl
@[simp] theorem sole_zero (s : Sl) (r : Dv) : sole 0 (s :: r) = r.all fun s => !isOw s := rfl
@[simp] theorem sole_succ (n : Nat) (s : Sl) (r : Dv) : sole (n + 1) (s :: r) = (!isOw s && sole n r) := rfl
--END
end VL

set_option Elab.async false
set_option linter.all false
set_option maxRecDepth 100000
set_option maxHeartbeats 4000000
namespace VL
open PySem PySem.Spec PyProof.Rows L2
/-! ### xs.count(x), xs.index(x) of flat items -/
--PURE
@[simp] def xThen (f : Dv → Option D) (u : Dv → Option Str) : Dv → Option Str := fun δ => (f δ).bind fun _ => u δ
--END
section
variable {X : Cx} {a b : Expr} {f1 f2 : Dv → Option D} {pos apos : Pos}
/-! ### what raises within a tuple's display -/
variable {m : Bool} {e : Expr} {es : List Expr} {f : Dv → Option D} {fx : Dv → Option Str} {x1 : Nat}
end
end VL

set_option Elab.async false
set_option linter.all false
set_option maxRecDepth 100000
set_option maxHeartbeats 4000000
namespace VL
open PySem PySem.Spec PyProof.Rows L2
/-! ### defs of the text as values -/
--PURE
def fnName : D → Option Str
  | .dict [(.str k, .str n)] => if k = "fn" then some n else none
  | _ => none
theorem fnName_fn (n : Str) : fnName (fnD n) = some n := by simp [fnName, fnD]
/-- a call of the def that a slot holds, one of the table -/
def oCallV (i : Nat) (fs : Dv → Option (List D)) (tbl : List (Str × (List D → Option D))) : Dv → Option D := fun δ => (oV i δ).bind fun d => (fnName d).bind fun n => (tbl.lookup n).bind fun g => (fs δ).bind g
/-- x.extend(a list) -/
@[simp] def sExtL (i : Nat) (f : Dv → Option D) : Sf := fun δ => (f δ).bind fun v => (lstI v).bind fun es => (slO δ[i]?).bind fun ds => if ds.length + es.length ≤ sizeLine then some (.nx, δ.set i (.ow (ds ++ es))) else none
--END
theorem fnName_eq {d : D} {n : Str} (h : fnName d = some n) : d = fnD n := by
  unfold fnName at h
  split at h
  · split at h
    · rename_i hk; subst hk; cases h; rfl
    · cases h
  · cases h
/-- a def of the text under its name -/
structure CalF (P : Program) (w : World) (K : PySem.W.Frag) (mg : Str → Option Value) (base : Heap) (x : Str) (k : Nat) (g : List D → Option D) : Prop where
  ex : ∃ (fa : Addr) (fd : FuncData) (ps : List Str), FnOk P w K mg base CX0 k fa fd ps (spD K g) ∧ PySem.W.nsIn K mainGlobals x = some (some (.ref fa)) ∧ mg x = some (.ref fa) ∧ PySem.W.keepIn K (.ref fa) = true ∧ Binds K fd ps []
theorem hT_nil {P : Program} {w : World} {K : PySem.W.Frag} {mg : Str → Option Value} {base : Heap} {k : Nat} : ∀ n g, ([] : List (Str × (List D → Option D))).lookup n = some g → ∃ j, j ≤ k ∧ CalF P w K mg base n j g := fun _ _ h => by cases h
theorem hT_cons {P : Program} {w : World} {K : PySem.W.Frag} {mg : Str → Option Value} {base : Heap} {k j : Nat} {c : Str} {gc : List D → Option D} {tbl : List (Str × (List D → Option D))} (hj : j ≤ k) (V : CalF P w K mg base c j gc) (h : ∀ n g, tbl.lookup n = some g → ∃ j, j ≤ k ∧ CalF P w K mg base n j g) : ∀ n g, ((c, gc) :: tbl).lookup n = some g → ∃ j, j ≤ k ∧ CalF P w K mg base n j g := fun n g e => by
  rw [List.lookup_cons] at e
  split at e
  · rename_i hn
    cases e
    have : n = c := by simpa using hn
    subst this
    exact ⟨j, hj, V⟩
  · exact h n g e
structure Fnm (K : PySem.W.Frag) (mg : Str → Option Value) (x : Str) : Prop where
  ex : ∃ fa, PySem.W.nsIn K mainGlobals x = some (some (.ref fa)) ∧ mg x = some (.ref fa)
section
variable {X : Cx} {e : Expr} {es : List Expr} {p pos : Pos} {fs : Dv → Option (List D)}
theorem ev_fname {x : Str} (F : Fnm X.K X.mg x) (hg : Gl X x) (hdb : (x == ("__debug__" : Str)) = false := by decide) : EV X (.Name x pos) (oC (fnD x)) := by
  obtain ⟨fa, h1, h2⟩ := F.ex
  exact ev_c (pe_glob (v := .ref fa) (u := .ref fa) hg h2 rfl hdb) fun Z => .opq (.fn h1)
theorem ev_callv (i : Nat) {x : Str} {k : Nat} {tbl : List (Str × (List D → Option D))} (hT : ∀ n g, tbl.lookup n = some g → ∃ j, j ≤ k ∧ CalF X.prog X.w X.K X.mg X.base n j g) (hr : Room k X.A) (ha : AV X (e :: es) fs) (hN : X.N[i]? = some x := by rfl) (hv : Vis X.env.scope x := by first | exact Or.inl rfl | exact Or.inr (Or.inl rfl) | exact Or.inr (Or.inr rfl)) (hdb : (x == ("__debug__" : Str)) = false := by decide) (hcd : (x == ("__classdict__" : Str)) = false := by decide)
    (he : starEach (e :: es) X.env = (false, eval e X.env) :: starEach es X.env := by rfl) (hpl : (backTo pos (starEach es X.env)).any (·.1) = false := by rfl) : EV X (.Call (.Name x p) (e :: es) [] pos) (oCallV i fs tbl) := by
  intro pins s σ H Q I h
  obtain ⟨H₀, Z₀, Z, δ, d, hh, e0, kk⟩ := h
  unfold oCallV at e0
  obtain ⟨c, e1, e0⟩ := bind_some e0
  obtain ⟨n, e2, e4⟩ := bind_some e0
  obtain ⟨g, e3, e5⟩ := bind_some e4
  have := fnName_eq e2
  subst this
  obtain ⟨v, hσ, rv⟩ := hh.fz i _ (oV_eq e1)
  obtain ⟨j, hj, CF⟩ := hT n g e3
  obtain ⟨fa, fd, ps, F, hns, hm, hk, hb⟩ := CF.ex
  have hva : v = .ref fa := by
    cases rv with
    | opq o =>
      cases o with
      | fn h1 => rw [hns] at h1; cases h1; rfl
  subst hva
  refine wpAny_Call_Name_kw (thn (pe_var hN hv hdb hcd pins s σ H (fun v' H' => v' = .ref fa ∧ H' = H) I ⟨_, hσ, rfl, rfl⟩) fun u s1 hq => ?_)
  obtain ⟨v', H', I1, r1, hv', hH'⟩ := hq
  subst hv'
  subst hH'
  cases (show u = Value.ref fa from r1)
  have ht : tV X.K (os fs g) σ H' Q := ⟨H₀, Z₀, Z, δ, d, hh, e5, kk⟩
  obtain ⟨H₀', Z₀', Z', δ', xs, hh', ea, q⟩ := args ht
  refine PySem.W.callWith_K (h₀ := X.base) I1.ok.mod.kin hk (thn (ha pos pins s1 σ H' (fun vs H1 => spD X.K g (vs ++ []) H1 Q E0) I1 ⟨H₀', Z₀', Z', δ', xs, hh', ea, fun vs Z1 H1 hh1 t1 r1 => ?_⟩) fun us s2 ⟨vs, H1, I2, r, q2⟩ => ⟨I2.kIn, run_fn F (hr.mono hj) hb .nil pass0 I2 r q2⟩) he hpl
  show spD X.K g (vs ++ []) H1 Q E0
  rw [List.append_nil]
  exact q vs Z1 H1 hh1 t1 r1
end
theorem extend_gen (l : Addr) (items : Array Value) (n : Nat) (b : Addr) (items2 : Array Value) (n2 : Nat) (sl : Array (Option Value)) (hc0 : ¬(!items.isEmpty && Builtin.List.listTooLong (items.size + items2.size)) = true) (hc1 : items.size ≤ sizeLine) (hs2 : items.size + items2.size ≤ sizeLine + 1) :
    Meets (Builtin.«list.extend» ⟨[.ref l, .ref b], []⟩) (fun _ R s => s.heap.get? l = some { cls := .type "list", dict := none, data := .seq items n, slots := #[] } ∧ s.heap.get? b = some { cls := .type "list", dict := none, data := .seq items2 n2, slots := sl } ∧ R (.ok (.ret Value.none)) { s with heap := s.heap.update l (Obj.mapSeq fun x => x ++ items2), toks := s.toks }) :=
  .of_wp fun prog w A R s h => by
    obtain ⟨hp, g, d, tk, os⟩ := s; obtain ⟨hl, hb, h⟩ := h; have f1 := AutoSeq1.idx_int; have f2 := AutoSeq1.sub_tuple_tuple; have f3 := AutoSeq1.sub_list_list; have f4 := AutoSeq1.sub_tuple_list; have f5 := AutoSeq1.sub_list_tuple;
    have hz' : (items ++ items2).size ≤ sizeLine + 1 := by rw [Array.size_append]; exact hs2
    wp_walk using (wpAny_updateSeq hl rfl (hz := hc1) (_hz' := hz')), AutoSeq1.wpAny_loadPart' hl, AutoSeq1.wpAny_loadPart' hb; exact ⟨_, rfl, h⟩
def rExtK (K : Fg) : V → List V → Hp → VK → Prop := fun x vs H Q => ∃ l b xs zs, x = .ref l ∧ vs = [.ref b] ∧ H l = some (.lst xs) ∧ SqL K H b zs ∧ xs.length + zs.length ≤ sizeLine ∧ Q .non (upd H l (.lst (xs ++ zs)))
section
variable {X : Cx}
theorem mt_extK : MtM X "list.extend" (rExtK X.K) := by
  intro pins s σ H x vs v us Q I rx rv h
  obtain ⟨l, b, xs, zs, rfl, rfl, hH, hB, hz, q⟩ := h
  cases rx
  obtain ⟨u, rfl, ru⟩ := rv.one
  cases ru
  obtain ⟨z, its, n, r, hl, e⟩ := I.lstM hH
  obtain ⟨its2, r2, ⟨o2, n2, e2, hc, hd, hs⟩, z2⟩ := I.list hB
  have hl2 := r2.length
  obtain ⟨c2, d2, dt2, sl2⟩ := o2
  dsimp only at hc hd hs
  subst hc hd hs
  have hsz : its.toArray.size + its2.toArray.size ≤ sizeLine := by rw [List.size_toArray, List.size_toArray]; omega
  have hlong : ¬ (!its.toArray.isEmpty && Builtin.List.listTooLong (its.toArray.size + its2.toArray.size)) = true := by
    rw [notLongL hsz, Bool.and_false]
    exact Bool.false_ne_true
  refine call_meets F.slot_list_extend ⟨_, e, rfl⟩ F.entry_list_extend (F.args_list_extend_2 _ _)
    (extend_gen l its.toArray n b its2.toArray n2 sl2 hlong (by rw [List.size_toArray]; omega) (by omega)) ⟨e, e2, ?_⟩
  refine ⟨.non, _, I.lset (its' := its ++ its2) hH e (by simp) (r.append r2) ?_, rfl, q⟩
  rw [List.length_append]
  omega
end
section
variable {X : Cx} {e : Expr} {f : Dv → Option D} {p pos apos : Pos}
theorem sv_extL (i : Nat) {x : Str} {cpos : Pos} (hv' : EV X e f) (hN : X.N[i]? = some x := by rfl) (hv : Vis X.env.scope x := by first | exact Or.inl rfl | exact Or.inr (Or.inl rfl) | exact Or.inr (Or.inr rfl)) (hd : (x == ("__debug__" : Str)) = false := by decide) (hcd : (x == ("__classdict__" : Str)) = false := by decide)
    (hbase : attributeBase (.Name x p) "extend" X.env (eval (.Name x p) X.env) = eval (.Name x p) X.env := by rfl)
    (hfew : ((backTo cpos (starEach [e] X.env)).all (fun x => !x.1) && (backToKw cpos (keywordEach [] X.env)).all (fun x => x.1.isSome)
      && decide ([e].length + ([] : List Keyword).length + (if ([] : List Keyword).isEmpty then 0 else 1) < 30)) = true := by rfl)
    (hline : (apos.endLine == cpos.line) = true := by rfl) (hs : starEach [e] X.env = (false, eval e X.env) :: starEach [] X.env := by rfl) (hplain : (backTo cpos (starEach [] X.env)).any (·.1) = false := by rfl)
    (hsw : swapsWith (.Call (.Attribute (.Name x p) "extend" apos) [e] [] cpos) none pos.line X.env = pure false := by rfl) : SV X (.Expr (.Call (.Attribute (.Name x p) "extend" apos) [e] [] cpos) pos) (sExtL i f) :=
  PS.imp (ps_expr (pe_bm PySem.F.plainAttrs_list PySem.F.slot_list_extend PySem.F.type_list_extend mt_extK (pe_var hN hv hd hcd) (pa_cons hv' pa_nil hs) hbase hfew hline hs hplain) hsw) fun D σ H h => by
    obtain ⟨H₀, Z₀, Z, δ, r, hh, e, k⟩ := h
    obtain ⟨v, e1, e⟩ := bind_some e
    obtain ⟨es, e3, e⟩ := bind_some e
    obtain ⟨ds, e2, e⟩ := bind_some e
    by_cases hl : ds.length + es.length ≤ sizeLine
    · rw [if_pos hl] at e
      cases e
      cases v with
      | list es' =>
        cases e3
        obtain ⟨a, xs, h1, h4, h5⟩ := ow_at hh e2
        refine ⟨_, h1, .inl ⟨rfl, xs, SqL.of h4⟩, H₀, Z₀, Z, δ, _, hh, e1, fun w Z1 H1 hh1 t1 r1 => ?_⟩
        obtain ⟨a', xs', g1, g4, g5⟩ := ow_at hh1 e2
        rw [h1] at g1
        cases g1
        cases r1 with
        | lst q1 q2 =>
          exact ⟨a, _, xs', _, rfl, rfl, g4, SqL.same q1 hh1.zh, by rw [g5.length, q2.length]; exact hl, k σ _ Z1 (hh1.chg (xs := xs') (slO_eq e2) h1 (g5.append q2)) t1⟩
      | _ => cases e3
    · rw [if_neg hl] at e; cases e
end
/-- a comprehension that takes nothing from around it -/
theorem BlkOk.none {on : List (Str × NameKind)} {ON : List Str} {scope : Scope} {vars : List Str} (hk : scope.kind = .function) (hc : ∀ y ∈ scope.names, y.2 ≠ .cell) (hn : ∀ y ∈ scope.names, y.2 = .local → scope.names.lookup y.1 = some .local) (hf : ∀ y ∈ scope.names, y.2 ≠ .free) : BlkOk on ON scope vars [] :=
  ⟨hk, hc, hn, fun y hy e => absurd e (hf y hy), fun p hp => (nomatch hp)⟩
end VL

set_option Elab.async false
set_option linter.all false
set_option maxRecDepth 100000
set_option maxHeartbeats 4000000
namespace VL
open PySem PySem.Spec PyProof.Rows L2
/-! ### a list times an int -/
--PURE
--END
section
variable {X : Cx}
variable {a b : Expr} {pos : Pos} {f1 f2 : Dv → Option D}
end
end VL

set_option Elab.async false
set_option linter.all false
set_option maxRecDepth 100000
set_option maxHeartbeats 4000000
namespace VL
open PySem PySem.Spec PyProof.Rows L2
/-! ### a comprehension whose variable another comprehension within it takes along -/
theorem cellsNone : ∀ (l : List (Str × NameKind)) (n : Nat) (acc : List (Str × Addr)) (h : Heap), (l.filter fun y => y.2 == NameKind.cell) = [] → cellsFrom n l acc = acc ∧ pushCells h l = h
  | [], _, _, _, _ => ⟨rfl, rfl⟩
  | (x, k) :: r, n, acc, h, e => by
    cases hk : k == NameKind.cell with
    | true => simp [List.filter_cons, hk] at e
    | false =>
      have e' : (r.filter fun y => y.2 == NameKind.cell) = [] := by simpa [List.filter_cons, hk] using e
      have := cellsNone r n acc h e'
      unfold cellsFrom pushCells
      rw [hk]
      exact this
theorem cellsOne {m : Str} : ∀ (l : List (Str × NameKind)) (n : Nat) (acc : List (Str × Addr)) (h : Heap), (l.filter fun y => y.2 == NameKind.cell) = [(m, NameKind.cell)] → cellsFrom n l acc = (m, n) :: acc ∧ pushCells h l = h.push { cls := .type "cell", data := .cell none }
  | [], _, _, _, e => by simp at e
  | (x, k) :: r, n, acc, h, e => by
    cases hk : k == NameKind.cell with
    | true =>
      have e' : (x, k) = (m, NameKind.cell) ∧ (r.filter fun y => y.2 == NameKind.cell) = [] := by simpa [List.filter_cons, hk] using e
      have ex : x = m := (Prod.mk.inj e'.1).1
      subst ex
      unfold cellsFrom pushCells
      rw [hk]
      exact cellsNone r _ _ _ e'.2
    | false =>
      have e' : (r.filter fun y => y.2 == NameKind.cell) = [(m, NameKind.cell)] := by simpa [List.filter_cons, hk] using e
      have := cellsOne r n acc h e'
      unfold cellsFrom pushCells
      rw [hk]
      exact this
theorem wpAny_newFunctionEnv1 {M : Model} {A : Around} {E : Value → Shared → Prop} {s : Shared} {scope : Scope} {globals : Addr} {closure : List (Str × Addr)} {qual : Str} {func : Option Addr} {code : Value} {env : Env} {builtins : Addr} {Q : Env → Shared → Prop} {m : Str}
    (one : (scope.names.filter fun y => y.2 == NameKind.cell) = [(m, NameKind.cell)]) (hk : scope.kind = .function)
    (hQ : Q (newEnv scope s.heap.objs.size globals ((m, s.heap.objs.size + 1) :: closure) qual func code (some env) builtins) { s with heap := (s.heap.push { cls := .type "dict", data := .dict #[] }).push { cls := .type "cell", data := .cell none } }) :
    wpAny M A (newFunctionEnv scope globals closure [] qual func code (some env) builtins) Q E s := by
  simp only [newFunctionEnv, Option.isSome_some, if_true]
  refine wpAny_bind (wpAny_alloc ?_)
  refine wpAny_bind (wpAny_layCells _ (fun name kind cells => by cases hkc : kind == NameKind.cell <;> simp [hkc]) _ _ _ _ ?_)
  obtain ⟨e1, e2⟩ := cellsOne scope.names (s.heap.push { cls := .type "dict", data := .dict #[] }).objs.size closure (s.heap.push { cls := .type "dict", data := .dict #[] }) one
  have e3 := Heap.size_push s.heap { cls := .type "dict", data := .dict #[] }
  rw [e3] at e1
  dsimp only
  rw [e3, e1, e2]
  refine wpAny_bind ?_
  rw [List.forIn_nil]
  exact wpAny_pure (wpAny_pure hQ)
theorem relabel_fwd {env : Env} {y : Str} : ∀ (l : List (Str × NameKind)), (l.lookup y = some .cell ∨ l.lookup y = some .free) →
    ((l.map fun (n, k) => if (k == NameKind.free && env.scope.kind == .function && env.kindOf n == some .cell) then (n, NameKind.cell) else (n, k)).lookup y = some .cell ∨ (l.map fun (n, k) => if (k == NameKind.free && env.scope.kind == .function && env.kindOf n == some .cell) then (n, NameKind.cell) else (n, k)).lookup y = some .free)
  | [], h => by simp at h
  | (n, k) :: r, h => by
    have ih := relabel_fwd (env := env) (y := y) r
    rw [List.map_cons]
    cases hy : y == n with
    | true =>
      have h : some k = some NameKind.cell ∨ some k = some NameKind.free := by simpa [List.lookup_cons, hy] using h
      by_cases hc : (k == NameKind.free && env.scope.kind == .function && env.kindOf n == some .cell) = true
      · left; simp [hc, List.lookup_cons, hy]
      · simp only [if_neg hc, List.lookup_cons, hy]; exact h
    | false =>
      have h : r.lookup y = some NameKind.cell ∨ r.lookup y = some NameKind.free := by simpa [List.lookup_cons, hy] using h
      by_cases hc : (k == NameKind.free && env.scope.kind == .function && env.kindOf n == some .cell) = true
      · simp only [if_pos hc, List.lookup_cons, hy]; exact ih h
      · simp only [if_neg hc, List.lookup_cons, hy]; exact ih h
theorem relabel_bwd {env : Env} {y : Str} : ∀ (l : List (Str × NameKind)),
    ((l.map fun (n, k) => if (k == NameKind.free && env.scope.kind == .function && env.kindOf n == some .cell) then (n, NameKind.cell) else (n, k)).lookup y = some .cell ∨ (l.map fun (n, k) => if (k == NameKind.free && env.scope.kind == .function && env.kindOf n == some .cell) then (n, NameKind.cell) else (n, k)).lookup y = some .free) → (l.lookup y = some .cell ∨ l.lookup y = some .free)
  | [], h => by simp at h
  | (n, k) :: r, h => by
    have ih := relabel_bwd (env := env) (y := y) r
    rw [List.map_cons] at h
    cases hy : y == n with
    | true =>
      simp only [List.lookup_cons, hy]
      by_cases hc : (k == NameKind.free && env.scope.kind == .function && env.kindOf n == some .cell) = true
      · have hf : k = .free := by
          simp only [Bool.and_eq_true] at hc
          simpa using hc.1.1
        exact .inr (by rw [hf])
      · simp only [if_neg hc, List.lookup_cons, hy] at h; exact h
    | false =>
      simp only [List.lookup_cons, hy]
      by_cases hc : (k == NameKind.free && env.scope.kind == .function && env.kindOf n == some .cell) = true
      · simp only [if_pos hc, List.lookup_cons, hy] at h; exact ih h
      · simp only [if_neg hc, List.lookup_cons, hy] at h; exact ih h
/-- the context of the block -/
def blkC (X : Cx) (scope : Scope) (m : Str) (N : List Str) (C : Addr) (s₀ : Shared) (H₀ : Hp) (ex : List Addr) : Cx :=
  { X with N := N, s₀ := s₀, H₀ := H₀, env := compEnvC scope ((m, C + 1) :: clos X.env scope.names []) C X.env, outer := X.stack, stack := X.stack, ex := ex, fn := fun x => x == m, pn := [], xe := fun _ _ => False }
structure BlkOkC (on : List (Str × NameKind)) (ON : List Str) (scope : Scope) (m : Str) (vars : List Str) (caps : List (Nat × Str)) : Prop where
  kind : scope.kind = .function
  one : (scope.names.filter fun y => y.2 == NameKind.cell) = [(m, NameKind.cell)]
  names : ∀ y ∈ scope.names, y.2 = .local → scope.names.lookup y.1 = some .local
  free : ∀ y ∈ scope.names, y.2 = .free → on.lookup y.1 = some .cell ∨ on.lookup y.1 = some .free
  cap : ∀ p ∈ caps, ON[p.1]? = some p.2 ∧ scope.names.lookup p.2 = some .free
  mc : scope.names.lookup m = some .cell
theorem consC {m y : Str} {a c : Addr} {cs : List (Str × Addr)} (e : ((m, a) :: cs).lookup y = some c) : (y = m ∧ c = a) ∨ cs.lookup y = some c := by
  rw [List.lookup_cons] at e
  cases hy : y == m with
  | true =>
    rw [hy] at e
    exact .inl ⟨by simpa using hy, (Option.some.inj e).symm⟩
  | false => rw [hy] at e; exact .inr e
section
variable {X : Cx} {pins : List (Addr × Obj)} {σ : St} {H H' : Hp} {s s' : Shared} {scope : Scope} {m : Str} {vars : List Str} {caps : List (Nat × Str)} {fp : List Addr} {C : Addr}
theorem BlkOkC.cells (B : BlkOkC X.env.scope.names X.N scope m vars caps) (I : Inv X pins σ H s) : ∀ y ∈ scope.names, y.2 = .free → ∃ c, X.env.cells.lookup y.1 = some c := fun y hy e => I.ok.has y.1 (B.free y hy e)
theorem oldC (I : Inv X pins σ H s) {x : Str} {c : Addr} (e : X.env.cells.lookup x = some c) : c < s.heap.objs.size := by
  obtain ⟨v, o, ho, _⟩ := I.cell x c e
  exact Heap.lt_size ho
theorem blkC_ok (B : BlkOkC X.env.scope.names X.N scope m vars caps) (I : Inv X pins σ H s) (hf : ∀ b ∈ fp, FpOk X pins H b) (hlt : ∀ b ∈ fp, b < s.heap.objs.size) (hC : s.heap.objs.size ≤ C) : (blkC X scope m (vars ++ caps.map (·.2)) C s H fp).Ok where
  mod := I.ok.mod
  kind := B.kind
  glob := I.ok.glob
  blt := I.ok.blt
  above := hC
  inj := fun x y c e1 e2 => by
    have far : ∀ {z : Str} {d : Addr}, (clos X.env scope.names []).lookup z = some d → d ≠ C + 1 := fun {z d} e q => by
      rcases clos_lookup _ _ _ _ (B.cells I) e with w | w
      · cases w
      · have := oldC I w
        rw [q] at this
        exact absurd (Nat.lt_of_lt_of_le this (Nat.le_succ_of_le hC)) (Nat.lt_irrefl _)
    rcases consC e1 with ⟨a1, b1⟩ | q1
    · rcases consC e2 with ⟨a2, b2⟩ | q2
      · rw [a1, a2]
      · exact absurd b1 (far q2)
    · rcases consC e2 with ⟨a2, b2⟩ | q2
      · exact absurd b2 (far q1)
      · rcases clos_lookup _ _ _ _ (B.cells I) q1 with q1 | q1
        · cases q1
        · rcases clos_lookup _ _ _ _ (B.cells I) q2 with q2 | q2
          · cases q2
          · exact I.ok.inj x y c q1 q2
  has := fun x e => by
    show ∃ c, ((m, C + 1) :: clos X.env scope.names []).lookup x = some c
    rw [List.lookup_cons]
    cases hx : x == m with
    | true => exact ⟨_, rfl⟩
    | false =>
      rcases relabel_bwd scope.names e with q | q
      · have : (x, NameKind.cell) ∈ (scope.names.filter fun y => y.2 == NameKind.cell) := List.mem_filter.mpr ⟨PySem.mem_of_lookup q, rfl⟩
        rw [B.one] at this
        have : (x, NameKind.cell) = (m, NameKind.cell) := by simpa using this
        rw [(Prod.mk.inj this).1] at hx
        simp at hx
      · exact Option.isSome_iff_exists.mp (clos_has (env := X.env) scope.names [] x (.inl (PySem.mem_of_lookup q)))
  cab := fun x c e q => by
    have e : x = m := by simpa [blkC] using e
    rcases consC q with ⟨_, b⟩ | w
    · rw [b]; exact Nat.le_succ_of_le hC
    · subst e
      rcases clos_lookup _ _ _ _ (B.cells I) w with w' | w'
      · cases w'
      · have q : ((x, C + 1) :: clos X.env scope.names []).lookup x = some c := q
        rw [List.lookup_cons] at q
        simp at q
        rw [← q]; exact Nat.le_succ_of_le hC
  hd := I.ok.hd
  frames := I.ok.frames
  stk := .inl rfl
  exf := fun b hb => ⟨Nat.ne_of_lt (Nat.lt_of_lt_of_le (hlt b hb) hC), fun x c e => by
    rcases consC e with ⟨_, q⟩ | e
    · intro z
      rw [← z, q] at hb
      exact absurd (Nat.lt_of_lt_of_le (hlt _ hb) (Nat.le_succ_of_le hC)) (Nat.lt_irrefl _)
    · rcases clos_lookup _ _ _ _ (B.cells I) e with q | q
      · cases q
      · exact (hf b hb).2.2.2.2.1 x c q⟩
  bs := I.bs
  bsz := Nat.le_trans I.ok.bsz I.sz
  noex := fun b o e hb => by
    rcases (hf b hb).2.2.2.1 with z | z
    · exact I.ok.noex b o e z
    · exact absurd (Nat.lt_of_lt_of_le (Heap.lt_size e) (Nat.le_trans I.ok.bsz z)) (Nat.lt_irrefl _)
  exfs := fun b hb z => by
    rcases List.mem_cons.mp (I.stkSub b z) with q | q
    · exact (hf b hb).2.1 q
    · exact (hf b hb).2.2.1 q
  funs := I.stack
  frf := I.stkFree
theorem blkC_inv (B : BlkOkC X.env.scope.names X.N scope m vars caps) (I : Inv X pins σ H s) (hf : ∀ b ∈ fp, FpOk X pins H b) (hlt : ∀ b ∈ fp, b < s.heap.objs.size) (hC : s.heap.objs.size ≤ C) {h₁ : Heap} {mm : Str → Option Value} {tk : Nat} (hns : h₁.Ns C mm) (hcl : h₁.IsCell (C + 1) none) (old : ∀ b o, s.heap.get? b = some o → h₁.get? b = some o) :
    Inv (blkC X scope m (vars ++ caps.map (·.2)) C s H fp) [] (vars.map (fun _ => none) ++ capV σ caps) H { s with heap := h₁, toks := tk } := by
  refine ⟨blkC_ok B I hf hlt hC, rfl, I.bare, Un.kept old, ⟨mm, hns, fun i x v e1 e2 e3 => ?_⟩, fun x c e => ?_, I.hok.fresh hC, fun x c e => ?_, fun p hp => absurd (show p ∈ ([] : List (Addr × Obj)) from hp) (by simp), I.hok.kept old, ?_⟩
  · have e1 : (vars ++ caps.map (·.2))[i]? = some x := e1
    by_cases hi : i < vars.length
    · rw [List.getElem?_append_left (by simpa using hi), List.getElem?_map] at e2
      cases q : vars[i]? <;> rw [q] at e2 <;> cases e2
    · rw [List.getElem?_append_right (by simpa using hi)] at e1 e2
      simp only [List.length_map] at e2
      unfold capV at e2
      rw [List.getElem?_map] at e1 e2
      cases q : caps[i - vars.length]? with
      | none => rw [q] at e1; cases e1
      | some p =>
        rw [q] at e1 e2
        cases e1
        have hp := List.mem_of_getElem? q
        obtain ⟨g1, g2⟩ := B.cap p hp
        have gf : X.env.scope.names.lookup p.2 = some .cell ∨ X.env.scope.names.lookup p.2 = some .free := B.free (p.2, .free) (PySem.mem_of_lookup g2) rfl
        have ev : σ[p.1]? = some (some v) := by
          have e2 : (σ[p.1]?).getD none = some v := Option.some.inj e2
          cases z : σ[p.1]? with
          | none => rw [z] at e2; cases e2
          | some w => rw [z] at e2; rw [show w = some v from e2]
        obtain ⟨m', _, hl⟩ := I.loc
        obtain ⟨u, r, l⟩ := hl p.1 p.2 v g1 ev (gf.elim (fun z => .inr (.inl z)) fun z => .inr (.inr z))
        refine ⟨u, r, .inr ⟨?_, ?_⟩⟩
        · exact relabel_fwd scope.names (.inr g2)
        · rcases l with ⟨z, _⟩ | ⟨_, c, ec, hc⟩
          · have z : X.env.scope.names.lookup p.2 = some .local := z
            rcases gf with w | w <;> rw [z] at w <;> cases w
          · obtain ⟨c', q'⟩ := Option.isSome_iff_exists.mp (clos_has (env := X.env) scope.names [] p.2 (.inl (PySem.mem_of_lookup g2)))
            rcases clos_lookup _ _ _ _ (B.cells I) q' with w | w
            · cases w
            · rw [ec] at w
              cases w
              obtain ⟨o, ho, hd⟩ := hc
              refine ⟨c, ?_, o, old c o ho, hd⟩
              show ((m, C + 1) :: clos X.env scope.names []).lookup p.2 = some c
              rw [List.lookup_cons]
              cases hy : p.2 == m with
              | true =>
                have hy : p.2 = m := by simpa using hy
                have := B.mc
                rw [← hy, g2] at this
                cases this
              | false => exact q'
  · rcases consC e with ⟨_, q⟩ | e
    · rw [q]; exact ⟨none, hcl⟩
    · rcases clos_lookup _ _ _ _ (B.cells I) e with q | q
      · cases q
      · obtain ⟨v, o, ho, hd⟩ := I.cell x c q
        exact ⟨v, o, old c o ho, hd⟩
  · rcases consC e with ⟨_, q⟩ | e
    · rw [q]; exact I.hok.fresh (Nat.le_succ_of_le hC)
    · rcases clos_lookup _ _ _ _ (B.cells I) e with q | q
      · cases q
      · exact I.freeC x c q
  · simp [blkC, capV]
theorem blkC_out (I : Inv X pins σ H s) (hf : ∀ b ∈ fp, FpOk X pins H b) {D : Addr} {s' : Shared} {σ' : St} {N : List Str} {ys : List V} {its : List Value} (hC : s.heap.objs.size ≤ C) (hD : s.heap.objs.size ≤ D) (hDC : D ≠ C)
    (J : Inv (blkC X scope m N C s H fp) [] σ' H' s') (hD' : H' D = none) (hp : s'.heap.PlainList D its.toArray) (hv : Vals ys its) (hz : ys.length ≤ sizeLine) {h' : Heap} (hs : Heap.SameBut C s'.heap h') :
    Inv X pins σ (upd H' D (.lst ys)) { s' with heap := h' } := by
  have U : Un (frs X.stack) fp H H' s.heap s'.heap := J.base
  have neC : ∀ b o, s.heap.get? b = some o → b ≠ C := fun b o e => Nat.ne_of_lt (Nat.lt_of_lt_of_le (Heap.lt_size e) hC)
  have neD : ∀ b o, s.heap.get? b = some o → b ≠ D := fun b o e => Nat.ne_of_lt (Nat.lt_of_lt_of_le (Heap.lt_size e) hD)
  have mv : ∀ b o, b ≠ C → s'.heap.get? b = some o → h'.get? b = some o := fun b o hb e => hs.extBut b o hb e
  have tD : ∀ b o, H' b = some o → (upd H' D (.lst ys)) b = some o := fun b o e => by rw [upd_ne (ne_of_none e hD')]; exact e
  refine I.call' (s' := { s' with heap := h' }) (ch := fp) J.os ⟨fun b o e n h1 h2 => mv b o (neC b o e) (U.keep b o e n h1 h2), fun b o e n h1 h2 => ?_, fun b o e n h2 => ?_, fun b o e h2 => ?_, fun b xs e => tD _ _ (U.tups b xs e), fun b o xs e => tD _ _ (U.frzs b o xs e), fun b ps e => ?_⟩ (fun b o e => ?_) J.bare
    (fun b hb => ⟨(hf b hb).2.2.2.1, (hf b hb).2.1, (hf b hb).2.2.2.2.1, (hf b hb).2.2.2.2.2⟩)
  · obtain ⟨sl, q⟩ := U.slot b o e n h1 h2
    exact ⟨sl, mv b _ (neC b o e) q⟩
  · rw [upd_ne (neD b o e)]; exact U.free b o e n h2
  · obtain ⟨o', q⟩ := U.there b o e h2
    exact ⟨o', mv b _ (neC b o e) q⟩
  · obtain ⟨more, q⟩ := U.tbls b ps e
    exact ⟨more, tD _ _ q⟩
  · by_cases hb : b = D
    · subst hb
      rw [upd_same] at e
      cases e
      obtain ⟨n, q⟩ := hp
      exact ⟨hz, its, n, hv, mv _ _ hDC q⟩
    · rw [upd_ne hb] at e
      refine (J.hok b o e).stay (fun c v hc q => mv c v ?_ q) (fun c q => tD _ _ q) fun c xs q => tD _ _ q
      intro z
      have fc : H' C = none := J.free
      rcases hc with w | w
      · rw [← w, z, fc] at e; cases e
      · rw [z, fc] at w; cases w
end
section
variable {X : Cx} {scope : Scope} {m : Str} {vars : List Str} {caps : List (Nat × Str)} {elt tg iter : Expr} {pos : Pos} {wi : TI} {g : TG} {te : TE}
/-- the walk of a block with a cell -/
theorem comp_blockC (B : BlkOkC X.env.scope.names X.N scope m vars caps) (hc : X.calm = true)
    (hg : ∀ C s₀ H₀ ex, PG (blkC X scope m (vars ++ caps.map (·.2)) C s₀ H₀ ex) tg g) (he : ∀ C s₀ H₀ ex, PE (blkC X scope m (vars ++ caps.map (·.2)) C s₀ H₀ ex) elt te)
    {pins : List (Addr × Obj)} {σ : St} {H2 : Hp} {s2 : Shared} {Q : VK} {it : Addr} {fp : List Addr} {tn : Nat → Heap → Prop} {J : It} (I2 : Inv X pins σ H2 s2) (T : Turn X.prog X.w X.K tg J fp it tn) (st2 : tn 0 s2.heap) (f2 : ∀ b ∈ fp, FpOk X pins H2 b)
    {W : Nat → Nat → List V → Hp → Prop} {m0 : Nat} (w0 : W 0 m0 [] H2) (turn : ∀ i m ys H, W i m ys H →
      (J.stop i H ∧ ys.length ≤ sizeLine ∧ ∀ p, H p = none → Q (.ref p) (upd H p (.lst ys))) ∨
      (J.go i H ∧ ys.length < sizeLine ∧ ∀ x H', J.yld i H x H' → g x (vars.map (fun _ => none) ++ capV σ caps) H' fun σ2 H2 => KeepS (vars.map (fun _ => none) ++ capV σ caps) σ2 ∧ te σ2 H2 fun y H3 => ∃ m', m' < m ∧ W (i + 1) m' (ys ++ [y]) H3))
    {RR : Value → Addr → Result → Shared → Prop} {E : Value → Shared → Prop}
    (hRR : ∀ D C s' m, s'.heap.Ns C m → D ≠ C → s2.heap.objs.size ≤ D → s2.heap.objs.size ≤ C → ∀ H', H' C = none → (∀ h', Heap.SameBut C s'.heap h' → Inv X pins σ H' { s' with heap := h' }) → Q (.ref D) H' → RR (.ref D) C (.ok .next) s') :
    wpAny (model X.prog X.w) X.A (newList []) (fun acc s₃ => wpAny (model X.prog X.w) X.A (newFunctionEnv scope X.env.globals (clos X.env scope.names []) [] X.env.qual none .none (some X.env)) (fun cenv s₄ =>
      codeAny (model X.prog X.w) X.A (.compStart (.ListComp elt [⟨tg, iter, [], 0⟩] scope pos) 0 (.ref it) acc { cenv with scope := relabel scope X.env }) (RR acc cenv.locals) s₄) E s₃) E s2 := by
  refine wpAny_newObj_type (wpAny_newFunctionEnv1 B.one B.kind ?_)
  dsimp only
  generalize hP : s2.heap.push { cls := .type "list", dict := none, data := .seq ([] : List Value).toArray } = HP
  generalize hh₁ : (HP.push { cls := .type "dict", data := .dict #[] }).push { cls := .type "cell", data := .cell none } = h₁
  have kp1 : ∀ b o, HP.get? b = some o → h₁.get? b = some o := fun b o e => hh₁ ▸ Heap.get?_push_of_some _ (Heap.get?_push_of_some _ e)
  have hns₁ : h₁.Ns HP.objs.size (fun _ => none) := (Heap.Ns.new HP (.type "dict")).keeps fun b o e => hh₁ ▸ Heap.get?_push_of_some _ e
  have hc₁ : h₁.IsCell (HP.objs.size + 1) none := by
    have q := Heap.get?_push_size (HP.push { cls := .type "dict", data := .dict #[] }) (o := { cls := .type "cell", data := .cell none }) rfl
    rw [Heap.size_push, hh₁] at q
    exact ⟨_, q, rfl⟩
  have hCs : HP.objs.size = s2.heap.objs.size + 1 := by rw [← hP, Heap.size_push]
  have hDC : s2.heap.objs.size ≠ HP.objs.size := by rw [hCs]; exact Nat.ne_of_lt (Nat.lt_succ_self _)
  have hCle : s2.heap.objs.size ≤ HP.objs.size := by rw [hCs]; exact Nat.le_succ _
  have old : ∀ b o, s2.heap.get? b = some o → h₁.get? b = some o := fun b o e => kp1 b o (hP ▸ Heap.get?_push_of_some _ e)
  have hacc : h₁.PlainList s2.heap.objs.size #[] := ⟨_, kp1 _ _ (hP ▸ Heap.get?_push_size _ rfl)⟩
  have flt : ∀ b ∈ fp, b < s2.heap.objs.size := fun b hb => by
    obtain ⟨o, e, _⟩ := T.obj _ _ st2 b hb
    exact Heap.lt_size e
  have st1 : tn 0 h₁ := T.keep _ _ _ st2 fun b _ o e => old b o e
  -- the loop
  have loop : ∀ s3 : Shared, s3 = { s2 with heap := h₁, toks := s2.toks } →
      codeAny (model X.prog X.w) X.A (.compLoop (.ListComp elt [⟨tg, iter, [], 0⟩] scope pos) 0 (.ref it) (.ref s2.heap.objs.size) (compEnvC scope ((m, HP.objs.size + 1) :: clos X.env scope.names []) HP.objs.size X.env))
        (RR (.ref s2.heap.objs.size) HP.objs.size) s3 := by
    rintro s3 rfl
    have X' := blkC X scope m (vars ++ caps.map (·.2)) HP.objs.size s2 H2 fp
    have fpo : ∀ {H' : Hp}, (∀ b ∈ fp, H' b = none) → ∀ b ∈ fp, FpOk (blkC X scope m (vars ++ caps.map (·.2)) HP.objs.size s2 H2 fp) [] H' b := fun hn b hb => by
      have ok := blkC_ok B I2 f2 flt hCle
      exact ⟨hn b hb, (ok.exf b hb).1, ok.exfs b hb, .inl hb, (ok.exf b hb).2, fun p hp => absurd (show p ∈ ([] : List (Addr × Obj)) from hp) (by simp)⟩
    refine codeAny_comp_go (fun n s => ∃ i ys H its, Inv (blkC X scope m (vars ++ caps.map (·.2)) HP.objs.size s2 H2 fp) [] (vars.map (fun _ => none) ++ capV σ caps) H s ∧ tn i s.heap ∧ (∀ b ∈ fp, H b = none) ∧ s.heap.PlainList s2.heap.objs.size (List.toArray its) ∧ H s2.heap.objs.size = none ∧ Vals ys its ∧ W i n ys H) ?_ m0
      ⟨0, [], H2, [], blkC_inv B I2 f2 flt hCle hns₁ hc₁ old (tk := s2.toks), st1, fun b hb => (f2 b hb).1, hacc, I2.hok.fresh (Nat.le_refl _), .nil, w0⟩
    rintro n s4 ⟨i, ys, H4, its, I4, st4, fr4, pl4, nD4, v4, w4⟩
    obtain ⟨nn, eD⟩ := id pl4
    have DnL : s2.heap.objs.size ≠ (blkC X scope m (vars ++ caps.map (·.2)) HP.objs.size s2 H2 fp).env.locals := hDC
    have Dfs : s2.heap.objs.size ∉ (blkC X scope m (vars ++ caps.map (·.2)) HP.objs.size s2 H2 fp).fs := fun z => by
      rcases List.mem_cons.mp (I2.stkSub _ z) with q | q
      · have := I2.lt; rw [← q] at this; exact Nat.lt_irrefl _ this
      · exact I2.nofs (Nat.le_refl _) q
    have Dfp : ∀ b ∈ fp, s2.heap.objs.size ≠ b := fun b hb z => by have := flt b hb; rw [← z] at this; exact Nat.lt_irrefl _ this
    have DnC : ∀ x c, (blkC X scope m (vars ++ caps.map (·.2)) HP.objs.size s2 H2 fp).env.cells.lookup x = some c → c ≠ s2.heap.objs.size := fun x c e z => by
      rcases consC e with ⟨_, q⟩ | q
      · rw [q, hCs] at z
        exact absurd z (Nat.ne_of_gt (Nat.lt_succ_of_lt (Nat.lt_succ_self _)))
      · rcases clos_lookup _ _ _ _ (B.cells I2) q with q | q
        · cases q
        · obtain ⟨v, o, ho, _⟩ := I2.cell x c q
          have := Heap.lt_size ho
          rw [z] at this
          exact Nat.lt_irrefl _ this
    have pinD : ∀ {σ' : St} {H' : Hp} {s' : Shared}, Inv (blkC X scope m (vars ++ caps.map (·.2)) HP.objs.size s2 H2 fp) [(s2.heap.objs.size, { cls := .type "list", data := .seq its.toArray nn })] σ' H' s' → s'.heap.PlainList s2.heap.objs.size its.toArray ∧ H' s2.heap.objs.size = none := fun {σ' H' s'} I' => by
      obtain ⟨q1, q2, _⟩ := I'.pin (s2.heap.objs.size, { cls := .type "list", data := .seq its.toArray nn }) (by simp [blkC])
      exact ⟨⟨nn, q1⟩, q2⟩
    have I4p : Inv (blkC X scope m (vars ++ caps.map (·.2)) HP.objs.size s2 H2 fp) [(s2.heap.objs.size, { cls := .type "list", data := .seq its.toArray nn })] (vars.map (fun _ => none) ++ capV σ caps) H4 s4 :=
      I4.pins_of fun p hp => by
        have e : p = (s2.heap.objs.size, { cls := .type "list", data := .seq its.toArray nn }) := by simpa [blkC] using hp
        subst e
        exact ⟨eD, nD4, DnL, Dfs, fun v z => by cases z⟩
    have fpo' : ∀ {H' : Hp}, (∀ b ∈ fp, H' b = none) → ∀ b ∈ fp, FpOk (blkC X scope m (vars ++ caps.map (·.2)) HP.objs.size s2 H2 fp) [(s2.heap.objs.size, { cls := .type "list", data := .seq its.toArray nn })] H' b := fun hn b hb => by
      obtain ⟨q1, q2, q3, q4, q5, _⟩ := fpo hn b hb
      exact ⟨q1, q2, q3, q4, q5, fun p hp => by
        have e : p = (s2.heap.objs.size, { cls := .type "list", data := .seq its.toArray nn }) := by simpa [blkC] using hp
        subst e
        exact Dfp b hb⟩
    have unp : ∀ {pl : List (Addr × Obj)} {σ' : St} {H' : Hp} {s' : Shared}, Inv (blkC X scope m (vars ++ caps.map (·.2)) HP.objs.size s2 H2 fp) pl σ' H' s' → Inv (blkC X scope m (vars ++ caps.map (·.2)) HP.objs.size s2 H2 fp) [] σ' H' s' := fun {pl σ' H' s'} I' =>
      I'.pins_of fun p hp => absurd (show p ∈ ([] : List (Addr × Obj)) from hp) (by simp)
    rcases turn i n ys H4 w4 with ⟨stop, hz, qn⟩ | ⟨go, hz, step⟩
    · refine thn (T.done (blkC X scope m (vars ++ caps.map (·.2)) HP.objs.size s2 H2 fp) rfl rfl rfl hc i _ s4 _ H4 _ I4p (fpo' fr4) st4 stop) fun r s5 ⟨hr, I5⟩ => ?_
      subst hr
      obtain ⟨p5, n5⟩ := pinD I5
      obtain ⟨m5, ns5, _⟩ := I5.loc
      refine hRR _ _ s5 m5 ns5 hDC (Nat.le_refl _) hCle _ ?_ (fun h' hs' => blkC_out I2 f2 hCle (Nat.le_refl _) hDC (unp I5) n5 p5 v4 hz hs') (qn _ n5)
      rw [upd_ne hDC.symm]
      exact I5.free
    · refine thn (T.item (blkC X scope m (vars ++ caps.map (·.2)) HP.objs.size s2 H2 fp) rfl rfl rfl hc i _ s4 _ H4 _ I4p (fpo' fr4) st4 go) fun r s5 ⟨u, hr, h5⟩ => ?_
      subst hr
      refine thn h5 fun _ s6 ⟨x, H6, I6, rx, yx, st6, fr6⟩ => ?_
      have I6p := I6.pinned (fpo' fr6) (T.obj _ _ st6)
      refine thn (hg _ _ _ _ _ s6 _ H6 x u _ I6p rx (step x H6 yx)) fun _ s7 ⟨σ7, H7, I7, kp, q7⟩ => ?_
      refine thn (he _ _ _ _ _ s7 σ7 H7 _ I7 q7) fun v s8 ⟨y, H8, I8, ry, m', hm, w8⟩ => ?_
      obtain ⟨p8, n8⟩ := pinD I8.unpinned
      have st8 : tn (i + 1) s8.heap := T.keep _ _ _ st6 fun b hb o e => (I8.pin (b, o) (List.mem_append_right _ (List.mem_append_right _ (mem_pinsAt hb e)))).1
      have fr8 : ∀ b ∈ fp, H8 b = none := fun b hb => by
        obtain ⟨o, e, d⟩ := T.obj _ _ st6 b hb
        exact (I8.pin (b, o) (List.mem_append_right _ (List.mem_append_right _ (mem_pinsAt hb e)))).2.1
      have hl := v4.length
      refine wpAny_list_append_plain p8 (fun h9 p9 sb9 => ⟨m', hm, i + 1, ys ++ [y], H8, its ++ [v], ?_, ?_, fr8, by simpa using p9, n8, v4.append (.cons ry .nil), w8⟩) (by simp; omega)
      · have I9 : Inv (blkC X scope m (vars ++ caps.map (·.2)) HP.objs.size s2 H2 fp) [] σ7 H8 { s8 with heap := h9, toks := s8.toks } :=
          (unp I8).turned (it := s2.heap.objs.size) (fun b o hb e => sb9.extBut b o hb e) n8 DnL (.inr (Nat.le_refl _)) DnC fun p hp => absurd (show p ∈ ([] : List (Addr × Obj)) from hp) (by simp)
        exact I9.weak kp.1 kp.2
      · exact T.keep _ _ _ st8 fun b hb o e => sb9.extBut b o (Dfp b hb).symm e
  exact codeAny_compStart_list (loop _ rfl) (T.self _ 0 _ _ _ st1 (loop _ rfl))
theorem pe_compC (B : BlkOkC X.env.scope.names X.N scope m vars caps) (hc : X.calm = true) (hi : PI X tg iter wi)
    (hg : ∀ C s₀ H₀ ex, PG (blkC X scope m (vars ++ caps.map (·.2)) C s₀ H₀ ex) tg g) (he : ∀ C s₀ H₀ ex, PE (blkC X scope m (vars ++ caps.map (·.2)) C s₀ H₀ ex) elt te) (hs : ∀ x, foldedSetIterable iter X.env x = pure x := by intro _; rfl) :
    PE X (.ListComp elt [⟨tg, iter, [], 0⟩] scope pos) (tComp wi g te vars caps) := by
  intro pins s σ H Q I h
  rw [eval_ListComp]
  refine wpAny_comprehension_free (use := none) rfl hs (closureFor_eq (B.cells I)) B.kind B.names ?_
  show wpAny _ _ (eval iter X.env) _ _ s
  refine thn (hi pins s σ H _ I h) fun v s1 h1 => thn h1 fun itv s2 h2 => ?_
  obtain ⟨it, fp, tn, J, H2, e, I2, T, st2, f2, W, ⟨m0, w0⟩, turn⟩ := h2
  subst e
  exact comp_blockC B hc hg he I2 T st2 f2 w0 turn (RR := fun acc C => compPost (model X.prog X.w) X.A X.xe none (EP X pins σ Q) acc C) fun D C s' m ns _ _ _ H' _ k q => ⟨m, ns, fun h' hs' => ⟨.ref D, H', k h' hs', rfl, q⟩⟩
end
section
variable {X : Cx} {scope : Scope} {m : Str} {vars : List Str} {caps : List (Nat × Str)} {elt tg iter : Expr} {pos : Pos} {g : TG} {fi : Dv → Option (List D)} {fe : Dv → Option D} {bv : D → Option (List D)}
theorem ev_compC (B : BlkOkC X.env.scope.names X.N scope m vars caps) (hc : X.calm = true) (hi : IV X tg iter fi) (tk : TgOk X.K g vars.length bv)
    (hg : ∀ C s₀ H₀ ex, PG (blkC X scope m (vars ++ caps.map (·.2)) C s₀ H₀ ex) tg g) (he : ∀ C s₀ H₀ ex, EV (blkC X scope m (vars ++ caps.map (·.2)) C s₀ H₀ ex) elt fe) (hs : ∀ x, foldedSetIterable iter X.env x = pure x := by intro _; rfl) :
    EV X (.ListComp elt [⟨tg, iter, [], 0⟩] scope pos) (oComp fi caps bv fe) :=
  PE.imp (pe_compC (te := tV X.K fe) B hc hi hg he hs) fun _ _ _ h => comp_read tk h
end
theorem BlkOk.inC {X : Cx} {sc : Scope} {m : Str} {N1 : List Str} {C : Addr} {s₀ : Shared} {H₀ : Hp} {ex : List Addr} {scope : Scope} {vars : List Str} {caps : List (Nat × Str)} (hk : scope.kind = .function) (hc : ∀ y ∈ scope.names, y.2 ≠ .cell) (hn : ∀ y ∈ scope.names, y.2 = .local → scope.names.lookup y.1 = some .local)
    (hf : ∀ y ∈ scope.names, y.2 = .free → sc.names.lookup y.1 = some .cell ∨ sc.names.lookup y.1 = some .free) (hp : ∀ p ∈ caps, N1[p.1]? = some p.2 ∧ scope.names.lookup p.2 = some .free) : BlkOk (blkC X sc m N1 C s₀ H₀ ex).env.scope.names (blkC X sc m N1 C s₀ H₀ ex).N scope vars caps :=
  ⟨hk, hc, hn, fun y hy e => relabel_fwd sc.names (hf y hy e), hp⟩
end VL

set_option Elab.async false
set_option linter.all false
set_option maxRecDepth 100000
set_option maxHeartbeats 4000000
namespace VL
open PySem PySem.Spec PyProof.Rows L2
/-! ### a def that tells a new list -/
def spO (K : Fg) (g : List D → Option D) : Sp := fun vs H Q _ => ∃ Z as ds, Same Z H ∧ Reps K Z vs as ∧ g as = some (.list ds) ∧ ∀ p us Z' H', New Z H Z' H' → H' p = none → Reps K Z' us ds → Q (.ref p) (upd H' p (.lst us))
section
variable {X : Cx} {e : Expr} {es : List Expr} {p pos : Pos} {st : Stmt} {sts : List Stmt} {f : Dv → Option (List D)} {fs : Dv → Option (List D)} {s : Sf}
end
section
variable {P : Program} {w : World} {K : PySem.W.Frag} {mg : Str → Option Value} {base : Heap}
structure CalO (P : Program) (w : World) (K : PySem.W.Frag) (mg : Str → Option Value) (base : Heap) (x : Str) (k : Nat) (g : List D → Option D) (dd : List D) : Prop where
  ex : ∃ (fa : Addr) (fd : FuncData) (ps : List Str) (ds : List Value) (dv : List V), FnOk P w K mg base CX0 k fa fd ps (spO K g) ∧ mg x = some (.ref fa) ∧ PySem.W.keepIn K (.ref fa) = true ∧ Binds K fd ps ds ∧ Vals dv ds ∧ ∀ Z, Reps K Z dv dd
end
section
variable {X : Cx} {e : Expr} {es : List Expr} {p pos : Pos} {fs : Dv → Option (List D)}
end
section
variable {X : Cx} {scope : Scope} {m : Str} {vars : List Str} {caps : List (Nat × Str)} {elt tg iter : Expr} {pos : Pos} {g : TG} {fi : Dv → Option (List D)} {fe : Dv → Option D} {bv : D → Option (List D)}
end
/-! ### lists of so many -/
theorem len1 {α : Type} : ∀ {us : List α}, us.length = 1 → ∃ a, us = [a]
  | [a], _ => ⟨a, rfl⟩
theorem len2 {α : Type} {us : List α} (h : us.length = 2) : ∃ a b, us = [a, b] := by
  cases us with
  | nil => cases h
  | cons a r =>
    obtain ⟨b, rfl⟩ := len1 (Nat.succ.inj h)
    exact ⟨a, b, rfl⟩
theorem len3 {α : Type} {us : List α} (h : us.length = 3) : ∃ a b c, us = [a, b, c] := by
  cases us with
  | nil => cases h
  | cons a r =>
    obtain ⟨b, c, rfl⟩ := len2 (Nat.succ.inj h)
    exact ⟨a, b, c, rfl⟩
theorem len4 {α : Type} {us : List α} (h : us.length = 4) : ∃ a b c d, us = [a, b, c, d] := by
  cases us with
  | nil => cases h
  | cons a r =>
    obtain ⟨b, c, d, rfl⟩ := len3 (Nat.succ.inj h)
    exact ⟨a, b, c, d, rfl⟩
theorem len5 {α : Type} {us : List α} (h : us.length = 5) : ∃ a b c d e, us = [a, b, c, d, e] := by
  cases us with
  | nil => cases h
  | cons a r =>
    obtain ⟨b, c, d, e, rfl⟩ := len4 (Nat.succ.inj h)
    exact ⟨a, b, c, d, e, rfl⟩
end VL

set_option Elab.async false
set_option linter.all false
set_option maxRecDepth 100000
set_option maxHeartbeats 4000000
namespace VL
open PySem PySem.Spec PyProof.Rows L2
--PURE
/-! ### lists of one's own handed on -/
--END
section
variable {X : Cx} {e : Expr} {es : List Expr} {p p' pos : Pos} {st : Stmt} {sts body : List Stmt} {f f1 f2 : Dv → Option (List D)} {s : Sf} {c : Expr} {ft : Dv → Option Bool}
end
/-! ### statements that always go on -/
end VL

set_option Elab.async false
set_option linter.all false
set_option maxRecDepth 100000
set_option maxHeartbeats 4000000
namespace VL
open PySem PySem.Spec PyProof.Rows L2
--PURE
/-! ### max of a list of ints -/
--END
section
variable {X : Cx}
end
end VL

set_option Elab.async false
set_option linter.all false
set_option maxRecDepth 100000
set_option maxHeartbeats 4000000
namespace VL
open PySem PySem.Spec PyProof.Rows L2
/-! ### a def without defaults, at the top -/
def DefIn (K : PySem.W.Frag) (x y : Str) (st : Stmt) : Prop := ∃ f fd, PySem.W.nsIn K mainGlobals x = some (some (.ref f)) ∧ FunV K y y st f fd .none ∧ PySem.W.keepIn K (.ref f) = true
def BindsAs (x : Str) (st : Stmt) (ps : List Str) : Prop := ∀ (kV doc pm : Value) (an : Option Addr) (cdv ct : Value) (us : List Value), us.length = ps.length → bindArgs (PySem.W.fnOf x x (defArgs st) (defBody st) (defScope st) .none kV doc pm an cdv ct) ⟨us, []⟩ = pure (ps.zip us)
section
variable {P : Program} {w : World} {K : PySem.W.Frag} {mg : Str → Option Value} {base h : Heap} {x y : Str} {st : Stmt} {k : Nat} {ps : List Str}
theorem DefIn.mk {f : Addr} {oc : Value} {od an : Option Addr} {osl : Array (Option Value)} {kV doc pm cdv ct : Value} (a : PySem.W.nsIn K mainGlobals x = some (some (.ref f))) (l : K.lookup f = some ⟨oc, od, .func (PySem.W.fnOf y y (defArgs st) (defBody st) (defScope st) .none kV doc pm an cdv ct), osl⟩)
    (c : PySem.W.codeIn K cdv y = true) (k : PySem.W.keepIn K (.ref f) = true) : DefIn K x y st := ⟨_, _, a, funV_mk l c k, k⟩
variable (D : DefIn K x y st) (X : K.In h) (G : h.Ns mainGlobals mg) (b : BindsAs y st ps)
include D X G
theorem DefIn.fnm : Fnm K mg x := by
  obtain ⟨f, fd, a, F, hk⟩ := D
  exact ⟨⟨_, a, PySem.W.mg_of X G a⟩⟩
include b
theorem DefIn.cal {g : List VL.D → Option VL.D} (ok : ∀ f fd, FunV K y y st f fd .none → FnOk P w K mg base CX0 k f fd ps (spD K g)) : Cal P w K mg base x k g [] := by
  obtain ⟨f, fd, a, F, hk⟩ := D
  exact Cal.mk0 (ok f fd F) (PySem.W.mg_of X G a) hk (F.binds b)
theorem DefIn.calR {g : List VL.D → Option VL.D} (ok : ∀ f fd, FunV K y y st f fd .none → mg x = some (.ref f) → PySem.W.keepIn K (.ref f) = true → Binds K fd ps [] → FnOk P w K mg base CX0 k f fd ps (spD K g)) : Cal P w K mg base x k g [] := by
  obtain ⟨f, fd, a, F, hk⟩ := D
  exact Cal.mk0 (ok f fd F (PySem.W.mg_of X G a) hk (F.binds b)) (PySem.W.mg_of X G a) hk (F.binds b)
theorem DefIn.calF {g : List VL.D → Option VL.D} (ok : ∀ f fd, FunV K y y st f fd .none → FnOk P w K mg base CX0 k f fd ps (spD K g)) : CalF P w K mg base x k g := by
  obtain ⟨f, fd, a, F, hk⟩ := D
  exact ⟨⟨_, _, _, ok f fd F, a, PySem.W.mg_of X G a, hk, F.binds b⟩⟩
end
/-- what a def with defaults goes on with, once its defaults are read -/
def bKw (fd : FuncData) (us : List Value) : {kk : Option (Array Value) → Sem (List (Str × Value)) // bindArgs fd ⟨us, []⟩ = seqItems? fd.defaults >>= kk} := ⟨_, rfl⟩
theorem FunV.bindsK {K : PySem.W.Frag} {x qual : Str} {st : Stmt} {f T : Addr} {fd : FuncData} {ps : List Str} {o : Obj} {items : Array Value} {n : Nat} {ds : List Value} (F : FunV K x qual st f fd (.ref T)) (ho : K.lookup T = some o) (hs : o.data = .seq items n) (nu : Nat) (hn : nu + ds.length = ps.length)
    (h : ∀ (kV doc pm : Value) (an : Option Addr) (cdv ct : Value) (us : List Value), us.length = nu → (bKw (PySem.W.fnOf x qual (defArgs st) (defBody st) (defScope st) (.ref T) kV doc pm an cdv ct) us).1 (some items) = pure (ps.zip (us ++ ds))) : Binds K fd ps ds :=
  F.bindsD ho hs nu hn fun kV doc pm an cdv ct us hl => ⟨_, (bKw (PySem.W.fnOf x qual (defArgs st) (defBody st) (defScope st) (.ref T) kV doc pm an cdv ct) us).2, h kV doc pm an cdv ct us hl⟩
end VL

set_option Elab.async false
set_option linter.all false
set_option maxRecDepth 100000
set_option maxHeartbeats 4000000
namespace VL
open PySem PySem.Spec PyProof.Rows L2
open AutoSeq1 (wpAny_loadPart')
/-! ### a tuple times an int -/
--PURE
--END
section
variable {X : Cx}
end
end VL

set_option Elab.async false
set_option linter.all false
set_option maxRecDepth 100000
set_option maxHeartbeats 4000000
namespace VL
open PySem PySem.Spec PyProof.Rows L2
/-! ### is True, is not True, of bools -/
--PURE
def isB (z : Bool) : D → D → Option D
  | .bool a, .bool b => some (.bool (z != (a == b)))
  | _, _ => none
@[simp] theorem isB_bool (z a b : Bool) : isB z (.bool a) (.bool b) = some (.bool (z != (a == b))) := rfl
--END
section
variable {X : Cx}
end
end VL

set_option Elab.async false
set_option linter.all false
set_option maxRecDepth 100000
set_option maxHeartbeats 4000000
namespace VL
open PySem PySem.Spec PyProof.Rows L2
/-! ### a call that raises, of a def with defaults -/
section
variable {m : Bool} {X : Cx} {e c : Expr} {es : List Expr} {f : Dv → Option D} {fs : Dv → Option (List D)} {ft : Dv → Option Bool} {fx : Dv → Option Str} {st : Stmt} {sts body orelse : List Stmt} {s1 : Sf} {u u1 u2 : Xf} {pos p : Pos}
end
end VL

set_option Elab.async false
set_option linter.all false
set_option maxRecDepth 100000
set_option maxHeartbeats 4000000
namespace MA
open PySem
/-! ### or, the twos that are shared -/
theorem or_halves (x y : Int) : Builtin.bitOr x y = 2 * Builtin.bitOr (x / 2) (y / 2) + (if x % 2 = 0 ∧ y % 2 = 0 then 0 else 1) := by
  unfold Builtin.bitOr Builtin.bitNot
  have h := PySem.W.kbt_halves (-x - 1) (-y - 1)
  have hx : (-x - 1) / 2 = -(x / 2) - 1 := by omega
  have hy : (-y - 1) / 2 = -(y / 2) - 1 := by omega
  rw [hx, hy] at h
  rw [h]
  by_cases c : x % 2 = 0 ∧ y % 2 = 0
  · rw [if_pos c, if_pos (by omega)]; omega
  · rw [if_neg c, if_neg (by omega)]; omega
theorem pow_pos' (n : Nat) : (0 : Int) < 2 ^ n := by
  induction n with
  | zero => decide
  | succ n ih => rw [Int.pow_succ]; omega
theorem div_pow_succ (x : Int) (n : Nat) : x / 2 ^ (n + 1) = x / 2 / 2 ^ n := by
  rw [Int.pow_succ, Int.mul_comm, Int.ediv_ediv_of_nonneg (by decide)]
theorem dvd_pow_succ (x : Int) (n : Nat) : 2 ^ (n + 1) ∣ x ↔ x % 2 = 0 ∧ 2 ^ n ∣ x / 2 := by
  constructor
  · rintro ⟨c, rfl⟩
    rw [Int.pow_succ]
    refine ⟨?_, c, ?_⟩
    · rw [Int.mul_comm (2 ^ n) 2, Int.mul_assoc]; omega
    · rw [Int.mul_comm (2 ^ n) 2, Int.mul_assoc, Int.mul_ediv_cancel_left _ (by decide)]
  · rintro ⟨h, c, hc⟩
    refine ⟨c, ?_⟩
    rw [Int.pow_succ, Int.mul_comm (2 ^ n) 2, Int.mul_assoc, ← hc]
    omega
theorem or_pow (n : Nat) : ∀ x y : Int, (2 ^ n ∣ Builtin.bitOr x y ↔ 2 ^ n ∣ x ∧ 2 ^ n ∣ y) ∧ (2 ^ n ∣ Builtin.bitOr x y → Builtin.bitOr x y / 2 ^ n = Builtin.bitOr (x / 2 ^ n) (y / 2 ^ n)) := by
  induction n with
  | zero => intro x y; simp
  | succ n ih =>
    intro x y
    have h := or_halves x y
    have hd : Builtin.bitOr x y / 2 = Builtin.bitOr (x / 2) (y / 2) := by rw [h]; split <;> omega
    have hm : Builtin.bitOr x y % 2 = 0 ↔ x % 2 = 0 ∧ y % 2 = 0 := by
      rw [h]
      by_cases c : x % 2 = 0 ∧ y % 2 = 0
      · rw [if_pos c]; constructor
        · intro _; exact c
        · intro _; omega
      · rw [if_neg c]; constructor
        · intro z; omega
        · intro z; exact absurd z c
    obtain ⟨i1, i2⟩ := ih (x / 2) (y / 2)
    constructor
    · rw [dvd_pow_succ, dvd_pow_succ, dvd_pow_succ, hd, hm, i1]
      constructor
      · rintro ⟨⟨a, b⟩, c, d⟩; exact ⟨⟨a, c⟩, b, d⟩
      · rintro ⟨⟨a, c⟩, b, d⟩; exact ⟨⟨a, b⟩, c, d⟩
    · intro q
      rw [dvd_pow_succ, hd] at q
      rw [div_pow_succ, div_pow_succ, div_pow_succ, hd, i2 q.2]
theorem split2 : ∀ (n : Nat) (j : Int), j.natAbs ≤ n → j ≠ 0 → ∃ (t : Nat) (a : Int), j = 2 ^ t * (2 * a + 1)
  | 0, j, h, h0 => by omega
  | n + 1, j, h, h0 => by
    by_cases c : j % 2 = 0
    · obtain ⟨t, a, e⟩ := split2 n (j / 2) (by omega) (by omega)
      refine ⟨t + 1, a, ?_⟩
      rw [Int.pow_succ, Int.mul_comm (2 ^ t) 2, Int.mul_assoc, ← e]
      omega
    · exact ⟨0, j / 2, by simp; omega⟩
theorem bits_pow (t : Nat) : Builtin.Int.intBits (2 ^ t) = t + 1 := by
  unfold Builtin.Int.intBits
  have h : (2 : Int) ^ t ≠ 0 := Int.ne_of_gt (pow_pos' t)
  have e : ((2 : Int) ^ t).natAbs = 2 ^ t := by
    have : ((2 ^ t : Nat) : Int) = (2 : Int) ^ t := by simp
    rw [← this, Int.natAbs_natCast]
  rw [if_neg (by simpa using h), e, Nat.log2_two_pow]
/-- the number of twos, bounded: what twos_shared tells -/
def twos (j most : Int) : Int := if j = 0 then most else if (Builtin.Int.intBits (Builtin.bitAnd j (-j)) : Int) - 1 < most then (Builtin.Int.intBits (Builtin.bitAnd j (-j)) : Int) - 1 else most
theorem twos_spec (j most : Int) (hm : 0 ≤ most) : ∃ t : Nat, twos j most = t ∧ (t : Int) ≤ most ∧ 2 ^ t ∣ j ∧ ((t : Int) < most → ¬ j / 2 ^ t % 2 = 0) := by
  unfold twos
  by_cases h : j = 0
  · subst h
    refine ⟨most.toNat, by rw [if_pos rfl]; omega, by omega, Int.dvd_zero _, fun z => by omega⟩
  · obtain ⟨t, a, e⟩ := split2 _ j (Nat.le_refl _) h
    have hb : Builtin.Int.intBits (Builtin.bitAnd j (-j)) = t + 1 := by rw [e, PySem.W.kbt_low, bits_pow]
    rw [if_neg h, hb]
    have q : ((t + 1 : Nat) : Int) - 1 = t := by omega
    rw [q]
    by_cases c : (t : Int) < most
    · refine ⟨t, by rw [if_pos c], by omega, ⟨_, e⟩, fun _ => ?_⟩
      rw [e, Int.mul_ediv_cancel_left _ (Int.ne_of_gt (pow_pos' t))]
      omega
    · refine ⟨most.toNat, by rw [if_neg c]; omega, by omega, ?_, fun z => by omega⟩
      refine Int.dvd_trans ?_ ⟨_, e⟩
      have : t = most.toNat + (t - most.toNat) := by omega
      rw [this, Int.pow_add]
      exact Int.dvd_mul_right _ _
/-- two parts -/
theorem twos_two (p q most : Int) (hm : 0 ≤ most) : ∃ t : Nat, twos (Builtin.bitOr p q) most = t ∧ (t : Int) ≤ most ∧ p = p / 2 ^ t * 2 ^ t ∧ q = q / 2 ^ t * 2 ^ t ∧ ((t : Int) < most → ¬ (p / 2 ^ t % 2 = 0 ∧ q / 2 ^ t % 2 = 0)) := by
  obtain ⟨t, e, h1, h2, h3⟩ := twos_spec (Builtin.bitOr p q) most hm
  have o := or_pow t p q
  have d := o.1.mp h2
  refine ⟨t, e, h1, (Int.ediv_mul_cancel d.1).symm, (Int.ediv_mul_cancel d.2).symm, fun z w => h3 z ?_⟩
  rw [o.2 h2, or_halves, if_pos w]
  omega
/-! ### sizes -/
theorem bits_le {a : Int} {m : Nat} (h : a.natAbs < 2 ^ m) : Builtin.Int.intBits a ≤ m := by
  unfold Builtin.Int.intBits
  split
  · exact Nat.zero_le _
  · rename_i h0
    have h0 : a ≠ 0 := by simpa using h0
    have : a.natAbs.log2 < m := (Nat.log2_lt (by omega)).mpr h
    omega
theorem mul_ok {a b : Int} (m n : Nat) (ha : a.natAbs < 2 ^ m) (hb : b.natAbs < 2 ^ n) (h : m + n ≤ 134217728) : IntMulOk a b := by
  have h1 := bits_le ha
  have h2 := bits_le hb
  have hc : Builtin.Int.intTooBig (Builtin.Int.intBits a + Builtin.Int.intBits b) = false := by
    unfold Builtin.Int.intTooBig bitsLine
    exact decide_eq_false (by omega)
  unfold IntMulOk
  rw [hc]
  simp
/-! ### four parts -/
structure Q4 where
  a : Int
  b : Int
  c : Int
  d : Int
namespace Q4
theorem ext' {x y : Q4} (h1 : x.a = y.a) (h2 : x.b = y.b) (h3 : x.c = y.c) (h4 : x.d = y.d) : x = y := by
  cases x; cases y; simp at h1 h2 h3 h4; subst h1 h2 h3 h4; rfl
def add (x y : Q4) : Q4 := ⟨x.a + y.a, x.b + y.b, x.c + y.c, x.d + y.d⟩
def neg (x : Q4) : Q4 := ⟨-x.a, -x.b, -x.c, -x.d⟩
def mul (x y : Q4) : Q4 := ⟨x.a * y.a - x.b * y.d - x.c * y.c - x.d * y.b, x.a * y.b + x.b * y.a - x.c * y.d - x.d * y.c, x.a * y.c + x.b * y.b + x.c * y.a - x.d * y.d, x.a * y.d + x.b * y.c + x.c * y.b + x.d * y.a⟩
/-- times the root of two -/
def rt (x : Q4) : Q4 := ⟨x.b - x.d, x.a + x.c, x.b + x.d, x.c - x.a⟩
def dbl (n : Int) (x : Q4) : Q4 := ⟨x.a * n, x.b * n, x.c * n, x.d * n⟩
def mir (x : Q4) : Q4 := ⟨x.a, -x.d, -x.c, -x.b⟩
/-- an eighth turn -/
def tn (x : Q4) : Q4 := ⟨-x.d, x.a, x.b, x.c⟩
def rtn : Nat → Q4 → Q4
  | 0, x => x
  | n + 1, x => rtn n (rt x)
theorem rtn_succ (n : Nat) (x : Q4) : rtn (n + 1) x = rt (rtn n x) := by
  induction n generalizing x with
  | zero => rfl
  | succ n ih => exact ih (rt x)
theorem rtn_add (m n : Nat) (x : Q4) : rtn (m + n) x = rtn m (rtn n x) := by
  induction n generalizing x with
  | zero => rfl
  | succ n ih => exact ih (rt x)
theorem rt_rt (x : Q4) : rt (rt x) = dbl 2 x := by
  apply ext' <;> simp [rt, dbl] <;> omega
theorem dbl_dbl (m n : Int) (x : Q4) : dbl m (dbl n x) = dbl (n * m) x := by
  apply ext' <;> simp [dbl, Int.mul_assoc]
theorem rtn_two (t : Nat) (x : Q4) : rtn (2 * t) x = dbl (2 ^ t) x := by
  induction t generalizing x with
  | zero => apply ext' <;> simp [rtn, dbl]
  | succ t ih =>
    have e : 2 * (t + 1) = 2 * t + 1 + 1 := by omega
    rw [e]
    show rtn (2 * t) (rt (rt x)) = _
    rw [ih, rt_rt, dbl_dbl, Int.pow_succ, Int.mul_comm]
theorem rt_inj {x y : Q4} (h : rt x = rt y) : x = y := by
  have h1 := congrArg rt h
  rw [rt_rt, rt_rt] at h1
  have h2 := congrArg Q4.a h1
  have h3 := congrArg Q4.b h1
  have h4 := congrArg Q4.c h1
  have h5 := congrArg Q4.d h1
  simp only [dbl] at h2 h3 h4 h5
  apply ext' <;> omega
theorem rtn_inj {n : Nat} {x y : Q4} (h : rtn n x = rtn n y) : x = y := by
  induction n generalizing x y with
  | zero => exact h
  | succ n ih => exact rt_inj (ih h)
theorem rt_add (x y : Q4) : rt (add x y) = add (rt x) (rt y) := by apply ext' <;> simp [rt, add] <;> omega
theorem rtn_addQ (n : Nat) (x y : Q4) : rtn n (add x y) = add (rtn n x) (rtn n y) := by
  induction n generalizing x y with
  | zero => rfl
  | succ n ih => show rtn n (rt (add x y)) = _; rw [rt_add, ih]; rfl
theorem rt_mul (x y : Q4) : rt (mul x y) = mul (rt x) y := by apply ext' <;> simp only [rt, mul] <;> grind
theorem rtn_mul (n : Nat) (x y : Q4) : rtn n (mul x y) = mul (rtn n x) y := by
  induction n generalizing x with
  | zero => rfl
  | succ n ih => show rtn n (rt (mul x y)) = _; rw [rt_mul, ih]; rfl
theorem mul_comm (x y : Q4) : mul x y = mul y x := by apply ext' <;> simp only [mul] <;> grind
theorem mul_assoc (x y z : Q4) : mul (mul x y) z = mul x (mul y z) := by apply ext' <;> simp only [mul] <;> grind
theorem mul_add (x y z : Q4) : mul x (add y z) = add (mul x y) (mul x z) := by apply ext' <;> simp only [mul, add] <;> grind
theorem add_comm (x y : Q4) : add x y = add y x := by apply ext' <;> simp only [add] <;> omega
theorem add_assoc (x y z : Q4) : add (add x y) z = add x (add y z) := by apply ext' <;> simp only [add] <;> omega
theorem rtn_mul2 (m n : Nat) (x y : Q4) : rtn (m + n) (mul x y) = mul (rtn m x) (rtn n y) := by
  rw [rtn_add, mul_comm, rtn_mul, mul_comm, rtn_mul]
theorem tn_mul (x y : Q4) : tn (mul x y) = mul x (tn y) := by apply ext' <;> simp only [mul, tn] <;> grind
theorem tn_rt (x : Q4) : tn (rt x) = rt (tn x) := by apply ext' <;> simp only [rt, tn] <;> omega
/-- no root can be taken out -/
def Odd (x : Q4) : Prop := ¬ ((x.a - x.c) % 2 = 0 ∧ (x.b - x.d) % 2 = 0)
theorem rt_even (x : Q4) : ¬ Odd (rt x) := by
  unfold Odd rt
  simp only
  omega
/-- least form -/
def Least (x : Q4) (k : Int) : Prop := 0 ≤ k ∧ (0 < k → Odd x)
theorem Least.one {x y : Q4} {k l m : Nat} (hx : Least x k) (hy : Least y l) (h1 : k ≤ m) (h2 : l ≤ m) (h : rtn (m - k) x = rtn (m - l) y) : x = y ∧ k = l := by
  have key : ∀ {x y : Q4} {k l : Nat}, Least y l → k ≤ m → l ≤ m → k < l → rtn (m - k) x = rtn (m - l) y → False := by
    intro x y k l hy h1 h2 hlt h
    have e : m - k = (m - l) + (l - k) := by omega
    rw [e, rtn_add] at h
    have h3 := rtn_inj h
    obtain ⟨n, hn⟩ : ∃ n, l - k = n + 1 := ⟨l - k - 1, by omega⟩
    rw [hn, rtn_succ] at h3
    have := hy.2 (by omega)
    rw [← h3] at this
    exact rt_even _ this
  rcases Nat.lt_trichotomy k l with q | q | q
  · exact (key hy h1 h2 q h).elim
  · subst q; exact ⟨rtn_inj h, rfl⟩
  · exact (key hx h2 h1 q h.symm).elim
end Q4
/-- the four parts' twos -/
theorem twos_four (a b c d most : Int) (hm : 0 ≤ most) : ∃ t : Nat, twos (Builtin.bitOr (Builtin.bitOr (Builtin.bitOr a b) c) d) most = t ∧ (t : Int) ≤ most ∧ a = a / 2 ^ t * 2 ^ t ∧ b = b / 2 ^ t * 2 ^ t ∧ c = c / 2 ^ t * 2 ^ t ∧ d = d / 2 ^ t * 2 ^ t ∧
    ((t : Int) < most → ¬ (a / 2 ^ t % 2 = 0 ∧ b / 2 ^ t % 2 = 0 ∧ c / 2 ^ t % 2 = 0 ∧ d / 2 ^ t % 2 = 0)) := by
  obtain ⟨t, e, h1, h2, h3⟩ := twos_spec (Builtin.bitOr (Builtin.bitOr (Builtin.bitOr a b) c) d) most hm
  have o1 := or_pow t (Builtin.bitOr (Builtin.bitOr a b) c) d
  have d1 := o1.1.mp h2
  have o2 := or_pow t (Builtin.bitOr a b) c
  have d2 := o2.1.mp d1.1
  have o3 := or_pow t a b
  have d3 := o3.1.mp d2.1
  refine ⟨t, e, h1, (Int.ediv_mul_cancel d3.1).symm, (Int.ediv_mul_cancel d3.2).symm, (Int.ediv_mul_cancel d2.2).symm, (Int.ediv_mul_cancel d1.2).symm, fun z w => h3 z ?_⟩
  have ev : ∀ x y : Int, x % 2 = 0 → y % 2 = 0 → Builtin.bitOr x y % 2 = 0 := fun x y hx hy => by
    rw [or_halves, if_pos ⟨hx, hy⟩]; omega
  rw [o1.2 h2, o2.2 d1.1, o3.2 d2.1]
  exact ev _ _ (ev _ _ (ev _ _ w.1 w.2.1) w.2.2.1) w.2.2.2
/-- what number tells -/
def num (x : Q4) (k : Int) : Q4 × Int :=
  let t := (twos (Builtin.bitOr (Builtin.bitOr (Builtin.bitOr x.a x.b) x.c) x.d) (k / 2)).toNat
  let y : Q4 := ⟨x.a / 2 ^ t, x.b / 2 ^ t, x.c / 2 ^ t, x.d / 2 ^ t⟩
  if k - 2 * t = 0 ∨ (y.a - y.c) % 2 = 1 ∨ (y.b - y.d) % 2 = 1 then (y, k - 2 * t) else (⟨(y.b - y.d) / 2, (y.a + y.c) / 2, (y.b + y.d) / 2, (y.c - y.a) / 2⟩, k - 2 * t - 1)
theorem half_s {p q : Int} (h : (p - q) % 2 = 0) : (p + q) / 2 - (q - p) / 2 = p ∧ (p + q) / 2 + (q - p) / 2 = q := by omega
theorem half_t {p q : Int} (h : (p - q) % 2 = 0) : (p - q) / 2 + (p + q) / 2 = p ∧ (p + q) / 2 - (p - q) / 2 = q := by omega
theorem par_of {x y : Int} (h : (x - y) % 2 = 0) (k : y % 2 = 0) : x % 2 = 0 := by omega
theorem par_of' {x y : Int} (h : (x - y) % 2 = 0) (k : x % 2 = 0) : y % 2 = 0 := by omega
theorem odd_half {a b c d : Int} (g1 : (a - c) % 2 = 0) (g2 : (b - d) % 2 = 0) (h : ¬ (a % 2 = 0 ∧ b % 2 = 0 ∧ c % 2 = 0 ∧ d % 2 = 0)) : Q4.Odd ⟨(b - d) / 2, (a + c) / 2, (b + d) / 2, (c - a) / 2⟩ := fun z => by
  have z1 : ((b - d) / 2 - (b + d) / 2) % 2 = 0 := z.1
  have z2 : ((a + c) / 2 - (c - a) / 2) % 2 = 0 := z.2
  rw [(half_s g1).1] at z2
  have e := (half_t g2).2
  have z3 : d % 2 = 0 := by omega
  exact h ⟨z2, par_of g2 z3, par_of' g1 z2, z3⟩
theorem num_spec (x : Q4) (k : Int) (hk : 0 ≤ k) : Q4.Least (num x k).1 (num x k).2 ∧ (num x k).2 ≤ k ∧ Q4.rtn (k - (num x k).2).toNat (num x k).1 = x := by
  obtain ⟨t, e, h1, ha, hb, hc, hd, h3⟩ := twos_four x.a x.b x.c x.d (k / 2) (by omega)
  have l2 : 2 * (t : Int) ≤ k := by omega
  unfold num
  simp only [e, Int.toNat_natCast]
  generalize x.a / 2 ^ t = a at *
  generalize x.b / 2 ^ t = b at *
  generalize x.c / 2 ^ t = c at *
  generalize x.d / 2 ^ t = d at *
  have e2 : Q4.dbl (2 ^ t) ⟨a, b, c, d⟩ = x := Q4.ext' ha.symm hb.symm hc.symm hd.symm
  split
  · rename_i h
    refine ⟨⟨Int.sub_nonneg_of_le l2, fun z => ?_⟩, Int.sub_le_self _ (by omega), ?_⟩
    · rcases h with h | h | h
      · exact absurd h (Int.ne_of_gt z)
      · exact fun w => absurd (h.symm.trans w.1) (by decide)
      · exact fun w => absurd (h.symm.trans w.2) (by decide)
    · have : (k - (k - 2 * (t : Int))).toNat = 2 * t := by omega
      simp only [this]
      rw [Q4.rtn_two, e2]
  · rename_i h
    have g0 : k - 2 * (t : Int) ≠ 0 := fun z => h (.inl z)
    have g1 : (a - c) % 2 = 0 := (Int.emod_two_eq (a - c)).resolve_right fun z => h (.inr (.inl z))
    have g2 : (b - d) % 2 = 0 := (Int.emod_two_eq (b - d)).resolve_right fun z => h (.inr (.inr z))
    refine ⟨⟨(by omega : 0 ≤ k - 2 * (t : Int) - 1), fun z => odd_half g1 g2 (h3 ?_)⟩, (by omega : k - 2 * (t : Int) - 1 ≤ k), ?_⟩
    · have z : 0 < k - 2 * (t : Int) - 1 := z
      omega
    · have : (k - (k - 2 * (t : Int) - 1)).toNat = 2 * t + 1 := by omega
      simp only [this]
      show Q4.rtn (2 * t) (Q4.rt _) = x
      rw [Q4.rtn_two]
      have e3 : Q4.rt ⟨(b - d) / 2, (a + c) / 2, (b + d) / 2, (c - a) / 2⟩ = ⟨a, b, c, d⟩ := Q4.ext' (half_s g1).1 (half_t g2).1 (half_s g1).2 (half_t g2).2
      rw [e3, e2]
/-- no part above a bound -/
def Q4.Le (M : Nat) (x : Q4) : Prop := x.a.natAbs ≤ M ∧ x.b.natAbs ≤ M ∧ x.c.natAbs ≤ M ∧ x.d.natAbs ≤ M
theorem div_le (a : Int) (t : Nat) (h : a = a / 2 ^ t * 2 ^ t) : (a / 2 ^ t).natAbs ≤ a.natAbs := by
  have pw := pow_pos' t
  have : a.natAbs = (a / 2 ^ t).natAbs * ((2 : Int) ^ t).natAbs := by rw [← Int.natAbs_mul, ← h]
  rw [this]
  exact Nat.le_mul_of_pos_right _ (by omega)
theorem half_add_le {a b : Int} {M : Nat} (ha : a.natAbs ≤ M) (hb : b.natAbs ≤ M) : ((a + b) / 2).natAbs ≤ M := by omega
theorem half_sub_le {a b : Int} {M : Nat} (ha : a.natAbs ≤ M) (hb : b.natAbs ≤ M) : ((a - b) / 2).natAbs ≤ M := by omega
theorem num_le (x : Q4) (k : Int) (hk : 0 ≤ k) (M : Nat) (h : Q4.Le M x) : Q4.Le M (num x k).1 := by
  obtain ⟨t, e, h1, ha, hb, hc, hd, h3⟩ := twos_four x.a x.b x.c x.d (k / 2) (by omega)
  have la := Nat.le_trans (div_le _ _ ha) h.1
  have lb := Nat.le_trans (div_le _ _ hb) h.2.1
  have lc := Nat.le_trans (div_le _ _ hc) h.2.2.1
  have ld := Nat.le_trans (div_le _ _ hd) h.2.2.2
  unfold num Q4.Le
  simp only [e, Int.toNat_natCast]
  split
  · exact ⟨la, lb, lc, ld⟩
  · exact ⟨half_sub_le lb ld, half_add_le la lc, half_add_le lb ld, half_sub_le lc la⟩
theorem two_add_le {a b : Int} {M N : Nat} (ha : a.natAbs ≤ M) (hb : b.natAbs ≤ N) : (a + b).natAbs ≤ M + N := Nat.le_trans (Int.natAbs_add_le a b) (Nat.add_le_add ha hb)
theorem two_sub_le {a b : Int} {M N : Nat} (ha : a.natAbs ≤ M) (hb : b.natAbs ≤ N) : (a - b).natAbs ≤ M + N := Nat.le_trans (Int.natAbs_sub_le a b) (Nat.add_le_add ha hb)
theorem rt_le {x : Q4} {M : Nat} (h : Q4.Le M x) : Q4.Le (2 * M) (Q4.rt x) := by
  obtain ⟨g1, g2, g3, g4⟩ := h
  rw [Nat.two_mul]
  unfold Q4.Le Q4.rt
  exact ⟨two_sub_le g2 g4, two_add_le g1 g3, two_add_le g2 g4, two_sub_le g3 g1⟩
theorem rtn_le {x : Q4} {M : Nat} : ∀ (n : Nat), Q4.Le M x → Q4.Le (2 ^ n * M) (Q4.rtn n x)
  | 0, h => by simpa [Q4.rtn] using h
  | n + 1, h => by
    have := rt_le (rtn_le n h)
    rw [Q4.rtn_succ]
    rw [Nat.pow_succ, Nat.mul_comm (2 ^ n) 2, Nat.mul_assoc]
    exact this
theorem Q4.Le.mono {x : Q4} {M N : Nat} (h : Q4.Le M x) (hl : M ≤ N) : Q4.Le N x := ⟨Nat.le_trans h.1 hl, Nat.le_trans h.2.1 hl, Nat.le_trans h.2.2.1 hl, Nat.le_trans h.2.2.2 hl⟩
theorem add_le {x y : Q4} {M N : Nat} (h : Q4.Le M x) (h' : Q4.Le N y) : Q4.Le (M + N) (Q4.add x y) :=
  ⟨two_add_le h.1 h'.1, two_add_le h.2.1 h'.2.1, two_add_le h.2.2.1 h'.2.2.1, two_add_le h.2.2.2 h'.2.2.2⟩
theorem four_le {a b c d : Int} {M : Nat} (ha : a.natAbs ≤ M) (hb : b.natAbs ≤ M) (hc : c.natAbs ≤ M) (hd : d.natAbs ≤ M) (s t u : Int) (hs : s = b ∨ s = -b) (ht : t = c ∨ t = -c) (hu : u = d ∨ u = -d) : (a + s + t + u).natAbs ≤ 4 * M := by
  have h1 := Int.natAbs_add_le (a + s + t) u
  have h2 := Int.natAbs_add_le (a + s) t
  have h3 := Int.natAbs_add_le a s
  have e1 : s.natAbs = b.natAbs := by rcases hs with rfl | rfl <;> simp
  have e2 : t.natAbs = c.natAbs := by rcases ht with rfl | rfl <;> simp
  have e3 : u.natAbs = d.natAbs := by rcases hu with rfl | rfl <;> simp
  rw [e1] at h3
  rw [e2] at h2
  rw [e3] at h1
  generalize (a + s + t + u).natAbs = A at *
  generalize (a + s + t).natAbs = B at *
  generalize (a + s).natAbs = C at *
  generalize a.natAbs = a' at *
  generalize b.natAbs = b' at *
  generalize c.natAbs = c' at *
  generalize d.natAbs = d' at *
  omega
theorem mul_le {x y : Q4} {M N : Nat} (h : Q4.Le M x) (h' : Q4.Le N y) : Q4.Le (4 * (M * N)) (Q4.mul x y) := by
  obtain ⟨g1, g2, g3, g4⟩ := h
  obtain ⟨k1, k2, k3, k4⟩ := h'
  have m : ∀ a b : Int, a.natAbs ≤ M → b.natAbs ≤ N → (a * b).natAbs ≤ M * N := fun a b ha hb => by rw [Int.natAbs_mul]; exact Nat.mul_le_mul ha hb
  refine ⟨?_, ?_, ?_, ?_⟩
  · have := four_le (m _ _ g1 k1) (m _ _ g2 k4) (m _ _ g3 k3) (m _ _ g4 k2) _ _ _ (.inr rfl) (.inr rfl) (.inr rfl)
    simpa [Q4.mul, Int.sub_eq_add_neg] using this
  · have := four_le (m _ _ g1 k2) (m _ _ g2 k1) (m _ _ g3 k4) (m _ _ g4 k3) _ _ _ (.inl rfl) (.inr rfl) (.inr rfl)
    simpa [Q4.mul, Int.sub_eq_add_neg] using this
  · have := four_le (m _ _ g1 k3) (m _ _ g2 k2) (m _ _ g3 k1) (m _ _ g4 k4) _ _ _ (.inl rfl) (.inl rfl) (.inr rfl)
    simpa [Q4.mul, Int.sub_eq_add_neg] using this
  · have := four_le (m _ _ g1 k4) (m _ _ g2 k3) (m _ _ g3 k2) (m _ _ g4 k1) _ _ _ (.inl rfl) (.inl rfl) (.inl rfl)
    simpa [Q4.mul] using this
/-- the sum and the product, as the program tells them -/
def plusQ (x : Q4) (c : Int) (y : Q4) (d : Int) : Q4 × Int := num (Q4.add (Q4.rtn (max c d - c).toNat x) (Q4.rtn (max c d - d).toNat y)) (max c d)
def timesQ (x : Q4) (c : Int) (y : Q4) (d : Int) : Q4 × Int := num (Q4.mul x y) (c + d)
/-- turned by eighths -/
def tnn : Nat → Q4 → Q4
  | 0, x => x
  | n + 1, x => Q4.tn (tnn n x)
theorem tnn_le {x : Q4} {M : Nat} : ∀ n : Nat, Q4.Le M x → Q4.Le M (tnn n x)
  | 0, h => h
  | n + 1, h => by
    obtain ⟨a, b, c, d⟩ := tnn_le n h
    exact ⟨by simpa [tnn, Q4.tn] using d, a, b, c⟩
theorem tn_odd {x : Q4} : Q4.Odd (Q4.tn x) ↔ Q4.Odd x := by
  unfold Q4.Odd Q4.tn
  simp only
  omega
theorem tnn_odd {x : Q4} : ∀ n : Nat, Q4.Odd (tnn n x) ↔ Q4.Odd x
  | 0 => Iff.rfl
  | n + 1 => tn_odd.trans (tnn_odd n)
theorem tnn_least {x : Q4} {c : Int} (n : Nat) (h : Q4.Least x c) : Q4.Least (tnn n x) c := ⟨h.1, fun z => (tnn_odd n).mpr (h.2 z)⟩
/-- x over c roots is u over k roots, and it is in least form -/
def Is (x : Q4) (c : Nat) (u : Q4) (k : Nat) : Prop := Q4.Least x c ∧ Q4.rtn k x = Q4.rtn c u
theorem rtn_swap (m n : Nat) (x : Q4) : Q4.rtn m (Q4.rtn n x) = Q4.rtn n (Q4.rtn m x) := by rw [← Q4.rtn_add, ← Q4.rtn_add, Nat.add_comm]
theorem Is.self {x : Q4} {c : Nat} (h : Q4.Least x c) : Is x c x c := ⟨h, rfl⟩
theorem Is.one {x y u v : Q4} {c d k l : Nat} (hx : Is x c u k) (hy : Is y d v l) (h : Q4.rtn l u = Q4.rtn k v) : x = y ∧ c = d := by
  have e : Q4.rtn d x = Q4.rtn c y := by
    refine Q4.rtn_inj (n := k + l) ?_
    rw [Q4.rtn_add, Q4.rtn_add, rtn_swap l d x, rtn_swap k d, rtn_swap k l, hx.2, rtn_swap l c u, h, rtn_swap l c y, hy.2, rtn_swap k c, rtn_swap k d v, rtn_swap d c]
  exact Q4.Least.one (m := c + d) hx.1 hy.1 (by omega) (by omega) (by rw [show c + d - c = d by omega, show c + d - d = c by omega]; exact e)
theorem num_is (u : Q4) (k : Nat) : ∃ c : Nat, (num u k).2 = c ∧ c ≤ k ∧ Is (num u k).1 c u k := by
  obtain ⟨s1, s2, s3⟩ := num_spec u k (by omega)
  obtain ⟨c, hc⟩ : ∃ c : Nat, (num u k).2 = c := ⟨(num u k).2.toNat, by have := s1.1; omega⟩
  rw [hc] at s1 s2 s3
  refine ⟨c, hc, by omega, s1, ?_⟩
  have e : ((k : Int) - c).toNat = k - c := by omega
  rw [e] at s3
  conv => rhs; rw [← s3]
  rw [← Q4.rtn_add]
  congr 1
  omega
theorem Is.trans {x u v : Q4} {c k l : Nat} (h : Is x c u k) (e : Q4.rtn l u = Q4.rtn k v) : Is x c v l := by
  refine ⟨h.1, Q4.rtn_inj (n := k) ?_⟩
  rw [rtn_swap, h.2, rtn_swap, e, rtn_swap]
theorem tn_rtn (n : Nat) (x : Q4) : Q4.tn (Q4.rtn n x) = Q4.rtn n (Q4.tn x) := by
  induction n generalizing x with
  | zero => rfl
  | succ n ih => show Q4.tn (Q4.rtn n (Q4.rt x)) = Q4.rtn n (Q4.rt (Q4.tn x)); rw [ih, Q4.tn_rt]
theorem tnn_rtn (m n : Nat) (x : Q4) : tnn m (Q4.rtn n x) = Q4.rtn n (tnn m x) := by
  induction m with
  | zero => rfl
  | succ m ih => show Q4.tn (tnn m (Q4.rtn n x)) = _; rw [ih, tn_rtn]; rfl
theorem tnn_add (m n : Nat) (x : Q4) : tnn (m + n) x = tnn m (tnn n x) := by
  induction m with
  | zero => rw [Nat.zero_add]; rfl
  | succ m ih => rw [Nat.succ_add]; show Q4.tn (tnn (m + n) x) = _; rw [ih]; rfl
theorem tnn_mul (n : Nat) (x y : Q4) : tnn n (Q4.mul x y) = Q4.mul x (tnn n y) := by
  induction n with
  | zero => rfl
  | succ n ih => show Q4.tn (tnn n (Q4.mul x y)) = _; rw [ih, Q4.tn_mul]; rfl
theorem plusQ_le {x y : Q4} {c d : Nat} {p r : Nat} (hx : Q4.Le (2 ^ p) x) (hy : Q4.Le (2 ^ p) y) (hc : c ≤ r) (hd : d ≤ r) : Q4.Le (2 ^ (p + r + 1)) (plusQ x c y d).1 := by
  have em : max (c : Int) d = ((max c d : Nat) : Int) := by omega
  unfold plusQ
  refine num_le _ _ (by omega) _ ?_
  have up : ∀ (n : Nat) (z : Q4), n ≤ r → Q4.Le (2 ^ p) z → Q4.Le (2 ^ (p + r)) (Q4.rtn n z) := fun n z hn hz => by
    refine (rtn_le n hz).mono ?_
    rw [← Nat.pow_add]
    exact Nat.pow_le_pow_right (by decide) (by omega)
  have := add_le (up (max (c : Int) d - c).toNat x (by omega) hx) (up (max (c : Int) d - d).toNat y (by omega) hy)
  rw [Nat.pow_succ, Nat.mul_two]
  exact this
theorem timesQ_le {x y : Q4} {c d : Nat} {p q : Nat} (hx : Q4.Le (2 ^ p) x) (hy : Q4.Le (2 ^ q) y) : Q4.Le (2 ^ (p + q + 2)) (timesQ x c y d).1 := by
  unfold timesQ
  refine num_le _ _ (by omega) _ ?_
  have := mul_le hx hy
  rw [← Nat.pow_add, show (4 : Nat) = 2 ^ 2 from rfl, ← Nat.pow_add, Nat.add_comm 2] at this
  exact this
/-! ### shares -/
structure S2 where
  p : Int
  q : Int
namespace S2
theorem ext' {x y : S2} (h1 : x.p = y.p) (h2 : x.q = y.q) : x = y := by
  cases x; cases y; simp at h1 h2; subst h1 h2; rfl
def add (x y : S2) : S2 := ⟨x.p + y.p, x.q + y.q⟩
def mul (x y : S2) : S2 := ⟨x.p * y.p + 2 * x.q * y.q, x.p * y.q + x.q * y.p⟩
def sc (n : Nat) (x : S2) : S2 := ⟨x.p * 2 ^ n, x.q * 2 ^ n⟩
theorem sc_add (m n : Nat) (x : S2) : sc (m + n) x = sc m (sc n x) := by
  apply ext' <;> simp only [sc, Int.pow_add] <;> rw [Int.mul_assoc, Int.mul_comm (2 ^ n)]
theorem sc_swap (m n : Nat) (x : S2) : sc m (sc n x) = sc n (sc m x) := by rw [← sc_add, ← sc_add, Nat.add_comm]
theorem sc_inj {n : Nat} {x y : S2} (h : sc n x = sc n y) : x = y := by
  have pw := pow_pos' n
  have h1 := congrArg S2.p h
  have h2 := congrArg S2.q h
  simp only [sc] at h1 h2
  exact ext' (Int.eq_of_mul_eq_mul_right (by omega) h1) (Int.eq_of_mul_eq_mul_right (by omega) h2)
theorem sc_addS (n : Nat) (x y : S2) : sc n (add x y) = add (sc n x) (sc n y) := by apply ext' <;> simp only [sc, add, Int.add_mul]
theorem sc_mul (m n : Nat) (x y : S2) : sc (m + n) (mul x y) = mul (sc m x) (sc n y) := by
  apply ext' <;> simp only [sc, mul, Int.pow_add] <;> generalize (2 : Int) ^ m = A <;> generalize (2 : Int) ^ n = B <;> grind
def Odd (x : S2) : Prop := ¬ (x.p % 2 = 0 ∧ x.q % 2 = 0)
theorem sc_even (n : Nat) (x : S2) : ¬ Odd (sc (n + 1) x) := by
  unfold Odd sc
  rw [Int.pow_succ, ← Int.mul_assoc, ← Int.mul_assoc]
  simp only
  omega
def Least (x : S2) (c : Nat) : Prop := 0 < c → Odd x
theorem Least.one {x y : S2} {k l m : Nat} (hx : Least x k) (hy : Least y l) (h1 : k ≤ m) (h2 : l ≤ m) (h : sc (m - k) x = sc (m - l) y) : x = y ∧ k = l := by
  have key : ∀ {x y : S2} {k l : Nat}, Least y l → k ≤ m → l ≤ m → k < l → sc (m - k) x = sc (m - l) y → False := by
    intro x y k l hy h1 h2 hlt h
    have e : m - k = (m - l) + (l - k) := by omega
    rw [e, sc_add] at h
    have h3 := sc_inj h
    obtain ⟨n, hn⟩ : ∃ n, l - k = n + 1 := ⟨l - k - 1, by omega⟩
    rw [hn] at h3
    have := hy (by omega)
    rw [← h3] at this
    exact sc_even _ _ this
  rcases Nat.lt_trichotomy k l with q | q | q
  · exact (key hy h1 h2 q h).elim
  · subst q; exact ⟨sc_inj h, rfl⟩
  · exact (key hx h2 h1 q h.symm).elim
def Le (M : Nat) (x : S2) : Prop := x.p.natAbs ≤ M ∧ x.q.natAbs ≤ M
theorem Le.mono {x : S2} {M N : Nat} (h : Le M x) (hl : M ≤ N) : Le N x := ⟨Nat.le_trans h.1 hl, Nat.le_trans h.2 hl⟩
theorem add_le {x y : S2} {M N : Nat} (h : Le M x) (h' : Le N y) : Le (M + N) (add x y) :=
  ⟨Nat.le_trans (Int.natAbs_add_le _ _) (Nat.add_le_add h.1 h'.1), Nat.le_trans (Int.natAbs_add_le _ _) (Nat.add_le_add h.2 h'.2)⟩
theorem sc_le {x : S2} {p : Nat} (n : Nat) (h : Le (2 ^ p) x) : Le (2 ^ (p + n)) (sc n x) := by
  have e : ((2 : Int) ^ n).natAbs = 2 ^ n := by
    have : ((2 ^ n : Nat) : Int) = (2 : Int) ^ n := by simp
    rw [← this, Int.natAbs_natCast]
  constructor
  · show (x.p * 2 ^ n).natAbs ≤ _
    rw [Int.natAbs_mul, e, Nat.pow_add]; exact Nat.mul_le_mul_right _ h.1
  · show (x.q * 2 ^ n).natAbs ≤ _
    rw [Int.natAbs_mul, e, Nat.pow_add]; exact Nat.mul_le_mul_right _ h.2
theorem mul_le {x y : S2} {M N : Nat} (h : Le M x) (h' : Le N y) : Le (4 * (M * N)) (mul x y) := by
  have m : ∀ a b : Int, a.natAbs ≤ M → b.natAbs ≤ N → (a * b).natAbs ≤ M * N := fun a b ha hb => by rw [Int.natAbs_mul]; exact Nat.mul_le_mul ha hb
  have m1 := m _ _ h.1 h'.1
  have m2 := m _ _ h.2 h'.2
  have m3 := m _ _ h.1 h'.2
  have m4 := m _ _ h.2 h'.1
  constructor
  · show (x.p * y.p + 2 * x.q * y.q).natAbs ≤ _
    have h1 := Int.natAbs_add_le (x.p * y.p) (2 * x.q * y.q)
    have h2 : (2 * x.q * y.q).natAbs = 2 * (x.q * y.q).natAbs := by rw [Int.mul_assoc, Int.natAbs_mul]; rfl
    rw [h2] at h1
    generalize (x.p * y.p + 2 * x.q * y.q).natAbs = A at *
    generalize (x.p * y.p).natAbs = B at *
    generalize (x.q * y.q).natAbs = C at *
    generalize M * N = MN at *
    omega
  · show (x.p * y.q + x.q * y.p).natAbs ≤ _
    have h1 := Int.natAbs_add_le (x.p * y.q) (x.q * y.p)
    generalize (x.p * y.q + x.q * y.p).natAbs = A at *
    generalize (x.p * y.q).natAbs = B at *
    generalize (x.q * y.p).natAbs = C at *
    generalize M * N = MN at *
    omega
/-- x over c twos is u over k twos, in least form -/
def Is (x : S2) (c : Nat) (u : S2) (k : Nat) : Prop := Least x c ∧ sc k x = sc c u
theorem Is.one {x y u v : S2} {c d k l : Nat} (hx : Is x c u k) (hy : Is y d v l) (h : sc l u = sc k v) : x = y ∧ c = d := by
  have e : sc d x = sc c y := by
    refine sc_inj (n := k + l) ?_
    rw [sc_add, sc_add, sc_swap l d x, sc_swap k d, sc_swap k l, hx.2, sc_swap l c u, h, sc_swap l c y, hy.2, sc_swap k c, sc_swap k d v, sc_swap d c]
  exact Least.one (m := c + d) hx.1 hy.1 (by omega) (by omega) (by rw [show c + d - c = d by omega, show c + d - d = c by omega]; exact e)
theorem Is.trans {x u v : S2} {c k l : Nat} (h : Is x c u k) (e : sc l u = sc k v) : Is x c v l := by
  refine ⟨h.1, sc_inj (n := k) ?_⟩
  rw [sc_swap, h.2, sc_swap, e, sc_swap]
end S2
/-- the size of four parts -/
def nrm (x : Q4) : S2 := ⟨x.a * x.a + x.b * x.b + x.c * x.c + x.d * x.d, x.a * x.b + x.b * x.c + x.c * x.d - x.d * x.a⟩
theorem nrm_rt (x : Q4) : nrm (Q4.rt x) = S2.sc 1 (nrm x) := by apply S2.ext' <;> simp only [nrm, Q4.rt, S2.sc] <;> grind
theorem nrm_rtn (n : Nat) (x : Q4) : nrm (Q4.rtn n x) = S2.sc n (nrm x) := by
  induction n generalizing x with
  | zero => apply S2.ext' <;> simp [Q4.rtn, S2.sc]
  | succ n ih => show nrm (Q4.rtn n (Q4.rt x)) = _; rw [ih, nrm_rt, ← S2.sc_add]
theorem nrm_mul (x y : Q4) : nrm (Q4.mul x y) = S2.mul (nrm x) (nrm y) := by apply S2.ext' <;> simp only [nrm, Q4.mul, S2.mul] <;> grind
theorem nrm_tn (x : Q4) : nrm (Q4.tn x) = nrm x := by apply S2.ext' <;> simp only [nrm, Q4.tn] <;> grind
theorem nrm_tnn (n : Nat) (x : Q4) : nrm (tnn n x) = nrm x := by
  induction n with
  | zero => rfl
  | succ n ih => show nrm (Q4.tn (tnn n x)) = _; rw [nrm_tn, ih]
theorem nrm_two (x y : Q4) : S2.add (nrm (Q4.add x y)) (nrm (Q4.add x (Q4.neg y))) = S2.add (S2.add (nrm x) (nrm y)) (S2.add (nrm x) (nrm y)) := by
  apply S2.ext' <;> simp only [nrm, Q4.add, Q4.neg, S2.add] <;> grind
theorem nrm_le {x : Q4} {M : Nat} (h : Q4.Le M x) : S2.Le (4 * (M * M)) (nrm x) := by
  obtain ⟨g1, g2, g3, g4⟩ := h
  have m : ∀ a b : Int, a.natAbs ≤ M → b.natAbs ≤ M → (a * b).natAbs ≤ M * M := fun a b ha hb => by rw [Int.natAbs_mul]; exact Nat.mul_le_mul ha hb
  constructor
  · have := four_le (m _ _ g1 g1) (m _ _ g2 g2) (m _ _ g3 g3) (m _ _ g4 g4) _ _ _ (.inl rfl) (.inl rfl) (.inl rfl)
    simpa [nrm] using this
  · have := four_le (m _ _ g1 g2) (m _ _ g2 g3) (m _ _ g3 g4) (m _ _ g4 g1) _ _ _ (.inl rfl) (.inl rfl) (.inr rfl)
    simpa [nrm, Int.sub_eq_add_neg] using this
theorem sq_nn (a : Int) : 0 ≤ a * a := by
  rcases Int.le_total 0 a with h | h
  · exact Int.mul_nonneg h h
  · have := Int.mul_nonneg (Int.neg_nonneg.mpr h) (Int.neg_nonneg.mpr h)
    rwa [Int.neg_mul_neg] at this
theorem nrm_zero {x : Q4} (h : (nrm x).p = 0) : x = ⟨0, 0, 0, 0⟩ := by
  have h1 := sq_nn x.a; have h2 := sq_nn x.b; have h3 := sq_nn x.c; have h4 := sq_nn x.d
  simp only [nrm] at h
  have z : ∀ a : Int, a * a = 0 → a = 0 := fun a e => by rcases Int.mul_eq_zero.mp e with q | q <;> exact q
  exact Q4.ext' (z _ (by omega)) (z _ (by omega)) (z _ (by omega)) (z _ (by omega))
theorem Is_size {x u : Q4} {c k : Nat} (h : Is x c u k) : S2.sc k (nrm x) = S2.sc c (nrm u) := by
  rw [← nrm_rtn, ← nrm_rtn, h.2]
/-! ### states -/
abbrev Nu := Q4 × Nat
inductive Row where
  | swing (j : Nat) | turn (j : Nat) (e : Nat) | flip (j : Nat) | tie (i j : Nat) | sign (i j : Nat) | cross (i j : Nat)
def plusN (u v : Nu) : Nu := ((plusQ u.1 u.2 v.1 v.2).1, (plusQ u.1 u.2 v.1 v.2).2.toNat)
def halfN (u : Nu) : Nu := ((num u.1 ((u.2 + 1 : Nat) : Int)).1, (num u.1 ((u.2 + 1 : Nat) : Int)).2.toNat)
def turnN (e : Nat) (u : Nu) : Nu := (tnn (e % 8) u.1, u.2)
/-- what wire j's bit is worth -/
def wt (n j : Nat) : Nat := 2 ^ (n - 1 - j)
def bit (w p : Nat) : Nat := p / w % 2
def flp (w p : Nat) : Nat := if bit w p = 0 then p + w else p - w
/-- where a flip, a tie, a cross take the number from -/
def from_ (n : Nat) : Row → Nat → Nat
  | .flip j, p => flp (wt n j) p
  | .tie i j, p => if bit (wt n i) p = 0 then p else flp (wt n j) p
  | .cross i j, p => if bit (wt n i) p = bit (wt n j) p then p else flp (wt n j) (flp (wt n i) p)
  | _, p => p
def doneAt (n : Nat) (f : Nat → Nu) : Row → Nat → Nu
  | .swing j, p => if bit (wt n j) p = 0 then halfN (plusN (f p) (f (p + wt n j))) else halfN (plusN (f (p - wt n j)) (turnN 4 (f p)))
  | .turn j e, p => turnN (e * bit (wt n j) p) (f p)
  | .sign i j, p => turnN (4 * bit (wt n i) p * bit (wt n j) p) (f p)
  | r, p => f (from_ n r p)
def Row.ok (n : Nat) : Row → Prop
  | .swing j => j < n
  | .turn j e => j < n ∧ 1 ≤ e ∧ e ≤ 7
  | .flip j => j < n
  | .tie i j => i < n ∧ j < n ∧ i ≠ j
  | .sign i j => i < n ∧ j < n ∧ i ≠ j
  | .cross i j => i < n ∧ j < n ∧ i ≠ j
theorem wt_pos (n j : Nat) : 0 < wt n j := Nat.pow_pos (by decide)
theorem wt_two {n j : Nat} (h : j < n) : 2 ^ n = wt n j * 2 ^ (j + 1) := by
  unfold wt
  rw [← Nat.pow_add]; congr 1; omega
theorem bit_lt (w p : Nat) : bit w p < 2 := Nat.mod_lt _ (by decide)
/-- p = (2 q + bit) w + rest -/
theorem bit_split (w p : Nat) (hw : 0 < w) : ∃ q r, p = (2 * q + bit w p) * w + r ∧ r < w := by
  refine ⟨p / w / 2, p % w, ?_, Nat.mod_lt _ hw⟩
  unfold bit
  rw [Nat.div_add_mod, Nat.div_add_mod']
theorem bit_of {w q b r : Nat} (hb : b < 2) (hr : r < w) : bit w ((2 * q + b) * w + r) = b := by
  unfold bit
  rw [Nat.mul_comm, Nat.mul_add_div (by omega), Nat.div_eq_of_lt hr]
  omega
theorem bit1_le {w p : Nat} (hw : 0 < w) (h : bit w p = 1) : w ≤ p := by
  obtain ⟨q, r, e, _⟩ := bit_split w p hw
  rw [h] at e
  have : (2 * q + 1) * w = 2 * q * w + w := by rw [Nat.add_mul, Nat.one_mul]
  omega
theorem bit0_lt {n j p : Nat} (hj : j < n) (hp : p < 2 ^ n) (h : bit (wt n j) p = 0) : p + wt n j < 2 ^ n := by
  obtain ⟨q, r, e, hr⟩ := bit_split (wt n j) p (wt_pos n j)
  rw [h] at e
  have h2 := wt_two hj
  have hq : q < 2 ^ j := by
    refine Nat.lt_of_not_le fun z => ?_
    have : 2 * 2 ^ j * wt n j ≤ 2 * q * wt n j := Nat.mul_le_mul_right _ (by omega)
    have e2 : wt n j * 2 ^ (j + 1) = 2 * 2 ^ j * wt n j := by rw [Nat.pow_succ, Nat.mul_comm, Nat.mul_comm (2 ^ j) 2]
    rw [Nat.add_zero] at e
    omega
  have : (2 * q + 2) * wt n j ≤ 2 * 2 ^ j * wt n j := Nat.mul_le_mul_right _ (by omega)
  have e2 : wt n j * 2 ^ (j + 1) = 2 * 2 ^ j * wt n j := by rw [Nat.pow_succ, Nat.mul_comm, Nat.mul_comm (2 ^ j) 2]
  have e3 : (2 * q + 2) * wt n j = 2 * q * wt n j + 2 * wt n j := Nat.add_mul ..
  rw [Nat.add_zero] at e
  omega
theorem flp_lt {n j p : Nat} (hj : j < n) (hp : p < 2 ^ n) : flp (wt n j) p < 2 ^ n := by
  unfold flp
  split
  · exact bit0_lt hj hp (by assumption)
  · omega
theorem from_lt {n p : Nat} {r : Row} (hr : r.ok n) (hp : p < 2 ^ n) : from_ n r p < 2 ^ n := by
  cases r with
  | flip j => exact flp_lt hr hp
  | tie i j => show (if _ then _ else _) < _; split; exact hp; exact flp_lt hr.2.1 hp
  | cross i j => show (if _ then _ else _) < _; split; exact hp; exact flp_lt hr.2.1 (flp_lt hr.1 hp)
  | _ => exact hp
theorem flp_div {w p : Nat} (hw : 0 < w) : flp w p / (2 * w) = p / (2 * w) := by
  obtain ⟨q, r, e, hr⟩ := bit_split w p hw
  have h2 := bit_lt w p
  have e1 : (2 * q + bit w p) * w = 2 * w * q + bit w p * w := by rw [Nat.add_mul, Nat.mul_right_comm]
  have one : ∀ x, x < 2 * w → (2 * w * q + x) / (2 * w) = q := fun x hx => by rw [Nat.mul_add_div (by omega), Nat.div_eq_of_lt hx, Nat.add_zero]
  unfold flp
  split
  · rename_i h
    rw [h] at e e1
    have a := one (r + w) (by omega)
    have b := one r (by omega)
    rw [show p + w = 2 * w * q + (r + w) by omega, a, show p = 2 * w * q + r by omega, b]
  · rename_i h
    have h1 : bit w p = 1 := by omega
    rw [h1] at e e1
    have a := one (r + w) (by omega)
    have b := one r (by omega)
    rw [show p - w = 2 * w * q + r by omega, b, show p = 2 * w * q + (r + w) by omega, a]
theorem bit_shift (x p m : Nat) (hx : 0 < x) : bit x (p + 2 * x * m) = bit x p := by
  unfold bit
  rw [show p + 2 * x * m = p + x * (2 * m) by rw [Nat.mul_comm 2 x, Nat.mul_assoc], Nat.add_mul_div_left _ _ hx]
  omega
/-- the other bits stay -/
theorem bit_flp {n i j p : Nat} (hi : i < n) (hj : j < n) (hij : i ≠ j) : bit (wt n j) (flp (wt n i) p) = bit (wt n j) p := by
  have hw := wt_pos n i
  by_cases h : j < i
  · -- the flipped bit is worth less
    have e : wt n j = 2 * wt n i * 2 ^ (i - j - 1) := by
      unfold wt
      rw [show 2 * 2 ^ (n - 1 - i) = 2 ^ (n - 1 - i + 1) by rw [Nat.pow_succ, Nat.mul_comm], ← Nat.pow_add]
      congr 1; omega
    unfold bit
    rw [e, ← Nat.div_div_eq_div_mul (flp (wt n i) p) (2 * wt n i), ← Nat.div_div_eq_div_mul p (2 * wt n i), flp_div hw]
  · have e : wt n i = 2 * wt n j * 2 ^ (j - i - 1) := by
      unfold wt
      rw [show 2 * 2 ^ (n - 1 - j) = 2 ^ (n - 1 - j + 1) by rw [Nat.pow_succ, Nat.mul_comm], ← Nat.pow_add]
      congr 1; omega
    unfold flp
    split
    · rw [e]; exact bit_shift _ _ _ (wt_pos n j)
    · rename_i hb
      have h2 := bit_lt (wt n i) p
      have := bit1_le (w := wt n i) (p := p) hw (by omega)
      have := bit_shift (wt n j) (p - wt n i) (2 ^ (j - i - 1)) (wt_pos n j)
      rw [← this, ← e, Nat.sub_add_cancel (by assumption)]
theorem bit_flp_same {w p : Nat} (hw : 0 < w) : bit w (flp w p) = 1 - bit w p := by
  obtain ⟨q, r, e, hr⟩ := bit_split w p hw
  have h2 := bit_lt w p
  unfold flp
  split
  · rename_i h
    rw [h] at e
    rw [h, show p + w = (2 * q + 1) * w + r by rw [Nat.add_mul] at e ⊢; omega]
    exact bit_of (by decide) hr
  · rename_i h
    have h1 : bit w p = 1 := by omega
    rw [h1] at e
    rw [h1, show p - w = (2 * q + 0) * w + r by rw [Nat.add_mul] at e ⊢; omega]
    exact bit_of (by decide) hr
theorem flp_flp {w p : Nat} (hw : 0 < w) : flp w (flp w p) = p := by
  have h := bit_flp_same (p := p) hw
  have h2 := bit_lt w p
  by_cases c : bit w p = 0
  · have e : flp w p = p + w := if_pos c
    rw [c] at h
    rw [e] at h ⊢
    unfold flp
    rw [if_neg (by omega)]; omega
  · have c1 : bit w p = 1 := by omega
    have e : flp w p = p - w := if_neg c
    have := bit1_le hw c1
    rw [c1] at h
    rw [e] at h ⊢
    unfold flp
    rw [if_pos (by omega)]; omega
/-! ### bits of a whole number -/
theorem band (a b : Nat) : Builtin.bitAnd (a : Int) (b : Int) = ((a &&& b : Nat) : Int) := by
  unfold Builtin.bitAnd
  simp
theorem two_parts {x y z : Nat} (h : x / 2 = y / 2 + z / 2) (m : x % 2 = y % 2 + z % 2) : x = y + z := by omega
theorem mod_parts {u v w : Nat} {p q : Prop} (hu : u < 2) (hv : v < 2) (hw : w < 2) (m1 : u = 1 ↔ p ∨ q) (m2 : v = 1 ↔ ¬ (p ↔ q)) (m3 : w = 1 ↔ p ∧ q) : u = v + w := by
  have z : ∀ {x : Nat}, x < 2 → ¬ x = 1 → x = 0 := fun h k => by omega
  by_cases a : p <;> by_cases b : q
  · rw [m1.mpr (.inl a), m3.mpr ⟨a, b⟩, z hv fun e => m2.mp e ⟨fun _ => b, fun _ => a⟩]
  · rw [m1.mpr (.inl a), m2.mpr fun e => b (e.mp a), z hw fun e => b (m3.mp e).2]
  · rw [m1.mpr (.inr b), m2.mpr fun e => a (e.mpr b), z hw fun e => a (m3.mp e).1]
  · rw [z hu fun e => (m1.mp e).elim a b, z hv fun e => m2.mp e ⟨fun c => absurd c a, fun c => absurd c b⟩, z hw fun e => a (m3.mp e).1]
theorem and_or_nat : ∀ (k a b : Nat), a < 2 ^ k → b < 2 ^ k → (a ||| b) = (a ^^^ b) + (a &&& b)
  | 0, a, b, ha, hb => by
    have : a = 0 := by simpa using ha
    have : b = 0 := by simpa using hb
    subst a; subst b; rfl
  | k + 1, a, b, ha, hb => by
    have ih := and_or_nat k (a / 2) (b / 2) (by rw [Nat.pow_succ] at ha; omega) (by rw [Nat.pow_succ] at hb; omega)
    have h1 := @Nat.or_div_two a b
    have h2 := @Nat.xor_div_two a b
    have h3 := @Nat.and_div_two a b
    have m1 := @Nat.or_mod_two_eq_one a b
    have m2 := @Nat.xor_mod_two_eq_one a b
    have m3 := @Nat.and_mod_two_eq_one a b
    rw [← h1, ← h2, ← h3] at ih
    exact two_parts ih (mod_parts (Nat.mod_lt _ (by decide)) (Nat.mod_lt _ (by decide)) (Nat.mod_lt _ (by decide)) m1 m2 m3)
theorem bor (a b : Nat) : Builtin.bitOr (a : Int) (b : Int) = ((a ||| b : Nat) : Int) := by
  have h1 : ¬ (0 : Int) ≤ Builtin.bitNot (a : Int) := by unfold Builtin.bitNot; omega
  have h2 : ¬ (0 : Int) ≤ Builtin.bitNot (b : Int) := by unfold Builtin.bitNot; omega
  have e1 : (Builtin.bitNot (Builtin.bitNot (a : Int))).toNat = a := by unfold Builtin.bitNot; omega
  have e2 : (Builtin.bitNot (Builtin.bitNot (b : Int))).toNat = b := by unfold Builtin.bitNot; omega
  unfold Builtin.bitOr Builtin.bitAnd
  rw [decide_eq_false h1, decide_eq_false h2]
  dsimp only
  rw [e1, e2]
  unfold Builtin.bitNot
  omega
theorem bxor (a b : Nat) : Builtin.bitXor (a : Int) (b : Int) = ((a ^^^ b : Nat) : Int) := by
  unfold Builtin.bitXor
  rw [bor, band]
  have h : ∀ n : Nat, n < 2 ^ n := fun n => Nat.lt_two_pow_self
  have := and_or_nat (max a b) a b (Nat.lt_of_lt_of_le (h a) (Nat.pow_le_pow_right (by decide) (by omega))) (Nat.lt_of_lt_of_le (h b) (Nat.pow_le_pow_right (by decide) (by omega)))
  omega
/-- how many bits are 1 -/
def cnt (n : Nat) : Nat := if n = 0 then 0 else n % 2 + cnt (n / 2)
termination_by n
decreasing_by omega
/-- is an odd number of bits 1? -/
def par (n : Nat) : Nat := cnt n % 2
/-! ### words -/
structure Wd where
  x : Nat
  z : Nat
  s : Nat
def Wd.ok (n : Nat) (w : Wd) : Prop := w.x < 2 ^ n ∧ w.z < 2 ^ n ∧ w.s < 4
/-! ### shapes: == of a thing with itself -/
def Sh (k : Nat) (d : PyData) : Prop := d.canLay0 = true ∧ d.depth ≤ k
theorem Sh.int (k : Nat) (i : Int) : Sh k (.int i) := ⟨by simp [PyData.canLay0], by simp [PyData.depth]⟩
theorem Sh.all {k : Nat} : ∀ (xs : List PyData), (∀ x ∈ xs, Sh k x) → PyData.canLayAll0 xs = true ∧ PyData.depthAll xs ≤ k
  | [], _ => ⟨by simp [PyData.canLayAll0], by simp [PyData.depthAll]⟩
  | x :: xs, h => by
    obtain ⟨a, b⟩ := Sh.all xs fun y hy => h y (List.mem_cons_of_mem _ hy)
    obtain ⟨c, d⟩ := h x List.mem_cons_self
    refine ⟨by simp [PyData.canLayAll0, a, c], ?_⟩
    simp only [PyData.depthAll]
    omega
theorem Sh.tuple {k : Nat} {xs : List PyData} (h : ∀ x ∈ xs, Sh k x) : Sh (k + 1) (.tuple xs) := by
  obtain ⟨a, b⟩ := Sh.all xs h
  exact ⟨by simp [PyData.canLay0, a], by simp only [PyData.depth]; omega⟩
theorem Sh.list {k : Nat} {xs : List PyData} (h : ∀ x ∈ xs, Sh k x) : Sh (k + 1) (.list xs) := by
  obtain ⟨a, b⟩ := Sh.all xs h
  exact ⟨by simp [PyData.canLay0, a], by simp only [PyData.depth]; omega⟩
mutual
theorem eqv_self : ∀ d : PyData, d.canLay0 = true → PyData.eqv d d = true
  | .none, _ => by simp [PyData.eqv]
  | .bool _, _ => by simp [PyData.eqv]
  | .int _, _ => by simp [PyData.eqv]
  | .str _, _ => by simp [PyData.eqv]
  | .list xs, h => by
    simp only [PyData.eqv]
    exact eqvAll_self xs (by simpa [PyData.canLay0] using h)
  | .tuple xs, h => by
    simp only [PyData.eqv]
    exact eqvAll_self xs (by simpa [PyData.canLay0] using h)
  | .dict _, h => by simp [PyData.canLay0] at h
theorem eqvAll_self : ∀ xs : List PyData, PyData.canLayAll0 xs = true → PyData.eqvAll xs xs = true
  | [], _ => by simp [PyData.eqvAll]
  | x :: xs, h => by
    have h' : x.canLay0 = true ∧ PyData.canLayAll0 xs = true := by simpa [PyData.canLayAll0] using h
    simp only [PyData.eqvAll, eqv_self x h'.1, eqvAll_self xs h'.2, Bool.and_self]
end
/-! ### all numbers over one great r**M -/
def val (M : Nat) (u : Nu) : Q4 := Q4.rtn (M - u.2) u.1
theorem num_rtn (x : Q4) (k M : Nat) (h : k ≤ M) : Q4.rtn (M - (num x k).2.toNat) (num x k).1 = Q4.rtn (M - k) x := by
  obtain ⟨s1, s2, s3⟩ := num_spec x k (by omega)
  have h0 := s1.1
  have e : M - (num x (k : Int)).2.toNat = (M - k) + ((k : Int) - (num x (k : Int)).2).toNat := by omega
  rw [e, Q4.rtn_add, s3]
theorem val_turn (M e : Nat) (u : Nu) : val M (turnN e u) = tnn (e % 8) (val M u) := by
  unfold val turnN
  rw [tnn_rtn]
theorem val_plus {M : Nat} {u v : Nu} (hu : u.2 ≤ M) (hv : v.2 ≤ M) : val M (plusN u v) = Q4.add (val M u) (val M v) := by
  unfold val plusN plusQ
  have hk : max (u.2 : Int) v.2 = ((max u.2 v.2 : Nat) : Int) := by omega
  rw [hk]
  simp only
  rw [num_rtn _ _ M (by omega), Q4.rtn_addQ, ← Q4.rtn_add, ← Q4.rtn_add]
  congr 2 <;> congr 1 <;> omega
theorem val_half {M : Nat} {u : Nu} (hu : u.2 + 1 ≤ M) : Q4.rt (val M (halfN u)) = val M u := by
  unfold val halfN
  rw [num_rtn _ _ M hu, ← Q4.rtn_succ]
  congr 1
  omega
theorem val_neg (M : Nat) (u : Nu) : val M (turnN 4 u) = Q4.neg (val M u) := by
  rw [val_turn]
  show Q4.tn (Q4.tn (Q4.tn (Q4.tn (val M u)))) = _
  unfold Q4.tn Q4.neg
  rfl
def LeastN (u : Nu) : Prop := Q4.Least u.1 u.2
theorem val_inj {M : Nat} {u v : Nu} (hu : LeastN u) (hv : LeastN v) (h1 : u.2 ≤ M) (h2 : v.2 ≤ M) (h : val M u = val M v) : u = v := by
  obtain ⟨a, b⟩ := Q4.Least.one hu hv h1 h2 h
  exact Prod.ext a b
theorem num_least (x : Q4) (k : Nat) : LeastN ((num x k).1, (num x k).2.toNat) := by
  obtain ⟨s1, s2, s3⟩ := num_spec x k (by omega)
  show Q4.Least (num x k).1 ((num x k).2.toNat : Int)
  rw [Int.toNat_of_nonneg s1.1]; exact s1
theorem half_least (u : Nu) : LeastN (halfN u) := num_least _ _
theorem turn_least {u : Nu} (e : Nat) (h : LeastN u) : LeastN (turnN e u) := tnn_least _ h
theorem done_least {f : Nat → Nu} (h : ∀ p, LeastN (f p)) (n : Nat) (r : Row) (p : Nat) : LeastN (doneAt n f r p) := by
  cases r with
  | swing j =>
    show LeastN (if bit (wt n j) p = 0 then _ else _)
    split <;> exact half_least _
  | turn j e => exact turn_least _ (h p)
  | sign i j => exact turn_least _ (h p)
  | flip j => exact h _
  | tie i j => exact h _
  | cross i j => exact h _
/-! ### sums over places -/
def sumI : Nat → (Nat → Int) → Int
  | 0, _ => 0
  | n + 1, F => sumI n F + F n
theorem sumI_congr {F G : Nat → Int} : ∀ (n : Nat), (∀ p, p < n → F p = G p) → sumI n F = sumI n G
  | 0, _ => rfl
  | n + 1, h => by
    show sumI n F + F n = sumI n G + G n
    rw [sumI_congr n fun p hp => h p (by omega), h n (by omega)]
theorem sumI_add (F G : Nat → Int) : ∀ n : Nat, sumI n (fun p => F p + G p) = sumI n F + sumI n G
  | 0 => rfl
  | n + 1 => by
    show sumI n _ + (F n + G n) = sumI n F + F n + (sumI n G + G n)
    rw [sumI_add F G n]; omega
theorem sumI_split (F : Nat → Int) (a : Nat) : ∀ b : Nat, sumI (a + b) F = sumI a F + sumI b (fun r => F (a + r))
  | 0 => by show sumI a F = sumI a F + 0; omega
  | b + 1 => by
    show sumI (a + b) F + F (a + b) = _ + (sumI b _ + F (a + b))
    rw [sumI_split F a b]; omega
theorem sumI_mul (F : Nat → Int) (b : Nat) : ∀ a : Nat, sumI (a * b) F = sumI a (fun q => sumI b (fun r => F (q * b + r)))
  | 0 => by rw [Nat.zero_mul]; rfl
  | a + 1 => by
    rw [Nat.succ_mul, sumI_split, sumI_mul F b a]; rfl
theorem sum_pair {n j : Nat} (hj : j < n) {F G : Nat → Int} (h : ∀ p, p < 2 ^ n → bit (wt n j) p = 0 → G p + G (p + wt n j) = F p + F (p + wt n j)) : sumI (2 ^ n) G = sumI (2 ^ n) F := by
  have hw := wt_pos n j
  have e : 2 ^ n = 2 ^ j * (wt n j + wt n j) := by
    rw [wt_two hj, Nat.pow_succ, Nat.mul_comm, Nat.mul_assoc, Nat.mul_comm 2, Nat.mul_two]
  have two : ∀ H : Nat → Int, sumI (2 ^ n) H = sumI (2 ^ j) (fun q => sumI (wt n j) (fun r => H (q * (wt n j + wt n j) + r) + H (q * (wt n j + wt n j) + r + wt n j))) := fun H => by
    rw [e, sumI_mul]
    refine sumI_congr _ fun q _ => ?_
    rw [sumI_split, ← sumI_add]
    refine sumI_congr _ fun r _ => ?_
    rw [← Nat.add_assoc, Nat.add_right_comm]
  rw [two G, two F]
  refine sumI_congr _ fun q hq => sumI_congr _ fun r hr => ?_
  have e2 : q * (wt n j + wt n j) + r = (2 * q + 0) * wt n j + r := by
    rw [Nat.add_zero, Nat.mul_add, ← Nat.add_mul, ← Nat.two_mul]
  have hb : bit (wt n j) (q * (wt n j + wt n j) + r) = 0 := by rw [e2]; exact bit_of (by decide) hr
  have hl : q * (wt n j + wt n j) + r < 2 ^ n := by
    have : (q + 1) * (wt n j + wt n j) ≤ 2 ^ j * (wt n j + wt n j) := Nat.mul_le_mul_right _ hq
    rw [Nat.succ_mul] at this
    omega
  exact h _ hl hb
/-- a flip where some condition that does not see the bit holds -/
theorem sum_flip {n j : Nat} (hj : j < n) (c : Nat → Bool) (hc : ∀ p, c (flp (wt n j) p) = c p) (F : Nat → Int) : sumI (2 ^ n) (fun p => F (if c p = true then flp (wt n j) p else p)) = sumI (2 ^ n) F := by
  refine sum_pair hj fun p hp hb => ?_
  have e : flp (wt n j) p = p + wt n j := if_pos hb
  have hc := hc p
  rw [e] at hc
  have hw := wt_pos n j
  have e2 : flp (wt n j) (p + wt n j) = p := by rw [← e]; exact flp_flp hw
  rw [hc, e, e2]
  by_cases h : c p = true
  · rw [if_pos h, if_pos h]; omega
  · rw [if_neg h, if_neg h]
theorem sum_tie {n i j : Nat} (hi : i < n) (hj : j < n) (hij : i ≠ j) (F : Nat → Int) : sumI (2 ^ n) (fun p => F (from_ n (.tie i j) p)) = sumI (2 ^ n) F := by
  have := sum_flip hj (fun p => !(bit (wt n i) p == 0)) (fun p => by rw [bit_flp hj hi (Ne.symm hij)]) F
  rw [← this]
  refine sumI_congr _ fun p _ => ?_
  show F (if bit (wt n i) p = 0 then p else flp (wt n j) p) = _
  by_cases h : bit (wt n i) p = 0 <;> simp [h]
theorem flpZ {w p : Nat} (hw : 0 < w) : ((flp w p : Nat) : Int) = (p : Int) + w - 2 * ((w * bit w p : Nat) : Int) := by
  have h2 := bit_lt w p
  unfold flp
  by_cases h : bit w p = 0
  · rw [if_pos h, h]; omega
  · have h1 : bit w p = 1 := by omega
    have := bit1_le hw h1
    rw [if_neg h, h1]; omega
theorem flp_comm {n i j p : Nat} (hi : i < n) (hj : j < n) (hij : i ≠ j) : flp (wt n j) (flp (wt n i) p) = flp (wt n i) (flp (wt n j) p) := by
  have a := flpZ (p := flp (wt n i) p) (wt_pos n j)
  have b := flpZ (p := flp (wt n j) p) (wt_pos n i)
  rw [bit_flp hi hj hij, flpZ (wt_pos n i)] at a
  rw [bit_flp hj hi (Ne.symm hij), flpZ (wt_pos n j)] at b
  omega
theorem sum_cross {n i j : Nat} (hi : i < n) (hj : j < n) (hij : i ≠ j) (F : Nat → Int) : sumI (2 ^ n) (fun p => F (from_ n (.cross i j) p)) = sumI (2 ^ n) F := by
  have h1 := sum_tie hi hj hij (fun p => F (from_ n (.tie i j) (from_ n (.tie j i) p)))
  have h2 := sum_tie hj hi (Ne.symm hij) (fun p => F (from_ n (.tie i j) p))
  have h3 := sum_tie hi hj hij F
  rw [← h3, ← h2, ← h1]
  refine sumI_congr _ fun p _ => ?_
  have hwi := wt_pos n i
  have hwj := wt_pos n j
  have a1 := bit_lt (wt n i) p
  have a2 := bit_lt (wt n j) p
  have f1 := bit_flp (p := p) hj hi (Ne.symm hij)
  have f2 := bit_flp_same (p := p) hwj
  have f3 := bit_flp (p := p) hi hj hij
  have f4 := bit_flp_same (p := p) hwi
  congr 1
  show (if bit (wt n i) p = bit (wt n j) p then p else flp (wt n j) (flp (wt n i) p)) = _
  have b1 : bit (wt n i) p = 0 ∨ bit (wt n i) p = 1 := by omega
  have b2 : bit (wt n j) p = 0 ∨ bit (wt n j) p = 1 := by omega
  have comm : flp (wt n j) (flp (wt n i) p) = flp (wt n i) (flp (wt n j) p) := flp_comm hi hj hij
  have on : ∀ {i j p : Nat}, bit (wt n i) p = 1 → from_ n (.tie i j) p = flp (wt n j) p := fun {i j p} h => by
    show (if bit (wt n i) p = 0 then p else flp (wt n j) p) = _
    rw [h]; rfl
  have off : ∀ {i j p : Nat}, bit (wt n i) p = 0 → from_ n (.tie i j) p = p := fun {i j p} h => if_pos h
  rcases b1 with b1 | b1 <;> rcases b2 with b2 | b2
  · rw [if_pos (by rw [b1, b2]), off b1, off b2, off b1]
  · rw [if_neg (by rw [b1, b2]; decide), off b1, on b2, on (by rw [f4, b1])]
  · rw [if_neg (by rw [b1, b2]; decide), on b1, on (i := j) (by rw [f2, b2]), off (by rw [bit_flp_same hwi, f1, b1]), comm]
  · rw [if_pos (by rw [b1, b2]), on b1, off (i := j) (by rw [f2, b2]), on (by rw [f1, b1]), flp_flp hwj]
theorem plusN_le' (u v : Nu) : (plusN u v).2 ≤ max u.2 v.2 := by
  have hk : max (u.2 : Int) v.2 = ((max u.2 v.2 : Nat) : Int) := by omega
  unfold plusN plusQ
  rw [hk]
  obtain ⟨s1, s2, s3⟩ := num_spec (Q4.add (Q4.rtn (((max u.2 v.2 : Nat) : Int) - u.2).toNat u.1) (Q4.rtn (((max u.2 v.2 : Nat) : Int) - v.2).toNat v.1)) ((max u.2 v.2 : Nat) : Int) (by omega)
  show (num _ _).2.toNat ≤ _
  omega
/-! ### the whole and the inner number stay -/
theorem nrm_pair {x y s t : Q4} (h1 : Q4.rt x = Q4.add s t) (h2 : Q4.rt y = Q4.add s (Q4.neg t)) : S2.add (nrm x) (nrm y) = S2.add (nrm s) (nrm t) := by
  apply S2.sc_inj (n := 1)
  rw [S2.sc_addS, ← nrm_rt, ← nrm_rt, h1, h2, nrm_two]
  apply S2.ext' <;> simp only [S2.add, S2.sc] <;> omega
def nsum (M n : Nat) (f : Nat → Nu) : S2 := ⟨sumI (2 ^ n) (fun p => (nrm (val M (f p))).p), sumI (2 ^ n) (fun p => (nrm (val M (f p))).q)⟩
/-- what a plain row does to a sum over places: F of the new state's place -/
theorem sum_done {n M : Nat} (r : Row) (hr : r.ok n) (f : Nat → Nu) (hf : ∀ p, (f p).2 + 1 ≤ M) (F : Q4 → Int) (ht : ∀ e x, F (tnn e x) = F x) (hp : ∀ x y s t, Q4.rt x = Q4.add s t → Q4.rt y = Q4.add s (Q4.neg t) → F x + F y = F s + F t) : sumI (2 ^ n) (fun p => F (val M (doneAt n f r p))) = sumI (2 ^ n) (fun p => F (val M (f p))) := by
  cases r with
  | swing j =>
    refine sum_pair hr fun p hp' hb => ?_
    have hw := wt_pos n j
    have hb1 : bit (wt n j) (p + wt n j) = 1 := by
      have := bit_flp_same (p := p) hw
      rw [show flp (wt n j) p = p + wt n j from if_pos hb, hb] at this
      exact this
    have e1 : doneAt n f (.swing j) p = halfN (plusN (f p) (f (p + wt n j))) := if_pos hb
    have e2 : doneAt n f (.swing j) (p + wt n j) = halfN (plusN (f (p + wt n j - wt n j)) (turnN 4 (f (p + wt n j)))) := if_neg (by rw [hb1]; decide)
    rw [Nat.add_sub_cancel] at e2
    rw [e1, e2]
    have a := hf p
    have b := hf (p + wt n j)
    have l1 : (plusN (f p) (f (p + wt n j))).2 ≤ max (f p).2 (f (p + wt n j)).2 := plusN_le' _ _
    have l2 : (plusN (f p) (turnN 4 (f (p + wt n j)))).2 ≤ max (f p).2 (f (p + wt n j)).2 := plusN_le' _ _
    refine hp _ _ _ _ ?_ ?_
    · rw [val_half (by omega), val_plus (by omega) (by omega)]
    · rw [val_half (by omega), val_plus (by omega) (by show (f (p + wt n j)).2 ≤ M; omega), val_neg]
  | turn j e => exact sumI_congr _ fun p _ => by show F (val M (turnN _ (f p))) = _; rw [val_turn, ht]
  | sign i j => exact sumI_congr _ fun p _ => by show F (val M (turnN _ (f p))) = _; rw [val_turn, ht]
  | flip j =>
    have := sum_flip hr (fun _ => true) (fun _ => rfl) (fun p => F (val M (f p)))
    exact this
  | tie i j => exact sum_tie hr.1 hr.2.1 hr.2.2 (fun p => F (val M (f p)))
  | cross i j => exact sum_cross hr.1 hr.2.1 hr.2.2 (fun p => F (val M (f p)))
theorem nsum_done {n M : Nat} (r : Row) (hr : r.ok n) (f : Nat → Nu) (hf : ∀ p, (f p).2 + 1 ≤ M) : nsum M n (doneAt n f r) = nsum M n f := by
  apply S2.ext'
  · exact sum_done r hr f hf (fun x => (nrm x).p) (fun e x => by rw [nrm_tnn]) fun x y s t h1 h2 => by
      have := congrArg S2.p (nrm_pair h1 h2); exact this
  · exact sum_done r hr f hf (fun x => (nrm x).q) (fun e x => by rw [nrm_tnn]) fun x y s t h1 h2 => by
      have := congrArg S2.q (nrm_pair h1 h2); exact this
/-! ### inner numbers -/
def sumQ (N : Nat) (F : Nat → Q4) : Q4 := ⟨sumI N (fun p => (F p).a), sumI N (fun p => (F p).b), sumI N (fun p => (F p).c), sumI N (fun p => (F p).d)⟩
theorem sumQ_succ (N : Nat) (F : Nat → Q4) : sumQ (N + 1) F = Q4.add (sumQ N F) (F N) := rfl
theorem sumQ_congr {F G : Nat → Q4} (N : Nat) (h : ∀ p, p < N → F p = G p) : sumQ N F = sumQ N G := by
  apply Q4.ext'
  · exact sumI_congr N fun p hp => by rw [h p hp]
  · exact sumI_congr N fun p hp => by rw [h p hp]
  · exact sumI_congr N fun p hp => by rw [h p hp]
  · exact sumI_congr N fun p hp => by rw [h p hp]
theorem mul_two (s t s' t' : Q4) : Q4.add (Q4.mul (Q4.mir (Q4.add s t)) (Q4.add s' t')) (Q4.mul (Q4.mir (Q4.add s (Q4.neg t))) (Q4.add s' (Q4.neg t'))) = Q4.dbl 2 (Q4.add (Q4.mul (Q4.mir s) s') (Q4.mul (Q4.mir t) t')) := by
  apply Q4.ext' <;> simp only [Q4.mul, Q4.mir, Q4.add, Q4.neg, Q4.dbl] <;> grind
def timesN (u v : Nu) : Nu := ((timesQ u.1 u.2 v.1 v.2).1, (timesQ u.1 u.2 v.1 v.2).2.toNat)
theorem times_cast (u v : Nu) : (u.2 : Int) + v.2 = ((u.2 + v.2 : Nat) : Int) := by omega
theorem times_least (u v : Nu) : LeastN (timesN u v) := by
  unfold timesN timesQ
  rw [times_cast]
  exact num_least _ _
theorem timesN_le (u v : Nu) : (timesN u v).2 ≤ u.2 + v.2 := by
  unfold timesN timesQ
  rw [times_cast]
  obtain ⟨s1, s2, s3⟩ := num_spec (Q4.mul u.1 v.1) ((u.2 + v.2 : Nat) : Int) (by omega)
  show (num _ _).2.toNat ≤ _
  omega
theorem val_times {M N : Nat} {u v : Nu} (hu : u.2 ≤ M) (hv : v.2 ≤ N) : val (M + N) (timesN u v) = Q4.mul (val M u) (val N v) := by
  unfold val timesN timesQ
  rw [times_cast]
  simp only
  rw [num_rtn _ _ (M + N) (by omega), show M + N - (u.2 + v.2) = (M - u.2) + (N - v.2) by omega, Q4.rtn_mul2]
theorem rtn_zero : ∀ k, Q4.rtn k ⟨0, 0, 0, 0⟩ = ⟨0, 0, 0, 0⟩
  | 0 => rfl
  | k + 1 => by rw [Q4.rtn_succ, rtn_zero k]; rfl
/-! ### columns: the state of a sum is the sum of the states -/
theorem sumQ_rt (F : Nat → Q4) : ∀ N : Nat, Q4.rt (sumQ N F) = sumQ N (fun p => Q4.rt (F p))
  | 0 => by apply Q4.ext' <;> rfl
  | N + 1 => by rw [sumQ_succ, Q4.rt_add, sumQ_rt F N]; rfl
theorem tn_add (x y : Q4) : Q4.tn (Q4.add x y) = Q4.add (Q4.tn x) (Q4.tn y) := by apply Q4.ext' <;> simp only [Q4.tn, Q4.add] <;> omega
theorem tnn_addQ (e : Nat) : ∀ (x y : Q4), tnn e (Q4.add x y) = Q4.add (tnn e x) (tnn e y) := by
  induction e with
  | zero => intro x y; rfl
  | succ e ih =>
    intro x y
    have e1 : ∀ z, tnn (e + 1) z = tnn e (Q4.tn z) := fun z => by rw [tnn_add e 1 z]; rfl
    rw [e1, e1, e1, tn_add, ih]
theorem tnn_zero (e : Nat) : tnn e ⟨0, 0, 0, 0⟩ = ⟨0, 0, 0, 0⟩ := by
  induction e with
  | zero => rfl
  | succ e ih =>
    have e1 : ∀ z, tnn (e + 1) z = tnn e (Q4.tn z) := fun z => by rw [tnn_add e 1 z]; rfl
    rw [e1]
    exact ih
theorem sumQ_tnn (e : Nat) (F : Nat → Q4) : ∀ N : Nat, tnn e (sumQ N F) = sumQ N (fun p => tnn e (F p))
  | 0 => tnn_zero e
  | N + 1 => by rw [sumQ_succ, tnn_addQ, sumQ_tnn e F N]; rfl
theorem sumQ_add (F G : Nat → Q4) (N : Nat) : sumQ N (fun p => Q4.add (F p) (G p)) = Q4.add (sumQ N F) (sumQ N G) := by
  apply Q4.ext'
  · exact sumI_add (fun p => (F p).a) (fun p => (G p).a) N
  · exact sumI_add (fun p => (F p).b) (fun p => (G p).b) N
  · exact sumI_add (fun p => (F p).c) (fun p => (G p).c) N
  · exact sumI_add (fun p => (F p).d) (fun p => (G p).d) N
theorem val_swing {n M j : Nat} {f : Nat → Nu} (hf : ∀ p, (f p).2 + 1 ≤ M) (x : Nat) : Q4.rt (val M (doneAt n f (.swing j) x)) = if bit (wt n j) x = 0 then Q4.add (val M (f x)) (val M (f (x + wt n j))) else Q4.add (val M (f (x - wt n j))) (tnn 4 (val M (f x))) := by
  show Q4.rt (val M (if bit (wt n j) x = 0 then halfN (plusN (f x) (f (x + wt n j))) else halfN (plusN (f (x - wt n j)) (turnN 4 (f x))))) = _
  split
  · have a := hf x
    have b := hf (x + wt n j)
    have l := plusN_le' (f x) (f (x + wt n j))
    rw [val_half (by omega), val_plus (by omega) (by omega)]
  · have a := hf x
    have b := hf (x - wt n j)
    have l : (plusN (f (x - wt n j)) (turnN 4 (f x))).2 ≤ max (f (x - wt n j)).2 (f x).2 := plusN_le' _ _
    rw [val_half (by omega), val_plus (by omega) (by show (f x).2 ≤ M; omega), val_turn]
/-- g is the sum of the c p, each times a p -/
def Sup (N M K : Nat) (a : Nat → Q4) (c : Nat → Nat → Nu) (g : Nat → Nu) : Prop := ∀ x, val N (g x) = sumQ K (fun p => Q4.mul (a p) (val M (c p x)))
theorem Sup.done {n N M K : Nat} {a : Nat → Q4} {c : Nat → Nat → Nu} {g : Nat → Nu} (h : Sup N M K a c g) (hg : ∀ p, (g p).2 + 1 ≤ N) (hc : ∀ p x, (c p x).2 + 1 ≤ M) (r : Row) : Sup N M K a (fun p => doneAt n (c p) r) (doneAt n g r) := by
  have tm : ∀ (e : Nat) (x : Nat), val N (turnN e (g x)) = sumQ K (fun p => Q4.mul (a p) (val M (turnN e (c p x)))) := fun e x => by
    rw [val_turn, h x, sumQ_tnn]
    refine sumQ_congr _ fun p _ => ?_
    rw [tnn_mul, val_turn]
  intro x
  cases r with
  | swing j =>
    apply Q4.rt_inj
    rw [val_swing hg x, sumQ_rt]
    have e : ∀ p, Q4.rt (Q4.mul (a p) (val M (doneAt n (c p) (.swing j) x))) = Q4.mul (a p) (if bit (wt n j) x = 0 then Q4.add (val M (c p x)) (val M (c p (x + wt n j))) else Q4.add (val M (c p (x - wt n j))) (tnn 4 (val M (c p x)))) := fun p => by
      rw [← val_swing (hc p) x, Q4.mul_comm, Q4.rt_mul, Q4.mul_comm]
    simp only [e]
    split
    · rw [h x, h (x + wt n j), ← sumQ_add]
      exact sumQ_congr _ fun p _ => by rw [Q4.mul_add]
    · rw [h x, h (x - wt n j), sumQ_tnn, ← sumQ_add]
      exact sumQ_congr _ fun p _ => by rw [Q4.mul_add, tnn_mul]
  | turn j e => exact tm _ x
  | sign i j => exact tm _ x
  | flip j => exact h _
  | tie i j => exact h _
  | cross i j => exact h _
/-- one at p, nought elsewhere -/
def oneAt (p : Nat) : Nat → Nu := fun q => if q = p then (⟨1, 0, 0, 0⟩, 0) else (⟨0, 0, 0, 0⟩, 0)
theorem sumQ_one {F : Nat → Q4} {x : Nat} (hF : ∀ p, p ≠ x → F p = ⟨0, 0, 0, 0⟩) : ∀ N : Nat, sumQ N F = if x < N then F x else ⟨0, 0, 0, 0⟩
  | 0 => by rw [if_neg (by omega)]; apply Q4.ext' <;> rfl
  | N + 1 => by
    rw [sumQ_succ, sumQ_one hF N]
    by_cases h : x < N
    · rw [if_pos h, if_pos (by omega), hF N (by omega)]
      apply Q4.ext' <;> simp [Q4.add]
    · by_cases h2 : x = N
      · subst h2
        rw [if_neg h, if_pos (by omega)]
        apply Q4.ext' <;> simp [Q4.add]
      · rw [if_neg h, if_neg (by omega), hF N (Ne.symm h2)]
        apply Q4.ext' <;> simp [Q4.add]
theorem mul_zero' (x : Q4) : Q4.mul x ⟨0, 0, 0, 0⟩ = ⟨0, 0, 0, 0⟩ := by apply Q4.ext' <;> simp [Q4.mul]
theorem mul_one' (x : Q4) : Q4.mul x ⟨1, 0, 0, 0⟩ = x := by apply Q4.ext' <;> simp [Q4.mul]
theorem val_zero (M : Nat) : val M (⟨0, 0, 0, 0⟩, 0) = ⟨0, 0, 0, 0⟩ := rtn_zero _
theorem Sup.start {n M : Nat} (s : Nat → Nu) (hs : ∀ p, (s p).2 ≤ M) (hz : ∀ p, 2 ^ n ≤ p → s p = (⟨0, 0, 0, 0⟩, 0)) : Sup (M + M) M (2 ^ n) (fun p => val M (s p)) oneAt s := by
  intro x
  have hF : ∀ p, p ≠ x → Q4.mul (val M (s p)) (val M (oneAt p x)) = ⟨0, 0, 0, 0⟩ := fun p hp => by
    unfold oneAt
    rw [if_neg (Ne.symm hp), val_zero, mul_zero']
  rw [sumQ_one hF]
  by_cases h : x < 2 ^ n
  · rw [if_pos h]
    unfold oneAt
    rw [if_pos rfl]
    unfold val
    have := hs x
    show Q4.rtn (M + M - (s x).2) (s x).1 = Q4.mul (Q4.rtn (M - (s x).2) (s x).1) (Q4.rtn (M - 0) ⟨1, 0, 0, 0⟩)
    rw [← Q4.rtn_mul2, mul_one']
    congr 1
    omega
  · rw [if_neg h, hz x (by omega), val_zero]
theorem one_least (p x : Nat) : LeastN (oneAt p x) := by
  unfold oneAt
  split
  · exact ⟨Int.le_refl 0, fun z => absurd z (Int.lt_irrefl 0)⟩
  · exact ⟨Int.le_refl 0, fun z => absurd z (Int.lt_irrefl 0)⟩
/-! ### two circuits side by side -/
theorem wt_hi {n m j : Nat} (hj : j < n) : wt (n + m) j = wt n j * 2 ^ m := by
  unfold wt
  rw [← Nat.pow_add]; congr 1; omega
theorem wt_lo {n m j : Nat} (hj : j < m) : wt (n + m) (n + j) = wt m j := by
  unfold wt
  congr 1; omega
theorem bit_hi (w B x : Nat) : bit (w * B) x = bit w (x / B) := by
  unfold bit
  rw [Nat.mul_comm w B, Nat.div_div_eq_div_mul]
theorem bit_lo {m j : Nat} (hj : j < m) (x : Nat) : bit (wt m j) x = bit (wt m j) (x % 2 ^ m) := by
  have h := bit_shift (wt m j) (x % 2 ^ m) (2 ^ j * (x / 2 ^ m)) (wt_pos m j)
  rw [← h]
  congr 1
  have e : 2 ^ m = 2 * wt m j * 2 ^ j := by
    rw [wt_two hj, Nat.pow_succ, Nat.mul_comm 2 (wt m j), Nat.mul_assoc, Nat.mul_comm 2]
  rw [← Nat.mul_assoc, ← e]
  exact (Nat.mod_add_div x (2 ^ m)).symm
/-- x's parts behind a step of the high part -/
theorem hi_add (B w x : Nat) (hB : 0 < B) : (x + w * B) / B = x / B + w ∧ (x + w * B) % B = x % B := ⟨Nat.add_mul_div_right _ _ hB, Nat.add_mul_mod_self_right ..⟩
theorem hi_sub (B w x : Nat) (hB : 0 < B) (h : w ≤ x / B) : (x - w * B) / B = x / B - w ∧ (x - w * B) % B = x % B := by
  have h1 : w * B ≤ x := Nat.le_trans (Nat.mul_le_mul_right B h) (Nat.div_mul_le_self x B)
  obtain ⟨a, b⟩ := hi_add B w (x - w * B) hB
  rw [Nat.sub_add_cancel h1] at a b
  exact ⟨by omega, b.symm⟩
theorem flp_hi (B w x : Nat) (hB : 0 < B) (hw : 0 < w) : flp (w * B) x / B = flp w (x / B) ∧ flp (w * B) x % B = x % B := by
  unfold flp
  rw [bit_hi]
  split
  · exact hi_add B w x hB
  · rename_i h
    have := bit_lt w (x / B)
    exact hi_sub B w x hB (bit1_le hw (by omega))
theorem lo_add {m j : Nat} (hj : j < m) (x : Nat) (h : bit (wt m j) x = 0) : (x + wt m j) / 2 ^ m = x / 2 ^ m ∧ (x + wt m j) % 2 ^ m = x % 2 ^ m + wt m j := by
  have hB : 0 < 2 ^ m := Nat.pow_pos (by decide)
  rw [bit_lo hj] at h
  have := bit0_lt hj (Nat.mod_lt x hB) h
  have e := Nat.div_add_mod x (2 ^ m)
  have e2 : x + wt m j = 2 ^ m * (x / 2 ^ m) + (x % 2 ^ m + wt m j) := by omega
  constructor
  · rw [e2, Nat.mul_add_div hB, Nat.div_eq_of_lt this, Nat.add_zero]
  · rw [e2, Nat.mul_add_mod, Nat.mod_eq_of_lt this]
theorem lo_sub {m j : Nat} (hj : j < m) (x : Nat) (h : bit (wt m j) x ≠ 0) : (x - wt m j) / 2 ^ m = x / 2 ^ m ∧ (x - wt m j) % 2 ^ m = x % 2 ^ m - wt m j := by
  have hB : 0 < 2 ^ m := Nat.pow_pos (by decide)
  rw [bit_lo hj] at h
  have h2 := bit_lt (wt m j) (x % 2 ^ m)
  have h3 := bit1_le (wt_pos m j) (show bit (wt m j) (x % 2 ^ m) = 1 by omega)
  have h4 := Nat.mod_lt x hB
  have e := Nat.div_add_mod x (2 ^ m)
  have e2 : x - wt m j = 2 ^ m * (x / 2 ^ m) + (x % 2 ^ m - wt m j) := by omega
  have h5 : x % 2 ^ m - wt m j < 2 ^ m := by omega
  constructor
  · rw [e2, Nat.mul_add_div hB, Nat.div_eq_of_lt h5, Nat.add_zero]
  · rw [e2, Nat.mul_add_mod, Nat.mod_eq_of_lt h5]
theorem flp_lo {m j : Nat} (hj : j < m) (x : Nat) : flp (wt m j) x / 2 ^ m = x / 2 ^ m ∧ flp (wt m j) x % 2 ^ m = flp (wt m j) (x % 2 ^ m) := by
  unfold flp
  rw [← bit_lo hj]
  split
  · exact lo_add hj x (by assumption)
  · exact lo_sub hj x (by assumption)
def Row.on (n : Nat) : Row → Row
  | .swing j => .swing (n + j)
  | .turn j e => .turn (n + j) e
  | .flip j => .flip (n + j)
  | .tie i j => .tie (n + i) (n + j)
  | .sign i j => .sign (n + i) (n + j)
  | .cross i j => .cross (n + i) (n + j)
/-- h is the product of f and g -/
def Ten (m N M : Nat) (f g h : Nat → Nu) : Prop := ∀ x, val N (h x) = Q4.mul (val M (f (x / 2 ^ m))) (val M (g (x % 2 ^ m)))
theorem tnn_mulr (e : Nat) (x y : Q4) : tnn e (Q4.mul x y) = Q4.mul (tnn e x) y := by rw [Q4.mul_comm, tnn_mul, Q4.mul_comm]
theorem Ten.hi {m n N M : Nat} {f g h : Nat → Nu} (t : Ten m N M f g h) (hh : ∀ p, (h p).2 + 1 ≤ N) (hf : ∀ p, (f p).2 + 1 ≤ M) (r : Row) (hr : r.ok n) : Ten m N M (doneAt n f r) g (doneAt (n + m) h r) := by
  have hB : 0 < 2 ^ m := Nat.pow_pos (by decide)
  have tm : ∀ (e : Nat) (x : Nat), val N (turnN e (h x)) = Q4.mul (val M (turnN e (f (x / 2 ^ m)))) (val M (g (x % 2 ^ m))) := fun e x => by
    rw [val_turn, t x, tnn_mulr, val_turn]
  have fl : ∀ j, j < n → ∀ x, flp (wt (n + m) j) x / 2 ^ m = flp (wt n j) (x / 2 ^ m) ∧ flp (wt (n + m) j) x % 2 ^ m = x % 2 ^ m := fun j hj x => by
    rw [wt_hi hj]; exact flp_hi _ _ _ hB (wt_pos n j)
  have bt : ∀ j, j < n → ∀ x, bit (wt (n + m) j) x = bit (wt n j) (x / 2 ^ m) := fun j hj x => by rw [wt_hi hj, bit_hi]
  intro x
  cases r with
  | swing j =>
    apply Q4.rt_inj
    rw [val_swing hh x, Q4.rt_mul, val_swing hf (x / 2 ^ m), bt j hr]
    split
    · obtain ⟨a, b⟩ := hi_add (2 ^ m) (wt n j) x hB
      rw [t x, t (x + wt (n + m) j), wt_hi hr, a, b, Q4.mul_comm, Q4.mul_comm _ (val M (g (x % 2 ^ m))), ← Q4.mul_add, Q4.mul_comm]
    · rename_i c
      have c2 := bit_lt (wt n j) (x / 2 ^ m)
      obtain ⟨a, b⟩ := hi_sub (2 ^ m) (wt n j) x hB (bit1_le (wt_pos n j) (by omega))
      rw [t x, t (x - wt (n + m) j), wt_hi hr, a, b, tnn_mulr, Q4.mul_comm, Q4.mul_comm _ (val M (g (x % 2 ^ m))), ← Q4.mul_add, Q4.mul_comm]
  | turn j e => show val N (turnN (e * bit (wt (n + m) j) x) (h x)) = _; rw [bt j hr.1]; exact tm _ x
  | sign i j => show val N (turnN (4 * bit (wt (n + m) i) x * bit (wt (n + m) j) x) (h x)) = _; rw [bt i hr.1, bt j hr.2.1]; exact tm _ x
  | flip j =>
    obtain ⟨a, b⟩ := fl j hr x
    show val N (h (flp (wt (n + m) j) x)) = _
    rw [t, a, b]; rfl
  | tie i j =>
    obtain ⟨a, b⟩ := fl j hr.2.1 x
    show val N (h (if bit (wt (n + m) i) x = 0 then x else flp (wt (n + m) j) x)) = Q4.mul (val M (f (if bit (wt n i) (x / 2 ^ m) = 0 then x / 2 ^ m else flp (wt n j) (x / 2 ^ m)))) _
    rw [bt i hr.1]
    split
    · rw [t]
    · rw [t, a, b]
  | cross i j =>
    obtain ⟨a, b⟩ := fl i hr.1 x
    obtain ⟨a2, b2⟩ := fl j hr.2.1 (flp (wt (n + m) i) x)
    show val N (h (if bit (wt (n + m) i) x = bit (wt (n + m) j) x then x else flp (wt (n + m) j) (flp (wt (n + m) i) x))) = Q4.mul (val M (f (if bit (wt n i) (x / 2 ^ m) = bit (wt n j) (x / 2 ^ m) then x / 2 ^ m else flp (wt n j) (flp (wt n i) (x / 2 ^ m))))) _
    rw [bt i hr.1, bt j hr.2.1]
    split
    · rw [t]
    · rw [t, a2, b2, a, b]
theorem Ten.lo {m n N M : Nat} {f g h : Nat → Nu} (t : Ten m N M f g h) (hh : ∀ p, (h p).2 + 1 ≤ N) (hg : ∀ p, (g p).2 + 1 ≤ M) (r : Row) (hr : r.ok m) : Ten m N M f (doneAt m g r) (doneAt (n + m) h (r.on n)) := by
  have tm : ∀ (e : Nat) (x : Nat), val N (turnN e (h x)) = Q4.mul (val M (f (x / 2 ^ m))) (val M (turnN e (g (x % 2 ^ m)))) := fun e x => by
    rw [val_turn, t x, tnn_mul, val_turn]
  have wl : ∀ j, j < m → wt (n + m) (n + j) = wt m j := fun j hj => wt_lo hj
  have bt : ∀ j, j < m → ∀ x, bit (wt m j) x = bit (wt m j) (x % 2 ^ m) := fun j hj x => bit_lo hj x
  intro x
  cases r with
  | swing j =>
    apply Q4.rt_inj
    rw [Q4.mul_comm, Q4.rt_mul, val_swing hg (x % 2 ^ m), ← bt j hr, Q4.mul_comm]
    show Q4.rt (val N (doneAt (n + m) h (.swing (n + j)) x)) = _
    rw [val_swing hh x, wl j hr]
    split
    · rename_i c
      obtain ⟨a, b⟩ := lo_add hr x c
      rw [t x, t (x + wt m j), a, b, ← Q4.mul_add]
    · rename_i c
      obtain ⟨a, b⟩ := lo_sub hr x c
      rw [t x, t (x - wt m j), a, b, tnn_mul, ← Q4.mul_add]
  | turn j e =>
    show val N (turnN (e * bit (wt (n + m) (n + j)) x) (h x)) = _
    rw [wl j hr.1, bt j hr.1]; exact tm _ x
  | sign i j =>
    show val N (turnN (4 * bit (wt (n + m) (n + i)) x * bit (wt (n + m) (n + j)) x) (h x)) = _
    rw [wl i hr.1, wl j hr.2.1, bt i hr.1, bt j hr.2.1]; exact tm _ x
  | flip j =>
    obtain ⟨a, b⟩ := flp_lo hr x
    show val N (h (flp (wt (n + m) (n + j)) x)) = _
    rw [wl j hr, t, a, b]; rfl
  | tie i j =>
    obtain ⟨a, b⟩ := flp_lo hr.2.1 x
    show val N (h (if bit (wt (n + m) (n + i)) x = 0 then x else flp (wt (n + m) (n + j)) x)) = Q4.mul _ (val M (g (if bit (wt m i) (x % 2 ^ m) = 0 then x % 2 ^ m else flp (wt m j) (x % 2 ^ m))))
    rw [wl i hr.1, wl j hr.2.1, ← bt i hr.1]
    split
    · rw [t]
    · rw [t, a, b]
  | cross i j =>
    obtain ⟨a, b⟩ := flp_lo hr.1 x
    obtain ⟨a2, b2⟩ := flp_lo hr.2.1 (flp (wt m i) x)
    show val N (h (if bit (wt (n + m) (n + i)) x = bit (wt (n + m) (n + j)) x then x else flp (wt (n + m) (n + j)) (flp (wt (n + m) (n + i)) x))) = Q4.mul _ (val M (g (if bit (wt m i) (x % 2 ^ m) = bit (wt m j) (x % 2 ^ m) then x % 2 ^ m else flp (wt m j) (flp (wt m i) (x % 2 ^ m)))))
    rw [wl i hr.1, wl j hr.2.1, ← bt i hr.1, ← bt j hr.2.1]
    split
    · rw [t]
    · rw [t, a2, b2, a, b]
theorem Row.on_ok {n m : Nat} {r : Row} (h : r.ok m) : (r.on n).ok (n + m) := by
  cases r <;> simp only [Row.on, Row.ok] at h ⊢ <;> omega
theorem Row.ok_more {n m : Nat} {r : Row} (h : r.ok n) : r.ok (n + m) := by
  cases r <;> simp only [Row.ok] at h ⊢ <;> omega
theorem Ten.one {m M : Nat} (p q : Nat) (hq : q < 2 ^ m) : Ten m (M + M) M (oneAt p) (oneAt q) (oneAt (p * 2 ^ m + q)) := by
  have hB : 0 < 2 ^ m := Nat.pow_pos (by decide)
  intro x
  rw [← val_times (by unfold oneAt; split <;> exact Nat.zero_le _) (by unfold oneAt; split <;> exact Nat.zero_le _)]
  congr 1
  unfold oneAt
  by_cases h1 : x / 2 ^ m = p
  · by_cases h2 : x % 2 ^ m = q
    · rw [if_pos h1, if_pos h2, if_pos (by rw [← h1, ← h2, Nat.mul_comm]; exact (Nat.div_add_mod _ _).symm)]
      rfl
    · rw [if_pos h1, if_neg h2, if_neg (fun z => h2 (by rw [z, Nat.mul_comm, Nat.mul_add_mod, Nat.mod_eq_of_lt hq]))]
      rfl
  · rw [if_neg h1, if_neg (fun z => h1 (by rw [z, Nat.mul_comm, Nat.mul_add_div hB, Nat.div_eq_of_lt hq, Nat.add_zero]))]
    split <;> rfl
theorem Ten.eq {m M : Nat} {f g h : Nat → Nu} (t : Ten m (M + M) M f g h) (lh : ∀ x, LeastN (h x)) (hf : ∀ x, (f x).2 ≤ M) (hg : ∀ x, (g x).2 ≤ M) (hh : ∀ x, (h x).2 ≤ M + M) (x : Nat) : h x = timesN (f (x / 2 ^ m)) (g (x % 2 ^ m)) := by
  have a := hf (x / 2 ^ m)
  have b := hg (x % 2 ^ m)
  refine val_inj (lh x) (times_least _ _) (hh x) (Nat.le_trans (timesN_le _ _) (by omega)) ?_
  rw [t x, val_times a b]

end MA
namespace GN
open PySem L2 VL
def top (i : Nat) : Stmt := PySem.Challenge.pw_wavewires_k77_whole_side_by_side.main.body.getD i (.Pass ⟨0, 0, 0, 0⟩)
abbrev s_twos_shared : Stmt := top 6
abbrev N_twos_shared : List Str := ["joined", "most"]
def b_twos_shared : Sf := sSeq (sIf (ob (o2 (oV 0) (oC (.int 0)) eqD)) (sRet (oV 1)) (sNx)) (sRet (os (oCons (oV 1) (oCons (o2 (o1 (o2 (oV 0) (o1 (oV 0) negD) andD) bitsD) (oC (.int 1)) subD) (oNil))) minD))
def g_twos_shared : List D → Option D := runB N_twos_shared 2 b_twos_shared
abbrev s_by_root : Stmt := top 7
abbrev N_by_root : List Str := ["a", "b", "c", "d"]
def b_by_root : Sf := sRet (os (oCons (o2 (oV 1) (oV 3) subD) (oCons (o2 (oV 0) (oV 2) addD) (oCons (o2 (oV 1) (oV 3) addD) (oCons (o2 (oV 2) (oV 0) subD) (oNil))))) tupD)
def g_by_root : List D → Option D := runB N_by_root 4 b_by_root
abbrev s_number : Stmt := top 8
abbrev N_number : List Str := ["a", "b", "c", "d", "k", "twos", "doubled"]
def b_number : Sf := sSeq (sSet 5 (os (oCons (o2 (o2 (o2 (oV 0) (oV 1) orD) (oV 2) orD) (oV 3) orD) (oCons (o2 (oV 4) (oC (.int 2)) divD) (oNil))) g_twos_shared)) (sSeq (sSet 0 (o2 (oV 0) (oV 5) shrD)) (sSeq (sSet 1 (o2 (oV 1) (oV 5) shrD)) (sSeq (sSet 2 (o2 (oV 2) (oV 5) shrD)) (sSeq (sSet 3 (o2 (oV 3) (oV 5) shrD)) (sSeq (sSet 4 (o2 (oV 4) (o2 (oC (.int 2)) (oV 5) mulI) subD)) (sSeq (sIf (oOr (ob (o2 (oV 4) (oC (.int 0)) eqD)) (oOr (ob (o2 (o2 (o2 (oV 0) (oV 2) subD) (oC (.int 2)) modD) (oC (.int 1)) eqD)) (ob (o2 (o2 (o2 (oV 1) (oV 3) subD) (oC (.int 2)) modD) (oC (.int 1)) eqD)))) (sRet (os (oCons (oV 0) (oCons (oV 1) (oCons (oV 2) (oCons (oV 3) (oCons (oV 4) (oNil)))))) tupD)) (sNx)) (sSeq (sSet 6 (os (oCons (oV 0) (oCons (oV 1) (oCons (oV 2) (oCons (oV 3) (oNil))))) g_by_root)) (sRet (os (oCons (o2 (o2 (oV 6) (oC (.int 0)) ixD) (oC (.int 2)) divD) (oCons (o2 (o2 (oV 6) (oC (.int 1)) ixD) (oC (.int 2)) divD) (oCons (o2 (o2 (oV 6) (oC (.int 2)) ixD) (oC (.int 2)) divD) (oCons (o2 (o2 (oV 6) (oC (.int 3)) ixD) (oC (.int 2)) divD) (oCons (o2 (oV 4) (oC (.int 1)) subD) (oNil)))))) tupD)))))))))
def g_number : List D → Option D := runB N_number 5 b_number
abbrev s_parts_over_ring : Stmt := top 9
abbrev N_parts_over_ring : List Str := ["x", "k", "more", "twos", "a", "b", "c", "d"]
def b_parts_over_ring : Sf := sSeq (sSet 2 (o2 (oV 1) (o2 (oV 0) (oC (.int 4)) ixD) subD)) (sSeq (sSet 3 (o2 (oV 2) (oC (.int 2)) divD)) (sSeq (sSet 4 (o2 (o2 (oV 0) (oC (.int 0)) ixD) (oV 3) shlD)) (sSeq (sSet 5 (o2 (o2 (oV 0) (oC (.int 1)) ixD) (oV 3) shlD)) (sSeq (sSet 6 (o2 (o2 (oV 0) (oC (.int 2)) ixD) (oV 3) shlD)) (sSeq (sSet 7 (o2 (o2 (oV 0) (oC (.int 3)) ixD) (oV 3) shlD)) (sSeq (sIf (ob (o2 (o2 (oV 2) (oC (.int 2)) modD) (oC (.int 1)) eqD)) (sRet (os (oCons (oV 4) (oCons (oV 5) (oCons (oV 6) (oCons (oV 7) (oNil))))) g_by_root)) (sNx)) (sRet (os (oCons (oV 4) (oCons (oV 5) (oCons (oV 6) (oCons (oV 7) (oNil))))) tupD))))))))
def g_parts_over_ring : List D → Option D := runB N_parts_over_ring 2 b_parts_over_ring
abbrev s_plus : Stmt := top 11
abbrev N_plus : List Str := ["x", "y", "k", "s", "t"]
def b_plus : Sf := sSeq (sSet 2 (os (oCons (o2 (oV 0) (oC (.int 4)) ixD) (oCons (o2 (oV 1) (oC (.int 4)) ixD) (oNil))) maxD)) (sSeq (sSet 3 (os (oCons (oV 0) (oCons (oV 2) (oNil))) g_parts_over_ring)) (sSeq (sSet 4 (os (oCons (oV 1) (oCons (oV 2) (oNil))) g_parts_over_ring)) (sRet (os (oCons (o2 (o2 (oV 3) (oC (.int 0)) ixD) (o2 (oV 4) (oC (.int 0)) ixD) addD) (oCons (o2 (o2 (oV 3) (oC (.int 1)) ixD) (o2 (oV 4) (oC (.int 1)) ixD) addD) (oCons (o2 (o2 (oV 3) (oC (.int 2)) ixD) (o2 (oV 4) (oC (.int 2)) ixD) addD) (oCons (o2 (o2 (oV 3) (oC (.int 3)) ixD) (o2 (oV 4) (oC (.int 3)) ixD) addD) (oCons (oV 2) (oNil)))))) g_number))))
def g_plus : List D → Option D := runB N_plus 2 b_plus
abbrev s_times : Stmt := top 12
abbrev N_times : List Str := ["x", "y"]
def b_times : Sf := sRet (os (oCons (o2 (o2 (o2 (o2 (o2 (oV 0) (oC (.int 0)) ixD) (o2 (oV 1) (oC (.int 0)) ixD) mulI) (o2 (o2 (oV 0) (oC (.int 1)) ixD) (o2 (oV 1) (oC (.int 3)) ixD) mulI) subD) (o2 (o2 (oV 0) (oC (.int 2)) ixD) (o2 (oV 1) (oC (.int 2)) ixD) mulI) subD) (o2 (o2 (oV 0) (oC (.int 3)) ixD) (o2 (oV 1) (oC (.int 1)) ixD) mulI) subD) (oCons (o2 (o2 (o2 (o2 (o2 (oV 0) (oC (.int 0)) ixD) (o2 (oV 1) (oC (.int 1)) ixD) mulI) (o2 (o2 (oV 0) (oC (.int 1)) ixD) (o2 (oV 1) (oC (.int 0)) ixD) mulI) addD) (o2 (o2 (oV 0) (oC (.int 2)) ixD) (o2 (oV 1) (oC (.int 3)) ixD) mulI) subD) (o2 (o2 (oV 0) (oC (.int 3)) ixD) (o2 (oV 1) (oC (.int 2)) ixD) mulI) subD) (oCons (o2 (o2 (o2 (o2 (o2 (oV 0) (oC (.int 0)) ixD) (o2 (oV 1) (oC (.int 2)) ixD) mulI) (o2 (o2 (oV 0) (oC (.int 1)) ixD) (o2 (oV 1) (oC (.int 1)) ixD) mulI) addD) (o2 (o2 (oV 0) (oC (.int 2)) ixD) (o2 (oV 1) (oC (.int 0)) ixD) mulI) addD) (o2 (o2 (oV 0) (oC (.int 3)) ixD) (o2 (oV 1) (oC (.int 3)) ixD) mulI) subD) (oCons (o2 (o2 (o2 (o2 (o2 (oV 0) (oC (.int 0)) ixD) (o2 (oV 1) (oC (.int 3)) ixD) mulI) (o2 (o2 (oV 0) (oC (.int 1)) ixD) (o2 (oV 1) (oC (.int 2)) ixD) mulI) addD) (o2 (o2 (oV 0) (oC (.int 2)) ixD) (o2 (oV 1) (oC (.int 1)) ixD) mulI) addD) (o2 (o2 (oV 0) (oC (.int 3)) ixD) (o2 (oV 1) (oC (.int 0)) ixD) mulI) addD) (oCons (o2 (o2 (oV 0) (oC (.int 4)) ixD) (o2 (oV 1) (oC (.int 4)) ixD) addD) (oNil)))))) g_number)
def g_times : List D → Option D := runB N_times 2 b_times
abbrev s_against : Stmt := top 13
abbrev N_against : List Str := ["x"]
def b_against : Sf := sRet (os (oCons (o1 (o2 (oV 0) (oC (.int 0)) ixD) negD) (oCons (o1 (o2 (oV 0) (oC (.int 1)) ixD) negD) (oCons (o1 (o2 (oV 0) (oC (.int 2)) ixD) negD) (oCons (o1 (o2 (oV 0) (oC (.int 3)) ixD) negD) (oCons (o2 (oV 0) (oC (.int 4)) ixD) (oNil)))))) tupD)
def g_against : List D → Option D := runB N_against 1 b_against
abbrev s_turned : Stmt := top 14
abbrev N_turned : List Str := ["x", "e", "around"]
def b_turned : Sf := sSeq (sSet 2 (os (oCons (o2 (oV 0) (oC (.int 0)) ixD) (oCons (o2 (oV 0) (oC (.int 1)) ixD) (oCons (o2 (oV 0) (oC (.int 2)) ixD) (oCons (o2 (oV 0) (oC (.int 3)) ixD) (oCons (o1 (o2 (oV 0) (oC (.int 0)) ixD) negD) (oCons (o1 (o2 (oV 0) (oC (.int 1)) ixD) negD) (oCons (o1 (o2 (oV 0) (oC (.int 2)) ixD) negD) (oCons (o1 (o2 (oV 0) (oC (.int 3)) ixD) negD) (oNil))))))))) tupD)) (sRet (os (oCons (o2 (oV 2) (o2 (o2 (oC (.int 0)) (oV 1) subD) (oC (.int 8)) modD) ixD) (oCons (o2 (oV 2) (o2 (o2 (oC (.int 1)) (oV 1) subD) (oC (.int 8)) modD) ixD) (oCons (o2 (oV 2) (o2 (o2 (oC (.int 2)) (oV 1) subD) (oC (.int 8)) modD) ixD) (oCons (o2 (oV 2) (o2 (o2 (oC (.int 3)) (oV 1) subD) (oC (.int 8)) modD) ixD) (oCons (o2 (oV 0) (oC (.int 4)) ixD) (oNil)))))) tupD))
def g_turned : List D → Option D := runB N_turned 2 b_turned
abbrev s_halved : Stmt := top 15
abbrev N_halved : List Str := ["x"]
def b_halved : Sf := sRet (os (oCons (o2 (oV 0) (oC (.int 0)) ixD) (oCons (o2 (oV 0) (oC (.int 1)) ixD) (oCons (o2 (oV 0) (oC (.int 2)) ixD) (oCons (o2 (oV 0) (oC (.int 3)) ixD) (oCons (o2 (o2 (oV 0) (oC (.int 4)) ixD) (oC (.int 1)) addD) (oNil)))))) g_number)
def g_halved : List D → Option D := runB N_halved 1 b_halved
abbrev s_share : Stmt := top 17
abbrev N_share : List Str := ["p", "q", "k", "twos"]
def b_share : Sf := sSeq (sSet 3 (os (oCons (o2 (oV 0) (oV 1) orD) (oCons (oV 2) (oNil))) g_twos_shared)) (sRet (os (oCons (o2 (oV 0) (oV 3) shrD) (oCons (o2 (oV 1) (oV 3) shrD) (oCons (o2 (oV 2) (oV 3) subD) (oNil)))) tupD))
def g_share : List D → Option D := runB N_share 3 b_share
abbrev s_parts_over_shares : Stmt := top 18
abbrev N_parts_over_shares : List Str := ["x", "k", "more"]
def b_parts_over_shares : Sf := sSeq (sSet 2 (o2 (oV 1) (o2 (oV 0) (oC (.int 2)) ixD) subD)) (sRet (os (oCons (o2 (o2 (oV 0) (oC (.int 0)) ixD) (oV 2) shlD) (oCons (o2 (o2 (oV 0) (oC (.int 1)) ixD) (oV 2) shlD) (oNil))) tupD))
def g_parts_over_shares : List D → Option D := runB N_parts_over_shares 2 b_parts_over_shares
abbrev s_share_plus : Stmt := top 20
abbrev N_share_plus : List Str := ["x", "y", "k", "s", "t"]
def b_share_plus : Sf := sSeq (sSet 2 (os (oCons (o2 (oV 0) (oC (.int 2)) ixD) (oCons (o2 (oV 1) (oC (.int 2)) ixD) (oNil))) maxD)) (sSeq (sSet 3 (os (oCons (oV 0) (oCons (oV 2) (oNil))) g_parts_over_shares)) (sSeq (sSet 4 (os (oCons (oV 1) (oCons (oV 2) (oNil))) g_parts_over_shares)) (sRet (os (oCons (o2 (o2 (oV 3) (oC (.int 0)) ixD) (o2 (oV 4) (oC (.int 0)) ixD) addD) (oCons (o2 (o2 (oV 3) (oC (.int 1)) ixD) (o2 (oV 4) (oC (.int 1)) ixD) addD) (oCons (oV 2) (oNil)))) g_share))))
def g_share_plus : List D → Option D := runB N_share_plus 2 b_share_plus
abbrev s_share_times : Stmt := top 21
abbrev N_share_times : List Str := ["x", "y"]
def b_share_times : Sf := sRet (os (oCons (o2 (o2 (o2 (oV 0) (oC (.int 0)) ixD) (o2 (oV 1) (oC (.int 0)) ixD) mulI) (o2 (o2 (oC (.int 2)) (o2 (oV 0) (oC (.int 1)) ixD) mulI) (o2 (oV 1) (oC (.int 1)) ixD) mulI) addD) (oCons (o2 (o2 (o2 (oV 0) (oC (.int 0)) ixD) (o2 (oV 1) (oC (.int 1)) ixD) mulI) (o2 (o2 (oV 0) (oC (.int 1)) ixD) (o2 (oV 1) (oC (.int 0)) ixD) mulI) addD) (oCons (o2 (o2 (oV 0) (oC (.int 2)) ixD) (o2 (oV 1) (oC (.int 2)) ixD) addD) (oNil)))) g_share)
def g_share_times : List D → Option D := runB N_share_times 2 b_share_times
abbrev s_size_of : Stmt := top 22
abbrev N_size_of : List Str := ["x", "whole_part", "root_part"]
def b_size_of : Sf := sSeq (sSet 1 (o2 (o2 (o2 (o2 (o2 (oV 0) (oC (.int 0)) ixD) (o2 (oV 0) (oC (.int 0)) ixD) mulI) (o2 (o2 (oV 0) (oC (.int 1)) ixD) (o2 (oV 0) (oC (.int 1)) ixD) mulI) addD) (o2 (o2 (oV 0) (oC (.int 2)) ixD) (o2 (oV 0) (oC (.int 2)) ixD) mulI) addD) (o2 (o2 (oV 0) (oC (.int 3)) ixD) (o2 (oV 0) (oC (.int 3)) ixD) mulI) addD)) (sSeq (sSet 2 (o2 (o2 (o2 (o2 (o2 (oV 0) (oC (.int 0)) ixD) (o2 (oV 0) (oC (.int 1)) ixD) mulI) (o2 (o2 (oV 0) (oC (.int 1)) ixD) (o2 (oV 0) (oC (.int 2)) ixD) mulI) addD) (o2 (o2 (oV 0) (oC (.int 2)) ixD) (o2 (oV 0) (oC (.int 3)) ixD) mulI) addD) (o2 (o2 (oV 0) (oC (.int 3)) ixD) (o2 (oV 0) (oC (.int 0)) ixD) mulI) subD)) (sRet (os (oCons (oV 1) (oCons (oV 2) (oCons (o2 (oV 0) (oC (.int 4)) ixD) (oNil)))) g_share)))
def g_size_of : List D → Option D := runB N_size_of 1 b_size_of
abbrev s_worth : Stmt := top 24
abbrev N_worth : List Str := ["wires", "wire"]
def b_worth : Sf := sRet (o2 (oC (.int 1)) (o2 (o2 (oV 0) (oC (.int 1)) subD) (oV 1) subD) shlD)
def g_worth : List D → Option D := runB N_worth 2 b_worth
abbrev s_beginning : Stmt := top 25
abbrev N_beginning : List Str := ["wires", "place"]
def p1_beginning : Dv → Option D := oComp (oL (oCons (o2 (oC (.int 1)) (oV 0) shlD) (oNil)) rng1D) [(1, "place")] bv1 (oIf (ob (o2 (oV 0) (oV 1) eqD)) (oC (.tuple [.int 1, .int 0, .int 0, .int 0, .int 0])) (oC (.tuple [.int 0, .int 0, .int 0, .int 0, .int 0])))
def b_beginning : Sf := sRet (os (oCons (p1_beginning) (oNil)) tupleD)
def g_beginning : List D → Option D := runB N_beginning 2 b_beginning
abbrev s_swung : Stmt := top 26
abbrev N_swung : List Str := ["state", "bit", "told", "p"]
def l1_swung : Sf := sIf (ob (o2 (o2 (oV 3) (oV 1) andD) (oC (.int 0)) eqD)) (sApp 2 (os (oCons (os (oCons (o2 (oV 0) (oV 3) ixD) (oCons (o2 (oV 0) (o2 (oV 3) (oV 1) xorD) ixD) (oNil))) g_plus) (oNil)) g_halved)) (sApp 2 (os (oCons (os (oCons (o2 (oV 0) (o2 (oV 3) (oV 1) xorD) ixD) (oCons (os (oCons (o2 (oV 0) (oV 3) ixD) (oNil)) g_against) (oNil))) g_plus) (oNil)) g_halved))
def b_swung : Sf := sSeq (sOwn 2 (oNil)) (sSeq (sFor (oL (oCons (os (oCons (oV 0) (oNil)) lenD) (oNil)) rng1D) (gN 3) (l1_swung)) (fun δ => (sRet (os (oCons (oV 2) (oNil)) tupleD)) (dFz 2 δ)))
def g_swung : List D → Option D := runB N_swung 2 b_swung
abbrev s_turned_where : Stmt := top 27
abbrev N_turned_where : List Str := ["state", "held", "e"]
def p1_turned_where : Dv → Option D := oComp (oL (oCons (os (oCons (oV 0) (oNil)) lenD) (oNil)) rng1D) [(0, "state"), (1, "held"), (2, "e")] bv1 (oIf (ob (o2 (o2 (oV 0) (oV 2) andD) (oV 2) eqD)) (os (oCons (o2 (oV 1) (oV 0) ixD) (oCons (oV 3) (oNil))) g_turned) (o2 (oV 1) (oV 0) ixD))
def b_turned_where : Sf := sRet (os (oCons (p1_turned_where) (oNil)) tupleD)
def g_turned_where : List D → Option D := runB N_turned_where 3 b_turned_where
abbrev s_flipped_where : Stmt := top 28
abbrev N_flipped_where : List Str := ["state", "held", "bit"]
def p1_flipped_where : Dv → Option D := oComp (oL (oCons (os (oCons (oV 0) (oNil)) lenD) (oNil)) rng1D) [(0, "state"), (1, "held"), (2, "bit")] bv1 (oIf (ob (o2 (o2 (oV 0) (oV 2) andD) (oV 2) eqD)) (o2 (oV 1) (o2 (oV 0) (oV 3) xorD) ixD) (o2 (oV 1) (oV 0) ixD))
def b_flipped_where : Sf := sRet (os (oCons (p1_flipped_where) (oNil)) tupleD)
def g_flipped_where : List D → Option D := runB N_flipped_where 3 b_flipped_where
abbrev s_exchanged : Stmt := top 29
abbrev N_exchanged : List Str := ["place", "both"]
def b_exchanged : Sf := sRet (oIf (ob (o2 (o2 (oV 0) (oV 1) andD) (os (oCons (oC (.int 0)) (oCons (oV 1) (oNil))) tupD) (inD false))) (oV 0) (o2 (oV 0) (oV 1) xorD))
def g_exchanged : List D → Option D := runB N_exchanged 2 b_exchanged
abbrev s_done : Stmt := top 30
abbrev N_done : List Str := ["state", "row", "wires", "first", "second"]
def p1_done : Dv → Option D := oComp (oL (oCons (os (oCons (oV 0) (oNil)) lenD) (oNil)) rng1D) [(0, "state"), (3, "first"), (4, "second")] bv1 (o2 (oV 1) (os (oCons (oV 0) (oCons (o2 (oV 2) (oV 3) orD) (oNil))) g_exchanged) ixD)
def b_done : Sf := sSeq (sSet 2 (o2 (o1 (os (oCons (oV 0) (oNil)) lenD) bitsD) (oC (.int 1)) subD)) (sSeq (sSet 3 (os (oCons (oV 2) (oCons (o2 (oV 1) (oC (.int 1)) ixD) (oNil))) g_worth)) (sSeq (sIf (ob (o2 (o2 (oV 1) (oC (.int 0)) ixD) (oC (.str "swing")) eqD)) (sRet (os (oCons (oV 0) (oCons (oV 3) (oNil))) g_swung)) (sNx)) (sSeq (sIf (ob (o2 (o2 (oV 1) (oC (.int 0)) ixD) (oC (.str "turn")) eqD)) (sRet (os (oCons (oV 0) (oCons (oV 3) (oCons (o2 (oV 1) (oC (.int 2)) ixD) (oNil)))) g_turned_where)) (sNx)) (sSeq (sIf (ob (o2 (o2 (oV 1) (oC (.int 0)) ixD) (oC (.str "flip")) eqD)) (sRet (os (oCons (oV 0) (oCons (oC (.int 0)) (oCons (oV 3) (oNil)))) g_flipped_where)) (sNx)) (sSeq (sSet 4 (os (oCons (oV 2) (oCons (o2 (oV 1) (oC (.int 2)) ixD) (oNil))) g_worth)) (sSeq (sIf (ob (o2 (o2 (oV 1) (oC (.int 0)) ixD) (oC (.str "tie")) eqD)) (sRet (os (oCons (oV 0) (oCons (oV 3) (oCons (oV 4) (oNil)))) g_flipped_where)) (sNx)) (sSeq (sIf (ob (o2 (o2 (oV 1) (oC (.int 0)) ixD) (oC (.str "sign")) eqD)) (sRet (os (oCons (oV 0) (oCons (o2 (oV 3) (oV 4) orD) (oCons (oC (.int 4)) (oNil)))) g_turned_where)) (sNx)) (sRet (os (oCons (p1_done) (oNil)) tupleD)))))))))
def g_done : List D → Option D := runB N_done 2 b_done
abbrev s_whole : Stmt := top 31
abbrev N_whole : List Str := ["state", "told", "x"]
def l1_whole : Sf := sSet 1 (os (oCons (oV 1) (oCons (os (oCons (oV 2) (oNil)) g_size_of) (oNil))) g_share_plus)
def b_whole : Sf := sSeq (sSet 1 (os (oCons (oC (.int 0)) (oCons (oC (.int 0)) (oCons (oC (.int 0)) (oNil)))) tupD)) (sSeq (sFor (oI (oV 0) itsD) (gN 2) (l1_whole)) (sRet (oV 1)))
def g_whole : List D → Option D := runB N_whole 1 b_whole
abbrev s_looks_in : Stmt := top 36
abbrev N_looks_in : List Str := ["circuit"]
def p1_looks_in : Dv → Option D := oCompI (oI (o2 (oV 0) (oC (.int 1)) ixD) itsD) [] bv1 (ob (o2 (o2 (oV 0) (oC (.int 0)) ixD) (oC (.str "look")) eqD)) (oV 0)
def b_looks_in : Sf := sRet (os (oCons (p1_looks_in) (oNil)) lenD)
def g_looks_in : List D → Option D := runB N_looks_in 1 b_looks_in
abbrev s_counted_on : Stmt := top 37
abbrev N_counted_on : List Str := ["row", "wires", "marks"]
def p1_counted_on (G : List D → Option D) : Dv → Option D := oComp (oI (oSl (oV 0) (oP (oC (.int 1))) (oNo)) itsD) [(1, "wires")] bv1 (o2 (oV 0) (oV 1) addD)
def b_counted_on (G : List D → Option D) : Sf := sSeq (sIf (ob (o2 (o2 (oV 0) (oC (.int 0)) ixD) (oC (.str "where")) eqD)) (sRet (os (oCons (oC (.str "where")) (oCons (o2 (o2 (oV 0) (oC (.int 1)) ixD) (oV 2) addD) (oCons (os (oCons (o2 (oV 0) (oC (.int 2)) ixD) (oCons (oV 1) (oCons (oV 2) (oNil)))) G) (oNil)))) tupD)) (sNx)) (sSeq (sIf (ob (o2 (o2 (oV 0) (oC (.int 0)) ixD) (oC (.str "turn")) eqD)) (sRet (os (oCons (oC (.str "turn")) (oCons (o2 (o2 (oV 0) (oC (.int 1)) ixD) (oV 1) addD) (oCons (o2 (oV 0) (oC (.int 2)) ixD) (oNil)))) tupD)) (sNx)) (sRet (o2 (os (oCons (o2 (oV 0) (oC (.int 0)) ixD) (oNil)) tupD) (os (oCons (p1_counted_on G) (oNil)) tupleD) addD)))
def r_counted_on : Nat → List D → Option D
  | 0 => runB N_counted_on 3 (fun _ => none)
  | m + 1 => runB N_counted_on 3 (b_counted_on (r_counted_on m))
def g_counted_on : List D → Option D := r_counted_on 8
abbrev s_rows_together : Stmt := top 38
abbrev N_rows_together : List Str := ["one", "other", "wires", "looks", "rows"]
def p1_rows_together : Dv → Option D := oComp (oI (o2 (oV 1) (oC (.int 1)) ixD) itsD) [(2, "wires"), (3, "looks")] bv1 (os (oCons (oV 0) (oCons (oV 1) (oCons (oV 2) (oNil)))) g_counted_on)
def b_rows_together : Sf := sSeq (sSet 3 (os (oCons (oV 0) (oNil)) g_looks_in)) (sSeq (sSet 4 (o2 (o2 (oV 0) (oC (.int 1)) ixD) (os (oCons (p1_rows_together) (oNil)) tupleD) addD)) (sSeq (sIf (oOr (ob (o2 (os (oCons (oV 4) (oNil)) lenD) (oC (.int 60)) gtD)) (ob (o2 (o2 (oV 3) (os (oCons (oV 1) (oNil)) g_looks_in) addD) (oC (.int 6)) gtD))) (sNo) (sNx)) (sRet (oV 4))))
def g_rows_together : List D → Option D := runB N_rows_together 3 b_rows_together
abbrev s_side_by_side : Stmt := top 39
abbrev N_side_by_side : List Str := ["one", "other"]
def b_side_by_side : Sf := sSeq (sIf (ob (o2 (o2 (o2 (oV 0) (oC (.int 0)) ixD) (o2 (oV 1) (oC (.int 0)) ixD) addD) (oC (.int 6)) gtD)) (sNo) (sNx)) (sRet (os (oCons (o2 (o2 (oV 0) (oC (.int 0)) ixD) (o2 (oV 1) (oC (.int 0)) ixD) addD) (oCons (os (oCons (oV 0) (oCons (oV 1) (oCons (o2 (oV 0) (oC (.int 0)) ixD) (oNil)))) g_rows_together) (oNil))) tupD))
def g_side_by_side : List D → Option D := runB N_side_by_side 2 b_side_by_side
abbrev s_where_put_off : Stmt := top 41
abbrev N_where_put_off : List Str := ["row", "wires", "kind"]
def b_where_put_off : Sf := sSeq (sSet 2 (oIf (ob (o2 (o2 (o2 (oV 0) (oC (.int 2)) ixD) (oC (.int 0)) ixD) (oC (.str "flip")) eqD)) (oC (.str "tie")) (oC (.str "sign")))) (sRet (os (oCons (oV 2) (oCons (o2 (oV 1) (o2 (oV 0) (oC (.int 1)) ixD) addD) (oCons (o2 (o2 (oV 0) (oC (.int 2)) ixD) (oC (.int 1)) ixD) (oNil)))) tupD))
def g_where_put_off : List D → Option D := runB N_where_put_off 2 b_where_put_off
abbrev s_rows_put_off : Stmt := top 42
abbrev N_rows_put_off : List Str := ["rows", "wires", "told", "mark", "row"]
def l1_rows_put_off : Sf := sIf (ob (o2 (o2 (oV 4) (oC (.int 0)) ixD) (oC (.str "look")) eqD)) (sSeq (sApp 2 (os (oCons (oC (.str "tie")) (oCons (o2 (oV 4) (oC (.int 1)) ixD) (oCons (o2 (oV 1) (oV 3) addD) (oNil)))) tupD)) (sSet 3 (o2 (oV 3) (oC (.int 1)) addD))) (sIf (ob (o2 (o2 (oV 4) (oC (.int 0)) ixD) (oC (.str "where")) eqD)) (sApp 2 (os (oCons (oV 4) (oCons (oV 1) (oNil))) g_where_put_off)) (sApp 2 (oV 4)))
def b_rows_put_off : Sf := sSeq (sOwn 2 (oNil)) (sSeq (sSet 3 (oC (.int 0))) (sSeq (sFor (oI (oV 0) itsD) (gN 4) (l1_rows_put_off)) (fun δ => (sRet (oV 2)) (dFz 2 δ))))
def g_rows_put_off : List D → Option D := runB N_rows_put_off 2 b_rows_put_off
abbrev s_put_off : Stmt := top 43
abbrev N_put_off : List Str := ["circuit", "wires", "looks", "behind_all"]
def p1_put_off : Dv → Option D := oComp (oL (oCons (oV 2) (oNil)) rng1D) [(1, "wires")] bv1 (os (oCons (oC (.str "look")) (oCons (o2 (oV 1) (oV 0) addD) (oNil))) tupD)
def b_put_off : Sf := sSeq (sSet 1 (o2 (oV 0) (oC (.int 0)) ixD)) (sSeq (sSet 2 (os (oCons (oV 0) (oNil)) g_looks_in)) (sSeq (sIf (oOr (ob (o2 (o2 (oV 1) (oV 2) addD) (oC (.int 6)) gtD)) (ob (o2 (o2 (os (oCons (o2 (oV 0) (oC (.int 1)) ixD) (oNil)) lenD) (oV 2) addD) (oC (.int 60)) gtD))) (sNo) (sNx)) (sSeq (sSet 3 (p1_put_off)) (sRet (os (oCons (o2 (oV 1) (oV 2) addD) (oCons (os (oCons (o2 (os (oCons (o2 (oV 0) (oC (.int 1)) ixD) (oCons (oV 1) (oNil))) g_rows_put_off) (oV 3) addD) (oNil)) tupleD) (oNil))) tupD)))))
def g_put_off : List D → Option D := runB N_put_off 1 b_put_off
abbrev s_left_by : Stmt := top 45
abbrev N_left_by : List Str := ["state", "bit", "mark", "found"]
def p1_left_by : Dv → Option D := oComp (oL (oCons (os (oCons (oV 0) (oNil)) lenD) (oNil)) rng1D) [(0, "state"), (1, "bit"), (3, "found")] bv1 (oIf (ob (o2 (o2 (oV 0) (oV 2) andD) (oV 3) eqD)) (o2 (oV 1) (oV 0) ixD) (oC (.tuple [.int 0, .int 0, .int 0, .int 0, .int 0])))
def b_left_by : Sf := sSeq (sSet 3 (oIf (ob (o2 (oV 2) (oC (.int 1)) eqD)) (oV 1) (oC (.int 0)))) (sRet (os (oCons (p1_left_by) (oNil)) tupleD))
def g_left_by : List D → Option D := runB N_left_by 3 b_left_by
abbrev s_is_nought : Stmt := top 46
abbrev N_is_nought : List Str := ["state"]
def p1_is_nought : Dv → Option D := oComp (oI (oV 0) itsD) [] bv1 (o2 (oV 0) (oC (.tuple [.int 0, .int 0, .int 0, .int 0, .int 0])) eqD)
def b_is_nought : Sf := sRet (os (oCons (p1_is_nought) (oNil)) allD)
def g_is_nought : List D → Option D := runB N_is_nought 1 b_is_nought
abbrev s_parted : Stmt := top 47
abbrev N_parted : List Str := ["branch", "wire", "bit", "pairs"]
def p1_parted : Dv → Option D := oComp (oI (os (oCons (oC (.int 0)) (oCons (oC (.int 1)) (oNil))) tupD) itsD) [(0, "branch"), (2, "bit")] bv1 (os (oCons (o2 (o2 (oV 1) (oC (.int 0)) ixD) (os (oCons (oV 0) (oNil)) tupD) addD) (oCons (os (oCons (o2 (oV 1) (oC (.int 1)) ixD) (oCons (oV 2) (oCons (oV 0) (oNil)))) g_left_by) (oNil))) tupD)
def p2_parted : Dv → Option D := oCompI (oI (oV 3) itsD) [] bv1 (oNot (ob (os (oCons (o2 (oV 0) (oC (.int 1)) ixD) (oNil)) g_is_nought))) (oV 0)
def b_parted : Sf := sSeq (sSet 2 (os (oCons (o2 (o1 (os (oCons (o2 (oV 0) (oC (.int 1)) ixD) (oNil)) lenD) bitsD) (oC (.int 1)) subD) (oCons (oV 1) (oNil))) g_worth)) (sSeq (sSet 3 (p1_parted)) (sRet (p2_parted)))
def g_parted : List D → Option D := runB N_parted 2 b_parted
abbrev s_gone_on : Stmt := top 48
abbrev N_gone_on : List Str := ["branch", "row"]
def b_gone_on : Sf := sRet (os (oCons (o2 (oV 0) (oC (.int 0)) ixD) (oCons (os (oCons (o2 (oV 0) (oC (.int 1)) ixD) (oCons (oV 1) (oNil))) g_done) (oNil))) tupD)
def g_gone_on : List D → Option D := runB N_gone_on 2 b_gone_on
abbrev s_due_gone_on : Stmt := top 49
abbrev N_due_gone_on : List Str := ["branch", "row", "go"]
def b_due_gone_on : Sf := sSeq (sIf (ob (o2 (o2 (oV 1) (oC (.int 0)) ixD) (oC (.str "where")) neD)) (sRet (oCallV 2 (oCons (oV 0) (oCons (oV 1) (oNil))) (("gone_on", g_gone_on) :: []))) (sNx)) (sRet (oIf (ob (o2 (o2 (o2 (oV 0) (oC (.int 0)) ixD) (o2 (oV 1) (oC (.int 1)) ixD) ixD) (oC (.int 1)) eqD)) (oCallV 2 (oCons (oV 0) (oCons (o2 (oV 1) (oC (.int 2)) ixD) (oNil))) (("gone_on", g_gone_on) :: [])) (oV 0)))
def g_due_gone_on : List D → Option D := runB N_due_gone_on 3 b_due_gone_on
abbrev s_gone_through : Stmt := top 50
abbrev N_gone_through : List Str := ["rows", "begun", "part", "go", "told", "row", "further", "branch"]
def p1_gone_through : Dv → Option D := oComp (oI (oV 4) itsD) [(3, "go"), (5, "row")] bv1 (os (oCons (oV 0) (oCons (oV 2) (oCons (oV 1) (oNil)))) g_due_gone_on)
def l1_gone_through : Sf := sExtL 6 (oCallV 2 (oCons (oV 7) (oCons (o2 (oV 5) (oC (.int 1)) ixD) (oNil))) (("parted", g_parted) :: []))
def l2_gone_through : Sf := sIf (ob (o2 (o2 (oV 5) (oC (.int 0)) ixD) (oC (.str "look")) eqD)) (sSeq (sOwn 6 (oNil)) (sSeq (sFor (oI (oV 4) itsD) (gN 7) (l1_gone_through)) (fun δ => (sSet 4 (oV 6)) (dFz 6 δ)))) (sSet 4 (p1_gone_through))
def b_gone_through : Sf := sSeq (sSet 4 (os (oCons (oV 1) (oNil)) lstD)) (sSeq (sFor (oI (oV 0) itsD) (gN 5) (l2_gone_through)) (sRet (oV 4)))
def g_gone_through : List D → Option D := runB N_gone_through 4 b_gone_through
abbrev s_branches : Stmt := top 51
abbrev N_branches : List Str := ["circuit", "place"]
def b_branches : Sf := sRet (os (oCons (o2 (oV 0) (oC (.int 1)) ixD) (oCons (os (oCons (os (oNil) tupD) (oCons (os (oCons (o2 (oV 0) (oC (.int 0)) ixD) (oCons (oV 1) (oNil))) g_beginning) (oNil))) tupD) (oCons (oC (fnD "parted")) (oCons (oC (fnD "gone_on")) (oNil))))) g_gone_through)
def g_branches : List D → Option D := runB N_branches 2 b_branches
abbrev s_mark_shares : Stmt := top 52
abbrev N_mark_shares : List Str := ["circuit", "place"]
def p1_mark_shares : Dv → Option D := oComp (oI (os (oCons (oV 0) (oCons (oV 1) (oNil))) g_branches) itsD) [] bv1 (os (oCons (o2 (oV 0) (oC (.int 0)) ixD) (oCons (os (oCons (o2 (oV 0) (oC (.int 1)) ixD) (oNil)) g_whole) (oNil))) tupD)
def b_mark_shares : Sf := sRet (p1_mark_shares)
def g_mark_shares : List D → Option D := runB N_mark_shares 2 b_mark_shares
abbrev s_word_of : Stmt := top 53
abbrev N_word_of : List Str := ["bits"]
def p1_word_of : Dv → Option D := oComp (oI (oV 0) itsD) [] bv1 (o2 (oV 0) (oC (.int 1)) eqD)
def p2_word_of : Dv → Option D := oComp (oI (oV 0) itsD) [] bv1 (o2 (oV 0) (oC (.int 0)) eqD)
def b_word_of : Sf := sSeq (sIf (ob (os (oCons (p1_word_of) (oNil)) allD)) (sRet (oC (.str "sure"))) (sNx)) (sSeq (sIf (ob (os (oCons (p2_word_of) (oNil)) allD)) (sRet (oC (.str "barred"))) (sNx)) (sRet (oC (.str "open"))))
def g_word_of : List D → Option D := runB N_word_of 1 b_word_of
abbrev s_marks_told : Stmt := top 54
abbrev N_marks_told : List Str := ["circuit", "place", "rows"]
def p1_marks_told : Dv → Option D := oComp (oI (os (oCons (oV 0) (oCons (oV 1) (oNil))) g_branches) itsD) [] bv1 (o2 (oV 0) (oC (.int 0)) ixD)
def p2_marks_told : Dv → Option D := oComp (oI (oV 1) itsD) [(0, "m")] bv1 (o2 (oV 0) (oV 1) ixD)
def p3_marks_told : Dv → Option D := oComp (oL (oCons (os (oCons (oV 0) (oNil)) g_looks_in) (oNil)) rng1D) [(2, "rows")] bv1 (os (oCons (p2_marks_told) (oNil)) g_word_of)
def b_marks_told : Sf := sSeq (sSet 2 (p1_marks_told)) (sRet (p3_marks_told))
def g_marks_told : List D → Option D := runB N_marks_told 2 b_marks_told
abbrev s__law_cell_at : Stmt := top 56
abbrev N__law_cell_at : List Str := ["script", "k"]
def b__law_cell_at : Sf := sSeq (sIf (ob (o2 (oV 1) (os (oCons (oV 0) (oNil)) lenD) ltD)) (sRet (o2 (oV 0) (oV 1) ixD)) (sNx)) (sRet (oC (.int 0)))
def g__law_cell_at : List D → Option D := runB N__law_cell_at 2 b__law_cell_at
abbrev s__law_row : Stmt := top 57
abbrev N__law_row : List Str := ["cell", "wires", "kind", "j", "i"]
def b__law_row : Sf := sSeq (sSet 2 (o2 (oV 0) (oC (.int 6)) modD)) (sSeq (sSet 3 (o2 (o2 (oV 0) (oC (.int 6)) divD) (oV 1) modD)) (sSeq (sIf (oAnd (ob (o2 (oV 1) (oC (.int 1)) eqD)) (ob (o2 (oV 2) (oC (.int 2)) gtD))) (sSet 2 (o2 (oV 2) (oC (.int 2)) modD)) (sNx)) (sSeq (sIf (ob (o2 (oV 2) (oC (.int 1)) eqD)) (sRet (os (oCons (oC (.str "turn")) (oCons (oV 3) (oCons (o2 (oC (.int 1)) (o2 (o2 (oV 0) (oC (.int 18)) divD) (oC (.int 7)) modD) addD) (oNil)))) tupD)) (sNx)) (sSeq (sIf (oOr (ob (o2 (oV 2) (oC (.int 0)) eqD)) (ob (o2 (oV 2) (oC (.int 2)) eqD))) (sRet (os (oCons (o2 (os (oCons (oC (.str "swing")) (oCons (oC (.str "")) (oCons (oC (.str "flip")) (oNil)))) lstD) (oV 2) ixD) (oCons (oV 3) (oNil))) tupD)) (sNx)) (sSeq (sSet 4 (o2 (o2 (o2 (oV 3) (oC (.int 1)) addD) (o2 (o2 (oV 0) (oC (.int 18)) divD) (o2 (oV 1) (oC (.int 1)) subD) modD) addD) (oV 1) modD)) (sRet (os (oCons (o2 (os (oCons (oC (.str "tie")) (oCons (oC (.str "sign")) (oCons (oC (.str "cross")) (oNil)))) lstD) (o2 (oV 2) (oC (.int 3)) subD) ixD) (oCons (oV 4) (oCons (oV 3) (oNil)))) tupD)))))))
def g__law_row : List D → Option D := runB N__law_row 2 b__law_row
abbrev s__law_rows : Stmt := top 58
abbrev N__law_rows : List Str := ["cells", "wires", "most", "rows", "looks", "cell", "kind", "rest", "inner_row"]
def l1__law_rows : Sf := sSeq (sSet 6 (o2 (oV 5) (oC (.int 5)) modD)) (sSeq (sSet 7 (o2 (oV 5) (oC (.int 5)) divD)) (sIf (oAnd (ob (o2 (oV 6) (oC (.int 3)) eqD)) (ob (o2 (oV 4) (oV 2) ltD))) (sSeq (sApp 3 (os (oCons (oC (.str "look")) (oCons (o2 (oV 7) (oV 1) modD) (oNil))) tupD)) (sSet 4 (o2 (oV 4) (oC (.int 1)) addD))) (sIf (oAnd (ob (o2 (oV 6) (oC (.int 4)) eqD)) (ob (o2 (oV 4) (oC (.int 0)) gtD))) (sSeq (sSet 8 (o2 (os (oCons (os (oCons (oC (.str "flip")) (oCons (o2 (o2 (oV 7) (oC (.int 2)) divD) (oV 1) modD) (oNil))) tupD) (oCons (os (oCons (oC (.str "turn")) (oCons (o2 (o2 (oV 7) (oC (.int 2)) divD) (oV 1) modD) (oCons (oC (.int 4)) (oNil)))) tupD) (oNil))) lstD) (o2 (oV 7) (oC (.int 2)) modD) ixD)) (sApp 3 (os (oCons (oC (.str "where")) (oCons (o2 (o2 (oV 7) (oC (.int 6)) divD) (oV 4) modD) (oCons (oV 8) (oNil)))) tupD))) (sApp 3 (os (oCons (oV 7) (oCons (oV 1) (oNil))) g__law_row)))))
def b__law_rows : Sf := sSeq (sOwn 3 (oNil)) (sSeq (sSet 4 (oC (.int 0))) (sSeq (sFor (oI (oV 0) itsD) (gN 5) (l1__law_rows)) (fun δ => (sRet (os (oCons (oV 3) (oNil)) tupleD)) (dFz 3 δ))))
def g__law_rows : List D → Option D := runB N__law_rows 3 b__law_rows
abbrev s__law_looks : Stmt := top 59
abbrev N__law_looks : List Str := ["rows"]
def p1__law_looks : Dv → Option D := oCompI (oI (oV 0) itsD) [] bv1 (ob (o2 (o2 (oV 0) (oC (.int 0)) ixD) (oC (.str "look")) eqD)) (oV 0)
def b__law_looks : Sf := sRet (os (oCons (p1__law_looks) (oNil)) lenD)
def g__law_looks : List D → Option D := runB N__law_looks 1 b__law_looks
abbrev s__law_products : Stmt := top 60
abbrev N__law_products : List Str := ["one", "other", "made", "pair", "more", "state", "x"]
def p1__law_products : Dv → Option D := oComp (oI (o2 (oV 4) (oC (.int 1)) ixD) itsD) [(6, "x")] bv1 (os (oCons (oV 1) (oCons (oV 0) (oNil))) g_times)
def l1__law_products : Sf := sSet 5 (o2 (oV 5) (os (oCons (p1__law_products) (oNil)) tupleD) addD)
def l2__law_products : Sf := sSeq (sSet 5 (os (oNil) tupD)) (sSeq (sFor (oI (o2 (oV 3) (oC (.int 1)) ixD) itsD) (gN 6) (l1__law_products)) (sApp 2 (os (oCons (o2 (o2 (oV 3) (oC (.int 0)) ixD) (o2 (oV 4) (oC (.int 0)) ixD) addD) (oCons (oV 5) (oNil))) tupD)))
def l3__law_products : Sf := sFor (oI (oV 1) itsD) (gN 4) (l2__law_products)
def b__law_products : Sf := sSeq (sOwn 2 (oNil)) (sSeq (sFor (oI (oV 0) itsD) (gN 3) (l3__law_products)) (fun δ => (sRet (oV 2)) (dFz 2 δ)))
def g__law_products : List D → Option D := runB N__law_products 2 b__law_products
abbrev s__law_share_products : Stmt := top 61
abbrev N__law_share_products : List Str := ["one", "other", "made", "pair", "more"]
def l1__law_share_products : Sf := sApp 2 (os (oCons (o2 (o2 (oV 3) (oC (.int 0)) ixD) (o2 (oV 4) (oC (.int 0)) ixD) addD) (oCons (os (oCons (o2 (oV 3) (oC (.int 1)) ixD) (oCons (o2 (oV 4) (oC (.int 1)) ixD) (oNil))) g_share_times) (oNil))) tupD)
def l2__law_share_products : Sf := sFor (oI (oV 1) itsD) (gN 4) (l1__law_share_products)
def b__law_share_products : Sf := sSeq (sOwn 2 (oNil)) (sSeq (sFor (oI (oV 0) itsD) (gN 3) (l2__law_share_products)) (fun δ => (sRet (oV 2)) (dFz 2 δ)))
def g__law_share_products : List D → Option D := runB N__law_share_products 2 b__law_share_products
abbrev s_law : Stmt := top 62
abbrev N_law : List Str := ["script", "head", "cells", "one", "more", "other", "places", "both", "place", "first", "second", "due", "looks"]
def p1_law : Dv → Option D := oComp (oL (oCons (oC (.int 0)) (oCons (os (oCons (oV 2) (oNil)) lenD) (oCons (oC (.int 2)) (oNil)))) rng3D) [(2, "cells")] bv1 (o2 (oV 1) (oV 0) ixD)
def p2_law : Dv → Option D := oComp (oL (oCons (oC (.int 1)) (oCons (os (oCons (oV 2) (oNil)) lenD) (oCons (oC (.int 2)) (oNil)))) rng3D) [(2, "cells")] bv1 (o2 (oV 1) (oV 0) ixD)
def b_law : Sf := sSeq (sSet 1 (os (oCons (oV 0) (oCons (oC (.int 0)) (oNil))) g__law_cell_at)) (sSeq (sSet 2 (oSl (oV 0) (oP (oC (.int 2))) (oP (oC (.int 14))))) (sSeq (sSet 3 (os (oCons (o2 (oC (.int 1)) (o2 (oV 1) (oC (.int 2)) modD) addD) (oCons (os (oCons (p1_law) (oCons (o2 (oC (.int 1)) (o2 (oV 1) (oC (.int 2)) modD) addD) (oCons (o2 (o2 (oV 1) (oC (.int 4)) divD) (oC (.int 3)) modD) (oNil)))) g__law_rows) (oNil))) tupD)) (sSeq (sSet 4 (p2_law)) (sSeq (sSet 5 (os (oCons (o2 (oC (.int 1)) (o2 (o2 (oV 1) (oC (.int 2)) divD) (oC (.int 2)) modD) addD) (oCons (os (oCons (oV 4) (oCons (o2 (oC (.int 1)) (o2 (o2 (oV 1) (oC (.int 2)) divD) (oC (.int 2)) modD) addD) (oCons (o2 (o2 (oV 1) (oC (.int 12)) divD) (oC (.int 2)) modD) (oNil)))) g__law_rows) (oNil))) tupD)) (sSeq (sSet 6 (os (oCons (o2 (os (oCons (oV 0) (oCons (oC (.int 1)) (oNil))) g__law_cell_at) (o2 (oC (.int 1)) (o2 (oV 3) (oC (.int 0)) ixD) shlD) modD) (oCons (o2 (o2 (os (oCons (oV 0) (oCons (oC (.int 1)) (oNil))) g__law_cell_at) (oC (.int 5)) divD) (o2 (oC (.int 1)) (o2 (oV 5) (oC (.int 0)) ixD) shlD) modD) (oNil))) lstD)) (sSeq (sSet 7 (os (oCons (oV 3) (oCons (oV 5) (oNil))) g_side_by_side)) (sSeq (sSet 8 (o2 (o2 (o2 (oV 6) (oC (.int 0)) ixD) (o2 (oV 5) (oC (.int 0)) ixD) shlD) (o2 (oV 6) (oC (.int 1)) ixD) addD)) (sSeq (sSet 9 (os (oCons (oV 3) (oCons (o2 (oV 6) (oC (.int 0)) ixD) (oNil))) g_branches)) (sSeq (sSet 10 (os (oCons (oV 5) (oCons (o2 (oV 6) (oC (.int 1)) ixD) (oNil))) g_branches)) (sSeq (sIf (ob (o2 (os (oCons (oV 7) (oCons (oV 8) (oNil))) g_branches) (os (oCons (oV 9) (oCons (oV 10) (oNil))) g__law_products) neD)) (sRet (oC (.bool false))) (sNx)) (sSeq (sSet 11 (os (oCons (os (oCons (oV 3) (oCons (o2 (oV 6) (oC (.int 0)) ixD) (oNil))) g_mark_shares) (oCons (os (oCons (oV 5) (oCons (o2 (oV 6) (oC (.int 1)) ixD) (oNil))) g_mark_shares) (oNil))) g__law_share_products)) (sSeq (sIf (ob (o2 (os (oCons (oV 7) (oCons (oV 8) (oNil))) g_mark_shares) (oV 11) neD)) (sRet (oC (.bool false))) (sNx)) (sSeq (sSet 12 (os (oCons (o2 (oV 7) (oC (.int 1)) ixD) (oNil)) g__law_looks)) (sSeq (sIf (oAnd (ob (o2 (o2 (o2 (oV 7) (oC (.int 0)) ixD) (oV 12) addD) (oC (.int 5)) ltD)) (ob (o2 (os (oCons (os (oCons (oV 7) (oNil)) g_put_off) (oCons (o2 (oV 8) (oV 12) shlD) (oNil))) g_mark_shares) (oV 11) neD))) (sRet (oC (.bool false))) (sNx)) (sRet (o2 (os (oCons (oV 7) (oCons (oV 8) (oNil))) g_marks_told) (o2 (os (oCons (oV 3) (oCons (o2 (oV 6) (oC (.int 0)) ixD) (oNil))) g_marks_told) (os (oCons (oV 5) (oCons (o2 (oV 6) (oC (.int 1)) ixD) (oNil))) g_marks_told) addD) eqD))))))))))))))))
def g_law : List D → Option D := runB N_law 1 b_law

theorem twos_eq (j m : Int) : g_twos_shared [.int j, .int m] = some (.int (MA.twos j m)) := by
  by_cases h : j = 0
  · subst h
    simp [g_twos_shared, runB, b_twos_shared, startD, MA.twos]
  · simp [g_twos_shared, runB, b_twos_shared, startD, MA.twos, h]
theorem root_eq (a b c d : Int) : g_by_root [.int a, .int b, .int c, .int d] = some (.tuple [.int (b - d), .int (a + c), .int (b + d), .int (c - a)]) := by
  simp [g_by_root, runB, b_by_root, startD]
/-- a number as the program holds it -/
def tup5 (x : MA.Q4) (k : Int) : D := .tuple [.int x.a, .int x.b, .int x.c, .int x.d, .int k]
def nu_1 : Sf := sSet 5 (VL.os (oCons (o2 (o2 (o2 (oV 0) (oV 1) orD) (oV 2) orD) (oV 3) orD) (oCons (o2 (oV 4) (oC (.int 2)) divD) (oNil))) g_twos_shared)
def nu_2 : Sf := sSet 0 (o2 (oV 0) (oV 5) shrD)
def nu_3 : Sf := sSet 1 (o2 (oV 1) (oV 5) shrD)
def nu_4 : Sf := sSet 2 (o2 (oV 2) (oV 5) shrD)
def nu_5 : Sf := sSet 3 (o2 (oV 3) (oV 5) shrD)
def nu_6 : Sf := sSet 4 (o2 (oV 4) (o2 (oC (.int 2)) (oV 5) mulI) subD)
def nu_7 : Sf := sIf (oOr (ob (o2 (oV 4) (oC (.int 0)) eqD)) (oOr (ob (o2 (o2 (o2 (oV 0) (oV 2) subD) (oC (.int 2)) modD) (oC (.int 1)) eqD)) (ob (o2 (o2 (o2 (oV 1) (oV 3) subD) (oC (.int 2)) modD) (oC (.int 1)) eqD)))) (sRet (VL.os (oCons (oV 0) (oCons (oV 1) (oCons (oV 2) (oCons (oV 3) (oCons (oV 4) (oNil)))))) tupD)) (sNx)
def nu_8 : Sf := sSet 6 (VL.os (oCons (oV 0) (oCons (oV 1) (oCons (oV 2) (oCons (oV 3) (oNil))))) g_by_root)
def nu_9 : Sf := sRet (VL.os (oCons (o2 (o2 (oV 6) (oC (.int 0)) ixD) (oC (.int 2)) divD) (oCons (o2 (o2 (oV 6) (oC (.int 1)) ixD) (oC (.int 2)) divD) (oCons (o2 (o2 (oV 6) (oC (.int 2)) ixD) (oC (.int 2)) divD) (oCons (o2 (o2 (oV 6) (oC (.int 3)) ixD) (oC (.int 2)) divD) (oCons (o2 (oV 4) (oC (.int 1)) subD) (oNil)))))) tupD)
theorem number_st : b_number = sSeq nu_1 (sSeq nu_2 (sSeq nu_3 (sSeq nu_4 (sSeq nu_5 (sSeq nu_6 (sSeq nu_7 (sSeq nu_8 (nu_9)))))))) := rfl
theorem nseq {s t : Sf} {δ δ' : Dv} (h : s δ = some (.nx, δ')) : sSeq s t δ = t δ' := by simp only [sSeq, h, Option.bind_some]
theorem nret {s t : Sf} {δ δ' : Dv} {d : D} (h : s δ = some (.rt d, δ')) : sSeq s t δ = some (.rt d, δ') := by simp only [sSeq, h, Option.bind_some]
theorem nrun {N : List Str} {n : Nat} {b : Sf} {as : List D} {d : D} {δ' : Dv} (hl : as.length = n) (h : b (startD N as) = some (.rt d, δ')) : runB N n b as = some d := by unfold runB; rw [if_pos hl, h]; rfl
theorem nu1 {a b c d k t : Int} (h : g_twos_shared [.int (Builtin.bitOr (Builtin.bitOr (Builtin.bitOr a b) c) d), .int (k / 2)] = some (.int t)) : nu_1 [.fz (.int a), .fz (.int b), .fz (.int c), .fz (.int d), .fz (.int k), .un, .un] = some (.nx, [.fz (.int a), .fz (.int b), .fz (.int c), .fz (.int d), .fz (.int k), .fz (.int t), .un]) := by simp [nu_1, h]
theorem nu2 (a : Int) (t : Nat) (x1 x2 x3 x4 x6 : Sl) : nu_2 [.fz (.int a), x1, x2, x3, x4, .fz (.int t), x6] = some (.nx, [.fz (.int (a / 2 ^ t)), x1, x2, x3, x4, .fz (.int t), x6]) := by simp [nu_2]
theorem nu3 (a : Int) (t : Nat) (x1 x2 x3 x4 x6 : Sl) : nu_3 [x1, .fz (.int a), x2, x3, x4, .fz (.int t), x6] = some (.nx, [x1, .fz (.int (a / 2 ^ t)), x2, x3, x4, .fz (.int t), x6]) := by simp [nu_3]
theorem nu4 (a : Int) (t : Nat) (x1 x2 x3 x4 x6 : Sl) : nu_4 [x1, x2, .fz (.int a), x3, x4, .fz (.int t), x6] = some (.nx, [x1, x2, .fz (.int (a / 2 ^ t)), x3, x4, .fz (.int t), x6]) := by simp [nu_4]
theorem nu5 (a : Int) (t : Nat) (x1 x2 x3 x4 x6 : Sl) : nu_5 [x1, x2, x3, .fz (.int a), x4, .fz (.int t), x6] = some (.nx, [x1, x2, x3, .fz (.int (a / 2 ^ t)), x4, .fz (.int t), x6]) := by simp [nu_5]
theorem nu6 (a : Int) (t : Nat) (x1 x2 x3 x4 x6 : Sl) : nu_6 [x1, x2, x3, x4, .fz (.int a), .fz (.int t), x6] = some (.nx, [x1, x2, x3, x4, .fz (.int (a - 2 * t)), .fz (.int t), x6]) := by
  have m2 : IntMulOk 2 (t : Int) := .of_left (by decide)
  simp [nu_6, m2]
theorem oOr_t {f g : Dv → Option Bool} {δ : Dv} (h : f δ = some true) : oOr f g δ = some true := by unfold oOr; rw [h]; rfl
theorem oOr_f {f g : Dv → Option Bool} {δ : Dv} (h : f δ = some false) : oOr f g δ = g δ := by unfold oOr; rw [h]; rfl
section
variable (a b c d k : Int) (x5 x6 : Sl)
theorem nu7a : (ob (o2 (oV 4) (oC (.int 0)) eqD)) [.fz (.int a), .fz (.int b), .fz (.int c), .fz (.int d), .fz (.int k), x5, x6] = some (k == 0) := rfl
theorem nu7m {f g : Dv → Option D} {δ : Dv} {x y : Int} (hf : f δ = some (.int x)) (hg : g δ = some (.int y)) : (ob (o2 (o2 (o2 f g subD) (oC (.int 2)) modD) (oC (.int 1)) eqD)) δ = some ((x - y) % 2 == 1) := by
  have s : subD (.int x) (.int y) = some (.int (x - y)) := rfl
  have m : modD (.int (x - y)) (.int 2) = some (.int ((x - y) % 2)) := modD_int (by decide)
  simp only [ob, o2, oC, hf, hg, Option.bind_some, s, m, eqD_int, asB_bool]
theorem nu7b : (ob (o2 (o2 (o2 (oV 0) (oV 2) subD) (oC (.int 2)) modD) (oC (.int 1)) eqD)) [.fz (.int a), .fz (.int b), .fz (.int c), .fz (.int d), .fz (.int k), x5, x6] = some ((a - c) % 2 == 1) := nu7m rfl rfl
theorem nu7c : (ob (o2 (o2 (o2 (oV 1) (oV 3) subD) (oC (.int 2)) modD) (oC (.int 1)) eqD)) [.fz (.int a), .fz (.int b), .fz (.int c), .fz (.int d), .fz (.int k), x5, x6] = some ((b - d) % 2 == 1) := nu7m rfl rfl
end
theorem sIf_t {t : Dv → Option Bool} {u w : Sf} {δ : Dv} (h : t δ = some true) : sIf t u w δ = u δ := by unfold sIf; rw [h]; rfl
theorem sIf_f {t : Dv → Option Bool} {u w : Sf} {δ : Dv} (h : t δ = some false) : sIf t u w δ = w δ := by unfold sIf; rw [h]; rfl
theorem nu7y (a b c d k : Int) (x5 x6 : Sl) (h : k = 0 ∨ (a - c) % 2 = 1 ∨ (b - d) % 2 = 1) : nu_7 [.fz (.int a), .fz (.int b), .fz (.int c), .fz (.int d), .fz (.int k), x5, x6] = some (.rt (.tuple [.int a, .int b, .int c, .int d, .int k]), [.fz (.int a), .fz (.int b), .fz (.int c), .fz (.int d), .fz (.int k), x5, x6]) := by
  refine (sIf_t ?_).trans rfl
  have t1 := nu7a a b c d k x5 x6
  have t2 := nu7b a b c d k x5 x6
  have t3 := nu7c a b c d k x5 x6
  by_cases q0 : k = 0
  · rw [beq_iff_eq.mpr q0] at t1; exact oOr_t t1
  · rw [beq_eq_false_iff_ne.mpr q0] at t1
    refine (oOr_f t1).trans ?_
    by_cases q1 : (a - c) % 2 = 1
    · rw [beq_iff_eq.mpr q1] at t2; exact oOr_t t2
    · rw [beq_eq_false_iff_ne.mpr q1] at t2
      refine (oOr_f t2).trans ?_
      rcases h with h | h | h
      · exact absurd h q0
      · exact absurd h q1
      · rw [beq_iff_eq.mpr h] at t3; exact t3
theorem nu7n (a b c d k : Int) (x5 x6 : Sl) (h : ¬(k = 0 ∨ (a - c) % 2 = 1 ∨ (b - d) % 2 = 1)) : nu_7 [.fz (.int a), .fz (.int b), .fz (.int c), .fz (.int d), .fz (.int k), x5, x6] = some (.nx, [.fz (.int a), .fz (.int b), .fz (.int c), .fz (.int d), .fz (.int k), x5, x6]) := by
  have t1 := nu7a a b c d k x5 x6
  have t2 := nu7b a b c d k x5 x6
  have t3 := nu7c a b c d k x5 x6
  rw [beq_eq_false_iff_ne.mpr fun q => h (.inl q)] at t1
  rw [beq_eq_false_iff_ne.mpr fun q => h (.inr (.inl q))] at t2
  rw [beq_eq_false_iff_ne.mpr fun q => h (.inr (.inr q))] at t3
  exact (sIf_f ((oOr_f t1).trans ((oOr_f t2).trans t3))).trans rfl
theorem nu8 (a b c d : Int) (x4 x5 x6 : Sl) : nu_8 [.fz (.int a), .fz (.int b), .fz (.int c), .fz (.int d), x4, x5, x6] = some (.nx, [.fz (.int a), .fz (.int b), .fz (.int c), .fz (.int d), x4, x5, .fz (.tuple [.int (b - d), .int (a + c), .int (b + d), .int (c - a)])]) := by simp [nu_8, root_eq]
theorem nu9 (p q r s k : Int) (x0 x1 x2 x3 x5 : Sl) : nu_9 [x0, x1, x2, x3, .fz (.int k), x5, .fz (.tuple [.int p, .int q, .int r, .int s])] = some (.rt (.tuple [.int (p / 2), .int (q / 2), .int (r / 2), .int (s / 2), .int (k - 1)]), [x0, x1, x2, x3, .fz (.int k), x5, .fz (.tuple [.int p, .int q, .int r, .int s])]) := by simp [nu_9]
theorem number_eq (a b c d k : Int) (hk : 0 ≤ k) : g_number [.int a, .int b, .int c, .int d, .int k] = some (tup5 (MA.num ⟨a, b, c, d⟩ k).1 (MA.num ⟨a, b, c, d⟩ k).2) := by
  obtain ⟨t, e, h1, _⟩ := MA.twos_four a b c d (k / 2) (Int.ediv_nonneg hk (by decide))
  have tw := twos_eq (Builtin.bitOr (Builtin.bitOr (Builtin.bitOr a b) c) d) (k / 2)
  rw [e] at tw
  unfold MA.num tup5
  simp only [e, Int.toNat_natCast]
  generalize ha : a / 2 ^ t = A
  generalize hb : b / 2 ^ t = B
  generalize hc : c / 2 ^ t = C
  generalize hd : d / 2 ^ t = E
  have go : b_number (startD N_number [.int a, .int b, .int c, .int d, .int k]) = (sSeq nu_7 (sSeq nu_8 nu_9)) [.fz (.int A), .fz (.int B), .fz (.int C), .fz (.int E), .fz (.int (k - 2 * t)), .fz (.int t), .un] := by
    rw [number_st, ← ha, ← hb, ← hc, ← hd]
    exact (nseq (nu1 tw)).trans ((nseq (nu2 _ _ _ _ _ _ _)).trans ((nseq (nu3 _ _ _ _ _ _ _)).trans ((nseq (nu4 _ _ _ _ _ _ _)).trans ((nseq (nu5 _ _ _ _ _ _ _)).trans (nseq (nu6 _ _ _ _ _ _ _))))))
  by_cases q : k - 2 * (t : Int) = 0 ∨ (A - C) % 2 = 1 ∨ (B - E) % 2 = 1
  · rw [if_pos q]
    exact nrun rfl (go.trans (nret (nu7y _ _ _ _ _ _ _ q)))
  · rw [if_neg q]
    exact nrun rfl (go.trans ((nseq (nu7n _ _ _ _ _ _ _ q)).trans ((nseq (nu8 _ _ _ _ _ _ _)).trans (nu9 _ _ _ _ _ _ _ _ _ _))))


theorem maxI (c f : Int) : maxD [.int c, .int f] = some (.int (max c f)) := by
  rw [maxD_int]
  congr 2
  rw [Int.max_def]
  split <;> split <;> omega
/-- a number, in least form, its parts and roots bounded -/
structure Nm (M : Nat) (r : Int) (x : MA.Q4) (c : Int) : Prop where
  le : MA.Q4.Le M x
  ls : MA.Q4.Least x c
  c1 : c ≤ r
theorem numQ (x : MA.Q4) (k : Int) (hk : 0 ≤ k) : g_number [.int x.a, .int x.b, .int x.c, .int x.d, .int k] = some (tup5 (MA.num x k).1 (MA.num x k).2) := number_eq _ _ _ _ _ hk
def tup4 (x : MA.Q4) : D := .tuple [.int x.a, .int x.b, .int x.c, .int x.d]
theorem over_eq (x : MA.Q4) (c k : Int) (h : MA.Q4.Le (2 ^ 100000) x) (h1 : c ≤ k) (h2 : k - c ≤ 100000) : g_parts_over_ring [tup5 x c, .int k] = some (tup4 (MA.Q4.rtn (k - c).toNat x)) := by
  obtain ⟨l1, l2, l3, l4⟩ := h
  obtain ⟨t, ht⟩ : ∃ t : Nat, (k - c) / 2 = t := ⟨((k - c) / 2).toNat, by omega⟩
  have s : ∀ i : Int, i.natAbs ≤ 2 ^ 100000 → shlD (.int i) (.int (t : Int)) = some (.int (i * 2 ^ t)) := fun i hi => by
    have hb : i.natAbs < 2 ^ 100001 := Nat.lt_of_le_of_lt hi (Nat.pow_lt_pow_right (by decide) (by decide))
    have := MA.bits_le hb
    have q := shlD_int (i := i) (j := (t : Int)) (by omega) (by omega)
    simpa using q
  have r2 := MA.Q4.rtn_two t x
  unfold tup5 tup4
  by_cases o : (k - c) % 2 = 1
  · have e : (k - c).toNat = 2 * t + 1 := by omega
    have m : (2 * (t : Int) + 1) % 2 = 1 := by omega
    rw [e, MA.Q4.rtn_succ, r2]
    simp [g_parts_over_ring, runB, b_parts_over_ring, startD, ht, o, s _ l1, s _ l2, s _ l3, s _ l4, root_eq, MA.Q4.rt, MA.Q4.dbl]
  · have e : (k - c).toNat = 2 * t := by omega
    rw [e, r2]
    simp [g_parts_over_ring, runB, b_parts_over_ring, startD, ht, o, s _ l1, s _ l2, s _ l3, s _ l4, MA.Q4.dbl]
theorem plus_eq (x : MA.Q4) (c : Int) (y : MA.Q4) (d : Int) (hx : MA.Q4.Le (2 ^ 100000) x) (hy : MA.Q4.Le (2 ^ 100000) y) (hc : 0 ≤ c) (hd : 0 ≤ d) (hc1 : c ≤ 100000) (hd1 : d ≤ 100000) : g_plus [tup5 x c, tup5 y d] = some (tup5 (MA.plusQ x c y d).1 (MA.plusQ x c y d).2) := by
  have hm := maxI c d
  have k1 : c ≤ max c d := Int.le_max_left ..
  have k2 : d ≤ max c d := Int.le_max_right ..
  have k3 : max c d = c ∨ max c d = d := by omega
  have o1 := over_eq x c (max c d) hx k1 (by omega)
  have o2 := over_eq y d (max c d) hy k2 (by omega)
  unfold MA.plusQ
  have nm := numQ (MA.Q4.add (MA.Q4.rtn (max c d - c).toNat x) (MA.Q4.rtn (max c d - d).toNat y)) (max c d) (by omega)
  generalize max c d = m at *
  generalize MA.Q4.rtn (m - c).toNat x = u at *
  generalize MA.Q4.rtn (m - d).toNat y = v at *
  generalize MA.num (MA.Q4.add u v) m = r at *
  simp only [MA.Q4.add] at nm
  generalize tup5 r.1 r.2 = R at *
  simp only [tup5, tup4] at o1 o2 ⊢
  simp [-maxD_int, g_plus, runB, b_plus, startD, hm, o1, o2, nm]

theorem halved_eq (x : MA.Q4) (c : Int) (hc : 0 ≤ c) : g_halved [tup5 x c] = some (tup5 (MA.num x (c + 1)).1 (MA.num x (c + 1)).2) := by
  have nm := numQ x (c + 1) (by omega)
  generalize tup5 (MA.num x (c + 1)).1 (MA.num x (c + 1)).2 = R at *
  simp only [tup5]
  simp [g_halved, runB, b_halved, startD, nm]

theorem turned_eq (x : MA.Q4) (c e : Int) : g_turned [tup5 x c, .int e] = some (tup5 (MA.tnn (e % 8).toNat x) c) := by
  have w : e % 8 = 0 ∨ e % 8 = 1 ∨ e % 8 = 2 ∨ e % 8 = 3 ∨ e % 8 = 4 ∨ e % 8 = 5 ∨ e % 8 = 6 ∨ e % 8 = 7 := by omega
  have go : ∀ (r a0 a1 a2 a3 : Int), e % 8 = r → (0 - e) % 8 = a0 → (1 - e) % 8 = a1 → (2 - e) % 8 = a2 → (3 - e) % 8 = a3 → ∀ b0 b1 b2 b3 : Int, atI [PyData.int x.a, .int x.b, .int x.c, .int x.d, .int (-x.a), .int (-x.b), .int (-x.c), .int (-x.d)] a0 = some (.int b0) → atI [PyData.int x.a, .int x.b, .int x.c, .int x.d, .int (-x.a), .int (-x.b), .int (-x.c), .int (-x.d)] a1 = some (.int b1) →
      atI [PyData.int x.a, .int x.b, .int x.c, .int x.d, .int (-x.a), .int (-x.b), .int (-x.c), .int (-x.d)] a2 = some (.int b2) → atI [PyData.int x.a, .int x.b, .int x.c, .int x.d, .int (-x.a), .int (-x.b), .int (-x.c), .int (-x.d)] a3 = some (.int b3) → g_turned [tup5 x c, .int e] = some (.tuple [.int b0, .int b1, .int b2, .int b3, .int c]) := by
    intro r a0 a1 a2 a3 _ h0 h1 h2 h3 b0 b1 b2 b3 k0 k1 k2 k3
    have h0 : -e % 8 = a0 := by omega
    simp only [tup5]
    simp [g_turned, runB, b_turned, startD, h0, h1, h2, h3, k0, k1, k2, k3]
  rcases w with w | w | w | w | w | w | w | w <;> rw [w]
  · exact go 0 0 1 2 3 w (by omega) (by omega) (by omega) (by omega) _ _ _ _ (by simp; rfl) (by simp; rfl) (by simp; rfl) (by simp; rfl)
  · exact go 1 7 0 1 2 w (by omega) (by omega) (by omega) (by omega) _ _ _ _ (by simp; rfl) (by simp; rfl) (by simp; rfl) (by simp; rfl)
  · exact go 2 6 7 0 1 w (by omega) (by omega) (by omega) (by omega) _ _ _ _ (by simp; rfl) (by simp; rfl) (by simp; rfl) (by simp; rfl)
  · exact go 3 5 6 7 0 w (by omega) (by omega) (by omega) (by omega) _ _ _ _ (by simp; rfl) (by simp; rfl) (by simp; rfl) (by simp; rfl)
  · exact go 4 4 5 6 7 w (by omega) (by omega) (by omega) (by omega) _ _ _ _ (by simp; rfl) (by simp; rfl) (by simp; rfl) (by simp; rfl)
  · have e0 : tup5 (MA.tnn (5 : Int).toNat x) c = .tuple [.int x.d, .int (-x.a), .int (-x.b), .int (-x.c), .int c] := by simp [tup5, MA.tnn, MA.Q4.tn]
    rw [e0]
    exact go 5 3 4 5 6 w (by omega) (by omega) (by omega) (by omega) _ _ _ _ (by simp) (by simp) (by simp) (by simp)
  · have e0 : tup5 (MA.tnn (6 : Int).toNat x) c = .tuple [.int x.c, .int x.d, .int (-x.a), .int (-x.b), .int c] := by simp [tup5, MA.tnn, MA.Q4.tn]
    rw [e0]
    exact go 6 2 3 4 5 w (by omega) (by omega) (by omega) (by omega) _ _ _ _ (by simp) (by simp) (by simp) (by simp)
  · have e0 : tup5 (MA.tnn (7 : Int).toNat x) c = .tuple [.int x.b, .int x.c, .int x.d, .int (-x.a), .int c] := by simp [tup5, MA.tnn, MA.Q4.tn]
    rw [e0]
    exact go 7 1 2 3 4 w (by omega) (by omega) (by omega) (by omega) _ _ _ _ (by simp) (by simp) (by simp) (by simp)

theorem against_eq (x : MA.Q4) (c : Int) : g_against [tup5 x c] = some (tup5 (MA.Q4.neg x) c) := by
  simp only [tup5]
  simp [g_against, runB, b_against, startD, MA.Q4.neg]

/-! ### the words of rows -/
def okS (a : Str) : Bool := shp (.str a)
theorem eqS {a b : Str} (ha : okS a = true) (hb : okS b = true) : eqD (.str a) (.str b) = some (.bool (a == b)) := if_pos ⟨ha, hb⟩
theorem ok_w_swing : okS "swing" = true := by decide +kernel
theorem ok_w_turn : okS "turn" = true := by decide +kernel
theorem ok_w_flip : okS "flip" = true := by decide +kernel
theorem ok_w_tie : okS "tie" = true := by decide +kernel
theorem ok_w_sign : okS "sign" = true := by decide +kernel
theorem ok_w_cross : okS "cross" = true := by decide +kernel
theorem ok_w_look : okS "look" = true := by decide +kernel
theorem ok_w_where : okS "where" = true := by decide +kernel
@[simp] theorem kw_swing_swing : eqD (.str "swing") (.str "swing") = some (.bool true) := (eqS ok_w_swing ok_w_swing).trans (congrArg (fun z => some (PyData.bool z)) (show (("swing" : Str) == ("swing" : Str)) = true by decide +kernel))
@[simp] theorem kw_swing_turn : eqD (.str "swing") (.str "turn") = some (.bool false) := (eqS ok_w_swing ok_w_turn).trans (congrArg (fun z => some (PyData.bool z)) (show (("swing" : Str) == ("turn" : Str)) = false by decide +kernel))
@[simp] theorem kw_swing_flip : eqD (.str "swing") (.str "flip") = some (.bool false) := (eqS ok_w_swing ok_w_flip).trans (congrArg (fun z => some (PyData.bool z)) (show (("swing" : Str) == ("flip" : Str)) = false by decide +kernel))
@[simp] theorem kw_swing_tie : eqD (.str "swing") (.str "tie") = some (.bool false) := (eqS ok_w_swing ok_w_tie).trans (congrArg (fun z => some (PyData.bool z)) (show (("swing" : Str) == ("tie" : Str)) = false by decide +kernel))
@[simp] theorem kw_swing_sign : eqD (.str "swing") (.str "sign") = some (.bool false) := (eqS ok_w_swing ok_w_sign).trans (congrArg (fun z => some (PyData.bool z)) (show (("swing" : Str) == ("sign" : Str)) = false by decide +kernel))
@[simp] theorem kw_swing_cross : eqD (.str "swing") (.str "cross") = some (.bool false) := (eqS ok_w_swing ok_w_cross).trans (congrArg (fun z => some (PyData.bool z)) (show (("swing" : Str) == ("cross" : Str)) = false by decide +kernel))
@[simp] theorem kw_swing_look : eqD (.str "swing") (.str "look") = some (.bool false) := (eqS ok_w_swing ok_w_look).trans (congrArg (fun z => some (PyData.bool z)) (show (("swing" : Str) == ("look" : Str)) = false by decide +kernel))
@[simp] theorem kw_swing_where : eqD (.str "swing") (.str "where") = some (.bool false) := (eqS ok_w_swing ok_w_where).trans (congrArg (fun z => some (PyData.bool z)) (show (("swing" : Str) == ("where" : Str)) = false by decide +kernel))
@[simp] theorem kw_turn_swing : eqD (.str "turn") (.str "swing") = some (.bool false) := (eqS ok_w_turn ok_w_swing).trans (congrArg (fun z => some (PyData.bool z)) (show (("turn" : Str) == ("swing" : Str)) = false by decide +kernel))
@[simp] theorem kw_turn_turn : eqD (.str "turn") (.str "turn") = some (.bool true) := (eqS ok_w_turn ok_w_turn).trans (congrArg (fun z => some (PyData.bool z)) (show (("turn" : Str) == ("turn" : Str)) = true by decide +kernel))
@[simp] theorem kw_turn_flip : eqD (.str "turn") (.str "flip") = some (.bool false) := (eqS ok_w_turn ok_w_flip).trans (congrArg (fun z => some (PyData.bool z)) (show (("turn" : Str) == ("flip" : Str)) = false by decide +kernel))
@[simp] theorem kw_turn_tie : eqD (.str "turn") (.str "tie") = some (.bool false) := (eqS ok_w_turn ok_w_tie).trans (congrArg (fun z => some (PyData.bool z)) (show (("turn" : Str) == ("tie" : Str)) = false by decide +kernel))
@[simp] theorem kw_turn_sign : eqD (.str "turn") (.str "sign") = some (.bool false) := (eqS ok_w_turn ok_w_sign).trans (congrArg (fun z => some (PyData.bool z)) (show (("turn" : Str) == ("sign" : Str)) = false by decide +kernel))
@[simp] theorem kw_turn_cross : eqD (.str "turn") (.str "cross") = some (.bool false) := (eqS ok_w_turn ok_w_cross).trans (congrArg (fun z => some (PyData.bool z)) (show (("turn" : Str) == ("cross" : Str)) = false by decide +kernel))
@[simp] theorem kw_turn_look : eqD (.str "turn") (.str "look") = some (.bool false) := (eqS ok_w_turn ok_w_look).trans (congrArg (fun z => some (PyData.bool z)) (show (("turn" : Str) == ("look" : Str)) = false by decide +kernel))
@[simp] theorem kw_turn_where : eqD (.str "turn") (.str "where") = some (.bool false) := (eqS ok_w_turn ok_w_where).trans (congrArg (fun z => some (PyData.bool z)) (show (("turn" : Str) == ("where" : Str)) = false by decide +kernel))
@[simp] theorem kw_flip_swing : eqD (.str "flip") (.str "swing") = some (.bool false) := (eqS ok_w_flip ok_w_swing).trans (congrArg (fun z => some (PyData.bool z)) (show (("flip" : Str) == ("swing" : Str)) = false by decide +kernel))
@[simp] theorem kw_flip_turn : eqD (.str "flip") (.str "turn") = some (.bool false) := (eqS ok_w_flip ok_w_turn).trans (congrArg (fun z => some (PyData.bool z)) (show (("flip" : Str) == ("turn" : Str)) = false by decide +kernel))
@[simp] theorem kw_flip_flip : eqD (.str "flip") (.str "flip") = some (.bool true) := (eqS ok_w_flip ok_w_flip).trans (congrArg (fun z => some (PyData.bool z)) (show (("flip" : Str) == ("flip" : Str)) = true by decide +kernel))
@[simp] theorem kw_flip_tie : eqD (.str "flip") (.str "tie") = some (.bool false) := (eqS ok_w_flip ok_w_tie).trans (congrArg (fun z => some (PyData.bool z)) (show (("flip" : Str) == ("tie" : Str)) = false by decide +kernel))
@[simp] theorem kw_flip_sign : eqD (.str "flip") (.str "sign") = some (.bool false) := (eqS ok_w_flip ok_w_sign).trans (congrArg (fun z => some (PyData.bool z)) (show (("flip" : Str) == ("sign" : Str)) = false by decide +kernel))
@[simp] theorem kw_flip_cross : eqD (.str "flip") (.str "cross") = some (.bool false) := (eqS ok_w_flip ok_w_cross).trans (congrArg (fun z => some (PyData.bool z)) (show (("flip" : Str) == ("cross" : Str)) = false by decide +kernel))
@[simp] theorem kw_flip_look : eqD (.str "flip") (.str "look") = some (.bool false) := (eqS ok_w_flip ok_w_look).trans (congrArg (fun z => some (PyData.bool z)) (show (("flip" : Str) == ("look" : Str)) = false by decide +kernel))
@[simp] theorem kw_flip_where : eqD (.str "flip") (.str "where") = some (.bool false) := (eqS ok_w_flip ok_w_where).trans (congrArg (fun z => some (PyData.bool z)) (show (("flip" : Str) == ("where" : Str)) = false by decide +kernel))
@[simp] theorem kw_tie_swing : eqD (.str "tie") (.str "swing") = some (.bool false) := (eqS ok_w_tie ok_w_swing).trans (congrArg (fun z => some (PyData.bool z)) (show (("tie" : Str) == ("swing" : Str)) = false by decide +kernel))
@[simp] theorem kw_tie_turn : eqD (.str "tie") (.str "turn") = some (.bool false) := (eqS ok_w_tie ok_w_turn).trans (congrArg (fun z => some (PyData.bool z)) (show (("tie" : Str) == ("turn" : Str)) = false by decide +kernel))
@[simp] theorem kw_tie_flip : eqD (.str "tie") (.str "flip") = some (.bool false) := (eqS ok_w_tie ok_w_flip).trans (congrArg (fun z => some (PyData.bool z)) (show (("tie" : Str) == ("flip" : Str)) = false by decide +kernel))
@[simp] theorem kw_tie_tie : eqD (.str "tie") (.str "tie") = some (.bool true) := (eqS ok_w_tie ok_w_tie).trans (congrArg (fun z => some (PyData.bool z)) (show (("tie" : Str) == ("tie" : Str)) = true by decide +kernel))
@[simp] theorem kw_tie_sign : eqD (.str "tie") (.str "sign") = some (.bool false) := (eqS ok_w_tie ok_w_sign).trans (congrArg (fun z => some (PyData.bool z)) (show (("tie" : Str) == ("sign" : Str)) = false by decide +kernel))
@[simp] theorem kw_tie_cross : eqD (.str "tie") (.str "cross") = some (.bool false) := (eqS ok_w_tie ok_w_cross).trans (congrArg (fun z => some (PyData.bool z)) (show (("tie" : Str) == ("cross" : Str)) = false by decide +kernel))
@[simp] theorem kw_tie_look : eqD (.str "tie") (.str "look") = some (.bool false) := (eqS ok_w_tie ok_w_look).trans (congrArg (fun z => some (PyData.bool z)) (show (("tie" : Str) == ("look" : Str)) = false by decide +kernel))
@[simp] theorem kw_tie_where : eqD (.str "tie") (.str "where") = some (.bool false) := (eqS ok_w_tie ok_w_where).trans (congrArg (fun z => some (PyData.bool z)) (show (("tie" : Str) == ("where" : Str)) = false by decide +kernel))
@[simp] theorem kw_sign_swing : eqD (.str "sign") (.str "swing") = some (.bool false) := (eqS ok_w_sign ok_w_swing).trans (congrArg (fun z => some (PyData.bool z)) (show (("sign" : Str) == ("swing" : Str)) = false by decide +kernel))
@[simp] theorem kw_sign_turn : eqD (.str "sign") (.str "turn") = some (.bool false) := (eqS ok_w_sign ok_w_turn).trans (congrArg (fun z => some (PyData.bool z)) (show (("sign" : Str) == ("turn" : Str)) = false by decide +kernel))
@[simp] theorem kw_sign_flip : eqD (.str "sign") (.str "flip") = some (.bool false) := (eqS ok_w_sign ok_w_flip).trans (congrArg (fun z => some (PyData.bool z)) (show (("sign" : Str) == ("flip" : Str)) = false by decide +kernel))
@[simp] theorem kw_sign_tie : eqD (.str "sign") (.str "tie") = some (.bool false) := (eqS ok_w_sign ok_w_tie).trans (congrArg (fun z => some (PyData.bool z)) (show (("sign" : Str) == ("tie" : Str)) = false by decide +kernel))
@[simp] theorem kw_sign_sign : eqD (.str "sign") (.str "sign") = some (.bool true) := (eqS ok_w_sign ok_w_sign).trans (congrArg (fun z => some (PyData.bool z)) (show (("sign" : Str) == ("sign" : Str)) = true by decide +kernel))
@[simp] theorem kw_sign_cross : eqD (.str "sign") (.str "cross") = some (.bool false) := (eqS ok_w_sign ok_w_cross).trans (congrArg (fun z => some (PyData.bool z)) (show (("sign" : Str) == ("cross" : Str)) = false by decide +kernel))
@[simp] theorem kw_sign_look : eqD (.str "sign") (.str "look") = some (.bool false) := (eqS ok_w_sign ok_w_look).trans (congrArg (fun z => some (PyData.bool z)) (show (("sign" : Str) == ("look" : Str)) = false by decide +kernel))
@[simp] theorem kw_sign_where : eqD (.str "sign") (.str "where") = some (.bool false) := (eqS ok_w_sign ok_w_where).trans (congrArg (fun z => some (PyData.bool z)) (show (("sign" : Str) == ("where" : Str)) = false by decide +kernel))
@[simp] theorem kw_cross_swing : eqD (.str "cross") (.str "swing") = some (.bool false) := (eqS ok_w_cross ok_w_swing).trans (congrArg (fun z => some (PyData.bool z)) (show (("cross" : Str) == ("swing" : Str)) = false by decide +kernel))
@[simp] theorem kw_cross_turn : eqD (.str "cross") (.str "turn") = some (.bool false) := (eqS ok_w_cross ok_w_turn).trans (congrArg (fun z => some (PyData.bool z)) (show (("cross" : Str) == ("turn" : Str)) = false by decide +kernel))
@[simp] theorem kw_cross_flip : eqD (.str "cross") (.str "flip") = some (.bool false) := (eqS ok_w_cross ok_w_flip).trans (congrArg (fun z => some (PyData.bool z)) (show (("cross" : Str) == ("flip" : Str)) = false by decide +kernel))
@[simp] theorem kw_cross_tie : eqD (.str "cross") (.str "tie") = some (.bool false) := (eqS ok_w_cross ok_w_tie).trans (congrArg (fun z => some (PyData.bool z)) (show (("cross" : Str) == ("tie" : Str)) = false by decide +kernel))
@[simp] theorem kw_cross_sign : eqD (.str "cross") (.str "sign") = some (.bool false) := (eqS ok_w_cross ok_w_sign).trans (congrArg (fun z => some (PyData.bool z)) (show (("cross" : Str) == ("sign" : Str)) = false by decide +kernel))
@[simp] theorem kw_cross_cross : eqD (.str "cross") (.str "cross") = some (.bool true) := (eqS ok_w_cross ok_w_cross).trans (congrArg (fun z => some (PyData.bool z)) (show (("cross" : Str) == ("cross" : Str)) = true by decide +kernel))
@[simp] theorem kw_cross_look : eqD (.str "cross") (.str "look") = some (.bool false) := (eqS ok_w_cross ok_w_look).trans (congrArg (fun z => some (PyData.bool z)) (show (("cross" : Str) == ("look" : Str)) = false by decide +kernel))
@[simp] theorem kw_cross_where : eqD (.str "cross") (.str "where") = some (.bool false) := (eqS ok_w_cross ok_w_where).trans (congrArg (fun z => some (PyData.bool z)) (show (("cross" : Str) == ("where" : Str)) = false by decide +kernel))
@[simp] theorem kw_look_swing : eqD (.str "look") (.str "swing") = some (.bool false) := (eqS ok_w_look ok_w_swing).trans (congrArg (fun z => some (PyData.bool z)) (show (("look" : Str) == ("swing" : Str)) = false by decide +kernel))
@[simp] theorem kw_look_turn : eqD (.str "look") (.str "turn") = some (.bool false) := (eqS ok_w_look ok_w_turn).trans (congrArg (fun z => some (PyData.bool z)) (show (("look" : Str) == ("turn" : Str)) = false by decide +kernel))
@[simp] theorem kw_look_flip : eqD (.str "look") (.str "flip") = some (.bool false) := (eqS ok_w_look ok_w_flip).trans (congrArg (fun z => some (PyData.bool z)) (show (("look" : Str) == ("flip" : Str)) = false by decide +kernel))
@[simp] theorem kw_look_tie : eqD (.str "look") (.str "tie") = some (.bool false) := (eqS ok_w_look ok_w_tie).trans (congrArg (fun z => some (PyData.bool z)) (show (("look" : Str) == ("tie" : Str)) = false by decide +kernel))
@[simp] theorem kw_look_sign : eqD (.str "look") (.str "sign") = some (.bool false) := (eqS ok_w_look ok_w_sign).trans (congrArg (fun z => some (PyData.bool z)) (show (("look" : Str) == ("sign" : Str)) = false by decide +kernel))
@[simp] theorem kw_look_cross : eqD (.str "look") (.str "cross") = some (.bool false) := (eqS ok_w_look ok_w_cross).trans (congrArg (fun z => some (PyData.bool z)) (show (("look" : Str) == ("cross" : Str)) = false by decide +kernel))
@[simp] theorem kw_look_look : eqD (.str "look") (.str "look") = some (.bool true) := (eqS ok_w_look ok_w_look).trans (congrArg (fun z => some (PyData.bool z)) (show (("look" : Str) == ("look" : Str)) = true by decide +kernel))
@[simp] theorem kw_look_where : eqD (.str "look") (.str "where") = some (.bool false) := (eqS ok_w_look ok_w_where).trans (congrArg (fun z => some (PyData.bool z)) (show (("look" : Str) == ("where" : Str)) = false by decide +kernel))
@[simp] theorem kw_where_swing : eqD (.str "where") (.str "swing") = some (.bool false) := (eqS ok_w_where ok_w_swing).trans (congrArg (fun z => some (PyData.bool z)) (show (("where" : Str) == ("swing" : Str)) = false by decide +kernel))
@[simp] theorem kw_where_turn : eqD (.str "where") (.str "turn") = some (.bool false) := (eqS ok_w_where ok_w_turn).trans (congrArg (fun z => some (PyData.bool z)) (show (("where" : Str) == ("turn" : Str)) = false by decide +kernel))
@[simp] theorem kw_where_flip : eqD (.str "where") (.str "flip") = some (.bool false) := (eqS ok_w_where ok_w_flip).trans (congrArg (fun z => some (PyData.bool z)) (show (("where" : Str) == ("flip" : Str)) = false by decide +kernel))
@[simp] theorem kw_where_tie : eqD (.str "where") (.str "tie") = some (.bool false) := (eqS ok_w_where ok_w_tie).trans (congrArg (fun z => some (PyData.bool z)) (show (("where" : Str) == ("tie" : Str)) = false by decide +kernel))
@[simp] theorem kw_where_sign : eqD (.str "where") (.str "sign") = some (.bool false) := (eqS ok_w_where ok_w_sign).trans (congrArg (fun z => some (PyData.bool z)) (show (("where" : Str) == ("sign" : Str)) = false by decide +kernel))
@[simp] theorem kw_where_cross : eqD (.str "where") (.str "cross") = some (.bool false) := (eqS ok_w_where ok_w_cross).trans (congrArg (fun z => some (PyData.bool z)) (show (("where" : Str) == ("cross" : Str)) = false by decide +kernel))
@[simp] theorem kw_where_look : eqD (.str "where") (.str "look") = some (.bool false) := (eqS ok_w_where ok_w_look).trans (congrArg (fun z => some (PyData.bool z)) (show (("where" : Str) == ("look" : Str)) = false by decide +kernel))
@[simp] theorem kw_where_where : eqD (.str "where") (.str "where") = some (.bool true) := (eqS ok_w_where ok_w_where).trans (congrArg (fun z => some (PyData.bool z)) (show (("where" : Str) == ("where" : Str)) = true by decide +kernel))

@[simp] theorem inp_swing : inD false (.str "swing") (.tuple [.str "swing", .str "turn", .str "flip", .str "tie", .str "sign", .str "cross"]) = some (.bool true) := by rfl
@[simp] theorem int_swing : inD false (.str "swing") (.tuple [.str "tie", .str "sign", .str "cross"]) = some (.bool false) := by rfl
@[simp] theorem inp_turn : inD false (.str "turn") (.tuple [.str "swing", .str "turn", .str "flip", .str "tie", .str "sign", .str "cross"]) = some (.bool true) := by rfl
@[simp] theorem int_turn : inD false (.str "turn") (.tuple [.str "tie", .str "sign", .str "cross"]) = some (.bool false) := by rfl
@[simp] theorem inp_flip : inD false (.str "flip") (.tuple [.str "swing", .str "turn", .str "flip", .str "tie", .str "sign", .str "cross"]) = some (.bool true) := by rfl
@[simp] theorem int_flip : inD false (.str "flip") (.tuple [.str "tie", .str "sign", .str "cross"]) = some (.bool false) := by rfl
@[simp] theorem inp_tie : inD false (.str "tie") (.tuple [.str "swing", .str "turn", .str "flip", .str "tie", .str "sign", .str "cross"]) = some (.bool true) := by rfl
@[simp] theorem int_tie : inD false (.str "tie") (.tuple [.str "tie", .str "sign", .str "cross"]) = some (.bool true) := by rfl
@[simp] theorem inp_sign : inD false (.str "sign") (.tuple [.str "swing", .str "turn", .str "flip", .str "tie", .str "sign", .str "cross"]) = some (.bool true) := by rfl
@[simp] theorem int_sign : inD false (.str "sign") (.tuple [.str "tie", .str "sign", .str "cross"]) = some (.bool true) := by rfl
@[simp] theorem inp_cross : inD false (.str "cross") (.tuple [.str "swing", .str "turn", .str "flip", .str "tie", .str "sign", .str "cross"]) = some (.bool true) := by rfl
@[simp] theorem int_cross : inD false (.str "cross") (.tuple [.str "tie", .str "sign", .str "cross"]) = some (.bool true) := by rfl
@[simp] theorem inp_look : inD false (.str "look") (.tuple [.str "swing", .str "turn", .str "flip", .str "tie", .str "sign", .str "cross"]) = some (.bool false) := by rfl
@[simp] theorem int_look : inD false (.str "look") (.tuple [.str "tie", .str "sign", .str "cross"]) = some (.bool false) := by rfl
@[simp] theorem inp_where : inD false (.str "where") (.tuple [.str "swing", .str "turn", .str "flip", .str "tie", .str "sign", .str "cross"]) = some (.bool false) := by rfl
@[simp] theorem int_where : inD false (.str "where") (.tuple [.str "tie", .str "sign", .str "cross"]) = some (.bool false) := by rfl

@[simp] theorem ifK_beq (u w : Sf) (δ : Dv) (a b : Int) : ifK u w δ (a == b) = if a = b then u δ else w δ := by
  by_cases h : a = b
  · subst h; simp
  · have : (a == b) = false := by simpa using h
    rw [this, if_neg h]; rfl
theorem mapO_map {α : Type} {f : D → Option D} {h k : α → D} : ∀ (xs : List α), (∀ x ∈ xs, f (h x) = some (k x)) → mapO f (xs.map h) = some (xs.map k)
  | [], _ => rfl
  | x :: xs, H => by
    show ((f (h x)).bind fun y => _) = _
    rw [H x List.mem_cons_self]
    show ((mapO f (xs.map h)).bind fun ys => _) = _
    rw [mapO_map xs fun y hy => H y (List.mem_cons_of_mem _ hy)]
    rfl
theorem filO_map {α : Type} {t : D → Option Bool} {f : D → Option D} {h k : α → D} {b : α → Bool} : ∀ (xs : List α), (∀ x ∈ xs, t (h x) = some (b x)) → (∀ x ∈ xs, b x = true → f (h x) = some (k x)) → filO t f (xs.map h) = some ((xs.filter b).map k)
  | [], _, _ => rfl
  | x :: xs, H, G => by
    have ih := filO_map (k := k) xs (fun y hy => H y (List.mem_cons_of_mem _ hy)) (fun y hy => G y (List.mem_cons_of_mem _ hy))
    show ((t (h x)).bind fun c => _) = _
    rw [H x List.mem_cons_self, Option.bind_some]
    cases e : b x with
    | false => simp [e, ih]
    | true => simp [e, ih, G x List.mem_cons_self e]
theorem comp_map {α : Type} {fi : Dv → Option (List D)} {caps : List (Nat × Str)} {fe : Dv → Option D} {δ : Dv} {h k : α → D} {xs : List α} (e : fi δ = some (xs.map h)) (hl : xs.length ≤ 16777216) (H : ∀ x ∈ xs, fe (.fz (h x) :: capS δ caps) = some (k x)) : oComp fi caps bv1 fe δ = some (.list (xs.map k)) := by
  unfold oComp
  rw [e, Option.bind_some, if_pos (by rw [List.length_map]; exact hl), mapO_map xs (k := k) fun x hx => by
    show fe _ = _
    exact H x hx]
  rfl
theorem compI_map {α : Type} {fi : Dv → Option (List D)} {caps : List (Nat × Str)} {ft : Dv → Option Bool} {fe : Dv → Option D} {δ : Dv} {h k : α → D} {b : α → Bool} {xs : List α} (e : fi δ = some (xs.map h)) (hl : xs.length ≤ 16777216) (H : ∀ x ∈ xs, ft (.fz (h x) :: capS δ caps) = some (b x)) (G : ∀ x ∈ xs, b x = true → fe (.fz (h x) :: capS δ caps) = some (k x)) : oCompI fi caps bv1 ft fe δ = some (.list ((xs.filter b).map k)) := by
  unfold oCompI
  rw [e, Option.bind_some, if_pos (by rw [List.length_map]; exact hl), filO_map xs (b := b) (k := k) (fun x hx => by
    show ft _ = _
    exact H x hx) (fun x hx hb => by
    show fe _ = _
    exact G x hx hb)]
  rfl

@[simp] theorem ifK_bne (u w : Sf) (δ : Dv) (a b : Int) : ifK u w δ (!(a == b)) = if a = b then w δ else u δ := by
  by_cases h : a = b
  · subst h; simp
  · have : (a == b) = false := by simpa using h
    rw [this, if_neg h]; rfl
@[simp] theorem lstD6' (a b c d e f : D) : lstD [a, b, c, d, e, f] = some (.list [a, b, c, d, e, f]) := lstD_ok (by simp)

open MA (Nu Row wt bit flp from_ doneAt)
def numD (u : Nu) : D := tup5 u.1 u.2
def stD (n : Nat) (f : Nat → Nu) : D := .tuple ((List.range (2 ^ n)).map fun p => numD (f p))
def rowD : Row → D
  | .swing j => .tuple [.str "swing", .int j]
  | .turn j e => .tuple [.str "turn", .int j, .int e]
  | .flip j => .tuple [.str "flip", .int j]
  | .tie i j => .tuple [.str "tie", .int i, .int j]
  | .sign i j => .tuple [.str "sign", .int i, .int j]
  | .cross i j => .tuple [.str "cross", .int i, .int j]
theorem st_at {n : Nat} {f : Nat → Nu} {i : Int} (p : Nat) (hi : i = p) (hp : p < 2 ^ n) : ixD (stD n f) (.int i) = some (numD (f p)) := by
  show atI _ _ = _
  exact atI_of (j := p) hi (by simp [hp])
theorem len_st (n : Nat) (f : Nat → Nu) : lenD [stD n f] = some (.int ((2 ^ n : Nat) : Int)) := by
  show some (PyData.int (((List.range (2 ^ n)).map fun p => numD (f p)).length : Nat)) = _
  rw [List.length_map, List.length_range]
theorem loop_rng {b : Sf} {k : Nat} (I : Nat → Dv → Prop) (n : Nat) (h : ∀ i, i < n → ∀ δ, I i δ → ∃ δ2, b (δ.set k (.fz (.int i))) = some (.nx, δ2) ∧ I (i + 1) δ2) : ∀ δ, I 0 δ → ∃ δ', loop (gN k) b (rngL 0 n) δ = some (.nx, δ') ∧ I n δ' := by
  have go : ∀ (m i : Nat), i + m = n → ∀ δ, I i δ → ∃ δ', loop (gN k) b ((List.range' i m).map fun (k : Nat) => PyData.int (0 + (k : Int))) δ = some (.nx, δ') ∧ I n δ' := by
    intro m
    induction m with
    | zero => intro i e δ h; exact ⟨δ, rfl, by rw [← e]; exact h⟩
    | succ m ih =>
      intro i e δ hi
      obtain ⟨δ2, e2, h2⟩ := h i (by omega) δ hi
      obtain ⟨δ', e3, h3⟩ := ih (i + 1) (by omega) δ2 h2
      refine ⟨δ', ?_, h3⟩
      rw [← e3, List.range'_succ, List.map_cons]
      exact loop_step (δ1 := δ.set k (.fz (.int i))) (by simp) e2
  intro δ h0
  have := go n 0 (by omega) δ h0
  rw [← List.range_eq_range'] at this
  exact this
theorem num2 (x : MA.Q4) (k : Nat) : ∃ c : Nat, (MA.num x k).2 = c ∧ c ≤ k := by
  obtain ⟨c, e, h, _⟩ := MA.num_is x k
  exact ⟨c, e, h⟩
theorem plusN_le (u v : Nu) : (MA.plusN u v).2 ≤ max u.2 v.2 := by
  obtain ⟨c, e2, h⟩ := num2 (MA.Q4.add (MA.Q4.rtn (max (u.2 : Int) v.2 - u.2).toNat u.1) (MA.Q4.rtn (max (u.2 : Int) v.2 - v.2).toNat v.1)) (max u.2 v.2)
  have e3 : ((max u.2 v.2 : Nat) : Int) = max (u.2 : Int) v.2 := by omega
  rw [e3] at e2
  show (MA.plusQ u.1 u.2 v.1 v.2).2.toNat ≤ _
  unfold MA.plusQ
  rw [e2]; exact h
theorem rng_pow (n : Nat) (hn : n ≤ 6) : rng1D [.int ((2 ^ n : Nat) : Int)] = some ((List.range (2 ^ n)).map fun k : Nat => PyData.int (0 + (k : Int))) := by
  have sq : (2 ^ n : Nat) ≤ 64 := (Nat.pow_le_pow_right (by decide) hn : 2 ^ n ≤ 2 ^ 6)
  generalize (2 ^ n : Nat) = N at sq ⊢
  exact rng1D_int (j := (N : Int)) (by omega) (by omega)

theorem comp_r0 {fi : Dv → Option (List D)} {caps : List (Nat × Str)} {fe : Dv → Option D} {δ : Dv} {N : Nat} {y : Nat → D} (e : fi δ = some ((List.range N).map fun k : Nat => PyData.int (0 + (k : Int)))) (hl : N ≤ 16777216) (H : ∀ p : Nat, p < N → fe (.fz (.int p) :: capS δ caps) = some (y p)) : oComp fi caps bv1 fe δ = some (.list ((List.range N).map y)) := by
  refine comp_map e (by rw [List.length_range]; exact hl) fun p hp => ?_
  rw [Int.zero_add]
  exact H p (List.mem_range.mp hp)

/-- bounds of a state -/
def Bd (k p : Nat) (f : Nat → Nu) : Prop := ∀ x, (f x).2 ≤ k ∧ MA.Q4.Le (2 ^ p) (f x).1
theorem half_le (u : Nu) : (MA.halfN u).2 ≤ u.2 + 1 := by
  obtain ⟨c, e, h⟩ := num2 u.1 (u.2 + 1)
  show (MA.num u.1 ((u.2 + 1 : Nat) : Int)).2.toNat ≤ _
  rw [e]; exact h
theorem half_Le {u : Nu} {M : Nat} (h : MA.Q4.Le M u.1) : MA.Q4.Le M (MA.halfN u).1 := MA.num_le _ _ (by omega) _ h
theorem Bd.done {k p : Nat} {f : Nat → Nu} (h : Bd k p f) (n : Nat) (r : Row) : Bd (k + 1) (p + k + 1) (doneAt n f r) := fun x => by
  have mono : ∀ y, (f y).2 ≤ k + 1 ∧ MA.Q4.Le (2 ^ (p + k + 1)) (f y).1 := fun y => ⟨by have := (h y).1; omega, (h y).2.mono (Nat.pow_le_pow_right (by decide) (by omega))⟩
  have pl : ∀ (u v : Nu), u.2 ≤ k → v.2 ≤ k → MA.Q4.Le (2 ^ p) u.1 → MA.Q4.Le (2 ^ p) v.1 → (MA.halfN (MA.plusN u v)).2 ≤ k + 1 ∧ MA.Q4.Le (2 ^ (p + k + 1)) (MA.halfN (MA.plusN u v)).1 := fun u v h1 h2 h3 h4 => by
    refine ⟨?_, half_Le ?_⟩
    · have := half_le (MA.plusN u v)
      have := plusN_le u v
      omega
    · exact MA.plusQ_le h3 h4 h1 h2
  cases r with
  | swing j =>
    show (if bit (wt n j) x = 0 then _ else _ : Nu).2 ≤ _ ∧ MA.Q4.Le _ (if bit (wt n j) x = 0 then _ else _ : Nu).1
    split
    · exact pl _ _ (h _).1 (h _).1 (h _).2 (h _).2
    · exact pl _ _ (h _).1 (h _).1 (h _).2 (MA.tnn_le _ (h _).2)
  | turn j e => exact ⟨(mono x).1, MA.tnn_le _ (mono x).2⟩
  | sign i j => exact ⟨(mono x).1, MA.tnn_le _ (mono x).2⟩
  | flip j => exact mono _
  | tie i j => exact mono _
  | cross i j => exact mono _
theorem Bd.mono {k p k' p' : Nat} {f : Nat → Nu} (h : Bd k p f) (h1 : k ≤ k') (h2 : p ≤ p') : Bd k' p' f := fun x => ⟨Nat.le_trans (h x).1 h1, (h x).2.mono (Nat.pow_le_pow_right (by decide) h2)⟩

/-! ### the landed done -/
theorem tab1 : ((List.range 6).all fun k => (List.range 64).all fun p => (p &&& 2 ^ k == 2 ^ k * bit (2 ^ k) p) && (p ^^^ 2 ^ k == flp (2 ^ k) p)) = true := by decide +kernel
theorem tab2 : ((List.range 6).all fun k => (List.range 6).all fun l => (List.range 64).all fun p => (k == l) || ((2 ^ k ||| 2 ^ l == 2 ^ k + 2 ^ l) && (p &&& (2 ^ k + 2 ^ l) == 2 ^ k * bit (2 ^ k) p + 2 ^ l * bit (2 ^ l) p) && (p ^^^ (2 ^ k + 2 ^ l) == flp (2 ^ l) (flp (2 ^ k) p)))) = true := by decide +kernel
section
variable {n : Nat} (hn : n ≤ 6)
include hn
theorem pow64 : 2 ^ n ≤ 64 := (Nat.pow_le_pow_right (by decide) hn : 2 ^ n ≤ 2 ^ 6)
theorem and_wt {j p : Nat} (hj : j < n) (hp : p < 2 ^ n) : p &&& wt n j = wt n j * bit (wt n j) p ∧ p ^^^ wt n j = flp (wt n j) p := by
  have h := tab1
  rw [List.all_eq_true] at h
  have h := h (n - 1 - j) (List.mem_range.mpr (by omega))
  rw [List.all_eq_true] at h
  have h := h p (List.mem_range.mpr (Nat.lt_of_lt_of_le hp (pow64 hn)))
  rw [Bool.and_eq_true, beq_iff_eq, beq_iff_eq] at h
  exact h
theorem and_wt2 {i j p : Nat} (hi : i < n) (hj : j < n) (hij : i ≠ j) (hp : p < 2 ^ n) : wt n i ||| wt n j = wt n i + wt n j ∧ p &&& (wt n i + wt n j) = wt n i * bit (wt n i) p + wt n j * bit (wt n j) p ∧ p ^^^ (wt n i + wt n j) = flp (wt n j) (flp (wt n i) p) := by
  have h := tab2
  rw [List.all_eq_true] at h
  have h := h (n - 1 - i) (List.mem_range.mpr (by omega))
  rw [List.all_eq_true] at h
  have h := h (n - 1 - j) (List.mem_range.mpr (by omega))
  rw [List.all_eq_true] at h
  have h := h p (List.mem_range.mpr (Nat.lt_of_lt_of_le hp (pow64 hn)))
  rw [Bool.or_eq_true, Bool.and_eq_true, Bool.and_eq_true, beq_iff_eq, beq_iff_eq, beq_iff_eq, beq_iff_eq] at h
  rcases h with h | h
  · exact absurd h (by omega)
  · exact ⟨h.1.1, h.1.2, h.2⟩
theorem worth_eq {j : Nat} (hj : j < n) : g_worth [.int n, .int j] = some (.int (wt n j : Nat)) := by
  have hb : Builtin.Int.intBits 1 = 1 := by decide +kernel
  have e := shlD_int (i := 1) (j := (n : Int) - 1 - (j : Int)) (by omega) (by omega)
  have e2 : (1 : Int) * 2 ^ ((n : Int) - 1 - (j : Int)).toNat = ((wt n j : Nat) : Int) := by
    unfold MA.wt
    rw [show ((n : Int) - 1 - (j : Int)).toNat = n - 1 - j by omega]
    push_cast
    omega
  rw [e2] at e
  simp [g_worth, runB, b_worth, startD, e]
theorem wires_st (f : Nat → Nu) : bitsD (.int ((2 ^ n : Nat) : Int)) = some (.int ((n : Int) + 1)) := by
  have e : ((2 ^ n : Nat) : Int) = 2 ^ n := by push_cast; rfl
  have := MA.bits_pow n
  rw [bitsD_int, e, this]
  rfl
/-! numbers -/
theorem plus_n (u v : Nu) (hu : MA.Q4.Le (2 ^ 100000) u.1) (hv : MA.Q4.Le (2 ^ 100000) v.1) (hc : u.2 ≤ 50000) (hd : v.2 ≤ 50000) : g_plus [numD u, numD v] = some (numD (MA.plusN u v)) := by
  have e := plus_eq u.1 u.2 v.1 v.2 hu hv (by omega) (by omega) (by omega) (by omega)
  unfold numD MA.plusN
  rw [e]
  obtain ⟨c, e2, h⟩ := num2 (MA.Q4.add (MA.Q4.rtn (max (u.2 : Int) v.2 - u.2).toNat u.1) (MA.Q4.rtn (max (u.2 : Int) v.2 - v.2).toNat v.1)) (max u.2 v.2)
  have e3 : ((max u.2 v.2 : Nat) : Int) = max (u.2 : Int) v.2 := by omega
  rw [e3] at e2
  show some (tup5 _ (MA.plusQ u.1 u.2 v.1 v.2).2) = some (tup5 _ ((MA.plusQ u.1 u.2 v.1 v.2).2.toNat : Int))
  unfold MA.plusQ
  rw [e2]; rfl
theorem halved_n (u : Nu) : g_halved [numD u] = some (numD (MA.halfN u)) := by
  have e := halved_eq u.1 u.2 (by omega)
  obtain ⟨c, e2, h⟩ := num2 u.1 (u.2 + 1)
  have e3 : ((u.2 + 1 : Nat) : Int) = (u.2 : Int) + 1 := by omega
  unfold numD MA.halfN
  rw [e, e3]
  rw [e3] at e2
  rw [e2]; rfl
theorem against_n (u : Nu) : g_against [numD u] = some (numD (MA.turnN 4 u)) := by
  have e := against_eq u.1 u.2
  unfold numD MA.turnN
  rw [e]
  have : MA.tnn (4 % 8) u.1 = MA.Q4.neg u.1 := by
    show MA.Q4.tn (MA.Q4.tn (MA.Q4.tn (MA.Q4.tn u.1))) = _
    unfold MA.Q4.tn MA.Q4.neg
    rfl
  rw [this]
theorem turned_n (u : Nu) (e : Nat) : g_turned [numD u, .int e] = some (numD (MA.turnN e u)) := by
  have h := turned_eq u.1 u.2 e
  unfold numD MA.turnN
  rw [h, show ((e : Int) % 8).toNat = e % 8 by omega]
end
section
variable {n : Nat} (hn : n ≤ 6) (f : Nat → Nu) (hf : ∀ p, (f p).2 ≤ 40000) (hL : ∀ p, MA.Q4.Le (2 ^ 100000) (f p).1)
include hn
theorem swung_x0 (X x y a b : D) (p w q : Int) (ds : List D) (hs : ds.length < sizeLine) (h1 : Builtin.bitAnd p w = 0) (h2 : Builtin.bitXor p w = q) (a0 : ixD X (.int p) = some x) (a1 : ixD X (.int q) = some y) (e1 : g_plus [x, y] = some a) (e2 : g_halved [a] = some b) :
    l1_swung [.fz X, .fz (.int w), .ow ds, .fz (.int p)] = some (.nx, [.fz X, .fz (.int w), .ow (ds ++ [b]), .fz (.int p)]) := by
  simp [-sSeq, -sIf, sSeq_k, sIf_k, l1_swung, h1, h2, a0, a1, e1, e2, hs]
theorem swung_x1 (X x y z a b : D) (p w q m : Int) (ds : List D) (hs : ds.length < sizeLine) (h1 : Builtin.bitAnd p w = m) (hm : m ≠ 0) (h2 : Builtin.bitXor p w = q) (a0 : ixD X (.int p) = some x) (a1 : ixD X (.int q) = some y) (e0 : g_against [x] = some z) (e1 : g_plus [y, z] = some a) (e2 : g_halved [a] = some b) :
    l1_swung [.fz X, .fz (.int w), .ow ds, .fz (.int p)] = some (.nx, [.fz X, .fz (.int w), .ow (ds ++ [b]), .fz (.int p)]) := by
  have hm' : (m == 0) = false := by simpa using hm
  simp [-sSeq, -sIf, sSeq_k, sIf_k, l1_swung, h1, hm', h2, a0, a1, e0, e1, e2, hs]
include hf hL
theorem swung_at {j : Nat} (hj : j < n) (p : Nat) (hp : p < 2 ^ n) (ds : List D) (hl : ds.length < 1000) :
    l1_swung [.fz (stD n f), .fz (.int (wt n j : Nat)), .ow ds, .fz (.int p)] = some (.nx, [.fz (stD n f), .fz (.int (wt n j : Nat)), .ow (ds ++ [numD (doneAt n f (.swing j) p)]), .fz (.int p)]) := by
  have hs : ds.length < sizeLine := by show _ < 16777216; omega
  have ha := and_wt hn hj hp
  have b1 := MA.band p (wt n j)
  have b2 := MA.bxor p (wt n j)
  rw [ha.1] at b1
  rw [ha.2] at b2
  have hw := MA.wt_pos n j
  have q := MA.flp_lt hj hp
  have a0 : ixD (stD n f) (.int (p : Int)) = some (numD (f p)) := st_at p rfl hp
  have a1 : ixD (stD n f) (.int ((flp (wt n j) p : Nat) : Int)) = some (numD (f (flp (wt n j) p))) := st_at _ rfl q
  by_cases h : bit (wt n j) p = 0
  · rw [h, Nat.mul_zero] at b1
    have e : doneAt n f (.swing j) p = MA.halfN (MA.plusN (f p) (f (p + wt n j))) := if_pos h
    have ef : flp (wt n j) p = p + wt n j := if_pos h
    rw [ef] at a1 b2
    rw [e]
    exact swung_x0 hn _ _ _ _ _ _ _ _ _ hs b1 b2 a0 a1 (plus_n hn _ _ (hL _) (hL _) (by have := hf p; omega) (by have := hf (p + wt n j); omega)) (halved_n hn _)
  · have h1 : bit (wt n j) p = 1 := by have := MA.bit_lt (wt n j) p; omega
    rw [h1, Nat.mul_one] at b1
    have e : doneAt n f (.swing j) p = MA.halfN (MA.plusN (f (p - wt n j)) (MA.turnN 4 (f p))) := if_neg h
    have ef : flp (wt n j) p = p - wt n j := if_neg h
    rw [ef] at a1 b2
    rw [e]
    exact swung_x1 hn _ _ _ _ _ _ _ _ _ _ _ hs b1 (by omega) b2 a0 a1 (against_n hn _) (plus_n hn _ _ (hL _) (MA.tnn_le _ (hL p)) (by have := hf (p - wt n j); omega) (by show (f p).2 ≤ _; have := hf p; omega)) (halved_n hn _)
omit hf hL hn in
theorem swung_y (X Y : D) (w S : Int) (RL L : List D) (y : Sl) (ln : lenD [X] = some (.int S)) (hN : rng1D [.int S] = some RL) (e : loop (gN 3) l1_swung RL [.fz X, .fz (.int w), .ow [], .un] = some (.nx, [.fz X, .fz (.int w), .ow L, y])) (tp : tupleD [.list L] = some Y) : g_swung [X, .int w] = some Y := by
  simp [-sSeq, -sIf, sSeq_k, sIf_k, g_swung, runB, b_swung, startD, ln, hN, e, dFz, tp]
theorem swung_eq {j : Nat} (hj : j < n) : g_swung [stD n f, .int (wt n j : Nat)] = some (stD n (doneAt n f (.swing j))) := by
  have sq := pow64 hn
  have hN : rng1D [.int ((2 ^ n : Nat) : Int)] = some (rngL 0 (2 ^ n)) := rng_pow n hn
  obtain ⟨δ', e, y3, rfl⟩ := loop_rng (b := l1_swung) (k := 3) (fun i δ => ∃ y3, δ = [.fz (stD n f), .fz (.int (wt n j : Nat)), .ow ((List.range i).map fun p => numD (doneAt n f (.swing j) p)), y3]) (2 ^ n) (by
      rintro i hi δ ⟨y3, rfl⟩
      have e := swung_at hn f hf hL hj i hi ((List.range i).map fun p => numD (doneAt n f (.swing j) p)) (by simp; omega)
      refine ⟨[.fz (stD n f), .fz (.int (wt n j : Nat)), .ow ((List.range (i + 1)).map fun p => numD (doneAt n f (.swing j) p)), .fz (.int i)], ?_, _, rfl⟩
      rw [List.range_succ, List.map_append]
      exact e) [.fz (stD n f), .fz (.int (wt n j : Nat)), .ow [], .un] ⟨_, rfl⟩
  have ln := len_st n f
  have tp : tupleD [.list ((List.range (2 ^ n)).map fun p => numD (doneAt n f (.swing j) p))] = some (stD n (doneAt n f (.swing j))) := rfl
  exact swung_y _ _ _ _ _ _ _ ln hN e tp
omit hf hL
omit hn in
theorem comp_r {fi : Dv → Option (List D)} {caps : List (Nat × Str)} {fe : Dv → Option D} {δ : Dv} {N : Nat} {y : Nat → D} (e : fi δ = some ((List.range N).map fun k : Nat => PyData.int (0 + (k : Int)))) (hl : N ≤ 16777216) (H : ∀ p : Nat, p < N → fe (.fz (.int p) :: capS δ caps) = some (y p)) : oComp fi caps bv1 fe δ = some (.list ((List.range N).map y)) := by
  refine comp_map e (by rw [List.length_range]; exact hl) fun p hp => ?_
  rw [Int.zero_add]
  exact H p (List.mem_range.mp hp)
omit hn in
theorem tw_c (X : D) (h e S : Int) (N : Nat) (x y : Nat → D) (ln : lenD [X] = some (.int S)) (hN : rng1D [.int S] = some ((List.range N).map fun k : Nat => PyData.int (0 + (k : Int)))) (hl : N ≤ 16777216) (a : ∀ p : Nat, p < N → ixD X (.int p) = some (x p))
    (t : ∀ p : Nat, p < N → Builtin.bitAnd p h = h → g_turned [x p, .int e] = some (y p)) (u : ∀ p : Nat, p < N → Builtin.bitAnd p h ≠ h → y p = x p) : g_turned_where [X, .int h, .int e] = some (.tuple ((List.range N).map y)) := by
  have c : p1_turned_where [.fz X, .fz (.int h), .fz (.int e)] = some (.list ((List.range N).map y)) := comp_r (by simp [ln, hN]) hl fun p hp => by
    have a0 := a p hp
    by_cases q : Builtin.bitAnd p h = h
    · have t := t p hp q
      simp [capS, a0, q, t]
    · have t := u p hp q
      rw [t]
      simp [capS, a0, q]
  simp [g_turned_where, runB, b_turned_where, startD, c]
omit hn in
theorem fw_c (X : D) (h w S : Int) (N : Nat) (x y : Nat → D) (ln : lenD [X] = some (.int S)) (hN : rng1D [.int S] = some ((List.range N).map fun k : Nat => PyData.int (0 + (k : Int)))) (hl : N ≤ 16777216) (a : ∀ p : Nat, p < N → ixD X (.int p) = some (x p))
    (t : ∀ p : Nat, p < N → Builtin.bitAnd p h = h → ∃ q : Nat, q < N ∧ Builtin.bitXor p w = q ∧ y p = x q) (u : ∀ p : Nat, p < N → Builtin.bitAnd p h ≠ h → y p = x p) : g_flipped_where [X, .int h, .int w] = some (.tuple ((List.range N).map y)) := by
  have c : p1_flipped_where [.fz X, .fz (.int h), .fz (.int w)] = some (.list ((List.range N).map y)) := comp_r (by simp [ln, hN]) hl fun p hp => by
    have a0 := a p hp
    by_cases q : Builtin.bitAnd p h = h
    · obtain ⟨q', hq, e1, e2⟩ := t p hp q
      have a1 := a q' hq
      rw [e2]
      simp [capS, e1, q, a1]
    · have t := u p hp q
      rw [t]
      simp [capS, a0, q]
  simp [g_flipped_where, runB, b_flipped_where, startD, c]
theorem tw_eq (h e : Int) (g : Nat → Nu) (H : ∀ p : Nat, p < 2 ^ n → (Builtin.bitAnd p h = h → g_turned [numD (f p), .int e] = some (numD (g p))) ∧ (Builtin.bitAnd p h ≠ h → g p = f p)) : g_turned_where [stD n f, .int h, .int e] = some (stD n g) :=
  tw_c (stD n f) h e _ (2 ^ n) (fun p => numD (f p)) (fun p => numD (g p)) (len_st n f) (rng_pow n hn) (Nat.le_trans (pow64 hn) (by decide)) (fun p hp => st_at p rfl hp) (fun p hp q => (H p hp).1 q) (fun p hp q => congrArg numD ((H p hp).2 q))
theorem fw_eq (h w : Int) (g : Nat → Nu) (H : ∀ p : Nat, p < 2 ^ n → (Builtin.bitAnd p h = h → ∃ q : Nat, q < 2 ^ n ∧ Builtin.bitXor p w = q ∧ g p = f q) ∧ (Builtin.bitAnd p h ≠ h → g p = f p)) : g_flipped_where [stD n f, .int h, .int w] = some (stD n g) :=
  fw_c (stD n f) h w _ (2 ^ n) (fun p => numD (f p)) (fun p => numD (g p)) (len_st n f) (rng_pow n hn) (Nat.le_trans (pow64 hn) (by decide)) (fun p hp => st_at p rfl hp) (fun p hp q => let ⟨q', h1, h2, h3⟩ := (H p hp).1 q; ⟨q', h1, h2, congrArg numD h3⟩) (fun p hp q => congrArg numD ((H p hp).2 q))
omit hn in
theorem exch_x (p W m q r : Int) (c : Bool) {b : Bool} (h1 : Builtin.bitAnd p W = m) (h2 : Builtin.bitXor p W = q) (h3 : inD false (.int m) (.tuple [.int 0, .int W]) = some (.bool b)) (hb : b = c) (hr : (if c = true then p else q) = r) : g_exchanged [.int p, .int W] = some (.int r) := by
  subst hb
  cases b
  · simp at hr; subst hr; simp [g_exchanged, runB, b_exchanged, startD, h1, h2, h3]
  · simp at hr; subst hr; simp [g_exchanged, runB, b_exchanged, startD, h1, h2, h3]
theorem exch_eq {i j : Nat} (hi : i < n) (hj : j < n) (hij : i ≠ j) {p : Nat} (hp : p < 2 ^ n) : g_exchanged [.int p, .int ((wt n i + wt n j : Nat) : Int)] = some (.int (from_ n (.cross i j) p : Nat)) := by
  have ha := and_wt2 hn hi hj hij hp
  have b1 := MA.band p (wt n i + wt n j)
  have b2 := MA.bxor p (wt n i + wt n j)
  rw [ha.2.1] at b1
  rw [ha.2.2] at b2
  have hwi := MA.wt_pos n i
  have hwj := MA.wt_pos n j
  have l1 := MA.bit_lt (wt n i) p
  have l2 := MA.bit_lt (wt n j) p
  have inT : ∀ a b : Int, inD false (.int a) (.tuple [.int 0, .int b]) = some (.bool (0 == a || b == a)) := fun a b => by
    show some (PyData.bool (PyData.eqv (.int 0) (.int a) || (PyData.eqv (.int b) (.int a) || false))) = _
    rw [Bool.or_false]
    rfl
  have ef : from_ n (.cross i j) p = if bit (wt n i) p = bit (wt n j) p then p else flp (wt n j) (flp (wt n i) p) := rfl
  rw [ef]
  by_cases h : bit (wt n i) p = bit (wt n j) p
  · rw [if_pos h]
    have hb : bit (wt n i) p = 0 ∨ bit (wt n i) p = 1 := by omega
    refine exch_x _ _ _ _ _ true b1 b2 (inT _ _) ?_ rfl
    rcases hb with hb | hb
    · rw [← h, hb]; simp
    · rw [← h, hb]; simp
  · rw [if_neg h]
    refine exch_x _ _ _ _ _ false b1 b2 (inT _ _) ?_ rfl
    have hb : (bit (wt n i) p = 0 ∧ bit (wt n j) p = 1) ∨ (bit (wt n i) p = 1 ∧ bit (wt n j) p = 0) := by omega
    rcases hb with ⟨hb, hc⟩ | ⟨hb, hc⟩
    · rw [hb, hc, Nat.mul_zero, Nat.mul_one, Nat.zero_add, Bool.or_eq_false_iff, beq_eq_false_iff_ne, beq_eq_false_iff_ne]
      omega
    · rw [hb, hc, Nat.mul_zero, Nat.mul_one, Nat.add_zero, Bool.or_eq_false_iff, beq_eq_false_iff_ne, beq_eq_false_iff_ne]
      omega
omit hn in
theorem cr_c (X : D) (S W1 W2 W : Int) (N : Nat) (x y : Nat → D) (R w0 : Sl) (ho : Builtin.bitOr W1 W2 = W) (ln : lenD [X] = some (.int S)) (hN : rng1D [.int S] = some ((List.range N).map fun k : Nat => PyData.int (0 + (k : Int)))) (hl : N ≤ 16777216) (a : ∀ p : Nat, p < N → ixD X (.int p) = some (x p))
    (t : ∀ p : Nat, p < N → ∃ q : Nat, q < N ∧ g_exchanged [.int p, .int W] = some (.int q) ∧ y p = x q) : p1_done [.fz X, R, w0, .fz (.int W1), .fz (.int W2)] = some (.list ((List.range N).map y)) :=
  comp_r (by simp [ln, hN]) hl fun p hp => by
    obtain ⟨q, hq, e1, e2⟩ := t p hp
    have a1 := a q hq
    rw [e2]
    simp [capS, ho, e1, a1]
section
omit hn
variable (X R Y : D) (S N w1 w2 : Int) (i j : Int) (ln : lenD [X] = some (.int S)) (bl : bitsD (.int S) = some (.int (N + 1))) (r1 : ixD R (.int 1) = some (.int i)) (v1 : g_worth [.int N, .int i] = some (.int w1))
include ln bl r1 v1
theorem done_swing_x (r0 : ixD R (.int 0) = some (.str "swing")) (h : g_swung [X, .int w1] = some Y) : g_done [X, R] = some Y := by
  simp [-sSeq, -sIf, sSeq_k, sIf_k, g_done, runB, b_done, startD, ln, bl, r0, r1, v1, h]
theorem done_turn_x (r0 : ixD R (.int 0) = some (.str "turn")) (r2 : ixD R (.int 2) = some (.int j)) (h : g_turned_where [X, .int w1, .int j] = some Y) : g_done [X, R] = some Y := by
  simp [-sSeq, -sIf, sSeq_k, sIf_k, g_done, runB, b_done, startD, ln, bl, r0, r1, r2, v1, h]
theorem done_flip_x (r0 : ixD R (.int 0) = some (.str "flip")) (h : g_flipped_where [X, .int 0, .int w1] = some Y) : g_done [X, R] = some Y := by
  simp [-sSeq, -sIf, sSeq_k, sIf_k, g_done, runB, b_done, startD, ln, bl, r0, r1, v1, h]
variable (r2 : ixD R (.int 2) = some (.int j)) (v2 : g_worth [.int N, .int j] = some (.int w2))
include r2 v2
theorem done_tie_x (r0 : ixD R (.int 0) = some (.str "tie")) (h : g_flipped_where [X, .int w1, .int w2] = some Y) : g_done [X, R] = some Y := by
  simp [-sSeq, -sIf, sSeq_k, sIf_k, g_done, runB, b_done, startD, ln, bl, r0, r1, r2, v1, v2, h]
theorem done_sign_x (W : Int) (ho : Builtin.bitOr w1 w2 = W) (r0 : ixD R (.int 0) = some (.str "sign")) (h : g_turned_where [X, .int W, .int 4] = some Y) : g_done [X, R] = some Y := by
  simp [-sSeq, -sIf, sSeq_k, sIf_k, g_done, runB, b_done, startD, ln, bl, r0, r1, r2, v1, v2, ho, h]
theorem done_cross_x (L : D) (r0 : ixD R (.int 0) = some (.str "cross")) (h : p1_done [.fz X, .fz R, .fz (.int N), .fz (.int w1), .fz (.int w2)] = some L) (t : tupleD [L] = some Y) : g_done [X, R] = some Y := by
  simp [-sSeq, -sIf, sSeq_k, sIf_k, g_done, runB, b_done, startD, ln, bl, r0, r1, r2, v1, v2, h, t]
end
include hf hL
theorem done_eq (r : Row) (hr : r.ok n) : g_done [stD n f, rowD r] = some (stD n (doneAt n f r)) := by
  have ln := len_st n f
  have bl := wires_st hn f
  have sq := pow64 hn
  cases r with
  | swing j => exact done_swing_x _ _ _ _ _ _ _ ln bl rfl (worth_eq hn hr) rfl (swung_eq hn f hf hL hr)
  | turn j e =>
    refine done_turn_x _ _ _ _ _ _ _ _ ln bl rfl (worth_eq hn hr.1) rfl rfl (tw_eq hn f _ _ _ fun p hp => ?_)
    have ha := (and_wt hn hr.1 hp).1
    have b1 := MA.band p (wt n j)
    rw [ha] at b1
    have hw := MA.wt_pos n j
    have hb : bit (wt n j) p = 0 ∨ bit (wt n j) p = 1 := by have := MA.bit_lt (wt n j) p; omega
    have e1 : doneAt n f (.turn j e) p = MA.turnN (e * bit (wt n j) p) (f p) := rfl
    rw [e1, b1]
    rcases hb with hb | hb
    · rw [hb, Nat.mul_zero, Nat.mul_zero]
      exact ⟨fun q => absurd q (by omega), fun _ => rfl⟩
    · rw [hb, Nat.mul_one, Nat.mul_one]
      exact ⟨fun _ => turned_n hn _ _, fun q => absurd rfl q⟩
  | flip j =>
    refine done_flip_x _ _ _ _ _ _ _ ln bl rfl (worth_eq hn hr) rfl (fw_eq hn f _ _ _ fun p hp => ?_)
    have b2 := MA.bxor p (wt n j)
    rw [(and_wt hn hr hp).2] at b2
    have b0 := MA.band p 0
    rw [Nat.and_zero] at b0
    exact ⟨fun _ => ⟨_, MA.flp_lt hr hp, b2, rfl⟩, fun q => absurd b0 q⟩
  | tie i j =>
    refine done_tie_x _ _ _ _ _ _ _ _ _ ln bl rfl (worth_eq hn hr.1) rfl (worth_eq hn hr.2.1) rfl (fw_eq hn f _ _ _ fun p hp => ?_)
    have b2 := MA.bxor p (wt n j)
    rw [(and_wt hn hr.2.1 hp).2] at b2
    have b1 := MA.band p (wt n i)
    rw [(and_wt hn hr.1 hp).1] at b1
    have hw := MA.wt_pos n i
    have hb : bit (wt n i) p = 0 ∨ bit (wt n i) p = 1 := by have := MA.bit_lt (wt n i) p; omega
    have e1 : doneAt n f (.tie i j) p = f (if bit (wt n i) p = 0 then p else flp (wt n j) p) := rfl
    rw [e1, b1]
    rcases hb with hb | hb
    · rw [hb, Nat.mul_zero]
      exact ⟨fun q => absurd q (by omega), fun _ => rfl⟩
    · rw [hb, Nat.mul_one, if_neg (by decide)]
      exact ⟨fun _ => ⟨_, MA.flp_lt hr.2.1 hp, b2, rfl⟩, fun q => absurd rfl q⟩
  | sign i j =>
    have ho := MA.bor (wt n i) (wt n j)
    rw [(and_wt2 hn hr.1 hr.2.1 hr.2.2 (p := 0) (Nat.pow_pos (by decide))).1] at ho
    refine done_sign_x _ _ _ _ _ _ _ _ _ ln bl rfl (worth_eq hn hr.1) rfl (worth_eq hn hr.2.1) _ ho rfl (tw_eq hn f _ _ _ fun p hp => ?_)
    have b1 := MA.band p (wt n i + wt n j)
    rw [(and_wt2 hn hr.1 hr.2.1 hr.2.2 hp).2.1] at b1
    have hw := MA.wt_pos n i
    have hw2 := MA.wt_pos n j
    have hb : bit (wt n i) p = 0 ∨ bit (wt n i) p = 1 := by have := MA.bit_lt (wt n i) p; omega
    have hc : bit (wt n j) p = 0 ∨ bit (wt n j) p = 1 := by have := MA.bit_lt (wt n j) p; omega
    have e1 : doneAt n f (.sign i j) p = MA.turnN (4 * bit (wt n i) p * bit (wt n j) p) (f p) := rfl
    rw [e1, b1]
    rcases hb with hb | hb
    · rw [hb, Nat.mul_zero, Nat.mul_zero, Nat.zero_mul]
      refine ⟨fun q => absurd q ?_, fun _ => rfl⟩
      rcases hc with hc | hc <;> rw [hc] <;> omega
    · rcases hc with hc | hc
      · rw [hb, hc, Nat.mul_one, Nat.mul_zero, Nat.mul_zero]
        exact ⟨fun q => absurd q (by omega), fun _ => rfl⟩
      · rw [hb, hc, Nat.mul_one, Nat.mul_one, Nat.mul_one, Nat.mul_one]
        exact ⟨fun _ => turned_n hn _ 4, fun q => absurd rfl q⟩
  | cross i j =>
    have ho := MA.bor (wt n i) (wt n j)
    rw [(and_wt2 hn hr.1 hr.2.1 hr.2.2 (p := 0) (Nat.pow_pos (by decide))).1] at ho
    refine done_cross_x _ _ _ _ _ _ _ _ _ ln bl rfl (worth_eq hn hr.1) rfl (worth_eq hn hr.2.1) _ rfl (cr_c (stD n f) _ _ _ _ (2 ^ n) (fun p => numD (f p)) (fun p => numD (doneAt n f (.cross i j) p)) _ _ ho ln (rng_pow n hn) (by omega) (fun p hp => st_at p rfl hp) fun p hp => ?_) rfl
    exact ⟨_, MA.from_lt (r := .cross i j) hr hp, exch_eq hn hr.1 hr.2.1 hr.2.2 hp, rfl⟩
end

theorem shl1 (w : Nat) (h : w ≤ 100) : shlD (.int 1) (.int (w : Int)) = some (.int ((2 ^ w : Nat) : Int)) := by
  have hb : Builtin.Int.intBits 1 = 1 := by decide +kernel
  have e := shlD_int (i := 1) (j := (w : Int)) (by omega) (by omega)
  rw [e]
  simp

/-! ### beginnings and columns -/
theorem one_num (p q : Nat) : (if (q : Int) = (p : Int) then some (PyData.tuple [.int 1, .int 0, .int 0, .int 0, .int 0]) else some (PyData.tuple [.int 0, .int 0, .int 0, .int 0, .int 0])) = some (numD (MA.oneAt p q)) := by
  unfold MA.oneAt
  by_cases h : q = p
  · rw [if_pos h, if_pos (by omega)]; rfl
  · rw [if_neg h, if_neg (by omega)]; rfl
theorem beg_x (w M : Int) (N : Nat) (p : Nat) (hl : N ≤ 16777216) (hs : shlD (.int 1) (.int w) = some (.int M)) (hN : rng1D [.int M] = some ((List.range N).map fun k : Nat => PyData.int (0 + (k : Int)))) : g_beginning [.int w, .int p] = some (.tuple ((List.range N).map fun q => numD (MA.oneAt p q))) := by
  have c : p1_beginning [.fz (.int w), .fz (.int p)] = some (.list ((List.range N).map fun q => numD (MA.oneAt p q))) := comp_r0 (by simp [hs, hN]) hl fun q hq => by
    have := one_num p q
    simp [-Int.natCast_inj, capS, this]
  simp [g_beginning, runB, b_beginning, startD, c]
theorem begin_eq {n : Nat} (hn : n ≤ 6) (p : Nat) : g_beginning [.int n, .int p] = some (stD n (MA.oneAt p)) :=
  beg_x _ _ (2 ^ n) p (Nat.le_trans (Nat.pow_le_pow_right (by decide) hn : 2 ^ n ≤ 2 ^ 6) (by decide)) (shl1 n (by omega)) (rng_pow n hn)
theorem one_bd (p : Nat) : Bd 0 0 (MA.oneAt p) := fun x => by
  unfold MA.oneAt
  split
  · exact ⟨Nat.le_refl _, by decide, by decide, by decide, by decide⟩
  · exact ⟨Nat.le_refl _, by decide, by decide, by decide, by decide⟩

theorem share_eq (p q k : Int) (hk : 0 ≤ k) : ∃ t : Nat, (t : Int) ≤ k ∧ p = p / 2 ^ t * 2 ^ t ∧ q = q / 2 ^ t * 2 ^ t ∧ ((t : Int) < k → ¬ (p / 2 ^ t % 2 = 0 ∧ q / 2 ^ t % 2 = 0)) ∧
    g_share [.int p, .int q, .int k] = some (.tuple [.int (p / 2 ^ t), .int (q / 2 ^ t), .int (k - t)]) := by
  obtain ⟨t, e, h1, h2, h3, h4⟩ := MA.twos_two p q k hk
  refine ⟨t, h1, h2, h3, h4, ?_⟩
  have s1 : ∀ i : Int, shrD (.int i) (.int (t : Int)) = some (.int (i / 2 ^ t)) := fun i => by
    have := shrD_int (i := i) (j := (t : Int)) (by omega)
    simpa using this
  simp [g_share, runB, b_share, startD, twos_eq, e, s1]
theorem mok {a b : Int} (ha : a.natAbs ≤ 2 ^ 200000) (hb : b.natAbs ≤ 2 ^ 200000) : IntMulOk a b :=
  MA.mul_ok 200001 200001 (Nat.lt_of_le_of_lt ha (Nat.pow_lt_pow_right (by decide) (by decide))) (Nat.lt_of_le_of_lt hb (Nat.pow_lt_pow_right (by decide) (by decide))) (by decide)
structure Vl (p r : Nat) (t : D) (u : MA.Q4) (k : Nat) : Prop where
  ex : ∃ (x : MA.Q4) (c : Nat), t = tup5 x c ∧ MA.Is x c u k ∧ MA.Q4.Le (2 ^ p) x ∧ c ≤ r
theorem pw_le {p q : Nat} (h : p ≤ q) : (2 : Nat) ^ p ≤ 2 ^ q := Nat.pow_le_pow_right (by decide) h
def tup3 (s : MA.S2) (e : Int) : D := .tuple [.int s.p, .int s.q, .int e]
theorem tup3_ne (s : MA.S2) (c : Int) : neD (tup3 s c) (tup3 s c) = some (.bool false) := by
  have : neD (tup3 s c) (tup3 s c) = some (.bool (!(s.p == s.p && (s.q == s.q && (c == c && true))))) := rfl
  rw [this]; simp
theorem tup3_eq (s : MA.S2) (c : Int) : eqD (tup3 s c) (tup3 s c) = some (.bool true) := by
  have : eqD (tup3 s c) (tup3 s c) = some (.bool (s.p == s.p && (s.q == s.q && (c == c && true)))) := rfl
  rw [this]; simp
theorem shareQ (u : MA.S2) (k : Nat) (M : Nat) (h : MA.S2.Le M u) : ∃ (s : MA.S2) (e : Nat), g_share [.int u.p, .int u.q, .int k] = some (tup3 s e) ∧ MA.S2.Is s e u k ∧ e ≤ k ∧ MA.S2.Le M s := by
  obtain ⟨t, h1, h2, h3, h4, e⟩ := share_eq u.p u.q k (by omega)
  have l1 := MA.div_le _ _ h2
  have l2 := MA.div_le _ _ h3
  refine ⟨⟨u.p / 2 ^ t, u.q / 2 ^ t⟩, k - t, ?_, ⟨fun z => ?_, ?_⟩, by omega, Nat.le_trans l1 h.1, Nat.le_trans l2 h.2⟩
  · rw [e]
    show _ = some (PyData.tuple [.int (u.p / 2 ^ t), .int (u.q / 2 ^ t), .int ((k - t : Nat) : Int)])
    rw [show ((k - t : Nat) : Int) = (k : Int) - t by omega]
  · exact h4 (by omega)
  · have ek : k = (k - t) + t := by omega
    have e0 : MA.S2.sc t ⟨u.p / 2 ^ t, u.q / 2 ^ t⟩ = u := MA.S2.ext' h2.symm h3.symm
    conv => lhs; rw [ek, MA.S2.sc_add, e0]
/-- what the program holds for the share u over k twos -/
structure Vs (p r : Nat) (t : D) (u : MA.S2) (k : Nat) : Prop where
  ex : ∃ (s : MA.S2) (e : Nat), t = tup3 s e ∧ MA.S2.Is s e u k ∧ MA.S2.Le (2 ^ p) s ∧ e ≤ r
theorem Vs.one {p r q s : Nat} {t t' : D} {u v : MA.S2} {k l : Nat} (h : Vs p r t u k) (h' : Vs q s t' v l) (e : MA.S2.sc l u = MA.S2.sc k v) : t = t' := by
  obtain ⟨x, c, rfl, is, _, _⟩ := h.ex
  obtain ⟨y, d, rfl, is', _, _⟩ := h'.ex
  obtain ⟨rfl, rfl⟩ := is.one is' e
  rfl
theorem Vs.ne {p r q s : Nat} {t t' : D} {u v : MA.S2} {k l : Nat} (h : Vs p r t u k) (h' : Vs q s t' v l) (e : MA.S2.sc l u = MA.S2.sc k v) : neD t t' = some (.bool false) := by
  have := h.one h' e
  subst this
  obtain ⟨x, c, rfl, _⟩ := h.ex
  exact tup3_ne x c
theorem Vs.eq {p r q s : Nat} {t t' : D} {u v : MA.S2} {k l : Nat} (h : Vs p r t u k) (h' : Vs q s t' v l) (e : MA.S2.sc l u = MA.S2.sc k v) : eqD t t' = some (.bool true) := by
  have := h.one h' e
  subst this
  obtain ⟨x, c, rfl, _⟩ := h.ex
  exact tup3_eq x c
theorem Vs.mono {p r q s : Nat} {t : D} {u : MA.S2} {k : Nat} (h : Vs p r t u k) (h1 : p ≤ q) (h2 : r ≤ s) : Vs q s t u k := by
  obtain ⟨x, c, e, is, le, hc⟩ := h.ex
  exact ⟨x, c, e, is, le.mono (pw_le h1), by omega⟩
theorem v_share {p : Nat} (u : MA.S2) (k : Nat) (h : MA.S2.Le (2 ^ p) u) : ∃ w, g_share [.int u.p, .int u.q, .int k] = some w ∧ Vs p k w u k := by
  obtain ⟨s, e, q, is, hl, le⟩ := shareQ u k _ h
  exact ⟨_, q, s, e, rfl, is, le, hl⟩
theorem sover_eq (s : MA.S2) (c k : Nat) (h : MA.S2.Le (2 ^ 1000000) s) (h1 : c ≤ k) (h2 : k ≤ 100000) : g_parts_over_shares [tup3 s c, .int k] = some (.tuple [.int (MA.S2.sc (k - c) s).p, .int (MA.S2.sc (k - c) s).q]) := by
  have sh : ∀ i : Int, i.natAbs ≤ 2 ^ 1000000 → shlD (.int i) (.int ((k : Int) - c)) = some (.int (i * 2 ^ (k - c))) := fun i hi => by
    have hb : i.natAbs < 2 ^ 1000001 := Nat.lt_of_le_of_lt hi (Nat.pow_lt_pow_right (by decide) (by decide))
    have := MA.bits_le hb
    have q := shlD_int (i := i) (j := (k : Int) - c) (by omega) (by omega)
    rw [show ((k : Int) - c).toNat = k - c by omega] at q
    exact q
  simp only [tup3, MA.S2.sc]
  simp [g_parts_over_shares, runB, b_parts_over_shares, startD, sh _ h.1, sh _ h.2]
theorem v_splus {p r : Nat} {t t' : D} {u v : MA.S2} {k l : Nat} (h : Vs p r t u k) (h' : Vs p r t' v l) (hp : p ≤ 1000000) (hr : r ≤ 10000) : ∃ w, g_share_plus [t, t'] = some w ∧ Vs (p + r + 1) r w (MA.S2.add (MA.S2.sc l u) (MA.S2.sc k v)) (k + l) := by
  obtain ⟨x, c, rfl, is, le, hc⟩ := h.ex
  obtain ⟨y, d, rfl, is', le', hd⟩ := h'.ex
  have hm : maxD [.int (c : Int), .int (d : Int)] = some (.int ((max c d : Nat) : Int)) := by rw [maxI]; congr 2; omega
  have o1 := sover_eq x c (max c d) (le.mono (pw_le hp)) (by omega) (by omega)
  have o2 := sover_eq y d (max c d) (le'.mono (pw_le hp)) (by omega) (by omega)
  generalize hM : max c d = m at *
  have lz : MA.S2.Le (2 ^ (p + r + 1)) (MA.S2.add (MA.S2.sc (m - c) x) (MA.S2.sc (m - d) y)) := by
    have a1 := (MA.S2.sc_le (m - c) le).mono (pw_le (show p + (m - c) ≤ p + r by omega))
    have a2 := (MA.S2.sc_le (m - d) le').mono (pw_le (show p + (m - d) ≤ p + r by omega))
    have := MA.S2.add_le a1 a2
    rw [Nat.pow_succ, Nat.mul_two]
    exact this
  obtain ⟨w, ew, hw⟩ := v_share _ m lz
  refine ⟨w, ?_, ?_⟩
  · simp only [tup3, MA.S2.add] at o1 o2 ew ⊢
    simp [-maxD_int, g_share_plus, runB, b_share_plus, startD, hm, o1, o2, ew]
  · obtain ⟨z, e, rfl, iz, lz', he⟩ := hw.ex
    refine ⟨z, e, rfl, iz.trans ?_, lz', by omega⟩
    have h1 : MA.S2.sc (k + l) (MA.S2.sc (m - c) x) = MA.S2.sc m (MA.S2.sc l u) := by
      rw [MA.S2.sc_add, MA.S2.sc_swap l (m - c), MA.S2.sc_swap k (m - c), MA.S2.sc_swap k l, is.2, MA.S2.sc_swap (m - c) l, ← MA.S2.sc_add (m - c) c, MA.S2.sc_swap l, show m - c + c = m by omega]
    have h2 : MA.S2.sc (k + l) (MA.S2.sc (m - d) y) = MA.S2.sc m (MA.S2.sc k v) := by
      rw [MA.S2.sc_add, MA.S2.sc_swap l (m - d), is'.2, ← MA.S2.sc_add (m - d) d, show m - d + d = m by omega, MA.S2.sc_swap k m]
    rw [MA.S2.sc_addS, MA.S2.sc_addS, h1, h2]
theorem size_run (x : MA.Q4) (c : Int) (h : MA.Q4.Le (2 ^ 200000) x) (w : D) (e : g_share [.int (MA.nrm x).p, .int (MA.nrm x).q, .int c] = some w) : g_size_of [tup5 x c] = some w := by
  obtain ⟨l1, l2, l3, l4⟩ := h
  have a1 := mok l1 l1; have a2 := mok l2 l2; have a3 := mok l3 l3; have a4 := mok l4 l4
  have b1 := mok l1 l2; have b2 := mok l2 l3; have b3 := mok l3 l4; have b4 := mok l4 l1
  simp only [tup5, MA.nrm] at e ⊢
  simp [g_size_of, runB, b_size_of, startD, a1, a2, a3, a4, b1, b2, b3, b4, e]
theorem nrm_pw {x : MA.Q4} {p : Nat} (h : MA.Q4.Le (2 ^ p) x) : MA.S2.Le (2 ^ (2 * p + 2)) (MA.nrm x) := by
  have := MA.nrm_le h
  rw [← Nat.pow_add, show (4 : Nat) = 2 ^ 2 from rfl, ← Nat.pow_add, show 2 + (p + p) = 2 * p + 2 by omega] at this
  exact this
theorem v_size {p r : Nat} {t : D} {u : MA.Q4} {k : Nat} (h : Vl p r t u k) (hp : p ≤ 200000) : ∃ w, g_size_of [t] = some w ∧ Vs (2 * p + 2) r w (MA.nrm u) k := by
  obtain ⟨x, c, rfl, is, le, hc⟩ := h.ex
  obtain ⟨w, ew, hw⟩ := v_share _ c (nrm_pw le)
  refine ⟨w, size_run x c (le.mono (pw_le hp)) w ew, ?_⟩
  obtain ⟨z, e, rfl, iz, lz', he⟩ := hw.ex
  exact ⟨z, e, rfl, iz.trans (MA.Is_size is), lz', by omega⟩

/-! ### the whole -/
theorem rtnM {M c : Nat} (h : c ≤ M) (x : MA.Q4) : MA.Q4.rtn c (MA.Q4.rtn (M - c) x) = MA.Q4.rtn M x := by rw [← MA.Q4.rtn_add]; congr 1; omega
theorem vl_num {M p : Nat} {u : Nu} (hl : MA.LeastN u) (hu : MA.Q4.Le (2 ^ p) u.1) (h : u.2 ≤ M) {r : Nat} (hr : u.2 ≤ r) : Vl p r (numD u) (MA.val M u) M := ⟨u.1, u.2, rfl, ⟨hl, (rtnM h _).symm⟩, hu, hr⟩
/-- the sum of the first i sizes -/
def psum (M : Nat) (f : Nat → Nu) (i : Nat) : MA.S2 := ⟨MA.sumI i (fun p => (MA.nrm (MA.val M (f p))).p), MA.sumI i (fun p => (MA.nrm (MA.val M (f p))).q)⟩
theorem psum_succ (M : Nat) (f : Nat → Nu) (i : Nat) : psum M f (i + 1) = MA.S2.add (psum M f i) (MA.nrm (MA.val M (f i))) := rfl
theorem Vs.re {p r : Nat} {t : D} {u v : MA.S2} {k l : Nat} (h : Vs p r t u k) (e : MA.S2.sc l u = MA.S2.sc k v) : Vs p r t v l := by
  obtain ⟨x, c, rfl, is, le, hc⟩ := h.ex
  exact ⟨x, c, rfl, is.trans e, le, hc⟩
theorem whole_loop {M p r : Nat} {f : Nat → Nu} (hl : ∀ q, MA.LeastN (f q)) (hL : ∀ q, MA.Q4.Le (2 ^ p) (f q).1) (hr : ∀ q, (f q).2 ≤ r) (hM : r ≤ M) (hr2 : r ≤ 300) (hp : p ≤ 90000) (X : Sl) : ∀ (m i : Nat), i + m ≤ 64 → ∀ (t : D) (z : Sl), Vs (2 * p + 2 + 400 * i) r t (psum M f i) M → ∃ t' y, loop (gN 2) l1_whole ((List.range' i m).map fun q => numD (f q)) [X, .fz t, z] = some (.nx, [X, .fz t', y]) ∧ Vs (2 * p + 2 + 400 * (i + m)) r t' (psum M f (i + m)) M
  | 0, i, _, t, z, h => ⟨t, z, rfl, h⟩
  | m + 1, i, hi, t, z, h => by
    obtain ⟨w, ew, hw⟩ := v_size (vl_num (hl i) (hL i) (Nat.le_trans (hr i) hM) (hr i)) (by omega)
    obtain ⟨t1, e1, h1⟩ := v_splus h (hw.mono (by omega) (Nat.le_refl r)) (by omega) (by omega)
    have h2 : Vs (2 * p + 2 + 400 * (i + 1)) r t1 (psum M f (i + 1)) M := by
      refine (h1.re ?_).mono (by omega) (Nat.le_refl r)
      rw [psum_succ, MA.S2.sc_addS, MA.S2.sc_addS, MA.S2.sc_add, MA.S2.sc_add]
    obtain ⟨t2, y, e2, h3⟩ := whole_loop hl hL hr hM hr2 hp X m (i + 1) (by omega) t1 (.fz (numD (f i))) h2
    refine ⟨t2, y, ?_, ?_⟩
    · rw [List.range'_succ, List.map_cons, loop_step (δ1 := [X, .fz t, .fz (numD (f i))]) (δ2 := [X, .fz t1, .fz (numD (f i))]) (by rfl) (by simp [l1_whole, ew, e1]), e2]
    · rw [show i + (m + 1) = i + 1 + m by omega]; exact h3
theorem whole_x (X t : D) (L : List D) (y : Sl) (it : itsD X = some L) (e : loop (gN 2) l1_whole L [.fz X, .fz (.tuple [.int 0, .int 0, .int 0]), .un] = some (.nx, [.fz X, .fz t, y])) : g_whole [X] = some t := by
  simp [g_whole, runB, b_whole, startD, it, e]
theorem zero_vs (M : Nat) (f : Nat → Nu) (p r : Nat) : Vs p r (.tuple [.int 0, .int 0, .int 0]) (psum M f 0) M := by
  refine ⟨⟨0, 0⟩, 0, rfl, ⟨fun z => absurd z (by decide), ?_⟩, ⟨Nat.zero_le _, Nat.zero_le _⟩, Nat.zero_le _⟩
  apply MA.S2.ext' <;> simp [MA.S2.sc, psum, MA.sumI]
theorem whole_st {M p r n : Nat} (hn : n ≤ 6) {f : Nat → Nu} (hl : ∀ q, MA.LeastN (f q)) (hL : ∀ q, MA.Q4.Le (2 ^ p) (f q).1) (hr : ∀ q, (f q).2 ≤ r) (hM : r ≤ M) (hr2 : r ≤ 300) (hp : p ≤ 90000) : ∃ t, g_whole [stD n f] = some t ∧ Vs 300000 r t (MA.nsum M n f) M := by
  have sq : 2 ^ n ≤ 64 := (Nat.pow_le_pow_right (by decide) hn : 2 ^ n ≤ 2 ^ 6)
  obtain ⟨t, y, e, h⟩ := whole_loop hl hL hr hM hr2 hp (.fz (stD n f)) (2 ^ n) 0 (by omega) _ .un (zero_vs M f _ r)
  rw [← List.range_eq_range'] at e
  refine ⟨t, whole_x _ _ _ y rfl e, ?_⟩
  rw [Nat.zero_add] at h
  exact h.mono (by omega) (Nat.le_refl r)

open MA (Row)
/-- any row -/
inductive Rw where
  | pl (r : Row) | look (j : Nat) | wflip (m j : Nat) | wsign (m j : Nat)

def rwD : Rw → D
  | .pl r => rowD r
  | .look j => .tuple [.str "look", .int j]
  | .wflip m j => .tuple [.str "where", .int m, .tuple [.str "flip", .int j]]
  | .wsign m j => .tuple [.str "where", .int m, .tuple [.str "turn", .int j, .int 4]]
/-- a row of w wires behind l looks -/
def Rw.ok (w l : Nat) : Rw → Prop
  | .pl r => r.ok w
  | .look j => j < w ∧ l < 6
  | .wflip m j => m < l ∧ j < w
  | .wsign m j => m < l ∧ j < w
def Rw.isLook : Rw → Bool
  | .look _ => true
  | _ => false
def Rw.isPl : Rw → Bool
  | .pl _ => true
  | _ => false

/-! ### branches -/
abbrev Br := List Nat × (Nat → Nu)
def brD (n : Nat) (b : Br) : D := .tuple [.tuple (b.1.map fun m => PyData.int (m : Nat)), stD n b.2]
def nou : Nu := (⟨0, 0, 0, 0⟩, 0)
/-- what is left of a state behind a look at the wire of worth w with mark m -/
def left (f : Nat → Nu) (w m : Nat) : Nat → Nu := fun p => if bit w p = m then f p else nou
def zeroN (u : Nu) : Bool := u.1.a == 0 && (u.1.b == 0 && (u.1.c == 0 && (u.1.d == 0 && (u.2 : Int) == 0)))
theorem zeroN_iff (u : Nu) : zeroN u = true ↔ u = nou := by
  obtain ⟨⟨a, b, c, d⟩, k⟩ := u
  simp [zeroN, nou, and_assoc]
def isN (n : Nat) (f : Nat → Nu) : Bool := (List.range (2 ^ n)).all fun p => zeroN (f p)
theorem eq_nou (u : Nu) : eqD (numD u) (.tuple [.int 0, .int 0, .int 0, .int 0, .int 0]) = some (.bool (zeroN u)) := by
  obtain ⟨⟨a, b, c, d⟩, k⟩ := u
  show eqD (.tuple [.int a, .int b, .int c, .int d, .int (k : Int)]) _ = _
  unfold eqD
  rw [if_pos ⟨rfl, rfl⟩]
  simp [PyData.eqv, PyData.eqvAll, zeroN]
theorem isnought_eq (n : Nat) (hn : n ≤ 6) (f : Nat → Nu) : g_is_nought [stD n f] = some (.bool (isN n f)) := by
  have sq : (2 ^ n : Nat) ≤ 64 := (Nat.pow_le_pow_right (by decide) hn : 2 ^ n ≤ 2 ^ 6)
  have e : p1_is_nought [.fz (stD n f)] = some (.list ((List.range (2 ^ n)).map fun p => .bool (zeroN (f p)))) := comp_map (h := fun p => numD (f p)) (k := fun p => .bool (zeroN (f p))) (xs := List.range (2 ^ n)) (by simp [stD]) (by rw [List.length_range]; omega) fun p _ => by
    have := eq_nou (f p)
    simp [capS, this]
  simp [g_is_nought, runB, b_is_nought, startD, e, allD_map, isN]
theorem left_p (X : D) (S W F : Int) (z2 : Sl) (N : Nat) (y : Nat → D) (hl : N ≤ 16777216) (ln : lenD [X] = some (.int S)) (hN : rng1D [.int S] = some ((List.range N).map fun k : Nat => PyData.int (0 + (k : Int)))) (H : ∀ p : Nat, p < N → ∃ (m : Int) (d : D), Builtin.bitAnd (p : Int) W = m ∧ ixD X (.int (p : Int)) = some d ∧ y p = if m = F then d else .tuple [.int 0, .int 0, .int 0, .int 0, .int 0]) : p1_left_by [.fz X, .fz (.int W), z2, .fz (.int F)] = some (.list ((List.range N).map y)) :=
  comp_r0 (by simp [ln, hN]) hl fun p hp => by
    obtain ⟨m, d, h1, h2, h3⟩ := H p hp
    by_cases h : m = F
    · rw [if_pos h] at h3
      subst h
      simp [capS, h1, h2, h3]
    · rw [if_neg h] at h3
      simp [capS, h1, h2, h3, h]
theorem left_x (X : D) (W M F : Int) (L : List D) (hF : (if M = 1 then W else 0) = F) (p : ∀ z2, p1_left_by [.fz X, .fz (.int W), z2, .fz (.int F)] = some (.list L)) : g_left_by [X, .int W, .int M] = some (.tuple L) := by
  by_cases h : M = 1
  · rw [if_pos h] at hF; subst hF h
    simp [-sSeq, -sIf, sSeq_k, sIf_k, g_left_by, runB, b_left_by, startD, p]
  · rw [if_neg h] at hF; subst hF
    simp [-sSeq, -sIf, sSeq_k, sIf_k, g_left_by, runB, b_left_by, startD, p, h]
theorem left_eq {n j : Nat} (hn : n ≤ 6) (hj : j < n) (f : Nat → Nu) (m : Nat) (hm : m < 2) : g_left_by [stD n f, .int (wt n j : Nat), .int (m : Nat)] = some (stD n (left f (wt n j) m)) := by
  have sq : (2 ^ n : Nat) ≤ 64 := (Nat.pow_le_pow_right (by decide) hn : 2 ^ n ≤ 2 ^ 6)
  have wp := MA.wt_pos n j
  refine left_x (stD n f) (wt n j : Nat) (m : Nat) ((wt n j * m : Nat) : Int) ((List.range (2 ^ n)).map fun p => numD (left f (wt n j) m p)) ?_ fun z2 => left_p _ _ _ _ z2 (2 ^ n) (fun p => numD (left f (wt n j) m p)) (by omega) (len_st n f) (rng_pow n hn) fun p hp => ⟨_, _, MA.band p (wt n j), st_at p rfl hp, ?_⟩
  · rcases (by omega : m = 0 ∨ m = 1) with rfl | rfl <;> simp
  · rw [(and_wt hn hj hp).1]
    unfold left
    have b := MA.bit_lt (wt n j) p
    by_cases h : bit (wt n j) p = m
    · rw [if_pos h, if_pos (by rw [h])]
    · rw [if_neg h, if_neg]
      · rfl
      · intro z
        have z : wt n j * bit (wt n j) p = wt n j * m := by exact_mod_cast z
        exact h (Nat.eq_of_mul_eq_mul_left wp z)
def partB (n j : Nat) (b : Br) : List Br := [(b.1 ++ [0], left b.2 (wt n j) 0), (b.1 ++ [1], left b.2 (wt n j) 1)].filter fun c => !isN n c.2
theorem parted_x (B : D) (M : List D) (X : D) (S N W j : Int) (L0 L1 Y : D) (b0 : ixD B (.int 0) = some (.tuple M)) (b1 : ixD B (.int 1) = some X) (ln : lenD [X] = some (.int S)) (bl : bitsD (.int S) = some (.int (N + 1))) (hw : g_worth [.int N, .int j] = some (.int W)) (hl : M.length ≤ 1000) (l0 : g_left_by [X, .int W, .int 0] = some L0) (l1 : g_left_by [X, .int W, .int 1] = some L1) (q : ∀ δ : Dv, δ[3]? = some (.fz (.list [.tuple [.tuple (M ++ [.int 0]), L0], .tuple [.tuple (M ++ [.int 1]), L1]])) → p2_parted δ = some Y) : g_parted [B, .int j] = some Y := by
  have a0 : addD (.tuple M) (.tuple [.int 0]) = some (.tuple (M ++ [.int 0])) := addD_tup (by simp; omega)
  have a1 : addD (.tuple M) (.tuple [.int 1]) = some (.tuple (M ++ [.int 1])) := addD_tup (by simp; omega)
  have e : ∀ z3, p1_parted [.fz B, .fz (.int j), .fz (.int W), z3] = some (.list [.tuple [.tuple (M ++ [.int 0]), L0], .tuple [.tuple (M ++ [.int 1]), L1]]) := fun z3 => by
    have := comp_map (fi := oI (VL.os (oCons (oC (.int 0)) (oCons (oC (.int 1)) (oNil))) tupD) itsD) (caps := [(0, "branch"), (2, "bit")]) (fe := VL.os (oCons (o2 (o2 (oV 1) (oC (.int 0)) ixD) (VL.os (oCons (oV 0) (oNil)) tupD) addD) (oCons (VL.os (oCons (o2 (oV 1) (oC (.int 1)) ixD) (oCons (oV 2) (oCons (oV 0) (oNil)))) g_left_by) (oNil))) tupD) (δ := [.fz B, .fz (.int j), .fz (.int W), z3]) (h := fun k : Bool => PyData.int (if k then 1 else 0)) (k := fun k : Bool => if k then .tuple [.tuple (M ++ [.int 1]), L1] else .tuple [.tuple (M ++ [.int 0]), L0]) (xs := [false, true]) (by simp) (by simp) (fun x _ => by cases x <;> simp [capS, b0, b1, a0, a1, l0, l1])
    exact this
  have q' := q [.fz B, .fz (.int j), .fz (.int W), .fz (.list [.tuple [.tuple (M ++ [.int 0]), L0], .tuple [.tuple (M ++ [.int 1]), L1]])] rfl
  have nn : N + 1 - 1 = N := by omega
  simp [-bitsD_int, g_parted, runB, b_parted, startD, b1, ln, bl, nn, hw, e, q']
theorem parted_eq {n j : Nat} (hn : n ≤ 6) (hj : j < n) (b : Br) (hl : b.1.length ≤ 900) : g_parted [brD n b, .int (j : Nat)] = some (.list ((partB n j b).map (brD n))) := by
  refine parted_x (brD n b) (b.1.map fun m => PyData.int (m : Nat)) (stD n b.2) _ n (wt n j : Nat) j _ _ _ rfl rfl (len_st n b.2) (wires_st hn b.2) (worth_eq hn hj) (by simp; omega) (left_eq hn hj b.2 0 (by decide)) (left_eq hn hj b.2 1 (by decide)) fun δ h => ?_
  refine compI_map (h := brD n) (k := brD n) (b := fun c => !isN n c.2) (xs := [(b.1 ++ [0], left b.2 (wt n j) 0), (b.1 ++ [1], left b.2 (wt n j) 1)]) ?_ (by simp) (fun c _ => ?_) fun c _ _ => ?_
  · simp [h, brD]
  · have e := isnought_eq n hn c.2
    have b1 : ixD (brD n c) (.int 1) = some (stD n c.2) := rfl
    simp [capS, b1, e]
  · simp
theorem ne_of_eq {a b : D} {c : Bool} (h : eqD a b = some (.bool c)) : neD a b = some (.bool (!c)) := by
  unfold eqD at h
  unfold neD
  split at h
  · rename_i hs
    rw [if_pos hs]
    have h : PyData.eqv a b = c := by simpa using h
    rw [h]
  · cases h
theorem callv_eq {i : Nat} {fs : Dv → Option (List D)} {n : Str} {g : List D → Option D} {δ : Dv} {as : List D} (h1 : oV i δ = some (fnD n)) (h2 : fs δ = some as) : oCallV i fs ((n, g) :: []) δ = g as := by
  unfold oCallV
  rw [h1, Option.bind_some, fnName_fn, Option.bind_some]
  simp [List.lookup, h2]
def goB (n : Nat) : Rw → Br → Br
  | .pl r, b => (b.1, doneAt n b.2 r)
  | .look _, b => b
  | .wflip m j, b => if b.1[m]? = some 1 then (b.1, doneAt n b.2 (.flip j)) else b
  | .wsign m j, b => if b.1[m]? = some 1 then (b.1, doneAt n b.2 (.turn j 4)) else b
theorem goneon_x (B R M X Y : D) (b0 : ixD B (.int 0) = some M) (b1 : ixD B (.int 1) = some X) (h : g_done [X, R] = some Y) : g_gone_on [B, R] = some (.tuple [M, Y]) := by
  simp [g_gone_on, runB, b_gone_on, startD, b0, b1, h]
theorem goneon_eq {n : Nat} (hn : n ≤ 6) (b : Br) {k p : Nat} (hb : Bd k p b.2) (hk : k + 1 ≤ 300) (hp : p + 400 ≤ 80000) (r : Row) (hr : r.ok n) : g_gone_on [brD n b, rowD r] = some (brD n (b.1, doneAt n b.2 r)) := by
  have h1 := done_eq hn b.2 (fun x => by have := (hb x).1; omega) (fun x => (hb x).2.mono (Nat.pow_le_pow_right (by decide) (by omega))) r hr
  exact goneon_x (brD n b) (rowD r) _ _ _ rfl rfl h1
theorem due_pl (B R Y : D) (s : Str) (r0 : ixD R (.int 0) = some (.str s)) (ne : neD (.str s) (.str "where") = some (.bool true)) (h : g_gone_on [B, R] = some Y) : g_due_gone_on [B, R, fnD "gone_on"] = some Y := by
  have c : oCallV 2 (oCons (oV 0) (oCons (oV 1) (oNil))) (("gone_on", g_gone_on) :: []) [.fz B, .fz R, .fz (fnD "gone_on")] = some Y := (callv_eq rfl rfl).trans h
  simp [-sSeq, -sIf, sSeq_k, sIf_k, g_due_gone_on, runB, b_due_gone_on, startD, r0, ne, c]
theorem due_wh (B R M I Y : D) (m v : Int) (r0 : ixD R (.int 0) = some (.str "where")) (r1 : ixD R (.int 1) = some (.int m)) (r2 : ixD R (.int 2) = some I) (b0 : ixD B (.int 0) = some M) (mv : ixD M (.int m) = some (.int v)) (h1 : v = 1 → g_gone_on [B, I] = some Y) (h0 : ¬ v = 1 → Y = B) : g_due_gone_on [B, R, fnD "gone_on"] = some Y := by
  have ne : neD (.str "where") (.str "where") = some (.bool false) := ne_of_eq (c := true) (by simp)
  by_cases h : v = 1
  · have c : oCallV 2 (oCons (oV 0) (oCons (o2 (oV 1) (oC (.int 2)) ixD) (oNil))) (("gone_on", g_gone_on) :: []) [.fz B, .fz R, .fz (fnD "gone_on")] = some Y := (callv_eq (as := [B, I]) rfl (by simp [r2])).trans (h1 h)
    simp [-sSeq, -sIf, sSeq_k, sIf_k, g_due_gone_on, runB, b_due_gone_on, startD, r0, ne, r1, b0, mv, h, c]
  · have e := h0 h
    subst e
    simp [-sSeq, -sIf, sSeq_k, sIf_k, g_due_gone_on, runB, b_due_gone_on, startD, r0, ne, r1, b0, mv, h]
theorem due_eq {n l : Nat} (hn : n ≤ 6) (b : Br) (hl : b.1.length = l) {k p : Nat} (hb : Bd k p b.2) (hk : k + 1 ≤ 300) (hp : p + 400 ≤ 80000) (r : Rw) (hr : r.ok n l) (nl : r.isLook = false) : g_due_gone_on [brD n b, rwD r, fnD "gone_on"] = some (brD n (goB n r b)) := by
  have mark : ∀ m, m < l → ∃ v : Nat, b.1[m]? = some v ∧ ixD (.tuple (b.1.map fun m => PyData.int (m : Nat))) (.int (m : Int)) = some (.int v) := fun m hm => by
    have hm' : m < b.1.length := by omega
    exact ⟨b.1[m], List.getElem?_eq_getElem hm', atI_of (j := m) rfl (by simp [hm'])⟩
  cases r with
  | pl r =>
    have g := goneon_eq hn b hb hk hp r hr
    cases r <;> exact due_pl _ _ _ _ (at0 _ _) (ne_of_eq (c := false) (by simp)) g
  | look j => cases nl
  | wflip m j =>
    obtain ⟨v, e1, e2⟩ := mark m hr.1
    have g := goneon_eq hn b hb hk hp (.flip j) hr.2
    refine due_wh _ _ _ _ _ m v (at0 _ _) (at1 _ _ _) (at2 _ _ _ _) (at0 _ _) e2 (fun z => ?_) fun z => ?_
    · have : goB n (.wflip m j) b = (b.1, doneAt n b.2 (.flip j)) := if_pos (by rw [e1]; congr 1; omega)
      rw [this]; exact g
    · have : goB n (.wflip m j) b = b := if_neg (by rw [e1]; intro q; cases q; exact z rfl)
      rw [this]
  | wsign m j =>
    obtain ⟨v, e1, e2⟩ := mark m hr.1
    have g := goneon_eq hn b hb hk hp (.turn j 4) ⟨hr.2, by decide, by decide⟩
    refine due_wh _ _ _ _ _ m v (at0 _ _) (at1 _ _ _) (at2 _ _ _ _) (at0 _ _) e2 (fun z => ?_) fun z => ?_
    · have : goB n (.wsign m j) b = (b.1, doneAt n b.2 (.turn j 4)) := if_pos (by rw [e1]; congr 1; omega)
      rw [this]; exact g
    · have : goB n (.wsign m j) b = b := if_neg (by rw [e1]; intro q; cases q; exact z rfl)
      rw [this]

/-! ### through the rows -/
def thru (n : Nat) : List Rw → List Br → List Br
  | [], bs => bs
  | .look j :: rs, bs => thru n rs (bs.flatMap (partB n j))
  | r :: rs, bs => thru n rs (bs.map (goB n r))
def okRs (w : Nat) : Nat → List Rw → Prop
  | _, [] => True
  | l, r :: rs => r.ok w l ∧ okRs w (l + if r.isLook then 1 else 0) rs
structure BI (l k p : Nat) (bs : List Br) : Prop where
  mks : ∀ b ∈ bs, b.1.length = l
  bd : ∀ b ∈ bs, Bd k p b.2
  ln : bs.length ≤ 2 ^ l
theorem left_bd {k p : Nat} {f : Nat → Nu} (h : Bd k p f) (w m : Nat) : Bd k p (left f w m) := fun x => by
  unfold left
  split
  · exact h x
  · exact ⟨Nat.zero_le _, Nat.zero_le _, Nat.zero_le _, Nat.zero_le _, Nat.zero_le _⟩
theorem BI.look {l k p : Nat} {bs : List Br} (h : BI l k p bs) (n j : Nat) : BI (l + 1) k p (bs.flatMap (partB n j)) := by
  have mem : ∀ b ∈ bs.flatMap (partB n j), ∃ a ∈ bs, ∃ m, b = (a.1 ++ [m], left a.2 (wt n j) m) := fun b hb => by
    obtain ⟨a, ha, hb⟩ := List.mem_flatMap.mp hb
    have := (List.mem_filter.mp hb).1
    simp only [List.mem_cons, List.not_mem_nil, or_false] at this
    rcases this with rfl | rfl
    · exact ⟨a, ha, 0, rfl⟩
    · exact ⟨a, ha, 1, rfl⟩
  refine ⟨fun b hb => ?_, fun b hb => ?_, ?_⟩
  · obtain ⟨a, ha, m, rfl⟩ := mem b hb
    simp [h.mks a ha]
  · obtain ⟨a, ha, m, rfl⟩ := mem b hb
    exact left_bd (h.bd a ha) _ _
  · have : ∀ cs : List Br, (cs.flatMap (partB n j)).length ≤ 2 * cs.length := fun cs => by
      induction cs with
      | nil => exact Nat.le_refl _
      | cons c cs ih =>
        rw [List.flatMap_cons, List.length_append, List.length_cons]
        have : (partB n j c).length ≤ 2 := List.length_filter_le _ _
        omega
    have := this bs
    have := h.ln
    rw [Nat.pow_succ]
    omega
theorem BI.go {l k p : Nat} {bs : List Br} (h : BI l k p bs) (n : Nat) (r : Rw) : BI l (k + 1) (p + k + 1) (bs.map (goB n r)) := by
  have mem : ∀ b ∈ bs.map (goB n r), b.1.length = l ∧ Bd (k + 1) (p + k + 1) b.2 := fun b hb => by
    obtain ⟨a, ha, rfl⟩ := List.mem_map.mp hb
    have h1 := h.mks a ha
    have h2 := h.bd a ha
    have h3 := h2.mono (show k ≤ k + 1 by omega) (show p ≤ p + k + 1 by omega)
    cases r with
    | pl r => exact ⟨h1, h2.done n r⟩
    | look j => exact ⟨h1, h3⟩
    | wflip m j =>
      by_cases q : a.1[m]? = some 1
      · rw [show goB n (.wflip m j) a = (a.1, doneAt n a.2 (.flip j)) from if_pos q]; exact ⟨h1, h2.done n _⟩
      · rw [show goB n (.wflip m j) a = a from if_neg q]; exact ⟨h1, h3⟩
    | wsign m j =>
      by_cases q : a.1[m]? = some 1
      · rw [show goB n (.wsign m j) a = (a.1, doneAt n a.2 (.turn j 4)) from if_pos q]; exact ⟨h1, h2.done n _⟩
      · rw [show goB n (.wsign m j) a = a from if_neg q]; exact ⟨h1, h3⟩
  exact ⟨fun b hb => (mem b hb).1, fun b hb => (mem b hb).2, by rw [List.length_map]; exact h.ln⟩
theorem gt1_x (z0 z1 z3 z4 : Sl) (R B : D) (ds es : List D) (j : Int) (r1 : ixD R (.int 1) = some (.int j)) (h : g_parted [B, .int j] = some (.list es)) (hl : ds.length + es.length ≤ sizeLine) : l1_gone_through [z0, z1, .fz (fnD "parted"), z3, z4, .fz R, .ow ds, .fz B] = some (.nx, [z0, z1, .fz (fnD "parted"), z3, z4, .fz R, .ow (ds ++ es), .fz B]) := by
  have c : oCallV 2 (oCons (oV 7) (oCons (o2 (oV 5) (oC (.int 1)) ixD) (oNil))) (("parted", g_parted) :: []) [z0, z1, .fz (fnD "parted"), z3, z4, .fz R, .ow ds, .fz B] = some (.list es) := (callv_eq (as := [B, .int j]) rfl (by simp [r1])).trans h
  have l : lstI (.list es) = some es := rfl
  simp [l1_gone_through, c, l, hl]
theorem gt1_loop {n j : Nat} (hn : n ≤ 6) (hj : j < n) (z0 z1 z3 z4 : Sl) : ∀ (bs : List Br), (∀ b ∈ bs, b.1.length ≤ 900) → ∀ (ds : List D) (z7 : Sl), ds.length + 2 * bs.length ≤ 1000 → ∃ y7, loop (gN 7) l1_gone_through (bs.map (brD n)) [z0, z1, .fz (fnD "parted"), z3, z4, .fz (.tuple [.str "look", .int (j : Nat)]), .ow ds, z7] = some (.nx, [z0, z1, .fz (fnD "parted"), z3, z4, .fz (.tuple [.str "look", .int (j : Nat)]), .ow (ds ++ (bs.flatMap (partB n j)).map (brD n)), y7])
  | [], _, ds, z7, _ => ⟨z7, by simp⟩
  | b :: bs, hl, ds, z7, hs => by
    have p2 : (partB n j b).length ≤ 2 := List.length_filter_le _ _
    simp only [List.length_cons] at hs
    obtain ⟨y7, e⟩ := gt1_loop hn hj z0 z1 z3 z4 bs (fun c hc => hl c (List.mem_cons_of_mem _ hc)) (ds ++ (partB n j b).map (brD n)) (.fz (brD n b)) (by rw [List.length_append, List.length_map]; omega)
    refine ⟨y7, ?_⟩
    rw [List.map_cons, loop_step (δ1 := [z0, z1, .fz (fnD "parted"), z3, z4, .fz (.tuple [.str "look", .int (j : Nat)]), .ow ds, .fz (brD n b)]) (by simp) (gt1_x z0 z1 z3 z4 _ _ ds _ j (at1 _ _ _) (parted_eq hn hj b (hl b List.mem_cons_self)) (by rw [List.length_map]; show _ ≤ 16777216; omega)), e]
    simp [List.flatMap_cons]
theorem gt2_look (z0 z1 z3 z5 z6 z7 y7 : Sl) (R : D) (bs es : List D) (r0 : ixD R (.int 0) = some (.str "look")) (lp : loop (gN 7) l1_gone_through bs [z0, z1, .fz (fnD "parted"), z3, .fz (.list bs), .fz R, .ow [], z7] = some (.nx, [z0, z1, .fz (fnD "parted"), z3, .fz (.list bs), .fz R, .ow es, y7])) : l2_gone_through [z0, z1, .fz (fnD "parted"), z3, .fz (.list bs), .fz R, z6, z7] = some (.nx, [z0, z1, .fz (fnD "parted"), z3, .fz (.list es), .fz R, .fz (.list es), y7]) := by
  simp [-sSeq, -sIf, sSeq_k, sIf_k, l2_gone_through, r0, lp, dFz]
theorem gt2_go (z0 z1 z2 z6 z7 : Sl) (R G : D) (bs es : List D) (s : Str) (r0 : ixD R (.int 0) = some (.str s)) (ne : eqD (.str s) (.str "look") = some (.bool false)) (p : p1_gone_through [z0, z1, z2, .fz G, .fz (.list bs), .fz R, z6, z7] = some (.list es)) : l2_gone_through [z0, z1, z2, .fz G, .fz (.list bs), .fz R, z6, z7] = some (.nx, [z0, z1, z2, .fz G, .fz (.list es), .fz R, z6, z7]) := by
  simp [-sSeq, -sIf, sSeq_k, sIf_k, l2_gone_through, r0, ne, p]
theorem gtp {n l k p : Nat} (hn : n ≤ 6) {bs : List Br} (h : BI l k p bs) (hl : bs.length ≤ 1000) (hk : k + 1 ≤ 300) (hp : p + 400 ≤ 80000) (r : Rw) (hr : r.ok n l) (nl : r.isLook = false) (z0 z1 z2 z6 z7 : Sl) : p1_gone_through [z0, z1, z2, .fz (fnD "gone_on"), .fz (.list (bs.map (brD n))), .fz (rwD r), z6, z7] = some (.list ((bs.map (goB n r)).map (brD n))) := by
  rw [List.map_map]
  exact comp_map (h := brD n) (k := fun b => brD n (goB n r b)) (xs := bs) (by simp) (by omega) fun b hb => by
    have := due_eq hn b (h.mks b hb) (h.bd b hb) hk hp r hr nl
    simp [capS, this]
theorem rw_look (r : Rw) : ∃ s : Str, ixD (rwD r) (.int 0) = some (.str s) ∧ eqD (.str s) (.str "look") = some (.bool r.isLook) := by
  cases r with
  | pl r => cases r <;> exact ⟨_, at0 _ _, by simp [Rw.isLook]⟩
  | look j => exact ⟨_, at0 _ _, by simp [Rw.isLook]⟩
  | wflip m j => exact ⟨_, at0 _ _, by simp [Rw.isLook]⟩
  | wsign m j => exact ⟨_, at0 _ _, by simp [Rw.isLook]⟩
theorem thru_go (n : Nat) (r : Rw) (rs : List Rw) (bs : List Br) (h : r.isLook = false) : thru n (r :: rs) bs = thru n rs (bs.map (goB n r)) := by
  cases r with
  | look j => cases h
  | pl r => rfl
  | wflip m j => rfl
  | wsign m j => rfl
theorem gt_loop {n : Nat} (hn : n ≤ 6) (z0 z1 : Sl) : ∀ (rs : List Rw) (l k p : Nat) (bs : List Br), okRs n l rs → BI l k p bs → l ≤ 6 → k + rs.length ≤ 300 → p + 400 * rs.length ≤ 80000 → ∀ z5 z6 z7, ∃ y5 y6 y7, loop (gN 5) l2_gone_through (rs.map rwD) [z0, z1, .fz (fnD "parted"), .fz (fnD "gone_on"), .fz (.list (bs.map (brD n))), z5, z6, z7] = some (.nx, [z0, z1, .fz (fnD "parted"), .fz (fnD "gone_on"), .fz (.list ((thru n rs bs).map (brD n))), y5, y6, y7])
  | [], l, k, p, bs, _, _, _, _, _, z5, z6, z7 => ⟨z5, z6, z7, rfl⟩
  | r :: rs, l, k, p, bs, ho, hb, hl, hk, hp, z5, z6, z7 => by
    simp only [List.length_cons] at hk hp
    have l64 : bs.length ≤ 64 := Nat.le_trans hb.ln (Nat.pow_le_pow_right (by decide) hl : 2 ^ l ≤ 2 ^ 6)
    cases hr : r.isLook with
    | true =>
      cases r with
      | look j =>
        obtain ⟨hj, h6⟩ := ho.1
        obtain ⟨y7, e⟩ := gt1_loop hn hj z0 z1 (.fz (fnD "gone_on")) (.fz (.list (bs.map (brD n)))) bs (fun b hb' => by rw [hb.mks b hb']; omega) [] z7 (by simp; omega)
        rw [List.nil_append] at e
        have st := gt2_look z0 z1 (.fz (fnD "gone_on")) z5 z6 z7 y7 (.tuple [.str "look", .int (j : Nat)]) _ _ (at0 _ _) e
        obtain ⟨y5, y6, y7', e2⟩ := gt_loop hn z0 z1 rs (l + 1) k p (bs.flatMap (partB n j)) ho.2 (hb.look n j) (by omega) (by omega) (by omega) (.fz (.tuple [.str "look", .int (j : Nat)])) (.fz (.list ((bs.flatMap (partB n j)).map (brD n)))) y7
        exact ⟨y5, y6, y7', by rw [List.map_cons, loop_step (δ1 := [z0, z1, .fz (fnD "parted"), .fz (fnD "gone_on"), .fz (.list (bs.map (brD n))), .fz (.tuple [.str "look", .int (j : Nat)]), z6, z7]) (by simp [rwD]) st]; exact e2⟩
      | pl r => cases hr
      | wflip m j => cases hr
      | wsign m j => cases hr
    | false =>
      obtain ⟨s, r0, ne⟩ := rw_look r
      rw [hr] at ne
      have st := gt2_go z0 z1 (.fz (fnD "parted")) z6 z7 (rwD r) (fnD "gone_on") _ _ s r0 ne (gtp hn hb (by omega) (by omega) (by omega) r ho.1 hr z0 z1 _ z6 z7)
      have ho2 := ho.2
      rw [hr] at ho2
      obtain ⟨y5, y6, y7', e2⟩ := gt_loop hn z0 z1 rs l (k + 1) (p + k + 1) (bs.map (goB n r)) ho2 (hb.go n r) hl (by omega) (by omega) (.fz (rwD r)) z6 z7
      exact ⟨y5, y6, y7', by rw [List.map_cons, loop_step (δ1 := [z0, z1, .fz (fnD "parted"), .fz (fnD "gone_on"), .fz (.list (bs.map (brD n))), .fz (rwD r), z6, z7]) (by simp) st, thru_go n r rs bs hr]; exact e2⟩
theorem gt_x (R B : D) (L : List D) (y5 y6 y7 : Sl) (es : List D) (it : itsD R = some L) (lp : loop (gN 5) l2_gone_through L [.fz R, .fz B, .fz (fnD "parted"), .fz (fnD "gone_on"), .fz (.list [B]), .un, .un, .un] = some (.nx, [.fz R, .fz B, .fz (fnD "parted"), .fz (fnD "gone_on"), .fz (.list es), y5, y6, y7])) : g_gone_through [R, B, fnD "parted", fnD "gone_on"] = some (.list es) := by
  simp [-sSeq, -sIf, sSeq_k, sIf_k, g_gone_through, runB, b_gone_through, startD, it, lp]
theorem br_x (C R B T : D) (n p : Int) (X : D) (c0 : ixD C (.int 0) = some (.int n)) (c1 : ixD C (.int 1) = some R) (b : g_beginning [.int n, .int p] = some X) (g : g_gone_through [R, .tuple [.tuple [], X], fnD "parted", fnD "gone_on"] = some T) : g_branches [C, .int p] = some T := by
  simp [g_branches, runB, b_branches, startD, c0, c1, b, g]
def circD (w : Nat) (rs : List Rw) : D := .tuple [.int w, .tuple (rs.map rwD)]
/-- the branches of the run of a circuit from place p -/
def brs (n p : Nat) (rs : List Rw) : List Br := thru n rs [([], MA.oneAt p)]
theorem branches_eq {n : Nat} (hn : n ≤ 6) (p : Nat) (rs : List Rw) (ho : okRs n 0 rs) (hl : rs.length ≤ 150) : g_branches [circD n rs, .int p] = some (.list ((brs n p rs).map (brD n))) := by
  have hb : BI 0 0 0 [(([] : List Nat), MA.oneAt p)] := ⟨fun b hb => by simp only [List.mem_cons, List.not_mem_nil, or_false] at hb; subst hb; rfl, fun b hb => by simp only [List.mem_cons, List.not_mem_nil, or_false] at hb; subst hb; exact one_bd p, Nat.le_refl _⟩
  obtain ⟨y5, y6, y7, e⟩ := gt_loop hn (.fz (.tuple (rs.map rwD))) (.fz (brD n ([], MA.oneAt p))) rs 0 0 0 [([], MA.oneAt p)] ho hb (by omega) (by omega) (by omega) .un .un .un
  exact br_x _ _ .none _ n p _ (at0 _ _) (at1 _ _ _) (begin_eq hn p) (gt_x _ _ _ y5 y6 y7 _ rfl e)

theorem eq_self {d : D} {k : Nat} (h : MA.Sh k d) (hk : k ≤ 64) : eqD d d = some (.bool true) := by
  have hs : shp d = true := by
    show (d.canLay0 && decide (d.depth ≤ 64)) = true
    rw [h.1, decide_eq_true (Nat.le_trans h.2 hk)]; rfl
  unfold eqD
  rw [if_pos ⟨hs, hs⟩, MA.eqv_self d h.1]
theorem ne_self {d : D} {k : Nat} (h : MA.Sh k d) (hk : k ≤ 64) : neD d d = some (.bool false) := by
  have hs : shp d = true := by
    show (d.canLay0 && decide (d.depth ≤ 64)) = true
    rw [h.1, decide_eq_true (Nat.le_trans h.2 hk)]; rfl
  unfold neD
  rw [if_pos ⟨hs, hs⟩, MA.eqv_self d h.1]
  rfl

/-! ### the whole over all branches stays -/
def bsum (M n : Nat) : List Br → MA.S2
  | [] => ⟨0, 0⟩
  | b :: bs => MA.S2.add (MA.nsum M n b.2) (bsum M n bs)
theorem s2_add0 (x : MA.S2) : MA.S2.add ⟨0, 0⟩ x = x := by apply MA.S2.ext' <;> simp [MA.S2.add]
theorem s2_assoc (x y z : MA.S2) : MA.S2.add (MA.S2.add x y) z = MA.S2.add x (MA.S2.add y z) := by apply MA.S2.ext' <;> simp only [MA.S2.add] <;> omega
theorem bsum_app (M n : Nat) : ∀ as bs : List Br, bsum M n (as ++ bs) = MA.S2.add (bsum M n as) (bsum M n bs)
  | [], bs => (s2_add0 _).symm
  | a :: as, bs => by show MA.S2.add _ (bsum M n (as ++ bs)) = MA.S2.add (MA.S2.add _ _) _; rw [bsum_app M n as bs, s2_assoc]
theorem val_nou (M : Nat) : MA.val M nou = ⟨0, 0, 0, 0⟩ := MA.val_zero M
theorem nrm_nou (M : Nat) : MA.nrm (MA.val M nou) = ⟨0, 0⟩ := by rw [val_nou]; rfl
theorem sumI_zero (N : Nat) (F : Nat → Int) (h : ∀ p, p < N → F p = 0) : MA.sumI N F = 0 := by
  induction N with
  | zero => rfl
  | succ N ih => show MA.sumI N F + F N = 0; rw [ih fun p hp => h p (by omega), h N (by omega)]; rfl
theorem nsum_isN {M n : Nat} {f : Nat → Nu} (h : isN n f = true) : MA.nsum M n f = ⟨0, 0⟩ := by
  have z : ∀ p, p < 2 ^ n → f p = nou := fun p hp => (zeroN_iff _).mp (List.all_eq_true.mp h p (List.mem_range.mpr hp))
  apply MA.S2.ext'
  · exact sumI_zero _ _ fun p hp => by rw [z p hp, nrm_nou]
  · exact sumI_zero _ _ fun p hp => by rw [z p hp, nrm_nou]
theorem nsum_left (M n w : Nat) (f : Nat → Nu) : MA.S2.add (MA.nsum M n (left f w 0)) (MA.nsum M n (left f w 1)) = MA.nsum M n f := by
  have e : ∀ p, MA.S2.add (MA.nrm (MA.val M (left f w 0 p))) (MA.nrm (MA.val M (left f w 1 p))) = MA.nrm (MA.val M (f p)) := fun p => by
    have b := MA.bit_lt w p
    unfold left
    by_cases q : bit w p = 0
    · rw [if_pos q, if_neg (by omega), nrm_nou]; apply MA.S2.ext' <;> simp [MA.S2.add]
    · rw [if_neg q, if_pos (by omega), nrm_nou]; apply MA.S2.ext' <;> simp [MA.S2.add]
  apply MA.S2.ext'
  · show MA.sumI _ _ + MA.sumI _ _ = MA.sumI _ _
    rw [← MA.sumI_add]
    exact MA.sumI_congr _ fun p _ => congrArg MA.S2.p (e p)
  · show MA.sumI _ _ + MA.sumI _ _ = MA.sumI _ _
    rw [← MA.sumI_add]
    exact MA.sumI_congr _ fun p _ => congrArg MA.S2.q (e p)
theorem bsum_part (M n j : Nat) (b : Br) : bsum M n (partB n j b) = MA.nsum M n b.2 := by
  have h := nsum_left M n (wt n j) b.2
  rw [← h]
  unfold partB
  have a0 : ∀ x : MA.S2, MA.S2.add x ⟨0, 0⟩ = x := fun x => by apply MA.S2.ext' <;> simp [MA.S2.add]
  cases h0 : isN n (left b.2 (wt n j) 0) with
  | true =>
    rw [nsum_isN h0]
    cases h1 : isN n (left b.2 (wt n j) 1) with
    | true => rw [nsum_isN h1]; simp [List.filter, h0, h1, bsum, MA.S2.add]
    | false => simp only [List.filter, h0, h1, bsum, Bool.not_true, Bool.not_false, a0, s2_add0]
  | false =>
    cases h1 : isN n (left b.2 (wt n j) 1) with
    | true => rw [nsum_isN h1]; simp only [List.filter, h0, h1, bsum, Bool.not_true, Bool.not_false, a0]
    | false => simp only [List.filter, h0, h1, bsum, Bool.not_false, a0]
theorem bsum_flat (M n j : Nat) : ∀ bs : List Br, bsum M n (bs.flatMap (partB n j)) = bsum M n bs
  | [] => rfl
  | b :: bs => by rw [List.flatMap_cons, bsum_app, bsum_flat M n j bs, bsum_part]; rfl
theorem bsum_go {M n k p : Nat} (hk : k + 1 ≤ M) {r : Rw} {l : Nat} (hr : r.ok n l) : ∀ bs : List Br, (∀ b ∈ bs, Bd k p b.2) → bsum M n (bs.map (goB n r)) = bsum M n bs
  | [], _ => rfl
  | b :: bs, h => by
    have hb := h b List.mem_cons_self
    have d : ∀ q : Row, q.ok n → MA.nsum M n (doneAt n b.2 q) = MA.nsum M n b.2 := fun q hq => MA.nsum_done q hq b.2 fun x => by have := (hb x).1; omega
    have e : MA.nsum M n (goB n r b).2 = MA.nsum M n b.2 := by
      cases r with
      | pl q => exact d q hr
      | look j => rfl
      | wflip m j =>
        by_cases q : b.1[m]? = some 1
        · rw [show goB n (.wflip m j) b = (b.1, doneAt n b.2 (.flip j)) from if_pos q]; exact d _ hr.2
        · rw [show goB n (.wflip m j) b = b from if_neg q]
      | wsign m j =>
        by_cases q : b.1[m]? = some 1
        · rw [show goB n (.wsign m j) b = (b.1, doneAt n b.2 (.turn j 4)) from if_pos q]; exact d _ ⟨hr.2, by decide, by decide⟩
        · rw [show goB n (.wsign m j) b = b from if_neg q]
    show MA.S2.add (MA.nsum M n (goB n r b).2) (bsum M n (bs.map (goB n r))) = _
    rw [e, bsum_go hk hr bs fun c hc => h c (List.mem_cons_of_mem _ hc)]
    rfl
theorem thru_norm {n M : Nat} : ∀ (rs : List Rw) (l k p : Nat) (bs : List Br), okRs n l rs → BI l k p bs → k + rs.length ≤ M → bsum M n (thru n rs bs) = bsum M n bs
  | [], _, _, _, _, _, _, _ => rfl
  | r :: rs, l, k, p, bs, ho, hb, hk => by
    simp only [List.length_cons] at hk
    cases hr : r.isLook with
    | true =>
      cases r with
      | look j =>
        show bsum M n (thru n rs (bs.flatMap (partB n j))) = _
        rw [thru_norm rs (l + 1) k p _ ho.2 (hb.look n j) (by omega), bsum_flat]
      | pl r => cases hr
      | wflip m j => cases hr
      | wsign m j => cases hr
    | false =>
      have h2 := ho.2
      rw [hr] at h2
      rw [thru_go n r rs bs hr, thru_norm rs l (k + 1) (p + k + 1) _ h2 (hb.go n r) (by omega), bsum_go (by omega) ho.1 bs hb.bd]

/-! ### the run that keeps its nought branches -/
def fpart (n j : Nat) (b : Br) : List Br := [(b.1 ++ [0], left b.2 (wt n j) 0), (b.1 ++ [1], left b.2 (wt n j) 1)]
def fthru (n : Nat) : List Rw → List Br → List Br
  | [], bs => bs
  | .look j :: rs, bs => fthru n rs (bs.flatMap (fpart n j))
  | r :: rs, bs => fthru n rs (bs.map (goB n r))
def nnB (n : Nat) (b : Br) : Bool := !isN n b.2
theorem isN_nsum {M n : Nat} {f : Nat → Nu} (hl : ∀ x, MA.LeastN (f x)) (hM : ∀ x, (f x).2 ≤ M) : isN n f = true ↔ (MA.nsum M n f).p = 0 := by
  constructor
  · intro h; rw [nsum_isN h]
  · intro h
    have nn : ∀ x, 0 ≤ (MA.nrm (MA.val M (f x))).p := fun x => by
      show 0 ≤ _ * _ + _ * _ + _ * _ + _ * _
      have q : ∀ z : Int, 0 ≤ z * z := fun z => by
        rcases Int.le_total 0 z with h | h
        · exact Int.mul_nonneg h h
        · exact Int.mul_nonneg_of_nonpos_of_nonpos h h
      have := q (MA.val M (f x)).a
      have := q (MA.val M (f x)).b
      have := q (MA.val M (f x)).c
      have := q (MA.val M (f x)).d
      omega
    have all : ∀ N, MA.sumI N (fun p => (MA.nrm (MA.val M (f p))).p) = 0 → ∀ x, x < N → (MA.nrm (MA.val M (f x))).p = 0 := fun N => by
      have ps : ∀ K, 0 ≤ MA.sumI K (fun p => (MA.nrm (MA.val M (f p))).p) := fun K => by
        induction K with
        | zero => exact Int.le_refl _
        | succ K ih => show 0 ≤ MA.sumI K _ + (MA.nrm (MA.val M (f K))).p; have := nn K; omega
      induction N with
      | zero => intro _ x hx; omega
      | succ N ih =>
        intro e x hx
        have e : MA.sumI N (fun p => (MA.nrm (MA.val M (f p))).p) + (MA.nrm (MA.val M (f N))).p = 0 := e
        have := ps N
        have := nn N
        by_cases z : x = N
        · subst z; omega
        · exact ih (by omega) x (by omega)
    refine List.all_eq_true.mpr fun x hx => (zeroN_iff _).mpr ?_
    have := MA.nrm_zero (all _ h x (List.mem_range.mp hx))
    exact MA.val_inj (M := M) (hl x) (MA.one_least 0 1) (hM x) (Nat.zero_le _) (by rw [this]; exact (val_nou M).symm)
/-- what is kept of all branches: their numbers are least, and not too great -/
structure FI (k p : Nat) (bs : List Br) : Prop where
  bd : ∀ b ∈ bs, Bd k p b.2
  ls : ∀ b ∈ bs, ∀ x, MA.LeastN (b.2 x)
theorem left_least {f : Nat → Nu} (h : ∀ x, MA.LeastN (f x)) (w m x : Nat) : MA.LeastN (left f w m x) := by
  unfold left
  split
  · exact h x
  · exact MA.one_least 0 1
theorem FI.look {k p : Nat} {bs : List Br} (h : FI k p bs) (n j : Nat) : FI k p (bs.flatMap (fpart n j)) := by
  have mem : ∀ b ∈ bs.flatMap (fpart n j), ∃ a ∈ bs, ∃ m, b = (a.1 ++ [m], left a.2 (wt n j) m) := fun b hb => by
    obtain ⟨a, ha, hb⟩ := List.mem_flatMap.mp hb
    unfold fpart at hb
    simp only [List.mem_cons, List.not_mem_nil, or_false] at hb
    rcases hb with rfl | rfl
    · exact ⟨a, ha, 0, rfl⟩
    · exact ⟨a, ha, 1, rfl⟩
  refine ⟨fun b hb => ?_, fun b hb => ?_⟩
  · obtain ⟨a, ha, m, rfl⟩ := mem b hb; exact left_bd (h.bd a ha) _ _
  · obtain ⟨a, ha, m, rfl⟩ := mem b hb; exact left_least (h.ls a ha) _ _
theorem goB_or (n : Nat) (r : Rw) (b : Br) : (goB n r b = b) ∨ ∃ q : Row, goB n r b = (b.1, doneAt n b.2 q) ∧ ∀ l, r.ok n l → q.ok n := by
  cases r with
  | pl q => exact .inr ⟨q, rfl, fun _ h => h⟩
  | look j => exact .inl rfl
  | wflip m j =>
    by_cases q : b.1[m]? = some 1
    · exact .inr ⟨.flip j, if_pos q, fun _ h => h.2⟩
    · exact .inl (if_neg q)
  | wsign m j =>
    by_cases q : b.1[m]? = some 1
    · exact .inr ⟨.turn j 4, if_pos q, fun _ h => ⟨h.2, by decide, by decide⟩⟩
    · exact .inl (if_neg q)
theorem FI.go {k p : Nat} {bs : List Br} (h : FI k p bs) (n : Nat) (r : Rw) : FI (k + 1) (p + k + 1) (bs.map (goB n r)) := by
  refine ⟨fun b hb => ?_, fun b hb => ?_⟩
  · obtain ⟨a, ha, rfl⟩ := List.mem_map.mp hb
    rcases goB_or n r a with e | ⟨q, e, _⟩
    · rw [e]; exact (h.bd a ha).mono (by omega) (by omega)
    · rw [e]; exact (h.bd a ha).done n q
  · obtain ⟨a, ha, rfl⟩ := List.mem_map.mp hb
    rcases goB_or n r a with e | ⟨q, e, _⟩
    · rw [e]; exact h.ls a ha
    · rw [e]; exact MA.done_least (h.ls a ha) n q
theorem isN_go {n k p l : Nat} {b : Br} (hb : Bd k p b.2) (hl : ∀ x, MA.LeastN (b.2 x)) (r : Rw) (hr : r.ok n l) : isN n (goB n r b).2 = isN n b.2 := by
  rcases goB_or n r b with e | ⟨q, e, hq⟩
  · rw [e]
  · rw [e, Bool.eq_iff_iff, isN_nsum (M := k + 1) (MA.done_least hl n q) (fun x => (hb.done n q x).1), isN_nsum (M := k + 1) hl (fun x => by have := (hb x).1; omega), MA.nsum_done q (hq l hr) b.2 fun x => by have := (hb x).1; omega]
theorem isN_left {n : Nat} {f : Nat → Nu} (h : isN n f = true) (w m : Nat) : isN n (left f w m) = true := by
  refine List.all_eq_true.mpr fun x hx => ?_
  have := List.all_eq_true.mp h x hx
  unfold left
  split
  · exact this
  · rfl
theorem filter_part (n j : Nat) : ∀ bs : List Br, (bs.filter (nnB n)).flatMap (partB n j) = (bs.flatMap (fpart n j)).filter (nnB n)
  | [] => rfl
  | b :: bs => by
    have ih := filter_part n j bs
    rw [List.flatMap_cons, List.filter_append, ← ih]
    cases h : nnB n b with
    | true => rw [List.filter_cons_of_pos h, List.flatMap_cons]; rfl
    | false =>
      rw [List.filter_cons_of_neg (by rw [h]; decide)]
      have z : isN n b.2 = true := by unfold nnB at h; simpa using h
      have : (fpart n j b).filter (nnB n) = [] := by
        unfold fpart nnB
        simp [List.filter, isN_left z]
      rw [this, List.nil_append]
theorem filter_go {n k p l : Nat} (r : Rw) (hr : r.ok n l) : ∀ bs : List Br, FI k p bs → (bs.filter (nnB n)).map (goB n r) = (bs.map (goB n r)).filter (nnB n)
  | [], _ => rfl
  | b :: bs, h => by
    have ih := filter_go r hr bs ⟨fun c hc => h.bd c (List.mem_cons_of_mem _ hc), fun c hc => h.ls c (List.mem_cons_of_mem _ hc)⟩
    have e : nnB n (goB n r b) = nnB n b := by
      unfold nnB
      rw [isN_go (h.bd b List.mem_cons_self) (h.ls b List.mem_cons_self) r hr]
    rw [List.map_cons]
    cases q : nnB n b with
    | true => rw [List.filter_cons_of_pos q, List.map_cons, List.filter_cons_of_pos (e.trans q), ih]
    | false => rw [List.filter_cons_of_neg (by rw [q]; decide), List.filter_cons_of_neg (by rw [e, q]; decide), ih]
theorem fthru_go (n : Nat) (r : Rw) (rs : List Rw) (bs : List Br) (h : r.isLook = false) : fthru n (r :: rs) bs = fthru n rs (bs.map (goB n r)) := by
  cases r with
  | look j => cases h
  | pl r => rfl
  | wflip m j => rfl
  | wsign m j => rfl
theorem thru_filter {n : Nat} : ∀ (rs : List Rw) (l k p : Nat) (bs : List Br), okRs n l rs → FI k p bs → thru n rs (bs.filter (nnB n)) = (fthru n rs bs).filter (nnB n)
  | [], _, _, _, _, _, _ => rfl
  | r :: rs, l, k, p, bs, ho, h => by
    cases hr : r.isLook with
    | true =>
      cases r with
      | look j =>
        show thru n rs ((bs.filter (nnB n)).flatMap (partB n j)) = (fthru n rs (bs.flatMap (fpart n j))).filter (nnB n)
        rw [filter_part, thru_filter rs (l + 1) k p _ ho.2 (h.look n j)]
      | pl r => cases hr
      | wflip m j => cases hr
      | wsign m j => cases hr
    | false =>
      have h2 := ho.2
      rw [hr] at h2
      rw [thru_go n r rs _ hr, fthru_go n r rs _ hr, filter_go r ho.1 bs h, thru_filter rs l (k + 1) (p + k + 1) _ h2 (h.go n r)]
/-! ### side by side with the law's run -/

theorem one_sum {M n p : Nat} (hp : p < 2 ^ n) : MA.nsum M n (MA.oneAt p) = MA.S2.sc M ⟨1, 0⟩ := by
  have e : ∀ x, MA.nrm (MA.val M (MA.oneAt p x)) = if x = p then MA.S2.sc M ⟨1, 0⟩ else ⟨0, 0⟩ := fun x => by
    unfold MA.oneAt
    by_cases h : x = p
    · rw [if_pos h, if_pos h]; exact MA.nrm_rtn _ _
    · rw [if_neg h, if_neg h]; exact nrm_nou M
  have one : ∀ (c : Int) (N : Nat), MA.sumI N (fun x => if x = p then c else 0) = if p < N then c else 0 := fun c N => by
    induction N with
    | zero => rfl
    | succ N ih =>
      show MA.sumI N _ + (if N = p then c else 0) = _
      rw [ih]
      by_cases h : N = p
      · rw [if_pos h, if_neg (by omega), if_pos (by omega), Int.zero_add]
      · rw [if_neg h, Int.add_zero]
        by_cases h2 : p < N
        · rw [if_pos h2, if_pos (by omega)]
        · rw [if_neg h2, if_neg (by omega)]
  apply MA.S2.ext'
  · have : MA.sumI (2 ^ n) (fun x => (MA.nrm (MA.val M (MA.oneAt p x))).p) = MA.sumI (2 ^ n) (fun x => if x = p then (MA.S2.sc M ⟨1, 0⟩).p else 0) := MA.sumI_congr _ fun x _ => by rw [e x]; split <;> rfl
    exact this.trans ((one _ _).trans (if_pos hp))
  · have : MA.sumI (2 ^ n) (fun x => (MA.nrm (MA.val M (MA.oneAt p x))).q) = MA.sumI (2 ^ n) (fun x => if x = p then (MA.S2.sc M ⟨1, 0⟩).q else 0) := MA.sumI_congr _ fun x _ => by rw [e x]; split <;> rfl
    exact this.trans ((one _ _).trans (if_pos hp))

/-! ### looks put off: the state by its low bits -/
def Po (L : Nat) (F : Nat → Nu) (G : Nat → Nat → Nu) : Prop := ∀ x, F x = G (x % 2 ^ L) (x / 2 ^ L)
theorem po_hi {n L : Nat} {F : Nat → Nu} {G : Nat → Nat → Nu} (h : Po L F G) (r : Row) (hr : r.ok n) : Po L (doneAt (n + L) F r) (fun y => doneAt n (G y) r) := fun x => by
  have B : 0 < 2 ^ L := Nat.pow_pos (by decide)
  have bt : ∀ j, j < n → bit (wt (n + L) j) x = bit (wt n j) (x / 2 ^ L) := fun j hj => by rw [MA.wt_hi hj, MA.bit_hi]
  have fl : ∀ j, j < n → ∀ x, flp (wt (n + L) j) x / 2 ^ L = flp (wt n j) (x / 2 ^ L) ∧ flp (wt (n + L) j) x % 2 ^ L = x % 2 ^ L := fun j hj x => by
    rw [MA.wt_hi hj]; exact MA.flp_hi _ _ _ B (MA.wt_pos n j)
  cases r with
  | swing j =>
    have hj : j < n := hr
    show (if bit (wt (n + L) j) x = 0 then MA.halfN (MA.plusN (F x) (F (x + wt (n + L) j))) else MA.halfN (MA.plusN (F (x - wt (n + L) j)) (MA.turnN 4 (F x)))) = (if bit (wt n j) (x / 2 ^ L) = 0 then MA.halfN (MA.plusN (G (x % 2 ^ L) (x / 2 ^ L)) (G (x % 2 ^ L) (x / 2 ^ L + wt n j))) else MA.halfN (MA.plusN (G (x % 2 ^ L) (x / 2 ^ L - wt n j)) (MA.turnN 4 (G (x % 2 ^ L) (x / 2 ^ L)))))
    rw [bt j hj]
    by_cases q : bit (wt n j) (x / 2 ^ L) = 0
    · obtain ⟨a, b⟩ := MA.hi_add (2 ^ L) (wt n j) x B
      rw [if_pos q, if_pos q, h x, h (x + wt (n + L) j), MA.wt_hi hj, a, b]
    · have : wt n j ≤ x / 2 ^ L := MA.bit1_le (MA.wt_pos n j) (by have := MA.bit_lt (wt n j) (x / 2 ^ L); omega)
      obtain ⟨a, b⟩ := MA.hi_sub (2 ^ L) (wt n j) x B this
      rw [if_neg q, if_neg q, h x, h (x - wt (n + L) j), MA.wt_hi hj, a, b]
  | turn j e =>
    show MA.turnN (e * bit (wt (n + L) j) x) (F x) = MA.turnN (e * bit (wt n j) (x / 2 ^ L)) (G (x % 2 ^ L) (x / 2 ^ L))
    rw [bt j hr.1, h x]
  | sign i j =>
    show MA.turnN (4 * bit (wt (n + L) i) x * bit (wt (n + L) j) x) (F x) = MA.turnN (4 * bit (wt n i) (x / 2 ^ L) * bit (wt n j) (x / 2 ^ L)) (G (x % 2 ^ L) (x / 2 ^ L))
    rw [bt i hr.1, bt j hr.2.1, h x]
  | flip j =>
    show F (flp (wt (n + L) j) x) = G (x % 2 ^ L) (flp (wt n j) (x / 2 ^ L))
    rw [h, (fl j hr x).1, (fl j hr x).2]
  | tie i j =>
    show F (if bit (wt (n + L) i) x = 0 then x else flp (wt (n + L) j) x) = G (x % 2 ^ L) (if bit (wt n i) (x / 2 ^ L) = 0 then x / 2 ^ L else flp (wt n j) (x / 2 ^ L))
    rw [bt i hr.1]
    split
    · exact h x
    · rw [h, (fl j hr.2.1 x).1, (fl j hr.2.1 x).2]
  | cross i j =>
    show F (if bit (wt (n + L) i) x = bit (wt (n + L) j) x then x else flp (wt (n + L) j) (flp (wt (n + L) i) x)) = G (x % 2 ^ L) (if bit (wt n i) (x / 2 ^ L) = bit (wt n j) (x / 2 ^ L) then x / 2 ^ L else flp (wt n j) (flp (wt n i) (x / 2 ^ L)))
    rw [bt i hr.1, bt j hr.2.1]
    split
    · exact h x
    · rw [h, (fl j hr.2.1 _).1, (fl j hr.2.1 _).2, (fl i hr.1 x).1, (fl i hr.1 x).2]
/-- the tie that stands for a look -/
theorem po_look {n L j l : Nat} {F : Nat → Nu} {G : Nat → Nat → Nu} (h : Po L F G) (hj : j < n) (hl : l < L) : Po L (doneAt (n + L) F (.tie j (n + l))) (fun y x => if bit (wt n j) x = 0 then G y x else G (flp (wt L l) y) x) := fun x => by
  show F (if bit (wt (n + L) j) x = 0 then x else flp (wt (n + L) (n + l)) x) = if bit (wt n j) (x / 2 ^ L) = 0 then G (x % 2 ^ L) (x / 2 ^ L) else G (flp (wt L l) (x % 2 ^ L)) (x / 2 ^ L)
  rw [show bit (wt (n + L) j) x = bit (wt n j) (x / 2 ^ L) by rw [MA.wt_hi hj, MA.bit_hi], MA.wt_lo hl]
  split
  · exact h x
  · rw [h, (MA.flp_lo hl x).1, (MA.flp_lo hl x).2]
theorem po_wflip {n L j m : Nat} {F : Nat → Nu} {G : Nat → Nat → Nu} (h : Po L F G) (hj : j < n) (hm : m < L) : Po L (doneAt (n + L) F (.tie (n + m) j)) (fun y => if bit (wt L m) y = 0 then G y else doneAt n (G y) (.flip j)) := fun x => by
  have B : 0 < 2 ^ L := Nat.pow_pos (by decide)
  show F (if bit (wt (n + L) (n + m)) x = 0 then x else flp (wt (n + L) j) x) = (if bit (wt L m) (x % 2 ^ L) = 0 then G (x % 2 ^ L) else doneAt n (G (x % 2 ^ L)) (.flip j)) (x / 2 ^ L)
  rw [MA.wt_lo hm, MA.bit_lo hm]
  split
  · exact h x
  · have fl := MA.flp_hi (2 ^ L) (wt n j) x B (MA.wt_pos n j)
    rw [h, MA.wt_hi hj, fl.1, fl.2]; rfl
theorem po_wsign {n L j m : Nat} {F : Nat → Nu} {G : Nat → Nat → Nu} (h : Po L F G) (hj : j < n) (hm : m < L) : Po L (doneAt (n + L) F (.sign (n + m) j)) (fun y => if bit (wt L m) y = 0 then G y else doneAt n (G y) (.turn j 4)) := fun x => by
  show MA.turnN (4 * bit (wt (n + L) (n + m)) x * bit (wt (n + L) j) x) (F x) = (if bit (wt L m) (x % 2 ^ L) = 0 then G (x % 2 ^ L) else doneAt n (G (x % 2 ^ L)) (.turn j 4)) (x / 2 ^ L)
  rw [MA.wt_lo hm, MA.bit_lo hm, show bit (wt (n + L) j) x = bit (wt n j) (x / 2 ^ L) by rw [MA.wt_hi hj, MA.bit_hi]]
  by_cases q : bit (wt L m) (x % 2 ^ L) = 0
  · rw [if_pos q, q, h x, Nat.mul_zero, Nat.zero_mul]; rfl
  · have : bit (wt L m) (x % 2 ^ L) = 1 := by have := MA.bit_lt (wt L m) (x % 2 ^ L); omega
    rw [if_neg q, this, h x, Nat.mul_one]; rfl
theorem po_one (L p : Nat) : Po L (MA.oneAt (p * 2 ^ L)) (fun y => if y = 0 then MA.oneAt p else fun _ => nou) := fun x => by
  have B : 0 < 2 ^ L := Nat.pow_pos (by decide)
  have e := Nat.div_add_mod x (2 ^ L)
  have r := Nat.mod_lt x B
  show (if x = p * 2 ^ L then _ else _) = (if x % 2 ^ L = 0 then MA.oneAt p else fun _ => nou) (x / 2 ^ L)
  by_cases q : x % 2 ^ L = 0
  · rw [if_pos q]
    show _ = if x / 2 ^ L = p then _ else _
    by_cases w : x / 2 ^ L = p
    · rw [if_pos w, if_pos (by rw [← w]; rw [q, Nat.add_zero, Nat.mul_comm] at e; exact e.symm)]
    · rw [if_neg w, if_neg (fun z => w (by rw [z]; exact Nat.mul_div_cancel _ B))]
  · rw [if_neg q, if_neg fun z => q (by rw [z]; exact Nat.mul_mod_left _ _)]
    rfl
/-! ### nought stays nought -/
theorem half_nou : MA.halfN (MA.plusN nou nou) = nou := by rfl
theorem turn_nou (e : Nat) : MA.turnN e nou = nou := by
  have : ∀ e, MA.tnn e ⟨0, 0, 0, 0⟩ = ⟨0, 0, 0, 0⟩ := fun e => by
    induction e with
    | zero => rfl
    | succ e ih => show MA.Q4.tn (MA.tnn e _) = _; rw [ih]; rfl
  show ((MA.tnn (e % 8) ⟨0, 0, 0, 0⟩, 0) : Nu) = _
  rw [this]; rfl
theorem done_nou (n : Nat) (r : Row) : doneAt n (fun _ => nou) r = fun _ => nou := funext fun x => by
  cases r with
  | swing j =>
    show (if _ then MA.halfN (MA.plusN nou nou) else MA.halfN (MA.plusN nou (MA.turnN 4 nou))) = nou
    rw [turn_nou, half_nou]; split <;> rfl
  | turn j e => exact turn_nou _
  | sign i j => exact turn_nou _
  | flip j => rfl
  | tie i j => rfl
  | cross i j => rfl

/-! ### all branches, told by the low bits -/
def bitsL : Nat → Nat → List Nat
  | 0, _ => []
  | l + 1, v => bitsL l (v / 2) ++ [v % 2]
theorem bitsL_len : ∀ l v, (bitsL l v).length = l
  | 0, _ => rfl
  | l + 1, v => by rw [bitsL, List.length_append, bitsL_len l]; rfl
theorem bitsL_get : ∀ (l v m : Nat), m < l → (bitsL l v)[m]? = some (bit (wt l m) v)
  | l + 1, v, m, h => by
    rw [bitsL]
    by_cases q : m < l
    · rw [List.getElem?_append_left (by rw [bitsL_len]; exact q), bitsL_get l (v / 2) m q]
      have e : wt (l + 1) m = wt l m * 2 := by have := MA.wt_hi (n := l) (m := 1) q; rwa [Nat.pow_one] at this
      rw [e, MA.bit_hi]
    · have e : m = l := by omega
      subst e
      rw [List.getElem?_append_right (by rw [bitsL_len]; exact Nat.le_refl _), bitsL_len, Nat.sub_self]
      have : wt (m + 1) m = 1 := by unfold MA.wt; rw [show m + 1 - 1 - m = 0 by omega]
      rw [this]
      unfold MA.bit
      rw [Nat.div_one]
      rfl
theorem range_two {α : Type} (h : Nat → α) : ∀ N, (List.range N).flatMap (fun v => [h (2 * v), h (2 * v + 1)]) = (List.range (2 * N)).map h
  | 0 => rfl
  | N + 1 => by
    rw [List.range_succ, List.flatMap_append, range_two h N, show 2 * (N + 1) = 2 * N + 1 + 1 by omega, List.range_succ, List.range_succ]
    simp
structure PO (n L l : Nat) (bs : List Br) (G : Nat → Nat → Nu) : Prop where
  eq : bs = (List.range (2 ^ l)).map fun v => (bitsL l v, G (v * 2 ^ (L - l)))
  off : ∀ y, y % 2 ^ (L - l) ≠ 0 → G y = fun _ => nou
theorem PO.look {n L l j : Nat} {bs : List Br} {G : Nat → Nat → Nu} (h : PO n L l bs G) (hl : l < L) : PO n L (l + 1) (bs.flatMap (fpart n j)) (fun y x => if bit (wt n j) x = 0 then G y x else G (flp (wt L l) y) x) := by
  have e2 : 2 ^ (L - l) = 2 * wt L l := by
    unfold MA.wt
    rw [show L - l = L - 1 - l + 1 by omega, Nat.pow_succ, Nat.mul_comm]
  have e1 : 2 ^ (L - (l + 1)) = wt L l := by unfold MA.wt; rw [show L - (l + 1) = L - 1 - l by omega]
  have wp := MA.wt_pos L l
  have off := h.off
  rw [e2] at off
  refine ⟨?_, fun y hy => ?_⟩
  · rw [h.eq, List.flatMap_map, e2, e1, Nat.pow_succ, Nat.mul_comm (2 ^ l) 2, ← range_two]
    congr 1
    funext v
    have m1 : 2 * v * wt L l = v * (2 * wt L l) := by rw [Nat.mul_comm 2 v, Nat.mul_assoc]
    have b0 : bit (wt L l) (2 * v * wt L l) = 0 := by unfold MA.bit; rw [Nat.mul_div_cancel _ wp]; omega
    have b1 : bit (wt L l) ((2 * v + 1) * wt L l) = 1 := by unfold MA.bit; rw [Nat.mul_div_cancel _ wp]; omega
    have m2 : (2 * v + 1) * wt L l = v * (2 * wt L l) + wt L l := by rw [Nat.add_mul, m1, Nat.one_mul]
    have f0 : flp (wt L l) (2 * v * wt L l) = v * (2 * wt L l) + wt L l := by unfold MA.flp; rw [if_pos b0, m1]
    have f1 : flp (wt L l) ((2 * v + 1) * wt L l) = v * (2 * wt L l) := by unfold MA.flp; rw [if_neg (by rw [b1]; decide), m2]; omega
    have z : G (v * (2 * wt L l) + wt L l) = fun _ => nou := off _ (by rw [Nat.mul_comm v, Nat.mul_add_mod, Nat.mod_eq_of_lt (by omega)]; omega)
    unfold fpart
    have c0 : bitsL (l + 1) (2 * v) = bitsL l v ++ [0] := by
      rw [bitsL, show 2 * v / 2 = v by omega, show 2 * v % 2 = 0 by omega]
    have c1 : bitsL (l + 1) (2 * v + 1) = bitsL l v ++ [1] := by
      rw [bitsL, show (2 * v + 1) / 2 = v by omega, show (2 * v + 1) % 2 = 1 by omega]
    rw [c0, c1]
    have g0 : left (G (v * (2 * wt L l))) (wt n j) 0 = fun x => if bit (wt n j) x = 0 then G (2 * v * wt L l) x else G (flp (wt L l) (2 * v * wt L l)) x := funext fun x => by
      unfold left
      rw [f0, z, m1]
    have g1 : left (G (v * (2 * wt L l))) (wt n j) 1 = fun x => if bit (wt n j) x = 0 then G ((2 * v + 1) * wt L l) x else G (flp (wt L l) ((2 * v + 1) * wt L l)) x := funext fun x => by
      unfold left
      rw [f1, m2, z]
      have := MA.bit_lt (wt n j) x
      by_cases q : bit (wt n j) x = 0
      · rw [if_pos q, if_neg (by omega)]
      · rw [if_neg q, if_pos (by omega)]
    rw [g0, g1]
  · rw [e1] at hy
    have n1 : y % (2 * wt L l) ≠ 0 := fun z => hy (by
      have := Nat.mod_mod_of_dvd y (show wt L l ∣ 2 * wt L l from ⟨2, Nat.mul_comm _ _⟩)
      rw [z] at this
      rw [← this]; exact Nat.zero_mod _)
    have n2 : flp (wt L l) y % (2 * wt L l) ≠ 0 := fun z => by
      have a : flp (wt L l) y % wt L l = 0 := by
        have := Nat.mod_mod_of_dvd (flp (wt L l) y) (show wt L l ∣ 2 * wt L l from ⟨2, Nat.mul_comm _ _⟩)
        rw [z] at this
        rw [← this]; exact Nat.zero_mod _
      apply hy
      unfold MA.flp at a
      split at a
      · rwa [Nat.add_mod_right] at a
      · rename_i q
        have : wt L l ≤ y := MA.bit1_le wp (by have := MA.bit_lt (wt L l) y; omega)
        rw [← Nat.sub_add_cancel this, Nat.add_mod_right]
        exact a
    funext x
    show (if _ then _ else _) = nou
    rw [off y n1, off _ n2]
    split <;> rfl
theorem PO.go {n L l : Nat} {bs : List Br} {G : Nat → Nat → Nu} (h : PO n L l bs G) (r : Rw) (G' : Nat → Nat → Nu) (hv : ∀ v, goB n r (bitsL l v, G (v * 2 ^ (L - l))) = (bitsL l v, G' (v * 2 ^ (L - l)))) (hz : ∀ y, G y = (fun _ => nou) → G' y = fun _ => nou) : PO n L l (bs.map (goB n r)) G' := by
  refine ⟨?_, fun y hy => hz y (h.off y hy)⟩
  rw [h.eq, List.map_map]
  exact List.map_congr_left fun v _ => hv v
theorem mark_bit {L l m v : Nat} (hm : m < l) (hl : l ≤ L) : bit (wt L m) (v * 2 ^ (L - l)) = bit (wt l m) v := by
  have e := MA.wt_hi (n := l) (m := L - l) hm
  rw [show l + (L - l) = L by omega] at e
  rw [e, MA.bit_hi, Nat.mul_div_cancel _ (Nat.pow_pos (by decide))]
theorem PO.wh {n L l m : Nat} {bs : List Br} {G : Nat → Nat → Nu} (h : PO n L l bs G) (hm : m < l) (hl : l ≤ L) (r : Rw) (q : Row) (hg : ∀ b : Br, goB n r b = if b.1[m]? = some 1 then (b.1, doneAt n b.2 q) else b) : PO n L l (bs.map (goB n r)) (fun y => if bit (wt L m) y = 0 then G y else doneAt n (G y) q) := by
  refine h.go r _ (fun v => ?_) fun y z => ?_
  · rw [hg]
    show (if (bitsL l v)[m]? = some 1 then _ else _) = _
    rw [bitsL_get l v m hm]
    show _ = (bitsL l v, if bit (wt L m) (v * 2 ^ (L - l)) = 0 then G (v * 2 ^ (L - l)) else doneAt n (G (v * 2 ^ (L - l))) q)
    rw [mark_bit hm hl]
    have := MA.bit_lt (wt l m) v
    by_cases w : bit (wt l m) v = 0
    · rw [if_pos w, if_neg (by rw [w]; decide)]
    · rw [if_neg w, if_pos (by congr 1; omega)]
  · show (if _ then _ else _) = _
    rw [z, done_nou]
    split <;> rfl
def poRows (n : Nat) : Nat → List Rw → List Row
  | _, [] => []
  | l, .look j :: rs => .tie j (n + l) :: poRows n (l + 1) rs
  | l, .pl r :: rs => r :: poRows n l rs
  | l, .wflip m j :: rs => .tie (n + m) j :: poRows n l rs
  | l, .wsign m j :: rs => .sign (n + m) j :: poRows n l rs
def doneR (n : Nat) : (Nat → Nu) → List Row → Nat → Nu
  | f, [] => f
  | f, r :: rs => doneR n (doneAt n f r) rs
def lkN (rs : List Rw) : Nat := (rs.filter Rw.isLook).length
theorem po_run {n L : Nat} : ∀ (rs : List Rw) (l : Nat) (bs : List Br) (F : Nat → Nu) (G : Nat → Nat → Nu), okRs n l rs → l + lkN rs = L → PO n L l bs G → Po L F G → ∃ G', PO n L L (fthru n rs bs) G' ∧ Po L (doneR (n + L) F (poRows n l rs)) G'
  | [], l, bs, F, G, _, e, h, g => by
    have : l = L := e
    subst this
    exact ⟨G, h, g⟩
  | .look j :: rs, l, bs, F, G, ho, e, h, g => by
    have e' : l + 1 + lkN rs = L := by
      have : lkN (Rw.look j :: rs) = lkN rs + 1 := rfl
      omega
    exact po_run rs (l + 1) _ _ _ ho.2 e' (h.look (by omega)) (po_look g ho.1.1 (by omega))
  | .pl r :: rs, l, bs, F, G, ho, e, h, g => po_run rs l _ _ _ ho.2 e (h.go (.pl r) (fun y => doneAt n (G y) r) (fun v => rfl) fun y z => by show doneAt n (G y) r = _; rw [z, done_nou]) (po_hi g r ho.1)
  | .wflip m j :: rs, l, bs, F, G, ho, e, h, g => po_run rs l _ _ _ ho.2 e (h.wh ho.1.1 (by omega) (.wflip m j) (.flip j) fun _ => rfl) (po_wflip g ho.1.2 (by have := ho.1.1; omega))
  | .wsign m j :: rs, l, bs, F, G, ho, e, h, g => po_run rs l _ _ _ ho.2 e (h.wh ho.1.1 (by omega) (.wsign m j) (.turn j 4) fun _ => rfl) (po_wsign g ho.1.2 (by have := ho.1.1; omega))
theorem po_start (n L p : Nat) : PO n L 0 [([], MA.oneAt p)] (fun y => if y = 0 then MA.oneAt p else fun _ => nou) := ⟨by simp [bitsL], fun y hy => if_neg fun z => hy (by rw [z]; exact Nat.zero_mod _)⟩

/-! ### the looks behind all rows -/
def cutY (L l v : Nat) (F : Nat → Nu) : Nat → Nu := fun x => if x % 2 ^ L / 2 ^ (L - l) = v then F x else nou
def looksAt (n l m : Nat) : List Rw := (List.range' l m).map fun i => Rw.look (n + i)
theorem cut_left {n L l v m : Nat} (hl : l < L) (hm : m < 2) (F : Nat → Nu) : left (cutY L l v F) (wt (n + L) (n + l)) m = cutY L (l + 1) (2 * v + m) F := funext fun x => by
  have e2 : 2 ^ (L - l) = wt L l * 2 := by
    unfold MA.wt
    rw [show L - l = L - 1 - l + 1 by omega, Nat.pow_succ]
  have e1 : 2 ^ (L - (l + 1)) = wt L l := by unfold MA.wt; rw [show L - (l + 1) = L - 1 - l by omega]
  unfold left cutY
  rw [MA.wt_lo hl, MA.bit_lo hl, e1, e2, ← Nat.div_div_eq_div_mul]
  unfold MA.bit
  generalize x % 2 ^ L / wt L l = q
  by_cases a : q % 2 = m
  · rw [if_pos a]
    by_cases b : q / 2 = v
    · rw [if_pos b, if_pos (by omega)]
    · rw [if_neg b, if_neg (by omega)]
  · rw [if_neg a, if_neg (by omega)]
theorem cut_run {n L : Nat} (F : Nat → Nu) : ∀ (m l : Nat), l + m = L → fthru (n + L) (looksAt n l m) ((List.range (2 ^ l)).map fun v => (bitsL l v, cutY L l v F)) = (List.range (2 ^ L)).map fun v => (bitsL L v, cutY L L v F)
  | 0, l, e => by
    have : l = L := e
    subst this
    rfl
  | m + 1, l, e => by
    have st : ((List.range (2 ^ l)).map fun v => ((bitsL l v, cutY L l v F) : Br)).flatMap (fpart (n + L) (n + l)) = (List.range (2 ^ (l + 1))).map fun v => (bitsL (l + 1) v, cutY L (l + 1) v F) := by
      rw [List.flatMap_map, Nat.pow_succ, Nat.mul_comm (2 ^ l) 2, ← range_two]
      congr 1
      funext v
      unfold fpart
      have c0 : bitsL (l + 1) (2 * v) = bitsL l v ++ [0] := by
        rw [bitsL, show 2 * v / 2 = v by omega, show 2 * v % 2 = 0 by omega]
      have c1 : bitsL (l + 1) (2 * v + 1) = bitsL l v ++ [1] := by
        rw [bitsL, show (2 * v + 1) / 2 = v by omega, show (2 * v + 1) % 2 = 1 by omega]
      rw [c0, c1]
      have g0 := cut_left (n := n) (v := v) (m := 0) (show l < L by omega) (by decide) F
      have g1 := cut_left (n := n) (v := v) (m := 1) (show l < L by omega) (by decide) F
      show [(bitsL l v ++ [0], left (cutY L l v F) (wt (n + L) (n + l)) 0), (bitsL l v ++ [1], left (cutY L l v F) (wt (n + L) (n + l)) 1)] = _
      rw [g0, g1]
      rfl
    have r := cut_run (n := n) (L := L) F m (l + 1) (by omega)
    rw [← st] at r
    exact r
theorem cut_all (n L : Nat) (F : Nat → Nu) : fthru (n + L) (looksAt n 0 L) [([], F)] = (List.range (2 ^ L)).map fun v => (bitsL L v, cutY L L v F) := by
  have r := cut_run (n := n) (L := L) F L 0 (by omega)
  have e : ((List.range (2 ^ 0)).map fun v => ((bitsL 0 v, cutY L 0 v F) : Br)) = [([], F)] := by
    have : cutY L 0 0 F = F := funext fun x => by
      unfold cutY
      rw [Nat.sub_zero, if_pos (Nat.div_eq_of_lt (Nat.mod_lt _ (Nat.pow_pos (by decide))))]
    simp [bitsL, this]
  rw [e] at r
  exact r
theorem cut_po {L v : Nat} {F : Nat → Nu} {G : Nat → Nat → Nu} (h : Po L F G) : cutY L L v F = fun x => if x % 2 ^ L = v then G v (x / 2 ^ L) else nou := funext fun x => by
  unfold cutY
  rw [Nat.sub_self, Nat.pow_zero, Nat.div_one]
  by_cases q : x % 2 ^ L = v
  · rw [if_pos q, if_pos q, h x, q]
  · rw [if_neg q, if_neg q]
def resY (L v : Nat) (g : Nat → Nu) : Nat → Nu := fun x => if x % 2 ^ L = v then g (x / 2 ^ L) else nou
theorem res_isN {n L v : Nat} (hv : v < 2 ^ L) (g : Nat → Nu) : isN (n + L) (resY L v g) = isN n g := by
  have B : 0 < 2 ^ L := Nat.pow_pos (by decide)
  unfold isN
  rw [Bool.eq_iff_iff, List.all_eq_true, List.all_eq_true]
  constructor
  · intro h x hx
    have hx := List.mem_range.mp hx
    have := h (x * 2 ^ L + v) (List.mem_range.mpr (by
      rw [Nat.pow_add]
      have : (x + 1) * 2 ^ L ≤ 2 ^ n * 2 ^ L := Nat.mul_le_mul_right _ hx
      rw [Nat.add_mul, Nat.one_mul] at this
      omega))
    unfold resY at this
    rw [Nat.mul_comm x, Nat.mul_add_mod, Nat.mod_eq_of_lt hv, if_pos rfl, Nat.mul_add_div B, Nat.div_eq_of_lt hv, Nat.add_zero] at this
    exact this
  · intro h x hx
    have hx := List.mem_range.mp hx
    unfold resY
    split
    · exact h _ (List.mem_range.mpr (by rw [Nat.div_lt_iff_lt_mul B, ← Nat.pow_add]; exact hx))
    · rfl
theorem sum_at (c : Int) (v : Nat) : ∀ N : Nat, MA.sumI N (fun x => if x = v then c else 0) = if v < N then c else 0 := fun N => by
  induction N with
  | zero => rfl
  | succ N ih =>
    show MA.sumI N _ + (if N = v then c else 0) = _
    rw [ih]
    by_cases h : N = v
    · rw [if_pos h, if_neg (by omega), if_pos (by omega), Int.zero_add]
    · rw [if_neg h, Int.add_zero]
      by_cases h2 : v < N
      · rw [if_pos h2, if_pos (by omega)]
      · rw [if_neg h2, if_neg (by omega)]
theorem res_sum {L v M n : Nat} (hv : v < 2 ^ L) (g : Nat → Nu) (H : MA.Q4 → Int) (h0 : H ⟨0, 0, 0, 0⟩ = 0) : MA.sumI (2 ^ (n + L)) (fun x => H (MA.val M (resY L v g x))) = MA.sumI (2 ^ n) (fun x => H (MA.val M (g x))) := by
  have B : 0 < 2 ^ L := Nat.pow_pos (by decide)
  rw [Nat.pow_add, MA.sumI_mul]
  refine MA.sumI_congr _ fun q _ => ?_
  have e : MA.sumI (2 ^ L) (fun r => H (MA.val M (resY L v g (q * 2 ^ L + r)))) = MA.sumI (2 ^ L) (fun r => if r = v then H (MA.val M (g q)) else 0) := MA.sumI_congr _ fun r hr => by
    unfold resY
    rw [Nat.mul_comm q, Nat.mul_add_mod, Nat.mod_eq_of_lt hr, Nat.mul_add_div B, Nat.div_eq_of_lt hr, Nat.add_zero]
    by_cases w : r = v
    · rw [if_pos w, if_pos w]
    · rw [if_neg w, if_neg w, val_nou, h0]
  rw [e, sum_at, if_pos hv]
theorem res_nsum {L v M n : Nat} (hv : v < 2 ^ L) (g : Nat → Nu) : MA.nsum M (n + L) (resY L v g) = MA.nsum M n g := by
  apply MA.S2.ext'
  · exact res_sum hv g (fun x => (MA.nrm x).p) rfl
  · exact res_sum hv g (fun x => (MA.nrm x).q) rfl

theorem thru_bi {n : Nat} : ∀ (rs : List Rw) (l k p : Nat) (bs : List Br), okRs n l rs → BI l k p bs → ∃ k' p', BI (l + (rs.filter Rw.isLook).length) k' p' (thru n rs bs)
  | [], l, k, p, bs, _, h => ⟨k, p, h⟩
  | r :: rs, l, k, p, bs, ho, h => by
    cases hr : r.isLook with
    | true =>
      cases r with
      | look j =>
        obtain ⟨k', p', e⟩ := thru_bi rs (l + 1) k p _ ho.2 (h.look n j)
        refine ⟨k', p', ?_⟩
        rw [List.filter_cons_of_pos hr, List.length_cons, show l + ((rs.filter Rw.isLook).length + 1) = l + 1 + (rs.filter Rw.isLook).length by omega]
        exact e
      | pl r => cases hr
      | wflip m j => cases hr
      | wsign m j => cases hr
    | false =>
      have ho2 := ho.2
      rw [hr] at ho2
      obtain ⟨k', p', e⟩ := thru_bi rs l (k + 1) (p + k + 1) _ ho2 (h.go n r)
      refine ⟨k', p', ?_⟩
      rw [List.filter_cons_of_neg (by rw [hr]; decide), thru_go n r rs bs hr]
      exact e
theorem bi0 (p : Nat) : BI 0 0 0 [(([] : List Nat), MA.oneAt p)] := ⟨fun b hb => by simp only [List.mem_cons, List.not_mem_nil, or_false] at hb; subst hb; rfl, fun b hb => by simp only [List.mem_cons, List.not_mem_nil, or_false] at hb; subst hb; exact one_bd p, Nat.le_refl _⟩
theorem brs_bi {n : Nat} (p : Nat) (rs : List Rw) (ho : okRs n 0 rs) : ∃ k' p', BI (rs.filter Rw.isLook).length k' p' (brs n p rs) := by
  obtain ⟨k', p', e⟩ := thru_bi rs 0 0 0 _ ho (bi0 p)
  rw [Nat.zero_add] at e
  exact ⟨k', p', e⟩
theorem looks_six {n : Nat} : ∀ (rs : List Rw) (l : Nat), okRs n l rs → l ≤ 6 → l + (rs.filter Rw.isLook).length ≤ 6
  | [], l, _, h => by simpa using h
  | r :: rs, l, ho, h => by
    cases hr : r.isLook with
    | true =>
      cases r with
      | look j =>
        have := looks_six rs (l + 1) ho.2 (by have := ho.1.2; omega)
        rw [List.filter_cons_of_pos hr, List.length_cons]
        omega
      | pl r => cases hr
      | wflip m j => cases hr
      | wsign m j => cases hr
    | false =>
      have h2 := ho.2
      rw [hr] at h2
      rw [List.filter_cons_of_neg (by rw [hr]; decide)]
      exact looks_six rs l h2 h

/-! ### shares told -/
def wh (n : Nat) (b : Br) : D := (g_whole [stD n b.2]).getD .none
def shD (n : Nat) (b : Br) : D := .tuple [.tuple (b.1.map fun m => PyData.int (m : Nat)), wh n b]
theorem wh_eq {n k p M : Nat} (hn : n ≤ 6) {b : Br} (hb : Bd k p b.2) (hl : ∀ x, MA.LeastN (b.2 x)) (hk : k ≤ M) (hM : M ≤ 300) (hp : p ≤ 90000) : g_whole [stD n b.2] = some (wh n b) ∧ Vs 300000 k (wh n b) (MA.nsum M n b.2) M := by
  obtain ⟨t, e, v⟩ := whole_st (M := M) (r := k) hn hl (fun q => (hb q).2) (fun q => (hb q).1) hk (by omega) hp
  have : wh n b = t := by unfold wh; rw [e]; rfl
  rw [this]
  exact ⟨e, v⟩
theorem ms_x (C : D) (p : Int) (n : Nat) (bs : List Br) (hl : bs.length ≤ 1000) (h : g_branches [C, .int p] = some (.list (bs.map (brD n)))) (hw : ∀ b ∈ bs, g_whole [stD n b.2] = some (wh n b)) : g_mark_shares [C, .int p] = some (.list (bs.map (shD n))) := by
  have e : p1_mark_shares [.fz C, .fz (.int p)] = some (.list (bs.map (shD n))) := comp_map (h := brD n) (k := shD n) (xs := bs) (by simp [h]) (by omega) fun b hb => by
    have b0 : ixD (brD n b) (.int 0) = some (.tuple (b.1.map fun m => PyData.int (m : Nat))) := rfl
    have b1 : ixD (brD n b) (.int 1) = some (stD n b.2) := rfl
    have w := hw b hb
    simp [capS, b0, b1, w, shD]
  simp [g_mark_shares, runB, b_mark_shares, startD, e]

/-! ### both runs -/
theorem fthru_app (n : Nat) : ∀ (as bs : List Rw) (cs : List Br), fthru n (as ++ bs) cs = fthru n bs (fthru n as cs)
  | [], _, _ => rfl
  | .look j :: as, bs, cs => fthru_app n as bs _
  | .pl r :: as, bs, cs => fthru_app n as bs _
  | .wflip m j :: as, bs, cs => fthru_app n as bs _
  | .wsign m j :: as, bs, cs => fthru_app n as bs _
theorem fthru_pl (n : Nat) : ∀ (rs : List Row) (f : Nat → Nu), fthru n (rs.map Rw.pl) [([], f)] = [([], doneR n f rs)]
  | [], _ => rfl
  | r :: rs, f => fthru_pl n rs (doneAt n f r)
theorem fi_thru {n : Nat} : ∀ (rs : List Rw) (k p : Nat) (bs : List Br), FI k p bs → ∃ k' p', k' ≤ k + rs.length ∧ p' ≤ p + (k + rs.length + 1) * rs.length ∧ FI k' p' (fthru n rs bs)
  | [], k, p, bs, h => ⟨k, p, Nat.le_refl _, Nat.le_refl _, h⟩
  | r :: rs, k, p, bs, h => by
    have big : ∀ k', k' ≤ k + 1 → (k' + rs.length + 1) * rs.length + (k + 1) ≤ (k + (rs.length + 1) + 1) * (rs.length + 1) := fun k' hk => by
      have h1 : (k' + rs.length + 1) * rs.length ≤ (k + (rs.length + 1) + 1) * rs.length := Nat.mul_le_mul_right _ (by omega)
      rw [Nat.mul_add, Nat.mul_one]
      omega
    cases hr : r.isLook with
    | true =>
      cases r with
      | look j =>
        obtain ⟨k', p', a, b, c⟩ := fi_thru rs k p _ (h.look n j)
        refine ⟨k', p', by simp only [List.length_cons]; omega, ?_, c⟩
        have := big k (by omega)
        simp only [List.length_cons]
        omega
      | pl r => cases hr
      | wflip m j => cases hr
      | wsign m j => cases hr
    | false =>
      obtain ⟨k', p', a, b, c⟩ := fi_thru rs (k + 1) (p + k + 1) _ (h.go n r)
      rw [fthru_go n r rs bs hr]
      refine ⟨k', p', by simp only [List.length_cons]; omega, ?_, c⟩
      have := big (k + 1) (by omega)
      simp only [List.length_cons]
      omega
theorem fi0 (p : Nat) : FI 0 0 [(([] : List Nat), MA.oneAt p)] := ⟨fun b hb => by simp only [List.mem_cons, List.not_mem_nil, or_false] at hb; subst hb; exact one_bd p, fun b hb => by simp only [List.mem_cons, List.not_mem_nil, or_false] at hb; subst hb; exact MA.one_least p⟩
theorem brs_full {n p : Nat} (hp : p < 2 ^ n) (rs : List Rw) (ho : okRs n 0 rs) : brs n p rs = (fthru n rs [([], MA.oneAt p)]).filter (nnB n) := by
  have f0 : [(([] : List Nat), MA.oneAt p)].filter (nnB n) = [([], MA.oneAt p)] := by
    have : nnB n (([] : List Nat), MA.oneAt p) = true := by
      unfold nnB
      cases q : isN n (MA.oneAt p) with
      | false => rfl
      | true =>
        have := (zeroN_iff _).mp (List.all_eq_true.mp q p (List.mem_range.mpr hp))
        unfold MA.oneAt at this
        rw [if_pos rfl] at this
        cases this
    rw [List.filter_cons_of_pos this]; rfl
  have tf := thru_filter (n := n) rs 0 0 0 [([], MA.oneAt p)] ho (fi0 p)
  rw [f0] at tf
  exact tf
def poAll (n L : Nat) (rs : List Rw) : List Rw := (poRows n 0 rs).map Rw.pl ++ looksAt n 0 L
theorem lk_cons (r : Rw) (rs : List Rw) : lkN (r :: rs) = lkN rs + (if r.isLook then 1 else 0) := by
  cases q : r.isLook <;> simp [lkN, List.filter_cons, q]
theorem poRows_ok {n L : Nat} : ∀ (rs : List Rw) (l : Nat), okRs n l rs → l + lkN rs ≤ L → ∀ r ∈ poRows n l rs, r.ok (n + L)
  | [], _, _, _ => fun r hr => (nomatch hr)
  | .look j :: rs, l, ho, e => fun r hr => by
    have e' := lk_cons (.look j) rs
    simp only [Rw.isLook, if_true] at e'
    have hj := ho.1.1
    rcases List.mem_cons.mp hr with rfl | hr
    · exact ⟨by omega, by omega, by omega⟩
    · exact poRows_ok rs (l + 1) ho.2 (by omega) r hr
  | .pl q :: rs, l, ho, e => fun r hr => by
    rcases List.mem_cons.mp hr with rfl | hr
    · exact MA.Row.ok_more ho.1
    · exact poRows_ok rs l ho.2 e r hr
  | .wflip m j :: rs, l, ho, e => fun r hr => by
    have h1 := ho.1.1
    have h2 := ho.1.2
    rcases List.mem_cons.mp hr with rfl | hr
    · exact ⟨by omega, by omega, by omega⟩
    · exact poRows_ok rs l ho.2 e r hr
  | .wsign m j :: rs, l, ho, e => fun r hr => by
    have h1 := ho.1.1
    have h2 := ho.1.2
    rcases List.mem_cons.mp hr with rfl | hr
    · exact ⟨by omega, by omega, by omega⟩
    · exact poRows_ok rs l ho.2 e r hr
theorem poRows_len (n : Nat) : ∀ (rs : List Rw) (l : Nat), (poRows n l rs).length = rs.length
  | [], _ => rfl
  | .look j :: rs, l => congrArg (· + 1) (poRows_len n rs (l + 1))
  | .pl q :: rs, l => congrArg (· + 1) (poRows_len n rs l)
  | .wflip m j :: rs, l => congrArg (· + 1) (poRows_len n rs l)
  | .wsign m j :: rs, l => congrArg (· + 1) (poRows_len n rs l)
theorem looksAt_ok {n L : Nat} : ∀ (m l : Nat), l + m = L → L ≤ 6 → okRs (n + L) l (looksAt n l m)
  | 0, _, _, _ => trivial
  | m + 1, l, e, h => ⟨⟨by show n + l < n + L; omega, by omega⟩, looksAt_ok m (l + 1) (by omega) h⟩
theorem pl_ok {w : Nat} : ∀ (rs : List Row) (bs : List Rw) (l : Nat), (∀ r ∈ rs, r.ok w) → okRs w l bs → okRs w l (rs.map Rw.pl ++ bs)
  | [], _, _, _, h => h
  | r :: rs, bs, l, hr, h => ⟨hr r List.mem_cons_self, pl_ok rs bs l (fun q hq => hr q (List.mem_cons_of_mem _ hq)) h⟩
theorem poAll_ok {n L : Nat} (rs : List Rw) (ho : okRs n 0 rs) (e : lkN rs = L) (h : L ≤ 6) : okRs (n + L) 0 (poAll n L rs) :=
  pl_ok _ _ 0 (poRows_ok rs 0 ho (by omega)) (looksAt_ok L 0 (by omega) h)
theorem two_runs {n L p : Nat} (hp : p < 2 ^ n) (rs : List Rw) (ho : okRs n 0 rs) (e : lkN rs = L) (h6 : L ≤ 6) : ∃ G : Nat → Nat → Nu,
    fthru n rs [([], MA.oneAt p)] = ((List.range (2 ^ L)).map fun v => (bitsL L v, G v)) ∧ fthru (n + L) (poAll n L rs) [([], MA.oneAt (p * 2 ^ L))] = ((List.range (2 ^ L)).map fun v => (bitsL L v, resY L v (G v))) := by
  obtain ⟨G, po, pf⟩ := po_run (L := L) rs 0 _ _ _ ho (by omega) (po_start n L p) (po_one L p)
  refine ⟨G, ?_, ?_⟩
  · rw [po.eq]
    exact List.map_congr_left fun v _ => by rw [Nat.sub_self, Nat.pow_zero, Nat.mul_one]
  · unfold poAll
    rw [fthru_app, fthru_pl, cut_all]
    exact List.map_congr_left fun v _ => by rw [cut_po pf]; rfl
theorem filter_maps {α β γ : Type} (f : α → β) (g : α → γ) (P : β → Bool) (Q : γ → Bool) (s : β → D) (t : γ → D) : ∀ l : List α, (∀ a ∈ l, P (f a) = Q (g a)) → (∀ a ∈ l, P (f a) = true → s (f a) = t (g a)) → ((l.map f).filter P).map s = ((l.map g).filter Q).map t
  | [], _, _ => rfl
  | a :: l, h, k => by
    have ih := filter_maps f g P Q s t l (fun b hb => h b (List.mem_cons_of_mem _ hb)) fun b hb => k b (List.mem_cons_of_mem _ hb)
    have h1 := h a List.mem_cons_self
    rw [List.map_cons, List.map_cons]
    cases q : P (f a) with
    | true =>
      rw [List.filter_cons_of_pos q, List.filter_cons_of_pos (by rw [← h1]; exact q), List.map_cons, List.map_cons, ih, k a List.mem_cons_self q]
    | false => rw [List.filter_cons_of_neg (by rw [q]; decide), List.filter_cons_of_neg (by rw [← h1, q]; decide), ih]
/-- the shares are told alike -/
theorem shares_same {n L p : Nat} (hn : n + L ≤ 6) (hp : p < 2 ^ n) (rs : List Rw) (ho : okRs n 0 rs) (e : lkN rs = L) (hl : rs.length ≤ 20) : (brs n p rs).map (shD n) = (brs (n + L) (p * 2 ^ L) (poAll n L rs)).map (shD (n + L)) := by
  have hp' : p * 2 ^ L < 2 ^ (n + L) := by rw [Nat.pow_add]; exact Nat.mul_lt_mul_of_pos_right hp (Nat.pow_pos (by decide))
  obtain ⟨G, g1, g2⟩ := two_runs hp rs ho e (by omega)
  have ok2 := poAll_ok rs ho e (by omega)
  have pl : (poAll n L rs).length ≤ 26 := by
    unfold poAll looksAt
    rw [List.length_append, List.length_map, poRows_len, List.length_map, List.length_range']
    omega
  obtain ⟨k1, q1, b1, b2, f1⟩ := fi_thru (n := n) rs 0 0 _ (fi0 p)
  obtain ⟨k2, q2, c1, c2, f2⟩ := fi_thru (n := n + L) (poAll n L rs) 0 0 _ (fi0 (p * 2 ^ L))
  have m1 : (0 + rs.length + 1) * rs.length ≤ 30 * 30 := Nat.mul_le_mul (by omega) (by omega)
  have m2 : (0 + (poAll n L rs).length + 1) * (poAll n L rs).length ≤ 30 * 30 := Nat.mul_le_mul (by omega) (by omega)
  rw [brs_full hp rs ho, brs_full hp' _ ok2]
  rw [g1] at f1 ⊢
  rw [g2] at f2 ⊢
  refine filter_maps _ _ _ _ _ _ _ (fun v hv => ?_) fun v hv _ => ?_
  · show (!isN n (G v)) = (!isN (n + L) (resY L v (G v)))
    rw [res_isN (List.mem_range.mp hv)]
  · have w1 := (wh_eq (n := n) (M := 60) (by omega) (f1.bd _ (List.mem_map.mpr ⟨v, hv, rfl⟩)) (f1.ls _ (List.mem_map.mpr ⟨v, hv, rfl⟩)) (by omega) (by omega) (by omega)).2
    have w2 := (wh_eq (n := n + L) (M := 60) hn (f2.bd _ (List.mem_map.mpr ⟨v, hv, rfl⟩)) (f2.ls _ (List.mem_map.mpr ⟨v, hv, rfl⟩)) (by omega) (by omega) (by omega)).2
    have w : wh n (bitsL L v, G v) = wh (n + L) (bitsL L v, resY L v (G v)) := w1.one w2 (by
      show MA.S2.sc 60 (MA.nsum 60 n (G v)) = MA.S2.sc 60 (MA.nsum 60 (n + L) (resY L v (G v)))
      rw [res_nsum (List.mem_range.mp hv)])
    show PyData.tuple [.tuple _, wh n (bitsL L v, G v)] = PyData.tuple [.tuple _, wh (n + L) (bitsL L v, resY L v (G v))]
    rw [w]

/-! ### put_off itself -/
theorem rw_kind (r : Rw) : ∃ s : Str, ixD (rwD r) (.int 0) = some (.str s) ∧ eqD (.str s) (.str "look") = some (.bool r.isLook) ∧ eqD (.str s) (.str "where") = some (.bool (!r.isLook && !r.isPl)) := by
  cases r with
  | pl r => cases r <;> exact ⟨_, at0 _ _, by simp [Rw.isLook], by simp [Rw.isLook, Rw.isPl]⟩
  | look j => exact ⟨_, at0 _ _, by simp [Rw.isLook], by simp [Rw.isLook, Rw.isPl]⟩
  | wflip m j => exact ⟨_, at0 _ _, by simp [Rw.isLook], by simp [Rw.isLook, Rw.isPl]⟩
  | wsign m j => exact ⟨_, at0 _ _, by simp [Rw.isLook], by simp [Rw.isLook, Rw.isPl]⟩
theorem looks_cd (w : Nat) (rs : List Rw) (hl : rs.length ≤ 100000) : g_looks_in [circD w rs] = some (.int (lkN rs : Nat)) := by
  have e : p1_looks_in [.fz (circD w rs)] = some (.list ((rs.filter Rw.isLook).map rwD)) := compI_map (h := rwD) (b := Rw.isLook) (by simp [circD]) (by omega) (fun r _ => by
    obtain ⟨s, h0, h1, _⟩ := rw_kind r
    simp [capS, h0, h1]) fun r _ _ => by simp
  simp [g_looks_in, runB, b_looks_in, startD, e, lkN]
theorem wpo_x (R I : D) (n m j : Int) (s : Str) (b : Bool) (r1 : ixD R (.int 1) = some (.int m)) (r2 : ixD R (.int 2) = some I) (i0 : ixD I (.int 0) = some (.str s)) (i1 : ixD I (.int 1) = some (.int j)) (e : eqD (.str s) (.str "flip") = some (.bool b)) : g_where_put_off [R, .int n] = some (.tuple [.str (if b then "tie" else "sign"), .int (n + m), .int j]) := by
  cases b <;> simp [g_where_put_off, runB, b_where_put_off, startD, oIf, r1, r2, i0, i1, e]
theorem rpo_look (z0 : Sl) (R : D) (ds : List D) (n k j : Int) (r0 : ixD R (.int 0) = some (.str "look")) (r1 : ixD R (.int 1) = some (.int j)) (hs : ds.length < sizeLine) : l1_rows_put_off [z0, .fz (.int n), .ow ds, .fz (.int k), .fz R] = some (.nx, [z0, .fz (.int n), .ow (ds ++ [.tuple [.str "tie", .int j, .int (n + k)]]), .fz (.int (k + 1)), .fz R]) := by
  simp [-sSeq, -sIf, sSeq_k, sIf_k, l1_rows_put_off, r0, r1, hs]
theorem rpo_where (z0 z3 : Sl) (R Y : D) (ds : List D) (n : Int) (r0 : ixD R (.int 0) = some (.str "where")) (h : g_where_put_off [R, .int n] = some Y) (hs : ds.length < sizeLine) : l1_rows_put_off [z0, .fz (.int n), .ow ds, z3, .fz R] = some (.nx, [z0, .fz (.int n), .ow (ds ++ [Y]), z3, .fz R]) := by
  simp [-sSeq, -sIf, sSeq_k, sIf_k, l1_rows_put_off, r0, h, hs]
theorem rpo_pl (z0 z1 z3 : Sl) (R : D) (ds : List D) (s : Str) (r0 : ixD R (.int 0) = some (.str s)) (e1 : eqD (.str s) (.str "look") = some (.bool false)) (e2 : eqD (.str s) (.str "where") = some (.bool false)) (hs : ds.length < sizeLine) : l1_rows_put_off [z0, z1, .ow ds, z3, .fz R] = some (.nx, [z0, z1, .ow (ds ++ [R]), z3, .fz R]) := by
  simp [-sSeq, -sIf, sSeq_k, sIf_k, l1_rows_put_off, r0, e1, e2, hs]
theorem rpo_loop (n : Nat) (z0 : Sl) : ∀ (rs : List Rw) (l : Nat) (ds : List D) (z4 : Sl), ds.length + rs.length ≤ 1000 → ∃ y3 y4, loop (gN 4) l1_rows_put_off (rs.map rwD) [z0, .fz (.int (n : Nat)), .ow ds, .fz (.int (l : Nat)), z4] = some (.nx, [z0, .fz (.int (n : Nat)), .ow (ds ++ (poRows n l rs).map rowD), y3, y4])
  | [], l, ds, z4, _ => ⟨.fz (.int (l : Nat)), z4, by simp [poRows]⟩
  | r :: rs, l, ds, z4, hs => by
    simp only [List.length_cons] at hs
    have hl : ds.length < sizeLine := by show _ < 16777216; omega
    have go : ∀ (q : Row) (l' : Nat), poRows n l (r :: rs) = q :: poRows n l' rs → l1_rows_put_off [z0, .fz (.int (n : Nat)), .ow ds, .fz (.int (l : Nat)), .fz (rwD r)] = some (.nx, [z0, .fz (.int (n : Nat)), .ow (ds ++ [rowD q]), .fz (.int (l' : Nat)), .fz (rwD r)]) → ∃ y3 y4, loop (gN 4) l1_rows_put_off ((r :: rs).map rwD) [z0, .fz (.int (n : Nat)), .ow ds, .fz (.int (l : Nat)), z4] = some (.nx, [z0, .fz (.int (n : Nat)), .ow (ds ++ (poRows n l (r :: rs)).map rowD), y3, y4]) := fun q l' e st => by
      obtain ⟨y3, y4, lp⟩ := rpo_loop n z0 rs l' (ds ++ [rowD q]) (.fz (rwD r)) (by rw [List.length_append, List.length_singleton]; omega)
      refine ⟨y3, y4, ?_⟩
      rw [List.map_cons, loop_step (δ1 := [z0, .fz (.int (n : Nat)), .ow ds, .fz (.int (l : Nat)), .fz (rwD r)]) (by simp) st, lp, e]
      simp
    cases r with
    | look j => exact go (.tie j (n + l)) (l + 1) rfl (rpo_look z0 _ ds n l j (at0 _ _) (at1 _ _ _) hl)
    | pl q =>
      obtain ⟨s, h0, h1, h2⟩ := rw_kind (.pl q)
      exact go q l rfl (rpo_pl z0 _ _ _ ds s h0 h1 h2 hl)
    | wflip m j => exact go (.tie (n + m) j) l rfl (rpo_where z0 _ _ _ ds n (at0 _ _) (wpo_x _ _ n m j "flip" true (at1 _ _ _) (at2 _ _ _ _) (at0 _ _) (at1 _ _ _) (by simp)) hl)
    | wsign m j => exact go (.sign (n + m) j) l rfl (rpo_where z0 _ _ _ ds n (at0 _ _) (wpo_x _ _ n m j "turn" false (at1 _ _ _) (at2 _ _ _ _) (at0 _ _) (at1 _ _ _) (by simp)) hl)
theorem rpo_x (R W : D) (L ds : List D) (y3 y4 : Sl) (it : itsD R = some L) (lp : loop (gN 4) l1_rows_put_off L [.fz R, .fz W, .ow [], .fz (.int 0), .un] = some (.nx, [.fz R, .fz W, .ow ds, y3, y4])) : g_rows_put_off [R, W] = some (.list ds) := by
  simp [-sSeq, -sIf, sSeq_k, sIf_k, g_rows_put_off, runB, b_rows_put_off, startD, it, lp, dFz]
theorem rpo_eq (n : Nat) (rs : List Rw) (hl : rs.length ≤ 1000) : g_rows_put_off [.tuple (rs.map rwD), .int (n : Nat)] = some (.list ((poRows n 0 rs).map rowD)) := by
  obtain ⟨y3, y4, lp⟩ := rpo_loop n (.fz (.tuple (rs.map rwD))) rs 0 [] .un (by simp; omega)
  rw [List.nil_append] at lp
  exact rpo_x _ _ _ _ y3 y4 rfl lp
theorem rng6 (l : Nat) (h6 : l ≤ 6) : rng1D [.int ((l : Nat) : Int)] = some ((List.range l).map fun k : Nat => PyData.int (0 + (k : Int))) := rng1D_int (j := (l : Int)) (by omega) (by omega)
theorem po_i (z0 z1 z3 : Sl) (L : D) (R : List D) (rg : rng1D [L] = some R) : (oL (oCons (oV 2) (oNil)) rng1D) [z0, z1, .fz L, z3] = some R := by
  simp [rg]
theorem po_e (n k : Int) : (VL.os (oCons (oC (.str "look")) (oCons (o2 (oV 1) (oV 0) addD) (oNil))) tupD) [.fz (.int k), .fz (.int n)] = some (.tuple [.str "look", .int (n + k)]) := by
  simp
theorem po_p1 (z0 z3 : Sl) (n : Int) (L : Nat) (hN : L ≤ 16777216) (i : (oL (oCons (oV 2) (oNil)) rng1D) [z0, .fz (.int n), .fz (.int (L : Nat)), z3] = some ((List.range L).map fun k : Nat => PyData.int (0 + (k : Int)))) : p1_put_off [z0, .fz (.int n), .fz (.int (L : Nat)), z3] = some (.list ((List.range L).map fun k : Nat => .tuple [.str "look", .int (n + (k : Int))])) :=
  comp_r0 (N := L) (y := fun k : Nat => PyData.tuple [.str "look", .int (n + (k : Int))]) i hN fun k _ => po_e n k
theorem po_x (C R : D) (n L K : Int) (As Bs : List D) (c0 : ixD C (.int 0) = some (.int n)) (c1 : ixD C (.int 1) = some R) (lk : g_looks_in [C] = some (.int L)) (h6 : ¬ n + L > 6) (ln : lenD [R] = some (.int K)) (h60 : ¬ K + L > 60) (p1 : ∀ z3, p1_put_off [.fz C, .fz (.int n), .fz (.int L), z3] = some (.list Bs)) (rp : g_rows_put_off [R, .int n] = some (.list As)) (ad : addD (.list As) (.list Bs) = some (.list (As ++ Bs))) : g_put_off [C] = some (.tuple [.int (n + L), .tuple (As ++ Bs)]) := by
  have h6' : ¬ 6 < n + L := h6
  have h60' : ¬ 60 < K + L := h60
  simp [-sSeq, -sIf, sSeq_k, sIf_k, g_put_off, runB, b_put_off, startD, c0, c1, lk, h6', ln, h60', p1, rp, ad]
theorem put_eq {n L : Nat} (hn : n + L ≤ 6) (rs : List Rw) (e : lkN rs = L) (hl : rs.length ≤ 20) : g_put_off [circD n rs] = some (circD (n + L) (poAll n L rs)) := by
  have lk := looks_cd n rs (by omega)
  rw [e] at lk
  have p1 := fun z3 => po_p1 (.fz (circD n rs)) z3 n L (by omega) (po_i _ _ _ _ _ (rng6 L (by omega)))
  have x := po_x (circD n rs) (.tuple (rs.map rwD)) n L (rs.length : Nat) _ _ (at0 _ _) (at1 _ _ _) lk (by omega) (by show some (PyData.int ((rs.map rwD).length : Nat)) = _; rw [List.length_map]) (by omega) p1 (rpo_eq n rs (by omega)) (if_pos (by rw [List.length_map, List.length_map, List.length_range, poRows_len]; show _ ≤ 16777216; omega))
  have em : (poRows n 0 rs).map rowD ++ (List.range L).map (fun k : Nat => PyData.tuple [.str "look", .int ((n : Int) + (k : Int))]) = (poAll n L rs).map rwD := by
    unfold poAll looksAt
    rw [List.map_append, List.map_map, List.map_map, List.range_eq_range']
    rfl
  rw [em] at x
  exact x

/-! ### the law's rows -/
theorem lr_swap (c : Int) (w j k : Int) (hw : w = 1) (hk : 2 < k) (h6 : c % 6 = k) (hj : modD (.int (c / 6)) (.int w) = some (.int j)) (r : D) (h : ∀ b : Int, b = k % 2 → (b = 0 → r = .tuple [.str "swing", .int j]) ∧ (b = 1 → r = .tuple [.str "turn", .int j, .int (1 + c / 18 % 7)])) : g__law_row [.int c, .int w] = some r := by
  obtain ⟨a, b⟩ := h (k % 2) rfl
  rcases (by omega : k % 2 = 0 ∨ k % 2 = 1) with q | q
  · have r' := a q
    subst r' hw
    have e : atI [PyData.str "swing", .str "", .str "flip"] 0 = some (.str "swing") := rfl
    simp [-sSeq, -sIf, sSeq_k, sIf_k, g__law_row, runB, b__law_row, startD, h6, hj, hk, q, e]
  · have r' := b q
    subst r' hw
    simp [-sSeq, -sIf, sSeq_k, sIf_k, g__law_row, runB, b__law_row, startD, h6, hj, hk, q]
theorem lr_turn (c w j : Int) (h6 : c % 6 = 1) (hj : modD (.int (c / 6)) (.int w) = some (.int j)) : g__law_row [.int c, .int w] = some (.tuple [.str "turn", .int j, .int (1 + c / 18 % 7)]) := by
  have t : (oAnd (ob (o2 (oV 1) (oC (.int 1)) eqD)) (ob (o2 (oV 2) (oC (.int 2)) gtD))) [.fz (.int c), .fz (.int w), .fz (.int 1), .fz (.int j), .un] = some false := by
    by_cases q : w = 1 <;> simp [q]
  simp [-sSeq, -sIf, sSeq_k, sIf_k, g__law_row, runB, b__law_row, startD, h6, hj, t]
theorem lr_one (c w j k : Int) (s : Str) (h6 : c % 6 = k) (hk : k = 0 ∨ k = 2) (hj : modD (.int (c / 6)) (.int w) = some (.int j)) (hs : atI [PyData.str "swing", .str "", .str "flip"] k = some (.str s)) : g__law_row [.int c, .int w] = some (.tuple [.str s, .int j]) := by
  have t : (oAnd (ob (o2 (oV 1) (oC (.int 1)) eqD)) (ob (o2 (oV 2) (oC (.int 2)) gtD))) [.fz (.int c), .fz (.int w), .fz (.int k), .fz (.int j), .un] = some false := by
    have : ¬ 2 < k := by omega
    by_cases q : w = 1 <;> simp [q, this]
  have n1 : ¬ k = 1 := by omega
  rcases hk with rfl | rfl
  · simp [-sSeq, -sIf, sSeq_k, sIf_k, g__law_row, runB, b__law_row, startD, h6, hj, t, hs]
  · simp [-sSeq, -sIf, sSeq_k, sIf_k, g__law_row, runB, b__law_row, startD, h6, hj, t, hs]
theorem lr_two (c w j k m i : Int) (s : Str) (h6 : c % 6 = k) (hw : ¬ w = 1) (hk : 2 < k) (hj : modD (.int (c / 6)) (.int w) = some (.int j)) (hm : modD (.int (c / 18)) (.int (w - 1)) = some (.int m)) (hi : modD (.int (j + 1 + m)) (.int w) = some (.int i)) (hs : atI [PyData.str "tie", .str "sign", .str "cross"] (k - 3) = some (.str s)) : g__law_row [.int c, .int w] = some (.tuple [.str s, .int i, .int j]) := by
  have n1 : ¬ k = 1 := by omega
  have n0 : ¬ k = 0 := by omega
  have n2 : ¬ k = 2 := by omega
  simp [-sSeq, -sIf, sSeq_k, sIf_k, g__law_row, runB, b__law_row, startD, h6, hj, hw, n1, n0, n2, hm, hi, hs]
theorem mod_nat (a : Int) (w : Nat) (h : 1 ≤ w) : ∃ m : Nat, m < w ∧ modD (.int a) (.int (w : Nat)) = some (.int (m : Nat)) ∧ a % (w : Int) = m := by
  have h0 : (0 : Int) < w := by omega
  have b1 := Int.emod_nonneg a (show (w : Int) ≠ 0 by omega)
  have b2 := Int.emod_lt_of_pos a h0
  refine ⟨(a % (w : Int)).toNat, by omega, ?_, by omega⟩
  rw [modD_int h0]
  congr 2
  omega
theorem lrow_ok (c : Int) (w : Nat) (hw : 1 ≤ w) : ∃ r : Row, g__law_row [.int c, .int (w : Nat)] = some (rowD r) ∧ r.ok w := by
  obtain ⟨j, hj, ej, _⟩ := mod_nat (c / 6) w hw
  obtain ⟨e, he, e7⟩ : ∃ e : Nat, 1 + c / 18 % 7 = (e : Int) ∧ 1 ≤ e ∧ e ≤ 7 := ⟨(1 + c / 18 % 7).toNat, by omega, by omega, by omega⟩
  have tk : Row.ok w (.turn j e) := ⟨hj, e7.1, e7.2⟩
  have k6 : 0 ≤ c % 6 ∧ c % 6 < 6 := by omega
  by_cases h1 : c % 6 = 1
  · exact ⟨.turn j e, by rw [lr_turn c w j h1 ej, he]; rfl, tk⟩
  by_cases h0 : c % 6 = 0
  · exact ⟨.swing j, lr_one c w j 0 "swing" h0 (.inl rfl) ej rfl, hj⟩
  by_cases h2 : c % 6 = 2
  · exact ⟨.flip j, lr_one c w j 2 "flip" h2 (.inr rfl) ej rfl, hj⟩
  by_cases hw1 : w = 1
  · rcases (by omega : c % 6 % 2 = 0 ∨ c % 6 % 2 = 1) with q | q
    · exact ⟨.swing j, lr_swap c w j (c % 6) (by omega) (by omega) rfl ej _ fun b hb => ⟨fun _ => rfl, fun z => by omega⟩, hj⟩
    · exact ⟨.turn j e, lr_swap c w j (c % 6) (by omega) (by omega) rfl ej _ fun b hb => ⟨fun z => by omega, fun _ => by rw [he]; rfl⟩, tk⟩
  · obtain ⟨m, hm, em, _⟩ := mod_nat (c / 18) (w - 1) (by omega)
    have ew : ((w - 1 : Nat) : Int) = (w : Int) - 1 := by omega
    rw [ew] at em
    obtain ⟨i, hi, ei, ei2⟩ := mod_nat ((j : Int) + 1 + (m : Int)) w hw
    have ne : i ≠ j := fun z => by
      subst z
      have : ((i : Int) + 1 + m) % w = i := ei2
      by_cases q : (i : Int) + 1 + m < w
      · rw [Int.emod_eq_of_lt (by omega) q] at this; omega
      · have : ((i : Int) + 1 + m - w) % w = i := by rw [Int.sub_emod_right]; exact ei2
        rw [Int.emod_eq_of_lt (by omega) (by omega)] at this
        omega
    have r2 : ∀ s : Str, atI [PyData.str "tie", .str "sign", .str "cross"] (c % 6 - 3) = some (.str s) → g__law_row [.int c, .int (w : Nat)] = some (.tuple [.str s, .int (i : Nat), .int (j : Nat)]) := fun s hs => lr_two c w j (c % 6) m i s rfl (by omega) (by omega) ej em ei hs
    rcases (by omega : c % 6 = 3 ∨ c % 6 = 4 ∨ c % 6 = 5) with q | q | q
    · exact ⟨.tie i j, r2 "tie" (by rw [q]; rfl), hi, hj, ne⟩
    · exact ⟨.sign i j, r2 "sign" (by rw [q]; rfl), hi, hj, ne⟩
    · exact ⟨.cross i j, r2 "cross" (by rw [q]; rfl), hi, hj, ne⟩

theorem rs_look (z0 : Sl) (ds : List D) (c w m l j : Int) (z6 z7 z8 : Sl) (h5 : c % 5 = 3) (hl : l < m) (hj : modD (.int (c / 5)) (.int w) = some (.int j)) (hs : ds.length < sizeLine) : l1__law_rows [z0, .fz (.int w), .fz (.int m), .ow ds, .fz (.int l), .fz (.int c), z6, z7, z8] = some (.nx, [z0, .fz (.int w), .fz (.int m), .ow (ds ++ [.tuple [.str "look", .int j]]), .fz (.int (l + 1)), .fz (.int c), .fz (.int 3), .fz (.int (c / 5)), z8]) := by
  simp [-sSeq, -sIf, sSeq_k, sIf_k, l1__law_rows, h5, hl, hj, hs]
theorem rs_where (z0 : Sl) (ds : List D) (c w m l j q : Int) (I : D) (z6 z7 z8 : Sl) (h5 : c % 5 = 4) (hl : 0 < l) (hj : modD (.int (c / 5 / 2)) (.int w) = some (.int j)) (hq : modD (.int (c / 5 / 6)) (.int l) = some (.int q)) (hi : atI [PyData.tuple [.str "flip", .int j], .tuple [.str "turn", .int j, .int 4]] (c / 5 % 2) = some I) (hs : ds.length < sizeLine) : l1__law_rows [z0, .fz (.int w), .fz (.int m), .ow ds, .fz (.int l), .fz (.int c), z6, z7, z8] = some (.nx, [z0, .fz (.int w), .fz (.int m), .ow (ds ++ [.tuple [.str "where", .int q, I]]), .fz (.int l), .fz (.int c), .fz (.int 4), .fz (.int (c / 5)), .fz I]) := by
  simp [-sSeq, -sIf, sSeq_k, sIf_k, l1__law_rows, h5, hl, hj, hq, hi, hs]
theorem rs_else (z0 : Sl) (ds : List D) (c w m l k : Int) (R : D) (z6 z7 z8 : Sl) (hk : c % 5 = k) (h3 : ¬ (k = 3 ∧ l < m)) (h4 : ¬ (k = 4 ∧ 0 < l)) (hr : g__law_row [.int (c / 5), .int w] = some R) (hs : ds.length < sizeLine) : l1__law_rows [z0, .fz (.int w), .fz (.int m), .ow ds, .fz (.int l), .fz (.int c), z6, z7, z8] = some (.nx, [z0, .fz (.int w), .fz (.int m), .ow (ds ++ [R]), .fz (.int l), .fz (.int c), .fz (.int k), .fz (.int (c / 5)), z8]) := by
  by_cases q : k = 3
  · have n : ¬ l < m := fun z => h3 ⟨q, z⟩
    subst q
    simp [-sSeq, -sIf, sSeq_k, sIf_k, l1__law_rows, hk, n, hr, hs]
  · by_cases p : k = 4
    · have n : ¬ 0 < l := fun z => h4 ⟨p, z⟩
      subst p
      simp [-sSeq, -sIf, sSeq_k, sIf_k, l1__law_rows, hk, n, hr, hs]
    · simp [-sSeq, -sIf, sSeq_k, sIf_k, l1__law_rows, hk, q, p, hr, hs]
theorem rs_loop (w m : Nat) (hw : 1 ≤ w) (hm : m ≤ 6) (z0 : Sl) : ∀ (cs : List Int) (l : Nat) (ds : List D) (z5 z6 z7 z8 : Sl), l ≤ m → ds.length + cs.length ≤ 1000 → ∃ rs : List Rw, rs.length = cs.length ∧ okRs w l rs ∧ l + lkN rs ≤ m ∧ ∃ y4 y5 y6 y7 y8, loop (gN 5) l1__law_rows (cs.map .int) [z0, .fz (.int (w : Nat)), .fz (.int (m : Nat)), .ow ds, .fz (.int (l : Nat)), z5, z6, z7, z8] = some (.nx, [z0, .fz (.int (w : Nat)), .fz (.int (m : Nat)), .ow (ds ++ rs.map rwD), y4, y5, y6, y7, y8])
  | [], l, ds, z5, z6, z7, z8, h, _ => ⟨[], rfl, trivial, by simpa [lkN] using h, _, z5, z6, z7, z8, by rw [List.map_nil, List.map_nil, List.append_nil]; rfl⟩
  | c :: cs, l, ds, z5, z6, z7, z8, h, hs => by
    simp only [List.length_cons] at hs
    have hl : ds.length < sizeLine := by show _ < 16777216; omega
    have go : ∀ (r : Rw) (l' : Nat) (w6 w7 w8 : Sl), r.ok w l → l' = l + (if r.isLook then 1 else 0) → l' ≤ m → l1__law_rows [z0, .fz (.int (w : Nat)), .fz (.int (m : Nat)), .ow ds, .fz (.int (l : Nat)), .fz (.int c), z6, z7, z8] = some (.nx, [z0, .fz (.int (w : Nat)), .fz (.int (m : Nat)), .ow (ds ++ [rwD r]), .fz (.int (l' : Nat)), .fz (.int c), w6, w7, w8]) → ∃ rs : List Rw, rs.length = cs.length + 1 ∧ okRs w l rs ∧ l + lkN rs ≤ m ∧ ∃ y4 y5 y6 y7 y8, loop (gN 5) l1__law_rows ((c :: cs).map .int) [z0, .fz (.int (w : Nat)), .fz (.int (m : Nat)), .ow ds, .fz (.int (l : Nat)), z5, z6, z7, z8] = some (.nx, [z0, .fz (.int (w : Nat)), .fz (.int (m : Nat)), .ow (ds ++ rs.map rwD), y4, y5, y6, y7, y8]) := fun r l' w6 w7 w8 hok el hm' st => by
      obtain ⟨rs, r1, r2, r3, y4, y5, y6, y7, y8, lp⟩ := rs_loop w m hw hm z0 cs l' (ds ++ [rwD r]) (.fz (.int c)) w6 w7 w8 hm' (by rw [List.length_append, List.length_singleton]; omega)
      have e := lk_cons r rs
      refine ⟨r :: rs, by simp only [List.length_cons]; omega, ⟨hok, el ▸ r2⟩, by omega, y4, y5, y6, y7, y8, ?_⟩
      rw [List.map_cons, loop_step (δ1 := [z0, .fz (.int (w : Nat)), .fz (.int (m : Nat)), .ow ds, .fz (.int (l : Nat)), .fz (.int c), z6, z7, z8]) (by simp) st, lp]
      simp
    simp only [List.length_cons]
    by_cases h3 : c % 5 = 3 ∧ (l : Int) < m
    · obtain ⟨j, hj, ej, _⟩ := mod_nat (c / 5) w hw
      exact go (.look j) (l + 1) _ _ _ ⟨hj, by omega⟩ rfl (by omega) (rs_look z0 ds c w m l j z6 z7 z8 h3.1 h3.2 ej hl)
    · by_cases h4 : c % 5 = 4 ∧ (0 : Int) < l
      · obtain ⟨j, hj, ej, _⟩ := mod_nat (c / 5 / 2) w hw
        obtain ⟨q, hq, eq, _⟩ := mod_nat (c / 5 / 6) l (by omega)
        rcases (by omega : c / 5 % 2 = 0 ∨ c / 5 % 2 = 1) with b | b
        · exact go (.wflip q j) l _ _ _ ⟨hq, hj⟩ rfl h (rs_where z0 ds c w m l j q _ z6 z7 z8 h4.1 h4.2 ej eq (by rw [b]; rfl) hl)
        · exact go (.wsign q j) l _ _ _ ⟨hq, hj⟩ rfl h (rs_where z0 ds c w m l j q _ z6 z7 z8 h4.1 h4.2 ej eq (by rw [b]; rfl) hl)
      · obtain ⟨r, er, hr⟩ := lrow_ok (c / 5) w hw
        exact go (.pl r) l _ _ _ hr rfl h (rs_else z0 ds c w m l (c % 5) _ z6 z7 z8 rfl h3 h4 er hl)
theorem rs_x (C W M : D) (L ds : List D) (y4 y5 y6 y7 y8 : Sl) (it : itsD C = some L) (lp : loop (gN 5) l1__law_rows L [.fz C, .fz W, .fz M, .ow [], .fz (.int 0), .un, .un, .un, .un] = some (.nx, [.fz C, .fz W, .fz M, .ow ds, y4, y5, y6, y7, y8])) : g__law_rows [C, W, M] = some (.tuple ds) := by
  simp [-sSeq, -sIf, sSeq_k, sIf_k, g__law_rows, runB, b__law_rows, startD, it, lp, dFz]
theorem rows_ok (w m : Nat) (hw : 1 ≤ w) (hm : m ≤ 6) (cs : List Int) (hl : cs.length ≤ 1000) : ∃ rs : List Rw, rs.length = cs.length ∧ okRs w 0 rs ∧ lkN rs ≤ m ∧ g__law_rows [.list (cs.map .int), .int (w : Nat), .int (m : Nat)] = some (.tuple (rs.map rwD)) := by
  obtain ⟨rs, r1, r2, r3, y4, y5, y6, y7, y8, lp⟩ := rs_loop w m hw hm (.fz (.list (cs.map .int))) cs 0 [] .un .un .un .un (Nat.zero_le _) (by simp; omega)
  rw [List.nil_append] at lp
  exact ⟨rs, r1, r2, by omega, rs_x _ _ _ _ _ y4 y5 y6 y7 y8 rfl lp⟩
theorem llooks_eq (rs : List Rw) (hl : rs.length ≤ 1000) : g__law_looks [.tuple (rs.map rwD)] = some (.int (lkN rs : Nat)) := by
  have e : p1__law_looks [.fz (.tuple (rs.map rwD))] = some (.list ((rs.filter Rw.isLook).map rwD)) := compI_map (h := rwD) (b := Rw.isLook) (by simp) (by omega) (fun r _ => by
    obtain ⟨s, h0, h1, _⟩ := rw_kind r
    simp [capS, h0, h1]) fun r _ _ => by simp
  simp [g__law_looks, runB, b__law_looks, startD, e, lkN]
/-! ### the marks are carried -/

/-! ### numbers of the size one are turns -/
theorem irr : ∀ (m : Nat) (p q : Int), q.natAbs ≤ m → p * p = 2 * (q * q) → q = 0
  | 0, p, q, h, _ => by omega
  | m + 1, p, q, h, e => by
    have par : p % 2 = 0 := by
      have h2 : p * p % 2 = 0 := by rw [e]; omega
      rw [Int.mul_emod] at h2
      rcases (by omega : p % 2 = 0 ∨ p % 2 = 1) with z | z
      · exact z
      · rw [z] at h2; omega
    obtain ⟨r, rfl⟩ : ∃ r, p = 2 * r := ⟨p / 2, by omega⟩
    have e2 : q * q = 2 * (r * r) := by
      have : 2 * r * (2 * r) = 2 * (2 * (r * r)) := by grind
      rw [this] at e
      omega
    by_cases z : q = 0
    · exact z
    · have lt : r.natAbs ≤ m := by
        apply Nat.le_of_lt_succ
        apply Nat.lt_of_not_le
        intro ge
        have g1 : q.natAbs * q.natAbs ≤ r.natAbs * r.natAbs := Nat.mul_le_mul (by omega) (by omega)
        have g2 : q.natAbs * q.natAbs = 2 * (r.natAbs * r.natAbs) := by
          rw [← Int.natAbs_mul, ← Int.natAbs_mul, e2, Int.natAbs_mul]
          rfl
        have g3 : 0 < q.natAbs * q.natAbs := Nat.mul_pos (by omega) (by omega)
        omega
      have r0 := irr m q r lt e2
      subst r0
      have : q * q = 0 := by rw [e2]; rfl
      exact (Int.mul_eq_zero.mp this).elim id id
def nN (s : MA.S2) : Int := s.p * s.p - 2 * (s.q * s.q)
theorem nN_ne {s : MA.S2} (h : s.p ≠ 0) : nN s ≠ 0 := fun z => by
  have e : s.p * s.p = 2 * (s.q * s.q) := by unfold nN at z; omega
  have q0 := irr s.q.natAbs s.p s.q (Nat.le_refl _) e
  rw [q0] at e
  exact h ((Int.mul_eq_zero.mp e).elim id id)
theorem S2_cancel {s t t' : MA.S2} (hs : s.p ≠ 0) (h : MA.S2.mul s t = MA.S2.mul s t') : t = t' := by
  have n0 := nN_ne hs
  have h1 : s.p * t.p + 2 * s.q * t.q = s.p * t'.p + 2 * s.q * t'.q := congrArg MA.S2.p h
  have h2 : s.p * t.q + s.q * t.p = s.p * t'.q + s.q * t'.p := congrArg MA.S2.q h
  apply MA.S2.ext'
  · refine Int.eq_of_mul_eq_mul_left n0 ?_
    unfold nN
    grind
  · refine Int.eq_of_mul_eq_mul_left n0 ?_
    unfold nN
    grind
theorem nrm_ne {u : MA.Q4} (h : u ≠ ⟨0, 0, 0, 0⟩) : (MA.nrm u).p ≠ 0 := fun z => h (MA.nrm_zero z)

/-! ### the product of two states -/
open MA (Row.on)
def tf (m : Nat) (f g : Nat → Nu) : Nat → Nu := fun x => MA.timesN (f (x / 2 ^ m)) (g (x % 2 ^ m))
theorem tf_le {m k1 k2 p1 p2 : Nat} {f g : Nat → Nu} (hf : Bd k1 p1 f) (hg : Bd k2 p2 g) (x : Nat) : (tf m f g x).2 ≤ k1 + k2 := by
  have := MA.timesN_le (f (x / 2 ^ m)) (g (x % 2 ^ m))
  have := (hf (x / 2 ^ m)).1
  have := (hg (x % 2 ^ m)).1
  unfold tf
  omega
theorem tf_ten {m M : Nat} {f g : Nat → Nu} (hf : ∀ x, (f x).2 ≤ M) (hg : ∀ x, (g x).2 ≤ M) : MA.Ten m (M + M) M f g (tf m f g) := fun x => MA.val_times (hf _) (hg _)
theorem tf_hi {n m k1 k2 p1 p2 : Nat} {f g : Nat → Nu} (hf : Bd k1 p1 f) (hg : Bd k2 p2 g) (r : Row) (hr : r.ok n) : doneAt (n + m) (tf m f g) r = tf m (doneAt n f r) g := funext fun x => by
  have t := tf_ten (m := m) (M := k1 + k2 + 1) (f := f) (g := g) (fun x => by have := (hf x).1; omega) (fun x => by have := (hg x).1; omega)
  have b : Bd (k1 + k2) (p1 + p2 + 2) (tf m f g) := fun x => ⟨tf_le hf hg x, MA.timesQ_le (hf _).2 (hg _).2⟩
  have t2 := t.hi (n := n) (fun x => by have := (b x).1; omega) (fun x => by have := (hf x).1; omega) r hr
  exact t2.eq (MA.done_least (fun x => MA.times_least _ _) (n + m) r) (fun x => by have := (hf.done n r x).1; omega) (fun x => by have := (hg x).1; omega) (fun x => by have := (b.done (n + m) r x).1; omega) x
theorem tf_lo {n m k1 k2 p1 p2 : Nat} {f g : Nat → Nu} (hf : Bd k1 p1 f) (hg : Bd k2 p2 g) (r : Row) (hr : r.ok m) : doneAt (n + m) (tf m f g) (r.on n) = tf m f (doneAt m g r) := funext fun x => by
  have t := tf_ten (m := m) (M := k1 + k2 + 1) (f := f) (g := g) (fun x => by have := (hf x).1; omega) (fun x => by have := (hg x).1; omega)
  have b : Bd (k1 + k2) (p1 + p2 + 2) (tf m f g) := fun x => ⟨tf_le hf hg x, MA.timesQ_le (hf _).2 (hg _).2⟩
  have t2 := t.lo (n := n) (fun x => by have := (b x).1; omega) (fun x => by have := (hg x).1; omega) r hr
  exact t2.eq (MA.done_least (fun x => MA.times_least _ _) (n + m) (r.on n)) (fun x => by have := (hf x).1; omega) (fun x => by have := (hg.done m r x).1; omega) (fun x => by have := (b.done (n + m) (r.on n) x).1; omega) x
theorem nou_least : MA.LeastN nou := MA.one_least 0 1
theorem times_val (u v : Nu) : MA.val (u.2 + v.2) (MA.timesN u v) = MA.Q4.mul (MA.val u.2 u) (MA.val v.2 v) := MA.val_times (Nat.le_refl _) (Nat.le_refl _)
theorem mul0 (x : MA.Q4) : MA.Q4.mul ⟨0, 0, 0, 0⟩ x = ⟨0, 0, 0, 0⟩ := by apply MA.Q4.ext' <;> simp [MA.Q4.mul]
theorem times_nou {u v : Nu} (h : u = nou ∨ v = nou) : MA.timesN u v = nou := by
  refine MA.val_inj (M := u.2 + v.2) (MA.times_least _ _) nou_least (MA.timesN_le _ _) (Nat.zero_le _) ?_
  rw [times_val, val_nou]
  rcases h with rfl | rfl
  · rw [val_nou, mul0]
  · rw [val_nou, MA.Q4.mul_comm, mul0]
theorem nou_of {u : Nu} (hu : MA.LeastN u) (h : MA.val u.2 u = ⟨0, 0, 0, 0⟩) : u = nou := MA.val_inj (M := u.2) hu nou_least (Nat.le_refl _) (Nat.zero_le _) (by rw [h, val_nou])
theorem nou_times {u v : Nu} (hu : MA.LeastN u) (hv : MA.LeastN v) (h : MA.timesN u v = nou) : u = nou ∨ v = nou := by
  have e := times_val u v
  rw [h, val_nou] at e
  by_cases z : MA.val u.2 u = ⟨0, 0, 0, 0⟩
  · exact .inl (nou_of hu z)
  · right
    have e2 := congrArg MA.nrm e
    rw [MA.nrm_mul] at e2
    have e3 : MA.nrm (MA.val v.2 v) = ⟨0, 0⟩ := (S2_cancel (nrm_ne z) (e2.symm.trans (by apply MA.S2.ext' <;> simp [MA.nrm, MA.S2.mul])))
    exact nou_of hv (MA.nrm_zero (by rw [e3]))
theorem left_hi {n m j v : Nat} (hj : j < n) (f g : Nat → Nu) : left (tf m f g) (wt (n + m) j) v = tf m (left f (wt n j) v) g := funext fun x => by
  show (if bit (wt (n + m) j) x = v then MA.timesN (f (x / 2 ^ m)) (g (x % 2 ^ m)) else nou) = MA.timesN (if bit (wt n j) (x / 2 ^ m) = v then f (x / 2 ^ m) else nou) (g (x % 2 ^ m))
  rw [MA.wt_hi hj, MA.bit_hi]
  split
  · rfl
  · exact (times_nou (.inl rfl)).symm
theorem left_lo {n m j v : Nat} (hj : j < m) (f g : Nat → Nu) : left (tf m f g) (wt (n + m) (n + j)) v = tf m f (left g (wt m j) v) := funext fun x => by
  show (if bit (wt (n + m) (n + j)) x = v then MA.timesN (f (x / 2 ^ m)) (g (x % 2 ^ m)) else nou) = MA.timesN (f (x / 2 ^ m)) (if bit (wt m j) (x % 2 ^ m) = v then g (x % 2 ^ m) else nou)
  rw [MA.wt_lo hj, MA.bit_lo hj]
  split
  · rfl
  · exact (times_nou (.inr rfl)).symm
theorem tf_one {m p q : Nat} (hq : q < 2 ^ m) : tf m (MA.oneAt p) (MA.oneAt q) = MA.oneAt (p * 2 ^ m + q) := funext fun x => by
  have t := MA.Ten.one (m := m) (M := 0) p q hq
  exact (t.eq (MA.one_least _) (fun x => (one_bd p x).1) (fun x => (one_bd q x).1) (fun x => by have := (one_bd (p * 2 ^ m + q) x).1; omega) x).symm
theorem tf_isN {n m : Nat} {f g : Nat → Nu} (hf : ∀ x, MA.LeastN (f x)) (hg : ∀ x, MA.LeastN (g x)) : isN (n + m) (tf m f g) = (isN n f || isN m g) := by
  have B : 0 < 2 ^ m := Nat.pow_pos (by decide)
  rw [Bool.eq_iff_iff, Bool.or_eq_true]
  constructor
  · intro h
    have h' : ∀ x y, x < 2 ^ n → y < 2 ^ m → MA.timesN (f x) (g y) = nou := fun x y hx hy => by
      have lt : x * 2 ^ m + y < 2 ^ (n + m) := by
        rw [Nat.pow_add]
        have : (x + 1) * 2 ^ m ≤ 2 ^ n * 2 ^ m := Nat.mul_le_mul_right _ hx
        rw [Nat.add_mul, Nat.one_mul] at this
        omega
      have := (zeroN_iff _).mp (List.all_eq_true.mp h (x * 2 ^ m + y) (List.mem_range.mpr lt))
      unfold tf at this
      rw [Nat.mul_comm x, Nat.mul_add_div B, Nat.div_eq_of_lt hy, Nat.add_zero, Nat.mul_add_mod, Nat.mod_eq_of_lt hy] at this
      exact this
    by_cases z : isN n f = true
    · exact .inl z
    · right
      have : ∃ x, x < 2 ^ n ∧ f x ≠ nou := by
        apply Classical.byContradiction
        intro no
        exact z (List.all_eq_true.mpr fun x hx => (zeroN_iff _).mpr (Classical.byContradiction fun q => no ⟨x, List.mem_range.mp hx, q⟩))
      obtain ⟨x, hx, nx⟩ := this
      exact List.all_eq_true.mpr fun y hy => (zeroN_iff _).mpr ((nou_times (hf x) (hg y) (h' x y hx (List.mem_range.mp hy))).resolve_left nx)
  · intro h
    refine List.all_eq_true.mpr fun x hx => (zeroN_iff _).mpr (times_nou ?_)
    have hx := List.mem_range.mp hx
    rcases h with h | h
    · left
      refine (zeroN_iff _).mp (List.all_eq_true.mp h _ (List.mem_range.mpr ?_))
      rw [Nat.div_lt_iff_lt_mul B, ← Nat.pow_add]; exact hx
    · right
      exact (zeroN_iff _).mp (List.all_eq_true.mp h _ (List.mem_range.mpr (Nat.mod_lt _ B)))
/-! ### branches of two circuits side by side -/
def tb (m : Nat) (a b : Br) : Br := (a.1 ++ b.1, tf m a.2 b.2)
def onRw (n k : Nat) : Rw → Rw
  | .pl r => .pl (r.on n)
  | .look j => .look (n + j)
  | .wflip m j => .wflip (k + m) (n + j)
  | .wsign m j => .wsign (k + m) (n + j)
theorem tb_part_hi {n m j : Nat} (hj : j < n) (a : Br) (g : Nat → Nu) : fpart (n + m) j (tb m a ([], g)) = (fpart n j a).map fun c => tb m c ([], g) := by
  unfold fpart tb
  simp [left_hi hj]
theorem tb_part_lo {n m j : Nat} (hj : j < m) (a b : Br) : fpart (n + m) (n + j) (tb m a b) = (fpart m j b).map (tb m a) := by
  unfold fpart tb
  simp [left_lo hj]
theorem tb_go_hi {n m l k1 k2 p1 p2 : Nat} {a : Br} {g : Nat → Nu} (ha : Bd k1 p1 a.2) (hg : Bd k2 p2 g) (r : Rw) (hr : r.ok n l) : goB (n + m) r (tb m a ([], g)) = tb m (goB n r a) ([], g) := by
  cases r with
  | pl q => show (a.1 ++ [], doneAt (n + m) (tf m a.2 g) q) = (a.1 ++ [], tf m (doneAt n a.2 q) g); rw [tf_hi ha hg q hr]
  | look j => rfl
  | wflip k j =>
    have e : (tb m a ([], g)).1 = a.1 := List.append_nil _
    show (if (tb m a ([], g)).1[k]? = some 1 then ((tb m a ([], g)).1, doneAt (n + m) (tf m a.2 g) (.flip j)) else tb m a ([], g)) = tb m (if a.1[k]? = some 1 then (a.1, doneAt n a.2 (.flip j)) else a) ([], g)
    rw [e]
    by_cases h : a.1[k]? = some 1
    · rw [if_pos h, if_pos h]
      show (a.1, doneAt (n + m) (tf m a.2 g) (.flip j)) = (a.1 ++ [], tf m (doneAt n a.2 (.flip j)) g)
      rw [tf_hi ha hg (.flip j) hr.2, List.append_nil]
    · rw [if_neg h, if_neg h]
  | wsign k j =>
    have e : (tb m a ([], g)).1 = a.1 := List.append_nil _
    show (if (tb m a ([], g)).1[k]? = some 1 then ((tb m a ([], g)).1, doneAt (n + m) (tf m a.2 g) (.turn j 4)) else tb m a ([], g)) = tb m (if a.1[k]? = some 1 then (a.1, doneAt n a.2 (.turn j 4)) else a) ([], g)
    rw [e]
    by_cases h : a.1[k]? = some 1
    · rw [if_pos h, if_pos h]
      show (a.1, doneAt (n + m) (tf m a.2 g) (.turn j 4)) = (a.1 ++ [], tf m (doneAt n a.2 (.turn j 4)) g)
      rw [tf_hi ha hg (.turn j 4) ⟨hr.2, by decide, by decide⟩, List.append_nil]
    · rw [if_neg h, if_neg h]
theorem tb_go_lo {n m l L k1 k2 p1 p2 : Nat} {a b : Br} (ha : Bd k1 p1 a.2) (hb : Bd k2 p2 b.2) (hL : a.1.length = L) (r : Rw) (hr : r.ok m l) : goB (n + m) (onRw n L r) (tb m a b) = tb m a (goB m r b) := by
  have mk : ∀ k, (tb m a b).1[L + k]? = b.1[k]? := fun k => by
    show (a.1 ++ b.1)[L + k]? = _
    rw [List.getElem?_append_right (by omega), hL, Nat.add_sub_cancel_left]
  cases r with
  | pl q => show (a.1 ++ b.1, doneAt (n + m) (tf m a.2 b.2) (q.on n)) = (a.1 ++ b.1, tf m a.2 (doneAt m b.2 q)); rw [tf_lo ha hb q hr]
  | look j => rfl
  | wflip k j =>
    show (if (tb m a b).1[L + k]? = some 1 then _ else _) = tb m a (if b.1[k]? = some 1 then _ else _)
    rw [mk]
    by_cases h : b.1[k]? = some 1
    · rw [if_pos h, if_pos h]
      have := tf_lo (n := n) ha hb (.flip j) hr.2
      show (a.1 ++ b.1, doneAt (n + m) (tf m a.2 b.2) ((Row.flip j).on n)) = (a.1 ++ b.1, tf m a.2 (doneAt m b.2 (.flip j)))
      rw [this]
    · rw [if_neg h, if_neg h]
  | wsign k j =>
    show (if (tb m a b).1[L + k]? = some 1 then _ else _) = tb m a (if b.1[k]? = some 1 then _ else _)
    rw [mk]
    by_cases h : b.1[k]? = some 1
    · rw [if_pos h, if_pos h]
      have := tf_lo (n := n) ha hb (.turn j 4) ⟨hr.2, by decide, by decide⟩
      show (a.1 ++ b.1, doneAt (n + m) (tf m a.2 b.2) ((Row.turn j 4).on n)) = (a.1 ++ b.1, tf m a.2 (doneAt m b.2 (.turn j 4)))
      rw [this]
    · rw [if_neg h, if_neg h]
theorem hi_run {n m k2 p2 : Nat} {g : Nat → Nu} (hg : Bd k2 p2 g) : ∀ (rs : List Rw) (l k p : Nat) (as : List Br), okRs n l rs → FI k p as → fthru (n + m) rs (as.map fun a => tb m a ([], g)) = (fthru n rs as).map fun a => tb m a ([], g)
  | [], _, _, _, _, _, _ => rfl
  | r :: rs, l, k, p, as, ho, h => by
    cases hr : r.isLook with
    | true =>
      cases r with
      | look j =>
        show fthru (n + m) rs ((as.map fun a => tb m a ([], g)).flatMap (fpart (n + m) j)) = (fthru n rs (as.flatMap (fpart n j))).map _
        rw [← hi_run hg rs (l + 1) k p _ ho.2 (h.look n j), List.flatMap_map, List.map_flatMap]
        congr 2
        funext a
        exact tb_part_hi ho.1.1 a g
      | pl r => cases hr
      | wflip m j => cases hr
      | wsign m j => cases hr
    | false =>
      have h2 := ho.2
      rw [hr] at h2
      rw [fthru_go _ r rs _ hr, fthru_go _ r rs _ hr, ← hi_run hg rs l (k + 1) (p + k + 1) _ h2 (h.go n r), List.map_map, List.map_map]
      congr 1
      exact List.map_congr_left fun a ha => tb_go_hi (h.bd a ha) hg r ho.1
theorem fm_congr {α β : Type} {f g : α → List β} : ∀ (l : List α), (∀ a ∈ l, f a = g a) → l.flatMap f = l.flatMap g
  | [], _ => rfl
  | a :: l, h => by rw [List.flatMap_cons, List.flatMap_cons, h a List.mem_cons_self, fm_congr l fun b hb => h b (List.mem_cons_of_mem _ hb)]
theorem lo_run {n m L k1 p1 : Nat} {as : List Br} (ha : ∀ a ∈ as, Bd k1 p1 a.2) (hL : ∀ a ∈ as, a.1.length = L) : ∀ (ss : List Rw) (l k p : Nat) (bs : List Br), okRs m l ss → FI k p bs → fthru (n + m) (ss.map (onRw n L)) (as.flatMap fun a => bs.map (tb m a)) = as.flatMap fun a => (fthru m ss bs).map (tb m a)
  | [], _, _, _, _, _, _ => rfl
  | r :: rs, l, k, p, bs, ho, h => by
    cases hr : r.isLook with
    | true =>
      cases r with
      | look j =>
        show fthru (n + m) (rs.map (onRw n L)) ((as.flatMap fun a => bs.map (tb m a)).flatMap (fpart (n + m) (n + j))) = as.flatMap fun a => (fthru m rs (bs.flatMap (fpart m j))).map (tb m a)
        rw [← lo_run ha hL rs (l + 1) k p _ ho.2 (h.look m j), List.flatMap_assoc]
        congr 2
        funext a
        rw [List.flatMap_map, List.map_flatMap]
        congr 1
        funext b
        exact tb_part_lo ho.1.1 a b
      | pl r => cases hr
      | wflip m j => cases hr
      | wsign m j => cases hr
    | false =>
      have h2 := ho.2
      rw [hr] at h2
      have hr' : (onRw n L r).isLook = false := by cases r <;> first | rfl | cases hr
      rw [List.map_cons, fthru_go _ _ _ _ hr', fthru_go _ r rs _ hr, ← lo_run ha hL rs l (k + 1) (p + k + 1) _ h2 (h.go m r), List.map_flatMap]
      congr 1
      refine fm_congr _ fun a haa => ?_
      rw [List.map_map, List.map_map]
      exact List.map_congr_left fun b hb => tb_go_lo (ha a haa) (h.bd b hb) (hL a haa) r ho.1

/-! ### the branches of both -/
theorem filter_prod {n m : Nat} {as bs : List Br} (ha : ∀ a ∈ as, ∀ x, MA.LeastN (a.2 x)) (hb : ∀ b ∈ bs, ∀ x, MA.LeastN (b.2 x)) : (as.flatMap fun a => bs.map (tb m a)).filter (nnB (n + m)) = (as.filter (nnB n)).flatMap fun a => (bs.filter (nnB m)).map (tb m a) := by
  have nn : ∀ a ∈ as, ∀ b ∈ bs, nnB (n + m) (tb m a b) = (nnB n a && nnB m b) := fun a h b h' => by
    unfold nnB
    show (!isN (n + m) (tf m a.2 b.2)) = _
    rw [tf_isN (ha a h) (hb b h'), Bool.not_or]
  clear ha hb
  induction as with
  | nil => rfl
  | cons a as ih =>
    rw [List.flatMap_cons, List.filter_append, ih fun c hc => nn c (List.mem_cons_of_mem _ hc)]
    have na := nn a List.mem_cons_self
    have h1 : (bs.map (tb m a)).filter (nnB (n + m)) = if nnB n a then (bs.filter (nnB m)).map (tb m a) else [] := by
      clear ih nn
      induction bs with
      | nil => split <;> rfl
      | cons b bs ib =>
        have e := na b List.mem_cons_self
        have ib := ib fun c hc => na c (List.mem_cons_of_mem _ hc)
        rw [List.map_cons, List.filter_cons, List.filter_cons, e, ib]
        cases nnB n a <;> cases nnB m b <;> simp
    rw [h1]
    cases q : nnB n a with
    | true => rw [List.filter_cons_of_pos q, List.flatMap_cons]; simp
    | false => rw [List.filter_cons_of_neg (by rw [q]; decide)]; simp
theorem brs_side {n m p q L : Nat} (hp : p < 2 ^ n) (hq : q < 2 ^ m) (rs ss : List Rw) (ho : okRs n 0 rs) (hs : okRs m 0 ss) (e : lkN rs = L) (h6 : L ≤ 6) (hb : okRs (n + m) 0 (rs ++ ss.map (onRw n L))) : brs (n + m) (p * 2 ^ m + q) (rs ++ ss.map (onRw n L)) = (brs n p rs).flatMap fun a => (brs m q ss).map (tb m a) := by
  have lt : p * 2 ^ m + q < 2 ^ (n + m) := by
    rw [Nat.pow_add]
    have : (p + 1) * 2 ^ m ≤ 2 ^ n * 2 ^ m := Nat.mul_le_mul_right _ hp
    rw [Nat.add_mul, Nat.one_mul] at this
    omega
  obtain ⟨k1, q1, _, _, f1⟩ := fi_thru (n := n) rs 0 0 _ (fi0 p)
  obtain ⟨k2, q2, _, _, f2⟩ := fi_thru (n := m) ss 0 0 _ (fi0 q)
  obtain ⟨G, g1, _⟩ := two_runs hp rs ho e h6
  have hL : ∀ a ∈ fthru n rs [([], MA.oneAt p)], a.1.length = L := fun a ha => by
    rw [g1] at ha
    obtain ⟨v, _, rfl⟩ := List.mem_map.mp ha
    exact bitsL_len L v
  have st : [(([] : List Nat), MA.oneAt (p * 2 ^ m + q))] = [(([] : List Nat), MA.oneAt p)].map fun a => tb m a ([], MA.oneAt q) := by
    show _ = [(([] ++ [] : List Nat), tf m (MA.oneAt p) (MA.oneAt q))]
    rw [tf_one hq]; rfl
  rw [brs_full lt _ hb, brs_full hp rs ho, brs_full hq ss hs, fthru_app, st, hi_run (one_bd q) rs 0 0 0 _ ho (fi0 p)]
  have fm : ((fthru n rs [([], MA.oneAt p)]).map fun a => tb m a ([], MA.oneAt q)) = (fthru n rs [([], MA.oneAt p)]).flatMap fun a => [(([] : List Nat), MA.oneAt q)].map (tb m a) := by
    rw [← List.flatMap_singleton' ((fthru n rs [([], MA.oneAt p)]).map fun a => tb m a ([], MA.oneAt q)), List.flatMap_map]
    rfl
  rw [fm, lo_run f1.bd hL ss 0 0 0 _ hs (fi0 q)]
  exact filter_prod f1.ls f2.ls
theorem okRs_app {w : Nat} : ∀ (as bs : List Rw) (l : Nat), okRs w l as → okRs w (l + lkN as) bs → okRs w l (as ++ bs)
  | [], bs, l, _, h => by have : lkN [] = 0 := rfl; rw [this, Nat.add_zero] at h; exact h
  | a :: as, bs, l, ha, h => ⟨ha.1, okRs_app as bs _ ha.2 (by
      rw [lk_cons] at h
      rw [show l + (if a.isLook then 1 else 0) + lkN as = l + (lkN as + if a.isLook then 1 else 0) by omega]
      exact h)⟩
theorem ok_more {n m : Nat} : ∀ (rs : List Rw) (l : Nat), okRs n l rs → okRs (n + m) l rs
  | [], _, _ => trivial
  | r :: rs, l, h => ⟨by
      have h1 := h.1
      cases r with
      | pl q => exact MA.Row.ok_more h1
      | look j => exact ⟨by have := h1.1; omega, h1.2⟩
      | wflip k j => exact ⟨h1.1, by have := h1.2; omega⟩
      | wsign k j => exact ⟨h1.1, by have := h1.2; omega⟩, ok_more rs _ h.2⟩
theorem onRw_look (n L : Nat) (r : Rw) : (onRw n L r).isLook = r.isLook := by cases r <;> rfl
theorem lk_on (n L : Nat) (ss : List Rw) : lkN (ss.map (onRw n L)) = lkN ss := by
  induction ss with
  | nil => rfl
  | cons r rs ih => rw [List.map_cons, lk_cons, lk_cons, ih, onRw_look]
theorem ok_on {n m L : Nat} : ∀ (ss : List Rw) (l : Nat), okRs m l ss → L + l + lkN ss ≤ 6 → okRs (n + m) (L + l) (ss.map (onRw n L))
  | [], _, _, _ => trivial
  | r :: rs, l, h, h6 => by
    rw [lk_cons] at h6
    refine ⟨?_, ?_⟩
    · have h1 := h.1
      cases r with
      | pl q => exact MA.Row.on_ok h1
      | look j =>
        have h1 : j < m ∧ l < 6 := h1
        have h6 : L + l + (lkN rs + 1) ≤ 6 := h6
        exact (show n + j < n + m ∧ L + l < 6 from ⟨by omega, by omega⟩)
      | wflip k j => have h1 : k < l ∧ j < m := h1; exact (show L + k < L + l ∧ n + j < n + m from ⟨by omega, by omega⟩)
      | wsign k j => have h1 : k < l ∧ j < m := h1; exact (show L + k < L + l ∧ n + j < n + m from ⟨by omega, by omega⟩)
    · rw [onRw_look, show L + l + (if r.isLook then 1 else 0) = L + (l + if r.isLook then 1 else 0) by omega]
      exact ok_on rs _ h.2 (by omega)
theorem ok_both {n m L : Nat} (rs ss : List Rw) (ho : okRs n 0 rs) (hs : okRs m 0 ss) (e : lkN rs = L) (h6 : L + lkN ss ≤ 6) : okRs (n + m) 0 (rs ++ ss.map (onRw n L)) :=
  okRs_app _ _ 0 (ok_more rs 0 ho) (by rw [Nat.zero_add, e]; exact ok_on ss 0 hs h6)
theorem lk_both (n L : Nat) (rs ss : List Rw) : lkN (rs ++ ss.map (onRw n L)) = lkN rs + lkN ss := by
  have : ∀ as bs : List Rw, lkN (as ++ bs) = lkN as + lkN bs := fun as bs => by unfold lkN; rw [List.filter_append, List.length_append]
  rw [this, lk_on]
/-! ### side by side, told -/
theorem sl2 (a b : D) : slD (.tuple [a, b]) (some 1) none = some (.tuple [b]) := rfl
theorem sl3 (a b c : D) : slD (.tuple [a, b, c]) (some 1) none = some (.tuple [b, c]) := rfl
theorem con_one (G : List D → Option D) (s : Str) (i w l k : Int) (h1 : eqD (.str s) (.str "where") = some (.bool false)) (h2 : eqD (.str s) (.str "turn") = some (.bool false)) (hk : i + w = k) : runB N_counted_on 3 (b_counted_on G) [.tuple [.str s, .int i], .int w, .int l] = some (.tuple [.str s, .int k]) := by
  have c : p1_counted_on G [.fz (.tuple [.str s, .int i]), .fz (.int w), .fz (.int l)] = some (.list [.int k]) := by
    have := comp_map (fi := oI (oSl (oV 0) (oP (oC (.int 1))) (oNo)) itsD) (caps := [(1, "wires")]) (fe := o2 (oV 0) (oV 1) addD) (δ := [.fz (.tuple [.str s, .int i]), .fz (.int w), .fz (.int l)]) (h := PyData.int) (k := fun x => PyData.int (x + w)) (xs := [i]) (by simp [sl2]) (by simp) (fun x _ => by simp [capS])
    rw [← hk]; exact this
  have a : addD (.tuple [.str s]) (.tuple [.int k]) = some (.tuple [.str s, .int k]) := addD_tup (by simp)
  simp [-sSeq, -sIf, sSeq_k, sIf_k, runB, b_counted_on, startD, h1, h2, c, a]
theorem con_two (G : List D → Option D) (s : Str) (i j w l k k2 : Int) (h1 : eqD (.str s) (.str "where") = some (.bool false)) (h2 : eqD (.str s) (.str "turn") = some (.bool false)) (hk : i + w = k) (hk2 : j + w = k2) : runB N_counted_on 3 (b_counted_on G) [.tuple [.str s, .int i, .int j], .int w, .int l] = some (.tuple [.str s, .int k, .int k2]) := by
  have c : p1_counted_on G [.fz (.tuple [.str s, .int i, .int j]), .fz (.int w), .fz (.int l)] = some (.list [.int k, .int k2]) := by
    have := comp_map (fi := oI (oSl (oV 0) (oP (oC (.int 1))) (oNo)) itsD) (caps := [(1, "wires")]) (fe := o2 (oV 0) (oV 1) addD) (δ := [.fz (.tuple [.str s, .int i, .int j]), .fz (.int w), .fz (.int l)]) (h := PyData.int) (k := fun x => PyData.int (x + w)) (xs := [i, j]) (by simp [sl3]) (by simp) (fun x _ => by simp [capS])
    rw [← hk, ← hk2]; exact this
  have a : addD (.tuple [.str s]) (.tuple [.int k, .int k2]) = some (.tuple [.str s, .int k, .int k2]) := addD_tup (by simp)
  simp [-sSeq, -sIf, sSeq_k, sIf_k, runB, b_counted_on, startD, h1, h2, c, a]
theorem con_turn (G : List D → Option D) (i e w l k : Int) (hk : i + w = k) : runB N_counted_on 3 (b_counted_on G) [.tuple [.str "turn", .int i, .int e], .int w, .int l] = some (.tuple [.str "turn", .int k, .int e]) := by
  simp [-sSeq, -sIf, sSeq_k, sIf_k, runB, b_counted_on, startD, hk]
theorem con_where (G : List D → Option D) (k w l k2 : Int) (I J : D) (hk : k + l = k2) (h : G [I, .int w, .int l] = some J) : runB N_counted_on 3 (b_counted_on G) [.tuple [.str "where", .int k, I], .int w, .int l] = some (.tuple [.str "where", .int k2, J]) := by
  simp [-sSeq, -sIf, sSeq_k, sIf_k, runB, b_counted_on, startD, h, hk]
theorem con_eq (r : Rw) (n L : Nat) : g_counted_on [rwD r, .int n, .int L] = some (rwD (onRw n L r)) := by
  have h : ∀ n i : Nat, (i : Int) + (n : Int) = ((n + i : Nat) : Int) := fun n i => by omega
  cases r with
  | pl r =>
    cases r with
    | swing j => exact con_one (r_counted_on 7) "swing" j n L _ (by simp) (by simp) (h n j)
    | turn j e => exact con_turn (r_counted_on 7) j e n L _ (h n j)
    | flip j => exact con_one (r_counted_on 7) "flip" j n L _ (by simp) (by simp) (h n j)
    | tie i j => exact con_two (r_counted_on 7) "tie" i j n L _ _ (by simp) (by simp) (h n i) (h n j)
    | sign i j => exact con_two (r_counted_on 7) "sign" i j n L _ _ (by simp) (by simp) (h n i) (h n j)
    | cross i j => exact con_two (r_counted_on 7) "cross" i j n L _ _ (by simp) (by simp) (h n i) (h n j)
  | look j => exact con_one (r_counted_on 7) "look" j n L _ (by simp) (by simp) (h n j)
  | wflip k j => exact con_where (r_counted_on 7) k n L _ _ _ (h L k) (con_one (r_counted_on 6) "flip" j n L _ (by simp) (by simp) (h n j))
  | wsign k j => exact con_where (r_counted_on 7) k n L _ _ _ (h L k) (con_turn (r_counted_on 6) j 4 n L _ (h n j))
theorem tog_x (C1 C2 : D) (n K1 K2 : Int) (L1 L2 : List D) (R1 : D) (S : Int) (l1 : g_looks_in [C1] = some (.int K1)) (l2 : g_looks_in [C2] = some (.int K2)) (c1 : ixD C1 (.int 1) = some (.tuple L1)) (p : p1_rows_together [.fz C1, .fz C2, .fz (.int n), .fz (.int K1), .un] = some (.list L2)) (ad : addD (.tuple L1) (.tuple L2) = some R1) (ln : lenD [R1] = some (.int S)) (hS : S ≤ 60) (hK : K1 + K2 ≤ 6) : g_rows_together [C1, C2, .int n] = some R1 := by
  have hS' : ¬ (60 < S) := by omega
  have hK' : ¬ (6 < K1 + K2) := by omega
  simp [-sSeq, -sIf, sSeq_k, sIf_k, g_rows_together, runB, b_rows_together, startD, l1, l2, c1, p, ad, ln, hS', hK']
theorem tog_eq (w v n L K : Nat) (rs ss : List Rw) (h1 : rs.length ≤ 30) (h2 : ss.length ≤ 30) (e : lkN rs = L) (e2 : lkN ss = K) (h6 : L + K ≤ 6) : g_rows_together [circD w rs, circD v ss, .int n] = some (.tuple ((rs ++ ss.map (onRw n L)).map rwD)) := by
  have c : p1_rows_together [.fz (circD w rs), .fz (circD v ss), .fz (.int n), .fz (.int L), .un] = some (.list (ss.map fun r => rwD (onRw n L r))) := by
    have := comp_map (fi := oI (o2 (oV 1) (oC (.int 1)) ixD) itsD) (caps := [(2, "wires"), (3, "looks")]) (fe := VL.os (oCons (oV 0) (oCons (oV 1) (oCons (oV 2) (oNil)))) g_counted_on) (δ := [.fz (circD w rs), .fz (circD v ss), .fz (.int n), .fz (.int L), .un]) (h := rwD) (k := fun r => rwD (onRw n L r)) (xs := ss) (by simp [circD]) (by omega) (fun r _ => by simp [capS, con_eq])
    exact this
  have l1 := looks_cd w rs (by omega)
  have l2 := looks_cd v ss (by omega)
  rw [e] at l1
  rw [e2] at l2
  refine tog_x _ _ _ L K (rs.map rwD) _ _ ((rs.length + ss.length : Nat) : Int) l1 l2 (by simp [circD]) c ?_ ?_ (by omega) (by omega)
  · rw [List.map_append, List.map_map]; exact addD_tup (by simp; omega)
  · simp
theorem side_x (C1 C2 R : D) (w v : Int) (a : ixD C1 (.int 0) = some (.int w)) (b : ixD C2 (.int 0) = some (.int v)) (hw : w + v ≤ 6) (h : g_rows_together [C1, C2, .int w] = some R) : g_side_by_side [C1, C2] = some (.tuple [.int (w + v), R]) := by
  have hw' : ¬ (6 < w + v) := by omega
  simp [-sSeq, -sIf, sSeq_k, sIf_k, g_side_by_side, runB, b_side_by_side, startD, a, b, h, hw']
theorem side_eq (w v L K : Nat) (hw : w + v ≤ 6) (rs ss : List Rw) (h1 : rs.length ≤ 30) (h2 : ss.length ≤ 30) (e : lkN rs = L) (e2 : lkN ss = K) (h6 : L + K ≤ 6) : g_side_by_side [circD w rs, circD v ss] = some (circD (w + v) (rs ++ ss.map (onRw w L))) := by
  have := side_x (circD w rs) (circD v ss) _ w v (by simp [circD]) (by simp [circD]) (by omega) (tog_eq w v w L K rs ss h1 h2 e e2 h6)
  rw [this]; simp [circD]

theorem times_eq (x : MA.Q4) (c : Int) (y : MA.Q4) (d : Int) (hx : MA.Q4.Le (2 ^ 200000) x) (hy : MA.Q4.Le (2 ^ 200000) y) (hc : 0 ≤ c) (hd : 0 ≤ d) : g_times [tup5 x c, tup5 y d] = some (tup5 (MA.timesQ x c y d).1 (MA.timesQ x c y d).2) := by
  obtain ⟨l1, l2, l3, l4⟩ := hx
  obtain ⟨m1, m2, m3, m4⟩ := hy
  have a1 := mok l1 m1; have a2 := mok l1 m2; have a3 := mok l1 m3; have a4 := mok l1 m4
  have b1 := mok l2 m1; have b2 := mok l2 m2; have b3 := mok l2 m3; have b4 := mok l2 m4
  have c1 := mok l3 m1; have c2 := mok l3 m2; have c3 := mok l3 m3; have c4 := mok l3 m4
  have d1 := mok l4 m1; have d2 := mok l4 m2; have d3 := mok l4 m3; have d4 := mok l4 m4
  have nm := numQ (MA.Q4.mul x y) (c + d) (by omega)
  unfold MA.timesQ
  generalize MA.num (MA.Q4.mul x y) (c + d) = r at *
  simp only [MA.Q4.mul] at nm
  generalize tup5 r.1 r.2 = R at *
  simp only [tup5]
  simp [g_times, runB, b_times, startD, a1, a2, a3, a4, b1, b2, b3, b4, c1, c2, c3, c4, d1, d2, d3, d4, nm]
/-! ### inner numbers -/
theorem times_n (u v : Nu) (hu : MA.Q4.Le (2 ^ 200000) u.1) (hv : MA.Q4.Le (2 ^ 200000) v.1) : g_times [numD u, numD v] = some (numD (MA.timesN u v)) := by
  have e := times_eq u.1 u.2 v.1 v.2 hu hv (by omega) (by omega)
  unfold numD MA.timesN
  rw [e]
  obtain ⟨c, e2, h⟩ := num2 (MA.Q4.mul u.1 v.1) (u.2 + v.2)
  have e3 := MA.times_cast u v
  show some (tup5 _ (MA.timesQ u.1 u.2 v.1 v.2).2) = some (tup5 _ ((MA.timesQ u.1 u.2 v.1 v.2).2.toNat : Int))
  unfold MA.timesQ
  rw [e3, e2]; rfl

theorem mok3 {a b : Int} (ha : a.natAbs ≤ 2 ^ 400000) (hb : b.natAbs ≤ 2 ^ 400000) : IntMulOk a b :=
  MA.mul_ok 400001 400001 (Nat.lt_of_le_of_lt ha (Nat.pow_lt_pow_right (by decide) (by decide))) (Nat.lt_of_le_of_lt hb (Nat.pow_lt_pow_right (by decide) (by decide))) (by decide)
theorem v_stimes {p r q s : Nat} {t t' : D} {u v : MA.S2} {k l : Nat} (h : Vs p r t u k) (h' : Vs q s t' v l) (hp : p ≤ 300000) (hq : q ≤ 300000) : ∃ w, g_share_times [t, t'] = some w ∧ Vs (p + q + 2) (r + s) w (MA.S2.mul u v) (k + l) := by
  obtain ⟨x, c, rfl, is, le, hc⟩ := h.ex
  obtain ⟨y, d, rfl, is', le', hd⟩ := h'.ex
  have L : ∀ {i : Int} {p : Nat}, i.natAbs ≤ 2 ^ p → p ≤ 300000 → i.natAbs ≤ 2 ^ 400000 := fun hi hp => Nat.le_trans hi (pw_le (by omega))
  have q2 : (2 * x.q).natAbs ≤ 2 ^ 400000 := by
    rw [Int.natAbs_mul]
    exact Nat.le_trans (Nat.mul_le_mul_left _ le.2) (by show 2 * 2 ^ p ≤ 2 ^ 400000; rw [← Nat.pow_succ']; exact pw_le (by omega))
  have m1 : IntMulOk x.p y.p := mok3 (L le.1 hp) (L le'.1 hq)
  have m2 : IntMulOk 2 x.q := .of_left (by decide)
  have m3 : IntMulOk (2 * x.q) y.q := mok3 q2 (L le'.2 hq)
  have m4 : IntMulOk x.p y.q := mok3 (L le.1 hp) (L le'.2 hq)
  have m5 : IntMulOk x.q y.p := mok3 (L le.2 hp) (L le'.1 hq)
  have lz : MA.S2.Le (2 ^ (p + q + 2)) (MA.S2.mul x y) := by
    have := MA.S2.mul_le le le'
    rw [← Nat.pow_add, show (4 : Nat) = 2 ^ 2 from rfl, ← Nat.pow_add, Nat.add_comm 2] at this
    exact this
  obtain ⟨w, ew, hw⟩ := v_share _ (c + d) lz
  refine ⟨w, ?_, ?_⟩
  · simp only [tup3, MA.S2.mul] at ew ⊢
    rw [show ((c + d : Nat) : Int) = (c : Int) + d by omega] at ew
    simp [g_share_times, runB, b_share_times, startD, m1, m2, m3, m4, m5, ew]
  · obtain ⟨z, e, rfl, iz, lz', he⟩ := hw.ex
    exact ⟨z, e, rfl, iz.trans (by rw [MA.S2.sc_mul, MA.S2.sc_mul, is.2, is'.2]), lz', by omega⟩

def wordOf (xs : List Nat) : Str := if xs.all (· == 1) then "sure" else if xs.all (· == 0) then "barred" else "open"
theorem word_eq (xs : List Nat) (hl : xs.length ≤ 1000) : g_word_of [.list (xs.map fun x => PyData.int (x : Nat))] = some (.str (wordOf xs)) := by
  have e1 : p1_word_of [.fz (.list (xs.map fun x => PyData.int (x : Nat)))] = some (.list (xs.map fun x => .bool (x == 1))) := comp_map (h := fun x : Nat => PyData.int (x : Nat)) (k := fun x : Nat => .bool (x == 1)) (xs := xs) (by simp) (by omega) fun x _ => by
    have : ((x : Int) == 1) = (x == 1) := by rw [Bool.eq_iff_iff]; simp; omega
    simp [capS, this]
  have e2 : p2_word_of [.fz (.list (xs.map fun x => PyData.int (x : Nat)))] = some (.list (xs.map fun x => .bool (x == 0))) := comp_map (h := fun x : Nat => PyData.int (x : Nat)) (k := fun x : Nat => .bool (x == 0)) (xs := xs) (by simp) (by omega) fun x _ => by
    have : ((x : Int) == 0) = (x == 0) := by rw [Bool.eq_iff_iff]; simp
    simp [capS, this]
  unfold wordOf
  by_cases h1 : xs.all (· == 1) = true
  · rw [if_pos h1]
    simp [-sSeq, -sIf, sSeq_k, sIf_k, g_word_of, runB, b_word_of, startD, e1, e2, allD_map, h1]
  · have h1' : xs.all (· == 1) = false := by simpa using h1
    rw [if_neg h1]
    by_cases h2 : xs.all (· == 0) = true
    · rw [if_pos h2]
      simp [-sSeq, -sIf, sSeq_k, sIf_k, g_word_of, runB, b_word_of, startD, e1, e2, allD_map, h1', h2]
    · have h2' : xs.all (· == 0) = false := by simpa using h2
      rw [if_neg h2]
      simp [-sSeq, -sIf, sSeq_k, sIf_k, g_word_of, runB, b_word_of, startD, e1, e2, allD_map, h1', h2']
def mkD (b : Br) : D := .tuple (b.1.map fun m => PyData.int (m : Nat))
theorem told_p2 (bs : List Br) (m l : Nat) (hm : m < l) (hb : ∀ b ∈ bs, b.1.length = l) (hl : bs.length ≤ 1000) : p2_marks_told [.fz (.int (m : Nat)), .fz (.list (bs.map mkD))] = some (.list (bs.map fun b => PyData.int (b.1.getD m 0 : Nat))) :=
  comp_map (h := mkD) (k := fun b => PyData.int (b.1.getD m 0 : Nat)) (xs := bs) (by simp) (by omega) fun b h => by
    have h1 : m < b.1.length := by rw [hb b h]; exact hm
    have e : ixD (mkD b) (.int (m : Nat)) = some (.int (b.1.getD m 0 : Nat)) := atI_of (j := m) rfl (by simp [h1])
    simp [capS, e]
theorem told_e (m : Nat) (A : D) (B : List D) (w : Str) (e : p2_marks_told [.fz (.int (m : Nat)), .fz A] = some (.list B)) (e2 : g_word_of [.list B] = some (.str w)) : (os (oCons (p2_marks_told) (oNil)) g_word_of) [.fz (.int (m : Nat)), .fz A] = some (.str w) := by
  simp [e, e2]
theorem map_cmp {α β γ : Type} (f : β → γ) (g : α → β) (l : List α) : (l.map g).map f = l.map fun a => f (g a) := List.map_map
theorem told_w (bs : List Br) (m : Nat) (hl : bs.length ≤ 1000) : g_word_of [.list (bs.map fun b => PyData.int (b.1.getD m 0 : Nat))] = some (.str (wordOf (bs.map fun b => b.1.getD m 0))) := by
  have e2 := word_eq (bs.map fun b => b.1.getD m 0) (by rw [List.length_map]; exact hl)
  rw [map_cmp] at e2
  exact e2
theorem told_i (C : D) (z y : Sl) (L : D) (R : List D) (lk : g_looks_in [C] = some L) (rg : rng1D [L] = some R) : (oL (oCons (os (oCons (oV 0) (oNil)) g_looks_in) (oNil)) rng1D) [.fz C, z, y] = some R := by
  simp [lk, rg]
theorem told_q (A : D) (m l : Nat) (W : Nat → Str) (H : ∀ m, m < l → (os (oCons (p2_marks_told) (oNil)) g_word_of) [.fz (.int (m : Nat)), .fz A] = some (.str (W m))) (C : D) (z : Sl) (hN : l ≤ 16777216) (i : (oL (oCons (os (oCons (oV 0) (oNil)) g_looks_in) (oNil)) rng1D) [.fz C, z, .fz A] = some ((List.range l).map fun k : Nat => PyData.int (0 + (k : Int)))) : p3_marks_told [.fz C, z, .fz A] = some (.list ((List.range l).map fun m => .str (W m))) :=
  comp_r0 (N := l) (y := fun m : Nat => PyData.str (W m)) i hN fun m hm => H m hm
theorem told_p3 (C : D) (z : Sl) (bs : List Br) (l : Nat) (hb : ∀ b ∈ bs, b.1.length = l) (hl : bs.length ≤ 1000) (hN : l ≤ 16777216) (rg : rng1D [.int ((l : Nat) : Int)] = some ((List.range l).map fun k : Nat => PyData.int (0 + (k : Int)))) (lk : g_looks_in [C] = some (.int (l : Nat))) : p3_marks_told [.fz C, z, .fz (.list (bs.map mkD))] = some (.list ((List.range l).map fun m => .str (wordOf (bs.map fun b => b.1.getD m 0)))) :=
  told_q _ l l (fun m => wordOf (bs.map fun b => b.1.getD m 0)) (fun m hm => told_e m _ _ _ (told_p2 bs m l hm hb hl) (told_w bs m hl)) C z hN (told_i C z _ _ _ lk rg)
theorem told_p1 {n : Nat} (C P : D) (z : Sl) (bs : List Br) (hl : bs.length ≤ 1000) (b : g_branches [C, P] = some (.list (bs.map (brD n)))) : p1_marks_told [.fz C, .fz P, z] = some (.list (bs.map mkD)) :=
  comp_map (h := brD n) (k := mkD) (xs := bs) (by simp [b]) (by omega) fun b _ => by
    have e : ixD (brD n b) (.int 0) = some (mkD b) := rfl
    simp [capS, e]
theorem told_x (C P : D) (A B : D) (p1 : ∀ z, p1_marks_told [.fz C, .fz P, z] = some A) (p3 : p3_marks_told [.fz C, .fz P, .fz A] = some B) : g_marks_told [C, P] = some B := by
  simp [g_marks_told, runB, b_marks_told, startD, p1, p3]
theorem told_eq {n : Nat} (hn : n ≤ 6) (p : Nat) (rs : List Rw) (ho : okRs n 0 rs) (hl : rs.length ≤ 150) : g_marks_told [circD n rs, .int p] = some (.list ((List.range (rs.filter Rw.isLook).length).map fun m => .str (wordOf ((brs n p rs).map fun b => b.1.getD m 0)))) := by
  obtain ⟨k', p', bi⟩ := brs_bi (n := n) p rs ho
  have l6 := looks_six rs 0 ho (by omega)
  have len : (brs n p rs).length ≤ 1000 := by
    have h1 := bi.ln
    have h2 : 2 ^ (rs.filter Rw.isLook).length ≤ 2 ^ 6 := Nat.pow_le_pow_right (by decide) (by omega)
    omega
  exact told_x _ _ _ _ (fun z => told_p1 _ _ z _ len (branches_eq hn p rs ho hl)) (told_p3 _ _ _ _ bi.mks len (by omega) (rng6 _ (by omega)) (looks_cd n rs (by omega)))

/-! ### products of branches, told -/
theorem st_prod (n m : Nat) (f g : Nat → Nu) : ((List.range (2 ^ n)).flatMap fun x => (List.range (2 ^ m)).map fun y => numD (MA.timesN (f x) (g y))) = (List.range (2 ^ (n + m))).map fun z => numD (tf m f g z) := by
  have B : 0 < 2 ^ m := Nat.pow_pos (by decide)
  have h : ∀ N, ((List.range N).flatMap fun x => (List.range (2 ^ m)).map fun y => numD (MA.timesN (f x) (g y))) = (List.range (N * 2 ^ m)).map fun z => numD (tf m f g z) := fun N => by
    induction N with
    | zero => simp
    | succ N ih =>
      rw [List.range_succ, List.flatMap_append, ih, Nat.add_mul, Nat.one_mul, List.range_add, List.map_append, List.map_map]
      congr 1
      rw [List.flatMap_cons, List.flatMap_nil, List.append_nil]
      refine List.map_congr_left fun y hy => ?_
      have hy := List.mem_range.mp hy
      show _ = numD (tf m f g (N * 2 ^ m + y))
      unfold tf
      rw [Nat.mul_comm N, Nat.mul_add_div B, Nat.div_eq_of_lt hy, Nat.add_zero, Nat.mul_add_mod, Nat.mod_eq_of_lt hy]
  rw [h, ← Nat.pow_add]
theorem lp_p1 {m : Nat} (hm : m ≤ 6) (z0 z1 z2 z3 z5 : Sl) (B : D) (u : Nu) (g : Nat → Nu) (b1 : ixD B (.int 1) = some (stD m g)) (hu : MA.Q4.Le (2 ^ 200000) u.1) (hg : ∀ y, MA.Q4.Le (2 ^ 200000) (g y).1) : p1__law_products [z0, z1, z2, z3, .fz B, z5, .fz (numD u)] = some (.list ((List.range (2 ^ m)).map fun y => numD (MA.timesN u (g y)))) := by
  have sq : (2 ^ m : Nat) ≤ 64 := (Nat.pow_le_pow_right (by decide) hm : 2 ^ m ≤ 2 ^ 6)
  exact comp_map (h := fun y => numD (g y)) (k := fun y => numD (MA.timesN u (g y))) (xs := List.range (2 ^ m)) (by simp [b1, stD]) (by rw [List.length_range]; omega) fun y _ => by
    have := times_n u (g y) hu (hg y)
    simp [capS, this]
theorem lp_l1 (z0 z1 z2 z3 z4 : Sl) (S E : List D) (x : D) (p : p1__law_products [z0, z1, z2, z3, z4, .fz (.tuple S), .fz x] = some (.list E)) (hl : S.length + E.length ≤ 1000) : l1__law_products [z0, z1, z2, z3, z4, .fz (.tuple S), .fz x] = some (.nx, [z0, z1, z2, z3, z4, .fz (.tuple (S ++ E)), .fz x]) := by
  have a : addD (.tuple S) (.tuple E) = some (.tuple (S ++ E)) := addD_tup (by omega)
  simp [l1__law_products, p, a]
theorem lp_loop1 {m : Nat} (hm : m ≤ 6) (z0 z1 z2 z3 : Sl) (B : D) (f g : Nat → Nu) (b1 : ixD B (.int 1) = some (stD m g)) (hf : ∀ y, MA.Q4.Le (2 ^ 200000) (f y).1) (hg : ∀ y, MA.Q4.Le (2 ^ 200000) (g y).1) : ∀ (xs : List Nat) (S : List D) (z6 : Sl), S.length + xs.length * 2 ^ m ≤ 900 → ∃ y6, loop (gN 6) l1__law_products (xs.map fun x => numD (f x)) [z0, z1, z2, z3, .fz B, .fz (.tuple S), z6] = some (.nx, [z0, z1, z2, z3, .fz B, .fz (.tuple (S ++ xs.flatMap fun x => (List.range (2 ^ m)).map fun y => numD (MA.timesN (f x) (g y)))), y6])
  | [], S, z6, _ => ⟨z6, by simp⟩
  | x :: xs, S, z6, hs => by
    rw [List.length_cons, Nat.add_mul, Nat.one_mul] at hs
    obtain ⟨y6, e⟩ := lp_loop1 hm z0 z1 z2 z3 B f g b1 hf hg xs (S ++ (List.range (2 ^ m)).map fun y => numD (MA.timesN (f x) (g y))) (.fz (numD (f x))) (by rw [List.length_append, List.length_map, List.length_range]; omega)
    refine ⟨y6, ?_⟩
    rw [List.map_cons, loop_step (δ1 := [z0, z1, z2, z3, .fz B, .fz (.tuple S), .fz (numD (f x))]) (by simp) (lp_l1 z0 z1 z2 z3 (.fz B) S _ _ (lp_p1 hm z0 z1 z2 z3 _ B (f x) g b1 (hf x) hg) (by rw [List.length_map, List.length_range]; omega)), e]
    simp [List.flatMap_cons]
theorem lp_l2 (z0 z1 z5 z6 y6 : Sl) (ds : List D) (A B X : D) (M1 M2 S L : List D) (a0 : ixD A (.int 0) = some (.tuple M1)) (a1 : ixD A (.int 1) = some X) (b0 : ixD B (.int 0) = some (.tuple M2)) (it : itsD X = some L) (lp : loop (gN 6) l1__law_products L [z0, z1, .ow ds, .fz A, .fz B, .fz (.tuple []), z6] = some (.nx, [z0, z1, .ow ds, .fz A, .fz B, .fz (.tuple S), y6])) (hl : M1.length + M2.length ≤ 1000) (hd : ds.length < sizeLine) : l2__law_products [z0, z1, .ow ds, .fz A, .fz B, z5, z6] = some (.nx, [z0, z1, .ow (ds ++ [.tuple [.tuple (M1 ++ M2), .tuple S]]), .fz A, .fz B, .fz (.tuple S), y6]) := by
  have a : addD (.tuple M1) (.tuple M2) = some (.tuple (M1 ++ M2)) := addD_tup (by omega)
  simp [l2__law_products, a0, a1, b0, it, lp, a, hd]
theorem brD_tb {n m : Nat} (a b : Br) : brD (n + m) (tb m a b) = .tuple [.tuple ((a.1.map fun m => PyData.int (m : Nat)) ++ (b.1.map fun m => PyData.int (m : Nat))), .tuple ((List.range (2 ^ n)).flatMap fun x => (List.range (2 ^ m)).map fun y => numD (MA.timesN (a.2 x) (b.2 y)))] := by
  rw [st_prod]
  unfold brD tb stD
  rw [List.map_append]
theorem lp_loop2 {n m : Nat} (hn : n + m ≤ 6) (z0 z1 : Sl) (a : Br) (la : a.1.length ≤ 10) (hf : ∀ y, MA.Q4.Le (2 ^ 200000) (a.2 y).1) : ∀ (bs : List Br), (∀ b ∈ bs, b.1.length ≤ 10 ∧ ∀ y, MA.Q4.Le (2 ^ 200000) (b.2 y).1) → ∀ (ds : List D) (z4 z5 z6 : Sl), ds.length + bs.length ≤ 100000 → ∃ y4 y5 y6, loop (gN 4) l2__law_products (bs.map (brD m)) [z0, z1, .ow ds, .fz (brD n a), z4, z5, z6] = some (.nx, [z0, z1, .ow (ds ++ bs.map fun b => brD (n + m) (tb m a b)), .fz (brD n a), y4, y5, y6])
  | [], _, ds, z4, z5, z6, _ => ⟨z4, z5, z6, by simp⟩
  | b :: bs, hb, ds, z4, z5, z6, hs => by
    have sq : (2 ^ n * 2 ^ m : Nat) ≤ 64 := by rw [← Nat.pow_add]; exact (Nat.pow_le_pow_right (by decide) hn : 2 ^ (n + m) ≤ 2 ^ 6)
    have hb1 := hb b List.mem_cons_self
    simp only [List.length_cons] at hs
    obtain ⟨y6, lp⟩ := lp_loop1 (m := m) (by omega) z0 z1 (.ow ds) (.fz (brD n a)) (brD m b) a.2 b.2 rfl hf hb1.2 (List.range (2 ^ n)) [] z6 (by rw [List.length_range, List.length_nil]; omega)
    rw [List.nil_append] at lp
    obtain ⟨w4, w5, w6, e⟩ := lp_loop2 hn z0 z1 a la hf bs (fun c hc => hb c (List.mem_cons_of_mem _ hc)) (ds ++ [brD (n + m) (tb m a b)]) (.fz (brD m b)) (.fz (.tuple ((List.range (2 ^ n)).flatMap fun x => (List.range (2 ^ m)).map fun y => numD (MA.timesN (a.2 x) (b.2 y))))) y6 (by rw [List.length_append]; simp; omega)
    refine ⟨w4, w5, w6, ?_⟩
    have st := lp_l2 z0 z1 z5 z6 y6 ds (brD n a) (brD m b) (stD n a.2) _ _ _ _ (at0 _ _) (at1 _ _ _) (at0 _ _) rfl lp (by simp; omega) (by show _ < 16777216; omega)
    rw [← brD_tb] at st
    rw [List.map_cons, loop_step (δ1 := [z0, z1, .ow ds, .fz (brD n a), .fz (brD m b), z5, z6]) (by simp) st, e]
    simp
theorem lp_l3 (z0 z2 z3 z4 z5 z6 : Sl) (L : List D) (δ : Dv) (lp : loop (gN 4) l2__law_products L [z0, .fz (.list L), z2, z3, z4, z5, z6] = some (.nx, δ)) : l3__law_products [z0, .fz (.list L), z2, z3, z4, z5, z6] = some (.nx, δ) := by
  simp [l3__law_products, lp]
theorem lp_loop3 {n m : Nat} (hn : n + m ≤ 6) (z0 : Sl) (bs : List Br) (hb : ∀ b ∈ bs, b.1.length ≤ 10 ∧ ∀ y, MA.Q4.Le (2 ^ 200000) (b.2 y).1) (lb : bs.length ≤ 100) : ∀ (as : List Br), (∀ b ∈ as, b.1.length ≤ 10 ∧ ∀ y, MA.Q4.Le (2 ^ 200000) (b.2 y).1) → ∀ (ds : List D) (z3 z4 z5 z6 : Sl), ds.length + 100 * as.length ≤ 100000 → ∃ y3 y4 y5 y6, loop (gN 3) l3__law_products (as.map (brD n)) [z0, .fz (.list (bs.map (brD m))), .ow ds, z3, z4, z5, z6] = some (.nx, [z0, .fz (.list (bs.map (brD m))), .ow (ds ++ (as.flatMap fun a => bs.map fun b => brD (n + m) (tb m a b))), y3, y4, y5, y6])
  | [], _, ds, z3, z4, z5, z6, _ => ⟨z3, z4, z5, z6, by simp⟩
  | a :: as, ha, ds, z3, z4, z5, z6, hs => by
    have ha1 := ha a List.mem_cons_self
    simp only [List.length_cons] at hs
    obtain ⟨y4, y5, y6, lp⟩ := lp_loop2 hn z0 (.fz (.list (bs.map (brD m)))) a ha1.1 ha1.2 bs hb ds z4 z5 z6 (by omega)
    obtain ⟨w3, w4, w5, w6, e⟩ := lp_loop3 hn z0 bs hb lb as (fun c hc => ha c (List.mem_cons_of_mem _ hc)) (ds ++ bs.map fun b => brD (n + m) (tb m a b)) (.fz (brD n a)) y4 y5 y6 (by rw [List.length_append, List.length_map]; omega)
    refine ⟨w3, w4, w5, w6, ?_⟩
    rw [List.map_cons, loop_step (δ1 := [z0, .fz (.list (bs.map (brD m))), .ow ds, .fz (brD n a), z4, z5, z6]) (by simp) (lp_l3 z0 (.ow ds) (.fz (brD n a)) z4 z5 z6 _ _ lp), e]
    simp [List.flatMap_cons]
theorem lp_x (A B : D) (L ds : List D) (y3 y4 y5 y6 : Sl) (it : itsD A = some L) (lp : loop (gN 3) l3__law_products L [.fz A, .fz B, .ow [], .un, .un, .un, .un] = some (.nx, [.fz A, .fz B, .ow ds, y3, y4, y5, y6])) : g__law_products [A, B] = some (.list ds) := by
  simp [-sSeq, -sIf, sSeq_k, sIf_k, g__law_products, runB, b__law_products, startD, it, lp, dFz]
theorem lprod_eq {n m : Nat} (hn : n + m ≤ 6) (as bs : List Br) (ha : ∀ b ∈ as, b.1.length ≤ 10 ∧ ∀ y, MA.Q4.Le (2 ^ 200000) (b.2 y).1) (hb : ∀ b ∈ bs, b.1.length ≤ 10 ∧ ∀ y, MA.Q4.Le (2 ^ 200000) (b.2 y).1) (la : as.length ≤ 100) (lb : bs.length ≤ 100) : g__law_products [.list (as.map (brD n)), .list (bs.map (brD m))] = some (.list ((as.flatMap fun a => bs.map (tb m a)).map (brD (n + m)))) := by
  obtain ⟨y3, y4, y5, y6, e⟩ := lp_loop3 hn (.fz (.list (as.map (brD n)))) bs hb lb as ha [] .un .un .un .un (by simp; omega)
  rw [List.nil_append] at e
  rw [lp_x _ _ _ _ y3 y4 y5 y6 rfl e, List.map_flatMap]
  congr 2
  congr 1
  funext a
  rw [List.map_map]; rfl
/-! ### products of shares, told -/
theorem sumI_scale (c : Int) (F : Nat → Int) : ∀ N, MA.sumI N (fun p => c * F p) = c * MA.sumI N F
  | 0 => by simp [MA.sumI]
  | N + 1 => by
    show MA.sumI N _ + _ = c * (MA.sumI N F + F N)
    rw [sumI_scale c F N, Int.mul_add]
theorem sum_prod (A B : Nat → MA.S2) (N K : Nat) : MA.sumI N (fun x => MA.sumI K fun y => (MA.S2.mul (A x) (B y)).p) = MA.sumI N (fun x => (A x).p) * MA.sumI K (fun y => (B y).p) + 2 * MA.sumI N (fun x => (A x).q) * MA.sumI K (fun y => (B y).q) ∧ MA.sumI N (fun x => MA.sumI K fun y => (MA.S2.mul (A x) (B y)).q) = MA.sumI N (fun x => (A x).p) * MA.sumI K (fun y => (B y).q) + MA.sumI N (fun x => (A x).q) * MA.sumI K (fun y => (B y).p) := by
  have i1 : ∀ x, MA.sumI K (fun y => (MA.S2.mul (A x) (B y)).p) = MA.sumI K (fun y => (B y).p) * (A x).p + 2 * MA.sumI K (fun y => (B y).q) * (A x).q := fun x => by
    have : MA.sumI K (fun y => (MA.S2.mul (A x) (B y)).p) = MA.sumI K (fun y => (A x).p * (B y).p + 2 * (A x).q * (B y).q) := rfl
    rw [this, MA.sumI_add, sumI_scale, sumI_scale]
    grind
  have i2 : ∀ x, MA.sumI K (fun y => (MA.S2.mul (A x) (B y)).q) = MA.sumI K (fun y => (B y).q) * (A x).p + MA.sumI K (fun y => (B y).p) * (A x).q := fun x => by
    have : MA.sumI K (fun y => (MA.S2.mul (A x) (B y)).q) = MA.sumI K (fun y => (A x).p * (B y).q + (A x).q * (B y).p) := rfl
    rw [this, MA.sumI_add, sumI_scale, sumI_scale]
    grind
  constructor
  · rw [MA.sumI_congr N fun x _ => i1 x, MA.sumI_add, sumI_scale, sumI_scale]
    grind
  · rw [MA.sumI_congr N fun x _ => i2 x, MA.sumI_add, sumI_scale, sumI_scale]
    grind
theorem nsum_tf {n m M : Nat} {f g : Nat → Nu} (hf : ∀ x, (f x).2 ≤ M) (hg : ∀ x, (g x).2 ≤ M) : MA.nsum (M + M) (n + m) (tf m f g) = MA.S2.mul (MA.nsum M n f) (MA.nsum M m g) := by
  have B : 0 < 2 ^ m := Nat.pow_pos (by decide)
  have v : ∀ x y, y < 2 ^ m → MA.nrm (MA.val (M + M) (tf m f g (x * 2 ^ m + y))) = MA.S2.mul (MA.nrm (MA.val M (f x))) (MA.nrm (MA.val M (g y))) := fun x y hy => by
    unfold tf
    rw [Nat.mul_comm x, Nat.mul_add_div B, Nat.div_eq_of_lt hy, Nat.add_zero, Nat.mul_add_mod, Nat.mod_eq_of_lt hy, MA.val_times (hf _) (hg _), MA.nrm_mul]
  obtain ⟨s1, s2⟩ := sum_prod (fun x => MA.nrm (MA.val M (f x))) (fun x => MA.nrm (MA.val M (g x))) (2 ^ n) (2 ^ m)
  apply MA.S2.ext'
  · show MA.sumI (2 ^ (n + m)) (fun p => (MA.nrm (MA.val (M + M) (tf m f g p))).p) = _
    rw [Nat.pow_add, MA.sumI_mul, MA.sumI_congr (2 ^ n) fun x _ => MA.sumI_congr (2 ^ m) fun y hy => congrArg MA.S2.p (v x y hy)]
    exact s1
  · show MA.sumI (2 ^ (n + m)) (fun p => (MA.nrm (MA.val (M + M) (tf m f g p))).q) = _
    rw [Nat.pow_add, MA.sumI_mul, MA.sumI_congr (2 ^ n) fun x _ => MA.sumI_congr (2 ^ m) fun y hy => congrArg MA.S2.q (v x y hy)]
    exact s2
/-- the share of a product is the product of the shares -/
theorem wh_tb {n m k : Nat} {a b : Br} (va : Vs 300000 k (wh n a) (MA.nsum 60 n a.2) 60) (vb : Vs 300000 k (wh m b) (MA.nsum 60 m b.2) 60) (vt : Vs 300000 (k + k) (wh (n + m) (tb m a b)) (MA.nsum (60 + 60) (n + m) (tf m a.2 b.2)) (60 + 60)) (hf : ∀ x, (a.2 x).2 ≤ 60) (hg : ∀ x, (b.2 x).2 ≤ 60) : g_share_times [wh n a, wh m b] = some (wh (n + m) (tb m a b)) := by
  obtain ⟨w, e, v⟩ := v_stimes va vb (Nat.le_refl _) (Nat.le_refl _)
  rw [nsum_tf hf hg] at vt
  rw [e, v.one vt rfl]
theorem sp_l1 (z0 z1 : Sl) (ds : List D) (A B x y w : D) (M1 M2 : List D) (a0 : ixD A (.int 0) = some (.tuple M1)) (a1 : ixD A (.int 1) = some x) (b0 : ixD B (.int 0) = some (.tuple M2)) (b1 : ixD B (.int 1) = some y) (h : g_share_times [x, y] = some w) (hl : M1.length + M2.length ≤ 1000) (hd : ds.length < sizeLine) : l1__law_share_products [z0, z1, .ow ds, .fz A, .fz B] = some (.nx, [z0, z1, .ow (ds ++ [.tuple [.tuple (M1 ++ M2), w]]), .fz A, .fz B]) := by
  have a : addD (.tuple M1) (.tuple M2) = some (.tuple (M1 ++ M2)) := addD_tup (by omega)
  simp [l1__law_share_products, a0, a1, b0, b1, h, a, hd]
theorem shD_tb {n m : Nat} (a b : Br) : shD (n + m) (tb m a b) = .tuple [.tuple ((a.1.map fun m => PyData.int (m : Nat)) ++ (b.1.map fun m => PyData.int (m : Nat))), wh (n + m) (tb m a b)] := by
  show PyData.tuple [.tuple ((a.1 ++ b.1).map fun m => PyData.int (m : Nat)), wh (n + m) (tb m a b)] = _
  rw [List.map_append]
theorem sp_loop1 {n m : Nat} (z0 z1 : Sl) (a : Br) (la : a.1.length ≤ 10) : ∀ (bs : List Br), (∀ b ∈ bs, b.1.length ≤ 10 ∧ g_share_times [wh n a, wh m b] = some (wh (n + m) (tb m a b))) → ∀ (ds : List D) (z4 : Sl), ds.length + bs.length ≤ 100000 → ∃ y4, loop (gN 4) l1__law_share_products (bs.map (shD m)) [z0, z1, .ow ds, .fz (shD n a), z4] = some (.nx, [z0, z1, .ow (ds ++ bs.map fun b => shD (n + m) (tb m a b)), .fz (shD n a), y4])
  | [], _, ds, z4, _ => ⟨z4, by simp⟩
  | b :: bs, hb, ds, z4, hs => by
    have hb1 := hb b List.mem_cons_self
    simp only [List.length_cons] at hs
    obtain ⟨w4, e⟩ := sp_loop1 z0 z1 a la bs (fun c hc => hb c (List.mem_cons_of_mem _ hc)) (ds ++ [shD (n + m) (tb m a b)]) (.fz (shD m b)) (by rw [List.length_append]; simp; omega)
    refine ⟨w4, ?_⟩
    have st := sp_l1 z0 z1 ds (shD n a) (shD m b) _ _ _ _ _ (at0 _ _) (at1 _ _ _) (at0 _ _) (at1 _ _ _) hb1.2 (by simp; omega) (by show _ < 16777216; omega)
    rw [← shD_tb] at st
    rw [List.map_cons, loop_step (δ1 := [z0, z1, .ow ds, .fz (shD n a), .fz (shD m b)]) (by simp) st, e]
    simp
theorem sp_l2 (z0 z2 z3 z4 : Sl) (L : List D) (δ : Dv) (lp : loop (gN 4) l1__law_share_products L [z0, .fz (.list L), z2, z3, z4] = some (.nx, δ)) : l2__law_share_products [z0, .fz (.list L), z2, z3, z4] = some (.nx, δ) := by
  simp [l2__law_share_products, lp]
theorem sp_loop2 {n m : Nat} (z0 : Sl) (bs : List Br) (lb : bs.length ≤ 100) : ∀ (as : List Br), (∀ a ∈ as, a.1.length ≤ 10 ∧ ∀ b ∈ bs, b.1.length ≤ 10 ∧ g_share_times [wh n a, wh m b] = some (wh (n + m) (tb m a b))) → ∀ (ds : List D) (z3 z4 : Sl), ds.length + 100 * as.length ≤ 100000 → ∃ y3 y4, loop (gN 3) l2__law_share_products (as.map (shD n)) [z0, .fz (.list (bs.map (shD m))), .ow ds, z3, z4] = some (.nx, [z0, .fz (.list (bs.map (shD m))), .ow (ds ++ (as.flatMap fun a => bs.map fun b => shD (n + m) (tb m a b))), y3, y4])
  | [], _, ds, z3, z4, _ => ⟨z3, z4, by simp⟩
  | a :: as, ha, ds, z3, z4, hs => by
    have ha1 := ha a List.mem_cons_self
    simp only [List.length_cons] at hs
    obtain ⟨y4, lp⟩ := sp_loop1 z0 (.fz (.list (bs.map (shD m)))) a ha1.1 bs ha1.2 ds z4 (by omega)
    obtain ⟨w3, w4, e⟩ := sp_loop2 z0 bs lb as (fun c hc => ha c (List.mem_cons_of_mem _ hc)) (ds ++ bs.map fun b => shD (n + m) (tb m a b)) (.fz (shD n a)) y4 (by rw [List.length_append, List.length_map]; omega)
    refine ⟨w3, w4, ?_⟩
    rw [List.map_cons, loop_step (δ1 := [z0, .fz (.list (bs.map (shD m))), .ow ds, .fz (shD n a), z4]) (by simp) (sp_l2 z0 (.ow ds) (.fz (shD n a)) z4 _ _ lp), e]
    simp [List.flatMap_cons]
theorem sp_x (A B : D) (L ds : List D) (y3 y4 : Sl) (it : itsD A = some L) (lp : loop (gN 3) l2__law_share_products L [.fz A, .fz B, .ow [], .un, .un] = some (.nx, [.fz A, .fz B, .ow ds, y3, y4])) : g__law_share_products [A, B] = some (.list ds) := by
  simp [-sSeq, -sIf, sSeq_k, sIf_k, g__law_share_products, runB, b__law_share_products, startD, it, lp, dFz]
theorem sprod_eq {n m : Nat} (as bs : List Br) (ha : ∀ a ∈ as, a.1.length ≤ 10 ∧ ∀ b ∈ bs, b.1.length ≤ 10 ∧ g_share_times [wh n a, wh m b] = some (wh (n + m) (tb m a b))) (la : as.length ≤ 100) (lb : bs.length ≤ 100) : g__law_share_products [.list (as.map (shD n)), .list (bs.map (shD m))] = some (.list ((as.flatMap fun a => bs.map (tb m a)).map (shD (n + m)))) := by
  obtain ⟨y3, y4, e⟩ := sp_loop2 (.fz (.list (as.map (shD n)))) bs lb as ha [] .un .un (by simp; omega)
  rw [List.nil_append] at e
  rw [sp_x _ _ _ _ y3 y4 rfl e, List.map_flatMap]
  congr 2
  congr 1
  funext a
  rw [List.map_map]; rfl
/-! ### marks told of both -/
theorem word_prod {as bs : List Br} {m L : Nat} (hL : ∀ a ∈ as, a.1.length = L) (ha : as ≠ []) (hb : bs ≠ []) (i : Nat) : wordOf ((as.flatMap fun a => bs.map (tb m a)).map fun b => b.1.getD i 0) = if i < L then wordOf (as.map fun a => a.1.getD i 0) else wordOf (bs.map fun b => b.1.getD (i - L) 0) := by
  have al : ∀ v : Nat, (((as.flatMap fun a => bs.map (tb m a)).map fun b => b.1.getD i 0).all (· == v)) = if i < L then ((as.map fun a => a.1.getD i 0).all (· == v)) else ((bs.map fun b => b.1.getD (i - L) 0).all (· == v)) := fun v => by
    by_cases h : i < L
    · rw [if_pos h, Bool.eq_iff_iff, List.all_eq_true, List.all_eq_true]
      obtain ⟨b0, hb0⟩ := List.exists_mem_of_ne_nil bs hb
      constructor
      · intro H x hx
        obtain ⟨a, haa, rfl⟩ := List.mem_map.mp hx
        have := H _ (List.mem_map.mpr ⟨tb m a b0, List.mem_flatMap.mpr ⟨a, haa, List.mem_map.mpr ⟨b0, hb0, rfl⟩⟩, rfl⟩)
        rw [show (tb m a b0).1.getD i 0 = a.1.getD i 0 from by
          show (a.1 ++ b0.1).getD i 0 = _
          rw [List.getD_eq_getElem?_getD, List.getElem?_append_left (by rw [hL a haa]; exact h), List.getD_eq_getElem?_getD]] at this
        exact this
      · intro H x hx
        obtain ⟨c, hc, rfl⟩ := List.mem_map.mp hx
        obtain ⟨a, haa, hc⟩ := List.mem_flatMap.mp hc
        obtain ⟨b, hbb, rfl⟩ := List.mem_map.mp hc
        rw [show (tb m a b).1.getD i 0 = a.1.getD i 0 from by
          show (a.1 ++ b.1).getD i 0 = _
          rw [List.getD_eq_getElem?_getD, List.getElem?_append_left (by rw [hL a haa]; exact h), List.getD_eq_getElem?_getD]]
        exact H _ (List.mem_map.mpr ⟨a, haa, rfl⟩)
    · rw [if_neg h, Bool.eq_iff_iff, List.all_eq_true, List.all_eq_true]
      obtain ⟨a0, ha0⟩ := List.exists_mem_of_ne_nil as ha
      constructor
      · intro H x hx
        obtain ⟨b, hbb, rfl⟩ := List.mem_map.mp hx
        have := H _ (List.mem_map.mpr ⟨tb m a0 b, List.mem_flatMap.mpr ⟨a0, ha0, List.mem_map.mpr ⟨b, hbb, rfl⟩⟩, rfl⟩)
        rw [show (tb m a0 b).1.getD i 0 = b.1.getD (i - L) 0 from by
          show (a0.1 ++ b.1).getD i 0 = _
          rw [List.getD_eq_getElem?_getD, List.getElem?_append_right (by rw [hL a0 ha0]; omega), hL a0 ha0, List.getD_eq_getElem?_getD]] at this
        exact this
      · intro H x hx
        obtain ⟨c, hc, rfl⟩ := List.mem_map.mp hx
        obtain ⟨a, haa, hc⟩ := List.mem_flatMap.mp hc
        obtain ⟨b, hbb, rfl⟩ := List.mem_map.mp hc
        rw [show (tb m a b).1.getD i 0 = b.1.getD (i - L) 0 from by
          show (a.1 ++ b.1).getD i 0 = _
          rw [List.getD_eq_getElem?_getD, List.getElem?_append_right (by rw [hL a haa]; omega), hL a haa, List.getD_eq_getElem?_getD]]
        exact H _ (List.mem_map.mpr ⟨b, hbb, rfl⟩)
  unfold wordOf
  rw [al 1, al 0]
  by_cases h : i < L
  · rw [if_pos h, if_pos h, if_pos h]
  · rw [if_neg h, if_neg h, if_neg h]
theorem words_prod {as bs : List Br} {m L K : Nat} (hL : ∀ a ∈ as, a.1.length = L) (ha : as ≠ []) (hb : bs ≠ []) : ((List.range (L + K)).map fun i => PyData.str (wordOf ((as.flatMap fun a => bs.map (tb m a)).map fun b => b.1.getD i 0))) = ((List.range L).map fun i => PyData.str (wordOf (as.map fun a => a.1.getD i 0))) ++ (List.range K).map fun i => PyData.str (wordOf (bs.map fun b => b.1.getD i 0)) := by
  rw [List.range_add, List.map_append, List.map_map]
  congr 1
  · exact List.map_congr_left fun i hi => by rw [word_prod hL ha hb, if_pos (List.mem_range.mp hi)]
  · exact List.map_congr_left fun i hi => by
      show PyData.str (wordOf ((as.flatMap fun a => bs.map (tb m a)).map fun b => b.1.getD (L + i) 0)) = _
      rw [word_prod hL ha hb, if_neg (by omega), Nat.add_sub_cancel_left]

/-! ### the law -/
theorem seq_nx {s t : Sf} {δ δ' : Dv} (h : s δ = some (.nx, δ')) : sSeq s t δ = t δ' := by simp [h]
theorem shl_p (p L : Nat) (hp : p < 64) (hL : L ≤ 6) : shlD (.int (p : Nat)) (.int (L : Nat)) = some (.int ((p * 2 ^ L : Nat) : Int)) := by
  have hb : Builtin.Int.intBits (p : Int) ≤ 64 := by
    have := MA.bits_le (a := (p : Int)) (m := 6) (by omega)
    omega
  rw [shlD_int (by omega) (by have : (Builtin.Int.intBits (p : Int) : Int) ≤ 64 := by exact_mod_cast hb
                              omega), Int.toNat_natCast]
  norm_cast
theorem lcell_eq (ns : List Int) (k : Int) (hk : 0 ≤ k) : ∃ c, g__law_cell_at [.list (ns.map .int), .int k] = some (.int c) := by
  by_cases h : k < ns.length
  · have hk' : k.toNat < ns.length := by omega
    refine ⟨ns[k.toNat], ?_⟩
    have e : atI (ns.map PyData.int) k = some (.int ns[k.toNat]) := atI_of (j := k.toNat) (by omega) (by simp [hk'])
    simp [g__law_cell_at, runB, b__law_cell_at, startD, h, e]
  · exact ⟨0, by simp [g__law_cell_at, runB, b__law_cell_at, startD, h]⟩
theorem sh_tup3 (s : MA.S2) (e : Int) : MA.Sh 1 (tup3 s e) := MA.Sh.tuple fun x hx => by
  simp only [List.mem_cons, List.not_mem_nil, or_false] at hx
  rcases hx with rfl | rfl | rfl <;> exact MA.Sh.int 0 _
theorem Sh.mono {k l : Nat} {d : D} (h : MA.Sh k d) (hl : k ≤ l) : MA.Sh l d := ⟨h.1, Nat.le_trans h.2 hl⟩
theorem sh_sh {n q k : Nat} {b : Br} {u : MA.S2} {M : Nat} (h : Vs q k (wh n b) u M) : MA.Sh 2 (shD n b) := MA.Sh.tuple fun x hx => by
  simp only [List.mem_cons, List.not_mem_nil, or_false] at hx
  rcases hx with rfl | rfl
  · exact MA.Sh.tuple (k := 0) fun y hy => by
      obtain ⟨m, _, rfl⟩ := List.mem_map.mp hy
      exact MA.Sh.int 0 _
  · obtain ⟨s, e, h, _⟩ := h.ex
    rw [h]; exact sh_tup3 _ _
theorem cut_214 (ns : List Int) : ∃ cs : List Int, cs.length ≤ 12 ∧ slD (.list (ns.map .int)) (some 2) (some 14) = some (.list (cs.map .int)) := by
  refine ⟨(ns.drop (HT.sIx ns.length 0 (some 2))).take (HT.sIx ns.length ns.length (some 14) - HT.sIx ns.length 0 (some 2)), ?_, ?_⟩
  · rw [List.length_take, List.length_drop]
    have e1 : HT.sIx ns.length 0 (some 2) = min 2 ns.length := rfl
    have e2 : HT.sIx ns.length ns.length (some 14) = min 14 ns.length := rfl
    omega
  · show some (PyData.list (cutD _ _ _)) = _
    unfold cutD
    rw [List.length_map, ← List.map_drop, ← List.map_take]
theorem sh_num (u : Nu) : MA.Sh 1 (numD u) := MA.Sh.tuple fun x hx => by
  simp only [List.mem_cons, List.not_mem_nil, or_false] at hx
  rcases hx with rfl | rfl | rfl | rfl | rfl <;> exact MA.Sh.int 0 _
theorem sh_br (n : Nat) (b : Br) : MA.Sh 3 (brD n b) := MA.Sh.tuple fun x hx => by
  simp only [List.mem_cons, List.not_mem_nil, or_false] at hx
  rcases hx with rfl | rfl
  · refine Sh.mono (MA.Sh.tuple (k := 0) fun y hy => ?_) (by decide)
    obtain ⟨m, _, rfl⟩ := List.mem_map.mp hy
    exact MA.Sh.int 0 _
  · exact MA.Sh.tuple fun y hy => by
      obtain ⟨p, _, rfl⟩ := List.mem_map.mp hy
      exact sh_num _
theorem ne_brs (n : Nat) (bs : List Br) : neD (.list (bs.map (brD n))) (.list (bs.map (brD n))) = some (.bool false) :=
  ne_self (k := 4) (MA.Sh.list fun x hx => by
    obtain ⟨b, _, rfl⟩ := List.mem_map.mp hx
    exact sh_br n b) (by decide)

def st_1 : Sf := sSet 1 (VL.os (oCons (oV 0) (oCons (oC (.int 0)) (oNil))) g__law_cell_at)
def st_2 : Sf := sSet 2 (oSl (oV 0) (oP (oC (.int 2))) (oP (oC (.int 14))))
def st_3 : Sf := sSet 3 (VL.os (oCons (o2 (oC (.int 1)) (o2 (oV 1) (oC (.int 2)) modD) addD) (oCons (VL.os (oCons (p1_law) (oCons (o2 (oC (.int 1)) (o2 (oV 1) (oC (.int 2)) modD) addD) (oCons (o2 (o2 (oV 1) (oC (.int 4)) divD) (oC (.int 3)) modD) (oNil)))) g__law_rows) (oNil))) tupD)
def st_4 : Sf := sSet 4 (p2_law)
def st_5 : Sf := sSet 5 (VL.os (oCons (o2 (oC (.int 1)) (o2 (o2 (oV 1) (oC (.int 2)) divD) (oC (.int 2)) modD) addD) (oCons (VL.os (oCons (oV 4) (oCons (o2 (oC (.int 1)) (o2 (o2 (oV 1) (oC (.int 2)) divD) (oC (.int 2)) modD) addD) (oCons (o2 (o2 (oV 1) (oC (.int 12)) divD) (oC (.int 2)) modD) (oNil)))) g__law_rows) (oNil))) tupD)
def st_6 : Sf := sSet 6 (VL.os (oCons (o2 (VL.os (oCons (oV 0) (oCons (oC (.int 1)) (oNil))) g__law_cell_at) (o2 (oC (.int 1)) (o2 (oV 3) (oC (.int 0)) ixD) shlD) modD) (oCons (o2 (o2 (VL.os (oCons (oV 0) (oCons (oC (.int 1)) (oNil))) g__law_cell_at) (oC (.int 5)) divD) (o2 (oC (.int 1)) (o2 (oV 5) (oC (.int 0)) ixD) shlD) modD) (oNil))) lstD)
def st_7 : Sf := sSet 7 (VL.os (oCons (oV 3) (oCons (oV 5) (oNil))) g_side_by_side)
def st_8 : Sf := sSet 8 (o2 (o2 (o2 (oV 6) (oC (.int 0)) ixD) (o2 (oV 5) (oC (.int 0)) ixD) shlD) (o2 (oV 6) (oC (.int 1)) ixD) addD)
def st_9 : Sf := sSet 9 (VL.os (oCons (oV 3) (oCons (o2 (oV 6) (oC (.int 0)) ixD) (oNil))) g_branches)
def st_10 : Sf := sSet 10 (VL.os (oCons (oV 5) (oCons (o2 (oV 6) (oC (.int 1)) ixD) (oNil))) g_branches)
def st_11 : Sf := sIf (ob (o2 (VL.os (oCons (oV 7) (oCons (oV 8) (oNil))) g_branches) (VL.os (oCons (oV 9) (oCons (oV 10) (oNil))) g__law_products) neD)) (sRet (oC (.bool false))) (sNx)
def st_12 : Sf := sSet 11 (VL.os (oCons (VL.os (oCons (oV 3) (oCons (o2 (oV 6) (oC (.int 0)) ixD) (oNil))) g_mark_shares) (oCons (VL.os (oCons (oV 5) (oCons (o2 (oV 6) (oC (.int 1)) ixD) (oNil))) g_mark_shares) (oNil))) g__law_share_products)
def st_13 : Sf := sIf (ob (o2 (VL.os (oCons (oV 7) (oCons (oV 8) (oNil))) g_mark_shares) (oV 11) neD)) (sRet (oC (.bool false))) (sNx)
def st_14 : Sf := sSet 12 (VL.os (oCons (o2 (oV 7) (oC (.int 1)) ixD) (oNil)) g__law_looks)
def st_15 : Sf := sIf (oAnd (ob (o2 (o2 (o2 (oV 7) (oC (.int 0)) ixD) (oV 12) addD) (oC (.int 5)) ltD)) (ob (o2 (VL.os (oCons (VL.os (oCons (oV 7) (oNil)) g_put_off) (oCons (o2 (oV 8) (oV 12) shlD) (oNil))) g_mark_shares) (oV 11) neD))) (sRet (oC (.bool false))) (sNx)
def st_16 : Sf := sRet (o2 (VL.os (oCons (oV 7) (oCons (oV 8) (oNil))) g_marks_told) (o2 (VL.os (oCons (oV 3) (oCons (o2 (oV 6) (oC (.int 0)) ixD) (oNil))) g_marks_told) (VL.os (oCons (oV 5) (oCons (o2 (oV 6) (oC (.int 1)) ixD) (oNil))) g_marks_told) addD) eqD)
theorem law_st : b_law = sSeq st_1 (sSeq st_2 (sSeq st_3 (sSeq st_4 (sSeq st_5 (sSeq st_6 (sSeq st_7 (sSeq st_8 (sSeq st_9 (sSeq st_10 (sSeq st_11 (sSeq st_12 (sSeq st_13 (sSeq st_14 (sSeq st_15 (st_16))))))))))))))) := rfl
theorem okw (xs : List Nat) : okS (wordOf xs) = true := by
  unfold wordOf
  split
  · exact (by decide +kernel : okS "sure" = true)
  · split
    · exact (by decide +kernel : okS "barred" = true)
    · exact (by decide +kernel : okS "open" = true)
theorem shw (xs : List Nat) : MA.Sh 0 (.str (wordOf xs)) := by
  have h := okw xs
  have h : ((PyData.str (wordOf xs)).canLay0 && decide ((PyData.str (wordOf xs)).depth ≤ 64)) = true := h
  rw [Bool.and_eq_true] at h
  exact ⟨h.1, by simp [PyData.depth]⟩
/-- every second cell -/
theorem snd_i (X : D) (δ : Dv) (S lo : Int) (R : List D) (h : δ[2]? = some (.fz X)) (ln : lenD [X] = some (.int S)) (r3 : rng3D [.int lo, .int S, .int 2] = some R) : (oL (oCons (oC (.int lo)) (oCons (VL.os (oCons (oV 2) (oNil)) lenD) (oCons (oC (.int 2)) (oNil)))) rng3D) δ = some R := by
  simp [h, ln, r3]
theorem snd_x (X : D) (δ : Dv) (lo : Int) (N : Nat) (y : Nat → D) (hN : N ≤ 6) (i : (oL (oCons (oC (.int lo)) (oCons (VL.os (oCons (oV 2) (oNil)) lenD) (oCons (oC (.int 2)) (oNil)))) rng3D) δ = some (rngL3 lo 2 N)) (h : δ[2]? = some (.fz X)) (H : ∀ k : Nat, k < N → ixD X (.int (lo + (k : Nat) * 2)) = some (y k)) : oComp (oL (oCons (oC (.int lo)) (oCons (VL.os (oCons (oV 2) (oNil)) lenD) (oCons (oC (.int 2)) (oNil)))) rng3D) [(2, "cells")] bv1 (o2 (oV 1) (oV 0) ixD) δ = some (.list ((List.range N).map y)) :=
  comp_map (h := fun k : Nat => PyData.int (lo + (k : Nat) * 2)) (k := y) (xs := List.range N) i (by rw [List.length_range]; omega) fun k hk => by
    have e := H k (List.mem_range.mp hk)
    simp [capS, h, e]
theorem snd_cells (lo : Nat) (hlo : lo ≤ 1) (cs : List Int) (hl : cs.length ≤ 12) : ∃ es : List Int, es.length ≤ 6 ∧ ∀ δ : Dv, δ[2]? = some (.fz (.list (cs.map .int))) → oComp (oL (oCons (oC (.int (lo : Nat))) (oCons (VL.os (oCons (oV 2) (oNil)) lenD) (oCons (oC (.int 2)) (oNil)))) rng3D) [(2, "cells")] bv1 (o2 (oV 1) (oV 0) ixD) δ = some (.list (es.map .int)) := by
  obtain ⟨S, hS⟩ : ∃ S : Int, (cs.length : Int) = S := ⟨_, rfl⟩
  obtain ⟨N, hN⟩ : ∃ N, rngN (lo : Nat) S 2 = N := ⟨_, rfl⟩
  have hN2 : N ≤ 6 ∧ ∀ k, k < N → lo + k * 2 < cs.length := by
    rw [← hN]; unfold rngN
    split
    · constructor
      · omega
      · intro k hk; omega
    · exact ⟨by omega, fun k hk => by omega⟩
  have ln : lenD [.list (cs.map PyData.int)] = some (.int S) := by rw [← hS]; simp
  have r3 : rng3D [.int (lo : Nat), .int S, .int 2] = some (rngL3 (lo : Nat) 2 N) := by rw [← hN]; exact rng3D_int (by omega)
  refine ⟨(List.range N).map fun k => cs.getD (lo + k * 2) 0, by rw [List.length_map, List.length_range]; exact hN2.1, fun δ h => ?_⟩
  rw [List.map_map]
  exact snd_x _ δ _ N _ hN2.1 (snd_i _ δ S _ _ h ln r3) h fun k hk => by
    have lt := hN2.2 k hk
    exact atI_of (j := lo + k * 2) (by omega) (by simp [lt])
theorem b1 (S : D) (c : Int) (h : g__law_cell_at [S, .int 0] = some (.int c)) : st_1 [.fz S, .un, .un, .un, .un, .un, .un, .un, .un, .un, .un, .un, .un] = some (.nx, [.fz S, .fz (.int c), .un, .un, .un, .un, .un, .un, .un, .un, .un, .un, .un]) := by
  simp [st_1, h]
theorem b2 (S B : D) (z1 : Sl) (sl : slD S (some 2) (some 14) = some B) : st_2 [.fz S, z1, .un, .un, .un, .un, .un, .un, .un, .un, .un, .un, .un] = some (.nx, [.fz S, z1, .fz B, .un, .un, .un, .un, .un, .un, .un, .un, .un, .un]) := by
  simp [st_2, sl]
theorem b3 (z0 : Sl) (c w y : Int) (B E R : D) (hw : 1 + c % 2 = w) (hy : c / 4 % 3 = y) (p : p1_law [z0, .fz (.int c), .fz B, .un, .un, .un, .un, .un, .un, .un, .un, .un, .un] = some E) (r : g__law_rows [E, .int w, .int y] = some R) : st_3 [z0, .fz (.int c), .fz B, .un, .un, .un, .un, .un, .un, .un, .un, .un, .un] = some (.nx, [z0, .fz (.int c), .fz B, .fz (.tuple [.int w, R]), .un, .un, .un, .un, .un, .un, .un, .un, .un]) := by
  simp [st_3, hw, hy, p, r]
theorem b4 (z0 z1 z2 z3 : Sl) (E : D) (p : p2_law [z0, z1, z2, z3, .un, .un, .un, .un, .un, .un, .un, .un, .un] = some E) : st_4 [z0, z1, z2, z3, .un, .un, .un, .un, .un, .un, .un, .un, .un] = some (.nx, [z0, z1, z2, z3, .fz E, .un, .un, .un, .un, .un, .un, .un, .un]) := by
  simp [st_4, p]
theorem b5 (z0 z2 z3 : Sl) (c w y : Int) (E R : D) (hw : 1 + c / 2 % 2 = w) (hy : c / 12 % 2 = y) (r : g__law_rows [E, .int w, .int y] = some R) : st_5 [z0, .fz (.int c), z2, z3, .fz E, .un, .un, .un, .un, .un, .un, .un, .un] = some (.nx, [z0, .fz (.int c), z2, z3, .fz E, .fz (.tuple [.int w, R]), .un, .un, .un, .un, .un, .un, .un]) := by
  simp [st_5, hw, hy, r]
theorem b6 (S : D) (z1 z2 z4 : Sl) (C1 C2 : D) (c w v P Q p q : Int) (h : g__law_cell_at [S, .int 1] = some (.int c)) (c1 : ixD C1 (.int 0) = some (.int w)) (c2 : ixD C2 (.int 0) = some (.int v)) (s1 : shlD (.int 1) (.int w) = some (.int P)) (s2 : shlD (.int 1) (.int v) = some (.int Q)) (m1 : modD (.int c) (.int P) = some (.int p)) (m2 : modD (.int (c / 5)) (.int Q) = some (.int q)) : st_6 [.fz S, z1, z2, .fz C1, z4, .fz C2, .un, .un, .un, .un, .un, .un, .un] = some (.nx, [.fz S, z1, z2, .fz C1, z4, .fz C2, .fz (.list [.int p, .int q]), .un, .un, .un, .un, .un, .un]) := by
  simp [st_6, h, c1, c2, s1, s2, m1, m2]
theorem b7 (z0 z1 z2 z4 z6 : Sl) (C1 C2 C : D) (h : g_side_by_side [C1, C2] = some C) : st_7 [z0, z1, z2, .fz C1, z4, .fz C2, z6, .un, .un, .un, .un, .un, .un] = some (.nx, [z0, z1, z2, .fz C1, z4, .fz C2, z6, .fz C, .un, .un, .un, .un, .un]) := by
  simp [st_7, h]
theorem b8 (z0 z1 z2 z3 z4 z7 : Sl) (C2 : D) (p q v s pl : Int) (c2 : ixD C2 (.int 0) = some (.int v)) (sh : shlD (.int p) (.int v) = some (.int s)) (e : s + q = pl) : st_8 [z0, z1, z2, z3, z4, .fz C2, .fz (.list [.int p, .int q]), z7, .un, .un, .un, .un, .un] = some (.nx, [z0, z1, z2, z3, z4, .fz C2, .fz (.list [.int p, .int q]), z7, .fz (.int pl), .un, .un, .un, .un]) := by
  have a1 : atI [PyData.int p, .int q] 0 = some (.int p) := rfl
  have a2 : atI [PyData.int p, .int q] 1 = some (.int q) := rfl
  simp [st_8, c2, sh, e, a1, a2]
theorem b9 (z0 z1 z2 z4 z5 z7 z8 : Sl) (C1 T : D) (p q : Int) (h : g_branches [C1, .int p] = some T) : st_9 [z0, z1, z2, .fz C1, z4, z5, .fz (.list [.int p, .int q]), z7, z8, .un, .un, .un, .un] = some (.nx, [z0, z1, z2, .fz C1, z4, z5, .fz (.list [.int p, .int q]), z7, z8, .fz T, .un, .un, .un]) := by
  have a1 : atI [PyData.int p, .int q] 0 = some (.int p) := rfl
  simp [st_9, h, a1]
theorem b10 (z0 z1 z2 z3 z4 z7 z8 z9 : Sl) (C2 T : D) (p q : Int) (h : g_branches [C2, .int q] = some T) : st_10 [z0, z1, z2, z3, z4, .fz C2, .fz (.list [.int p, .int q]), z7, z8, z9, .un, .un, .un] = some (.nx, [z0, z1, z2, z3, z4, .fz C2, .fz (.list [.int p, .int q]), z7, z8, z9, .fz T, .un, .un]) := by
  have a2 : atI [PyData.int p, .int q] 1 = some (.int q) := rfl
  simp [st_10, h, a2]
theorem b11 (z0 z1 z2 z3 z4 z5 z6 : Sl) (C P A B T : D) (h : g_branches [C, P] = some T) (h2 : g__law_products [A, B] = some T) (ne : neD T T = some (.bool false)) : st_11 [z0, z1, z2, z3, z4, z5, z6, .fz C, .fz P, .fz A, .fz B, .un, .un] = some (.nx, [z0, z1, z2, z3, z4, z5, z6, .fz C, .fz P, .fz A, .fz B, .un, .un]) := by
  simp [st_11, h, h2, ne]
theorem b12 (z0 z1 z2 z4 z7 z8 z9 z10 : Sl) (C1 C2 A B T : D) (p q : Int) (h1 : g_mark_shares [C1, .int p] = some A) (h2 : g_mark_shares [C2, .int q] = some B) (h : g__law_share_products [A, B] = some T) : st_12 [z0, z1, z2, .fz C1, z4, .fz C2, .fz (.list [.int p, .int q]), z7, z8, z9, z10, .un, .un] = some (.nx, [z0, z1, z2, .fz C1, z4, .fz C2, .fz (.list [.int p, .int q]), z7, z8, z9, z10, .fz T, .un]) := by
  have a1 : atI [PyData.int p, .int q] 0 = some (.int p) := rfl
  have a2 : atI [PyData.int p, .int q] 1 = some (.int q) := rfl
  simp [st_12, h1, h2, h, a1, a2]
theorem b13 (z0 z1 z2 z3 z4 z5 z6 z9 z10 : Sl) (C P T : D) (h : g_mark_shares [C, P] = some T) (ne : neD T T = some (.bool false)) : st_13 [z0, z1, z2, z3, z4, z5, z6, .fz C, .fz P, z9, z10, .fz T, .un] = some (.nx, [z0, z1, z2, z3, z4, z5, z6, .fz C, .fz P, z9, z10, .fz T, .un]) := by
  simp [st_13, h, ne]
theorem b14 (z0 z1 z2 z3 z4 z5 z6 z8 z9 z10 z11 : Sl) (C R : D) (k : Int) (c1 : ixD C (.int 1) = some R) (h : g__law_looks [R] = some (.int k)) : st_14 [z0, z1, z2, z3, z4, z5, z6, .fz C, z8, z9, z10, z11, .un] = some (.nx, [z0, z1, z2, z3, z4, z5, z6, .fz C, z8, z9, z10, z11, .fz (.int k)]) := by
  simp [st_14, c1, h]
theorem b15 (z0 z1 z2 z3 z4 z5 z6 z9 z10 : Sl) (C T : D) (w k p : Int) (c0 : ixD C (.int 0) = some (.int w)) (ne : neD T T = some (.bool false)) (h : w + k < 5 → ∃ C' p', g_put_off [C] = some C' ∧ shlD (.int p) (.int k) = some (.int p') ∧ g_mark_shares [C', .int p'] = some T) : st_15 [z0, z1, z2, z3, z4, z5, z6, .fz C, .fz (.int p), z9, z10, .fz T, .fz (.int k)] = some (.nx, [z0, z1, z2, z3, z4, z5, z6, .fz C, .fz (.int p), z9, z10, .fz T, .fz (.int k)]) := by
  by_cases q : w + k < 5
  · obtain ⟨C', p', h1, h2, h3⟩ := h q
    simp [st_15, c0, q, h1, h2, h3, ne]
  · simp [st_15, c0, q]
theorem b16 (z0 z1 z2 z4 z9 z10 z11 z12 : Sl) (C1 C2 C P A B T : D) (p q : Int) (h1 : g_marks_told [C1, .int p] = some A) (h2 : g_marks_told [C2, .int q] = some B) (h : g_marks_told [C, P] = some T) (ad : addD A B = some T) (e : eqD T T = some (.bool true)) : st_16 [z0, z1, z2, .fz C1, z4, .fz C2, .fz (.list [.int p, .int q]), .fz C, .fz P, z9, z10, z11, z12] = some (.rt (.bool true), [z0, z1, z2, .fz C1, z4, .fz C2, .fz (.list [.int p, .int q]), .fz C, .fz P, z9, z10, z11, z12]) := by
  have a1 : atI [PyData.int p, .int q] 0 = some (.int p) := rfl
  have a2 : atI [PyData.int p, .int q] 1 = some (.int q) := rfl
  simp [st_16, h1, h2, h, ad, e, a1, a2]
theorem brs_ne {n p : Nat} (hp : p < 2 ^ n) (rs : List Rw) (ho : okRs n 0 rs) (hl : rs.length ≤ 60) : brs n p rs ≠ [] := fun z => by
  have TN := thru_norm (n := n) (M := 60) rs 0 0 0 _ ho (bi0 p) (by omega)
  have z : thru n rs [([], MA.oneAt p)] = [] := z
  rw [z] at TN
  have TN : (⟨0, 0⟩ : MA.S2) = MA.S2.add (MA.nsum 60 n (MA.oneAt p)) ⟨0, 0⟩ := TN
  rw [one_sum hp] at TN
  have := congrArg MA.S2.p TN
  revert this
  show ¬ ((0 : Int) = 1 * 2 ^ 60 + 0)
  decide
structure BrOk (n : Nat) (rs : List Rw) (p : Nat) : Prop where
  le : ∀ b ∈ brs n p rs, b.1.length = lkN rs ∧ (∀ y, MA.Q4.Le (2 ^ 200000) (b.2 y).1) ∧ ∀ y, (b.2 y).2 ≤ 60
  wh : ∀ M, 60 ≤ M → M ≤ 300 → ∀ b ∈ brs n p rs, g_whole [stD n b.2] = some (wh n b) ∧ Vs 300000 60 (wh n b) (MA.nsum M n b.2) M
  ln : (brs n p rs).length ≤ 64
  ms : g_mark_shares [circD n rs, .int p] = some (.list ((brs n p rs).map (shD n)))
  br : g_branches [circD n rs, .int p] = some (.list ((brs n p rs).map (brD n)))
theorem br_ok {n p : Nat} (hn : n ≤ 6) (hp : p < 2 ^ n) (rs : List Rw) (ho : okRs n 0 rs) (hl : rs.length ≤ 30) : BrOk n rs p := by
  obtain ⟨k1, q1, d1, d2, f1⟩ := fi_thru (n := n) rs 0 0 _ (fi0 p)
  have m1 : (0 + rs.length + 1) * rs.length ≤ 40 * 40 := Nat.mul_le_mul (by omega) (by omega)
  have fu1 := brs_full hp rs ho
  obtain ⟨_, _, bi⟩ := brs_bi (n := n) p rs ho
  have l6 := looks_six rs 0 ho (by omega)
  have ln : (brs n p rs).length ≤ 64 := Nat.le_trans bi.ln (Nat.pow_le_pow_right (by decide) (by omega) : 2 ^ (rs.filter Rw.isLook).length ≤ 2 ^ 6)
  have mem : ∀ b ∈ brs n p rs, b ∈ fthru n rs [([], MA.oneAt p)] := fun b hb => by
    rw [fu1] at hb
    exact (List.mem_filter.mp hb).1
  have v1 : ∀ M, 60 ≤ M → M ≤ 300 → ∀ b ∈ brs n p rs, g_whole [stD n b.2] = some (wh n b) ∧ Vs 300000 60 (wh n b) (MA.nsum M n b.2) M := fun M h1 h2 b hb => by
    have w := wh_eq (M := M) hn (f1.bd b (mem b hb)) (f1.ls b (mem b hb)) (by omega) (by omega) (by omega)
    exact ⟨w.1, w.2.mono (Nat.le_refl _) (by omega)⟩
  have br := branches_eq hn p rs ho (by omega)
  exact ⟨fun b hb => ⟨bi.mks b hb, fun y => (f1.bd b (mem b hb) y).2.mono (Nat.pow_le_pow_right (by decide) (by omega)), fun y => by have := (f1.bd b (mem b hb) y).1; omega⟩, v1, ln, ms_x (circD n rs) p n (brs n p rs) (by omega) br fun b hb => (v1 60 (by decide) (by decide) b hb).1, br⟩
theorem law_true (ns : List Int) (hl : ns.length ≤ 63) : g_law [.list (ns.map .int)] = some (.bool true) := by
  obtain ⟨c, hc⟩ := lcell_eq ns 0 (by decide)
  obtain ⟨c1, hc1⟩ := lcell_eq ns 1 (by decide)
  obtain ⟨n, hw⟩ : ∃ w : Nat, 1 + c % 2 = (w : Int) := ⟨(1 + c % 2).toNat, by omega⟩
  obtain ⟨m, hv⟩ : ∃ w : Nat, 1 + c / 2 % 2 = (w : Int) := ⟨(1 + c / 2 % 2).toNat, by omega⟩
  obtain ⟨y, hy⟩ : ∃ w : Nat, c / 4 % 3 = (w : Int) := ⟨(c / 4 % 3).toNat, by omega⟩
  obtain ⟨x, hx⟩ : ∃ w : Nat, c / 12 % 2 = (w : Int) := ⟨(c / 12 % 2).toNat, by omega⟩
  have n1 : 1 ≤ n := by omega
  have n2 : n ≤ 2 := by omega
  have m1 : 1 ≤ m := by omega
  have m2 : m ≤ 2 := by omega
  obtain ⟨cs, hcl, hsl⟩ := cut_214 ns
  obtain ⟨es, hel, hes⟩ := snd_cells 0 (by decide) cs hcl
  obtain ⟨fs, hfl, hfs⟩ := snd_cells 1 (by decide) cs hcl
  obtain ⟨rs, r1, ho, r3, er⟩ := rows_ok n y n1 (by omega) es (by omega)
  obtain ⟨ss, s1, hs, s3, es2⟩ := rows_ok m x m1 (by omega) fs (by omega)
  obtain ⟨L, eL⟩ : ∃ L, lkN rs = L := ⟨_, rfl⟩
  obtain ⟨K, eK⟩ : ∃ L, lkN ss = L := ⟨_, rfl⟩
  have LK : L + K ≤ 3 := by omega
  have P0 : ∀ w : Nat, 1 ≤ 2 ^ w := fun w => Nat.pow_pos (by decide)
  obtain ⟨p, hp, ep, _⟩ := mod_nat c1 (2 ^ n) (P0 n)
  obtain ⟨q, hq, eq, _⟩ := mod_nat (c1 / 5) (2 ^ m) (P0 m)
  have p64 : p < 64 := Nat.lt_of_lt_of_le hp (Nat.pow_le_pow_right (by decide) (by omega) : 2 ^ n ≤ 2 ^ 6)
  have hb := ok_both (n := n) (m := m) rs ss ho hs eL (by rw [eK]; omega)
  obtain ⟨bs, ebs⟩ : ∃ bs, rs ++ ss.map (onRw n L) = bs := ⟨_, rfl⟩
  have lb : bs.length ≤ 12 := by rw [← ebs, List.length_append, List.length_map]; omega
  obtain ⟨P, eP⟩ : ∃ P, p * 2 ^ m + q = P := ⟨_, rfl⟩
  have hP : P < 2 ^ (n + m) := by
    rw [Nat.pow_add, ← eP]
    have : (p + 1) * 2 ^ m ≤ 2 ^ n * 2 ^ m := Nat.mul_le_mul_right _ hp
    rw [Nat.add_mul, Nat.one_mul] at this
    omega
  have P64 : P < 64 := Nat.lt_of_lt_of_le hP (Nat.pow_le_pow_right (by decide) (by omega) : 2 ^ (n + m) ≤ 2 ^ 6)
  have BS := brs_side hp hq rs ss ho hs eL (by omega) hb
  have SE := side_eq n m L K (by omega) rs ss (by omega) (by omega) eL eK (by omega)
  have lkb := lk_both n L rs ss
  rw [ebs] at BS SE hb lkb
  rw [eP] at BS
  rw [eL, eK] at lkb
  have O1 := br_ok (by omega) hp rs ho (by omega)
  have O2 := br_ok (by omega) hq ss hs (by omega)
  have O3 := br_ok (by omega) hP bs hb (by omega)
  have LP := lprod_eq (n := n) (m := m) (by omega) (brs n p rs) (brs m q ss) (fun b h => ⟨by rw [(O1.le b h).1]; omega, (O1.le b h).2.1⟩) (fun b h => ⟨by rw [(O2.le b h).1]; omega, (O2.le b h).2.1⟩) (by have := O1.ln; omega) (by have := O2.ln; omega)
  rw [← BS] at LP
  have SP := sprod_eq (n := n) (m := m) (brs n p rs) (brs m q ss) (fun a ha => ⟨by rw [(O1.le a ha).1]; omega, fun b h => ⟨by rw [(O2.le b h).1]; omega, wh_tb (k := 60) (O1.wh 60 (by decide) (by decide) a ha).2 (O2.wh 60 (by decide) (by decide) b h).2 ((O3.wh (60 + 60) (by decide) (by decide) (tb m a b) (by rw [BS]; exact List.mem_flatMap.mpr ⟨a, ha, List.mem_map.mpr ⟨b, h, rfl⟩⟩)).2.mono (Nat.le_refl _) (by decide)) (O1.le a ha).2.2 (O2.le b h).2.2⟩⟩) (by have := O1.ln; omega) (by have := O2.ln; omega)
  rw [← BS] at SP
  have NE2 : neD (.list ((brs (n + m) P bs).map (shD (n + m)))) (.list ((brs (n + m) P bs).map (shD (n + m)))) = some (.bool false) := ne_self (k := 3) (MA.Sh.list fun x hx => by
    obtain ⟨b, h, rfl⟩ := List.mem_map.mp hx
    exact sh_sh (O3.wh 60 (by decide) (by decide) b h).2) (by decide)
  have LE := llooks_eq bs (by omega)
  rw [lkb] at LE
  have T1 := told_eq (by omega) p rs ho (by omega)
  have T2 := told_eq (by omega) q ss hs (by omega)
  have T3 := told_eq (by omega) P bs hb (by omega)
  have W := words_prod (m := m) (K := K) (fun a ha => (O1.le a ha).1.trans eL) (brs_ne hp rs ho (by omega)) (brs_ne hq ss hs (by omega))
  rw [← BS] at W
  have e1 : (rs.filter Rw.isLook).length = L := eL
  have e2 : (ss.filter Rw.isLook).length = K := eK
  have e3 : (bs.filter Rw.isLook).length = L + K := lkb
  rw [e1] at T1
  rw [e2] at T2
  rw [e3, W] at T3
  have AD := addD_list (xs := (List.range L).map fun i => PyData.str (wordOf ((brs n p rs).map fun a => a.1.getD i 0))) (ys := (List.range K).map fun i => PyData.str (wordOf ((brs m q ss).map fun b => b.1.getD i 0))) (by simp; omega)
  have EQ := eq_self (k := 1) (d := .list (((List.range L).map fun i => PyData.str (wordOf ((brs n p rs).map fun a => a.1.getD i 0))) ++ (List.range K).map fun i => PyData.str (wordOf ((brs m q ss).map fun b => b.1.getD i 0)))) (MA.Sh.list fun x hx => by
    rcases List.mem_append.mp hx with h | h
    · obtain ⟨i, _, rfl⟩ := List.mem_map.mp h; exact shw _
    · obtain ⟨i, _, rfl⟩ := List.mem_map.mp h; exact shw _) (by decide)
  have PO : ((n + m : Nat) : Int) + ((L + K : Nat) : Int) < 5 → ∃ C' p', g_put_off [circD (n + m) bs] = some C' ∧ shlD (.int (P : Nat)) (.int ((L + K : Nat) : Int)) = some (.int p') ∧ g_mark_shares [C', .int p'] = some (.list ((brs (n + m) P bs).map (shD (n + m)))) := fun h5 => by
    have h6 : n + m + (L + K) ≤ 6 := by omega
    have PE := put_eq h6 bs lkb (by omega)
    have SS := shares_same h6 hP bs hb lkb (by omega)
    have ok2 := poAll_ok bs hb lkb (by omega)
    have pl : (poAll (n + m) (L + K) bs).length ≤ 26 := by
      unfold poAll looksAt
      rw [List.length_append, List.length_map, poRows_len, List.length_map, List.length_range']
      omega
    have hP' : P * 2 ^ (L + K) < 2 ^ (n + m + (L + K)) := by rw [Nat.pow_add 2 (n + m)]; exact Nat.mul_lt_mul_of_pos_right hP (Nat.pow_pos (by decide))
    have O4 := br_ok h6 hP' _ ok2 (by omega)
    exact ⟨_, _, PE, shl_p P (L + K) P64 (by omega), by rw [SS]; exact O4.ms⟩
  have PL : ((p * 2 ^ m : Nat) : Int) + ((q : Nat) : Int) = ((P : Nat) : Int) := by rw [← eP]; omega
  have i0 : ∀ (w : Nat) (ts : List Rw), ixD (circD w ts) (.int 0) = some (.int (w : Nat)) := fun _ _ => rfl
  have i1 : ∀ (w : Nat) (ts : List Rw), ixD (circD w ts) (.int 1) = some (.tuple (ts.map rwD)) := fun _ _ => rfl
  show runB N_law 1 b_law [.list (ns.map .int)] = _
  have fin : ∃ δ, b_law [.fz (.list (ns.map .int)), .un, .un, .un, .un, .un, .un, .un, .un, .un, .un, .un, .un] = some (.rt (.bool true), δ) := by
    refine ⟨?_, (congrFun law_st _).trans ?_⟩
    rotate_left
    refine (seq_nx (b1 _ _ hc)).trans ?_
    refine (seq_nx (b2 _ _ _ hsl)).trans ?_
    refine (seq_nx (b3 _ _ _ _ _ _ _ hw hy (hes _ rfl) er)).trans ?_
    refine (seq_nx (b4 _ _ _ _ _ (hfs _ rfl))).trans ?_
    refine (seq_nx (b5 _ _ _ _ _ _ _ _ hv hx es2)).trans ?_
    refine (seq_nx (b6 _ _ _ _ _ _ _ _ _ _ _ _ _ hc1 (i0 n rs) (i0 m ss) (shl1 n (by omega)) (shl1 m (by omega)) ep eq)).trans ?_
    refine (seq_nx (b7 _ _ _ _ _ _ _ _ SE)).trans ?_
    refine (seq_nx (b8 _ _ _ _ _ _ _ _ _ _ _ _ (i0 m ss) (shl_p p m p64 (by omega)) PL)).trans ?_
    refine (seq_nx (b9 _ _ _ _ _ _ _ _ _ _ _ O1.br)).trans ?_
    refine (seq_nx (b10 _ _ _ _ _ _ _ _ _ _ _ _ O2.br)).trans ?_
    refine (seq_nx (b11 _ _ _ _ _ _ _ _ _ _ _ _ O3.br LP (ne_brs _ _))).trans ?_
    refine (seq_nx (b12 _ _ _ _ _ _ _ _ _ _ _ _ _ _ _ O1.ms O2.ms SP)).trans ?_
    refine (seq_nx (b13 _ _ _ _ _ _ _ _ _ _ _ _ O3.ms NE2)).trans ?_
    refine (seq_nx (b14 _ _ _ _ _ _ _ _ _ _ _ _ _ _ (i1 (n + m) bs) LE)).trans ?_
    refine (seq_nx (b15 _ _ _ _ _ _ _ _ _ _ _ _ _ _ (i0 (n + m) bs) NE2 PO)).trans ?_
    exact b16 _ _ _ _ _ _ _ _ _ _ _ _ _ _ _ _ _ T1 T2 T3 AD EQ
  obtain ⟨δ, fin⟩ := fin
  unfold runB
  rw [if_pos (show [PyData.list (ns.map .int)].length = 1 from rfl)]
  show (b_law [.fz (.list (ns.map .int)), .un, .un, .un, .un, .un, .un, .un, .un, .un, .un, .un, .un]).bind _ = _
  rw [fin]; rfl

end GN
namespace GN
open PySem PySem.Spec PyProof.Rows L2 VL
structure Txt (mg : Str → Option Value) : Prop where
  min : mg "min" = none
  max : mg "max" = none
  tuple : mg "tuple" = none
  range : mg "range" = none
  len : mg "len" = none
  all : mg "all" = none
section
variable {P : Program} {w : World} {K : PySem.W.Frag} {mg : Str → Option Value} {base : Heap}
theorem sc_twos_shared : FnScope N_twos_shared ["joined", "most"] (defScope s_twos_shared) := ⟨rfl, rfl, rfl, by decide +kernel, rfl, by decide +kernel, by decide +kernel⟩
theorem ok_twos_shared {f : Addr} {fd : FuncData} {dV : Value} (F : FunV K "twos_shared" "twos_shared" s_twos_shared f fd dV) (T : Txt mg) : FnOk P w K mg base CX0 1 f fd ["joined", "most"] (spD K g_twos_shared) :=
  fn_b (k := 0) (b := b_twos_shared) F sc_twos_shared fun cdv A outer s H E hr => (bv_cons (sv_if (tv_cmp (d_eq hr.units) (ev_var 0) ev_int (nomark _)) (bv_one (sv_ret (ev_var 1))) bv_nil) (bv_one (sv_ret (ev_callB (c_min rfl) rfl T.min (by decide +kernel) (av_cons (ev_var 1) (av_cons (ev_op d_sub (ev_bits (ev_op d_and (ev_var 0) (ev_un d_neg (ev_var 0)))) ev_int) av_nil))))))
theorem sc_by_root : FnScope N_by_root ["a", "b", "c", "d"] (defScope s_by_root) := ⟨rfl, rfl, rfl, by decide +kernel, rfl, by decide +kernel, by decide +kernel⟩
theorem ok_by_root {f : Addr} {fd : FuncData} {dV : Value} (F : FunV K "by_root" "by_root" s_by_root f fd dV) (T : Txt mg) : FnOk P w K mg base CX0 1 f fd ["a", "b", "c", "d"] (spD K g_by_root) :=
  fn_b (k := 0) (b := b_by_root) F sc_by_root fun cdv A outer s H E hr => (bv_one (sv_ret (ev_tup (av_cons (ev_op d_sub (ev_var 1) (ev_var 3)) (av_cons (ev_op d_add (ev_var 0) (ev_var 2)) (av_cons (ev_op d_add (ev_var 1) (ev_var 3)) (av_cons (ev_op d_sub (ev_var 2) (ev_var 0)) av_nil)))))))
theorem sc_number : FnScope N_number ["a", "b", "c", "d", "k"] (defScope s_number) := ⟨rfl, rfl, rfl, by decide +kernel, rfl, by decide +kernel, by decide +kernel⟩
theorem ok_number {f : Addr} {fd : FuncData} {dV : Value} (F : FunV K "number" "number" s_number f fd dV) (T : Txt mg) (C_twos_shared : Cal P w K mg base "twos_shared" 1 g_twos_shared []) (C_by_root : Cal P w K mg base "by_root" 1 g_by_root []) : FnOk P w K mg base CX0 2 f fd ["a", "b", "c", "d", "k"] (spD K g_number) :=
  fn_b (k := 1) (b := b_number) F sc_number fun cdv A outer s H E hr => (bv_cons (sv_set 5 sc_number.nd (ev_def0 C_twos_shared (hr.mono (by decide)) rfl (av_cons (ev_op d_or (ev_op d_or (ev_op d_or (ev_var 0) (ev_var 1)) (ev_var 2)) (ev_var 3)) (av_cons (ev_op d_div (ev_var 4) ev_int) av_nil)))) (bv_cons (sv_set 0 sc_number.nd (ev_op d_shr (ev_var 0) (ev_var 5))) (bv_cons (sv_set 1 sc_number.nd (ev_op d_shr (ev_var 1) (ev_var 5))) (bv_cons (sv_set 2 sc_number.nd (ev_op d_shr (ev_var 2) (ev_var 5))) (bv_cons (sv_set 3 sc_number.nd (ev_op d_shr (ev_var 3) (ev_var 5))) (bv_cons (sv_set 4 sc_number.nd (ev_op d_sub (ev_var 4) (ev_op d_mulI ev_int (ev_var 5)))) (bv_cons (sv_if (WV.tv (wv_or (tv_cmp (d_eq hr.units) (ev_var 4) ev_int (nomark _)) (wv_or (tv_cmp (d_eq hr.units) (ev_op d_mod (ev_op d_sub (ev_var 0) (ev_var 2)) ev_int) ev_int (nomark _)) (wv_or1 (tv_cmp (d_eq hr.units) (ev_op d_mod (ev_op d_sub (ev_var 1) (ev_var 3)) ev_int) ev_int (nomark _)))))) (bv_one (sv_ret (ev_tup (av_cons (ev_var 0) (av_cons (ev_var 1) (av_cons (ev_var 2) (av_cons (ev_var 3) (av_cons (ev_var 4) av_nil)))))))) bv_nil) (bv_cons (sv_set 6 sc_number.nd (ev_def0 C_by_root (hr.mono (by decide)) rfl (av_cons (ev_var 0) (av_cons (ev_var 1) (av_cons (ev_var 2) (av_cons (ev_var 3) av_nil)))))) (bv_one (sv_ret (ev_tup (av_cons (ev_op d_div (ev_ix d_ix (ev_var 6) ev_int (fun _ _ => rfl)) ev_int) (av_cons (ev_op d_div (ev_ix d_ix (ev_var 6) ev_int (fun _ _ => rfl)) ev_int) (av_cons (ev_op d_div (ev_ix d_ix (ev_var 6) ev_int (fun _ _ => rfl)) ev_int) (av_cons (ev_op d_div (ev_ix d_ix (ev_var 6) ev_int (fun _ _ => rfl)) ev_int) (av_cons (ev_op d_sub (ev_var 4) ev_int) av_nil))))))))))))))))
theorem sc_parts_over_ring : FnScope N_parts_over_ring ["x", "k"] (defScope s_parts_over_ring) := ⟨rfl, rfl, rfl, by decide +kernel, rfl, by decide +kernel, by decide +kernel⟩
theorem ok_parts_over_ring {f : Addr} {fd : FuncData} {dV : Value} (F : FunV K "parts_over" "parts_over" s_parts_over_ring f fd dV) (T : Txt mg) (C_by_root : Cal P w K mg base "by_root" 1 g_by_root []) : FnOk P w K mg base CX0 2 f fd ["x", "k"] (spD K g_parts_over_ring) :=
  fn_b (k := 1) (b := b_parts_over_ring) F sc_parts_over_ring fun cdv A outer s H E hr => (bv_cons (sv_set 2 sc_parts_over_ring.nd (ev_op d_sub (ev_var 1) (ev_ix d_ix (ev_var 0) ev_int (fun _ _ => rfl)))) (bv_cons (sv_set 3 sc_parts_over_ring.nd (ev_op d_div (ev_var 2) ev_int)) (bv_cons (sv_set 4 sc_parts_over_ring.nd (ev_op d_shl (ev_ix d_ix (ev_var 0) ev_int (fun _ _ => rfl)) (ev_var 3))) (bv_cons (sv_set 5 sc_parts_over_ring.nd (ev_op d_shl (ev_ix d_ix (ev_var 0) ev_int (fun _ _ => rfl)) (ev_var 3))) (bv_cons (sv_set 6 sc_parts_over_ring.nd (ev_op d_shl (ev_ix d_ix (ev_var 0) ev_int (fun _ _ => rfl)) (ev_var 3))) (bv_cons (sv_set 7 sc_parts_over_ring.nd (ev_op d_shl (ev_ix d_ix (ev_var 0) ev_int (fun _ _ => rfl)) (ev_var 3))) (bv_cons (sv_if (tv_cmp (d_eq hr.units) (ev_op d_mod (ev_var 2) ev_int) ev_int (nomark _)) (bv_one (sv_ret (ev_def0 C_by_root (hr.mono (by decide)) rfl (av_cons (ev_var 4) (av_cons (ev_var 5) (av_cons (ev_var 6) (av_cons (ev_var 7) av_nil))))))) bv_nil) (bv_one (sv_ret (ev_tup (av_cons (ev_var 4) (av_cons (ev_var 5) (av_cons (ev_var 6) (av_cons (ev_var 7) av_nil))))))))))))))
theorem sc_plus : FnScope N_plus ["x", "y"] (defScope s_plus) := ⟨rfl, rfl, rfl, by decide +kernel, rfl, by decide +kernel, by decide +kernel⟩
theorem ok_plus {f : Addr} {fd : FuncData} {dV : Value} (F : FunV K "plus" "plus" s_plus f fd dV) (T : Txt mg) (C_parts_over_ring : Cal P w K mg base "parts_over_ring" 2 g_parts_over_ring []) (C_number : Cal P w K mg base "number" 2 g_number []) : FnOk P w K mg base CX0 3 f fd ["x", "y"] (spD K g_plus) :=
  fn_b (k := 2) (b := b_plus) F sc_plus fun cdv A outer s H E hr => (bv_cons (sv_set 2 sc_plus.nd (ev_callB (c_max rfl) rfl T.max (by decide +kernel) (av_cons (ev_ix d_ix (ev_var 0) ev_int (fun _ _ => rfl)) (av_cons (ev_ix d_ix (ev_var 1) ev_int (fun _ _ => rfl)) av_nil)))) (bv_cons (sv_set 3 sc_plus.nd (ev_def0 C_parts_over_ring (hr.mono (by decide)) rfl (av_cons (ev_var 0) (av_cons (ev_var 2) av_nil)))) (bv_cons (sv_set 4 sc_plus.nd (ev_def0 C_parts_over_ring (hr.mono (by decide)) rfl (av_cons (ev_var 1) (av_cons (ev_var 2) av_nil)))) (bv_one (sv_ret (ev_def0 C_number (hr.mono (by decide)) rfl (av_cons (ev_op d_add (ev_ix d_ix (ev_var 3) ev_int (fun _ _ => rfl)) (ev_ix d_ix (ev_var 4) ev_int (fun _ _ => rfl))) (av_cons (ev_op d_add (ev_ix d_ix (ev_var 3) ev_int (fun _ _ => rfl)) (ev_ix d_ix (ev_var 4) ev_int (fun _ _ => rfl))) (av_cons (ev_op d_add (ev_ix d_ix (ev_var 3) ev_int (fun _ _ => rfl)) (ev_ix d_ix (ev_var 4) ev_int (fun _ _ => rfl))) (av_cons (ev_op d_add (ev_ix d_ix (ev_var 3) ev_int (fun _ _ => rfl)) (ev_ix d_ix (ev_var 4) ev_int (fun _ _ => rfl))) (av_cons (ev_var 2) av_nil)))))))))))
theorem sc_times : FnScope N_times ["x", "y"] (defScope s_times) := ⟨rfl, rfl, rfl, by decide +kernel, rfl, by decide +kernel, by decide +kernel⟩
theorem ok_times {f : Addr} {fd : FuncData} {dV : Value} (F : FunV K "times" "times" s_times f fd dV) (T : Txt mg) (C_number : Cal P w K mg base "number" 2 g_number []) : FnOk P w K mg base CX0 3 f fd ["x", "y"] (spD K g_times) :=
  fn_b (k := 2) (b := b_times) F sc_times fun cdv A outer s H E hr => (bv_one (sv_ret (ev_def0 C_number (hr.mono (by decide)) rfl (av_cons (ev_op d_sub (ev_op d_sub (ev_op d_sub (ev_op d_mulI (ev_ix d_ix (ev_var 0) ev_int (fun _ _ => rfl)) (ev_ix d_ix (ev_var 1) ev_int (fun _ _ => rfl))) (ev_op d_mulI (ev_ix d_ix (ev_var 0) ev_int (fun _ _ => rfl)) (ev_ix d_ix (ev_var 1) ev_int (fun _ _ => rfl)))) (ev_op d_mulI (ev_ix d_ix (ev_var 0) ev_int (fun _ _ => rfl)) (ev_ix d_ix (ev_var 1) ev_int (fun _ _ => rfl)))) (ev_op d_mulI (ev_ix d_ix (ev_var 0) ev_int (fun _ _ => rfl)) (ev_ix d_ix (ev_var 1) ev_int (fun _ _ => rfl)))) (av_cons (ev_op d_sub (ev_op d_sub (ev_op d_add (ev_op d_mulI (ev_ix d_ix (ev_var 0) ev_int (fun _ _ => rfl)) (ev_ix d_ix (ev_var 1) ev_int (fun _ _ => rfl))) (ev_op d_mulI (ev_ix d_ix (ev_var 0) ev_int (fun _ _ => rfl)) (ev_ix d_ix (ev_var 1) ev_int (fun _ _ => rfl)))) (ev_op d_mulI (ev_ix d_ix (ev_var 0) ev_int (fun _ _ => rfl)) (ev_ix d_ix (ev_var 1) ev_int (fun _ _ => rfl)))) (ev_op d_mulI (ev_ix d_ix (ev_var 0) ev_int (fun _ _ => rfl)) (ev_ix d_ix (ev_var 1) ev_int (fun _ _ => rfl)))) (av_cons (ev_op d_sub (ev_op d_add (ev_op d_add (ev_op d_mulI (ev_ix d_ix (ev_var 0) ev_int (fun _ _ => rfl)) (ev_ix d_ix (ev_var 1) ev_int (fun _ _ => rfl))) (ev_op d_mulI (ev_ix d_ix (ev_var 0) ev_int (fun _ _ => rfl)) (ev_ix d_ix (ev_var 1) ev_int (fun _ _ => rfl)))) (ev_op d_mulI (ev_ix d_ix (ev_var 0) ev_int (fun _ _ => rfl)) (ev_ix d_ix (ev_var 1) ev_int (fun _ _ => rfl)))) (ev_op d_mulI (ev_ix d_ix (ev_var 0) ev_int (fun _ _ => rfl)) (ev_ix d_ix (ev_var 1) ev_int (fun _ _ => rfl)))) (av_cons (ev_op d_add (ev_op d_add (ev_op d_add (ev_op d_mulI (ev_ix d_ix (ev_var 0) ev_int (fun _ _ => rfl)) (ev_ix d_ix (ev_var 1) ev_int (fun _ _ => rfl))) (ev_op d_mulI (ev_ix d_ix (ev_var 0) ev_int (fun _ _ => rfl)) (ev_ix d_ix (ev_var 1) ev_int (fun _ _ => rfl)))) (ev_op d_mulI (ev_ix d_ix (ev_var 0) ev_int (fun _ _ => rfl)) (ev_ix d_ix (ev_var 1) ev_int (fun _ _ => rfl)))) (ev_op d_mulI (ev_ix d_ix (ev_var 0) ev_int (fun _ _ => rfl)) (ev_ix d_ix (ev_var 1) ev_int (fun _ _ => rfl)))) (av_cons (ev_op d_add (ev_ix d_ix (ev_var 0) ev_int (fun _ _ => rfl)) (ev_ix d_ix (ev_var 1) ev_int (fun _ _ => rfl))) av_nil))))))))
theorem sc_against : FnScope N_against ["x"] (defScope s_against) := ⟨rfl, rfl, rfl, by decide +kernel, rfl, by decide +kernel, by decide +kernel⟩
theorem ok_against {f : Addr} {fd : FuncData} {dV : Value} (F : FunV K "against" "against" s_against f fd dV) (T : Txt mg) : FnOk P w K mg base CX0 1 f fd ["x"] (spD K g_against) :=
  fn_b (k := 0) (b := b_against) F sc_against fun cdv A outer s H E hr => (bv_one (sv_ret (ev_tup (av_cons (ev_un d_neg (ev_ix d_ix (ev_var 0) ev_int (fun _ _ => rfl))) (av_cons (ev_un d_neg (ev_ix d_ix (ev_var 0) ev_int (fun _ _ => rfl))) (av_cons (ev_un d_neg (ev_ix d_ix (ev_var 0) ev_int (fun _ _ => rfl))) (av_cons (ev_un d_neg (ev_ix d_ix (ev_var 0) ev_int (fun _ _ => rfl))) (av_cons (ev_ix d_ix (ev_var 0) ev_int (fun _ _ => rfl)) av_nil))))))))
theorem sc_turned : FnScope N_turned ["x", "e"] (defScope s_turned) := ⟨rfl, rfl, rfl, by decide +kernel, rfl, by decide +kernel, by decide +kernel⟩
theorem ok_turned {f : Addr} {fd : FuncData} {dV : Value} (F : FunV K "turned" "turned" s_turned f fd dV) (T : Txt mg) : FnOk P w K mg base CX0 1 f fd ["x", "e"] (spD K g_turned) :=
  fn_b (k := 0) (b := b_turned) F sc_turned fun cdv A outer s H E hr => (bv_cons (sv_set 2 sc_turned.nd (ev_tup (av_cons (ev_ix d_ix (ev_var 0) ev_int (fun _ _ => rfl)) (av_cons (ev_ix d_ix (ev_var 0) ev_int (fun _ _ => rfl)) (av_cons (ev_ix d_ix (ev_var 0) ev_int (fun _ _ => rfl)) (av_cons (ev_ix d_ix (ev_var 0) ev_int (fun _ _ => rfl)) (av_cons (ev_un d_neg (ev_ix d_ix (ev_var 0) ev_int (fun _ _ => rfl))) (av_cons (ev_un d_neg (ev_ix d_ix (ev_var 0) ev_int (fun _ _ => rfl))) (av_cons (ev_un d_neg (ev_ix d_ix (ev_var 0) ev_int (fun _ _ => rfl))) (av_cons (ev_un d_neg (ev_ix d_ix (ev_var 0) ev_int (fun _ _ => rfl))) av_nil)))))))))) (bv_one (sv_ret (ev_tup (av_cons (ev_ix d_ix (ev_var 2) (ev_op d_mod (ev_op d_sub ev_int (ev_var 1)) ev_int) (fun _ _ => rfl)) (av_cons (ev_ix d_ix (ev_var 2) (ev_op d_mod (ev_op d_sub ev_int (ev_var 1)) ev_int) (fun _ _ => rfl)) (av_cons (ev_ix d_ix (ev_var 2) (ev_op d_mod (ev_op d_sub ev_int (ev_var 1)) ev_int) (fun _ _ => rfl)) (av_cons (ev_ix d_ix (ev_var 2) (ev_op d_mod (ev_op d_sub ev_int (ev_var 1)) ev_int) (fun _ _ => rfl)) (av_cons (ev_ix d_ix (ev_var 0) ev_int (fun _ _ => rfl)) av_nil)))))))))
theorem sc_halved : FnScope N_halved ["x"] (defScope s_halved) := ⟨rfl, rfl, rfl, by decide +kernel, rfl, by decide +kernel, by decide +kernel⟩
theorem ok_halved {f : Addr} {fd : FuncData} {dV : Value} (F : FunV K "halved" "halved" s_halved f fd dV) (T : Txt mg) (C_number : Cal P w K mg base "number" 2 g_number []) : FnOk P w K mg base CX0 3 f fd ["x"] (spD K g_halved) :=
  fn_b (k := 2) (b := b_halved) F sc_halved fun cdv A outer s H E hr => (bv_one (sv_ret (ev_def0 C_number (hr.mono (by decide)) rfl (av_cons (ev_ix d_ix (ev_var 0) ev_int (fun _ _ => rfl)) (av_cons (ev_ix d_ix (ev_var 0) ev_int (fun _ _ => rfl)) (av_cons (ev_ix d_ix (ev_var 0) ev_int (fun _ _ => rfl)) (av_cons (ev_ix d_ix (ev_var 0) ev_int (fun _ _ => rfl)) (av_cons (ev_op d_add (ev_ix d_ix (ev_var 0) ev_int (fun _ _ => rfl)) ev_int) av_nil))))))))
theorem sc_share : FnScope N_share ["p", "q", "k"] (defScope s_share) := ⟨rfl, rfl, rfl, by decide +kernel, rfl, by decide +kernel, by decide +kernel⟩
theorem ok_share {f : Addr} {fd : FuncData} {dV : Value} (F : FunV K "share" "share" s_share f fd dV) (T : Txt mg) (C_twos_shared : Cal P w K mg base "twos_shared" 1 g_twos_shared []) : FnOk P w K mg base CX0 2 f fd ["p", "q", "k"] (spD K g_share) :=
  fn_b (k := 1) (b := b_share) F sc_share fun cdv A outer s H E hr => (bv_cons (sv_set 3 sc_share.nd (ev_def0 C_twos_shared (hr.mono (by decide)) rfl (av_cons (ev_op d_or (ev_var 0) (ev_var 1)) (av_cons (ev_var 2) av_nil)))) (bv_one (sv_ret (ev_tup (av_cons (ev_op d_shr (ev_var 0) (ev_var 3)) (av_cons (ev_op d_shr (ev_var 1) (ev_var 3)) (av_cons (ev_op d_sub (ev_var 2) (ev_var 3)) av_nil)))))))
theorem sc_parts_over_shares : FnScope N_parts_over_shares ["x", "k"] (defScope s_parts_over_shares) := ⟨rfl, rfl, rfl, by decide +kernel, rfl, by decide +kernel, by decide +kernel⟩
theorem ok_parts_over_shares {f : Addr} {fd : FuncData} {dV : Value} (F : FunV K "parts_over" "parts_over" s_parts_over_shares f fd dV) (T : Txt mg) : FnOk P w K mg base CX0 1 f fd ["x", "k"] (spD K g_parts_over_shares) :=
  fn_b (k := 0) (b := b_parts_over_shares) F sc_parts_over_shares fun cdv A outer s H E hr => (bv_cons (sv_set 2 sc_parts_over_shares.nd (ev_op d_sub (ev_var 1) (ev_ix d_ix (ev_var 0) ev_int (fun _ _ => rfl)))) (bv_one (sv_ret (ev_tup (av_cons (ev_op d_shl (ev_ix d_ix (ev_var 0) ev_int (fun _ _ => rfl)) (ev_var 2)) (av_cons (ev_op d_shl (ev_ix d_ix (ev_var 0) ev_int (fun _ _ => rfl)) (ev_var 2)) av_nil))))))
theorem sc_share_plus : FnScope N_share_plus ["x", "y"] (defScope s_share_plus) := ⟨rfl, rfl, rfl, by decide +kernel, rfl, by decide +kernel, by decide +kernel⟩
theorem ok_share_plus {f : Addr} {fd : FuncData} {dV : Value} (F : FunV K "share_plus" "share_plus" s_share_plus f fd dV) (T : Txt mg) (C_parts_over_shares : Cal P w K mg base "parts_over_shares" 1 g_parts_over_shares []) (C_share : Cal P w K mg base "share" 2 g_share []) : FnOk P w K mg base CX0 3 f fd ["x", "y"] (spD K g_share_plus) :=
  fn_b (k := 2) (b := b_share_plus) F sc_share_plus fun cdv A outer s H E hr => (bv_cons (sv_set 2 sc_share_plus.nd (ev_callB (c_max rfl) rfl T.max (by decide +kernel) (av_cons (ev_ix d_ix (ev_var 0) ev_int (fun _ _ => rfl)) (av_cons (ev_ix d_ix (ev_var 1) ev_int (fun _ _ => rfl)) av_nil)))) (bv_cons (sv_set 3 sc_share_plus.nd (ev_def0 C_parts_over_shares (hr.mono (by decide)) rfl (av_cons (ev_var 0) (av_cons (ev_var 2) av_nil)))) (bv_cons (sv_set 4 sc_share_plus.nd (ev_def0 C_parts_over_shares (hr.mono (by decide)) rfl (av_cons (ev_var 1) (av_cons (ev_var 2) av_nil)))) (bv_one (sv_ret (ev_def0 C_share (hr.mono (by decide)) rfl (av_cons (ev_op d_add (ev_ix d_ix (ev_var 3) ev_int (fun _ _ => rfl)) (ev_ix d_ix (ev_var 4) ev_int (fun _ _ => rfl))) (av_cons (ev_op d_add (ev_ix d_ix (ev_var 3) ev_int (fun _ _ => rfl)) (ev_ix d_ix (ev_var 4) ev_int (fun _ _ => rfl))) (av_cons (ev_var 2) av_nil)))))))))
theorem sc_share_times : FnScope N_share_times ["x", "y"] (defScope s_share_times) := ⟨rfl, rfl, rfl, by decide +kernel, rfl, by decide +kernel, by decide +kernel⟩
theorem ok_share_times {f : Addr} {fd : FuncData} {dV : Value} (F : FunV K "share_times" "share_times" s_share_times f fd dV) (T : Txt mg) (C_share : Cal P w K mg base "share" 2 g_share []) : FnOk P w K mg base CX0 3 f fd ["x", "y"] (spD K g_share_times) :=
  fn_b (k := 2) (b := b_share_times) F sc_share_times fun cdv A outer s H E hr => (bv_one (sv_ret (ev_def0 C_share (hr.mono (by decide)) rfl (av_cons (ev_op d_add (ev_op d_mulI (ev_ix d_ix (ev_var 0) ev_int (fun _ _ => rfl)) (ev_ix d_ix (ev_var 1) ev_int (fun _ _ => rfl))) (ev_op d_mulI (ev_op d_mulI ev_int (ev_ix d_ix (ev_var 0) ev_int (fun _ _ => rfl))) (ev_ix d_ix (ev_var 1) ev_int (fun _ _ => rfl)))) (av_cons (ev_op d_add (ev_op d_mulI (ev_ix d_ix (ev_var 0) ev_int (fun _ _ => rfl)) (ev_ix d_ix (ev_var 1) ev_int (fun _ _ => rfl))) (ev_op d_mulI (ev_ix d_ix (ev_var 0) ev_int (fun _ _ => rfl)) (ev_ix d_ix (ev_var 1) ev_int (fun _ _ => rfl)))) (av_cons (ev_op d_add (ev_ix d_ix (ev_var 0) ev_int (fun _ _ => rfl)) (ev_ix d_ix (ev_var 1) ev_int (fun _ _ => rfl))) av_nil))))))
theorem sc_size_of : FnScope N_size_of ["x"] (defScope s_size_of) := ⟨rfl, rfl, rfl, by decide +kernel, rfl, by decide +kernel, by decide +kernel⟩
theorem ok_size_of {f : Addr} {fd : FuncData} {dV : Value} (F : FunV K "size_of" "size_of" s_size_of f fd dV) (T : Txt mg) (C_share : Cal P w K mg base "share" 2 g_share []) : FnOk P w K mg base CX0 3 f fd ["x"] (spD K g_size_of) :=
  fn_b (k := 2) (b := b_size_of) F sc_size_of fun cdv A outer s H E hr => (bv_cons (sv_set 1 sc_size_of.nd (ev_op d_add (ev_op d_add (ev_op d_add (ev_op d_mulI (ev_ix d_ix (ev_var 0) ev_int (fun _ _ => rfl)) (ev_ix d_ix (ev_var 0) ev_int (fun _ _ => rfl))) (ev_op d_mulI (ev_ix d_ix (ev_var 0) ev_int (fun _ _ => rfl)) (ev_ix d_ix (ev_var 0) ev_int (fun _ _ => rfl)))) (ev_op d_mulI (ev_ix d_ix (ev_var 0) ev_int (fun _ _ => rfl)) (ev_ix d_ix (ev_var 0) ev_int (fun _ _ => rfl)))) (ev_op d_mulI (ev_ix d_ix (ev_var 0) ev_int (fun _ _ => rfl)) (ev_ix d_ix (ev_var 0) ev_int (fun _ _ => rfl))))) (bv_cons (sv_set 2 sc_size_of.nd (ev_op d_sub (ev_op d_add (ev_op d_add (ev_op d_mulI (ev_ix d_ix (ev_var 0) ev_int (fun _ _ => rfl)) (ev_ix d_ix (ev_var 0) ev_int (fun _ _ => rfl))) (ev_op d_mulI (ev_ix d_ix (ev_var 0) ev_int (fun _ _ => rfl)) (ev_ix d_ix (ev_var 0) ev_int (fun _ _ => rfl)))) (ev_op d_mulI (ev_ix d_ix (ev_var 0) ev_int (fun _ _ => rfl)) (ev_ix d_ix (ev_var 0) ev_int (fun _ _ => rfl)))) (ev_op d_mulI (ev_ix d_ix (ev_var 0) ev_int (fun _ _ => rfl)) (ev_ix d_ix (ev_var 0) ev_int (fun _ _ => rfl))))) (bv_one (sv_ret (ev_def0 C_share (hr.mono (by decide)) rfl (av_cons (ev_var 1) (av_cons (ev_var 2) (av_cons (ev_ix d_ix (ev_var 0) ev_int (fun _ _ => rfl)) av_nil))))))))
theorem sc_worth : FnScope N_worth ["wires", "wire"] (defScope s_worth) := ⟨rfl, rfl, rfl, by decide +kernel, rfl, by decide +kernel, by decide +kernel⟩
theorem ok_worth {f : Addr} {fd : FuncData} {dV : Value} (F : FunV K "worth" "worth" s_worth f fd dV) (T : Txt mg) : FnOk P w K mg base CX0 1 f fd ["wires", "wire"] (spD K g_worth) :=
  fn_b (k := 0) (b := b_worth) F sc_worth fun cdv A outer s H E hr => (bv_one (sv_ret (ev_op d_shl ev_int (ev_op d_sub (ev_op d_sub (ev_var 0) ev_int) (ev_var 1)))))
theorem sc_beginning : FnScope N_beginning ["wires", "place"] (defScope s_beginning) := ⟨rfl, rfl, rfl, by decide +kernel, rfl, by decide +kernel, by decide +kernel⟩
theorem ok_beginning {f : Addr} {fd : FuncData} {dV : Value} (F : FunV K "beginning" "beginning" s_beginning f fd dV) (T : Txt mg) (T_NOUGHT : TopV K mg "NOUGHT" (.tuple [.int 0, .int 0, .int 0, .int 0, .int 0])) (T_ONE : TopV K mg "ONE" (.tuple [.int 1, .int 0, .int 0, .int 0, .int 0])) : FnOk P w K mg base CX0 1 f fd ["wires", "place"] (spD K g_beginning) :=
  fn_b (k := 0) (b := b_beginning) F sc_beginning fun cdv A outer s H E hr => (bv_one (sv_ret (ev_callTy c_tuple rfl T.tuple (by decide +kernel) (av_cons (ev_comp (vars := ["p"]) (caps := [(1, "place")]) (by change BlkOk (defScope s_beginning).names N_beginning _ _ _; exact ⟨rfl, by decide +kernel, by decide +kernel, by decide +kernel, by decide +kernel⟩) rfl (iv_range1 rfl T.range (av_cons (ev_op d_shl ev_int (ev_var 0)) av_nil)) tg_one (fun _ _ _ _ => pg_name (i := 0) (show (["p", "place"] : List Str).Nodup by decide +kernel) rfl (Or.inl rfl) (.inr rfl)) (fun _ _ _ _ => (ev_ifx (tv_cmp (d_eq hr.units) (ev_var 0) (ev_var 1) (nomark _)) (ev_topV T_ONE rfl) (ev_topV T_NOUGHT rfl)))) av_nil))))
theorem sc_swung : FnScope N_swung ["state", "bit"] (defScope s_swung) := ⟨rfl, rfl, rfl, by decide +kernel, rfl, by decide +kernel, by decide +kernel⟩
theorem ok_swung {f : Addr} {fd : FuncData} {dV : Value} (F : FunV K "swung" "swung" s_swung f fd dV) (T : Txt mg) (C_halved : Cal P w K mg base "halved" 3 g_halved []) (C_plus : Cal P w K mg base "plus" 3 g_plus []) (C_against : Cal P w K mg base "against" 1 g_against []) : FnOk P w K mg base CX0 4 f fd ["state", "bit"] (spD K g_swung) :=
  fn_b (k := 3) (b := b_swung) F sc_swung fun cdv A outer s H E hr => (bv_cons (sv_own 2 sc_swung.nd av_nil) (bv_cons (sv_for PassesOwn.never rfl (iv_range1 rfl T.range (av_cons (ev_callB c_len rfl T.len (by decide +kernel) (av_cons (ev_var 0) av_nil)) av_nil)) (gv_name 3 sc_swung.nd) (bv_one (sv_if (tv_cmp (d_eq hr.units) (ev_op d_and (ev_var 3) (ev_var 1)) ev_int (nomark _)) (bv_one (sv_app 2 (ev_def0 C_halved (hr.mono (by decide)) rfl (av_cons (ev_def0 C_plus (hr.mono (by decide)) rfl (av_cons (ev_ix d_ix (ev_var 0) (ev_var 3) (fun _ _ => rfl)) (av_cons (ev_ix d_ix (ev_var 0) (ev_op d_xor (ev_var 3) (ev_var 1)) (fun _ _ => rfl)) av_nil))) av_nil)))) (bv_one (sv_app 2 (ev_def0 C_halved (hr.mono (by decide)) rfl (av_cons (ev_def0 C_plus (hr.mono (by decide)) rfl (av_cons (ev_ix d_ix (ev_var 0) (ev_op d_xor (ev_var 3) (ev_var 1)) (fun _ _ => rfl)) (av_cons (ev_def0 C_against (hr.mono (by decide)) rfl (av_cons (ev_ix d_ix (ev_var 0) (ev_var 3) (fun _ _ => rfl)) av_nil)) av_nil))) av_nil))))))) (bv_one (sv_fz 2 (sv_ret (ev_callTy c_tuple rfl T.tuple (by decide +kernel) (av_cons (ev_var 2) av_nil)))))))
theorem sc_turned_where : FnScope N_turned_where ["state", "held", "e"] (defScope s_turned_where) := ⟨rfl, rfl, rfl, by decide +kernel, rfl, by decide +kernel, by decide +kernel⟩
theorem ok_turned_where {f : Addr} {fd : FuncData} {dV : Value} (F : FunV K "turned_where" "turned_where" s_turned_where f fd dV) (T : Txt mg) (C_turned : Cal P w K mg base "turned" 1 g_turned []) : FnOk P w K mg base CX0 2 f fd ["state", "held", "e"] (spD K g_turned_where) :=
  fn_b (k := 1) (b := b_turned_where) F sc_turned_where fun cdv A outer s H E hr => (bv_one (sv_ret (ev_callTy c_tuple rfl T.tuple (by decide +kernel) (av_cons (ev_comp (vars := ["p"]) (caps := [(0, "state"), (1, "held"), (2, "e")]) (by change BlkOk (defScope s_turned_where).names N_turned_where _ _ _; exact ⟨rfl, by decide +kernel, by decide +kernel, by decide +kernel, by decide +kernel⟩) rfl (iv_range1 rfl T.range (av_cons (ev_callB c_len rfl T.len (by decide +kernel) (av_cons (ev_var 0) av_nil)) av_nil)) tg_one (fun _ _ _ _ => pg_name (i := 0) (show (["p", "state", "held", "e"] : List Str).Nodup by decide +kernel) rfl (Or.inl rfl) (.inr rfl)) (fun _ _ _ _ => (ev_ifx (tv_cmp (d_eq hr.units) (ev_op d_and (ev_var 0) (ev_var 2)) (ev_var 2) (nomark _)) (ev_def0 C_turned (hr.mono (by decide)) rfl (av_cons (ev_ix d_ix (ev_var 1) (ev_var 0) (fun _ _ => rfl)) (av_cons (ev_var 3) av_nil))) (ev_ix d_ix (ev_var 1) (ev_var 0) (fun _ _ => rfl))))) av_nil))))
theorem sc_flipped_where : FnScope N_flipped_where ["state", "held", "bit"] (defScope s_flipped_where) := ⟨rfl, rfl, rfl, by decide +kernel, rfl, by decide +kernel, by decide +kernel⟩
theorem ok_flipped_where {f : Addr} {fd : FuncData} {dV : Value} (F : FunV K "flipped_where" "flipped_where" s_flipped_where f fd dV) (T : Txt mg) : FnOk P w K mg base CX0 1 f fd ["state", "held", "bit"] (spD K g_flipped_where) :=
  fn_b (k := 0) (b := b_flipped_where) F sc_flipped_where fun cdv A outer s H E hr => (bv_one (sv_ret (ev_callTy c_tuple rfl T.tuple (by decide +kernel) (av_cons (ev_comp (vars := ["p"]) (caps := [(0, "state"), (1, "held"), (2, "bit")]) (by change BlkOk (defScope s_flipped_where).names N_flipped_where _ _ _; exact ⟨rfl, by decide +kernel, by decide +kernel, by decide +kernel, by decide +kernel⟩) rfl (iv_range1 rfl T.range (av_cons (ev_callB c_len rfl T.len (by decide +kernel) (av_cons (ev_var 0) av_nil)) av_nil)) tg_one (fun _ _ _ _ => pg_name (i := 0) (show (["p", "state", "held", "bit"] : List Str).Nodup by decide +kernel) rfl (Or.inl rfl) (.inr rfl)) (fun _ _ _ _ => (ev_ifx (tv_cmp (d_eq hr.units) (ev_op d_and (ev_var 0) (ev_var 2)) (ev_var 2) (nomark _)) (ev_ix d_ix (ev_var 1) (ev_op d_xor (ev_var 0) (ev_var 3)) (fun _ _ => rfl)) (ev_ix d_ix (ev_var 1) (ev_var 0) (fun _ _ => rfl))))) av_nil))))
theorem sc_exchanged : FnScope N_exchanged ["place", "both"] (defScope s_exchanged) := ⟨rfl, rfl, rfl, by decide +kernel, rfl, by decide +kernel, by decide +kernel⟩
theorem ok_exchanged {f : Addr} {fd : FuncData} {dV : Value} (F : FunV K "exchanged" "exchanged" s_exchanged f fd dV) (T : Txt mg) : FnOk P w K mg base CX0 1 f fd ["place", "both"] (spD K g_exchanged) :=
  fn_b (k := 0) (b := b_exchanged) F sc_exchanged fun cdv A outer s H E hr => (bv_one (sv_ret (ev_ifx (tv_cmp d_in (ev_op d_and (ev_var 0) (ev_var 1)) (ev_tup (av_cons ev_int (av_cons (ev_var 1) av_nil))) (by with_unfolding_all rfl)) (ev_var 0) (ev_op d_xor (ev_var 0) (ev_var 1)))))
theorem sc_done : FnScope N_done ["state", "row"] (defScope s_done) := ⟨rfl, rfl, rfl, by decide +kernel, rfl, by decide +kernel, by decide +kernel⟩
theorem ok_done {f : Addr} {fd : FuncData} {dV : Value} (F : FunV K "done" "done" s_done f fd dV) (T : Txt mg) (C_worth : Cal P w K mg base "worth" 1 g_worth []) (C_swung : Cal P w K mg base "swung" 4 g_swung []) (C_turned_where : Cal P w K mg base "turned_where" 2 g_turned_where []) (C_flipped_where : Cal P w K mg base "flipped_where" 1 g_flipped_where []) (C_exchanged : Cal P w K mg base "exchanged" 1 g_exchanged []) : FnOk P w K mg base CX0 5 f fd ["state", "row"] (spD K g_done) :=
  fn_b (k := 4) (b := b_done) F sc_done fun cdv A outer s H E hr => (bv_cons (sv_set 2 sc_done.nd (ev_op d_sub (ev_bits (ev_callB c_len rfl T.len (by decide +kernel) (av_cons (ev_var 0) av_nil))) ev_int)) (bv_cons (sv_set 3 sc_done.nd (ev_def0 C_worth (hr.mono (by decide)) rfl (av_cons (ev_var 2) (av_cons (ev_ix d_ix (ev_var 1) ev_int (fun _ _ => rfl)) av_nil)))) (bv_cons (sv_if (tv_cmp (d_eq hr.units) (ev_ix d_ix (ev_var 1) ev_int (fun _ _ => rfl)) ev_str (nomark _)) (bv_one (sv_ret (ev_def0 C_swung (hr.mono (by decide)) rfl (av_cons (ev_var 0) (av_cons (ev_var 3) av_nil))))) bv_nil) (bv_cons (sv_if (tv_cmp (d_eq hr.units) (ev_ix d_ix (ev_var 1) ev_int (fun _ _ => rfl)) ev_str (nomark _)) (bv_one (sv_ret (ev_def0 C_turned_where (hr.mono (by decide)) rfl (av_cons (ev_var 0) (av_cons (ev_var 3) (av_cons (ev_ix d_ix (ev_var 1) ev_int (fun _ _ => rfl)) av_nil)))))) bv_nil) (bv_cons (sv_if (tv_cmp (d_eq hr.units) (ev_ix d_ix (ev_var 1) ev_int (fun _ _ => rfl)) ev_str (nomark _)) (bv_one (sv_ret (ev_def0 C_flipped_where (hr.mono (by decide)) rfl (av_cons (ev_var 0) (av_cons ev_int (av_cons (ev_var 3) av_nil)))))) bv_nil) (bv_cons (sv_set 4 sc_done.nd (ev_def0 C_worth (hr.mono (by decide)) rfl (av_cons (ev_var 2) (av_cons (ev_ix d_ix (ev_var 1) ev_int (fun _ _ => rfl)) av_nil)))) (bv_cons (sv_if (tv_cmp (d_eq hr.units) (ev_ix d_ix (ev_var 1) ev_int (fun _ _ => rfl)) ev_str (nomark _)) (bv_one (sv_ret (ev_def0 C_flipped_where (hr.mono (by decide)) rfl (av_cons (ev_var 0) (av_cons (ev_var 3) (av_cons (ev_var 4) av_nil)))))) bv_nil) (bv_cons (sv_if (tv_cmp (d_eq hr.units) (ev_ix d_ix (ev_var 1) ev_int (fun _ _ => rfl)) ev_str (nomark _)) (bv_one (sv_ret (ev_def0 C_turned_where (hr.mono (by decide)) rfl (av_cons (ev_var 0) (av_cons (ev_op d_or (ev_var 3) (ev_var 4)) (av_cons ev_int av_nil)))))) bv_nil) (bv_one (sv_ret (ev_callTy c_tuple rfl T.tuple (by decide +kernel) (av_cons (ev_comp (vars := ["p"]) (caps := [(0, "state"), (3, "first"), (4, "second")]) (by change BlkOk (defScope s_done).names N_done _ _ _; exact ⟨rfl, by decide +kernel, by decide +kernel, by decide +kernel, by decide +kernel⟩) rfl (iv_range1 rfl T.range (av_cons (ev_callB c_len rfl T.len (by decide +kernel) (av_cons (ev_var 0) av_nil)) av_nil)) tg_one (fun _ _ _ _ => pg_name (i := 0) (show (["p", "state", "first", "second"] : List Str).Nodup by decide +kernel) rfl (Or.inl rfl) (.inr rfl)) (fun _ _ _ _ => (ev_ix d_ix (ev_var 1) (ev_def0 C_exchanged (hr.mono (by decide)) rfl (av_cons (ev_var 0) (av_cons (ev_op d_or (ev_var 2) (ev_var 3)) av_nil))) (fun _ _ => rfl)))) av_nil))))))))))))
theorem sc_whole : FnScope N_whole ["state"] (defScope s_whole) := ⟨rfl, rfl, rfl, by decide +kernel, rfl, by decide +kernel, by decide +kernel⟩
theorem ok_whole {f : Addr} {fd : FuncData} {dV : Value} (F : FunV K "whole" "whole" s_whole f fd dV) (T : Txt mg) (C_share_plus : Cal P w K mg base "share_plus" 3 g_share_plus []) (C_size_of : Cal P w K mg base "size_of" 3 g_size_of []) : FnOk P w K mg base CX0 4 f fd ["state"] (spD K g_whole) :=
  fn_b (k := 3) (b := b_whole) F sc_whole fun cdv A outer s H E hr => (bv_cons (sv_set 1 sc_whole.nd (ev_tup (av_cons ev_int (av_cons ev_int (av_cons ev_int av_nil))))) (bv_cons (sv_for PassesOwn.never rfl (iv_seq (ev_var 0)) (gv_name 2 sc_whole.nd) (bv_one (sv_set 1 sc_whole.nd (ev_def0 C_share_plus (hr.mono (by decide)) rfl (av_cons (ev_var 1) (av_cons (ev_def0 C_size_of (hr.mono (by decide)) rfl (av_cons (ev_var 2) av_nil)) av_nil)))))) (bv_one (sv_ret (ev_var 1)))))
theorem sc_looks_in : FnScope N_looks_in ["circuit"] (defScope s_looks_in) := ⟨rfl, rfl, rfl, by decide +kernel, rfl, by decide +kernel, by decide +kernel⟩
theorem ok_looks_in {f : Addr} {fd : FuncData} {dV : Value} (F : FunV K "looks_in" "looks_in" s_looks_in f fd dV) (T : Txt mg) : FnOk P w K mg base CX0 1 f fd ["circuit"] (spD K g_looks_in) :=
  fn_b (k := 0) (b := b_looks_in) F sc_looks_in fun cdv A outer s H E hr => (bv_one (sv_ret (ev_callB c_len rfl T.len (by decide +kernel) (av_cons (ev_compI (vars := ["row"]) (caps := []) (by change BlkOk (defScope s_looks_in).names N_looks_in _ _ _; exact ⟨rfl, by decide +kernel, by decide +kernel, by decide +kernel, by decide +kernel⟩) rfl (iv_seq (ev_ix d_ix (ev_var 0) ev_int (fun _ _ => rfl))) tg_one (fun _ _ _ _ => pg_name (i := 0) (show (["row"] : List Str).Nodup by decide +kernel) rfl (Or.inl rfl) (.inr rfl)) (fun _ _ _ _ => (tv_cmp (d_eq hr.units) (ev_ix d_ix (ev_var 0) ev_int (fun _ _ => rfl)) ev_str (nomark _))) (fun _ _ _ _ => (ev_var 0))) av_nil))))
theorem sc_counted_on : FnScope N_counted_on ["row", "wires", "marks"] (defScope s_counted_on) := ⟨rfl, rfl, rfl, by decide +kernel, rfl, by decide +kernel, by decide +kernel⟩
theorem okr_counted_on {f : Addr} {fd : FuncData} {dV : Value} (F : FunV K "counted_on" "counted_on" s_counted_on f fd dV) (T : Txt mg) (hm : mg "counted_on" = some (.ref f)) (hk : PySem.W.keepIn K (.ref f) = true) (hb : Binds K fd ["row", "wires", "marks"] []) : ∀ m, FnOk P w K mg base CX0 (1 + m) f fd ["row", "wires", "marks"] (spD K (r_counted_on m))
  | 0 => fn_b (k := 0) (b := fun _ => none) F sc_counted_on fun cdv A outer s H E hr => bv_no
  | m + 1 => by
    have C_counted_on : Cal P w K mg base "counted_on" (1 + m) (r_counted_on m) [] := Cal.mk0 (okr_counted_on F T hm hk hb m) hm hk hb
    exact fn_b (k := 1 + m) (b := b_counted_on (r_counted_on m)) F sc_counted_on fun cdv A outer s H E hr => (bv_cons (sv_if (tv_cmp (d_eq hr.units) (ev_ix d_ix (ev_var 0) ev_int (fun _ _ => rfl)) ev_str (nomark _)) (bv_one (sv_ret (ev_tup (av_cons ev_str (av_cons (ev_op d_add (ev_ix d_ix (ev_var 0) ev_int (fun _ _ => rfl)) (ev_var 2)) (av_cons (ev_def0 C_counted_on (hr.mono (by omega)) rfl (av_cons (ev_ix d_ix (ev_var 0) ev_int (fun _ _ => rfl)) (av_cons (ev_var 1) (av_cons (ev_var 2) av_nil)))) av_nil)))))) bv_nil) (bv_cons (sv_if (tv_cmp (d_eq hr.units) (ev_ix d_ix (ev_var 0) ev_int (fun _ _ => rfl)) ev_str (nomark _)) (bv_one (sv_ret (ev_tup (av_cons ev_str (av_cons (ev_op d_add (ev_ix d_ix (ev_var 0) ev_int (fun _ _ => rfl)) (ev_var 1)) (av_cons (ev_ix d_ix (ev_var 0) ev_int (fun _ _ => rfl)) av_nil)))))) bv_nil) (bv_one (sv_ret (ev_op d_add (ev_tup (av_cons (ev_ix d_ix (ev_var 0) ev_int (fun _ _ => rfl)) av_nil)) (ev_callTy c_tuple rfl T.tuple (by decide +kernel) (av_cons (ev_comp (vars := ["wire"]) (caps := [(1, "wires")]) (by change BlkOk (defScope s_counted_on).names N_counted_on _ _ _; exact ⟨rfl, by decide +kernel, by decide +kernel, by decide +kernel, by decide +kernel⟩) rfl (iv_seq (ev_slice (ev_var 0) (ov_some ev_int) ov_none)) tg_one (fun _ _ _ _ => pg_name (i := 0) (show (["wire", "wires"] : List Str).Nodup by decide +kernel) rfl (Or.inl rfl) (.inr rfl)) (fun _ _ _ _ => (ev_op d_add (ev_var 0) (ev_var 1)))) av_nil)))))))
theorem sc_rows_together : FnScope N_rows_together ["one", "other", "wires"] (defScope s_rows_together) := ⟨rfl, rfl, rfl, by decide +kernel, rfl, by decide +kernel, by decide +kernel⟩
theorem ok_rows_together {f : Addr} {fd : FuncData} {dV : Value} (F : FunV K "rows_together" "rows_together" s_rows_together f fd dV) (T : Txt mg) (T_MOST_ROWS : TopV K mg "MOST_ROWS" (.int 60)) (T_MOST_LOOKS : TopV K mg "MOST_LOOKS" (.int 6)) (C_looks_in : Cal P w K mg base "looks_in" 1 g_looks_in []) (C_counted_on : Cal P w K mg base "counted_on" 9 g_counted_on []) : FnOk P w K mg base CX0 10 f fd ["one", "other", "wires"] (spD K g_rows_together) :=
  fn_b (k := 9) (b := b_rows_together) F sc_rows_together fun cdv A outer s H E hr => (bv_cons (sv_set 3 sc_rows_together.nd (ev_def0 C_looks_in (hr.mono (by decide)) rfl (av_cons (ev_var 0) av_nil))) (bv_cons (sv_set 4 sc_rows_together.nd (ev_op d_add (ev_ix d_ix (ev_var 0) ev_int (fun _ _ => rfl)) (ev_callTy c_tuple rfl T.tuple (by decide +kernel) (av_cons (ev_comp (vars := ["row"]) (caps := [(2, "wires"), (3, "looks")]) (by change BlkOk (defScope s_rows_together).names N_rows_together _ _ _; exact ⟨rfl, by decide +kernel, by decide +kernel, by decide +kernel, by decide +kernel⟩) rfl (iv_seq (ev_ix d_ix (ev_var 1) ev_int (fun _ _ => rfl))) tg_one (fun _ _ _ _ => pg_name (i := 0) (show (["row", "wires", "looks"] : List Str).Nodup by decide +kernel) rfl (Or.inl rfl) (.inr rfl)) (fun _ _ _ _ => (ev_def0 C_counted_on (hr.mono (by decide)) rfl (av_cons (ev_var 0) (av_cons (ev_var 1) (av_cons (ev_var 2) av_nil)))))) av_nil)))) (bv_cons (sv_if (WV.tv (wv_or (tv_cmp d_gt (ev_callB c_len rfl T.len (by decide +kernel) (av_cons (ev_var 4) av_nil)) (ev_topV T_MOST_ROWS rfl) (nomark _)) (wv_or1 (tv_cmp d_gt (ev_op d_add (ev_var 3) (ev_def0 C_looks_in (hr.mono (by decide)) rfl (av_cons (ev_var 1) av_nil))) (ev_topV T_MOST_LOOKS rfl) (nomark _))))) (bv_one sv_no) bv_nil) (bv_one (sv_ret (ev_var 4))))))
theorem sc_side_by_side : FnScope N_side_by_side ["one", "other"] (defScope s_side_by_side) := ⟨rfl, rfl, rfl, by decide +kernel, rfl, by decide +kernel, by decide +kernel⟩
theorem ok_side_by_side {f : Addr} {fd : FuncData} {dV : Value} (F : FunV K "side_by_side" "side_by_side" s_side_by_side f fd dV) (T : Txt mg) (T_MOST_WIRES : TopV K mg "MOST_WIRES" (.int 6)) (C_rows_together : Cal P w K mg base "rows_together" 10 g_rows_together []) : FnOk P w K mg base CX0 11 f fd ["one", "other"] (spD K g_side_by_side) :=
  fn_b (k := 10) (b := b_side_by_side) F sc_side_by_side fun cdv A outer s H E hr => (bv_cons (sv_if (tv_cmp d_gt (ev_op d_add (ev_ix d_ix (ev_var 0) ev_int (fun _ _ => rfl)) (ev_ix d_ix (ev_var 1) ev_int (fun _ _ => rfl))) (ev_topV T_MOST_WIRES rfl) (nomark _)) (bv_one sv_no) bv_nil) (bv_one (sv_ret (ev_tup (av_cons (ev_op d_add (ev_ix d_ix (ev_var 0) ev_int (fun _ _ => rfl)) (ev_ix d_ix (ev_var 1) ev_int (fun _ _ => rfl))) (av_cons (ev_def0 C_rows_together (hr.mono (by decide)) rfl (av_cons (ev_var 0) (av_cons (ev_var 1) (av_cons (ev_ix d_ix (ev_var 0) ev_int (fun _ _ => rfl)) av_nil)))) av_nil))))))
theorem sc_where_put_off : FnScope N_where_put_off ["row", "wires"] (defScope s_where_put_off) := ⟨rfl, rfl, rfl, by decide +kernel, rfl, by decide +kernel, by decide +kernel⟩
theorem ok_where_put_off {f : Addr} {fd : FuncData} {dV : Value} (F : FunV K "where_put_off" "where_put_off" s_where_put_off f fd dV) (T : Txt mg) : FnOk P w K mg base CX0 1 f fd ["row", "wires"] (spD K g_where_put_off) :=
  fn_b (k := 0) (b := b_where_put_off) F sc_where_put_off fun cdv A outer s H E hr => (bv_cons (sv_set 2 sc_where_put_off.nd (ev_ifx (tv_cmp (d_eq hr.units) (ev_ix d_ix (ev_ix d_ix (ev_var 0) ev_int (fun _ _ => rfl)) ev_int (fun _ _ => rfl)) ev_str (nomark _)) ev_str ev_str)) (bv_one (sv_ret (ev_tup (av_cons (ev_var 2) (av_cons (ev_op d_add (ev_var 1) (ev_ix d_ix (ev_var 0) ev_int (fun _ _ => rfl))) (av_cons (ev_ix d_ix (ev_ix d_ix (ev_var 0) ev_int (fun _ _ => rfl)) ev_int (fun _ _ => rfl)) av_nil)))))))
theorem sc_rows_put_off : FnScope N_rows_put_off ["rows", "wires"] (defScope s_rows_put_off) := ⟨rfl, rfl, rfl, by decide +kernel, rfl, by decide +kernel, by decide +kernel⟩
theorem ok_rows_put_off {f : Addr} {fd : FuncData} {dV : Value} (F : FunV K "rows_put_off" "rows_put_off" s_rows_put_off f fd dV) (T : Txt mg) (C_where_put_off : Cal P w K mg base "where_put_off" 1 g_where_put_off []) : FnOk P w K mg base CX0 2 f fd ["rows", "wires"] (spD K g_rows_put_off) :=
  fn_b (k := 1) (b := b_rows_put_off) F sc_rows_put_off fun cdv A outer s H E hr => (bv_cons (sv_own 2 sc_rows_put_off.nd av_nil) (bv_cons (sv_set 3 sc_rows_put_off.nd ev_int) (bv_cons (sv_for PassesOwn.never rfl (iv_seq (ev_var 0)) (gv_name 4 sc_rows_put_off.nd) (bv_one (sv_if (tv_cmp (d_eq hr.units) (ev_ix d_ix (ev_var 4) ev_int (fun _ _ => rfl)) ev_str (nomark _)) (bv_cons (sv_app 2 (ev_tup (av_cons ev_str (av_cons (ev_ix d_ix (ev_var 4) ev_int (fun _ _ => rfl)) (av_cons (ev_op d_add (ev_var 1) (ev_var 3)) av_nil))))) (bv_one (sv_set 3 sc_rows_put_off.nd (ev_op d_add (ev_var 3) ev_int)))) (bv_one (sv_if (tv_cmp (d_eq hr.units) (ev_ix d_ix (ev_var 4) ev_int (fun _ _ => rfl)) ev_str (nomark _)) (bv_one (sv_app 2 (ev_def0 C_where_put_off (hr.mono (by decide)) rfl (av_cons (ev_var 4) (av_cons (ev_var 1) av_nil))))) (bv_one (sv_app 2 (ev_var 4)))))))) (bv_one (sv_fz 2 (sv_ret (ev_var 2)))))))
theorem sc_put_off : FnScope N_put_off ["circuit"] (defScope s_put_off) := ⟨rfl, rfl, rfl, by decide +kernel, rfl, by decide +kernel, by decide +kernel⟩
theorem ok_put_off {f : Addr} {fd : FuncData} {dV : Value} (F : FunV K "put_off" "put_off" s_put_off f fd dV) (T : Txt mg) (T_MOST_WIRES : TopV K mg "MOST_WIRES" (.int 6)) (T_MOST_ROWS : TopV K mg "MOST_ROWS" (.int 60)) (C_looks_in : Cal P w K mg base "looks_in" 1 g_looks_in []) (C_rows_put_off : Cal P w K mg base "rows_put_off" 2 g_rows_put_off []) : FnOk P w K mg base CX0 3 f fd ["circuit"] (spD K g_put_off) :=
  fn_b (k := 2) (b := b_put_off) F sc_put_off fun cdv A outer s H E hr => (bv_cons (sv_set 1 sc_put_off.nd (ev_ix d_ix (ev_var 0) ev_int (fun _ _ => rfl))) (bv_cons (sv_set 2 sc_put_off.nd (ev_def0 C_looks_in (hr.mono (by decide)) rfl (av_cons (ev_var 0) av_nil))) (bv_cons (sv_if (WV.tv (wv_or (tv_cmp d_gt (ev_op d_add (ev_var 1) (ev_var 2)) (ev_topV T_MOST_WIRES rfl) (nomark _)) (wv_or1 (tv_cmp d_gt (ev_op d_add (ev_callB c_len rfl T.len (by decide +kernel) (av_cons (ev_ix d_ix (ev_var 0) ev_int (fun _ _ => rfl)) av_nil)) (ev_var 2)) (ev_topV T_MOST_ROWS rfl) (nomark _))))) (bv_one sv_no) bv_nil) (bv_cons (sv_comp 3 sc_put_off.nd (vars := ["mark"]) (caps := [(1, "wires")]) (by change BlkOk (defScope s_put_off).names N_put_off _ _ _; exact ⟨rfl, by decide +kernel, by decide +kernel, by decide +kernel, by decide +kernel⟩) rfl (iv_range1 rfl T.range (av_cons (ev_var 2) av_nil)) tg_one (fun _ _ _ _ => pg_name (i := 0) (show (["mark", "wires"] : List Str).Nodup by decide +kernel) rfl (Or.inl rfl) (.inr rfl)) (fun _ _ _ _ => (ev_tup (av_cons ev_str (av_cons (ev_op d_add (ev_var 1) (ev_var 0)) av_nil))))) (bv_one (sv_ret (ev_tup (av_cons (ev_op d_add (ev_var 1) (ev_var 2)) (av_cons (ev_callTy c_tuple rfl T.tuple (by decide +kernel) (av_cons (ev_op d_add (ev_def0 C_rows_put_off (hr.mono (by decide)) rfl (av_cons (ev_ix d_ix (ev_var 0) ev_int (fun _ _ => rfl)) (av_cons (ev_var 1) av_nil))) (ev_var 3)) av_nil)) av_nil)))))))))
theorem sc_left_by : FnScope N_left_by ["state", "bit", "mark"] (defScope s_left_by) := ⟨rfl, rfl, rfl, by decide +kernel, rfl, by decide +kernel, by decide +kernel⟩
theorem ok_left_by {f : Addr} {fd : FuncData} {dV : Value} (F : FunV K "left_by" "left_by" s_left_by f fd dV) (T : Txt mg) (T_NOUGHT : TopV K mg "NOUGHT" (.tuple [.int 0, .int 0, .int 0, .int 0, .int 0])) : FnOk P w K mg base CX0 1 f fd ["state", "bit", "mark"] (spD K g_left_by) :=
  fn_b (k := 0) (b := b_left_by) F sc_left_by fun cdv A outer s H E hr => (bv_cons (sv_set 3 sc_left_by.nd (ev_ifx (tv_cmp (d_eq hr.units) (ev_var 2) ev_int (nomark _)) (ev_var 1) ev_int)) (bv_one (sv_ret (ev_callTy c_tuple rfl T.tuple (by decide +kernel) (av_cons (ev_comp (vars := ["p"]) (caps := [(0, "state"), (1, "bit"), (3, "found")]) (by change BlkOk (defScope s_left_by).names N_left_by _ _ _; exact ⟨rfl, by decide +kernel, by decide +kernel, by decide +kernel, by decide +kernel⟩) rfl (iv_range1 rfl T.range (av_cons (ev_callB c_len rfl T.len (by decide +kernel) (av_cons (ev_var 0) av_nil)) av_nil)) tg_one (fun _ _ _ _ => pg_name (i := 0) (show (["p", "state", "bit", "found"] : List Str).Nodup by decide +kernel) rfl (Or.inl rfl) (.inr rfl)) (fun _ _ _ _ => (ev_ifx (tv_cmp (d_eq hr.units) (ev_op d_and (ev_var 0) (ev_var 2)) (ev_var 3) (nomark _)) (ev_ix d_ix (ev_var 1) (ev_var 0) (fun _ _ => rfl)) (ev_topV T_NOUGHT rfl)))) av_nil)))))
theorem sc_is_nought : FnScope N_is_nought ["state"] (defScope s_is_nought) := ⟨rfl, rfl, rfl, by decide +kernel, rfl, by decide +kernel, by decide +kernel⟩
theorem ok_is_nought {f : Addr} {fd : FuncData} {dV : Value} (F : FunV K "is_nought" "is_nought" s_is_nought f fd dV) (T : Txt mg) (T_NOUGHT : TopV K mg "NOUGHT" (.tuple [.int 0, .int 0, .int 0, .int 0, .int 0])) : FnOk P w K mg base CX0 1 f fd ["state"] (spD K g_is_nought) :=
  fn_b (k := 0) (b := b_is_nought) F sc_is_nought fun cdv A outer s H E hr => (bv_one (sv_ret (ev_callB (c_all rfl) rfl T.all (by decide +kernel) (av_cons (ev_comp (vars := ["x"]) (caps := []) (by change BlkOk (defScope s_is_nought).names N_is_nought _ _ _; exact ⟨rfl, by decide +kernel, by decide +kernel, by decide +kernel, by decide +kernel⟩) rfl (iv_seq (ev_var 0)) tg_one (fun _ _ _ _ => pg_name (i := 0) (show (["x"] : List Str).Nodup by decide +kernel) rfl (Or.inl rfl) (.inr rfl)) (fun _ _ _ _ => (ev_cmp (d_eq hr.units) (ev_var 0) (ev_topV T_NOUGHT rfl) (nomark _)))) av_nil))))
theorem sc_parted : FnScope N_parted ["branch", "wire"] (defScope s_parted) := ⟨rfl, rfl, rfl, by decide +kernel, rfl, by decide +kernel, by decide +kernel⟩
theorem ok_parted {f : Addr} {fd : FuncData} {dV : Value} (F : FunV K "parted" "parted" s_parted f fd dV) (T : Txt mg) (C_worth : Cal P w K mg base "worth" 1 g_worth []) (C_left_by : Cal P w K mg base "left_by" 1 g_left_by []) (C_is_nought : Cal P w K mg base "is_nought" 1 g_is_nought []) : FnOk P w K mg base CX0 2 f fd ["branch", "wire"] (spD K g_parted) :=
  fn_b (k := 1) (b := b_parted) F sc_parted fun cdv A outer s H E hr => (bv_cons (sv_set 2 sc_parted.nd (ev_def0 C_worth (hr.mono (by decide)) rfl (av_cons (ev_op d_sub (ev_bits (ev_callB c_len rfl T.len (by decide +kernel) (av_cons (ev_ix d_ix (ev_var 0) ev_int (fun _ _ => rfl)) av_nil))) ev_int) (av_cons (ev_var 1) av_nil)))) (bv_cons (sv_comp 3 sc_parted.nd (vars := ["mark"]) (caps := [(0, "branch"), (2, "bit")]) (by change BlkOk (defScope s_parted).names N_parted _ _ _; exact ⟨rfl, by decide +kernel, by decide +kernel, by decide +kernel, by decide +kernel⟩) rfl (iv_seq (ev_tup (av_cons ev_int (av_cons ev_int av_nil)))) tg_one (fun _ _ _ _ => pg_name (i := 0) (show (["mark", "branch", "bit"] : List Str).Nodup by decide +kernel) rfl (Or.inl rfl) (.inr rfl)) (fun _ _ _ _ => (ev_tup (av_cons (ev_op d_add (ev_ix d_ix (ev_var 1) ev_int (fun _ _ => rfl)) (ev_tup (av_cons (ev_var 0) av_nil))) (av_cons (ev_def0 C_left_by (hr.mono (by decide)) rfl (av_cons (ev_ix d_ix (ev_var 1) ev_int (fun _ _ => rfl)) (av_cons (ev_var 2) (av_cons (ev_var 0) av_nil)))) av_nil))))) (bv_one (sv_ret (ev_compI (vars := ["pair"]) (caps := []) (by change BlkOk (defScope s_parted).names N_parted _ _ _; exact ⟨rfl, by decide +kernel, by decide +kernel, by decide +kernel, by decide +kernel⟩) rfl (iv_seq (ev_var 3)) tg_one (fun _ _ _ _ => pg_name (i := 0) (show (["pair"] : List Str).Nodup by decide +kernel) rfl (Or.inl rfl) (.inr rfl)) (fun _ _ _ _ => (tv_not (tv_val (ev_def0 C_is_nought (hr.mono (by decide)) rfl (av_cons (ev_ix d_ix (ev_var 0) ev_int (fun _ _ => rfl)) av_nil))))) (fun _ _ _ _ => (ev_var 0)))))))
theorem sc_gone_on : FnScope N_gone_on ["branch", "row"] (defScope s_gone_on) := ⟨rfl, rfl, rfl, by decide +kernel, rfl, by decide +kernel, by decide +kernel⟩
theorem ok_gone_on {f : Addr} {fd : FuncData} {dV : Value} (F : FunV K "gone_on" "gone_on" s_gone_on f fd dV) (T : Txt mg) (C_done : Cal P w K mg base "done" 5 g_done []) : FnOk P w K mg base CX0 6 f fd ["branch", "row"] (spD K g_gone_on) :=
  fn_b (k := 5) (b := b_gone_on) F sc_gone_on fun cdv A outer s H E hr => (bv_one (sv_ret (ev_tup (av_cons (ev_ix d_ix (ev_var 0) ev_int (fun _ _ => rfl)) (av_cons (ev_def0 C_done (hr.mono (by decide)) rfl (av_cons (ev_ix d_ix (ev_var 0) ev_int (fun _ _ => rfl)) (av_cons (ev_var 1) av_nil))) av_nil)))))
theorem sc_due_gone_on : FnScope N_due_gone_on ["branch", "row", "go"] (defScope s_due_gone_on) := ⟨rfl, rfl, rfl, by decide +kernel, rfl, by decide +kernel, by decide +kernel⟩
theorem ok_due_gone_on {f : Addr} {fd : FuncData} {dV : Value} (F : FunV K "due_gone_on" "due_gone_on" s_due_gone_on f fd dV) (T : Txt mg) (V_gone_on : CalF P w K mg base "gone_on" 6 g_gone_on) : FnOk P w K mg base CX0 7 f fd ["branch", "row", "go"] (spD K g_due_gone_on) :=
  fn_b (k := 6) (b := b_due_gone_on) F sc_due_gone_on fun cdv A outer s H E hr => (bv_cons (sv_if (tv_cmp (d_ne hr.units) (ev_ix d_ix (ev_var 1) ev_int (fun _ _ => rfl)) ev_str (nomark _)) (bv_one (sv_ret (ev_callv 2 (k := 6) (hT_cons (by decide) V_gone_on hT_nil) (hr.mono (by decide)) (av_cons (ev_var 0) (av_cons (ev_var 1) av_nil))))) bv_nil) (bv_one (sv_ret (ev_ifx (tv_cmp (d_eq hr.units) (ev_ix d_ix (ev_ix d_ix (ev_var 0) ev_int (fun _ _ => rfl)) (ev_ix d_ix (ev_var 1) ev_int (fun _ _ => rfl)) (fun _ _ => rfl)) ev_int (nomark _)) (ev_callv 2 (k := 6) (hT_cons (by decide) V_gone_on hT_nil) (hr.mono (by decide)) (av_cons (ev_var 0) (av_cons (ev_ix d_ix (ev_var 1) ev_int (fun _ _ => rfl)) av_nil))) (ev_var 0)))))
theorem sc_gone_through : FnScope N_gone_through ["rows", "begun", "part", "go"] (defScope s_gone_through) := ⟨rfl, rfl, rfl, by decide +kernel, rfl, by decide +kernel, by decide +kernel⟩
theorem ok_gone_through {f : Addr} {fd : FuncData} {dV : Value} (F : FunV K "gone_through" "gone_through" s_gone_through f fd dV) (T : Txt mg) (C_due_gone_on : Cal P w K mg base "due_gone_on" 7 g_due_gone_on []) (V_parted : CalF P w K mg base "parted" 2 g_parted) : FnOk P w K mg base CX0 8 f fd ["rows", "begun", "part", "go"] (spD K g_gone_through) :=
  fn_b (k := 7) (b := b_gone_through) F sc_gone_through fun cdv A outer s H E hr => (bv_cons (sv_set 4 sc_gone_through.nd (ev_lst (av_cons (ev_var 1) av_nil))) (bv_cons (sv_for PassesOwn.never rfl (iv_seq (ev_var 0)) (gv_name 5 sc_gone_through.nd) (bv_one (sv_if (tv_cmp (d_eq hr.units) (ev_ix d_ix (ev_var 5) ev_int (fun _ _ => rfl)) ev_str (nomark _)) (bv_cons (sv_own 6 sc_gone_through.nd av_nil) (bv_cons (sv_for PassesOwn.never rfl (iv_seq (ev_var 4)) (gv_name 7 sc_gone_through.nd) (bv_one (sv_extL 6 (ev_callv 2 (k := 2) (hT_cons (by decide) V_parted hT_nil) (hr.mono (by decide)) (av_cons (ev_var 7) (av_cons (ev_ix d_ix (ev_var 5) ev_int (fun _ _ => rfl)) av_nil)))))) (bv_one (sv_fz 6 (sv_set 4 sc_gone_through.nd (ev_var 6)))))) (bv_one (sv_comp 4 sc_gone_through.nd (vars := ["branch"]) (caps := [(3, "go"), (5, "row")]) (by change BlkOk (defScope s_gone_through).names N_gone_through _ _ _; exact ⟨rfl, by decide +kernel, by decide +kernel, by decide +kernel, by decide +kernel⟩) rfl (iv_seq (ev_var 4)) tg_one (fun _ _ _ _ => pg_name (i := 0) (show (["branch", "go", "row"] : List Str).Nodup by decide +kernel) rfl (Or.inl rfl) (.inr rfl)) (fun _ _ _ _ => (ev_def0 C_due_gone_on (hr.mono (by decide)) rfl (av_cons (ev_var 0) (av_cons (ev_var 2) (av_cons (ev_var 1) av_nil)))))))))) (bv_one (sv_ret (ev_var 4)))))
theorem sc_branches : FnScope N_branches ["circuit", "place"] (defScope s_branches) := ⟨rfl, rfl, rfl, by decide +kernel, rfl, by decide +kernel, by decide +kernel⟩
theorem ok_branches {f : Addr} {fd : FuncData} {dV : Value} (F : FunV K "branches" "branches" s_branches f fd dV) (T : Txt mg) (C_gone_through : Cal P w K mg base "gone_through" 8 g_gone_through []) (C_beginning : Cal P w K mg base "beginning" 1 g_beginning []) (N_gone_on : Fnm K mg "gone_on") (N_parted : Fnm K mg "parted") : FnOk P w K mg base CX0 9 f fd ["circuit", "place"] (spD K g_branches) :=
  fn_b (k := 8) (b := b_branches) F sc_branches fun cdv A outer s H E hr => (bv_one (sv_ret (ev_def0 C_gone_through (hr.mono (by decide)) rfl (av_cons (ev_ix d_ix (ev_var 0) ev_int (fun _ _ => rfl)) (av_cons (ev_tup (av_cons (ev_tup av_nil) (av_cons (ev_def0 C_beginning (hr.mono (by decide)) rfl (av_cons (ev_ix d_ix (ev_var 0) ev_int (fun _ _ => rfl)) (av_cons (ev_var 1) av_nil))) av_nil))) (av_cons (ev_fname N_parted rfl) (av_cons (ev_fname N_gone_on rfl) av_nil)))))))
theorem sc_mark_shares : FnScope N_mark_shares ["circuit", "place"] (defScope s_mark_shares) := ⟨rfl, rfl, rfl, by decide +kernel, rfl, by decide +kernel, by decide +kernel⟩
theorem ok_mark_shares {f : Addr} {fd : FuncData} {dV : Value} (F : FunV K "mark_shares" "mark_shares" s_mark_shares f fd dV) (T : Txt mg) (C_whole : Cal P w K mg base "whole" 4 g_whole []) (C_branches : Cal P w K mg base "branches" 9 g_branches []) : FnOk P w K mg base CX0 10 f fd ["circuit", "place"] (spD K g_mark_shares) :=
  fn_b (k := 9) (b := b_mark_shares) F sc_mark_shares fun cdv A outer s H E hr => (bv_one (sv_ret (ev_comp (vars := ["branch"]) (caps := []) (by change BlkOk (defScope s_mark_shares).names N_mark_shares _ _ _; exact ⟨rfl, by decide +kernel, by decide +kernel, by decide +kernel, by decide +kernel⟩) rfl (iv_seq (ev_def0 C_branches (hr.mono (by decide)) rfl (av_cons (ev_var 0) (av_cons (ev_var 1) av_nil)))) tg_one (fun _ _ _ _ => pg_name (i := 0) (show (["branch"] : List Str).Nodup by decide +kernel) rfl (Or.inl rfl) (.inr rfl)) (fun _ _ _ _ => (ev_tup (av_cons (ev_ix d_ix (ev_var 0) ev_int (fun _ _ => rfl)) (av_cons (ev_def0 C_whole (hr.mono (by decide)) rfl (av_cons (ev_ix d_ix (ev_var 0) ev_int (fun _ _ => rfl)) av_nil)) av_nil)))))))
theorem sc_word_of : FnScope N_word_of ["bits"] (defScope s_word_of) := ⟨rfl, rfl, rfl, by decide +kernel, rfl, by decide +kernel, by decide +kernel⟩
theorem ok_word_of {f : Addr} {fd : FuncData} {dV : Value} (F : FunV K "word_of" "word_of" s_word_of f fd dV) (T : Txt mg) : FnOk P w K mg base CX0 1 f fd ["bits"] (spD K g_word_of) :=
  fn_b (k := 0) (b := b_word_of) F sc_word_of fun cdv A outer s H E hr => (bv_cons (sv_if (tv_val (ev_callB (c_all rfl) rfl T.all (by decide +kernel) (av_cons (ev_comp (vars := ["bit"]) (caps := []) (by change BlkOk (defScope s_word_of).names N_word_of _ _ _; exact ⟨rfl, by decide +kernel, by decide +kernel, by decide +kernel, by decide +kernel⟩) rfl (iv_seq (ev_var 0)) tg_one (fun _ _ _ _ => pg_name (i := 0) (show (["bit"] : List Str).Nodup by decide +kernel) rfl (Or.inl rfl) (.inr rfl)) (fun _ _ _ _ => (ev_cmp (d_eq hr.units) (ev_var 0) ev_int (nomark _)))) av_nil))) (bv_one (sv_ret ev_str)) bv_nil) (bv_cons (sv_if (tv_val (ev_callB (c_all rfl) rfl T.all (by decide +kernel) (av_cons (ev_comp (vars := ["bit"]) (caps := []) (by change BlkOk (defScope s_word_of).names N_word_of _ _ _; exact ⟨rfl, by decide +kernel, by decide +kernel, by decide +kernel, by decide +kernel⟩) rfl (iv_seq (ev_var 0)) tg_one (fun _ _ _ _ => pg_name (i := 0) (show (["bit"] : List Str).Nodup by decide +kernel) rfl (Or.inl rfl) (.inr rfl)) (fun _ _ _ _ => (ev_cmp (d_eq hr.units) (ev_var 0) ev_int (nomark _)))) av_nil))) (bv_one (sv_ret ev_str)) bv_nil) (bv_one (sv_ret ev_str))))
theorem sc_marks_told : FnScope N_marks_told ["circuit", "place"] (defScope s_marks_told) := ⟨rfl, rfl, rfl, by decide +kernel, rfl, by decide +kernel, by decide +kernel⟩
theorem ok_marks_told {f : Addr} {fd : FuncData} {dV : Value} (F : FunV K "marks_told" "marks_told" s_marks_told f fd dV) (T : Txt mg) (C_word_of : Cal P w K mg base "word_of" 1 g_word_of []) (C_branches : Cal P w K mg base "branches" 9 g_branches []) (C_looks_in : Cal P w K mg base "looks_in" 1 g_looks_in []) : FnOk P w K mg base CX0 10 f fd ["circuit", "place"] (spD K g_marks_told) :=
  fn_b (k := 9) (b := b_marks_told) F sc_marks_told fun cdv A outer s H E hr => (bv_cons (sv_set 2 sc_marks_told.nd (ev_comp (vars := ["branch"]) (caps := []) (by change BlkOk (defScope s_marks_told).names N_marks_told _ _ _; exact ⟨rfl, by decide +kernel, by decide +kernel, by decide +kernel, by decide +kernel⟩) rfl (iv_seq (ev_def0 C_branches (hr.mono (by decide)) rfl (av_cons (ev_var 0) (av_cons (ev_var 1) av_nil)))) tg_one (fun _ _ _ _ => pg_name (i := 0) (show (["branch"] : List Str).Nodup by decide +kernel) rfl (Or.inl rfl) (.inr rfl)) (fun _ _ _ _ => (ev_ix d_ix (ev_var 0) ev_int (fun _ _ => rfl))))) (bv_one (sv_ret (ev_compC (m := "m") (vars := ["m"]) (caps := [(2, "rows")]) (by change BlkOkC (defScope s_marks_told).names N_marks_told _ _ _ _; exact ⟨rfl, by decide +kernel, by decide +kernel, by decide +kernel, by decide +kernel, by decide +kernel⟩) rfl (iv_range1 rfl T.range (av_cons (ev_def0 C_looks_in (hr.mono (by decide)) rfl (av_cons (ev_var 0) av_nil)) av_nil)) tg_one (fun _ _ _ _ => pg_name (i := 0) (show (["m", "rows"] : List Str).Nodup by decide +kernel) rfl (Or.inr rfl) (.inl rfl)) (fun _ _ _ _ => (ev_def0 C_word_of (hr.mono (by decide)) rfl (av_cons (ev_comp (vars := ["marks"]) (caps := [(0, "m")]) (BlkOk.inC rfl (by decide +kernel) (by decide +kernel) (by decide +kernel) (by decide +kernel)) rfl (iv_seq (ev_var 1)) tg_one (fun _ _ _ _ => pg_name (i := 0) (show (["marks", "m"] : List Str).Nodup by decide +kernel) rfl (Or.inl rfl) (.inr rfl)) (fun _ _ _ _ => (ev_ix d_ix (ev_var 0) (ev_var 1) (fun _ _ => rfl)))) av_nil)))))))
theorem sc__law_cell_at : FnScope N__law_cell_at ["script", "k"] (defScope s__law_cell_at) := ⟨rfl, rfl, rfl, by decide +kernel, rfl, by decide +kernel, by decide +kernel⟩
theorem ok__law_cell_at {f : Addr} {fd : FuncData} {dV : Value} (F : FunV K "_law_cell_at" "_law_cell_at" s__law_cell_at f fd dV) (T : Txt mg) : FnOk P w K mg base CX0 1 f fd ["script", "k"] (spD K g__law_cell_at) :=
  fn_b (k := 0) (b := b__law_cell_at) F sc__law_cell_at fun cdv A outer s H E hr => (bv_cons (sv_if (tv_cmp d_lt (ev_var 1) (ev_callB c_len rfl T.len (by decide +kernel) (av_cons (ev_var 0) av_nil)) (nomark _)) (bv_one (sv_ret (ev_ix d_ix (ev_var 0) (ev_var 1) (fun _ _ => rfl)))) bv_nil) (bv_one (sv_ret ev_int)))
theorem sc__law_row : FnScope N__law_row ["cell", "wires"] (defScope s__law_row) := ⟨rfl, rfl, rfl, by decide +kernel, rfl, by decide +kernel, by decide +kernel⟩
theorem ok__law_row {f : Addr} {fd : FuncData} {dV : Value} (F : FunV K "_law_row" "_law_row" s__law_row f fd dV) (T : Txt mg) : FnOk P w K mg base CX0 1 f fd ["cell", "wires"] (spD K g__law_row) :=
  fn_b (k := 0) (b := b__law_row) F sc__law_row fun cdv A outer s H E hr => (bv_cons (sv_set 2 sc__law_row.nd (ev_op d_mod (ev_var 0) ev_int)) (bv_cons (sv_set 3 sc__law_row.nd (ev_op d_mod (ev_op d_div (ev_var 0) ev_int) (ev_var 1))) (bv_cons (sv_if (WV.tv (wv_and (tv_cmp (d_eq hr.units) (ev_var 1) ev_int (nomark _)) (wv_and1 (tv_cmp d_gt (ev_var 2) ev_int (nomark _))))) (bv_one (sv_set 2 sc__law_row.nd (ev_op d_mod (ev_var 2) ev_int))) bv_nil) (bv_cons (sv_if (tv_cmp (d_eq hr.units) (ev_var 2) ev_int (nomark _)) (bv_one (sv_ret (ev_tup (av_cons ev_str (av_cons (ev_var 3) (av_cons (ev_op d_add ev_int (ev_op d_mod (ev_op d_div (ev_var 0) ev_int) ev_int)) av_nil)))))) bv_nil) (bv_cons (sv_if (WV.tv (wv_or (tv_cmp (d_eq hr.units) (ev_var 2) ev_int (nomark _)) (wv_or1 (tv_cmp (d_eq hr.units) (ev_var 2) ev_int (nomark _))))) (bv_one (sv_ret (ev_tup (av_cons (ev_ix d_ix (ev_lst (av_cons ev_str (av_cons ev_str (av_cons ev_str av_nil)))) (ev_var 2) (fun _ _ => rfl)) (av_cons (ev_var 3) av_nil))))) bv_nil) (bv_cons (sv_set 4 sc__law_row.nd (ev_op d_mod (ev_op d_add (ev_op d_add (ev_var 3) ev_int) (ev_op d_mod (ev_op d_div (ev_var 0) ev_int) (ev_op d_sub (ev_var 1) ev_int))) (ev_var 1))) (bv_one (sv_ret (ev_tup (av_cons (ev_ix d_ix (ev_lst (av_cons ev_str (av_cons ev_str (av_cons ev_str av_nil)))) (ev_op d_sub (ev_var 2) ev_int) (fun _ _ => rfl)) (av_cons (ev_var 4) (av_cons (ev_var 3) av_nil))))))))))))
theorem sc__law_rows : FnScope N__law_rows ["cells", "wires", "most"] (defScope s__law_rows) := ⟨rfl, rfl, rfl, by decide +kernel, rfl, by decide +kernel, by decide +kernel⟩
theorem ok__law_rows {f : Addr} {fd : FuncData} {dV : Value} (F : FunV K "_law_rows" "_law_rows" s__law_rows f fd dV) (T : Txt mg) (C__law_row : Cal P w K mg base "_law_row" 1 g__law_row []) : FnOk P w K mg base CX0 2 f fd ["cells", "wires", "most"] (spD K g__law_rows) :=
  fn_b (k := 1) (b := b__law_rows) F sc__law_rows fun cdv A outer s H E hr => (bv_cons (sv_own 3 sc__law_rows.nd av_nil) (bv_cons (sv_set 4 sc__law_rows.nd ev_int) (bv_cons (sv_for PassesOwn.never rfl (iv_seq (ev_var 0)) (gv_name 5 sc__law_rows.nd) (bv_cons (sv_set 6 sc__law_rows.nd (ev_op d_mod (ev_var 5) ev_int)) (bv_cons (sv_set 7 sc__law_rows.nd (ev_op d_div (ev_var 5) ev_int)) (bv_one (sv_if (WV.tv (wv_and (tv_cmp (d_eq hr.units) (ev_var 6) ev_int (nomark _)) (wv_and1 (tv_cmp d_lt (ev_var 4) (ev_var 2) (nomark _))))) (bv_cons (sv_app 3 (ev_tup (av_cons ev_str (av_cons (ev_op d_mod (ev_var 7) (ev_var 1)) av_nil)))) (bv_one (sv_set 4 sc__law_rows.nd (ev_op d_add (ev_var 4) ev_int)))) (bv_one (sv_if (WV.tv (wv_and (tv_cmp (d_eq hr.units) (ev_var 6) ev_int (nomark _)) (wv_and1 (tv_cmp d_gt (ev_var 4) ev_int (nomark _))))) (bv_cons (sv_set 8 sc__law_rows.nd (ev_ix d_ix (ev_lst (av_cons (ev_tup (av_cons ev_str (av_cons (ev_op d_mod (ev_op d_div (ev_var 7) ev_int) (ev_var 1)) av_nil))) (av_cons (ev_tup (av_cons ev_str (av_cons (ev_op d_mod (ev_op d_div (ev_var 7) ev_int) (ev_var 1)) (av_cons ev_int av_nil)))) av_nil))) (ev_op d_mod (ev_var 7) ev_int) (fun _ _ => rfl))) (bv_one (sv_app 3 (ev_tup (av_cons ev_str (av_cons (ev_op d_mod (ev_op d_div (ev_var 7) ev_int) (ev_var 4)) (av_cons (ev_var 8) av_nil))))))) (bv_one (sv_app 3 (ev_def0 C__law_row (hr.mono (by decide)) rfl (av_cons (ev_var 7) (av_cons (ev_var 1) av_nil)))))))))))) (bv_one (sv_fz 3 (sv_ret (ev_callTy c_tuple rfl T.tuple (by decide +kernel) (av_cons (ev_var 3) av_nil))))))))
theorem sc__law_looks : FnScope N__law_looks ["rows"] (defScope s__law_looks) := ⟨rfl, rfl, rfl, by decide +kernel, rfl, by decide +kernel, by decide +kernel⟩
theorem ok__law_looks {f : Addr} {fd : FuncData} {dV : Value} (F : FunV K "_law_looks" "_law_looks" s__law_looks f fd dV) (T : Txt mg) : FnOk P w K mg base CX0 1 f fd ["rows"] (spD K g__law_looks) :=
  fn_b (k := 0) (b := b__law_looks) F sc__law_looks fun cdv A outer s H E hr => (bv_one (sv_ret (ev_callB c_len rfl T.len (by decide +kernel) (av_cons (ev_compI (vars := ["row"]) (caps := []) (by change BlkOk (defScope s__law_looks).names N__law_looks _ _ _; exact ⟨rfl, by decide +kernel, by decide +kernel, by decide +kernel, by decide +kernel⟩) rfl (iv_seq (ev_var 0)) tg_one (fun _ _ _ _ => pg_name (i := 0) (show (["row"] : List Str).Nodup by decide +kernel) rfl (Or.inl rfl) (.inr rfl)) (fun _ _ _ _ => (tv_cmp (d_eq hr.units) (ev_ix d_ix (ev_var 0) ev_int (fun _ _ => rfl)) ev_str (nomark _))) (fun _ _ _ _ => (ev_var 0))) av_nil))))
theorem sc__law_products : FnScope N__law_products ["one", "other"] (defScope s__law_products) := ⟨rfl, rfl, rfl, by decide +kernel, rfl, by decide +kernel, by decide +kernel⟩
theorem ok__law_products {f : Addr} {fd : FuncData} {dV : Value} (F : FunV K "_law_products" "_law_products" s__law_products f fd dV) (T : Txt mg) (C_times : Cal P w K mg base "times" 3 g_times []) : FnOk P w K mg base CX0 4 f fd ["one", "other"] (spD K g__law_products) :=
  fn_b (k := 3) (b := b__law_products) F sc__law_products fun cdv A outer s H E hr => (bv_cons (sv_own 2 sc__law_products.nd av_nil) (bv_cons (sv_for PassesOwn.never rfl (iv_seq (ev_var 0)) (gv_name 3 sc__law_products.nd) (bv_one (sv_for PassesOwn.never rfl (iv_seq (ev_var 1)) (gv_name 4 sc__law_products.nd) (bv_cons (sv_set 5 sc__law_products.nd (ev_tup av_nil)) (bv_cons (sv_for PassesOwn.never rfl (iv_seq (ev_ix d_ix (ev_var 3) ev_int (fun _ _ => rfl))) (gv_name 6 sc__law_products.nd) (bv_one (sv_set 5 sc__law_products.nd (ev_op d_add (ev_var 5) (ev_callTy c_tuple rfl T.tuple (by decide +kernel) (av_cons (ev_comp (vars := ["y"]) (caps := [(6, "x")]) (by change BlkOk (defScope s__law_products).names N__law_products _ _ _; exact ⟨rfl, by decide +kernel, by decide +kernel, by decide +kernel, by decide +kernel⟩) rfl (iv_seq (ev_ix d_ix (ev_var 4) ev_int (fun _ _ => rfl))) tg_one (fun _ _ _ _ => pg_name (i := 0) (show (["y", "x"] : List Str).Nodup by decide +kernel) rfl (Or.inl rfl) (.inr rfl)) (fun _ _ _ _ => (ev_def0 C_times (hr.mono (by decide)) rfl (av_cons (ev_var 1) (av_cons (ev_var 0) av_nil))))) av_nil)))))) (bv_one (sv_app 2 (ev_tup (av_cons (ev_op d_add (ev_ix d_ix (ev_var 3) ev_int (fun _ _ => rfl)) (ev_ix d_ix (ev_var 4) ev_int (fun _ _ => rfl))) (av_cons (ev_var 5) av_nil)))))))))) (bv_one (sv_fz 2 (sv_ret (ev_var 2))))))
theorem sc__law_share_products : FnScope N__law_share_products ["one", "other"] (defScope s__law_share_products) := ⟨rfl, rfl, rfl, by decide +kernel, rfl, by decide +kernel, by decide +kernel⟩
theorem ok__law_share_products {f : Addr} {fd : FuncData} {dV : Value} (F : FunV K "_law_share_products" "_law_share_products" s__law_share_products f fd dV) (T : Txt mg) (C_share_times : Cal P w K mg base "share_times" 3 g_share_times []) : FnOk P w K mg base CX0 4 f fd ["one", "other"] (spD K g__law_share_products) :=
  fn_b (k := 3) (b := b__law_share_products) F sc__law_share_products fun cdv A outer s H E hr => (bv_cons (sv_own 2 sc__law_share_products.nd av_nil) (bv_cons (sv_for PassesOwn.never rfl (iv_seq (ev_var 0)) (gv_name 3 sc__law_share_products.nd) (bv_one (sv_for PassesOwn.never rfl (iv_seq (ev_var 1)) (gv_name 4 sc__law_share_products.nd) (bv_one (sv_app 2 (ev_tup (av_cons (ev_op d_add (ev_ix d_ix (ev_var 3) ev_int (fun _ _ => rfl)) (ev_ix d_ix (ev_var 4) ev_int (fun _ _ => rfl))) (av_cons (ev_def0 C_share_times (hr.mono (by decide)) rfl (av_cons (ev_ix d_ix (ev_var 3) ev_int (fun _ _ => rfl)) (av_cons (ev_ix d_ix (ev_var 4) ev_int (fun _ _ => rfl)) av_nil))) av_nil)))))))) (bv_one (sv_fz 2 (sv_ret (ev_var 2))))))
theorem sc_law : FnScope N_law ["script"] (defScope s_law) := ⟨rfl, rfl, rfl, by decide +kernel, rfl, by decide +kernel, by decide +kernel⟩
theorem ok_law {f : Addr} {fd : FuncData} {dV : Value} (F : FunV K "law" "law" s_law f fd dV) (T : Txt mg) (C__law_cell_at : Cal P w K mg base "_law_cell_at" 1 g__law_cell_at []) (C_side_by_side : Cal P w K mg base "side_by_side" 11 g_side_by_side []) (C_branches : Cal P w K mg base "branches" 9 g_branches []) (C__law_share_products : Cal P w K mg base "_law_share_products" 4 g__law_share_products []) (C__law_looks : Cal P w K mg base "_law_looks" 1 g__law_looks []) (C__law_rows : Cal P w K mg base "_law_rows" 2 g__law_rows []) (C__law_products : Cal P w K mg base "_law_products" 4 g__law_products []) (C_mark_shares : Cal P w K mg base "mark_shares" 10 g_mark_shares []) (C_marks_told : Cal P w K mg base "marks_told" 10 g_marks_told []) (C_put_off : Cal P w K mg base "put_off" 3 g_put_off []) : FnOk P w K mg base CX0 12 f fd ["script"] (spD K g_law) :=
  fn_b (k := 11) (b := b_law) F sc_law fun cdv A outer s H E hr => (bv_cons (sv_set 1 sc_law.nd (ev_def0 C__law_cell_at (hr.mono (by decide)) rfl (av_cons (ev_var 0) (av_cons ev_int av_nil)))) (bv_cons (sv_set 2 sc_law.nd (ev_slice (ev_var 0) (ov_some ev_int) (ov_some ev_int))) (bv_cons (sv_set 3 sc_law.nd (ev_tup (av_cons (ev_op d_add ev_int (ev_op d_mod (ev_var 1) ev_int)) (av_cons (ev_def0 C__law_rows (hr.mono (by decide)) rfl (av_cons (ev_comp (vars := ["k"]) (caps := [(2, "cells")]) (by change BlkOk (defScope s_law).names N_law _ _ _; exact ⟨rfl, by decide +kernel, by decide +kernel, by decide +kernel, by decide +kernel⟩) rfl (iv_range3 rfl T.range (av_cons ev_int (av_cons (ev_callB c_len rfl T.len (by decide +kernel) (av_cons (ev_var 2) av_nil)) (av_cons ev_int av_nil)))) tg_one (fun _ _ _ _ => pg_name (i := 0) (show (["k", "cells"] : List Str).Nodup by decide +kernel) rfl (Or.inl rfl) (.inr rfl)) (fun _ _ _ _ => (ev_ix d_ix (ev_var 1) (ev_var 0) (fun _ _ => rfl)))) (av_cons (ev_op d_add ev_int (ev_op d_mod (ev_var 1) ev_int)) (av_cons (ev_op d_mod (ev_op d_div (ev_var 1) ev_int) ev_int) av_nil)))) av_nil)))) (bv_cons (sv_comp 4 sc_law.nd (vars := ["k"]) (caps := [(2, "cells")]) (by change BlkOk (defScope s_law).names N_law _ _ _; exact ⟨rfl, by decide +kernel, by decide +kernel, by decide +kernel, by decide +kernel⟩) rfl (iv_range3 rfl T.range (av_cons ev_int (av_cons (ev_callB c_len rfl T.len (by decide +kernel) (av_cons (ev_var 2) av_nil)) (av_cons ev_int av_nil)))) tg_one (fun _ _ _ _ => pg_name (i := 0) (show (["k", "cells"] : List Str).Nodup by decide +kernel) rfl (Or.inl rfl) (.inr rfl)) (fun _ _ _ _ => (ev_ix d_ix (ev_var 1) (ev_var 0) (fun _ _ => rfl)))) (bv_cons (sv_set 5 sc_law.nd (ev_tup (av_cons (ev_op d_add ev_int (ev_op d_mod (ev_op d_div (ev_var 1) ev_int) ev_int)) (av_cons (ev_def0 C__law_rows (hr.mono (by decide)) rfl (av_cons (ev_var 4) (av_cons (ev_op d_add ev_int (ev_op d_mod (ev_op d_div (ev_var 1) ev_int) ev_int)) (av_cons (ev_op d_mod (ev_op d_div (ev_var 1) ev_int) ev_int) av_nil)))) av_nil)))) (bv_cons (sv_set 6 sc_law.nd (ev_lst (av_cons (ev_op d_mod (ev_def0 C__law_cell_at (hr.mono (by decide)) rfl (av_cons (ev_var 0) (av_cons ev_int av_nil))) (ev_op d_shl ev_int (ev_ix d_ix (ev_var 3) ev_int (fun _ _ => rfl)))) (av_cons (ev_op d_mod (ev_op d_div (ev_def0 C__law_cell_at (hr.mono (by decide)) rfl (av_cons (ev_var 0) (av_cons ev_int av_nil))) ev_int) (ev_op d_shl ev_int (ev_ix d_ix (ev_var 5) ev_int (fun _ _ => rfl)))) av_nil)))) (bv_cons (sv_set 7 sc_law.nd (ev_def0 C_side_by_side (hr.mono (by decide)) rfl (av_cons (ev_var 3) (av_cons (ev_var 5) av_nil)))) (bv_cons (sv_set 8 sc_law.nd (ev_op d_add (ev_op d_shl (ev_ix d_ix (ev_var 6) ev_int (fun _ _ => rfl)) (ev_ix d_ix (ev_var 5) ev_int (fun _ _ => rfl))) (ev_ix d_ix (ev_var 6) ev_int (fun _ _ => rfl)))) (bv_cons (sv_set 9 sc_law.nd (ev_def0 C_branches (hr.mono (by decide)) rfl (av_cons (ev_var 3) (av_cons (ev_ix d_ix (ev_var 6) ev_int (fun _ _ => rfl)) av_nil)))) (bv_cons (sv_set 10 sc_law.nd (ev_def0 C_branches (hr.mono (by decide)) rfl (av_cons (ev_var 5) (av_cons (ev_ix d_ix (ev_var 6) ev_int (fun _ _ => rfl)) av_nil)))) (bv_cons (sv_if (tv_cmp (d_ne hr.units) (ev_def0 C_branches (hr.mono (by decide)) rfl (av_cons (ev_var 7) (av_cons (ev_var 8) av_nil))) (ev_def0 C__law_products (hr.mono (by decide)) rfl (av_cons (ev_var 9) (av_cons (ev_var 10) av_nil))) (nomark _)) (bv_one (sv_ret ev_bl)) bv_nil) (bv_cons (sv_set 11 sc_law.nd (ev_def0 C__law_share_products (hr.mono (by decide)) rfl (av_cons (ev_def0 C_mark_shares (hr.mono (by decide)) rfl (av_cons (ev_var 3) (av_cons (ev_ix d_ix (ev_var 6) ev_int (fun _ _ => rfl)) av_nil))) (av_cons (ev_def0 C_mark_shares (hr.mono (by decide)) rfl (av_cons (ev_var 5) (av_cons (ev_ix d_ix (ev_var 6) ev_int (fun _ _ => rfl)) av_nil))) av_nil)))) (bv_cons (sv_if (tv_cmp (d_ne hr.units) (ev_def0 C_mark_shares (hr.mono (by decide)) rfl (av_cons (ev_var 7) (av_cons (ev_var 8) av_nil))) (ev_var 11) (nomark _)) (bv_one (sv_ret ev_bl)) bv_nil) (bv_cons (sv_set 12 sc_law.nd (ev_def0 C__law_looks (hr.mono (by decide)) rfl (av_cons (ev_ix d_ix (ev_var 7) ev_int (fun _ _ => rfl)) av_nil))) (bv_cons (sv_if (WV.tv (wv_and (tv_cmp d_lt (ev_op d_add (ev_ix d_ix (ev_var 7) ev_int (fun _ _ => rfl)) (ev_var 12)) ev_int (nomark _)) (wv_and1 (tv_cmp (d_ne hr.units) (ev_def0 C_mark_shares (hr.mono (by decide)) rfl (av_cons (ev_def0 C_put_off (hr.mono (by decide)) rfl (av_cons (ev_var 7) av_nil)) (av_cons (ev_op d_shl (ev_var 8) (ev_var 12)) av_nil))) (ev_var 11) (nomark _))))) (bv_one (sv_ret ev_bl)) bv_nil) (bv_one (sv_ret (ev_cmp (d_eq hr.units) (ev_def0 C_marks_told (hr.mono (by decide)) rfl (av_cons (ev_var 7) (av_cons (ev_var 8) av_nil))) (ev_op d_add (ev_def0 C_marks_told (hr.mono (by decide)) rfl (av_cons (ev_var 3) (av_cons (ev_ix d_ix (ev_var 6) ev_int (fun _ _ => rfl)) av_nil))) (ev_def0 C_marks_told (hr.mono (by decide)) rfl (av_cons (ev_var 5) (av_cons (ev_ix d_ix (ev_var 6) ev_int (fun _ _ => rfl)) av_nil)))) (nomark _)))))))))))))))))))
end

theorem bd_twos_shared : BindsAs "twos_shared" s_twos_shared ["joined", "most"] := fun _ _ _ _ _ _ us hl => by obtain ⟨_, _, rfl⟩ := len2 hl; exact rfl
theorem bd_by_root : BindsAs "by_root" s_by_root ["a", "b", "c", "d"] := fun _ _ _ _ _ _ us hl => by obtain ⟨_, _, _, _, rfl⟩ := len4 hl; exact rfl
theorem bd_parts_over_ring : BindsAs "parts_over" s_parts_over_ring ["x", "k"] := fun _ _ _ _ _ _ us hl => by obtain ⟨_, _, rfl⟩ := len2 hl; exact rfl
theorem bd_plus : BindsAs "plus" s_plus ["x", "y"] := fun _ _ _ _ _ _ us hl => by obtain ⟨_, _, rfl⟩ := len2 hl; exact rfl
theorem bd_times : BindsAs "times" s_times ["x", "y"] := fun _ _ _ _ _ _ us hl => by obtain ⟨_, _, rfl⟩ := len2 hl; exact rfl
theorem bd_against : BindsAs "against" s_against ["x"] := fun _ _ _ _ _ _ us hl => by obtain ⟨_, rfl⟩ := len1 hl; exact rfl
theorem bd_turned : BindsAs "turned" s_turned ["x", "e"] := fun _ _ _ _ _ _ us hl => by obtain ⟨_, _, rfl⟩ := len2 hl; exact rfl
theorem bd_halved : BindsAs "halved" s_halved ["x"] := fun _ _ _ _ _ _ us hl => by obtain ⟨_, rfl⟩ := len1 hl; exact rfl
theorem bd_parts_over_shares : BindsAs "parts_over" s_parts_over_shares ["x", "k"] := fun _ _ _ _ _ _ us hl => by obtain ⟨_, _, rfl⟩ := len2 hl; exact rfl
theorem bd_share_plus : BindsAs "share_plus" s_share_plus ["x", "y"] := fun _ _ _ _ _ _ us hl => by obtain ⟨_, _, rfl⟩ := len2 hl; exact rfl
theorem bd_share_times : BindsAs "share_times" s_share_times ["x", "y"] := fun _ _ _ _ _ _ us hl => by obtain ⟨_, _, rfl⟩ := len2 hl; exact rfl
theorem bd_size_of : BindsAs "size_of" s_size_of ["x"] := fun _ _ _ _ _ _ us hl => by obtain ⟨_, rfl⟩ := len1 hl; exact rfl
theorem bd_worth : BindsAs "worth" s_worth ["wires", "wire"] := fun _ _ _ _ _ _ us hl => by obtain ⟨_, _, rfl⟩ := len2 hl; exact rfl
theorem bd_swung : BindsAs "swung" s_swung ["state", "bit"] := fun _ _ _ _ _ _ us hl => by obtain ⟨_, _, rfl⟩ := len2 hl; exact rfl
theorem bd_turned_where : BindsAs "turned_where" s_turned_where ["state", "held", "e"] := fun _ _ _ _ _ _ us hl => by obtain ⟨_, _, _, rfl⟩ := len3 hl; exact rfl
theorem bd_flipped_where : BindsAs "flipped_where" s_flipped_where ["state", "held", "bit"] := fun _ _ _ _ _ _ us hl => by obtain ⟨_, _, _, rfl⟩ := len3 hl; exact rfl
theorem bd_exchanged : BindsAs "exchanged" s_exchanged ["place", "both"] := fun _ _ _ _ _ _ us hl => by obtain ⟨_, _, rfl⟩ := len2 hl; exact rfl
theorem bd_done : BindsAs "done" s_done ["state", "row"] := fun _ _ _ _ _ _ us hl => by obtain ⟨_, _, rfl⟩ := len2 hl; exact rfl
theorem bd_whole : BindsAs "whole" s_whole ["state"] := fun _ _ _ _ _ _ us hl => by obtain ⟨_, rfl⟩ := len1 hl; exact rfl
theorem bd_looks_in : BindsAs "looks_in" s_looks_in ["circuit"] := fun _ _ _ _ _ _ us hl => by obtain ⟨_, rfl⟩ := len1 hl; exact rfl
theorem bd_counted_on : BindsAs "counted_on" s_counted_on ["row", "wires", "marks"] := fun _ _ _ _ _ _ us hl => by obtain ⟨_, _, _, rfl⟩ := len3 hl; exact rfl
theorem bd_rows_together : BindsAs "rows_together" s_rows_together ["one", "other", "wires"] := fun _ _ _ _ _ _ us hl => by obtain ⟨_, _, _, rfl⟩ := len3 hl; exact rfl
theorem bd_side_by_side : BindsAs "side_by_side" s_side_by_side ["one", "other"] := fun _ _ _ _ _ _ us hl => by obtain ⟨_, _, rfl⟩ := len2 hl; exact rfl
theorem bd_where_put_off : BindsAs "where_put_off" s_where_put_off ["row", "wires"] := fun _ _ _ _ _ _ us hl => by obtain ⟨_, _, rfl⟩ := len2 hl; exact rfl
theorem bd_rows_put_off : BindsAs "rows_put_off" s_rows_put_off ["rows", "wires"] := fun _ _ _ _ _ _ us hl => by obtain ⟨_, _, rfl⟩ := len2 hl; exact rfl
theorem bd_put_off : BindsAs "put_off" s_put_off ["circuit"] := fun _ _ _ _ _ _ us hl => by obtain ⟨_, rfl⟩ := len1 hl; exact rfl
theorem bd_left_by : BindsAs "left_by" s_left_by ["state", "bit", "mark"] := fun _ _ _ _ _ _ us hl => by obtain ⟨_, _, _, rfl⟩ := len3 hl; exact rfl
theorem bd_is_nought : BindsAs "is_nought" s_is_nought ["state"] := fun _ _ _ _ _ _ us hl => by obtain ⟨_, rfl⟩ := len1 hl; exact rfl
theorem bd_parted : BindsAs "parted" s_parted ["branch", "wire"] := fun _ _ _ _ _ _ us hl => by obtain ⟨_, _, rfl⟩ := len2 hl; exact rfl
theorem bd_gone_on : BindsAs "gone_on" s_gone_on ["branch", "row"] := fun _ _ _ _ _ _ us hl => by obtain ⟨_, _, rfl⟩ := len2 hl; exact rfl
theorem bd_due_gone_on : BindsAs "due_gone_on" s_due_gone_on ["branch", "row", "go"] := fun _ _ _ _ _ _ us hl => by obtain ⟨_, _, _, rfl⟩ := len3 hl; exact rfl
theorem bd_gone_through : BindsAs "gone_through" s_gone_through ["rows", "begun", "part", "go"] := fun _ _ _ _ _ _ us hl => by obtain ⟨_, _, _, _, rfl⟩ := len4 hl; exact rfl
theorem bd_word_of : BindsAs "word_of" s_word_of ["bits"] := fun _ _ _ _ _ _ us hl => by obtain ⟨_, rfl⟩ := len1 hl; exact rfl
theorem bd__law_cell_at : BindsAs "_law_cell_at" s__law_cell_at ["script", "k"] := fun _ _ _ _ _ _ us hl => by obtain ⟨_, _, rfl⟩ := len2 hl; exact rfl
theorem bd__law_row : BindsAs "_law_row" s__law_row ["cell", "wires"] := fun _ _ _ _ _ _ us hl => by obtain ⟨_, _, rfl⟩ := len2 hl; exact rfl
theorem bd__law_rows : BindsAs "_law_rows" s__law_rows ["cells", "wires", "most"] := fun _ _ _ _ _ _ us hl => by obtain ⟨_, _, _, rfl⟩ := len3 hl; exact rfl
theorem bd__law_looks : BindsAs "_law_looks" s__law_looks ["rows"] := fun _ _ _ _ _ _ us hl => by obtain ⟨_, rfl⟩ := len1 hl; exact rfl
theorem bd__law_products : BindsAs "_law_products" s__law_products ["one", "other"] := fun _ _ _ _ _ _ us hl => by obtain ⟨_, _, rfl⟩ := len2 hl; exact rfl
theorem bd__law_share_products : BindsAs "_law_share_products" s__law_share_products ["one", "other"] := fun _ _ _ _ _ _ us hl => by obtain ⟨_, _, rfl⟩ := len2 hl; exact rfl
theorem all_mk {l : PySem.W.OpenLaw} {w : World} {K : PySem.W.Frag} {h : Heap} {mg : Str → Option Value} {fa f2 f9 f15 f35 f36 f38 f45 t2 t9 t15 t35 t36 t38 f_NOUGHT f_ONE : Addr} {od2 an2 od9 an9 od15 an15 od35 an35 od36 an36 od38 an38 od45 an45 td2 td9 td15 td35 td36 td38 td_NOUGHT td_ONE : Option Addr} {sl2 sl9 sl15 sl35 sl36 sl38 sl45 ts2 ts9 ts15 ts35 ts36 ts38 ts_NOUGHT ts_ONE : Array (Option Value)} {oc2 kV2 dc2 pm2 cd2 ct2 oc9 kV9 dc9 pm9 cd9 ct9 oc15 kV15 dc15 pm15 cd15 ct15 oc35 kV35 dc35 pm35 cd35 ct35 oc36 kV36 dc36 pm36 cd36 ct36 oc38 kV38 dc38 pm38 cd38 ct38 oc45 kV45 dc45 pm45 cd45 ct45 tc2 tc9 tc15 tc35 tc36 tc38 : Value} {tn2 tn9 tn15 tn35 tn36 tn38 tn_NOUGHT tn_ONE : Nat} {tk2_0 tk9_0 tk15_0 tk35_0 tk36_0 tk38_0 tk_NOUGHT_0 tk_NOUGHT_1 tk_NOUGHT_2 tk_NOUGHT_3 tk_NOUGHT_4 tk_ONE_0 tk_ONE_1 tk_ONE_2 tk_ONE_3 tk_ONE_4 tk_MOST_WIRES_0 tk_MOST_ROWS_0 tk_MOST_LOOKS_0 : Tok} (X : K.In h) (G : h.Ns mainGlobals mg) (hfa : mg "law" = some (.ref fa))
    (D0 : DefIn K "twos_shared" "twos_shared" s_twos_shared)
    (D1 : DefIn K "by_root" "by_root" s_by_root)
    (a2 : PySem.W.nsIn K mainGlobals "number" = some (some (.ref f2))) (l2 : K.lookup f2 = some ⟨oc2, od2, .func (PySem.W.fnOf "number" "number" (defArgs s_number) (defBody s_number) (defScope s_number) (.ref t2) kV2 dc2 pm2 an2 cd2 ct2), sl2⟩) (c2 : PySem.W.codeIn K cd2 "number" = true) (k2 : PySem.W.keepIn K (.ref f2) = true)
    (d2 : K.lookup t2 = some ⟨tc2, td2, .seq #[.int 0 tk2_0] tn2, ts2⟩)
    (D3 : DefIn K "parts_over_ring" "parts_over" s_parts_over_ring)
    (D4 : DefIn K "plus" "plus" s_plus)
    (D5 : DefIn K "times" "times" s_times)
    (D6 : DefIn K "against" "against" s_against)
    (D7 : DefIn K "turned" "turned" s_turned)
    (D8 : DefIn K "halved" "halved" s_halved)
    (a9 : PySem.W.nsIn K mainGlobals "share" = some (some (.ref f9))) (l9 : K.lookup f9 = some ⟨oc9, od9, .func (PySem.W.fnOf "share" "share" (defArgs s_share) (defBody s_share) (defScope s_share) (.ref t9) kV9 dc9 pm9 an9 cd9 ct9), sl9⟩) (c9 : PySem.W.codeIn K cd9 "share" = true) (k9 : PySem.W.keepIn K (.ref f9) = true)
    (d9 : K.lookup t9 = some ⟨tc9, td9, .seq #[.int 0 tk9_0] tn9, ts9⟩)
    (D10 : DefIn K "parts_over_shares" "parts_over" s_parts_over_shares)
    (D11 : DefIn K "share_plus" "share_plus" s_share_plus)
    (D12 : DefIn K "share_times" "share_times" s_share_times)
    (D13 : DefIn K "size_of" "size_of" s_size_of)
    (D14 : DefIn K "worth" "worth" s_worth)
    (a15 : PySem.W.nsIn K mainGlobals "beginning" = some (some (.ref f15))) (l15 : K.lookup f15 = some ⟨oc15, od15, .func (PySem.W.fnOf "beginning" "beginning" (defArgs s_beginning) (defBody s_beginning) (defScope s_beginning) (.ref t15) kV15 dc15 pm15 an15 cd15 ct15), sl15⟩) (c15 : PySem.W.codeIn K cd15 "beginning" = true) (k15 : PySem.W.keepIn K (.ref f15) = true)
    (d15 : K.lookup t15 = some ⟨tc15, td15, .seq #[.int 0 tk15_0] tn15, ts15⟩)
    (D16 : DefIn K "swung" "swung" s_swung)
    (D17 : DefIn K "turned_where" "turned_where" s_turned_where)
    (D18 : DefIn K "flipped_where" "flipped_where" s_flipped_where)
    (D19 : DefIn K "exchanged" "exchanged" s_exchanged)
    (D20 : DefIn K "done" "done" s_done)
    (D21 : DefIn K "whole" "whole" s_whole)
    (D22 : DefIn K "looks_in" "looks_in" s_looks_in)
    (D23 : DefIn K "counted_on" "counted_on" s_counted_on)
    (D24 : DefIn K "rows_together" "rows_together" s_rows_together)
    (D25 : DefIn K "side_by_side" "side_by_side" s_side_by_side)
    (D26 : DefIn K "where_put_off" "where_put_off" s_where_put_off)
    (D27 : DefIn K "rows_put_off" "rows_put_off" s_rows_put_off)
    (D28 : DefIn K "put_off" "put_off" s_put_off)
    (D29 : DefIn K "left_by" "left_by" s_left_by)
    (D30 : DefIn K "is_nought" "is_nought" s_is_nought)
    (D31 : DefIn K "parted" "parted" s_parted)
    (D32 : DefIn K "gone_on" "gone_on" s_gone_on)
    (D33 : DefIn K "due_gone_on" "due_gone_on" s_due_gone_on)
    (D34 : DefIn K "gone_through" "gone_through" s_gone_through)
    (a35 : PySem.W.nsIn K mainGlobals "branches" = some (some (.ref f35))) (l35 : K.lookup f35 = some ⟨oc35, od35, .func (PySem.W.fnOf "branches" "branches" (defArgs s_branches) (defBody s_branches) (defScope s_branches) (.ref t35) kV35 dc35 pm35 an35 cd35 ct35), sl35⟩) (c35 : PySem.W.codeIn K cd35 "branches" = true) (k35 : PySem.W.keepIn K (.ref f35) = true)
    (d35 : K.lookup t35 = some ⟨tc35, td35, .seq #[.int 0 tk35_0] tn35, ts35⟩)
    (a36 : PySem.W.nsIn K mainGlobals "mark_shares" = some (some (.ref f36))) (l36 : K.lookup f36 = some ⟨oc36, od36, .func (PySem.W.fnOf "mark_shares" "mark_shares" (defArgs s_mark_shares) (defBody s_mark_shares) (defScope s_mark_shares) (.ref t36) kV36 dc36 pm36 an36 cd36 ct36), sl36⟩) (c36 : PySem.W.codeIn K cd36 "mark_shares" = true) (k36 : PySem.W.keepIn K (.ref f36) = true)
    (d36 : K.lookup t36 = some ⟨tc36, td36, .seq #[.int 0 tk36_0] tn36, ts36⟩)
    (D37 : DefIn K "word_of" "word_of" s_word_of)
    (a38 : PySem.W.nsIn K mainGlobals "marks_told" = some (some (.ref f38))) (l38 : K.lookup f38 = some ⟨oc38, od38, .func (PySem.W.fnOf "marks_told" "marks_told" (defArgs s_marks_told) (defBody s_marks_told) (defScope s_marks_told) (.ref t38) kV38 dc38 pm38 an38 cd38 ct38), sl38⟩) (c38 : PySem.W.codeIn K cd38 "marks_told" = true) (k38 : PySem.W.keepIn K (.ref f38) = true)
    (d38 : K.lookup t38 = some ⟨tc38, td38, .seq #[.int 0 tk38_0] tn38, ts38⟩)
    (D39 : DefIn K "_law_cell_at" "_law_cell_at" s__law_cell_at)
    (D40 : DefIn K "_law_row" "_law_row" s__law_row)
    (D41 : DefIn K "_law_rows" "_law_rows" s__law_rows)
    (D42 : DefIn K "_law_looks" "_law_looks" s__law_looks)
    (D43 : DefIn K "_law_products" "_law_products" s__law_products)
    (D44 : DefIn K "_law_share_products" "_law_share_products" s__law_share_products)
    (a45 : PySem.W.nsIn K mainGlobals "law" = some (some (.ref f45))) (l45 : K.lookup f45 = some ⟨oc45, od45, .func (PySem.W.fnOf "law" "law" (defArgs s_law) (defBody s_law) (defScope s_law) .none kV45 dc45 pm45 an45 cd45 ct45), sl45⟩) (c45 : PySem.W.codeIn K cd45 "law" = true) (k45 : PySem.W.keepIn K (.ref f45) = true)
    (z_min : PySem.W.nsIn K mainGlobals "min" = some none)
    (z_max : PySem.W.nsIn K mainGlobals "max" = some none)
    (z_tuple : PySem.W.nsIn K mainGlobals "tuple" = some none)
    (z_range : PySem.W.nsIn K mainGlobals "range" = some none)
    (z_len : PySem.W.nsIn K mainGlobals "len" = some none)
    (z_all : PySem.W.nsIn K mainGlobals "all" = some none)
    (a_NOUGHT : PySem.W.nsIn K mainGlobals "NOUGHT" = some (some (.ref f_NOUGHT))) (d_NOUGHT : K.lookup f_NOUGHT = some ⟨.type "tuple", td_NOUGHT, .seq #[.int 0 tk_NOUGHT_0, .int 0 tk_NOUGHT_1, .int 0 tk_NOUGHT_2, .int 0 tk_NOUGHT_3, .int 0 tk_NOUGHT_4] tn_NOUGHT, ts_NOUGHT⟩)
    (a_ONE : PySem.W.nsIn K mainGlobals "ONE" = some (some (.ref f_ONE))) (d_ONE : K.lookup f_ONE = some ⟨.type "tuple", td_ONE, .seq #[.int 1 tk_ONE_0, .int 0 tk_ONE_1, .int 0 tk_ONE_2, .int 0 tk_ONE_3, .int 0 tk_ONE_4] tn_ONE, ts_ONE⟩)
    (a_MOST_WIRES : PySem.W.nsIn K mainGlobals "MOST_WIRES" = some (some (.int 6 tk_MOST_WIRES_0)))
    (a_MOST_ROWS : PySem.W.nsIn K mainGlobals "MOST_ROWS" = some (some (.int 60 tk_MOST_ROWS_0)))
    (a_MOST_LOOKS : PySem.W.nsIn K mainGlobals "MOST_LOOKS" = some (some (.int 6 tk_MOST_LOOKS_0)))
    : ∃ fd : FuncData, (∀ (s : Shared) (v : Value), BindsTo s fd ⟨[v], []⟩ [("script", v)]) ∧ ∀ base : Heap, K.In base → base.Ns mainGlobals mg → FnOk l.prog w K mg base CX0 12 fa fd ["script"] (spLaw K) := by
  have e := hfa.symm.trans (PySem.W.mg_of X G a45)
  cases e
  have T : Txt mg := ⟨PySem.W.mg_none_of X G z_min, PySem.W.mg_none_of X G z_max, PySem.W.mg_none_of X G z_tuple, PySem.W.mg_none_of X G z_range, PySem.W.mg_none_of X G z_len, PySem.W.mg_none_of X G z_all⟩
  have T_NOUGHT : TopV K mg "NOUGHT" (.tuple [.int 0, .int 0, .int 0, .int 0, .int 0]) := TopV.tup (xs := [.int 0, .int 0, .int 0, .int 0, .int 0]) (PySem.W.mg_of X G a_NOUGHT) d_NOUGHT (by simp [sizeLine]) (.cons ⟨_, rfl⟩ (.cons ⟨_, rfl⟩ (.cons ⟨_, rfl⟩ (.cons ⟨_, rfl⟩ (.cons ⟨_, rfl⟩ (.nil)))))) fun _ => .cons (.int _) (.cons (.int _) (.cons (.int _) (.cons (.int _) (.cons (.int _) (.nil)))))
  have T_ONE : TopV K mg "ONE" (.tuple [.int 1, .int 0, .int 0, .int 0, .int 0]) := TopV.tup (xs := [.int 1, .int 0, .int 0, .int 0, .int 0]) (PySem.W.mg_of X G a_ONE) d_ONE (by simp [sizeLine]) (.cons ⟨_, rfl⟩ (.cons ⟨_, rfl⟩ (.cons ⟨_, rfl⟩ (.cons ⟨_, rfl⟩ (.cons ⟨_, rfl⟩ (.nil)))))) fun _ => .cons (.int _) (.cons (.int _) (.cons (.int _) (.cons (.int _) (.cons (.int _) (.nil)))))
  have T_MOST_WIRES : TopV K mg "MOST_WIRES" (.int 6) := TopV.int (PySem.W.mg_of X G a_MOST_WIRES)
  have T_MOST_ROWS : TopV K mg "MOST_ROWS" (.int 60) := TopV.int (PySem.W.mg_of X G a_MOST_ROWS)
  have T_MOST_LOOKS : TopV K mg "MOST_LOOKS" (.int 6) := TopV.int (PySem.W.mg_of X G a_MOST_LOOKS)
  have F2 := funV_mk (st := s_number) l2 c2 k2
  have F9 := funV_mk (st := s_share) l9 c9 k9
  have F15 := funV_mk (st := s_beginning) l15 c15 k15
  have F35 := funV_mk (st := s_branches) l35 c35 k35
  have F36 := funV_mk (st := s_mark_shares) l36 c36 k36
  have F38 := funV_mk (st := s_marks_told) l38 c38 k38
  have F45 := funV_mk (st := s_law) l45 c45 k45
  have N_parted : Fnm K mg "parted" := D31.fnm X G
  have N_gone_on : Fnm K mg "gone_on" := D32.fnm X G
  refine ⟨PySem.W.fnOf "law" "law" (defArgs s_law) (defBody s_law) (defScope s_law) .none kV45 dc45 pm45 an45 cd45 ct45, fun s v => .of_eq rfl, fun base _ _ => ?_⟩
  have C_twos_shared : Cal l.prog w K mg base "twos_shared" 1 g_twos_shared [] := D0.cal X G bd_twos_shared fun _ _ F => ok_twos_shared F T
  have C_by_root : Cal l.prog w K mg base "by_root" 1 g_by_root [] := D1.cal X G bd_by_root fun _ _ F => ok_by_root F T
  have O2 : FnOk l.prog w K mg base CX0 2 _ _ _ (spD K g_number) := ok_number F2 T C_twos_shared C_by_root
  have C_number : Cal l.prog w K mg base "number" 2 g_number [] := ⟨⟨_, _, _, [], [], O2, PySem.W.mg_of X G a2, k2, F2.bindsK d2 rfl (ps := ["a", "b", "c", "d", "k"]) 5 rfl (fun _ _ _ _ _ _ us hl => by obtain ⟨_, _, _, _, _, rfl⟩ := len5 hl; exact rfl), .nil, fun _ => .nil⟩⟩
  have C_parts_over_ring : Cal l.prog w K mg base "parts_over_ring" 2 g_parts_over_ring [] := D3.cal X G bd_parts_over_ring fun _ _ F => ok_parts_over_ring F T C_by_root
  have C_plus : Cal l.prog w K mg base "plus" 3 g_plus [] := D4.cal X G bd_plus fun _ _ F => ok_plus F T C_parts_over_ring C_number
  have C_times : Cal l.prog w K mg base "times" 3 g_times [] := D5.cal X G bd_times fun _ _ F => ok_times F T C_number
  have C_against : Cal l.prog w K mg base "against" 1 g_against [] := D6.cal X G bd_against fun _ _ F => ok_against F T
  have C_turned : Cal l.prog w K mg base "turned" 1 g_turned [] := D7.cal X G bd_turned fun _ _ F => ok_turned F T
  have C_halved : Cal l.prog w K mg base "halved" 3 g_halved [] := D8.cal X G bd_halved fun _ _ F => ok_halved F T C_number
  have O9 : FnOk l.prog w K mg base CX0 2 _ _ _ (spD K g_share) := ok_share F9 T C_twos_shared
  have C_share : Cal l.prog w K mg base "share" 2 g_share [] := ⟨⟨_, _, _, [], [], O9, PySem.W.mg_of X G a9, k9, F9.bindsK d9 rfl (ps := ["p", "q", "k"]) 3 rfl (fun _ _ _ _ _ _ us hl => by obtain ⟨_, _, _, rfl⟩ := len3 hl; exact rfl), .nil, fun _ => .nil⟩⟩
  have C_parts_over_shares : Cal l.prog w K mg base "parts_over_shares" 1 g_parts_over_shares [] := D10.cal X G bd_parts_over_shares fun _ _ F => ok_parts_over_shares F T
  have C_share_plus : Cal l.prog w K mg base "share_plus" 3 g_share_plus [] := D11.cal X G bd_share_plus fun _ _ F => ok_share_plus F T C_parts_over_shares C_share
  have C_share_times : Cal l.prog w K mg base "share_times" 3 g_share_times [] := D12.cal X G bd_share_times fun _ _ F => ok_share_times F T C_share
  have C_size_of : Cal l.prog w K mg base "size_of" 3 g_size_of [] := D13.cal X G bd_size_of fun _ _ F => ok_size_of F T C_share
  have C_worth : Cal l.prog w K mg base "worth" 1 g_worth [] := D14.cal X G bd_worth fun _ _ F => ok_worth F T
  have O15 : FnOk l.prog w K mg base CX0 1 _ _ _ (spD K g_beginning) := ok_beginning F15 T T_NOUGHT T_ONE
  have C_beginning : Cal l.prog w K mg base "beginning" 1 g_beginning [] := ⟨⟨_, _, _, [], [], O15, PySem.W.mg_of X G a15, k15, F15.bindsK d15 rfl (ps := ["wires", "place"]) 2 rfl (fun _ _ _ _ _ _ us hl => by obtain ⟨_, _, rfl⟩ := len2 hl; exact rfl), .nil, fun _ => .nil⟩⟩
  have C_swung : Cal l.prog w K mg base "swung" 4 g_swung [] := D16.cal X G bd_swung fun _ _ F => ok_swung F T C_halved C_plus C_against
  have C_turned_where : Cal l.prog w K mg base "turned_where" 2 g_turned_where [] := D17.cal X G bd_turned_where fun _ _ F => ok_turned_where F T C_turned
  have C_flipped_where : Cal l.prog w K mg base "flipped_where" 1 g_flipped_where [] := D18.cal X G bd_flipped_where fun _ _ F => ok_flipped_where F T
  have C_exchanged : Cal l.prog w K mg base "exchanged" 1 g_exchanged [] := D19.cal X G bd_exchanged fun _ _ F => ok_exchanged F T
  have C_done : Cal l.prog w K mg base "done" 5 g_done [] := D20.cal X G bd_done fun _ _ F => ok_done F T C_worth C_swung C_turned_where C_flipped_where C_exchanged
  have C_whole : Cal l.prog w K mg base "whole" 4 g_whole [] := D21.cal X G bd_whole fun _ _ F => ok_whole F T C_share_plus C_size_of
  have C_looks_in : Cal l.prog w K mg base "looks_in" 1 g_looks_in [] := D22.cal X G bd_looks_in fun _ _ F => ok_looks_in F T
  have C_counted_on : Cal l.prog w K mg base "counted_on" 9 g_counted_on [] := D23.calR X G bd_counted_on fun _ _ F m k b => okr_counted_on F T m k b 8
  have C_rows_together : Cal l.prog w K mg base "rows_together" 10 g_rows_together [] := D24.cal X G bd_rows_together fun _ _ F => ok_rows_together F T T_MOST_ROWS T_MOST_LOOKS C_looks_in C_counted_on
  have C_side_by_side : Cal l.prog w K mg base "side_by_side" 11 g_side_by_side [] := D25.cal X G bd_side_by_side fun _ _ F => ok_side_by_side F T T_MOST_WIRES C_rows_together
  have C_where_put_off : Cal l.prog w K mg base "where_put_off" 1 g_where_put_off [] := D26.cal X G bd_where_put_off fun _ _ F => ok_where_put_off F T
  have C_rows_put_off : Cal l.prog w K mg base "rows_put_off" 2 g_rows_put_off [] := D27.cal X G bd_rows_put_off fun _ _ F => ok_rows_put_off F T C_where_put_off
  have C_put_off : Cal l.prog w K mg base "put_off" 3 g_put_off [] := D28.cal X G bd_put_off fun _ _ F => ok_put_off F T T_MOST_WIRES T_MOST_ROWS C_looks_in C_rows_put_off
  have C_left_by : Cal l.prog w K mg base "left_by" 1 g_left_by [] := D29.cal X G bd_left_by fun _ _ F => ok_left_by F T T_NOUGHT
  have C_is_nought : Cal l.prog w K mg base "is_nought" 1 g_is_nought [] := D30.cal X G bd_is_nought fun _ _ F => ok_is_nought F T T_NOUGHT
  have V_parted : CalF l.prog w K mg base "parted" 2 g_parted := D31.calF X G bd_parted fun _ _ F => ok_parted F T C_worth C_left_by C_is_nought
  have V_gone_on : CalF l.prog w K mg base "gone_on" 6 g_gone_on := D32.calF X G bd_gone_on fun _ _ F => ok_gone_on F T C_done
  have C_due_gone_on : Cal l.prog w K mg base "due_gone_on" 7 g_due_gone_on [] := D33.cal X G bd_due_gone_on fun _ _ F => ok_due_gone_on F T V_gone_on
  have C_gone_through : Cal l.prog w K mg base "gone_through" 8 g_gone_through [] := D34.cal X G bd_gone_through fun _ _ F => ok_gone_through F T C_due_gone_on V_parted
  have O35 : FnOk l.prog w K mg base CX0 9 _ _ _ (spD K g_branches) := ok_branches F35 T C_gone_through C_beginning N_gone_on N_parted
  have C_branches : Cal l.prog w K mg base "branches" 9 g_branches [] := ⟨⟨_, _, _, [], [], O35, PySem.W.mg_of X G a35, k35, F35.bindsK d35 rfl (ps := ["circuit", "place"]) 2 rfl (fun _ _ _ _ _ _ us hl => by obtain ⟨_, _, rfl⟩ := len2 hl; exact rfl), .nil, fun _ => .nil⟩⟩
  have O36 : FnOk l.prog w K mg base CX0 10 _ _ _ (spD K g_mark_shares) := ok_mark_shares F36 T C_whole C_branches
  have C_mark_shares : Cal l.prog w K mg base "mark_shares" 10 g_mark_shares [] := ⟨⟨_, _, _, [], [], O36, PySem.W.mg_of X G a36, k36, F36.bindsK d36 rfl (ps := ["circuit", "place"]) 2 rfl (fun _ _ _ _ _ _ us hl => by obtain ⟨_, _, rfl⟩ := len2 hl; exact rfl), .nil, fun _ => .nil⟩⟩
  have C_word_of : Cal l.prog w K mg base "word_of" 1 g_word_of [] := D37.cal X G bd_word_of fun _ _ F => ok_word_of F T
  have O38 : FnOk l.prog w K mg base CX0 10 _ _ _ (spD K g_marks_told) := ok_marks_told F38 T C_word_of C_branches C_looks_in
  have C_marks_told : Cal l.prog w K mg base "marks_told" 10 g_marks_told [] := ⟨⟨_, _, _, [], [], O38, PySem.W.mg_of X G a38, k38, F38.bindsK d38 rfl (ps := ["circuit", "place"]) 2 rfl (fun _ _ _ _ _ _ us hl => by obtain ⟨_, _, rfl⟩ := len2 hl; exact rfl), .nil, fun _ => .nil⟩⟩
  have C__law_cell_at : Cal l.prog w K mg base "_law_cell_at" 1 g__law_cell_at [] := D39.cal X G bd__law_cell_at fun _ _ F => ok__law_cell_at F T
  have C__law_row : Cal l.prog w K mg base "_law_row" 1 g__law_row [] := D40.cal X G bd__law_row fun _ _ F => ok__law_row F T
  have C__law_rows : Cal l.prog w K mg base "_law_rows" 2 g__law_rows [] := D41.cal X G bd__law_rows fun _ _ F => ok__law_rows F T C__law_row
  have C__law_looks : Cal l.prog w K mg base "_law_looks" 1 g__law_looks [] := D42.cal X G bd__law_looks fun _ _ F => ok__law_looks F T
  have C__law_products : Cal l.prog w K mg base "_law_products" 4 g__law_products [] := D43.cal X G bd__law_products fun _ _ F => ok__law_products F T C_times
  have C__law_share_products : Cal l.prog w K mg base "_law_share_products" 4 g__law_share_products [] := D44.cal X G bd__law_share_products fun _ _ F => ok__law_share_products F T C_share_times
  have O45 : FnOk l.prog w K mg base CX0 12 _ _ _ (spD K g_law) := ok_law F45 T C__law_cell_at C_side_by_side C_branches C__law_share_products C__law_looks C__law_rows C__law_products C_mark_shares C_marks_told C_put_off
  exact law_v O45 fun ns hl => law_true ns hl

end GN
open PySem PySem.W PyProof.Rows
set_option maxRecDepth 1000000 in
set_option maxHeartbeats 0 in
theorem PySem.Challenge.cw_wavewires_k77_whole_side_by_side_holds : PySem.Challenge.rw_wavewires_k77_whole_side_by_side.Holds := by
  refine topT ?_
  k_fill
  refine VL.walkV (k := 12) (l := PySem.Challenge.rw_wavewires_k77_whole_side_by_side) rfl ⟨rfl, by decide, by decide⟩ rfl (fun w h Y => PySem.W.kIn_of Y) ?F
  case F =>
    intro w mg fa h KX G hmg
    refine' GN.all_mk KX G hmg (VL.DefIn.mk ?a0 ?l0 ?c0 ?k0) (VL.DefIn.mk ?a1 ?l1 ?c1 ?k1) ?a2 ?l2 ?c2 ?k2 ?d2 (VL.DefIn.mk ?a3 ?l3 ?c3 ?k3) (VL.DefIn.mk ?a4 ?l4 ?c4 ?k4) (VL.DefIn.mk ?a5 ?l5 ?c5 ?k5) (VL.DefIn.mk ?a6 ?l6 ?c6 ?k6) (VL.DefIn.mk ?a7 ?l7 ?c7 ?k7) (VL.DefIn.mk ?a8 ?l8 ?c8 ?k8) ?a9 ?l9 ?c9 ?k9 ?d9 (VL.DefIn.mk ?a10 ?l10 ?c10 ?k10) (VL.DefIn.mk ?a11 ?l11 ?c11 ?k11) (VL.DefIn.mk ?a12 ?l12 ?c12 ?k12) (VL.DefIn.mk ?a13 ?l13 ?c13 ?k13) (VL.DefIn.mk ?a14 ?l14 ?c14 ?k14) ?a15 ?l15 ?c15 ?k15 ?d15 (VL.DefIn.mk ?a16 ?l16 ?c16 ?k16) (VL.DefIn.mk ?a17 ?l17 ?c17 ?k17) (VL.DefIn.mk ?a18 ?l18 ?c18 ?k18) (VL.DefIn.mk ?a19 ?l19 ?c19 ?k19) (VL.DefIn.mk ?a20 ?l20 ?c20 ?k20) (VL.DefIn.mk ?a21 ?l21 ?c21 ?k21) (VL.DefIn.mk ?a22 ?l22 ?c22 ?k22) (VL.DefIn.mk ?a23 ?l23 ?c23 ?k23) (VL.DefIn.mk ?a24 ?l24 ?c24 ?k24) (VL.DefIn.mk ?a25 ?l25 ?c25 ?k25) (VL.DefIn.mk ?a26 ?l26 ?c26 ?k26) (VL.DefIn.mk ?a27 ?l27 ?c27 ?k27) (VL.DefIn.mk ?a28 ?l28 ?c28 ?k28) (VL.DefIn.mk ?a29 ?l29 ?c29 ?k29) (VL.DefIn.mk ?a30 ?l30 ?c30 ?k30) (VL.DefIn.mk ?a31 ?l31 ?c31 ?k31) (VL.DefIn.mk ?a32 ?l32 ?c32 ?k32) (VL.DefIn.mk ?a33 ?l33 ?c33 ?k33) (VL.DefIn.mk ?a34 ?l34 ?c34 ?k34) ?a35 ?l35 ?c35 ?k35 ?d35 ?a36 ?l36 ?c36 ?k36 ?d36 (VL.DefIn.mk ?a37 ?l37 ?c37 ?k37) ?a38 ?l38 ?c38 ?k38 ?d38 (VL.DefIn.mk ?a39 ?l39 ?c39 ?k39) (VL.DefIn.mk ?a40 ?l40 ?c40 ?k40) (VL.DefIn.mk ?a41 ?l41 ?c41 ?k41) (VL.DefIn.mk ?a42 ?l42 ?c42 ?k42) (VL.DefIn.mk ?a43 ?l43 ?c43 ?k43) (VL.DefIn.mk ?a44 ?l44 ?c44 ?k44) ?a45 ?l45 ?c45 ?k45 ?z_min ?z_max ?z_tuple ?z_range ?z_len ?z_all ?a_NOUGHT ?d_NOUGHT ?a_ONE ?d_ONE ?a_MOST_WIRES ?a_MOST_ROWS ?a_MOST_LOOKS
    (case a0 => k_is)
    (case l0 => k_is)
    (case c0 => k_is)
    (case k0 => k_is)
    (case a1 => k_is)
    (case l1 => k_is)
    (case c1 => k_is)
    (case k1 => k_is)
    (case a2 => k_is)
    (case l2 => k_is)
    (case c2 => k_is)
    (case k2 => k_is)
    (case d2 => k_is)
    (case a3 => k_is)
    (case l3 => k_is)
    (case c3 => k_is)
    (case k3 => k_is)
    (case a4 => k_is)
    (case l4 => k_is)
    (case c4 => k_is)
    (case k4 => k_is)
    (case a5 => k_is)
    (case l5 => k_is)
    (case c5 => k_is)
    (case k5 => k_is)
    (case a6 => k_is)
    (case l6 => k_is)
    (case c6 => k_is)
    (case k6 => k_is)
    (case a7 => k_is)
    (case l7 => k_is)
    (case c7 => k_is)
    (case k7 => k_is)
    (case a8 => k_is)
    (case l8 => k_is)
    (case c8 => k_is)
    (case k8 => k_is)
    (case a9 => k_is)
    (case l9 => k_is)
    (case c9 => k_is)
    (case k9 => k_is)
    (case d9 => k_is)
    (case a10 => k_is)
    (case l10 => k_is)
    (case c10 => k_is)
    (case k10 => k_is)
    (case a11 => k_is)
    (case l11 => k_is)
    (case c11 => k_is)
    (case k11 => k_is)
    (case a12 => k_is)
    (case l12 => k_is)
    (case c12 => k_is)
    (case k12 => k_is)
    (case a13 => k_is)
    (case l13 => k_is)
    (case c13 => k_is)
    (case k13 => k_is)
    (case a14 => k_is)
    (case l14 => k_is)
    (case c14 => k_is)
    (case k14 => k_is)
    (case a15 => k_is)
    (case l15 => k_is)
    (case c15 => k_is)
    (case k15 => k_is)
    (case d15 => k_is)
    (case a16 => k_is)
    (case l16 => k_is)
    (case c16 => k_is)
    (case k16 => k_is)
    (case a17 => k_is)
    (case l17 => k_is)
    (case c17 => k_is)
    (case k17 => k_is)
    (case a18 => k_is)
    (case l18 => k_is)
    (case c18 => k_is)
    (case k18 => k_is)
    (case a19 => k_is)
    (case l19 => k_is)
    (case c19 => k_is)
    (case k19 => k_is)
    (case a20 => k_is)
    (case l20 => k_is)
    (case c20 => k_is)
    (case k20 => k_is)
    (case a21 => k_is)
    (case l21 => k_is)
    (case c21 => k_is)
    (case k21 => k_is)
    (case a22 => k_is)
    (case l22 => k_is)
    (case c22 => k_is)
    (case k22 => k_is)
    (case a23 => k_is)
    (case l23 => k_is)
    (case c23 => k_is)
    (case k23 => k_is)
    (case a24 => k_is)
    (case l24 => k_is)
    (case c24 => k_is)
    (case k24 => k_is)
    (case a25 => k_is)
    (case l25 => k_is)
    (case c25 => k_is)
    (case k25 => k_is)
    (case a26 => k_is)
    (case l26 => k_is)
    (case c26 => k_is)
    (case k26 => k_is)
    (case a27 => k_is)
    (case l27 => k_is)
    (case c27 => k_is)
    (case k27 => k_is)
    (case a28 => k_is)
    (case l28 => k_is)
    (case c28 => k_is)
    (case k28 => k_is)
    (case a29 => k_is)
    (case l29 => k_is)
    (case c29 => k_is)
    (case k29 => k_is)
    (case a30 => k_is)
    (case l30 => k_is)
    (case c30 => k_is)
    (case k30 => k_is)
    (case a31 => k_is)
    (case l31 => k_is)
    (case c31 => k_is)
    (case k31 => k_is)
    (case a32 => k_is)
    (case l32 => k_is)
    (case c32 => k_is)
    (case k32 => k_is)
    (case a33 => k_is)
    (case l33 => k_is)
    (case c33 => k_is)
    (case k33 => k_is)
    (case a34 => k_is)
    (case l34 => k_is)
    (case c34 => k_is)
    (case k34 => k_is)
    (case a35 => k_is)
    (case l35 => k_is)
    (case c35 => k_is)
    (case k35 => k_is)
    (case d35 => k_is)
    (case a36 => k_is)
    (case l36 => k_is)
    (case c36 => k_is)
    (case k36 => k_is)
    (case d36 => k_is)
    (case a37 => k_is)
    (case l37 => k_is)
    (case c37 => k_is)
    (case k37 => k_is)
    (case a38 => k_is)
    (case l38 => k_is)
    (case c38 => k_is)
    (case k38 => k_is)
    (case d38 => k_is)
    (case a39 => k_is)
    (case l39 => k_is)
    (case c39 => k_is)
    (case k39 => k_is)
    (case a40 => k_is)
    (case l40 => k_is)
    (case c40 => k_is)
    (case k40 => k_is)
    (case a41 => k_is)
    (case l41 => k_is)
    (case c41 => k_is)
    (case k41 => k_is)
    (case a42 => k_is)
    (case l42 => k_is)
    (case c42 => k_is)
    (case k42 => k_is)
    (case a43 => k_is)
    (case l43 => k_is)
    (case c43 => k_is)
    (case k43 => k_is)
    (case a44 => k_is)
    (case l44 => k_is)
    (case c44 => k_is)
    (case k44 => k_is)
    (case a45 => k_is)
    (case l45 => k_is)
    (case c45 => k_is)
    (case k45 => k_is)
    (case z_min => k_is)
    (case z_max => k_is)
    (case z_tuple => k_is)
    (case z_range => k_is)
    (case z_len => k_is)
    (case z_all => k_is)
    (case a_NOUGHT => k_is)
    (case d_NOUGHT => k_is)
    (case a_ONE => k_is)
    (case d_ONE => k_is)
    (case a_MOST_WIRES => k_is)
    (case a_MOST_ROWS => k_is)
    (case a_MOST_LOOKS => k_is)
