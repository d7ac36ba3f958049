import PyProof.Rows.All
import Wide.All
import OpenK.AllK
import Wide.FinOn
import Lean
import PyProof.EqAt
import PyProof.EqKinds
import PyProof.TupleCall
import PySem.Challenge.RW_wavewires_k62_steps_that_fit
section TopS
set_option Elab.async false
set_option linter.all false
open PySem PySem.W PyProof.Rows
def viewQ : Program := view PySem.Challenge.rw_wavewires_k62_steps_that_fit.prog [1, 3, 4, 5, 6, 8, 9, 10, 11, 12, 14, 15, 16, 17, 18, 19, 20, 21, 22, 23, 24, 25, 26, 27, 28, 29]
local macro_rules
  | `(tactic| o_head $H) => do
    let hw := Lean.mkIdent `hw
    let hc := Lean.mkIdent `hc
    `(tactic| refine holds_open (q := viewQ) (loose := ["lets_by"]) (Xt := fun s => xlAt viewQ [] s && recOk (RowW.records (OpenRow.toRowW PySem.Challenge.rw_wavewires_k62_steps_that_fit.row)) s) (XP := XL viewQ []) (Yf := Hook.obs $H) (Ya := Hook.val $H) (YP := Hook.says $H) (N := 6000) (fun w => by (unfold openEnds fencedOpening topFrom; rw [Fast.te10274390034422433532, Fast.te14082659384304107361, Fast.te1435165496053646825, Fast.te14289696077712309145, Fast.te14364793385576792824, Fast.te4187177175401517315, Fast.te5923862056798008813]; kernel_rfl)) (Hook.of $H) (Hook.keeps $H) (fun s e => xl_of s (Bool.and_eq_true_iff.mp e).1) XL.keeps (by rfl) (by rfl) (by rfl) (fun s e => recFacts_of (Bool.and_eq_true_iff.mp e).2) (by rfl) (by first | assumption | decide +kernel) (by decide +kernel) ⟨rfl, rfl, rfl, rfl, rfl, by decide +kernel⟩ ?$hw ?$hc)
set_option maxRecDepth 1000000 in
set_option maxHeartbeats 0 in
open_top topT for PySem.Challenge.rw_wavewires_k62_steps_that_fit
end TopS

set_option Elab.async false
set_option linter.all false
set_option maxRecDepth 100000
/-! THE HAND LAYER, for ints, bools, texts, own classes, LISTS and tuples (index, slices, in, append, pop ..), calls, loops. Paste it whole ahead of your own text; what your proof does not reach may be deleted. -/
namespace L2
open PySem PySem.Spec PyProof.Rows

/-- a key: an int or a str -/
abbrev Key := Sum Int Str
def keyIs : Key → Value → Bool
  | .inl k, v => Value.isInt k v
  | .inr x, v => Value.isStrOf x v
def keyH (w : World) : Key → Int
  | .inl k => hashInt k
  | .inr x => hashStr w x
theorem keyIs_shape : ∀ {k : Key} {v : Value}, keyIs k v = true → (∃ i t, k = Sum.inl i ∧ v = Value.int i t) ∨ (∃ x t, k = Sum.inr x ∧ v = Value.str x t)
  | .inl i, v, h => by
    obtain ⟨t, e⟩ := Value.isInt_shape (k := i) (v := v) h
    exact .inl ⟨i, t, rfl, e⟩
  | .inr x, v, h => by
    obtain ⟨t, e⟩ := Value.isStrOf_shape (x := x) (v := v) h
    exact .inr ⟨x, t, rfl, e⟩
theorem keyIs_int (i : Int) (t : Tok) : keyIs (.inl i) (.int i t) = true := by simp [keyIs, Value.isInt]
theorem keyIs_str (x : Str) (t : Tok) : keyIs (.inr x) (.str x t) = true := by simp [keyIs, Value.isStrOf]
theorem key_ll (a b : Int) : decide ((Sum.inl a : Key) = Sum.inl b) = (a == b) := by
  by_cases e : a = b
  · subst e; simp
  · have h : ¬ (Sum.inl a : Key) = Sum.inl b := fun q => e (Sum.inl.inj q)
    rw [decide_eq_false h]
    exact (beq_eq_false_iff_ne.mpr e).symm
theorem key_rr (a b : Str) : decide ((Sum.inr a : Key) = Sum.inr b) = decide (a = b) := by
  by_cases e : a = b
  · subst e; simp
  · have h : ¬ (Sum.inr a : Key) = Sum.inr b := fun q => e (Sum.inr.inj q)
    rw [decide_eq_false h, decide_eq_false e]
theorem key_lr (a : Int) (b : Str) : decide ((Sum.inl a : Key) = Sum.inr b) = false := decide_eq_false (fun q => nomatch q)
theorem key_rl (a : Str) (b : Int) : decide ((Sum.inr a : Key) = Sum.inl b) = false := decide_eq_false (fun q => nomatch q)

def mixKind (prog : Program) (w : World) : PySem.KeyKind prog w Key where
  is := keyIs
  hash := keyH w
  inj := fun v a b ha hb => by
    rcases keyIs_shape ha with ⟨i, t, rfl, rfl⟩ | ⟨x, t, rfl, rfl⟩
    · rcases keyIs_shape hb with ⟨j, u, rfl, e⟩ | ⟨y, u, rfl, e⟩
      · injection e with e1 _; rw [e1]
      · exact nomatch e
    · rcases keyIs_shape hb with ⟨j, u, rfl, e⟩ | ⟨y, u, rfl, e⟩
      · exact nomatch e
      · injection e with e1 _; rw [e1]
  byValue := fun k v h => by
    rcases keyIs_shape h with ⟨i, t, rfl, rfl⟩ | ⟨x, t, rfl, rfl⟩ <;> rfl
  pyHash := fun hv h => by
    rcases keyIs_shape hv with ⟨i, t, rfl, rfl⟩ | ⟨x, t, rfl, rfl⟩
    · exact wpAny_pyHash_int h
    · exact wpAny_pyHash_str h
  eqBool := fun hu hv h => by
    rcases keyIs_shape hu with ⟨i, t, rfl, rfl⟩ | ⟨x, t, rfl, rfl⟩
    · rcases keyIs_shape hv with ⟨j, u, rfl, rfl⟩ | ⟨y, u, rfl, rfl⟩
      · rw [key_ll] at h; exact wpAny_eqBool_int h
      · rw [key_lr] at h; exact SeqAt.EqAt.int_str i t y u _ _ _ _ h
    · rcases keyIs_shape hv with ⟨j, u, rfl, rfl⟩ | ⟨y, u, rfl, rfl⟩
      · rw [key_rl] at h; exact SeqAt.EqAt.str_int x t j u _ _ _ _ h
      · rw [key_rr] at h; exact wpAny_eqBool_str h
  «strs» := fun k x t v h => by
    rcases keyIs_shape h with ⟨i, u, rfl, e⟩ | ⟨y, u, rfl, e⟩
    · exact nomatch e
    · injection e with e1 _
      subst e1
      cases v <;> rfl

theorem mixKind_int (prog : Program) (w : World) (i : Int) (t : Tok) : (mixKind prog w).is (.inl i) (.int i t) = true := keyIs_int i t
theorem mixKind_str (prog : Program) (w : World) (x : Str) (t : Tok) : (mixKind prog w).is (.inr x) (.str x t) = true := keyIs_str x t
end L2

namespace L2
open PySem PySem.Spec PyProof.Rows

/-- a value, without the heap -/
inductive V where
  | non | bl (b : Bool) | int (i : Int) | str (x : Str) | byt (b : Array UInt8) | flt (b : UInt64) | ref (a : Addr) | ty (n : String)
  deriving DecidableEq

def RelV : V → Value → Prop
  | .non, u => u = Value.none
  | .bl b, u => u = Value.bool b
  | .int i, u => ∃ t, u = Value.int i t
  | .str x, u => ∃ t, u = Value.str x t
  | .byt b, u => ∃ t, u = Value.bytes b t
  | .flt b, u => ∃ t, u = Value.float b t
  | .ref a, u => u = Value.ref a
  | .ty n, u => u = Value.type n

abbrev Vals : List V → List Value → Prop := Paired RelV
theorem Vals.length {xs : List V} {us : List Value} (r : Vals xs us) : xs.length = us.length := Paired.length r
theorem Vals.get : ∀ {xs : List V} {us : List Value} {i : Nat} {x : V}, Vals xs us → xs[i]? = some x → ∃ u, us[i]? = some u ∧ RelV x u
  | _, _, _, _, .nil, e => by simp at e
  | _, _, 0, _, .cons r _, e => by simp at e; subst e; exact ⟨_, rfl, r⟩
  | _, _, i + 1, x, .cons _ t, e => by
    obtain ⟨u, h1, h2⟩ := Vals.get (i := i) (x := x) t (by simpa using e)
    exact ⟨u, by simpa using h1, h2⟩
theorem Vals.append : ∀ {xs ys : List V} {us ws : List Value}, Vals xs us → Vals ys ws → Vals (xs ++ ys) (us ++ ws)
  | _, _, _, _, .nil, s => s
  | _, _, _, _, .cons r t, s => .cons r (Vals.append t s)
theorem Vals.take : ∀ {xs : List V} {us : List Value} (n : Nat), Vals xs us → Vals (xs.take n) (us.take n)
  | _, _, 0, _ => .nil
  | _, _, _ + 1, .nil => .nil
  | _, _, n + 1, .cons r t => .cons r (Vals.take n t)
theorem Vals.drop : ∀ {xs : List V} {us : List Value} (n : Nat), Vals xs us → Vals (xs.drop n) (us.drop n)
  | _, _, 0, r => r
  | _, _, _ + 1, .nil => .nil
  | _, _, n + 1, .cons _ t => Vals.drop n t
def RelO : Option V → Option Value → Prop
  | some v, some u => RelV v u
  | none, none => True
  | _, _ => False
def KV {κ : Type} : List (κ × V) → List (κ × Value) → Prop := Paired fun (p : κ × V) (q : κ × Value) => p.1 = q.1 ∧ RelV p.2 q.2

/-- a key of a dict (00_mix): an int or a text -/
def kV : Key → V
  | .inl i => .int i
  | .inr x => .str x

/-- what stands at a tracked address -/
inductive HO where
  /-- a list -/
  | lst (xs : List V)
  /-- a tuple (never changes) -/
  | tup (xs : List V)
  /-- a dict whose keys are ints and texts; one whose keys are tuples of ints and texts (the empty one is both) -/
  | dK (kvs : List (Key × V)) | dT (kvs : List (List Key × V))
  /-- a set of ints: its members, its size -/
  | set (S : Int → Bool) (n : Nat)
  /-- an instance of the class at C, its dict at dx, its attributes -/
  | ins (C dx : Addr) (fs : List (Str × V))
  /-- the dict of the instance at x -/
  | own (x : Addr)
  /-- the dict of an exception -/
  | xd (fs : List (Str × V))
  /-- a bound method, f of x -/
  | met (f x : Addr)
  /-- a range object lo, lo + 1, .. below hi -/
  | rng (lo hi : Int)
  /-- a thing that is known to the object (the script; a dict while a loop walks it): read, never written while it is so -/
  | frz (o : Obj) (u : HO)
  /-- a code object's table -/
  | tbl (ps : Array Value)
  /-- any other thing, by what is true of its one object (a def of one's own: SetO a S n := HO.ext fun h => ..) -/
  | ext (φ : Heap → Prop)

abbrev Hp := Addr → Option HO
def upd (H : Hp) (a : Addr) (o : HO) : Hp := fun b => if b = a then some o else H b
theorem upd_same {H : Hp} {a : Addr} {o : HO} : upd H a o a = some o := by unfold upd; rw [if_pos rfl]
theorem upd_ne {H : Hp} {a b : Addr} {o : HO} (h : b ≠ a) : upd H a o b = H b := by unfold upd; rw [if_neg h]
theorem ne_of_none {H : Hp} {a b : Addr} {o : HO} (h : H a = some o) (h' : H b = none) : a ≠ b := by
  intro e; subst e; rw [h] at h'; cases h'

section
variable (P : Program) (w : World)
/-- an object without a namespace of its own -/
def NoDi (h : Heap) (a : Addr) : Prop := ∃ o, h.get? a = some o ∧ o.dict = none
theorem NoDi.new (h : Heap) (o : Obj) (e : o.dict = none := by rfl) (f : o.isFreed = false := by rfl) : NoDi (h.push o) h.objs.size := ⟨o, Heap.get?_push_size h f, e⟩
def ObjOk (H : Hp) (h : Heap) (a : Addr) : HO → Prop
  | .lst xs => xs.length ≤ sizeLine ∧ ∃ (its : List Value) (n : Nat), Vals xs its ∧ h.get? a = some { cls := .type "list", data := .seq its.toArray n }
  | .tup xs => xs.length ≤ sizeLine ∧ ∃ its : List Value, Vals xs its ∧ IsTup h a its.toArray ∧ NoDi h a
  | .dK kvs => kvs.length ≤ sizeLine ∧ (a == sysModules) = false ∧ ∃ vs, KV kvs vs ∧ h.DictOf (mixKind P w) a vs
  | .dT kvs => kvs.length ≤ sizeLine ∧ (a == sysModules) = false ∧ ∃ xs : List (List Key × Addr × Value),
      Paired (fun (p : List Key × V) (q : List Key × Addr × Value) => p.1 = q.1 ∧ H q.2.1 = some (.tup (p.1.map kV)) ∧ RelV p.2 q.2.2) kvs xs ∧
      ∃ o es ep, h.get? a = some o ∧ o.ExactDict ∧ o.data = .dict es ep ∧ es.toList = xs.map (entryOfKey (tupleKind (mixKind P w))) ∧ (xs.map (·.1)).Nodup
  | .set S n => h.SetOf (intKind P w) a S n
  | .ins C dx fs => H dx = some (.own a) ∧ fs.length ≤ 1000 ∧ dx ≠ a ∧ h.get? a = some (PySem.W.instObj C dx) ∧
      ∃ mA, h.Ns1 dx mA ∧ (∀ f, RelO (fs.lookup f) (mA f)) ∧ PySem.Within mA (fs.map (·.1))
  | .own _ => ∃ o, h.get? a = some o
  | .xd fs => ∃ mA, h.Ns1 a mA ∧ ∀ f, RelO (fs.lookup f) (mA f)
  | .rng lo hi => ∃ t u v, h.get? a = some { cls := .type "range", data := .fields #[.int lo t, .int hi u, .int 1 v] }
  | .frz o u => h.get? a = some o ∧ ObjOk H h a u
  | .tbl ps => h.get? a = some { cls := .none, data := .fields ps }
  | .met f x => h.get? a = some (PySem.W.methodObj (.ref f) (.ref x))
  | .ext φ => φ h ∧ (∃ o, h.get? a = some o) ∧ ∀ h1 h2 : Heap, φ h1 → (∀ o, h1.get? a = some o → h2.get? a = some o) → φ h2
/-- the abstract heap is held -/
def HOk (H : Hp) (h : Heap) : Prop := ∀ a o, H a = some o → ObjOk P w H h a o
end

section
variable {P : Program} {w : World} {H H' : Hp} {h h' : Heap} {a : Addr} {o : HO}
theorem ObjOk.lt (x : ObjOk P w H h a o) : a < h.objs.size := by
  cases o with
  | lst xs => obtain ⟨_, _, _, _, e⟩ := x; exact Heap.lt_size e
  | tup xs => obtain ⟨_, _, _, p⟩ := x; exact p.1.lt
  | dK kvs => obtain ⟨_, _, _, _, o, _, _, e, _⟩ := x; exact Heap.lt_size e
  | dT kvs => obtain ⟨_, _, _, _, o, _, _, e, _⟩ := x; exact Heap.lt_size e
  | set S n => obtain ⟨o, _, _, _, e, _⟩ := x; exact Heap.lt_size e
  | ins C dx fs => obtain ⟨_, _, _, e, _⟩ := x; exact Heap.lt_size e
  | own y => obtain ⟨_, e⟩ := x; exact Heap.lt_size e
  | xd fs => obtain ⟨_, ⟨_, _, _, e, _⟩, _⟩ := x; exact Heap.lt_size e
  | rng lo hi => obtain ⟨_, _, _, e⟩ := x; exact Heap.lt_size e
  | frz ob u => obtain ⟨e, _⟩ := x; exact Heap.lt_size e
  | tbl ps => exact Heap.lt_size (show h.get? a = some _ from x)
  | met f y => exact Heap.lt_size (show h.get? a = some _ from x)
  | ext φ => obtain ⟨_, ⟨_, e⟩, _⟩ := x; exact Heap.lt_size e
theorem Paired.mapP {α β : Type} {F G : α → β → Prop} : ∀ {l₁ : List α} {l₂ : List β}, Paired F l₁ l₂ → (∀ a b, F a b → G a b) → Paired G l₁ l₂
  | _, _, .nil, _ => .nil
  | _, _, .cons r t, f => .cons (f _ _ r) (Paired.mapP t f)
/-- what an object's description leans on: its own object, its own dict, the tuples -/
theorem ObjOk.stay (x : ObjOk P w H h a o) (k : ∀ b u, (b = a ∨ H b = some (.own a)) → h.get? b = some u → h'.get? b = some u)
    (ho : ∀ b, H b = some (.own a) → H' b = some (.own a)) (ht : ∀ b xs, H b = some (.tup xs) → H' b = some (.tup xs)) : ObjOk P w H' h' a o := by
  induction o with
  | lst xs => obtain ⟨z, its, n, r, e⟩ := x; exact ⟨z, its, n, r, k _ _ (.inl rfl) e⟩
  | tup xs => obtain ⟨z, its, r, ⟨ob, e, c⟩, od, e', c'⟩ := x; exact ⟨z, its, r, ⟨ob, k _ _ (.inl rfl) e, c⟩, od, k _ _ (.inl rfl) e', c'⟩
  | dK kvs => obtain ⟨z, y, vs, r, ob, es, ep, e, c⟩ := x; exact ⟨z, y, vs, r, ob, es, ep, k _ _ (.inl rfl) e, c⟩
  | dT kvs =>
    obtain ⟨z, y, xs, r, ob, es, ep, e, c⟩ := x
    exact ⟨z, y, xs, Paired.mapP r fun p q z => ⟨z.1, ht _ _ z.2.1, z.2.2⟩, ob, es, ep, k _ _ (.inl rfl) e, c⟩
  | set S n => obtain ⟨ob, es, ep, t, e, c⟩ := x; exact ⟨ob, es, ep, t, k _ _ (.inl rfl) e, c⟩
  | ins C dx fs =>
    obtain ⟨d, z, ne, e, mA, ⟨od, es, ep, e2, c⟩, r⟩ := x
    exact ⟨ho _ d, z, ne, k _ _ (.inl rfl) e, mA, ⟨od, es, ep, k _ _ (.inr d) e2, c⟩, r⟩
  | own y => obtain ⟨ob, e⟩ := x; exact ⟨ob, k _ _ (.inl rfl) e⟩
  | xd fs => obtain ⟨mA, ⟨od, es, ep, e, c⟩, r⟩ := x; exact ⟨mA, ⟨od, es, ep, k _ _ (.inl rfl) e, c⟩, r⟩
  | rng lo hi => obtain ⟨t, u, v, e⟩ := x; exact ⟨t, u, v, k _ _ (.inl rfl) e⟩
  | frz ob u ih => obtain ⟨e, q⟩ := x; exact ⟨k _ _ (.inl rfl) e, ih q⟩
  | tbl ps =>
    have e : h.get? a = some { cls := .none, data := .fields ps } := x
    show h'.get? a = some { cls := .none, data := .fields ps }
    exact k a _ (.inl rfl) e
  | met f y =>
    have e : h.get? a = some (PySem.W.methodObj (.ref f) (.ref y)) := x
    show h'.get? a = some (PySem.W.methodObj (.ref f) (.ref y))
    exact k a _ (.inl rfl) e
  | ext φ => obtain ⟨p, ⟨o, e⟩, st⟩ := x; exact ⟨st _ _ p fun o q => k _ _ (.inl rfl) q, ⟨o, k _ _ (.inl rfl) e⟩, st⟩
theorem HOk.lt (x : HOk P w H h) (e : H a = some o) : a < h.objs.size := (x a o e).lt
theorem HOk.fresh (x : HOk P w H h) (e : h.objs.size ≤ a) : H a = none := by
  cases q : H a with
  | none => rfl
  | some u => exact absurd (Nat.lt_of_lt_of_le (x.lt q) e) (Nat.lt_irrefl _)
/-- every object of the heap is kept -/
theorem HOk.kept (x : HOk P w H h) (k : ∀ b u, h.get? b = some u → h'.get? b = some u) : HOk P w H h' := fun a o e =>
  (x a o e).stay (fun b u _ q => k b u q) (fun _ q => q) fun _ _ q => q
/-- a new object is laid and tracked -/
theorem HOk.laid (x : HOk P w H h) (k : ∀ b u, h.get? b = some u → h'.get? b = some u) (hp : h.objs.size ≤ a) (new : ObjOk P w (upd H a o) h' a o) : HOk P w (upd H a o) h' := fun b u e => by
  have hn := x.fresh hp
  by_cases hb : b = a
  · subst hb; rw [upd_same] at e; cases e; exact new
  · rw [upd_ne hb] at e
    exact (x b u e).stay (fun c v _ q => k c v q) (fun c q => by rw [upd_ne (ne_of_none q hn)]; exact q) fun c xs q => by rw [upd_ne (ne_of_none q hn)]; exact q
end

/-- what may be read as u: it is u, or a known u -/
def Rd (H : Hp) (a : Addr) (u : HO) : Prop := H a = some u ∨ ∃ o, H a = some (.frz o u)
theorem Rd.ok {P : Program} {w : World} {H : Hp} {h : Heap} {a : Addr} {u : HO} (r : Rd H a u) (x : HOk P w H h) : ObjOk P w H h a u := by
  rcases r with r | ⟨o, r⟩
  · exact x a u r
  · obtain ⟨_, q⟩ := x a _ r
    exact q
/-- what may be written -/
def Mut : Option HO → Prop
  | some (.lst _) => True
  | some (.dK _) => True
  | some (.dT _) => True
  | some (.set _ _) => True
  | some (.ins _ _ _) => True
  | some (.ext _) => True
  | _ => False
section
variable {P : Program} {w : World} {H : Hp} {h h' : Heap} {x e : Addr} {o' : HO}
/-- the object at e is changed: x itself, or the dict of the instance x -/
theorem HOk.write (ok : HOk P w H h) (mu : Mut (H x)) (he : e = x ∨ H e = some (.own x)) (k : ∀ b u, b ≠ e → h.get? b = some u → h'.get? b = some u) (heo : ∃ u, h'.get? e = some u)
    (new : ObjOk P w (upd H x o') h' x o') : HOk P w (upd H x o') h' := fun b u q => by
  have nown : ∀ c y, H c = some (.own y) → c ≠ x := fun c y r z => by subst z; rw [r] at mu; exact mu
  have ntup : ∀ c xs, H c = some (.tup xs) → c ≠ x := fun c xs r z => by subst z; rw [r] at mu; exact mu
  by_cases hb : b = x
  · subst hb; rw [upd_same] at q; cases q; exact new
  · rw [upd_ne hb] at q
    by_cases hbe : b = e
    · have q' : H b = some (.own x) := by
        rcases he with z | z
        · exact absurd (hbe.trans z) hb
        · rw [hbe]; exact z
      rw [q] at q'; cases q'
      obtain ⟨v, hv⟩ := heo
      exact ⟨v, by rw [hbe]; exact hv⟩
    · refine (ok b u q).stay (fun c v hc r => k c v ?_ r) (fun c r => by rw [upd_ne (nown c b r)]; exact r) fun c xs r => by rw [upd_ne (ntup c xs r)]; exact r
      rcases hc with rfl | hc
      · exact hbe
      · rintro rfl
        rcases he with z | z
        · exact nown c b hc z
        · rw [hc] at z; cases z; exact hb rfl
end

/-! ### kept unless tracked; of the frames at fs (the callers') the slots may change (an exception that passes writes there); of the records at ex (iterators) nothing is said -/
structure Un (fs ex : List Addr) (H H' : Hp) (h h' : Heap) : Prop where
  keep : ∀ b o, h.get? b = some o → H b = none → b ∉ fs → b ∉ ex → h'.get? b = some o
  slot : ∀ b o, h.get? b = some o → H b = none → b ∈ fs → b ∉ ex → ∃ sl, h'.get? b = some { o with slots := sl }
  free : ∀ b o, h.get? b = some o → H b = none → b ∉ ex → H' b = none
  there : ∀ b o, h.get? b = some o → b ∉ ex → ∃ o', h'.get? b = some o'
  tups : ∀ b xs, H b = some (.tup xs) → H' b = some (.tup xs)
  frzs : ∀ b o u, H b = some (.frz o u) → H' b = some (.frz o u)
  tbls : ∀ b ps, H b = some (.tbl ps) → ∃ more, H' b = some (.tbl (ps ++ more))
section
variable {fs fs' ex ex' : List Addr} {H H1 H2 : Hp} {h h1 h2 h' : Heap} {a x e : Addr} {o : HO}
theorem Un.any (u : Un fs ex H H1 h h1) {b : Addr} {ob : Obj} (q : h.get? b = some ob) (n : H b = none) (hx : b ∉ ex) : ∃ sl, h1.get? b = some { ob with slots := sl } := by
  by_cases hb : b ∈ fs
  · exact u.slot b ob q n hb hx
  · exact ⟨ob.slots, u.keep b ob q n hb hx⟩
theorem Un.kept (k : ∀ b u, h.get? b = some u → h'.get? b = some u) : Un fs ex H H h h' :=
  ⟨fun b ob q _ _ _ => k b ob q, fun b ob q _ _ _ => ⟨ob.slots, k b ob q⟩, fun _ _ _ n _ => n, fun b ob q _ => ⟨ob, k b ob q⟩, fun _ _ q => q, fun _ _ _ q => q, fun _ ps q => ⟨#[], by rw [q]; simp⟩⟩
theorem Un.refl : Un fs ex H H h h := Un.kept fun _ _ q => q
theorem Un.laid (k : ∀ b u, h.get? b = some u → h'.get? b = some u) (hp : h.objs.size ≤ a) (hn : H a = none) : Un fs ex H (upd H a o) h h' where
  keep := fun b u q _ _ _ => k b u q
  slot := fun b u q _ _ _ => ⟨u.slots, k b u q⟩
  free := fun b u q n _ => by rw [upd_ne (Nat.ne_of_lt (Nat.lt_of_lt_of_le (Heap.lt_size q) hp))]; exact n
  there := fun b u q _ => ⟨u, k b u q⟩
  tups := fun b xs q => by rw [upd_ne (ne_of_none q hn)]; exact q
  frzs := fun b u xs q => by rw [upd_ne (ne_of_none q hn)]; exact q
  tbls := fun b ps q => ⟨#[], by rw [upd_ne (ne_of_none q hn), q]; simp⟩
theorem Un.write (mu : Mut (H x)) (he : e = x ∨ H e = some (.own x)) (k : ∀ b u, b ≠ e → h.get? b = some u → h'.get? b = some u) (heo : ∃ u, h'.get? e = some u) : Un fs ex H (upd H x o) h h' := by
  have hx : ∀ b, H b = none → b ≠ x := fun b n z => by subst z; rw [n] at mu; exact mu
  have hb : ∀ b, H b = none → b ≠ e := fun b n z => by
    subst z
    rcases he with r | r
    · exact hx b n r
    · rw [n] at r; cases r
  have hm : ∀ b u, H b = some u → ¬ Mut (some u) → b ≠ x := fun b u q nm z => by subst z; rw [q] at mu; exact nm mu
  refine ⟨fun b u q n _ _ => k b u (hb b n) q, fun b u q n _ _ => ⟨u.slots, k b u (hb b n) q⟩, fun b u q n _ => by rw [upd_ne (hx b n)]; exact n, fun b u q _ => ?_,
    fun b xs q => by rw [upd_ne (hm b _ q fun z => z)]; exact q, fun b u xs q => by rw [upd_ne (hm b _ q fun z => z)]; exact q, fun b ps q => ⟨#[], by rw [upd_ne (hm b _ q fun z => z), q]; simp⟩⟩
  by_cases hbe : b = e
  · subst hbe; exact heo
  · exact ⟨u, k b u hbe q⟩
end

/-! ### the heap without what is tracked -/
def trk (h : Heap) (H : Hp) : List Addr := (List.range h.objs.size).filter fun a => (H a).isSome
def hidT (h : Heap) (H : Hp) : Heap := PySem.W.hideAll h (trk h H)
theorem hidT_size (h : Heap) (H : Hp) : (hidT h H).objs.size = h.objs.size := PySem.W.hideAll_size _ _
theorem hidT_get {h : Heap} {H : Hp} {b : Addr} {o : Obj} (e : h.get? b = some o) (n : H b = none) : (hidT h H).get? b = some o :=
  PySem.W.hideAll_get _ e fun hm => by
    have q : (H b).isSome = true := (List.mem_filter.mp hm).2
    rw [n] at q; simp at q
theorem of_hidT {h : Heap} {H : Hp} {b : Addr} {o : Obj} (e : (hidT h H).get? b = some o) : h.get? b = some o ∧ H b = none := by
  have e' : h.get? b = some o := PySem.W.of_hideAll (trk h H) e
  refine ⟨e', ?_⟩
  cases q : H b with
  | none => rfl
  | some x =>
    have hm : b ∈ trk h H := List.mem_filter.mpr ⟨List.mem_range.mpr (Heap.lt_size e'), by simp [q]⟩
    have z : (hidT h H).get? b = none := PySem.W.hideAll_none (trk h H) hm
    rw [z] at e; cases e

/-! ### OpenK's ledger, filled with every new object but one -/
def allNews (g h : Heap) (L : Addr) : List (Addr × Obj) := (List.range h.objs.size).filterMap fun a => if a = L ∨ (g.get? a).isSome = true then none else (h.get? a).map fun o => (a, o)
theorem mem_allNews {g h : Heap} {L a : Addr} {o : Obj} (h1 : a ≠ L) (h2 : g.get? a = none) (h3 : h.get? a = some o) : (a, o) ∈ allNews g h L :=
  List.mem_filterMap.mpr ⟨a, List.mem_range.mpr (Heap.lt_size h3), by simp [h1, h2, h3]⟩
def rest (g h : Heap) (L d : Addr) : List (Addr × Obj) := (allNews g h L).filter fun p => decide (p.1 ≠ d)
theorem mem_rest {g h : Heap} {L d a : Addr} {o : Obj} (h1 : a ≠ L) (h2 : g.get? a = none) (h3 : h.get? a = some o) (h4 : a ≠ d) : (a, o) ∈ rest g h L d :=
  List.mem_filter.mpr ⟨mem_allNews h1 h2 h3, decide_eq_true h4⟩
end L2

namespace L2
open PySem PySem.Spec PyProof.Rows

/-- the module's facts, over the base: the heap at the law's entry without what is tracked there -/
structure Mod (K : PySem.W.Frag) (mg : Str → Option Value) (base : Heap) : Prop where
  kin : K.In base
  glob : base.Ns mainGlobals mg
  blt : ∃ mb, base.Ns builtinsNs mb ∧ ∀ x : Str, x ≠ "__name__" → mb x = bootBuiltins x
  nolimit : base.NoLimit

/-- the context: a def's body (or a comprehension's block) running. base: fixed through the whole law; s₀, H₀: the entry; outer: the frames whose slots others may change (a def's callers); stack: all frames that run;
   ex: iterators that were made ahead of the entry and are walked here (a comprehension's); fn: the names whose cells were made at the entry (a def: all; a comprehension's block: its own); calm: not within an except suite; pn: pins that every state bears; xe: what is wanted of an exception that leaves the code -/
structure Cx where
  prog : Program
  w : World
  K : PySem.W.Frag
  mg : Str → Option Value
  base : Heap
  A : Around
  N : List Str
  s₀ : Shared
  H₀ : Hp
  env : Env
  outer : List Env
  stack : List Env
  ex : List Addr
  fn : Str → Bool
  calm : Bool
  pn : List (Addr × Obj)
  xe : Value → Shared → Prop
/-- the callers' frames -/
def frs (l : List Env) : List Addr := l.filterMap (·.frame)
abbrev Cx.fs (X : Cx) : List Addr := frs X.outer

def Vis (sc : Scope) (x : Str) : Prop := sc.names.lookup x = some .local ∨ sc.names.lookup x = some .cell ∨ sc.names.lookup x = some .free
def Loc (sc : Scope) (x : Str) : Prop := sc.names.lookup x = some .local ∨ sc.names.lookup x = some .cell
def Look (env : Env) (h : Heap) (m : Str → Option Value) (x : Str) (u : Value) : Prop :=
  (env.kindOf x = some .local ∧ m x = some u) ∨ ((env.kindOf x = some .cell ∨ env.kindOf x = some .free) ∧ ∃ c, env.cells.lookup x = some c ∧ h.IsCell c (some u))

structure Cx.Ok (X : Cx) : Prop where
  mod : Mod X.K X.mg X.base
  kind : X.env.scope.kind = .function
  glob : X.env.globals = mainGlobals
  blt : X.env.builtins = builtinsNs
  above : X.s₀.heap.objs.size ≤ X.env.locals
  inj : ∀ x y c, X.env.cells.lookup x = some c → X.env.cells.lookup y = some c → x = y
  has : ∀ x, (X.env.kindOf x = some .cell ∨ X.env.kindOf x = some .free) → ∃ c, X.env.cells.lookup x = some c
  cab : ∀ x c, X.fn x = true → X.env.cells.lookup x = some c → X.s₀.heap.objs.size ≤ c
  hd : X.calm = true → X.A.handled = none
  frames : X.A.frames = some X.stack
  stk : X.stack = X.outer ∨ (X.stack = X.env :: X.outer ∧ X.env.frame = some X.env.locals)
  exf : ∀ b ∈ X.ex, b ≠ X.env.locals ∧ ∀ x c, X.env.cells.lookup x = some c → c ≠ b
  bs : ∀ b o, X.base.get? b = some o → X.s₀.heap.get? b = some o ∧ X.H₀ b = none
  bsz : X.base.objs.size ≤ X.s₀.heap.objs.size
  noex : ∀ b o, X.base.get? b = some o → b ∉ X.ex
  exfs : ∀ b ∈ X.ex, b ∉ X.fs
  funs : X.s₀.heap.FunFrames X.base X.outer
  frf : ∀ b ∈ X.fs, X.H₀ b = none

structure Inv (X : Cx) (pins : List (Addr × Obj)) (σ : List (Option V)) (H : Hp) (s : Shared) : Prop where
  ok : X.Ok
  os : s.os = X.s₀.os
  bare : AllBare s.gens
  base : Un X.fs X.ex X.H₀ H X.s₀.heap s.heap
  loc : ∃ m, s.heap.Ns X.env.locals m ∧ ∀ (i : Nat) (x : Str) (v : V), X.N[i]? = some x → σ[i]? = some (some v) → Vis X.env.scope x → ∃ u, RelV v u ∧ Look X.env s.heap m x u
  cell : ∀ x c, X.env.cells.lookup x = some c → ∃ v, s.heap.IsCell c v
  free : H X.env.locals = none
  freeC : ∀ x c, X.env.cells.lookup x = some c → H c = none
  pin : ∀ p ∈ X.pn ++ pins, s.heap.get? p.1 = some p.2 ∧ H p.1 = none ∧ p.1 ≠ X.env.locals ∧ p.1 ∉ X.fs ∧ ∀ v, p.2.data ≠ .cell v
  hok : HOk X.prog X.w H s.heap
  len : σ.length = X.N.length

section
variable {X : Cx} {pins : List (Addr × Obj)} {σ : List (Option V)} {H H' : Hp} {s : Shared} {h' : Heap}

theorem Cx.Ok.nofr (ok : X.Ok) {b : Addr} {o : Obj} (e : X.base.get? b = some o) : b ∉ X.fs := fun hb => by
  have := (ok.funs.mem hb).1
  rw [e] at this; cases this
theorem Inv.bs (I : Inv X pins σ H s) : ∀ b o, X.base.get? b = some o → s.heap.get? b = some o ∧ H b = none := fun b o e =>
  ⟨I.base.keep b o (I.ok.bs b o e).1 (I.ok.bs b o e).2 (I.ok.nofr e) (I.ok.noex b o e), I.base.free b o (I.ok.bs b o e).1 (I.ok.bs b o e).2 (I.ok.noex b o e)⟩
theorem Inv.bk (I : Inv X pins σ H s) : ∀ b o, X.base.get? b = some o → s.heap.get? b = some o := fun b o e => (I.bs b o e).1
theorem Inv.mod (I : Inv X pins σ H s) : Mod X.K X.mg X.base := I.ok.mod
theorem Inv.kIn (I : Inv X pins σ H s) : X.K.In s.heap := I.ok.mod.kin.keeps I.bk
/-- the frame over the base: for OpenK's rules (K.In X.base is I.mod.kin) -/
theorem Inv.fr (I : Inv X pins σ H s) : ∃ m, Fr X.base X.env.locals s.heap m :=
  let ⟨m, hn, _⟩ := I.loc
  ⟨m, hn, I.bk, Nat.le_trans I.ok.bsz I.ok.above⟩
theorem Inv.lt (I : Inv X pins σ H s) : X.env.locals < s.heap.objs.size := let ⟨_, hn, _⟩ := I.loc; hn.lt
theorem Inv.sz (I : Inv X pins σ H s) : X.s₀.heap.objs.size ≤ s.heap.objs.size := Nat.le_trans I.ok.above (Nat.le_of_lt I.lt)
theorem Inv.nofs (I : Inv X pins σ H s) {a : Addr} (h : s.heap.objs.size ≤ a) : a ∉ X.fs := fun hb => by
  obtain ⟨_, o, ho, _⟩ := I.ok.funs.mem hb
  exact absurd (Nat.lt_of_lt_of_le (Heap.lt_size ho) (Nat.le_trans I.sz h)) (Nat.lt_irrefl _)
theorem Inv.cne (I : Inv X pins σ H s) : ∀ x c, X.env.cells.lookup x = some c → c ≠ X.env.locals := fun x c e z => by
  obtain ⟨v, o, ho, hd⟩ := I.cell x c e
  obtain ⟨m, ⟨o', es, ep, ho', hd', _⟩, _⟩ := I.loc
  rw [z, ho'] at ho; cases ho; rw [hd'] at hd; cases hd
theorem Inv.funs (I : Inv X pins σ H s) : s.heap.FunFrames X.base X.outer := by
  have all : ∀ (l : List Env), (∀ b ∈ frs l, b ∈ X.fs) → X.s₀.heap.FunFrames X.base l → s.heap.FunFrames X.base l := by
    intro l
    induction l with
    | nil => intro _ _; trivial
    | cons env r ih =>
      intro hs hl
      obtain ⟨hk, ⟨L, o, hf, hn, ho, hd⟩, hr⟩ := hl
      have hL : L ∈ X.fs := hs L (by unfold frs; rw [List.filterMap_cons, hf]; exact List.mem_cons_self)
      obtain ⟨sl, e⟩ := I.base.slot L o ho (I.ok.frf L hL) hL fun z => I.ok.exfs L z hL
      exact ⟨hk, ⟨L, _, hf, hn, e, hd⟩, ih (fun b hb => hs b (by unfold frs; rw [List.filterMap_cons, hf]; exact List.mem_cons_of_mem _ hb)) hr⟩
  exact all X.outer (fun _ hb => hb) I.ok.funs

/-- the frames that run, for a call -/
theorem Inv.stack (I : Inv X pins σ H s) : s.heap.FunFrames X.base X.stack := by
  rcases I.ok.stk with e | ⟨e, hf⟩
  · rw [e]; exact I.funs
  · rw [e]
    obtain ⟨m, hn, _⟩ := I.loc
    refine .cons (by rw [I.ok.kind]; decide) hf hn ?_ I.funs
    exact Heap.get?_none_of_le (Nat.le_trans I.ok.bsz I.ok.above)
theorem Inv.stkSub (I : Inv X pins σ H s) : ∀ b ∈ frs X.stack, b ∈ X.env.locals :: X.fs := fun b hb => by
  rcases I.ok.stk with e | ⟨e, hf⟩
  · rw [e] at hb; exact List.mem_cons_of_mem _ hb
  · rw [e] at hb
    unfold frs at hb
    rw [List.filterMap_cons, hf] at hb
    exact hb
theorem Inv.stkFree (I : Inv X pins σ H s) : ∀ b ∈ frs X.stack, H b = none := fun b hb => by
  rcases List.mem_cons.mp (I.stkSub b hb) with e | hb
  · rw [e]; exact I.free
  · obtain ⟨_, o, ho, _⟩ := I.ok.funs.mem hb
    exact I.base.free b o ho (I.ok.frf b hb) fun z => I.ok.exfs b z hb

/-- THE STEP: the untracked objects but the frame and the records at ch are kept (the callers' frames up to slots), the frame's map is kept, the new abstract heap is held -/
theorem Inv.step {g' : Array GenState} {t' : Nat} {d' : Drawn} {ch : List Addr} (I : Inv X pins σ H s)
    (hch : ∀ b ∈ ch, (b ∈ X.ex ∨ X.s₀.heap.objs.size ≤ b) ∧ b ≠ X.env.locals ∧ (∀ x c, X.env.cells.lookup x = some c → c ≠ b) ∧ ∀ p ∈ X.pn ++ pins, p.1 ≠ b)
    (keep : ∀ b o, b ≠ X.env.locals → b ∉ X.fs → b ∉ ch → s.heap.get? b = some o → H b = none → h'.get? b = some o)
    (slot : ∀ b o, b ≠ X.env.locals → b ∈ X.fs → b ∉ ch → s.heap.get? b = some o → H b = none → ∃ sl, h'.get? b = some { o with slots := sl }) (free : ∀ b o, b ∉ ch → s.heap.get? b = some o → H b = none → H' b = none)
    (there : ∀ b o, b ∉ ch → s.heap.get? b = some o → ∃ o', h'.get? b = some o')
    (tups : ∀ b xs, H b = some (.tup xs) → H' b = some (.tup xs)) (frzs : ∀ b o u, H b = some (.frz o u) → H' b = some (.frz o u)) (tbls : ∀ b ps, H b = some (.tbl ps) → ∃ more, H' b = some (.tbl (ps ++ more)))
    (ns : ∀ m, s.heap.Ns X.env.locals m → h'.Ns X.env.locals m) (hok : HOk X.prog X.w H' h') (hg : AllBare g') :
    Inv X pins σ H' { s with heap := h', gens := g', drawn := d', toks := t' } := by
  have neL : ∀ b o, X.s₀.heap.get? b = some o → b ≠ X.env.locals := fun b o e => Nat.ne_of_lt (Nat.lt_of_lt_of_le (Heap.lt_size e) I.ok.above)
  have neC : ∀ b o, X.s₀.heap.get? b = some o → b ∉ X.ex → b ∉ ch := fun b o e hx hb => by
    rcases (hch b hb).1 with z | z
    · exact hx z
    · exact absurd (Nat.lt_of_lt_of_le (Heap.lt_size e) z) (Nat.lt_irrefl _)
  have cellK : ∀ x c, X.env.cells.lookup x = some c → ∀ v, s.heap.IsCell c v → h'.IsCell c v := fun x c e v ⟨o, ho, hd⟩ => by
    have nch : c ∉ ch := fun z => (hch c z).2.2.1 x c e rfl
    by_cases hc : c ∈ X.fs
    · obtain ⟨sl, q⟩ := slot c o (I.cne x c e) hc nch ho (I.freeC x c e)
      exact ⟨_, q, hd⟩
    · exact ⟨o, keep c o (I.cne x c e) hc nch ho (I.freeC x c e), hd⟩
  refine ⟨I.ok, I.os, hg, ⟨fun b o e n hb hx => ?_, fun b o e n hb hx => ?_, fun b o e n hx => ?_, fun b o e hx => ?_, fun b xs e => tups b xs (I.base.tups b xs e), fun b o xs e => frzs b o xs (I.base.frzs b o xs e), fun b ps e => ?_⟩, ?_, fun x c e => ?_, ?_, fun x c e => ?_, fun p hp => ?_, hok, I.len⟩
  · exact keep b o (neL b o e) hb (neC b o e hx) (I.base.keep b o e n hb hx) (I.base.free b o e n hx)
  · obtain ⟨sl, e1⟩ := I.base.slot b o e n hb hx
    obtain ⟨sl', e2⟩ := slot b _ (neL b o e) hb (neC b o e hx) e1 (I.base.free b o e n hx)
    exact ⟨sl', e2⟩
  · obtain ⟨o', e1⟩ := I.base.there b o e hx
    exact free b o' (neC b o e hx) e1 (I.base.free b o e n hx)
  · obtain ⟨o', e1⟩ := I.base.there b o e hx
    exact there b o' (neC b o e hx) e1
  · obtain ⟨m1, e1⟩ := I.base.tbls b ps e
    obtain ⟨m2, e2⟩ := tbls b _ e1
    exact ⟨m1 ++ m2, by rw [e2, Array.append_assoc]⟩
  · obtain ⟨m, hn, hl⟩ := I.loc
    refine ⟨m, ns m hn, fun i x v e1 e2 e3 => ?_⟩
    obtain ⟨u, r, l⟩ := hl i x v e1 e2 e3
    refine ⟨u, r, ?_⟩
    rcases l with l | ⟨k, c, e, z⟩
    · exact .inl l
    · exact .inr ⟨k, c, e, cellK x c e _ z⟩
  · obtain ⟨v, z⟩ := I.cell x c e
    exact ⟨v, cellK x c e v z⟩
  · obtain ⟨m, ⟨o, _, _, ho, _⟩, _⟩ := I.loc
    exact free _ o (fun z => (hch _ z).2.1 rfl) ho I.free
  · obtain ⟨v, o, ho, hd⟩ := I.cell x c e
    exact free c o (fun z => (hch c z).2.2.1 x c e rfl) ho (I.freeC x c e)
  · obtain ⟨e, n, ne, nf, d⟩ := I.pin p hp
    have nch : p.1 ∉ ch := fun z => (hch p.1 z).2.2.2 p hp rfl
    exact ⟨keep p.1 p.2 ne nf nch e n, free p.1 p.2 nch e n, ne, nf, d⟩
/-- .. where the frame's own object is kept too -/
theorem Inv.un {t' : Nat} (I : Inv X pins σ H s) (u : Un X.fs [] H H' s.heap h') (hok : HOk X.prog X.w H' h') : Inv X pins σ H' { s with heap := h', toks := t' } := by
  obtain ⟨m, ⟨o, es, ep, ho, r⟩, _⟩ := id I.loc
  obtain ⟨sl, hL⟩ := u.any ho I.free (by simp)
  exact I.step (g' := s.gens) (d' := s.drawn) (ch := []) (fun _ z => nomatch z) (fun b o _ hb _ e n => u.keep b o e n hb (by simp)) (fun b o _ hb _ e n => u.slot b o e n hb (by simp)) (fun b o _ e n => u.free b o e n (by simp)) (fun b o _ e => u.there b o e (by simp)) u.tups u.frzs u.tbls (fun m' hm => by
    obtain ⟨o', es', ep', ho', r'⟩ := hm
    rw [ho] at ho'; cases ho'
    exact ⟨_, es', ep', hL, r'⟩) hok I.bare
/-- behind a call (or a comprehension's block): the slots of this frame may have changed too, the records at ch may have turned -/
theorem Inv.call {g' : Array GenState} {t' : Nat} {d' : Drawn} {ch : List Addr} (I : Inv X pins σ H s) (u : Un (frs X.stack) ch H H' s.heap h') (hok : HOk X.prog X.w H' h') (hg : AllBare g')
    (hch : ∀ b ∈ ch, (b ∈ X.ex ∨ X.s₀.heap.objs.size ≤ b) ∧ b ≠ X.env.locals ∧ (∀ x c, X.env.cells.lookup x = some c → c ≠ b) ∧ ∀ p ∈ X.pn ++ pins, p.1 ≠ b) :
    Inv X pins σ H' { s with heap := h', gens := g', drawn := d', toks := t' } := by
  obtain ⟨m, ⟨o, es, ep, ho, r⟩, _⟩ := id I.loc
  obtain ⟨sl, hL⟩ := u.any ho I.free fun z => (hch _ z).2.1 rfl
  exact I.step (ch := ch) hch (fun b o hL hb hc e n => u.keep b o e n (fun z => (List.mem_cons.mp (I.stkSub b z)).elim hL hb) hc) (fun b o _ _ hc e n => u.any e n hc) (fun b o hc e n => u.free b o e n hc) (fun b o hc e => u.there b o e hc) u.tups u.frzs u.tbls (fun m' hm => by
    obtain ⟨o', es', ep', ho', r'⟩ := hm
    rw [ho] at ho'; cases ho'
    exact ⟨_, es', ep', hL, r'⟩) hok hg
/-- an untracked record of ours (an iterator) has turned -/
theorem Inv.turned {t' : Nat} {it : Addr} (I : Inv X pins σ H s) (k : ∀ b o, b ≠ it → s.heap.get? b = some o → h'.get? b = some o) (hn : H it = none) (hL : it ≠ X.env.locals)
    (h1 : it ∈ X.ex ∨ X.s₀.heap.objs.size ≤ it) (h2 : ∀ x c, X.env.cells.lookup x = some c → c ≠ it) (h3 : ∀ p ∈ X.pn ++ pins, p.1 ≠ it) : Inv X pins σ H { s with heap := h', toks := t' } := by
  have nit : ∀ b u, H b = some u → b ≠ it := fun b u e z => by rw [z, hn] at e; cases e
  refine I.step (g' := s.gens) (d' := s.drawn) (ch := [it]) (fun b hb => ?_) (fun b o _ _ hc e _ => k b o (fun z => hc (by simp [z])) e) (fun b o _ _ hc e _ => ⟨o.slots, k b o (fun z => hc (by simp [z])) e⟩) (fun _ _ _ _ n => n)
    (fun b o hc e => ⟨o, k b o (fun z => hc (by simp [z])) e⟩) (fun _ _ e => e) (fun _ _ _ e => e) (fun b ps e => ⟨#[], by rw [e]; simp⟩) (fun m hm => ?_) (fun b u e => ?_) I.bare
  · have e : b = it := by simpa using hb
    subst e
    exact ⟨h1, hL, h2, h3⟩
  · obtain ⟨o, es, ep, ho, r⟩ := hm
    exact ⟨o, es, ep, k _ o (Ne.symm hL) ho, r⟩
  · refine (I.hok b u e).stay (fun c v hc q => k c v ?_ q) (fun _ q => q) fun _ _ q => q
    rcases hc with z | z
    · rw [z]; exact nit b u e
    · exact nit c _ z
theorem Inv.tok (I : Inv X pins σ H s) (t : Nat) : Inv X pins σ H { s with toks := t } := I.un (h' := s.heap) (t' := t) Un.refl I.hok
/-- all objects kept -/
theorem Inv.kept {t' : Nat} (I : Inv X pins σ H s) (k : ∀ b u, s.heap.get? b = some u → h'.get? b = some u) : Inv X pins σ H { s with heap := h', toks := t' } := I.un (Un.kept k) (I.hok.kept k)
/-- a new object laid and tracked -/
theorem Inv.laid {a : Addr} {o : HO} {t' : Nat} (I : Inv X pins σ H s) (k : ∀ b u, s.heap.get? b = some u → h'.get? b = some u) (hp : s.heap.objs.size ≤ a) (new : ObjOk X.prog X.w (upd H a o) h' a o) :
    Inv X pins σ (upd H a o) { s with heap := h', toks := t' } := I.un (Un.laid k hp (I.hok.fresh hp)) (I.hok.laid k hp new)
/-- an object written -/
theorem Inv.write {x e : Addr} {o : HO} {t' : Nat} (I : Inv X pins σ H s) (mu : Mut (H x)) (he : e = x ∨ H e = some (.own x)) (k : ∀ b u, b ≠ e → s.heap.get? b = some u → h'.get? b = some u) (heo : ∃ u, h'.get? e = some u)
    (new : ObjOk X.prog X.w (upd H x o) h' x o) : Inv X pins σ (upd H x o) { s with heap := h', toks := t' } := I.un (Un.write mu he k heo) (I.hok.write mu he k heo new)
/-- forgetting slots, pins -/
theorem Inv.weak {σ' : List (Option V)} (I : Inv X pins σ H s) (hl : σ'.length = σ.length) (w : ∀ (i : Nat) v, σ'[i]? = some (some v) → σ[i]? = some (some v)) : Inv X pins σ' H s :=
  ⟨I.ok, I.os, I.bare, I.base, let ⟨m, hn, hl'⟩ := I.loc; ⟨m, hn, fun i x v e1 e2 e3 => hl' i x v e1 (w i v e2) e3⟩, I.cell, I.free, I.freeC, I.pin, I.hok, hl.trans I.len⟩
theorem Inv.pins_of {pins' : List (Addr × Obj)} (I : Inv X pins σ H s) (h : ∀ p ∈ pins', s.heap.get? p.1 = some p.2 ∧ H p.1 = none ∧ p.1 ≠ X.env.locals ∧ p.1 ∉ X.fs ∧ ∀ v, p.2.data ≠ .cell v) : Inv X pins' σ H s :=
  ⟨I.ok, I.os, I.bare, I.base, I.loc, I.cell, I.free, I.freeC, fun p hp => (List.mem_append.mp hp).elim (fun z => I.pin p (List.mem_append_left _ z)) (h p), I.hok, I.len⟩

theorem nodup_ix {N : List Str} (hN : N.Nodup) {i j : Nat} {x : Str} (a : N[i]? = some x) (b : N[j]? = some x) : i = j := by
  obtain ⟨h1, e1⟩ := List.getElem?_eq_some_iff.mp a
  obtain ⟨h2, e2⟩ := List.getElem?_eq_some_iff.mp b
  exact (List.getElem_inj hN).mp (e1.trans e2.symm)

/-- a name is stored; what changed -/
theorem store_ok2 {M : Model} {A : Around} {E : Value → Shared → Prop} {i : Nat} {x : Str} {v : V} {u : Value} {Q : Unit → Shared → Prop} (I : Inv X pins σ H s) (hN : X.N.Nodup) (hi : X.N[i]? = some x) (hx : Loc X.env.scope x) (r : RelV v u)
    (h : ∀ s', Inv X pins (σ.set i (some v)) H s' → (∃ a, Heap.SameBut a s.heap s'.heap ∧ (a = X.env.locals ∨ X.env.cells.lookup x = some a)) → Q () s') (hf : X.fn x = true ∨ X.env.scope.names.lookup x = some .local := by first | exact .inl rfl | exact .inr rfl | assumption) : wpAny M A (storeName X.env x u) Q E s := by
  obtain ⟨m, hn, hl⟩ := id I.loc
  have hcls : (X.env.scope.kind == .class || (X.env.scope.kind == .module && X.env.locals != X.env.globals)) = false := by rw [I.ok.kind]; rfl
  have hiσ : i < σ.length := by rw [I.len]; exact (List.getElem?_eq_some_iff.mp hi).1
  have cne := I.cne
  have tracked : ∀ {a : Addr} {h' : Heap}, (∃ o, s.heap.get? a = some o ∧ H a = none) → Heap.SameBut a s.heap h' → HOk X.prog X.w H h' := fun {a h'} ha hs b ob e => by
    obtain ⟨_, _, hfree⟩ := ha
    refine (I.hok b ob e).stay (fun c w' hc q => (hs.2 c ?_).trans q) (fun _ q => q) fun _ _ q => q
    rintro rfl
    rcases hc with rfl | hc
    · rw [hfree] at e; cases e
    · rw [hfree] at hc; cases hc
  rcases hx with hk | hk
  · refine wpAny_storeName_local hk hn (fun h' hn' hs => ?_) hcls
    obtain ⟨oL, _, _, hoL, _⟩ := id hn
    refine h _ ⟨I.ok, I.os, I.bare, ⟨fun b o e n hb hx => ?_, fun b o e n hb hx => ?_, I.base.free, fun b o e hx => ?_, I.base.tups, I.base.frzs, I.base.tbls⟩, ⟨_, hn', fun j y v' e1 e2 e3 => ?_⟩, fun y c e => ?_, I.free, I.freeC, fun p hp => ?_, tracked ⟨oL, hoL, I.free⟩ hs, by simpa using I.len⟩ ⟨_, hs, .inl rfl⟩
    · exact (hs.2 b (Nat.ne_of_lt (Nat.lt_of_lt_of_le (Heap.lt_size e) I.ok.above))).trans (I.base.keep b o e n hb hx)
    · obtain ⟨sl, e1⟩ := I.base.slot b o e n hb hx
      exact ⟨sl, (hs.2 b (Nat.ne_of_lt (Nat.lt_of_lt_of_le (Heap.lt_size e) I.ok.above))).trans e1⟩
    · obtain ⟨o', e1⟩ := I.base.there b o e hx
      exact ⟨o', (hs.2 b (Nat.ne_of_lt (Nat.lt_of_lt_of_le (Heap.lt_size e) I.ok.above))).trans e1⟩
    · by_cases hj : j = i
      · subst hj
        rw [hi] at e1; cases e1
        rw [List.getElem?_set_self hiσ] at e2
        cases e2
        exact ⟨u, r, .inl ⟨hk, by simp⟩⟩
      · rw [List.getElem?_set_ne (Ne.symm hj)] at e2
        obtain ⟨u', r', q⟩ := hl j y v' e1 e2 e3
        refine ⟨u', r', ?_⟩
        rcases q with ⟨k, e⟩ | ⟨k, c, e, z⟩
        · refine .inl ⟨k, ?_⟩
          have : y ≠ x := fun e => hj (nodup_ix hN e1 (e ▸ hi))
          simp [this, e]
        · exact .inr ⟨k, c, e, z.sameBut hs (cne y c e)⟩
    · obtain ⟨w', z⟩ := I.cell y c e
      exact ⟨w', z.sameBut hs (cne y c e)⟩
    · obtain ⟨e, n, ne, nf, d⟩ := I.pin p hp
      exact ⟨(hs.2 p.1 ne).trans e, n, ne, nf, d⟩
  · have hfn : X.fn x = true := by
      rcases hf with z | z
      · exact z
      · rw [z] at hk; cases hk
    obtain ⟨c, hc⟩ := I.ok.has x (.inl hk)
    obtain ⟨w', z⟩ := I.cell x c hc
    refine wpAny_storeName_cell I.ok.kind hk hc z (fun h' hc' hs => ?_)
    obtain ⟨oc, hoc, hocd⟩ := id z
    refine h { s with heap := h' } ⟨I.ok, I.os, I.bare, ⟨fun b o e n hb hx => ?_, fun b o e n hb hx => ?_, I.base.free, fun b o e hx => ?_, I.base.tups, I.base.frzs, I.base.tbls⟩, ⟨m, hn.sameBut hs (Ne.symm (cne x c hc)), fun j y v' e1 e2 e3 => ?_⟩, fun y c' e => ?_, I.free, I.freeC, fun p hp => ?_, tracked ⟨oc, hoc, I.freeC x c hc⟩ hs, by simpa using I.len⟩ ⟨c, hs, .inr hc⟩
    · exact (hs.2 b (Nat.ne_of_lt (Nat.lt_of_lt_of_le (Heap.lt_size e) (I.ok.cab x c hfn hc)))).trans (I.base.keep b o e n hb hx)
    · obtain ⟨sl, e1⟩ := I.base.slot b o e n hb hx
      exact ⟨sl, (hs.2 b (Nat.ne_of_lt (Nat.lt_of_lt_of_le (Heap.lt_size e) (I.ok.cab x c hfn hc)))).trans e1⟩
    · obtain ⟨o', e1⟩ := I.base.there b o e hx
      exact ⟨o', (hs.2 b (Nat.ne_of_lt (Nat.lt_of_lt_of_le (Heap.lt_size e) (I.ok.cab x c hfn hc)))).trans e1⟩
    · by_cases hj : j = i
      · subst hj
        rw [hi] at e1; cases e1
        rw [List.getElem?_set_self hiσ] at e2
        cases e2
        exact ⟨u, r, .inr ⟨.inl hk, c, hc, hc'⟩⟩
      · rw [List.getElem?_set_ne (Ne.symm hj)] at e2
        obtain ⟨u', r', q⟩ := hl j y v' e1 e2 e3
        refine ⟨u', r', ?_⟩
        rcases q with q | ⟨k, c', e, z'⟩
        · exact .inl q
        · refine .inr ⟨k, c', e, z'.sameBut hs ?_⟩
          rintro rfl
          exact hj (nodup_ix hN e1 (I.ok.inj _ _ _ e hc ▸ hi))
    · by_cases hcc : c' = c
      · subst hcc; exact ⟨_, hc'⟩
      · obtain ⟨w2, z2⟩ := I.cell y c' e
        exact ⟨w2, z2.sameBut hs hcc⟩
    · obtain ⟨e, n, ne, nf, d⟩ := I.pin p hp
      refine ⟨(hs.2 p.1 ?_).trans e, n, ne, nf, d⟩
      intro q
      rw [q, hoc] at e
      have q' : oc = p.2 := Option.some.inj e
      exact d w' (by rw [← q']; exact hocd)
theorem store_ok {M : Model} {A : Around} {E : Value → Shared → Prop} {i : Nat} {x : Str} {v : V} {u : Value} {Q : Unit → Shared → Prop} (I : Inv X pins σ H s) (hN : X.N.Nodup) (hi : X.N[i]? = some x) (hx : Loc X.env.scope x) (r : RelV v u)
    (h : ∀ s', Inv X pins (σ.set i (some v)) H s' → Q () s') (hf : X.fn x = true ∨ X.env.scope.names.lookup x = some .local := by first | exact .inl rfl | exact .inr rfl | assumption) : wpAny M A (storeName X.env x u) Q E s :=
  store_ok2 I hN hi hx r (fun s' I' _ => h s' I') hf
/-- behind a call or a block, the state as it is -/
theorem Inv.call' {s' : Shared} {ch : List Addr} (I : Inv X pins σ H s) (ho : s'.os = s.os) (u : Un (frs X.stack) ch H H' s.heap s'.heap) (hok : HOk X.prog X.w H' s'.heap) (hg : AllBare s'.gens)
    (hch : ∀ b ∈ ch, (b ∈ X.ex ∨ X.s₀.heap.objs.size ≤ b) ∧ b ≠ X.env.locals ∧ (∀ x c, X.env.cells.lookup x = some c → c ≠ b) ∧ ∀ p ∈ X.pn ++ pins, p.1 ≠ b) : Inv X pins σ H' s' := by
  obtain ⟨h', g', d', t', o'⟩ := s'
  have e : o' = s.os := ho
  subst e
  exact I.call (g' := g') (t' := t') (d' := d') u hok hg hch
end

/-! ### the judgements -/
/-- an exception: its class, its own dict's address (where it has one), the abstract heap behind it -/
abbrev XK := Value → Option Addr → Hp → Prop
abbrev St := List (Option V)
abbrev VK := V → Hp → Prop
/-- an expression's reading; a test's; an argument list's -/
abbrev TE := St → Hp → VK → Prop
abbrev TT := St → Hp → (Bool → Hp → Prop) → Prop
abbrev TA := St → Hp → (List V → Hp → Prop) → Prop
/-- what is wanted behind a statement -/
structure Ends where
  nx : St → Hp → Prop
  rt : VK
  bk : St → Hp → Prop := fun _ _ => False
  ct : St → Hp → Prop := fun _ _ => False
abbrev TS := Ends → St → Hp → Prop

def EP (X : Cx) (pins : List (Addr × Obj)) (σ : St) (Q : VK) (u : Value) (s' : Shared) : Prop := ∃ v H', Inv X pins σ H' s' ∧ RelV v u ∧ Q v H'
def TP (X : Cx) (pins : List (Addr × Obj)) (σ : St) (Q : Bool → Hp → Prop) (b : Bool) (s' : Shared) : Prop := ∃ H', Inv X pins σ H' s' ∧ Q b H'
def AP (X : Cx) (pins : List (Addr × Obj)) (σ : St) (Q : List V → Hp → Prop) (us : List Value) (s' : Shared) : Prop := ∃ vs H', Inv X pins σ H' s' ∧ Vals vs us ∧ Q vs H'
def SP (X : Cx) (pins : List (Addr × Obj)) (D : Ends) (f : Flow) (s' : Shared) : Prop :=
  match f with
  | .next => ∃ σ' H', Inv X pins σ' H' s' ∧ D.nx σ' H'
  | .brk => ∃ σ' H', Inv X pins σ' H' s' ∧ D.bk σ' H'
  | .cont => ∃ σ' H', Inv X pins σ' H' s' ∧ D.ct σ' H'
  | .ret u => ∃ v σ' H', Inv X pins σ' H' s' ∧ RelV v u ∧ D.rt v H'

def PE (X : Cx) (e : Expr) (t : TE) : Prop :=
  ∀ (pins : List (Addr × Obj)) (s : Shared) (σ : St) (H : Hp) (Q : VK), Inv X pins σ H s → t σ H Q → wpAny (model X.prog X.w) X.A (eval e X.env) (EP X pins σ Q) X.xe s
def PT (X : Cx) (e : Expr) (t : TT) : Prop :=
  ∀ (pins : List (Addr × Obj)) (s : Shared) (σ : St) (H : Hp) (Q : Bool → Hp → Prop), Inv X pins σ H s → t σ H Q → wpAny (model X.prog X.w) X.A (isTrue e X.env (eval e X.env)) (TP X pins σ Q) X.xe s
/-- a test whatever its 'whole' is (and, or) -/
def PW (X : Cx) (e : Expr) (t : TT) : Prop :=
  ∀ (whole : Sem Value) (pins : List (Addr × Obj)) (s : Shared) (σ : St) (H : Hp) (Q : Bool → Hp → Prop), Inv X pins σ H s → t σ H Q → wpAny (model X.prog X.w) X.A (isTrue e X.env whole) (TP X pins σ Q) X.xe s
theorem PW.pt {X : Cx} {e : Expr} {t : TT} (h : PW X e t) : PT X e t := h _
/-- an argument list (no star), from the left -/
def PA (X : Cx) (es : List Expr) (t : TA) : Prop :=
  ∀ (pos : Pos) (pins : List (Addr × Obj)) (s : Shared) (σ : St) (H : Hp) (Q : List V → Hp → Prop), Inv X pins σ H s → t σ H Q → wpAny (model X.prog X.w) X.A (spliced (backTo pos (starEach es X.env))) (AP X pins σ Q) X.xe s
def PS (X : Cx) (st : Stmt) (t : TS) : Prop :=
  ∀ (pins : List (Addr × Obj)) (s : Shared) (σ : St) (H : Hp) (D : Ends), Inv X pins σ H s → t D σ H → wpAny (model X.prog X.w) X.A (exec st X.env) (SP X pins D) X.xe s
def PSs (X : Cx) (st : List Stmt) (t : TS) : Prop :=
  ∀ (pins : List (Addr × Obj)) (s : Shared) (σ : St) (H : Hp) (D : Ends), Inv X pins σ H s → t D σ H → wpAny (model X.prog X.w) X.A (execs st X.env) (SP X pins D) X.xe s
/-- weaken the end -/
theorem thn {α : Type} {t : Sem α} {Q Q' : α → Shared → Prop} {M : Model} {A : Around} {E : Value → Shared → Prop} {s : Shared} (h : wpAny M A t Q E s) (hQ : ∀ a s, Q a s → Q' a s) : wpAny M A t Q' E s := wpAny_mono h hQ fun _ _ x => x
end L2

namespace L2
open PySem PySem.Spec PyProof.Rows
section
variable {X : Cx}

/-! ### names and constants -/
def tVar (i : Nat) : TE := fun σ H Q => ∃ v, σ[i]? = some (some v) ∧ Q v H
def tC (v : V) : TE := fun _ H Q => Q v H
theorem pe_var {i : Nat} {x : Str} {pos : Pos} (hN : X.N[i]? = some x) (hv : Vis X.env.scope x) (hd : (x == ("__debug__" : Str)) = false := by decide) (hcd : (x == ("__classdict__" : Str)) = false := by decide) : PE X (.Name x pos) (tVar i) := by
  intro pins s σ H Q I h
  obtain ⟨v, e, h⟩ := h
  obtain ⟨m, hn, hl⟩ := I.loc
  obtain ⟨u, r, l⟩ := hl i x v hN e hv
  have fin : EP X pins σ Q u s := ⟨v, H, I, r, h⟩
  rcases l with ⟨hk, hm⟩ | ⟨hk, c, hc, hcell⟩
  · exact wpAny_Name (wpAny_loadName_local I.ok.kind hk hn hm fin) hd
  · rcases hk with hk | hk
    · exact wpAny_Name (wpAny_loadName_cell I.ok.kind hk hc hcell fin) hd
    · exact wpAny_Name (wpAny_loadName_free I.ok.kind hk hc hcell fin hcd) hd
theorem pe_int {i j pos} : PE X (.Constant (.int i) j pos) (tC (.int i)) := fun _ _ _ H _ I h => wpAny_Constant_int ⟨.int i, H, I.tok _, ⟨_, rfl⟩, h⟩
theorem pe_bl {b j pos} : PE X (.Constant (.bool b) j pos) (tC (.bl b)) := fun _ _ _ H _ I h => Constant_bool ⟨.bl b, H, I, rfl, h⟩
theorem pe_non {j pos} : PE X (.Constant .none j pos) (tC .non) := fun _ _ _ H _ I h => Constant_none ⟨.non, H, I, rfl, h⟩
theorem pe_str {x j pos} : PE X (.Constant (.str x) j pos) (tC (.str x)) := fun _ _ _ H _ I h => Calls.Constant_str ⟨.str x, H, I.tok _, ⟨_, rfl⟩, h⟩

/-- a global name of the def -/
def Gl (X : Cx) (x : Str) : Prop := X.env.kindOf x = some .globalImplicit
theorem ld_glob {E : Value → Shared → Prop} {pins : List (Addr × Obj)} {s : Shared} {σ : St} {H : Hp} {x : Str} {u : Value} {pos : Pos} {Q : Value → Shared → Prop} (I : Inv X pins σ H s) (hg : Gl X x) (hm : X.mg x = some u) (h : Q u s)
    (hd : (x == ("__debug__" : Str)) = false := by decide) : wpAny (model X.prog X.w) X.A (eval (.Name x pos) X.env) Q E s :=
  Calls.Name_function_global I.ok.kind hg (Calls.loadGlobal_global (by rw [I.ok.glob]; exact I.mod.glob.keeps I.bk) hm h) hd
theorem ld_blt {E : Value → Shared → Prop} {pins : List (Addr × Obj)} {s : Shared} {σ : St} {H : Hp} {x : Str} {u : Value} {pos : Pos} {Q : Value → Shared → Prop} (I : Inv X pins σ H s) (hg : Gl X x) (hm : X.mg x = none) (hv : bootBuiltins x = some u) (h : Q u s)
    (hn : x ≠ "__name__" := by decide) (hd : (x == ("__debug__" : Str)) = false := by decide) : wpAny (model X.prog X.w) X.A (eval (.Name x pos) X.env) Q E s := by
  obtain ⟨mb, h1, h2⟩ := I.mod.blt
  exact Calls.Name_function_global I.ok.kind hg (Calls.loadGlobal_builtin (by rw [I.ok.glob]; exact I.mod.glob.keeps I.bk) hm (by rw [I.ok.blt]; exact h1.keeps I.bk) ((h2 x hn).trans hv) h) hd
theorem pe_bltn {x : Str} {v : V} {u : Value} {pos : Pos} (hg : Gl X x) (hm : X.mg x = none) (hv : bootBuiltins x = some u) (r : RelV v u) (hn : x ≠ "__name__" := by decide) (hd : (x == ("__debug__" : Str)) = false := by decide) : PE X (.Name x pos) (tC v) :=
  fun _ _ _ H _ I h => ld_blt I hg hm hv ⟨v, H, I, r, h⟩ hn hd

/-! ### arithmetic -/
variable {a b : Expr} {ta tb : TE} {pos : Pos}
/-! ### comparisons -/
/-- a comparison as a value, as a test -/
def tB (t : TE) : TT := fun σ H Q => t σ H fun x H1 => ∃ c, x = .bl c ∧ Q c H1
/-- an expression whose value is a bool, as a test -/
theorem pt_val {e : Expr} {t : TE} (h : PE X e t) (he : ∀ whole, isTrue e X.env whole = (do let v ← whole; standAt e.pos; holding [v] (truthy v)) := by intro _; rfl) : PT X e (tB t) := by
  intro pins s σ H Q I hw
  refine isTrue_plain (thn (h pins s σ H _ I hw) fun v s1 ⟨x, H1, I1, r1, q1⟩ => ?_) (he _)
  obtain ⟨d, rfl, q⟩ := q1
  cases r1
  exact wpAny_truthy_bool ⟨H1, I1, q⟩

/-! ### and, or, not -/
variable {tA tB' : TT} {rest : List Expr}
def tAnd (t u : TT) : TT := fun σ H Q => t σ H fun c H1 => if c = true then u σ H1 Q else Q false H1
def tOr (t u : TT) : TT := fun σ H Q => t σ H fun c H1 => if c = true then Q true H1 else u σ H1 Q
def tNot (t : TT) : TT := fun σ H Q => t σ H fun c H1 => Q (!c) H1
theorem pw_and1 (ha : PT X a tA) : PW X (.BoolOp .And [a] pos) tA := by
  intro wh pins s σ H Q I h
  refine isTrue_and (thn (ha pins s σ H Q I h) fun c s1 e => ?_)
  cases c with
  | true => exact isTrue_and_nil e
  | false => exact e
theorem pw_or1 (ha : PT X a tA) : PW X (.BoolOp .Or [a] pos) tA := by
  intro wh pins s σ H Q I h
  refine isTrue_or (thn (ha pins s σ H Q I h) fun c s1 e => ?_)
  cases c with
  | false => exact isTrue_or_nil e
  | true => exact e
theorem pw_and (ha : PT X a tA) (hb : PW X (.BoolOp .And (b :: rest) pos) tB') : PW X (.BoolOp .And (a :: b :: rest) pos) (tAnd tA tB') := by
  intro wh pins s σ H Q I h
  refine isTrue_and (thn (ha pins s σ H _ I h) fun c s1 ⟨H1, I1, q1⟩ => ?_)
  cases c with
  | true => exact hb wh pins s1 σ H1 Q I1 q1
  | false => exact ⟨H1, I1, q1⟩
theorem pw_or (ha : PT X a tA) (hb : PW X (.BoolOp .Or (b :: rest) pos) tB') : PW X (.BoolOp .Or (a :: b :: rest) pos) (tOr tA tB') := by
  intro wh pins s σ H Q I h
  refine isTrue_or (thn (ha pins s σ H _ I h) fun c s1 ⟨H1, I1, q1⟩ => ?_)
  cases c with
  | true => exact ⟨H1, I1, q1⟩
  | false => exact hb wh pins s1 σ H1 Q I1 q1
theorem pt_not (ha : PT X a tA) : PT X (.UnaryOp .Not a pos) (tNot tA) := by
  intro pins s σ H Q I h
  exact isTrue_not (ha pins s σ H (fun c H1 => Q (!c) H1) I h)
/-- .. as values (bools) -/
def tAndV (ta tb : TE) : TE := fun σ H Q => ta σ H fun x H1 => ∃ c, x = .bl c ∧ if c = true then tb σ H1 Q else Q (.bl false) H1
def tOrV (ta tb : TE) : TE := fun σ H Q => ta σ H fun x H1 => ∃ c, x = .bl c ∧ if c = true then Q (.bl true) H1 else tb σ H1 Q
def tNotV (ta : TE) : TE := fun σ H Q => ta σ H fun x H1 => ∃ c, x = .bl c ∧ Q (.bl (!c)) H1
theorem pe_one {op} {t : TE} (h : PE X a t) : PE X (.BoolOp op [a] pos) t := fun pins s σ H Q I hw => BoolOp_one (h pins s σ H Q I hw)
theorem pe_and (ha : PE X a ta) (hb : PE X (.BoolOp .And (b :: rest) pos) tb) : PE X (.BoolOp .And (a :: b :: rest) pos) (tAndV ta tb) := by
  intro pins s σ H Q I h
  refine BoolOp_and (thn (ha pins s σ H _ I h) fun v s1 ⟨x, H1, I1, r1, q1⟩ => ?_)
  obtain ⟨c, rfl, q1⟩ := q1
  cases r1
  refine wpAny_truthy_bool ?_
  cases c with
  | true => exact hb pins s1 σ H1 Q I1 q1
  | false => exact ⟨.bl false, H1, I1, rfl, q1⟩
theorem pe_or (ha : PE X a ta) (hb : PE X (.BoolOp .Or (b :: rest) pos) tb) : PE X (.BoolOp .Or (a :: b :: rest) pos) (tOrV ta tb) := by
  intro pins s σ H Q I h
  refine BoolOp_or (thn (ha pins s σ H _ I h) fun v s1 ⟨x, H1, I1, r1, q1⟩ => ?_)
  obtain ⟨c, rfl, q1⟩ := q1
  cases r1
  refine wpAny_truthy_bool ?_
  cases c with
  | false => exact hb pins s1 σ H1 Q I1 q1
  | true => exact ⟨.bl true, H1, I1, rfl, q1⟩
theorem pe_not (ha : PE X a ta) : PE X (.UnaryOp .Not a pos) (tNotV ta) := by
  intro pins s σ H Q I h
  refine UnaryOp_ (thn (ha pins s σ H _ I h) fun v s1 ⟨x, H1, I1, r1, q1⟩ => ?_)
  obtain ⟨c, rfl, q1⟩ := q1
  cases r1
  exact not_of (wpAny_truthy_bool ⟨.bl (!c), H1, I1, rfl, q1⟩)
/-- a if t else b -/
def tIf (t : TT) (ta tb : TE) : TE := fun σ H Q => t σ H fun c H1 => if c = true then ta σ H1 Q else tb σ H1 Q
theorem pe_ifExp {c : Expr} (hc : PT X c tA) (ha : PE X a ta) (hb : PE X b tb) : PE X (.IfExp c a b pos) (tIf tA ta tb) := by
  intro pins s σ H Q I h
  refine wpAny_IfExp (thn (hc pins s σ H _ I h) fun d s1 ⟨H1, I1, q1⟩ => ?_)
  cases d with
  | true => exact ha pins s1 σ H1 Q I1 q1
  | false => exact hb pins s1 σ H1 Q I1 q1
end
end L2

namespace L2
open PySem PySem.Spec PyProof.Rows

/-! ### a list, a tuple that is read: tracked, frozen, or an object of the module -/
def SqL (K : PySem.W.Frag) (H : Hp) (a : Addr) (xs : List V) : Prop :=
  Rd H a (.lst xs) ∨
    ∃ (o : Obj) (its : Array Value) (n : Nat), K.lookup a = some o ∧ o.cls = .type "list" ∧ o.dict = none ∧ o.data = .seq its n ∧ its.size ≤ sizeLine ∧ Vals xs its.toList
def SqT (K : PySem.W.Frag) (H : Hp) (a : Addr) (xs : List V) : Prop :=
  Rd H a (.tup xs) ∨
    ∃ (o : Obj) (its : Array Value) (n : Nat), K.lookup a = some o ∧ o.cls = .type "tuple" ∧ o.data = .seq its n ∧ its.size ≤ sizeLine ∧ Vals xs its.toList ∧ o.dict = none
def absV : Value → Option V
  | .none => some .non
  | .bool b => some (.bl b)
  | .int i _ => some (.int i)
  | .str x _ => some (.str x)
  | .bytes b _ => some (.byt b)
  | .float b _ => some (.flt b)
  | .ref a => some (.ref a)
  | .type n => some (.ty n)
  | _ => none
theorem RelV.abs {x : V} {u : Value} (r : RelV x u) : absV u = some x := by
  cases x with
  | non => cases r; rfl
  | bl _ => cases r; rfl
  | int _ => obtain ⟨t, rfl⟩ := r; rfl
  | str _ => obtain ⟨t, rfl⟩ := r; rfl
  | byt _ => obtain ⟨t, rfl⟩ := r; rfl
  | flt _ => obtain ⟨t, rfl⟩ := r; rfl
  | ref _ => cases r; rfl
  | ty _ => cases r; rfl
theorem RelV.inj {x y : V} {u : Value} (r : RelV x u) (q : RelV y u) : x = y := Option.some.inj (r.abs.symm.trans q.abs)
theorem Vals.inj : ∀ {xs ys : List V} {us : List Value}, Vals xs us → Vals ys us → xs = ys
  | _, _, _, .nil, .nil => rfl
  | _, _, _, .cons r t, .cons r' t' => by rw [r.inj r', Vals.inj t t']
section
variable {X : Cx} {pins : List (Addr × Obj)} {σ : St} {H : Hp} {s : Shared} {a : Addr} {xs ys : List V}
theorem SqL.of {K : PySem.W.Frag} (h : H a = some (.lst xs)) : SqL K H a xs := .inl (.inl h)
theorem SqT.of {K : PySem.W.Frag} (h : H a = some (.tup xs)) : SqT K H a xs := .inl (.inl h)
theorem Inv.list (I : Inv X pins σ H s) (h : SqL X.K H a xs) : ∃ its : List Value, Vals xs its ∧ PlainL s.heap a its.toArray ∧ xs.length ≤ sizeLine := by
  rcases h with h | ⟨o, its, n, hk, hc, hd, hs, hz, r⟩
  · obtain ⟨z, its, n, r, e⟩ := h.ok I.hok
    exact ⟨its, r, ⟨_, n, e, rfl, rfl, rfl⟩, z⟩
  · refine ⟨its.toList, r, ⟨o, n, I.kIn a o hk, hc, hd, by simpa using hs⟩, ?_⟩
    have e := r.length
    simp only [Array.length_toList] at e
    omega
theorem Inv.tuple (I : Inv X pins σ H s) (h : SqT X.K H a xs) : ∃ its : List Value, Vals xs its ∧ IsTup s.heap a its.toArray ∧ xs.length ≤ sizeLine := by
  rcases h with h | ⟨o, its, n, hk, hc, hs, hz, r, hd⟩
  · obtain ⟨z, its, r, p⟩ := h.ok I.hok
    exact ⟨its, r, p.1, z⟩
  · refine ⟨its.toList, r, ⟨o, I.kIn a o hk, hc, n, by simpa using hs⟩, ?_⟩
    have e := r.length
    simp only [Array.length_toList] at e
    omega
theorem Inv.list_inj (I : Inv X pins σ H s) (h : SqL X.K H a xs) (h' : SqL X.K H a ys) : xs = ys := by
  obtain ⟨its, r, ⟨o, n, e, _, _, d⟩, _⟩ := I.list h
  obtain ⟨its', r', ⟨o', n', e', _, _, d'⟩, _⟩ := I.list h'
  rw [e] at e'; cases e'
  rw [d] at d'
  injection d' with d1 _
  have : its = its' := by simpa using congrArg Array.toList d1
  subst this
  exact r.inj r'
theorem Inv.tuple_inj (I : Inv X pins σ H s) (h : SqT X.K H a xs) (h' : SqT X.K H a ys) : xs = ys := by
  obtain ⟨its, r, ⟨o, e, _, n, d⟩, _⟩ := I.tuple h
  obtain ⟨its', r', ⟨o', e', _, n', d'⟩, _⟩ := I.tuple h'
  rw [e] at e'; cases e'
  rw [d] at d'
  injection d' with d1 _
  have : its = its' := by simpa using congrArg Array.toList d1
  subst this
  exact r.inj r'
end

/-! ### another wish about exceptions -/
abbrev Cx.wish (X : Cx) (E : Value → Shared → Prop) : Cx := { X with xe := E }
/-- no exception leaves -/
abbrev Cx.nox (X : Cx) : Cx := X.wish fun _ _ => False
theorem Cx.Ok.wish {X : Cx} (ok : X.Ok) (E : Value → Shared → Prop) : (X.wish E).Ok :=
  ⟨ok.mod, ok.kind, ok.glob, ok.blt, ok.above, ok.inj, ok.has, ok.cab, ok.hd, ok.frames, ok.stk, ok.exf, ok.bs, ok.bsz, ok.noex, ok.exfs, ok.funs, ok.frf⟩
theorem Cx.Ok.unwish {X : Cx} {E : Value → Shared → Prop} (ok : (X.wish E).Ok) : X.Ok :=
  ⟨ok.mod, ok.kind, ok.glob, ok.blt, ok.above, ok.inj, ok.has, ok.cab, ok.hd, ok.frames, ok.stk, ok.exf, ok.bs, ok.bsz, ok.noex, ok.exfs, ok.funs, ok.frf⟩
section
variable {X : Cx} {pins : List (Addr × Obj)} {σ : St} {H : Hp} {s : Shared} {E : Value → Shared → Prop}
theorem Inv.wish (I : Inv X pins σ H s) (E : Value → Shared → Prop) : Inv (X.wish E) pins σ H s := ⟨I.ok.wish E, I.os, I.bare, I.base, I.loc, I.cell, I.free, I.freeC, I.pin, I.hok, I.len⟩
theorem Inv.unwish (I : Inv (X.wish E) pins σ H s) : Inv X pins σ H s := ⟨I.ok.unwish, I.os, I.bare, I.base, I.loc, I.cell, I.free, I.freeC, I.pin, I.hok, I.len⟩
theorem SP.unwish {D : Ends} {f : Flow} {s' : Shared} (h : SP (X.wish E) pins D f s') : SP X pins D f s' := by
  cases f with
  | next => obtain ⟨σ', H', I, q⟩ := h; exact ⟨σ', H', I.unwish, q⟩
  | brk => obtain ⟨σ', H', I, q⟩ := h; exact ⟨σ', H', I.unwish, q⟩
  | cont => obtain ⟨σ', H', I, q⟩ := h; exact ⟨σ', H', I.unwish, q⟩
  | ret u => obtain ⟨v, σ', H', I, r, q⟩ := h; exact ⟨v, σ', H', I.unwish, r, q⟩
theorem PSs.nox {st : List Stmt} {t : TS} (h : PSs X.nox st t) : PSs X st t := fun pins s σ H D I hw =>
  wpAny_mono (h pins s σ H D (I.wish _) hw) (fun _ _ q => q.unwish) fun _ _ z => False.elim z
end

/-! ### blocks and small statements -/
section
variable {X : Cx} {st : Stmt} {rest : List Stmt} {t u : TS} {e : Expr} {te : TE} {pos : Pos}
def tNext : TS := fun D σ H => D.nx σ H
def tSeq (t u : TS) : TS := fun D σ H => t { D with nx := u D } σ H
theorem pss_nil : PSs X [] tNext := fun _ _ σ H _ I h => wpAny_execs_nil ⟨σ, H, I, h⟩
theorem pss_cons (h1 : PS X st t) (h2 : PSs X rest u) : PSs X (st :: rest) (tSeq t u) := by
  intro pins s σ H D I h
  refine wpAny_execs_cons (thn (h1 pins s σ H { D with nx := u D } I h) fun f s1 q => ?_)
  cases f with
  | next =>
    obtain ⟨σ', H', I', q⟩ := q
    exact h2 pins s1 σ' H' D I' q
  | ret v => exact q
  | brk => exact q
  | cont => exact q
theorem pss_one (h1 : PS X st t) : PSs X [st] t := by
  intro pins s σ H D I h
  refine wpAny_execs_cons (thn (h1 pins s σ H D I h) fun f s1 q => ?_)
  cases f with
  | next => exact wpAny_execs_nil q
  | ret v => exact q
  | brk => exact q
  | cont => exact q
/-- in a def's body nothing is shown -/
theorem Inv.quiet {pins : List (Addr × Obj)} {σ : St} {H : Hp} {s : Shared} (I : Inv X pins σ H s) : interactive X.env = false := by simp [interactive, I.ok.kind]
/-- an expression whose value is dropped -/
def tDrop (te : TE) : TS := fun D σ H => te σ H fun _ H1 => D.nx σ H1
theorem ps_expr (he : PE X e te) (hs : swapsWith e none pos.line X.env = pure false := by rfl) : PS X (.Expr e pos) (tDrop te) := by
  intro pins s σ H D I h
  exact wpAny_Expr_any (thn (he pins s σ H _ I h) fun v s1 ⟨x, H1, I1, r1, q1⟩ => ⟨σ, H1, I1, q1⟩) I.quiet hs
def tRet (te : TE) : TS := fun D σ H => te σ H D.rt
theorem ps_ret (he : PE X e te) : PS X (.Return (some e) pos) (tRet te) := by
  intro pins s σ H D I h
  exact wpAny_Return_some (thn (he pins s σ H _ I h) fun v s1 ⟨x, H1, I1, r1, q1⟩ => ⟨x, σ, H1, I1, r1, q1⟩)
def tIfS (c : TT) (t u : TS) : TS := fun D σ H => c σ H fun b H1 => if b = true then t D σ H1 else u D σ H1
theorem ps_if {c : Expr} {a b : List Stmt} {tc : TT} (hc : PT X c tc) (ha : PSs X a t) (hb : PSs X b u) : PS X (.If c a b pos) (tIfS tc t u) := by
  intro pins s σ H D I h
  refine wpAny_If (thn (hc pins s σ H _ I h) fun d s1 ⟨H1, I1, q1⟩ => ?_)
  cases d with
  | true => exact ha pins s1 σ H1 D I1 q1
  | false => exact hb pins s1 σ H1 D I1 q1
end

/-! ### targets -/
abbrev TG := V → St → Hp → (St → Hp → Prop) → Prop
abbrev TGs := List V → St → Hp → (St → Hp → Prop) → Prop
def PG (X : Cx) (target : Expr) (t : TG) : Prop :=
  ∀ (pins : List (Addr × Obj)) (s : Shared) (σ : St) (H : Hp) (v : V) (u : Value) (Q : St → Hp → Prop), Inv X pins σ H s → RelV v u → t v σ H Q →
    wpAny (model X.prog X.w) X.A (assign target X.env u) (fun _ s' => ∃ σ' H', Inv X pins σ' H' s' ∧ Q σ' H') X.xe s
/-- several targets, one after another -/
def PGs (X : Cx) (ts : List Expr) (t : TGs) : Prop :=
  ∀ (pins : List (Addr × Obj)) (s : Shared) (σ : St) (H : Hp) (vs : List V) (us : List Value) (Q : St → Hp → Prop), Inv X pins σ H s → Vals vs us → t vs σ H Q →
    wpAny (model X.prog X.w) X.A (assignInOrder ((assignEach ts X.env).map (·.2)) us) (fun _ s' => ∃ σ' H', Inv X pins σ' H' s' ∧ Q σ' H') X.xe s
section
variable {X : Cx} {pos : Pos}
def gName (i : Nat) : TG := fun v σ H Q => Q (σ.set i (some v)) H
theorem pg_name {i : Nat} {x : Str} (hN : X.N.Nodup) (hi : X.N[i]? = some x) (hx : Loc X.env.scope x) (hf : X.fn x = true ∨ X.env.scope.names.lookup x = some .local := by first | exact .inl rfl | exact .inr rfl | assumption) : PG X (.Name x pos) (gName i) := by
  intro pins s σ H v u Q I r h
  exact wpAny_assign_Name (store_ok I hN hi hx r (fun s' I' => ⟨_, H, I', h⟩) hf)
def gNil : TGs := fun vs σ H Q => vs = [] ∧ Q σ H
def gCons (t : TG) (u : TGs) : TGs := fun vs σ H Q => ∃ v r, vs = v :: r ∧ t v σ H fun σ' H' => u r σ' H' Q
theorem pgs_nil : PGs X [] gNil := by
  intro pins s σ H vs us Q I r h
  obtain ⟨e, h⟩ := h
  subst e
  cases r
  exact assignInOrder_nil ⟨σ, H, I, h⟩
theorem pgs_cons {e : Expr} {es : List Expr} {t : TG} {u : TGs} (h1 : PG X e t) (h2 : PGs X es u)
    (hs : (assignEach (e :: es) X.env).map (·.2) = assign e X.env :: (assignEach es X.env).map (·.2) := by rfl) : PGs X (e :: es) (gCons t u) := by
  intro pins s σ H vs us Q I r h
  obtain ⟨v, vr, e1, h⟩ := h
  subst e1
  cases r with
  | cons r rr =>
    rw [hs]
    refine assignInOrder_cons (thn (h1 pins s σ H _ _ _ I r h) fun _ s1 ⟨σ1, H1, I1, q1⟩ => ?_)
    exact h2 pins s1 σ1 H1 _ _ Q I1 rr q1
/-- (a, b, ..) = a tuple of that length -/
def gTup (K : PySem.W.Frag) (n : Nat) (t : TGs) : TG := fun v σ H Q => ∃ a xs, v = .ref a ∧ SqT K H a xs ∧ xs.length = n ∧ t xs σ H Q
theorem pg_tup {es : List Expr} {k : Nat} {t : TGs} {n : Nat} (hc : X.calm = true) (h : PGs X es t)
    (hn : (assignEach es X.env).length = n := by rfl) (hst : (assignEach es X.env).findIdx? (·.1) = none := by rfl) : PG X (.Tuple es k pos) (gTup X.K n t) := by
  intro pins s σ H v u Q I r hw
  obtain ⟨a, xs, e1, hq, hl, hw⟩ := hw
  subst e1
  cases r
  obtain ⟨its, rv, ht, hz⟩ := I.tuple hq
  refine assign_Tuple_tuple (I.ok.hd hc) ht (by simp [hn, ← hl, rv.length]) hst fun h' hx => ?_
  have I1 : Inv X pins σ H { s with heap := h' } := I.kept (t' := s.toks) fun b o e => hx b o (Nat.ne_of_lt (Heap.lt_size e)) e
  exact h pins _ σ H xs _ Q I1 (by simpa using rv) hw
/-- target = value -/
def tAsg (te : TE) (g : TG) : TS := fun D σ H => te σ H fun x H1 => g x σ H1 D.nx
theorem ps_asg {tg e : Expr} {te : TE} {g : TG} (he : PE X e te) (hg : PG X tg g) (hs : swapsWithSole [tg] e pos.line X.env = pure false := by rfl) (hw : swappedStores [tg] e X.env = pure none := by rfl)
    (h1 : (assignEach [tg] X.env).map (·.2) = [assign tg X.env] := by rfl) : PS X (.Assign [tg] e pos) (tAsg te g) := by
  intro pins s σ H D I h
  refine wpAny_Assign_stores (thn (he pins s σ H _ I h) fun v s1 ⟨x, H1, I1, r1, q1⟩ => ?_) hs hw
  rw [h1]
  exact thn (hg pins s1 σ H1 x v _ I1 r1 q1) fun _ s2 q => q
/-- name = value -/
theorem ps_set {i : Nat} {x : Str} {e : Expr} {te : TE} {pos' : Pos} (hN : X.N.Nodup) (hi : X.N[i]? = some x) (hx : Loc X.env.scope x) (he : PE X e te) (hs : swapsWith e (some (.Name x pos')) pos.line X.env = pure false := by rfl) (hf : X.fn x = true ∨ X.env.scope.names.lookup x = some .local := by first | exact .inl rfl | exact .inr rfl | assumption) :
    PS X (.Assign [.Name x pos'] e pos) (tAsg te (gName i)) := by
  intro pins s σ H D I h
  refine wpAny_Assign_Name (thn (he pins s σ H _ I h) fun v s1 ⟨y, H1, I1, r1, q1⟩ => ?_) hs
  exact store_ok I1 hN hi hx r1 (fun s2 I2 => ⟨_, H1, I2, q1⟩) hf
end

/-! ### while -/
section
variable {X : Cx} {pos : Pos}
end

/-! ### what a loop or a comprehension walks -/
/-- at turn i: it yields x (the heap may grow), or it stops -/
structure It where
  go : Nat → Hp → Prop
  yld : Nat → Hp → V → Hp → Prop
  stop : Nat → Hp → Prop
/-- the iterator's own objects may turn: they are not the frame's, not pinned, younger than the entry (or a comprehension's own) -/
def FpOk (X : Cx) (pins : List (Addr × Obj)) (H : Hp) (b : Addr) : Prop :=
  H b = none ∧ b ≠ X.env.locals ∧ b ∉ X.fs ∧ (b ∈ X.ex ∨ X.s₀.heap.objs.size ≤ b) ∧ (∀ x c, X.env.cells.lookup x = some c → c ≠ b) ∧ ∀ p ∈ X.pn ++ pins, p.1 ≠ b
theorem Inv.fpOk {X : Cx} {pins : List (Addr × Obj)} {σ : St} {H H' : Hp} {s : Shared} {b : Addr} (I : Inv X pins σ H s) (hb : s.heap.objs.size ≤ b) (hn : H' b = none) : FpOk X pins H' b := by
  refine ⟨hn, Nat.ne_of_gt (Nat.lt_of_lt_of_le I.lt hb), I.nofs hb, .inr (Nat.le_trans I.sz hb), fun x c e z => ?_, fun p hp z => ?_⟩
  · obtain ⟨v, q⟩ := I.cell x c e
    exact absurd (Nat.lt_of_lt_of_le q.lt (by rw [z]; exact hb)) (Nat.lt_irrefl _)
  · exact absurd (Nat.lt_of_lt_of_le (Heap.lt_size (I.pin p hp).1) (by rw [z]; exact hb)) (Nat.lt_irrefl _)
structure TurnG (Cm : Cx → Prop) (P : Program) (w : World) (K : PySem.W.Frag) (tg : Expr) (J : It) (fp : List Addr) (it : Addr) (tn : Nat → Heap → Prop) : Prop where
  mem : it ∈ fp
  obj : ∀ i h, tn i h → ∀ b ∈ fp, ∃ o, h.get? b = some o ∧ ∀ v, o.data ≠ .cell v
  keep : ∀ i h h', tn i h → (∀ b ∈ fp, ∀ o, h.get? b = some o → h'.get? b = some o) → tn i h'
  item : ∀ (X : Cx), X.prog = P → X.w = w → X.K = K → Cm X → ∀ (i : Nat) (pins : List (Addr × Obj)) (s : Shared) (σ : St) (H : Hp) (E : Value → Shared → Prop), Inv X pins σ H s → (∀ b ∈ fp, FpOk X pins H b) → tn i s.heap → J.go i H →
    wpAny (model P w) X.A (pyNext (.ref it)) (fun r s1 => ∃ u, r = some u ∧
      wpAny (model P w) X.A (letOwnedTupleGo tg (.ref it) u) (fun _ s2 => ∃ x H', Inv X pins σ H' s2 ∧ RelV x u ∧ J.yld i H x H' ∧ tn (i + 1) s2.heap ∧ ∀ b ∈ fp, H' b = none) E s1) E s
  done : ∀ (X : Cx), X.prog = P → X.w = w → X.K = K → Cm X → ∀ (i : Nat) (pins : List (Addr × Obj)) (s : Shared) (σ : St) (H : Hp) (E : Value → Shared → Prop), Inv X pins σ H s → (∀ b ∈ fp, FpOk X pins H b) → tn i s.heap → J.stop i H →
    wpAny (model P w) X.A (pyNext (.ref it)) (fun r s1 => r = none ∧ Inv X pins σ H s1) E s
  self : ∀ (A : Around) (i : Nat) (s : Shared) (Q : Value → Shared → Prop) (E : Value → Shared → Prop), tn i s.heap → Q (.ref it) s → wpAny (model P w) A (pyIter (.ref it)) Q E s
abbrev Turn (P : Program) (w : World) (K : PySem.W.Frag) (tg : Expr) (J : It) (fp : List Addr) (it : Addr) (tn : Nat → Heap → Prop) : Prop := TurnG (fun X => X.calm = true) P w K tg J fp it tn
abbrev TI := St → Hp → (It → Hp → Prop) → Prop
/-- an iterator has come -/
def PIE (X : Cx) (pins : List (Addr × Obj)) (σ : St) (tg : Expr) (R : It → Hp → Prop) (itv : Value) (s2 : Shared) : Prop :=
  ∃ (it : Addr) (fp : List Addr) (tn : Nat → Heap → Prop) (J : It) (H' : Hp), itv = .ref it ∧ Inv X pins σ H' s2 ∧ Turn X.prog X.w X.K tg J fp it tn ∧ tn 0 s2.heap ∧ (∀ b ∈ fp, FpOk X pins H' b) ∧ R J H'
def PI (X : Cx) (tg iter : Expr) (wi : TI) : Prop :=
  ∀ (pins : List (Addr × Obj)) (s : Shared) (σ : St) (H : Hp) (R : It → Hp → Prop), Inv X pins σ H s → wi σ H R →
    wpAny (model X.prog X.w) X.A (eval iter X.env) (fun v s1 => wpAny (model X.prog X.w) X.A (pyIter v) (PIE X pins σ tg R) X.xe s1) X.xe s

/-- the step ahead of the store is nothing for an iterator that keeps no tuple -/
theorem go_of {M : Model} {A : Around} {E : Value → Shared → Prop} {s : Shared} {tg : Expr} {it : Addr} {u : Value} {o : Obj} {n : String} {vs : Array Value} {Q : Unit → Shared → Prop} (ho : s.heap.get? it = some o) (hc : o.cls = .type n) (hd : o.data = .fields vs)
    (hn : ["enumerate", "zip", "dict_itemiterator", "dict_reverseitemiterator", "odict_iterator", "itertools.zip_longest", "itertools.pairwise"].contains n = false) (hQ : Q () s) : wpAny M A (letOwnedTupleGo tg (.ref it) u) Q E s := by
  unfold letOwnedTupleGo
  cases tg <;> first
    | exact wpAny_pure hQ
    | (cases u <;> first
        | exact wpAny_pure hQ
        | (refine wpAny_bind (wpAny_load ho ?_)
           rw [hc, hd]
           show wpAny M A (if (["enumerate", "zip", "dict_itemiterator", "dict_reverseitemiterator", "odict_iterator", "itertools.zip_longest", "itertools.pairwise"].contains n && vs[0]? == some (rawInt _)) = true then _ else _) Q E s
           rw [if_neg (by intro h; rw [hn, Bool.false_and] at h; cases h)]
           exact wpAny_pure hQ))

/-- the list at a, as it stands at each turn (a loop may append to it) -/
def Itl (K : PySem.W.Frag) (a : Addr) : It :=
  ⟨fun i H => ∃ xs x, SqL K H a xs ∧ xs[i]? = some x, fun i H x H' => H' = H ∧ ∀ xs, SqL K H a xs → xs[i]? = some x, fun i H => ∃ xs, SqL K H a xs ∧ xs.length ≤ i⟩
def Itt (K : PySem.W.Frag) (a : Addr) : It :=
  ⟨fun i H => ∃ xs x, SqT K H a xs ∧ xs[i]? = some x, fun i H x H' => H' = H ∧ ∀ xs, SqT K H a xs → xs[i]? = some x, fun i H => ∃ xs, SqT K H a xs ∧ xs.length ≤ i⟩
/-- lo, lo + 1, .. (n of them) -/
def Itr (lo : Int) (n : Nat) : It := ⟨fun i _ => i < n, fun i H x H' => H' = H ∧ x = .int (lo + i), fun i _ => n ≤ i⟩
theorem turn_list {P : Program} {w : World} {K : PySem.W.Frag} {tg : Expr} (a it : Addr) : Turn P w K tg (Itl K a) [it] it (fun i h => h.IsListIter it a i) where
  mem := by simp
  obj := fun i h st b hb => by
    have e : b = it := by simpa using hb
    subst e
    obtain ⟨o, e, c, d⟩ := st
    exact ⟨o, e, fun v z => by rw [d] at z; cases z⟩
  keep := fun i h h' st k => st.at fun o e => k it (by simp) o e
  item := by
    intro X hP hw hK hc i pins s σ H E I hf st hg
    subst hP hw hK
    obtain ⟨xs, x, hq, hx⟩ := hg
    obtain ⟨its, rv, p, hz⟩ := I.list hq
    obtain ⟨u, hu, ru⟩ := rv.get hx
    obtain ⟨f0, f1, f2, f3, f4, f5⟩ := hf it (by simp)
    refine wpAny_pyNext_list_item st p.isList (x := u) (by simpa using hu) fun h' st' sb => ?_
    have I1 : Inv X pins σ H { s with heap := h' } := I.turned (t' := s.toks) (fun b o hb e => (sb.2 b hb).trans e) f0 f1 f3 f4 f5
    obtain ⟨o, e, c, d⟩ := id st'
    exact ⟨u, rfl, go_of (s := { s with heap := h' }) e c d (by decide) ⟨x, H, I1, ru, ⟨rfl, fun ys hy => by rw [I.list_inj hy hq]; exact hx⟩, st', fun b hb => (hf b hb).1⟩⟩
  done := by
    intro X hP hw hK hc i pins s σ H E I hf st hg
    subst hP hw hK
    obtain ⟨xs, hq, hx⟩ := hg
    obtain ⟨its, rv, p, hz⟩ := I.list hq
    obtain ⟨f0, f1, f2, f3, f4, f5⟩ := hf it (by simp)
    have hl := rv.length
    exact wpAny_pyNext_list_end (I.ok.hd hc) st p.isList (by simp; omega) fun h' eb => ⟨rfl, I.turned (t' := s.toks) (fun b o hb e => eb b o hb e) f0 f1 f3 f4 f5⟩
  self := fun _ _ _ _ _ st h => wpAny_pyIter_listiter st h
theorem turn_tuple {P : Program} {w : World} {K : PySem.W.Frag} {tg : Expr} (a it : Addr) : Turn P w K tg (Itt K a) [it] it (fun i h => h.IsTupleIter it a i) where
  mem := by simp
  obj := fun i h st b hb => by
    have e : b = it := by simpa using hb
    subst e
    obtain ⟨o, e, c, d⟩ := st
    exact ⟨o, e, fun v z => by rw [d] at z; cases z⟩
  keep := fun i h h' st k => st.at fun o e => k it (by simp) o e
  item := by
    intro X hP hw hK hc i pins s σ H E I hf st hg
    subst hP hw hK
    obtain ⟨xs, x, hq, hx⟩ := hg
    obtain ⟨its, rv, p, hz⟩ := I.tuple hq
    obtain ⟨u, hu, ru⟩ := rv.get hx
    obtain ⟨f0, f1, f2, f3, f4, f5⟩ := hf it (by simp)
    refine wpAny_pyNext_tuple_item st (show s.heap.IsTuple a its.toArray from p) (x := u) (by simpa using hu) fun h' st' sb => ?_
    have I1 : Inv X pins σ H { s with heap := h' } := I.turned (t' := s.toks) (fun b o hb e => (sb.2 b hb).trans e) f0 f1 f3 f4 f5
    obtain ⟨o, e, c, d⟩ := id st'
    exact ⟨u, rfl, go_of (s := { s with heap := h' }) e c d (by decide) ⟨x, H, I1, ru, ⟨rfl, fun ys hy => by rw [I.tuple_inj hy hq]; exact hx⟩, st', fun b hb => (hf b hb).1⟩⟩
  done := by
    intro X hP hw hK hc i pins s σ H E I hf st hg
    subst hP hw hK
    obtain ⟨xs, hq, hx⟩ := hg
    obtain ⟨its, rv, p, hz⟩ := I.tuple hq
    obtain ⟨f0, f1, f2, f3, f4, f5⟩ := hf it (by simp)
    have hl := rv.length
    exact wpAny_pyNext_tuple_end (I.ok.hd hc) st (show s.heap.IsTuple a its.toArray from p) (by simp; omega) fun h' eb => ⟨rfl, I.turned (t' := s.toks) (fun b o hb e => eb b o hb e) f0 f1 f3 f4 f5⟩
  self := fun _ _ _ _ _ st h => wpAny_pyIter_tupleiter st h
theorem turn_range {P : Program} {w : World} {K : PySem.W.Frag} {tg : Expr} (it : Addr) (lo : Int) (n : Nat) : Turn P w K tg (Itr lo n) [it] it (fun i h => IsRangeIter h it (lo + (i : Nat) * 1) ((n : Int) - (i : Nat)) 1) where
  mem := by simp
  obj := fun i h st b hb => by
    have e : b = it := by simpa using hb
    subst e
    exact ⟨_, st, fun v z => by
      have z' : Data.fields _ = Data.cell v := z
      cases z'⟩
  keep := fun i h h' st k => k it (by simp) _ st
  item := by
    intro X hP hw hK hc i pins s σ H E I hf st hg
    subst hP hw hK
    obtain ⟨f0, f1, f2, f3, f4, f5⟩ := hf it (by simp)
    have W := Walks.range (prog := X.prog) (w := X.w) (I.ok.hd hc) it lo 1 n
    refine W.item i s _ _ hg st fun v h' tk hv st' kk => ?_
    obtain ⟨t, rfl⟩ := hv
    have I1 : Inv X pins σ H { s with heap := h', toks := tk } := I.turned (fun b o hb e => kk b o (by simpa using hb) e) f0 f1 f3 f4 f5
    refine ⟨_, rfl, go_of (s := { s with heap := h', toks := tk }) (n := "range_iterator") st' rfl rfl (by decide) ⟨.int (lo + i), H, I1, ⟨t, ?_⟩, ⟨rfl, rfl⟩, st', fun b hb => (hf b hb).1⟩⟩
    rw [Int.mul_one]
  done := by
    intro X hP hw hK hc i pins s σ H E I hf st hg
    subst hP hw hK
    obtain ⟨f0, f1, f2, f3, f4, f5⟩ := hf it (by simp)
    exact wpAny_pyNext_range_end (I.ok.hd hc) st (by have : n ≤ i := hg; omega) fun h' eb => ⟨rfl, I.turned (t' := s.toks) (fun b o hb e => eb b o hb e) f0 f1 f3 f4 f5⟩
  self := fun _ _ _ _ _ st h => wpAny_pyIter_rangeiter st h
end L2

namespace L2
open PySem PySem.Spec PyProof.Rows
section
variable {X : Cx} {tg : Expr}
def iList (K : PySem.W.Frag) (tl : TE) : TI := fun σ H R => tl σ H fun x H1 => ∃ a, x = .ref a ∧ (∃ xs, SqL K H1 a xs) ∧ R (Itl K a) H1
def iTup (K : PySem.W.Frag) (tl : TE) : TI := fun σ H R => tl σ H fun x H1 => ∃ a, x = .ref a ∧ (∃ xs, SqT K H1 a xs) ∧ R (Itt K a) H1
theorem pi_list {l : Expr} {tl : TE} (hl : PE X l tl) : PI X tg l (iList X.K tl) := by
  intro pins s σ H R I h
  refine thn (hl pins s σ H _ I h) fun v s1 ⟨x, H1, I1, r1, q1⟩ => ?_
  obtain ⟨a, e, ⟨xs, hq⟩, q⟩ := q1
  subst e
  cases r1
  obtain ⟨its, rv, p, hz⟩ := I1.list hq
  refine wpAny_pyIter_list p.isList ?_
  refine ⟨s1.heap.objs.size, [s1.heap.objs.size], _, _, H1, rfl, I1.kept (t' := s1.toks) fun b o e => Heap.get?_push_of_some _ e, turn_list a _, ⟨_, Heap.get?_push_size _ rfl, rfl, rfl⟩, fun b hb => ?_, q⟩
  have e : b = s1.heap.objs.size := by simpa using hb
  subst e
  exact I1.fpOk (Nat.le_refl _) (I1.hok.fresh (Nat.le_refl _))
theorem pi_tup {l : Expr} {tl : TE} (hl : PE X l tl) : PI X tg l (iTup X.K tl) := by
  intro pins s σ H R I h
  refine thn (hl pins s σ H _ I h) fun v s1 ⟨x, H1, I1, r1, q1⟩ => ?_
  obtain ⟨a, e, ⟨xs, hq⟩, q⟩ := q1
  subst e
  cases r1
  obtain ⟨its, rv, p, hz⟩ := I1.tuple hq
  refine wpAny_pyIter_tuple (show s1.heap.IsTuple a its.toArray from p) ?_
  refine ⟨s1.heap.objs.size, [s1.heap.objs.size], _, _, H1, rfl, I1.kept (t' := s1.toks) fun b o e => Heap.get?_push_of_some _ e, turn_tuple a _, ⟨_, Heap.get?_push_size _ rfl, rfl, rfl⟩, fun b hb => ?_, q⟩
  have e : b = s1.heap.objs.size := by simpa using hb
  subst e
  exact I1.fpOk (Nat.le_refl _) (I1.hok.fresh (Nat.le_refl _))
/-- a range object just made, walked -/
theorem range_it {pins : List (Addr × Obj)} {σ : St} {H : Hp} {s : Shared} {R : It → Hp → Prop} {E : Value → Shared → Prop} {lo hi : Int} {t u v : Tok} {tk : Nat} (I : Inv X pins σ H s) (h1 : -(2 ^ 62) ≤ lo) (h2 : lo < 2 ^ 62) (h3 : -(2 ^ 62) ≤ hi) (h4 : hi < 2 ^ 62)
    (q : R (Itr lo (hi - lo).toNat) H) : wpAny (model X.prog X.w) X.A (pyIter (.ref s.heap.objs.size)) (PIE X pins σ tg R) E { s with heap := s.heap.push { cls := .type "range", data := .fields #[.int lo t, .int hi u, .int 1 v] }, toks := tk } := by
  refine wpAny_pyIter_range (IsRange.new ..) (small_one h1 h2 h3 h4) ?_
  have I1 : Inv X pins σ H { s with heap := s.heap.push { cls := .type "range", data := .fields #[.int lo t, .int hi u, .int 1 v] }, toks := tk } := I.kept fun b o e => Heap.get?_push_of_some _ e
  refine ⟨(s.heap.push { cls := .type "range", data := .fields #[.int lo t, .int hi u, .int 1 v] }).objs.size, [(s.heap.push { cls := .type "range", data := .fields #[.int lo t, .int hi u, .int 1 v] }).objs.size], _, _, H, rfl,
    I1.kept (t' := tk) fun b o e => Heap.get?_push_of_some _ e, turn_range _ lo (hi - lo).toNat, ?_, fun b hb => ?_, q⟩
  · have e1 : lo + ((0 : Nat) : Int) * 1 = lo := by simp
    have e2 : (((hi - lo).toNat : Nat) : Int) - ((0 : Nat) : Int) = Builtin.Range.rangeSize lo hi 1 := by rw [rangeSize_one]; split <;> omega
    show IsRangeIter _ _ (lo + ((0 : Nat) : Int) * 1) ((((hi - lo).toNat : Nat) : Int) - ((0 : Nat) : Int)) 1
    rw [e1, e2]
    exact Heap.get?_push_size _ rfl
  · have e : b = (s.heap.push { cls := .type "range", data := .fields #[.int lo t, .int hi u, .int 1 v] }).objs.size := by simpa using hb
    subst e
    exact I1.fpOk (Nat.le_refl _) (I1.hok.fresh (Nat.le_refl _))
def iRng1 (ta : TA) : TI := fun σ H R => ta σ H fun vs H1 => ∃ j : Int, vs = [.int j] ∧ -(2 ^ 62) ≤ j ∧ j < 2 ^ 62 ∧ R (Itr 0 j.toNat) H1
def iRng2 (ta : TA) : TI := fun σ H R => ta σ H fun vs H1 => ∃ i j : Int, vs = [.int i, .int j] ∧ (-(2 ^ 62) ≤ i ∧ i < 2 ^ 62 ∧ -(2 ^ 62) ≤ j ∧ j < 2 ^ 62) ∧ R (Itr i (j - i).toNat) H1
theorem pi_range1 {a : Expr} {ta : TA} {p pos : Pos} (hg : Gl X "range") (hm : X.mg "range" = none) (ha : PA X [a] ta) (hs : starEach [a] X.env = [(false, eval a X.env)] := by rfl) : PI X tg (.Call (.Name "range" p) [a] [] pos) (iRng1 ta) := by
  intro pins s σ H R I h
  refine Call_ (ld_blt I hg hm boot_range (PyProof.Rows.callWith_type1 (thn (ha pos pins s σ H _ I h) fun us s1 ⟨vs, H1, I1, r1, q1⟩ => ?_) hs rfl))
  obtain ⟨j, e, q1, q2, q⟩ := q1
  subst e
  cases r1 with
  | cons r rr =>
    cases rr
    obtain ⟨t, rfl⟩ := r
    exact call_range_1 (range_it I1 (by omega) (by omega) q1 q2 (by simpa using q))
theorem pi_range2 {a b : Expr} {ta : TA} {p pos : Pos} (hg : Gl X "range") (hm : X.mg "range" = none) (ha : PA X [a, b] ta) (hs : starEach [a, b] X.env = [(false, eval a X.env), (false, eval b X.env)] := by rfl) (hs2 : starEach [b] X.env = [(false, eval b X.env)] := by rfl) :
    PI X tg (.Call (.Name "range" p) [a, b] [] pos) (iRng2 ta) := by
  intro pins s σ H R I h
  refine Call_ (ld_blt I hg hm boot_range (PyProof.Rows.callWith_type1 (thn (ha pos pins s σ H _ I h) fun us s1 ⟨vs, H1, I1, r1, q1⟩ => ?_) (by rw [hs, hs2]) (by rw [hs2]; rfl)))
  obtain ⟨i, j, e, ⟨q1, q2, q3, q4⟩, q⟩ := q1
  subst e
  cases r1 with
  | cons r rr =>
    cases rr with
    | cons r' rr =>
      cases rr
      obtain ⟨t, rfl⟩ := r
      obtain ⟨t', rfl⟩ := r'
      exact call_range_2 (range_it I1 q1 q2 q3 q4 q)

/-! ### for -/
/-- W: the invariant by the turn and a measure; N: what the body is to reach -/
def tFor (wi : TI) (g : TG) (tb : TS) : TS := fun D σ H => wi σ H fun J H1 => ∃ W : Nat → Nat → St → Hp → Prop, (∃ m, W 0 m σ H1) ∧ ∀ i m σ H, W i m σ H →
  (J.stop i H ∧ D.nx σ H) ∨ (J.go i H ∧ ∃ N : St → Hp → Prop, (∀ σ' H', N σ' H' → ∃ m', m' < m ∧ W (i + 1) m' σ' H') ∧ ∀ x H', J.yld i H x H' → g x σ H' fun σ2 H2 => tb { D with nx := N, ct := N, bk := D.nx } σ2 H2)
/-- the records at fp as they stand -/
def pinsAt (fp : List Addr) (h : Heap) : List (Addr × Obj) := fp.filterMap fun b => (h.get? b).map fun o => (b, o)
theorem mem_pinsAt {fp : List Addr} {h : Heap} {b : Addr} {o : Obj} (hb : b ∈ fp) (e : h.get? b = some o) : (b, o) ∈ pinsAt fp h := List.mem_filterMap.mpr ⟨b, hb, by rw [e]; rfl⟩
theorem of_pinsAt {fp : List Addr} {h : Heap} {p : Addr × Obj} (hp : p ∈ pinsAt fp h) : p.1 ∈ fp ∧ h.get? p.1 = some p.2 := by
  obtain ⟨b, hb, e⟩ := List.mem_filterMap.mp hp
  cases q : h.get? b with
  | none => rw [q] at e; cases e
  | some o =>
    rw [q] at e
    have e' : (b, o) = p := Option.some.inj e
    subst e'
    exact ⟨hb, q⟩
theorem Inv.pinned {pins : List (Addr × Obj)} {σ : St} {H : Hp} {s : Shared} {fp : List Addr} (I : Inv X pins σ H s) (hf : ∀ b ∈ fp, FpOk X pins H b) (ho : ∀ b ∈ fp, ∃ o, s.heap.get? b = some o ∧ ∀ v, o.data ≠ .cell v) : Inv X (pins ++ pinsAt fp s.heap) σ H s :=
  I.pins_of fun p hp => (List.mem_append.mp hp).elim (fun z => I.pin p (List.mem_append_right _ z)) fun z => by
    obtain ⟨hb, e⟩ := of_pinsAt z
    obtain ⟨f0, f1, f2, _⟩ := hf p.1 hb
    obtain ⟨o, e', d⟩ := ho p.1 hb
    rw [e] at e'; cases e'
    exact ⟨e, f0, f1, f2, d⟩
theorem Inv.unpinned {pins pl : List (Addr × Obj)} {σ : St} {H : Hp} {s : Shared} (I : Inv X (pins ++ pl) σ H s) : Inv X pins σ H s := I.pins_of fun p hp => I.pin p (List.mem_append_right _ (List.mem_append_left _ hp))
theorem ps_for {iter : Expr} {body : List Stmt} {wi : TI} {g : TG} {tb : TS} {pos : Pos} (hp : PassesOwn (model X.prog X.w) X.A X.env X.xe) (hc : X.calm = true) (hi : PI X tg iter wi) (hg : PG X tg g) (hb : PSs X body tb)
    (hs : ∀ x, foldedSetIterable iter X.env x = pure x := by intro _; rfl) : PS X (.For tg iter body [] pos) (tFor wi g tb) := by
  intro pins s σ H D I h
  refine wpAny_For (thn (hi pins s σ H _ I h) fun v s1 h1 => thn h1 fun itv s2 h2 => ?_) hs
  obtain ⟨it, fp, tn, J, H2, e, I2, T, st2, f2, W, ⟨m0, w0⟩, turn⟩ := h2
  subst e
  -- what stays true of the iterator's objects through the loop
  have stat : ∀ {H' : Hp}, (∀ b ∈ fp, H' b = none) → ∀ b ∈ fp, FpOk X pins H' b := fun hn b hb => ⟨hn b hb, (f2 b hb).2⟩
  refine codeAny_forLoop_any (fun n s' => ∃ i σ' H', Inv X pins σ' H' s' ∧ tn i s'.heap ∧ (∀ b ∈ fp, H' b = none) ∧ W i n σ' H') ?_ m0 ⟨0, σ, H2, I2, st2, fun b hb => (f2 b hb).1, w0⟩
  rintro n s3 ⟨i, σ3, H3, I3, st3, fr3, w3⟩
  rcases turn i n σ3 H3 w3 with ⟨stop, qn⟩ | ⟨go, N, hN, step⟩
  · refine wpAny_passesOwn hp (thn (T.done X rfl rfl rfl hc i pins s3 σ3 H3 X.xe I3 (stat fr3) st3 stop) fun r s4 ⟨hr, I4⟩ => ?_)
    subst hr
    exact wpAny_execs_nil ⟨σ3, H3, I4, qn⟩
  · refine wpAny_passesOwn hp (thn (T.item X rfl rfl rfl hc i pins s3 σ3 H3 X.xe I3 (stat fr3) st3 go) fun r s4 ⟨u, hr, h4⟩ => ?_)
    subst hr
    refine wpAny_passesOwn hp (thn h4 fun _ s5 ⟨x, H5, I5, r5, y5, st5, fr5⟩ => ?_)
    have I5' := I5.pinned (stat fr5) (T.obj _ _ st5)
    refine wpAny_passesOwn hp (thn (hg _ s5 σ3 H5 x u _ I5' r5 (step x H5 y5)) fun _ s6 ⟨σ6, H6, I6, q6⟩ => ?_)
    refine wpAny_passesOwn hp (thn (hb _ s6 σ6 H6 _ I6 q6) fun f s7 q7 => ?_)
    have again : ∀ {σ7 : St} {H7 : Hp}, Inv X (pins ++ pinsAt fp s5.heap) σ7 H7 s7 → N σ7 H7 → ∃ m, m < n ∧ ∃ i σ' H', Inv X pins σ' H' s7 ∧ tn i s7.heap ∧ (∀ b ∈ fp, H' b = none) ∧ W i m σ' H' := fun {σ7 H7} I7 n7 => by
      obtain ⟨m', hm, w7⟩ := hN σ7 H7 n7
      refine ⟨m', hm, i + 1, σ7, H7, I7.unpinned, T.keep _ _ _ st5 fun b hb o e => (I7.pin (b, o) (List.mem_append_right _ (List.mem_append_right _ (mem_pinsAt hb e)))).1, fun b hb => ?_, w7⟩
      obtain ⟨o, e, d⟩ := T.obj _ _ st5 b hb
      exact (I7.pin (b, o) (List.mem_append_right _ (List.mem_append_right _ (mem_pinsAt hb e)))).2.1
    cases f with
    | next => obtain ⟨σ7, H7, I7, n7⟩ := q7; exact again I7 n7
    | cont => obtain ⟨σ7, H7, I7, n7⟩ := q7; exact again I7 n7
    | brk => obtain ⟨σ7, H7, I7, q7⟩ := q7; exact ⟨σ7, H7, I7.unpinned, q7⟩
    | ret v => obtain ⟨x7, σ7, H7, I7, r7, q7⟩ := q7; exact ⟨x7, σ7, H7, I7.unpinned, r7, q7⟩
end

/-! ### the forms one uses -/
end L2

namespace L2
open PySem PySem.Spec PyProof.Rows

abbrev R2 := V → V → Hp → VK → Prop
/-- a two-place operation on values: f is binaryOp op, inplaceOp op or compareOp op -/
def OpR (X : Cx) (f : Value → Value → Sem Value) (r : R2) : Prop :=
  ∀ (pins : List (Addr × Obj)) (s : Shared) (σ : St) (H : Hp) (x y : V) (v u : Value) (Q : VK), Inv X pins σ H s → RelV x v → RelV y u → r x y H Q →
    wpAny (model X.prog X.w) X.A (f v u) (EP X pins σ Q) X.xe s
/-- a call of a value that is known (a builtin, a type) with values -/
def CallR (X : Cx) (f : Value) (r : List V → Hp → VK → Prop) : Prop :=
  ∀ (pins : List (Addr × Obj)) (s : Shared) (σ : St) (H : Hp) (xs : List V) (us : List Value) (Q : VK), Inv X pins σ H s → Vals xs us → r xs H Q →
    wpAny (model X.prog X.w) X.A (call f us) (EP X pins σ Q) X.xe s
def tOp (r : R2) (ta tb : TE) : TE := fun σ H Q => ta σ H fun x H1 => tb σ H1 fun y H2 => r x y H2 Q
/-- ints in, under C, and a value out -/
def rI (C : Int → Int → Prop) (g : Int → Int → V) : R2 := fun x y H Q => ∃ i j, x = .int i ∧ y = .int j ∧ C i j ∧ Q (g i j) H
def rI0 (g : Int → Int → V) : R2 := fun x y H Q => ∃ i j, x = .int i ∧ y = .int j ∧ Q (g i j) H
section
variable {X : Cx} {a b c : Expr} {ta tb tc : TE} {pos : Pos}

theorem binT (ha : PE X a ta) (hb : PE X b tb) {pins : List (Addr × Obj)} {s : Shared} {σ : St} {H : Hp} {R : V → V → Hp → Prop} (I : Inv X pins σ H s)
    (h : ta σ H fun x H1 => tb σ H1 fun y H2 => R x y H2) {Q : Value → Shared → Prop} {f : Value → Value → Sem Value}
    (hf : ∀ v u s2 x y H2, Inv X pins σ H2 s2 → RelV x v → RelV y u → R x y H2 → wpAny (model X.prog X.w) X.A (f v u) Q X.xe s2) :
    wpAny (model X.prog X.w) X.A (eval a X.env) (fun v s₁ => wpAny (model X.prog X.w) X.A (eval b X.env) (fun u s₂ => wpAny (model X.prog X.w) X.A (f v u) Q X.xe s₂) X.xe s₁) X.xe s := by
  refine thn (ha pins s σ H _ I h) fun v s1 ⟨x, H1, I1, r1, q1⟩ => ?_
  refine thn (hb pins s1 σ H1 _ I1 q1) fun u s2 ⟨y, H2, I2, r2, q2⟩ => ?_
  exact hf v u s2 x y H2 I2 r1 r2 q2

theorem pe_op {op : Operator} {r : R2} (ho : OpR X (binaryOp op) r) (ha : PE X a ta) (hb : PE X b tb) : PE X (.BinOp a op b pos) (tOp r ta tb) := by
  intro pins s σ H Q I h
  exact wpAny_BinOp (binT ha hb I h fun v u s2 x y H2 I2 rx ry q => ho pins s2 σ H2 x y v u Q I2 rx ry q)
/-! ### ints -/
theorem opI {f : Value → Value → Sem Value} {C : Int → Int → Prop} {g : Int → Int → Int}
    (rule : ∀ (i j : Int) (t u : Tok) (s : Shared) (Q : Value → Shared → Prop) (E : Value → Shared → Prop), C i j → Q (.int (g i j) s.toks) { s with toks := s.toks + 1 } → wpAny (model X.prog X.w) X.A (f (.int i t) (.int j u)) Q E s) :
    OpR X f (rI C fun i j => .int (g i j)) := by
  intro pins s σ H x y v u Q I rx ry h
  obtain ⟨i, j, rfl, rfl, hc, q⟩ := h
  obtain ⟨t, rfl⟩ := rx
  obtain ⟨t', rfl⟩ := ry
  exact rule i j t t' s _ _ hc ⟨.int (g i j), H, I.tok _, ⟨_, rfl⟩, q⟩
theorem opI0 {f : Value → Value → Sem Value} {g : Int → Int → Int}
    (rule : ∀ (i j : Int) (t u : Tok) (s : Shared) (Q : Value → Shared → Prop) (E : Value → Shared → Prop), Q (.int (g i j) s.toks) { s with toks := s.toks + 1 } → wpAny (model X.prog X.w) X.A (f (.int i t) (.int j u)) Q E s) :
    OpR X f (rI0 fun i j => .int (g i j)) := by
  intro pins s σ H x y v u Q I rx ry h
  obtain ⟨i, j, rfl, rfl, q⟩ := h
  obtain ⟨t, rfl⟩ := rx
  obtain ⟨t', rfl⟩ := ry
  exact rule i j t t' s _ _ ⟨.int (g i j), H, I.tok _, ⟨_, rfl⟩, q⟩
theorem opB0 {f : Value → Value → Sem Value} {g : Int → Int → Bool}
    (rule : ∀ (i j : Int) (t u : Tok) (s : Shared) (Q : Value → Shared → Prop) (E : Value → Shared → Prop), Q (.bool (g i j)) s → wpAny (model X.prog X.w) X.A (f (.int i t) (.int j u)) Q E s) :
    OpR X f (rI0 fun i j => .bl (g i j)) := by
  intro pins s σ H x y v u Q I rx ry h
  obtain ⟨i, j, rfl, rfl, q⟩ := h
  obtain ⟨t, rfl⟩ := rx
  obtain ⟨t', rfl⟩ := ry
  exact rule i j t t' s _ _ ⟨.bl (g i j), H, I, rfl, q⟩

def CDiv (i j : Int) : Prop := 0 < j ∧ j < 1073741824
theorem op_add : OpR X (binaryOp .Add) (rI0 fun i j => .int (i + j)) := opI0 fun _ _ _ _ _ _ _ q => add_int q
theorem op_sub : OpR X (binaryOp .Sub) (rI0 fun i j => .int (i - j)) := opI0 fun _ _ _ _ _ _ _ q => sub_int q
/-- // by a positive divisor -/
theorem op_fdiv : OpR X (binaryOp .FloorDiv) (rI CDiv fun i j => .int (i / j)) := opI fun i j _ _ _ _ _ hc q => by
  have h1 : (0 : Int) < j := hc.1
  have h2 : j < 1073741824 := hc.2
  exact floordiv_int (by omega) (by rw [Int.fdiv_eq_ediv_of_nonneg i (by omega)]; exact q) (.inl (PyProof.noPylong_small (by omega)))
/-- % by a positive divisor of any size -/
theorem op_mod : OpR X (binaryOp .Mod) (rI (fun _ j => 0 < j) fun i j => .int (i % j)) := opI fun i j _ _ _ _ _ hc q => by
  have h1 : (0 : Int) < j := hc
  exact mod_int' (by omega) (by rw [Int.fmod_eq_emod_of_nonneg i (by omega)]; exact q)
/-! ### bools among ints: n += (a < b) -/
end

/-! ### comparisons -/
section
variable {X : Cx} {a b c : Expr} {ta tb tc : TE} {pos : Pos}
theorem fin_bl {pins : List (Addr × Obj)} {σ : St} {H : Hp} {s : Shared} {Q : VK} {k k' : Bool} (I : Inv X pins σ H s) (q : Q (.bl k) H) (e : k = k') : EP X pins σ Q (.bool k') s := by
  subst e
  exact ⟨.bl k, H, I, rfl, q⟩
theorem op_lt : OpR X (compareOp .Lt) (rI0 fun i j => .bl (decide (i < j))) := opB0 fun _ _ _ _ _ _ _ q => lt_int q
theorem op_gt : OpR X (compareOp .Gt) (rI0 fun i j => .bl (decide (j < i))) := opB0 fun _ _ _ _ _ _ _ q => gt_int q
theorem op_notN : OpR X (compareOp .IsNot) (fun x y H Q => y = .non ∧ Q (.bl (!decide (x = .non))) H) := by
  intro pins s σ H x y v u Q I rx ry h
  obtain ⟨rfl, q⟩ := h
  cases ry
  refine isnot_none_gen (fin_bl I q ?_)
  cases x <;> first
    | (cases rx; rfl)
    | (obtain ⟨t, rfl⟩ := rx; rfl)

theorem nomark (b : Expr) {op : CmpOp} (h : op ≠ .In := by decide) (h2 : op ≠ .NotIn := by decide) : behindInMarks op b = false := by
  have e1 : (op == CmpOp.In) = false := by cases op <;> first | rfl | exact absurd rfl h
  have e2 : (op == CmpOp.NotIn) = false := by cases op <;> first | rfl | exact absurd rfl h2
  cases b <;> simp [behindInMarks, e1, e2]
/-- a comparison as a value; hm: nomark b, or (for in, not in) by with_unfolding_all rfl -/
theorem pe_cmpR {op : CmpOp} {r : R2} (ho : OpR X (compareOp op) r) (ha : PE X a ta) (hb : PE X b tb) (hm : behindInMarks op b = false) : PE X (.Compare a [op] [b] pos) (tOp r ta tb) := by
  intro pins s σ H Q I h
  exact wpAny_Compare1 (binT ha hb I h fun v u s2 x y H2 I2 rx ry q => ho pins s2 σ H2 x y v u Q I2 rx ry q) hm
/-- a reading of a value as a test -/
def tTest (t : TE) : TT := fun σ H Q => t σ H fun x H' => ∃ k, x = .bl k ∧ Q k H'
theorem pt_cmpR {op : CmpOp} {r : R2} (ho : OpR X (compareOp op) r) (ha : PE X a ta) (hb : PE X b tb) (hm : behindInMarks op b = false) : PT X (.Compare a [op] [b] pos) (tTest (tOp r ta tb)) := by
  intro pins s σ H Q I h
  refine wpAny_isTrue_Compare1 (thn (ha pins s σ H _ I h) fun v s1 ⟨x, H1, I1, r1, q1⟩ => thn (hb pins s1 σ H1 _ I1 q1) fun u s2 ⟨y, H2, I2, r2, q2⟩ =>
    thn (ho pins s2 σ H2 x y v u _ I2 r1 r2 q2) fun c s3 ⟨z, H3, I3, r3, k, e, q3⟩ => ?_) hm
  subst e
  cases r3
  exact wpAny_truthy_bool ⟨H3, I3, q3⟩
/-- a op1 b op2 c -/
def tChain (r r' : R2) (ta tb tc : TE) : TE := fun σ H Q => ta σ H fun x H1 => tb σ H1 fun y H2 => r x y H2 fun z H3 => ∃ k, z = .bl k ∧
  (if k = true then tc σ H3 fun w' H4 => r' y w' H4 Q else Q (.bl false) H3)
theorem pt_chain {op op' : CmpOp} {r r' : R2} (ho : OpR X (compareOp op) r) (ho' : OpR X (compareOp op') r') (ha : PE X a ta) (hb : PE X b tb) (hc : PE X c tc)
    (hm : lastMarks [op, op'] [b, c] = false := by with_unfolding_all rfl) : PT X (.Compare a [op, op'] [b, c] pos) (tTest (tChain r r' ta tb tc)) := by
  intro pins s σ H Q I h
  refine isTrue_chain (thn (ha pins s σ H _ I h) fun v s1 ⟨x, H1, I1, r1, q1⟩ => test_link (thn (hb pins s1 σ H1 _ I1 q1) fun u s2 ⟨y, H2, I2, r2, q2⟩ =>
    thn (ho pins s2 σ H2 x y v u _ I2 r1 r2 q2) fun d s3 ⟨z, H3, I3, r3, k, e, q3⟩ => ?_)) hm
  subst e
  cases r3
  refine wpAny_truthy_bool ?_
  cases k with
  | false =>
    obtain ⟨k', e', q'⟩ := q3
    cases e'
    exact ite_ff ⟨H3, I3, q'⟩
  | true =>
    refine ite_tt (test_last (thn (hc pins s3 σ H3 _ I3 q3) fun w' s4 ⟨z', H4, I4, r4, q4⟩ => thn (ho' pins s4 σ H4 y z' u w' _ I4 r2 r4 q4) fun d' s5 ⟨z2, H5, I5, r5, k2, e2, q5⟩ => ?_))
    subst e2
    cases r5
    exact wpAny_truthy_bool ⟨H5, I5, q5⟩

/-! ### truth -/
theorem line63 : (sizeLine : Nat) < 2 ^ 63 := by rw [sizeLine_eq]; decide
/-! ### strs and bytes -/
theorem op_add_str : OpR X (binaryOp .Add) (fun x y H Q => ∃ i j, x = .str i ∧ y = .str j ∧ i.length + j.length ≤ sizeLine ∧ Q (.str (i ++ j)) H) := by
  intro pins s σ H x y v u Q I rx ry h
  obtain ⟨i, j, rfl, rfl, hz, q⟩ := h
  obtain ⟨t, rfl⟩ := rx
  obtain ⟨t', rfl⟩ := ry
  exact add_str (fun t' tk => ⟨.str (i ++ j), H, I.tok _, ⟨_, rfl⟩, q⟩) hz
/-! ### scalar builtins, by CallR -/
theorem vals1 {x : V} {us : List Value} (r : Vals [x] us) : ∃ u, us = [u] ∧ RelV x u := by
  cases r with
  | cons r1 r2 => cases r2; exact ⟨_, rfl, r1⟩
theorem vals2 {x y : V} {us : List Value} (r : Vals [x, y] us) : ∃ u w', us = [u, w'] ∧ RelV x u ∧ RelV y w' := by
  cases r with
  | cons r1 r2 =>
    cases r2 with
    | cons r3 r4 => cases r4; exact ⟨_, _, rfl, r1, r3⟩
theorem call_max2 (hc : X.calm = true) : CallR X (.builtin "max") (fun xs H Q => ∃ i j, xs = [.int i, .int j] ∧ Q (.int (if j > i then j else i)) H) := by
  intro pins s σ H xs us Q I r h
  obtain ⟨i, j, rfl, q⟩ := h
  obtain ⟨u, w', rfl, ⟨t, rfl⟩, ⟨t', rfl⟩⟩ := vals2 r
  refine max_two_ints (I.ok.hd hc) fun h' tk k => ⟨_, H, I.kept k, ?_, q⟩
  by_cases hj : j > i
  · rw [if_pos hj, if_pos hj]; exact ⟨_, rfl⟩
  · rw [if_neg hj, if_neg hj]; exact ⟨_, rfl⟩
theorem call_min2 (hc : X.calm = true) : CallR X (.builtin "min") (fun xs H Q => ∃ i j, xs = [.int i, .int j] ∧ Q (.int (if j < i then j else i)) H) := by
  intro pins s σ H xs us Q I r h
  obtain ⟨i, j, rfl, q⟩ := h
  obtain ⟨u, w', rfl, ⟨t, rfl⟩, ⟨t', rfl⟩⟩ := vals2 r
  refine min_two_ints (I.ok.hd hc) fun h' tk k => ⟨_, H, I.kept k, ?_, q⟩
  by_cases hj : j < i
  · rw [if_pos hj, if_pos hj]; exact ⟨_, rfl⟩
  · rw [if_neg hj, if_neg hj]; exact ⟨_, rfl⟩
theorem call_int1 : CallR X (.type "int") (fun xs H Q => (∃ i, xs = [.int i] ∧ Q (.int i) H) ∨ ∃ k, xs = [.bl k] ∧ Q (.int (if k then 1 else 0)) H) := by
  intro pins s σ H xs us Q I r h
  rcases h with ⟨i, rfl, q⟩ | ⟨k, rfl, q⟩
  · obtain ⟨u, rfl, t, rfl⟩ := vals1 r
    exact call_int_int ⟨.int i, H, I, ⟨_, rfl⟩, q⟩
  · obtain ⟨u, rfl, r1⟩ := vals1 r
    cases r1
    exact call_int_bool ⟨.int (if k then 1 else 0), H, I.tok _, ⟨_, rfl⟩, q⟩
/-- len of a str, a bytes, a list, a tuple -/
def LenV (K : PySem.W.Frag) (x : V) (H : Hp) (n : Nat) : Prop :=
  match x with
  | .str y => y.length ≤ sizeLine ∧ n = y.length
  | .byt y => y.size ≤ sizeLine ∧ n = y.size
  | .ref p => (∃ xs, SqL K H p xs ∧ n = xs.length) ∨ ∃ xs, SqT K H p xs ∧ n = xs.length
  | _ => False
theorem call_len : CallR X (.builtin "len") (fun xs H Q => ∃ x n, xs = [x] ∧ LenV X.K x H n ∧ Q (.int n) H) := by
  intro pins s σ H xs us Q I r h
  obtain ⟨x, n, rfl, e, q⟩ := h
  obtain ⟨u, rfl, rx⟩ := vals1 r
  have hl := line63
  have hs : sizeLine = 16777216 := sizeLine_eq
  cases x with
  | str y =>
    obtain ⟨t, rfl⟩ := rx
    obtain ⟨hy, e'⟩ : y.length ≤ sizeLine ∧ n = y.length := e
    subst e'
    exact len_str (by omega) ⟨.int _, H, I.tok _, ⟨_, rfl⟩, q⟩
  | byt y =>
    obtain ⟨t, rfl⟩ := rx
    obtain ⟨hy, e'⟩ : y.size ≤ sizeLine ∧ n = y.size := e
    subst e'
    exact PySem.W.len_bytes (by omega) ⟨.int _, H, I.tok _, ⟨_, rfl⟩, q⟩
  | ref p =>
    cases rx
    have e' : (∃ xs, SqL X.K H p xs ∧ n = xs.length) ∨ ∃ xs, SqT X.K H p xs ∧ n = xs.length := e
    rcases e' with ⟨xs, hx, e'⟩ | ⟨xs, hx, e'⟩
    · subst e'
      obtain ⟨its, r', pl, hz⟩ := I.list hx
      have hlen := r'.length
      exact Calls.call_len_list pl.isList (by simp only [List.size_toArray]; omega) ⟨.int xs.length, H, I.tok _, ⟨_, by simp only [List.size_toArray]; rw [hlen]⟩, q⟩
    · subst e'
      obtain ⟨its, r', pl, hz⟩ := I.tuple hx
      have hlen := r'.length
      exact len_tuple pl (by simp only [List.size_toArray]; omega) ⟨.int xs.length, H, I.tok _, ⟨_, by simp only [List.size_toArray]; rw [hlen]⟩, q⟩
  | _ => exact (show False from e).elim
end
end L2

namespace L2
open PySem PySem.Spec PyProof.Rows

/-! ### an instance, its attributes a map -/
structure ObjM (h : Heap) (x dx C : Addr) (mA : Str → Option Value) : Prop where
  obj : h.get? x = some (PySem.W.instObj C dx)
  ns : h.Ns1 dx mA
  ne : dx ≠ x

theorem lookIn_ns {h : Heap} {dx : Addr} {mA : Str → Option Value} (n : h.Ns1 dx mA) : ∃ od, h.get? dx = some od ∧ ∀ name, PySem.W.lookIn name od = some (mA name) := by
  obtain ⟨o, es, ep, ho, hd, hk, _, hm⟩ := n
  refine ⟨o, ho, fun name => ?_⟩
  have e := hm name
  unfold nsFind findBy at e
  rw [← Array.find?_toList] at e
  unfold PySem.W.lookIn
  rw [hd]
  dsimp only
  split
  · rename_i y q
    rw [q] at e
    exact congrArg some e
  · rename_i q
    rw [q] at e
    have a : es.toList.any (·.refKey) = false := by
      rw [List.any_eq_false]
      intro y hy
      obtain ⟨z, t, hkey⟩ := hk y (Array.mem_toList_iff.mp hy)
      simp [DictEntry.refKey, hkey]
    have a' : ¬ es.toList.any (·.refKey) = true := by rw [a]; exact Bool.false_ne_true
    rw [if_neg a']
    exact congrArg some e

theorem ObjM.look {h : Heap} {x dx C : Addr} {mA : Str → Option Value} (I : ObjM h x dx C mA) : ∃ od, PySem.W.InstAt h x (PySem.W.instObj C dx) C (some od) ∧ ∀ name, PySem.W.lookIn name od = some (mA name) :=
  let ⟨od, ho, hl⟩ := lookIn_ns I.ns
  ⟨od, ⟨I.obj, rfl, rfl, ho⟩, hl⟩

section
variable {prog : Program} {w : World} {A : Around} {E : Value → Shared → Prop} {s : Shared} {K : PySem.W.Frag} {x dx C f : Addr} {mA : Str → Option Value} {name : Str} {v : Value}

end

/-! ### the attributes as a list of pairs -/
section
variable {P : Program} {w : World} {H H' : Hp} {h h' : Heap} {a C dx : Addr} {fs fs' : List (Str × V)}
theorem ins_get (hok : HOk P w H h) (e : H a = some (.ins C dx fs)) : ∃ mA, ObjM h a dx C mA ∧ (∀ f, RelO (fs.lookup f) (mA f)) ∧ PySem.Within mA (fs.map (·.1)) ∧ fs.length ≤ 1000 ∧ H dx = some (.own a) := by
  obtain ⟨d, z, ne, ob, mA, n, r, q⟩ := (show ObjOk P w H h a (.ins C dx fs) from hok a _ e)
  exact ⟨mA, ⟨ob, n, ne⟩, r, q, z, d⟩
end

/-! ### what of the text a class must have -/
structure Cls (K : PySem.W.Frag) (C : Addr) : Prop where
  pg : PySem.W.plainGet K C Str.empty = true
  hd : PySem.W.hasDictIn K C = true
  po : PySem.W.plainOver K C = true
  sa : PySem.W.findIn K (.ref C) "__setattr__" = some (some (.builtin "object.__setattr__"))
theorem Cls.get {K : PySem.W.Frag} {C : Addr} (c : Cls K C) (f : Str) : PySem.W.plainGet K C f = true := c.pg
section
variable {X : Cx} {pins : List (Addr × Obj)} {σ : St} {H : Hp} {s : Shared} {a C dx : Addr} {fs : List (Str × V)} {f : Str} {v : V} {A : Around} {E : Value → Shared → Prop}

end

/-! ### readings and rules -/
section
variable {X : Cx} {o e value : Expr} {f : Str} {pos pos' tpos : Pos} {ta tv : TE}
end

/-! ### isinstance -/
section
variable {X : Cx} {pins : List (Addr × Obj)} {σ : St} {H : Hp} {s : Shared} {A : Around} {E : Value → Shared → Prop} {Q : Value → Shared → Prop} {c : Value} {b : Bool}
/-- the type of a value, as the fragment's deciders take it; for an instance its class -/
inductive TyOf (K : PySem.W.Frag) (H : Hp) : V → Value → Prop where
  | non : TyOf K H .non (.type "NoneType")
  | bl (x : Bool) : TyOf K H (.bl x) (.type "bool")
  | int (i : Int) : TyOf K H (.int i) (.type "int")
  | str (x : Str) : TyOf K H (.str x) (.type "str")
  | flt (x : UInt64) : TyOf K H (.flt x) (.type "float")
  | lst {a : Addr} {xs : List V} (e : H a = some (.lst xs)) : TyOf K H (.ref a) (.type "list")
  | frz {a : Addr} {o : Obj} {xs : List V} (e : H a = some (.frz o (.lst xs))) : TyOf K H (.ref a) (.type "list")
  | tup {a : Addr} {xs : List V} (e : H a = some (.tup xs)) : TyOf K H (.ref a) (.type "tuple")
  | dK {a : Addr} {kvs : List (Key × V)} (e : H a = some (.dK kvs)) : TyOf K H (.ref a) (.type "dict")
  | dT {a : Addr} {kvs : List (List Key × V)} (e : H a = some (.dT kvs)) : TyOf K H (.ref a) (.type "dict")
  | ins {a C dx : Addr} {fs : List (Str × V)} (e : H a = some (.ins C dx fs)) (cl : Cls K C) (ha : PySem.W.findIn K (.ref C) "__class__" = some (some (.builtin "object.__class__")))
      (hn : PySem.W.specialIn K (.builtin "object.__class__") "__get__" = some (some (.builtin "getset_descriptor.__get__"))) (htk : PySem.W.takesIn K (.builtin "object.__class__") = some true)
      (hm : PySem.W.mroIn K C (.type "object") = some true) : TyOf K H (.ref a) (.ref C)
/-- isinstance(x, c) for one class c, a built-in or an own one: kitOne's answer -/
theorem isinst_ok {x : V} {u t : Value} (I : Inv X pins σ H s) (rx : RelV x u) (ty : TyOf X.K H x t) (e : PySem.W.kitOne X.K t c = some b) (h : ∀ tk, Q (.bool b) { s with toks := tk }) :
    wpAny (model X.prog X.w) A (call (.builtin "isinstance") [u, c]) Q E s := by
  cases ty with
  | non => cases (show u = Value.none from rx); exact PySem.W.kia_one PySem.W.kitx_none I.kIn True.intro e (fun z => nomatch z) h
  | bl y => cases (show u = Value.bool y from rx); exact PySem.W.kia_one PySem.W.kitx_bool I.kIn True.intro e (fun z => nomatch z) h
  | int i => obtain ⟨t, q⟩ := (show ∃ t, u = Value.int i t from rx); cases q; exact PySem.W.kia_one PySem.W.kitx_int I.kIn True.intro e (fun z => nomatch z) h
  | str y => obtain ⟨t, q⟩ := (show ∃ t, u = Value.str y t from rx); cases q; exact PySem.W.kia_one PySem.W.kitx_str I.kIn True.intro e (fun z => nomatch z) h
  | flt y => obtain ⟨t, q⟩ := (show ∃ t, u = Value.float y t from rx); cases q; exact PySem.W.kia_one PySem.W.kitx_float I.kIn True.intro e (fun z => nomatch z) h
  | @lst a xs ea =>
    cases (show u = Value.ref a from rx)
    obtain ⟨_, _, n, _, h1⟩ := (show ObjOk X.prog X.w H s.heap a (.lst xs) from I.hok a _ ea)
    exact PySem.W.kia_one PySem.W.kitx_list I.kIn ⟨_, h1, rfl⟩ e (fun z => nomatch z) h
  | @frz a ob xs ea =>
    cases (show u = Value.ref a from rx)
    obtain ⟨_, _, _, n, _, h1⟩ := (show ObjOk X.prog X.w H s.heap a (.frz ob (.lst xs)) from I.hok a _ ea)
    exact PySem.W.kia_one PySem.W.kitx_list I.kIn ⟨_, h1, rfl⟩ e (fun z => nomatch z) h
  | @tup a xs ea =>
    cases (show u = Value.ref a from rx)
    obtain ⟨_, _, _, p⟩ := (show ObjOk X.prog X.w H s.heap a (.tup xs) from I.hok a _ ea)
    obtain ⟨o, h1, h2, _⟩ := p.1
    exact PySem.W.kia_one PySem.W.kitx_tuple I.kIn ⟨o, h1, h2⟩ e (fun z => nomatch z) h
  | @dK a kvs ea =>
    cases (show u = Value.ref a from rx)
    obtain ⟨_, _, vs, _, p⟩ := (show ObjOk X.prog X.w H s.heap a (.dK kvs) from I.hok a _ ea)
    obtain ⟨o, es, ep, h1, h2, _⟩ := p
    exact PySem.W.kia_one PySem.W.kitx_dict I.kIn ⟨o, h1, h2.1⟩ e (fun z => nomatch z) h
  | @dT a kvs ea =>
    cases (show u = Value.ref a from rx)
    obtain ⟨_, _, xs, _, o, es, ep, h1, h2, _⟩ := (show ObjOk X.prog X.w H s.heap a (.dT kvs) from I.hok a _ ea)
    exact PySem.W.kia_one PySem.W.kitx_dict I.kIn ⟨o, h1, h2.1⟩ e (fun z => nomatch z) h
  | @ins a C dx fs ea cl ha hn htk hm =>
    cases (show u = Value.ref a from rx)
    obtain ⟨mA, O, _⟩ := ins_get I.hok ea
    obtain ⟨od, J, _⟩ := O.look
    exact PySem.W.kia_one (PySem.W.kitx_own (cl.get _) cl.hd ha hn htk hm) I.kIn J e (fun z => nomatch z) h
end
end L2

namespace L2
open PySem PySem.Spec PyProof.Rows

/-! ### room -/
structure Room (k : Nat) (A : Around) : Prop where
  hd : A.handled = none
  dp : A.depth + 3 * k + 5 < recursionLimit
  un : A.units + 16 * k + 200 < cLine
theorem Room.mono {j k : Nat} {A : Around} (r : Room k A) (h : j ≤ k) : Room j A := ⟨r.hd, by have := r.dp; omega, by have := r.un; omega⟩
theorem Room.deeper {k : Nat} {A : Around} (r : Room (k + 1) A) (env : Env) : Room k (A.deeper env) :=
  ⟨r.hd, by have := r.dp; show A.depth + 1 + 3 * k + 5 < _; omega, by have := r.un; show A.units + 3 + 16 * k + 200 < _; omega⟩
theorem Room.depth {k : Nat} {A : Around} (r : Room k A) : A.depth < recursionLimit := by have := r.dp; omega
theorem Room.units {k : Nat} {A : Around} (r : Room k A) : A.units + 64 < cLine := by have := r.un; omega
/-! ### argument lists and displays -/
def tNil : TA := fun _ H Q => Q [] H
def tCons (ta : TE) (tr : TA) : TA := fun σ H Q => ta σ H fun x H1 => tr σ H1 fun xs H2 => Q (x :: xs) H2
section
variable {X : Cx} {e : Expr} {es : List Expr} {te : TE} {t : TA} {pos : Pos}
theorem pa_nil : PA X [] tNil := fun _ _ _ _ H Q I h => Calls.spliced_nil ⟨[], H, I, .nil, h⟩
theorem pa_cons (ha : PE X e te) (hr : PA X es t) (hs : starEach (e :: es) X.env = (false, eval e X.env) :: starEach es X.env := by rfl) : PA X (e :: es) (tCons te t) := by
  intro pos pins s σ H Q I h
  rw [hs]
  show wpAny _ _ (spliced ((false, eval e X.env) :: backTo pos (starEach es X.env))) _ _ s
  refine Calls.spliced_cons (thn (ha pins s σ H _ I h) fun u s1 ⟨x, H1, I1, r1, q1⟩ => ?_)
  exact thn (hr pos pins s1 σ H1 _ I1 q1) fun us s2 ⟨xs, H2, I2, r2, q2⟩ => ⟨x :: xs, H2, I2, .cons r1 r2, q2⟩

/-- a tuple, a list of written items -/
def tTup (t : TA) : TE := fun σ H Q => t σ H fun xs H1 => xs.length ≤ sizeLine ∧ ∀ p, H1 p = none → Q (.ref p) (upd H1 p (.tup xs))
def tLst (t : TA) : TE := fun σ H Q => t σ H fun xs H1 => xs.length ≤ sizeLine ∧ ∀ p, H1 p = none → Q (.ref p) (upd H1 p (.lst xs))
theorem pe_tup {x1} (h : PA X es t) : PE X (.Tuple es x1 pos) (tTup t) := by
  intro pins s σ H Q I hq
  refine wpAny_Tuple_spliced (thn (h pos pins s σ H _ I hq) fun us s1 ⟨xs, H1, I1, r, z, q⟩ => ⟨by rw [← r.length]; exact z, ?_⟩)
  have hf : H1 s1.heap.objs.size = none := I1.hok.fresh (Nat.le_refl _)
  refine ⟨.ref s1.heap.objs.size, upd H1 s1.heap.objs.size (.tup xs), I1.laid (t' := s1.toks) (fun b u e => Heap.get?_push_of_some _ e) (Nat.le_refl _) ?_, rfl, q _ hf⟩
  exact ⟨z, us, r, ⟨_, Heap.get?_push_size _ rfl, rfl, _, rfl⟩, NoDi.new _ _⟩
theorem pe_lst (h : PA X es t) : PE X (.List es pos) (tLst t) := by
  intro pins s σ H Q I hq
  refine wpAny_List_spliced (thn (h pos pins s σ H _ I hq) fun us s1 ⟨xs, H1, I1, r, z, q⟩ => ⟨by rw [← r.length]; exact z, ?_⟩)
  have hf : H1 s1.heap.objs.size = none := I1.hok.fresh (Nat.le_refl _)
  refine ⟨.ref s1.heap.objs.size, upd H1 s1.heap.objs.size (.lst xs), I1.laid (t' := s1.toks) (fun b u e => Heap.get?_push_of_some _ e) (Nat.le_refl _) ?_, rfl, q _ hf⟩
  exact ⟨z, us, 0, r, Heap.get?_push_size _ rfl⟩
end

/-! ### what a def promises -/
/-- a def's promise: the bound arguments in the parameters' order, the heap, the wanted end, the wanted exception -/
abbrev Sp := List V → Hp → VK → XK → Prop
/-- how an exception lies behind a call (file 08 gives it): the callers' frames, abstract heap and state ahead of the call, the wish, the exception, the state -/
abbrev CXT := List Env → Hp → Shared → XK → Value → Shared → Prop

/-- the state at a call -/
structure Env0 (P : Program) (w : World) (K : PySem.W.Frag) (mg : Str → Option Value) (base : Heap) (A : Around) (outer : List Env) (s : Shared) (H : Hp) : Prop where
  frames : A.frames = some outer
  mod : Mod K mg base
  bs : ∀ b o, base.get? b = some o → s.heap.get? b = some o ∧ H b = none
  bsz : base.objs.size ≤ s.heap.objs.size
  funs : s.heap.FunFrames base outer
  frf : ∀ b ∈ frs outer, H b = none
  hok : HOk P w H s.heap
  bare : AllBare s.gens
/-- a call's end -/
def CE (outer : List Env) (P : Program) (w : World) (H : Hp) (s : Shared) (Q : VK) (u : Value) (s' : Shared) : Prop :=
  ∃ v H', s'.os = s.os ∧ AllBare s'.gens ∧ Un (frs outer) [] H H' s.heap s'.heap ∧ HOk P w H' s'.heap ∧ RelV v u ∧ Q v H'
def CR (CX : CXT) (outer : List Env) (P : Program) (w : World) (H : Hp) (s : Shared) (Q : VK) (E : XK) (r : Result) (s' : Shared) : Prop :=
  match r with
  | .ok (.ret u) => CE outer P w H s Q u s'
  | .ok _ => False
  | .error e => CX outer H s E e s'
structure FnOk (P : Program) (w : World) (K : PySem.W.Frag) (mg : Str → Option Value) (base : Heap) (CX : CXT) (k : Nat) (f : Addr) (fd : FuncData) (ps : List Str) (sp : Sp) : Prop where
  len : ∀ vs H Q E, sp vs H Q E → vs.length = ps.length
  run : ∀ (A : Around) (outer : List Env) (s : Shared) (H : Hp) (args : Args) (us : List Value) (vs : List V) (Q : VK) (E : XK), Room k A → Env0 P w K mg base A outer s H → BindsTo s fd args (ps.zip us) → Vals vs us → sp vs H Q E →
    codeAny (model P w) A (.call (.ref f) args) (CR CX outer P w H s Q E) s
/-- a weaker promise -/
theorem FnOk.imp {P : Program} {w : World} {K : PySem.W.Frag} {mg : Str → Option Value} {base : Heap} {CX : CXT} {k : Nat} {f : Addr} {fd : FuncData} {ps : List Str} {sp sp' : Sp} (F : FnOk P w K mg base CX k f fd ps sp)
    (h : ∀ vs H Q E, sp' vs H Q E → sp vs H Q E) : FnOk P w K mg base CX k f fd ps sp' :=
  ⟨fun vs H Q E q => F.len vs H Q E (h _ _ _ _ q), fun A outer s H args us vs Q E hr he hb hv hs => F.run A outer s H args us vs Q E hr he hb hv (h _ _ _ _ hs)⟩

section
variable {X : Cx} {pins : List (Addr × Obj)} {σ : St} {H : Hp} {s s' : Shared}
/-- from a body: what a callee wants -/
theorem Inv.env0 (I : Inv X pins σ H s) : Env0 X.prog X.w X.K X.mg X.base X.A X.stack s H :=
  ⟨I.ok.frames, I.ok.mod, I.bs, Nat.le_trans I.ok.bsz I.sz, I.stack, I.stkFree, I.hok, I.bare⟩
/-- behind a call -/
theorem Inv.after {Q : VK} {u : Value} (I : Inv X pins σ H s) (h : CE X.stack X.prog X.w H s Q u s') : EP X pins σ Q u s' := by
  obtain ⟨v, H', os, bare, un, hok, r, q⟩ := h
  obtain ⟨hh, g, d, t, os'⟩ := s'
  obtain rfl : os' = s.os := os
  exact ⟨v, H', I.call (h' := hh) (g' := g) (d' := d) (t' := t) (ch := []) un hok bare (fun b z => absurd z (by simp)), r, q⟩
end

/-! ### calls -/
/-- f(..): the written arguments, then the defaults dvs; E: what is wanted of an exception -/
def tCall (sp : Sp) (dvs : List V) (E : XK) (t : TA) : TE := fun σ H Q => t σ H fun vs H1 => sp (vs ++ dvs) H1 Q E
/-- how the parameters are bound: us the positional arguments, kw the keywords' values by name, ds the defaults that fill up -/
def Binds (K : PySem.W.Frag) (fd : FuncData) (ps : List Str) (ds : List Value) : Prop :=
  ∀ (s : Shared) (us : List Value), K.In s.heap → (us ++ ds).length = ps.length → BindsTo s fd ⟨us, []⟩ (ps.zip (us ++ ds))
/-- every parameter is given -/
theorem Binds.all {K : PySem.W.Frag} {fd : FuncData} {ps : List Str} (h : ∀ us : List Value, us.length = ps.length → bindArgs fd ⟨us, []⟩ = pure (ps.zip us)) : Binds K fd ps [] := fun s us _ hl => by
  rw [List.append_nil] at hl ⊢
  exact .of_eq (h us hl)

/-- an exception of a callee reaches what this body wants of exceptions -/
def Passes (CX : CXT) (X : Cx) (E : XK) : Prop := ∀ (pins : List (Addr × Obj)) (σ : St) (H : Hp) (s : Shared) (e : Value) (s' : Shared), Inv X pins σ H s → CX X.stack H s E e s' → X.xe e s'

section
variable {X : Cx} {CX : CXT} {k : Nat} {f C : Addr} {fd : FuncData} {ps : List Str} {sp : Sp} {dvs : List V} {ds : List Value} {E : XK} {x m : Str} {p pos apos : Pos} {e o : Expr} {es : List Expr} {ta : TE} {t : TA}

/-- the callee runs -/
theorem run_fn {pins : List (Addr × Obj)} {σ : St} {H : Hp} {s : Shared} {Q : VK} {us : List Value} {vs : List V} (F : FnOk X.prog X.w X.K X.mg X.base CX k f fd ps sp) (hr : Room k X.A) (hb : Binds X.K fd ps ds) (hd : Vals dvs ds) (hx : Passes CX X E)
    (I : Inv X pins σ H s) (r : Vals vs us) (h : sp (vs ++ dvs) H Q E) : wpAny (model X.prog X.w) X.A (call (.ref f) us) (EP X pins σ Q) X.xe s := by
  have r2 : Vals (vs ++ dvs) (us ++ ds) := r.append hd
  have hl : (us ++ ds).length = ps.length := by rw [← r2.length]; exact F.len _ _ _ _ h
  refine wpAny_call (codeAny_mono (F.run X.A X.stack s H ⟨us, []⟩ (us ++ ds) (vs ++ dvs) Q E hr I.env0 (hb s us I.kIn hl) r2 h) fun r s' hq => ?_)
  cases r with
  | error e => exact hx pins σ H s e s' I hq
  | ok fl =>
    cases fl with
    | ret u => exact I.after hq
    | next => exact False.elim hq
    | brk => exact False.elim hq
    | cont => exact False.elim hq

theorem pe_call (F : FnOk X.prog X.w X.K X.mg X.base CX k f fd ps sp) (hr : Room k X.A) (hg : Gl X x) (hm : X.mg x = some (.ref f)) (hk : PySem.W.keepIn X.K (.ref f) = true) (hb : Binds X.K fd ps ds) (hd : Vals dvs ds) (hx : Passes CX X E)
    (ha : PA X (e :: es) t) (hdb : (x == ("__debug__" : Str)) = false := by decide) (he : starEach (e :: es) X.env = (false, eval e X.env) :: starEach es X.env := by rfl) (hpl : (backTo pos (starEach es X.env)).any (·.1) = false := by rfl) :
    PE X (.Call (.Name x p) (e :: es) [] pos) (tCall sp dvs E t) := by
  intro pins s σ H Q I h
  refine wpAny_Call_Name_kw (ld_glob I hg hm ?_ hdb)
  refine PySem.W.callWith_K (h₀ := X.base) I.ok.mod.kin hk (thn (ha pos pins s σ H _ I h) fun us s1 ⟨vs, H1, I1, r, q⟩ => ⟨I1.kIn, ?_⟩) he hpl
  exact run_fn F hr hb hd hx I1 r q
end

/-! ### keywords -/
section
variable {X : Cx} {CX : CXT} {k : Nat} {f C : Addr} {fd : FuncData} {ps ks : List Str} {sp : Sp} {E : XK} {x m : Str} {p pos apos kpos : Pos} {e o : Expr} {es : List Expr} {kws : List Keyword} {te ta : TE} {t tk : TA} {nm : Option Str}
variable {g : List Value → List Value → List Value} {gV : List V → List V → List V}
end

/-! ### a def's body keeps its promise -/
/-- names: the parameters first -/
structure FnScope (N P : List Str) (sc : Scope) : Prop where
  kind : sc.kind = .function
  co : sc.isCoroutine = false
  gen : sc.isGenerator = false
  nd : N.Nodup
  pre : N.take P.length = P
  par : ∀ x ∈ P, sc.names.lookup x = some .local ∨ sc.names.lookup x = some .cell
  nofree : ∀ y ∈ sc.names, y.2 ≠ .free

theorem bindL_out {kindOf : Str → Option NameKind} {x : Str} : ∀ {binds : List (Str × Value)} {m : Str → Option Value}, (∀ v, (x, v) ∉ binds) → bindL kindOf binds m x = m x
  | [], _, _ => rfl
  | (n, v) :: r, m, h => by
    unfold bindL
    rw [bindL_out fun w hw => h w (List.mem_cons_of_mem _ hw)]
    split
    · have : x ≠ n := by rintro rfl; exact h v List.mem_cons_self
      simp [this]
    · rfl
theorem bindC_out {kindOf : Str → Option NameKind} {x : Str} : ∀ {binds : List (Str × Value)} {m : Str → Option Value}, (∀ v, (x, v) ∉ binds) → bindC kindOf binds m x = m x
  | [], _, _ => rfl
  | (n, v) :: r, m, h => by
    unfold bindC
    rw [bindC_out fun w hw => h w (List.mem_cons_of_mem _ hw)]
    split
    · rfl
    · have : x ≠ n := by rintro rfl; exact h v List.mem_cons_self
      simp [this]
theorem bindL_get {kindOf : Str → Option NameKind} {x : Str} {v : Value} : ∀ {P : List Str} {vs : List Value} {i : Nat} {m : Str → Option Value}, P.Nodup → P[i]? = some x → vs[i]? = some v → kindOf x = some .local →
    bindL kindOf (P.zip vs) m x = some v
  | [], _, _, _, _, h, _, _ => by simp at h
  | _ :: _, [], _, _, _, _, h, _ => by simp at h
  | p :: P, w :: vs, 0, m, nd, h1, h2, hk => by
    simp at h1 h2; subst h1; subst h2
    show bindL kindOf ((p, w) :: P.zip vs) m p = _
    unfold bindL
    rw [bindL_out fun v hv => (List.nodup_cons.mp nd).1 (List.of_mem_zip hv).1, if_pos hk]
    simp
  | p :: P, w :: vs, i + 1, m, nd, h1, h2, hk => by
    show bindL kindOf ((p, w) :: P.zip vs) m x = _
    unfold bindL
    exact bindL_get (i := i) (List.nodup_cons.mp nd).2 (by simpa using h1) (by simpa using h2) hk
theorem bindC_get {kindOf : Str → Option NameKind} {x : Str} {v : Value} : ∀ {P : List Str} {vs : List Value} {i : Nat} {m : Str → Option Value}, P.Nodup → P[i]? = some x → vs[i]? = some v → kindOf x ≠ some .local →
    bindC kindOf (P.zip vs) m x = some v
  | [], _, _, _, _, h, _, _ => by simp at h
  | _ :: _, [], _, _, _, _, h, _ => by simp at h
  | p :: P, w :: vs, 0, m, nd, h1, h2, hk => by
    simp at h1 h2; subst h1; subst h2
    show bindC kindOf ((p, w) :: P.zip vs) m p = _
    unfold bindC
    rw [bindC_out fun v hv => (List.nodup_cons.mp nd).1 (List.of_mem_zip hv).1, if_neg hk]
    simp
  | p :: P, w :: vs, i + 1, m, nd, h1, h2, hk => by
    show bindC kindOf ((p, w) :: P.zip vs) m x = _
    unfold bindC
    exact bindC_get (i := i) (List.nodup_cons.mp nd).2 (by simpa using h1) (by simpa using h2) hk

/-- the names' values at the entry -/
def start (N : List Str) (vs : List V) : St := vs.map some ++ List.replicate (N.length - vs.length) none

/-- the context of a def's body, at its entry; an exception leaves the frame, then lies as CX says -/
def cxOf (CX : CXT) (P : Program) (w : World) (K : PySem.W.Frag) (mg : Str → Option Value) (base : Heap) (N : List Str) (qual : Str) (scope : Scope) (f : Addr) (cd : Value) (A : Around) (outer : List Env) (s : Shared) (H : Hp) (E : XK) : Cx where
  prog := P
  w := w
  K := K
  mg := mg
  base := base
  A := A.deeper (envOfC qual scope s.heap.objs.size f cd)
  N := N
  s₀ := s
  H₀ := H
  env := envOfC qual scope s.heap.objs.size f cd
  outer := outer
  stack := envOfC qual scope s.heap.objs.size f cd :: outer
  ex := []
  calm := true
  fn := fun _ => true
  pn := []
  xe := fun e s' => wpAny (model P w) (A.deeper (envOfC qual scope s.heap.objs.size f cd)) (leaving (envOfC qual scope s.heap.objs.size f cd) e) (fun _ s'' => CX outer H s E e s'') (fun e' s'' => CX outer H s E e' s'') s'

theorem cell_has {sc : Scope} {n : Nat} {x : Str} (h : sc.names.lookup x = some .cell) : ∃ c, (cellsFrom n sc.names []).lookup x = some c := by
  have q := PySem.W.cellsFrom_some sc.names n [] (.inl h)
  exact Option.isSome_iff_exists.mp q

theorem inv_start {CX : CXT} {P : Program} {w : World} {K : PySem.W.Frag} {mg : Str → Option Value} {base : Heap} {N ps : List Str} {qual : Str} {scope : Scope} {f : Addr} {cd : Value} {A : Around} {outer : List Env} {s s1 : Shared} {H : Hp} {E : XK} {us : List Value} {vs : List V}
    (S : FnScope N ps scope) (hd : A.handled = none) (e0 : Env0 P w K mg base A outer s H) (hl : vs.length = ps.length) (r : Vals vs us)
    (x : InCallC s s.heap.objs.size (bindL (envOfC qual scope s.heap.objs.size f cd).kindOf (ps.zip us) fun _ => none) (cellsFrom (s.heap.objs.size + 1) scope.names []) (bindC (envOfC qual scope s.heap.objs.size f cd).kindOf (ps.zip us) fun _ => none) s1) :
    Inv (cxOf CX P w K mg base N qual scope f cd A outer s H E) [] (start N vs) H s1 := by
  have hpl : ps.length ≤ N.length := by have := congrArg List.length S.pre; rw [List.length_take] at this; omega
  obtain ⟨h1, tk, rfl, hk⟩ := x.done
  have noA : ∀ b : Addr, b ∉ (cxOf CX P w K mg base N qual scope f cd A outer s H E).ex := fun b z => absurd (show b ∈ ([] : List Addr) from z) (by simp)
  refine ⟨⟨e0.mod, S.kind, rfl, rfl, Nat.le_refl _, fun y z c h1 h2 => ?_, fun y hy => ?_, fun y c _ h => ?_, fun _ => hd, Around.frames_deeper e0.frames, .inr ⟨rfl, rfl⟩, fun b z => absurd z (noA b), e0.bs, e0.bsz, fun b _ _ => noA b, fun b z => absurd z (noA b), e0.funs, e0.frf⟩,
    rfl, e0.bare, Un.kept hk, ⟨_, x.toInCall.ns, fun i y v h1 h2 h3 => ?_⟩, fun y c h => ⟨_, x.cell y c h⟩, e0.hok.fresh (Nat.le_refl _), fun y c h => ?_, fun p hp => absurd (show p ∈ ([] : List (Addr × Obj)) from hp) (by simp), e0.hok.kept hk, ?_⟩
  · exact name_of_addr x.apart (PySem.mem_of_lookup h1) (PySem.mem_of_lookup h2)
  · have hy : scope.names.lookup y = some .cell ∨ scope.names.lookup y = some .free := hy
    rcases hy with hy | hy
    · exact cell_has hy
    · exact absurd rfl (S.nofree _ (PySem.mem_of_lookup hy))
  · exact Nat.le_of_lt (x.above y c (PySem.mem_of_lookup h))
  · have hi : i < vs.length := by
      unfold start at h2
      by_cases hi : i < vs.length
      · exact hi
      · rw [List.getElem?_append_right (by simpa using hi)] at h2
        rw [List.getElem?_replicate] at h2
        split at h2 <;> cases h2
    have ha : vs[i]? = some v := by
      unfold start at h2
      rw [List.getElem?_append_left (by simpa using hi), List.getElem?_map] at h2
      cases e : vs[i]? with
      | none => rw [e] at h2; cases h2
      | some a => rw [e] at h2; cases h2; rfl
    obtain ⟨u, hu, rv⟩ := r.get ha
    have hp : ps[i]? = some y := by
      rw [← S.pre, List.getElem?_take_of_lt (by omega)]; exact h1
    have ndP : ps.Nodup := by rw [← S.pre]; exact S.nd.sublist (List.take_sublist _ _)
    refine ⟨u, rv, ?_⟩
    rcases S.par y (List.mem_of_getElem? hp) with k | k
    · exact .inl ⟨k, bindL_get ndP hp hu k⟩
    · obtain ⟨c, e⟩ := cell_has (n := s.heap.objs.size + 1) k
      refine .inr ⟨.inl k, c, e, ?_⟩
      have q := x.cell y c e
      rw [bindC_get ndP hp hu (by show scope.names.lookup y ≠ _; rw [k]; decide)] at q
      exact q
  · exact e0.hok.fresh (Nat.le_of_lt (x.above y c (PySem.mem_of_lookup h)))
  · unfold start
    show _ = N.length
    rw [List.length_append, List.length_map, List.length_replicate]
    omega

/-- THE RULE: a def (or a method) of the text, by its body. The body's reading t is chosen for each entry; it is run at the parameters' values -/
theorem fn_of {CX : CXT} {P : Program} {w : World} {K : PySem.W.Frag} {mg : Str → Option Value} {base : Heap} {k : Nat} {f : Addr} {name qual : Str} {params : Arguments} {body : List Stmt} {scope : Scope} {dV kV doc pm cdv ct oc : Value} {an od : Option Addr}
    {osl : Array (Option Value)} {N ps : List Str} {sp : Sp} (lk : K.lookup f = some ⟨oc, od, .func (PySem.W.fnOf name qual params body scope dV kV doc pm an cdv ct), osl⟩) (hcd : PySem.W.codeIn K cdv qual = true) (S : FnScope N ps scope)
    (len : ∀ vs H Q E, sp vs H Q E → vs.length = ps.length)
    (hbody : ∀ (A : Around) (outer : List Env) (s : Shared) (H : Hp) (vs : List V) (Q : VK) (E : XK), Room k (A.deeper (envOfC qual scope s.heap.objs.size f cdv)) → sp vs H Q E →
      ∃ t, PSs (cxOf CX P w K mg base N qual scope f cdv A outer s H E) body t ∧ t { nx := fun _ H' => Q .non H', rt := Q } (start N vs) H) :
    FnOk P w K mg base CX (k + 1) f (PySem.W.fnOf name qual params body scope dV kV doc pm an cdv ct) ps sp := by
  refine ⟨len, fun A outer s H args us vs Q E hr e0 hb r hsp => ?_⟩
  have hl := len _ _ _ _ hsp
  have KX : K.In s.heap := e0.mod.kin.keeps fun b o e => (e0.bs b o e).1
  have lim : s.heap.NoLimit := e0.mod.nolimit.keeps fun b o e => (e0.bs b o e).1
  have hkind : ∀ y ∈ ps.zip us, scope.names.lookup y.1 = some .local ∨ (scope.names.lookup y.1 = some .cell ∧ ((cellsFrom (s.heap.objs.size + 1) scope.names []).lookup y.1).isSome = true) := fun ⟨n, v⟩ hy => by
    rcases S.par n (List.of_mem_zip hy).1 with q | q
    · exact .inl q
    · exact .inr ⟨q, PySem.W.cellsFrom_some _ _ _ (.inl q)⟩
  refine codeAny_call_function hr.depth (KX _ _ lk) rfl S.co S.gen rfl (PySem.W.codeRec_of KX hcd) (hb _ _ _ _ ?_)
  refine wpAny_newFunctionEnv_cells S.kind hkind fun env he s1 x => ?_
  subst he
  refine ⟨lim.keeps x.toInCall.keep, codeAny_func ?_⟩
  obtain ⟨t, ht, hq⟩ := hbody A outer s H vs Q E (hr.deeper _) hsp
  have I : Inv (cxOf CX P w K mg base N qual scope f cdv A outer s H E) [] (start N vs) H s1 := inv_start S hr.hd e0 hl r x
  refine wpAny_mono (ht [] s1 (start N vs) H _ I hq) (fun fl s' hs => ?_) fun e s' hs => hs
  have fin : ∀ {σ' : St} {H' : Hp} {v : V} {u : Value}, Inv (cxOf CX P w K mg base N qual scope f cdv A outer s H E) [] σ' H' s' → RelV v u → Q v H' → CE outer P w H s Q u s' :=
    fun {σ' H' v u} J rv q => ⟨v, H', J.os, J.bare, J.base, J.hok, rv, q⟩
  cases fl with
  | ret u =>
    obtain ⟨v, σ', H', J, rv, q⟩ := hs
    exact fin J rv q
  | next =>
    obtain ⟨σ', H', J, q⟩ := hs
    exact fin (v := V.non) (u := Value.none) J rfl q
  | brk =>
    obtain ⟨_, _, _, q⟩ := hs
    exact False.elim q
  | cont =>
    obtain ⟨_, _, _, q⟩ := hs
    exact False.elim q
end L2

namespace L2
open PySem PySem.Spec PyProof.Rows
section
variable {X : Cx} {x : Str} {p pos : Pos} {e : Expr} {es : List Expr} {t : TA} {id T : String} {r : List V → Hp → VK → Prop}

def tCB (r : List V → Hp → VK → Prop) (t : TA) : TE := fun σ H Q => t σ H fun vs H1 => r vs H1 Q
/-- f(e, ..), f a built-in function -/
theorem pe_callB (hc : CallR X (.builtin id) r) (hg : Gl X x) (hm : X.mg x = none) (hv : bootBuiltins x = some (.builtin id)) (ha : PA X (e :: es) t) (hn : x ≠ "__name__" := by decide) (hdb : (x == ("__debug__" : Str)) = false := by decide)
    (he : starEach (e :: es) X.env = (false, eval e X.env) :: starEach es X.env := by rfl) (hpl : (backTo pos (starEach es X.env)).any (·.1) = false := by rfl) : PE X (.Call (.Name x p) (e :: es) [] pos) (tCB r t) := by
  intro pins s σ H Q I h
  refine wpAny_Call_Name_kw (ld_blt I hg hm hv ?_ hn hdb)
  exact PyProof.Rows.callWith_builtin1 (thn (ha pos pins s σ H _ I h) fun us s1 ⟨vs, H1, I1, r1, q1⟩ => hc pins s1 σ H1 vs us Q I1 r1 q1) he hpl
/-- T(e, ..), T a built-in type -/
theorem pe_callTy (hc : CallR X (.type T) r) (hg : Gl X x) (hm : X.mg x = none) (hv : bootBuiltins x = some (.type T)) (ha : PA X (e :: es) t) (hn : x ≠ "__name__" := by decide) (hdb : (x == ("__debug__" : Str)) = false := by decide)
    (he : starEach (e :: es) X.env = (false, eval e X.env) :: starEach es X.env := by rfl) (hpl : (backTo pos (starEach es X.env)).any (·.1) = false := by rfl) : PE X (.Call (.Name x p) (e :: es) [] pos) (tCB r t) := by
  intro pins s σ H Q I h
  refine wpAny_Call_Name_kw (ld_blt I hg hm hv ?_ hn hdb)
  exact PyProof.Rows.callWith_type1 (thn (ha pos pins s σ H _ I h) fun us s1 ⟨vs, H1, I1, r1, q1⟩ => hc pins s1 σ H1 vs us Q I1 r1 q1) he hpl
end
end L2

namespace HT
open PySem PyProof.Rows

section
open PySem.SeqAt
open PySem.AutoSeq1 (wpAny_loadPart')
open PySem.MeetsSeq PySem.MeetsSeq2 PySem.MeetsSeq3

end

section
variable {prog : Program} {w : World} {A : Around} {E : Value → Shared → Prop} {s : Shared}

/-- t + u, t not empty -/
theorem cat_tup {t b : Addr} {vs ws : List Value} {Q : Value → Shared → Prop} (ht : IsTup s.heap t vs.toArray) (hb : IsTup s.heap b ws.toArray) (hv : vs ≠ [])
    (h1 : ws = [] → Q (.ref t) s) (h2 : ws ≠ [] → Q (.ref s.heap.objs.size) { s with heap := s.heap.push { cls := .type "tuple", data := .seq (vs ++ ws).toArray } })
    (hsz : vs.length + ws.length ≤ sizeLine) : wpAny (model prog w) A (binaryOp .Add (.ref t) (.ref b)) Q E s := by
  obtain ⟨⟨cls, dd, data, sl⟩, ho, hc, n, hd⟩ := id ht
  obtain ⟨⟨cls2, dd2, data2, sl2⟩, ho2, hc2, n2, hd2⟩ := id hb
  simp only at hc hd hc2 hd2
  subst hc hd hc2 hd2
  have e : vs.toArray ++ ws.toArray = (vs ++ ws).toArray := by simp
  by_cases hw : ws = []
  · exact concat_meets ⟨_, ho, rfl⟩ ⟨_, ho2, rfl⟩ noFill_tuple_add seq_tuple_add PySem.F.slot_tuple_add PySem.F.entry_tuple_add (PySem.F.args_tuple_add_2 _ _)
      (tuple_addW1 t b vs.toArray ws.toArray n n2 dd dd2 sl sl2 (by simpa using hv) (by simp [hw])) ⟨ho, ho2, h1 hw⟩
  · refine concat_meets ⟨_, ho, rfl⟩ ⟨_, ho2, rfl⟩ noFill_tuple_add seq_tuple_add PySem.F.slot_tuple_add PySem.F.entry_tuple_add (PySem.F.args_tuple_add_2 _ _)
      (tuple_addW2 t b vs.toArray ws.toArray n n2 dd dd2 sl sl2 (by simpa using hv) (by simpa using hw) (by rw [List.size_toArray, List.size_toArray]; exact hsz)) ⟨ho, ho2, ?_⟩
    rw [e]
    exact h2 hw

/-! ### t[a:b], not the whole -/
/-- a slice's bound as a place among n (d where it is left out) -/
def sIx (n d : Nat) : Option Int → Nat
  | none => d
  | some v => if v < 0 then (v + (n : Int)).toNat else min v.toNat n
theorem sIx_le (n d : Nat) (hd : d ≤ n) (o : Option Int) : sIx n d o ≤ n := by
  cases o with
  | none => exact hd
  | some v =>
    show (if v < 0 then (v + (n : Int)).toNat else min v.toNat n) ≤ n
    by_cases hv : v < 0
    · rw [if_pos hv]; omega
    · rw [if_neg hv]; exact Nat.min_le_right _ _
theorem clip_eq (v : Int) (n d : Nat) : (if v < 0 then max (v + (n : Int)) 0 else min v (n : Int)) = ((sIx n d (some v) : Nat) : Int) := by
  show (if v < 0 then max (v + (n : Int)) 0 else min v (n : Int)) = (((if v < 0 then (v + (n : Int)).toNat else min v.toNat n) : Nat) : Int)
  by_cases hv : v < 0
  · simp only [if_pos hv]; omega
  · simp only [if_neg hv]; omega
theorem adjust_gen (lo hi : Option Int) (n : Nat) : Builtin.Slice.sliceAdjust lo hi 1 (n : Int) = (((sIx n 0 lo : Nat) : Int), ((sIx n n hi : Nat) : Int)) := by
  have h1 : ¬ ((1 : Int) < 0) := by omega
  unfold Builtin.Slice.sliceAdjust
  simp only [h1, if_false]
  refine Prod.ext ?_ ?_
  · cases lo with
    | none => rfl
    | some v => exact clip_eq v n 0
  · cases hi with
    | none => rfl
    | some v => exact clip_eq v n n
theorem places_gen (i j : Nat) : Builtin.Slice.slicePlaces (i : Int) (j : Int) 1 = j - i := by
  unfold Builtin.Slice.slicePlaces
  have h1 : (1 : Int) > 0 := by omega
  simp only [h1, if_true, Int.ediv_one]
  split <;> omega
theorem slicePart_ {v : Value} {o : Option Int} {Q : Option Int → Shared → Prop} (p : IsPart v o) (h : Q o s) : wpAny (model prog w) A (Builtin.Slice.slicePartIndex v) Q E s := by
  cases p with
  | none => exact slicePart_none h
  | int i t => exact slicePart_int h
theorem sliceApplied_gen {sl : Addr} {vl vu : Value} {lo hi : Option Int} {n : Nat} {Q : Int × Int × Nat → Shared → Prop} (hs : s.heap.IsSliceOf sl vl vu .none) (pl : IsPart vl lo) (pu : IsPart vu hi)
    (h : Q (((sIx n 0 lo : Nat) : Int), 1, sIx n n hi - sIx n 0 lo) s) : wpAny (model prog w) A (Builtin.Slice.sliceApplied (.ref sl) (pure (n : Int))) Q E s := by
  obtain ⟨os, hos, hcs, hds⟩ := id hs
  unfold Builtin.Slice.sliceApplied Builtin.Slice.sliceFields
  refine wpAny_bind (wpAny_bind (wpAny_field hos hds (x := vl) rfl (wpAny_bind (wpAny_field hos hds (x := vu) rfl (wpAny_bind (wpAny_field hos hds (x := .none) rfl (wpAny_pure ?_)))))))
  refine wpAny_bind (slicePart_none ?_)
  show wpAny _ _ (if ((1 : Int) == 0) = true then _ else _) _ _ s
  rw [if_neg (by decide)]
  refine wpAny_bind (slicePart_ pl (wpAny_bind (slicePart_ pu (wpAny_bind (wpAny_pure ?_)))))
  show wpAny _ _ (match Builtin.Slice.sliceAdjust lo hi 1 (n : Int) with | (lo, hi) => pure (lo, (1 : Int), Builtin.Slice.slicePlaces lo hi 1)) _ _ s
  rw [adjust_gen lo hi n]
  show wpAny _ _ (pure (((sIx n 0 lo : Nat) : Int), (1 : Int), Builtin.Slice.slicePlaces ((sIx n 0 lo : Nat) : Int) ((sIx n n hi : Nat) : Int) 1)) _ _ s
  rw [places_gen]
  exact wpAny_pure h
theorem pick_gen (xs : Array Value) (i k : Nat) : ((List.range k).filterMap fun (m : Nat) => xs[((i : Int) + (m : Int) * 1).toNat]?).toArray = ((xs.toList.drop i).take k).toArray := by
  have e : (fun (m : Nat) => xs[((i : Int) + (m : Int) * 1).toNat]?) = fun m => xs[i + m]? := by
    funext m
    have : ((i : Int) + (m : Int) * 1).toNat = i + m := by omega
    rw [this]
  rw [e]
  have := pick_run xs i k
  rw [List.filterMap_map] at this
  have e2 : ((fun x => xs[x]?) ∘ fun x => i + x) = fun m => xs[i + m]? := rfl
  rw [e2] at this
  rw [this]

theorem getItem_tuple_cut {t sl : Addr} {items : Array Value} {vl vu : Value} {lo hi : Option Int} {Q : Value → Shared → Prop} (ht : IsTup s.heap t items) (hs : s.heap.IsSliceOf sl vl vu .none) (pl : IsPart vl lo) (pu : IsPart vu hi)
    (hw : ¬ (sIx items.size 0 lo = 0 ∧ sIx items.size items.size hi = items.size))
    (h : Q (.ref s.heap.objs.size) { s with heap := s.heap.push { cls := .type "tuple", data := .seq ((items.toList.drop (sIx items.size 0 lo)).take (sIx items.size items.size hi - sIx items.size 0 lo)).toArray } })
    (hsz : items.size ≤ sizeLine) : wpAny (model prog w) A (getItem (.ref t) (.ref sl)) Q E s := by
  have htake : sizeOk (.seq ((items.toList.drop (sIx items.size 0 lo)).take (sIx items.size items.size hi - sIx items.size 0 lo)).toArray) := by
    show ((items.toList.drop (sIx items.size 0 lo)).take (sIx items.size items.size hi - sIx items.size 0 lo)).toArray.size ≤ sizeLine
    rw [List.size_toArray, List.length_take, List.length_drop, Array.length_toList]
    omega
  have hj : sIx items.size items.size hi ≤ items.size := sIx_le _ _ (Nat.le_refl _) hi
  obtain ⟨os, hos, hcs, hds⟩ := id hs
  have hTs : s.TypeIs (.ref sl) "slice" := ⟨os, hos, hcs⟩
  unfold getItem
  try with_reducible refine wpAny_holding ?_
  first | refine wpAny_bind (wpAny_pure ?_) | skip
  refine wpAny_bind (wpAny_sequenceKey ht.typeIs (by decide) ?_)
  refine wpAny_bind (wpAny_callSpecial?_slot (name := Str.ofString "__getitem__") ht.typeIs PyProof.Rows.slot_tuple_getitem
    (wpAny_call_entry PyProof.Rows.slot_tuple_getitem ht.typeIs entry_tuple_getitem ?_ (args_tuple_getitem _ _)))
  show wpAny _ _ (Builtin.Tuple.tupleItemsOf (.ref t) >>= _) _ _ s
  refine wpAny_bind (tupleItemsOf_ ht ?_)
  refine wpAny_bind (wpAny_typeOf hTs ?_)
  rw [if_pos (by decide)]
  refine wpAny_bind (sliceApplied_gen hs pl pu ?_)
  have hno : ¬ ((((sIx items.size 0 lo : Nat) : Int) == 0 && (1 : Int) == 1 && (sIx items.size items.size hi - sIx items.size 0 lo) == items.size) = true) := by
    intro q
    rw [Bool.and_eq_true, Bool.and_eq_true] at q
    have q1 : ((sIx items.size 0 lo : Nat) : Int) = 0 := eq_of_beq q.1.1
    have q2 : sIx items.size items.size hi - sIx items.size 0 lo = items.size := eq_of_beq q.2
    exact hw ⟨by omega, by omega⟩
  show wpAny _ _ (if (((sIx items.size 0 lo : Nat) : Int) == 0 && (1 : Int) == 1 && (sIx items.size items.size hi - sIx items.size 0 lo) == items.size) = true then _ else _) _ _ s
  rw [if_neg hno, pick_gen]
  first
    | exact wpAny_bind (m := Builtin.Tuple.tupleExact _) (wpAny_newObj_type (wpAny_pure ⟨_, rfl, wpAny_pure h⟩) htake)
    | exact wpAny_bind (m := Builtin.Tuple.tupleExact _) (wpAny_newObj_type (wpAny_bind (wpAny_pure (wpAny_pure ⟨_, rfl, wpAny_pure h⟩))) htake)
    | exact wpAny_bind (wpAny_bind (m := Builtin.Tuple.tupleExact _) (wpAny_newObj_type (wpAny_pure (wpAny_pure ⟨_, rfl, wpAny_pure h⟩)) htake))
    | exact wpAny_bind (wpAny_bind (m := Builtin.Tuple.tupleExact _) (wpAny_newObj_type (wpAny_pure ⟨_, rfl, wpAny_pure h⟩) htake))
end
end HT

namespace L2
open PySem PySem.Spec PyProof.Rows

/-! ### the parts of a slice -/
abbrev TO := St → Hp → (Option Int → Hp → Prop) → Prop
/-- a slice's part (left out, or an int) -/
def PO (X : Cx) (e : Option Expr) (t : TO) : Prop :=
  ∀ (pins : List (Addr × Obj)) (s : Shared) (σ : St) (H : Hp) (Q : Option Int → Hp → Prop), Inv X pins σ H s → t σ H Q →
    wpAny (model X.prog X.w) X.A (evalPart e X.env) (fun u s' => ∃ o H', Inv X pins σ H' s' ∧ IsPart u o ∧ Q o H') X.xe s
def tNoPart : TO := fun _ H Q => Q none H
def tPart (t : TE) : TO := fun σ H Q => t σ H fun x H1 => ∃ i, x = .int i ∧ Q (some i) H1

section
variable {X : Cx} {e : Expr} {te : TE} {lo hi : Option Expr} {tl th : TO} {pos p2 : Pos}

theorem po_none : PO X none tNoPart := by
  intro pins s σ H Q I h
  rw [evalPart_none]
  exact wpAny_pure ⟨none, H, I, .none, h⟩
theorem po_some (h : PE X e te) : PO X (some e) (tPart te) := by
  intro pins s σ H Q I hw
  rw [evalPart_some]
  refine thn (h pins s σ H _ I hw) fun u s1 ⟨x, H1, I1, r1, q1⟩ => ?_
  obtain ⟨i, rfl, q⟩ := q1
  obtain ⟨t, rfl⟩ := r1
  exact ⟨some i, H1, I1, .int i t, q⟩

/-- what a slice of a value is, by values: the slice object stands at sl -/
def SlR (X : Cx) (r : V → Option Int → Option Int → Hp → VK → Prop) : Prop :=
  ∀ (pins : List (Addr × Obj)) (s : Shared) (σ : St) (H : Hp) (x : V) (v vl vu : Value) (lo hi : Option Int) (sl : Addr) (Q : VK), Inv X pins σ H s → RelV x v → s.heap.IsSliceOf sl vl vu .none → IsPart vl lo → IsPart vu hi → r x lo hi H Q →
    ∃ T id, typeLookup (.type T) "__getitem__" = pure (some (.builtin id)) ∧ s.TypeIs v T ∧ wpAny (model X.prog X.w) X.A (getItem v (.ref sl)) (EP X pins σ Q) X.xe s
theorem SlR.or {r r' : V → Option Int → Option Int → Hp → VK → Prop} (h : SlR X r) (h' : SlR X r') : SlR X (fun x lo hi H Q => r x lo hi H Q ∨ r' x lo hi H Q) := by
  intro pins s σ H x v vl vu lo hi sl Q I rx hs pl pu q
  rcases q with q | q
  · exact h pins s σ H x v vl vu lo hi sl Q I rx hs pl pu q
  · exact h' pins s σ H x v vl vu lo hi sl Q I rx hs pl pu q
def tSl (r : V → Option Int → Option Int → Hp → VK → Prop) (te : TE) (tl th : TO) : TE := fun σ H Q => te σ H fun x H1 => tl σ H1 fun l H2 => th σ H2 fun u H3 => r x l u H3 Q
/-- a[lo:hi], any a -/
theorem pe_slice {r : V → Option Int → Option Int → Hp → VK → Prop} (hr : SlR X r) (he : PE X e te) (hl : PO X lo tl) (hu : PO X hi th) : PE X (.Subscript e (.Slice lo hi none p2) pos) (tSl r te tl th) := by
  intro pins s σ H Q I h
  refine Subscript_ (thn (he pins s σ H _ I h) fun v s1 ⟨x, H1, I1, r1, q1⟩ => ?_)
  refine wpAny_Slice (thn (hl pins s1 σ H1 _ I1 q1) fun vl s2 ⟨l, H2, I2, pl, q2⟩ => thn (hu pins s2 σ H2 _ I2 q2) fun vu s3 ⟨u, H3, I3, pu, q3⟩ => ?_)
  rw [evalPart_none]
  refine wpAny_pure ?_
  have I4 : Inv X pins σ H3 { s3 with heap := s3.heap.push { cls := .type "slice", data := .fields #[vl, vu, .none] } } := I3.kept (t' := s3.toks) fun b ob q => Heap.get?_push_of_some _ q
  obtain ⟨T, id, hT, ht, hg⟩ := hr pins { s3 with heap := s3.heap.push { cls := .type "slice", data := .fields #[vl, vu, .none] } } σ H3 x v vl vu l u s3.heap.objs.size Q I4 r1 (Heap.IsSliceOf.new ..) pl pu q3
  show wpAny (model X.prog X.w) X.A (subscriptTail e (.Slice lo hi none p2) v (.ref s3.heap.objs.size)) (EP X pins σ Q) X.xe { s3 with heap := s3.heap.push { cls := .type "slice", data := .fields #[vl, vu, .none] } }
  exact tail_any (ops := [.ref s3.heap.objs.size, v]) ht hT hg (by with_unfolding_all rfl)

/-- the items of xs[lo:hi] -/
def cutV (xs : List V) (lo hi : Option Int) : List V := (xs.drop (HT.sIx xs.length 0 lo)).take (HT.sIx xs.length xs.length hi - HT.sIx xs.length 0 lo)
theorem cutV_length (xs : List V) (lo hi : Option Int) : (cutV xs lo hi).length ≤ xs.length := by
  unfold cutV
  rw [List.length_take, List.length_drop]
  omega
/-- t[lo:hi], not the whole of it (the whole would be t itself) -/
def rSlT (K : PySem.W.Frag) : V → Option Int → Option Int → Hp → VK → Prop := fun x lo hi H Q => ∃ a xs, x = .ref a ∧ SqT K H a xs ∧
  ¬ (HT.sIx xs.length 0 lo = 0 ∧ HT.sIx xs.length xs.length hi = xs.length) ∧ ∀ p, H p = none → Q (.ref p) (upd H p (.tup (cutV xs lo hi)))
theorem sl_tup : SlR X (rSlT X.K) := by
  intro pins s σ H x v vl vu lo hi sl Q I rx hs pl pu h
  obtain ⟨a, xs, rfl, hx, hw, q⟩ := h
  cases rx
  obtain ⟨its, r, ht, hz⟩ := I.tuple hx
  have hlen : its.toArray.size = xs.length := by rw [List.size_toArray]; exact r.length.symm
  refine ⟨"tuple", _, PyProof.Rows.slot_tuple_getitem.lookup, ht.typeIs, ?_⟩
  refine HT.getItem_tuple_cut ht hs pl pu (by rw [hlen]; exact hw) ?_ (by rw [hlen]; exact hz)
  rw [hlen]
  refine ⟨.ref s.heap.objs.size, _, I.laid (t' := s.toks) (o := .tup (cutV xs lo hi)) (fun b ob q => Heap.get?_push_of_some _ q) (Nat.le_refl _) ?_, rfl, q _ (I.hok.fresh (Nat.le_refl _))⟩
  exact ⟨Nat.le_trans (cutV_length xs lo hi) hz, _, (r.drop (HT.sIx xs.length 0 lo)).take (HT.sIx xs.length xs.length hi - HT.sIx xs.length 0 lo), IsTup.new _ _, NoDi.new _ _⟩

/-! ### t < u, t + u -/
/-- t + u, t not empty: u empty gives t itself -/
def rCatT (K : PySem.W.Frag) : R2 := fun x y H Q => ∃ a b xs ys, x = .ref a ∧ y = .ref b ∧ SqT K H a xs ∧ SqT K H b ys ∧ xs ≠ [] ∧ xs.length + ys.length ≤ sizeLine ∧
  (ys = [] → Q (.ref a) H) ∧ (ys ≠ [] → ∀ p, H p = none → Q (.ref p) (upd H p (.tup (xs ++ ys))))
theorem Vals.nil_iff {xs : List V} {us : List Value} (r : Vals xs us) : us = [] ↔ xs = [] := by
  cases r with
  | nil => simp
  | cons _ _ => simp
theorem op_catT : OpR X (binaryOp .Add) (rCatT X.K) := by
  intro pins s σ H x y v u Q I rx ry h
  obtain ⟨a, b, xs, ys, rfl, rfl, ha, hb, hx, hz, q1, q2⟩ := h
  cases rx
  cases ry
  obtain ⟨its, r1, p1, _⟩ := I.tuple ha
  obtain ⟨its2, r2, p2, _⟩ := I.tuple hb
  refine HT.cat_tup p1 p2 (fun z => hx (r1.nil_iff.mp z)) (fun z => ⟨.ref a, H, I, rfl, q1 (r2.nil_iff.mp z)⟩) (fun z => ?_) (by rw [← r1.length, ← r2.length]; exact hz)
  refine ⟨.ref s.heap.objs.size, _, I.laid (t' := s.toks) (o := .tup (xs ++ ys)) (fun b ob q => Heap.get?_push_of_some _ q) (Nat.le_refl _) ?_, rfl, q2 (fun w => z (r2.nil_iff.mpr w)) _ (I.hok.fresh (Nat.le_refl _))⟩
  exact ⟨by rw [List.length_append]; exact hz, _, r1.append r2, IsTup.new _ _, NoDi.new _ _⟩
end
end L2

namespace L2
open PySem PySem.Spec PyProof.Rows

/-! ### places -/
/-- the place that an index of any sign means -/
def ixN (n : Nat) (i : Int) : Option Nat := if 0 ≤ i then (if i < n then some i.toNat else none) else if -(n : Int) ≤ i then some (i + n).toNat else none
def atI {α : Type} (xs : List α) (i : Int) : Option α := (ixN xs.length i).bind fun j => xs[j]?
theorem ixN_seq {n : Nat} {i : Int} {j : Nat} (h : ixN n i = some j) : seqIndex? i n = some j ∧ j < n ∧ -(n : Int) ≤ i ∧ i < n := by
  unfold ixN at h
  by_cases h0 : 0 ≤ i
  · rw [if_pos h0] at h
    by_cases h1 : i < n
    · rw [if_pos h1] at h
      have e : i.toNat = j := Option.some.inj h
      exact ⟨by rw [seqIndex_of h0 h1, e], by omega, by omega, h1⟩
    · rw [if_neg h1] at h; cases h
  · rw [if_neg h0] at h
    by_cases h1 : -(n : Int) ≤ i
    · rw [if_pos h1] at h
      have e : (i + n).toNat = j := Option.some.inj h
      exact ⟨by rw [seqIndex_neg (by omega) h1, e], by omega, h1, by omega⟩
    · rw [if_neg h1] at h; cases h
theorem atI_get {α : Type} {xs : List α} {i : Int} {v : α} (h : atI xs i = some v) : ∃ j, seqIndex? i xs.length = some j ∧ xs[j]? = some v ∧ j < xs.length ∧ -(xs.length : Int) ≤ i ∧ i < xs.length := by
  unfold atI at h
  cases e : ixN xs.length i with
  | none => rw [e] at h; cases h
  | some j =>
    rw [e] at h
    obtain ⟨h1, h2, h3, h4⟩ := ixN_seq e
    exact ⟨j, h1, h, h2, h3, h4⟩
/-! ### what may be subscripted -/
/-- what stands as an index of a plain subscript -/
def PlainIx (b : Expr) : Prop := ∀ o i, subscripted b false o i = operate [o, i] (getItem o i)
/-- a subscript by values -/
def IxR (X : Cx) (r : R2) : Prop :=
  ∀ (value slice : Expr) (pins : List (Addr × Obj)) (s : Shared) (σ : St) (H : Hp) (x y : V) (v u : Value) (Q : VK), Inv X pins σ H s → RelV x v → RelV y u → r x y H Q →
    subscripted slice false v u = operate [v, u] (getItem v u) → wpAny (model X.prog X.w) X.A (subscriptTail value slice v u) (EP X pins σ Q) X.xe s
/-- a call of a builtin's method by values: the receiver, the arguments -/
def MtR (X : Cx) (id : String) (r : V → List V → Hp → VK → Prop) : Prop :=
  ∀ (pins : List (Addr × Obj)) (s : Shared) (σ : St) (H : Hp) (x : V) (xs : List V) (v : Value) (us : List Value) (Q : VK), Inv X pins σ H s → RelV x v → Vals xs us → r x xs H Q →
    wpAny (model X.prog X.w) X.A (call (.builtin id) (v :: us)) (EP X pins σ Q) X.xe s
section
variable {X : Cx} {a b : Expr} {ta tb : TE} {pos : Pos}
theorem IxR.or {r r' : R2} (h : IxR X r) (h' : IxR X r') : IxR X (fun x y H Q => r x y H Q ∨ r' x y H Q) := by
  intro value slice pins s σ H x y v u Q I rx ry q hs
  rcases q with q | q
  · exact h value slice pins s σ H x y v u Q I rx ry q hs
  · exact h' value slice pins s σ H x y v u Q I rx ry q hs
/-- a[b] -/
theorem pe_ix {r : R2} (hr : IxR X r) (ha : PE X a ta) (hb : PE X b tb) (hs : PlainIx b) : PE X (.Subscript a b pos) (tOp r ta tb) := by
  intro pins s σ H Q I h
  exact Subscript_ (binT ha hb I h fun v u s2 x y H2 I2 rx ry q => hr a b pins s2 σ H2 x y v u Q I2 rx ry q (hs _ _))

def rIxL (K : PySem.W.Frag) : R2 := fun x y H Q => ∃ p xs i v, x = .ref p ∧ y = .int i ∧ SqL K H p xs ∧ atI xs i = some v ∧ Q v H
def rIxT (K : PySem.W.Frag) : R2 := fun x y H Q => ∃ p xs i v, x = .ref p ∧ y = .int i ∧ SqT K H p xs ∧ atI xs i = some v ∧ Q v H
theorem ix_list : IxR X (rIxL X.K) := by
  intro value slice pins s σ H x y v u Q I rx ry h hs
  obtain ⟨p, xs, i, z, rfl, rfl, hq, he, q⟩ := h
  cases rx
  obtain ⟨t, rfl⟩ := ry
  obtain ⟨its, r, pl, hz⟩ := I.list hq
  obtain ⟨j, h1, h2, h3, h4, h5⟩ := atI_get he
  obtain ⟨w, ew, rw'⟩ := r.get h2
  have hl := r.length
  have hn := line63
  have fin : EP X pins σ Q w s := ⟨z, H, I, rw', q⟩
  by_cases h0 : 0 ≤ i
  · have hj : i.toNat = j := by
      rw [seqIndex_of h0 h5] at h1
      exact Option.some.inj h1
    exact item_listR pl.isList h0 (by omega) (by rw [hj]; simpa using ew) fin hs
  · have hj : (i + (its.toArray.size : Int)).toNat = j := by
      rw [seqIndex_neg (by omega) h4] at h1
      rw [List.size_toArray, ← hl]
      exact Option.some.inj h1
    exact subscriptTail_builtinR (x := w) pl.isList.typeIs slot_list_getitem.lookup
      (wpAny_getItem_list_neg (Q := fun r s' => r = w ∧ EP X pins σ Q r s') pl.isList (by omega) (by rw [List.size_toArray] <;> omega) (by omega) (by rw [hj]; simpa using ew) ⟨rfl, fin⟩) hs
theorem ix_tup : IxR X (rIxT X.K) := by
  intro value slice pins s σ H x y v u Q I rx ry h hs
  obtain ⟨p, xs, i, z, rfl, rfl, hq, he, q⟩ := h
  cases rx
  obtain ⟨t, rfl⟩ := ry
  obtain ⟨its, r, pl, hz⟩ := I.tuple hq
  obtain ⟨j, h1, h2, h3, h4, h5⟩ := atI_get he
  obtain ⟨w, ew, rw'⟩ := r.get h2
  have hl := r.length
  have hn := line63
  have fin : EP X pins σ Q w s := ⟨z, H, I, rw', q⟩
  exact subscriptTail_builtinR (x := w) pl.typeIs slot_tuple_getitem.lookup
    (getItem_tuple (j := j) (Q := fun r s' => r = w ∧ EP X pins σ Q r s') pl (by omega) (by omega) (by rw [List.size_toArray, ← hl]; exact h1) (by simpa using ew) ⟨rfl, fin⟩) hs
/-! ### xs[i] = v, any sign -/
/-! ### slices -/
theorem slice_bounds (lo hi : Option Int) (n : Nat) : (sliceBounds lo hi none n).1 = ((HT.sIx n 0 lo : Nat) : Int) ∧ (sliceBounds lo hi none n).2.1 = ((HT.sIx n n hi : Nat) : Int) ∧ (sliceBounds lo hi none n).2.2 = 1 := by
  refine ⟨?_, ?_, rfl⟩
  · cases lo with
    | none => simp [sliceBounds, HT.sIx]
    | some i =>
      simp only [sliceBounds, HT.sIx, Option.getD_none, show (1 : Int) > 0 by decide, if_true]
      by_cases h : i < 0
      · simp only [h, if_true] <;> omega
      · simp only [h, if_false] <;> omega
  · cases hi with
    | none => simp [sliceBounds, HT.sIx]
    | some i =>
      simp only [sliceBounds, HT.sIx, Option.getD_none, show (1 : Int) > 0 by decide, if_true]
      by_cases h : i < 0
      · simp only [h, if_true] <;> omega
      · simp only [h, if_false] <;> omega
theorem slicePick_cut (its : List Value) (lo hi : Option Int) : slicePick its.toArray lo hi none = ((its.drop (HT.sIx its.length 0 lo)).take (HT.sIx its.length its.length hi - HT.sIx its.length 0 lo)).toArray := by
  obtain ⟨h1, h2, h3⟩ := slice_bounds lo hi its.toArray.size
  unfold slicePick
  rw [h1, h2, h3]
  simp only [sliceRange_one, pick_run, List.size_toArray] <;> rfl
/-- xs[lo:hi] of a list: a new list -/
def rSlL (K : PySem.W.Frag) : V → Option Int → Option Int → Hp → VK → Prop := fun x lo hi H Q => ∃ a xs, x = .ref a ∧ SqL K H a xs ∧ ∀ p, H p = none → Q (.ref p) (upd H p (.lst (cutV xs lo hi)))
theorem sl_list : SlR X (rSlL X.K) := by
  intro pins s σ H x v vl vu lo hi sl Q I rx hs pl pu h
  obtain ⟨a, xs, rfl, hx, q⟩ := h
  cases rx
  obtain ⟨its, r, ht, hz⟩ := I.list hx
  have hlen := r.length
  refine ⟨"list", _, slot_list_getitem.lookup, ht.isList.typeIs, ?_⟩
  refine wpAny_getItem_list_slice ht.isList hs pl pu .none (by simp) ?_ (by rw [List.size_toArray] <;> omega)
  rw [slicePick_cut, ← hlen]
  refine ⟨.ref s.heap.objs.size, _, I.laid (t' := s.toks) (o := .lst (cutV xs lo hi)) (fun b ob q => Heap.get?_push_of_some _ q) (Nat.le_refl _) ?_, rfl, q _ (I.hok.fresh (Nat.le_refl _))⟩
  exact ⟨Nat.le_trans (cutV_length xs lo hi) hz, _, 0, (r.drop (HT.sIx xs.length 0 lo)).take (HT.sIx xs.length xs.length hi - HT.sIx xs.length 0 lo), Heap.get?_push_size _ rfl⟩

/-! ### in, not in: flat items -/
def flatV : V → Bool
  | .non => true
  | .bl _ => true
  | .int _ => true
  | .str _ => true
  | _ => false
/-- == of flat values -/
def eqV : V → V → Bool
  | .non, .non => true
  | .bl a, .bl b => a == b
  | .bl a, .int b => (if a then 1 else 0) == b
  | .int a, .bl b => a == (if b then 1 else 0)
  | .int a, .int b => a == b
  | .str a, .str b => a == b
  | _, _ => false
theorem eqAt_V {A : Around} {s : Shared} {y x : V} {u v : Value} (ry : RelV y u) (rx : RelV x v) (fy : flatV y = true) (fx : flatV x = true) : SeqAt.EqAt A s u v (eqV y x) := by
  cases y with
  | non =>
    cases ry
    cases x with
    | non => cases rx; exact SeqAt.EqAt.same _
    | bl b => cases rx; exact SeqAt.EqAt.none_bool b
    | int b => obtain ⟨t, rfl⟩ := rx; exact SeqAt.EqAt.none_int b t
    | str b => obtain ⟨t, rfl⟩ := rx; exact SeqAt.EqAt.none_str b t
    | _ => exact absurd (show false = true from fx) Bool.false_ne_true
  | bl a =>
    cases ry
    cases x with
    | non => cases rx; exact SeqAt.EqAt.bool_none a
    | bl b => cases rx; exact SeqAt.EqAt.bool_bool a b
    | int b => obtain ⟨t, rfl⟩ := rx; exact SeqAt.EqAt.bool_int a b t
    | str b => obtain ⟨t, rfl⟩ := rx; exact SeqAt.EqAt.bool_str a b t
    | _ => exact absurd (show false = true from fx) Bool.false_ne_true
  | int a =>
    obtain ⟨t', rfl⟩ := ry
    cases x with
    | non => cases rx; exact SeqAt.EqAt.int_none a t'
    | bl b => cases rx; exact SeqAt.EqAt.int_bool a t' b
    | int b => obtain ⟨t, rfl⟩ := rx; exact SeqAt.EqAt.int_int a t' b t
    | str b => obtain ⟨t, rfl⟩ := rx; exact SeqAt.EqAt.int_str a t' b t
    | _ => exact absurd (show false = true from fx) Bool.false_ne_true
  | str a =>
    obtain ⟨t', rfl⟩ := ry
    cases x with
    | non => cases rx; exact SeqAt.EqAt.str_none a t'
    | bl b => cases rx; exact SeqAt.EqAt.str_bool a t' b
    | int b => obtain ⟨t, rfl⟩ := rx; exact SeqAt.EqAt.str_int a t' b t
    | str b => obtain ⟨t, rfl⟩ := rx; exact SeqAt.EqAt.str_str a t' b t
    | _ => exact absurd (show false = true from fx) Bool.false_ne_true
  | _ => exact absurd (show false = true from fy) Bool.false_ne_true
/-- the items' answers, read off the values (a value's own answer does not lean on its token) -/
def eqU (x : V) (u : Value) : Bool := match u with
  | .none => eqV .non x
  | .bool b => eqV (.bl b) x
  | .int i _ => eqV (.int i) x
  | .str z _ => eqV (.str z) x
  | _ => false
theorem eqU_of {x y : V} {u : Value} (r : RelV y u) (f : flatV y = true) : eqU x u = eqV y x := by
  cases y with
  | non => cases r; rfl
  | bl b => cases r; rfl
  | int i => obtain ⟨t, rfl⟩ := r; rfl
  | str z => obtain ⟨t, rfl⟩ := r; rfl
  | _ => exact absurd (show false = true from f) Bool.false_ne_true
theorem any_eqU {x : V} : ∀ {xs : List V} {us : List Value}, Vals xs us → xs.all flatV = true → us.any (eqU x) = xs.any fun y => eqV y x
  | _, _, .nil, _ => rfl
  | y :: xs, u :: us, .cons r t, f => by
    rw [List.all_cons, Bool.and_eq_true] at f
    rw [List.any_cons, List.any_cons, eqU_of r f.1, any_eqU t f.2]
theorem mem_eqAt {A : Around} {s : Shared} {x : V} {v : Value} (rx : RelV x v) (fx : flatV x = true) : ∀ {xs : List V} {us : List Value}, Vals xs us → xs.all flatV = true → ∀ u ∈ us, SeqAt.EqAt A s u v (eqU x u)
  | _, _, .nil, _ => fun u hu => by cases hu
  | y :: xs, u :: us, .cons r t, f => fun u' hu => by
    rw [List.all_cons, Bool.and_eq_true] at f
    rcases List.mem_cons.mp hu with rfl | hu
    · rw [eqU_of r f.1]; exact eqAt_V r rx f.1 fx
    · exact mem_eqAt rx fx t f.2 u' hu
def inV (x : V) (xs : List V) : Bool := xs.any fun y => eqV y x
/-- x in a list or tuple of flat items -/
def rIn (K : PySem.W.Frag) (neg : Bool) : R2 := fun x y H Q => ∃ p xs, y = .ref p ∧ (SqL K H p xs ∨ SqT K H p xs) ∧ flatV x = true ∧ xs.all flatV = true ∧ Q (.bl (if neg then !inV x xs else inV x xs)) H
theorem op_in_seq : OpR X (compareOp .In) (rIn X.K false) := by
  intro pins s σ H x y v u Q I rx ry h
  obtain ⟨p, xs, rfl, hq, fx, fs, q⟩ := h
  cases ry
  rcases hq with hq | hq
  · obtain ⟨its, r, pl, hz⟩ := I.list hq
    refine SeqAt.in_listAt (eqU x) pl.isList (fun w hw => mem_eqAt rx fx r fs w (by simpa using hw)) ⟨.bl _, H, I, rfl, ?_⟩
    rw [show its.toArray.any (eqU x) = its.any (eqU x) by simp, any_eqU r fs]
    exact q
  · obtain ⟨its, r, pl, hz⟩ := I.tuple hq
    refine SeqAt.in_tupleAt (eqU x) pl (fun w hw => mem_eqAt rx fx r fs w (by simpa using hw)) ⟨.bl _, H, I, rfl, ?_⟩
    rw [show its.toArray.any (eqU x) = its.any (eqU x) by simp, any_eqU r fs]
    exact q
/-! ### len, list(x), tuple(x) of any list or tuple that is read -/
theorem call_tuple_of : CallR X (.type "tuple") (fun xs H Q => ∃ p ys, xs = [.ref p] ∧ ((SqL X.K H p ys ∧ ∀ l, H l = none → Q (.ref l) (upd H l (.tup ys))) ∨ (SqT X.K H p ys ∧ Q (.ref p) H))) := by
  intro pins s σ H xs us Q I r h
  obtain ⟨p, ys, rfl, h⟩ := h
  obtain ⟨u, rfl, rx⟩ := vals1 r
  cases rx
  rcases h with ⟨hq, q⟩ | ⟨hq, q⟩
  · obtain ⟨its, r', pl, hz⟩ := I.list hq
    have hlen := r'.length
    refine call_tuple_list pl.isList (fun h' kp => ?_) (by simp only [List.size_toArray] <;> omega)
    have I1 : Inv X pins σ H { s with heap := h' } := I.kept (t' := s.toks) kp
    have I2 : Inv X pins σ (upd H h'.objs.size (.tup ys)) { s with heap := h'.push { cls := .type "tuple", data := .seq its.toArray } } :=
      I1.laid (t' := s.toks) (fun b o e => Heap.get?_push_of_some _ e) (Nat.le_refl _) (show ObjOk X.prog X.w _ _ _ (.tup ys) from ⟨hz, its, r', IsTup.new _ _, NoDi.new _ _⟩)
    exact ⟨.ref h'.objs.size, _, I2, rfl, q _ (I1.hok.fresh (Nat.le_refl _))⟩
  · obtain ⟨its, r', pl, hz⟩ := I.tuple hq
    exact call_tuple_same pl ⟨.ref p, H, I, rfl, q⟩

/-! ### the call of a builtin's method: o.m(..) -/
/-- the value is of that builtin type -/
def tyV (K : PySem.W.Frag) (T : String) (x : V) (H : Hp) : Prop := match x with
  | .str _ => T = "str"
  | .int _ => T = "int"
  | .ref p => (T = "list" ∧ ∃ xs, SqL K H p xs) ∨ (T = "tuple" ∧ ∃ o, K.lookup p = some o ∧ o.cls = .type "tuple" ∧ o.dict = none) ∨
      (T = "dict" ∧ ((∃ kvs, H p = some (.dK kvs)) ∨ ∃ kvs, H p = some (.dT kvs))) ∨ (T = "set" ∧ ∃ S n, H p = some (.set S n))
  | _ => False
theorem tyV_is {pins : List (Addr × Obj)} {σ : St} {H : Hp} {s : Shared} {T : String} {x : V} {v : Value} (I : Inv X pins σ H s) (r : RelV x v) (ty : tyV X.K T x H) :
    s.TypeIs v T ∧ ∀ a, v = .ref a → ∃ ob, s.heap.get? a = some ob ∧ ob.dict = none := by
  cases x with
  | str z =>
    obtain ⟨t, rfl⟩ := r
    cases (show T = "str" from ty)
    exact ⟨typeIs_str s z t, fun _ e => nomatch e⟩
  | int i =>
    obtain ⟨t, rfl⟩ := r
    cases (show T = "int" from ty)
    exact ⟨typeIs_int s i t, fun _ e => nomatch e⟩
  | ref p =>
    cases r
    rcases ty with ⟨rfl, xs, hq⟩ | ⟨rfl, o, hk, hc, hd⟩ | ⟨rfl, hk⟩ | ⟨rfl, S, n, hk⟩
    · obtain ⟨its, _, pl, _⟩ := I.list hq
      refine ⟨pl.isList.typeIs, fun a e => ?_⟩
      cases e
      obtain ⟨o, n, e, c, hd, _⟩ := pl
      exact ⟨o, e, hd⟩
    · refine ⟨⟨o, I.kIn p o hk, hc⟩, fun a e => ?_⟩
      cases e
      exact ⟨o, I.kIn _ o hk, hd⟩
    · have z : ∃ o, s.heap.get? p = some o ∧ o.ExactDict := by
        rcases hk with ⟨kvs, hk⟩ | ⟨kvs, hk⟩
        · obtain ⟨_, _, _, _, o, _, _, e, ex, _⟩ := I.hok p _ hk
          exact ⟨o, e, ex⟩
        · obtain ⟨_, _, _, _, o, _, _, e, ex, _⟩ := I.hok p _ hk
          exact ⟨o, e, ex⟩
      obtain ⟨o, e, ex⟩ := z
      refine ⟨⟨o, e, ex.1⟩, fun a e2 => ?_⟩
      cases e2
      exact ⟨o, e, ex.2.1⟩
    · obtain ⟨o, _, _, _, e, ex, _⟩ := I.hok p _ hk
      refine ⟨⟨o, e, ex.1⟩, fun a e2 => ?_⟩
      cases e2
      exact ⟨o, e, ex.2.1⟩
  | _ => exact False.elim ty
def tBM (K : PySem.W.Frag) (T : String) (r : V → List V → Hp → VK → Prop) (to : TE) (t : TA) : TE := fun σ H Q => to σ H fun x H1 => tyV K T x H1 ∧ t σ H1 fun xs H2 => r x xs H2 Q
variable {o e : Expr} {es : List Expr} {to : TE} {t : TA} {name : Str} {apos cpos : Pos} {T id : String} {r : V → List V → Hp → VK → Prop}
theorem pe_bm (pa : PlainAttrs T) (slot : Slot T name id) (hty : typeOf (.builtin id) = pure (.type "method_descriptor")) (hm : MtR X id r) (ho : PE X o to) (ha : PA X (e :: es) t)
    (hbase : attributeBase o name X.env (eval o X.env) = eval o X.env := by rfl)
    (hfew : ((backTo cpos (starEach (e :: es) X.env)).all (fun x => !x.1) && (backToKw cpos (keywordEach [] X.env)).all (fun x => x.1.isSome)
      && decide ((e :: es).length + ([] : List Keyword).length + (if ([] : List Keyword).isEmpty then 0 else 1) < 30)) = true := by rfl)
    (hline : (apos.endLine == cpos.line) = true := by rfl) (hs : starEach (e :: es) X.env = (false, eval e X.env) :: starEach es X.env := by rfl) (hplain : (backTo cpos (starEach es X.env)).any (·.1) = false := by rfl) :
    PE X (.Call (.Attribute o name apos) (e :: es) [] cpos) (tBM X.K T r to t) := by
  intro pins s σ H Q I h
  refine wpAny_Call_method_late hbase hfew hline rfl (thn (ho pins s σ H _ I h) fun v s1 ⟨x, H1, I1, r1, ty, q1⟩ => ?_)
  obtain ⟨h1, h2⟩ := tyV_is I1 r1 ty
  refine ⟨T, id, pa, slot, hty, h1, h2, ?_⟩
  have hA := ha cpos pins s1 σ H1 _ I1 q1
  rw [hs] at hA ⊢
  refine Calls.callWith_builtin (by show (false || (backTo cpos (starEach es X.env)).any (·.1)) = false; rw [hplain] <;> rfl) (Calls.evalArgs_plain ?_)
  exact thn hA fun us s2 ⟨vs, H2, I2, r2, q2⟩ => hm pins s2 σ H2 x vs v us Q I2 r1 r2 q2
/- xs.append(e), list.index on a module's tuple .. are MtR facts of 06m -/
end
end L2

namespace L2
open PySem PySem.Spec PyProof.Rows

def MtM (X : Cx) (id : String) (r : V → List V → Hp → VK → Prop) : Prop :=
  ∀ (pins : List (Addr × Obj)) (s : Shared) (σ : St) (H : Hp) (x : V) (xs : List V) (v : Value) (us : List Value) (Q : VK), Inv X pins σ H s → RelV x v → Vals xs us → r x xs H Q →
    wpAny (model X.prog X.w) X.A (call (.builtin id) (v :: us)) (EP X pins σ Q) X.xe s

/-! ### lists of values -/
theorem Vals.one : ∀ {x : V} {us : List Value}, Vals [x] us → ∃ u, us = [u] ∧ RelV x u
  | _, _, h => by
    cases h with
    | cons r t =>
      cases t
      exact ⟨_, rfl, r⟩
theorem Vals.two : ∀ {x y : V} {us : List Value}, Vals [x, y] us → ∃ u v, us = [u, v] ∧ RelV x u ∧ RelV y v
  | _, _, _, h => by
    cases h with
    | cons r t =>
      cases t with
      | cons q t2 =>
        cases t2
        exact ⟨_, _, rfl, r, q⟩
theorem Vals.rep {xs : List V} {us : List Value} (h : Vals xs us) : ∀ k : Nat, Vals (List.replicate k xs).flatten (List.replicate k us).flatten
  | 0 => .nil
  | k + 1 => by
    rw [List.replicate_succ, List.replicate_succ, List.flatten_cons, List.flatten_cons]
    exact Vals.append h (Vals.rep h k)
theorem foldl_rep (its : List Value) : ∀ (k : Nat) (acc : List Value),
    List.foldl (fun x1 x2 => x1 ++ x2) acc.toArray (List.replicate k its.toArray) = (acc ++ (List.replicate k its).flatten).toArray
  | 0, acc => by simp
  | k + 1, acc => by
    have e : acc.toArray ++ its.toArray = (acc ++ its).toArray := by simp
    have e2 : (acc ++ its) ++ (List.replicate k its).flatten = acc ++ (List.replicate (k + 1) its).flatten := by
      rw [List.replicate_succ, List.flatten_cons, List.append_assoc]
    rw [← e2, ← foldl_rep its k (acc ++ its), ← e, List.replicate_succ, List.foldl_cons]

section
variable {X : Cx} {pins : List (Addr × Obj)} {σ : St} {H : Hp} {s : Shared} {l b : Addr} {xs ys zs : List V}

/-! ### the two steps: a tracked list is rewritten, a new list is laid -/
theorem Inv.lset {its its' : List Value} {n : Nat} {f : Array Value → Array Value} {t' : Nat} (I : Inv X pins σ H s) (hH : H l = some (.lst xs))
    (e : s.heap.get? l = some { cls := .type "list", data := .seq its.toArray n }) (hf : f its.toArray = its'.toArray) (hv : Vals ys its') (hz : ys.length ≤ sizeLine) :
    Inv X pins σ (upd H l (.lst ys)) { s with heap := s.heap.update l (Obj.mapSeq f), toks := t' } := by
  have q := PySem.IsL.update e f
  rw [hf] at q
  refine I.write (x := l) (e := l) (by rw [hH]; exact trivial) (.inl rfl) (fun b' u hb hu => (Heap.get?_update_other s.heap (Obj.mapSeq f) (Ne.symm hb)).trans hu) ⟨_, q⟩ ?_
  exact ⟨hz, its', _, hv, q⟩
theorem Inv.lnew {its : List Value} {t' : Nat} (I : Inv X pins σ H s) (hv : Vals ys its) (hz : ys.length ≤ sizeLine) :
    Inv X pins σ (upd H s.heap.objs.size (.lst ys)) { s with heap := s.heap.push { cls := .type "list", data := .seq its.toArray }, toks := t' } :=
  I.laid (fun _ _ q => Heap.get?_push_of_some _ q) (Nat.le_refl _) ⟨hz, its, 0, hv, Heap.get?_push_size _ rfl⟩
theorem Inv.fresh (I : Inv X pins σ H s) : H s.heap.objs.size = none := I.hok.fresh (Nat.le_refl _)
theorem Inv.lstM (I : Inv X pins σ H s) (hH : H l = some (.lst xs)) : xs.length ≤ sizeLine ∧ ∃ (its : List Value) (n : Nat), Vals xs its ∧ xs.length = its.length ∧ s.heap.get? l = some { cls := .type "list", data := .seq its.toArray n } := by
  obtain ⟨z, its, n, r, e⟩ := I.hok l _ hH
  exact ⟨z, its, n, r, r.length, e⟩

theorem notLongL {n : Nat} (h : n ≤ sizeLine) : Builtin.List.listTooLong n = false := by
  unfold Builtin.List.listTooLong
  exact decide_eq_false (by omega)
end

section
variable {X : Cx}

/-! ### methods -/
def rAppend : V → List V → Hp → VK → Prop := fun x vs H Q => ∃ l xs y, x = .ref l ∧ vs = [y] ∧ H l = some (.lst xs) ∧ xs.length < sizeLine ∧ Q .non (upd H l (.lst (xs ++ [y])))
theorem mt_append : MtM X "list.append" rAppend := by
  intro pins s σ H x vs v us Q I rx rv h
  obtain ⟨l, xs, y, rfl, rfl, hH, hz, q⟩ := h
  cases rx
  obtain ⟨u, rfl, ru⟩ := rv.one
  obtain ⟨z, its, n, r, hl, e⟩ := I.lstM hH
  refine call_meets F.slot_list_append ⟨_, e, rfl⟩ F.entry_list_append (F.args_list_append_2 _ _) (PySem.list_append l its.toArray n u (by rw [List.size_toArray]; omega)) ⟨e, ?_⟩
  refine ⟨.non, _, I.lset (its' := its ++ [u]) hH e (by simp) (r.append (.cons ru .nil)) ?_, rfl, q⟩
  rw [List.length_append, List.length_singleton]
  omega

/-! ### list + list, list += list, list * int -/
theorem len_rep {α : Type} (xs : List α) (k : Nat) : (List.replicate k xs).flatten.length = k * xs.length := by
  induction k with
  | zero => simp
  | succ k ih => rw [List.replicate_succ, List.flatten_cons, List.length_append, ih, Nat.succ_mul, Nat.add_comm]
/-! ### del xs[i] -/
end

/-! ### xs[a:b] = ys -/
section
variable {prog : Program} {w : World} {A : Around} {E : Value → Shared → Prop} {s : Shared}
end

section
variable {X : Cx}
end
end L2

namespace Att
open PySem PySem.W PySem.Calls PyProof.Rows

/-! ### the script -/
theorem ints_of_wellAll {P : Params} {h : Heap} : ∀ (ns : List Int) (vs : List Value), WellAll P h vs (ns.map WData.int) → IntsAre vs ns := by
  intro ns
  induction ns with
  | nil =>
    intro vs w
    rw [List.map_nil] at w
    cases w
    exact .nil
  | cons n ns ih =>
    intro vs w
    rw [List.map_cons] at w
    cases w with
    | cons a b =>
      cases a
      exact .cons _ _ (ih _ b)

theorem script_of {l : OpenLaw} {n : Nat} (hn : l.most = some n) {P : Params} {h : Heap} {args : List WData} {vals : List Value}
    (hpre : l.row.toRowW.claim.pre args = true) (hwl : WellAll P h vals args) :
    ∃ a vs ns, vals = [Value.ref a] ∧ args = [WData.list (ns.map WData.int)] ∧ h.get? a = some { cls := .type "list", data := .seq vs.toArray } ∧ IntsAre vs ns ∧ ns.length ≤ n := by
  have hsh : WShape.hasAll [] args [.list .int] = true := (pre_splitW hpre).1
  have hc : l.pre.holds [] { args := args } = true := (pre_splitW hpre).2
  obtain ⟨d, r, rfl, h1, h2⟩ := hasAllW_cons hsh
  obtain rfl := hasAllW_nil h2
  obtain ⟨xs, rfl, h3⟩ := hasW_list h1
  obtain ⟨ns, rfl⟩ := items_int h3
  have hlen : ns.length ≤ n := by
    unfold OpenLaw.pre at hc
    have h4 : (WTm.not (.lt (.lit (.int (n : Int))) (.len (.arg 0)))).holds [] { args := [.list (ns.map .int)] } = true := by
      have h4 := (holds_andW hc).1
      rw [hn] at h4
      exact h4
    have h5 := condW_of h4 (w_not (w_lt w_lit (w_len_list (w_arg rfl))))
    rw [List.length_map] at h5
    refine Nat.le_of_not_lt fun q => ?_
    have q' : (n : Int) < ((ns.length : Nat) : Int) := by omega
    first
      | (rw [decide_eq_true q'] at h5; exact absurd h5 (by decide))
      | (simp at h5; omega)
  cases hwl with
  | cons w1 w2 =>
    cases w2
    cases w1 with
    | list ho hall => exact ⟨_, _, ns, rfl, rfl, ho, ints_of_wellAll ns _ hall, hlen⟩

theorem post_true (l : OpenLaw) (args : List WData) : l.row.toRowW.claim.post args (.bool true) args = true :=
  postW_of (r := l.row.toRowW) (X := (true == true))
    (show WShape.has [] (.bool true) .bool = true by first | rfl | decide | simp [WShape.has, WShape.arms, WShape.armsAll])
    (show (WTm.eq .res (.lit (.bool true))).value [] { args := args, res := some (.bool true), after := args } = some (.bool (true == true)) from w_eq_bool (w_res rfl) w_lit) rfl

/-! ### the attachment: holds_open's last premise (the goal 'hc' behind k_head) from a wpAny of the law's body -/
/-- the same from a codeAny of the CALL (for a layer whose function contracts speak of calls) -/
theorem attach_call {l : OpenLaw} {n : Nat} {q : Program} {loose : List Str} {XP : (Str → Option Value) → Heap → Prop} {YP : World → Heap → Prop} {d : DefRec}
    (hn : l.most = some n) (hdf : d.params.defaults = [])
    (call : ∀ (w : World) (s₀ s₁ : Shared) (mg mb : Str → Option Value) (fa : Addr) (o : Obj) (pm cd doc : Value) (a : Addr) (vs : List Value) (ns : List Int),
      Ground q loose [] XP w s₀ mg mb s₁.heap → YP w s₁.heap →
      s₁.heap.get? fa = some o → o.data = .func (docDef d.name d.params d.body d.scope pm cd doc) → s₁.heap.CodeRec cd d.name → mg d.name = some (.ref fa) →
      s₁.heap.get? a = some { cls := .type "list", data := .seq vs.toArray } → IntsAre vs ns → ns.length ≤ n → s₁.gens = #[] →
      codeAny (model l.prog w) callerA (.call (.ref fa) ⟨[.ref a], []⟩) (fun r s' => r = .ok (.ret (.bool true)) ∧ OldK s₁.heap s'.heap ∧ s'.os = s₁.os ∧ AllBare s'.gens) s₁) :
    WalkO q loose XP YP l.row.toRowW d [] (fun f vs => PySem.call f vs) := by
  intro w s₀ s₁ mg mb G Y fa o pm cd doc dV kV ho hd hcd hD hmg hg args vals as hpre hlay hrd hwl hlo
  obtain rfl : dV = .none := Dflts.none hD hdf
  obtain rfl : kV = .none := Dflts.noKw hD
  obtain ⟨a, vs, ns, rfl, rfl, hobj, hints, hlen⟩ := script_of hn hpre hwl
  refine enter_call (codeAny_mono (call w s₀ s₁ mg mb fa o pm cd doc a vs ns G Y ho (fd_plain hd) hcd hmg hobj hints hlen hg) fun r s' hq => ?_)
  obtain ⟨rfl, h2, h3, h4⟩ := hq
  exact ⟨.inl ⟨.bool true, .bool true, [], rfl, fun _ => rfl, .bool true, post_true l _, fun _ => ⟨List.Pairwise.nil, fun _ hm => (nomatch hm)⟩⟩, h2, h3, h4⟩

/-! ### rules over ANY heap (no ledger) from facts about the written part K: the library's own take a ledger (News) for what they write -/
section
variable {prog : Program} {w : World} {A : Around} {E : Value → Shared → Prop} {s : Shared} {K : Frag}

/-! the whole heap as the ledger: makes every rule that writes through a ledger a rule over any heap -/
def ledger (h : Heap) (L d : Addr) : List (Addr × Obj) := (List.range h.objs.size).filterMap fun a => if a = L ∨ a = d then none else (h.get? a).map fun o => (a, o)
end
end Att

namespace L2
open PySem PySem.Spec PyProof.Rows

theorem vals_ints : ∀ {vs : List Value} {ns : List Int}, IntsAre vs ns → Vals (ns.map V.int) vs
  | _, _, .nil => .nil
  | _, _, .cons n t h => .cons ⟨t, rfl⟩ (vals_ints h)

/-- nothing is tracked but the script, known to the object (or it is an object of the module) -/
def Only (H : Hp) : Prop := ∀ b, H b = none ∨ ∃ o xs, H b = some (.frz o (.lst xs))

/-- THE HEAD: the law's promise, at the heap behind the top. F, the promise of the law's def, may use that base is part of the heap (so K.In base, base.Ns mainGlobals mg stand in Mod) -/
theorem law_call {P : Program} {w : World} {K : PySem.W.Frag} {mg mb : Str → Option Value} {CX : CXT} {k : Nat} {fa a : Addr} {fd : FuncData} {x : Str} {sp : Sp} {s₁ : Shared} {vs : List Value} {ns : List Int}
    (KX : K.In s₁.heap) (hns : s₁.heap.Ns mainGlobals mg) (hb : s₁.heap.Ns builtinsNs mb) (hbb : ∀ x : Str, x ≠ "__name__" → mb x = bootBuiltins x) (hlim : s₁.heap.NoLimit) (hg : s₁.gens = #[])
    (ha : s₁.heap.get? a = some { cls := .type "list", data := .seq vs.toArray }) (hi : IntsAre vs ns) (hl : ns.length ≤ sizeLine) (hr : Room k callerA)
    (F : ∀ base : Heap, K.In base → base.Ns mainGlobals mg → FnOk P w K mg base CX k fa fd [x] sp) (hbind : ∀ (s : Shared) (u : Value), BindsTo s fd ⟨[u], []⟩ [(x, u)])
    (hsp : ∀ H : Hp, Only H → SqL K H a (ns.map V.int) → sp [.ref a] H (fun v _ => v = .bl true) fun _ _ _ => False)
    (hCX : ∀ H e s', CX [] H s₁ (fun _ _ _ => False) e s' → False) :
    codeAny (model P w) callerA (.call (.ref fa) ⟨[.ref a], []⟩) (fun r s' => r = .ok (.ret (.bool true)) ∧ OldK s₁.heap s'.heap ∧ s'.os = s₁.os ∧ AllBare s'.gens) s₁ := by
  have rv := vals_ints hi
  have lenV := hi.length
  -- from an abstract heap in which nothing but the script may be tracked
  have core : ∀ H : Hp, Only H → SqL K H a (ns.map V.int) → HOk P w H s₁.heap → (∀ b, H b ≠ none → b = a) → (H a ≠ none → K.lookup a = none) →
      codeAny (model P w) callerA (.call (.ref fa) ⟨[.ref a], []⟩) (fun r s' => r = .ok (.ret (.bool true)) ∧ OldK s₁.heap s'.heap ∧ s'.os = s₁.os ∧ AllBare s'.gens) s₁ := by
    intro H hO hS hok hA hK
    have base_of : ∀ {b : Addr} {o : Obj}, s₁.heap.get? b = some o → H b = none → (hidT s₁.heap H).get? b = some o := fun e n => hidT_get e n
    have noA : ∀ {b : Addr} {o : Obj} {es : Array DictEntry} {ep : Nat}, s₁.heap.get? b = some o → o.data = .dict es ep → H b = none := fun {b o es ep} e d => by
      cases q : H b with
      | none => rfl
      | some u =>
        have e' : b = a := hA b (by rw [q]; simp)
        subst e'
        rw [ha] at e; cases e
        have d' : Data.seq vs.toArray _ = Data.dict es ep := d
        cases d'
    have nsK : ∀ {b : Addr} {m : Str → Option Value}, s₁.heap.Ns b m → (hidT s₁.heap H).Ns b m := fun {b m} ⟨o, es, ep, e, d, r⟩ => ⟨o, es, ep, base_of e (noA e d), d, r⟩
    have hKb : K.In (hidT s₁.heap H) := fun b o e => base_of (KX b o e) (by
      cases q : H b with
      | none => rfl
      | some u =>
        have e' : b = a := hA b (by rw [q]; simp)
        subst e'
        rw [hK (by rw [q]; simp)] at e; cases e)
    have hM : Mod K mg (hidT s₁.heap H) := ⟨hKb, nsK hns, ⟨mb, nsK hb, hbb⟩, let ⟨mc, h1, h2⟩ := hlim; ⟨mc, nsK h1, h2⟩⟩
    have e0 : Env0 P w K mg (hidT s₁.heap H) callerA [] s₁ H := ⟨rfl, hM, fun b o e => of_hidT e, Nat.le_of_eq (hidT_size _ _), trivial, fun b hb => absurd (show b ∈ ([] : List Addr) from hb) (by simp), hok, .of_eq hg⟩
    refine codeAny_mono ((F _ hKb (nsK hns)).run callerA [] s₁ H ⟨[.ref a], []⟩ [.ref a] [.ref a] _ _ hr e0 (hbind s₁ (.ref a)) (.cons rfl .nil) (hsp H hO hS)) fun r s' h => ?_
    cases r with
    | error e => exact (hCX H e s' h).elim
    | ok fl =>
      cases fl with
      | next => exact False.elim h
      | brk => exact False.elim h
      | cont => exact False.elim h
      | ret u =>
        obtain ⟨v, H', os, bare, un, hok', r', q⟩ := h
        have q' : v = .bl true := q
        subst q'
        obtain rfl : u = Value.bool true := r'
        refine ⟨rfl, OldK.of_keep fun b o e => ?_, os, bare⟩
        cases q : H b with
        | none => exact un.keep b o e q (by intro z; exact absurd (show b ∈ ([] : List Addr) from z) (by simp)) (by simp)
        | some u =>
          rcases hO b with z | ⟨ob, xs, z⟩
          · rw [q] at z; cases z
          · have z2 := un.frzs b ob _ z
            obtain ⟨e1, _⟩ := hok b _ z
            obtain ⟨e2, _⟩ := hok' b _ z2
            rw [e] at e1; cases e1
            exact e2
  cases hk : K.lookup a with
  | some o =>
    -- the script is one of the module's own objects
    have e := KX a o hk
    rw [ha] at e
    cases e
    refine core (fun _ => none) (fun _ => .inl rfl) (.inr ⟨_, vs.toArray, _, hk, rfl, rfl, rfl, by rw [List.size_toArray, lenV]; exact hl, by simpa using rv⟩) (fun b u z => by have z' : (none : Option HO) = some u := z; cases z') (fun b z => absurd rfl z) fun z => absurd rfl z
  | none =>
    refine core (fun b => if b = a then some (.frz { cls := .type "list", data := .seq vs.toArray } (.lst (ns.map V.int))) else none) (fun b => ?_) (.inl (.inr ⟨{ cls := .type "list", data := .seq vs.toArray }, if_pos rfl⟩)) (fun b u z => ?_) (fun b z => ?_) fun _ => hk
    · by_cases hb : b = a
      · exact .inr ⟨_, _, if_pos hb⟩
      · exact .inl (if_neg hb)
    · by_cases hb : b = a
      · have z' := (if_pos hb).symm.trans z
        cases z'
        subst hb
        exact ⟨ha, by rw [List.length_map]; exact hl, vs, _, rv, ha⟩
      · have z' := (if_neg hb).symm.trans z
        cases z'
    · by_cases hb : b = a
      · exact hb
      · exact absurd (if_neg hb) z
end L2

namespace L2
open PySem PySem.Spec PyProof.Rows

abbrev KOf {K : PySem.W.Frag} {h : Heap} (_ : K.In h) : PySem.W.Frag := K

/-- the goal that k_head leaves (case hc), from the law's promise. F gives the function object fd (K's own) once, then the promise over every base -/
theorem walk_of {l : PySem.W.OpenLaw} {n k : Nat} {q : Program} {loose : List Str} {XP : (Str → Option Value) → Heap → Prop} {YP : World → Heap → Prop} {d : DefRec} {K : Params → PySem.W.Frag} {CX : World → CXT} {sp : World → Sp} {x : Str}
    (hn : l.most = some n) (hn2 : n ≤ sizeLine) (hdf : d.params.defaults = []) (hr : Room k callerA)
    (hY : ∀ (w : World) (h : Heap), YP w h → (K w.params).In h)
    (F : ∀ (w : World) (mg : Str → Option Value) (fa : Addr) (h : Heap), (K w.params).In h → h.Ns mainGlobals mg → mg d.name = some (.ref fa) →
      ∃ fd : FuncData, (∀ (s : Shared) (u : Value), BindsTo s fd ⟨[u], []⟩ [(x, u)]) ∧
        ∀ base : Heap, (K w.params).In base → base.Ns mainGlobals mg → FnOk l.prog w (K w.params) mg base (CX w) k fa fd [x] (sp w))
    (hsp : ∀ (w : World) (H : Hp) (a : Addr) (ns : List Int), ns.length ≤ n → Only H → SqL (K w.params) H a (ns.map V.int) → sp w [.ref a] H (fun v _ => v = .bl true) fun _ _ _ => False)
    (hCX : ∀ (w : World) (H : Hp) (s : Shared) (e : Value) (s' : Shared), CX w [] H s (fun _ _ _ => False) e s' → False) :
    PySem.W.WalkO q loose XP YP l.row.toRowW d [] (fun f vs => PySem.call f vs) := by
  refine Att.attach_call hn hdf fun w s₀ s₁ mg mb fa o pm cd doc a vs ns G Y ho hd hcd hmg hobj hints hlen hg => ?_
  have KX := hY w _ Y
  obtain ⟨fd, hb, hF⟩ := F w mg fa _ KX G.T.g hmg
  exact law_call KX G.T.g G.T.b G.T.builtins G.T.nolimit hg hobj hints (Nat.le_trans hlen hn2) hr hF hb (fun H hO hS => hsp w H a ns hlen hO hS) fun H e s' => hCX w H s₁ e s'
end L2

/- THE LAST THEOREM (shape; LID, My.* are yours):
   My.Adr: a structure of the addresses that your layer names (classes, functions); My.Txt K t: a structure (Prop) of the equations over K;
   My.txt_mk : {K} {implicit addresses ..} (e1 : nsIn K mainGlobals "law" = some (some (.ref f))) (e2 : K.lookup f = some ⟨oc, od, .func (fnOf "law" "law" params body scope dV kV doc pm an cdv ct), sl⟩) (e3 : codeIn K cdv "law" = true) .. : ∃ t, My.Txt K t

set_option maxRecDepth 100000 in
set_option maxHeartbeats 0 in
theorem PySem.Challenge.cw_LID_holds : PySem.Challenge.rw_LID.Holds := by
  w_on; o_law; k_head; (case hw => w_witness2)
  k_fill
  refine L2.walk_of (l := PySem.Challenge.rw_LID) (n := 63) (k := 40) (x := "script") (CX := fun w => ..) (sp := fun _ => My.sp_law) rfl (by decide) rfl ⟨rfl, by decide, by decide⟩ (fun w h Y => PySem.W.kIn_of Y) ?F ?S ?C
  case F =>
    intro w mg fa h KX G hmg
    have T : ∃ t, My.Txt (L2.KOf KX) t := by
      dsimp only [L2.KOf]                          -- K must stand as «<heap const> w.params» for k_is
      refine' My.txt_mk ?e1 ?e2 ?e3 ..
      (case e1 => PySem.W.k_is)                    -- in the order: a name -> its address -> its object -> its parts
      (case e2 => PySem.W.k_is)
      ..
    obtain ⟨t, T⟩ := T
    have e0 := hmg.symm.trans (PySem.W.mg_of KX G T.law)
    cases e0                                       -- fa is the law's own address
    exact ⟨_, fun s u => .of_eq rfl, fun base kb nb => My.law_fn T kb nb⟩     -- if «.of_eq rfl» comes too early: refine' ⟨_, ?b, fun base kb nb => My.law_fn T kb nb⟩; exact fun s u => .of_eq rfl
  case S => exact fun w H a ns hl hO hS => ..
  case C => exact ..
(the tactic k_is has no namespace: write k_is) -/

/-! SHORT WORDS over the layer: a def of the text, its body, what a loop and a test want. -/
namespace L2
open PySem PySem.Spec PyProof.Rows

/-! ### the text by places -/
def defArgs (s : Stmt) : Arguments := match s with
  | .FunctionDef _ a _ _ _ _ _ _ _ _ => a
  | _ => { posonlyargs := [], args := [], vararg := none, kwonlyargs := [], kw_defaults := [], kwarg := none, defaults := [] }
def defBody (s : Stmt) : List Stmt := match s with
  | .FunctionDef _ _ b _ _ _ _ _ _ _ => b
  | _ => []
def defScope (s : Stmt) : Scope := match s with
  | .FunctionDef _ _ _ _ _ _ sc _ _ _ => sc
  | _ => { kind := .function, names := [], isGenerator := false, isCoroutine := false }

/-! ### no exception leaves a def -/
abbrev CX0 : CXT := fun _ _ _ _ _ _ => False
abbrev E0 : XK := fun _ _ _ => False
theorem pass0 {X : Cx} : Passes CX0 X E0 := fun _ _ _ _ _ _ _ h => h.elim

/-! ### a def (or method) of the text as it stands behind the top -/
section
variable {P : Program} {w : World} {K : PySem.W.Frag} {mg : Str → Option Value} {base : Heap}
end
/-! ### expressions in short: the name that stands in the i-th slot -/
section
variable {X : Cx}
end

/-! ### tests -/
/-! ### heaps -/
/-- all that was tracked is as it was -/
def Same (H H' : Hp) : Prop := ∀ b o, H b = some o → H' b = some o
theorem Same.refl (H : Hp) : Same H H := fun _ _ h => h
theorem Same.trans {H H1 H2 : Hp} (a : Same H H1) (b : Same H1 H2) : Same H H2 := fun c o h => b c o (a c o h)
end L2

set_option Elab.async false
set_option linter.all false
set_option maxRecDepth 100000
set_option maxHeartbeats 4000000
/-! Plain data, and the functions that expressions, statements and defs are. -/
namespace VL
open PySem L2
abbrev D := PyData
/-- what an own slot holds: a list, a dict -/
inductive Oc where
  | l (ds : List D) | d (es : List (Key × D))
inductive Sl where
  | un | fz (d : D) | own (c : Oc) | fr (ds : List D)
abbrev Sl.ow (ds : List D) : Sl := .own (.l ds)
abbrev Sl.od (es : List (Key × D)) : Sl := .own (.d es)
/-- a dict of whole numbers, kept as it is -/
def keyDD : Key → D
  | .inl i => .int i
  | .inr x => .str x
/-- an object of a class of the text: the class's name, the fields -/
def insL (n : Str) (ds : List (Str × D)) : List (D × D) := (.str "ins", .str n) :: ds.map fun q => (.str q.1, q.2)
def dctD (es : List (Key × Int)) : List (D × D) := es.map fun p => (keyDD p.1, .int p.2)
abbrev Dv := List Sl
inductive Fl where
  | nx | bk | ct | rt (d : D)
abbrev Sf := Dv → Option (Fl × Dv)
@[simp] def o2 (f1 f2 : Dv → Option D) (g : D → D → Option D) : Dv → Option D := fun δ => (f1 δ).bind fun x => (f2 δ).bind fun y => g x y
@[simp] def o1 (f : Dv → Option D) (g : D → Option D) : Dv → Option D := fun δ => (f δ).bind g
@[simp] def os (f : Dv → Option (List D)) (g : List D → Option D) : Dv → Option D := fun δ => (f δ).bind g
def asB : D → Option Bool
  | .bool b => some b
  | _ => none
@[simp] theorem asB_bool (b : Bool) : asB (.bool b) = some b := rfl
@[simp] def ob (f : Dv → Option D) : Dv → Option Bool := fun δ => (f δ).bind asB
@[simp] def oAnd (t u : Dv → Option Bool) : Dv → Option Bool := fun δ => (t δ).bind fun b => if b = true then u δ else some false
@[simp] def oOr (t u : Dv → Option Bool) : Dv → Option Bool := fun δ => (t δ).bind fun b => if b = true then some true else u δ
@[simp] def oNot (t : Dv → Option Bool) : Dv → Option Bool := fun δ => (t δ).map (!·)
@[simp] def oAndV (f1 f2 : Dv → Option D) : Dv → Option D := fun δ => (f1 δ).bind fun x => (asB x).bind fun b => if b = true then f2 δ else some (.bool false)
@[simp] def oOrV (f1 f2 : Dv → Option D) : Dv → Option D := fun δ => (f1 δ).bind fun x => (asB x).bind fun b => if b = true then some (.bool true) else f2 δ
@[simp] def notD (d : D) : Option D := (asB d).map fun b => .bool (!b)
@[simp] def oIf (t : Dv → Option Bool) (f1 f2 : Dv → Option D) : Dv → Option D := fun δ => (t δ).bind fun b => if b = true then f1 δ else f2 δ
def slV : Option Sl → Option D
  | some (.fz d) => some d
  | some (.fr ds) => some (.list ds)
  | _ => none
@[simp] theorem slV_fr (ds : List D) : slV (some (.fr ds)) = some (.list ds) := rfl
@[simp] theorem slV_fz (d : D) : slV (some (.fz d)) = some d := rfl
@[simp] def oV (i : Nat) : Dv → Option D := fun δ => slV δ[i]?
@[simp] def oC (d : D) : Dv → Option D := fun _ => some d
@[simp] def oNil : Dv → Option (List D) := fun _ => some []
@[simp] def oCons (f : Dv → Option D) (fs : Dv → Option (List D)) : Dv → Option (List D) := fun δ => (f δ).bind fun x => (fs δ).bind fun xs => some (x :: xs)
def tupD (ds : List D) : Option D := if ds.length ≤ sizeLine then some (.tuple ds) else none
def lstD (ds : List D) : Option D := if ds.length ≤ sizeLine then some (.list ds) else none
theorem tupD_ok {ds : List D} (h : ds.length ≤ 16777216) : tupD ds = some (.tuple ds) := if_pos h
theorem lstD_ok {ds : List D} (h : ds.length ≤ 16777216) : lstD ds = some (.list ds) := if_pos h
@[simp] theorem tupD0 : tupD [] = some (.tuple []) := rfl
@[simp] theorem tupD1 (a : D) : tupD [a] = some (.tuple [a]) := tupD_ok (by simp)
@[simp] theorem tupD2 (a b : D) : tupD [a, b] = some (.tuple [a, b]) := tupD_ok (by simp)
@[simp] theorem tupD3 (a b c : D) : tupD [a, b, c] = some (.tuple [a, b, c]) := tupD_ok (by simp)
@[simp] theorem tupD4 (a b c d : D) : tupD [a, b, c, d] = some (.tuple [a, b, c, d]) := tupD_ok (by simp)
@[simp] theorem lstD0 : lstD [] = some (.list []) := rfl
@[simp] theorem lstD1 (a : D) : lstD [a] = some (.list [a]) := lstD_ok (by simp)
@[simp] theorem lstD2 (a b : D) : lstD [a, b] = some (.list [a, b]) := lstD_ok (by simp)
@[simp] theorem lstD4 (a b c d : D) : lstD [a, b, c, d] = some (.list [a, b, c, d]) := lstD_ok (by simp)
@[simp] theorem lstD5 (a b c d e : D) : lstD [a, b, c, d, e] = some (.list [a, b, c, d, e]) := lstD_ok (by simp)
/-! ### ints -/
instance (i j : Int) : Decidable (IntMulOk i j) := by unfold IntMulOk; infer_instance
def iI (g : Int → Int → Int) : D → D → Option D
  | .int i, .int j => some (.int (g i j))
  | _, _ => none
def iC (C : Int → Int → Bool) (g : Int → Int → Int) : D → D → Option D
  | .int i, .int j => if C i j = true then some (.int (g i j)) else none
  | _, _ => none
def iB (g : Int → Int → Bool) : D → D → Option D
  | .int i, .int j => some (.bool (g i j))
  | _, _ => none
@[simp] theorem iI_int (g : Int → Int → Int) (i j : Int) : iI g (.int i) (.int j) = some (.int (g i j)) := rfl
@[simp] theorem iB_int (g : Int → Int → Bool) (i j : Int) : iB g (.int i) (.int j) = some (.bool (g i j)) := rfl
theorem iC_int {C : Int → Int → Bool} {g : Int → Int → Int} {i j : Int} (h : C i j = true) : iC C g (.int i) (.int j) = some (.int (g i j)) := if_pos h
def cMul (i j : Int) : Bool := decide (IntMulOk i j)
def cDiv (i j : Int) : Bool := decide (0 < j ∧ j < 1073741824)
def cMod (i j : Int) : Bool := decide (0 < j)
abbrev subD := iI fun i j => i - j
abbrev mulI := iC cMul fun i j => i * j
abbrev divD := iC cDiv fun i j => i / j
abbrev modD := iC cMod fun i j => i % j
abbrev ltD := iB fun i j => decide (i < j)
abbrev gtD := iB fun i j => decide (j < i)
@[simp] theorem mulI_int {i j : Int} (h : IntMulOk i j) : mulI (.int i) (.int j) = some (.int (i * j)) := iC_int (decide_eq_true h)
@[simp] theorem divD_int {i j : Int} (h : 0 < j) (h2 : j < 1073741824) : divD (.int i) (.int j) = some (.int (i / j)) := iC_int (decide_eq_true ⟨h, h2⟩)
@[simp] theorem modD_int {i j : Int} (h : 0 < j) : modD (.int i) (.int j) = some (.int (i % j)) := iC_int (decide_eq_true h)
def negD : D → Option D
  | .int i => some (.int (-i))
  | _ => none
@[simp] theorem negD_int (i : Int) : negD (.int i) = some (.int (-i)) := rfl
def addD : D → D → Option D
  | .int i, .int j => some (.int (i + j))
  | .str x, .str y => if x.length + y.length ≤ sizeLine then some (.str (x ++ y)) else none
  | .list xs, .list ys => if xs.length + ys.length ≤ sizeLine then some (.list (xs ++ ys)) else none
  | .tuple xs, .tuple ys => if xs.length + ys.length ≤ sizeLine then some (.tuple (xs ++ ys)) else none
  | _, _ => none
@[simp] theorem addD_int (i j : Int) : addD (.int i) (.int j) = some (.int (i + j)) := rfl
theorem addD_tup {xs ys : List D} (h : xs.length + ys.length ≤ 16777216) : addD (.tuple xs) (.tuple ys) = some (.tuple (xs ++ ys)) := if_pos h
/-! ### == -/
def shp (d : D) : Bool := PySem.SeqAt.shaped d
def eqD : D → D → Option D := fun a b => if shp a = true ∧ shp b = true then some (.bool (PyData.eqv a b)) else none
def neD : D → D → Option D := fun a b => if shp a = true ∧ shp b = true then some (.bool (!PyData.eqv a b)) else none
@[simp] theorem eqD_int (i j : Int) : eqD (.int i) (.int j) = some (.bool (i == j)) := rfl
@[simp] theorem neD_int (i j : Int) : neD (.int i) (.int j) = some (.bool (!(i == j))) := rfl
@[simp] theorem eqD_bool (i j : Bool) : eqD (.bool i) (.bool j) = some (.bool (i == j)) := rfl
@[simp] theorem neD_bool (i j : Bool) : neD (.bool i) (.bool j) = some (.bool (!(i == j))) := rfl
def isN (d : D) : Bool := match d with
  | .none => true
  | _ => false
def isD : D → D → Option D := fun a b => match b with
  | .none => some (.bool (isN a))
  | _ => none
def isntD : D → D → Option D := fun a b => match b with
  | .none => some (.bool (!isN a))
  | _ => none
@[simp] theorem isD_none (a : D) : isD a .none = some (.bool (isN a)) := rfl
@[simp] theorem isntD_none (a : D) : isntD a .none = some (.bool (!isN a)) := rfl
@[simp] theorem isN_none : isN .none = true := rfl
@[simp] theorem isN_int (i : Int) : isN (.int i) = false := rfl
/-! ### items -/
def ixD : D → D → Option D
  | .list xs, .int i => atI xs i
  | .tuple xs, .int i => atI xs i
  | _, _ => none
@[simp] theorem ixD_list (xs : List D) (i : Int) : ixD (.list xs) (.int i) = atI xs i := rfl
@[simp] theorem ixD_tuple (xs : List D) (i : Int) : ixD (.tuple xs) (.int i) = atI xs i := rfl
theorem atI_of {α : Type} {xs : List α} {i : Int} {j : Nat} {v : α} (hi : i = j) (h : xs[j]? = some v) : atI xs i = some v := by
  have hl : j < xs.length := (List.getElem?_eq_some_iff.mp h).1
  subst hi
  unfold atI ixN
  rw [if_pos (by omega), if_pos (by omega)]
  simpa using h
@[simp] theorem at0 {α : Type} (a : α) (r : List α) : atI (a :: r) 0 = some a := atI_of (j := 0) rfl rfl
@[simp] theorem at1 {α : Type} (a b : α) (r : List α) : atI (a :: b :: r) 1 = some b := atI_of (j := 1) rfl rfl
@[simp] theorem at2 {α : Type} (a b c : α) (r : List α) : atI (a :: b :: c :: r) 2 = some c := atI_of (j := 2) rfl rfl
@[simp] theorem at3 {α : Type} (a b c d : α) (r : List α) : atI (a :: b :: c :: d :: r) 3 = some d := atI_of (j := 3) rfl rfl
@[simp] theorem at4 {α : Type} (a b c d e : α) (r : List α) : atI (a :: b :: c :: d :: e :: r) 4 = some e := atI_of (j := 4) rfl rfl
/-! ### builtins -/
def lenD : List D → Option D
  | [.list xs] => some (.int xs.length)
  | [.tuple xs] => some (.int xs.length)
  | _ => none
@[simp] theorem lenD_list (xs : List D) : lenD [.list xs] = some (.int xs.length) := rfl
@[simp] theorem lenD_tuple (xs : List D) : lenD [.tuple xs] = some (.int xs.length) := rfl
def minD : List D → Option D
  | [.int i, .int j] => some (.int (if j < i then j else i))
  | _ => none
def maxD : List D → Option D
  | [.int i, .int j] => some (.int (if j > i then j else i))
  | _ => none
@[simp] theorem minD_int (i j : Int) : minD [.int i, .int j] = some (.int (if j < i then j else i)) := rfl
@[simp] theorem maxD_int (i j : Int) : maxD [.int i, .int j] = some (.int (if j > i then j else i)) := rfl
def intD : List D → Option D
  | [.int i] => some (.int i)
  | [.bool b] => some (.int (if b then 1 else 0))
  | _ => none
@[simp] theorem intD_int (i : Int) : intD [.int i] = some (.int i) := rfl
@[simp] theorem intD_bool (b : Bool) : intD [.bool b] = some (.int (if b then 1 else 0)) := rfl
def listD : List D → Option D
  | [.list xs] => some (.list xs)
  | [.tuple xs] => some (.list xs)
  | _ => none
@[simp] theorem listD_list (xs : List D) : listD [.list xs] = some (.list xs) := rfl
@[simp] theorem listD_tuple (xs : List D) : listD [.tuple xs] = some (.list xs) := rfl
def tupleD : List D → Option D
  | [.list xs] => some (.tuple xs)
  | [.tuple xs] => some (.tuple xs)
  | _ => none
@[simp] theorem tupleD_list (xs : List D) : tupleD [.list xs] = some (.tuple xs) := rfl
@[simp] theorem tupleD_tuple (xs : List D) : tupleD [.tuple xs] = some (.tuple xs) := rfl
def bitsD : D → Option D
  | .int i => some (.int (Builtin.Int.intBits i))
  | _ => none
@[simp] theorem bitsD_int (i : Int) : bitsD (.int i) = some (.int (Builtin.Int.intBits i)) := rfl
def tyN : D → String
  | .none => "NoneType"
  | .bool _ => "bool"
  | .int _ => "int"
  | .str _ => "str"
  | .list _ => "list"
  | .tuple _ => "tuple"
  | .dict _ => "dict"
def isiB (t T : String) : Bool := t == T || (t == "bool" && T == "int")
def isDct : D → Bool
  | .dict _ => true
  | _ => false
def isiD (T : String) (d : D) : Option D := if isDct d = true then none else if T = "int" ∨ T = "bool" ∨ T = "str" ∨ T = "list" ∨ T = "tuple" then some (.bool (isiB (tyN d) T)) else none
@[simp] theorem isi_int_int (i : Int) : isiD "int" (.int i) = some (.bool true) := rfl
@[simp] theorem isi_bool_int (i : Int) : isiD "bool" (.int i) = some (.bool false) := rfl
@[simp] theorem isi_int_bool (i : Bool) : isiD "int" (.bool i) = some (.bool true) := rfl
@[simp] theorem isi_bool_bool (i : Bool) : isiD "bool" (.bool i) = some (.bool true) := rfl
@[simp] theorem isi_tuple_tuple (xs : List D) : isiD "tuple" (.tuple xs) = some (.bool true) := rfl
@[simp] theorem isi_list_list (xs : List D) : isiD "list" (.list xs) = some (.bool true) := rfl
/-! ### statements -/
@[simp] def sRet (f : Dv → Option D) : Sf := fun δ => (f δ).bind fun d => some (.rt d, δ)
@[simp] def sSet (i : Nat) (f : Dv → Option D) : Sf := fun δ => (f δ).bind fun d => some (.nx, δ.set i (.fz d))
@[simp] def sDrop (f : Dv → Option D) : Sf := fun δ => (f δ).bind fun _ => some (.nx, δ)
@[simp] def sNx : Sf := fun δ => some (.nx, δ)
@[simp] def sBk : Sf := fun δ => some (.bk, δ)
@[simp] def sCt : Sf := fun δ => some (.ct, δ)
@[simp] def sSeq (s t : Sf) : Sf := fun δ => (s δ).bind fun r => match r with
  | (.nx, δ') => t δ'
  | r => some r
@[simp] def sIf (t : Dv → Option Bool) (u w : Sf) : Sf := fun δ => (t δ).bind fun c => if c = true then u δ else w δ
def dFz (i : Nat) (δ : Dv) : Dv := match δ[i]? with
  | some (.own (.l ds)) => δ.set i (.fz (.list ds))
  | _ => δ
@[simp] def gN (i : Nat) : D → Dv → Option Dv := fun d δ => some (δ.set i (.fz d))
def loop (g : D → Dv → Option Dv) (b : Sf) : List D → Sf
  | [], δ => some (.nx, δ)
  | d :: ds, δ => (g d δ).bind fun δ1 => (b δ1).bind fun r => match r with
    | (.nx, δ2) => loop g b ds δ2
    | (.ct, δ2) => loop g b ds δ2
    | (.bk, δ2) => some (.nx, δ2)
    | (.rt x, δ2) => some (.rt x, δ2)
@[simp] theorem loop_nil (g : D → Dv → Option Dv) (b : Sf) (δ : Dv) : loop g b [] δ = some (.nx, δ) := rfl
@[simp] def sFor (f : Dv → Option (List D)) (g : D → Dv → Option Dv) (b : Sf) : Sf := fun δ => (f δ).bind fun ds => loop g b ds δ
def rngL (lo : Int) (n : Nat) : List D := (List.range n).map fun k => .int (lo + (k : Nat))
def rng1D : List D → Option (List D)
  | [.int j] => if j < 2 ^ 62 ∧ -(2 ^ 62) ≤ j then some (rngL 0 j.toNat) else none
  | _ => none
def rng2D : List D → Option (List D)
  | [.int i, .int j] => if (i < 2 ^ 62 ∧ -(2 ^ 62) ≤ i) ∧ j < 2 ^ 62 ∧ -(2 ^ 62) ≤ j then some (rngL i (j - i).toNat) else none
  | _ => none
theorem rng1D_int {j : Int} (h : j < 4611686018427387904) (h2 : -4611686018427387904 ≤ j) : rng1D [.int j] = some (rngL 0 j.toNat) := if_pos ⟨h, h2⟩
@[simp] def oL (fs : Dv → Option (List D)) (g : List D → Option (List D)) : Dv → Option (List D) := fun δ => (fs δ).bind g
def itsD : D → Option (List D)
  | .list xs => some xs
  | .tuple xs => some xs
  | _ => none
@[simp] theorem itsD_list (xs : List D) : itsD (.list xs) = some xs := rfl
@[simp] theorem itsD_tuple (xs : List D) : itsD (.tuple xs) = some xs := rfl
def lstI : D → Option (List D)
  | .list xs => some xs
  | _ => none
def tupI : D → Option (List D)
  | .tuple xs => some xs
  | _ => none
@[simp] def oI (f : Dv → Option D) (g : D → Option (List D)) : Dv → Option (List D) := fun δ => (f δ).bind g
@[simp] def oNo : Dv → Option (Option Int) := fun _ => some none
def asI : D → Option (Option Int)
  | .int i => some (some i)
  | _ => none
@[simp] theorem asI_int (i : Int) : asI (.int i) = some (some i) := rfl
@[simp] def oP (f : Dv → Option D) : Dv → Option (Option Int) := fun δ => (f δ).bind asI
def cutD (xs : List D) (lo hi : Option Int) : List D := (xs.drop (HT.sIx xs.length 0 lo)).take (HT.sIx xs.length xs.length hi - HT.sIx xs.length 0 lo)
def slD : D → Option Int → Option Int → Option D
  | .list xs, lo, hi => some (.list (cutD xs lo hi))
  | .tuple xs, lo, hi => some (.tuple (cutD xs lo hi))
  | _, _, _ => none
@[simp] def oSl (f : Dv → Option D) (l u : Dv → Option (Option Int)) : Dv → Option D := fun δ => (f δ).bind fun x => (l δ).bind fun i => (u δ).bind fun j => slD x i j
def startD (N : List Str) (as : List D) : Dv := as.map .fz ++ List.replicate (N.length - as.length) .un
def runB (N : List Str) (n : Nat) (b : Sf) : List D → Option D := fun as => if as.length = n then (b (startD N as)).bind fun r => match r with
    | (.rt d, _) => some d
    | (.nx, _) => some .none
    | _ => none
  else none
end VL

set_option Elab.async false
set_option linter.all false
set_option maxRecDepth 100000
set_option maxHeartbeats 4000000
/-! Values as plain data over the hand layer: what an expression, a statement, a def is worth, as a partial function over plain data. -/
namespace VL
open PySem PySem.Spec PyProof.Rows L2

abbrev Fg := PySem.W.Frag
abbrev St := L2.St

/-- things that are no plain data: an exception of a class of the text, a def of the text -/
def exO (a C : Addr) : HO := .ext fun h => ∃ o, h.get? a = some o ∧ o.cls = .ref C ∧ ∃ vs, o.data = .fields vs ∧ vs[2]? = some .none
theorem Rd.same {H H' : Hp} {a : Addr} {u : HO} (h : Rd H a u) (s : Same H H') : Rd H' a u := by
  rcases h with h | ⟨o, h⟩
  · exact .inl (s _ _ h)
  · exact .inr ⟨o, s _ _ h⟩
/-- an item of a list that an object of a class of the text has -/
inductive FI (K : Fg) (Z : Hp) : V → D → Prop
  | int (i : Int) : FI K Z (.int i) (.int i)
  | pair {b : Addr} {i j : Int} : SqT K Z b [.int i, .int j] → FI K Z (.ref b) (.tuple [.int i, .int j])
/-- a field of an object of a class of the text -/
inductive FF (K : Fg) (Z : Hp) : V → D → Prop
  | int (i : Int) : FF K Z (.int i) (.int i)
  | lst {b : Addr} {xs : List V} {ds : List D} : Z b = some (.lst xs) → Paired (FI K Z) xs ds → FF K Z (.ref b) (.list ds)
inductive Opq (K : Fg) (Z : Hp) (a : Addr) : List (D × D) → Prop
  | exc {n : Str} {C : Addr} : PySem.W.nsIn K mainGlobals n = some (some (.ref C)) → Rd Z a (exO a C) → Opq K Z a [(.str "exc", .str n)]
  | fn {n : Str} : PySem.W.nsIn K mainGlobals n = some (some (.ref a)) → Opq K Z a [(.str "fn", .str n)]
  | ins {n : Str} {C dx : Addr} {fs : List (Str × V)} {ds : List (Str × D)} : PySem.W.nsIn K mainGlobals n = some (some (.ref C)) → Z a = some (.ins C dx fs) → Paired (fun (p : Str × V) (q : Str × D) => p.1 = q.1 ∧ FF K Z p.2 q.2) fs ds → Opq K Z a (insL n ds)
  | dct {kvs : List (D × D)} {es : List (Key × Int)} : kvs = dctD es → Z a = some (.dK (es.map fun p => (p.1, V.int p.2))) → Opq K Z a kvs
theorem SqT.same {K : Fg} {H H' : Hp} {a : Addr} {xs : List V} (h : SqT K H a xs) (s : Same H H') : SqT K H' a xs := by
  rcases h with h | h
  · exact .inl (Rd.same h s)
  · exact .inr h
theorem FI.same {K : Fg} {Z Z' : Hp} (s : Same Z Z') {v : V} {d : D} (h : FI K Z v d) : FI K Z' v d := by
  cases h with
  | int i => exact .int i
  | pair q => exact .pair (SqT.same q s)
theorem FF.same {K : Fg} {Z Z' : Hp} (s : Same Z Z') {v : V} {d : D} (h : FF K Z v d) : FF K Z' v d := by
  cases h with
  | int i => exact .int i
  | lst q r => exact .lst (s _ _ q) (Paired.mapP r fun _ _ => FI.same s)
theorem Opq.same {K : Fg} {Z Z' : Hp} {a : Addr} {kvs : List (D × D)} (s : Same Z Z') (h : Opq K Z a kvs) : Opq K Z' a kvs := by
  cases h with
  | exc h1 h2 => exact .exc h1 (Rd.same h2 s)
  | fn h1 => exact .fn h1
  | ins h1 h2 h3 => exact .ins h1 (s _ _ h2) (Paired.mapP h3 fun _ _ q => ⟨q.1, q.2.same s⟩)
  | dct h1 h2 => exact .dct h1 (s _ _ h2)
mutual
inductive Rep (K : Fg) (Z : Hp) : V → D → Prop
  | non : Rep K Z .non .none
  | bl (b : Bool) : Rep K Z (.bl b) (.bool b)
  | int (i : Int) : Rep K Z (.int i) (.int i)
  | str (x : Str) : Rep K Z (.str x) (.str x)
  | tup {a : Addr} {xs : List V} {ds : List D} : SqT K Z a xs → Reps K Z xs ds → Rep K Z (.ref a) (.tuple ds)
  | lst {a : Addr} {xs : List V} {ds : List D} : SqL K Z a xs → Reps K Z xs ds → Rep K Z (.ref a) (.list ds)
  | opq {a : Addr} {kvs : List (D × D)} : Opq K Z a kvs → Rep K Z (.ref a) (.dict kvs)
inductive Reps (K : Fg) (Z : Hp) : List V → List D → Prop
  | nil : Reps K Z [] []
  | cons {v : V} {d : D} {vs : List V} {ds : List D} : Rep K Z v d → Reps K Z vs ds → Reps K Z (v :: vs) (d :: ds)
end

theorem SqL.same {K : Fg} {H H' : Hp} {a : Addr} {xs : List V} (h : SqL K H a xs) (s : Same H H') : SqL K H' a xs := by
  rcases h with h | h
  · exact .inl (Rd.same h s)
  · exact .inr h
mutual
theorem Rep.same {K : Fg} {Z Z' : Hp} (s : Same Z Z') : ∀ {v : V} {d : D}, Rep K Z v d → Rep K Z' v d
  | _, _, .non => .non
  | _, _, .bl b => .bl b
  | _, _, .int i => .int i
  | _, _, .str x => .str x
  | _, _, .tup h r => .tup (SqT.same h s) (Reps.same s r)
  | _, _, .lst h r => .lst (SqL.same h s) (Reps.same s r)
  | _, _, .opq h => .opq (Opq.same s h)
theorem Reps.same {K : Fg} {Z Z' : Hp} (s : Same Z Z') : ∀ {vs : List V} {ds : List D}, Reps K Z vs ds → Reps K Z' vs ds
  | _, _, .nil => .nil
  | _, _, .cons h r => .cons (Rep.same s h) (Reps.same s r)
end
theorem Reps.length {K : Fg} {Z : Hp} : ∀ {vs : List V} {ds : List D}, Reps K Z vs ds → vs.length = ds.length
  | _, _, .nil => rfl
  | _, _, .cons _ r => congrArg (· + 1) (Reps.length r)
theorem Reps.get {K : Fg} {Z : Hp} : ∀ {vs : List V} {ds : List D} {i : Nat} {d : D}, Reps K Z vs ds → ds[i]? = some d → ∃ v, vs[i]? = some v ∧ Rep K Z v d
  | _, _, _, _, .nil, e => by simp at e
  | _, _, 0, _, .cons r _, e => by simp at e; subst e; exact ⟨_, rfl, r⟩
  | _, _, i + 1, d, .cons _ t, e => by
    obtain ⟨u, h1, h2⟩ := Reps.get (i := i) (d := d) t (by simpa using e)
    exact ⟨u, by simpa using h1, h2⟩
theorem Reps.append {K : Fg} {Z : Hp} : ∀ {xs ys : List V} {us ws : List D}, Reps K Z xs us → Reps K Z ys ws → Reps K Z (xs ++ ys) (us ++ ws)
  | _, _, _, _, .nil, s => s
  | _, _, _, _, .cons r t, s => .cons r (Reps.append t s)
theorem Reps.take {K : Fg} {Z : Hp} : ∀ {xs : List V} {us : List D} (n : Nat), Reps K Z xs us → Reps K Z (xs.take n) (us.take n)
  | _, _, 0, _ => .nil
  | _, _, _ + 1, .nil => .nil
  | _, _, n + 1, .cons r t => .cons r (Reps.take n t)
theorem Reps.drop {K : Fg} {Z : Hp} : ∀ {xs : List V} {us : List D} (n : Nat), Reps K Z xs us → Reps K Z (xs.drop n) (us.drop n)
  | _, _, 0, r => r
  | _, _, _ + 1, .nil => .nil
  | _, _, n + 1, .cons _ t => Reps.drop n t
theorem Rep.int_eq {K : Fg} {Z : Hp} {v : V} {i : Int} (h : Rep K Z v (.int i)) : v = .int i := by cases h; rfl
theorem Rep.bl_eq {K : Fg} {Z : Hp} {v : V} {b : Bool} (h : Rep K Z v (.bool b)) : v = .bl b := by cases h; rfl
theorem Reps.ints {K : Fg} {Z : Hp} : ∀ ns : List Int, Reps K Z (ns.map V.int) (ns.map PyData.int)
  | [] => .nil
  | n :: r => .cons (.int n) (Reps.ints r)

/-! ### from the abstract heap to the heap -/
mutual
theorem Rep.reads {X : Cx} {pins : List (Addr × Obj)} {σ : St} {H Z : Hp} {s : Shared} (I : Inv X pins σ H s) (zh : Same Z H) : ∀ {v : V} {d : D} {u : Value}, Rep X.K Z v d → RelV v u → d.canLay0 = true → ∃ as, Reads s.heap u d as
  | _, _, u, .non, r, _ => by cases (show u = Value.none from r); exact ⟨_, .none⟩
  | _, _, u, .bl b, r, _ => by cases (show u = Value.bool b from r); exact ⟨_, .bool b⟩
  | _, _, u, .int i, r, _ => by obtain ⟨t, rfl⟩ := (show ∃ t, u = Value.int i t from r); exact ⟨_, .int i t⟩
  | _, _, u, .str x, r, _ => by obtain ⟨t, rfl⟩ := (show ∃ t, u = Value.str x t from r); exact ⟨_, .str x t⟩
  | _, _, u, .tup (a := a) h q, r, hc => by
    cases (show u = Value.ref a from r)
    obtain ⟨its, rv, ht, _⟩ := I.tuple (SqT.same h zh)
    obtain ⟨as, ra⟩ := Reps.reads I zh q rv hc
    obtain ⟨o, e, c, n, dd⟩ := ht
    exact ⟨_, reads_tuple_at e c dd (by simpa using ra)⟩
  | _, _, u, .lst (a := a) h q, r, hc => by
    cases (show u = Value.ref a from r)
    obtain ⟨its, rv, ht, _⟩ := I.list (SqL.same h zh)
    obtain ⟨as, ra⟩ := Reps.reads I zh q rv hc
    obtain ⟨o, n, e, c, _, dd⟩ := ht
    exact ⟨_, reads_list_at e c dd (by simpa using ra)⟩
  | _, _, u, .opq h, r, hc => by cases hc
theorem Reps.reads {X : Cx} {pins : List (Addr × Obj)} {σ : St} {H Z : Hp} {s : Shared} (I : Inv X pins σ H s) (zh : Same Z H) : ∀ {vs : List V} {ds : List D} {us : List Value}, Reps X.K Z vs ds → Vals vs us → PyData.canLayAll0 ds = true → ∃ as, ReadsAll s.heap us ds as
  | _, _, _, .nil, .nil, _ => ⟨_, .nil⟩
  | _, _, _, .cons h q, .cons r t, hc => by
    have hc' := Bool.and_eq_true_iff.mp hc
    obtain ⟨as, ha⟩ := Rep.reads I zh h r hc'.1
    obtain ⟨bs, hb⟩ := Reps.reads I zh q t hc'.2
    exact ⟨_, .cons ha hb⟩
end

/-! ### what is new -/
/-- no list that lies still -/
def noFz : HO → Bool
  | .frz _ (.lst _) => false
  | _ => true
/-- no new list lies still -/
def NoF (Z Z' : Hp) : Prop := ∀ b o xs, Z' b = some (.frz o (.lst xs)) → Z b = some (.frz o (.lst xs))
theorem NoF.refl (Z : Hp) : NoF Z Z := fun _ _ _ e => e
theorem NoF.trans {Z Z1 Z2 : Hp} (a : NoF Z Z1) (b : NoF Z1 Z2) : NoF Z Z2 := fun c o xs e => a c o xs (b c o xs e)
theorem NoF.upd {Z Z' : Hp} (a : NoF Z Z') (p : Addr) {u : HO} (hu : noFz u = true := by rfl) : NoF Z (upd Z' p u) := fun b o xs e => by
  by_cases hb : b = p
  · subst hb
    rw [upd_same] at e
    cases e
    cases hu
  · rw [upd_ne hb] at e
    exact a b o xs e
structure New (Z H Z' H' : Hp) : Prop where
  z : Same Z Z'
  h : Same H H'
  zh : Same Z' H'
  o : ∀ b, H b ≠ none → Z' b = Z b
  nf : NoF Z Z'
theorem New.refl {Z H : Hp} (zh : Same Z H) : New Z H Z H := ⟨Same.refl _, Same.refl _, zh, fun _ _ => rfl, NoF.refl _⟩
theorem same_upd {H : Hp} {p : Addr} {o : HO} (h : H p = none) : Same H (upd H p o) := fun b u e => by
  rw [upd_ne (ne_of_none e h)]; exact e
theorem free_of {Z H : Hp} (zh : Same Z H) {p : Addr} (h : H p = none) : Z p = none := by
  cases e : Z p with
  | none => rfl
  | some o => rw [zh p o e] at h; cases h
/-- a new object, known for good -/
theorem New.add {Z H : Hp} (zh : Same Z H) {p : Addr} (hp : H p = none) (o : HO) (hf : noFz o = true := by rfl) : New Z H (upd Z p o) (upd H p o) where
  nf := (NoF.refl Z).upd p hf
  z := same_upd (free_of zh hp)
  h := same_upd hp
  zh := fun b u e => by
    by_cases hb : b = p
    · subst hb; rw [upd_same] at e ⊢; exact e
    · rw [upd_ne hb] at e ⊢; exact zh b u e
  o := fun b hb => by
    have : b ≠ p := fun z => hb (z ▸ hp)
    rw [upd_ne this]

/-! ### slots -/

/-- a dict's pairs and what they stand for -/
def RepK (K : Fg) (Z : Hp) (kvs : List (Key × V)) (es : List (Key × D)) : Prop := es.map (·.1) = kvs.map (·.1) ∧ Reps K Z (kvs.map (·.2)) (es.map (·.2))
inductive OwR (K : Fg) (Z : Hp) : HO → Oc → Prop
  | lst {xs : List V} {ds : List D} : Reps K Z xs ds → OwR K Z (.lst xs) (.l ds)
  | dct {kvs : List (Key × V)} {es : List (Key × D)} : RepK K Z kvs es → OwR K Z (.dK kvs) (.d es)
theorem OwR.same {K : Fg} {Z Z' : Hp} {o : HO} {c : Oc} (h : OwR K Z o c) (s : Same Z Z') : OwR K Z' o c := by
  cases h with
  | lst r => exact .lst (r.same s)
  | dct r => exact .dct ⟨r.1, r.2.same s⟩
/-- lists told anew: read by all, and yet one's own -/
def FrOk (K : Fg) (H₀ Z₀ Z : Hp) (δ : Dv) (σ : St) : Prop := ∀ (i : Nat) ds, δ[i]? = some (.fr ds) → ∃ a xs, σ[i]? = some (some (.ref a)) ∧ H₀ a = none ∧ Z₀ a = none ∧ Z a = some (.lst xs) ∧ Reps K Z xs ds
theorem FrOk.same {K : Fg} {H₀ Z₀ Z Z' : Hp} {δ : Dv} {σ : St} (h : FrOk K H₀ Z₀ Z δ σ) (s : Same Z Z') : FrOk K H₀ Z₀ Z' δ σ := fun i ds e =>
  let ⟨a, xs, h1, h2, h3, h4, h5⟩ := h i ds e; ⟨a, xs, h1, h2, h3, s _ _ h4, h5.same s⟩
theorem FrOk.put {K : Fg} {H₀ Z₀ Z : Hp} {δ : Dv} {σ σ' : St} (h : FrOk K H₀ Z₀ Z δ σ) {i : Nat} {x : Sl} (hx : ∀ ds, x ≠ Sl.fr ds) (hs : ∀ j : Nat, i ≠ j → σ'[j]? = σ[j]?) : FrOk K H₀ Z₀ Z (δ.set i x) σ' := fun j ds e => by
  by_cases hj : i = j
  · subst hj
    have hl : i < δ.length := by have := (List.getElem?_eq_some_iff.mp e).1; simpa using this
    rw [List.getElem?_set_self hl] at e
    exact absurd (Option.some.inj e) (hx ds)
  · rw [List.getElem?_set_ne hj] at e
    obtain ⟨a, xs, h1, r⟩ := h j ds e
    exact ⟨a, xs, by rw [hs j hj]; exact h1, r⟩
structure Hold (K : Fg) (H₀ Z₀ Z : Hp) (δ : Dv) (σ : St) (H : Hp) : Prop where
  zh : Same Z H
  h0 : Same H₀ H
  z0 : Same Z₀ Z
  zb : ∀ b, H₀ b ≠ none → Z b = Z₀ b
  len : δ.length = σ.length
  fz : ∀ (i : Nat) d, δ[i]? = some (.fz d) → ∃ v, σ[i]? = some (some v) ∧ Rep K Z v d
  own : ∀ (i : Nat) c, δ[i]? = some (.own c) → ∃ a o, σ[i]? = some (some (.ref a)) ∧ H₀ a = none ∧ Z a = none ∧ H a = some o ∧ OwR K Z o c
  dja : ∀ (i j : Nat) c c' a, i ≠ j → δ[i]? = some (.own c) → δ[j]? = some (.own c') → σ[i]? = some (some (.ref a)) → σ[j]? ≠ some (some (V.ref a))
  fr : FrOk K H₀ Z₀ Z δ σ
  nf : NoF Z₀ Z
section
variable {K : Fg} {H₀ Z₀ Z Z' H H' : Hp} {δ : Dv} {σ : St}
theorem Hold.ow (h : Hold K H₀ Z₀ Z δ σ H) (i : Nat) (ds : List D) (e : δ[i]? = some (.ow ds)) : ∃ a xs, σ[i]? = some (some (.ref a)) ∧ H₀ a = none ∧ Z a = none ∧ H a = some (.lst xs) ∧ Reps K Z xs ds := by
  obtain ⟨a, o, h1, h2, h3, h4, h5⟩ := h.own i _ e
  cases h5 with
  | lst r => exact ⟨a, _, h1, h2, h3, h4, r⟩
theorem Hold.new (h : Hold K H₀ Z₀ Z δ σ H) (n : New Z H Z' H') : Hold K H₀ Z₀ Z' δ σ H' where
  zh := n.zh
  h0 := h.h0.trans n.h
  z0 := h.z0.trans n.z
  zb := fun b hb => by
    have : H b ≠ none := by
      cases e : H₀ b with
      | none => exact absurd e hb
      | some o => rw [h.h0 b o e]; intro z; cases z
    rw [n.o b this, h.zb b hb]
  len := h.len
  fz := fun i d e => let ⟨v, a, r⟩ := h.fz i d e; ⟨v, a, r.same n.z⟩
  own := fun i ds e => by
    obtain ⟨a, xs, h1, h2, h3, h4, h5⟩ := h.own i ds e
    exact ⟨a, xs, h1, h2, by rw [n.o a (by rw [h4]; intro z; cases z)]; exact h3, n.h a _ h4, h5.same n.z⟩
  dja := h.dja
  fr := h.fr.same n.z
  nf := h.nf.trans n.nf
/-- a name is given a known value -/
theorem Hold.set (h : Hold K H₀ Z₀ Z δ σ H) {i : Nat} {v : V} {d : D} (r : Rep K Z v d) : Hold K H₀ Z₀ Z (δ.set i (.fz d)) (σ.set i (some v)) H where
  zh := h.zh
  h0 := h.h0
  z0 := h.z0
  zb := h.zb
  len := by simp [h.len]
  fz := fun j e q => by
    by_cases hj : i = j
    · subst hj
      have hl : i < δ.length := by
        have := (List.getElem?_eq_some_iff.mp q).1
        simpa using this
      rw [List.getElem?_set_self hl] at q
      cases q
      exact ⟨v, List.getElem?_set_self (by rw [← h.len]; exact hl), r⟩
    · rw [List.getElem?_set_ne hj] at q
      obtain ⟨u, a, b⟩ := h.fz j e q
      exact ⟨u, by rw [List.getElem?_set_ne hj]; exact a, b⟩
  own := fun j es q => by
    by_cases hj : i = j
    · subst hj
      have hl : i < δ.length := by
        have := (List.getElem?_eq_some_iff.mp q).1
        simpa using this
      rw [List.getElem?_set_self hl] at q
      cases q
    · rw [List.getElem?_set_ne hj] at q ⊢
      exact h.own j es q
  dja := fun j k ds es a hjk q1 q2 => by
    by_cases hj : i = j
    · subst hj
      have hl : i < δ.length := by
        have := (List.getElem?_eq_some_iff.mp q1).1
        simpa using this
      rw [List.getElem?_set_self hl] at q1
      cases q1
    · by_cases hk : i = k
      · subst hk
        have hl : i < δ.length := by
          have := (List.getElem?_eq_some_iff.mp q2).1
          simpa using this
        rw [List.getElem?_set_self hl] at q2
        cases q2
      · rw [List.getElem?_set_ne hj] at q1
        rw [List.getElem?_set_ne hk] at q2
        rw [List.getElem?_set_ne hj, List.getElem?_set_ne hk]
        exact h.dja j k ds es a hjk q1 q2
  fr := h.fr.put (fun _ z => nomatch z) fun _ hj => List.getElem?_set_ne hj
  nf := h.nf
/-- a name is given a new list of its own -/
theorem Hold.setW (h : Hold K H₀ Z₀ Z δ σ H) {i : Nat} {p : Addr} {o : HO} {c : Oc} (hp : H p = none) (r : OwR K Z o c) : Hold K H₀ Z₀ Z (δ.set i (.own c)) (σ.set i (some (.ref p))) (upd H p o) where
  zh := h.zh.trans (same_upd hp)
  h0 := h.h0.trans (same_upd hp)
  z0 := h.z0
  zb := h.zb
  len := by simp [h.len]
  fz := fun j e q => by
    by_cases hj : i = j
    · subst hj
      have hl : i < δ.length := by
        have := (List.getElem?_eq_some_iff.mp q).1
        simpa using this
      rw [List.getElem?_set_self hl] at q
      cases q
    · rw [List.getElem?_set_ne hj] at q
      obtain ⟨u, a, b⟩ := h.fz j e q
      exact ⟨u, by rw [List.getElem?_set_ne hj]; exact a, b⟩
  own := fun j es q => by
    by_cases hj : i = j
    · subst hj
      have hl : i < δ.length := by
        have := (List.getElem?_eq_some_iff.mp q).1
        simpa using this
      rw [List.getElem?_set_self hl] at q
      cases q
      exact ⟨p, o, List.getElem?_set_self (by rw [← h.len]; exact hl), free_of h.h0 hp, free_of h.zh hp, upd_same, r⟩
    · rw [List.getElem?_set_ne hj] at q ⊢
      obtain ⟨a, ys, h1, h2, h3, h4, h5⟩ := h.own j es q
      exact ⟨a, ys, h1, h2, h3, by rw [upd_ne (ne_of_none h4 hp)]; exact h4, h5⟩
  dja := fun j k ds es a hjk q1 q2 => by
    have old : ∀ {m : Nat} {fs : Oc}, δ[m]? = some (.own fs) → σ[m]? ≠ some (some (V.ref p)) := fun {m fs} q z => by
      obtain ⟨b, ys, h1, h2, h3, h4, h5⟩ := h.own m fs q
      rw [h1] at z
      cases z
      rw [hp] at h4
      cases h4
    have hl : ∀ {m : Nat} {x : Sl}, (δ.set i x)[m]? ≠ none → m < σ.length := fun {m x} q => by
      have : m < (δ.set i x).length := by
        rcases Nat.lt_or_ge m (δ.set i x).length with g | g
        · exact g
        · exact absurd (List.getElem?_eq_none_iff.mpr g) q
      rw [← h.len]; simpa using this
    by_cases hj : i = j
    · subst hj
      have h1 : i < σ.length := hl (by rw [q1]; intro z; cases z)
      rw [List.getElem?_set_self h1]
      intro e
      cases e
      rw [List.getElem?_set_ne hjk] at q2 ⊢
      exact old q2
    · rw [List.getElem?_set_ne hj] at q1 ⊢
      by_cases hk : i = k
      · subst hk
        have h1 : i < σ.length := hl (by rw [q2]; intro z; cases z)
        intro e z
        rw [List.getElem?_set_self h1] at z
        cases z
        exact old q1 e
      · rw [List.getElem?_set_ne hk] at q2 ⊢
        exact h.dja j k ds es a hjk q1 q2
  fr := h.fr.put (fun _ z => nomatch z) fun _ hj => List.getElem?_set_ne hj
  nf := h.nf
theorem Hold.setO (h : Hold K H₀ Z₀ Z δ σ H) {i : Nat} {p : Addr} {xs : List V} {ds : List D} (hp : H p = none) (r : Reps K Z xs ds) : Hold K H₀ Z₀ Z (δ.set i (.ow ds)) (σ.set i (some (.ref p))) (upd H p (.lst xs)) := h.setW hp (.lst r)
/-- a list of one's own is changed -/
theorem Hold.chgW (h : Hold K H₀ Z₀ Z δ σ H) {i : Nat} {p : Addr} {o : HO} {ds es : Oc} (e : δ[i]? = some (.own ds)) (ep : σ[i]? = some (some (.ref p))) (r : OwR K Z o es) : Hold K H₀ Z₀ Z (δ.set i (.own es)) σ (upd H p o) := by
  obtain ⟨a, zs, h1, h2, h3, h4, h5⟩ := h.own i ds e
  rw [ep] at h1
  cases h1
  have hl : i < δ.length := (List.getElem?_eq_some_iff.mp e).1
  refine ⟨fun b o' q => ?_, fun b o' q => ?_, h.z0, h.zb, by simp [h.len], fun j d q => ?_, fun j d q => ?_, fun j k d1 d2 a hjk q1 q2 => ?_, h.fr.put (fun _ z => nomatch z) fun _ _ => rfl, h.nf⟩
  · rw [upd_ne (ne_of_none q h3)]; exact h.zh b o' q
  · rw [upd_ne (ne_of_none q h2)]; exact h.h0 b o' q
  · by_cases hj : i = j
    · subst hj
      rw [List.getElem?_set_self hl] at q
      cases q
    · rw [List.getElem?_set_ne hj] at q
      exact h.fz j d q
  · by_cases hj : i = j
    · subst hj
      rw [List.getElem?_set_self hl] at q
      cases q
      exact ⟨p, o, ep, h2, h3, upd_same, r⟩
    · rw [List.getElem?_set_ne hj] at q
      obtain ⟨b, ws, g1, g2, g3, g4, g5⟩ := h.own j d q
      refine ⟨b, ws, g1, g2, g3, ?_, g5⟩
      have : b ≠ p := fun z => by subst z; exact h.dja i j ds d b hj e q ep g1
      rw [upd_ne this]; exact g4
  · have f : ∀ {m : Nat} {dm : Oc}, (δ.set i (.own es))[m]? = some (.own dm) → ∃ dm', δ[m]? = some (.own dm') := fun {m dm} q => by
      by_cases hm : i = m
      · subst hm; exact ⟨ds, e⟩
      · rw [List.getElem?_set_ne hm] at q; exact ⟨dm, q⟩
    obtain ⟨e1, g1⟩ := f q1
    obtain ⟨e2, g2⟩ := f q2
    exact h.dja j k e1 e2 a hjk g1 g2
theorem Hold.chg (h : Hold K H₀ Z₀ Z δ σ H) {i : Nat} {p : Addr} {xs ys : List V} {ds es : List D} (e : δ[i]? = some (.ow ds)) (ep : σ[i]? = some (some (.ref p))) (r : Reps K Z ys es) : Hold K H₀ Z₀ Z (δ.set i (.ow es)) σ (upd H p (.lst ys)) := h.chgW e ep (.lst r)
/-- a list of one's own is known for good -/
theorem Hold.frz (h : Hold K H₀ Z₀ Z δ σ H) {i : Nat} {ds : List D} (e : δ[i]? = some (.ow ds)) : ∃ Z', Same Z Z' ∧ Hold K H₀ Z₀ Z' (δ.set i (.fz (.list ds))) σ H := by
  obtain ⟨a, xs, h1, h2, h3, h4, h5⟩ := h.ow i ds e
  have hl : i < δ.length := (List.getElem?_eq_some_iff.mp e).1
  have sz : Same Z (upd Z a (.lst xs)) := same_upd h3
  refine ⟨upd Z a (.lst xs), sz, fun b o q => ?_, h.h0, h.z0.trans sz, fun b hb => ?_, by simp [h.len], fun j d q => ?_, fun j d q => ?_, fun j k d1 d2 b hjk q1 q2 => ?_, (h.fr.same sz).put (fun _ z => nomatch z) fun _ _ => rfl, h.nf.upd a⟩
  · by_cases hb : b = a
    · subst hb; rw [upd_same] at q; cases q; exact h4
    · rw [upd_ne hb] at q; exact h.zh b o q
  · rw [upd_ne (fun z => hb (by rw [z]; exact h2))]; exact h.zb b hb
  · by_cases hj : i = j
    · subst hj
      rw [List.getElem?_set_self hl] at q
      cases q
      exact ⟨.ref a, h1, .lst (SqL.of upd_same) (h5.same sz)⟩
    · rw [List.getElem?_set_ne hj] at q
      obtain ⟨v, g1, g2⟩ := h.fz j d q
      exact ⟨v, g1, g2.same sz⟩
  · by_cases hj : i = j
    · subst hj
      rw [List.getElem?_set_self hl] at q
      cases q
    · rw [List.getElem?_set_ne hj] at q
      obtain ⟨b, ws, g1, g2, g3, g4, g5⟩ := h.own j d q
      have : b ≠ a := fun z => by subst z; exact h.dja i j _ d b hj e q h1 g1
      exact ⟨b, ws, g1, g2, by rw [upd_ne this]; exact g3, g4, g5.same sz⟩
  · by_cases hj : i = j
    · subst hj
      rw [List.getElem?_set_self hl] at q1
      cases q1
    · by_cases hk : i = k
      · subst hk
        rw [List.getElem?_set_self hl] at q2
        cases q2
      · rw [List.getElem?_set_ne hj] at q1
        rw [List.getElem?_set_ne hk] at q2
        exact h.dja j k d1 d2 b hjk q1 q2
end

/-! ### readings by plain functions -/
def tV (K : Fg) (f : Dv → Option D) : TE := fun σ H Q => ∃ H₀ Z₀ Z δ d, Hold K H₀ Z₀ Z δ σ H ∧ f δ = some d ∧ ∀ v Z' H', Hold K H₀ Z₀ Z' δ σ H' → Same Z Z' → Rep K Z' v d → Q v H'
def tVT (K : Fg) (f : Dv → Option Bool) : TT := fun σ H Q => ∃ H₀ Z₀ Z δ b, Hold K H₀ Z₀ Z δ σ H ∧ f δ = some b ∧ ∀ Z' H', Hold K H₀ Z₀ Z' δ σ H' → Same Z Z' → Q b H'
def tVA (K : Fg) (f : Dv → Option (List D)) : TA := fun σ H Q => ∃ H₀ Z₀ Z δ ds, Hold K H₀ Z₀ Z δ σ H ∧ f δ = some ds ∧ ∀ vs Z' H', Hold K H₀ Z₀ Z' δ σ H' → Same Z Z' → Reps K Z' vs ds → Q vs H'
def Fl.to (K : Fg) (Z : Hp) (D : Ends) (σ : St) (H : Hp) : Fl → Prop
  | .nx => D.nx σ H
  | .bk => D.bk σ H
  | .ct => D.ct σ H
  | .rt d => ∀ v, Rep K Z v d → D.rt v H
def tVS (K : Fg) (f : Dv → Option (Fl × Dv)) : TS := fun D σ H => ∃ H₀ Z₀ Z δ r, Hold K H₀ Z₀ Z δ σ H ∧ f δ = some r ∧ ∀ σ' H' Z', Hold K H₀ Z₀ Z' r.2 σ' H' → Same Z Z' → r.1.to K Z' D σ' H'
def EV (X : Cx) (e : Expr) (f : Dv → Option D) : Prop := PE X e (tV X.K f)
def TV (X : Cx) (e : Expr) (f : Dv → Option Bool) : Prop := PT X e (tVT X.K f)
def AV (X : Cx) (es : List Expr) (f : Dv → Option (List D)) : Prop := PA X es (tVA X.K f)
def SV (X : Cx) (st : Stmt) (f : Dv → Option (Fl × Dv)) : Prop := PS X st (tVS X.K f)
def BV (X : Cx) (st : List Stmt) (f : Dv → Option (Fl × Dv)) : Prop := PSs X st (tVS X.K f)

theorem PE.imp {X : Cx} {e : Expr} {t t' : TE} (h : PE X e t) (i : ∀ σ H Q, t' σ H Q → t σ H Q) : PE X e t' := fun pins s σ H Q I hw => h pins s σ H Q I (i _ _ _ hw)
theorem PT.imp {X : Cx} {e : Expr} {t t' : TT} (h : PT X e t) (i : ∀ σ H Q, t' σ H Q → t σ H Q) : PT X e t' := fun pins s σ H Q I hw => h pins s σ H Q I (i _ _ _ hw)
theorem PA.imp {X : Cx} {es : List Expr} {t t' : TA} (h : PA X es t) (i : ∀ σ H Q, t' σ H Q → t σ H Q) : PA X es t' := fun pos pins s σ H Q I hw => h pos pins s σ H Q I (i _ _ _ hw)
theorem PS.imp {X : Cx} {st : Stmt} {t t' : TS} (h : PS X st t) (i : ∀ D σ H, t' D σ H → t D σ H) : PS X st t' := fun pins s σ H D I hw => h pins s σ H D I (i _ _ _ hw)
theorem PSs.imp {X : Cx} {st : List Stmt} {t t' : TS} (h : PSs X st t) (i : ∀ D σ H, t' D σ H → t D σ H) : PSs X st t' := fun pins s σ H D I hw => h pins s σ H D I (i _ _ _ hw)
theorem OpR.imp {X : Cx} {f : Value → Value → Sem Value} {r r' : R2} (h : OpR X f r) (i : ∀ x y H Q, r' x y H Q → r x y H Q) : OpR X f r' := fun pins s σ H x y v u Q I rx ry q => h pins s σ H x y v u Q I rx ry (i _ _ _ _ q)
theorem CallR.imp {X : Cx} {f : Value} {r r' : List V → Hp → VK → Prop} (h : CallR X f r) (i : ∀ xs H Q, r' xs H Q → r xs H Q) : CallR X f r' := fun pins s σ H xs us Q I rx q => h pins s σ H xs us Q I rx (i _ _ _ q)

/-! ### operations on known values -/
def rD (K : Fg) (g : D → D → Option D) : R2 := fun x y H Q => ∃ Z a b d, Same Z H ∧ Rep K Z x a ∧ Rep K Z y b ∧ g a b = some d ∧ ∀ v Z' H', New Z H Z' H' → Rep K Z' v d → Q v H'
def rDs (K : Fg) (g : List D → Option D) : List V → Hp → VK → Prop := fun xs H Q => ∃ Z as d, Same Z H ∧ Reps K Z xs as ∧ g as = some d ∧ ∀ v Z' H', New Z H Z' H' → Rep K Z' v d → Q v H'
def spD (K : Fg) (g : List D → Option D) : Sp := fun vs H Q _ => rDs K g vs H Q
section
variable {X : Cx} {a b c e : Expr} {es : List Expr} {pos p : Pos} {f f1 f2 f3 : Dv → Option D} {fs : Dv → Option (List D)} {ft fu : Dv → Option Bool}
theorem bind_some {α β : Type} {o : Option α} {k : α → Option β} {r : β} (h : o.bind k = some r) : ∃ a, o = some a ∧ k a = some r := by
  cases o with
  | none => cases h
  | some a => exact ⟨a, rfl, h⟩
/-- two in a row -/
theorem two {K : Fg} {g : D → D → Option D} {σ : St} {H : Hp} {Q : VK} {r : R2} (hr : ∀ x y H Q, rD K g x y H Q → r x y H Q) (h : tV K (o2 f1 f2 g) σ H Q) : tOp r (tV K f1) (tV K f2) σ H Q := by
  obtain ⟨H₀, Z₀, Z, δ, d, hh, e, k⟩ := h
  obtain ⟨x, e1, e⟩ := bind_some e
  obtain ⟨y, e2, e⟩ := bind_some e
  refine ⟨H₀, Z₀, Z, δ, x, hh, e1, fun v Z1 H1 hh1 s1 r1 => ⟨H₀, Z₀, Z1, δ, y, hh1, e2, fun u Z2 H2 hh2 s2 r2 => hr _ _ _ _ ⟨Z2, x, y, d, hh2.zh, r1.same s2, r2, e, fun w Z3 H3 n r3 => ?_⟩⟩⟩
  exact k w Z3 H3 (hh2.new n) ((s1.trans s2).trans n.z) r3
theorem ev_op {op : Operator} {g : D → D → Option D} (ho : OpR X (binaryOp op) (rD X.K g)) (ha : EV X a f1) (hb : EV X b f2) : EV X (.BinOp a op b pos) (o2 f1 f2 g) :=
  PE.imp (pe_op ho ha hb) fun _ _ _ h => two (fun _ _ _ _ q => q) h
theorem ev_cmp {op : CmpOp} {g : D → D → Option D} (ho : OpR X (compareOp op) (rD X.K g)) (ha : EV X a f1) (hb : EV X b f2) (hm : behindInMarks op b = false) : EV X (.Compare a [op] [b] pos) (o2 f1 f2 g) :=
  PE.imp (pe_cmpR ho ha hb hm) fun _ _ _ h => two (fun _ _ _ _ q => q) h
/-- a value's bool -/
theorem asB_eq {d : D} {b : Bool} (h : asB d = some b) : d = .bool b := by
  cases d <;> simp [asB] at h
  subst h; rfl
theorem toB {K : Fg} {σ : St} {H : Hp} {Q : Bool → Hp → Prop} (h : tVT K (ob f) σ H Q) : tV K f σ H fun x H1 => ∃ c, x = .bl c ∧ Q c H1 := by
  obtain ⟨H₀, Z₀, Z, δ, d, hh, e, k⟩ := h
  obtain ⟨x, e1, e⟩ := bind_some e
  have := asB_eq e
  subst this
  exact ⟨H₀, Z₀, Z, δ, _, hh, e1, fun v Z1 H1 hh1 s1 r1 => ⟨_, r1.bl_eq, k Z1 H1 hh1 s1⟩⟩
theorem tv_cmp {op : CmpOp} {g : D → D → Option D} (ho : OpR X (compareOp op) (rD X.K g)) (ha : EV X a f1) (hb : EV X b f2) (hm : behindInMarks op b = false) : TV X (.Compare a [op] [b] pos) (ob (o2 f1 f2 g)) :=
  PT.imp (pt_cmpR ho ha hb hm) fun σ H Q h => by
    have h' := toB h
    exact two (f1 := f1) (f2 := f2) (g := g) (fun _ _ _ _ q => q) h'
theorem tv_val (ha : EV X a f) (he : ∀ whole, isTrue a X.env whole = (do let v ← whole; standAt a.pos; holding [v] (truthy v)) := by intro _; rfl) : TV X a (ob f) :=
  PT.imp (pt_val ha he) fun _ _ _ h => toB h
def WV (X : Cx) (e : Expr) (f : Dv → Option Bool) : Prop := PW X e (tVT X.K f)
theorem PW.imp {X : Cx} {e : Expr} {t t' : TT} (h : PW X e t) (i : ∀ σ H Q, t' σ H Q → t σ H Q) : PW X e t' := fun whole pins s σ H Q I hw => h whole pins s σ H Q I (i _ _ _ hw)
theorem wv_and1 (ha : TV X a ft) : WV X (.BoolOp .And [a] pos) ft := pw_and1 ha
theorem wv_or1 (ha : TV X a ft) : WV X (.BoolOp .Or [a] pos) ft := pw_or1 ha
theorem wv_and {rest : List Expr} (ha : TV X a ft) (hb : WV X (.BoolOp .And (b :: rest) pos) fu) : WV X (.BoolOp .And (a :: b :: rest) pos) (oAnd ft fu) :=
  PW.imp (pw_and ha hb) fun σ H Q h => by
    obtain ⟨H₀, Z₀, Z, δ, d, hh, e, k⟩ := h
    obtain ⟨x, e1, e⟩ := bind_some e
    refine ⟨H₀, Z₀, Z, δ, x, hh, e1, fun Z1 H1 hh1 s1 => ?_⟩
    cases x with
    | true => exact ⟨H₀, Z₀, Z1, δ, d, hh1, e, fun Z2 H2 hh2 s2 => k Z2 H2 hh2 (s1.trans s2)⟩
    | false => cases e; exact k Z1 H1 hh1 s1
theorem wv_or {rest : List Expr} (ha : TV X a ft) (hb : WV X (.BoolOp .Or (b :: rest) pos) fu) : WV X (.BoolOp .Or (a :: b :: rest) pos) (oOr ft fu) :=
  PW.imp (pw_or ha hb) fun σ H Q h => by
    obtain ⟨H₀, Z₀, Z, δ, d, hh, e, k⟩ := h
    obtain ⟨x, e1, e⟩ := bind_some e
    refine ⟨H₀, Z₀, Z, δ, x, hh, e1, fun Z1 H1 hh1 s1 => ?_⟩
    cases x with
    | true => cases e; exact k Z1 H1 hh1 s1
    | false => exact ⟨H₀, Z₀, Z1, δ, d, hh1, e, fun Z2 H2 hh2 s2 => k Z2 H2 hh2 (s1.trans s2)⟩
theorem WV.tv (h : WV X a ft) : TV X a ft := PW.pt h
theorem tv_not (ha : TV X a ft) : TV X (.UnaryOp .Not a pos) (oNot ft) :=
  PT.imp (pt_not ha) fun σ H Q h => by
    obtain ⟨H₀, Z₀, Z, δ, d, hh, e, k⟩ := h
    cases e1 : ft δ with
    | none => unfold oNot at e; rw [e1] at e; cases e
    | some x =>
      unfold oNot at e
      rw [e1] at e
      cases e
      exact ⟨H₀, Z₀, Z, δ, x, hh, e1, fun Z1 H1 hh1 s1 => k Z1 H1 hh1 s1⟩
/-- and, or, not as values (bools) -/
theorem ev_one {op} (h : EV X a f) : EV X (.BoolOp op [a] pos) f := pe_one h
theorem ev_and {rest : List Expr} (ha : EV X a f1) (hb : EV X (.BoolOp .And (b :: rest) pos) f2) : EV X (.BoolOp .And (a :: b :: rest) pos) (oAndV f1 f2) :=
  PE.imp (pe_and ha hb) fun σ H Q h => by
    obtain ⟨H₀, Z₀, Z, δ, d, hh, e, k⟩ := h
    obtain ⟨x, e1, e⟩ := bind_some e
    obtain ⟨c, e2, e⟩ := bind_some e
    have := asB_eq e2
    subst this
    refine ⟨H₀, Z₀, Z, δ, _, hh, e1, fun v Z1 H1 hh1 s1 r1 => ⟨c, r1.bl_eq, ?_⟩⟩
    cases c with
    | true => exact ⟨H₀, Z₀, Z1, δ, d, hh1, e, fun v Z2 H2 hh2 s2 r2 => k v Z2 H2 hh2 (s1.trans s2) r2⟩
    | false => cases e; exact k _ Z1 H1 hh1 s1 (.bl false)
theorem ev_or {rest : List Expr} (ha : EV X a f1) (hb : EV X (.BoolOp .Or (b :: rest) pos) f2) : EV X (.BoolOp .Or (a :: b :: rest) pos) (oOrV f1 f2) :=
  PE.imp (pe_or ha hb) fun σ H Q h => by
    obtain ⟨H₀, Z₀, Z, δ, d, hh, e, k⟩ := h
    obtain ⟨x, e1, e⟩ := bind_some e
    obtain ⟨c, e2, e⟩ := bind_some e
    have := asB_eq e2
    subst this
    refine ⟨H₀, Z₀, Z, δ, _, hh, e1, fun v Z1 H1 hh1 s1 r1 => ⟨c, r1.bl_eq, ?_⟩⟩
    cases c with
    | true => cases e; exact k _ Z1 H1 hh1 s1 (.bl true)
    | false => exact ⟨H₀, Z₀, Z1, δ, d, hh1, e, fun v Z2 H2 hh2 s2 r2 => k v Z2 H2 hh2 (s1.trans s2) r2⟩
theorem ev_not (ha : EV X a f) : EV X (.UnaryOp .Not a pos) (o1 f notD) :=
  PE.imp (pe_not ha) fun σ H Q h => by
    obtain ⟨H₀, Z₀, Z, δ, d, hh, e, k⟩ := h
    obtain ⟨x, e1, e⟩ := bind_some e
    cases e2 : asB x with
    | none => unfold notD at e; rw [e2] at e; cases e
    | some c =>
      unfold notD at e
      rw [e2] at e
      cases e
      have := asB_eq e2
      subst this
      exact ⟨H₀, Z₀, Z, δ, _, hh, e1, fun v Z1 H1 hh1 s1 r1 => ⟨c, r1.bl_eq, k _ Z1 H1 hh1 s1 (.bl _)⟩⟩
theorem ev_ifx (hc : TV X c ft) (ha : EV X a f1) (hb : EV X b f2) : EV X (.IfExp c a b pos) (oIf ft f1 f2) :=
  PE.imp (pe_ifExp hc ha hb) fun σ H Q h => by
    obtain ⟨H₀, Z₀, Z, δ, d, hh, e, k⟩ := h
    obtain ⟨x, e1, e⟩ := bind_some e
    refine ⟨H₀, Z₀, Z, δ, x, hh, e1, fun Z1 H1 hh1 s1 => ?_⟩
    cases x with
    | true => exact ⟨H₀, Z₀, Z1, δ, d, hh1, e, fun v Z2 H2 hh2 s2 r2 => k v Z2 H2 hh2 (s1.trans s2) r2⟩
    | false => exact ⟨H₀, Z₀, Z1, δ, d, hh1, e, fun v Z2 H2 hh2 s2 r2 => k v Z2 H2 hh2 (s1.trans s2) r2⟩

/-! ### names, constants, argument lists, displays -/
theorem Hold.read {K : Fg} {H₀ Z₀ Z H : Hp} {δ : Dv} {σ : St} (hh : Hold K H₀ Z₀ Z δ σ H) {i : Nat} {d : D} (h : oV i δ = some d) : ∃ v, σ[i]? = some (some v) ∧ Rep K Z v d := by
  unfold oV at h
  cases q : δ[i]? with
  | none => rw [q] at h; cases h
  | some x =>
    rw [q] at h
    cases x with
    | fz e => cases h; exact hh.fz i _ q
    | un => cases h
    | own _ => cases h
    | fr ds =>
      cases h
      obtain ⟨a, xs, h1, _, _, h4, h5⟩ := hh.fr i ds q
      exact ⟨.ref a, h1, .lst (SqL.of h4) h5⟩
theorem ev_var (i : Nat) {x : Str} (hN : X.N[i]? = some x := by rfl) (hv : Vis X.env.scope x := by first | exact Or.inl rfl | exact Or.inr (Or.inl rfl) | exact Or.inr (Or.inr rfl)) (hd : (x == ("__debug__" : Str)) = false := by decide) (hcd : (x == ("__classdict__" : Str)) = false := by decide) :
    EV X (.Name x pos) (oV i) :=
  PE.imp (pe_var hN hv hd hcd) fun σ H Q h => by
    obtain ⟨H₀, Z₀, Z, δ, d, hh, e, k⟩ := h
    obtain ⟨v, q, r⟩ := hh.read e
    exact ⟨v, q, k v Z H hh (Same.refl _) r⟩
theorem ev_c {d : D} {v : V} (h : PE X e (tC v)) (r : ∀ Z, Rep X.K Z v d) : EV X e (oC d) :=
  PE.imp h fun σ H Q h => by
    obtain ⟨H₀, Z₀, Z, δ, d', hh, e, k⟩ := h
    cases e
    exact k v Z H hh (Same.refl _) (r Z)
theorem ev_int {i j} : EV X (.Constant (.int i) j pos) (oC (.int i)) := ev_c pe_int fun _ => .int i
theorem ev_bl {i j} : EV X (.Constant (.bool i) j pos) (oC (.bool i)) := ev_c pe_bl fun _ => .bl i
theorem ev_non {j} : EV X (.Constant .none j pos) (oC .none) := ev_c pe_non fun _ => .non
theorem ev_str {i j} : EV X (.Constant (.str i) j pos) (oC (.str i)) := ev_c pe_str fun _ => .str i
theorem av_nil : AV X [] oNil :=
  PA.imp pa_nil fun σ H Q h => by
    obtain ⟨H₀, Z₀, Z, δ, d, hh, e, k⟩ := h
    cases e
    exact k [] Z H hh (Same.refl _) .nil
theorem av_cons (ha : EV X e f) (hr : AV X es fs) (hs : starEach (e :: es) X.env = (false, eval e X.env) :: starEach es X.env := by rfl) : AV X (e :: es) (oCons f fs) :=
  PA.imp (pa_cons ha hr hs) fun σ H Q h => by
    obtain ⟨H₀, Z₀, Z, δ, d, hh, e, k⟩ := h
    obtain ⟨x, e1, e⟩ := bind_some e
    obtain ⟨xs, e2, e⟩ := bind_some e
    cases e
    exact ⟨H₀, Z₀, Z, δ, x, hh, e1, fun v Z1 H1 hh1 s1 r1 => ⟨H₀, Z₀, Z1, δ, xs, hh1, e2, fun vs Z2 H2 hh2 s2 r2 => k _ Z2 H2 hh2 (s1.trans s2) (.cons (r1.same s2) r2)⟩⟩
theorem ev_tup {x1} (h : AV X es fs) : EV X (.Tuple es x1 pos) (os fs tupD) :=
  PE.imp (pe_tup h) fun σ H Q h => by
    obtain ⟨H₀, Z₀, Z, δ, d, hh, e, k⟩ := h
    obtain ⟨xs, e1, e⟩ := bind_some e
    refine ⟨H₀, Z₀, Z, δ, xs, hh, e1, fun vs Z1 H1 hh1 s1 r1 => ?_⟩
    by_cases hl : xs.length ≤ sizeLine
    · rw [tupD, if_pos hl] at e
      cases e
      refine ⟨by rw [r1.length]; exact hl, fun p hp => ?_⟩
      have n := New.add hh1.zh hp (.tup vs)
      exact k _ _ _ (hh1.new n) (s1.trans n.z) (.tup (SqT.of upd_same) (r1.same n.z))
    · rw [tupD, if_neg hl] at e; cases e
theorem ev_lst (h : AV X es fs) : EV X (.List es pos) (os fs lstD) :=
  PE.imp (pe_lst h) fun σ H Q h => by
    obtain ⟨H₀, Z₀, Z, δ, d, hh, e, k⟩ := h
    obtain ⟨xs, e1, e⟩ := bind_some e
    refine ⟨H₀, Z₀, Z, δ, xs, hh, e1, fun vs Z1 H1 hh1 s1 r1 => ?_⟩
    by_cases hl : xs.length ≤ sizeLine
    · rw [lstD, if_pos hl] at e
      cases e
      refine ⟨by rw [r1.length]; exact hl, fun p hp => ?_⟩
      have n := New.add hh1.zh hp (.lst vs)
      exact k _ _ _ (hh1.new n) (s1.trans n.z) (.lst (SqL.of upd_same) (r1.same n.z))
    · rw [lstD, if_neg hl] at e; cases e
/-! ### calls -/
theorem args {K : Fg} {g : List D → Option D} {σ : St} {H : Hp} {Q : VK} (h : tV K (os fs g) σ H Q) : tVA K fs σ H fun vs H1 => rDs K g vs H1 Q := by
  obtain ⟨H₀, Z₀, Z, δ, d, hh, e, k⟩ := h
  obtain ⟨xs, e1, e⟩ := bind_some e
  exact ⟨H₀, Z₀, Z, δ, xs, hh, e1, fun vs Z1 H1 hh1 s1 r1 => ⟨Z1, xs, d, hh1.zh, r1, e, fun w Z3 H3 n r3 => k w Z3 H3 (hh1.new n) (s1.trans n.z) r3⟩⟩
theorem ev_callB {x : Str} {id : String} {g : List D → Option D} (hc : CallR X (.builtin id) (rDs X.K g)) (hg : Gl X x) (hm : X.mg x = none) (hv : bootBuiltins x = some (.builtin id)) (ha : AV X (e :: es) fs) (hn : x ≠ "__name__" := by decide) (hdb : (x == ("__debug__" : Str)) = false := by decide)
    (he : starEach (e :: es) X.env = (false, eval e X.env) :: starEach es X.env := by rfl) (hpl : (backTo pos (starEach es X.env)).any (·.1) = false := by rfl) : EV X (.Call (.Name x p) (e :: es) [] pos) (os fs g) :=
  PE.imp (pe_callB hc hg hm hv ha hn hdb he hpl) fun _ _ _ h => args h
theorem ev_callTy {x : Str} {id : String} {g : List D → Option D} (hc : CallR X (.type id) (rDs X.K g)) (hg : Gl X x) (hm : X.mg x = none) (hv : bootBuiltins x = some (.type id)) (ha : AV X (e :: es) fs) (hn : x ≠ "__name__" := by decide) (hdb : (x == ("__debug__" : Str)) = false := by decide)
    (he : starEach (e :: es) X.env = (false, eval e X.env) :: starEach es X.env := by rfl) (hpl : (backTo pos (starEach es X.env)).any (·.1) = false := by rfl) : EV X (.Call (.Name x p) (e :: es) [] pos) (os fs g) :=
  PE.imp (pe_callTy hc hg hm hv ha hn hdb he hpl) fun _ _ _ h => args h
/-- a def of the text: dd the defaults that fill up (plain) -/
theorem ev_call {k : Nat} {fa : Addr} {fd : FuncData} {ps : List Str} {x : Str} {g : List D → Option D} {dd : List D} {dv : List V} {ds : List Value} (F : FnOk X.prog X.w X.K X.mg X.base CX0 k fa fd ps (spD X.K g)) (hr : Room k X.A) (hg : Gl X x) (hm : X.mg x = some (.ref fa)) (hk : PySem.W.keepIn X.K (.ref fa) = true)
    (hb : Binds X.K fd ps ds) (hd : Vals dv ds) (hdd : ∀ Z, Reps X.K Z dv dd) (hx : Passes CX0 X E0) (ha : AV X (e :: es) fs) (hdb : (x == ("__debug__" : Str)) = false := by decide) (he : starEach (e :: es) X.env = (false, eval e X.env) :: starEach es X.env := by rfl) (hpl : (backTo pos (starEach es X.env)).any (·.1) = false := by rfl) :
    EV X (.Call (.Name x p) (e :: es) [] pos) (os fs fun as => g (as ++ dd)) :=
  PE.imp (pe_call F hr hg hm hk hb hd hx ha hdb he hpl) fun σ H Q h => by
    obtain ⟨H₀, Z₀, Z, δ, xs, hh, e1, q⟩ := args h
    refine ⟨H₀, Z₀, Z, δ, xs, hh, e1, fun vs Z1 H1 hh1 s1 r1 => ?_⟩
    obtain ⟨Z2, as, d, zh, ra, eg, kk⟩ := q vs Z1 H1 hh1 s1 r1
    exact ⟨Z2, as ++ dd, d, zh, ra.append (hdd Z2), eg, kk⟩
/-! ### subscripts -/
theorem IxR.imp {r r' : R2} (h : IxR X r) (i : ∀ x y H Q, r' x y H Q → r x y H Q) : IxR X r' := fun value slice pins s σ H x y v u Q I rx ry q hs => h value slice pins s σ H x y v u Q I rx ry (i _ _ _ _ q) hs
theorem ev_ix {g : D → D → Option D} (ho : IxR X (rD X.K g)) (ha : EV X a f1) (hb : EV X b f2) (hs : PlainIx b) : EV X (.Subscript a b pos) (o2 f1 f2 g) :=
  PE.imp (pe_ix ho ha hb hs) fun _ _ _ h => two (fun _ _ _ _ q => q) h
end
end VL

set_option Elab.async false
set_option linter.all false
set_option maxRecDepth 100000
set_option maxHeartbeats 4000000
namespace VL
open PySem PySem.Spec PyProof.Rows L2
section
variable {X : Cx} {a b c e tg : Expr} {es : List Expr} {pos p : Pos} {f f1 f2 f3 : Dv → Option D} {fs : Dv → Option (List D)} {ft fu : Dv → Option Bool} {st : Stmt} {sts body : List Stmt} {s1 s2 : Dv → Option (Fl × Dv)}

/-! ### ints -/
theorem op_iI {F : Value → Value → Sem Value} {g : Int → Int → Int} (h : OpR X F (rI0 fun i j => .int (g i j))) : OpR X F (rD X.K (iI g)) :=
  OpR.imp h fun x y H Q q => by
    obtain ⟨Z, a, b, d, zh, ra, rb, e, k⟩ := q
    cases ra <;> cases rb <;> simp [iI] at e
    subst e
    exact ⟨_, _, rfl, rfl, k _ Z H (New.refl zh) (.int _)⟩
theorem op_iB {F : Value → Value → Sem Value} {g : Int → Int → Bool} (h : OpR X F (rI0 fun i j => .bl (g i j))) : OpR X F (rD X.K (iB g)) :=
  OpR.imp h fun x y H Q q => by
    obtain ⟨Z, a, b, d, zh, ra, rb, e, k⟩ := q
    cases ra <;> cases rb <;> simp [iB] at e
    subst e
    exact ⟨_, _, rfl, rfl, k _ Z H (New.refl zh) (.bl _)⟩
theorem op_iC {F : Value → Value → Sem Value} {P : Int → Int → Prop} {C : Int → Int → Bool} {g : Int → Int → Int} (h : OpR X F (rI P fun i j => .int (g i j))) (hc : ∀ i j, C i j = true → P i j) : OpR X F (rD X.K (iC C g)) :=
  OpR.imp h fun x y H Q q => by
    obtain ⟨Z, a, b, d, zh, ra, rb, e, k⟩ := q
    cases ra with
    | int i =>
      cases rb with
      | int j =>
        by_cases hh : C i j = true
        · simp only [iC, if_pos hh] at e
          cases e
          exact ⟨_, _, rfl, rfl, hc _ _ hh, k _ Z H (New.refl zh) (.int _)⟩
        · simp only [iC, if_neg hh] at e
          cases e
      | _ => simp [iC] at e
    | _ => simp [iC] at e
theorem d_sub : OpR X (binaryOp .Sub) (rD X.K subD) := op_iI op_sub
theorem d_mulI : OpR X (binaryOp .Mult) (rD X.K mulI) := op_iC (P := fun i j => IntMulOk i j) (opI fun _ _ _ _ _ _ _ hc q => mul_int q hc) fun i j h => of_decide_eq_true h
theorem d_div : OpR X (binaryOp .FloorDiv) (rD X.K divD) := op_iC op_fdiv fun i j h => (of_decide_eq_true h : 0 < j ∧ j < 1073741824)
theorem d_mod : OpR X (binaryOp .Mod) (rD X.K modD) := op_iC op_mod fun i j h => of_decide_eq_true h
theorem d_lt : OpR X (compareOp .Lt) (rD X.K ltD) := op_iB op_lt
theorem d_gt : OpR X (compareOp .Gt) (rD X.K gtD) := op_iB op_gt
/-! ### + -/
theorem Rep.str_eq {K : Fg} {Z : Hp} {v : V} {x : Str} (h : Rep K Z v (.str x)) : v = .str x := by cases h; rfl
theorem Rep.tup_ex {K : Fg} {Z : Hp} {v : V} {ds : List D} (h : Rep K Z v (.tuple ds)) : ∃ a xs, v = .ref a ∧ SqT K Z a xs ∧ Reps K Z xs ds := by
  cases h with
  | tup p q => exact ⟨_, _, rfl, p, q⟩
theorem Rep.lst_ex {K : Fg} {Z : Hp} {v : V} {ds : List D} (h : Rep K Z v (.list ds)) : ∃ a xs, v = .ref a ∧ SqL K Z a xs ∧ Reps K Z xs ds := by
  cases h with
  | lst p q => exact ⟨_, _, rfl, p, q⟩
theorem ite_some {p : Prop} [Decidable p] {α : Type} {x y : α} (h : (if p then some x else none) = some y) : p ∧ x = y := by
  by_cases q : p
  · rw [if_pos q] at h; exact ⟨q, Option.some.inj h⟩
  · rw [if_neg q] at h; cases h
theorem addD_k {a b d : D} (h : addD a b = some d) : (∃ i, a = .int i) ∨ (∃ x, a = .str x) ∨ (∃ xs, a = .list xs) ∨ ∃ xs, a = .tuple xs := by
  cases a with
  | int i => exact .inl ⟨_, rfl⟩
  | str i => exact .inr (.inl ⟨_, rfl⟩)
  | list i => exact .inr (.inr (.inl ⟨_, rfl⟩))
  | tuple i => exact .inr (.inr (.inr ⟨_, rfl⟩))
  | _ => cases h
theorem addD_i {i : Int} {b d : D} (h : addD (.int i) b = some d) : ∃ j, b = .int j ∧ d = .int (i + j) := by
  cases b with
  | int j => exact ⟨j, rfl, (Option.some.inj h).symm⟩
  | _ => cases h
theorem addD_s {i : Str} {b d : D} (h : addD (.str i) b = some d) : ∃ j, b = .str j ∧ i.length + j.length ≤ sizeLine ∧ d = .str (i ++ j) := by
  cases b with
  | str j => obtain ⟨p, q⟩ := ite_some h; exact ⟨j, rfl, p, q.symm⟩
  | _ => cases h
theorem addD_l {i : List D} {b d : D} (h : addD (.list i) b = some d) : ∃ j, b = .list j ∧ i.length + j.length ≤ sizeLine ∧ d = .list (i ++ j) := by
  cases b with
  | list j => obtain ⟨p, q⟩ := ite_some h; exact ⟨j, rfl, p, q.symm⟩
  | _ => cases h
theorem addD_t {i : List D} {b d : D} (h : addD (.tuple i) b = some d) : ∃ j, b = .tuple j ∧ i.length + j.length ≤ sizeLine ∧ d = .tuple (i ++ j) := by
  cases b with
  | tuple j => obtain ⟨p, q⟩ := ite_some h; exact ⟨j, rfl, p, q.symm⟩
  | _ => cases h
theorem d_add : OpR X (binaryOp .Add) (rD X.K addD) := by
  intro pins s σ H x y v u Q I rx ry q
  obtain ⟨Z, a, b, d, zh, ra, rb, e, k⟩ := q
  rcases addD_k e with ⟨i, rfl⟩ | ⟨i, rfl⟩ | ⟨ds, rfl⟩ | ⟨ds, rfl⟩
  · obtain ⟨j, rfl, rfl⟩ := addD_i e
    cases ra.int_eq
    cases rb.int_eq
    exact op_add pins s σ H _ _ v u Q I rx ry ⟨_, _, rfl, rfl, k _ Z H (New.refl zh) (.int _)⟩
  · obtain ⟨j, rfl, hl, rfl⟩ := addD_s e
    cases ra.str_eq
    cases rb.str_eq
    exact op_add_str pins s σ H _ _ v u Q I rx ry ⟨_, _, rfl, rfl, hl, k _ Z H (New.refl zh) (.str _)⟩
  · obtain ⟨es, rfl, hl, rfl⟩ := addD_l e
    obtain ⟨a, xs, rfl, h1, q1⟩ := ra.lst_ex
    obtain ⟨b, ys, rfl, h2, q2⟩ := rb.lst_ex
    cases rx
    cases ry
    obtain ⟨its, r1, p1, z1⟩ := I.list (SqL.same h1 zh)
    obtain ⟨its2, r2, p2, z2⟩ := I.list (SqL.same h2 zh)
    obtain ⟨⟨cls, dd, data, sl⟩, n1, ho, hc, hdd, hd⟩ := p1
    obtain ⟨⟨cls2, dd2, data2, sl2⟩, n2, ho2, hc2, hdd2, hd2⟩ := p2
    simp only at hc hd hc2 hd2
    subst hc hd hc2 hd2
    have hl1 := r1.length
    have hl2 := r2.length
    have ql1 := q1.length
    have ql2 := q2.length
    refine concat_meets ⟨_, ho, rfl⟩ ⟨_, ho2, rfl⟩ noFill_list_add seq_list_add PySem.F.slot_list_add PySem.F.entry_list_add (PySem.F.args_list_add_2 _ _) (list_addW a b its.toArray its2.toArray n1 n2 dd dd2 sl sl2 (by simp; omega)) ⟨ho, ho2, ?_⟩
    have ea : its.toArray ++ its2.toArray = (its ++ its2).toArray := by simp
    rw [ea]
    have n := New.add zh I.fresh (.lst (xs ++ ys))
    exact ⟨.ref _, _, I.lnew (t' := s.toks) (r1.append r2) (by rw [List.length_append]; omega), rfl, k _ _ _ n (.lst (SqL.of upd_same) ((q1.append q2).same n.z))⟩
  · obtain ⟨es, rfl, hl, rfl⟩ := addD_t e
    obtain ⟨a, xs, rfl, h1, q1⟩ := ra.tup_ex
    obtain ⟨b, ys, rfl, h2, q2⟩ := rb.tup_ex
    by_cases h0 : ds.length = 0
    · have hd0 : ds = [] := List.eq_nil_of_length_eq_zero h0
      subst hd0
      cases q1
      cases rx
      cases ry
      obtain ⟨its, r1, p1, z1⟩ := I.tuple (SqT.same h1 zh)
      obtain ⟨its2, r2, p2, z2⟩ := I.tuple (SqT.same h2 zh)
      cases r1
      obtain ⟨⟨cls, dd, data, sl⟩, ho, hc, n, hd⟩ := id p1
      obtain ⟨⟨cls2, dd2, data2, sl2⟩, ho2, hc2, n2, hd2⟩ := id p2
      simp only at hc hd hc2 hd2
      subst hc hd hc2 hd2
      exact concat_meets ⟨_, ho, rfl⟩ ⟨_, ho2, rfl⟩ noFill_tuple_add seq_tuple_add PySem.F.slot_tuple_add PySem.F.entry_tuple_add (PySem.F.args_tuple_add_2 _ _)
        (tuple_addW0 a b _ its2.toArray n n2 dd dd2 sl sl2 (by simp)) ⟨ho, ho2, ⟨.ref b, H, I, rfl, k _ Z H (New.refl zh) (.tup h2 q2)⟩⟩
    refine op_catT pins s σ H _ _ v u Q I rx ry ⟨a, b, xs, ys, rfl, rfl, SqT.same h1 zh, SqT.same h2 zh, fun z => h0 (by rw [← q1.length, z]; rfl), by rw [q1.length, q2.length]; exact hl, fun z => ?_, fun z p hp => ?_⟩
    · subst z
      cases q2
      rw [List.append_nil] at k
      exact k _ Z H (New.refl zh) (.tup h1 q1)
    · have n := New.add zh hp (.tup (xs ++ ys))
      exact k _ _ _ n (.tup (SqT.of upd_same) ((q1.append q2).same n.z))

/-! ### == -/
theorem shp_lay {d : D} (h : shp d = true) : d.canLay0 = true := (Bool.and_eq_true_iff.mp h).1
theorem d_eq (hu : X.A.units + 64 < cLine) : OpR X (compareOp .Eq) (rD X.K eqD) := by
  intro pins s σ H x y v u Q I rx ry q
  obtain ⟨Z, a, b, d, zh, ra, rb, e, k⟩ := q
  by_cases hs : shp a = true ∧ shp b = true
  · rw [eqD, if_pos hs] at e
    cases e
    obtain ⟨as, r1⟩ := ra.reads I zh rx (shp_lay hs.1)
    obtain ⟨bs, r2⟩ := rb.reads I zh ry (shp_lay hs.2)
    exact eq_dataH r1 r2 hs.1 hs.2 hu ⟨.bl _, H, I, rfl, k _ Z H (New.refl zh) (.bl _)⟩
  · rw [eqD, if_neg hs] at e; cases e
theorem d_ne (hu : X.A.units + 64 < cLine) : OpR X (compareOp .NotEq) (rD X.K neD) := by
  intro pins s σ H x y v u Q I rx ry q
  obtain ⟨Z, a, b, d, zh, ra, rb, e, k⟩ := q
  by_cases hs : shp a = true ∧ shp b = true
  · rw [neD, if_pos hs] at e
    cases e
    obtain ⟨as, r1⟩ := ra.reads I zh rx (shp_lay hs.1)
    obtain ⟨bs, r2⟩ := rb.reads I zh ry (shp_lay hs.2)
    exact ne_dataH r1 r2 hs.1 hs.2 hu ⟨.bl _, H, I, rfl, k _ Z H (New.refl zh) (.bl _)⟩
  · rw [neD, if_neg hs] at e; cases e
theorem isN_eq {K : Fg} {Z : Hp} {v : V} {d : D} (r : Rep K Z v d) : decide (v = .non) = isN d := by cases r <;> rfl
theorem d_isnt : OpR X (compareOp .IsNot) (rD X.K isntD) :=
  OpR.imp op_notN fun x y H Q q => by
    obtain ⟨Z, a, b, d, zh, ra, rb, e, k⟩ := q
    cases rb <;> simp [isntD] at e
    subst e
    exact ⟨rfl, by rw [isN_eq ra]; exact k _ Z H (New.refl zh) (.bl _)⟩
/-! ### items -/
theorem Reps.at {K : Fg} {Z : Hp} {vs : List V} {ds : List D} {i : Int} {d : D} (r : Reps K Z vs ds) (h : atI ds i = some d) : ∃ v, atI vs i = some v ∧ Rep K Z v d := by
  unfold atI at h ⊢
  rw [r.length]
  obtain ⟨j, e, h⟩ := bind_some h
  obtain ⟨v, q, rr⟩ := r.get h
  exact ⟨v, by rw [e]; exact q, rr⟩
theorem ixD_k {a b d : D} (h : ixD a b = some d) : (∃ xs, a = .list xs) ∨ ∃ xs, a = .tuple xs := by
  cases a with
  | list i => exact .inl ⟨_, rfl⟩
  | tuple i => exact .inr ⟨_, rfl⟩
  | _ => cases h
theorem ixD_l {xs : List D} {b d : D} (h : ixD (.list xs) b = some d) : ∃ i, b = .int i ∧ atI xs i = some d := by
  cases b with
  | int i => exact ⟨i, rfl, h⟩
  | _ => cases h
theorem d_ix : IxR X (rD X.K ixD) :=
  IxR.imp (ix_list.or ix_tup) fun x y H Q q => by
    obtain ⟨Z, a, b, d, zh, ra, rb, e, k⟩ := q
    rcases ixD_k e with ⟨xs, rfl⟩ | ⟨xs, rfl⟩
    · obtain ⟨i, rfl, e⟩ := ixD_l e
      obtain ⟨a, vs, rfl, h1, q1⟩ := ra.lst_ex
      cases rb.int_eq
      obtain ⟨v, ev, rv⟩ := q1.at e
      exact .inl ⟨_, _, _, v, rfl, rfl, SqL.same h1 zh, ev, k v Z H (New.refl zh) rv⟩
    · obtain ⟨i, rfl, e⟩ := ixD_l (xs := xs) (b := b) (by cases b <;> exact e)
      obtain ⟨a, vs, rfl, h1, q1⟩ := ra.tup_ex
      cases rb.int_eq
      obtain ⟨v, ev, rv⟩ := q1.at e
      exact .inr ⟨_, _, _, v, rfl, rfl, SqT.same h1 zh, ev, k v Z H (New.refl zh) rv⟩
/-! ### builtins -/
theorem c_len : CallR X (.builtin "len") (rDs X.K lenD) :=
  CallR.imp call_len fun xs H Q q => by
    obtain ⟨Z, as, d, zh, ra, e, k⟩ := q
    cases ra with
    | nil => cases e
    | cons r1 r2 =>
      cases r2 with
      | cons _ _ => cases r1 <;> cases e
      | nil =>
        cases r1 with
        | lst h1 q1 => cases e; exact ⟨_, _, rfl, .inl ⟨_, SqL.same h1 zh, rfl⟩, k _ Z H (New.refl zh) (by rw [q1.length]; exact .int _)⟩
        | tup h1 q1 => cases e; exact ⟨_, _, rfl, .inr ⟨_, SqT.same h1 zh, rfl⟩, k _ Z H (New.refl zh) (by rw [q1.length]; exact .int _)⟩
        | _ => cases e
theorem two_ints {K : Fg} {Z : Hp} {xs : List V} {as : List D} {d : D} {g : List D → Option D} {h : Int → Int → Int} (hg : ∀ as d, g as = some d → ∃ i j, as = [.int i, .int j] ∧ d = .int (h i j)) (r : Reps K Z xs as) (e : g as = some d) :
    ∃ i j, xs = [.int i, .int j] ∧ d = .int (h i j) := by
  obtain ⟨i, j, rfl, rfl⟩ := hg _ _ e
  cases r with
  | cons r1 r2 =>
    cases r2 with
    | cons r3 r4 =>
      cases r4
      exact ⟨i, j, by rw [r1.int_eq, r3.int_eq], rfl⟩
theorem c_min (hc : X.calm = true) : CallR X (.builtin "min") (rDs X.K minD) :=
  CallR.imp (call_min2 hc) fun xs H Q q => by
    obtain ⟨Z, as, d, zh, ra, e, k⟩ := q
    obtain ⟨i, j, rfl, rfl⟩ := two_ints (h := fun i j => if j < i then j else i) (fun as d h => by unfold minD at h; split at h <;> cases h; exact ⟨_, _, rfl, rfl⟩) ra e
    exact ⟨i, j, rfl, k _ Z H (New.refl zh) (.int _)⟩
theorem c_max (hc : X.calm = true) : CallR X (.builtin "max") (rDs X.K maxD) :=
  CallR.imp (call_max2 hc) fun xs H Q q => by
    obtain ⟨Z, as, d, zh, ra, e, k⟩ := q
    obtain ⟨i, j, rfl, rfl⟩ := two_ints (h := fun i j => if j > i then j else i) (fun as d h => by unfold maxD at h; split at h <;> cases h; exact ⟨_, _, rfl, rfl⟩) ra e
    exact ⟨i, j, rfl, k _ Z H (New.refl zh) (.int _)⟩
theorem c_int : CallR X (.type "int") (rDs X.K intD) :=
  CallR.imp call_int1 fun xs H Q q => by
    obtain ⟨Z, as, d, zh, ra, e, k⟩ := q
    cases ra with
    | nil => cases e
    | cons r1 r2 =>
      cases r2 with
      | cons _ _ => cases r1 <;> cases e
      | nil =>
        cases r1 with
        | int i => cases e; exact .inl ⟨_, rfl, k _ Z H (New.refl zh) (.int _)⟩
        | bl i => cases e; exact .inr ⟨_, rfl, k _ Z H (New.refl zh) (.int _)⟩
        | _ => cases e
theorem c_tuple : CallR X (.type "tuple") (rDs X.K tupleD) :=
  CallR.imp call_tuple_of fun xs H Q q => by
    obtain ⟨Z, as, d, zh, ra, e, k⟩ := q
    cases ra with
    | nil => cases e
    | cons r1 r2 =>
      cases r2 with
      | cons _ _ => cases r1 <;> cases e
      | nil =>
        cases r1 with
        | lst h1 q1 => cases e; exact ⟨_, _, rfl, .inl ⟨SqL.same h1 zh, fun l hl => let n := New.add zh hl (.tup _); k _ _ _ n (.tup (SqT.of upd_same) (q1.same n.z))⟩⟩
        | tup h1 q1 => cases e; exact ⟨_, _, rfl, .inr ⟨SqT.same h1 zh, k _ Z H (New.refl zh) (.tup h1 q1)⟩⟩
        | _ => cases e
/-! ### isinstance -/
theorem kit_ok (K : Fg) {t T : String} (ht : t = "NoneType" ∨ t = "bool" ∨ t = "int" ∨ t = "str" ∨ t = "list" ∨ t = "tuple") (hT : T = "int" ∨ T = "bool" ∨ T = "str" ∨ T = "list" ∨ T = "tuple") : PySem.W.kitOne K (.type t) (.type T) = some (isiB t T) := by
  rcases ht with rfl | rfl | rfl | rfl | rfl | rfl <;> rcases hT with rfl | rfl | rfl | rfl | rfl <;> rfl
theorem Rep.ty {K : Fg} {Z H : Hp} {v : V} {d : D} (zh : Same Z H) (r : Rep K Z v d) (hD : ¬isDct d = true) : (tyN d = "NoneType" ∨ tyN d = "bool" ∨ tyN d = "int" ∨ tyN d = "str" ∨ tyN d = "list" ∨ tyN d = "tuple") := by
  cases r <;> simp [tyN]
  exact absurd rfl hD
theorem isi_ok {pins : List (Addr × Obj)} {σ : St} {H Z : Hp} {s : Shared} {x : V} {u : Value} {d : D} {T : String} {A : Around} {E : Value → Shared → Prop} {Q : Value → Shared → Prop} (I : Inv X pins σ H s) (zh : Same Z H) (rx : RelV x u) (r : Rep X.K Z x d) (hD : ¬isDct d = true)
    (hT : T = "int" ∨ T = "bool" ∨ T = "str" ∨ T = "list" ∨ T = "tuple") (h : ∀ tk, Q (.bool (isiB (tyN d) T)) { s with toks := tk }) : wpAny (model X.prog X.w) A (call (.builtin "isinstance") [u, .type T]) Q E s := by
  have ko := kit_ok X.K (Rep.ty zh r hD) hT
  cases r with
  | non => exact isinst_ok I rx (.non) ko h
  | bl b => exact isinst_ok I rx (.bl b) ko h
  | int b => exact isinst_ok I rx (.int b) ko h
  | str b => exact isinst_ok I rx (.str b) ko h
  | @tup a xs ds h1 q1 =>
    cases (show u = Value.ref a from rx)
    obtain ⟨its, _, p, _⟩ := I.tuple (SqT.same h1 zh)
    obtain ⟨o, h1, h2, _⟩ := p
    exact PySem.W.kia_one PySem.W.kitx_tuple I.kIn ⟨o, h1, h2⟩ ko (fun z => nomatch z) h
  | @lst a xs ds h1 q1 =>
    cases (show u = Value.ref a from rx)
    obtain ⟨its, _, p, _⟩ := I.list (SqL.same h1 zh)
    obtain ⟨o, n, h1, h2, _⟩ := p
    exact PySem.W.kia_one PySem.W.kitx_list I.kIn ⟨o, h1, h2⟩ ko (fun z => nomatch z) h
  | opq h1 => exact absurd rfl hD
theorem c_isi (T : String) : CallR X (.builtin "isinstance") (fun xs H Q => ∃ x Z d r, xs = [x, .ty T] ∧ Same Z H ∧ Rep X.K Z x d ∧ isiD T d = some r ∧ ∃ b, r = .bool b ∧ Q (.bl b) H) := by
  intro pins s σ H xs us Q I rv h
  obtain ⟨x, Z, d, r, rfl, zh, rr, e, b, rfl, q⟩ := h
  obtain ⟨u, w', rfl, r1, r2⟩ := vals2 rv
  cases (show w' = Value.type T from r2)
  by_cases hD : isDct d = true
  · rw [isiD, if_pos hD] at e; cases e
  by_cases hT : T = "int" ∨ T = "bool" ∨ T = "str" ∨ T = "list" ∨ T = "tuple"
  · rw [isiD, if_neg hD, if_pos hT] at e
    cases e
    exact isi_ok I zh r1 rr hD hT fun tk => ⟨.bl _, H, I.tok _, rfl, q⟩
  · rw [isiD, if_neg hD, if_neg hT] at e; cases e
theorem ev_isi {x : Str} {T : String} {p2 : Pos} (hg : Gl X "isinstance") (hm : X.mg "isinstance" = none) (hgT : Gl X x) (hmT : X.mg x = none) (hvT : bootBuiltins x = some (.type T)) (hnT : x ≠ "__name__") (hdT : (x == ("__debug__" : Str)) = false) (ha : EV X a f)
    (he : starEach (a :: [.Name x p2]) X.env = (false, eval a X.env) :: starEach [.Name x p2] X.env := by rfl) (he2 : starEach ((.Name x p2) :: []) X.env = (false, eval (.Name x p2) X.env) :: starEach [] X.env := by rfl) (hpl : (backTo pos (starEach [.Name x p2] X.env)).any (·.1) = false := by rfl) :
    EV X (.Call (.Name "isinstance" p) [a, .Name x p2] [] pos) (o1 f (isiD T)) :=
  PE.imp (pe_callB (c_isi T) hg hm PyProof.Rows.boot_isinstance (pa_cons ha (pa_cons (pe_bltn (v := .ty T) hgT hmT hvT rfl hnT hdT) pa_nil he2) he) (by decide) (by decide) he hpl) fun σ H Q h => by
    obtain ⟨H₀, Z₀, Z, δ, d, hh, e, k⟩ := h
    obtain ⟨y, e1, e⟩ := bind_some e
    refine ⟨H₀, Z₀, Z, δ, y, hh, e1, fun v Z1 H1 hh1 s1 r1 => ⟨v, Z1, y, d, rfl, hh1.zh, r1, e, ?_⟩⟩
    have : ∃ b, d = .bool b := by
      unfold isiD at e
      split at e
      · cases e
      · split at e
        · cases e; exact ⟨_, rfl⟩
        · cases e
    obtain ⟨b, rfl⟩ := this
    exact ⟨b, rfl, k _ Z1 H1 hh1 s1 (.bl b)⟩
end
end VL

set_option Elab.async false
set_option linter.all false
set_option maxRecDepth 100000
set_option maxHeartbeats 4000000
namespace VL
open PySem PySem.Spec PyProof.Rows L2
section
variable {X : Cx} {a b c e tg iter : Expr} {es : List Expr} {pos p : Pos} {f f1 f2 f3 : Dv → Option D} {fs : Dv → Option (List D)} {ft fu : Dv → Option Bool} {st : Stmt} {sts body orelse : List Stmt} {s1 s2 s3 : Sf}

/-! ### statements -/
theorem sv_ret (he : EV X e f) : SV X (.Return (some e) pos) (sRet f) :=
  PS.imp (ps_ret he) fun D σ H h => by
    obtain ⟨H₀, Z₀, Z, δ, r, hh, e, k⟩ := h
    obtain ⟨x, e1, e⟩ := bind_some e
    cases e
    exact ⟨H₀, Z₀, Z, δ, x, hh, e1, fun v Z1 H1 hh1 s1 r1 => k σ H1 Z1 hh1 s1 v r1⟩
theorem sv_set (i : Nat) {x : Str} {pos' : Pos} (hN : X.N.Nodup) (he : EV X e f) (hi : X.N[i]? = some x := by rfl) (hx : Loc X.env.scope x := by first | exact Or.inl rfl | exact Or.inr rfl) (hs : swapsWith e (some (.Name x pos')) pos.line X.env = pure false := by rfl)
    (hf : X.fn x = true ∨ X.env.scope.names.lookup x = some .local := by first | exact .inl rfl | exact .inr rfl | assumption) : SV X (.Assign [.Name x pos'] e pos) (sSet i f) :=
  PS.imp (ps_set hN hi hx he hs hf) fun D σ H h => by
    obtain ⟨H₀, Z₀, Z, δ, r, hh, e, k⟩ := h
    obtain ⟨x, e1, e⟩ := bind_some e
    cases e
    exact ⟨H₀, Z₀, Z, δ, x, hh, e1, fun v Z1 H1 hh1 s1 r1 => k _ H1 Z1 (hh1.set r1) s1⟩
theorem nx_ok {D : Ends} {σ : St} {H : Hp} {K : Fg} (h : tVS K sNx D σ H) : D.nx σ H := by
  obtain ⟨H₀, Z₀, Z, δ, r, hh, e, k⟩ := h
  cases e
  exact k σ H Z hh (Same.refl _)
theorem bv_nil : BV X [] sNx := PSs.imp pss_nil fun D σ H h => nx_ok h
theorem bv_cons (h1 : SV X st s1) (h2 : BV X sts s2) : BV X (st :: sts) (sSeq s1 s2) :=
  PSs.imp (pss_cons h1 h2) fun D σ H h => by
    obtain ⟨H₀, Z₀, Z, δ, r, hh, e, k⟩ := h
    obtain ⟨⟨fl, δ'⟩, e1, e⟩ := bind_some e
    refine ⟨H₀, Z₀, Z, δ, (fl, δ'), hh, e1, fun σ' H' Z' hh' s' => ?_⟩
    cases fl with
    | nx => exact ⟨H₀, Z₀, Z', δ', r, hh', e, fun σ2 H2 Z2 hh2 s2 => by
        have := k σ2 H2 Z2 hh2 (s'.trans s2)
        obtain ⟨fl, δ2⟩ := r
        cases fl <;> exact this⟩
    | bk => cases e; exact k σ' H' Z' hh' s'
    | ct => cases e; exact k σ' H' Z' hh' s'
    | rt d => cases e; exact k σ' H' Z' hh' s'
theorem bv_one (h1 : SV X st s1) : BV X [st] s1 := pss_one h1
theorem sv_if (hc : TV X c ft) (ha : BV X body s1) (hb : BV X orelse s2) : SV X (.If c body orelse pos) (sIf ft s1 s2) :=
  PS.imp (ps_if hc ha hb) fun D σ H h => by
    obtain ⟨H₀, Z₀, Z, δ, r, hh, e, k⟩ := h
    obtain ⟨x, e1, e⟩ := bind_some e
    refine ⟨H₀, Z₀, Z, δ, x, hh, e1, fun Z1 H1 hh1 t1 => ?_⟩
    cases x with
    | true => exact ⟨H₀, Z₀, Z1, δ, r, hh1, e, fun σ2 H2 Z2 hh2 t2 => k σ2 H2 Z2 hh2 (t1.trans t2)⟩
    | false => exact ⟨H₀, Z₀, Z1, δ, r, hh1, e, fun σ2 H2 Z2 hh2 t2 => k σ2 H2 Z2 hh2 (t1.trans t2)⟩
/-- a list of one's own is known for good from here -/
theorem fz_ok {K : Fg} (i : Nat) {D : Ends} {σ : St} {H : Hp} (h : tVS K (fun δ => s1 (dFz i δ)) D σ H) : tVS K s1 D σ H := by
  obtain ⟨H₀, Z₀, Z, δ, r, hh, e, k⟩ := h
  have e : s1 (dFz i δ) = some r := e
  unfold dFz at e
  split at e
  · rename_i ds q
    obtain ⟨Z1, t1, hh1⟩ := hh.frz q
    exact ⟨H₀, Z₀, Z1, _, r, hh1, e, fun σ2 H2 Z2 hh2 t2 => k σ2 H2 Z2 hh2 (t1.trans t2)⟩
  · exact ⟨H₀, Z₀, Z, _, r, hh, e, k⟩
theorem sv_fz (i : Nat) (h : SV X st s1) : SV X st (fun δ => s1 (dFz i δ)) := PS.imp h fun D σ H q => fz_ok i q

/-! ### targets -/
def tVG (K : Fg) (g : D → Dv → Option Dv) : TG := fun v σ H Q => ∃ H₀ Z₀ Z δ d δ', Hold K H₀ Z₀ Z δ σ H ∧ Rep K Z v d ∧ g d δ = some δ' ∧ ∀ σ' H' Z', Hold K H₀ Z₀ Z' δ' σ' H' → Same Z Z' → Q σ' H'
def GV (X : Cx) (tg : Expr) (g : D → Dv → Option Dv) : Prop := PG X tg (tVG X.K g)
theorem PG.imp {t t' : TG} (h : PG X tg t) (i : ∀ v σ H Q, t' v σ H Q → t v σ H Q) : PG X tg t' := fun pins s σ H x v Q I r q => h pins s σ H x v Q I r (i _ _ _ _ q)
theorem gv_name (i : Nat) {x : Str} (hN : X.N.Nodup) (hi : X.N[i]? = some x := by rfl) (hx : Loc X.env.scope x := by first | exact Or.inl rfl | exact Or.inr rfl)
    (hf : X.fn x = true ∨ X.env.scope.names.lookup x = some .local := by first | exact .inl rfl | exact .inr rfl | assumption) : GV X (.Name x pos) (gN i) :=
  PG.imp (pg_name hN hi hx hf) fun v σ H Q h => by
    obtain ⟨H₀, Z₀, Z, δ, d, δ', hh, r, e, k⟩ := h
    cases e
    exact k _ H Z (hh.set r) (Same.refl _)
/-! ### loops -/
structure ItOk (K : Fg) (Z : Hp) (J : It) (ds : List D) : Prop where
  go : ∀ (i : Nat) (H : Hp), Same Z H → i < ds.length → J.go i H
  yld : ∀ (i : Nat) (H : Hp) x H' d, Same Z H → ds[i]? = some d → J.yld i H x H' → H' = H ∧ Rep K Z x d
  stop : ∀ (i : Nat) (H : Hp), Same Z H → ds.length ≤ i → J.stop i H
def tVI (K : Fg) (f : Dv → Option (List D)) : TI := fun σ H R => ∃ H₀ Z₀ Z δ ds, Hold K H₀ Z₀ Z δ σ H ∧ f δ = some ds ∧ ∀ J Z' H', Hold K H₀ Z₀ Z' δ σ H' → Same Z Z' → ItOk K Z' J ds → R J H'
def IV (X : Cx) (tg iter : Expr) (f : Dv → Option (List D)) : Prop := PI X tg iter (tVI X.K f)
theorem PI.imp {t t' : TI} (h : PI X tg iter t) (i : ∀ σ H R, t' σ H R → t σ H R) : PI X tg iter t' := fun pins s σ H R I q => h pins s σ H R I (i _ _ _ q)
theorem sv_for {g : D → Dv → Option Dv} (hp : PassesOwn (model X.prog X.w) X.A X.env X.xe) (hc : X.calm = true) (hi : IV X tg iter fs) (hg : GV X tg g) (hb : BV X body s1)
    (hs : ∀ x, foldedSetIterable iter X.env x = pure x := by intro _; rfl) : SV X (.For tg iter body [] pos) (sFor fs g s1) :=
  PS.imp (ps_for hp hc hi hg hb hs) fun D σ H h => by
    obtain ⟨H₀, Z₀, Z, δ, r, hh, e, k⟩ := h
    obtain ⟨ds, e1, e⟩ := bind_some e
    refine ⟨H₀, Z₀, Z, δ, ds, hh, e1, fun J Z1 H1 hh1 t1 ok => ?_⟩
    refine ⟨fun i m σ H => m = ds.length - i ∧ i ≤ ds.length ∧ ∃ Zc δc, Hold X.K H₀ Z₀ Zc δc σ H ∧ Same Z1 Zc ∧ loop g s1 (ds.drop i) δc = some r, ⟨ds.length, by simp, Nat.zero_le _, Z1, δ, hh1, Same.refl _, e⟩, ?_⟩
    rintro i m σ2 H2 ⟨rfl, hi2, Zc, δc, hhc, tc, ec⟩
    have zh : Same Z1 H2 := tc.trans hhc.zh
    by_cases hlt : i < ds.length
    · refine .inr ⟨ok.go i H2 zh hlt, fun σ3 H3 => ∃ Zc δc, Hold X.K H₀ Z₀ Zc δc σ3 H3 ∧ Same Z1 Zc ∧ loop g s1 (ds.drop (i + 1)) δc = some r, fun σ3 H3 q => ⟨ds.length - (i + 1), by omega, rfl, hlt, q⟩, fun x H3 y => ?_⟩
      have ed : ds[i]? = some ds[i] := by simp [hlt]
      obtain ⟨rfl, rx⟩ := ok.yld i H2 x H3 _ zh ed y
      rw [List.drop_eq_getElem_cons hlt] at ec
      obtain ⟨δ1, g1, ec⟩ := bind_some ec
      obtain ⟨⟨fl, δ2⟩, g2, ec⟩ := bind_some ec
      refine ⟨H₀, Z₀, Zc, δc, _, δ1, hhc, rx.same tc, g1, fun σ4 H4 Z4 hh4 t4 => ⟨H₀, Z₀, Z4, δ1, (fl, δ2), hh4, g2, fun σ5 H5 Z5 hh5 t5 => ?_⟩⟩
      cases fl with
      | nx => exact ⟨Z5, δ2, hh5, (tc.trans t4).trans t5, ec⟩
      | ct => exact ⟨Z5, δ2, hh5, (tc.trans t4).trans t5, ec⟩
      | bk => cases ec; exact k σ5 H5 Z5 hh5 (((t1.trans tc).trans t4).trans t5)
      | rt d => cases ec; exact k σ5 H5 Z5 hh5 (((t1.trans tc).trans t4).trans t5)
    · have e2 : ds.drop i = [] := List.drop_eq_nil_iff.mpr (by omega)
      rw [e2] at ec
      cases ec
      exact .inl ⟨ok.stop i H2 zh (by omega), k σ2 H2 Zc hhc (t1.trans tc)⟩
/-! ### what is walked -/
theorem itok_rng {K : Fg} {Z : Hp} {lo : Int} {n : Nat} : ItOk K Z (Itr lo n) (rngL lo n) where
  go := fun i H _ h => by simpa [rngL, Itr] using h
  yld := fun i H x H' d _ e y => by
    obtain ⟨rfl, rfl⟩ := y
    refine ⟨rfl, ?_⟩
    unfold rngL at e
    rw [List.getElem?_map] at e
    cases q : (List.range n)[i]? with
    | none => rw [q] at e; cases e
    | some k =>
      rw [q] at e
      cases e
      have : k = i := by
        obtain ⟨h, h2⟩ := List.getElem?_eq_some_iff.mp q
        simpa using h2.symm
      subst this
      exact .int _
  stop := fun i H _ h => by simpa [rngL, Itr] using h
theorem iv_range1 (hg : Gl X "range") (hm : X.mg "range" = none) (ha : AV X [a] fs) (hs : starEach [a] X.env = [(false, eval a X.env)] := by rfl) : IV X tg (.Call (.Name "range" p) [a] [] pos) (oL fs rng1D) :=
  PI.imp (pi_range1 hg hm ha hs) fun σ H R h => by
    obtain ⟨H₀, Z₀, Z, δ, ds, hh, e, k⟩ := h
    obtain ⟨as, e1, e⟩ := bind_some e
    refine ⟨H₀, Z₀, Z, δ, as, hh, e1, fun vs Z1 H1 hh1 t1 r1 => ?_⟩
    unfold rng1D at e
    split at e
    · rename_i j
      split at e
      · rename_i hj
        cases e
        cases r1 with
        | cons q1 q2 =>
          cases q2
          exact ⟨j, by rw [q1.int_eq], hj.2, hj.1, k _ Z1 H1 hh1 t1 itok_rng⟩
      · cases e
    · cases e
theorem iv_range2 (hg : Gl X "range") (hm : X.mg "range" = none) (ha : AV X [a, b] fs) (hs : starEach [a, b] X.env = [(false, eval a X.env), (false, eval b X.env)] := by rfl) (hs2 : starEach [b] X.env = [(false, eval b X.env)] := by rfl) : IV X tg (.Call (.Name "range" p) [a, b] [] pos) (oL fs rng2D) :=
  PI.imp (pi_range2 hg hm ha hs hs2) fun σ H R h => by
    obtain ⟨H₀, Z₀, Z, δ, ds, hh, e, k⟩ := h
    obtain ⟨as, e1, e⟩ := bind_some e
    refine ⟨H₀, Z₀, Z, δ, as, hh, e1, fun vs Z1 H1 hh1 t1 r1 => ?_⟩
    unfold rng2D at e
    split at e
    · rename_i i j
      split at e
      · rename_i hj
        cases e
        cases r1 with
        | cons q1 q2 =>
          cases q2 with
          | cons q2 q3 =>
            cases q3
            exact ⟨i, j, by rw [q1.int_eq, q2.int_eq], ⟨hj.1.2, hj.1.1, hj.2.2, hj.2.1⟩, k _ Z1 H1 hh1 t1 itok_rng⟩
      · cases e
    · cases e
/-- a list or a tuple -/
theorem iv_list (ha : EV X a f) : IV X tg a (oI f lstI) :=
  PI.imp (pi_list ha) fun σ H R h => by
    obtain ⟨H₀, Z₀, Z, δ, ds, hh, e, k⟩ := h
    obtain ⟨y, e1, e⟩ := bind_some e
    refine ⟨H₀, Z₀, Z, δ, y, hh, e1, fun v Z1 H1 hh1 t1 r1 => ?_⟩
    cases r1 with
    | @lst l xs ds' h1 q1 =>
      cases e
      refine ⟨l, rfl, ⟨xs, SqL.same h1 hh1.zh⟩, k _ Z1 H1 hh1 t1 ⟨fun i H2 z hi => ?_, fun i H2 x H3 d z ed y => ?_, fun i H2 z hi => ⟨xs, SqL.same h1 z, by rw [q1.length]; exact hi⟩⟩⟩
      · have hi' : i < xs.length := by rw [q1.length]; exact hi
        exact ⟨xs, xs[i], SqL.same h1 z, by simp [hi']⟩
      · obtain ⟨rfl, y⟩ := y
        obtain ⟨v, ev, rv⟩ := q1.get ed
        have := y xs (SqL.same h1 z)
        rw [ev] at this
        cases this
        exact ⟨rfl, rv⟩
    | _ => cases e
theorem iv_tup (ha : EV X a f) : IV X tg a (oI f tupI) :=
  PI.imp (pi_tup ha) fun σ H R h => by
    obtain ⟨H₀, Z₀, Z, δ, ds, hh, e, k⟩ := h
    obtain ⟨y, e1, e⟩ := bind_some e
    refine ⟨H₀, Z₀, Z, δ, y, hh, e1, fun v Z1 H1 hh1 t1 r1 => ?_⟩
    cases r1 with
    | @tup l xs ds' h1 q1 =>
      cases e
      refine ⟨l, rfl, ⟨xs, SqT.same h1 hh1.zh⟩, k _ Z1 H1 hh1 t1 ⟨fun i H2 z hi => ?_, fun i H2 x H3 d z ed y => ?_, fun i H2 z hi => ⟨xs, SqT.same h1 z, by rw [q1.length]; exact hi⟩⟩⟩
      · have hi' : i < xs.length := by rw [q1.length]; exact hi
        exact ⟨xs, xs[i], SqT.same h1 z, by simp [hi']⟩
      · obtain ⟨rfl, y⟩ := y
        obtain ⟨v, ev, rv⟩ := q1.get ed
        have := y xs (SqT.same h1 z)
        rw [ev] at this
        cases this
        exact ⟨rfl, rv⟩
    | _ => cases e
end
/-! ### range(a, b, c) -/
section
variable {X : Cx} {a b c tg : Expr} {ta : TA} {p pos : Pos} {fs : Dv → Option (List D)}
end
/-! ### slices -/
section
variable {X : Cx} {e : Expr} {lo hi : Option Expr} {p2 pos : Pos} {f : Dv → Option D}
def tVO (K : Fg) (f : Dv → Option (Option Int)) : TO := fun σ H Q => ∃ H₀ Z₀ Z δ d, Hold K H₀ Z₀ Z δ σ H ∧ f δ = some d ∧ ∀ Z' H', Hold K H₀ Z₀ Z' δ σ H' → Same Z Z' → Q d H'
def OV (X : Cx) (e : Option Expr) (f : Dv → Option (Option Int)) : Prop := PO X e (tVO X.K f)
theorem PO.imp {eo : Option Expr} {t t' : TO} (h : PO X eo t) (i : ∀ σ H Q, t' σ H Q → t σ H Q) : PO X eo t' := fun pins s σ H Q I q => h pins s σ H Q I (i _ _ _ q)
theorem ov_none : OV X none oNo := PO.imp po_none fun σ H Q h => by
  obtain ⟨H₀, Z₀, Z, δ, d, hh, e, k⟩ := h
  cases e
  exact k Z H hh (Same.refl _)
theorem ov_some (h : EV X e f) : OV X (some e) (oP f) := PO.imp (po_some h) fun σ H Q h => by
  obtain ⟨H₀, Z₀, Z, δ, d, hh, e, k⟩ := h
  obtain ⟨x, e1, e⟩ := bind_some e
  refine ⟨H₀, Z₀, Z, δ, x, hh, e1, fun v Z1 H1 hh1 t1 r1 => ?_⟩
  cases r1 <;> simp [asI] at e
  subst e
  exact ⟨_, rfl, k Z1 H1 hh1 t1⟩
/-- the items of xs[lo:hi] -/
theorem Reps.cut {K : Fg} {Z : Hp} {vs : List V} {ds : List D} (r : Reps K Z vs ds) (lo hi : Option Int) : Reps K Z (cutV vs lo hi) (cutD ds lo hi) := by
  unfold cutV cutD
  rw [r.length]
  exact (r.drop _).take _
/-- t[lo:hi], the whole of it: t itself -/
theorem cutD_whole {ds : List D} {lo hi : Option Int} (h1 : HT.sIx ds.length 0 lo = 0) (h2 : HT.sIx ds.length ds.length hi = ds.length) : cutD ds lo hi = ds := by
  unfold cutD
  rw [h1, h2]
  simp
section
variable {prog : Program} {w : World} {A : Around} {E : Value → Shared → Prop} {s : Shared}
theorem tupCut_whole {t sl : Addr} {items : Array Value} {vl vu : Value} {lo hi : Option Int} {Q : Value → Shared → Prop} (ht : IsTup s.heap t items) (hs : s.heap.IsSliceOf sl vl vu .none) (pl : IsPart vl lo) (pu : IsPart vu hi)
    (h1 : HT.sIx items.size 0 lo = 0) (h2 : HT.sIx items.size items.size hi = items.size) (h : Q (.ref t) s) : wpAny (model prog w) A (getItem (.ref t) (.ref sl)) Q E s := by
  obtain ⟨osl, hos, hcs, hds⟩ := id hs
  have ty : s.TypeIs (.ref sl) "slice" := ⟨osl, hos, hcs⟩
  unfold getItem
  try with_reducible refine wpAny_holding ?_
  first | refine wpAny_bind (wpAny_pure ?_) | skip
  refine wpAny_bind (wpAny_sequenceKey ht.typeIs (by decide) ?_)
  refine wpAny_bind (wpAny_callSpecial?_slot (name := Str.ofString "__getitem__") ht.typeIs PyProof.Rows.slot_tuple_getitem
    (wpAny_call_entry PyProof.Rows.slot_tuple_getitem ht.typeIs PyProof.Rows.entry_tuple_getitem ?_ (PyProof.Rows.args_tuple_getitem _ _)))
  show wpAny _ _ (Builtin.Tuple.tupleItemsOf (.ref t) >>= _) _ _ s
  refine wpAny_bind (tupleItemsOf_ ht ?_)
  refine wpAny_bind (wpAny_typeOf ty ?_)
  rw [if_pos (by decide)]
  refine wpAny_bind (HT.sliceApplied_gen hs pl pu ?_)
  have yes : (((((HT.sIx items.size 0 lo : Nat) : Int) == 0) && ((1 : Int) == 1)) && ((HT.sIx items.size items.size hi - HT.sIx items.size 0 lo) == items.size)) = true := by
    rw [h1, h2]; simp
  show wpAny _ _ (if (((((HT.sIx items.size 0 lo : Nat) : Int) == 0) && ((1 : Int) == 1)) && ((HT.sIx items.size items.size hi - HT.sIx items.size 0 lo) == items.size)) = true then _ else _) _ _ s
  rw [if_pos yes]
  unfold Builtin.Tuple.tupleIsExact
  refine wpAny_bind (wpAny_bind (wpAny_typeOf ht.typeIs (wpAny_pure ?_)))
  rw [if_pos (by decide)]
  exact wpAny_bind (wpAny_rule (wpAny_pure ⟨_, rfl, wpAny_pure h⟩))
end
def rSlW (K : PySem.W.Frag) : V → Option Int → Option Int → Hp → VK → Prop := fun x lo hi H Q => ∃ a xs, x = .ref a ∧ SqT K H a xs ∧ HT.sIx xs.length 0 lo = 0 ∧ HT.sIx xs.length xs.length hi = xs.length ∧ Q (.ref a) H
theorem sl_tupW : SlR X (rSlW X.K) := by
  intro pins s σ H x v vl vu lo hi sl Q I rx hs pl pu h
  obtain ⟨a, xs, rfl, hx, w1, w2, q⟩ := h
  cases rx
  obtain ⟨its, r, ht, hz⟩ := I.tuple hx
  have hlen : its.toArray.size = xs.length := by rw [List.size_toArray]; exact r.length.symm
  refine ⟨"tuple", _, PyProof.Rows.slot_tuple_getitem.lookup, ht.typeIs, ?_⟩
  exact tupCut_whole ht hs pl pu (by rw [hlen]; exact w1) (by rw [hlen]; exact w2) ⟨.ref a, H, I, rfl, q⟩
theorem ev_slice {fl fu : Dv → Option (Option Int)} (he : EV X e f) (hl : OV X lo fl) (hu : OV X hi fu) : EV X (.Subscript e (.Slice lo hi none p2) pos) (oSl f fl fu) :=
  PE.imp (pe_slice (sl_list.or (sl_tup.or sl_tupW)) he hl hu) fun σ H Q h => by
    obtain ⟨H₀, Z₀, Z, δ, d, hh, e, k⟩ := h
    obtain ⟨x, e1, e⟩ := bind_some e
    obtain ⟨i, e2, e⟩ := bind_some e
    obtain ⟨j, e3, e⟩ := bind_some e
    refine ⟨H₀, Z₀, Z, δ, x, hh, e1, fun v Z1 H1 hh1 t1 r1 => ⟨H₀, Z₀, Z1, δ, i, hh1, e2, fun Z2 H2 hh2 t2 => ⟨H₀, Z₀, Z2, δ, j, hh2, e3, fun Z3 H3 hh3 t3 => ?_⟩⟩⟩
    have r3 := (r1.same t2).same t3
    have tt := (t1.trans t2).trans t3
    cases r3 with
    | @lst a xs ds h1 q1 =>
      cases e
      refine .inl ⟨_, _, rfl, SqL.same h1 hh3.zh, fun p hp => ?_⟩
      have n := New.add hh3.zh hp (.lst (cutV xs i j))
      exact k _ _ _ (hh3.new n) (tt.trans n.z) (.lst (SqL.of upd_same) ((q1.cut i j).same n.z))
    | @tup a xs ds h1 q1 =>
      simp only [slD] at e
      cases e
      by_cases hw : HT.sIx ds.length 0 i = 0 ∧ HT.sIx ds.length ds.length j = ds.length
      · refine .inr (.inr ⟨_, _, rfl, SqT.same h1 hh3.zh, by rw [q1.length]; exact hw.1, by rw [q1.length]; exact hw.2, ?_⟩)
        refine k _ _ _ hh3 tt ?_
        rw [cutD_whole hw.1 hw.2]
        exact .tup h1 q1
      · refine .inr (.inl ⟨_, _, rfl, SqT.same h1 hh3.zh, by rw [q1.length]; exact hw, fun p hp => ?_⟩)
        have n := New.add hh3.zh hp (.tup (cutV xs i j))
        exact k _ _ _ (hh3.new n) (tt.trans n.z) (.tup (SqT.of upd_same) ((q1.cut i j).same n.z))
    | _ => cases e
end
/-! ### defs -/
structure FunV (K : PySem.W.Frag) (x qual : Str) (st : Stmt) (f : Addr) (fd : FuncData) (dV : Value) : Prop where
  ex : ∃ (oc : Value) (od : Option Addr) (kV doc pm : Value) (an : Option Addr) (cdv ct : Value) (osl : Array (Option Value)),
    fd = PySem.W.fnOf x qual (defArgs st) (defBody st) (defScope st) dV kV doc pm an cdv ct ∧ K.lookup f = some ⟨oc, od, .func fd, osl⟩ ∧ PySem.W.codeIn K cdv qual = true
  kp : PySem.W.keepIn K (.ref f) = true
section
variable {P : Program} {w : World} {K : PySem.W.Frag} {mg : Str → Option Value} {base : Heap}
theorem start_get {N : List Str} {vs : List V} {as : List D} {Z : Hp} (r : Reps K Z vs as) : ∀ (i : Nat) d, (startD N as)[i]? = some (.fz d) → ∃ v, (start N vs)[i]? = some (some v) ∧ Rep K Z v d := by
  intro i d e
  unfold startD at e
  unfold L2.start
  by_cases hi : i < as.length
  · rw [List.getElem?_append_left (by simpa using hi), List.getElem?_map] at e
    cases q : as[i]? with
    | none => rw [q] at e; cases e
    | some d' =>
      rw [q] at e
      cases e
      obtain ⟨v, ev, rv⟩ := r.get q
      exact ⟨v, by rw [List.getElem?_append_left (by simpa [r.length] using hi), List.getElem?_map, ev]; rfl, rv⟩
  · rw [List.getElem?_append_right (by simpa using hi), List.getElem?_replicate] at e
    split at e <;> cases e
theorem start_now {N : List Str} {as : List D} : ∀ (i : Nat) ds, (startD N as)[i]? ≠ some (.own ds) := by
  intro i ds e
  unfold startD at e
  by_cases hi : i < as.length
  · rw [List.getElem?_append_left (by simpa using hi), List.getElem?_map] at e
    cases q : as[i]? with
    | none => rw [q] at e; cases e
    | some d' => rw [q] at e; cases e
  · rw [List.getElem?_append_right (by simpa using hi), List.getElem?_replicate] at e
    split at e <;> cases e
theorem start_fr {N : List Str} {as : List D} : ∀ (i : Nat) ds, (startD N as)[i]? ≠ some (.fr ds) := by
  intro i ds e
  unfold startD at e
  by_cases hi : i < as.length
  · rw [List.getElem?_append_left (by simpa using hi), List.getElem?_map] at e
    cases q : as[i]? with
    | none => rw [q] at e; cases e
    | some d' => rw [q] at e; cases e
  · rw [List.getElem?_append_right (by simpa using hi), List.getElem?_replicate] at e
    split at e <;> cases e
theorem hold_start {N : List Str} {vs : List V} {as : List D} {Z H : Hp} (zh : Same Z H) (r : Reps K Z vs as) : Hold K H Z Z (startD N as) (start N vs) H :=
  ⟨zh, Same.refl _, Same.refl _, fun _ _ => rfl, by simp [startD, L2.start, r.length], start_get r, fun i ds e => absurd e (start_now i ds), fun i j ds es a _ e => absurd e (start_now i ds), fun i ds e => absurd e (start_fr i ds), NoF.refl _⟩
/-- THE RULE for a def: g what it is worth, b its body as a function -/
theorem fn_v {x qual : Str} {st : Stmt} {f : Addr} {fd : FuncData} {dV : Value} {N ps : List Str} {k : Nat} {g : List D → Option D} {b : Sf} (F : FunV K x qual st f fd dV) (S : FnScope N ps (defScope st)) (len : ∀ as d, g as = some d → as.length = ps.length)
    (hb : ∀ (cdv : Value) (A : Around) (outer : List Env) (s : Shared) (H : Hp) (E : XK), Room k (A.deeper (envOfC qual (defScope st) s.heap.objs.size f cdv)) → BV (cxOf CX0 P w K mg base N qual (defScope st) f cdv A outer s H E).nox (defBody st) b)
    (hg : ∀ as d, g as = some d → ∃ δ', b (startD N as) = some (.rt d, δ') ∨ (d = .none ∧ b (startD N as) = some (.nx, δ'))) : FnOk P w K mg base CX0 (k + 1) f fd ps (spD K g) := by
  obtain ⟨oc, od, kV, doc, pm, an, cdv, ct, osl, rfl, lk, hcd⟩ := F.ex
  refine fn_of lk hcd S (fun vs H Q E h => ?_) fun A outer s H vs Q E hr hsp => ?_
  · obtain ⟨Z, as, d, zh, r, e, _⟩ := h
    rw [r.length]
    exact len as d e
  · refine ⟨_, PSs.nox (hb cdv A outer s H E hr), ?_⟩
    obtain ⟨Z, as, d, zh, r, e, kk⟩ := hsp
    have hh := hold_start (N := N) zh r
    have fin : ∀ {σ' : St} {H' Z' : Hp} {δ' : Dv}, Hold K H Z Z' δ' σ' H' → Same Z Z' → New Z H Z' H' := fun h' z' => ⟨z', h'.h0, h'.zh, h'.zb, h'.nf⟩
    obtain ⟨δ', e2 | ⟨rfl, e2⟩⟩ := hg as d e
    · exact ⟨H, Z, Z, _, _, hh, e2, fun σ' H' Z' h' z' v rv => kk v Z' H' (fin h' z') rv⟩
    · exact ⟨H, Z, Z, _, _, hh, e2, fun σ' H' Z' h' z' => kk _ Z' H' (fin h' z') .non⟩
theorem FunV.binds {x qual : Str} {st : Stmt} {f : Addr} {fd : FuncData} {ps : List Str} (F : FunV K x qual st f fd .none)
    (h : ∀ (kV doc pm : Value) (an : Option Addr) (cdv ct : Value) (us : List Value), us.length = ps.length → bindArgs (PySem.W.fnOf x qual (defArgs st) (defBody st) (defScope st) .none kV doc pm an cdv ct) ⟨us, []⟩ = pure (ps.zip us)) : Binds K fd ps [] := by
  obtain ⟨oc, od, kV, doc, pm, an, cdv, ct, osl, rfl, lk, hcd⟩ := F.ex
  exact .all (h kV doc pm an cdv ct)
/-- with defaults: ds of them fill up -/
theorem FunV.bindsD {x qual : Str} {st : Stmt} {f T : Addr} {fd : FuncData} {ps : List Str} {o : Obj} {items : Array Value} {n : Nat} {ds : List Value} (F : FunV K x qual st f fd (.ref T)) (ho : K.lookup T = some o) (hs : o.data = .seq items n) (nu : Nat) (hn : nu + ds.length = ps.length)
    (h : ∀ (kV doc pm : Value) (an : Option Addr) (cdv ct : Value) (us : List Value), us.length = nu → ∃ kk, bindArgs (PySem.W.fnOf x qual (defArgs st) (defBody st) (defScope st) (.ref T) kV doc pm an cdv ct) ⟨us, []⟩ = seqItems? (.ref T) >>= kk ∧ kk (some items) = pure (ps.zip (us ++ ds))) : Binds K fd ps ds := by
  obtain ⟨oc, od, kV, doc, pm, an, cdv, ct, osl, rfl, lk, hcd⟩ := F.ex
  intro s us KX hl
  obtain ⟨kk, h1, h2⟩ := h kV doc pm an cdv ct us (by rw [List.length_append] at hl; omega)
  exact BindsTo.of_defaults rfl (KX _ _ ho) hs h1 h2
theorem funV_mk {x qual : Str} {st : Stmt} {f : Addr} {dV oc : Value} {od an : Option Addr} {osl : Array (Option Value)} {kV doc pm cdv ct : Value} (l : K.lookup f = some ⟨oc, od, .func (PySem.W.fnOf x qual (defArgs st) (defBody st) (defScope st) dV kV doc pm an cdv ct), osl⟩)
    (c : PySem.W.codeIn K cdv qual = true) (k : PySem.W.keepIn K (.ref f) = true) : FunV K x qual st f (PySem.W.fnOf x qual (defArgs st) (defBody st) (defScope st) dV kV doc pm an cdv ct) dV := ⟨⟨oc, od, kV, doc, pm, an, cdv, ct, osl, rfl, l, c⟩, k⟩
/-- law's: a list of at most 63 ints is handed in, True comes out -/
def spLaw (K : PySem.W.Frag) : Sp := fun vs H Q _ => ∃ (a : Addr) (ns : List Int), vs = [.ref a] ∧ SqL K H a (ns.map V.int) ∧ ns.length ≤ 63 ∧ ∀ H', Q (.bl true) H'
theorem law_v {g : List D → Option D} {k : Nat} {f : Addr} {fd : FuncData} (F : FnOk P w K mg base CX0 k f fd ["script"] (spD K g)) (hg : ∀ ns : List Int, ns.length ≤ 63 → g [.list (ns.map .int)] = some (.bool true)) : FnOk P w K mg base CX0 k f fd ["script"] (spLaw K) :=
  F.imp fun vs H Q E h => by
    obtain ⟨a, ns, rfl, hS, hl, q⟩ := h
    exact ⟨H, [.list (ns.map .int)], .bool true, Same.refl _, .cons (.lst hS (Reps.ints ns)) .nil, hg ns hl, fun v Z' H' _ r => by cases r; exact q H'⟩
end
theorem walkV {k : Nat} {l : PySem.W.OpenLaw} {q : Program} {loose : List Str} {XP : (Str → Option Value) → Heap → Prop} {YP : World → Heap → Prop} {d : DefRec} {K : Params → PySem.W.Frag} (hn : l.most = some 63) (hr : Room k callerA) (hdf : d.params.defaults = [])
    (hY : ∀ (w : World) (h : Heap), YP w h → (K w.params).In h)
    (F : ∀ (w : World) (mg : Str → Option Value) (fa : Addr) (h : Heap), (K w.params).In h → h.Ns mainGlobals mg → mg d.name = some (.ref fa) →
      ∃ fd : FuncData, (∀ (s : Shared) (u : Value), BindsTo s fd ⟨[u], []⟩ [("script", u)]) ∧ ∀ base : Heap, (K w.params).In base → base.Ns mainGlobals mg → FnOk l.prog w (K w.params) mg base CX0 k fa fd ["script"] (spLaw (K w.params))) :
    PySem.W.WalkO q loose XP YP l.row.toRowW d [] (fun f vs => PySem.call f vs) :=
  L2.walk_of (n := 63) (k := k) (x := "script") (CX := fun _ => CX0) (sp := fun w => spLaw (K w.params)) hn (by decide) hdf hr hY F (fun _ _ a ns hl _ hS => ⟨a, ns, rfl, hS, hl, fun _ => rfl⟩) fun _ _ _ _ _ z => z
/-! ### a def by its own body -/
section
variable {P : Program} {w : World} {K : PySem.W.Frag} {mg : Str → Option Value} {base : Heap}
theorem fn_b {x qual : Str} {st : Stmt} {f : Addr} {fd : FuncData} {dV : Value} {N ps : List Str} {k : Nat} {b : Sf} (F : FunV K x qual st f fd dV) (S : FnScope N ps (defScope st))
    (hb : ∀ (cdv : Value) (A : Around) (outer : List Env) (s : Shared) (H : Hp) (E : XK), Room k (A.deeper (envOfC qual (defScope st) s.heap.objs.size f cdv)) → BV (cxOf CX0 P w K mg base N qual (defScope st) f cdv A outer s H E).nox (defBody st) b) :
    FnOk P w K mg base CX0 (k + 1) f fd ps (spD K (runB N ps.length b)) := by
  refine fn_v F S (fun as d h => ?_) hb fun as d h => ?_
  · unfold runB at h
    split at h
    · assumption
    · cases h
  · unfold runB at h
    split at h
    · obtain ⟨⟨fl, δ'⟩, e, h⟩ := bind_some h
      cases fl with
      | nx => cases h; exact ⟨δ', .inr ⟨rfl, e⟩⟩
      | rt d => cases h; exact ⟨δ', .inl e⟩
      | bk => cases h
      | ct => cases h
    · cases h
/-- a def that may be called: g what it is worth, dd the defaults that fill up -/
structure Cal (P : Program) (w : World) (K : PySem.W.Frag) (mg : Str → Option Value) (base : Heap) (x : Str) (k : Nat) (g : List D → Option D) (dd : List D) : Prop where
  ex : ∃ (fa : Addr) (fd : FuncData) (ps : List Str) (ds : List Value) (dv : List V), FnOk P w K mg base CX0 k fa fd ps (spD K g) ∧ mg x = some (.ref fa) ∧ PySem.W.keepIn K (.ref fa) = true ∧ Binds K fd ps ds ∧ Vals dv ds ∧ ∀ Z, Reps K Z dv dd
theorem Cal.mk0 {x : Str} {k : Nat} {g : List D → Option D} {fa : Addr} {fd : FuncData} {ps : List Str} (F : FnOk P w K mg base CX0 k fa fd ps (spD K g)) (hm : mg x = some (.ref fa)) (hk : PySem.W.keepIn K (.ref fa) = true) (hb : Binds K fd ps []) : Cal P w K mg base x k g [] :=
  ⟨⟨fa, fd, ps, [], [], F, hm, hk, hb, .nil, fun _ => .nil⟩⟩
end
section
variable {X : Cx} {e : Expr} {es : List Expr} {p pos : Pos} {fs : Dv → Option (List D)}
theorem ev_def {k : Nat} {x : Str} {g : List D → Option D} {dd : List D} (C : Cal X.prog X.w X.K X.mg X.base x k g dd) (hr : Room k X.A) (hg : Gl X x) (ha : AV X (e :: es) fs) (hdb : (x == ("__debug__" : Str)) = false := by decide) (he : starEach (e :: es) X.env = (false, eval e X.env) :: starEach es X.env := by rfl)
    (hpl : (backTo pos (starEach es X.env)).any (·.1) = false := by rfl) : EV X (.Call (.Name x p) (e :: es) [] pos) (os fs fun as => g (as ++ dd)) := by
  obtain ⟨fa, fd, ps, ds, dv, F, hm, hk, hb, hd, hdd⟩ := C.ex
  exact ev_call F hr hg hm hk hb hd hdd pass0 ha hdb he hpl
variable {tg a : Expr} {f : Dv → Option D}
theorem iv_seq (ha : EV X a f) : IV X tg a (oI f itsD) := by
  intro pins s σ H R I h
  obtain ⟨H₀, Z₀, Z, δ, ds, hh, e, k⟩ := h
  obtain ⟨y, e1, e⟩ := bind_some e
  cases y with
  | list xs => exact iv_list ha pins s σ H R I ⟨H₀, Z₀, Z, δ, ds, hh, by unfold oI; rw [e1]; exact e, k⟩
  | tuple xs => exact iv_tup ha pins s σ H R I ⟨H₀, Z₀, Z, δ, ds, hh, by unfold oI; rw [e1]; exact e, k⟩
  | _ => cases e
end
end VL

set_option Elab.async false
set_option linter.all false
set_option maxRecDepth 100000
set_option maxHeartbeats 4000000
namespace VL
open PySem PySem.Spec PyProof.Rows L2
/-! ### comprehensions -/
/-- the cells that a block takes along -/
def clos (env : Env) : List (Str × NameKind) → List (Str × Addr) → List (Str × Addr)
  | [], cs => cs
  | (n, k) :: r, cs => if k == .free then clos env r ((n, (env.cells.lookup n).getD 0) :: cs) else clos env r cs
theorem forIn_clos {env : Env} : ∀ (l : List (Str × NameKind)) (cs : List (Str × Addr)), (∀ y ∈ l, y.2 = .free → ∃ c, env.cells.lookup y.1 = some c) →
    (forIn l cs fun (x : Str × NameKind) (r : List (Str × Addr)) => (if (x.2 == NameKind.free) = true then do let c ← cellOf env x.1; pure (ForInStep.yield ((x.1, c) :: r)) else pure (ForInStep.yield r) : Sem (ForInStep (List (Str × Addr))))) = pure (clos env l cs)
  | [], cs, _ => rfl
  | (n, k) :: r, cs, h => by
    have ih := fun cs' => forIn_clos r cs' fun y hy => h y (List.mem_cons_of_mem _ hy)
    rw [List.forIn_cons]
    cases hk : k == NameKind.free with
    | true =>
      have hk' : k = .free := by simpa using hk
      obtain ⟨c, ec⟩ := h (n, k) List.mem_cons_self hk'
      have e1 : cellOf env n = pure c := by unfold cellOf; rw [ec]
      simp only [hk, if_true, e1, pure_bind, clos, ec, Option.getD_some]
      exact ih _
    | false =>
      simp only [hk, Bool.false_eq_true, if_false, pure_bind, clos]
      exact ih _
theorem closureFor_eq {scope : Scope} {env : Env} (h : ∀ y ∈ scope.names, y.2 = .free → ∃ c, env.cells.lookup y.1 = some c) : closureFor scope env = pure (clos env scope.names []) := by
  simp only [closureFor]
  have := forIn_clos (env := env) scope.names [] h
  first
    | (rw [this]; rfl)
    | (simp only [this]; rfl)
    | (unfold closureFor; simp_all)
theorem clos_lookup {env : Env} : ∀ (l : List (Str × NameKind)) (cs : List (Str × Addr)) (y : Str) (c : Addr), (∀ z ∈ l, z.2 = .free → ∃ c, env.cells.lookup z.1 = some c) → (clos env l cs).lookup y = some c → cs.lookup y = some c ∨ env.cells.lookup y = some c
  | [], cs, y, c, _, e => .inl e
  | (n, k) :: r, cs, y, c, h, e => by
    unfold clos at e
    have hr := fun z hz => h z (List.mem_cons_of_mem _ hz)
    split at e
    · rename_i hk
      rcases clos_lookup r _ y c hr e with q | q
      · rw [List.lookup_cons] at q
        cases hy : y == n with
        | true =>
          have hy' : y = n := by simpa using hy
          subst hy'
          rw [hy] at q
          obtain ⟨c', ec⟩ := h (y, k) List.mem_cons_self (by simpa using hk)
          simp only [ec, Option.getD_some] at q
          cases q
          exact .inr ec
        | false => rw [hy] at q; exact .inl q
      · exact .inr q
    · exact clos_lookup r cs y c hr e
theorem clos_has {env : Env} : ∀ (l : List (Str × NameKind)) (cs : List (Str × Addr)) (y : Str), ((y, NameKind.free) ∈ l ∨ (cs.lookup y).isSome = true) → ((clos env l cs).lookup y).isSome = true
  | [], cs, y, h => by
    rcases h with h | h
    · cases h
    · exact h
  | (n, k) :: r, cs, y, h => by
    unfold clos
    split
    · rename_i hk
      refine clos_has r _ y ?_
      rcases h with h | h
      · rcases List.mem_cons.mp h with e | e
        · cases e; exact .inr (by simp [List.lookup_cons])
        · exact .inl e
      · refine .inr ?_
        rw [List.lookup_cons]
        cases hy : y == n with
        | true => rfl
        | false => exact h
    · rename_i hk
      refine clos_has r cs y ?_
      rcases h with h | h
      · rcases List.mem_cons.mp h with e | e
        · cases e; exact absurd rfl hk
        · exact .inl e
      · exact .inr h
theorem relabel_lookup {env : Env} {y : Str} : ∀ (l : List (Str × NameKind)), (∀ z ∈ l, z.2 ≠ .cell) →
    (((l.map fun (n, k) => if (k == NameKind.free && env.scope.kind == .function && env.kindOf n == some .cell) then (n, NameKind.cell) else (n, k)).lookup y = some .cell ∨ (l.map fun (n, k) => if (k == NameKind.free && env.scope.kind == .function && env.kindOf n == some .cell) then (n, NameKind.cell) else (n, k)).lookup y = some .free) ↔ l.lookup y = some .free)
  | [], _ => by simp
  | (n, k) :: r, h => by
    have ih := relabel_lookup (env := env) (y := y) r fun z hz => h z (List.mem_cons_of_mem _ hz)
    have hk : k ≠ .cell := h (n, k) List.mem_cons_self
    rw [List.map_cons]
    cases hy : y == n with
    | true =>
      by_cases hc : (k == NameKind.free && env.scope.kind == .function && env.kindOf n == some .cell) = true
      · have hf : k = .free := by
          simp only [Bool.and_eq_true] at hc
          simpa using hc.1.1
        simp only [if_pos hc, List.lookup_cons, hy]
        simp [hf]
      · simp only [if_neg hc, List.lookup_cons, hy]
        simp [hk]
    | false =>
      by_cases hc : (k == NameKind.free && env.scope.kind == .function && env.kindOf n == some .cell) = true
      · simp only [if_pos hc, List.lookup_cons, hy]; exact ih
      · simp only [if_neg hc, List.lookup_cons, hy]; exact ih
/-- the context of a comprehension's block -/
def blk (X : Cx) (scope : Scope) (N : List Str) (C : Addr) (s₀ : Shared) (H₀ : Hp) (ex : List Addr) : Cx :=
  { X with N := N, s₀ := s₀, H₀ := H₀, env := compEnvC scope (clos X.env scope.names []) C X.env, outer := X.stack, stack := X.stack, ex := ex, fn := fun _ => false, pn := [], xe := fun _ _ => False }
/-- what must be seen of the block's text: on the names of the code around, ON its slots -/
structure BlkOk (on : List (Str × NameKind)) (ON : List Str) (scope : Scope) (vars : List Str) (caps : List (Nat × Str)) : Prop where
  kind : scope.kind = .function
  cell : ∀ y ∈ scope.names, y.2 ≠ .cell
  names : ∀ y ∈ scope.names, y.2 = .local → scope.names.lookup y.1 = some .local
  free : ∀ y ∈ scope.names, y.2 = .free → on.lookup y.1 = some .cell ∨ on.lookup y.1 = some .free
  cap : ∀ p ∈ caps, ON[p.1]? = some p.2 ∧ scope.names.lookup p.2 = some .free
section
variable {X : Cx} {pins : List (Addr × Obj)} {σ : St} {H H' : Hp} {s s' : Shared} {scope : Scope} {vars : List Str} {caps : List (Nat × Str)} {fp : List Addr} {C : Addr}
def capV (σ : St) (caps : List (Nat × Str)) : St := caps.map fun p => (σ[p.1]?).getD none
theorem BlkOk.cells (B : BlkOk X.env.scope.names X.N scope vars caps) (I : Inv X pins σ H s) : ∀ y ∈ scope.names, y.2 = .free → ∃ c, X.env.cells.lookup y.1 = some c := fun y hy e => I.ok.has y.1 (B.free y hy e)
theorem blk_ok (B : BlkOk X.env.scope.names X.N scope vars caps) (I : Inv X pins σ H s) (hf : ∀ b ∈ fp, FpOk X pins H b) (hlt : ∀ b ∈ fp, b < s.heap.objs.size) (hC : s.heap.objs.size ≤ C) : (blk X scope (vars ++ caps.map (·.2)) C s H fp).Ok where
  mod := I.ok.mod
  kind := B.kind
  glob := I.ok.glob
  blt := I.ok.blt
  above := hC
  inj := fun x y c e1 e2 => by
    rcases clos_lookup _ _ _ _ (B.cells I) e1 with q1 | q1
    · cases q1
    · rcases clos_lookup _ _ _ _ (B.cells I) e2 with q2 | q2
      · cases q2
      · exact I.ok.inj x y c q1 q2
  has := fun x e => by
    have : scope.names.lookup x = some .free := (relabel_lookup scope.names B.cell).mp e
    have := clos_has (env := X.env) scope.names [] x (.inl (PySem.mem_of_lookup this))
    exact Option.isSome_iff_exists.mp this
  cab := fun x c e => nomatch e
  hd := I.ok.hd
  frames := I.ok.frames
  stk := .inl rfl
  exf := fun b hb => ⟨Nat.ne_of_lt (Nat.lt_of_lt_of_le (hlt b hb) hC), fun x c e => by
    rcases clos_lookup _ _ _ _ (B.cells I) e with q | q
    · cases q
    · exact (hf b hb).2.2.2.2.1 x c q⟩
  bs := I.bs
  bsz := Nat.le_trans I.ok.bsz I.sz
  noex := fun b o e hb => by
    rcases (hf b hb).2.2.2.1 with z | z
    · exact I.ok.noex b o e z
    · exact absurd (Nat.lt_of_lt_of_le (Heap.lt_size e) (Nat.le_trans I.ok.bsz z)) (Nat.lt_irrefl _)
  exfs := fun b hb z => by
    rcases List.mem_cons.mp (I.stkSub b z) with q | q
    · exact (hf b hb).2.1 q
    · exact (hf b hb).2.2.1 q
  funs := I.stack
  frf := I.stkFree
/-- the block is entered -/
theorem blk_inv (B : BlkOk X.env.scope.names X.N scope vars caps) (I : Inv X pins σ H s) (hf : ∀ b ∈ fp, FpOk X pins H b) (hlt : ∀ b ∈ fp, b < s.heap.objs.size) (hC : s.heap.objs.size ≤ C) {h₁ : Heap} {m : Str → Option Value} {tk : Nat} (hns : h₁.Ns C m) (old : ∀ b o, s.heap.get? b = some o → h₁.get? b = some o) :
    Inv (blk X scope (vars ++ caps.map (·.2)) C s H fp) [] (vars.map (fun _ => none) ++ capV σ caps) H { s with heap := h₁, toks := tk } := by
  refine ⟨blk_ok B I hf hlt hC, rfl, I.bare, Un.kept old, ⟨m, hns, fun i x v e1 e2 e3 => ?_⟩, fun x c e => ?_, I.hok.fresh hC, fun x c e => ?_, fun p hp => absurd (show p ∈ ([] : List (Addr × Obj)) from hp) (by simp), I.hok.kept old, ?_⟩
  · have e1 : (vars ++ caps.map (·.2))[i]? = some x := e1
    by_cases hi : i < vars.length
    · rw [List.getElem?_append_left (by simpa using hi), List.getElem?_map] at e2
      cases q : vars[i]? <;> rw [q] at e2 <;> cases e2
    · rw [List.getElem?_append_right (by simpa using hi)] at e1 e2
      simp only [List.length_map] at e2
      unfold capV at e2
      rw [List.getElem?_map] at e1 e2
      cases q : caps[i - vars.length]? with
      | none => rw [q] at e1; cases e1
      | some p =>
        rw [q] at e1 e2
        cases e1
        have hp := List.mem_of_getElem? q
        obtain ⟨g1, g2⟩ := B.cap p hp
        have gf : X.env.scope.names.lookup p.2 = some .cell ∨ X.env.scope.names.lookup p.2 = some .free := B.free (p.2, .free) (PySem.mem_of_lookup g2) rfl
        have ev : σ[p.1]? = some (some v) := by
          have e2 : (σ[p.1]?).getD none = some v := Option.some.inj e2
          cases z : σ[p.1]? with
          | none => rw [z] at e2; cases e2
          | some w => rw [z] at e2; rw [show w = some v from e2]
        obtain ⟨m', _, hl⟩ := I.loc
        obtain ⟨u, r, l⟩ := hl p.1 p.2 v g1 ev (gf.elim (fun z => .inr (.inl z)) fun z => .inr (.inr z))
        refine ⟨u, r, .inr ⟨?_, ?_⟩⟩
        · exact (relabel_lookup scope.names B.cell).mpr g2
        · rcases l with ⟨z, _⟩ | ⟨_, c, ec, hc⟩
          · have z : X.env.scope.names.lookup p.2 = some .local := z
            rcases gf with w | w <;> rw [z] at w <;> cases w
          · obtain ⟨c', q'⟩ := Option.isSome_iff_exists.mp (clos_has (env := X.env) scope.names [] p.2 (.inl (PySem.mem_of_lookup g2)))
            rcases clos_lookup _ _ _ _ (B.cells I) q' with w | w
            · cases w
            · rw [ec] at w
              cases w
              obtain ⟨o, ho, hd⟩ := hc
              exact ⟨c, q', o, old c o ho, hd⟩
  · rcases clos_lookup _ _ _ _ (B.cells I) e with q | q
    · cases q
    · obtain ⟨v, o, ho, hd⟩ := I.cell x c q
      exact ⟨v, o, old c o ho, hd⟩
  · rcases clos_lookup _ _ _ _ (B.cells I) e with q | q
    · cases q
    · exact I.freeC x c q
  · simp [blk, capV]
/-- the block is left: its list is told -/
theorem blk_out (I : Inv X pins σ H s) (hf : ∀ b ∈ fp, FpOk X pins H b) {D : Addr} {s' : Shared} {σ' : St} {N : List Str} {ys : List V} {its : List Value} (hC : s.heap.objs.size ≤ C) (hD : s.heap.objs.size ≤ D) (hDC : D ≠ C)
    (J : Inv (blk X scope N C s H fp) [] σ' H' s') (hD' : H' D = none) (hp : s'.heap.PlainList D its.toArray) (hv : Vals ys its) (hz : ys.length ≤ sizeLine) {h' : Heap} (hs : Heap.SameBut C s'.heap h') :
    Inv X pins σ (upd H' D (.lst ys)) { s' with heap := h' } := by
  have U : Un (frs X.stack) fp H H' s.heap s'.heap := J.base
  have neC : ∀ b o, s.heap.get? b = some o → b ≠ C := fun b o e => Nat.ne_of_lt (Nat.lt_of_lt_of_le (Heap.lt_size e) hC)
  have neD : ∀ b o, s.heap.get? b = some o → b ≠ D := fun b o e => Nat.ne_of_lt (Nat.lt_of_lt_of_le (Heap.lt_size e) hD)
  have mv : ∀ b o, b ≠ C → s'.heap.get? b = some o → h'.get? b = some o := fun b o hb e => hs.extBut b o hb e
  have tD : ∀ b o, H' b = some o → (upd H' D (.lst ys)) b = some o := fun b o e => by rw [upd_ne (ne_of_none e hD')]; exact e
  refine I.call' (s' := { s' with heap := h' }) (ch := fp) J.os ⟨fun b o e n h1 h2 => mv b o (neC b o e) (U.keep b o e n h1 h2), fun b o e n h1 h2 => ?_, fun b o e n h2 => ?_, fun b o e h2 => ?_, fun b xs e => tD _ _ (U.tups b xs e), fun b o xs e => tD _ _ (U.frzs b o xs e), fun b ps e => ?_⟩ (fun b o e => ?_) J.bare
    (fun b hb => ⟨(hf b hb).2.2.2.1, (hf b hb).2.1, (hf b hb).2.2.2.2.1, (hf b hb).2.2.2.2.2⟩)
  · obtain ⟨sl, q⟩ := U.slot b o e n h1 h2
    exact ⟨sl, mv b _ (neC b o e) q⟩
  · rw [upd_ne (neD b o e)]; exact U.free b o e n h2
  · obtain ⟨o', q⟩ := U.there b o e h2
    exact ⟨o', mv b _ (neC b o e) q⟩
  · obtain ⟨more, q⟩ := U.tbls b ps e
    exact ⟨more, tD _ _ q⟩
  · by_cases hb : b = D
    · subst hb
      rw [upd_same] at e
      cases e
      obtain ⟨n, q⟩ := hp
      exact ⟨hz, its, n, hv, mv _ _ hDC q⟩
    · rw [upd_ne hb] at e
      refine (J.hok b o e).stay (fun c v hc q => mv c v ?_ q) (fun c q => tD _ _ q) fun c xs q => tD _ _ q
      intro z
      have fc : H' C = none := J.free
      rcases hc with w | w
      · rw [← w, z, fc] at e; cases e
      · rw [z, fc] at w; cases w
theorem compTurn_go (elt target iter : Expr) (scope : Scope) (pos : Pos) (it acc : Value) (env : Env) :
    compTurn (.ListComp elt [⟨target, iter, [], 0⟩] scope pos) 0 it acc env = (standAt iter.pos >>= fun _ => pyNext it >>= fun r => match r with
      | none => pure (.done .next)
      | some v => letOwnedTupleGo target it v >>= fun _ => assign target env v >>= fun _ =>
        (eval elt env >>= fun x => call (.builtin "list.append") [acc, x] >>= fun _ => pure ()) >>= fun _ =>
          again (.compLoop (.ListComp elt [⟨target, iter, [], 0⟩] scope pos) 0 it acc env)) := by rfl
/-- what is wanted of a comprehension, turn by turn: W the invariant by the turn, a measure, the items so far -/
def KeepS (σ σ' : St) : Prop := σ.length = σ'.length ∧ ∀ (i : Nat) v, σ[i]? = some (some v) → σ'[i]? = some (some v)
def tComp (wi : TI) (g : TG) (te : TE) (vars : List Str) (caps : List (Nat × Str)) : TE := fun σ H Q => wi σ H fun J H1 => ∃ W : Nat → Nat → List V → Hp → Prop, (∃ m, W 0 m [] H1) ∧ ∀ i m ys H, W i m ys H →
  (J.stop i H ∧ ys.length ≤ sizeLine ∧ ∀ p, H p = none → Q (.ref p) (upd H p (.lst ys))) ∨
  (J.go i H ∧ ys.length < sizeLine ∧ ∀ x H', J.yld i H x H' → g x (vars.map (fun _ => none) ++ capV σ caps) H' fun σ2 H2 => KeepS (vars.map (fun _ => none) ++ capV σ caps) σ2 ∧ te σ2 H2 fun y H3 => ∃ m', m' < m ∧ W (i + 1) m' (ys ++ [y]) H3)
theorem codeAny_comp_go {prog : Program} {w : World} {A : Around} {R : Result → Shared → Prop} {s : Shared} {elt target iter : Expr} {scope : Scope} {pos : Pos} {it acc : Value} {env : Env} (I : Nat → Shared → Prop)
    (turn : ∀ n s, I n s → wpAny (model prog w) A (pyNext it) (fun r s₁ => match r with
      | none => R (.ok .next) s₁
      | some v => wpAny (model prog w) A (letOwnedTupleGo target it v) (fun _ s₁ => wpAny (model prog w) A (assign target env v) (fun _ s₂ => wpAny (model prog w) A (eval elt env) (fun x s₃ =>
          wpAny (model prog w) A (call (.builtin "list.append") [acc, x]) (fun _ s₄ => ∃ m, m < n ∧ I m s₄) (fun _ _ => False) s₃) (fun _ _ => False) s₂) (fun _ _ => False) s₁) (fun _ _ => False) s₁) (fun _ _ => False) s)
    (n : Nat) (h : I n s) : codeAny (model prog w) A (.compLoop (.ListComp elt [⟨target, iter, [], 0⟩] scope pos) 0 it acc env) R s := by
  refine codeAny_loop rfl I (fun n s hI => ?_) n h
  show wpAny _ _ ((compTurn (.ListComp elt [⟨target, iter, [], 0⟩] scope pos) 0 it acc env).onRaise (fun x => do noteFrame x env; theTreesLotGoes x)) _ _ s
  refine wpAny_noted ?_
  rw [compTurn_go]
  refine wpAny_bind (wpAny_standAt (wpAny_bind (wpAny_mono (turn n s hI) (fun r s₁ h₁ => ?_) fun _ _ h' => h'.elim)))
  cases r with
  | none => exact wpAny_pure h₁
  | some v =>
    refine wpAny_bind (wpAny_mono h₁ (fun _ s₁ h₁ => ?_) fun _ _ h' => h'.elim)
    exact wpAny_bind (wpAny_mono h₁ (fun _ s₂ h₂ => wpAny_bind (wpAny_bind (wpAny_mono h₂ (fun x s₃ h₃ => wpAny_bind (wpAny_mono h₃
      (fun _ s₄ h₄ => wpAny_pure (wpAny_pure ⟨rfl, h₄⟩)) fun _ _ h' => h'.elim)) fun _ _ h' => h'.elim))) fun _ _ h' => h'.elim)
end
section
variable {X : Cx} {scope : Scope} {vars : List Str} {caps : List (Nat × Str)} {elt tg iter : Expr} {pos : Pos} {wi : TI} {g : TG} {te : TE}
/-- the walk of the block -/
theorem comp_block (B : BlkOk X.env.scope.names X.N scope vars caps) (hc : X.calm = true)
    (hg : ∀ C s₀ H₀ ex, PG (blk X scope (vars ++ caps.map (·.2)) C s₀ H₀ ex) tg g) (he : ∀ C s₀ H₀ ex, PE (blk X scope (vars ++ caps.map (·.2)) C s₀ H₀ ex) elt te)
    {pins : List (Addr × Obj)} {σ : St} {H2 : Hp} {s2 : Shared} {Q : VK} {it : Addr} {fp : List Addr} {tn : Nat → Heap → Prop} {J : It} (I2 : Inv X pins σ H2 s2) (T : Turn X.prog X.w X.K tg J fp it tn) (st2 : tn 0 s2.heap) (f2 : ∀ b ∈ fp, FpOk X pins H2 b)
    {W : Nat → Nat → List V → Hp → Prop} {m0 : Nat} (w0 : W 0 m0 [] H2) (turn : ∀ i m ys H, W i m ys H →
      (J.stop i H ∧ ys.length ≤ sizeLine ∧ ∀ p, H p = none → Q (.ref p) (upd H p (.lst ys))) ∨
      (J.go i H ∧ ys.length < sizeLine ∧ ∀ x H', J.yld i H x H' → g x (vars.map (fun _ => none) ++ capV σ caps) H' fun σ2 H2 => KeepS (vars.map (fun _ => none) ++ capV σ caps) σ2 ∧ te σ2 H2 fun y H3 => ∃ m', m' < m ∧ W (i + 1) m' (ys ++ [y]) H3))
    {RR : Value → Addr → Result → Shared → Prop} {E : Value → Shared → Prop}
    (hRR : ∀ D C s' m, s'.heap.Ns C m → D ≠ C → s2.heap.objs.size ≤ D → s2.heap.objs.size ≤ C → ∀ H', H' C = none → (∀ h', Heap.SameBut C s'.heap h' → Inv X pins σ H' { s' with heap := h' }) → Q (.ref D) H' → RR (.ref D) C (.ok .next) s') :
    wpAny (model X.prog X.w) X.A (newList []) (fun acc s₃ => wpAny (model X.prog X.w) X.A (newFunctionEnv scope X.env.globals (clos X.env scope.names []) [] X.env.qual none .none (some X.env)) (fun cenv s₄ =>
      codeAny (model X.prog X.w) X.A (.compStart (.ListComp elt [⟨tg, iter, [], 0⟩] scope pos) 0 (.ref it) acc { cenv with scope := relabel scope X.env }) (RR acc cenv.locals) s₄) E s₃) E s2 := by
  refine wpAny_newObj_type (wpAny_newFunctionEnv B.cell (by intro y hy; simp at hy) (fun h₁ hns₁ hsb₁ => ?_) B.kind)
  dsimp only at hns₁ hsb₁ ⊢
  generalize hP : s2.heap.push { cls := .type "list", dict := none, data := .seq ([] : List Value).toArray } = HP at hns₁ hsb₁ ⊢
  have hCs : HP.objs.size = s2.heap.objs.size + 1 := by rw [← hP, Heap.size_push]
  have hDC : s2.heap.objs.size ≠ HP.objs.size := by rw [hCs]; exact Nat.ne_of_lt (Nat.lt_succ_self _)
  have hCle : s2.heap.objs.size ≤ HP.objs.size := by rw [hCs]; exact Nat.le_succ _
  have old : ∀ b o, s2.heap.get? b = some o → h₁.get? b = some o := fun b o e => hsb₁.extBut b o (Nat.ne_of_lt (Nat.lt_of_lt_of_le (Heap.lt_size e) hCle)) (Heap.get?_push_of_some _ (hP ▸ Heap.get?_push_of_some _ e))
  have hacc : h₁.PlainList s2.heap.objs.size #[] := ⟨_, hsb₁.extBut _ _ hDC (Heap.get?_push_of_some _ (hP ▸ Heap.get?_push_size _ rfl))⟩
  have flt : ∀ b ∈ fp, b < s2.heap.objs.size := fun b hb => by
    obtain ⟨o, e, _⟩ := T.obj _ _ st2 b hb
    exact Heap.lt_size e
  have st1 : tn 0 h₁ := T.keep _ _ _ st2 fun b _ o e => old b o e
  -- the loop
  have loop : ∀ s3 : Shared, s3 = { s2 with heap := h₁, toks := s2.toks + ([] : List (Str × Value)).length } →
      codeAny (model X.prog X.w) X.A (.compLoop (.ListComp elt [⟨tg, iter, [], 0⟩] scope pos) 0 (.ref it) (.ref s2.heap.objs.size) (compEnvC scope (clos X.env scope.names []) HP.objs.size X.env))
        (RR (.ref s2.heap.objs.size) HP.objs.size) s3 := by
    rintro s3 rfl
    have X' := blk X scope (vars ++ caps.map (·.2)) HP.objs.size s2 H2 fp
    have fpo : ∀ {H' : Hp}, (∀ b ∈ fp, H' b = none) → ∀ b ∈ fp, FpOk (blk X scope (vars ++ caps.map (·.2)) HP.objs.size s2 H2 fp) [] H' b := fun hn b hb => by
      have ok := blk_ok B I2 f2 flt hCle
      exact ⟨hn b hb, (ok.exf b hb).1, ok.exfs b hb, .inl hb, (ok.exf b hb).2, fun p hp => absurd (show p ∈ ([] : List (Addr × Obj)) from hp) (by simp)⟩
    refine codeAny_comp_go (fun n s => ∃ i ys H its, Inv (blk X scope (vars ++ caps.map (·.2)) HP.objs.size s2 H2 fp) [] (vars.map (fun _ => none) ++ capV σ caps) H s ∧ tn i s.heap ∧ (∀ b ∈ fp, H b = none) ∧ s.heap.PlainList s2.heap.objs.size (List.toArray its) ∧ H s2.heap.objs.size = none ∧ Vals ys its ∧ W i n ys H) ?_ m0
      ⟨0, [], H2, [], blk_inv B I2 f2 flt hCle hns₁ old, st1, fun b hb => (f2 b hb).1, hacc, I2.hok.fresh (Nat.le_refl _), .nil, w0⟩
    rintro n s4 ⟨i, ys, H4, its, I4, st4, fr4, pl4, nD4, v4, w4⟩
    obtain ⟨nn, eD⟩ := id pl4
    have DnL : s2.heap.objs.size ≠ (blk X scope (vars ++ caps.map (·.2)) HP.objs.size s2 H2 fp).env.locals := hDC
    have Dfs : s2.heap.objs.size ∉ (blk X scope (vars ++ caps.map (·.2)) HP.objs.size s2 H2 fp).fs := fun z => by
      rcases List.mem_cons.mp (I2.stkSub _ z) with q | q
      · have := I2.lt; rw [← q] at this; exact Nat.lt_irrefl _ this
      · exact I2.nofs (Nat.le_refl _) q
    have Dfp : ∀ b ∈ fp, s2.heap.objs.size ≠ b := fun b hb z => by have := flt b hb; rw [← z] at this; exact Nat.lt_irrefl _ this
    have DnC : ∀ x c, (blk X scope (vars ++ caps.map (·.2)) HP.objs.size s2 H2 fp).env.cells.lookup x = some c → c ≠ s2.heap.objs.size := fun x c e z => by
      rcases clos_lookup _ _ _ _ (B.cells I2) e with q | q
      · cases q
      · obtain ⟨v, o, ho, _⟩ := I2.cell x c q
        have := Heap.lt_size ho
        rw [z] at this
        exact Nat.lt_irrefl _ this
    have pinD : ∀ {σ' : St} {H' : Hp} {s' : Shared}, Inv (blk X scope (vars ++ caps.map (·.2)) HP.objs.size s2 H2 fp) [(s2.heap.objs.size, { cls := .type "list", data := .seq its.toArray nn })] σ' H' s' → s'.heap.PlainList s2.heap.objs.size its.toArray ∧ H' s2.heap.objs.size = none := fun {σ' H' s'} I' => by
      obtain ⟨q1, q2, _⟩ := I'.pin (s2.heap.objs.size, { cls := .type "list", data := .seq its.toArray nn }) (by simp [blk])
      exact ⟨⟨nn, q1⟩, q2⟩
    have I4p : Inv (blk X scope (vars ++ caps.map (·.2)) HP.objs.size s2 H2 fp) [(s2.heap.objs.size, { cls := .type "list", data := .seq its.toArray nn })] (vars.map (fun _ => none) ++ capV σ caps) H4 s4 :=
      I4.pins_of fun p hp => by
        have e : p = (s2.heap.objs.size, { cls := .type "list", data := .seq its.toArray nn }) := by simpa [blk] using hp
        subst e
        exact ⟨eD, nD4, DnL, Dfs, fun v z => by cases z⟩
    have fpo' : ∀ {H' : Hp}, (∀ b ∈ fp, H' b = none) → ∀ b ∈ fp, FpOk (blk X scope (vars ++ caps.map (·.2)) HP.objs.size s2 H2 fp) [(s2.heap.objs.size, { cls := .type "list", data := .seq its.toArray nn })] H' b := fun hn b hb => by
      obtain ⟨q1, q2, q3, q4, q5, _⟩ := fpo hn b hb
      exact ⟨q1, q2, q3, q4, q5, fun p hp => by
        have e : p = (s2.heap.objs.size, { cls := .type "list", data := .seq its.toArray nn }) := by simpa [blk] using hp
        subst e
        exact Dfp b hb⟩
    have unp : ∀ {pl : List (Addr × Obj)} {σ' : St} {H' : Hp} {s' : Shared}, Inv (blk X scope (vars ++ caps.map (·.2)) HP.objs.size s2 H2 fp) pl σ' H' s' → Inv (blk X scope (vars ++ caps.map (·.2)) HP.objs.size s2 H2 fp) [] σ' H' s' := fun {pl σ' H' s'} I' =>
      I'.pins_of fun p hp => absurd (show p ∈ ([] : List (Addr × Obj)) from hp) (by simp)
    rcases turn i n ys H4 w4 with ⟨stop, hz, qn⟩ | ⟨go, hz, step⟩
    · refine thn (T.done (blk X scope (vars ++ caps.map (·.2)) HP.objs.size s2 H2 fp) rfl rfl rfl hc i _ s4 _ H4 _ I4p (fpo' fr4) st4 stop) fun r s5 ⟨hr, I5⟩ => ?_
      subst hr
      obtain ⟨p5, n5⟩ := pinD I5
      obtain ⟨m5, ns5, _⟩ := I5.loc
      refine hRR _ _ s5 m5 ns5 hDC (Nat.le_refl _) hCle _ ?_ (fun h' hs' => blk_out I2 f2 hCle (Nat.le_refl _) hDC (unp I5) n5 p5 v4 hz hs') (qn _ n5)
      rw [upd_ne hDC.symm]
      exact I5.free
    · refine thn (T.item (blk X scope (vars ++ caps.map (·.2)) HP.objs.size s2 H2 fp) rfl rfl rfl hc i _ s4 _ H4 _ I4p (fpo' fr4) st4 go) fun r s5 ⟨u, hr, h5⟩ => ?_
      subst hr
      refine thn h5 fun _ s6 ⟨x, H6, I6, rx, yx, st6, fr6⟩ => ?_
      have I6p := I6.pinned (fpo' fr6) (T.obj _ _ st6)
      refine thn (hg _ _ _ _ _ s6 _ H6 x u _ I6p rx (step x H6 yx)) fun _ s7 ⟨σ7, H7, I7, kp, q7⟩ => ?_
      refine thn (he _ _ _ _ _ s7 σ7 H7 _ I7 q7) fun v s8 ⟨y, H8, I8, ry, m', hm, w8⟩ => ?_
      obtain ⟨p8, n8⟩ := pinD I8.unpinned
      have st8 : tn (i + 1) s8.heap := T.keep _ _ _ st6 fun b hb o e => (I8.pin (b, o) (List.mem_append_right _ (List.mem_append_right _ (mem_pinsAt hb e)))).1
      have fr8 : ∀ b ∈ fp, H8 b = none := fun b hb => by
        obtain ⟨o, e, d⟩ := T.obj _ _ st6 b hb
        exact (I8.pin (b, o) (List.mem_append_right _ (List.mem_append_right _ (mem_pinsAt hb e)))).2.1
      have hl := v4.length
      refine wpAny_list_append_plain p8 (fun h9 p9 sb9 => ⟨m', hm, i + 1, ys ++ [y], H8, its ++ [v], ?_, ?_, fr8, by simpa using p9, n8, v4.append (.cons ry .nil), w8⟩) (by simp; omega)
      · have I9 : Inv (blk X scope (vars ++ caps.map (·.2)) HP.objs.size s2 H2 fp) [] σ7 H8 { s8 with heap := h9, toks := s8.toks } :=
          (unp I8).turned (it := s2.heap.objs.size) (fun b o hb e => sb9.extBut b o hb e) n8 DnL (.inr (Nat.le_refl _)) DnC fun p hp => absurd (show p ∈ ([] : List (Addr × Obj)) from hp) (by simp)
        exact I9.weak kp.1 kp.2
      · exact T.keep _ _ _ st8 fun b hb o e => sb9.extBut b o (Dfp b hb).symm e
  exact codeAny_compStart_list (loop _ rfl) (T.self _ 0 _ _ _ st1 (loop _ rfl))
theorem pe_comp (B : BlkOk X.env.scope.names X.N scope vars caps) (hc : X.calm = true) (hi : PI X tg iter wi)
    (hg : ∀ C s₀ H₀ ex, PG (blk X scope (vars ++ caps.map (·.2)) C s₀ H₀ ex) tg g) (he : ∀ C s₀ H₀ ex, PE (blk X scope (vars ++ caps.map (·.2)) C s₀ H₀ ex) elt te) (hs : ∀ x, foldedSetIterable iter X.env x = pure x := by intro _; rfl) :
    PE X (.ListComp elt [⟨tg, iter, [], 0⟩] scope pos) (tComp wi g te vars caps) := by
  intro pins s σ H Q I h
  rw [eval_ListComp]
  refine wpAny_comprehension_free (use := none) rfl hs (closureFor_eq (B.cells I)) B.kind B.names ?_
  show wpAny _ _ (eval iter X.env) _ _ s
  refine thn (hi pins s σ H _ I h) fun v s1 h1 => thn h1 fun itv s2 h2 => ?_
  obtain ⟨it, fp, tn, J, H2, e, I2, T, st2, f2, W, ⟨m0, w0⟩, turn⟩ := h2
  subst e
  exact comp_block B hc hg he I2 T st2 f2 w0 turn (RR := fun acc C => compPost (model X.prog X.w) X.A X.xe none (EP X pins σ Q) acc C) fun D C s' m ns _ _ _ H' _ k q => ⟨m, ns, fun h' hs' => ⟨.ref D, H', k h' hs', rfl, q⟩⟩
end
/-! ### comprehensions by plain functions -/
def slF : Option Sl → Sl
  | some (.fz d) => .fz d
  | _ => .un
@[simp] theorem slF_fz (d : D) : slF (some (.fz d)) = .fz d := rfl
def capS (δ : Dv) (caps : List (Nat × Str)) : Dv := caps.map fun p => slF δ[p.1]?
def mapO (f : D → Option D) : List D → Option (List D)
  | [] => some []
  | d :: ds => (f d).bind fun e => (mapO f ds).bind fun es => some (e :: es)
def oComp (fi : Dv → Option (List D)) (caps : List (Nat × Str)) (bv : D → Option (List D)) (fe : Dv → Option D) : Dv → Option D := fun δ => (fi δ).bind fun ds => if ds.length ≤ sizeLine then (mapO (fun d => (bv d).bind fun vs => fe (vs.map .fz ++ capS δ caps)) ds).bind fun es => some (.list es) else none
def bv1 : D → Option (List D) := fun d => some [d]
theorem mapO_length {f : D → Option D} : ∀ {ds es : List D}, mapO f ds = some es → es.length = ds.length
  | [], es, h => by cases h; rfl
  | d :: ds, es, h => by
    obtain ⟨e, _, h⟩ := bind_some h
    obtain ⟨es', h2, h⟩ := bind_some h
    cases h
    exact congrArg (· + 1) (mapO_length h2)
theorem mapO_get {f : D → Option D} : ∀ {ds es : List D} {i : Nat} {d : D}, mapO f ds = some es → ds[i]? = some d → ∃ e, f d = some e ∧ es[i]? = some e
  | [], es, i, d, h, q => by simp at q
  | d :: ds, es, i, d', h, q => by
    obtain ⟨e, h1, h⟩ := bind_some h
    obtain ⟨es', h2, h⟩ := bind_some h
    cases h
    cases i with
    | zero => simp at q; subst q; exact ⟨e, h1, rfl⟩
    | succ i => simp at q; obtain ⟨e', g1, g2⟩ := mapO_get (i := i) h2 q; exact ⟨e', g1, by simpa using g2⟩
/-- how a target of the block binds -/
def TgOk (K : Fg) (g : TG) (n : Nat) (bv : D → Option (List D)) : Prop := ∀ (x : V) (Z : Hp) (d : D) (vs : List D) (σc : St) (H : Hp) (R : St → Hp → Prop), Rep K Z x d → Same Z H → bv d = some vs → (∀ us, Reps K Z us vs → us.length = n → R (us.map some ++ σc) H) → g x (List.replicate n none ++ σc) H R
theorem tg_one {K : Fg} : TgOk K (gName 0) 1 bv1 := fun x Z d vs σc H R r zh e k => by
  cases e
  exact k [x] (.cons r .nil) rfl
section
variable {X : Cx} {scope : Scope} {vars : List Str} {caps : List (Nat × Str)} {elt tg iter : Expr} {pos : Pos} {g : TG} {fi : Dv → Option (List D)} {fe : Dv → Option D} {bv : D → Option (List D)}
theorem capV_get {σ : St} {δ : Dv} {K : Fg} {H₀ Z₀ Z H : Hp} (hh : Hold K H₀ Z₀ Z δ σ H) : ∀ (j : Nat) d, (capS δ caps)[j]? = some (.fz d) → ∃ v, (capV σ caps)[j]? = some (some v) ∧ Rep K Z v d := fun j d e => by
  unfold capS at e
  unfold capV
  rw [List.getElem?_map] at e ⊢
  cases q : caps[j]? with
  | none => rw [q] at e; cases e
  | some p =>
    rw [q] at e
    have e : slF δ[p.1]? = .fz d := Option.some.inj e
    cases z : δ[p.1]? with
    | none => rw [z] at e; cases e
    | some sl =>
      rw [z] at e
      cases sl with
      | fz d' =>
        cases e
        obtain ⟨v, g1, g2⟩ := hh.fz p.1 _ z
        exact ⟨v, by show some ((σ[p.1]?).getD none) = _; rw [g1]; rfl, g2⟩
      | un => cases e
      | own _ => cases e
      | fr _ => cases e
theorem capS_ow {δ : Dv} : ∀ (j : Nat) ds, (capS δ caps)[j]? ≠ some (.own ds) := fun j ds e => by
  unfold capS at e
  rw [List.getElem?_map] at e
  cases q : caps[j]? with
  | none => rw [q] at e; cases e
  | some p =>
    rw [q] at e
    have e : slF δ[p.1]? = .own ds := Option.some.inj e
    cases z : δ[p.1]? with
    | none => rw [z] at e; cases e
    | some sl => rw [z] at e; cases sl <;> cases e
theorem capS_fr {δ : Dv} : ∀ (j : Nat) ds, (capS δ caps)[j]? ≠ some (.fr ds) := fun j ds e => by
  unfold capS at e
  rw [List.getElem?_map] at e
  cases q : caps[j]? with
  | none => rw [q] at e; cases e
  | some p =>
    rw [q] at e
    have e : slF δ[p.1]? = .fr ds := Option.some.inj e
    cases z : δ[p.1]? with
    | none => rw [z] at e; cases e
    | some sl => rw [z] at e; cases sl <;> cases e
/-- a block's slots hold -/
theorem blk_hold {σ : St} {δ : Dv} {K : Fg} {H₀ Z₀ Z H : Hp} (hh : Hold K H₀ Z₀ Z δ σ H) {us : List V} {vs : List D} (r : Reps K Z us vs) : Hold K H Z Z (vs.map .fz ++ capS δ caps) (us.map some ++ capV σ caps) H := by
  have hl := r.length
  refine ⟨hh.zh, Same.refl _, Same.refl _, fun _ _ => rfl, by simp [capS, capV, hl], fun i d e => ?_, fun i ds e => ?_, fun i j ds es a _ e => ?_, fun i ds e => ?_, NoF.refl _⟩
  · by_cases hi : i < vs.length
    · rw [List.getElem?_append_left (by simpa using hi), List.getElem?_map] at e
      cases q : vs[i]? with
      | none => rw [q] at e; cases e
      | some d' =>
        rw [q] at e
        cases e
        obtain ⟨v, g1, g2⟩ := r.get q
        exact ⟨v, by rw [List.getElem?_append_left (by simpa [hl] using hi), List.getElem?_map, g1]; rfl, g2⟩
    · rw [List.getElem?_append_right (by simpa using hi)] at e
      obtain ⟨v, g1, g2⟩ := capV_get hh _ d e
      refine ⟨v, ?_, g2⟩
      rw [List.getElem?_append_right (by simpa [hl] using hi)]
      simp only [List.length_map] at g1 ⊢
      rw [hl]; exact g1
  all_goals
    exfalso
    by_cases hi : i < vs.length
    · rw [List.getElem?_append_left (by simpa using hi), List.getElem?_map] at e
      cases q : vs[i]? <;> rw [q] at e <;> cases e
    · rw [List.getElem?_append_right (by simpa using hi)] at e
      first | exact capS_ow _ _ e | exact capS_fr _ _ e
theorem comp_read (tk : TgOk X.K g vars.length bv) {σ : St} {H : Hp} {Q : VK} (h : tV X.K (oComp fi caps bv fe) σ H Q) : tComp (tVI X.K fi) g (tV X.K fe) vars caps σ H Q := by
  obtain ⟨H₀, Z₀, Z, δ, d, hh, e, k⟩ := h
  obtain ⟨ds, e1, e⟩ := bind_some e
  by_cases hz : ds.length ≤ sizeLine
  · rw [if_pos hz] at e
    obtain ⟨es, e2, e⟩ := bind_some e
    cases e
    have le := mapO_length e2
    have hv : vars.map (fun _ => (none : Option V)) = List.replicate vars.length none := by rw [List.map_const']
    refine ⟨H₀, Z₀, Z, δ, ds, hh, e1, fun J Z1 H1 hh1 t1 ok => ?_⟩
    refine ⟨fun i m ys H => m = ds.length - i ∧ i ≤ ds.length ∧ ∃ Zc, Hold X.K H₀ Z₀ Zc δ σ H ∧ Same Z1 Zc ∧ Reps X.K Zc ys (es.take i), ⟨ds.length, by simp, Nat.zero_le _, Z1, hh1, Same.refl _, by simpa using .nil⟩, ?_⟩
    rintro i m ys H2 ⟨rfl, hi2, Zc, hhc, tc, rc⟩
    have zh : Same Z1 H2 := tc.trans hhc.zh
    have ly := rc.length
    rw [List.length_take] at ly
    by_cases hlt : i < ds.length
    · refine .inr ⟨ok.go i H2 zh hlt, by omega, fun x H3 y => ?_⟩
      have ed : ds[i]? = some ds[i] := by simp [hlt]
      obtain ⟨rfl, rx⟩ := ok.yld i H2 x H3 _ zh ed y
      obtain ⟨ei, f1, f2⟩ := mapO_get e2 ed
      obtain ⟨vs, f3, f1⟩ := bind_some f1
      rw [hv]
      refine tk x Zc ds[i] vs (capV σ caps) H3 _ (rx.same tc) hhc.zh f3 fun us ru hn => ⟨⟨by simp [hn], fun j v q => ?_⟩, ?_⟩
      · by_cases hj : j < vars.length
        · rw [List.getElem?_append_left (by simpa using hj), List.getElem?_replicate] at q
          split at q <;> cases q
        · rw [List.getElem?_append_right (by simpa using hj)] at q
          rw [List.getElem?_append_right (by simpa [hn] using hj)]
          simpa [hn] using q
      · refine ⟨H3, Zc, Zc, _, ei, blk_hold hhc ru, f1, fun v Z4 H4 h4 t4 r4 => ⟨ds.length - (i + 1), by omega, rfl, hlt, Z4, hhc.new ⟨t4, h4.h0, h4.zh, h4.zb, h4.nf⟩, tc.trans t4, ?_⟩⟩
        have : es.take (i + 1) = es.take i ++ [ei] := by
          rw [List.take_add_one, f2]; rfl
        rw [this]
        exact (rc.same t4).append (.cons r4 .nil)
    · have hie : i = ds.length := by omega
      subst hie
      refine .inl ⟨ok.stop _ H2 zh (Nat.le_refl _), by omega, fun p hp => ?_⟩
      rw [← le, List.take_length] at rc
      have n := New.add hhc.zh hp (.lst ys)
      exact k _ _ _ (hhc.new n) ((t1.trans tc).trans n.z) (.lst (SqL.of upd_same) (rc.same n.z))
  · rw [if_neg hz] at e; cases e
theorem ev_comp (B : BlkOk X.env.scope.names X.N scope vars caps) (hc : X.calm = true) (hi : IV X tg iter fi) (tk : TgOk X.K g vars.length bv)
    (hg : ∀ C s₀ H₀ ex, PG (blk X scope (vars ++ caps.map (·.2)) C s₀ H₀ ex) tg g) (he : ∀ C s₀ H₀ ex, EV (blk X scope (vars ++ caps.map (·.2)) C s₀ H₀ ex) elt fe) (hs : ∀ x, foldedSetIterable iter X.env x = pure x := by intro _; rfl) :
    EV X (.ListComp elt [⟨tg, iter, [], 0⟩] scope pos) (oComp fi caps bv fe) :=
  PE.imp (pe_comp (te := tV X.K fe) B hc hi hg he hs) fun _ _ _ h => comp_read tk h
end
end VL

set_option Elab.async false
set_option linter.all false
set_option maxRecDepth 100000
set_option maxHeartbeats 4000000
namespace VL
open PySem PySem.Spec PyProof.Rows L2
section
variable {X : Cx} {e : Expr} {es : List Expr} {p pos : Pos} {fs : Dv → Option (List D)}
/-- a def of the text, every argument given -/
theorem ev_def0 {k : Nat} {x : Str} {g : List D → Option D} (C : Cal X.prog X.w X.K X.mg X.base x k g []) (hr : Room k X.A) (hg : Gl X x) (ha : AV X (e :: es) fs) (hdb : (x == ("__debug__" : Str)) = false := by decide) (he : starEach (e :: es) X.env = (false, eval e X.env) :: starEach es X.env := by rfl)
    (hpl : (backTo pos (starEach es X.env)).any (·.1) = false := by rfl) : EV X (.Call (.Name x p) (e :: es) [] pos) (os fs g) := by
  have h := ev_def C hr hg ha hdb he hpl (p := p) (pos := pos)
  have e : (fun as => g (as ++ [])) = g := by funext as; rw [List.append_nil]
  rw [e] at h
  exact h
end
/-! ### lists of one's own -/
def slO : Option Sl → Option (List D)
  | some (.own (.l ds)) => some ds
  | _ => none
@[simp] theorem slO_ow (ds : List D) : slO (some (.ow ds)) = some ds := rfl
theorem slO_eq {o : Option Sl} {ds : List D} (h : slO o = some ds) : o = some (.ow ds) := by
  cases o with
  | none => cases h
  | some x =>
    cases x with
    | own c =>
      cases c with
      | l es => cases h; rfl
      | d es => cases h
    | un => cases h
    | fz d => cases h
    | fr _ => cases h
@[simp] def sOwn (i : Nat) (fs : Dv → Option (List D)) : Sf := fun δ => (fs δ).bind fun ds => if ds.length ≤ sizeLine then some (.nx, δ.set i (.ow ds)) else none
/-- x[k] of one's own -/
@[simp] def oIxO (i : Nat) (f : Dv → Option D) : Dv → Option D := fun δ => (slO δ[i]?).bind fun ds => (f δ).bind fun k => ixD (.list ds) k
@[simp] def oLenO (i : Nat) : Dv → Option D := fun δ => (slO δ[i]?).bind fun ds => some (.int ds.length)
def putD (ds : List D) (k v : D) : Option (List D) := match k with
  | .int j => (ixN ds.length j).map fun n => ds.set n v
  | _ => none
@[simp] theorem putD_int (ds : List D) (j : Int) (v : D) : putD ds (.int j) v = (ixN ds.length j).map fun n => ds.set n v := rfl
/-- x[k] = v -/
@[simp] def sPut (i : Nat) (fk fv : Dv → Option D) : Sf := fun δ => (fv δ).bind fun v => (fk δ).bind fun k => (slO δ[i]?).bind fun ds => (putD ds k v).bind fun ds' => some (.nx, δ.set i (.ow ds'))
/-- x.append(v) -/
@[simp] def sApp (i : Nat) (f : Dv → Option D) : Sf := fun δ => (f δ).bind fun v => (slO δ[i]?).bind fun ds => if ds.length < sizeLine then some (.nx, δ.set i (.ow (ds ++ [v]))) else none
section
variable {X : Cx} {e b : Expr} {es : List Expr} {p pos tpos apos : Pos} {fs : Dv → Option (List D)} {f fk fv : Dv → Option D}
theorem sv_own (i : Nat) {x : Str} {pos' : Pos} (hN : X.N.Nodup) (ha : AV X es fs) (hi : X.N[i]? = some x := by rfl) (hx : Loc X.env.scope x := by first | exact Or.inl rfl | exact Or.inr rfl) (hs : swapsWith (.List es p) (some (.Name x pos')) pos.line X.env = pure false := by rfl)
    (hf : X.fn x = true ∨ X.env.scope.names.lookup x = some .local := by first | exact .inl rfl | exact .inr rfl | assumption) : SV X (.Assign [.Name x pos'] (.List es p) pos) (sOwn i fs) :=
  PS.imp (ps_set hN hi hx (pe_lst ha) hs hf) fun D σ H h => by
    obtain ⟨H₀, Z₀, Z, δ, r, hh, e, k⟩ := h
    obtain ⟨ds, e1, e⟩ := bind_some e
    by_cases hl : ds.length ≤ sizeLine
    · rw [if_pos hl] at e
      cases e
      exact ⟨H₀, Z₀, Z, δ, ds, hh, e1, fun vs Z1 H1 hh1 t1 r1 => ⟨by rw [r1.length]; exact hl, fun p hp => k _ _ Z1 (hh1.setO hp r1) t1⟩⟩
    · rw [if_neg hl] at e; cases e
theorem ow_at {K : Fg} {H₀ Z₀ Z : Hp} {δ : Dv} {σ : St} {H : Hp} (hh : Hold K H₀ Z₀ Z δ σ H) {i : Nat} {ds : List D} (h : slO δ[i]? = some ds) : ∃ a xs, σ[i]? = some (some (V.ref a)) ∧ H a = some (.lst xs) ∧ Reps K Z xs ds := by
  obtain ⟨a, xs, h1, _, _, h4, h5⟩ := hh.ow i ds (slO_eq h)
  exact ⟨a, xs, h1, h4, h5⟩
theorem ev_ixO (i : Nat) {x : Str} (hb : EV X b f) (hs : PlainIx b) (hN : X.N[i]? = some x := by rfl) (hv : Vis X.env.scope x := by first | exact Or.inl rfl | exact Or.inr (Or.inl rfl) | exact Or.inr (Or.inr rfl)) (hd : (x == ("__debug__" : Str)) = false := by decide) (hcd : (x == ("__classdict__" : Str)) = false := by decide) :
    EV X (.Subscript (.Name x p) b pos) (oIxO i f) :=
  PE.imp (pe_ix ix_list (pe_var hN hv hd hcd) hb hs) fun σ H Q h => by
    obtain ⟨H₀, Z₀, Z, δ, d, hh, e, k⟩ := h
    obtain ⟨ds, e1, e⟩ := bind_some e
    obtain ⟨y, e2, e⟩ := bind_some e
    obtain ⟨a, xs, h1, h4, h5⟩ := ow_at hh e1
    refine ⟨_, h1, H₀, Z₀, Z, δ, y, hh, e2, fun v Z1 H1 hh1 t1 r1 => ?_⟩
    obtain ⟨a', xs', g1, g4, g5⟩ := ow_at hh1 e1
    rw [h1] at g1
    cases g1
    cases r1 with
    | int j =>
      obtain ⟨w, ew, rw'⟩ := g5.at e
      exact ⟨_, _, _, w, rfl, rfl, SqL.of g4, ew, k w Z1 H1 hh1 t1 rw'⟩
    | _ => cases e
theorem ev_lenO (i : Nat) {x : Str} {p2 : Pos} (hg : Gl X "len") (hm : X.mg "len" = none) (hN : X.N[i]? = some x := by rfl) (hv : Vis X.env.scope x := by first | exact Or.inl rfl | exact Or.inr (Or.inl rfl) | exact Or.inr (Or.inr rfl)) (hd : (x == ("__debug__" : Str)) = false := by decide) (hcd : (x == ("__classdict__" : Str)) = false := by decide)
    (he : starEach [.Name x p2] X.env = (false, eval (.Name x p2) X.env) :: starEach [] X.env := by rfl) (hpl : (backTo pos (starEach [] X.env)).any (·.1) = false := by rfl) : EV X (.Call (.Name "len" p) [.Name x p2] [] pos) (oLenO i) :=
  PE.imp (pe_callB call_len hg hm PySem.boot_len (pa_cons (pe_var hN hv hd hcd) pa_nil he) (by decide) (by decide) he hpl) fun σ H Q h => by
    obtain ⟨H₀, Z₀, Z, δ, d, hh, e, k⟩ := h
    obtain ⟨ds, e1, e⟩ := bind_some e
    cases e
    obtain ⟨a, xs, h1, h4, h5⟩ := ow_at hh e1
    exact ⟨_, h1, _, _, rfl, .inl ⟨xs, SqL.of h4, rfl⟩, k _ Z H hh (Same.refl _) (by rw [h5.length]; exact .int _)⟩
theorem sv_app (i : Nat) {x : Str} {cpos : Pos} (hv' : EV X e f) (hN : X.N[i]? = some x := by rfl) (hv : Vis X.env.scope x := by first | exact Or.inl rfl | exact Or.inr (Or.inl rfl) | exact Or.inr (Or.inr rfl)) (hd : (x == ("__debug__" : Str)) = false := by decide) (hcd : (x == ("__classdict__" : Str)) = false := by decide)
    (hbase : attributeBase (.Name x p) "append" X.env (eval (.Name x p) X.env) = eval (.Name x p) X.env := by rfl)
    (hfew : ((backTo cpos (starEach [e] X.env)).all (fun x => !x.1) && (backToKw cpos (keywordEach [] X.env)).all (fun x => x.1.isSome)
      && decide ([e].length + ([] : List Keyword).length + (if ([] : List Keyword).isEmpty then 0 else 1) < 30)) = true := by rfl)
    (hline : (apos.endLine == cpos.line) = true := by rfl) (hs : starEach [e] X.env = (false, eval e X.env) :: starEach [] X.env := by rfl) (hplain : (backTo cpos (starEach [] X.env)).any (·.1) = false := by rfl)
    (hsw : swapsWith (.Call (.Attribute (.Name x p) "append" apos) [e] [] cpos) none pos.line X.env = pure false := by rfl) : SV X (.Expr (.Call (.Attribute (.Name x p) "append" apos) [e] [] cpos) pos) (sApp i f) :=
  PS.imp (ps_expr (pe_bm PySem.F.plainAttrs_list PySem.F.slot_list_append PySem.F.type_list_append mt_append (pe_var hN hv hd hcd) (pa_cons hv' pa_nil hs) hbase hfew hline hs hplain) hsw) fun D σ H h => by
    obtain ⟨H₀, Z₀, Z, δ, r, hh, e, k⟩ := h
    obtain ⟨v, e1, e⟩ := bind_some e
    obtain ⟨ds, e2, e⟩ := bind_some e
    by_cases hl : ds.length < sizeLine
    · rw [if_pos hl] at e
      cases e
      obtain ⟨a, xs, h1, h4, h5⟩ := ow_at hh e2
      refine ⟨_, h1, .inl ⟨rfl, xs, SqL.of h4⟩, H₀, Z₀, Z, δ, v, hh, e1, fun w Z1 H1 hh1 t1 r1 => ?_⟩
      obtain ⟨a', xs', g1, g4, g5⟩ := ow_at hh1 e2
      rw [h1] at g1
      cases g1
      exact ⟨a, xs', w, rfl, rfl, g4, by rw [g5.length]; exact hl, k σ _ Z1 (hh1.chg (xs := xs') (slO_eq e2) h1 (g5.append (.cons r1 .nil))) t1⟩
    · rw [if_neg hl] at e; cases e
end
end VL

set_option Elab.async false
set_option linter.all false
set_option maxRecDepth 100000
set_option maxHeartbeats 4000000
namespace VL
open PySem PySem.Spec PyProof.Rows L2
/-! ### comprehensions with a test -/
section
def tCompI (wi : TI) (g : TG) (tt : TT) (te : TE) (vars : List Str) (caps : List (Nat × Str)) : TE := fun σ H Q => wi σ H fun J H1 => ∃ W : Nat → Nat → List V → Hp → Prop, (∃ m, W 0 m [] H1) ∧ ∀ i m ys H, W i m ys H →
  (J.stop i H ∧ ys.length ≤ sizeLine ∧ ∀ p, H p = none → Q (.ref p) (upd H p (.lst ys))) ∨
  (J.go i H ∧ ys.length < sizeLine ∧ ∀ x H', J.yld i H x H' → g x (vars.map (fun _ => none) ++ capV σ caps) H' fun σ2 H2 => KeepS (vars.map (fun _ => none) ++ capV σ caps) σ2 ∧ tt σ2 H2 fun b H3 => if b = true then te σ2 H3 fun y H4 => ∃ m', m' < m ∧ W (i + 1) m' (ys ++ [y]) H4 else ∃ m', m' < m ∧ W (i + 1) m' ys H3)
theorem codeAny_comp_goI {prog : Program} {w : World} {A : Around} {R : Result → Shared → Prop} {s : Shared} {elt target iter cnd : Expr} {scope : Scope} {pos : Pos} {it acc : Value} {env : Env} (I : Nat → Shared → Prop)
    (turn : ∀ n s, I n s → wpAny (model prog w) A (pyNext it) (fun r s₁ => match r with
      | none => R (.ok .next) s₁
      | some v => wpAny (model prog w) A (letOwnedTupleGo target it v) (fun _ s₁ => wpAny (model prog w) A (assign target env v) (fun _ s₂ => wpAny (model prog w) A (isTrue cnd env (eval cnd env)) (fun ok s₂ => if ok = true then wpAny (model prog w) A (eval elt env) (fun x s₃ =>
          wpAny (model prog w) A (call (.builtin "list.append") [acc, x]) (fun _ s₄ => ∃ m, m < n ∧ I m s₄) (fun _ _ => False) s₃) (fun _ _ => False) s₂ else ∃ m, m < n ∧ I m s₂) (fun _ _ => False) s₂) (fun _ _ => False) s₁) (fun _ _ => False) s₁) (fun _ _ => False) s)
    (n : Nat) (h : I n s) : codeAny (model prog w) A (.compLoop (.ListComp elt [⟨target, iter, [cnd], 0⟩] scope pos) 0 it acc env) R s := by
  refine codeAny_loop rfl I (fun n s hI => ?_) n h
  show wpAny _ _ ((compTurn (.ListComp elt [⟨target, iter, [cnd], 0⟩] scope pos) 0 it acc env).onRaise (fun x => do noteFrame x env; theTreesLotGoes x)) _ _ s
  refine wpAny_noted ?_
  rw [compTurn_list]
  refine wpAny_bind (wpAny_standAt (wpAny_bind (wpAny_mono (turn n s hI) (fun r s₁ h₁ => ?_) fun _ _ h' => h'.elim)))
  cases r with
  | none => exact wpAny_pure h₁
  | some v =>
    refine wpAny_bind (wpAny_mono h₁ (fun _ s₁ h₁ => ?_) fun _ _ h' => h'.elim)
    refine wpAny_bind (wpAny_mono h₁ (fun _ s₂ h₂ => ?_) fun _ _ h' => h'.elim)
    refine wpAny_bind (wpAny_tests_one (wpAny_mono h₂ (fun okb s₃ h₃ => ?_) fun _ _ h' => h'.elim))
    cases okb with
    | false => exact wpAny_pure ⟨rfl, h₃⟩
    | true => exact wpAny_bind (wpAny_bind (wpAny_mono h₃ (fun x s₄ h₄ => wpAny_bind (wpAny_mono h₄ (fun _ s₅ h₅ => wpAny_pure (wpAny_pure ⟨rfl, h₅⟩)) fun _ _ h' => h'.elim)) fun _ _ h' => h'.elim))
end
section
variable {X : Cx} {scope : Scope} {vars : List Str} {caps : List (Nat × Str)} {elt tg iter cnd : Expr} {pos : Pos} {wi : TI} {g : TG} {tt : TT} {te : TE}
/-- the walk of the block -/
theorem comp_blockI {Cm : Cx → Prop} (B : BlkOk X.env.scope.names X.N scope vars caps)
    (hg : ∀ C s₀ H₀ ex, PG (blk X scope (vars ++ caps.map (·.2)) C s₀ H₀ ex) tg g) (hb : ∀ C s₀ H₀ ex, PT (blk X scope (vars ++ caps.map (·.2)) C s₀ H₀ ex) cnd tt) (he : ∀ C s₀ H₀ ex, PE (blk X scope (vars ++ caps.map (·.2)) C s₀ H₀ ex) elt te)
    {pins : List (Addr × Obj)} {σ : St} {H2 : Hp} {s2 : Shared} {Q : VK} {it : Addr} {fp : List Addr} {tn : Nat → Heap → Prop} {J : It} (I2 : Inv X pins σ H2 s2) (T : TurnG Cm X.prog X.w X.K tg J fp it tn) (st2 : tn 0 s2.heap) (f2 : ∀ b ∈ fp, FpOk X pins H2 b) (hc : ∀ C, Cm (blk X scope (vars ++ caps.map (·.2)) C s2 H2 fp))
    {W : Nat → Nat → List V → Hp → Prop} {m0 : Nat} (w0 : W 0 m0 [] H2) (turn : ∀ i m ys H, W i m ys H →
      (J.stop i H ∧ ys.length ≤ sizeLine ∧ ∀ p, H p = none → Q (.ref p) (upd H p (.lst ys))) ∨
      (J.go i H ∧ ys.length < sizeLine ∧ ∀ x H', J.yld i H x H' → g x (vars.map (fun _ => none) ++ capV σ caps) H' fun σ2 H2 => KeepS (vars.map (fun _ => none) ++ capV σ caps) σ2 ∧ tt σ2 H2 fun b H3 => if b = true then te σ2 H3 fun y H4 => ∃ m', m' < m ∧ W (i + 1) m' (ys ++ [y]) H4 else ∃ m', m' < m ∧ W (i + 1) m' ys H3))
    {RR : Value → Addr → Result → Shared → Prop} {E : Value → Shared → Prop}
    (hRR : ∀ D C s' m, s'.heap.Ns C m → D ≠ C → s2.heap.objs.size ≤ D → s2.heap.objs.size ≤ C → ∀ H', H' C = none → (∀ h', Heap.SameBut C s'.heap h' → Inv X pins σ H' { s' with heap := h' }) → Q (.ref D) H' → RR (.ref D) C (.ok .next) s') :
    wpAny (model X.prog X.w) X.A (newList []) (fun acc s₃ => wpAny (model X.prog X.w) X.A (newFunctionEnv scope X.env.globals (clos X.env scope.names []) [] X.env.qual none .none (some X.env)) (fun cenv s₄ =>
      codeAny (model X.prog X.w) X.A (.compStart (.ListComp elt [⟨tg, iter, [cnd], 0⟩] scope pos) 0 (.ref it) acc { cenv with scope := relabel scope X.env }) (RR acc cenv.locals) s₄) E s₃) E s2 := by
  refine wpAny_newObj_type (wpAny_newFunctionEnv B.cell (by intro y hy; simp at hy) (fun h₁ hns₁ hsb₁ => ?_) B.kind)
  dsimp only at hns₁ hsb₁ ⊢
  generalize hP : s2.heap.push { cls := .type "list", dict := none, data := .seq ([] : List Value).toArray } = HP at hns₁ hsb₁ ⊢
  have hCs : HP.objs.size = s2.heap.objs.size + 1 := by rw [← hP, Heap.size_push]
  have hDC : s2.heap.objs.size ≠ HP.objs.size := by rw [hCs]; exact Nat.ne_of_lt (Nat.lt_succ_self _)
  have hCle : s2.heap.objs.size ≤ HP.objs.size := by rw [hCs]; exact Nat.le_succ _
  have old : ∀ b o, s2.heap.get? b = some o → h₁.get? b = some o := fun b o e => hsb₁.extBut b o (Nat.ne_of_lt (Nat.lt_of_lt_of_le (Heap.lt_size e) hCle)) (Heap.get?_push_of_some _ (hP ▸ Heap.get?_push_of_some _ e))
  have hacc : h₁.PlainList s2.heap.objs.size #[] := ⟨_, hsb₁.extBut _ _ hDC (Heap.get?_push_of_some _ (hP ▸ Heap.get?_push_size _ rfl))⟩
  have flt : ∀ b ∈ fp, b < s2.heap.objs.size := fun b hb => by
    obtain ⟨o, e, _⟩ := T.obj _ _ st2 b hb
    exact Heap.lt_size e
  have st1 : tn 0 h₁ := T.keep _ _ _ st2 fun b _ o e => old b o e
  -- the loop
  have loop : ∀ s3 : Shared, s3 = { s2 with heap := h₁, toks := s2.toks + ([] : List (Str × Value)).length } →
      codeAny (model X.prog X.w) X.A (.compLoop (.ListComp elt [⟨tg, iter, [cnd], 0⟩] scope pos) 0 (.ref it) (.ref s2.heap.objs.size) (compEnvC scope (clos X.env scope.names []) HP.objs.size X.env))
        (RR (.ref s2.heap.objs.size) HP.objs.size) s3 := by
    rintro s3 rfl
    have X' := blk X scope (vars ++ caps.map (·.2)) HP.objs.size s2 H2 fp
    have fpo : ∀ {H' : Hp}, (∀ b ∈ fp, H' b = none) → ∀ b ∈ fp, FpOk (blk X scope (vars ++ caps.map (·.2)) HP.objs.size s2 H2 fp) [] H' b := fun hn b hb => by
      have ok := blk_ok B I2 f2 flt hCle
      exact ⟨hn b hb, (ok.exf b hb).1, ok.exfs b hb, .inl hb, (ok.exf b hb).2, fun p hp => absurd (show p ∈ ([] : List (Addr × Obj)) from hp) (by simp)⟩
    refine codeAny_comp_goI (fun n s => ∃ i ys H its, Inv (blk X scope (vars ++ caps.map (·.2)) HP.objs.size s2 H2 fp) [] (vars.map (fun _ => none) ++ capV σ caps) H s ∧ tn i s.heap ∧ (∀ b ∈ fp, H b = none) ∧ s.heap.PlainList s2.heap.objs.size (List.toArray its) ∧ H s2.heap.objs.size = none ∧ Vals ys its ∧ W i n ys H) ?_ m0
      ⟨0, [], H2, [], blk_inv B I2 f2 flt hCle hns₁ old, st1, fun b hb => (f2 b hb).1, hacc, I2.hok.fresh (Nat.le_refl _), .nil, w0⟩
    rintro n s4 ⟨i, ys, H4, its, I4, st4, fr4, pl4, nD4, v4, w4⟩
    obtain ⟨nn, eD⟩ := id pl4
    have DnL : s2.heap.objs.size ≠ (blk X scope (vars ++ caps.map (·.2)) HP.objs.size s2 H2 fp).env.locals := hDC
    have Dfs : s2.heap.objs.size ∉ (blk X scope (vars ++ caps.map (·.2)) HP.objs.size s2 H2 fp).fs := fun z => by
      rcases List.mem_cons.mp (I2.stkSub _ z) with q | q
      · have := I2.lt; rw [← q] at this; exact Nat.lt_irrefl _ this
      · exact I2.nofs (Nat.le_refl _) q
    have Dfp : ∀ b ∈ fp, s2.heap.objs.size ≠ b := fun b hb z => by have := flt b hb; rw [← z] at this; exact Nat.lt_irrefl _ this
    have DnC : ∀ x c, (blk X scope (vars ++ caps.map (·.2)) HP.objs.size s2 H2 fp).env.cells.lookup x = some c → c ≠ s2.heap.objs.size := fun x c e z => by
      rcases clos_lookup _ _ _ _ (B.cells I2) e with q | q
      · cases q
      · obtain ⟨v, o, ho, _⟩ := I2.cell x c q
        have := Heap.lt_size ho
        rw [z] at this
        exact Nat.lt_irrefl _ this
    have pinD : ∀ {σ' : St} {H' : Hp} {s' : Shared}, Inv (blk X scope (vars ++ caps.map (·.2)) HP.objs.size s2 H2 fp) [(s2.heap.objs.size, { cls := .type "list", data := .seq its.toArray nn })] σ' H' s' → s'.heap.PlainList s2.heap.objs.size its.toArray ∧ H' s2.heap.objs.size = none := fun {σ' H' s'} I' => by
      obtain ⟨q1, q2, _⟩ := I'.pin (s2.heap.objs.size, { cls := .type "list", data := .seq its.toArray nn }) (by simp [blk])
      exact ⟨⟨nn, q1⟩, q2⟩
    have I4p : Inv (blk X scope (vars ++ caps.map (·.2)) HP.objs.size s2 H2 fp) [(s2.heap.objs.size, { cls := .type "list", data := .seq its.toArray nn })] (vars.map (fun _ => none) ++ capV σ caps) H4 s4 :=
      I4.pins_of fun p hp => by
        have e : p = (s2.heap.objs.size, { cls := .type "list", data := .seq its.toArray nn }) := by simpa [blk] using hp
        subst e
        exact ⟨eD, nD4, DnL, Dfs, fun v z => by cases z⟩
    have fpo' : ∀ {H' : Hp}, (∀ b ∈ fp, H' b = none) → ∀ b ∈ fp, FpOk (blk X scope (vars ++ caps.map (·.2)) HP.objs.size s2 H2 fp) [(s2.heap.objs.size, { cls := .type "list", data := .seq its.toArray nn })] H' b := fun hn b hb => by
      obtain ⟨q1, q2, q3, q4, q5, _⟩ := fpo hn b hb
      exact ⟨q1, q2, q3, q4, q5, fun p hp => by
        have e : p = (s2.heap.objs.size, { cls := .type "list", data := .seq its.toArray nn }) := by simpa [blk] using hp
        subst e
        exact Dfp b hb⟩
    have unp : ∀ {pl : List (Addr × Obj)} {σ' : St} {H' : Hp} {s' : Shared}, Inv (blk X scope (vars ++ caps.map (·.2)) HP.objs.size s2 H2 fp) pl σ' H' s' → Inv (blk X scope (vars ++ caps.map (·.2)) HP.objs.size s2 H2 fp) [] σ' H' s' := fun {pl σ' H' s'} I' =>
      I'.pins_of fun p hp => absurd (show p ∈ ([] : List (Addr × Obj)) from hp) (by simp)
    rcases turn i n ys H4 w4 with ⟨stop, hz, qn⟩ | ⟨go, hz, step⟩
    · refine thn (T.done (blk X scope (vars ++ caps.map (·.2)) HP.objs.size s2 H2 fp) rfl rfl rfl (hc _) i _ s4 _ H4 _ I4p (fpo' fr4) st4 stop) fun r s5 ⟨hr, I5⟩ => ?_
      subst hr
      obtain ⟨p5, n5⟩ := pinD I5
      obtain ⟨m5, ns5, _⟩ := I5.loc
      refine hRR _ _ s5 m5 ns5 hDC (Nat.le_refl _) hCle _ ?_ (fun h' hs' => blk_out I2 f2 hCle (Nat.le_refl _) hDC (unp I5) n5 p5 v4 hz hs') (qn _ n5)
      rw [upd_ne hDC.symm]
      exact I5.free
    · refine thn (T.item (blk X scope (vars ++ caps.map (·.2)) HP.objs.size s2 H2 fp) rfl rfl rfl (hc _) i _ s4 _ H4 _ I4p (fpo' fr4) st4 go) fun r s5 ⟨u, hr, h5⟩ => ?_
      subst hr
      refine thn h5 fun _ s6 ⟨x, H6, I6, rx, yx, st6, fr6⟩ => ?_
      have I6p := I6.pinned (fpo' fr6) (T.obj _ _ st6)
      refine thn (hg _ _ _ _ _ s6 _ H6 x u _ I6p rx (step x H6 yx)) fun _ s7 ⟨σ7, H7, I7, kp, q7⟩ => ?_
      refine thn (hb _ _ _ _ _ s7 σ7 H7 _ I7 q7) fun okb s7' q7' => ?_
      obtain ⟨H7', I7', q7'⟩ := q7'
      cases okb with
      | false =>
        obtain ⟨m', hm, w8⟩ := q7'
        rw [if_neg (by decide)]
        obtain ⟨p8, n8⟩ := pinD I7'.unpinned
        have st8 : tn (i + 1) s7'.heap := T.keep _ _ _ st6 fun b hb o e => (I7'.pin (b, o) (List.mem_append_right _ (List.mem_append_right _ (mem_pinsAt hb e)))).1
        have fr8 : ∀ b ∈ fp, H7' b = none := fun b hb => by
          obtain ⟨o, e, d⟩ := T.obj _ _ st6 b hb
          exact (I7'.pin (b, o) (List.mem_append_right _ (List.mem_append_right _ (mem_pinsAt hb e)))).2.1
        exact ⟨m', hm, i + 1, ys, H7', its, (unp I7').weak kp.1 kp.2, st8, fr8, p8, n8, v4, w8⟩
      | true =>
      rw [if_pos rfl]
      rw [if_pos rfl] at q7'
      refine thn (he _ _ _ _ _ s7' σ7 H7' _ I7' q7') fun v s8 ⟨y, H8, I8, ry, m', hm, w8⟩ => ?_
      obtain ⟨p8, n8⟩ := pinD I8.unpinned
      have st8 : tn (i + 1) s8.heap := T.keep _ _ _ st6 fun b hb o e => (I8.pin (b, o) (List.mem_append_right _ (List.mem_append_right _ (mem_pinsAt hb e)))).1
      have fr8 : ∀ b ∈ fp, H8 b = none := fun b hb => by
        obtain ⟨o, e, d⟩ := T.obj _ _ st6 b hb
        exact (I8.pin (b, o) (List.mem_append_right _ (List.mem_append_right _ (mem_pinsAt hb e)))).2.1
      have hl := v4.length
      refine wpAny_list_append_plain p8 (fun h9 p9 sb9 => ⟨m', hm, i + 1, ys ++ [y], H8, its ++ [v], ?_, ?_, fr8, by simpa using p9, n8, v4.append (.cons ry .nil), w8⟩) (by simp; omega)
      · have I9 : Inv (blk X scope (vars ++ caps.map (·.2)) HP.objs.size s2 H2 fp) [] σ7 H8 { s8 with heap := h9, toks := s8.toks } :=
          (unp I8).turned (it := s2.heap.objs.size) (fun b o hb e => sb9.extBut b o hb e) n8 DnL (.inr (Nat.le_refl _)) DnC fun p hp => absurd (show p ∈ ([] : List (Addr × Obj)) from hp) (by simp)
        exact I9.weak kp.1 kp.2
      · exact T.keep _ _ _ st8 fun b hb o e => sb9.extBut b o (Dfp b hb).symm e
  exact codeAny_compStart_list (loop _ rfl) (T.self _ 0 _ _ _ st1 (loop _ rfl))
theorem pe_compI (B : BlkOk X.env.scope.names X.N scope vars caps) (hc : X.calm = true) (hi : PI X tg iter wi)
    (hg : ∀ C s₀ H₀ ex, PG (blk X scope (vars ++ caps.map (·.2)) C s₀ H₀ ex) tg g) (hb : ∀ C s₀ H₀ ex, PT (blk X scope (vars ++ caps.map (·.2)) C s₀ H₀ ex) cnd tt) (he : ∀ C s₀ H₀ ex, PE (blk X scope (vars ++ caps.map (·.2)) C s₀ H₀ ex) elt te) (hs : ∀ x, foldedSetIterable iter X.env x = pure x := by intro _; rfl) :
    PE X (.ListComp elt [⟨tg, iter, [cnd], 0⟩] scope pos) (tCompI wi g tt te vars caps) := by
  intro pins s σ H Q I h
  rw [eval_ListComp]
  refine wpAny_comprehension_free (use := none) rfl hs (closureFor_eq (B.cells I)) B.kind B.names ?_
  show wpAny _ _ (eval iter X.env) _ _ s
  refine thn (hi pins s σ H _ I h) fun v s1 h1 => thn h1 fun itv s2 h2 => ?_
  obtain ⟨it, fp, tn, J, H2, e, I2, T, st2, f2, W, ⟨m0, w0⟩, turn⟩ := h2
  subst e
  exact comp_blockI (Cm := fun X => X.calm = true) B hg hb he I2 T st2 f2 (fun _ => hc) w0 turn (RR := fun acc C => compPost (model X.prog X.w) X.A X.xe none (EP X pins σ Q) acc C) fun D C s' m ns _ _ _ H' _ k q => ⟨m, ns, fun h' hs' => ⟨.ref D, H', k h' hs', rfl, q⟩⟩
/-- y = [..]: the store is exchanged with the block's own names -/
theorem ps_compI {i : Nat} {y : Str} {py spos : Pos} (B : BlkOk X.env.scope.names X.N scope vars caps) (hc : X.calm = true) (hi : PI X tg iter wi)
    (hg : ∀ C s₀ H₀ ex, PG (blk X scope (vars ++ caps.map (·.2)) C s₀ H₀ ex) tg g) (hb : ∀ C s₀ H₀ ex, PT (blk X scope (vars ++ caps.map (·.2)) C s₀ H₀ ex) cnd tt) (he : ∀ C s₀ H₀ ex, PE (blk X scope (vars ++ caps.map (·.2)) C s₀ H₀ ex) elt te)
    (hN : X.N.Nodup) (hy : X.N[i]? = some y) (hx : Loc X.env.scope y) (hsw : swapsWith (.ListComp elt [⟨tg, iter, [cnd], 0⟩] scope pos) (some (.Name y py)) spos.line X.env = pure true)
    (hf : X.fn y = true ∨ X.env.scope.names.lookup y = some .local) (hs : ∀ x, foldedSetIterable iter X.env x = pure x := by intro _; rfl) :
    PS X (.Assign [.Name y py] (.ListComp elt [⟨tg, iter, [cnd], 0⟩] scope pos) spos) (fun D σ H => tCompI wi g tt te vars caps σ H fun v H1 => D.nx (σ.set i (some v)) H1) := by
  intro pins s σ H DE I h
  rw [exec_Assign_Name_used _ _ _ _ hsw]
  refine wpAny_bind (wpAny_standAt (wpAny_bind ?_))
  show wpAny _ X.A (do let _ ← comprehension (.ListComp elt [⟨tg, iter, [cnd], 0⟩] scope pos) scope X.env _ (newList []) false (eval iter X.env) (some (assign (.Name y py) X.env))) _ _ s
  refine wpAny_bind (wpAny_mono (wpAny_comprehension_free (use := some (assign (.Name y py) X.env)) (Q := fun _ s' => SP X pins DE .next s') rfl hs (closureFor_eq (B.cells I)) B.kind B.names
    (thn (hi pins s σ H _ I h) fun v s1 h1 => thn h1 fun itv s2 h2 => ?_)) (fun _ s' hq => wpAny_pure (wpAny_pure hq)) fun _ _ e => e)
  obtain ⟨it, fp, tn, J, H2, e, I2, T, st2, f2, W, ⟨m0, w0⟩, turn⟩ := h2
  subst e
  refine comp_blockI (Cm := fun X => X.calm = true) (Q := fun v H1 => DE.nx (σ.set i (some v)) H1) B hg hb he I2 T st2 f2 (fun _ => hc) w0 turn (RR := fun acc C => compPost (model X.prog X.w) X.A X.xe (some (assign (.Name y py) X.env)) (fun _ s' => SP X pins DE .next s') acc C) ?_
  intro D C s' m ns hDC hD hC H' hHC k q
  obtain ⟨oC, es, ep, eC, dC, rC⟩ := ns
  have I' : Inv X pins σ H' s' := k s'.heap (Heap.SameBut.refl ..)
  have nL : C ≠ X.env.locals := fun z => by have := I2.lt; rw [← z] at this; exact absurd (Nat.lt_of_lt_of_le this hC) (Nat.lt_irrefl _)
  have nF : C ∉ X.fs := I2.nofs hC
  have nCell : ∀ x c, X.env.cells.lookup x = some c → c ≠ C := fun x c e z => by
    obtain ⟨v, o, ho, _⟩ := I2.cell x c e
    have := Heap.lt_size ho
    rw [z] at this
    exact absurd (Nat.lt_of_lt_of_le this hC) (Nat.lt_irrefl _)
  have nPin : ∀ p ∈ X.pn ++ pins, p.1 ≠ C := fun p hp z => by
    have := Heap.lt_size (I2.pin p hp).1
    rw [z] at this
    exact absurd (Nat.lt_of_lt_of_le this hC) (Nat.lt_irrefl _)
  have Ip : Inv X (pins ++ [(C, oC)]) σ H' s' := I'.pins_of fun p hp => by
    rcases List.mem_append.mp hp with z | z
    · exact I'.pin p (List.mem_append_right _ z)
    · have e : p = (C, oC) := by simpa using z
      subst e
      exact ⟨eC, hHC, nL, nF, fun v z => by rw [dC] at z; cases z⟩
  refine thn (pg_name (pos := py) hN hy hx hf _ s' σ H' (.ref D) (.ref D) (fun σ' H'' => σ' = σ.set i (some (.ref D)) ∧ H'' = H' ∧ DE.nx σ' H'') Ip rfl ⟨rfl, rfl, q⟩) fun _ s'' ⟨σ'', H'', I'', e1, e2, q''⟩ => ?_
  subst e1 e2
  have eC'' : s''.heap.get? C = some oC := (I''.pin (C, oC) (List.mem_append_right _ (List.mem_append_right _ (by simp)))).1
  refine ⟨m, ⟨oC, es, ep, eC'', dC, rC⟩, fun h' hs' => ⟨_, H'', ?_, q''⟩⟩
  exact I''.unpinned.turned (t' := s''.toks) (it := C) (fun b o hb e => hs'.extBut b o hb e) hHC nL (.inr (Nat.le_trans I2.sz hC)) nCell nPin
end
/-! ### by plain functions -/
def filO (t : D → Option Bool) (f : D → Option D) : List D → Option (List D)
  | [] => some []
  | d :: ds => (t d).bind fun b => if b = true then (f d).bind fun e => (filO t f ds).bind fun es => some (e :: es) else filO t f ds
@[simp] theorem filO_nil {t : D → Option Bool} {f : D → Option D} : filO t f [] = some [] := rfl
def oCompI (fi : Dv → Option (List D)) (caps : List (Nat × Str)) (bv : D → Option (List D)) (ft : Dv → Option Bool) (fe : Dv → Option D) : Dv → Option D := fun δ => (fi δ).bind fun ds => if ds.length ≤ sizeLine then (filO (fun d => (bv d).bind fun vs => ft (vs.map .fz ++ capS δ caps)) (fun d => (bv d).bind fun vs => fe (vs.map .fz ++ capS δ caps)) ds).bind fun es => some (.list es) else none
theorem filO_snoc {t : D → Option Bool} {f : D → Option D} : ∀ {ds es : List D} {i : Nat} {d : D}, filO t f ds = some es → ds[i]? = some d → ∃ xs, filO t f (ds.take i) = some xs ∧ ∃ b, t d = some b ∧ (b = false → filO t f (ds.take (i + 1)) = some xs) ∧ (b = true → ∃ e, f d = some e ∧ filO t f (ds.take (i + 1)) = some (xs ++ [e]))
  | [], es, i, d, h, q => by simp at q
  | d :: ds, es, i, d', h, q => by
    obtain ⟨b, h1, h⟩ := bind_some h
    cases i with
    | zero =>
      simp at q; subst q
      refine ⟨[], rfl, b, h1, fun hb => ?_, fun hb => ?_⟩
      · subst hb; simp [filO, h1]
      · subst hb
        rw [if_pos rfl] at h
        obtain ⟨e, h2, h⟩ := bind_some h
        exact ⟨e, h2, by simp [filO, h1, h2]⟩
    | succ i =>
      simp at q
      cases b with
      | false =>
        rw [if_neg (by decide)] at h
        obtain ⟨xs, g1, b', g2, g3, g4⟩ := filO_snoc (i := i) h q
        refine ⟨xs, by simp [filO, h1, g1], b', g2, fun hb => by simpa [filO, h1] using g3 hb, fun hb => ?_⟩
        obtain ⟨e, k1, k2⟩ := g4 hb
        exact ⟨e, k1, by simpa [filO, h1] using k2⟩
      | true =>
        rw [if_pos rfl] at h
        obtain ⟨e0, h2, h⟩ := bind_some h
        obtain ⟨es', h3, h⟩ := bind_some h
        obtain ⟨xs, g1, b', g2, g3, g4⟩ := filO_snoc (i := i) h3 q
        refine ⟨e0 :: xs, by simp [filO, h1, h2, g1], b', g2, fun hb => by simp [filO, h1, h2, g3 hb], fun hb => ?_⟩
        obtain ⟨e, k1, k2⟩ := g4 hb
        exact ⟨e, k1, by simp [filO, h1, h2, k2]⟩
theorem filO_le {t : D → Option Bool} {f : D → Option D} : ∀ {ds es : List D}, filO t f ds = some es → es.length ≤ ds.length
  | [], es, h => by cases h; exact Nat.le_refl _
  | d :: ds, es, h => by
    obtain ⟨b, h1, h⟩ := bind_some h
    cases b with
    | false => rw [if_neg (by decide)] at h; exact Nat.le_succ_of_le (filO_le h)
    | true =>
      rw [if_pos rfl] at h
      obtain ⟨e0, h2, h⟩ := bind_some h
      obtain ⟨es', h3, h⟩ := bind_some h
      cases h
      exact Nat.succ_le_succ (filO_le h3)
section
variable {X : Cx} {scope : Scope} {vars : List Str} {caps : List (Nat × Str)} {elt tg iter cnd : Expr} {pos : Pos} {g : TG} {fi : Dv → Option (List D)} {ft : Dv → Option Bool} {fe : Dv → Option D} {bv : D → Option (List D)}
theorem comp_readI (tk : TgOk X.K g vars.length bv) {σ : St} {H : Hp} {Q : VK} (h : tV X.K (oCompI fi caps bv ft fe) σ H Q) : tCompI (tVI X.K fi) g (tVT X.K ft) (tV X.K fe) vars caps σ H Q := by
  obtain ⟨H₀, Z₀, Z, δ, d, hh, e, k⟩ := h
  obtain ⟨ds, e1, e⟩ := bind_some e
  by_cases hz : ds.length ≤ sizeLine
  · rw [if_pos hz] at e
    obtain ⟨es, e2, e⟩ := bind_some e
    cases e
    have hv : vars.map (fun _ => (none : Option V)) = List.replicate vars.length none := by rw [List.map_const']
    refine ⟨H₀, Z₀, Z, δ, ds, hh, e1, fun J Z1 H1 hh1 t1 ok => ?_⟩
    refine ⟨fun i m ys H => m = ds.length - i ∧ i ≤ ds.length ∧ ∃ Zc xs, Hold X.K H₀ Z₀ Zc δ σ H ∧ Same Z1 Zc ∧ filO (fun d => (bv d).bind fun vs => ft (vs.map .fz ++ capS δ caps)) (fun d => (bv d).bind fun vs => fe (vs.map .fz ++ capS δ caps)) (ds.take i) = some xs ∧ Reps X.K Zc ys xs, ⟨ds.length, by simp, Nat.zero_le _, Z1, [], hh1, Same.refl _, rfl, .nil⟩, ?_⟩
    rintro i m ys H2 ⟨rfl, hi2, Zc, xs, hhc, tc, fx, rc⟩
    have zh : Same Z1 H2 := tc.trans hhc.zh
    have ly := rc.length
    have lx := filO_le fx
    rw [List.length_take] at lx
    by_cases hlt : i < ds.length
    · refine .inr ⟨ok.go i H2 zh hlt, by omega, fun x H3 y => ?_⟩
      have ed : ds[i]? = some ds[i] := by simp [hlt]
      obtain ⟨rfl, rx⟩ := ok.yld i H2 x H3 _ zh ed y
      obtain ⟨xs', f0, b, fb, ff, ftr⟩ := filO_snoc e2 ed
      rw [fx] at f0
      cases f0
      obtain ⟨vs, f3, f1⟩ := bind_some fb
      rw [hv]
      refine tk x Zc ds[i] vs (capV σ caps) H3 _ (rx.same tc) hhc.zh f3 fun us ru hn => ⟨⟨by simp [hn], fun j v q => ?_⟩, ?_⟩
      · by_cases hj : j < vars.length
        · rw [List.getElem?_append_left (by simpa using hj), List.getElem?_replicate] at q
          split at q <;> cases q
        · rw [List.getElem?_append_right (by simpa using hj)] at q
          rw [List.getElem?_append_right (by simpa [hn] using hj)]
          simpa [hn] using q
      · refine ⟨H3, Zc, Zc, _, b, blk_hold hhc ru, f1, fun Z3 H3' h3 t3 => ?_⟩
        have hh3 := hhc.new ⟨t3, h3.h0, h3.zh, h3.zb, h3.nf⟩
        cases b with
        | false =>
          dsimp only
          rw [if_neg (by decide)]
          exact ⟨ds.length - (i + 1), by omega, rfl, hlt, Z3, xs, hh3, tc.trans t3, ff rfl, rc.same t3⟩
        | true =>
          dsimp only
          rw [if_pos rfl]
          obtain ⟨ei, f2, f4⟩ := ftr rfl
          rw [f3] at f2
          refine ⟨H3, Zc, Z3, _, ei, h3, f2, fun v Z4 H4 h4 t4 r4 => ⟨ds.length - (i + 1), by omega, rfl, hlt, Z4, xs ++ [ei], ?_, (tc.trans t3).trans t4, f4, ((rc.same t3).same t4).append (.cons r4 .nil)⟩⟩
          exact hhc.new ⟨t3.trans t4, h4.h0, h4.zh, h4.zb, h4.nf⟩
    · have hie : i = ds.length := by omega
      subst hie
      refine .inl ⟨ok.stop _ H2 zh (Nat.le_refl _), by omega, fun p hp => ?_⟩
      rw [List.take_length, e2] at fx
      cases fx
      have n := New.add hhc.zh hp (.lst ys)
      exact k _ _ _ (hhc.new n) ((t1.trans tc).trans n.z) (.lst (SqL.of upd_same) (rc.same n.z))
  · rw [if_neg hz] at e; cases e
theorem ev_compI (B : BlkOk X.env.scope.names X.N scope vars caps) (hc : X.calm = true) (hi : IV X tg iter fi) (tk : TgOk X.K g vars.length bv)
    (hg : ∀ C s₀ H₀ ex, PG (blk X scope (vars ++ caps.map (·.2)) C s₀ H₀ ex) tg g) (hb : ∀ C s₀ H₀ ex, TV (blk X scope (vars ++ caps.map (·.2)) C s₀ H₀ ex) cnd ft) (he : ∀ C s₀ H₀ ex, EV (blk X scope (vars ++ caps.map (·.2)) C s₀ H₀ ex) elt fe) (hs : ∀ x, foldedSetIterable iter X.env x = pure x := by intro _; rfl) :
    EV X (.ListComp elt [⟨tg, iter, [cnd], 0⟩] scope pos) (oCompI fi caps bv ft fe) :=
  PE.imp (pe_compI (tt := tVT X.K ft) (te := tV X.K fe) B hc hi hg hb he hs) fun _ _ _ h => comp_readI tk h
theorem sv_compI (i : Nat) {y : Str} {py spos : Pos} (hN : X.N.Nodup) (B : BlkOk X.env.scope.names X.N scope vars caps) (hc : X.calm = true) (hi : IV X tg iter fi) (tk : TgOk X.K g vars.length bv)
    (hg : ∀ C s₀ H₀ ex, PG (blk X scope (vars ++ caps.map (·.2)) C s₀ H₀ ex) tg g) (hb : ∀ C s₀ H₀ ex, TV (blk X scope (vars ++ caps.map (·.2)) C s₀ H₀ ex) cnd ft) (he : ∀ C s₀ H₀ ex, EV (blk X scope (vars ++ caps.map (·.2)) C s₀ H₀ ex) elt fe)
    (hy : X.N[i]? = some y := by rfl) (hx : Loc X.env.scope y := by first | exact Or.inl rfl | exact Or.inr rfl) (hsw : swapsWith (.ListComp elt [⟨tg, iter, [cnd], 0⟩] scope pos) (some (.Name y py)) spos.line X.env = pure true := by rfl)
    (hf : X.fn y = true ∨ X.env.scope.names.lookup y = some .local := by first | exact .inl rfl | exact .inr rfl | assumption) (hs : ∀ x, foldedSetIterable iter X.env x = pure x := by intro _; rfl) :
    SV X (.Assign [.Name y py] (.ListComp elt [⟨tg, iter, [cnd], 0⟩] scope pos) spos) (sSet i (oCompI fi caps bv ft fe)) :=
  PS.imp (ps_compI (tt := tVT X.K ft) (te := tV X.K fe) B hc hi hg hb he hN hy hx hsw hf hs) fun D σ H h => by
    obtain ⟨H₀, Z₀, Z, δ, r, hh, e, k⟩ := h
    obtain ⟨x, e1, e⟩ := bind_some e
    cases e
    exact comp_readI tk ⟨H₀, Z₀, Z, δ, x, hh, e1, fun v Z1 H1 hh1 s1 r1 => k _ H1 Z1 (hh1.set r1) s1⟩
end
end VL

set_option Elab.async false
set_option linter.all false
set_option maxRecDepth 100000
set_option maxHeartbeats 4000000
namespace VL
open PySem PySem.Spec PyProof.Rows L2
/-! ### a op b op c -/
def oCh (f1 f2 f3 : Dv → Option D) (g g' : D → D → Option D) : Dv → Option D := fun δ => (f1 δ).bind fun a => (f2 δ).bind fun b => (g a b).bind fun r => (asB r).bind fun k => if k = true then (f3 δ).bind fun c => g' b c else some (.bool false)
section
variable {X : Cx} {a b c : Expr} {pos : Pos} {f1 f2 f3 : Dv → Option D}
theorem chain_read {K : Fg} {g g' : D → D → Option D} {σ : St} {H : Hp} {Q : VK} (h : tV K (oCh f1 f2 f3 g g') σ H Q) : tChain (rD K g) (rD K g') (tV K f1) (tV K f2) (tV K f3) σ H Q := by
  obtain ⟨H₀, Z₀, Z, δ, d, hh, e, k⟩ := h
  obtain ⟨x, e1, ea⟩ := bind_some e
  obtain ⟨y, e2, eb⟩ := bind_some ea
  obtain ⟨r, e3, ec⟩ := bind_some eb
  obtain ⟨kk, e4, ed⟩ := bind_some ec
  clear e ea eb ec
  have er := asB_eq e4
  subst er
  refine ⟨H₀, Z₀, Z, δ, x, hh, e1, fun v1 Z1 H1 hh1 s1 r1 => ⟨H₀, Z₀, Z1, δ, y, hh1, e2, fun v2 Z2 H2 hh2 s2 r2 => ?_⟩⟩
  refine ⟨Z2, x, y, _, hh2.zh, r1.same s2, r2, e3, fun v3 Z3 H3 n r3 => ⟨kk, r3.bl_eq, ?_⟩⟩
  cases kk with
  | true =>
    rw [if_pos rfl] at ed ⊢
    obtain ⟨z, e5, e⟩ := bind_some ed
    refine ⟨H₀, Z₀, Z3, δ, z, hh2.new n, e5, fun v4 Z4 H4 hh4 s4 r4 => ⟨Z4, y, z, d, hh4.zh, (r2.same n.z).same s4, r4, e, fun v5 Z5 H5 n5 r5 => ?_⟩⟩
    exact k v5 Z5 H5 (hh4.new n5) ((((s1.trans s2).trans n.z).trans s4).trans n5.z) r5
  | false =>
    rw [if_neg (by decide)] at ed ⊢
    cases ed
    exact k _ Z3 H3 (hh2.new n) ((s1.trans s2).trans n.z) (.bl _)
theorem tv_chain {op op' : CmpOp} {g g' : D → D → Option D} (ho : OpR X (compareOp op) (rD X.K g)) (ho' : OpR X (compareOp op') (rD X.K g')) (ha : EV X a f1) (hb : EV X b f2) (hc : EV X c f3)
    (hm : lastMarks [op, op'] [b, c] = false := by with_unfolding_all rfl) : TV X (.Compare a [op, op'] [b, c] pos) (ob (oCh f1 f2 f3 g g')) :=
  PT.imp (pt_chain ho ho' ha hb hc hm) fun _ _ _ h => chain_read (toB h)
end
/-! ### in, not in: flat items -/
def flD : D → Bool
  | .none => true
  | .bool _ => true
  | .int _ => true
  | .str _ => true
  | _ => false
def inL (x : D) (ds : List D) : Bool := ds.any fun y => PyData.eqv y x
def inD (neg : Bool) : D → D → Option D := fun a b => (itsD b).bind fun ds => if flD a = true ∧ ds.all flD = true then some (.bool (if neg = true then !inL a ds else inL a ds)) else none
theorem Rep.flat {K : Fg} {Z : Hp} {v : V} {d : D} (r : Rep K Z v d) : flatV v = flD d := by cases r <;> rfl
theorem Rep.eqF {K : Fg} {Z : Hp} {v u : V} {d e : D} (r : Rep K Z v d) (q : Rep K Z u e) (h1 : flD d = true) (h2 : flD e = true) : eqV v u = PyData.eqv d e := by
  cases r <;> first | (cases q <;> first | rfl | cases h2) | cases h1
theorem Reps.allF {K : Fg} {Z : Hp} : ∀ {vs : List V} {ds : List D}, Reps K Z vs ds → vs.all flatV = ds.all flD
  | _, _, .nil => rfl
  | _, _, .cons r t => by rw [List.all_cons, List.all_cons, r.flat, t.allF]
theorem Reps.inF {K : Fg} {Z : Hp} {x : V} {a : D} (q : Rep K Z x a) (h : flD a = true) : ∀ {vs : List V} {ds : List D}, Reps K Z vs ds → ds.all flD = true → inV x vs = inL a ds
  | _, _, .nil, _ => rfl
  | _, _, .cons r t, f => by
    rw [List.all_cons, Bool.and_eq_true] at f
    show (eqV _ x || inV x _) = (PyData.eqv _ a || inL a _)
    rw [r.eqF q f.1 h, t.inF q h f.2]
theorem in_read {K : Fg} {neg : Bool} {x y : V} {H : Hp} {Q : VK} (h : rD K (inD neg) x y H Q) : rIn K neg x y H Q := by
  obtain ⟨Z, a, b, d, zh, ra, rb, e, k⟩ := h
  obtain ⟨ds, e1, e⟩ := bind_some e
  by_cases c : flD a = true ∧ ds.all flD = true
  · rw [if_pos c] at e
    cases e
    have go : ∀ (xs : List V), Reps K Z xs ds → (∃ p, y = .ref p ∧ (SqL K H p xs ∨ SqT K H p xs)) → rIn K neg x y H Q := fun xs r ⟨p, ey, hq⟩ => by
      refine ⟨p, xs, ey, hq, by rw [ra.flat]; exact c.1, by rw [r.allF]; exact c.2, ?_⟩
      have := r.inF ra c.1 c.2
      rw [this]
      exact k _ Z H (New.refl zh) (.bl _)
    cases rb with
    | lst h q => cases e1; exact go _ q ⟨_, rfl, .inl (SqL.same h zh)⟩
    | tup h q => cases e1; exact go _ q ⟨_, rfl, .inr (SqT.same h zh)⟩
    | _ => cases e1
  · rw [if_neg c] at e; cases e
theorem d_in {X : Cx} : OpR X (compareOp .In) (rD X.K (inD false)) := OpR.imp op_in_seq fun _ _ _ _ h => in_read h
/-! ### targets that are tuples -/
def gT : List (D → Dv → Option Dv) → List D → Dv → Option Dv
  | [], [], δ => some δ
  | g :: gs, d :: ds, δ => (g d δ).bind fun δ1 => gT gs ds δ1
  | _, _, _ => none
def gTu (gs : List (D → Dv → Option Dv)) : D → Dv → Option Dv
  | .tuple ds, δ => gT gs ds δ
  | _, _ => none
@[simp] theorem gT_nil (δ : Dv) : gT [] [] δ = some δ := rfl
@[simp] theorem gT_cons (g : D → Dv → Option Dv) (gs : List (D → Dv → Option Dv)) (d : D) (ds : List D) (δ : Dv) : gT (g :: gs) (d :: ds) δ = (g d δ).bind fun δ1 => gT gs ds δ1 := rfl
@[simp] theorem gTu_tup (gs : List (D → Dv → Option Dv)) (ds : List D) (δ : Dv) : gTu gs (.tuple ds) δ = gT gs ds δ := rfl
theorem gT_len : ∀ {gs : List (D → Dv → Option Dv)} {ds : List D} {δ δ' : Dv}, gT gs ds δ = some δ' → ds.length = gs.length
  | [], [], _, _, _ => rfl
  | [], _ :: _, _, _, h => by cases h
  | _ :: _, [], _, _, h => by cases h
  | g :: gs, d :: ds, δ, δ', h => by
    obtain ⟨δ1, _, h⟩ := bind_some h
    exact congrArg (· + 1) (gT_len h)
def tVGs (K : Fg) (gs : List (D → Dv → Option Dv)) : TGs := fun vs σ H Q => ∃ H₀ Z₀ Z δ ds δ', Hold K H₀ Z₀ Z δ σ H ∧ Reps K Z vs ds ∧ gT gs ds δ = some δ' ∧ ∀ σ' H' Z', Hold K H₀ Z₀ Z' δ' σ' H' → Same Z Z' → Q σ' H'
def GVs (X : Cx) (es : List Expr) (gs : List (D → Dv → Option Dv)) : Prop := PGs X es (tVGs X.K gs)
section
variable {X : Cx} {pos : Pos} {e : Expr} {es : List Expr} {g : D → Dv → Option Dv} {gs : List (D → Dv → Option Dv)}
theorem PGs.imp {t t' : TGs} (h : PGs X es t) (i : ∀ v σ H Q, t' v σ H Q → t v σ H Q) : PGs X es t' := fun pins s σ H x v Q I r q => h pins s σ H x v Q I r (i _ _ _ _ q)
theorem gvs_nil : GVs X [] [] := PGs.imp pgs_nil fun vs σ H Q h => by
  obtain ⟨H₀, Z₀, Z, δ, ds, δ', hh, r, e, k⟩ := h
  cases r with
  | nil => cases e; exact ⟨rfl, k σ H Z hh (Same.refl _)⟩
  | cons _ _ => cases e
theorem gvs_cons (h1 : GV X e g) (h2 : GVs X es gs) (hs : (assignEach (e :: es) X.env).map (·.2) = assign e X.env :: (assignEach es X.env).map (·.2) := by rfl) : GVs X (e :: es) (g :: gs) :=
  PGs.imp (pgs_cons h1 h2 hs) fun vs σ H Q h => by
    obtain ⟨H₀, Z₀, Z, δ, ds, δ', hh, r, e, k⟩ := h
    cases r with
    | nil => cases e
    | cons r t =>
      obtain ⟨δ1, e1, e⟩ := bind_some e
      exact ⟨_, _, rfl, H₀, Z₀, Z, δ, _, δ1, hh, r, e1, fun σ1 H1 Z1 hh1 s1 => ⟨H₀, Z₀, Z1, δ1, _, δ', hh1, t.same s1, e, fun σ2 H2 Z2 hh2 s2 => k σ2 H2 Z2 hh2 (s1.trans s2)⟩⟩
theorem gv_tup {k : Nat} (hc : X.calm = true) (h : GVs X es gs) (hn : (assignEach es X.env).length = gs.length := by rfl) (hst : (assignEach es X.env).findIdx? (·.1) = none := by rfl) : GV X (.Tuple es k pos) (gTu gs) :=
  PG.imp (pg_tup hc h hn hst) fun v σ H Q h => by
    obtain ⟨H₀, Z₀, Z, δ, d, δ', hh, r, e, k⟩ := h
    cases r with
    | tup q t =>
      have el : _ = gs.length := gT_len (gs := gs) e
      exact ⟨_, _, rfl, SqT.same q hh.zh, by rw [t.length]; exact el, H₀, Z₀, Z, δ, _, δ', hh, t, e, k⟩
    | _ => cases e
def sAsg (f : Dv → Option D) (g : D → Dv → Option Dv) : Sf := fun δ => (f δ).bind fun d => (g d δ).bind fun δ' => some (.nx, δ')
theorem sv_asg {tg : Expr} {f : Dv → Option D} (he : EV X e f) (hg : GV X tg g) (hs : swapsWithSole [tg] e pos.line X.env = pure false := by rfl) (hw : swappedStores [tg] e X.env = pure none := by rfl)
    (h1 : (assignEach [tg] X.env).map (·.2) = [assign tg X.env] := by rfl) : SV X (.Assign [tg] e pos) (sAsg f g) :=
  PS.imp (ps_asg he hg hs hw h1) fun D σ H h => by
    obtain ⟨H₀, Z₀, Z, δ, r, hh, e, k⟩ := h
    obtain ⟨d, e1, e⟩ := bind_some e
    obtain ⟨δ', e2, e⟩ := bind_some e
    cases e
    exact ⟨H₀, Z₀, Z, δ, d, hh, e1, fun v Z1 H1 hh1 s1 r1 => ⟨H₀, Z₀, Z1, δ, d, δ', hh1, r1, e2, fun σ' H' Z' hh' s' => k σ' H' Z' hh' (s1.trans s')⟩⟩
end
/-! ### a block's target that is a tuple of names -/
/-! ### while -/
theorem loop_step {g : D → Dv → Option Dv} {b : Sf} {d : D} {ds : List D} {δ δ1 δ2 : Dv} (h1 : g d δ = some δ1) (h2 : b δ1 = some (.nx, δ2)) : loop g b (d :: ds) δ = loop g b ds δ2 := by
  show ((g d δ).bind fun δ1 => _) = _
  rw [h1, Option.bind_some, h2]; rfl
theorem loop_ret {g : D → Dv → Option Dv} {b : Sf} {d x : D} {ds : List D} {δ δ1 δ2 : Dv} (h1 : g d δ = some δ1) (h2 : b δ1 = some (.rt x, δ2)) : loop g b (d :: ds) δ = some (.rt x, δ2) := by
  show ((g d δ).bind fun δ1 => _) = _
  rw [h1, Option.bind_some, h2]; rfl
/-! ### a def that calls itself -/
theorem bv_no {X : Cx} {ss : List Stmt} : BV X ss (fun _ => none) := fun pins s σ H D I h => by
  obtain ⟨_, _, _, _, _, _, e, _⟩ := h
  cases e
end VL

set_option Elab.async false
set_option linter.all false
set_option maxRecDepth 100000
set_option maxHeartbeats 4000000
namespace VL
open PySem PySem.Spec PyProof.Rows L2
/-! ### an expression whose value is a list of one's own -/
def tO (K : Fg) (f : Dv → Option (List D)) : TE := fun σ H Q => ∃ H₀ Z₀ Z δ ds, Hold K H₀ Z₀ Z δ σ H ∧ f δ = some ds ∧ ∀ p vs Z' H', Hold K H₀ Z₀ Z' δ σ H' → Same Z Z' → H' p = none → Reps K Z' vs ds → Q (.ref p) (upd H' p (.lst vs))
def EO (X : Cx) (e : Expr) (f : Dv → Option (List D)) : Prop := PE X e (tO X.K f)
/-- the items of a list -/
def oLi (f : Dv → Option D) : Dv → Option (List D) := fun δ => (f δ).bind lstI
@[simp] def sOwnE (i : Nat) (f : Dv → Option (List D)) : Sf := fun δ => (f δ).bind fun ds => some (.nx, δ.set i (.ow ds))
section
variable {X : Cx} {e : Expr} {es : List Expr} {p pos : Pos} {f : Dv → Option (List D)} {fs : Dv → Option (List D)}
theorem own_read {K : Fg} {D : Ends} {i : Nat} {σ : St} {H : Hp} (h : tVS K (sOwnE i f) D σ H) : tO K f σ H fun v H1 => D.nx (σ.set i (some v)) H1 := by
  obtain ⟨H₀, Z₀, Z, δ, r, hh, e, k⟩ := h
  obtain ⟨ds, e1, e⟩ := bind_some e
  cases e
  exact ⟨H₀, Z₀, Z, δ, ds, hh, e1, fun p vs Z1 H1 hh1 t1 hp r1 => k _ _ Z1 (hh1.setO hp r1) t1⟩
theorem sv_ownE (i : Nat) {x : Str} {pos' : Pos} (hN : X.N.Nodup) (ha : EO X e f) (hi : X.N[i]? = some x := by rfl) (hx : Loc X.env.scope x := by first | exact Or.inl rfl | exact Or.inr rfl) (hs : swapsWith e (some (.Name x pos')) pos.line X.env = pure false := by rfl)
    (hf : X.fn x = true ∨ X.env.scope.names.lookup x = some .local := by first | exact .inl rfl | exact .inr rfl | assumption) : SV X (.Assign [.Name x pos'] e pos) (sOwnE i f) :=
  PS.imp (ps_set hN hi hx ha hs hf) fun D σ H h => own_read h
end
section
variable {X : Cx} {scope : Scope} {vars : List Str} {caps : List (Nat × Str)} {elt tg iter cnd : Expr} {pos : Pos} {g : TG} {fi : Dv → Option (List D)} {ft : Dv → Option Bool} {fe : Dv → Option D} {bv : D → Option (List D)}
end
/-! ### evaluation without the dead ways -/
def seqK (t : Sf) : Fl × Dv → Option (Fl × Dv)
  | (.nx, δ) => t δ
  | r => some r
@[simp] theorem seqK_nx (t : Sf) (δ : Dv) : seqK t (.nx, δ) = t δ := rfl
@[simp] theorem seqK_rt (t : Sf) (d : D) (δ : Dv) : seqK t (.rt d, δ) = some (.rt d, δ) := rfl
@[simp] theorem seqK_bk (t : Sf) (δ : Dv) : seqK t (.bk, δ) = some (.bk, δ) := rfl
@[simp] theorem seqK_ct (t : Sf) (δ : Dv) : seqK t (.ct, δ) = some (.ct, δ) := rfl
def ifK (u w : Sf) (δ : Dv) : Bool → Option (Fl × Dv)
  | true => u δ
  | false => w δ
@[simp] theorem ifK_t (u w : Sf) (δ : Dv) : ifK u w δ true = u δ := rfl
@[simp] theorem ifK_f (u w : Sf) (δ : Dv) : ifK u w δ false = w δ := rfl
theorem sSeq_k (s t : Sf) (δ : Dv) : sSeq s t δ = (s δ).bind (seqK t) := by
  unfold sSeq seqK
  congr 1
theorem sIf_k (t : Dv → Option Bool) (u w : Sf) (δ : Dv) : sIf t u w δ = (t δ).bind (ifK u w δ) := by
  unfold sIf
  congr 1
  funext c
  cases c <;> rfl
end VL

set_option Elab.async false
set_option linter.all false
set_option maxRecDepth 100000
set_option maxHeartbeats 4000000
namespace VL
open PySem PySem.Spec PyProof.Rows L2
/-! ### all, any, sum of a list; reversed; raise; extend -/
def blsD : List D → Option (List Bool)
  | [] => some []
  | .bool b :: r => (blsD r).map (b :: ·)
  | _ => none
def allD : List D → Option D
  | [.list xs] => (blsD xs).map fun bs => .bool (bs.all id)
  | _ => none
theorem blsD_map {α : Type} (f : α → Bool) : ∀ xs : List α, blsD (xs.map fun a => .bool (f a)) = some (xs.map f)
  | [] => rfl
  | a :: r => by simp [blsD, blsD_map f r]
theorem allD_map {α : Type} (f : α → Bool) (xs : List α) : allD [.list (xs.map fun a => .bool (f a))] = some (.bool (xs.all f)) := by
  simp [allD, blsD_map, List.all_map]
/-- list(reversed(x)) -/
def revLD : D → Option D
  | .list xs => some (.list xs.reverse)
  | _ => none
@[simp] theorem revLD_list (xs : List D) : revLD (.list xs) = some (.list xs.reverse) := rfl
/-- for .. in reversed(x) -/
def revI : D → Option (List D)
  | .list xs => some xs.reverse
  | .tuple xs => some xs.reverse
  | _ => none
@[simp] theorem revI_list (xs : List D) : revI (.list xs) = some xs.reverse := rfl
@[simp] theorem revI_tuple (xs : List D) : revI (.tuple xs) = some xs.reverse := rfl
@[simp] def sNo : Sf := fun _ => none
/-- x.extend(v) -/
@[simp] def sExt (i : Nat) (f : Dv → Option D) : Sf := fun δ => (f δ).bind fun v => (itsD v).bind fun es => (slO δ[i]?).bind fun ds => if ds.length + es.length ≤ sizeLine then some (.nx, δ.set i (.ow (ds ++ es))) else none

section
variable {X : Cx} {e : Expr} {es : List Expr} {p pos tpos apos : Pos} {f : Dv → Option D} {st : Stmt}
theorem bls_get {K : Fg} {Z : Hp} : ∀ {xs : List V} {ds : List D} {bs : List Bool} {its : List Value}, Reps K Z xs ds → Vals xs its → blsD ds = some bs → its.length = bs.length ∧ ∀ (i : Nat) (v : Value), its[i]? = some v → ∃ b, bs[i]? = some b ∧ v = .bool b
  | _, _, bs, _, .nil, .nil, h => by cases h; exact ⟨rfl, fun i v q => by simp at q⟩
  | _, _, bs, _, .cons r t, .cons q u, h => by
    cases r with
    | bl b =>
      unfold blsD at h
      cases g : blsD _ with
      | none => rw [g] at h; cases h
      | some cs =>
        rw [g] at h
        cases h
        obtain ⟨h1, h2⟩ := bls_get t u g
        refine ⟨by simp [h1], fun i v e => ?_⟩
        cases i with
        | zero => simp at e; subst e; exact ⟨b, rfl, q⟩
        | succ i => simp at e; simpa using h2 i v e
    | _ => cases h
theorem c_all (hc : X.calm = true) : CallR X (.builtin "all") (rDs X.K allD) := by
  intro pins s σ H xs us Q I rs q
  obtain ⟨Z, as, d, zh, ra, e, k⟩ := q
  cases ra with
  | nil => cases e
  | cons r1 r2 =>
    cases r2 with
    | cons _ _ => cases r1 <;> cases e
    | nil =>
      cases r1 with
      | @lst l ys ds h1 q1 =>
        have e : (blsD ds).map (fun bs => PyData.bool (bs.all id)) = some d := e
        cases g : blsD ds with
        | none => rw [g] at e; cases e
        | some bs =>
          rw [g] at e
          cases e
          obtain ⟨u, rfl, ru⟩ := vals1 rs
          cases ru
          obtain ⟨its, rv, pl, hz⟩ := I.list (SqL.same h1 zh)
          obtain ⟨hlen, hget⟩ := bls_get q1 rv g
          have hl := pl.isList
          have hlt : l < s.heap.objs.size := by obtain ⟨_, e, _⟩ := hl; exact Heap.lt_size e
          refine call_all_walk (wpAny_pyIter_list hl ?_)
          refine ⟨s.heap.objs.size, [s.heap.objs.size, l], [s.heap.objs.size], its.toArray.size, _, _, fun i => (bs[i]?).getD true, rfl, Walks.list (A := X.A.in1) (I.ok.hd hc) _ l (Nat.ne_of_lt hlt) its.toArray,
            ⟨⟨_, Heap.get?_push_size _ rfl, rfl, rfl⟩, hl.push _⟩, fun i v s' Q' E' hP hQ => ?_, fun h' tk hk => ?_⟩
          · obtain ⟨b, e, rfl⟩ := hget i v (by simpa using hP)
            simp only [e, Option.getD_some] at hQ
            exact wpAny_truthy_bool hQ
          · have e : ((List.range its.toArray.size).all fun i => (bs[i]?).getD true) = bs.all id := by
              rw [List.size_toArray, hlen]; exact LSm.range_all bs
            rw [e]
            exact ⟨.bl _, H, I.kept (t' := tk) (LSm.kept_iter hk), rfl, k _ Z H (New.refl zh) (.bl _)⟩
      | _ => cases e
end
end VL

set_option Elab.async false
set_option linter.all false
set_option maxRecDepth 100000
set_option maxHeartbeats 4000000
namespace VL
open PySem PySem.Spec PyProof.Rows L2
/-! ### list(reversed(a list)) -/
section
variable {prog : Program} {w : World} {A : Around} {s : Shared} {R : Result → Shared → Prop}
variable {I : Addr} {fp wr : List Addr} {G : Array GenState → Array GenState → Prop} {n : Nat} {P : Nat → Value → Prop} {St : Nat → Shared → Prop}
end
section
variable {prog : Program} {w : World} {A : Around} {E : Value → Shared → Prop} {s : Shared}
variable {I : Addr} {fp wr : List Addr} {G : Array GenState → Array GenState → Prop} {n : Nat} {P : Nat → Value → Prop} {St : Nat → Shared → Prop}
end
section
variable {X : Cx} {e : Expr} {p p2 pos pos2 : Pos} {te : TE} {f : Dv → Option D}
end
end VL

set_option Elab.async false
set_option linter.all false
set_option maxRecDepth 100000
set_option maxHeartbeats 4000000
namespace VL
open PySem PySem.Spec PyProof.Rows L2
section
variable {prog : Program} {w : World} {A : Around} {E : Value → Shared → Prop} {s : Shared}
/-! the walk -/
end
/-! ### for x in reversed(a tuple) -/
def revT : D → Option (List D)
  | .tuple xs => some xs.reverse
  | _ => none
@[simp] theorem revT_tuple (xs : List D) : revT (.tuple xs) = some xs.reverse := rfl
section
variable {X : Cx} {tg e : Expr} {p pos : Pos} {te : TE} {f : Dv → Option D}
end
end VL

set_option Elab.async false
set_option linter.all false
set_option maxRecDepth 100000
set_option maxHeartbeats 4000000
namespace VL
open PySem PySem.Spec PyProof.Rows L2
/-! ### an exception that was raised while none was handled: its context stays None -/
def F2 (h : Heap) (e : Addr) : Prop := ∃ oe vs, h.get? e = some oe ∧ oe.data = .fields vs ∧ vs[2]? = some .none
def FlyX (base : Heap) (l : List Env) (e : Addr) (cls a0 : Value) (h : Heap) : Prop := Heap.FlyingW base l e cls a0 h ∧ F2 h e
section
variable {M : Model} {A : Around} {E : Value → Shared → Prop} {s : Shared}
end
end VL

set_option Elab.async false
set_option linter.all false
set_option maxRecDepth 100000
set_option maxHeartbeats 4000000
/-! Exceptions of the text's own classes: raised, passed on, caught, asked for their class. -/
namespace VL
open PySem PySem.Spec PyProof.Rows L2
/-! ### exceptions as plain data, and the functions of code that raises -/
abbrev Xf := Dv → Option (Str × Dv)
@[simp] def xNo : Xf := fun _ => none
@[simp] def xRaise (n : Str) (f : Dv → Option D) : Xf := fun δ => (f δ).bind fun _ => some (n, δ)
@[simp] def xE (f : Dv → Option Str) : Xf := fun δ => (f δ).bind fun n => some (n, δ)
@[simp] def xIf (t : Dv → Option Bool) (u w : Xf) : Xf := fun δ => (t δ).bind fun c => if c = true then u δ else w δ
@[simp] def xSeq (s : Sf) (u : Xf) : Xf := fun δ => (s δ).bind fun r => match r with
  | (.nx, δ') => u δ'
  | _ => none
@[simp] def xBoth (u1 : Xf) (s : Sf) (u : Xf) : Xf := fun δ => match u1 δ with
  | some r => some r
  | none => xSeq s u δ
@[simp] def osX (fs : Dv → Option (List D)) (g : List D → Option Str) : Dv → Option Str := fun δ => (fs δ).bind g
/-- on its way out of a call: outer the frames that run -/
structure Thrown (P : Program) (w : World) (outer : List Env) (H : Hp) (s : Shared) (x C : Addr) (H' : Hp) (s' : Shared) : Prop where
  os : s'.os = s.os
  bare : AllBare s'.gens
  un : Un (frs outer) [] H H' s.heap s'.heap
  hok : HOk P w H' s'.heap
  sm : Same H H'
  is : H' x = some (exO x C)
  fly : ∃ B t, FlyX B outer x (.ref C) t s'.heap ∧ (∀ b o, H' b = some o → b ≠ x → ∃ ob, B.get? b = some ob) ∧ (∀ b o, s.heap.get? b = some o → H b = none → b ∉ frs outer → B.get? b = some o)
section
variable {P : Program} {w : World} {K : PySem.W.Frag} {mg : Str → Option Value} {base : Heap} {N : List Str} {qual : Str} {scope : Scope} {f : Addr} {cd : Value} {A : Around} {outer : List Env} {s : Shared} {H : Hp} {E : XK} {pins : List (Addr × Obj)} {σ : St} {H1 H2 : Hp} {s1 s2 : Shared} {x C : Addr}
end
end VL

set_option Elab.async false
set_option linter.all false
set_option maxRecDepth 100000
set_option maxHeartbeats 4000000
namespace VL
open PySem PySem.Spec PyProof.Rows L2
/-! ### facts of a class -/
section
variable {K : Fg} {n : Str} {C x : Addr}
variable {prog : Program} {w : World} {A : Around} {E : Value → Shared → Prop}
open Builtin Builtin.ObjectAttr Builtin.Getset_descriptor in
end
end VL

set_option Elab.async false
set_option linter.all false
set_option maxRecDepth 100000
set_option maxHeartbeats 4000000
namespace VL
open PySem PySem.Spec PyProof.Rows L2
section
variable {K : Fg} {n : Str} {C x : Addr} {prog : Program} {w : World} {A : Around} {E : Value → Shared → Prop}
end
/-! ### isinstance of an exception -/
section
variable {X : Cx} {a : Expr} {f : Dv → Option D} {p pos : Pos}
end
end VL

set_option Elab.async false
set_option linter.all false
set_option maxRecDepth 100000
set_option maxHeartbeats 4000000
namespace VL
open PySem PySem.Spec PyProof.Rows L2
/-! ### code that raises -/
inductive Flung (m : Bool) (X : Cx) (n : Str) (Z H : Hp) (s : Shared) (e : Value) (s' : Shared) : Prop
  | made {x C : Addr} {vs : List Value} : m = true → PySem.W.nsIn X.K mainGlobals n = some (some (.ref C)) → e = .ref x → s' = { s with heap := s'.heap } → Heap.MadeExcOf s.heap s'.heap x (.ref C) vs → Flung m X n Z H s e s'
  | thrown {x C : Addr} {H' Z' : Hp} : PySem.W.nsIn X.K mainGlobals n = some (some (.ref C)) → e = .ref x → Thrown X.prog X.w X.stack H s x C H' s' → New Z H Z' H' → Z' x = some (exO x C) → H x = none → Flung m X n Z H s e s'
def tVX (m : Bool) (X : Cx) (f : Xf) : TS := fun _ σ H => ∃ H₀ Z₀ Z δ r, Hold X.K H₀ Z₀ Z δ σ H ∧ f δ = some r ∧ ∀ pins σ' H' Z' s e s', Hold X.K H₀ Z₀ Z' r.2 σ' H' → Same Z Z' → Inv X pins σ' H' s → Flung m X r.1 Z' H' s e s' → X.xe e s'
def SX (m : Bool) (X : Cx) (st : Stmt) (f : Xf) : Prop := PS X st (tVX m X f)
section
variable {m : Bool} {X : Cx} {e c : Expr} {es : List Expr} {f : Dv → Option D} {fs : Dv → Option (List D)} {ft : Dv → Option Bool} {fx : Dv → Option Str} {st : Stmt} {sts body orelse : List Stmt} {s1 : Sf} {u u1 u2 : Xf} {pos p : Pos}
/-! ### raise -/
/-! ### a call that raises -/
end
section
variable {P : Program} {w : World} {K : PySem.W.Frag} {mg : Str → Option Value} {base : Heap}
end
end VL

set_option Elab.async false
set_option linter.all false
set_option maxRecDepth 100000
set_option maxHeartbeats 4000000
namespace VL
open PySem PySem.Spec PyProof.Rows L2
/-! ### try: body except W as n: suite -/
section
variable {X : Cx} {pins : List (Addr × Obj)} {σ : St} {H : Hp} {s : Shared}
end
section
variable {X : Cx} {body suite : List Stmt} {b₀ : Stmt} {b bs : Sf} {bx : Xf} {np hpos pos : Pos}
end
end VL

set_option Elab.async false
set_option linter.all false
set_option maxRecDepth 100000
set_option maxHeartbeats 4000000
namespace VL
open PySem PySem.Spec PyProof.Rows L2
/-! ### a test that looks at the one list of one's own -/
--PURE
def isOw : Sl → Bool
  | .own _ => true
  | _ => false
@[simp] theorem isOw_fz (d : D) : isOw (.fz d) = false := rfl
@[simp] theorem isOw_un : isOw .un = false := rfl
def sole : Nat → Dv → Bool
  | _, [] => true
  | 0, _ :: r => r.all fun s => !isOw s
  | n + 1, s :: r => !isOw s && sole n r
@[simp] theorem sole_zero (s : Sl) (r : Dv) : sole 0 (s :: r) = r.all fun s => !isOw s := rfl
@[simp] theorem sole_succ (n : Nat) (s : Sl) (r : Dv) : sole (n + 1) (s :: r) = (!isOw s && sole n r) := rfl
def oPeek (i : Nat) (ft : Dv → Option Bool) : Dv → Option Bool := fun δ => if sole i δ = true then ft (dFz i δ) else none
--END
theorem sole_get : ∀ (i : Nat) (δ : Dv), sole i δ = true → ∀ (j : Nat) (ds : Oc), δ[j]? = some (.own ds) → j = i
  | _, [], _, j, ds, e => by simp at e
  | 0, s :: r, h, 0, ds, e => rfl
  | 0, s :: r, h, j + 1, ds, e => by
    have := List.all_eq_true.mp h (.own ds) (List.mem_of_getElem? (by simpa using e))
    cases this
  | i + 1, s :: r, h, 0, ds, e => by
    have h := (Bool.and_eq_true_iff.mp h).1
    have e : s = .own ds := by simpa using e
    subst e; cases h
  | i + 1, s :: r, h, j + 1, ds, e => congrArg (· + 1) (sole_get i r (Bool.and_eq_true_iff.mp h).2 j ds (by simpa using e))
theorem tv_peek {X : Cx} {e : Expr} {ft : Dv → Option Bool} (i : Nat) (h : TV X e ft) : TV X e (oPeek i ft) :=
  PT.imp h fun σ H Q q => by
    obtain ⟨H₀, Z₀, Z, δ, b, hh, e, k⟩ := q
    unfold oPeek at e
    split at e
    rotate_left
    · cases e
    rename_i hso
    unfold dFz at e
    split at e
    · rename_i ds q
      obtain ⟨a, xs, h1, h2, h3, h4, h5⟩ := hh.ow i ds q
      have hl : i < δ.length := (List.getElem?_eq_some_iff.mp q).1
      have sz : Same Z (upd Z a (.lst xs)) := same_upd h3
      have hh1 : Hold X.K H₀ Z₀ (upd Z a (.lst xs)) (δ.set i (.fz (.list ds))) σ H := by
        refine ⟨fun b o q => ?_, hh.h0, hh.z0.trans sz, fun b hb => ?_, by simp [hh.len], fun j d q => ?_, fun j d q => ?_, fun j k d1 d2 b hjk q1 q2 => ?_, (hh.fr.same sz).put (fun _ z => nomatch z) fun _ _ => rfl, hh.nf.upd a⟩
        · by_cases hb : b = a
          · subst hb; rw [upd_same] at q; cases q; exact h4
          · rw [upd_ne hb] at q; exact hh.zh b o q
        · rw [upd_ne (fun z => hb (by rw [z]; exact h2))]; exact hh.zb b hb
        · by_cases hj : i = j
          · subst hj
            rw [List.getElem?_set_self hl] at q
            cases q
            exact ⟨.ref a, h1, .lst (SqL.of upd_same) (h5.same sz)⟩
          · rw [List.getElem?_set_ne hj] at q
            obtain ⟨v, g1, g2⟩ := hh.fz j d q
            exact ⟨v, g1, g2.same sz⟩
        · by_cases hj : i = j
          · subst hj
            rw [List.getElem?_set_self hl] at q
            cases q
          · rw [List.getElem?_set_ne hj] at q
            obtain ⟨b, ws, g1, g2, g3, g4, g5⟩ := hh.own j d q
            have : b ≠ a := fun z => by subst z; rename_i q0; exact hh.dja i j _ d b hj q0 q h1 g1
            exact ⟨b, ws, g1, g2, by rw [upd_ne this]; exact g3, g4, g5.same sz⟩
        · by_cases hj : i = j
          · subst hj
            rw [List.getElem?_set_self hl] at q1
            cases q1
          · by_cases hk : i = k
            · subst hk
              rw [List.getElem?_set_self hl] at q2
              cases q2
            · rw [List.getElem?_set_ne hj] at q1
              rw [List.getElem?_set_ne hk] at q2
              exact hh.dja j k d1 d2 b hjk q1 q2
      refine ⟨H₀, Z₀, _, _, b, hh1, e, fun Z2 H2 hh2 t2 => ?_⟩
      have zl : Same Z (fun c => if c = a then none else Z2 c) := fun c o q => by
        have hc : c ≠ a := ne_of_none q h3
        show (if c = a then none else Z2 c) = some o
        rw [if_neg hc]
        exact t2 c o (sz c o q)
      have back : Hold X.K H₀ Z₀ (fun c => if c = a then none else Z2 c) δ σ H2 := by
        refine ⟨fun b o q => ?_, hh2.h0, hh.z0.trans zl, fun b hb => ?_, hh.len, fun j d q => ?_, fun j d q => ?_, hh.dja, hh.fr.same zl, fun b o xs q => by
          have q : (if b = a then none else Z2 b) = _ := q
          split at q
          · cases q
          · exact hh2.nf b o xs q⟩
        · have q : (if b = a then none else Z2 b) = some o := q
          split at q
          · cases q
          · exact hh2.zh b o q
        · show (if b = a then none else Z2 b) = _
          rw [if_neg (fun z => hb (by rw [z]; exact h2))]
          exact hh2.zb b hb
        · obtain ⟨v, g1, g2⟩ := hh.fz j d q
          exact ⟨v, g1, g2.same zl⟩
        · by_cases hj : i = j
          · subst hj
            rename_i q0
            rw [q0] at q
            cases q
            refine ⟨a, .lst xs, h1, h2, by simp, hh2.zh a _ (t2 a _ upd_same), .lst (h5.same zl)⟩
          · exact absurd (sole_get i δ hso j d q) (Ne.symm hj)
      exact k _ H2 back zl
    · exact ⟨H₀, Z₀, Z, _, b, hh, e, k⟩
end VL

set_option Elab.async false
set_option linter.all false
set_option maxRecDepth 100000
set_option maxHeartbeats 4000000
namespace VL
open PySem PySem.Spec PyProof.Rows L2
/-! ### xs.count(x), xs.index(x) of flat items -/
--PURE
@[simp] def xThen (f : Dv → Option D) (u : Dv → Option Str) : Dv → Option Str := fun δ => (f δ).bind fun _ => u δ
--END
section
variable {X : Cx} {a b : Expr} {f1 f2 : Dv → Option D} {pos apos : Pos}
/-! ### what raises within a tuple's display -/
variable {m : Bool} {e : Expr} {es : List Expr} {f : Dv → Option D} {fx : Dv → Option Str} {x1 : Nat}
end
end VL

set_option Elab.async false
set_option linter.all false
set_option maxRecDepth 100000
set_option maxHeartbeats 4000000
namespace VL
open PySem PySem.Spec PyProof.Rows L2
/-! ### defs of the text as values -/
--PURE
/-- x.extend(a list) -/
@[simp] def sExtL (i : Nat) (f : Dv → Option D) : Sf := fun δ => (f δ).bind fun v => (lstI v).bind fun es => (slO δ[i]?).bind fun ds => if ds.length + es.length ≤ sizeLine then some (.nx, δ.set i (.ow (ds ++ es))) else none
--END
section
variable {X : Cx} {e : Expr} {es : List Expr} {p pos : Pos} {fs : Dv → Option (List D)}
end
theorem extend_gen (l : Addr) (items : Array Value) (n : Nat) (b : Addr) (items2 : Array Value) (n2 : Nat) (sl : Array (Option Value)) (hc0 : ¬(!items.isEmpty && Builtin.List.listTooLong (items.size + items2.size)) = true) (hc1 : items.size ≤ sizeLine) (hs2 : items.size + items2.size ≤ sizeLine + 1) :
    Meets (Builtin.«list.extend» ⟨[.ref l, .ref b], []⟩) (fun _ R s => s.heap.get? l = some { cls := .type "list", dict := none, data := .seq items n, slots := #[] } ∧ s.heap.get? b = some { cls := .type "list", dict := none, data := .seq items2 n2, slots := sl } ∧ R (.ok (.ret Value.none)) { s with heap := s.heap.update l (Obj.mapSeq fun x => x ++ items2), toks := s.toks }) :=
  .of_wp fun prog w A R s h => by
    obtain ⟨hp, g, d, tk, os⟩ := s; obtain ⟨hl, hb, h⟩ := h; have f1 := AutoSeq1.idx_int; have f2 := AutoSeq1.sub_tuple_tuple; have f3 := AutoSeq1.sub_list_list; have f4 := AutoSeq1.sub_tuple_list; have f5 := AutoSeq1.sub_list_tuple;
    have hz' : (items ++ items2).size ≤ sizeLine + 1 := by rw [Array.size_append]; exact hs2
    wp_walk using (wpAny_updateSeq hl rfl (hz := hc1) (_hz' := hz')), AutoSeq1.wpAny_loadPart' hl, AutoSeq1.wpAny_loadPart' hb; exact ⟨_, rfl, h⟩
def rExtK (K : Fg) : V → List V → Hp → VK → Prop := fun x vs H Q => ∃ l b xs zs, x = .ref l ∧ vs = [.ref b] ∧ H l = some (.lst xs) ∧ SqL K H b zs ∧ xs.length + zs.length ≤ sizeLine ∧ Q .non (upd H l (.lst (xs ++ zs)))
section
variable {X : Cx}
theorem mt_extK : MtM X "list.extend" (rExtK X.K) := by
  intro pins s σ H x vs v us Q I rx rv h
  obtain ⟨l, b, xs, zs, rfl, rfl, hH, hB, hz, q⟩ := h
  cases rx
  obtain ⟨u, rfl, ru⟩ := rv.one
  cases ru
  obtain ⟨z, its, n, r, hl, e⟩ := I.lstM hH
  obtain ⟨its2, r2, ⟨o2, n2, e2, hc, hd, hs⟩, z2⟩ := I.list hB
  have hl2 := r2.length
  obtain ⟨c2, d2, dt2, sl2⟩ := o2
  dsimp only at hc hd hs
  subst hc hd hs
  have hsz : its.toArray.size + its2.toArray.size ≤ sizeLine := by rw [List.size_toArray, List.size_toArray]; omega
  have hlong : ¬ (!its.toArray.isEmpty && Builtin.List.listTooLong (its.toArray.size + its2.toArray.size)) = true := by
    rw [notLongL hsz, Bool.and_false]
    exact Bool.false_ne_true
  refine call_meets F.slot_list_extend ⟨_, e, rfl⟩ F.entry_list_extend (F.args_list_extend_2 _ _)
    (extend_gen l its.toArray n b its2.toArray n2 sl2 hlong (by rw [List.size_toArray]; omega) (by omega)) ⟨e, e2, ?_⟩
  refine ⟨.non, _, I.lset (its' := its ++ its2) hH e (by simp) (r.append r2) ?_, rfl, q⟩
  rw [List.length_append]
  omega
end
section
variable {X : Cx} {e : Expr} {f : Dv → Option D} {p pos apos : Pos}
theorem sv_extL (i : Nat) {x : Str} {cpos : Pos} (hv' : EV X e f) (hN : X.N[i]? = some x := by rfl) (hv : Vis X.env.scope x := by first | exact Or.inl rfl | exact Or.inr (Or.inl rfl) | exact Or.inr (Or.inr rfl)) (hd : (x == ("__debug__" : Str)) = false := by decide) (hcd : (x == ("__classdict__" : Str)) = false := by decide)
    (hbase : attributeBase (.Name x p) "extend" X.env (eval (.Name x p) X.env) = eval (.Name x p) X.env := by rfl)
    (hfew : ((backTo cpos (starEach [e] X.env)).all (fun x => !x.1) && (backToKw cpos (keywordEach [] X.env)).all (fun x => x.1.isSome)
      && decide ([e].length + ([] : List Keyword).length + (if ([] : List Keyword).isEmpty then 0 else 1) < 30)) = true := by rfl)
    (hline : (apos.endLine == cpos.line) = true := by rfl) (hs : starEach [e] X.env = (false, eval e X.env) :: starEach [] X.env := by rfl) (hplain : (backTo cpos (starEach [] X.env)).any (·.1) = false := by rfl)
    (hsw : swapsWith (.Call (.Attribute (.Name x p) "extend" apos) [e] [] cpos) none pos.line X.env = pure false := by rfl) : SV X (.Expr (.Call (.Attribute (.Name x p) "extend" apos) [e] [] cpos) pos) (sExtL i f) :=
  PS.imp (ps_expr (pe_bm PySem.F.plainAttrs_list PySem.F.slot_list_extend PySem.F.type_list_extend mt_extK (pe_var hN hv hd hcd) (pa_cons hv' pa_nil hs) hbase hfew hline hs hplain) hsw) fun D σ H h => by
    obtain ⟨H₀, Z₀, Z, δ, r, hh, e, k⟩ := h
    obtain ⟨v, e1, e⟩ := bind_some e
    obtain ⟨es, e3, e⟩ := bind_some e
    obtain ⟨ds, e2, e⟩ := bind_some e
    by_cases hl : ds.length + es.length ≤ sizeLine
    · rw [if_pos hl] at e
      cases e
      cases v with
      | list es' =>
        cases e3
        obtain ⟨a, xs, h1, h4, h5⟩ := ow_at hh e2
        refine ⟨_, h1, .inl ⟨rfl, xs, SqL.of h4⟩, H₀, Z₀, Z, δ, _, hh, e1, fun w Z1 H1 hh1 t1 r1 => ?_⟩
        obtain ⟨a', xs', g1, g4, g5⟩ := ow_at hh1 e2
        rw [h1] at g1
        cases g1
        cases r1 with
        | lst q1 q2 =>
          exact ⟨a, _, xs', _, rfl, rfl, g4, SqL.same q1 hh1.zh, by rw [g5.length, q2.length]; exact hl, k σ _ Z1 (hh1.chg (xs := xs') (slO_eq e2) h1 (g5.append q2)) t1⟩
      | _ => cases e3
    · rw [if_neg hl] at e; cases e
end
end VL

set_option Elab.async false
set_option linter.all false
set_option maxRecDepth 100000
set_option maxHeartbeats 4000000
namespace VL
open PySem PySem.Spec PyProof.Rows L2
/-! ### a list times an int -/
--PURE
def mulL : D → D → Option D
  | .list xs, .int k => if -(2 ^ 63) ≤ k ∧ k < 2 ^ 63 ∧ xs.length * k.toNat ≤ 16777216 then some (.list (List.replicate k.toNat xs).flatten) else none
  | _, _ => none
theorem mulL_eq {xs : List D} {k : Int} (h1 : -9223372036854775808 ≤ k) (h2 : k < 9223372036854775808) (h3 : xs.length * k.toNat ≤ 16777216) : mulL (.list xs) (.int k) = some (.list (List.replicate k.toNat xs).flatten) := if_pos ⟨h1, h2, h3⟩
--END
theorem Reps.rep {K : Fg} {Z : Hp} {xs : List V} {us : List D} (h : Reps K Z xs us) : ∀ k : Nat, Reps K Z (List.replicate k xs).flatten (List.replicate k us).flatten
  | 0 => .nil
  | k + 1 => by
    rw [List.replicate_succ, List.replicate_succ, List.flatten_cons, List.flatten_cons]
    exact h.append (Reps.rep h k)
theorem mulW (l : Addr) (items : Array Value) (n : Nat) (sl : Array (Option Value)) (x : Int) (u : Tok) (hc0 : ¬(!Builtin.List.listFitsIndex x) = true) (hc1 : ¬items.size * x.toNat > (2 ^ 63 - 1) / 8) (hc2 : ¬Builtin.List.listTooLong (items.size * x.toNat) = true) :
    Meets (Builtin.«list.__mul__» ⟨[.ref l, .int x u], []⟩) (fun _ R s => s.heap.get? l = some { cls := .type "list", dict := none, data := .seq items n, slots := sl } ∧ R (.ok (.ret (Value.ref s.heap.objs.size))) { s with heap := s.heap.push { cls := Value.type "list", data := Data.seq (List.foldl (fun x1 x2 => x1 ++ x2) #[] (List.replicate (if items.isEmpty = true then 0 else x.toNat) items)) }, toks := s.toks }) :=
  .of_wp fun prog w A R s h => by
    obtain ⟨hp, g, d, tk, os⟩ := s; obtain ⟨hl, h⟩ := h
    have hsz := AutoListH.joined_fits hc2
    wp_walk; refine wpAny_ite_false (decide_eq_false (Nat.not_lt.mpr hsz)) ?_; wp_walk; exact ⟨_, rfl, h⟩
theorem rmulW (a : Int) (t : Tok) (l : Addr) (items : Array Value) (n : Nat) (sl : Array (Option Value)) :
    Meets (Builtin.«int.__rmul__» ⟨[.int a t, .ref l], []⟩) (fun _ R s => s.heap.get? l = some { cls := .type "list", dict := none, data := .seq items n, slots := sl } ∧ R (.ok (.ret Value.notImplemented)) s) :=
  .of_wp fun prog w A R s h => by obtain ⟨hp, g, d, tk, os⟩ := s; obtain ⟨hl, h⟩ := h; wp_walk; exact ⟨_, rfl, h⟩
section
variable {X : Cx}
/-- an operation whose value is a list of one's own -/
def rO (K : Fg) (g : D → D → Option D) : R2 := fun x y H Q => ∃ Z a b ds, Same Z H ∧ Rep K Z x a ∧ Rep K Z y b ∧ g a b = some (.list ds) ∧ ∀ p vs, H p = none → Reps K Z vs ds → Q (.ref p) (upd H p (.lst vs))
theorem mulL_ex {a b : D} {es : List D} (h : mulL a b = some (.list es)) : ∃ ds k, a = .list ds ∧ b = .int k ∧ (-(2 ^ 63) ≤ k ∧ k < 2 ^ 63 ∧ ds.length * k.toNat ≤ 16777216) ∧ (List.replicate k.toNat ds).flatten = es := by
  cases a with
  | list xs =>
    cases b with
    | int i => obtain ⟨p, q⟩ := ite_some h; exact ⟨_, _, rfl, rfl, p, PyData.list.inj q⟩
    | _ => cases h
  | _ => cases h
theorem d_mulO : OpR X (binaryOp .Mult) (rO X.K mulL) := by
  intro pins s σ H x y v u Q I rx ry q
  obtain ⟨Z, a, b, d, zh, ra, rb, e, kk⟩ := q
  obtain ⟨ds, k, rfl, rfl, hl, rfl⟩ := mulL_ex e
  obtain ⟨a, xs, rfl, h1, q1⟩ := ra.lst_ex
  cases rb.int_eq
  obtain ⟨h63, h63', hz⟩ := hl
  cases rx
  obtain ⟨t, rfl⟩ := ry
  obtain ⟨its, r1, p1, z1⟩ := I.list (SqL.same h1 zh)
  obtain ⟨⟨cls, dd, data, sl⟩, n1, ho, hc, hdd, hd⟩ := p1
  simp only at hc hd hdd
  subst hc hd hdd
  have hl1 := r1.length
  have ql1 := q1.length
  have hlen : its.toArray.size * k.toNat ≤ sizeLine := by rw [List.size_toArray, ← hl1, ql1]; exact hz
  have hcap : ¬ its.toArray.size * k.toNat > (2 ^ 63 - 1) / 8 := by
    have : (sizeLine : Nat) ≤ (2 ^ 63 - 1) / 8 := by decide
    omega
  have hfit : ¬ (!Builtin.List.listFitsIndex k) = true := by
    rw [fitsIndex_both h63 h63']
    exact Bool.false_ne_true
  have hlong : ¬ Builtin.List.listTooLong (its.toArray.size * k.toNat) = true := by
    rw [notLongL hlen]
    exact Bool.false_ne_true
  have hnew : List.foldl (fun x1 x2 => x1 ++ x2) #[] (List.replicate (if its.toArray.isEmpty = true then 0 else k.toNat) its.toArray) = (List.replicate k.toNat its).flatten.toArray := by
    have f0 : ∀ m : Nat, List.foldl (fun x1 x2 => x1 ++ x2) #[] (List.replicate m its.toArray) = (List.replicate m its).flatten.toArray := fun m => by
      have := foldl_rep its m []
      rw [List.nil_append] at this
      exact this
    rw [f0]
    cases its with
    | nil => simp
    | cons a r' => rw [if_neg (by simp)]
  refine wpAny_binaryOp_repeat_ref (T := "list") (U := "int") (by decide) ⟨_, ho, rfl⟩ (fun s' => typeIs_int s' k t) noFill_list_mul F.fills_int_mul F.slot_int_rmul repeat_list F.slot_int_index.lookup
    (call_meets F.slot_int_rmul (typeIs_int s k t) F.entry_int_rmul (F.args_int_rmul_2 _ _) (rmulW k t a its.toArray n1 sl)
      ⟨ho, rfl, ⟨_, ho, rfl⟩, call_meets F.slot_list_mul ⟨_, ho, rfl⟩ F.entry_list_mul (F.args_list_mul_2 _ _) (mulW a its.toArray n1 sl k t hfit hcap hlong) ⟨ho, ?_⟩⟩)
  rw [hnew]
  exact ⟨.ref _, _, I.lnew (t' := s.toks) (r1.rep k.toNat) (by rw [len_rep, Nat.mul_comm, ql1]; exact hz), rfl, kk _ _ I.fresh (Reps.rep q1 k.toNat)⟩
theorem mulL_lst {a b d : D} (h : mulL a b = some d) : ∃ ds, d = .list ds := by
  unfold mulL at h
  split at h
  · split at h
    · cases h; exact ⟨_, rfl⟩
    · cases h
  · cases h
variable {a b : Expr} {pos : Pos} {f1 f2 : Dv → Option D}
theorem eo_mul (ha : EV X a f1) (hb : EV X b f2) : EO X (.BinOp a .Mult b pos) (oLi (o2 f1 f2 mulL)) :=
  PE.imp (pe_op d_mulO ha hb) fun σ H Q h => by
    obtain ⟨H₀, Z₀, Z, δ, ds, hh, e, k⟩ := h
    obtain ⟨d, e, e3⟩ := bind_some e
    obtain ⟨x, e1, e⟩ := bind_some e
    obtain ⟨y, e2, e⟩ := bind_some e
    obtain ⟨es, rfl⟩ := mulL_lst e
    cases e3
    exact ⟨H₀, Z₀, Z, δ, x, hh, e1, fun v Z1 H1 hh1 s1 r1 => ⟨H₀, Z₀, Z1, δ, y, hh1, e2, fun u Z2 H2 hh2 s2 r2 => ⟨Z2, x, y, _, hh2.zh, r1.same s2, r2, e, fun p vs hp r => k p vs Z2 H2 hh2 (s1.trans s2) hp r⟩⟩⟩
end
end VL

set_option Elab.async false
set_option linter.all false
set_option maxRecDepth 100000
set_option maxHeartbeats 4000000
namespace VL
open PySem PySem.Spec PyProof.Rows L2
/-! ### a comprehension whose variable another comprehension within it takes along -/
section
variable {X : Cx} {pins : List (Addr × Obj)} {σ : St} {H H' : Hp} {s s' : Shared} {scope : Scope} {m : Str} {vars : List Str} {caps : List (Nat × Str)} {fp : List Addr} {C : Addr}
end
section
variable {X : Cx} {scope : Scope} {m : Str} {vars : List Str} {caps : List (Nat × Str)} {elt tg iter : Expr} {pos : Pos} {wi : TI} {g : TG} {te : TE}
end
section
variable {X : Cx} {scope : Scope} {m : Str} {vars : List Str} {caps : List (Nat × Str)} {elt tg iter : Expr} {pos : Pos} {g : TG} {fi : Dv → Option (List D)} {fe : Dv → Option D} {bv : D → Option (List D)}
end
end VL

set_option Elab.async false
set_option linter.all false
set_option maxRecDepth 100000
set_option maxHeartbeats 4000000
namespace VL
open PySem PySem.Spec PyProof.Rows L2
/-! ### a def that tells a new list -/
def spO (K : Fg) (g : List D → Option D) : Sp := fun vs H Q _ => ∃ Z as ds, Same Z H ∧ Reps K Z vs as ∧ g as = some (.list ds) ∧ ∀ p us Z' H', New Z H Z' H' → H' p = none → Reps K Z' us ds → Q (.ref p) (upd H' p (.lst us))
def tNO (K : Fg) (f : Dv → Option (List D)) : TS := fun D σ H => ∃ H₀ Z₀ Z δ ds, Hold K H₀ Z₀ Z δ σ H ∧ f δ = some ds ∧ ∀ σ' H' Z' δ' p us, Hold K H₀ Z₀ Z' δ' σ' H' → Same Z Z' → H' p = none → Reps K Z' us ds → D.rt (.ref p) (upd H' p (.lst us))
def BO (X : Cx) (sts : List Stmt) (f : Dv → Option (List D)) : Prop := PSs X sts (tNO X.K f)
def sqO (s : Sf) (f : Dv → Option (List D)) : Dv → Option (List D) := fun δ => (s δ).bind fun r => match r.1 with
  | .nx => f r.2
  | _ => none
/-- a statement that always goes on -/
def Nxt (s : Sf) : Prop := ∀ δ r, s δ = some r → r.1 = .nx
theorem nxt_set (i : Nat) (f : Dv → Option D) : Nxt (sSet i f) := fun δ r h => by
  obtain ⟨x, _, h⟩ := bind_some h
  cases h; rfl
section
variable {X : Cx} {e : Expr} {es : List Expr} {p pos : Pos} {st : Stmt} {sts : List Stmt} {f : Dv → Option (List D)} {fs : Dv → Option (List D)} {s : Sf}
theorem bo_ret (he : EO X e f) : BO X [.Return (some e) pos] f :=
  PSs.imp (pss_one (ps_ret he)) fun D σ H h => by
    obtain ⟨H₀, Z₀, Z, δ, ds, hh, e1, k⟩ := h
    exact ⟨H₀, Z₀, Z, δ, ds, hh, e1, fun p vs Z1 H1 hh1 t1 hp r1 => k σ H1 Z1 δ p vs hh1 t1 hp r1⟩
theorem bo_cons (h1 : SV X st s) (hn : Nxt s) (h2 : BO X sts f) : BO X (st :: sts) (sqO s f) :=
  PSs.imp (pss_cons h1 h2) fun D σ H h => by
    obtain ⟨H₀, Z₀, Z, δ, ds, hh, e, k⟩ := h
    obtain ⟨⟨fl, δ'⟩, e1, e⟩ := bind_some e
    have hf : fl = .nx := hn δ _ e1
    subst hf
    refine ⟨H₀, Z₀, Z, δ, (.nx, δ'), hh, e1, fun σ' H' Z' hh' t' => ?_⟩
    exact ⟨H₀, Z₀, Z', δ', ds, hh', e, fun σ2 H2 Z2 δ2 p us hh2 t2 hp ru => k σ2 H2 Z2 δ2 p us hh2 (t'.trans t2) hp ru⟩
end
section
variable {P : Program} {w : World} {K : PySem.W.Frag} {mg : Str → Option Value} {base : Heap}
theorem fn_bO {x qual : Str} {st : Stmt} {f : Addr} {fd : FuncData} {dV : Value} {N ps : List Str} {k : Nat} {g : List D → Option D} {b : Dv → Option (List D)} (F : FunV K x qual st f fd dV) (S : FnScope N ps (defScope st))
    (hb : ∀ (cdv : Value) (A : Around) (outer : List Env) (s : Shared) (H : Hp) (E : XK), Room k (A.deeper (envOfC qual (defScope st) s.heap.objs.size f cdv)) → BO (cxOf CX0 P w K mg base N qual (defScope st) f cdv A outer s H E).nox (defBody st) b)
    (hg : ∀ as ds, g as = some (.list ds) → as.length = ps.length ∧ b (startD N as) = some ds) : FnOk P w K mg base CX0 (k + 1) f fd ps (spO K g) := by
  obtain ⟨oc, od, kV, doc, pm, an, cdv, ct, osl, rfl, lk, hcd⟩ := F.ex
  refine fn_of lk hcd S (fun vs H Q E h => ?_) fun A outer s H vs Q E hr hsp => ?_
  · obtain ⟨Z, as, ds, zh, r, e, _⟩ := h
    rw [r.length]
    exact (hg as ds e).1
  · refine ⟨_, PSs.nox (hb cdv A outer s H E hr), ?_⟩
    obtain ⟨Z, as, ds, zh, r, e, kk⟩ := hsp
    have hh := hold_start (N := N) zh r
    exact ⟨H, Z, Z, _, ds, hh, (hg as ds e).2, fun σ' H' Z' δ' p us h' z' hp ru => kk p us Z' H' ⟨z', h'.h0, h'.zh, h'.zb, h'.nf⟩ hp ru⟩
structure CalO (P : Program) (w : World) (K : PySem.W.Frag) (mg : Str → Option Value) (base : Heap) (x : Str) (k : Nat) (g : List D → Option D) (dd : List D) : Prop where
  ex : ∃ (fa : Addr) (fd : FuncData) (ps : List Str) (ds : List Value) (dv : List V), FnOk P w K mg base CX0 k fa fd ps (spO K g) ∧ mg x = some (.ref fa) ∧ PySem.W.keepIn K (.ref fa) = true ∧ Binds K fd ps ds ∧ Vals dv ds ∧ ∀ Z, Reps K Z dv dd
end
section
variable {X : Cx} {e : Expr} {es : List Expr} {p pos : Pos} {fs : Dv → Option (List D)}
theorem eo_def {k : Nat} {x : Str} {g : List D → Option D} {dd : List D} (C : CalO X.prog X.w X.K X.mg X.base x k g dd) (hr : Room k X.A) (hg : Gl X x) (ha : AV X (e :: es) fs) (hdb : (x == ("__debug__" : Str)) = false := by decide) (he : starEach (e :: es) X.env = (false, eval e X.env) :: starEach es X.env := by rfl)
    (hpl : (backTo pos (starEach es X.env)).any (·.1) = false := by rfl) : EO X (.Call (.Name x p) (e :: es) [] pos) (oLi (os fs fun as => g (as ++ dd))) := by
  obtain ⟨fa, fd, ps, ds, dv, F, hm, hk, hb, hd, hdd⟩ := C.ex
  refine PE.imp (pe_call F hr hg hm hk hb hd pass0 ha hdb he hpl) fun σ H Q h => ?_
  obtain ⟨H₀, Z₀, Z, δ, xs, hh, e0, q⟩ := h
  obtain ⟨d, e1, e2⟩ := bind_some e0
  obtain ⟨as, e4, e3⟩ := bind_some e1
  cases d with
  | list ys =>
    cases e2
    exact ⟨H₀, Z₀, Z, δ, as, hh, e4, fun vs Z1 H1 hh1 s1 r1 => ⟨Z1, as ++ dd, xs, hh1.zh, r1.append (hdd Z1), e3, fun p us Z' H' n hp ru => q p us Z' H' (hh1.new n) (s1.trans n.z) hp ru⟩⟩
  | _ => cases e2
theorem eo_def0 {k : Nat} {x : Str} {g : List D → Option D} (C : CalO X.prog X.w X.K X.mg X.base x k g []) (hr : Room k X.A) (hg : Gl X x) (ha : AV X (e :: es) fs) (hdb : (x == ("__debug__" : Str)) = false := by decide) (he : starEach (e :: es) X.env = (false, eval e X.env) :: starEach es X.env := by rfl)
    (hpl : (backTo pos (starEach es X.env)).any (·.1) = false := by rfl) : EO X (.Call (.Name x p) (e :: es) [] pos) (oLi (os fs g)) := by
  have h := eo_def C hr hg ha hdb he hpl (p := p) (pos := pos)
  have e : (fun as => g (as ++ [])) = g := by funext as; rw [List.append_nil]
  rw [e] at h
  exact h
end
section
variable {X : Cx} {scope : Scope} {m : Str} {vars : List Str} {caps : List (Nat × Str)} {elt tg iter : Expr} {pos : Pos} {g : TG} {fi : Dv → Option (List D)} {fe : Dv → Option D} {bv : D → Option (List D)}
end
/-! ### lists of so many -/
theorem len1 {α : Type} : ∀ {us : List α}, us.length = 1 → ∃ a, us = [a]
  | [a], _ => ⟨a, rfl⟩
theorem len2 {α : Type} {us : List α} (h : us.length = 2) : ∃ a b, us = [a, b] := by
  cases us with
  | nil => cases h
  | cons a r =>
    obtain ⟨b, rfl⟩ := len1 (Nat.succ.inj h)
    exact ⟨a, b, rfl⟩
theorem len3 {α : Type} {us : List α} (h : us.length = 3) : ∃ a b c, us = [a, b, c] := by
  cases us with
  | nil => cases h
  | cons a r =>
    obtain ⟨b, c, rfl⟩ := len2 (Nat.succ.inj h)
    exact ⟨a, b, c, rfl⟩
theorem len4 {α : Type} {us : List α} (h : us.length = 4) : ∃ a b c d, us = [a, b, c, d] := by
  cases us with
  | nil => cases h
  | cons a r =>
    obtain ⟨b, c, d, rfl⟩ := len3 (Nat.succ.inj h)
    exact ⟨a, b, c, d, rfl⟩
end VL

set_option Elab.async false
set_option linter.all false
set_option maxRecDepth 100000
set_option maxHeartbeats 4000000
namespace VL
open PySem PySem.Spec PyProof.Rows L2
--PURE
/-! ### lists of one's own handed on -/
--END
section
variable {X : Cx} {e : Expr} {es : List Expr} {p p' pos : Pos} {st : Stmt} {sts body : List Stmt} {f f1 f2 : Dv → Option (List D)} {s : Sf} {c : Expr} {ft : Dv → Option Bool}
end
/-! ### statements that always go on -/
theorem nxt_own (i : Nat) (f : Dv → Option (List D)) : Nxt (sOwn i f) := fun δ r h => by
  obtain ⟨x, _, h⟩ := bind_some h
  split at h
  · cases h; rfl
  · cases h
theorem nxt_seq {s t : Sf} (hs : Nxt s) (ht : Nxt t) : Nxt (sSeq s t) := fun δ r h => by
  obtain ⟨⟨fl, δ'⟩, e, h⟩ := bind_some h
  have : fl = .nx := hs _ _ e
  subst this
  exact ht _ r h
theorem nxt_loop {g : D → Dv → Option Dv} {b : Sf} (hb : Nxt b) : ∀ ds, Nxt (loop g b ds)
  | [], δ, r, h => by cases h; rfl
  | d :: ds, δ, r, h => by
    obtain ⟨δ1, e1, h⟩ := bind_some (show (g d δ).bind _ = _ from h)
    obtain ⟨⟨fl, δ2⟩, e2, h⟩ := bind_some h
    have : fl = .nx := hb _ _ e2
    subst this
    exact nxt_loop hb ds δ2 r h
theorem nxt_for {f : Dv → Option (List D)} {g : D → Dv → Option Dv} {b : Sf} (hb : Nxt b) : Nxt (sFor f g b) := fun δ r h => by
  obtain ⟨ds, e, h⟩ := bind_some h
  exact nxt_loop hb ds δ r h
theorem nxt_extL (i : Nat) (f : Dv → Option D) : Nxt (sExtL i f) := fun δ r h => by
  revert h
  unfold sExtL
  intro h
  obtain ⟨x, _, h⟩ := bind_some h
  obtain ⟨y, _, h⟩ := bind_some h
  obtain ⟨z, _, h⟩ := bind_some h
  split at h
  · cases h; rfl
  · cases h
/-- how a body's own end and its plain end go together -/
def OEnd (b : Sf) (f : Dv → Option (List D)) : Prop := ∀ δ δ' ds, b δ = some (.rt (.list ds), δ') → f δ = some ds
theorem oe_cons {s t : Sf} {f : Dv → Option (List D)} (hs : Nxt s) (h : OEnd t f) : OEnd (sSeq s t) (sqO s f) := fun δ δ' ds e => by
  obtain ⟨⟨fl, δ1⟩, e1, e⟩ := bind_some e
  have : fl = .nx := hs _ _ e1
  subst this
  unfold sqO
  rw [e1, Option.bind_some]
  exact h _ _ _ e
theorem oe_ret (q : Dv → Option D) : OEnd (sRet q) (oLi q) := fun δ δ' ds e => by
  obtain ⟨x, e1, e⟩ := bind_some (show (q δ).bind _ = _ from e)
  cases e
  unfold oLi
  rw [e1]; rfl
theorem run_O {N : List Str} {n : Nat} {b : Sf} {f : Dv → Option (List D)} (h : OEnd b f) : ∀ as ds, runB N n b as = some (.list ds) → as.length = n ∧ f (startD N as) = some ds := fun as ds e => by
  unfold runB at e
  split at e
  · rename_i hl
    obtain ⟨⟨fl, δ'⟩, e1, e⟩ := bind_some e
    refine ⟨hl, ?_⟩
    cases fl with
    | rt d => cases e; exact h _ _ _ e1
    | nx => cases e
    | bk => cases e
    | ct => cases e
  · cases e
end VL

set_option Elab.async false
set_option linter.all false
set_option maxRecDepth 100000
set_option maxHeartbeats 4000000
namespace VL
open PySem PySem.Spec PyProof.Rows L2
--PURE
/-! ### max of a list of ints -/
--END
section
variable {X : Cx}
end
end VL

set_option Elab.async false
set_option linter.all false
set_option maxRecDepth 100000
set_option maxHeartbeats 4000000
namespace VL
open PySem PySem.Spec PyProof.Rows L2
/-! ### a def without defaults, at the top -/
def DefIn (K : PySem.W.Frag) (x y : Str) (st : Stmt) : Prop := ∃ f fd, PySem.W.nsIn K mainGlobals x = some (some (.ref f)) ∧ FunV K y y st f fd .none ∧ PySem.W.keepIn K (.ref f) = true
def BindsAs (x : Str) (st : Stmt) (ps : List Str) : Prop := ∀ (kV doc pm : Value) (an : Option Addr) (cdv ct : Value) (us : List Value), us.length = ps.length → bindArgs (PySem.W.fnOf x x (defArgs st) (defBody st) (defScope st) .none kV doc pm an cdv ct) ⟨us, []⟩ = pure (ps.zip us)
section
variable {P : Program} {w : World} {K : PySem.W.Frag} {mg : Str → Option Value} {base h : Heap} {x y : Str} {st : Stmt} {k : Nat} {ps : List Str}
theorem DefIn.mk {f : Addr} {oc : Value} {od an : Option Addr} {osl : Array (Option Value)} {kV doc pm cdv ct : Value} (a : PySem.W.nsIn K mainGlobals x = some (some (.ref f))) (l : K.lookup f = some ⟨oc, od, .func (PySem.W.fnOf y y (defArgs st) (defBody st) (defScope st) .none kV doc pm an cdv ct), osl⟩)
    (c : PySem.W.codeIn K cdv y = true) (k : PySem.W.keepIn K (.ref f) = true) : DefIn K x y st := ⟨_, _, a, funV_mk l c k, k⟩
variable (D : DefIn K x y st) (X : K.In h) (G : h.Ns mainGlobals mg) (b : BindsAs y st ps)
include D X G
include b
theorem DefIn.cal {g : List VL.D → Option VL.D} (ok : ∀ f fd, FunV K y y st f fd .none → FnOk P w K mg base CX0 k f fd ps (spD K g)) : Cal P w K mg base x k g [] := by
  obtain ⟨f, fd, a, F, hk⟩ := D
  exact Cal.mk0 (ok f fd F) (PySem.W.mg_of X G a) hk (F.binds b)
theorem DefIn.calR {g : List VL.D → Option VL.D} (ok : ∀ f fd, FunV K y y st f fd .none → mg x = some (.ref f) → PySem.W.keepIn K (.ref f) = true → Binds K fd ps [] → FnOk P w K mg base CX0 k f fd ps (spD K g)) : Cal P w K mg base x k g [] := by
  obtain ⟨f, fd, a, F, hk⟩ := D
  exact Cal.mk0 (ok f fd F (PySem.W.mg_of X G a) hk (F.binds b)) (PySem.W.mg_of X G a) hk (F.binds b)
theorem DefIn.calO {g : List VL.D → Option VL.D} (ok : ∀ f fd, FunV K y y st f fd .none → FnOk P w K mg base CX0 k f fd ps (spO K g)) : CalO P w K mg base x k g [] := by
  obtain ⟨f, fd, a, F, hk⟩ := D
  exact ⟨⟨_, _, _, [], [], ok f fd F, PySem.W.mg_of X G a, hk, F.binds b, .nil, fun _ => .nil⟩⟩
end
/-- what a def with defaults goes on with, once its defaults are read -/
def bKw (fd : FuncData) (us : List Value) : {kk : Option (Array Value) → Sem (List (Str × Value)) // bindArgs fd ⟨us, []⟩ = seqItems? fd.defaults >>= kk} := ⟨_, rfl⟩
theorem FunV.bindsK {K : PySem.W.Frag} {x qual : Str} {st : Stmt} {f T : Addr} {fd : FuncData} {ps : List Str} {o : Obj} {items : Array Value} {n : Nat} {ds : List Value} (F : FunV K x qual st f fd (.ref T)) (ho : K.lookup T = some o) (hs : o.data = .seq items n) (nu : Nat) (hn : nu + ds.length = ps.length)
    (h : ∀ (kV doc pm : Value) (an : Option Addr) (cdv ct : Value) (us : List Value), us.length = nu → (bKw (PySem.W.fnOf x qual (defArgs st) (defBody st) (defScope st) (.ref T) kV doc pm an cdv ct) us).1 (some items) = pure (ps.zip (us ++ ds))) : Binds K fd ps ds :=
  F.bindsD ho hs nu hn fun kV doc pm an cdv ct us hl => ⟨_, (bKw (PySem.W.fnOf x qual (defArgs st) (defBody st) (defScope st) (.ref T) kV doc pm an cdv ct) us).2, h kV doc pm an cdv ct us hl⟩
end VL

set_option Elab.async false
set_option linter.all false
set_option maxRecDepth 100000
set_option maxHeartbeats 4000000
namespace VL
open PySem PySem.Spec PyProof.Rows L2
open AutoSeq1 (wpAny_loadPart')
/-! ### a tuple times an int -/
--PURE
--END
section
variable {X : Cx}
end
end VL

set_option Elab.async false
set_option linter.all false
set_option maxRecDepth 100000
set_option maxHeartbeats 4000000
namespace VL
open PySem PySem.Spec PyProof.Rows L2
/-! ### is True, is not True, of bools -/
--PURE
def isB (z : Bool) : D → D → Option D
  | .bool a, .bool b => some (.bool (z != (a == b)))
  | _, _ => none
@[simp] theorem isB_bool (z a b : Bool) : isB z (.bool a) (.bool b) = some (.bool (z != (a == b))) := rfl
--END
section
variable {X : Cx}
end
end VL

set_option Elab.async false
set_option linter.all false
set_option maxRecDepth 100000
set_option maxHeartbeats 4000000
namespace VL
open PySem PySem.Spec PyProof.Rows L2
/-! ### a call that raises, of a def with defaults -/
section
variable {m : Bool} {X : Cx} {e c : Expr} {es : List Expr} {f : Dv → Option D} {fs : Dv → Option (List D)} {ft : Dv → Option Bool} {fx : Dv → Option Str} {st : Stmt} {sts body orelse : List Stmt} {s1 : Sf} {u u1 u2 : Xf} {pos p : Pos}
end
end VL

-- CHANGE: your row's module here, as the last of these rows
set_option Elab.async false
set_option linter.all false
set_option maxRecDepth 100000
/-! THE HAND LAYER, for ints, bools, texts, own classes, DICTS (int and text keys), calls, loops. Paste it whole ahead of your own text; what your proof does not reach may be deleted. -/
namespace L2
open PySem PySem.Spec PyProof.Rows

end L2

namespace L2
open PySem PySem.Spec PyProof.Rows

section
variable (P : Program) (w : World)
end

section
variable {P : Program} {w : World} {H H' : Hp} {h h' : Heap} {a : Addr} {o : HO}
end

section
variable {P : Program} {w : World} {H : Hp} {h h' : Heap} {x e : Addr} {o' : HO}
end

/-! ### kept unless tracked; of the frames at fs (the callers') the slots may change (an exception that passes writes there); of the records at ex (iterators) nothing is said -/
section
variable {fs fs' ex ex' : List Addr} {H H1 H2 : Hp} {h h1 h2 h' : Heap} {a x e : Addr} {o : HO}
end

/-! ### the heap without what is tracked -/
/-! ### OpenK's ledger, filled with every new object but one -/
end L2

namespace L2
open PySem PySem.Spec PyProof.Rows

section
variable {X : Cx} {pins : List (Addr × Obj)} {σ : List (Option V)} {H H' : Hp} {s : Shared} {h' : Heap}

end

/-! ### the judgements -/
end L2

namespace L2
open PySem PySem.Spec PyProof.Rows
section
variable {X : Cx}

/-! ### names and constants -/
/-! ### arithmetic -/
variable {a b : Expr} {ta tb : TE} {pos : Pos}
/-! ### comparisons -/
/-! ### and, or, not -/
variable {tA tB' : TT} {rest : List Expr}
end
end L2

namespace L2
open PySem PySem.Spec PyProof.Rows

/-! ### a list, a tuple that is read: tracked, frozen, or an object of the module -/
section
variable {X : Cx} {pins : List (Addr × Obj)} {σ : St} {H : Hp} {s : Shared} {a : Addr} {xs ys : List V}
end

/-! ### another wish about exceptions -/
section
variable {X : Cx} {pins : List (Addr × Obj)} {σ : St} {H : Hp} {s : Shared} {E : Value → Shared → Prop}
end

/-! ### blocks and small statements -/
section
variable {X : Cx} {st : Stmt} {rest : List Stmt} {t u : TS} {e : Expr} {te : TE} {pos : Pos}
end

/-! ### targets -/
section
variable {X : Cx} {pos : Pos}
end

/-! ### while -/
section
variable {X : Cx} {pos : Pos}
end

/-! ### what a loop or a comprehension walks -/
end L2

namespace L2
open PySem PySem.Spec PyProof.Rows
section
variable {X : Cx} {tg : Expr}
/-! ### for -/
end

/-! ### the forms one uses -/
end L2

namespace L2
open PySem PySem.Spec PyProof.Rows

section
variable {X : Cx} {a b c : Expr} {ta tb tc : TE} {pos : Pos}

/-! ### ints -/
/-! ### bools among ints: n += (a < b) -/
end

/-! ### comparisons -/
section
variable {X : Cx} {a b c : Expr} {ta tb tc : TE} {pos : Pos}
/-! ### truth -/
/-! ### strs and bytes -/
/-! ### scalar builtins, by CallR -/
end
end L2

namespace L2
open PySem PySem.Spec PyProof.Rows

/-! ### an instance, its attributes a map -/
section
variable {prog : Program} {w : World} {A : Around} {E : Value → Shared → Prop} {s : Shared} {K : PySem.W.Frag} {x dx C f : Addr} {mA : Str → Option Value} {name : Str} {v : Value}

end

/-! ### the attributes as a list of pairs -/
section
variable {P : Program} {w : World} {H H' : Hp} {h h' : Heap} {a C dx : Addr} {fs fs' : List (Str × V)}
end

/-! ### what of the text a class must have -/
section
variable {X : Cx} {pins : List (Addr × Obj)} {σ : St} {H : Hp} {s : Shared} {a C dx : Addr} {fs : List (Str × V)} {f : Str} {v : V} {A : Around} {E : Value → Shared → Prop}

end

/-! ### readings and rules -/
section
variable {X : Cx} {o e value : Expr} {f : Str} {pos pos' tpos : Pos} {ta tv : TE}
end

/-! ### isinstance -/
section
variable {X : Cx} {pins : List (Addr × Obj)} {σ : St} {H : Hp} {s : Shared} {A : Around} {E : Value → Shared → Prop} {Q : Value → Shared → Prop} {c : Value} {b : Bool}
end
end L2

namespace L2
open PySem PySem.Spec PyProof.Rows

/-! ### room -/
/-! ### argument lists and displays -/
section
variable {X : Cx} {e : Expr} {es : List Expr} {te : TE} {t : TA} {pos : Pos}
end

/-! ### what a def promises -/
section
variable {X : Cx} {pins : List (Addr × Obj)} {σ : St} {H : Hp} {s s' : Shared}
end

/-! ### calls -/
section
variable {X : Cx} {CX : CXT} {k : Nat} {f C : Addr} {fd : FuncData} {ps : List Str} {sp : Sp} {dvs : List V} {ds : List Value} {E : XK} {x m : Str} {p pos apos : Pos} {e o : Expr} {es : List Expr} {ta : TE} {t : TA}

end

/-! ### keywords -/
section
variable {X : Cx} {CX : CXT} {k : Nat} {f C : Addr} {fd : FuncData} {ps ks : List Str} {sp : Sp} {E : XK} {x m : Str} {p pos apos kpos : Pos} {e o : Expr} {es : List Expr} {kws : List Keyword} {te ta : TE} {t tk : TA} {nm : Option Str}
variable {g : List Value → List Value → List Value} {gV : List V → List V → List V}
end

/-! ### a def's body keeps its promise -/
end L2

namespace L2
open PySem PySem.Spec PyProof.Rows
section
variable {X : Cx} {x : Str} {p pos : Pos} {e : Expr} {es : List Expr} {t : TA} {id T : String} {r : List V → Hp → VK → Prop}

end
end L2

namespace L2
open PySem PySem.Spec PyProof.Rows

/-! ### lists of pairs as tables -/
section
variable {κ : Type} [DecidableEq κ]
def valV (kvs : List (κ × V)) (k : κ) : Option V := (kvs.find? fun kv => decide (kv.1 = k)).map (·.2)
theorem valV_pos {p : κ × V} {r : List (κ × V)} {k : κ} (e : p.1 = k) : valV (p :: r) k = some p.2 := by simp [valV, List.find?_cons, e]
theorem valV_neg {p : κ × V} {r : List (κ × V)} {k : κ} (e : ¬ p.1 = k) : valV (p :: r) k = valV r k := by simp [valV, List.find?_cons, e]
theorem RelO.isSome_eq {o : Option V} {u : Option Value} (r : RelO o u) : o.isSome = u.isSome := by
  cases o with
  | none => cases u with
    | none => rfl
    | some _ => exact (show False from r).elim
  | some _ => cases u with
    | none => exact (show False from r).elim
    | some _ => rfl
/-- raw tables of the same keys -/
theorem KV.val {kvs : List (κ × V)} {vs : List (κ × Value)} (r : KV kvs vs) (k : κ) : RelO (valV kvs k) (valueAt vs k) := by
  unfold KV at r
  induction r with
  | nil => exact True.intro
  | @cons p q ps qs h t ih =>
    obtain ⟨h1, h2⟩ := h
    by_cases e : p.1 = k
    · have e' : q.1 = k := h1.symm.trans e
      have b : valueAt (q :: qs) k = some q.2 := by simp [valueAt, List.find?_cons, e']
      rw [valV_pos e, b]; exact h2
    · have e' : ¬ q.1 = k := fun z => e (h1.trans z)
      have b : valueAt (q :: qs) k = valueAt qs k := by simp [valueAt, List.find?_cons, e']
      rw [valV_neg e, b]; exact ih
end


/-! ### a tracked dict, its keys ints and texts or tuples of these -/
theorem kV_is {P : Program} {w : World} {k : Key} {u : Value} (r : RelV (kV k) u) : (mixKind P w).is k u = true := by
  cases k with
  | inl i => obtain ⟨t, e⟩ := (show ∃ t, u = Value.int i t from r); subst e; exact mixKind_int P w i t
  | inr x => obtain ⟨t, e⟩ := (show ∃ t, u = Value.str x t from r); subst e; exact mixKind_str P w x t
theorem items_are {P : Program} {w : World} : ∀ {ks : List Key} {us : List Value}, Vals (ks.map kV) us → ItemsAre (mixKind P w) ks us
  | [], _, r => by rw [List.map_nil] at r; cases r; exact .nil
  | k :: ks, _, r => by
    rw [List.map_cons] at r
    cases r with
    | cons h t => exact .cons (kV_is h) (items_are t)

/-- raw entries of a dict with tuple keys -/
abbrev KT (H : Hp) : List (List Key × V) → List (List Key × Addr × Value) → Prop := Paired fun p q => p.1 = q.1 ∧ H q.2.1 = some (.tup (p.1.map kV)) ∧ RelV p.2 q.2.2
theorem KT.val {H : Hp} {kvs : List (List Key × V)} {xs : List (List Key × Addr × Value)} (r : KT H kvs xs) (k : List Key) : RelO (valV kvs k) ((atKey xs k).map (·.2)) := by
  induction r with
  | nil => exact True.intro
  | @cons p q ps qs h t ih =>
    obtain ⟨h1, _, h2⟩ := h
    by_cases e : p.1 = k
    · have e' : q.1 = k := h1.symm.trans e
      have b : atKey (q :: qs) k = some q.2 := by simp [atKey, List.find?_cons, e']
      rw [valV_pos e, b]; exact h2
    · have e' : ¬ q.1 = k := fun z => e (h1.trans z)
      have b : atKey (q :: qs) k = atKey qs k := by simp [atKey, List.find?_cons, e']
      rw [valV_neg e, b]; exact ih
section
variable {P : Program} {w : World} {H : Hp} {h : Heap} {a : Addr}
theorem rd_of {u : HO} (ok : HOk P w H h) (e : Rd H a u) : ObjOk P w H h a u := e.ok ok
theorem dk_rd {kvs : List (Key × V)} (ok : HOk P w H h) (e : Rd H a (.dK kvs)) : kvs.length ≤ sizeLine ∧ (a == sysModules) = false ∧ ∃ vs, KV kvs vs ∧ h.DictOf (mixKind P w) a vs :=
  show ObjOk P w H h a (.dK kvs) from rd_of ok e
/-- a tracked tuple of ints and texts is a key -/
theorem key_of {ks : List Key} (ok : HOk P w H h) (e : H a = some (.tup (ks.map kV))) : (tupleKind (mixKind P w)).is h ks a := by
  obtain ⟨_, its, r, ⟨o, h1, h2, n, h3⟩, _⟩ := (show ObjOk P w H h a (.tup (ks.map kV)) from ok a _ e)
  exact ⟨o, its.toArray, n, h1, h2, h3, by simpa using items_are r⟩
theorem dt_rd {kvs : List (List Key × V)} (ok : HOk P w H h) (e : Rd H a (.dT kvs)) : kvs.length ≤ sizeLine ∧ (a == sysModules) = false ∧
    ∃ xs, KT H kvs xs ∧ h.DictOfH (tupleKind (mixKind P w)) a xs := by
  obtain ⟨z, y, xs, r, o, es, ep, h1, h2, h3, h4, h5⟩ := (show ObjOk P w H h a (.dT kvs) from rd_of ok e)
  refine ⟨z, y, xs, r, o, es, ep, h1, h2, h3, h4, fun x hx => ?_, h5⟩
  have all : ∀ {l : List (List Key × V)} {m : List (List Key × Addr × Value)}, KT H l m → ∀ x ∈ m, (tupleKind (mixKind P w)).is h x.1 x.2.1 := by
    intro l m q
    induction q with
    | nil => intro x hx; exact nomatch hx
    | @cons p q ps qs hq t ih =>
      intro x hx
      rcases List.mem_cons.mp hx with e | hx
      · subst e
        exact key_of ok (by rw [← hq.1]; exact hq.2.1)
      · exact ih x hx
  exact all r x hx
end

/-- what the dict at a holds at the key y -/
def DGet (H : Hp) (a : Addr) (y : V) (r : Option V) : Prop :=
  (∃ kvs k, Rd H a (.dK kvs) ∧ y = kV k ∧ r = valV kvs k) ∨ ∃ kvs k b, Rd H a (.dT kvs) ∧ y = .ref b ∧ H b = some (.tup (k.map kV)) ∧ r = valV kvs k
section
variable {X : Cx} {pins : List (Addr × Obj)} {σ : St} {H : Hp} {s : Shared} {a : Addr} {y v : V} {u r : Value} {o : Option V} {A : Around} {E : Value → Shared → Prop}

/-- y in d -/
theorem d_in {Q : Value → Shared → Prop} (hu : A.units + 1 < cLine) (I : Inv X pins σ H s) (g : DGet H a y o) (ry : RelV y u) (h : ∀ s', Inv X pins σ H s' → Q (.bool o.isSome) s') :
    wpAny (model X.prog X.w) A (compareOp .In u (.ref a)) Q E s := by
  rcases g with ⟨kvs, k, e, ey, l⟩ | ⟨kvs, k, b, e, ey, eb, l⟩
  · subst ey
    obtain ⟨z, hd, vs, rel, dd⟩ := dk_rd I.hok e
    refine wpAny_in_of (kV_is ry) hd dd.mapOf ?_
    rw [← (rel.val k).isSome_eq, ← l]
    exact h _ (I.tok _)
  · subst ey
    cases (show u = Value.ref b from ry)
    obtain ⟨z, hd, xs, rel, dd⟩ := dt_rd I.hok e
    refine wpAny_in_heap (tupleKind_room_in1 hu) (key_of I.hok eb) hd dd ?_
    have q := (rel.val k).isSome_eq
    rw [Option.isSome_map] at q
    rw [← q, ← l]
    exact h _ (I.tok _)
end

section
variable {X : Cx} {pins : List (Addr × Obj)} {σ : St} {H : Hp} {s : Shared} {a : Addr} {kvs : List (Key × V)} {k : Key} {u : Value} {A : Around} {E : Value → Shared → Prop}
end


/-! ### readings and rules -/
section
variable {X : Cx} {o i e value : Expr} {pos pos' tpos : Pos} {td ty tv : TE}
end


/-! ### displays -/
section
variable {X : Cx} {pos : Pos}
end

/-! ### methods -/
section
variable {X : Cx} {pins : List (Addr × Obj)} {σ : St} {H : Hp} {s : Shared} {a : Addr} {y d : V} {u r : Value} {o : Option V} {A : Around} {E : Value → Shared → Prop}
end

section
variable {X : Cx} {o e f : Expr} {apos cpos : Pos} {td ty tx : TE}
end

/-! ### dict(d): a copy -/
section
variable {X : Cx} {pins : List (Addr × Obj)} {σ : St} {H : Hp} {s : Shared} {a : Addr} {kvs : List (Key × V)} {A : Around} {E : Value → Shared → Prop}
end


section
variable {X : Cx} {pins : List (Addr × Obj)} {σ : St} {H : Hp} {s : Shared} {a : Addr} {y : V} {u : Value} {A : Around} {E : Value → Shared → Prop}
end
end L2

namespace Att
open PySem PySem.W PySem.Calls PyProof.Rows

/-! ### the script -/
/-! ### the attachment: holds_open's last premise (the goal 'hc' behind k_head) from a wpAny of the law's body -/
/-! ### rules over ANY heap (no ledger) from facts about the written part K: the library's own take a ledger (News) for what they write -/
section
variable {prog : Program} {w : World} {A : Around} {E : Value → Shared → Prop} {s : Shared} {K : Frag}

/-! the whole heap as the ledger: makes every rule that writes through a ledger a rule over any heap -/
end
end Att

namespace L2
open PySem PySem.Spec PyProof.Rows

end L2

namespace L2
open PySem PySem.Spec PyProof.Rows

end L2

/- THE LAST THEOREM (shape; LID, My.* are yours):
   My.Adr: a structure of the addresses that your layer names (classes, functions); My.Txt K t: a structure (Prop) of the equations over K;
   My.txt_mk : {K} {implicit addresses ..} (e1 : nsIn K mainGlobals "law" = some (some (.ref f))) (e2 : K.lookup f = some ⟨oc, od, .func (fnOf "law" "law" params body scope dV kV doc pm an cdv ct), sl⟩) (e3 : codeIn K cdv "law" = true) .. : ∃ t, My.Txt K t

(the tactic k_is has no namespace: write k_is) -/

/-! SHORT WORDS over the layer: a def of the text, its body, what a loop and a test want. -/
namespace L2
open PySem PySem.Spec PyProof.Rows

/-! ### the text by places -/
/-! ### no exception leaves a def -/
/-! ### a def (or method) of the text as it stands behind the top -/
section
variable {P : Program} {w : World} {K : PySem.W.Frag} {mg : Str → Option Value} {base : Heap}
end
/-! ### expressions in short: the name that stands in the i-th slot -/
section
variable {X : Cx}
end

/-! ### tests -/
/-! ### heaps -/
/-! ### a dict's pairs: keys that differ -/
section
variable {κ : Type} [DecidableEq κ]
end
end L2

set_option Elab.async false
set_option linter.all false
set_option maxRecDepth 100000
set_option maxHeartbeats 4000000
namespace VL
open PySem PySem.Spec PyProof.Rows L2
/-! ### dicts of one's own -/
--PURE
def keyD : D → Option Key
  | .int i => some (.inl i)
  | .str x => some (.inr x)
  | _ => none
@[simp] theorem keyD_int (i : Int) : keyD (.int i) = some (.inl i) := rfl
def slK : Option Sl → Option (List (Key × D))
  | some (.own (.d es)) => some es
  | _ => none
@[simp] theorem slK_od (es : List (Key × D)) : slK (some (.od es)) = some es := rfl
--END
section
variable {X : Cx} {e b c : Expr} {p pos tpos apos cpos : Pos} {f fk fv fx : Dv → Option D}
end
end VL

set_option Elab.async false
set_option linter.all false
set_option maxRecDepth 100000
set_option maxHeartbeats 4000000
namespace VL
open PySem PySem.Spec PyProof.Rows L2
/-! ### sorted(x) of a dict of one's own, with whole numbers for keys; list(range(n)) -/
--PURE
def insI (x : Int) : List Int → List Int
  | [] => [x]
  | y :: r => if x ≤ y then x :: y :: r else y :: insI x r
def isortI : List Int → List Int
  | [] => []
  | x :: r => insI x (isortI r)
theorem insI_perm (x : Int) : ∀ l : List Int, (insI x l).Perm (x :: l)
  | [] => .refl _
  | y :: r => by
    unfold insI
    split
    · exact .refl _
    · exact ((insI_perm x r).cons y).trans (.swap x y r)
theorem isortI_perm : ∀ l : List Int, (isortI l).Perm l
  | [] => .refl _
  | x :: r => (insI_perm x _).trans ((isortI_perm r).cons x)
theorem insI_pw (x : Int) : ∀ l : List Int, l.Pairwise (· ≤ ·) → (insI x l).Pairwise (· ≤ ·)
  | [], _ => by simp [insI]
  | y :: r, h => by
    obtain ⟨h1, h2⟩ := List.pairwise_cons.mp h
    unfold insI
    split
    · rename_i hx
      exact List.pairwise_cons.mpr ⟨fun z hz => by rcases List.mem_cons.mp hz with rfl | hz; exact hx; exact Int.le_trans hx (h1 z hz), h⟩
    · rename_i hx
      refine List.pairwise_cons.mpr ⟨fun z hz => ?_, insI_pw x r h2⟩
      rcases List.mem_cons.mp ((insI_perm x r).mem_iff.mp hz) with rfl | hz
      · omega
      · exact h1 z hz
theorem isortI_pw : ∀ l : List Int, (isortI l).Pairwise (· ≤ ·)
  | [] => .nil
  | x :: r => insI_pw x _ (isortI_pw r)
theorem sorted_one : ∀ {a b : List Int}, a.Perm b → a.Pairwise (· ≤ ·) → b.Pairwise (· ≤ ·) → a = b
  | [], b, p, _, _ => (List.nil_perm.mp p).symm
  | x :: a, b, p, ha, hb => by
    cases b with
    | nil => exact absurd (List.perm_nil.mp p) (by simp)
    | cons y b =>
      obtain ⟨ha1, ha2⟩ := List.pairwise_cons.mp ha
      obtain ⟨hb1, hb2⟩ := List.pairwise_cons.mp hb
      have e : x = y := by
        have h1 : x ∈ y :: b := p.mem_iff.mp List.mem_cons_self
        have h2 : y ∈ x :: a := p.mem_iff.mpr List.mem_cons_self
        rcases List.mem_cons.mp h1 with h1 | h1
        · exact h1
        · rcases List.mem_cons.mp h2 with h2 | h2
          · exact h2.symm
          · exact Int.le_antisymm (ha1 y h2) (hb1 x h1)
      subst e
      rw [sorted_one (List.perm_cons x |>.mp p) ha2 hb2]
theorem isortI_of {a b : List Int} (p : a.Perm b) (h : a.Pairwise (· ≤ ·)) : a = isortI b := sorted_one (p.trans (isortI_perm b).symm) h (isortI_pw b)
--END
theorem vals_ints : ∀ {out : List Value} {l : List Int}, IntsAre out l → Vals (l.map V.int) out
  | _, _, .nil => .nil
  | _, _, .cons n t r => .cons ⟨t, rfl⟩ (vals_ints r)
theorem kept_update {h : Heap} {a b : Addr} {f : Obj → Obj} {o : Obj} (hab : b ≠ a) (e : h.get? b = some o) : (h.update a f).get? b = some o := (Heap.get?_update_other _ _ (Ne.symm hab)).trans e
section
variable {X : Cx}
variable {e : Expr} {p p2 pos pos2 : Pos} {te : TE} {f : Dv → Option D}
end
end VL

set_option Elab.async false
set_option linter.all false
set_option maxRecDepth 100000
set_option maxHeartbeats 4000000
namespace VL
open PySem PySem.Spec PyProof.Rows L2
/-! ### list(zip(x, y)) of two lists -/
section
variable {prog : Program} {w : World} {A : Around} {E : Value → Shared → Prop} {s : Shared}
end
end VL

set_option Elab.async false
set_option linter.all false
set_option maxRecDepth 100000
set_option maxHeartbeats 4000000
namespace VL
open PySem PySem.Spec PyProof.Rows L2
--PURE
/-- list(zip(x, y)) -/
def zipLD : List D → Option D
  | [.list a, .list b] => some (.list (List.zipWith (fun x y => .tuple [x, y]) a b))
  | _ => none
@[simp] def oLD (fs : Dv → Option (List D)) (g : List D → Option D) : Dv → Option D := fun δ => (fs δ).bind g
@[simp] theorem zipLD_l (a b : List D) : zipLD [.list a, .list b] = some (.list (List.zipWith (fun x y => .tuple [x, y]) a b)) := rfl
--END
section
variable {prog : Program} {w : World} {A : Around} {s : Shared} {R : Result → Shared → Prop} {z TI TO i1 i2 l1 l2 S lo : Addr} {xs ys : Array Value}
end
section
variable {prog : Program} {w : World} {A : Around} {E : Value → Shared → Prop} {s : Shared} {z TI TO i1 i2 l1 l2 : Addr} {xs ys : Array Value}
end
/-! several objects laid at once -/
section
variable {X : Cx} {e1 e2 : Expr} {p p2 pos pos2 : Pos} {ta : TA} {fs : Dv → Option (List D)}
end
end VL

set_option Elab.async false
set_option linter.all false
set_option maxRecDepth 100000
set_option maxHeartbeats 4000000
namespace VL
open PySem PySem.Spec PyProof.Rows L2
/-! ### a dict of one's own, of whole numbers, that is known for good from here -/
--PURE
--END
section
variable {X : Cx} {st : Stmt} {s1 : Sf} {a b : Expr} {f fk : Dv → Option D} {p pos : Pos}
end
end VL

set_option Elab.async false
set_option linter.all false
set_option maxRecDepth 100000
set_option maxHeartbeats 4000000
namespace VL
open PySem PySem.Spec PyProof.Rows L2
/-! ### in, not in, of any plain data; list(range(a, b)) -/
--PURE
--END
section
variable {X : Cx}
end
section
variable {X : Cx} {e1 e2 : Expr} {p p2 pos pos2 : Pos} {ta : TA} {f g : Dv → Option D}
end
end VL

set_option Elab.async false
set_option linter.all false
set_option maxRecDepth 100000
set_option maxHeartbeats 4000000
namespace VL
open PySem PySem.Spec PyProof.Rows L2
/-! ### the kit's tree of asks, over keys that differ: it sorts -/
section
variable {cmp : Nat → Nat → (Bool → Shared → Prop) → Shared → Prop} {N : Nat} {key : Nat → Int}
variable {s : Shared} (hinj : ∀ i j, i < N → j < N → key i = key j → i = j) (hc : ∀ i j, i < N → j < N → i ≠ j → ∀ C : Bool → Shared → Prop, C (decide (key i < key j)) s → cmp i j C s)
end
end VL

set_option Elab.async false
set_option linter.all false
set_option maxRecDepth 100000
set_option maxHeartbeats 4000000
namespace VL
open PySem PySem.Spec PyProof.Rows L2
/-! ### a list of pairs sorted, its first parts whole numbers that differ -/
section
variable {prog : Program} {w : World} {A : Around} {E : Value → Shared → Prop} {s : Shared}
end
end VL

set_option Elab.async false
set_option linter.all false
set_option maxRecDepth 100000
set_option maxHeartbeats 4000000
namespace VL
open PySem PySem.Spec PyProof.Rows L2
/-! ### sorted(x.items()) of a dict of one's own, its keys whole numbers -/
--PURE
--END
section
variable {X : Cx} {o : Expr} {p pos apos cpos : Pos} {td : TE}
end
end VL

set_option Elab.async false
set_option linter.all false
set_option maxRecDepth 100000
set_option maxHeartbeats 4000000
namespace VL
open PySem PySem.Spec PyProof.Rows L2
/-! ### dict(pairs) -/
section
variable {prog : Program} {w : World} {A : Around} {E : Value → Shared → Prop} {s : Shared}
end
section
variable {prog : Program} {w : World} {A : Around} {R : Result → Shared → Prop} {I : Addr} {fp wr : List Addr} {G : Array GenState → Array GenState → Prop} {n : Nat} {P : Nat → Value → Prop} {St : Nat → Shared → Prop}
end
end VL

set_option Elab.async false
set_option linter.all false
set_option maxRecDepth 100000
set_option maxHeartbeats 4000000
namespace VL
open PySem PySem.Spec PyProof.Rows L2
/-! ### code that runs while an exception is handled whose context is None -/
section
variable {prog : Program} {w : World} {A : Around} {E : Value → Shared → Prop} {s : Shared} {α : Type}
end
section
variable {X : Cx} {tg : Expr}
end
section
variable {X : Cx} {scope : Scope} {vars : List Str} {caps : List (Nat × Str)} {elt tg iter cnd : Expr} {pos : Pos} {g : TG} {fi : Dv → Option (List D)} {ft : Dv → Option Bool} {fe : Dv → Option D} {bv : D → Option (List D)}
end
/-! ### a def that is called while an exception is handled -/
section
variable {P : Program} {w : World} {K : PySem.W.Frag} {mg : Str → Option Value} {base : Heap}
end
section
variable {X : Cx} {body : List Stmt} {b : Sf} {bx : Xf} {np hpos pos : Pos}
end
section
variable {P : Program} {w : World} {K : PySem.W.Frag} {mg : Str → Option Value} {base h : Heap} {x y : Str} {st : Stmt} {k : Nat} {ps : List Str}
end
end VL

set_option Elab.async false
set_option linter.all false
set_option maxRecDepth 100000
set_option maxHeartbeats 4000000
namespace VL
open PySem PySem.Spec PyProof.Rows L2
/-! ### a list told anew is read by all, and changed at last -/
--PURE
--END
section
variable {K : Fg} {Z : Hp} {a : Addr} {ys : List V} (ha : Z a = some (.lst ys))
include ha
end
section
variable {K : Fg} {H₀ Z₀ Z H : Hp} {δ : Dv} {σ : St}
end
section
variable {X : Cx} {e c : Expr} {st : Stmt} {sts : List Stmt} {s1 s2 : Sf} {f : Dv → Option D} {p pos apos : Pos}
/-! ### the statements of a def, one behind the other: lists may be forgotten -/
end
section
variable {P : Program} {w : World} {K : PySem.W.Frag} {mg : Str → Option Value} {base : Heap}
end
end VL

set_option Elab.async false
set_option linter.all false
set_option maxRecDepth 100000
set_option maxHeartbeats 4000000
namespace VL
open PySem PySem.Spec PyProof.Rows L2
/-! ### a list told anew is handed in, and a list comes back at the head of a tuple -/
--PURE
--END
section
variable {K : Fg} {H₀ Z₀ Z H : Hp} {δ : Dv} {σ : St}
end
section
variable {X : Cx} {e c b : Expr} {es : List Expr} {sts : List Stmt} {s2 : Sf} {fk fv : Dv → Option D} {fs : Dv → Option (List D)} {ft : Dv → Option Bool} {p pos pos1 tpos : Pos}
end
end VL

set_option Elab.async false
set_option linter.all false
set_option maxRecDepth 100000
set_option maxHeartbeats 4000000
namespace VL
open PySem PySem.Spec PyProof.Rows L2
/-! ### dict(pairs), the pairs in a tuple -/
section
variable {prog : Program} {w : World} {A : Around} {E : Value → Shared → Prop} {s : Shared}
end
--PURE
--END
section
variable {X : Cx}
/-! ### x = dict(t) -/
end
end VL

set_option Elab.async false
set_option linter.all false
set_option maxRecDepth 100000
set_option maxHeartbeats 4000000
namespace VL
open PySem PySem.Spec PyProof.Rows L2
/-! ### x = {k: v} -/
--PURE
--END
section
variable {K : Fg} {H₀ Z₀ Z H : Hp} {δ : Dv} {σ : St} {p : Addr} {o : HO}
end
section
variable {X : Cx}
end
end VL

set_option Elab.async false
set_option linter.all false
set_option maxRecDepth 100000
set_option maxHeartbeats 4000000
namespace VL
open PySem PySem.Spec PyProof.Rows L2
/-! ### a dict of one's own, handed to a def that changes it -/
--PURE
--END
/-! ### the statements of such a def: the first name keeps its dict -/
section
variable {X : Cx} {e b c : Expr} {st : Stmt} {sts body orelse : List Stmt} {s1 s2 : Sf} {f fk fv : Dv → Option D} {ft : Dv → Option Bool} {p pos tpos : Pos}
end
section
variable {P : Program} {w : World} {K : PySem.W.Frag} {mg : Str → Option Value} {base : Heap}
end
section
variable {K : Fg} {H₀ Z₀ Z H : Hp} {δ : Dv} {σ : St}
end
section
variable {X : Cx} {es : List Expr} {fs : Dv → Option (List D)} {p p2 pos cpos : Pos}
end
end VL

set_option Elab.async false
set_option linter.all false
set_option maxRecDepth 100000
set_option maxHeartbeats 4000000
namespace VL
open PySem PySem.Spec PyProof.Rows L2
/-! ### a test that reads a dict of one's own (of ints) by defs -/
--PURE
--END
/-! ### an expression that reads a list of one's own by defs, and tells no list -/
--PURE
--END
section
variable {P : Program} {w : World} {K : PySem.W.Frag} {mg : Str → Option Value} {base h : Heap} {x y : Str} {st : Stmt} {k : Nat} {ps : List Str}
end
end VL

set_option Elab.async false
set_option linter.all false
set_option maxRecDepth 100000
set_option maxHeartbeats 4000000
namespace VL
open PySem PySem.Spec PyProof.Rows L2
/-! ### sorted(set(x)), x a list or tuple of whole numbers -/
--PURE
/-- the whole numbers of a sequence -/
def intL : List D → Option (List Int)
  | [] => some []
  | .int i :: r => (intL r).bind fun l => some (i :: l)
  | _ :: _ => none
--END
/-! ### a set's table: its places rise -/
/-! ### sets of whole numbers -/
section
variable {prog : Program} {w : World} {A : Around} {E : Value → Shared → Prop} {s : Shared}
end
/-! ### set(x) -/
section
variable {prog : Program} {w : World} {A : Around} {R : Result → Shared → Prop} {I : Addr} {fp wr : List Addr} {G : Array GenState → Array GenState → Prop} {n : Nat} {P : Nat → Value → Prop} {St : Nat → Shared → Prop}
end
section
variable {prog : Program} {w : World} {A : Around} {E : Value → Shared → Prop} {s : Shared}
end
section
variable {prog : Program} {w : World} {A : Around} {E : Value → Shared → Prop} {s : Shared}
end
/-! ### a walk over a set -/
section
variable {M : Model} {prog : Program} {w : World} {A : Around} {E : Value → Shared → Prop} {s : Shared}
end
section
variable {prog : Program} {w : World} {A : Around} {E : Value → Shared → Prop} {s : Shared}
end
section
variable {prog : Program} {w : World} {A : Around} {E : Value → Shared → Prop} {s : Shared}
end
end VL

set_option Elab.async false
set_option linter.all false
set_option maxRecDepth 100000
set_option maxHeartbeats 4000000
namespace VL
open PySem PySem.Spec PyProof.Rows L2
section
variable {prog : Program} {w : World} {A : Around} {E : Value → Shared → Prop} {s : Shared}
end
section
variable {X : Cx}
variable {e : Expr} {p p2 pos pos2 : Pos} {te : TE} {f : Dv → Option D}
theorem vals_intsI : ∀ {l : List Int} {us : List Value}, Vals (l.map V.int) us → IntsAre us l
  | [], [], .nil => .nil
  | n :: l, u :: us, .cons h r => by
    obtain ⟨t, rfl⟩ := h
    exact .cons n t (vals_intsI r)
theorem intL_rep {K : Fg} {Z : Hp} : ∀ {vs : List V} {ds : List D} {l : List Int}, Reps K Z vs ds → intL ds = some l → vs = l.map V.int
  | _, _, _, .nil, h => by cases h; rfl
  | _, .int i :: ds, l, .cons r rs, h => by
    obtain ⟨l', e, h⟩ := bind_some h
    cases h
    rw [r.int_eq, intL_rep rs e]
    rfl
  | _, .none :: ds, l, .cons r rs, h => by cases h
  | _, .bool _ :: ds, l, .cons r rs, h => by cases h
  | _, .str _ :: ds, l, .cons r rs, h => by cases h
  | _, .list _ :: ds, l, .cons r rs, h => by cases h
  | _, .tuple _ :: ds, l, .cons r rs, h => by cases h
  | _, .dict _ :: ds, l, .cons r rs, h => by cases h
end
end VL

set_option Elab.async false
set_option linter.all false
set_option maxRecDepth 100000
set_option maxHeartbeats 4000000
namespace VL
open PySem PySem.Spec PyProof.Rows
/-! ### the sort of long lists: runs and merges -/
def gallop' : Bool → Keyed → Array Keyed → Nat → Nat → Nat → StateT SortSt Sem (Option Nat) := sortPriv% PySem.Builtin.gallop
def setMinGallop' : Nat → StateT SortSt Sem Unit := sortPriv% PySem.Builtin.setMinGallop
def mergeLo' : Array Keyed → Array Keyed → StateT SortSt Sem (Array Keyed) := sortPriv% PySem.Builtin.mergeLo
def mergeHi' : Array Keyed → Array Keyed → StateT SortSt Sem (Array Keyed) := sortPriv% PySem.Builtin.mergeHi
def beyond (left : Bool) (key : Keyed) (arr : Array Keyed) (base i : Nat) : StateT SortSt Sem (Option Bool) := do
  let x ← elem' arr (base + i)
  if left then lt' x key else return (← lt' key x).map (!·)
theorem gallop'_eq (left : Bool) (key : Keyed) (arr : Array Keyed) (base n hint : Nat) : gallop' left key arr base n hint = (do
  let mut lastofs := 0
  let mut ofs := 1
  let mut lo := 0
  let mut hi := 0
  let some right ← beyond left key arr base hint | return none
  if right then
    let maxofs := n - hint
    for _ in [0:n] do
      if ofs ≥ maxofs then break
      let some more ← beyond left key arr base (hint + ofs) | return none
      if !more then break
      lastofs := ofs
      ofs := 2 * ofs + 1
    lo := hint + lastofs + 1
    hi := hint + min ofs maxofs
  else
    let maxofs := hint + 1
    for _ in [0:n] do
      if ofs ≥ maxofs then break
      let some found ← beyond left key arr base (hint - ofs) | return none
      if found then break
      lastofs := ofs
      ofs := 2 * ofs + 1
    lo := hint + 1 - min ofs maxofs
    hi := hint - lastofs
  for _ in [0:n] do
    if lo ≥ hi then break
    let m := lo + (hi - lo) / 2
    let some more ← beyond left key arr base m | return none
    if more then lo := m + 1 else hi := m
  return some hi) := rfl
end VL

set_option Elab.async false
set_option linter.all false
set_option maxRecDepth 100000
set_option maxHeartbeats 4000000
namespace VL
open PySem PySem.Spec PyProof.Rows
section
variable {M : Model} {A : Around} {E : Value → Shared → Prop} {s : Shared} {st : SortSt}
theorem gallop_find {left : Bool} {key : Keyed} {arr : Array Keyed} {base n : Nat} {B : Nat → Bool} {lo hi : Nat} {Q : Option (Option Nat) × Nat × Nat → SortSt → Prop}
    (hb : ∀ i, i < n → ∀ Q : Option Bool → SortSt → Prop, Q (some (B i)) st → wpS M A E s (beyond left key arr base i) Q st) (mono : ∀ i j, i ≤ j → j < n → B j = true → B i = true)
    (h1 : lo ≤ hi) (h2 : hi ≤ n) (hlo : ∀ i, i < lo → B i = true) (hhi : ∀ i, hi ≤ i → i < n → B i = false)
    (h : ∀ r, r ≤ n → (∀ i, i < r → B i = true) → (∀ i, r ≤ i → i < n → B i = false) → Q (none, r, r) st) :
    wpS M A E s (forIn [0:n] ((none, lo, hi) : Option (Option Nat) × Nat × Nat) fun _ c => do
      if c.2.1 ≥ c.2.2 then pure (ForInStep.done (none, c.2.1, c.2.2)) else do
        let x ← beyond left key arr base (c.2.1 + (c.2.2 - c.2.1) / 2)
        match x with
        | some more => if more = true then pure (ForInStep.yield (none, c.2.1 + (c.2.2 - c.2.1) / 2 + 1, c.2.2)) else pure (ForInStep.yield (none, c.2.1, c.2.1 + (c.2.2 - c.2.1) / 2))
        | _ => pure (ForInStep.done (some none, c.2.1, c.2.2))) Q st := by
  refine wpS_forRange (I := fun t c st' => st' = st ∧ ∃ lo hi, c = (none, lo, hi) ∧ lo ≤ hi ∧ hi ≤ n ∧ hi - lo ≤ n - t ∧ (∀ i, i < lo → B i = true) ∧ (∀ i, hi ≤ i → i < n → B i = false)) ?step ?fin ⟨rfl, lo, hi, rfl, h1, h2, by omega, hlo, hhi⟩
  case fin =>
    rintro c st' ⟨rfl, lo, hi, rfl, a1, a2, a3, a4, a5⟩
    have : lo = hi := by omega
    subst this
    exact h lo a2 a4 a5
  case step =>
    rintro t c st' _ ht ⟨rfl, lo, hi, rfl, a1, a2, a3, a4, a5⟩
    dsimp only
    by_cases q : lo ≥ hi
    · rw [if_pos q]
      have : lo = hi := by omega
      subst this
      exact wpS_pure (h lo a2 a4 a5)
    · rw [if_neg q]
      refine wpS_bind (hb _ (by omega) _ ?_)
      dsimp only
      cases e : B (lo + (hi - lo) / 2) with
      | true =>
        simp only [if_true]
        refine wpS_pure ⟨rfl, _, _, rfl, by omega, a2, by omega, fun i hi' => mono i _ (by omega) (by omega) e, a5⟩
      | false =>
        simp only [Bool.false_eq_true, if_false]
        refine wpS_pure ⟨rfl, _, _, rfl, by omega, by omega, by omega, a4, fun i h3 h4 => ?_⟩
        cases e2 : B i with
        | false => rfl
        | true => rw [mono _ i h3 h4 e2] at e; cases e
theorem wpS_gallop {left : Bool} {key : Keyed} {arr : Array Keyed} {base n hint : Nat} {B : Nat → Bool} {Q : Option Nat → SortSt → Prop} (hh : hint < n)
    (hb : ∀ i, i < n → ∀ Q : Option Bool → SortSt → Prop, Q (some (B i)) st → wpS M A E s (beyond left key arr base i) Q st) (mono : ∀ i j, i ≤ j → j < n → B j = true → B i = true)
    (h : ∀ r, r ≤ n → (∀ i, i < r → B i = true) → (∀ i, r ≤ i → i < n → B i = false) → Q (some r) st) :
    wpS M A E s (gallop' left key arr base n hint) Q st := by
  rw [gallop'_eq]
  refine wpS_bind (hb hint hh _ ?_)
  dsimp only
  cases e : B hint with
  | true =>
    simp only [if_true]
    refine wpS_bind (wpS_mono (wpS_forRange (I := fun t c st' => st' = st ∧ ∃ last ofs, c = (none, last, ofs) ∧ last < ofs ∧ t + 1 ≤ ofs ∧ hint + last < n ∧ B (hint + last) = true)
      (Q := fun c st' => st' = st ∧ ∃ last ofs, c = (none, last, ofs) ∧ last < ofs ∧ hint + last < n ∧ B (hint + last) = true ∧ (n - hint ≤ ofs ∨ B (hint + ofs) = false)) ?step ?fin ⟨rfl, 0, 1, rfl, by omega, by omega, by omega, by simpa using e⟩) ?post)
    case fin =>
      rintro c st' ⟨rfl, last, ofs, rfl, a1, a2, a3, a4⟩
      exact ⟨rfl, last, ofs, rfl, a1, a3, a4, .inl (by omega)⟩
    case step =>
      rintro t c st' _ ht ⟨rfl, last, ofs, rfl, a1, a2, a3, a4⟩
      dsimp only
      by_cases q : ofs ≥ n - hint
      · rw [if_pos q]
        exact wpS_pure ⟨rfl, last, ofs, rfl, a1, a3, a4, .inl q⟩
      · rw [if_neg q]
        refine wpS_bind (hb _ (by omega) _ ?_)
        dsimp only
        cases e2 : B (hint + ofs) with
        | false =>
          simp only [Bool.not_false, if_true]
          exact wpS_pure ⟨rfl, last, ofs, rfl, a1, a3, a4, .inr e2⟩
        | true =>
          simp only [Bool.not_true, Bool.false_eq_true, if_false]
          exact wpS_pure ⟨rfl, ofs, 2 * ofs + 1, rfl, by omega, by omega, by omega, e2⟩
    case post =>
      rintro c st' ⟨rfl, last, ofs, rfl, a1, a3, a4, a5⟩
      dsimp only
      refine wpS_bind (gallop_find (lo := hint + last + 1) (hi := hint + min ofs (n - hint)) hb mono (by omega) (by omega) (fun i hi => mono i _ (by omega) a3 a4) (fun i h3 h4 => ?_) fun r r1 r2 r3 => ?_)
      · rcases a5 with a5 | a5
        · omega
        · cases e2 : B i with
          | false => rfl
          | true => rw [mono _ i (by omega) h4 e2] at a5; cases a5
      · exact wpS_pure (h r r1 r2 r3)
  | false =>
    simp only [Bool.false_eq_true, if_false]
    refine wpS_bind (wpS_mono (wpS_forRange (I := fun t c st' => st' = st ∧ ∃ last ofs, c = (none, last, ofs) ∧ last < ofs ∧ t + 1 ≤ ofs ∧ last ≤ hint ∧ B (hint - last) = false)
      (Q := fun c st' => st' = st ∧ ∃ last ofs, c = (none, last, ofs) ∧ last < ofs ∧ last ≤ hint ∧ B (hint - last) = false ∧ (hint + 1 ≤ ofs ∨ B (hint - ofs) = true)) ?step ?fin ⟨rfl, 0, 1, rfl, by omega, by omega, by omega, by simpa using e⟩) ?post)
    case fin =>
      rintro c st' ⟨rfl, last, ofs, rfl, a1, a2, a3, a4⟩
      exact ⟨rfl, last, ofs, rfl, a1, a3, a4, .inl (by omega)⟩
    case step =>
      rintro t c st' _ ht ⟨rfl, last, ofs, rfl, a1, a2, a3, a4⟩
      dsimp only
      by_cases q : ofs ≥ hint + 1
      · rw [if_pos q]
        exact wpS_pure ⟨rfl, last, ofs, rfl, a1, a3, a4, .inl q⟩
      · rw [if_neg q]
        refine wpS_bind (hb _ (by omega) _ ?_)
        dsimp only
        cases e2 : B (hint - ofs) with
        | true =>
          simp only [if_true]
          exact wpS_pure ⟨rfl, last, ofs, rfl, a1, a3, a4, .inr e2⟩
        | false =>
          simp only [Bool.false_eq_true, if_false]
          exact wpS_pure ⟨rfl, ofs, 2 * ofs + 1, rfl, by omega, by omega, by omega, e2⟩
    case post =>
      rintro c st' ⟨rfl, last, ofs, rfl, a1, a3, a4, a5⟩
      dsimp only
      refine wpS_bind (gallop_find (lo := hint + 1 - min ofs (hint + 1)) (hi := hint - last) hb mono (by omega) (by omega) (fun i hi => ?_) (fun i h3 h4 => ?_) fun r r1 r2 r3 => ?_)
      · rcases a5 with a5 | a5
        · omega
        · exact mono i _ (by omega) (by omega) a5
      · cases e2 : B i with
        | false => rfl
        | true => rw [mono _ i (by omega) h4 e2] at a4; cases a4
      · exact wpS_pure (h r r1 r2 r3)
end
end VL

set_option Elab.async false
set_option linter.all false
set_option maxRecDepth 100000
set_option maxHeartbeats 4000000
namespace VL
open PySem PySem.Spec PyProof.Rows
section
variable {κ : Keyed → Int} {all out l ra rb : List Keyed} {m : Keyed}
def Asc (κ : Keyed → Int) (l : List Keyed) : Prop := l.Pairwise fun x y => κ x ≤ κ y
theorem Asc.app (h1 : Asc κ l) (h2 : Asc κ ra) (h : ∀ x ∈ l, ∀ y ∈ ra, κ x ≤ κ y) : Asc κ (l ++ ra) := List.pairwise_append.mpr ⟨h1, h2, h⟩
theorem Asc.left (h : Asc κ (l ++ ra)) : Asc κ l := (List.pairwise_append.mp h).1
theorem Asc.right (h : Asc κ (l ++ ra)) : Asc κ ra := (List.pairwise_append.mp h).2.1
theorem Asc.mid (h : Asc κ (l ++ ra)) : ∀ x ∈ l, ∀ y ∈ ra, κ x ≤ κ y := (List.pairwise_append.mp h).2.2
structure LI (κ : Keyed → Int) (all out ra rb : List Keyed) : Prop where
  pm : (out ++ (ra ++ rb)).Perm all
  so : Asc κ out
  le : ∀ x ∈ out, ∀ y ∈ ra ++ rb, κ x ≤ κ y
  sa : Asc κ ra
  sb : Asc κ rb
theorem LI.mvA (h : LI κ all out (l ++ ra) rb) (q : ∀ x ∈ l, ∀ y ∈ rb, κ x ≤ κ y) : LI κ all (out ++ l) ra rb where
  pm := by
    have := h.pm
    simpa [List.append_assoc] using this
  so := h.so.app h.sa.left fun x hx y hy => h.le x hx y (by simp [hy])
  le x hx y hy := by
    rcases List.mem_append.mp hx with hx | hx
    · exact h.le x hx y (by simp at hy ⊢; rcases hy with hy | hy <;> simp [hy])
    · rcases List.mem_append.mp hy with hy | hy
      · exact h.sa.mid x hx y hy
      · exact q x hx y hy
  sa := h.sa.right
  sb := h.sb
theorem LI.swap (h : LI κ all out ra rb) : LI κ all out rb ra where
  pm := ((List.Perm.refl out).append List.perm_append_comm).trans h.pm
  so := h.so
  le x hx y hy := h.le x hx y (by simp at hy ⊢; exact hy.symm)
  sa := h.sb
  sb := h.sa
theorem LI.mvB (h : LI κ all out ra (l ++ rb)) (q : ∀ x ∈ l, ∀ y ∈ ra, κ x ≤ κ y) : LI κ all (out ++ l) ra rb := (h.swap.mvA q).swap
theorem LI.endA (h : LI κ all out ra []) : (out ++ ra).Perm all ∧ Asc κ (out ++ ra) := ⟨by simpa using h.pm, h.so.app h.sa fun x hx y hy => h.le x hx y (by simp [hy])⟩
theorem LI.endB (h : LI κ all out [] rb) : (out ++ rb).Perm all ∧ Asc κ (out ++ rb) := h.swap.endA
theorem LI.last (h : LI κ all out [m] rb) (q : ∀ y ∈ rb, κ y ≤ κ m) : (out ++ (rb ++ [m])).Perm all ∧ Asc κ (out ++ (rb ++ [m])) :=
  ⟨h.swap.pm, h.so.app (h.sb.app (List.pairwise_singleton _ _) fun x hx y hy => by rw [List.mem_singleton.mp hy]; exact q x hx) fun x hx y hy => h.le x hx y (by simp at hy ⊢; exact hy.symm)⟩
end
section
variable {M : Model} {A : Around} {E : Value → Shared → Prop} {s : Shared} {κ : Keyed → Int} {S : Keyed → Prop} {kd : SortKind}
/-- each question is answered by κ -/
def Tells (M : Model) (A : Around) (E : Value → Shared → Prop) (s : Shared) (kd : SortKind) (κ : Keyed → Int) (S : Keyed → Prop) : Prop :=
  ∀ x y, S x → S y → ∀ (st : SortSt) (Q : Option Bool → SortSt → Prop), kindOf st = kd → Q (some (decide (κ x < κ y))) st → wpS M A E s (lt' x y) Q st
theorem wpS_elem {arr : Array Keyed} {i : Nat} {x : Keyed} {st : SortSt} {Q : Keyed → SortSt → Prop} (h : arr[i]? = some x) (q : Q x st) : wpS M A E s (elem' arr i) Q st := by
  rw [elem'_eq, h]; exact wpS_pure q
/-- a stretch of an array -/
structure Stretch (κ : Keyed → Int) (S : Keyed → Prop) (arr : Array Keyed) (base n : Nat) (l : List Keyed) : Prop where
  eq : (arr.toList.drop base).take n = l
  len : l.length = n
  all : ∀ x ∈ l, S x
  asc : Asc κ l
theorem Stretch.get {arr : Array Keyed} {base n : Nat} {l : List Keyed} (h : Stretch κ S arr base n l) {i : Nat} (hi : i < l.length) : arr[base + i]? = some l[i] := by
  have e : ((arr.toList.drop base).take n)[i]? = l[i]? := by rw [h.eq]
  rw [List.getElem?_take_of_lt (by have := h.len; omega), List.getElem?_drop, Array.getElem?_toList, List.getElem?_eq_getElem hi] at e
  exact e
theorem wpS_bey (T : Tells M A E s kd κ S) {left : Bool} {key : Keyed} {arr : Array Keyed} {base i : Nat} {x : Keyed} {st : SortSt} {Q : Option Bool → SortSt → Prop} (hk : S key) (hx : arr[base + i]? = some x) (sx : S x) (ek : kindOf st = kd)
    (q : Q (some (if left = true then decide (κ x < κ key) else !decide (κ key < κ x))) st) : wpS M A E s (beyond left key arr base i) Q st := by
  unfold beyond
  refine wpS_bind (wpS_elem hx ?_)
  cases left with
  | true =>
    simp only [if_true] at q ⊢
    exact T x key sx hk st _ ek q
  | false =>
    simp only [Bool.false_eq_true, if_false] at q ⊢
    exact wpS_bind (T key x hk sx st _ ek (wpS_pure q))
/-- how many of a stretch lie before key -/
theorem wpS_gal (T : Tells M A E s kd κ S) {left : Bool} {key : Keyed} {arr : Array Keyed} {base n hint : Nat} {l : List Keyed} {st : SortSt} {Q : Option Nat → SortSt → Prop} (hs : Stretch κ S arr base n l) (hk : S key) (ek : kindOf st = kd) (hh : hint < n)
    (h : ∀ l1 l2, l = l1 ++ l2 → (∀ x ∈ l1, if left = true then κ x < κ key else κ x ≤ κ key) → (∀ x ∈ l2, if left = true then κ key ≤ κ x else κ key < κ x) → Q (some l1.length) st) :
    wpS M A E s (gallop' left key arr base n hint) Q st := by
  have hl := hs.len
  refine wpS_gallop (B := fun i => if left = true then decide (κ (l.getD i key) < κ key) else !decide (κ key < κ (l.getD i key))) hh (fun i hi Q' q => ?_) (fun i j hij hj e => ?_) fun r hr r1 r2 => ?_
  · have e : l.getD i key = l[i] := by simp [hl, hi]
    rw [e] at q
    exact wpS_bey T hk (hs.get (by omega)) (hs.all _ (List.getElem_mem _)) ek q
  · have e1 : l.getD i key = l[i]'(by omega) := by simp [hl, show i < n by omega]
    have e2 : l.getD j key = l[j]'(by omega) := by simp [hl, hj]
    have c : κ (l[i]'(by omega)) ≤ κ (l[j]'(by omega)) := by
      rcases Nat.lt_or_ge i j with q | q
      · exact List.pairwise_iff_getElem.mp hs.asc i j (by omega) (by omega) q
      · have : i = j := by omega
        subst this; exact Int.le_refl _
    rw [e1]
    rw [e2] at e
    cases left with
    | true => simp only [if_true, decide_eq_true_eq] at e ⊢; omega
    | false =>
      simp only [Bool.false_eq_true, if_false, Bool.not_eq_true', decide_eq_false_iff_not] at e ⊢
      omega
  · have := h (l.take r) (l.drop r) (List.take_append_drop r l).symm (fun x hx => ?_) (fun x hx => ?_)
    · rw [List.length_take, hl, Nat.min_eq_left hr] at this; exact this
    · obtain ⟨i, hi, rfl⟩ := List.mem_iff_getElem.mp hx
      rw [List.length_take] at hi
      have q := r1 i (by omega)
      have e : l.getD i key = l[i]'(by omega) := by simp [hl, show i < n by omega]
      rw [e] at q
      rw [List.getElem_take]
      cases left with
      | true => simpa using q
      | false => simpa using q
    · obtain ⟨i, hi, rfl⟩ := List.mem_iff_getElem.mp hx
      rw [List.length_drop] at hi
      have q := r2 (r + i) (by omega) (by omega)
      have e : l.getD (r + i) key = l[r + i]'(by omega) := by simp [hl, show r + i < n by omega]
      rw [e] at q
      rw [List.getElem_drop]
      cases left with
      | true => simpa using q
      | false => simpa using q
end
end VL

set_option Elab.async false
set_option linter.all false
set_option maxRecDepth 100000
set_option maxHeartbeats 4000000
namespace VL
open PySem PySem.Spec PyProof.Rows
theorem mergeLo'_eq (a b : Array Keyed) : mergeLo' a b = (do
  rule "list.sort.merge-lo"
  let mut out : Array Keyed := #[← elem' b 0]
  let mut ia := 0
  let mut ib := 1
  if ib == b.size then return out ++ a.extract ia a.size ++ b.extract ib b.size
  if ia + 1 == a.size then return out ++ b.extract ib b.size ++ a.extract ia a.size
  let mut minGallop := gallopOf (← get)
  for _ in [0:a.size + b.size] do
    let mut acount := 0
    let mut bcount := 0
    for _ in [0:a.size + b.size] do
      let some bWins ← lt' (← elem' b ib) (← elem' a ia) | return out ++ a.extract ia a.size ++ b.extract ib b.size
      if bWins then
        out := out.push (← elem' b ib); ib := ib + 1; bcount := bcount + 1; acount := 0
        if ib == b.size then return out ++ a.extract ia a.size ++ b.extract ib b.size
        if bcount ≥ minGallop then break
      else
        out := out.push (← elem' a ia); ia := ia + 1; acount := acount + 1; bcount := 0
        if ia + 1 == a.size then return out ++ b.extract ib b.size ++ a.extract ia a.size
        if acount ≥ minGallop then break
    rule "list.sort.gallop"
    minGallop := minGallop + 1
    for _ in [0:a.size + b.size] do
      if minGallop > 1 then minGallop := minGallop - 1
      setMinGallop' minGallop
      let some k ← gallop' false (← elem' b ib) a ia (a.size - ia) 0 | return out ++ a.extract ia a.size ++ b.extract ib b.size
      acount := k
      if k > 0 then
        out := out ++ a.extract ia (ia + k); ia := ia + k
        if ia + 1 == a.size then return out ++ b.extract ib b.size ++ a.extract ia a.size
        if ia == a.size then return out ++ a.extract ia a.size ++ b.extract ib b.size
      out := out.push (← elem' b ib); ib := ib + 1
      if ib == b.size then return out ++ a.extract ia a.size ++ b.extract ib b.size
      let some k ← gallop' true (← elem' a ia) b ib (b.size - ib) 0 | return out ++ a.extract ia a.size ++ b.extract ib b.size
      bcount := k
      if k > 0 then
        out := out ++ b.extract ib (ib + k); ib := ib + k
        if ib == b.size then return out ++ a.extract ia a.size ++ b.extract ib b.size
      out := out.push (← elem' a ia); ia := ia + 1
      if ia + 1 == a.size then return out ++ b.extract ib b.size ++ a.extract ia a.size
      if acount < 7 && bcount < 7 then break
    minGallop := minGallop + 1
    setMinGallop' minGallop
  unsupported "internal:list.sort.merge-bound") := rfl
section
variable {M : Model} {A : Around} {E : Value → Shared → Prop} {s : Shared} {κ : Keyed → Int} {S : Keyed → Prop} {kd : SortKind}
/-- the state but for the count that tells when to gallop -/
def SameBut (st st' : SortSt) : Prop := kindOf st' = kindOf st ∧ arrOf st' = arrOf st ∧ pendingOf st' = pendingOf st ∧ failedOf st' = failedOf st
theorem SameBut.refl (st : SortSt) : SameBut st st := ⟨rfl, rfl, rfl, rfl⟩
theorem wpS_setG {st0 st : SortSt} {g : Nat} {Q : Unit → SortSt → Prop} (sm : SameBut st0 st) (q : ∀ st', SameBut st0 st' → Q () st') : wpS M A E s (setMinGallop' g) Q st := by
  show wpS M A E s (modify fun x => SortSt.mk' (kindOf x) (arrOf x) (pendingOf x) g (failedOf x)) Q st
  exact wpS_modify (q _ sm)
/-- a part of the merge is done -/
def MI (κ : Keyed → Int) (a b out : Array Keyed) (ia ib : Nat) : Prop := LI κ (a.toList ++ b.toList) out.toList (a.toList.drop ia) (b.toList.drop ib)
def Good (κ : Keyed → Int) (a b out : Array Keyed) : Prop := out.toList.Perm (a.toList ++ b.toList) ∧ Asc κ out.toList
variable {a b out : Array Keyed} {ia ib : Nat}
theorem drop_get {xs : Array Keyed} {i : Nat} {x : Keyed} (h : xs[i]? = some x) : xs.toList.drop i = [x] ++ xs.toList.drop (i + 1) := by
  rw [← Array.getElem?_toList] at h
  obtain ⟨q, e⟩ := List.getElem?_eq_some_iff.mp h
  rw [List.drop_eq_getElem_cons q, e]; rfl
theorem get_lt {xs : Array Keyed} {i : Nat} (h : i < xs.size) : ∃ x, xs[i]? = some x := ⟨xs[i], Array.getElem?_eq_getElem h⟩
theorem drop_cut {xs : Array Keyed} {i k : Nat} {l1 l2 : List Keyed} (h : xs.toList.drop i = l1 ++ l2) (hk : l1.length = k) : (xs.extract i (i + k)).toList = l1 ∧ xs.toList.drop (i + k) = l2 := by
  constructor
  · rw [Array.toList_extract, List.extract_eq_drop_take, h, show i + k - i = k by omega, ← hk, List.take_left]
  · rw [← List.drop_drop, h, ← hk, List.drop_left]
theorem extr {xs : Array Keyed} (i : Nat) : (xs.extract i xs.size).toList = xs.toList.drop i := by
  rw [Array.toList_extract, List.extract_eq_drop_take, List.take_of_length_le (by simp)]
theorem MI.pushB (h : MI κ a b out ia ib) {y : Keyed} (hy : b[ib]? = some y) (q : ∀ x ∈ a.toList.drop ia, κ y ≤ κ x) : MI κ a b (out.push y) ia (ib + 1) := by
  unfold MI at h ⊢
  rw [drop_get hy] at h
  rw [Array.toList_push]
  exact h.mvB fun x hx z hz => by rw [List.mem_singleton.mp hx]; exact q z hz
theorem MI.pushA (h : MI κ a b out ia ib) {y : Keyed} (hy : a[ia]? = some y) (q : ∀ x ∈ b.toList.drop ib, κ y ≤ κ x) : MI κ a b (out.push y) (ia + 1) ib := by
  unfold MI at h ⊢
  rw [drop_get hy] at h
  rw [Array.toList_push]
  exact h.mvA fun x hx z hz => by rw [List.mem_singleton.mp hx]; exact q z hz
theorem MI.appA (h : MI κ a b out ia ib) {l1 l2 : List Keyed} (e : a.toList.drop ia = l1 ++ l2) (q : ∀ x ∈ l1, ∀ y ∈ b.toList.drop ib, κ x ≤ κ y) : MI κ a b (out ++ a.extract ia (ia + l1.length)) (ia + l1.length) ib := by
  obtain ⟨e1, e2⟩ := drop_cut e rfl
  unfold MI at h ⊢
  rw [Array.toList_append, e1, e2]
  rw [e] at h
  exact h.mvA q
theorem MI.appB (h : MI κ a b out ia ib) {l1 l2 : List Keyed} (e : b.toList.drop ib = l1 ++ l2) (q : ∀ x ∈ l1, ∀ y ∈ a.toList.drop ia, κ x ≤ κ y) : MI κ a b (out ++ b.extract ib (ib + l1.length)) ia (ib + l1.length) := by
  obtain ⟨e1, e2⟩ := drop_cut e rfl
  unfold MI at h ⊢
  rw [Array.toList_append, e1, e2]
  rw [e] at h
  exact h.mvB q
theorem MI.done (h : MI κ a b out ia ib) (e : ib = b.size ∨ ia = a.size) : Good κ a b (out ++ a.extract ia a.size ++ b.extract ib b.size) := by
  unfold Good
  unfold MI at h
  rw [Array.toList_append, Array.toList_append, extr, extr]
  rcases e with e | e
  · have : b.toList.drop ib = [] := by rw [e]; exact List.drop_of_length_le (by simp)
    rw [this] at h ⊢
    rw [List.append_nil]
    exact h.endA
  · have : a.toList.drop ia = [] := by rw [e]; exact List.drop_of_length_le (by simp)
    rw [this] at h ⊢
    rw [List.append_nil]
    exact h.endB
theorem MI.last (h : MI κ a b out ia ib) (e : ia + 1 = a.size) (q : ∀ x, a[a.size - 1]? = some x → ∀ y ∈ b.toList, κ y ≤ κ x) : Good κ a b (out ++ b.extract ib b.size ++ a.extract ia a.size) := by
  unfold Good
  obtain ⟨x, hx⟩ := get_lt (xs := a) (i := ia) (by omega)
  have hd := drop_get hx
  have : a.toList.drop (ia + 1) = [] := by rw [e]; exact List.drop_of_length_le (by simp)
  rw [this, List.append_nil] at hd
  unfold MI at h
  rw [Array.toList_append, Array.toList_append, extr, extr, hd, List.append_assoc]
  rw [hd] at h
  exact h.last fun y hy => q x (by rw [show a.size - 1 = ia by omega]; exact hx) y (List.mem_of_mem_drop hy)
end
end VL

set_option Elab.async false
set_option linter.all false
set_option maxRecDepth 100000
set_option maxHeartbeats 4000000
namespace VL
open PySem PySem.Spec PyProof.Rows
section
variable {M : Model} {A : Around} {E : Value → Shared → Prop} {s : Shared} {κ : Keyed → Int} {S : Keyed → Prop} {kd : SortKind}
variable {a b : Array Keyed}
theorem Asc.rest {xs : Array Keyed} (h : Asc κ xs.toList) (i : Nat) : Asc κ (xs.toList.drop i) := List.Pairwise.drop h
theorem asc_head {xs : Array Keyed} (h : Asc κ xs.toList) {i : Nat} {x : Keyed} (e : xs[i]? = some x) : ∀ y ∈ xs.toList.drop i, κ x ≤ κ y := fun y hy => by
  have q := h.rest i
  rw [drop_get e] at q hy
  rcases List.mem_append.mp hy with hy | hy
  · rw [List.mem_singleton.mp hy]; exact Int.le_refl _
  · exact q.mid x (List.mem_singleton.mpr rfl) y hy
theorem mem_get {xs : Array Keyed} {i : Nat} {x : Keyed} (e : xs[i]? = some x) : x ∈ xs.toList := by
  rw [← Array.getElem?_toList] at e; exact List.mem_of_getElem? e
theorem stretch {xs : Array Keyed} (h : Asc κ xs.toList) (hS : ∀ x ∈ xs.toList, S x) (i : Nat) : Stretch κ S xs i (xs.size - i) (xs.toList.drop i) where
  eq := List.take_of_length_le (by simp)
  len := by simp
  all x hx := hS x (List.mem_of_mem_drop hx)
  asc := h.rest i
/-- what a loop of the merge leaves: the whole, or a part with so much to go -/
def Part (κ : Keyed → Int) (a b : Array Keyed) (B : Nat) (ro : Option (Array Keyed)) (out : Array Keyed) (ia ib : Nat) : Prop :=
  (∃ r, ro = some r ∧ Good κ a b r) ∨ (ro = none ∧ MI κ a b out ia ib ∧ ia + 1 < a.size ∧ ib < b.size ∧ (a.size - ia) + (b.size - ib) ≤ B)
abbrev Gs : Type := Option (Array Keyed) × Array Keyed × Nat × Nat × Nat × Nat × Nat
def GsQ (κ : Keyed → Int) (a b : Array Keyed) (B : Nat) (st : SortSt) (r : ForInStep Gs) (st' : SortSt) : Prop := SameBut st st' ∧ match r with
  | .done c => Part κ a b B c.1 c.2.1 c.2.2.1 c.2.2.2.1
  | .yield c => c.1 = none ∧ Part κ a b B c.1 c.2.1 c.2.2.1 c.2.2.2.1
def loC (a b out : Array Keyed) (ia ib g k k1 : Nat) : StateT SortSt Sem (ForInStep Gs) := do
  let x ← elem' a ia
  if (ia + 1 + 1 == a.size) = true then pure (.done (some (out.push x ++ b.extract ib b.size ++ a.extract (ia + 1) a.size), out.push x, ia + 1, ib, g, k, k1))
  else if (decide (k < 7) && decide (k1 < 7)) = true then pure (.done (none, out.push x, ia + 1, ib, g, k, k1)) else pure (.yield (none, out.push x, ia + 1, ib, g, k, k1))
def loB (a b out : Array Keyed) (ia ib g k n2 : Nat) : StateT SortSt Sem (ForInStep Gs) := do
  let y ← elem' b ib
  if (ib + 1 == b.size) = true then pure (.done (some (out.push y ++ a.extract ia a.size ++ b.extract (ib + 1) b.size), out.push y, ia, ib + 1, g, k, n2))
  else do
    let x ← elem' a ia
    let r ← gallop' true x b (ib + 1) (b.size - (ib + 1)) 0
    match r with
    | some k1 =>
      if k1 > 0 then
        if (ib + 1 + k1 == b.size) = true then pure (.done (some (out.push y ++ b.extract (ib + 1) (ib + 1 + k1) ++ a.extract ia a.size ++ b.extract (ib + 1 + k1) b.size), out.push y ++ b.extract (ib + 1) (ib + 1 + k1), ia, ib + 1 + k1, g, k, k1))
        else loC a b (out.push y ++ b.extract (ib + 1) (ib + 1 + k1)) ia (ib + 1 + k1) g k k1
      else loC a b (out.push y) ia (ib + 1) g k k1
    | _ => pure (.done (some (out.push y ++ a.extract ia a.size ++ b.extract (ib + 1) b.size), out.push y, ia, ib + 1, g, k, n2))
theorem loC_ok {st st' : SortSt} {out : Array Keyed} {ia ib g k k1 B : Nat} {x : Keyed} (m : MI κ a b out ia ib) (hx : a[ia]? = some x) (q : ∀ z ∈ b.toList.drop ib, κ x ≤ κ z) (hl : ∀ x, a[a.size - 1]? = some x → ∀ y ∈ b.toList, κ y ≤ κ x) (p1 : ia + 1 < a.size) (p2 : ib < b.size) (p3 : (a.size - ia) + (b.size - ib) ≤ B) (sm : SameBut st st') :
    wpS M A E s (loC a b out ia ib g k k1) (GsQ κ a b B st) st' := by
  unfold loC
  refine wpS_bind (wpS_elem hx ?_)
  have m' := m.pushA hx q
  by_cases c : (ia + 1 + 1 == a.size) = true
  · rw [if_pos c]
    exact wpS_pure ⟨sm, .inl ⟨_, rfl, m'.last (by simpa using c) hl⟩⟩
  rw [if_neg c]
  have c : ia + 1 + 1 ≠ a.size := by simpa using c
  have pt : Part κ a b B none (out.push x) (ia + 1) ib := .inr ⟨rfl, m', by omega, p2, by omega⟩
  split
  · exact wpS_pure ⟨sm, pt⟩
  · exact wpS_pure ⟨sm, rfl, pt⟩
theorem loB_ok (T : Tells M A E s kd κ S) {st st' : SortSt} {out : Array Keyed} {ia ib g k n2 B : Nat} {y : Keyed} (sa : Asc κ a.toList) (sb : Asc κ b.toList) (Sa : ∀ x ∈ a.toList, S x) (Sb : ∀ x ∈ b.toList, S x) (m : MI κ a b out ia ib) (hy : b[ib]? = some y) (q : ∀ z ∈ a.toList.drop ia, κ y ≤ κ z) (hl : ∀ x, a[a.size - 1]? = some x → ∀ y ∈ b.toList, κ y ≤ κ x)
    (p1 : ia + 1 < a.size) (p2 : ib < b.size) (p3 : (a.size - ia) + (b.size - ib) ≤ B) (sm : SameBut st st') (ek : kindOf st = kd) : wpS M A E s (loB a b out ia ib g k n2) (GsQ κ a b B st) st' := by
  unfold loB
  refine wpS_bind (wpS_elem hy ?_)
  have mB := m.pushB hy q
  by_cases c3 : (ib + 1 == b.size) = true
  · rw [if_pos c3]
    exact wpS_pure ⟨sm, .inl ⟨_, rfl, mB.done (.inl (by simpa using c3))⟩⟩
  rw [if_neg c3]
  have c3 : ib + 1 ≠ b.size := by simpa using c3
  obtain ⟨x, hx⟩ := get_lt (xs := a) (i := ia) (by omega)
  refine wpS_bind (wpS_elem hx ?_)
  refine wpS_bind (wpS_gal T (stretch sb Sb (ib + 1)) (Sa x (mem_get hx)) (sm.1.trans ek) (by omega) fun k1 k2 ek2 f1 f2 => ?_)
  simp only [if_true] at f1 f2
  dsimp only
  rcases Nat.eq_zero_or_pos k1.length with h1 | h1
  · rw [if_neg (by omega)]
    have : k1 = [] := List.length_eq_zero_iff.mp h1
    subst this
    exact loC_ok mB hx (fun z hz => f2 z (by rw [ek2, List.nil_append] at hz; exact hz)) hl p1 (by omega) (by omega) sm
  · rw [if_pos h1]
    have mC := mB.appB ek2 fun z hz u hu => Int.le_trans (Int.le_of_lt (f1 z hz)) (asc_head sa hx u hu)
    have ln : k1.length + k2.length = b.size - (ib + 1) := by
      have := congrArg List.length ek2
      rw [List.length_append, List.length_drop, Array.length_toList] at this
      exact this.symm
    by_cases c4 : (ib + 1 + k1.length == b.size) = true
    · rw [if_pos c4]
      exact wpS_pure ⟨sm, .inl ⟨_, rfl, mC.done (.inl (by simpa using c4))⟩⟩
    rw [if_neg c4]
    have c4 : ib + 1 + k1.length ≠ b.size := by simpa using c4
    exact loC_ok mC hx (fun z hz => f2 z (by rw [(drop_cut ek2 rfl).2] at hz; exact hz)) hl p1 (by omega) (by omega) sm
theorem GsQ.y {B : Nat} {st st' : SortSt} {c : Gs} (h : GsQ κ a b B st (.yield c) st') : SameBut st st' ∧ ∃ out ia ib g x y, c = (none, out, ia, ib, g, x, y) ∧ MI κ a b out ia ib ∧ ia + 1 < a.size ∧ ib < b.size ∧ (a.size - ia) + (b.size - ib) ≤ B := by
  obtain ⟨sm, e, pt⟩ := h
  obtain ⟨ro, out, ia, ib, g, x, y⟩ := c
  have e : ro = none := e
  subst e
  rcases pt with ⟨r, e, _⟩ | ⟨_, m, p1, p2, p3⟩
  · cases e
  · exact ⟨sm, out, ia, ib, g, x, y, rfl, m, p1, p2, p3⟩
theorem wpS_mergeLo (T : Tells M A E s kd κ S) {st : SortSt} {Q : Array Keyed → SortSt → Prop} (sa : Asc κ a.toList) (sb : Asc κ b.toList) (Sa : ∀ x ∈ a.toList, S x) (Sb : ∀ x ∈ b.toList, S x) (na : 1 ≤ a.size) (nb : 1 ≤ b.size)
    (h0 : ∀ y, b[0]? = some y → ∀ x ∈ a.toList, κ y ≤ κ x) (hl : ∀ x, a[a.size - 1]? = some x → ∀ y ∈ b.toList, κ y ≤ κ x) (ek : kindOf st = kd) (h : ∀ out st', Good κ a b out → SameBut st st' → Q out st') : wpS M A E s (mergeLo' a b) Q st := by
  rw [mergeLo'_eq]
  refine wpS_bind (wpS_lift (wpAny_rule ⟨rfl, ?_⟩))
  obtain ⟨y0, hy0⟩ := get_lt (xs := b) (i := 0) (by omega)
  refine wpS_bind (wpS_elem hy0 ?_)
  dsimp only
  have m0 : MI κ a b #[] 0 0 := ⟨by simp, List.Pairwise.nil, fun x hx => by simp at hx, sa, sb⟩
  have m1 : MI κ a b #[y0] 0 1 := m0.pushB hy0 fun x hx => h0 y0 hy0 x hx
  by_cases c1 : (1 == b.size) = true
  · rw [if_pos c1]
    exact wpS_pure (h _ _ (m1.done (.inl (by simpa using c1))) (.refl _))
  rw [if_neg c1]
  have c1 : 1 ≠ b.size := by simpa using c1
  by_cases c2 : (0 + 1 == a.size) = true
  · rw [if_pos c2]
    exact wpS_pure (h _ _ (m1.last (by simpa using c2) hl) (.refl _))
  rw [if_neg c2]
  have c2 : 0 + 1 ≠ a.size := by simpa using c2
  refine wpS_bind (wpS_get ?_)
  refine wpS_bind (wpS_mono (wpS_forRange (I := fun t c st' => SameBut st st' ∧ ∃ out ia ib g, c = (none, out, ia, ib, g) ∧ MI κ a b out ia ib ∧ ia + 1 < a.size ∧ ib < b.size ∧ (a.size - ia) + (b.size - ib) + t + 1 ≤ a.size + b.size)
    (Q := fun c st' => SameBut st st' ∧ ∃ r, c.1 = some r ∧ Good κ a b r) ?step ?fin ⟨.refl _, _, _, _, _, rfl, m1, by omega, by omega, by omega⟩) ?post)
  case fin =>
    rintro c st' ⟨sm, out, ia, ib, g, rfl, m, p1, p2, p3⟩
    omega
  case post =>
    rintro c st' ⟨sm, r, e, g⟩
    rw [e]
    exact wpS_pure (h r st' g sm)
  case step =>
    rintro t c st1 _ ht ⟨sm1, out, ia, ib, g, rfl, m, p1, p2, p3⟩
    dsimp only
    -- one by one
    refine wpS_bind (wpS_mono (wpS_forRange (I := fun u c st' => SameBut st st' ∧ ∃ out ia ib x y, c = (none, out, ia, ib, x, y) ∧ MI κ a b out ia ib ∧ ia + 1 < a.size ∧ ib < b.size ∧ (a.size - ia) + (b.size - ib) + t + 1 + min u 1 ≤ a.size + b.size)
      (Q := fun c st' => SameBut st st' ∧ Part κ a b (a.size + b.size - t - 2) c.1 c.2.1 c.2.2.1 c.2.2.2.1) ?step1 ?fin1 ⟨sm1, _, _, _, _, _, rfl, m, p1, p2, by omega⟩) ?post1)
    case fin1 =>
      rintro c st' ⟨sm, out, ia, ib, x, y, rfl, m, p1, p2, p3⟩
      exact ⟨sm, .inr ⟨rfl, m, p1, p2, show a.size - ia + (b.size - ib) ≤ _ by omega⟩⟩
    case step1 =>
      rintro u c st2 _ hu ⟨sm2, out, ia, ib, n1, n2, rfl, m, p1, p2, p3⟩
      dsimp only
      obtain ⟨y, hy⟩ := get_lt (xs := b) (i := ib) p2
      obtain ⟨x, hx⟩ := get_lt (xs := a) (i := ia) (by omega)
      refine wpS_bind (wpS_elem hy (wpS_bind (wpS_elem hx (wpS_bind (T y x (Sb y (mem_get hy)) (Sa x (mem_get hx)) st2 _ (sm2.1.trans ek) ?_)))))
      dsimp only
      by_cases q : κ y < κ x
      · simp only [q, decide_true, if_true]
        refine wpS_bind (wpS_elem hy ?_)
        have m' := m.pushB hy fun z hz => Int.le_trans (Int.le_of_lt q) (asc_head sa hx z hz)
        by_cases c3 : (ib + 1 == b.size) = true
        · rw [if_pos c3]
          exact wpS_pure ⟨sm2, .inl ⟨_, rfl, m'.done (.inl (by simpa using c3))⟩⟩
        rw [if_neg c3]
        have c3 : ib + 1 ≠ b.size := by simpa using c3
        split
        · exact wpS_pure ⟨sm2, .inr ⟨rfl, m', p1, show ib + 1 < b.size by omega, show a.size - ia + (b.size - (ib + 1)) ≤ _ by omega⟩⟩
        · exact wpS_pure ⟨sm2, _, _, _, _, _, rfl, m', p1, by omega, by omega⟩
      · simp only [q, decide_false, Bool.false_eq_true, if_false]
        refine wpS_bind (wpS_elem hx ?_)
        have m' := m.pushA hx fun z hz => Int.le_trans (Int.not_lt.mp q) (asc_head sb hy z hz)
        by_cases c3 : (ia + 1 + 1 == a.size) = true
        · rw [if_pos c3]
          exact wpS_pure ⟨sm2, .inl ⟨_, rfl, m'.last (by simpa using c3) hl⟩⟩
        rw [if_neg c3]
        have c3 : ia + 1 + 1 ≠ a.size := by simpa using c3
        split
        · exact wpS_pure ⟨sm2, .inr ⟨rfl, m', show ia + 1 + 1 < a.size by omega, p2, show a.size - (ia + 1) + (b.size - ib) ≤ _ by omega⟩⟩
        · exact wpS_pure ⟨sm2, _, _, _, _, _, rfl, m', by omega, p2, by omega⟩
    case post1 =>
      rintro ⟨ro, out, ia, ib, n1, n2⟩ st2 ⟨sm2, pt⟩
      rcases pt with ⟨r, e, gd⟩ | ⟨e, m, p1, p2, p3⟩
      · have e : ro = some r := e
        subst e
        exact wpS_pure ⟨sm2, r, rfl, gd⟩
      have e : ro = none := e
      subst e
      dsimp only at m p1 p2 p3 ⊢
      refine wpS_bind (wpS_lift (wpAny_rule ⟨rfl, ?_⟩))
      -- by leaps
      refine wpS_bind (wpS_mono (wpS_forRange (I := fun u c st' => SameBut st st' ∧ ∃ out ia ib g x y, c = (none, out, ia, ib, g, x, y) ∧ MI κ a b out ia ib ∧ ia + 1 < a.size ∧ ib < b.size ∧ (a.size - ia) + (b.size - ib) ≤ a.size + b.size - t - 2)
        (Q := fun c st' => SameBut st st' ∧ Part κ a b (a.size + b.size - t - 2) c.1 c.2.1 c.2.2.1 c.2.2.2.1) ?step2 ?fin2 ⟨sm2, _, _, _, _, _, _, rfl, m, p1, p2, p3⟩) ?post2)
      case fin2 =>
        rintro c st' ⟨sm, out, ia, ib, g, x, y, rfl, m, p1, p2, p3⟩
        exact ⟨sm, .inr ⟨rfl, m, p1, p2, p3⟩⟩
      case post2 =>
        rintro ⟨ro, out, ia, ib, g, n1, n2⟩ st3 ⟨sm3, pt⟩
        rcases pt with ⟨r, e, gd⟩ | ⟨e, m, p1, p2, p3⟩
        · have e : ro = some r := e
          subst e
          exact wpS_pure ⟨sm3, r, rfl, gd⟩
        have e : ro = none := e
        subst e
        dsimp only at m p1 p2 p3 ⊢
        exact wpS_bind (wpS_setG sm3 fun st4 sm4 => wpS_pure ⟨sm4, _, _, _, _, rfl, m, p1, p2, by omega⟩)
      case step2 =>
        rintro u c st3 _ hu ⟨sm3, out, ia, ib, g, n1, n2, rfl, m, p1, p2, p3⟩
        dsimp only
        obtain ⟨y, hy⟩ := get_lt (xs := b) (i := ib) p2
        have Sy := Sb y (mem_get hy)
        rcases Nat.lt_or_ge 1 g with hg | hg
        all_goals
          first
          | rw [if_pos hg]
          | rw [if_neg (Nat.not_lt.mpr hg)]
          refine wpS_bind (wpS_setG sm3 fun st4 sm4 => ?_)
          refine wpS_bind (wpS_elem hy ?_)
          refine wpS_bind (wpS_gal T (stretch sa Sa ia) Sy (sm4.1.trans ek) (by omega) fun l1 l2 el e1 e2 => ?_)
          simp only [Bool.false_eq_true, if_false] at e1 e2
          dsimp only
          rcases Nat.eq_zero_or_pos l1.length with h1 | h1
          · rw [if_neg (by omega)]
            have l1n : l1 = [] := List.length_eq_zero_iff.mp h1
            subst l1n
            refine wpS_mono (loB_ok (B := a.size + b.size - t - 2) (out := out) (ia := ia) (ib := ib) (k := 0) (n2 := n2) T sa sb Sa Sb m hy (fun z hz => Int.le_of_lt (e2 z (by rw [el, List.nil_append] at hz; exact hz))) hl p1 p2 p3 sm4 ek) fun r st5 gq => ?_
            cases r with
            | done c => exact gq
            | yield c => exact gq.y
          · rw [if_pos h1]
            have mA := m.appA el fun x hx z hz => Int.le_trans (e1 x hx) (asc_head sb hy z hz)
            have ln : l1.length + l2.length = a.size - ia := by
              have := congrArg List.length el
              rw [List.length_append, List.length_drop, Array.length_toList] at this
              exact this.symm
            by_cases c3 : (ia + l1.length + 1 == a.size) = true
            · rw [if_pos c3]
              exact wpS_pure ⟨sm4, .inl ⟨_, rfl, mA.last (by simpa using c3) hl⟩⟩
            rw [if_neg c3]
            by_cases c4 : (ia + l1.length == a.size) = true
            · rw [if_pos c4]
              exact wpS_pure ⟨sm4, .inl ⟨_, rfl, mA.done (.inr (by simpa using c4))⟩⟩
            rw [if_neg c4]
            have c3 : ia + l1.length + 1 ≠ a.size := by simpa using c3
            have c4 : ia + l1.length ≠ a.size := by simpa using c4
            refine wpS_mono (loB_ok (B := a.size + b.size - t - 2) (out := out ++ a.extract ia (ia + l1.length)) (ia := ia + l1.length) (ib := ib) (k := l1.length) (n2 := n2) T sa sb Sa Sb mA hy (fun z hz => Int.le_of_lt (e2 z (by rw [(drop_cut el rfl).2] at hz; exact hz))) hl (by omega) p2 (by omega) sm4 ek) fun r st5 gq => ?_
            cases r with
            | done c => exact gq
            | yield c => exact gq.y
end
end VL

set_option Elab.async false
set_option linter.all false
set_option maxRecDepth 100000
set_option maxHeartbeats 4000000
namespace VL
open PySem PySem.Spec PyProof.Rows
theorem mergeHi'_eq (a b : Array Keyed) : mergeHi' a b = (do
  rule "list.sort.merge-hi"
  let mut na := a.size - 1
  let mut nb := b.size
  let mut out : Array Keyed := #[← elem' a na]
  if na == 0 then return a.extract 0 na ++ b.extract 0 nb ++ out.reverse
  if nb == 1 then return b.extract 0 nb ++ a.extract 0 na ++ out.reverse
  let mut minGallop := gallopOf (← get)
  for _ in [0:a.size + b.size] do
    let mut acount := 0
    let mut bcount := 0
    for _ in [0:a.size + b.size] do
      let some aWins ← lt' (← elem' b (nb - 1)) (← elem' a (na - 1)) | return a.extract 0 na ++ b.extract 0 nb ++ out.reverse
      if aWins then
        na := na - 1; out := out.push (← elem' a na); acount := acount + 1; bcount := 0
        if na == 0 then return a.extract 0 na ++ b.extract 0 nb ++ out.reverse
        if acount ≥ minGallop then break
      else
        nb := nb - 1; out := out.push (← elem' b nb); bcount := bcount + 1; acount := 0
        if nb == 1 then return b.extract 0 nb ++ a.extract 0 na ++ out.reverse
        if bcount ≥ minGallop then break
    rule "list.sort.gallop"
    minGallop := minGallop + 1
    for _ in [0:a.size + b.size] do
      if minGallop > 1 then minGallop := minGallop - 1
      setMinGallop' minGallop
      let some at_ ← gallop' false (← elem' b (nb - 1)) a 0 na (na - 1) | return a.extract 0 na ++ b.extract 0 nb ++ out.reverse
      let k := na - at_
      acount := k
      if k > 0 then
        out := out ++ (a.extract at_ na).reverse; na := at_
        if na == 0 then return a.extract 0 na ++ b.extract 0 nb ++ out.reverse
      nb := nb - 1; out := out.push (← elem' b nb)
      if nb == 1 then return b.extract 0 nb ++ a.extract 0 na ++ out.reverse
      let some at_ ← gallop' true (← elem' a (na - 1)) b 0 nb (nb - 1) | return a.extract 0 na ++ b.extract 0 nb ++ out.reverse
      let k := nb - at_
      bcount := k
      if k > 0 then
        out := out ++ (b.extract at_ nb).reverse; nb := at_
        if nb == 1 then return b.extract 0 nb ++ a.extract 0 na ++ out.reverse
        if nb == 0 then return a.extract 0 na ++ b.extract 0 nb ++ out.reverse
      na := na - 1; out := out.push (← elem' a na)
      if na == 0 then return a.extract 0 na ++ b.extract 0 nb ++ out.reverse
      if acount < 7 && bcount < 7 then break
    minGallop := minGallop + 1
    setMinGallop' minGallop
  unsupported "internal:list.sort.merge-bound") := rfl
section
variable {M : Model} {A : Around} {E : Value → Shared → Prop} {s : Shared} {κ : Keyed → Int} {S : Keyed → Prop} {kd : SortKind}
variable {a b out : Array Keyed} {na nb : Nat}
theorem asc_neg {l : List Keyed} : Asc (fun x => - κ x) l ↔ Asc κ l.reverse := by
  unfold Asc
  rw [List.pairwise_reverse]
  constructor
  · intro h; exact h.imp fun {x y} (q : - κ x ≤ - κ y) => (by omega : κ y ≤ κ x)
  · intro h; exact h.imp fun {x y} (q : κ y ≤ κ x) => (by omega : - κ x ≤ - κ y)
/-- a part of the merge from the top is done -/
def HI (κ : Keyed → Int) (a b out : Array Keyed) (na nb : Nat) : Prop := LI (fun x => - κ x) (a.toList ++ b.toList) out.toList (a.toList.take na).reverse (b.toList.take nb).reverse
theorem take_get {xs : Array Keyed} {i : Nat} {x : Keyed} (h : xs[i]? = some x) : (xs.toList.take (i + 1)).reverse = [x] ++ (xs.toList.take i).reverse := by
  rw [← Array.getElem?_toList] at h
  rw [List.take_add_one, h]
  simp
theorem HI.pushB (h : HI κ a b out na (nb + 1)) {y : Keyed} (hy : b[nb]? = some y) (q : ∀ x ∈ a.toList.take na, κ x ≤ κ y) : HI κ a b (out.push y) na nb := by
  unfold HI at h ⊢
  rw [take_get hy] at h
  rw [Array.toList_push]
  exact h.mvB fun x hx z hz => by
    have := q z (List.mem_reverse.mp hz)
    rw [List.mem_singleton.mp hx]
    omega
theorem HI.pushA (h : HI κ a b out (na + 1) nb) {y : Keyed} (hy : a[na]? = some y) (q : ∀ x ∈ b.toList.take nb, κ x ≤ κ y) : HI κ a b (out.push y) na nb := by
  unfold HI at h ⊢
  rw [take_get hy] at h
  rw [Array.toList_push]
  exact h.mvA fun x hx z hz => by
    have := q z (List.mem_reverse.mp hz)
    rw [List.mem_singleton.mp hx]
    omega
theorem take_cut {xs : Array Keyed} {n : Nat} {l1 l2 : List Keyed} (hn : n ≤ xs.size) (h : xs.toList.take n = l1 ++ l2) : (xs.extract l1.length n).reverse.toList = l2.reverse ∧ xs.toList.take l1.length = l1 := by
  have hl : l1.length + l2.length = n := by
    have := congrArg List.length h
    rw [List.length_append, List.length_take, Array.length_toList] at this
    omega
  constructor
  · rw [Array.toList_reverse, Array.toList_extract, List.extract_eq_drop_take]
    congr 1
    have : (xs.toList.take n).drop l1.length = l2 := by rw [h, List.drop_left]
    rw [← this, List.drop_take]
  · have : (xs.toList.take n).take l1.length = l1 := by rw [h, List.take_left]
    rw [List.take_take, Nat.min_eq_left (by omega)] at this
    exact this
theorem HI.appA (h : HI κ a b out na nb) {l1 l2 : List Keyed} (hn : na ≤ a.size) (e : a.toList.take na = l1 ++ l2) (q : ∀ x ∈ l2, ∀ y ∈ b.toList.take nb, κ y ≤ κ x) : HI κ a b (out ++ (a.extract l1.length na).reverse) l1.length nb := by
  obtain ⟨e1, e2⟩ := take_cut hn e
  unfold HI at h ⊢
  rw [Array.toList_append, e1, e2]
  rw [e, List.reverse_append] at h
  exact h.mvA fun x hx y hy => by have := q x (List.mem_reverse.mp hx) y (List.mem_reverse.mp hy); omega
theorem HI.appB (h : HI κ a b out na nb) {l1 l2 : List Keyed} (hn : nb ≤ b.size) (e : b.toList.take nb = l1 ++ l2) (q : ∀ x ∈ l2, ∀ y ∈ a.toList.take na, κ y ≤ κ x) : HI κ a b (out ++ (b.extract l1.length nb).reverse) na l1.length := by
  obtain ⟨e1, e2⟩ := take_cut hn e
  unfold HI at h ⊢
  rw [Array.toList_append, e1, e2]
  rw [e, List.reverse_append] at h
  exact h.mvB fun x hx y hy => by have := q x (List.mem_reverse.mp hx) y (List.mem_reverse.mp hy); omega
theorem extr0 {xs : Array Keyed} (n : Nat) : (xs.extract 0 n).toList = xs.toList.take n := by
  rw [Array.toList_extract, List.extract_eq_drop_take, Nat.sub_zero, List.drop_zero]
theorem good_rev {l : List Keyed} {r : Array Keyed} (e : r.toList = l.reverse) (h : l.Perm (a.toList ++ b.toList) ∧ Asc (fun x => - κ x) l) : Good κ a b r := by
  unfold Good
  rw [e]
  exact ⟨(List.reverse_perm l).trans h.1, asc_neg.mp h.2⟩
theorem HI.done (h : HI κ a b out na nb) (e : na = 0 ∨ nb = 0) : Good κ a b (a.extract 0 na ++ b.extract 0 nb ++ out.reverse) := by
  unfold HI at h
  rcases e with rfl | rfl
  · rw [List.take_zero, List.reverse_nil] at h
    exact good_rev (by simp [extr0]) h.endB
  · rw [List.take_zero, List.reverse_nil] at h
    exact good_rev (by simp [extr0]) h.endA
theorem HI.first (h : HI κ a b out na nb) (e : nb = 1) (q : ∀ y, b[0]? = some y → ∀ x ∈ a.toList, κ y ≤ κ x) (hb : 1 ≤ b.size) : Good κ a b (b.extract 0 nb ++ a.extract 0 na ++ out.reverse) := by
  subst e
  obtain ⟨y, hy⟩ := get_lt (xs := b) (i := 0) (by omega)
  unfold HI at h
  have t := take_get hy
  rw [List.take_zero, List.reverse_nil, List.append_nil] at t
  have t : (b.toList.take 1).reverse = [y] := t
  rw [t] at h
  have t2 : b.toList.take 1 = [y] := by rw [← List.reverse_reverse (b.toList.take 1), t]; rfl
  exact good_rev (by simp [extr0, t2]) (h.swap.last fun x hx => by have := q y hy x (List.mem_of_mem_take (List.mem_reverse.mp hx)); omega)
theorem asc_last {xs : Array Keyed} (h : Asc κ xs.toList) {i : Nat} {x : Keyed} (e : xs[i]? = some x) : ∀ y ∈ xs.toList.take (i + 1), κ y ≤ κ x := fun y hy => by
  have q : Asc κ (xs.toList.take (i + 1)) := List.Pairwise.take h
  have t : xs.toList.take (i + 1) = xs.toList.take i ++ [x] := by rw [← List.reverse_reverse (xs.toList.take (i + 1)), take_get e]; simp
  rw [t] at q hy
  rcases List.mem_append.mp hy with hy | hy
  · exact q.mid y hy x (List.mem_singleton.mpr rfl)
  · rw [List.mem_singleton.mp hy]; exact Int.le_refl _
theorem stretchT {xs : Array Keyed} (h : Asc κ xs.toList) (hS : ∀ x ∈ xs.toList, S x) {n : Nat} (hn : n ≤ xs.size) : Stretch κ S xs 0 n (xs.toList.take n) where
  eq := by rw [List.drop_zero]
  len := by rw [List.length_take, Array.length_toList]; omega
  all x hx := hS x (List.mem_of_mem_take hx)
  asc := List.Pairwise.take h
end
end VL

set_option Elab.async false
set_option linter.all false
set_option maxRecDepth 100000
set_option maxHeartbeats 4000000
namespace VL
open PySem PySem.Spec PyProof.Rows
section
variable {M : Model} {A : Around} {E : Value → Shared → Prop} {s : Shared} {κ : Keyed → Int} {S : Keyed → Prop} {kd : SortKind}
variable {a b : Array Keyed}
abbrev Hs : Type := Option (Array Keyed) × Nat × Nat × Array Keyed × Nat × Nat × Nat
def PartH (κ : Keyed → Int) (a b : Array Keyed) (B : Nat) (ro : Option (Array Keyed)) (na nb : Nat) (out : Array Keyed) : Prop :=
  (∃ r, ro = some r ∧ Good κ a b r) ∨ (ro = none ∧ HI κ a b out na nb ∧ 1 ≤ na ∧ 2 ≤ nb ∧ na ≤ a.size ∧ nb ≤ b.size ∧ na + nb ≤ B)
def HsQ (κ : Keyed → Int) (a b : Array Keyed) (B : Nat) (st : SortSt) (r : ForInStep Hs) (st' : SortSt) : Prop := SameBut st st' ∧ match r with
  | .done c => PartH κ a b B c.1 c.2.1 c.2.2.1 c.2.2.2.1
  | .yield c => c.1 = none ∧ PartH κ a b B c.1 c.2.1 c.2.2.1 c.2.2.2.1
def hiC (a b out : Array Keyed) (na nb g k k1 : Nat) : StateT SortSt Sem (ForInStep Hs) := do
  let x ← elem' a (na - 1)
  if (na - 1 == 0) = true then pure (.done (some (a.extract 0 (na - 1) ++ b.extract 0 nb ++ (out.push x).reverse), na - 1, nb, out.push x, g, k, k1))
  else if (decide (k < 7) && decide (k1 < 7)) = true then pure (.done (none, na - 1, nb, out.push x, g, k, k1)) else pure (.yield (none, na - 1, nb, out.push x, g, k, k1))
def hiB (a b out : Array Keyed) (na nb g k n2 : Nat) : StateT SortSt Sem (ForInStep Hs) := do
  let y ← elem' b (nb - 1)
  if (nb - 1 == 1) = true then pure (.done (some (b.extract 0 (nb - 1) ++ a.extract 0 na ++ (out.push y).reverse), na, nb - 1, out.push y, g, k, n2))
  else do
    let x ← elem' a (na - 1)
    let r ← gallop' true x b 0 (nb - 1) (nb - 1 - 1)
    match r with
    | some k1 =>
      if nb - 1 - k1 > 0 then
        if (k1 == 1) = true then pure (.done (some (b.extract 0 k1 ++ a.extract 0 na ++ (out.push y ++ (b.extract k1 (nb - 1)).reverse).reverse), na, k1, out.push y ++ (b.extract k1 (nb - 1)).reverse, g, k, nb - 1 - k1))
        else if (k1 == 0) = true then pure (.done (some (a.extract 0 na ++ b.extract 0 k1 ++ (out.push y ++ (b.extract k1 (nb - 1)).reverse).reverse), na, k1, out.push y ++ (b.extract k1 (nb - 1)).reverse, g, k, nb - 1 - k1))
        else hiC a b (out.push y ++ (b.extract k1 (nb - 1)).reverse) na k1 g k (nb - 1 - k1)
      else hiC a b (out.push y) na (nb - 1) g k (nb - 1 - k1)
    | _ => pure (.done (some (a.extract 0 na ++ b.extract 0 (nb - 1) ++ (out.push y).reverse), na, nb - 1, out.push y, g, k, n2))
theorem hiC_ok {st st' : SortSt} {out : Array Keyed} {na nb g k k1 B : Nat} {x : Keyed} (m : HI κ a b out na nb) (hx : a[na - 1]? = some x) (q : ∀ z ∈ b.toList.take nb, κ z ≤ κ x) (p1 : 1 ≤ na) (p2 : 2 ≤ nb) (p4 : na ≤ a.size) (p5 : nb ≤ b.size) (p3 : na + nb ≤ B) (sm : SameBut st st') :
    wpS M A E s (hiC a b out na nb g k k1) (HsQ κ a b B st) st' := by
  unfold hiC
  refine wpS_bind (wpS_elem hx ?_)
  have m' : HI κ a b (out.push x) (na - 1) nb := HI.pushA (by rw [show na - 1 + 1 = na by omega]; exact m) hx q
  by_cases c : (na - 1 == 0) = true
  · rw [if_pos c]
    exact wpS_pure ⟨sm, .inl ⟨_, rfl, m'.done (.inl (by simpa using c))⟩⟩
  rw [if_neg c]
  have c : na - 1 ≠ 0 := by simpa using c
  have pt : PartH κ a b B none (na - 1) nb (out.push x) := .inr ⟨rfl, m', by omega, p2, by omega, p5, by omega⟩
  split
  · exact wpS_pure ⟨sm, pt⟩
  · exact wpS_pure ⟨sm, rfl, pt⟩
theorem hiB_ok (T : Tells M A E s kd κ S) {st st' : SortSt} {out : Array Keyed} {na nb g k n2 B : Nat} {y : Keyed} (sa : Asc κ a.toList) (sb : Asc κ b.toList) (Sa : ∀ x ∈ a.toList, S x) (Sb : ∀ x ∈ b.toList, S x) (m : HI κ a b out na nb) (hy : b[nb - 1]? = some y) (q : ∀ z ∈ a.toList.take na, κ z ≤ κ y) (h0 : ∀ y, b[0]? = some y → ∀ x ∈ a.toList, κ y ≤ κ x)
    (p1 : 1 ≤ na) (p2 : 2 ≤ nb) (p4 : na ≤ a.size) (p5 : nb ≤ b.size) (p3 : na + nb ≤ B) (sm : SameBut st st') (ek : kindOf st = kd) : wpS M A E s (hiB a b out na nb g k n2) (HsQ κ a b B st) st' := by
  unfold hiB
  refine wpS_bind (wpS_elem hy ?_)
  have mB : HI κ a b (out.push y) na (nb - 1) := HI.pushB (by rw [show nb - 1 + 1 = nb by omega]; exact m) hy q
  by_cases c3 : (nb - 1 == 1) = true
  · rw [if_pos c3]
    exact wpS_pure ⟨sm, .inl ⟨_, rfl, mB.first (by simpa using c3) h0 (by omega)⟩⟩
  rw [if_neg c3]
  have c3 : nb - 1 ≠ 1 := by simpa using c3
  obtain ⟨x, hx⟩ := get_lt (xs := a) (i := na - 1) (by omega)
  refine wpS_bind (wpS_elem hx ?_)
  have ax : ∀ u ∈ a.toList.take na, κ u ≤ κ x := fun u hu => asc_last sa hx u (by rw [show na - 1 + 1 = na by omega]; exact hu)
  refine wpS_bind (wpS_gal T (stretchT sb Sb (n := nb - 1) (by omega)) (Sa x (mem_get hx)) (sm.1.trans ek) (by omega) fun k1 k2 ek2 f1 f2 => ?_)
  simp only [if_true] at f1 f2
  dsimp only
  have ln : k1.length + k2.length = nb - 1 := by
    have := congrArg List.length ek2
    rw [List.length_append, List.length_take, Array.length_toList] at this
    omega
  rcases Nat.eq_zero_or_pos (nb - 1 - k1.length) with h1 | h1
  · rw [if_neg (by omega)]
    have : k2 = [] := List.length_eq_zero_iff.mp (by omega)
    subst this
    exact hiC_ok mB hx (fun z hz => Int.le_of_lt (f1 z (by rw [ek2, List.append_nil] at hz; exact hz))) p1 (by omega) p4 (by omega) (by omega) sm
  · rw [if_pos h1]
    have mC := mB.appB (by omega) ek2 fun z hz u hu => Int.le_trans (ax u hu) (f2 z hz)
    by_cases c4 : (k1.length == 1) = true
    · rw [if_pos c4]
      exact wpS_pure ⟨sm, .inl ⟨_, rfl, mC.first (by simpa using c4) h0 (by omega)⟩⟩
    rw [if_neg c4]
    by_cases c5 : (k1.length == 0) = true
    · rw [if_pos c5]
      exact wpS_pure ⟨sm, .inl ⟨_, rfl, mC.done (.inr (by simpa using c5))⟩⟩
    rw [if_neg c5]
    have c4 : k1.length ≠ 1 := by simpa using c4
    have c5 : k1.length ≠ 0 := by simpa using c5
    exact hiC_ok mC hx (fun z hz => Int.le_of_lt (f1 z (by rw [(take_cut (by omega) ek2).2] at hz; exact hz))) p1 (by omega) p4 (by omega) (by omega) sm
theorem HsQ.y {B : Nat} {st st' : SortSt} {c : Hs} (h : HsQ κ a b B st (.yield c) st') : SameBut st st' ∧ ∃ na nb out g x y, c = (none, na, nb, out, g, x, y) ∧ HI κ a b out na nb ∧ 1 ≤ na ∧ 2 ≤ nb ∧ na ≤ a.size ∧ nb ≤ b.size ∧ na + nb ≤ B := by
  obtain ⟨sm, e, pt⟩ := h
  obtain ⟨ro, na, nb, out, g, x, y⟩ := c
  have e : ro = none := e
  subst e
  rcases pt with ⟨r, e, _⟩ | ⟨_, m, p1, p2, p3⟩
  · cases e
  · exact ⟨sm, na, nb, out, g, x, y, rfl, m, p1, p2, p3⟩
theorem wpS_mergeHi (T : Tells M A E s kd κ S) {st : SortSt} {Q : Array Keyed → SortSt → Prop} (sa : Asc κ a.toList) (sb : Asc κ b.toList) (Sa : ∀ x ∈ a.toList, S x) (Sb : ∀ x ∈ b.toList, S x) (na : 1 ≤ a.size) (nb : 1 ≤ b.size)
    (h0 : ∀ y, b[0]? = some y → ∀ x ∈ a.toList, κ y ≤ κ x) (hl : ∀ x, a[a.size - 1]? = some x → ∀ y ∈ b.toList, κ y ≤ κ x) (ek : kindOf st = kd) (h : ∀ out st', Good κ a b out → SameBut st st' → Q out st') : wpS M A E s (mergeHi' a b) Q st := by
  rw [mergeHi'_eq]
  refine wpS_bind (wpS_lift (wpAny_rule ⟨rfl, ?_⟩))
  obtain ⟨x0, hx0⟩ := get_lt (xs := a) (i := a.size - 1) (by omega)
  refine wpS_bind (wpS_elem hx0 ?_)
  dsimp only
  have m0 : HI κ a b #[] a.size b.size := by
    have e1 : a.toList.take a.size = a.toList := List.take_of_length_le (by simp)
    have e2 : b.toList.take b.size = b.toList := List.take_of_length_le (by simp)
    unfold HI
    rw [e1, e2]
    exact ⟨by rw [List.nil_append]; exact (List.reverse_perm _).append (List.reverse_perm _), List.Pairwise.nil, fun x hx => by simp at hx, asc_neg.mpr (by rw [List.reverse_reverse]; exact sa), asc_neg.mpr (by rw [List.reverse_reverse]; exact sb)⟩
  have m1 : HI κ a b #[x0] (a.size - 1) b.size := HI.pushA (out := #[]) (nb := b.size) (na := a.size - 1) (by rw [show a.size - 1 + 1 = a.size by omega]; exact m0) hx0 fun z hz => hl x0 hx0 z (List.mem_of_mem_take hz)
  by_cases c1 : (a.size - 1 == 0) = true
  · rw [if_pos c1]
    exact wpS_pure (h _ _ (m1.done (.inl (by simpa using c1))) (.refl _))
  rw [if_neg c1]
  have c1 : a.size - 1 ≠ 0 := by simpa using c1
  by_cases c2 : (b.size == 1) = true
  · rw [if_pos c2]
    exact wpS_pure (h _ _ (m1.first (by simpa using c2) h0 nb) (.refl _))
  rw [if_neg c2]
  have c2 : b.size ≠ 1 := by simpa using c2
  refine wpS_bind (wpS_get ?_)
  refine wpS_bind (wpS_mono (wpS_forRange (I := fun t c st' => SameBut st st' ∧ ∃ na nb out g, c = (none, na, nb, out, g) ∧ HI κ a b out na nb ∧ 1 ≤ na ∧ 2 ≤ nb ∧ na ≤ a.size ∧ nb ≤ b.size ∧ na + nb + t + 1 ≤ a.size + b.size)
    (Q := fun c st' => SameBut st st' ∧ ∃ r, c.1 = some r ∧ Good κ a b r) ?step ?fin ⟨.refl _, _, _, _, _, rfl, m1, by omega, by omega, by omega, by omega, by omega⟩) ?post)
  case fin =>
    rintro c st' ⟨sm, na, nb, out, g, rfl, m, p1, p2, p4, p5, p3⟩
    omega
  case post =>
    rintro c st' ⟨sm, r, e, g⟩
    rw [e]
    exact wpS_pure (h r st' g sm)
  case step =>
    rintro t c st1 _ ht ⟨sm1, na, nb, out, g, rfl, m, p1, p2, p4, p5, p3⟩
    dsimp only
    refine wpS_bind (wpS_mono (wpS_forRange (I := fun u c st' => SameBut st st' ∧ ∃ na nb out x y, c = (none, na, nb, out, x, y) ∧ HI κ a b out na nb ∧ 1 ≤ na ∧ 2 ≤ nb ∧ na ≤ a.size ∧ nb ≤ b.size ∧ na + nb + t + 1 + min u 1 ≤ a.size + b.size)
      (Q := fun c st' => SameBut st st' ∧ PartH κ a b (a.size + b.size - t - 2) c.1 c.2.1 c.2.2.1 c.2.2.2.1) ?step1 ?fin1 ⟨sm1, _, _, _, _, _, rfl, m, p1, p2, p4, p5, by omega⟩) ?post1)
    case fin1 =>
      rintro c st' ⟨sm, na, nb, out, x, y, rfl, m, p1, p2, p4, p5, p3⟩
      exact ⟨sm, .inr ⟨rfl, m, p1, p2, p4, p5, show na + nb ≤ _ by omega⟩⟩
    case step1 =>
      rintro u c st2 _ hu ⟨sm2, na, nb, out, n1, n2, rfl, m, p1, p2, p4, p5, p3⟩
      dsimp only
      obtain ⟨y, hy⟩ := get_lt (xs := b) (i := nb - 1) (by omega)
      obtain ⟨x, hx⟩ := get_lt (xs := a) (i := na - 1) (by omega)
      have ax : ∀ u ∈ a.toList.take na, κ u ≤ κ x := fun u hu => asc_last sa hx u (by rw [show na - 1 + 1 = na by omega]; exact hu)
      have bx : ∀ u ∈ b.toList.take nb, κ u ≤ κ y := fun u hu => asc_last sb hy u (by rw [show nb - 1 + 1 = nb by omega]; exact hu)
      refine wpS_bind (wpS_elem hy (wpS_bind (wpS_elem hx (wpS_bind (T y x (Sb y (mem_get hy)) (Sa x (mem_get hx)) st2 _ (sm2.1.trans ek) ?_)))))
      dsimp only
      by_cases q : κ y < κ x
      · simp only [q, decide_true, if_true]
        refine wpS_bind (wpS_elem hx ?_)
        have m' : HI κ a b (out.push x) (na - 1) nb := HI.pushA (by rw [show na - 1 + 1 = na by omega]; exact m) hx fun z hz => Int.le_trans (bx z hz) (Int.le_of_lt q)
        by_cases c3 : (na - 1 == 0) = true
        · rw [if_pos c3]
          exact wpS_pure ⟨sm2, .inl ⟨_, rfl, m'.done (.inl (by simpa using c3))⟩⟩
        rw [if_neg c3]
        have c3 : na - 1 ≠ 0 := by simpa using c3
        split
        · exact wpS_pure ⟨sm2, .inr ⟨rfl, m', show 1 ≤ na - 1 by omega, p2, show na - 1 ≤ _ by omega, p5, show na - 1 + nb ≤ _ by omega⟩⟩
        · exact wpS_pure ⟨sm2, _, _, _, _, _, rfl, m', by omega, p2, by omega, p5, by omega⟩
      · simp only [q, decide_false, Bool.false_eq_true, if_false]
        refine wpS_bind (wpS_elem hy ?_)
        have m' : HI κ a b (out.push y) na (nb - 1) := HI.pushB (by rw [show nb - 1 + 1 = nb by omega]; exact m) hy fun z hz => Int.le_trans (ax z hz) (Int.not_lt.mp q)
        by_cases c3 : (nb - 1 == 1) = true
        · rw [if_pos c3]
          exact wpS_pure ⟨sm2, .inl ⟨_, rfl, m'.first (by simpa using c3) h0 (by omega)⟩⟩
        rw [if_neg c3]
        have c3 : nb - 1 ≠ 1 := by simpa using c3
        split
        · exact wpS_pure ⟨sm2, .inr ⟨rfl, m', p1, show 2 ≤ nb - 1 by omega, p4, show nb - 1 ≤ _ by omega, show na + (nb - 1) ≤ _ by omega⟩⟩
        · exact wpS_pure ⟨sm2, _, _, _, _, _, rfl, m', p1, by omega, p4, by omega, by omega⟩
    case post1 =>
      rintro ⟨ro, na, nb, out, n1, n2⟩ st2 ⟨sm2, pt⟩
      rcases pt with ⟨r, e, gd⟩ | ⟨e, m, p1, p2, p4, p5, p3⟩
      · have e : ro = some r := e
        subst e
        exact wpS_pure ⟨sm2, r, rfl, gd⟩
      have e : ro = none := e
      subst e
      dsimp only at m p1 p2 p3 p4 p5 ⊢
      refine wpS_bind (wpS_lift (wpAny_rule ⟨rfl, ?_⟩))
      refine wpS_bind (wpS_mono (wpS_forRange (I := fun u c st' => SameBut st st' ∧ ∃ na nb out g x y, c = (none, na, nb, out, g, x, y) ∧ HI κ a b out na nb ∧ 1 ≤ na ∧ 2 ≤ nb ∧ na ≤ a.size ∧ nb ≤ b.size ∧ na + nb ≤ a.size + b.size - t - 2)
        (Q := fun c st' => SameBut st st' ∧ PartH κ a b (a.size + b.size - t - 2) c.1 c.2.1 c.2.2.1 c.2.2.2.1) ?step2 ?fin2 ⟨sm2, _, _, _, _, _, _, rfl, m, p1, p2, p4, p5, p3⟩) ?post2)
      case fin2 =>
        rintro c st' ⟨sm, na, nb, out, g, x, y, rfl, m, p⟩
        exact ⟨sm, .inr ⟨rfl, m, p⟩⟩
      case post2 =>
        rintro ⟨ro, na, nb, out, g, n1, n2⟩ st3 ⟨sm3, pt⟩
        rcases pt with ⟨r, e, gd⟩ | ⟨e, m, p1, p2, p4, p5, p3⟩
        · have e : ro = some r := e
          subst e
          exact wpS_pure ⟨sm3, r, rfl, gd⟩
        have e : ro = none := e
        subst e
        dsimp only at m p1 p2 p3 p4 p5 ⊢
        exact wpS_bind (wpS_setG sm3 fun st4 sm4 => wpS_pure ⟨sm4, _, _, _, _, rfl, m, p1, p2, p4, p5, by omega⟩)
      case step2 =>
        rintro u c st3 _ hu ⟨sm3, na, nb, out, g, n1, n2, rfl, m, p1, p2, p4, p5, p3⟩
        dsimp only
        obtain ⟨y, hy⟩ := get_lt (xs := b) (i := nb - 1) (by omega)
        have Sy := Sb y (mem_get hy)
        have bx : ∀ u ∈ b.toList.take nb, κ u ≤ κ y := fun u hu => asc_last sb hy u (by rw [show nb - 1 + 1 = nb by omega]; exact hu)
        rcases Nat.lt_or_ge 1 g with hg | hg
        all_goals
          first
          | rw [if_pos hg]
          | rw [if_neg (Nat.not_lt.mpr hg)]
          refine wpS_bind (wpS_setG sm3 fun st4 sm4 => ?_)
          refine wpS_bind (wpS_elem hy ?_)
          refine wpS_bind (wpS_gal T (stretchT sa Sa p4) Sy (sm4.1.trans ek) (by omega) fun l1 l2 el e1 e2 => ?_)
          simp only [Bool.false_eq_true, if_false] at e1 e2
          dsimp only
          have ln : l1.length + l2.length = na := by
            have := congrArg List.length el
            rw [List.length_append, List.length_take, Array.length_toList] at this
            omega
          rcases Nat.eq_zero_or_pos (na - l1.length) with h1 | h1
          · rw [if_neg (by omega)]
            have l2n : l2 = [] := List.length_eq_zero_iff.mp (by omega)
            subst l2n
            refine wpS_mono (hiB_ok (B := a.size + b.size - t - 2) (out := out) (na := na) (nb := nb) (k := na - l1.length) (n2 := n2) T sa sb Sa Sb m hy (fun z hz => e1 z (by rw [el, List.append_nil] at hz; exact hz)) h0 p1 p2 p4 p5 p3 sm4 ek) fun r st5 gq => ?_
            cases r with
            | done c => exact gq
            | yield c => exact gq.y
          · rw [if_pos h1]
            have mA := m.appA p4 el fun x hx z hz => Int.le_trans (bx z hz) (Int.le_of_lt (e2 x hx))
            by_cases c3 : (l1.length == 0) = true
            · rw [if_pos c3]
              exact wpS_pure ⟨sm4, .inl ⟨_, rfl, mA.done (.inl (by simpa using c3))⟩⟩
            rw [if_neg c3]
            have c3 : l1.length ≠ 0 := by simpa using c3
            refine wpS_mono (hiB_ok (B := a.size + b.size - t - 2) (out := out ++ (a.extract l1.length na).reverse) (na := l1.length) (nb := nb) (k := na - l1.length) (n2 := n2) T sa sb Sa Sb mA hy (fun z hz => e1 z (by rw [(take_cut p4 el).2] at hz; exact hz)) h0 (by omega) p2 (by omega) p5 (by omega) sm4 ek) fun r st5 gq => ?_
            cases r with
            | done c => exact gq
            | yield c => exact gq.y
end
end VL

set_option Elab.async false
set_option linter.all false
set_option maxRecDepth 100000
set_option maxHeartbeats 4000000
namespace VL
open PySem PySem.Spec PyProof.Rows
theorem mergeAt'_eq (i : Nat) : mergeAt' i = (do
  let s ← get
  let (some (sa, na, power), some (sb, nb, _)) := ((pendingOf s)[i]?, (pendingOf s)[i + 1]?) | unsupported "internal:list.sort.pending"
  set (setPending s (((pendingOf s).setIfInBounds i (sa, na + nb, power)).eraseIdxIfInBounds (i + 1)))
  let some k ← gallop' false (← elem' (arrOf s) sb) (arrOf s) sa na 0 | return false
  let (sa, na) := (sa + k, na - k)
  if na == 0 then return true
  let some nb ← gallop' true (← elem' (arrOf s) (sa + na - 1)) (arrOf s) sb nb (nb - 1) | return false
  if nb == 0 then return true
  let x := (arrOf s).extract sa sb
  let y := (arrOf s).extract sb (sb + nb)
  let merged ← if na ≤ nb then mergeLo' x y else mergeHi' x y
  modify fun s => setArr s (merged.toList.zipIdx.foldl (fun a (p, j) => a.setIfInBounds (sa + j) p) (arrOf s))
  return (failedOf (← get)).isNone) := rfl
section
variable {M : Model} {A : Around} {E : Value → Shared → Prop} {s : Shared} {κ : Keyed → Int} {S : Keyed → Prop} {kd : SortKind}
theorem wpS_set {σ : Type} {x : σ} {Q : PUnit → σ → Prop} {st : σ} (h : Q ⟨⟩ x) : wpS M A E s (set x : StateT σ Sem PUnit) Q st := by
  unfold wpS; rw [StateT.run_set]; exact wpAny_pure ⟨rfl, h⟩
theorem write_fold (o : Nat) : ∀ (l : List Keyed) (k : Nat) (xs : Array Keyed), o + k + l.length ≤ xs.size → ((l.zipIdx k).foldl (fun (a : Array Keyed) (q : Keyed × Nat) => a.setIfInBounds (o + q.2) q.1) xs).toList = xs.toList.take (o + k) ++ l ++ xs.toList.drop (o + k + l.length)
  | [], k, xs, _ => by simp
  | x :: l, k, xs, h => by
    rw [List.length_cons] at h
    rw [List.zipIdx_cons, List.foldl_cons, write_fold o l (k + 1) _ (by rw [Array.size_setIfInBounds]; omega), Array.toList_setIfInBounds]
    have hk : o + k < xs.toList.length := by rw [Array.length_toList]; omega
    rw [show o + (k + 1) = o + k + 1 by omega, List.take_add_one, List.take_set_of_le (Nat.le_refl _), List.getElem?_set_self hk, List.drop_set_of_lt (by omega), List.length_cons, show o + k + 1 + l.length = o + k + (l.length + 1) by omega]
    simp
/-- two runs that lie side by side are merged -/
theorem wpS_two (T : Tells M A E s kd κ S) {st : SortSt} {L1 g1 g2 L2 : List Keyed} {i pw pw2 : Nat} {Q : Bool → SortSt → Prop} (ek : kindOf st = kd) (hf : failedOf st = none) (ha : (arrOf st).toList = L1 ++ (g1 ++ (g2 ++ L2))) (a1 : Asc κ g1) (a2 : Asc κ g2) (n1 : g1 ≠ []) (n2 : g2 ≠ []) (hS : ∀ x ∈ g1 ++ g2, S x)
    (p1 : (pendingOf st)[i]? = some (L1.length, g1.length, pw)) (p2 : (pendingOf st)[i + 1]? = some (L1.length + g1.length, g2.length, pw2))
    (h : ∀ st' g, g.Perm (g1 ++ g2) → Asc κ g → (arrOf st').toList = L1 ++ (g ++ L2) → kindOf st' = kd → failedOf st' = none → pendingOf st' = ((pendingOf st).setIfInBounds i (L1.length, g1.length + g2.length, pw)).eraseIdxIfInBounds (i + 1) → Q true st') :
    wpS M A E s (mergeAt' i) Q st := by
  rw [mergeAt'_eq]
  refine wpS_bind (wpS_get ?_)
  rw [p1, p2]
  dsimp only
  refine wpS_bind (wpS_set ?_)
  have sz : (arrOf st).size = L1.length + (g1.length + (g2.length + L2.length)) := by
    have := congrArg List.length ha
    simpa using this
  have l1 : 1 ≤ g1.length := List.length_pos_iff.mpr n1
  have l2 : 1 ≤ g2.length := List.length_pos_iff.mpr n2
  have st1 : Stretch κ S (arrOf st) L1.length g1.length g1 := ⟨by rw [ha, List.drop_left, List.take_left], rfl, fun x hx => hS x (by simp [hx]), a1⟩
  have st2 : Stretch κ S (arrOf st) (L1.length + g1.length) g2.length g2 := ⟨by rw [ha, ← List.drop_drop, List.drop_left, List.drop_left, List.take_left], rfl, fun x hx => hS x (by simp [hx]), a2⟩
  have hb := st2.get (i := 0) (by omega)
  rw [Nat.add_zero] at hb
  have Sb0 : S g2[0] := st2.all _ (List.getElem_mem _)
  have b0 : ∀ z ∈ g2, κ g2[0] ≤ κ z := fun z hz => by
    obtain ⟨j, hj, rfl⟩ := List.mem_iff_getElem.mp hz
    rcases Nat.eq_zero_or_pos j with q | q
    · subst q; exact Int.le_refl _
    · exact List.pairwise_iff_getElem.mp a2 0 j (by omega) hj q
  have same : ∀ Z : SortSt, arrOf Z = arrOf st → kindOf Z = kindOf st → failedOf Z = failedOf st → pendingOf Z = ((pendingOf st).setIfInBounds i (L1.length, g1.length + g2.length, pw)).eraseIdxIfInBounds (i + 1) → (∀ x ∈ g1, ∀ y ∈ g2, κ x ≤ κ y) → Q true Z := fun Z e1 e2 e3 e4 q =>
    h Z (g1 ++ g2) (List.Perm.refl _) (a1.app a2 q) (by rw [e1, ha, List.append_assoc]) (e2.trans ek) (e3.trans hf) e4
  refine wpS_bind (wpS_elem hb ?_)
  refine wpS_bind (wpS_gal T st1 Sb0 ek (by omega) fun u1 u2 eu e1 e2 => ?_)
  simp only [Bool.false_eq_true, if_false] at e1 e2
  dsimp only
  have lu : u1.length + u2.length = g1.length := by rw [eu, List.length_append]
  by_cases c1 : (g1.length - u1.length == 0) = true
  · rw [if_pos c1]
    have : u2 = [] := List.length_eq_zero_iff.mp (by have : g1.length - u1.length = 0 := by simpa using c1
                                                     omega)
    subst this
    rw [List.append_nil] at eu
    refine wpS_pure (same _ rfl rfl rfl rfl fun x hx y hy => Int.le_trans (e1 x (eu ▸ hx)) (b0 y hy))
  rw [if_neg c1]
  have c1 : g1.length - u1.length ≠ 0 := by simpa using c1
  have hlast : (arrOf st)[L1.length + u1.length + (g1.length - u1.length) - 1]? = some g1[g1.length - 1] := by
    rw [show L1.length + u1.length + (g1.length - u1.length) - 1 = L1.length + (g1.length - 1) by omega]
    exact st1.get (by omega)
  have gl : ∀ z ∈ g1, κ z ≤ κ g1[g1.length - 1] := fun z hz => by
    obtain ⟨j, hj, rfl⟩ := List.mem_iff_getElem.mp hz
    rcases Nat.lt_or_ge j (g1.length - 1) with q | q
    · exact List.pairwise_iff_getElem.mp a1 j _ hj (by omega) q
    · have : j = g1.length - 1 := by omega
      subst this; exact Int.le_refl _
  refine wpS_bind (wpS_elem hlast ?_)
  refine wpS_bind (wpS_gal T st2 (st1.all _ (List.getElem_mem _)) ek (by omega) fun v1 v2 ev f1 f2 => ?_)
  simp only [if_true] at f1 f2
  dsimp only
  by_cases c2 : (v1.length == 0) = true
  · rw [if_pos c2]
    have : v1 = [] := List.length_eq_zero_iff.mp (by simpa using c2)
    subst this
    rw [List.nil_append] at ev
    refine wpS_pure (same _ rfl rfl rfl rfl fun x hx y hy => Int.le_trans (gl x hx) (f2 y (ev ▸ hy)))
  rw [if_neg c2]
  have c2 : v1.length ≠ 0 := by simpa using c2
  have lv : v1.length + v2.length = g2.length := by rw [ev, List.length_append]
  have ex : ((arrOf st).extract (L1.length + u1.length) (L1.length + g1.length)).toList = u2 := by
    rw [Array.toList_extract, List.extract_eq_drop_take, ha, eu, ← List.drop_drop, List.drop_left, List.append_assoc, List.drop_left, List.length_append, show L1.length + (u1.length + u2.length) - (L1.length + u1.length) = u2.length by omega, List.take_left]
  have ey : ((arrOf st).extract (L1.length + g1.length) (L1.length + g1.length + v1.length)).toList = v1 := by
    rw [Array.toList_extract, List.extract_eq_drop_take, ha, ← List.drop_drop, List.drop_left, List.drop_left, ev, List.append_assoc, show L1.length + g1.length + v1.length - (L1.length + g1.length) = v1.length by omega, List.take_left]
  have hm : ∀ (mg : Array Keyed) (st' : SortSt), Good κ ((arrOf st).extract (L1.length + u1.length) (L1.length + g1.length)) ((arrOf st).extract (L1.length + g1.length) (L1.length + g1.length + v1.length)) mg → SameBut (setPending st (((pendingOf st).setIfInBounds i (L1.length, g1.length + g2.length, pw)).eraseIdxIfInBounds (i + 1))) st' →
      wpS M A E s (do
        modify fun s => setArr s (mg.toList.zipIdx.foldl (fun (a : Array Keyed) (q : Keyed × Nat) => a.setIfInBounds (L1.length + u1.length + q.2) q.1) (arrOf s))
        return (failedOf (← get)).isNone) Q st' := fun mg st' gd sm => by
    obtain ⟨gp, ga⟩ := gd
    rw [ex, ey] at gp
    have ea : arrOf st' = arrOf st := sm.2.1
    have lm : mg.toList.length = u2.length + v1.length := by rw [gp.length_eq, List.length_append]
    refine wpS_bind (wpS_modify (wpS_bind (wpS_get (wpS_pure ?_))))
    have fn : failedOf st' = none := sm.2.2.2.trans hf
    show Q (failedOf st').isNone _
    rw [fn]
    refine h _ (u1 ++ mg.toList ++ v2) ?_ ?_ ?_ (sm.1.trans ek) fn sm.2.2.1
    · rw [eu, ev]
      have := ((List.Perm.refl u1).append gp).append (List.Perm.refl v2)
      simpa [List.append_assoc] using this
    · have mem : ∀ z, z ∈ mg.toList → z ∈ u2 ∨ z ∈ v1 := fun z hz => List.mem_append.mp (gp.mem_iff.mp hz)
      have au := eu ▸ a1
      have av := ev ▸ a2
      have v0 : ∀ z ∈ v1, κ g2[0] ≤ κ z := fun z hz => b0 z (by rw [ev]; simp [hz])
      refine (au.left.app ga fun x hx z hz => ?_).app av.right fun x hx z hz => ?_
      · rcases mem z hz with q | q
        · exact au.mid x hx z q
        · exact Int.le_trans (e1 x hx) (v0 z q)
      · rcases List.mem_append.mp hx with q | q
        · exact Int.le_trans (gl x (by rw [eu]; simp [q])) (f2 z hz)
        · rcases mem x q with q | q
          · exact Int.le_trans (gl x (by rw [eu]; simp [q])) (f2 z hz)
          · exact av.mid x q z hz
    · show (mg.toList.zipIdx.foldl _ (arrOf st')).toList = _
      rw [ea, write_fold (L1.length + u1.length) mg.toList 0 (arrOf st) (by rw [lm, sz]; omega), Nat.add_zero, ha, eu, ev, lm]
      have t1 : (L1 ++ (u1 ++ u2 ++ (v1 ++ v2 ++ L2))).take (L1.length + u1.length) = L1 ++ u1 := by
        rw [show L1 ++ (u1 ++ u2 ++ (v1 ++ v2 ++ L2)) = (L1 ++ u1) ++ (u2 ++ (v1 ++ v2 ++ L2)) by simp [List.append_assoc], ← List.length_append, List.take_left]
      have t2 : (L1 ++ (u1 ++ u2 ++ (v1 ++ v2 ++ L2))).drop (L1.length + u1.length + (u2.length + v1.length)) = v2 ++ L2 := by
        rw [show L1 ++ (u1 ++ u2 ++ (v1 ++ v2 ++ L2)) = (L1 ++ u1 ++ (u2 ++ v1)) ++ (v2 ++ L2) by simp [List.append_assoc], ← List.length_append, ← List.length_append, ← List.length_append, List.drop_left]
      rw [t1, t2]
      simp [List.append_assoc]
  have ax : Asc κ ((arrOf st).extract (L1.length + u1.length) (L1.length + g1.length)).toList := by rw [ex]; exact (eu ▸ a1).right
  have ay : Asc κ ((arrOf st).extract (L1.length + g1.length) (L1.length + g1.length + v1.length)).toList := by rw [ey]; exact (ev ▸ a2).left
  have SX : ∀ x ∈ ((arrOf st).extract (L1.length + u1.length) (L1.length + g1.length)).toList, S x := by rw [ex]; exact fun x hx => hS x (by rw [eu]; simp [hx])
  have SY : ∀ x ∈ ((arrOf st).extract (L1.length + g1.length) (L1.length + g1.length + v1.length)).toList, S x := by rw [ey]; exact fun x hx => hS x (by rw [ev]; simp [hx])
  have nX : 1 ≤ ((arrOf st).extract (L1.length + u1.length) (L1.length + g1.length)).size := by rw [← Array.length_toList, ex]; omega
  have nY : 1 ≤ ((arrOf st).extract (L1.length + g1.length) (L1.length + g1.length + v1.length)).size := by rw [← Array.length_toList, ey]; omega
  have h0 : ∀ y, ((arrOf st).extract (L1.length + g1.length) (L1.length + g1.length + v1.length))[0]? = some y → ∀ x ∈ ((arrOf st).extract (L1.length + u1.length) (L1.length + g1.length)).toList, κ y ≤ κ x := fun y hy x hx => by
    rw [← Array.getElem?_toList, ey] at hy
    have : g2[0]? = some y := by rw [ev, List.getElem?_append_left (by omega)]; exact hy
    obtain ⟨_, e⟩ := List.getElem?_eq_some_iff.mp this
    rw [ex] at hx
    rw [← e]
    exact Int.le_of_lt (e2 x hx)
  have hl : ∀ x, ((arrOf st).extract (L1.length + u1.length) (L1.length + g1.length))[((arrOf st).extract (L1.length + u1.length) (L1.length + g1.length)).size - 1]? = some x → ∀ y ∈ ((arrOf st).extract (L1.length + g1.length) (L1.length + g1.length + v1.length)).toList, κ y ≤ κ x := fun x hx y hy => by
    rw [← Array.length_toList, ← Array.getElem?_toList, ex] at hx
    have : g1[g1.length - 1]? = some x := by
      rw [← hx]
      have : g1.length - 1 = u1.length + (u2.length - 1) := by omega
      rw [this]
      conv => lhs; rw [eu]
      rw [List.getElem?_append_right (by omega), Nat.add_sub_cancel_left]
    obtain ⟨_, e⟩ := List.getElem?_eq_some_iff.mp this
    rw [ey] at hy
    rw [← e]
    exact Int.le_of_lt (f1 y hy)
  by_cases c3 : g1.length - u1.length ≤ v1.length
  · rw [if_pos c3]
    exact wpS_bind (wpS_mergeLo T ax ay SX SY nX nY h0 hl ek fun mg st' gd sm => hm mg st' gd sm)
  · rw [if_neg c3]
    exact wpS_bind (wpS_mergeHi T ax ay SX SY nX nY h0 hl ek fun mg st' gd sm => hm mg st' gd sm)
end
end VL

set_option Elab.async false
set_option linter.all false
set_option maxRecDepth 100000
set_option maxHeartbeats 4000000
namespace VL
open PySem PySem.Spec PyProof.Rows
/-! ### a run found, a run made longer -/
def KA (κ : Keyed → Int) (xs : Array Keyed) (i : Nat) : Int := match xs[i]? with
  | some p => κ p
  | none => 0
def UpTo (κ : Keyed → Int) (xs : Array Keyed) (lo k : Nat) : Prop := ∀ i j, i ≤ j → j < k → KA κ xs (lo + i) ≤ KA κ xs (lo + j)
def DownTo (κ : Keyed → Int) (xs : Array Keyed) (lo k : Nat) : Prop := ∀ i j, i ≤ j → j < k → KA κ xs (lo + j) ≤ KA κ xs (lo + i)
section
variable {M : Model} {A : Around} {E : Value → Shared → Prop} {s : Shared} {κ : Keyed → Int} {S : Keyed → Prop} {kd : SortKind}
theorem KA_congr {xs ys : Array Keyed} {i j : Nat} (h : xs[i]? = ys[j]?) : KA κ xs i = KA κ ys j := by unfold KA; rw [h]
theorem KA_bubble {xs : Array Keyed} {src d : Nat} (hs : src < xs.size) (hd : d ≤ src) (k : Nat) :
    KA κ (bubble xs src d) k = if k = src - d then KA κ xs src else if src - d < k ∧ k ≤ src then KA κ xs (k - 1) else KA κ xs k := by
  have e := getElem?_bubble hs d hd k
  by_cases h1 : k = src - d
  · rw [if_pos h1] at e ⊢; exact KA_congr e
  · rw [if_neg h1] at e ⊢
    by_cases h2 : src - d < k ∧ k ≤ src
    · rw [if_pos h2] at e ⊢; exact KA_congr e
    · rw [if_neg h2] at e ⊢; exact KA_congr e
theorem KA_mirror {xs : Array Keyed} {i j : Nat} (hj : j ≤ xs.size) (k : Nat) : KA κ (mirror xs i j ((j - i) / 2)) k = if i ≤ k ∧ k < j then KA κ xs (i + j - 1 - k) else KA κ xs k := by
  have e := getElem?_mirror_all (i := i) hj k
  by_cases h1 : i ≤ k ∧ k < j
  · rw [if_pos h1] at e ⊢; exact KA_congr e
  · rw [if_neg h1] at e ⊢; exact KA_congr e
theorem KA_mirror_equal {xs : Array Keyed} {i j : Nat} (hj : j ≤ xs.size) (heq : ∀ k, i ≤ k → k < j → KA κ xs k = KA κ xs (j - 1)) (k : Nat) : KA κ (mirror xs i j ((j - i) / 2)) k = KA κ xs k := by
  rw [KA_mirror hj]
  split
  · rw [heq _ (by omega) (by omega), heq k (by omega) (by omega)]
  · rfl
/-- the state of a sort, but for what lies behind lo -/
structure SB (S : Keyed → Prop) (kd : SortKind) (lo : Nat) (st0 st : SortSt) : Prop where
  perm : (arrOf st).Perm (arrOf st0)
  pre : ∀ k, k < lo → (arrOf st)[k]? = (arrOf st0)[k]?
  kind : kindOf st = kd
  failed : failedOf st = none
  pend : pendingOf st = pendingOf st0
  gal : gallopOf st = gallopOf st0
  all : ∀ x ∈ (arrOf st0).toList, S x
theorem SB.size {lo : Nat} {st0 st : SortSt} (h : SB S kd lo st0 st) : (arrOf st).size = (arrOf st0).size := h.perm.size_eq
theorem SB.setArr {lo : Nat} {st0 st : SortSt} (h : SB S kd lo st0 st) {xs : Array Keyed} (hp : xs.Perm (arrOf st)) (hq : ∀ k, k < lo → xs[k]? = (arrOf st)[k]?) : SB S kd lo st0 (setArr st xs) :=
  ⟨hp.trans h.perm, fun k hk => (hq k hk).trans (h.pre k hk), h.kind, h.failed, h.pend, h.gal, h.all⟩
theorem SB.at {lo : Nat} {st0 st : SortSt} (h : SB S kd lo st0 st) {i : Nat} (hi : i < (arrOf st0).size) : ∃ x, (arrOf st)[i]? = some x ∧ S x ∧ κ x = KA κ (arrOf st) i := by
  obtain ⟨x, hx⟩ := get_lt (xs := arrOf st) (i := i) (by rw [h.size]; exact hi)
  exact ⟨x, hx, h.all x ((Array.perm_iff_toList_perm.mp h.perm).mem_iff.mp (mem_get hx)), by unfold KA; rw [hx]⟩
theorem wpS_ltT (T : Tells M A E s kd κ S) {lo : Nat} {st0 st : SortSt} {i j : Nat} {Q : Option Bool → SortSt → Prop} (hB : SB S kd lo st0 st) (hi : i < (arrOf st0).size) (hj : j < (arrOf st0).size)
    (h : Q (some (decide (KA κ (arrOf st) i < KA κ (arrOf st) j))) st) : wpS M A E s (ltAt' i j) Q st := by
  obtain ⟨x, e1, s1, k1⟩ := hB.at (κ := κ) hi
  obtain ⟨y, e2, s2, k2⟩ := hB.at (κ := κ) hj
  rw [ltAt'_eq]
  refine wpS_bind (wpS_get ?_)
  exact wpS_bind (wpS_elem e1 (wpS_bind (wpS_elem e2 (T x y s1 s2 st _ hB.kind (by rw [k1, k2]; exact h)))))
theorem mirror_pre {xs : Array Keyed} {i j lo : Nat} (hj : j ≤ xs.size) (hi : lo ≤ i) : ∀ k, k < lo → (mirror xs i j ((j - i) / 2))[k]? = xs[k]? := fun k hk => by
  rw [getElem?_mirror_all hj, if_neg (by omega)]
theorem bubble_pre {xs : Array Keyed} {src d lo : Nat} (hs : src < xs.size) (hd : d ≤ src) (hl : lo ≤ src - d) : ∀ k, k < lo → (bubble xs src d)[k]? = xs[k]? := fun k hk => by
  rw [getElem?_bubble hs d hd, if_neg (by omega), if_neg (by omega)]
theorem wpS_bin (T : Tells M A E s kd κ S) {lo : Nat} {st0 st : SortSt} {n ok : Nat} {Q : Bool → SortSt → Prop} (hn : lo + n ≤ (arrOf st0).size) (hok : ok ≤ n) (hB : SB S kd lo st0 st) (hs : UpTo κ (arrOf st) lo ok)
    (h : ∀ st', SB S kd lo st0 st' → UpTo κ (arrOf st') lo n → Q true st') : wpS M A E s (binarySort' lo n ok) Q st := by
  rw [binarySort'_eq]
  refine wpS_bind (wpS_mono (wpS_forRange (I := fun k c st' => c = (none, ()) ∧ SB S kd lo st0 st' ∧ UpTo κ (arrOf st') lo (min k n))
    (Q := fun c st' => c = (none, ()) ∧ SB S kd lo st0 st' ∧ UpTo κ (arrOf st') lo n) ?step ?fin ?init) ?post)
  case post =>
    rintro c st' ⟨rfl, hB', hs'⟩
    exact wpS_pure (h st' hB' hs')
  case init =>
    refine ⟨rfl, hB, fun i j hij hj => ?_⟩
    by_cases h1 : ok = 0
    · have : i = j := by omega
      subst this; exact Int.le_refl _
    · exact hs i j hij (by omega)
  case fin =>
    rintro c st' ⟨hc, hB', hs'⟩
    refine ⟨hc, hB', ?_⟩
    rwa [show min (max (max ok 1) n) n = n by omega] at hs'
  case step =>
    rintro k c st' hak hkn ⟨rfl, hB', hs'⟩
    rw [show min k n = k by omega] at hs'
    have hk : lo + k < (arrOf st0).size := by omega
    refine wpS_bind (wpS_mono (wpS_forRange (I := fun x c st'' => st'' = st' ∧ ∃ l r, c = (none, l, r) ∧ l ≤ r ∧ r ≤ k ∧ r - l ≤ k - x ∧
        (∀ i, i < l → KA κ (arrOf st') (lo + i) ≤ KA κ (arrOf st') (lo + k)) ∧ (∀ i, r ≤ i → i < k → KA κ (arrOf st') (lo + k) < KA κ (arrOf st') (lo + i)))
      (Q := fun c st'' => st'' = st' ∧ ∃ l r, c = (none, l, r) ∧ l ≤ k ∧
        (∀ i, i < l → KA κ (arrOf st') (lo + i) ≤ KA κ (arrOf st') (lo + k)) ∧ (∀ i, l ≤ i → i < k → KA κ (arrOf st') (lo + k) < KA κ (arrOf st') (lo + i))) ?istep ?ifin ?iinit) ?ipost)
    case iinit => exact ⟨rfl, 0, k, rfl, by omega, by omega, by omega, fun i hi => by omega, fun i h1 h2 => by omega⟩
    case ifin =>
      rintro c st'' ⟨rfl, l, r, rfl, hlr, hrk, hm, hlo, hhi⟩
      have : l = r := by omega
      subst this
      exact ⟨rfl, l, l, rfl, hrk, hlo, hhi⟩
    case istep =>
      rintro x c st'' _ hxk ⟨rfl, l, r, rfl, hlr, hrk, hm, hlo, hhi⟩
      dsimp only
      by_cases hge : l ≥ r
      · rw [if_pos hge]
        have : l = r := by omega
        subst this
        exact wpS_pure ⟨rfl, l, l, rfl, hrk, hlo, hhi⟩
      · rw [if_neg hge]
        refine wpS_bind (wpS_ltT T hB' hk (by omega) ?_)
        by_cases hless : KA κ (arrOf st'') (lo + k) < KA κ (arrOf st'') (lo + (l + r) / 2)
        · simp only [hless, decide_true, if_true]
          refine wpS_pure ⟨rfl, l, (l + r) / 2, rfl, by omega, by omega, by omega, hlo, fun i h1 h2 => ?_⟩
          exact Int.lt_of_lt_of_le hless (hs' _ _ h1 h2)
        · simp only [hless, decide_false, Bool.false_eq_true, if_false]
          refine wpS_pure ⟨rfl, (l + r) / 2 + 1, r, rfl, by omega, by omega, by omega, fun i h1 => ?_, hhi⟩
          exact Int.le_trans (hs' i ((l + r) / 2) (by omega) (by omega)) (Int.not_lt.mp hless)
    case ipost =>
      rintro c st'' ⟨rfl, l, r, rfl, hlk, hlo, hhi⟩
      show wpS _ _ _ _ (do moveDown' (lo + k) (lo + l); pure (ForInStep.yield (none, ()))) _ _
      rw [moveDown'_eq]
      have hks : lo + k < (arrOf st'').size := by rw [hB'.size]; exact hk
      refine wpS_bind (wpS_modify (wpS_pure ⟨rfl, hB'.setArr (bubble_perm _ _ _) (bubble_pre hks (by omega) (by omega)), ?_⟩))
      rw [show min (k + 1) n = k + 1 by omega]
      intro i j hij hj
      show KA κ (bubble (arrOf st'') (lo + k) (lo + k - (lo + l))) (lo + i) ≤ KA κ (bubble (arrOf st'') (lo + k) (lo + k - (lo + l))) (lo + j)
      rw [KA_bubble hks (by omega), KA_bubble hks (by omega), show lo + k - (lo + k - (lo + l)) = lo + l by omega]
      have r1 : ∀ i, l < i → lo + i - 1 = lo + (i - 1) := fun i hi => by omega
      repeat' split
      all_goals first
        | (exfalso; omega)
        | exact Int.le_refl _
        | exact hlo _ (by omega)
        | (rw [r1 _ (by omega)]; exact Int.le_of_lt (hhi _ (by omega) (by omega)))
        | (rw [r1 _ (by omega), r1 _ (by omega)]; exact hs' _ _ (by omega) (by omega))
        | (rw [r1 _ (by omega)]; exact hs' _ _ (by omega) (by omega))
        | exact hs' _ _ (by omega) (by omega)
end
end VL

set_option Elab.async false
set_option linter.all false
set_option maxRecDepth 100000
set_option maxHeartbeats 4000000
namespace VL
open PySem PySem.Spec PyProof.Rows
def ascL (lo a nrem : Nat) : StateT SortSt Sem AscSt :=
  forIn [a:nrem] ((none, a) : AscSt) fun _ c => do
    let x ← ltAt' (lo + c.snd) (lo + c.snd - 1)
    match x with
    | some smaller => if smaller = true then pure (ForInStep.done (none, c.snd)) else pure (ForInStep.yield (none, c.snd + 1))
    | _ => pure (ForInStep.done (some none, c.snd))
def tail3L (lo n nrem : Nat) : StateT SortSt Sem (Option Nat) := do
  reverseSlice' lo (lo + n)
  let c ← ascL lo n nrem
  match c.fst with
  | some r => pure r
  | none => pure (some c.snd)
def descL (lo n nrem : Nat) : StateT SortSt Sem DescSt :=
  forIn [n:nrem] ((none, n, 0) : DescSt) fun _ c => do
    let x ← ltAt' (lo + c.snd.fst) (lo + c.snd.fst - 1)
    match x with
    | some smaller =>
      if smaller = true then
        if c.snd.snd > 0 then do
          reverseSlice' (lo + c.snd.fst - (c.snd.snd + 1)) (lo + c.snd.fst)
          pure (ForInStep.yield (none, c.snd.fst + 1, 0))
        else pure (ForInStep.yield (none, c.snd.fst + 1, 0))
      else do
        let x ← ltAt' (lo + c.snd.fst - 1) (lo + c.snd.fst)
        match x with
        | some larger =>
          if larger = true then pure (ForInStep.done (none, c.snd.fst, c.snd.snd))
          else pure (ForInStep.yield (none, c.snd.fst + 1, c.snd.snd + 1))
        | _ => pure (ForInStep.done (some none, c.snd.fst, c.snd.snd))
    | _ => pure (ForInStep.done (some none, c.snd.fst, c.snd.snd))
def descPartL (lo n nrem : Nat) : StateT SortSt Sem (Option Nat) := do
  liftM (rule "list.sort.descending-run")
  let c ← descL lo (n + 1) nrem
  match c.fst with
  | some r => pure r
  | none =>
    if c.snd.snd > 0 then do
      reverseSlice' (lo + c.snd.fst - (c.snd.snd + 1)) (lo + c.snd.fst)
      tail3L lo c.snd.fst nrem
    else tail3L lo c.snd.fst nrem
theorem countRunL_eq (lo nrem : Nat) : countRun' lo nrem = (do
    let c ← ascL lo 1 nrem
    match c.fst with
    | some r => pure r
    | none =>
      if (c.snd == nrem) = true then pure (some c.snd)
      else if c.snd > 1 then do
        let x ← ltAt' lo (lo + c.snd - 1)
        match x with
        | some rose => if rose = true then pure (some c.snd) else do
            reverseSlice' lo (lo + c.snd)
            descPartL lo c.snd nrem
        | _ => pure none
      else descPartL lo c.snd nrem) := by
  rw [countRun'_eq]
  unfold descPartL tail3L descL ascL
  dsimp only
  congr 1
  funext c
  obtain ⟨r, n⟩ := c
  cases r with
  | some r => rfl
  | none =>
    dsimp only
    split
    · rfl
    · split
      · congr 1
        funext x
        cases x with
        | none => rfl
        | some rose =>
          dsimp only
          split
          · rfl
          · congr 1
            funext u0
            congr 1
            funext u1
            congr 1
            congr 1
            funext c2
            obtain ⟨r2, n2, q2⟩ := c2
            cases r2 with
            | some r2 => rfl
            | none =>
              dsimp only
              split
              · congr 1
                funext u2
                congr 1
                funext u3
                congr 1
                funext c3
                obtain ⟨r3, n3⟩ := c3
                cases r3 <;> rfl
              · congr 1
                funext u3
                congr 1
                funext c3
                obtain ⟨r3, n3⟩ := c3
                cases r3 <;> rfl
      · congr 1
        funext u1
        congr 1
        congr 1
        funext c2
        obtain ⟨r2, n2, q2⟩ := c2
        cases r2 with
        | some r2 => rfl
        | none =>
          dsimp only
          split
          · congr 1
            funext u2
            congr 1
            funext u3
            congr 1
            funext c3
            obtain ⟨r3, n3⟩ := c3
            cases r3 <;> rfl
          · congr 1
            funext u3
            congr 1
            funext c3
            obtain ⟨r3, n3⟩ := c3
            cases r3 <;> rfl
section
variable {M : Model} {A : Around} {E : Value → Shared → Prop} {s : Shared} {κ : Keyed → Int} {S : Keyed → Prop} {kd : SortKind} {lo : Nat} {st0 st : SortSt}
theorem wpS_rev {i j : Nat} {Q : Unit → SortSt → Prop} (h : Q () (setArr st (mirror (arrOf st) i j ((j - i) / 2)))) : wpS M A E s (reverseSlice' i j) Q st := by
  rw [reverseSlice'_eq]; exact wpS_modify h
theorem wpS_ascL (T : Tells M A E s kd κ S) {a nrem : Nat} {Q : AscSt → SortSt → Prop} (hn : lo + nrem ≤ (arrOf st0).size) (ha : 1 ≤ a) (han : a ≤ nrem) (hB : SB S kd lo st0 st) (hs : UpTo κ (arrOf st) lo a)
    (h : ∀ n, a ≤ n → n ≤ nrem → UpTo κ (arrOf st) lo n → (n = nrem ∨ KA κ (arrOf st) (lo + n) < KA κ (arrOf st) (lo + n - 1)) → Q (none, n) st) : wpS M A E s (ascL lo a nrem) Q st := by
  unfold ascL
  refine wpS_forRange (I := fun x c st' => st' = st ∧ c = (none, x) ∧ UpTo κ (arrOf st) lo x) ?step ?fin ⟨rfl, rfl, hs⟩
  case fin =>
    rintro c st' ⟨rfl, rfl, hs'⟩
    rw [show max a nrem = nrem by omega] at hs' ⊢
    exact h nrem han (Nat.le_refl _) hs' (.inl rfl)
  case step =>
    rintro x c st' hax hxn ⟨rfl, rfl, hs'⟩
    dsimp only
    refine wpS_bind (wpS_ltT T hB (by omega) (by omega) ?_)
    by_cases hless : KA κ (arrOf st') (lo + x) < KA κ (arrOf st') (lo + x - 1)
    · simp only [hless, decide_true, if_true]
      exact wpS_pure (h x hax (by omega) hs' (.inr hless))
    · simp only [hless, decide_false, Bool.false_eq_true, if_false]
      refine wpS_pure ⟨rfl, rfl, fun i j hij hj => ?_⟩
      by_cases hjx : j < x
      · exact hs' i j hij hjx
      · have hj' : j = x := by omega
        subst hj'
        by_cases hi' : i = j
        · subst hi'; exact Int.le_refl _
        · rw [show lo + j - 1 = lo + (j - 1) by omega] at hless
          exact Int.le_trans (hs' i (j - 1) (by omega) (by omega)) (Int.not_lt.mp hless)
theorem wpS_tail3L (T : Tells M A E s kd κ S) {n nrem : Nat} {Q : Option Nat → SortSt → Prop} (hn : lo + nrem ≤ (arrOf st0).size) (h1 : 1 ≤ n) (hnn : n ≤ nrem) (hB : SB S kd lo st0 st) (hs : DownTo κ (arrOf st) lo n)
    (h : ∀ m st', SB S kd lo st0 st' → 1 ≤ m → m ≤ nrem → UpTo κ (arrOf st') lo m → Q (some m) st') : wpS M A E s (tail3L lo n nrem) Q st := by
  unfold tail3L
  have hsz : lo + n ≤ (arrOf st).size := by rw [hB.size]; omega
  refine wpS_bind (wpS_rev ?_)
  have hB' : SB S kd lo st0 (setArr st (mirror (arrOf st) lo (lo + n) ((lo + n - lo) / 2))) := hB.setArr (mirror_perm _ _ _ _) (mirror_pre hsz (Nat.le_refl _))
  refine wpS_bind (wpS_ascL T hn h1 hnn hB' ?_ fun m hm1 hm2 hsm _ => wpS_pure (h m _ hB' (by omega) hm2 hsm))
  intro i j hij hj
  show KA κ (mirror (arrOf st) lo (lo + n) ((lo + n - lo) / 2)) (lo + i) ≤ KA κ (mirror (arrOf st) lo (lo + n) ((lo + n - lo) / 2)) (lo + j)
  rw [KA_mirror hsz, KA_mirror hsz, if_pos (by omega), if_pos (by omega), show lo + (lo + n) - 1 - (lo + i) = lo + (n - 1 - i) by omega, show lo + (lo + n) - 1 - (lo + j) = lo + (n - 1 - j) by omega]
  exact hs _ _ (by omega) (by omega)
theorem wpS_descL (T : Tells M A E s kd κ S) {n nrem : Nat} {Q : DescSt → SortSt → Prop} (hn : lo + nrem ≤ (arrOf st0).size) (h1 : 1 ≤ n) (hnn : n ≤ nrem) (hB : SB S kd lo st0 st) (hs : DownTo κ (arrOf st) lo n)
    (h : ∀ m neq st', SB S kd lo st0 st' → n ≤ m → m ≤ nrem → DownTo κ (arrOf st') lo m → neq + 1 ≤ m → (∀ i, lo + m - (neq + 1) ≤ i → i < lo + m → KA κ (arrOf st') i = KA κ (arrOf st') (lo + m - 1)) → Q (none, m, neq) st') : wpS M A E s (descL lo n nrem) Q st := by
  unfold descL
  refine wpS_forRange (I := fun x c st' => ∃ neq, c = (none, x, neq) ∧ SB S kd lo st0 st' ∧ DownTo κ (arrOf st') lo x ∧ neq + 1 ≤ x ∧
      (∀ i, lo + x - (neq + 1) ≤ i → i < lo + x → KA κ (arrOf st') i = KA κ (arrOf st') (lo + x - 1))) ?step ?fin ⟨0, rfl, hB, hs, by omega, fun i h1 h2 => by congr 1; omega⟩
  case fin =>
    rintro c st' ⟨neq, rfl, hB', hs', hq, he⟩
    rw [show max n nrem = nrem by omega] at hs' hq he ⊢
    exact h nrem neq st' hB' hnn (Nat.le_refl _) hs' hq he
  case step =>
    rintro x c st' hax hxn ⟨neq, rfl, hB', hs', hq, he⟩
    dsimp only
    have hsz : lo + x ≤ (arrOf st').size := by rw [hB'.size]; omega
    have e1 : lo + x - 1 = lo + (x - 1) := by omega
    refine wpS_bind (wpS_ltT T hB' (by omega) (by omega) ?_)
    by_cases hless : KA κ (arrOf st') (lo + x) < KA κ (arrOf st') (lo + x - 1)
    · simp only [hless, decide_true, if_true]
      have step1 : ∀ xs : Array Keyed, (∀ k, KA κ xs k = KA κ (arrOf st') k) → DownTo κ xs lo (x + 1) := by
        intro xs hk i j hij hj
        rw [hk, hk]
        by_cases hjx : j < x
        · exact hs' i j hij hjx
        · have hj' : j = x := by omega
          subst hj'
          by_cases hi' : i = j
          · subst hi'; exact Int.le_refl _
          · rw [e1] at hless
            exact Int.le_trans (Int.le_of_lt hless) (hs' i (j - 1) (by omega) (by omega))
      by_cases hneq : neq > 0
      · rw [if_pos hneq]
        refine wpS_bind (wpS_rev (wpS_pure ⟨0, rfl, hB'.setArr (mirror_perm _ _ _ _) (mirror_pre hsz (by omega)), step1 _ (KA_mirror_equal hsz he), by omega, fun i h1 h2 => by congr 1; omega⟩))
      · rw [if_neg hneq]
        exact wpS_pure ⟨0, rfl, hB', step1 _ (fun _ => rfl), by omega, fun i h1 h2 => by congr 1; omega⟩
    · simp only [hless, decide_false, Bool.false_eq_true, if_false]
      refine wpS_bind (wpS_ltT T hB' (by omega) (by omega) ?_)
      by_cases hlarger : KA κ (arrOf st') (lo + x - 1) < KA κ (arrOf st') (lo + x)
      · simp only [hlarger, decide_true, if_true]
        exact wpS_pure (h x neq st' hB' hax (by omega) hs' hq he)
      · simp only [hlarger, decide_false, Bool.false_eq_true, if_false]
        have heqx : KA κ (arrOf st') (lo + x) = KA κ (arrOf st') (lo + x - 1) := by omega
        refine wpS_pure ⟨neq + 1, rfl, hB', fun i j hij hj => ?_, by omega, fun i h1 h2 => ?_⟩
        · by_cases hjx : j < x
          · exact hs' i j hij hjx
          · have hj' : j = x := by omega
            subst hj'
            by_cases hi' : i = j
            · subst hi'; exact Int.le_refl _
            · rw [heqx, e1]; exact hs' i (j - 1) (by omega) (by omega)
        · rw [show lo + (x + 1) - 1 = lo + x by omega]
          by_cases hix : i = lo + x
          · subst hix; rfl
          · rw [heqx]; exact he i (by omega) (by omega)
theorem wpS_descPartL (T : Tells M A E s kd κ S) {n nrem : Nat} {Q : Option Nat → SortSt → Prop} (hn : lo + nrem ≤ (arrOf st0).size) (hnn : n + 1 ≤ nrem) (hB : SB S kd lo st0 st) (hs : DownTo κ (arrOf st) lo (n + 1))
    (h : ∀ m st', SB S kd lo st0 st' → 1 ≤ m → m ≤ nrem → UpTo κ (arrOf st') lo m → Q (some m) st') : wpS M A E s (descPartL lo n nrem) Q st := by
  unfold descPartL
  refine wpS_bind (wpS_lift (wpAny_rule ⟨rfl, ?_⟩))
  refine wpS_bind (wpS_descL T hn (by omega) hnn hB hs fun m neq st' hB' hm1 hm2 hs' hq he => ?_)
  dsimp only
  have hsz : lo + m ≤ (arrOf st').size := by rw [hB'.size]; omega
  by_cases hneq : neq > 0
  · rw [if_pos hneq]
    refine wpS_bind (wpS_rev (wpS_tail3L T hn (by omega) hm2 (hB'.setArr (mirror_perm _ _ _ _) (mirror_pre hsz (by omega))) ?_ h))
    intro i j hij hj
    show KA κ (mirror (arrOf st') _ _ _) (lo + j) ≤ KA κ (mirror (arrOf st') _ _ _) (lo + i)
    rw [KA_mirror_equal hsz he, KA_mirror_equal hsz he]
    exact hs' i j hij hj
  · rw [if_neg hneq]
    exact wpS_tail3L T hn (by omega) hm2 hB' hs' h
theorem wpS_run (T : Tells M A E s kd κ S) {nrem : Nat} {Q : Option Nat → SortSt → Prop} (hn : lo + nrem ≤ (arrOf st0).size) (h1 : 1 ≤ nrem) (hB : SB S kd lo st0 st)
    (h : ∀ m st', SB S kd lo st0 st' → 1 ≤ m → m ≤ nrem → UpTo κ (arrOf st') lo m → Q (some m) st') : wpS M A E s (countRun' lo nrem) Q st := by
  rw [countRunL_eq]
  refine wpS_bind (wpS_ascL T hn (Nat.le_refl 1) h1 hB (fun i j hij hj => by rw [show i = j by omega]; exact Int.le_refl _) fun n hn1 hn2 hsn hor => ?_)
  dsimp only
  by_cases hnn : n = nrem
  · rw [if_pos (by simpa using hnn)]
    exact wpS_pure (h n st hB hn1 hn2 hsn)
  · rw [if_neg (by simpa using hnn)]
    have hlt : KA κ (arrOf st) (lo + n) < KA κ (arrOf st) (lo + (n - 1)) := by
      have := hor.resolve_left hnn
      rwa [show lo + n - 1 = lo + (n - 1) by omega] at this
    by_cases hgt : n > 1
    · rw [if_pos hgt]
      refine wpS_bind (wpS_ltT T hB (by omega) (by omega) ?_)
      by_cases hrose : KA κ (arrOf st) lo < KA κ (arrOf st) (lo + n - 1)
      · simp only [hrose, decide_true, if_true]
        exact wpS_pure (h n st hB hn1 hn2 hsn)
      · simp only [hrose, decide_false, Bool.false_eq_true, if_false]
        have hsz : lo + n ≤ (arrOf st).size := by rw [hB.size]; omega
        have hall : ∀ k, k < n → KA κ (arrOf st) (lo + k) = KA κ (arrOf st) (lo + n - 1) := by
          intro k hk
          have a1 := hsn 0 k (by omega) hk
          have a2 := hsn k (n - 1) (by omega) (by omega)
          rw [Nat.add_zero] at a1
          rw [show lo + n - 1 = lo + (n - 1) by omega] at hrose ⊢
          omega
        have hall' : ∀ k, lo ≤ k → k < lo + n → KA κ (arrOf st) k = KA κ (arrOf st) (lo + n - 1) := fun k k1 k2 => by
          have := hall (k - lo) (by omega)
          rwa [show lo + (k - lo) = k by omega] at this
        refine wpS_bind (wpS_rev (wpS_descPartL T hn (by omega) (hB.setArr (mirror_perm _ _ _ _) (mirror_pre hsz (Nat.le_refl _))) ?_ h))
        intro i j hij hj
        show KA κ (mirror (arrOf st) _ _ _) (lo + j) ≤ KA κ (mirror (arrOf st) _ _ _) (lo + i)
        rw [KA_mirror_equal hsz hall', KA_mirror_equal hsz hall']
        by_cases hjn : j < n
        · rw [hall i (by omega), hall j hjn]; exact Int.le_refl _
        · have hj' : j = n := by omega
          subst hj'
          by_cases hi' : i = j
          · subst hi'; exact Int.le_refl _
          · rw [hall i (by omega), show lo + j - 1 = lo + (j - 1) by omega]; exact Int.le_of_lt hlt
    · rw [if_neg hgt]
      have hn1' : n = 1 := by omega
      subst hn1'
      refine wpS_descPartL T hn (by omega) hB ?_ h
      intro i j hij hj
      by_cases hi' : i = j
      · subst hi'; exact Int.le_refl _
      · have hi0 : i = 0 := by omega
        have hj1 : j = 1 := by omega
        subst hi0; subst hj1
        exact Int.le_of_lt hlt
end
end VL

set_option Elab.async false
set_option linter.all false
set_option maxRecDepth 100000
set_option maxHeartbeats 4000000
namespace VL
open PySem PySem.Spec PyProof.Rows
/-- where the runs lie -/
def tile : Nat → List (List Keyed) → List (Nat × Nat)
  | _, [] => []
  | o, g :: gs => (o, g.length) :: tile (o + g.length) gs
theorem tile_app : ∀ (A B : List (List Keyed)) (o : Nat), tile o (A ++ B) = tile o A ++ tile (o + A.flatten.length) B
  | [], B, o => by simp [tile]
  | g :: A, B, o => by
    rw [List.cons_append, tile, tile, tile_app A B, List.flatten_cons, List.length_append, Nat.add_assoc]; rfl
theorem tile_len : ∀ (A : List (List Keyed)) (o : Nat), (tile o A).length = A.length
  | [], _ => rfl
  | g :: A, o => by rw [tile, List.length_cons, List.length_cons, tile_len A]
section
variable {M : Model} {A : Around} {E : Value → Shared → Prop} {s : Shared} {κ : Keyed → Int} {S : Keyed → Prop} {kd : SortKind} {all : List Keyed}
structure RS (κ : Keyed → Int) (S : Keyed → Prop) (kd : SortKind) (all : List Keyed) (st : SortSt) (segs : List (List Keyed)) (rest : List Keyed) : Prop where
  arr : (arrOf st).toList = segs.flatten ++ rest
  tl : (pendingOf st).toList.map (fun e => (e.1, e.2.1)) = tile 0 segs
  asc : ∀ g ∈ segs, Asc κ g
  ne : ∀ g ∈ segs, g ≠ []
  kind : kindOf st = kd
  failed : failedOf st = none
  perm : (arrOf st).toList.Perm all
  sall : ∀ x ∈ all, S x
theorem RS.size {st : SortSt} {segs : List (List Keyed)} {rest : List Keyed} (h : RS κ S kd all st segs rest) : (pendingOf st).size = segs.length := by
  have := congrArg List.length h.tl
  rw [List.length_map, Array.length_toList, tile_len] at this
  exact this
theorem cut_at {α : Type} {l : List α} {i : Nat} (h : i + 1 < l.length) : ∃ A x y B, l = A ++ x :: y :: B ∧ A.length = i :=
  ⟨l.take i, l[i], l[i + 1], l.drop (i + 2), by
    conv => lhs; rw [← List.take_append_drop i l]
    rw [List.drop_eq_getElem_cons (by omega), List.drop_eq_getElem_cons h], by rw [List.length_take]; omega⟩
theorem wpS_mergeR (T : Tells M A E s kd κ S) {st : SortSt} {segs : List (List Keyed)} {rest : List Keyed} {i : Nat} {Q : Bool → SortSt → Prop} (h : RS κ S kd all st segs rest) (hi : i + 1 < segs.length)
    (q : ∀ st' segs', RS κ S kd all st' segs' rest → segs'.length + 1 = segs.length → segs'.flatten.length = segs.flatten.length → Q true st') : wpS M A E s (mergeAt' i) Q st := by
  obtain ⟨S1, g1, g2, S2, rfl, e⟩ := cut_at hi
  have ha : (arrOf st).toList = S1.flatten ++ (g1 ++ (g2 ++ (S2.flatten ++ rest))) := by rw [h.arr]; simp [List.append_assoc]
  have ht := h.tl
  rw [tile_app] at ht
  simp only [tile, Nat.zero_add] at ht
  obtain ⟨P1, P2, ep, e1, e2⟩ := List.map_eq_append_iff.mp ht
  obtain ⟨⟨a1, a2, pw⟩, P3, rfl, f1, e3⟩ := List.map_eq_cons_iff.mp e2
  obtain ⟨⟨b1, b2, pw2⟩, P4, rfl, f2, e4⟩ := List.map_eq_cons_iff.mp e3
  simp only [Prod.mk.injEq] at f1 f2
  obtain ⟨rfl, rfl⟩ := f1
  obtain ⟨rfl, rfl⟩ := f2
  have lP : P1.length = i := by
    have := congrArg List.length e1
    rw [List.length_map, tile_len] at this
    omega
  have p1 : (pendingOf st)[i]? = some (S1.flatten.length, g1.length, pw) := by
    rw [← Array.getElem?_toList, ep, List.getElem?_append_right (by omega), lP, Nat.sub_self]; rfl
  have p2 : (pendingOf st)[i + 1]? = some (S1.flatten.length + g1.length, g2.length, pw2) := by
    rw [← Array.getElem?_toList, ep, List.getElem?_append_right (by omega), lP, show i + 1 - i = 1 by omega]; rfl
  refine wpS_two T h.kind h.failed ha (h.asc _ (by simp)) (h.asc _ (by simp)) (h.ne _ (by simp)) (h.ne _ (by simp)) (fun x hx => h.sall x (h.perm.mem_iff.mp (by rw [ha]; simp at hx ⊢; rcases hx with hx | hx <;> simp [hx]))) p1 p2 fun st' g gp ga ea ek ef epd => ?_
  have lg : g.length = g1.length + g2.length := by rw [gp.length_eq, List.length_append]
  refine q st' (S1 ++ g :: S2) ⟨by rw [ea]; simp [List.append_assoc], ?_, fun x hx => ?_, fun x hx => ?_, ek, ef, ?_, h.sall⟩ (by simp; omega) (by simp [lg]; omega)
  · rw [epd, Array.toList_eraseIdxIfInBounds, Array.toList_setIfInBounds, ep, ← lP]
    have t1 : (P1 ++ (S1.flatten.length, g1.length, pw) :: (S1.flatten.length + g1.length, g2.length, pw2) :: P4).set P1.length (S1.flatten.length, g1.length + g2.length, pw) = P1 ++ (S1.flatten.length, g1.length + g2.length, pw) :: (S1.flatten.length + g1.length, g2.length, pw2) :: P4 := by simp
    rw [t1]
    have t2 : (P1 ++ (S1.flatten.length, g1.length + g2.length, pw) :: (S1.flatten.length + g1.length, g2.length, pw2) :: P4).eraseIdx (P1.length + 1) = P1 ++ (S1.flatten.length, g1.length + g2.length, pw) :: P4 := by
      rw [List.eraseIdx_append_of_length_le (by omega), show P1.length + 1 - P1.length = 1 by omega]; rfl
    rw [t2, List.map_append, e1, List.map_cons, e4, tile_app, tile, lg, Nat.zero_add, Nat.add_assoc]
  · rcases List.mem_append.mp hx with hx | hx
    · exact h.asc x (by simp [hx])
    · rcases List.mem_cons.mp hx with rfl | hx
      · exact ga
      · exact h.asc x (by simp [hx])
  · rcases List.mem_append.mp hx with hx | hx
    · exact h.ne x (by simp [hx])
    · rcases List.mem_cons.mp hx with rfl | hx
      · have := h.ne g1 (by simp)
        intro z
        subst z
        have := List.length_pos_iff.mpr this
        simp at lg
        omega
      · exact h.ne x (by simp [hx])
  · have hp := h.perm
    rw [ha] at hp
    rw [ea]
    refine List.Perm.trans ((List.Perm.refl S1.flatten).append ?_) hp
    rw [← List.append_assoc g1]
    exact gp.append_right _
end
end VL

set_option Elab.async false
set_option linter.all false
set_option maxRecDepth 100000
set_option maxHeartbeats 4000000
namespace VL
open PySem PySem.Spec PyProof.Rows
section
variable {M : Model} {A : Around} {E : Value → Shared → Prop} {s : Shared} {κ : Keyed → Int} {S : Keyed → Prop} {kd : SortKind} {all : List Keyed}
/-- the part behind lo, with a run at its head -/
theorem run_cut {st0 st : SortSt} {segs : List (List Keyed)} {rest : List Keyed} {n : Nat} (h : RS κ S kd all st0 segs rest) (hB : SB S kd segs.flatten.length st0 st) (hu : UpTo κ (arrOf st) segs.flatten.length n) (hn : segs.flatten.length + n ≤ (arrOf st0).size) :
    ∃ rest', RS κ S kd all st segs rest' ∧ Asc κ (rest'.take n) ∧ rest'.length = rest.length := by
  have hp : (arrOf st).toList.Perm (arrOf st0).toList := Array.perm_iff_toList_perm.mp hB.perm
  have pre0 : ∀ lo, (∀ k, k < lo → (arrOf st)[k]? = (arrOf st0)[k]?) → (arrOf st).toList.take lo = (arrOf st0).toList.take lo := fun lo hq => by
    apply List.ext_getElem?
    intro k
    by_cases hk : k < lo
    · rw [List.getElem?_take_of_lt hk, List.getElem?_take_of_lt hk, Array.getElem?_toList, Array.getElem?_toList]
      exact hq k hk
    · rw [List.getElem?_eq_none (by rw [List.length_take]; omega), List.getElem?_eq_none (by rw [List.length_take]; omega)]
  have pre : (arrOf st).toList.take segs.flatten.length = segs.flatten := by rw [pre0 _ hB.pre, h.arr, List.take_left]
  have arr : (arrOf st).toList = segs.flatten ++ (arrOf st).toList.drop segs.flatten.length := by
    conv => lhs; rw [← List.take_append_drop segs.flatten.length (arrOf st).toList, pre]
  have pm := hp
  rw [arr, h.arr] at pm
  have pr := (List.perm_append_left_iff _).mp pm
  refine ⟨_, ⟨arr, by rw [hB.pend]; exact h.tl, h.asc, h.ne, hB.kind, hB.failed, hp.trans h.perm, h.sall⟩, ?_, pr.length_eq⟩
  have get : ∀ i, i < n → ((arrOf st).toList.drop segs.flatten.length)[i]? = (arrOf st)[segs.flatten.length + i]? := fun i _ => by rw [List.getElem?_drop, Array.getElem?_toList]
  refine List.pairwise_iff_getElem.mpr fun i j hi hj hij => ?_
  rw [List.length_take] at hi hj
  have := hu i j (by omega) (by omega)
  unfold KA at this
  rw [← get i (by omega), ← get j (by omega), List.getElem?_eq_getElem (by omega), List.getElem?_eq_getElem (by omega)] at this
  rw [List.getElem_take, List.getElem_take]
  exact this
theorem RS.push {st : SortSt} {segs : List (List Keyed)} {rest : List Keyed} {n pw : Nat} (h : RS κ S kd all st segs rest) (ha : Asc κ (rest.take n)) (h1 : 1 ≤ n) (hn : n ≤ rest.length) :
    RS κ S kd all (setPending st ((pendingOf st).push (segs.flatten.length, n, pw))) (segs ++ [rest.take n]) (rest.drop n) := by
  have ln : (rest.take n).length = n := by rw [List.length_take]; omega
  refine ⟨?_, ?_, fun g hg => ?_, fun g hg => ?_, h.kind, h.failed, h.perm, h.sall⟩
  · rw [List.flatten_append, List.append_assoc]
    simp only [List.flatten_cons, List.flatten_nil, List.append_nil]
    rw [List.take_append_drop]
    exact h.arr
  · show ((pendingOf st).push _).toList.map _ = _
    rw [Array.toList_push, List.map_append, h.tl, tile_app]
    simp [tile, ln]
  · rcases List.mem_append.mp hg with hg | hg
    · exact h.asc g hg
    · rw [List.mem_singleton.mp hg]; exact ha
  · rcases List.mem_append.mp hg with hg | hg
    · exact h.ne g hg
    · rw [List.mem_singleton.mp hg]
      intro z
      rw [z] at ln
      simp at ln
      omega
theorem RS.pow {st : SortSt} {segs : List (List Keyed)} {rest : List Keyed} {pw i : Nat} (h : RS κ S kd all st segs rest) : RS κ S kd all (setPending st ((pendingOf st).modify i fun x => (x.1, x.2.1, pw))) segs rest := by
  refine ⟨h.arr, ?_, h.asc, h.ne, h.kind, h.failed, h.perm, h.sall⟩
  rw [← h.tl]
  show ((pendingOf st).modify i _).toList.map _ = _
  rw [Array.toList_modify]
  apply List.ext_getElem?
  intro k
  rw [List.getElem?_map, List.getElem?_map, List.getElem?_modify]
  cases (pendingOf st).toList[k]? with
  | none => rfl
  | some x =>
    by_cases e : i = k
    · simp [e]
    · simp [e]
def mergeLoop (size pw : Nat) : StateT SortSt Sem (Option Unit × Unit) :=
  forIn [0:size] ((none, ()) : Option Unit × Unit) fun _ _ => do
    let d ← get
    match if (pendingOf d).size > 1 then (pendingOf d)[(pendingOf d).size - 2]? else none with
    | some (_, _, older) =>
      if older ≤ pw then pure (ForInStep.done (none, ()))
      else do
        let ok ← mergeAt' ((pendingOf d).size - 2)
        if (!ok) = true then pure (ForInStep.done (some (), ())) else pure (ForInStep.yield (none, ()))
    | _ => pure (ForInStep.done (none, ()))
theorem mergeLoop_ok (T : Tells M A E s kd κ S) {st : SortSt} {segs : List (List Keyed)} {rest : List Keyed} {size pw : Nat} (r : RS κ S kd all st segs rest) :
    wpS M A E s (mergeLoop size pw) (fun c st' => c = (none, ()) ∧ ∃ segs', RS κ S kd all st' segs' rest ∧ segs'.flatten.length = segs.flatten.length) st := by
  unfold mergeLoop
  refine wpS_forRange (I := fun _ c st' => c = (none, ()) ∧ ∃ segs', RS κ S kd all st' segs' rest ∧ segs'.flatten.length = segs.flatten.length) ?step (fun _ _ h => h) ⟨rfl, segs, r, rfl⟩
  rintro t c st' _ _ ⟨rfl, segs', r', e'⟩
  refine wpS_bind (wpS_get ?_)
  have hs := r'.size
  by_cases c1 : (pendingOf st').size > 1
  · rw [if_pos c1, Array.getElem?_eq_getElem (by omega)]
    dsimp only
    split
    · exact wpS_pure ⟨rfl, segs', r', e'⟩
    · refine wpS_bind (wpS_mergeR T r' (by omega) fun st2 segs2 r2 _ e2 => ?_)
      simp only [Bool.not_true, Bool.false_eq_true, if_false]
      exact wpS_pure ⟨rfl, segs2, r2, e2.trans e'⟩
  · rw [if_neg c1]
    exact wpS_pure ⟨rfl, segs', r', e'⟩
theorem fin_run {segs : List (List Keyed)} {rest : List Keyed} {n : Nat} {st2 : SortSt} {segs2 : List (List Keyed)} (r2 : RS κ S kd all st2 segs2 rest) (ha : Asc κ (rest.take n)) (h1 : 1 ≤ n) (hn : n ≤ rest.length) (e2 : segs2.flatten.length = segs.flatten.length) : wpS M A E s (do
      modify fun s => setPending s ((pendingOf s).push (segs.flatten.length, n, 0))
      pure (ForInStep.yield ((none : Option Unit), segs.flatten.length + n))) (fun c st' => ∃ segs' rest', c = .yield (none, segs'.flatten.length) ∧ RS κ S kd all st' segs' rest' ∧ segs'.flatten.length = segs.flatten.length + n) st2 := by
  have ln : (segs2 ++ [rest.take n]).flatten.length = segs.flatten.length + n := by
    rw [List.flatten_append, List.length_append, e2]
    simp
    omega
  refine wpS_bind (wpS_modify (wpS_pure ⟨segs2 ++ [rest.take n], rest.drop n, by rw [ln], ?_, ln⟩))
  rw [← e2]
  exact r2.push ha h1 hn
theorem wpS_sortAll (T : Tells M A E s kd κ S) {st : SortSt} {Q : Unit → SortSt → Prop} (hk : kindOf st = kd) (hf : failedOf st = none) (hp : pendingOf st = #[]) (hS : ∀ x ∈ (arrOf st).toList, S x)
    (h : ∀ st', (arrOf st').toList.Perm (arrOf st).toList → failedOf st' = none → Asc κ (arrOf st').toList → Q () st') : wpS M A E s sortRuns' Q st := by
  rw [sortRuns'_eq]
  refine wpS_bind (wpS_get ?_)
  dsimp only
  have r0 : RS κ S kd (arrOf st).toList st [] (arrOf st).toList := ⟨rfl, by rw [hp]; rfl, (fun _ z => nomatch z), (fun _ z => nomatch z), hk, hf, List.Perm.refl _, hS⟩
  have sz : ∀ {st' : SortSt} {segs : List (List Keyed)} {rest : List Keyed}, RS κ S kd (arrOf st).toList st' segs rest → (arrOf st').size = (arrOf st).size := fun r => by
    have := r.perm.length_eq
    rwa [Array.length_toList, Array.length_toList] at this
  refine wpS_bind (wpS_mono (wpS_forRange (I := fun t c st' => ∃ segs rest, c = (none, segs.flatten.length) ∧ RS κ S kd (arrOf st).toList st' segs rest ∧ t ≤ segs.flatten.length)
    (Q := fun c st' => ∃ segs, c.1 = none ∧ RS κ S kd (arrOf st).toList st' segs []) ?step ?fin ⟨[], _, rfl, r0, by simp⟩) ?post)
  case fin =>
    rintro c st' ⟨segs, rest, rfl, r, ht⟩
    have l := congrArg List.length r.arr
    rw [List.length_append, Array.length_toList, sz r] at l
    have : rest = [] := List.length_eq_zero_iff.mp (by omega)
    subst this
    exact ⟨segs, rfl, r⟩
  case post =>
    rintro c st' ⟨segs, hc, r⟩
    rw [hc]
    dsimp only
    have nl : segs.length ≤ (arrOf st).size := by
      have l := congrArg List.length r.arr
      rw [List.append_nil, Array.length_toList, sz r] at l
      have : ∀ L : List (List Keyed), (∀ g ∈ L, g ≠ []) → L.length ≤ L.flatten.length := by
        intro L
        induction L with
        | nil => intro _; simp
        | cons g L ih =>
          intro hg
          have := ih fun x hx => hg x (List.mem_cons_of_mem _ hx)
          have := List.length_pos_iff.mpr (hg g List.mem_cons_self)
          rw [List.flatten_cons, List.length_append, List.length_cons]
          omega
      have := this segs r.ne
      omega
    refine wpS_bind (wpS_mono (wpS_forRange (I := fun t c st' => c = (none, ()) ∧ ∃ segs, RS κ S kd (arrOf st).toList st' segs [] ∧ (segs.length ≤ 1 ∨ segs.length + t ≤ (arrOf st).size))
      (Q := fun c st' => c = (none, ()) ∧ ∃ segs, RS κ S kd (arrOf st).toList st' segs [] ∧ segs.length ≤ 1) ?step2 ?fin2 ⟨rfl, segs, r, .inr nl⟩) ?post2)
    case fin2 =>
      rintro c st2 ⟨rfl, segs, r, hq⟩
      exact ⟨rfl, segs, r, by omega⟩
    case post2 =>
      rintro c st2 ⟨rfl, segs, r, hq⟩
      refine wpS_pure (h st2 r.perm r.failed ?_)
      rw [r.arr, List.append_nil]
      match segs, hq with
      | [], _ => exact List.Pairwise.nil
      | [g], _ => simpa using r.asc g (by simp)
    case step2 =>
      rintro t c st2 _ ht ⟨rfl, segs, r, hq⟩
      refine wpS_bind (wpS_get ?_)
      have hs := r.size
      by_cases c1 : (pendingOf st2).size ≤ 1
      · rw [if_pos c1]
        exact wpS_pure ⟨rfl, segs, r, by omega⟩
      · rw [if_neg c1]
        have ix : ∀ (c : Prop) [Decidable c], (if c then (pendingOf st2).size - 2 - 1 else (pendingOf st2).size - 2) + 1 < segs.length := fun c _ => by split <;> omega
        refine wpS_bind (wpS_mergeR T r (ix _) fun st3 segs3 r3 e3 _ => ?_)
        simp only [Bool.not_true, Bool.false_eq_true, if_false]
        exact wpS_pure ⟨rfl, segs3, r3, by omega⟩
  case step =>
    rintro t c st' _ ht ⟨segs, rest, rfl, r, hl⟩
    dsimp only
    have l := congrArg List.length r.arr
    rw [List.length_append, Array.length_toList, sz r] at l
    by_cases c1 : segs.flatten.length ≥ (arrOf st).size
    · rw [if_pos c1]
      have : rest = [] := List.length_eq_zero_iff.mp (by omega)
      subst this
      exact wpS_pure ⟨segs, rfl, r⟩
    rw [if_neg c1]
    have b0 : SB S kd segs.flatten.length st' st' := ⟨Array.Perm.refl _, fun _ _ => rfl, r.kind, r.failed, rfl, rfl, fun x hx => hS x (r.perm.mem_iff.mp hx)⟩
    refine wpS_bind (wpS_run T (by rw [sz r]; omega) (by omega) b0 fun m st2 b2 m1 m2 u2 => ?_)
    dsimp only
    by_cases c2 : m < minRun' (arrOf st).size (arrOf st).size 0
    · rw [if_pos c2]
      refine wpS_bind (wpS_lift (wpAny_rule ⟨rfl, ?_⟩))
      refine wpS_bind (wpS_bin T (by rw [sz r]; omega) (by omega) b2 u2 fun st3 b3 u3 => ?_)
      simp only [Bool.not_true, Bool.false_eq_true, if_false]
      obtain ⟨rest', r3, a3, l3⟩ := run_cut r b3 u3 (by rw [sz r]; omega)
      refine wpS_mono (Q := fun c st' => ∃ segs' rest', c = .yield (none, segs'.flatten.length) ∧ RS κ S kd (arrOf st).toList st' segs' rest' ∧ segs'.flatten.length = segs.flatten.length + (min ((arrOf st).size - segs.flatten.length) (minRun' (arrOf st).size (arrOf st).size 0))) ?_ ?_
      · refine wpS_bind (wpS_get ?_)
        cases e : (pendingOf st3).back? with
        | none => exact fin_run r3 a3 (by omega) (by omega) rfl
        | some x =>
          obtain ⟨s1, n1, p1⟩ := x
          dsimp only
          refine wpS_bind (wpS_mono (mergeLoop_ok (size := (arrOf st).size) (pw := power' (arrOf st).size (2 * s1 + n1) (2 * s1 + n1 + n1 + (min ((arrOf st).size - segs.flatten.length) (minRun' (arrOf st).size (arrOf st).size 0))) (arrOf st).size) T r3) ?_)
          rintro c st5 ⟨rfl, segs5, r5, e5⟩
          dsimp only
          exact wpS_bind (wpS_modify (fin_run r5.pow a3 (by omega) (by omega) e5))
      · rintro c st4 ⟨segs', rest2, rfl, r4, e4⟩
        exact ⟨segs', rest2, rfl, r4, by omega⟩
    · rw [if_neg c2]
      obtain ⟨rest', r3, a3, l3⟩ := run_cut r b2 u2 (by rw [sz r]; omega)
      refine wpS_mono (Q := fun c st' => ∃ segs' rest', c = .yield (none, segs'.flatten.length) ∧ RS κ S kd (arrOf st).toList st' segs' rest' ∧ segs'.flatten.length = segs.flatten.length + m) ?_ ?_
      · refine wpS_bind (wpS_get ?_)
        cases e : (pendingOf st2).back? with
        | none => exact fin_run r3 a3 m1 (by omega) rfl
        | some x =>
          obtain ⟨s1, n1, p1⟩ := x
          dsimp only
          refine wpS_bind (wpS_mono (mergeLoop_ok (size := (arrOf st).size) (pw := power' (arrOf st).size (2 * s1 + n1) (2 * s1 + n1 + n1 + m) (arrOf st).size) T r3) ?_)
          rintro c st5 ⟨rfl, segs5, r5, e5⟩
          dsimp only
          exact wpS_bind (wpS_modify (fin_run r5.pow a3 m1 (by omega) e5))
      · rintro c st4 ⟨segs', rest2, rfl, r4, e4⟩
        exact ⟨segs', rest2, rfl, r4, by omega⟩
end
end VL

set_option Elab.async false
set_option linter.all false
set_option maxRecDepth 100000
set_option maxHeartbeats 4000000
namespace VL
open PySem PySem.Spec PyProof.Rows L2
section
variable {prog : Program} {w : World} {A : Around} {E : Value → Shared → Prop} {s : Shared}
/-- list.sort of a list of any length, by what the questions tell -/
theorem list_sort_any {a : Addr} {vs : List Value} {n : Nat} {P : PySem.Fin → Shared → Prop} {kd : SortKind} {κ : Keyed → Int} {S : Keyed → Prop} (ho : s.heap.get? a = some (seqObj "list" vs.toArray n)) (PA : Heap → Prop) (x : PA s.heap) (keeps : ∀ h h' : Heap, PA h → (∀ b o, o.cls = .type "tuple" → h.get? b = some o → h'.get? b = some o) → PA h')
    (kindw : 2 ≤ vs.length → ∀ s' : Shared, PA s'.heap → ∀ Q : SortKind → Shared → Prop, Q kd s' → wpAny (model prog w) A (keyKind' vs.toArray) Q E s') (T : ∀ s' : Shared, PA s'.heap → Tells (model prog w) A E s' kd κ S) (hS : ∀ v ∈ vs, S (v, v)) (hz : vs.length ≤ sizeLine)
    (h : ∀ out : List Value, out.Perm vs → (out.Pairwise fun x y => κ (x, x) ≤ κ (y, y)) → P (.done (.ret .none)) { s with heap := sortedHeap s.heap a vs out.toArray }) :
    wpAny (model prog w) A (Builtin.«list.sort» ⟨[.ref a], []⟩) P E s := by
  rw [list_sort_plain]
  have ha : a < s.heap.objs.size := Heap.lt_size ho
  refine wpAny_bind (listItems_at ho rfl ?_)
  refine wpAny_bind (listUpdate_at ho rfl ?_)
  obtain ⟨e1, ho1⟩ : ∃ e1, (s.heap.update a (Obj.mapSeq fun _ => #[])).get? a = some (seqObj "list" #[] e1) := ⟨_, get?_update_seq ho (fun _ => #[])⟩
  refine wpAny_bind (seqEpoch_at ho1 rfl ?_)
  refine wpAny_bind (wpAny_newTuple ?_)
  refine wpAny_bind (wpAny_newList ?_)
  refine wpAny_holding ?_
  have ho6 : (((s.heap.update a (Obj.mapSeq fun _ => #[])).push (seqObj "tuple" vs.toArray 0)).push (seqObj "list" #[] 0)).get? a = some (seqObj "list" #[] e1) := Heap.get?_push_of_some _ (Heap.get?_push_of_some _ ho1)
  have kp : ∀ b o, o.cls = .type "tuple" → s.heap.get? b = some o → (((s.heap.update a (Obj.mapSeq fun _ => #[])).push (seqObj "tuple" vs.toArray 0)).push (seqObj "list" #[] 0)).get? b = some o := fun b o hc eo => by
    have hb : b ≠ a := fun z => by
      subst z
      rw [ho] at eo
      cases eo
      exact absurd hc (by intro z; injection z with z; exact absurd z (by decide))
    exact Heap.get?_push_of_some _ (Heap.get?_push_of_some _ (kept_update hb eo))
  have x6 := keeps _ _ x kp
  show wpAny (model prog w) A _ P E { s with heap := ((s.heap.update a (Obj.mapSeq fun _ => #[])).push (seqObj "tuple" vs.toArray 0)).push (seqObj "list" #[] 0) }
  dsimp only
  have fin : ∀ st' : SortSt, (arrOf st').toList.Perm (pairsOf vs).toList → failedOf st' = none → Asc κ (arrOf st').toList →
      wpAny (model prog w) A (do
        let sorted := (arrOf st').map (·.2)
        let touched := (← seqEpoch a) != e1
        Builtin.List.listUpdate (.ref a) fun _ => sorted
        if let some e := failedOf st' then rule "list.sort.comparison-raised"; throw e
        if touched then rule "list.sort.modified"; raiseError "ValueError" "list modified during sort"
        ret .none) P E { s with heap := ((s.heap.update a (Obj.mapSeq fun _ => #[])).push (seqObj "tuple" vs.toArray 0)).push (seqObj "list" #[] 0) } := fun st' hp hf hs => by
    have hm : ∀ p ∈ (arrOf st').toList, p = (p.2, p.2) := fun p hq => by
      have := hp.mem_iff.mp hq
      rw [pairsOf_toList] at this
      exact Prod.ext (mem_zip_self this).1 rfl
    have e2 : ((arrOf st').map (·.2)).toList = (arrOf st').toList.map (·.2) := Array.toList_map
    have pm : ((arrOf st').toList.map (·.2)).Perm vs := by
      have := hp.map (·.2)
      rw [pairsOf_toList, List.map_snd_zip (Nat.le_refl _)] at this
      exact this
    have hsz : ((arrOf st').map (·.2)).size = vs.length := by rw [← Array.length_toList, e2, pm.length_eq]
    refine wpAny_bind (seqEpoch_at ho6 rfl ?_)
    refine wpAny_bind (listUpdate_at ho6 rfl ?_ (hsz2 := by rw [hsz]; exact Nat.le_succ_of_le hz))
    rw [hf]
    simp only [bne_self_eq_false, Bool.false_eq_true, if_false]
    have ea : (arrOf st').map (·.2) = ((arrOf st').toList.map (·.2)).toArray := by rw [← e2]
    refine wpAny_pure ?_
    have hh := h ((arrOf st').toList.map (·.2)) pm ?_
    · rw [← ea] at hh
      exact hh
    · rw [List.pairwise_map]
      refine List.Pairwise.imp_of_mem ?_ hs
      intro p q hp' hq' hle
      rw [hm p hp', hm q hq'] at hle
      exact hle
  by_cases h2 : vs.toArray.size < 2
  · rw [if_pos h2, if_pos h2]
    refine wpAny_bind (wpAny_pure ?_)
    rw [StateT.run_pure]
    refine wpAny_bind (wpAny_pure ?_)
    refine fin (SortSt.mk' general' (vs.toArray.zip vs.toArray) #[] 7 none) (List.Perm.refl _) rfl ?_
    show Asc κ (pairsOf vs).toList
    rw [pairsOf_toList]
    match vs, h2 with
    | [], _ => exact List.Pairwise.nil
    | [v], _ => exact List.pairwise_singleton _ _
    | _ :: _ :: _, h2 => simp at h2; omega
  · rw [if_neg h2, if_neg h2]
    refine wpAny_bind (kindw (by simp at h2; omega) _ x6 _ ?_)
    refine wpAny_bind (wpAny_mono (wpS_sortAll (T _ x6) (st := SortSt.mk' kd (vs.toArray.zip vs.toArray) #[] 7 none)
      (Q := fun _ st' => (arrOf st').toList.Perm (pairsOf vs).toList ∧ failedOf st' = none ∧ Asc κ (arrOf st').toList) rfl rfl rfl (fun p hp => ?_) fun st' a1 a2 a3 => ⟨a1, a2, a3⟩) ?_ fun _ _ e => e)
    · have hp : p ∈ (pairsOf vs).toList := hp
      rw [pairsOf_toList] at hp
      obtain ⟨q1, q2⟩ := mem_zip_self hp
      have : p = (p.1, p.1) := Prod.ext rfl q1.symm
      rw [this]
      exact hS _ q2
    · rintro ⟨⟨⟩, st'⟩ s' ⟨rfl, hp, hf, hs⟩
      exact fin st' hp hf hs
theorem tells_ints : Tells (model prog w) A E s oneType' (fun p => numOf p.1) (fun p => ∃ n t, p.1 = Value.int n t) := fun x y hx hy st Q ek q => by
  obtain ⟨n, t, e1⟩ := hx
  obtain ⟨m, u, e2⟩ := hy
  rw [lt'_eq]
  refine wpS_bind (wpS_get ?_)
  rw [ek, keyLt'_oneType, e1, e2]
  have q : Q (some (decide (numOf x.1 < numOf y.1))) st := q
  rw [e1, e2] at q
  exact wpS_bind (wpS_lift (wpAny_attempt (oneLt_int ⟨rfl, wpS_pure q⟩)))
/-- list.sort of whole numbers, any length -/
theorem list_sort_ints {a : Addr} {vs : List Value} {ns : List Int} {n : Nat} {P : PySem.Fin → Shared → Prop} (ho : s.heap.get? a = some (seqObj "list" vs.toArray n)) (hI : IntsAre vs ns) (hz : vs.length ≤ sizeLine)
    (h : ∀ (out : Array Value) (ns' : List Int), IntsAre out.toList ns' → ns'.Perm ns → ns'.Pairwise (· ≤ ·) → P (.done (.ret .none)) { s with heap := sortedHeap s.heap a vs out }) :
    wpAny (model prog w) A (Builtin.«list.sort» ⟨[.ref a], []⟩) P E s := by
  refine list_sort_any (kd := oneType') (κ := fun p => numOf p.1) (S := fun p => ∃ n t, p.1 = Value.int n t) ho (fun _ => True) trivial (fun _ _ _ _ => trivial) (fun h2 s' _ Q q => ?_) (fun _ _ => tells_ints) (fun v hv => hI.all v hv) hz fun out pm hs => ?_
  · obtain ⟨v₁, v₂, rest, rfl⟩ : ∃ v₁ v₂ rest, vs = v₁ :: v₂ :: rest := by
      match vs, h2 with
      | v₁ :: v₂ :: rest, _ => exact ⟨v₁, v₂, rest, rfl⟩
    rw [keyKind_ints hI]
    exact wpAny_pure q
  · refine h out.toArray (out.map numOf) (intsAre_map out fun v hv => hI.all v (pm.mem_iff.mp hv)) ?_ ?_
    · have := pm.map numOf
      rwa [hI.nums] at this
    · rw [List.pairwise_map]; exact hs
end
end VL

set_option Elab.async false
set_option linter.all false
set_option maxRecDepth 100000
set_option maxHeartbeats 4000000
namespace VL
open PySem PySem.Spec PyProof.Rows L2
--PURE
/-! ### sorted of tuples of whole numbers and texts -/
def keyLt : Key → Key → Bool
  | .inl a, .inl b => decide (a < b)
  | .inr a, .inr b => decide (a.cps.toList < b.cps.toList)
  | .inl _, .inr _ => true
  | .inr _, .inl _ => false
def lexK : List Key → List Key → Bool
  | [], [] => false
  | [], _ :: _ => true
  | _ :: _, [] => false
  | a :: r, b :: t => if a = b then lexK r t else keyLt a b
def insK (x : List Key) : List (List Key) → List (List Key)
  | [] => [x]
  | y :: r => if lexK y x then y :: insK x r else x :: y :: r
def isortK : List (List Key) → List (List Key)
  | [] => []
  | x :: r => insK x (isortK r)
def keysD : List D → Option (List Key)
  | [] => some []
  | d :: r => (keyD d).bind fun k => (keysD r).bind fun l => some (k :: l)
def keyT : D → Option (List Key)
  | .tuple ds => keysD ds
  | _ => none
def keyTs : List D → Option (List (List Key))
  | [] => some []
  | d :: r => (keyT d).bind fun k => (keyTs r).bind fun l => some (k :: l)
def isI : Key → Bool
  | .inl _ => true
  | .inr _ => false
/-- a text first and whole numbers behind -/
def textI : List Key → Bool
  | .inr _ :: r => r.all isI
  | _ => false
/-- whole numbers alone -/
def allI : List Key → Bool
  | .inl _ :: r => r.all isI
  | _ => false
/-- sorted(x) -/
def sortD (d : D) : Option D := (itsD d).bind fun ds => match intL ds with
  | some l => some (.list ((isortI l).map .int))
  | none => (keyTs ds).bind fun ks => if ks.all textI || ks.all allI then some (.list ((isortK ks).map fun k => .tuple (k.map keyDD))) else none
theorem str_eq {x y : Str} (h : x.cps.toList = y.cps.toList) : x = y := by
  cases x; cases y
  simp only [Str.mk.injEq]
  exact Array.toList_inj.mp h
theorem keyLt_irr (a : Key) : keyLt a a = false := by
  cases a with
  | inl a => simp [keyLt]
  | inr a => simp [keyLt, List.lt_irrefl]
theorem keyLt_tri (a b : Key) (h : a ≠ b) : keyLt a b = !keyLt b a := by
  cases a with
  | inl a =>
    cases b with
    | inl b =>
      have : a ≠ b := fun z => h (by rw [z])
      simp only [keyLt]
      rcases Int.lt_trichotomy a b with q | q | q
      · rw [decide_eq_true q, decide_eq_false (by omega)]; rfl
      · exact absurd q this
      · rw [decide_eq_false (by omega), decide_eq_true q]; rfl
    | inr b => rfl
  | inr a =>
    cases b with
    | inl b => rfl
    | inr b =>
      have : a.cps.toList ≠ b.cps.toList := fun z => h (by rw [str_eq z])
      simp only [keyLt]
      by_cases q : a.cps.toList < b.cps.toList
      · rw [decide_eq_true q, decide_eq_false (List.lt_asymm q)]; rfl
      · rw [decide_eq_false q]
        have q := List.not_lt.mp q
        rcases List.le_iff_lt_or_eq.mp q with q | q
        · rw [decide_eq_true q]; rfl
        · exact absurd q.symm this
theorem keyLt_tr {a b c : Key} (h1 : keyLt a b = true) (h2 : keyLt b c = true) : keyLt a c = true := by
  cases a <;> cases b <;> cases c <;> simp only [keyLt, decide_eq_true_eq, Bool.false_eq_true] at h1 h2 ⊢
  · omega
  · exact List.lt_trans h1 h2
theorem lexK_irr : ∀ a : List Key, lexK a a = false
  | [] => rfl
  | x :: r => by simp [lexK, lexK_irr r]
theorem lexK_tri : ∀ (a b : List Key), a ≠ b → lexK a b = !lexK b a
  | [], [], h => absurd rfl h
  | [], _ :: _, _ => rfl
  | _ :: _, [], _ => rfl
  | x :: r, y :: t, h => by
    by_cases e : x = y
    · subst e
      simp only [lexK, if_true]
      exact lexK_tri r t fun z => h (by rw [z])
    · simp only [lexK]
      rw [if_neg e, if_neg (Ne.symm e)]
      exact keyLt_tri x y e
theorem lexK_tr : ∀ {a b c : List Key}, lexK a b = true → lexK b c = true → lexK a c = true
  | [], [], _, h, _ => by cases h
  | [], _ :: _, [], _, h => by cases h
  | [], _ :: _, _ :: _, _, _ => rfl
  | _ :: _, [], _, h, _ => by cases h
  | _ :: _, _ :: _, [], _, h => by cases h
  | x :: r, y :: t, z :: u, h1, h2 => by
    simp only [lexK] at h1 h2 ⊢
    by_cases e : x = y
    · subst e
      rw [if_pos rfl] at h1
      by_cases e2 : x = z
      · subst e2
        rw [if_pos rfl] at h2 ⊢
        exact lexK_tr h1 h2
      · rw [if_neg e2] at h2 ⊢
        exact h2
    · rw [if_neg e] at h1
      by_cases e2 : y = z
      · subst e2
        rw [if_neg e]
        exact h1
      · rw [if_neg e2] at h2
        have h3 := keyLt_tr h1 h2
        by_cases e3 : x = z
        · subst e3
          rw [keyLt_irr] at h3
          cases h3
        · rw [if_neg e3]; exact h3
/-- not behind -/
def leK (a b : List Key) : Prop := lexK b a = false
theorem leK_anti {a b : List Key} (h1 : leK a b) (h2 : leK b a) : a = b := by
  by_cases e : a = b
  · exact e
  · have := lexK_tri a b e
    unfold leK at h1 h2
    rw [h1, h2] at this
    cases this
theorem leK_tr {a b c : List Key} (h1 : leK a b) (h2 : leK b c) : leK a c := by
  unfold leK at *
  cases h : lexK c a with
  | false => rfl
  | true =>
    by_cases e : b = c
    · subst e; rw [h] at h1; cases h1
    · have := lexK_tri b c e
      rw [h2] at this
      rw [lexK_tr (by simpa using this) h] at h1
      cases h1
theorem insK_perm (x : List Key) : ∀ l, (insK x l).Perm (x :: l)
  | [] => .refl _
  | y :: r => by
    unfold insK
    split
    · exact ((insK_perm x r).cons y).trans (.swap x y r)
    · exact .refl _
theorem isortK_perm : ∀ l, (isortK l).Perm l
  | [] => .refl _
  | x :: r => (insK_perm x _).trans ((isortK_perm r).cons x)
theorem insK_pw (x : List Key) : ∀ l, l.Pairwise leK → (insK x l).Pairwise leK
  | [], _ => List.pairwise_singleton _ _
  | y :: r, h => by
    unfold insK
    obtain ⟨h1, h2⟩ := List.pairwise_cons.mp h
    split
    · rename_i q
      refine List.pairwise_cons.mpr ⟨fun z hz => ?_, insK_pw x r h2⟩
      rcases List.mem_cons.mp ((insK_perm x r).mem_iff.mp hz) with rfl | hz
      · unfold leK
        cases e : lexK z y with
        | false => rfl
        | true =>
          have := lexK_tr q e
          rw [lexK_irr] at this
          cases this
      · exact h1 z hz
    · rename_i q
      have q : leK x y := by simpa [leK] using q
      refine List.pairwise_cons.mpr ⟨fun z hz => ?_, h⟩
      rcases List.mem_cons.mp hz with rfl | hz
      · exact q
      · exact leK_tr q (h1 z hz)
theorem isortK_pw : ∀ l, (isortK l).Pairwise leK
  | [] => .nil
  | x :: r => insK_pw x _ (isortK_pw r)
theorem sortedK_one : ∀ {a b : List (List Key)}, a.Perm b → a.Pairwise leK → b.Pairwise leK → a = b
  | [], b, p, _, _ => (List.nil_perm.mp p).symm
  | x :: r, [], p, _, _ => absurd p.length_eq (by simp)
  | x :: r, y :: t, p, h1, h2 => by
    obtain ⟨a1, a2⟩ := List.pairwise_cons.mp h1
    obtain ⟨b1, b2⟩ := List.pairwise_cons.mp h2
    have e : x = y := by
      rcases List.mem_cons.mp (p.mem_iff.mp (List.mem_cons_self (a := x) (l := r))) with e | e
      · exact e
      · rcases List.mem_cons.mp (p.mem_iff.mpr (List.mem_cons_self (a := y) (l := t))) with f | f
        · exact f.symm
        · exact leK_anti (a1 y f) (b1 x e)
    subst e
    rw [sortedK_one ((List.perm_cons x).mp p) a2 b2]
theorem isortK_of {a b : List (List Key)} (p : a.Perm b) (h : a.Pairwise leK) : a = isortK b := sortedK_one (p.trans (isortK_perm b).symm) h (isortK_pw b)
theorem isortK_perm_eq {a b : List (List Key)} (p : a.Perm b) : isortK a = isortK b := isortK_of ((isortK_perm a).trans p) (isortK_pw a)
--END
end VL

set_option Elab.async false
set_option linter.all false
set_option maxRecDepth 100000
set_option maxHeartbeats 4000000
namespace VL
open PySem PySem.Spec PyProof.Rows L2
section
variable {prog : Program} {w : World} {A : Around} {E : Value → Shared → Prop} {s : Shared}
/-- what a value has of a key -/
def KeyV : Key → Value → Prop
  | .inl i, v => ∃ t, v = .int i t
  | .inr x, v => ∃ t, v = .str x t
inductive KVals : List Key → List Value → Prop
  | nil : KVals [] []
  | cons {k v ks vs} : KeyV k v → KVals ks vs → KVals (k :: ks) (v :: vs)
theorem KVals.one : ∀ {k k' : List Key} {vs : List Value}, KVals k vs → KVals k' vs → k = k'
  | _, _, _, .nil, .nil => rfl
  | _, _, _, .cons (k := a) h1 r1, .cons (k := b) h2 r2 => by
    have e := KVals.one r1 r2
    subst e
    cases a <;> cases b <;> obtain ⟨t, rfl⟩ := h1 <;> obtain ⟨u, h2⟩ := h2 <;> first | cases h2; rfl | cases h2
/-- at their first difference two tuples have parts of one kind -/
def cmpOk : List Key → List Key → Bool
  | a :: r, b :: t => if a = b then cmpOk r t else isI a == isI b
  | _, _ => true
theorem lex_go {fin : Bool} {Q : Bool → Shared → Prop} : ∀ {k1 k2 : List Key} {xs ys : List Value} {i : Nat}, KVals k1 xs → KVals k2 ys → cmpOk k1 k2 = true → fin = decide (xs.length < ys.length) → Q (lexK k1 k2) s → PySem.W.KatLex prog w A true fin Q (xs.zip ys) i s
  | _, _, _, _, i, .nil, .nil, _, hf, q => by
    subst hf
    exact PySem.W.kat_nil q
  | _, _, _, _, i, .nil, .cons h r, _, hf, q => by
    subst hf
    exact PySem.W.kat_nil (by simpa [lexK] using q)
  | _, _, _, _, i, .cons h r, .nil, _, hf, q => by
    subst hf
    rw [List.zip_nil_right]
    exact PySem.W.kat_nil (by simpa [lexK] using q)
  | _, _, _, _, i, .cons (k := a) (vs := xs) h1 r1, .cons (k := b) (vs := ys) h2 r2, hc, hf, q => by
    have hf : fin = decide (xs.length < ys.length) := by rw [hf]; simp
    rw [List.zip_cons_cons]
    refine PySem.W.kat_cons ?_
    simp only [lexK, cmpOk] at q hc
    by_cases e : a = b
    · subst e
      rw [if_pos rfl] at q hc
      have go := lex_go (i := i + 1) r1 r2 hc hf q
      cases a with
      | inl a =>
        obtain ⟨t, rfl⟩ := h1
        obtain ⟨u, rfl⟩ := h2
        refine SeqAt.EqAt.int_int a t a u _ _ _ _ ?_
        rw [beq_self_eq_true]
        exact PySem.W.kat_yes go
      | inr a =>
        obtain ⟨t, rfl⟩ := h1
        obtain ⟨u, rfl⟩ := h2
        refine SeqAt.EqAt.str_str a t a u _ _ _ _ ?_
        rw [beq_self_eq_true]
        exact PySem.W.kat_yes go
    · rw [if_neg e] at q hc
      cases a with
      | inl a =>
        cases b with
        | inr b => cases hc
        | inl b =>
          obtain ⟨t, rfl⟩ := h1
          obtain ⟨u, rfl⟩ := h2
          refine SeqAt.EqAt.int_int a t b u _ _ _ _ ?_
          rw [beq_eq_false_iff_ne.mpr fun z => e (by rw [z])]
          refine PySem.W.kat_no ?_
          cases i with
          | zero => exact oneLt_int q
          | succ i => exact PySem.W.kat_one _ _ (lt_int q)
      | inr a =>
        cases b with
        | inl b => cases hc
        | inr b =>
          obtain ⟨t, rfl⟩ := h1
          obtain ⟨u, rfl⟩ := h2
          refine SeqAt.EqAt.str_str a t b u _ _ _ _ ?_
          rw [beq_eq_false_iff_ne.mpr fun z => e (by rw [z])]
          refine PySem.W.kat_no ?_
          cases i with
          | zero => exact oneLt_str q
          | succ i => exact PySem.W.kat_one _ _ (lt_str q)
/-- a tuple of keys lies there -/
def KAt (h : Heap) (v : Value) (k : List Key) : Prop := ∃ b o xs n, v = .ref b ∧ h.get? b = some o ∧ o.cls = .type "tuple" ∧ o.data = .seq xs n ∧ KVals k xs.toList
theorem KAt.one {h : Heap} {v : Value} {k k' : List Key} (h1 : KAt h v k) (h2 : KAt h v k') : k = k' := by
  obtain ⟨b, o, xs, n, rfl, e1, e2, e3, e4⟩ := h1
  obtain ⟨b', o', xs', n', q, f1, f2, f3, f4⟩ := h2
  cases q
  rw [e1] at f1
  cases f1
  rw [e3] at f3
  cases f3
  exact e4.one f4
theorem KAt.keeps {h h' : Heap} {v : Value} {k : List Key} (x : KAt h v k) (kp : ∀ b o, o.cls = .type "tuple" → h.get? b = some o → h'.get? b = some o) : KAt h' v k := by
  obtain ⟨b, o, xs, n, rfl, e1, e2, e3, e4⟩ := x
  exact ⟨b, o, xs, n, rfl, kp b o e2 e1, e2, e3, e4⟩
theorem tup_lt {x y : Value} {k1 k2 : List Key} {Q : Bool → Shared → Prop} (h1 : KAt s.heap x k1) (h2 : KAt s.heap y k2) (hc : cmpOk k1 k2 = true) (q : Q (lexK k1 k2) s) : wpAny (model prog w) A (keyLt' (tuples' true) x y) Q E s := by
  obtain ⟨b, o, xs, n, rfl, e1, e2, e3, e4⟩ := h1
  obtain ⟨b', o', xs', n', rfl, f1, f2, f3, f4⟩ := h2
  exact PySem.W.kat_lt e1 e3 f1 f3 (lex_go e4 f4 hc (by simp) q)
/-- how many lie before it -/
def rankK (ks : List (List Key)) (k : List Key) : Int := ((ks.filter fun x => lexK x k).length : Nat)
theorem filter_le {α : Type} {p q : α → Bool} : ∀ (l : List α), (∀ x ∈ l, p x = true → q x = true) → (l.filter p).length ≤ (l.filter q).length
  | [], _ => Nat.le_refl _
  | x :: l, h => by
    have ih := filter_le l fun y hy => h y (List.mem_cons_of_mem _ hy)
    have hx := h x List.mem_cons_self
    rw [List.filter_cons, List.filter_cons]
    cases e : p x with
    | false =>
      rw [if_neg (by simp)]
      split
      · rw [List.length_cons]; omega
      · exact ih
    | true =>
      rw [if_pos rfl, if_pos (hx e), List.length_cons, List.length_cons]; omega
theorem filter_lt {α : Type} {p q : α → Bool} : ∀ (l : List α), (∀ x ∈ l, p x = true → q x = true) → (∃ x ∈ l, p x = false ∧ q x = true) → (l.filter p).length < (l.filter q).length
  | [], _, ⟨x, hx, _⟩ => by cases hx
  | x :: l, h, ⟨y, hy, h1, h2⟩ => by
    have ih := filter_le l fun y hy => h y (List.mem_cons_of_mem _ hy)
    have hx := h x List.mem_cons_self
    rw [List.filter_cons, List.filter_cons]
    rcases List.mem_cons.mp hy with rfl | hy
    · rw [if_neg (by rw [h1]; simp), if_pos h2, List.length_cons]; omega
    · have ih := filter_lt l (fun y hy => h y (List.mem_cons_of_mem _ hy)) ⟨y, hy, h1, h2⟩
      cases e : p x with
      | false =>
        rw [if_neg (by simp)]
        split
        · rw [List.length_cons]; omega
        · exact ih
      | true =>
        rw [if_pos rfl, if_pos (hx e), List.length_cons, List.length_cons]; omega
theorem rankK_lt {ks : List (List Key)} {x y : List Key} (hx : x ∈ ks) : decide (rankK ks x < rankK ks y) = lexK x y := by
  unfold rankK
  cases e : lexK x y with
  | true =>
    refine decide_eq_true ?_
    exact Int.ofNat_lt.mpr (filter_lt ks (fun z _ hz => lexK_tr hz e) ⟨x, hx, lexK_irr x, e⟩)
  | false =>
    refine decide_eq_false ?_
    have := filter_le (p := fun z => lexK z y) (q := fun z => lexK z x) ks fun z _ hz => by
      by_cases q : y = x
      · subst q; exact hz
      · have := lexK_tri y x q
        rw [e] at this
        exact lexK_tr hz this
    omega
open Classical in
noncomputable def kOf (h : Heap) (v : Value) : List Key := if q : ∃ k, KAt h v k then q.choose else []
theorem kOf_eq {h : Heap} {v : Value} {k : List Key} (x : KAt h v k) : kOf h v = k := by
  unfold kOf
  have q : ∃ k, KAt h v k := ⟨k, x⟩
  rw [dif_pos q]
  exact q.choose_spec.one x
theorem tells_tups {h0 : Heap} {ks : List (List Key)} (hc : ∀ x ∈ ks, ∀ y ∈ ks, cmpOk x y = true) (kp : ∀ b o, o.cls = .type "tuple" → h0.get? b = some o → s.heap.get? b = some o) :
    Tells (model prog w) A E s (tuples' true) (fun p => rankK ks (kOf h0 p.1)) (fun p => ∃ k ∈ ks, KAt h0 p.1 k) := fun x y hx hy st Q ek q => by
  obtain ⟨k1, m1, a1⟩ := hx
  obtain ⟨k2, m2, a2⟩ := hy
  have q : Q (some (decide (rankK ks (kOf h0 x.1) < rankK ks (kOf h0 y.1)))) st := q
  rw [kOf_eq a1, kOf_eq a2, rankK_lt m1] at q
  rw [lt'_eq]
  refine wpS_bind (wpS_get ?_)
  rw [ek]
  exact wpS_bind (wpS_lift (wpAny_attempt (tup_lt (a1.keeps kp) (a2.keeps kp) (hc _ m1 _ m2) ⟨rfl, wpS_pure q⟩)))
theorem ints_cmp : ∀ {a b : List Key}, a.all isI = true → b.all isI = true → cmpOk a b = true
  | [], _, _, _ => by simp [cmpOk]
  | _ :: _, [], _, _ => by simp [cmpOk]
  | x :: r, y :: t, h1, h2 => by
    simp only [List.all_cons, Bool.and_eq_true] at h1 h2
    simp only [cmpOk]
    split
    · exact ints_cmp h1.2 h2.2
    · rw [h1.1, h2.1]; rfl
theorem text_cmp {a b : List Key} (h1 : textI a = true) (h2 : textI b = true) : cmpOk a b = true := by
  match a, b, h1, h2 with
  | .inr x :: r, .inr y :: t, h1, h2 =>
    simp only [cmpOk]
    split
    · exact ints_cmp h1 h2
    · rfl
theorem all_cmp {a b : List Key} (h1 : allI a = true) (h2 : allI b = true) : cmpOk a b = true := by
  match a, b, h1, h2 with
  | .inl x :: r, .inl y :: t, h1, h2 =>
    simp only [cmpOk]
    split
    · exact ints_cmp h1 h2
    · rfl
inductive KAts (h : Heap) : List Value → List (List Key) → Prop
  | nil : KAts h [] []
  | cons {v k vs ks} : KAt h v k → KAts h vs ks → KAts h (v :: vs) (k :: ks)
theorem KAts.keeps {h h' : Heap} (kp : ∀ b o, o.cls = .type "tuple" → h.get? b = some o → h'.get? b = some o) : ∀ {vs : List Value} {ks : List (List Key)}, KAts h vs ks → KAts h' vs ks
  | _, _, .nil => .nil
  | _, _, .cons x r => .cons (x.keeps kp) (KAts.keeps kp r)
theorem KAts.map {h : Heap} : ∀ {vs : List Value} {ks : List (List Key)}, KAts h vs ks → vs.map (kOf h) = ks
  | _, _, .nil => rfl
  | _, _, .cons x r => by rw [List.map_cons, kOf_eq x, KAts.map r]
theorem KAts.mem {h : Heap} : ∀ {vs : List Value} {ks : List (List Key)}, KAts h vs ks → ∀ v ∈ vs, ∃ k ∈ ks, KAt h v k
  | _, _, .cons (k := k) x r, v, hv => by
    rcases List.mem_cons.mp hv with rfl | hv
    · exact ⟨k, List.mem_cons_self, x⟩
    · obtain ⟨k', m, y⟩ := KAts.mem r v hv
      exact ⟨k', List.mem_cons_of_mem _ m, y⟩
theorem KAts.of_map {h : Heap} : ∀ {vs : List Value}, (∀ v ∈ vs, ∃ k, KAt h v k) → KAts h vs (vs.map (kOf h))
  | [], _ => .nil
  | v :: vs, H => by
    obtain ⟨k, x⟩ := H v List.mem_cons_self
    rw [List.map_cons, kOf_eq x]
    exact .cons x (KAts.of_map fun u hu => H u (List.mem_cons_of_mem _ hu))
def KatT : Bool → Value
  | true => .type "str"
  | false => .type "int"
theorem KAts.tups {h : Heap} {b : Bool} : ∀ {vs : List Value} {ks : List (List Key)}, KAts h vs ks → (∀ k ∈ ks, (if b then textI k else allI k) = true) → ∃ fs : List Value, fs.length = vs.length ∧ PySem.W.KatTups h vs fs ∧ ∀ v ∈ fs, ∀ M : Model, PySem.W.Looks M h (typeOf v) (KatT b)
  | _, _, .nil, _ => ⟨[], rfl, trivial, fun v h => by cases h⟩
  | _, _, .cons (k := k) x r, hk => by
    obtain ⟨fs, h1, h2, h3⟩ := KAts.tups r fun k' m => hk k' (List.mem_cons_of_mem _ m)
    obtain ⟨a, o, xs, n, rfl, e1, e2, e3, e4⟩ := x
    have hk := hk k List.mem_cons_self
    obtain ⟨f, ef, lf⟩ : ∃ f, xs[0]? = some f ∧ ∀ M : Model, PySem.W.Looks M h (typeOf f) (KatT b) := by
      cases b with
      | true =>
        match k, hk, e4 with
        | .inr y :: t, _, e4 =>
          generalize exs : xs.toList = l at e4
          cases e4 with
          | cons hv hr =>
            obtain ⟨u, rfl⟩ := hv
            refine ⟨_, by rw [← Array.getElem?_toList, exs]; rfl, fun M => PySem.W.Looks.of_pure rfl⟩
      | false =>
        match k, hk, e4 with
        | .inl y :: t, _, e4 =>
          generalize exs : xs.toList = l at e4
          cases e4 with
          | cons hv hr =>
            obtain ⟨u, rfl⟩ := hv
            refine ⟨_, by rw [← Array.getElem?_toList, exs]; rfl, fun M => PySem.W.Looks.of_pure rfl⟩
    refine ⟨f :: fs, by rw [List.length_cons, List.length_cons, h1], ⟨⟨a, o, xs, n, rfl, e1, e2, e3, ef⟩, h2⟩, fun v hv => ?_⟩
    rcases List.mem_cons.mp hv with rfl | hv
    · exact lf
    · exact h3 v hv
theorem pw_map_of {α β : Type} {f : α → β} {R : β → β → Prop} {l : List α} (h : l.Pairwise fun x y => R (f x) (f y)) : (l.map f).Pairwise R := List.pairwise_map.mpr h
/-- list.sort of tuples of keys, any length -/
theorem list_sort_tups {a : Addr} {vs : List Value} {ks : List (List Key)} {n : Nat} {P : PySem.Fin → Shared → Prop} (ho : s.heap.get? a = some (seqObj "list" vs.toArray n)) (x : KAts s.heap vs ks) (hk : (ks.all textI || ks.all allI) = true) (hz : vs.length ≤ sizeLine)
    (h : ∀ out : List Value, out.Perm vs → KAts s.heap out (isortK ks) → P (.done (.ret .none)) { s with heap := sortedHeap s.heap a vs out.toArray }) :
    wpAny (model prog w) A (Builtin.«list.sort» ⟨[.ref a], []⟩) P E s := by
  have hc : ∀ x ∈ ks, ∀ y ∈ ks, cmpOk x y = true := fun x hx y hy => by
    rcases Bool.or_eq_true_iff.mp hk with q | q
    · exact text_cmp (List.all_eq_true.mp q x hx) (List.all_eq_true.mp q y hy)
    · exact all_cmp (List.all_eq_true.mp q x hx) (List.all_eq_true.mp q y hy)
  obtain ⟨b, hb⟩ : ∃ b : Bool, ∀ k ∈ ks, (if b then textI k else allI k) = true := by
    rcases Bool.or_eq_true_iff.mp hk with q | q
    · exact ⟨true, fun k m => List.all_eq_true.mp q k m⟩
    · exact ⟨false, fun k m => List.all_eq_true.mp q k m⟩
  refine list_sort_any (kd := tuples' true) (κ := fun p => rankK ks (kOf s.heap p.1)) (S := fun p => ∃ k ∈ ks, KAt s.heap p.1 k) ho (fun h' => ∀ (b : Addr) (o : Obj), o.cls = .type "tuple" → s.heap.get? b = some o → h'.get? b = some o) (fun _ _ _ e => e) (fun h1 h2 (p : ∀ (b : Addr) (o : Obj), o.cls = .type "tuple" → s.heap.get? b = some o → h1.get? b = some o) kp b o (ec : o.cls = .type "tuple") e => kp b o ec (p b o ec e)) (fun h2 s' kp Q q => ?_) (fun s' kp => tells_tups hc kp) (fun v hv => x.mem v hv) hz fun out pm hs => ?_
  · obtain ⟨fs, f1, f2, f3⟩ := (x.keeps kp).tups hb
    refine PySem.W.kat_kind (T := KatT b) f2 (by omega) (fun v hv => f3 v hv _) (by cases b <;> decide) ?_
    have : (KatT b != Value.type "tuple") = true := by cases b <;> decide
    rw [this]
    exact q
  · have H : ∀ v ∈ out, ∃ k, KAt s.heap v k := fun v hv => by
      obtain ⟨k, _, y⟩ := x.mem v (pm.mem_iff.mp hv)
      exact ⟨k, y⟩
    have X := KAts.of_map H
    have pk : (out.map (kOf s.heap)).Perm ks := by
      have := pm.map (kOf s.heap)
      rwa [x.map] at this
    have e : out.map (kOf s.heap) = isortK ks := by
      refine isortK_of pk ?_
      refine pw_map_of ?_
      refine List.Pairwise.imp_of_mem ?_ hs
      intro p q hp hq hle
      have m : kOf s.heap q ∈ ks := pk.mem_iff.mp (List.mem_map.mpr ⟨q, hq, rfl⟩)
      have := rankK_lt (y := kOf s.heap p) m
      unfold leK
      rw [← this]
      have hle : rankK ks (kOf s.heap p) ≤ rankK ks (kOf s.heap q) := hle
      exact decide_eq_false (by omega)
    rw [e] at X
    exact h out pm X
end
end VL

set_option Elab.async false
set_option linter.all false
set_option maxRecDepth 100000
set_option maxHeartbeats 4000000
namespace VL
open PySem PySem.Spec PyProof.Rows L2
section
variable {X : Cx}
def keyV : Key → V
  | .inl i => .int i
  | .inr x => .str x
def toV : Value → V
  | .ref b => .ref b
  | _ => .non
inductive KeyVs (K : Fg) (H : Hp) : List V → List (List Key) → Prop
  | nil : KeyVs K H [] []
  | cons {b k vs ks} : SqT K H b (k.map keyV) → KeyVs K H vs ks → KeyVs K H (.ref b :: vs) (k :: ks)
theorem kvals_of : ∀ {k : List Key} {us : List Value}, Vals (k.map keyV) us → KVals k us
  | [], _, .nil => .nil
  | .inl i :: k, _, .cons h r => .cons h (kvals_of r)
  | .inr x :: k, _, .cons h r => .cons h (kvals_of r)
theorem kat_of {pins : List (Addr × Obj)} {σ : St} {H : Hp} {s : Shared} (I : Inv X pins σ H s) {b : Addr} {k : List Key} (h : SqT X.K H b (k.map keyV)) : KAt s.heap (.ref b) k := by
  obtain ⟨its, r, ⟨o, e1, e2, n, e3⟩, z⟩ := I.tuple h
  exact ⟨b, o, its.toArray, n, rfl, e1, e2, e3, by simpa using kvals_of r⟩
theorem keyVs_at {pins : List (Addr × Obj)} {σ : St} {Z H : Hp} {s : Shared} (I : Inv X pins σ H s) (zh : Same Z H) : ∀ {vs : List V} {ks : List (List Key)} {its : List Value}, KeyVs X.K Z vs ks → Vals vs its → KAts s.heap its ks ∧ ∀ u ∈ its, ∃ (b : Addr) (k : List Key), u = .ref b ∧ SqT X.K Z b (k.map keyV)
  | _, _, _, .nil, .nil => ⟨.nil, fun u h => by cases h⟩
  | _, _, _, .cons (b := b) (k := k) h r, .cons hv hr => by
    obtain ⟨a2, a3⟩ := keyVs_at I zh r hr
    have hv := hv
    cases hv
    refine ⟨.cons (kat_of I (SqT.same h zh)) a2, fun u hu => ?_⟩
    rcases List.mem_cons.mp hu with rfl | hu
    · exact ⟨b, k, rfl, h⟩
    · exact a3 u hu
theorem keyVs_back {pins : List (Addr × Obj)} {σ : St} {Z H : Hp} {s : Shared} (I : Inv X pins σ H s) (zh : Same Z H) : ∀ {out : List Value} {ks : List (List Key)}, KAts s.heap out ks → (∀ u ∈ out, ∃ (b : Addr) (k : List Key), u = .ref b ∧ SqT X.K Z b (k.map keyV)) → KeyVs X.K Z (out.map toV) ks ∧ Vals (out.map toV) out
  | _, _, .nil, _ => ⟨.nil, .nil⟩
  | _, _, .cons h r, hs => by
    obtain ⟨a1, a2⟩ := keyVs_back I zh r fun u hu => hs u (List.mem_cons_of_mem _ hu)
    obtain ⟨b, k', rfl, q⟩ := hs _ List.mem_cons_self
    have := h.one (kat_of I (SqT.same q zh))
    subst this
    exact ⟨.cons q a1, .cons rfl a2⟩
/-- what sorted makes of these -/
def Srt (K : Fg) (H : Hp) (vs : List V) (P : List V → Prop) : Prop :=
  (∃ l : List Int, vs = l.map V.int ∧ P ((isortI l).map V.int)) ∨ ∃ ks, KeyVs K H vs ks ∧ (ks.all textI || ks.all allI) = true ∧ ∀ vs', KeyVs K H vs' (isortK ks) → P vs'
theorem sorted_seq {pins : List (Addr × Obj)} {σ : St} {H : Hp} {s : Shared} {a : Addr} {vs : List V} {Q : VK} {Z : Hp} (I : Inv X pins σ H s) (zh : Same Z H) (hs : SqL X.K H a vs ∨ SqT X.K H a vs) (hsrt : Srt X.K Z vs fun vs' => ∀ l, H l = none → Q (.ref l) (upd H l (.lst vs'))) :
    wpAny (model X.prog X.w) X.A (call (.builtin "sorted") [.ref a]) (EP X pins σ Q) X.xe s := by
  obtain ⟨its, rv, T, o, n, hT, e1, e2, e3, hz⟩ : ∃ (its : List Value), Vals vs its ∧ ∃ (T : String) (o : Obj) (n : Nat), (T = "list" ∨ T = "tuple") ∧ s.heap.get? a = some o ∧ o.cls = .type T ∧ o.data = .seq its.toArray n ∧ its.length ≤ sizeLine := by
    rcases hs with hs | hs
    · obtain ⟨its, r, ⟨o, n, e1, e2, e3, e4⟩, z⟩ := I.list hs
      exact ⟨its, r, "list", o, n, .inl rfl, e1, e2, e4, by rw [← r.length]; exact z⟩
    · obtain ⟨its, r, ⟨o, e1, e2, n, e3⟩, z⟩ := I.tuple hs
      exact ⟨its, r, "tuple", o, n, .inr rfl, e1, e2, e3, by rw [← r.length]; exact z⟩
  refine Calls.call_function_entry kind_sorted plain_sorted entry_sorted (args_sorted1 _) ?_
  unfold Builtin.«sorted»
  refine wpAny_bind (m := checkCount "sorted" 1 1 _) (wpAny_pure ?_)
  refine wpAny_bind (wpAny_collect_seq a hT e1 e2 e3 (fun h' hk' => ?_) (by simpa using hz))
  show wpAny _ _ (newList its >>= _) _ _ { s with heap := h' }
  refine wpAny_bind (wpAny_newList ?_ hz)
  have hoL : (h'.push (seqObj "list" its.toArray 0)).get? h'.objs.size = some (seqObj "list" its.toArray 0) := Heap.get?_push_size _ rfl
  have I1 : Inv X pins σ H { s with heap := h' } := I.kept (t' := s.toks) hk'
  have I2 : Inv X pins σ H { s with heap := h'.push (seqObj "list" its.toArray 0) } := I1.kept (t' := s.toks) fun b o eo => Heap.get?_push_of_some _ eo
  have fin : ∀ (out : List Value) (vs' : List V), Vals vs' out → out.length = its.length → (∀ l, H l = none → Q (.ref l) (upd H l (.lst vs'))) → EP X pins σ Q (.ref h'.objs.size) { s with heap := sortedHeap (h'.push (seqObj "list" its.toArray 0)) h'.objs.size its out.toArray } := fun out vs' r hl q => by
    have kp : ∀ b o, h'.get? b = some o → (sortedHeap (h'.push (seqObj "list" its.toArray 0)) h'.objs.size its out.toArray).get? b = some o := fun b o eo => by
      have hb : b ≠ h'.objs.size := Nat.ne_of_lt (Heap.lt_size eo)
      exact kept_update hb (Heap.get?_push_of_some _ (Heap.get?_push_of_some _ (kept_update hb (Heap.get?_push_of_some _ eo))))
    obtain ⟨e1, ho1⟩ : ∃ e1, ((h'.push (seqObj "list" its.toArray 0)).update h'.objs.size (Obj.mapSeq fun _ => #[])).get? h'.objs.size = some (seqObj "list" #[] e1) := ⟨_, get?_update_seq hoL (fun _ => #[])⟩
    have ho2 := Heap.get?_push_of_some (seqObj "list" #[] 0) (Heap.get?_push_of_some (seqObj "tuple" its.toArray 0) ho1)
    have ho3 := get?_update_seq ho2 (fun _ => out.toArray)
    have L := I1.laid (h' := sortedHeap (h'.push (seqObj "list" its.toArray 0)) h'.objs.size its out.toArray) (a := h'.objs.size) (o := .lst vs') (t' := s.toks) kp (Nat.le_refl _)
      (show ObjOk X.prog X.w _ _ _ (.lst vs') from ⟨by rw [r.length, hl]; exact hz, out, _, r, ho3⟩)
    exact ⟨.ref h'.objs.size, _, L, rfl, q _ (I1.hok.fresh (Nat.le_refl _))⟩
  rcases hsrt with ⟨l, rfl, q⟩ | ⟨ks, kv, ok, q⟩
  · refine wpAny_bind (wpAny_holding (wpAny_call_entry slot_list_sort ⟨_, hoL, rfl⟩ entry_list_sort (list_sort_ints hoL (vals_intsI rv) hz fun out ns' a1 a2 a3 => ⟨_, rfl, ?_⟩) (args_list_sort _)))
    refine wpAny_pure ⟨_, rfl, ?_⟩
    have e := isortI_of a2 a3
    subst e
    have := fin out.toList _ (vals_ints a1) (by rw [IntsAre.length a1, (isortI_perm l).length_eq]; exact (IntsAre.length (vals_intsI rv)).symm) q
    simpa using this
  · obtain ⟨v2, v3⟩ := keyVs_at I2 zh kv rv
    refine wpAny_bind (wpAny_holding (wpAny_call_entry slot_list_sort ⟨_, hoL, rfl⟩ entry_list_sort (list_sort_tups hoL v2 ok hz fun out pm ka => ⟨_, rfl, ?_⟩) (args_list_sort _)))
    refine wpAny_pure ⟨_, rfl, ?_⟩
    obtain ⟨b1, b2⟩ := keyVs_back I2 zh ka fun u hu => v3 u (pm.mem_iff.mp hu)
    exact fin out _ b2 pm.length_eq (q _ b1)
theorem keysD_rep {K : Fg} {Z : Hp} : ∀ {us : List V} {ds : List D} {k : List Key}, Reps K Z us ds → keysD ds = some k → us = k.map keyV
  | _, _, _, .nil, h => by cases h; rfl
  | _, d :: ds, _, .cons r rs, h => by
    obtain ⟨x, e1, h⟩ := bind_some h
    obtain ⟨k', e2, h⟩ := bind_some h
    cases h
    rw [List.map_cons, ← keysD_rep rs e2]
    cases r <;> cases e1 <;> rfl
theorem keyTs_rep {K : Fg} {Z : Hp} : ∀ {vs : List V} {ds : List D} {ks : List (List Key)}, Reps K Z vs ds → keyTs ds = some ks → KeyVs K Z vs ks
  | _, _, _, .nil, h => by cases h; exact .nil
  | _, d :: ds, _, .cons r rs, h => by
    obtain ⟨k, e1, h⟩ := bind_some h
    obtain ⟨k', e2, h⟩ := bind_some h
    cases h
    cases r with
    | tup sq r2 =>
      have e := keysD_rep r2 e1
      subst e
      exact .cons sq (keyTs_rep rs e2)
    | _ => cases e1
theorem reps_keys {K : Fg} {Z : Hp} : ∀ k : List Key, Reps K Z (k.map keyV) (k.map keyDD)
  | [] => .nil
  | .inl i :: k => .cons (.int i) (reps_keys k)
  | .inr x :: k => .cons (.str x) (reps_keys k)
theorem keyVs_rep {K : Fg} {Z : Hp} : ∀ {vs : List V} {ks : List (List Key)}, KeyVs K Z vs ks → Reps K Z vs (ks.map fun k => .tuple (k.map keyDD))
  | _, _, .nil => .nil
  | _, _, .cons h r => .cons (.tup h (reps_keys _)) (keyVs_rep r)
variable {e : Expr} {p pos : Pos} {te : TE} {f : Dv → Option D}
def tSort (K : Fg) (te : TE) : TE := fun σ H Q => te σ H fun v H1 => ∃ (a : Addr) (vs : List V) (Z : Hp), [v] = [V.ref a] ∧ Same Z H1 ∧ (SqL K H1 a vs ∨ SqT K H1 a vs) ∧ Srt K Z vs fun vs' => ∀ l, H1 l = none → Q (.ref l) (upd H1 l (.lst vs'))
theorem pe_sorted (hg : Gl X "sorted") (hm : X.mg "sorted" = none) (ha : PE X e te) (he : starEach [e] X.env = (false, eval e X.env) :: starEach [] X.env := by rfl) (hpl : (backTo pos (starEach [] X.env)).any (·.1) = false := by rfl) :
    PE X (.Call (.Name "sorted" p) [e] [] pos) (tSort X.K te) := by
  intro pins s σ H Q I h
  refine wpAny_Call_Name_kw (ld_blt I hg hm (u := .builtin "sorted") (by decide +kernel) ?_ (by decide) (by decide))
  refine PyProof.Rows.callWith_builtin1 (thn (pa_cons ha pa_nil he pos pins s σ H (fun xs H1 => ∃ (a : Addr) (vs : List V) (Z : Hp), xs = [V.ref a] ∧ Same Z H1 ∧ (SqL X.K H1 a vs ∨ SqT X.K H1 a vs) ∧ Srt X.K Z vs fun vs' => ∀ l, H1 l = none → Q (.ref l) (upd H1 l (.lst vs'))) I (by exact h)) fun us s1 ⟨vs, H1, I1, r1, q1⟩ => ?_) he hpl
  obtain ⟨a, xs, Z, e1, zh, hsq, q⟩ := q1
  subst e1
  obtain ⟨u, rfl, rx⟩ := vals1 r1
  cases rx
  exact sorted_seq I1 zh hsq q
/-- sorted(x), told as a list of one's own -/
theorem eo_sort (hg : Gl X "sorted") (hm : X.mg "sorted" = none) (ha : EV X e f) (he : starEach [e] X.env = (false, eval e X.env) :: starEach [] X.env := by rfl) (hpl : (backTo pos (starEach [] X.env)).any (·.1) = false := by rfl) :
    EO X (.Call (.Name "sorted" p) [e] [] pos) (oLi (o1 f sortD)) :=
  PE.imp (pe_sorted hg hm ha he hpl) fun σ H Q h => by
    obtain ⟨H₀, Z₀, Z, δ, ds0, hh, e0, k⟩ := h
    obtain ⟨d, e, e0⟩ := bind_some e0
    obtain ⟨d1, e1, e⟩ := bind_some e
    refine ⟨H₀, Z₀, Z, δ, d1, hh, e1, fun v Z1 H1 hh1 t1 r1 => ?_⟩
    unfold sortD at e
    obtain ⟨ds, e2, e⟩ := bind_some e
    have key : ∀ vs, Reps X.K Z1 vs ds → Srt X.K Z1 vs fun vs' => ∀ l, H1 l = none → Q (.ref l) (upd H1 l (.lst vs')) := fun vs rs => by
      cases e3 : intL ds with
      | some l =>
        rw [e3] at e
        cases e
        cases e0
        exact .inl ⟨l, intL_rep rs e3, fun b hb => k b _ Z1 H1 hh1 t1 hb (Reps.ints _)⟩
      | none =>
        rw [e3] at e
        obtain ⟨ks, e4, e⟩ := bind_some e
        obtain ⟨ok, e⟩ := ite_some e
        cases e
        cases e0
        exact .inr ⟨ks, keyTs_rep rs e4, ok, fun vs' kv b hb => k b _ Z1 H1 hh1 t1 hb (keyVs_rep kv)⟩
    cases r1 with
    | lst sq rs =>
      cases e2
      exact ⟨_, _, Z1, rfl, hh1.zh, .inl (SqL.same sq hh1.zh), key _ rs⟩
    | tup sq rs =>
      cases e2
      exact ⟨_, _, Z1, rfl, hh1.zh, .inr (SqT.same sq hh1.zh), key _ rs⟩
    | _ => cases e2
/-- a list of one's own, known for good -/
theorem ev_eo {g : Dv → Option D} (h : EO X e (oLi g)) (hl : ∀ δ d, g δ = some d → ∃ ds, d = .list ds) : EV X e g :=
  PE.imp h fun σ H Q h => by
    obtain ⟨H₀, Z₀, Z, δ, d, hh, e, k⟩ := h
    obtain ⟨ds, rfl⟩ := hl _ _ e
    refine ⟨H₀, Z₀, Z, δ, ds, hh, by unfold oLi; rw [e]; rfl, fun p vs Z1 H1 hh1 t1 hp r1 => ?_⟩
    have n := New.add hh1.zh hp (.lst vs)
    exact k _ _ _ (hh1.new n) (t1.trans n.z) (.lst (SqL.of upd_same) (r1.same n.z))
theorem sortD_list {d d' : D} (h : sortD d = some d') : ∃ ds, d' = .list ds := by
  unfold sortD at h
  obtain ⟨ds, _, h⟩ := bind_some h
  cases e3 : intL ds with
  | some l => rw [e3] at h; cases h; exact ⟨_, rfl⟩
  | none =>
    rw [e3] at h
    obtain ⟨ks, _, h⟩ := bind_some h
    obtain ⟨_, h⟩ := ite_some h
    cases h
    exact ⟨_, rfl⟩
/-- sorted(x) -/
theorem ev_sort (hg : Gl X "sorted") (hm : X.mg "sorted" = none) (ha : EV X e f) (he : starEach [e] X.env = (false, eval e X.env) :: starEach [] X.env := by rfl) (hpl : (backTo pos (starEach [] X.env)).any (·.1) = false := by rfl) :
    EV X (.Call (.Name "sorted" p) [e] [] pos) (o1 f sortD) :=
  ev_eo (eo_sort hg hm ha he hpl) fun δ d e => by
    obtain ⟨d1, _, e⟩ := bind_some e
    exact sortD_list e
theorem fzO_ok {K : Fg} (i : Nat) {g : Dv → Option (List D)} {D : Ends} {σ : St} {H : Hp} (h : tNO K (fun δ => g (dFz i δ)) D σ H) : tNO K g D σ H := by
  obtain ⟨H₀, Z₀, Z, δ, r, hh, e, k⟩ := h
  have e : g (dFz i δ) = some r := e
  unfold dFz at e
  split at e
  · rename_i ds q
    obtain ⟨Z1, t1, hh1⟩ := hh.frz q
    exact ⟨H₀, Z₀, Z1, _, r, hh1, e, fun σ2 H2 Z2 δ2 p us hh2 t2 => k σ2 H2 Z2 δ2 p us hh2 (t1.trans t2)⟩
  · exact ⟨H₀, Z₀, Z, _, r, hh, e, k⟩
/-- a list of one's own is read by all that follows -/
theorem bo_fz (i : Nat) {sts : List Stmt} {g : Dv → Option (List D)} (h : BO X sts g) : BO X sts (fun δ => g (dFz i δ)) := PSs.imp h fun D σ H q => fzO_ok i q
theorem oe_fz (i : Nat) {s : Sf} {g : Dv → Option (List D)} (h : OEnd s g) : OEnd (fun δ => s (dFz i δ)) (fun δ => g (dFz i δ)) := fun δ δ' ds e => h _ _ _ e
end
end VL

set_option Elab.async false
set_option linter.all false
set_option maxRecDepth 100000
set_option maxHeartbeats 4000000
namespace VL
open PySem PySem.Spec PyProof.Rows L2
/-! ### an object of a class of the text -/
--PURE
--END
section
variable {X : Cx} {e b c : Expr} {es : List Expr} {f fk fv : Dv → Option D} {fs : Dv → Option (List D)} {ft : Dv → Option Bool} {p pos tpos apos : Pos} {n F : Str}
end
end VL

set_option Elab.async false
set_option linter.all false
set_option maxRecDepth 100000
set_option maxHeartbeats 4000000
namespace VL
open PySem PySem.Spec PyProof.Rows L2
/-! ### an object of one's own -/
section
variable {K : Fg} {n : Str} {i : Nat} {A : List Addr} {x : Addr} {ds : List (Str × D)} {Z H : Hp} {δ : Dv} {σ : St}
/-! ### fields -/
end
end VL

set_option Elab.async false
set_option linter.all false
set_option maxRecDepth 100000
set_option maxHeartbeats 4000000
namespace VL
open PySem PySem.Spec PyProof.Rows L2
/-! ### statements about an object of one's own -/
section
variable {K : Fg} {n : Str} {i : Nat} {A : List Addr} {x : Addr} {ds : List (Str × D)} {Z H : Hp} {δ : Dv} {σ : St}
end
section
variable {X : Cx} {n F m : Str} {i : Nat} {e b c : Expr} {es : List Expr} {st : Stmt} {sts body orelse : List Stmt} {s1 s2 : Sf} {f fk fv : Dv → Option D} {fs : Dv → Option (List D)} {ft : Dv → Option Bool} {p p2 pos tpos apos cpos : Pos}
end
end VL

set_option Elab.async false
set_option linter.all false
set_option maxRecDepth 100000
set_option maxHeartbeats 4000000
namespace VL
open PySem PySem.Spec PyProof.Rows L2
--PURE
--END
section
variable {K : Fg} {n : Str} {i : Nat} {A : List Addr} {x : Addr} {ds : List (Str × D)} {Z H : Hp} {δ : Dv} {σ : St}
end
section
variable {P : Program} {w : World} {K : PySem.W.Frag} {mg : Str → Option Value} {base : Heap}
/-! ### __init__ -/
end
section
variable {X : Cx} {n F m : Str} {i : Nat} {e b c : Expr} {es : List Expr} {st : Stmt} {sts body orelse : List Stmt} {s1 s2 : Sf} {f fk fv : Dv → Option D} {fs : Dv → Option (List D)} {ft : Dv → Option Bool} {p p2 pos tpos apos cpos : Pos}
end
end VL

set_option Elab.async false
set_option linter.all false
set_option maxRecDepth 100000
set_option maxHeartbeats 4000000
namespace VL
open PySem PySem.Spec PyProof.Rows L2
/-! ### a def of a class -/
section
variable {P : Program} {w : World} {K : PySem.W.Frag} {mg : Str → Option Value} {base h : Heap} {C : Addr} {n m q : Str} {st : Stmt} {k : Nat} {ps : List Str}
end
end VL

set_option Elab.async false
set_option linter.all false
set_option maxRecDepth 100000
set_option maxHeartbeats 4000000
namespace VL
open PySem PySem.Spec PyProof.Rows L2
/-! ### texts: str(x), sep.join(x), x.split(sep) -/
--PURE
--END
section
variable {X : Cx} {a b : Expr} {f1 f2 : Dv → Option D} {pos apos : Pos}
end
end VL

set_option Elab.async false
set_option linter.all false
set_option maxRecDepth 100000
set_option maxHeartbeats 4000000
namespace VL
open PySem PySem.Spec PyProof.Rows L2
/-! ### a def that tells a new dict -/
--PURE
--END
section
variable {X : Cx} {e b : Expr} {es : List Expr} {p pos apos cpos : Pos} {st : Stmt} {sts : List Stmt} {f : Dv → Option (List (Key × D))} {fk : Dv → Option D} {fs : Dv → Option (List D)} {s : Sf}
end
section
variable {P : Program} {w : World} {K : PySem.W.Frag} {mg : Str → Option Value} {base : Heap}
end
section
variable {X : Cx} {e b : Expr} {es : List Expr} {p pos apos cpos : Pos} {fk : Dv → Option D} {fs : Dv → Option (List D)} {k : Nat} {x : Str} {g : List D → Option (List (Key × D))}
end
section
variable {P : Program} {w : World} {K : PySem.W.Frag} {mg : Str → Option Value} {base h : Heap} {x y : Str} {st : Stmt} {ps : List Str} {k : Nat}
end
end VL

set_option Elab.async false
set_option linter.all false
set_option maxRecDepth 100000
set_option maxHeartbeats 4000000
namespace VL
open PySem PySem.Spec PyProof.Rows L2
--PURE
/-- x.insert(k, v), k from 0 to the length -/
@[simp] def sIns (i : Nat) (fk fv : Dv → Option D) : Sf := fun δ => (fk δ).bind fun dk => (fv δ).bind fun v => (slO δ[i]?).bind fun ds => match dk with
  | .int k => if 0 ≤ k ∧ k.toNat ≤ ds.length ∧ ds.length < sizeLine then some (.nx, δ.set i (.ow (ds.take k.toNat ++ v :: ds.drop k.toNat))) else none
  | _ => none
--END
section
variable {X : Cx}
def rInsert : V → List V → Hp → VK → Prop := fun x vs H Q => ∃ l xs k y, x = .ref l ∧ vs = [.int k, y] ∧ H l = some (.lst xs) ∧ 0 ≤ k ∧ k.toNat ≤ xs.length ∧ xs.length < sizeLine ∧ Q .non (upd H l (.lst (xs.take k.toNat ++ y :: xs.drop k.toNat)))
theorem Vals.takeV : ∀ {xs : List V} {us : List Value} (n : Nat), Vals xs us → Vals (xs.take n) (us.take n)
  | _, _, 0, _ => by simpa using .nil
  | _, _, n + 1, .nil => .nil
  | _, _, n + 1, .cons h r => .cons h (Vals.takeV n r)
theorem Vals.dropV : ∀ {xs : List V} {us : List Value} (n : Nat), Vals xs us → Vals (xs.drop n) (us.drop n)
  | _, _, 0, h => h
  | _, _, n + 1, .nil => .nil
  | _, _, n + 1, .cons h r => Vals.dropV n r
theorem mt_insert : MtM X "list.insert" rInsert := by
  intro pins s σ H x vs v us Q I rx rv h
  obtain ⟨l, xs, k, y, rfl, rfl, hH, h0, hk, hz, q⟩ := h
  cases rx
  obtain ⟨u, w, rfl, ⟨t, rfl⟩, rw_⟩ := rv.two
  obtain ⟨z, its, n, r, hl, e⟩ := I.lstM hH
  have hlen : xs.length = its.length := r.length
  have hf : Builtin.List.listFitsIndex k = true := by
    unfold Builtin.List.listFitsIndex
    have : k < 16777217 := by rw [sizeLine_eq] at hz; omega
    simp only [Bool.and_eq_true, decide_eq_true_eq]
    exact ⟨by omega, by omega⟩
  refine call_meets PySem.F.slot_list_insert ⟨_, e, rfl⟩ PySem.F.entry_list_insert (PySem.F.args_list_insert_3 _ _ _) (PySem.AutoSeq1.list_insert_list_int_val_1 l its.toArray n k t w (by simp [hf]) (by rw [List.size_toArray, ← hlen]; omega)) ⟨e, ?_⟩
  refine ⟨.non, _, I.lset (its' := its.take k.toNat ++ w :: its.drop k.toNat) hH e ?_ ((Vals.takeV _ r).append (.cons rw_ (Vals.dropV _ r))) ?_, rfl, q⟩
  · have e1 : (if k < 0 then (k + (its.toArray.size : Int)).toNat else min k.toNat its.toArray.size) = k.toNat := by
      rw [if_neg (by omega), List.size_toArray]
      omega
    show (its.toArray.extract 0 (if k < 0 then (k + (its.toArray.size : Int)).toNat else min k.toNat its.toArray.size)).push w ++ its.toArray.extract (if k < 0 then (k + (its.toArray.size : Int)).toNat else min k.toNat its.toArray.size) = _
    rw [e1]
    apply Array.toList_inj.mp
    simp
    exact List.take_of_length_le (by simp)
  · simp only [List.length_append, List.length_cons, List.length_take, List.length_drop]
    omega
theorem Reps.takeV {K : Fg} {Z : Hp} : ∀ {xs : List V} {us : List D} (n : Nat), Reps K Z xs us → Reps K Z (xs.take n) (us.take n)
  | _, _, 0, _ => by simpa using .nil
  | _, _, n + 1, .nil => .nil
  | _, _, n + 1, .cons h r => .cons h (Reps.takeV n r)
theorem Reps.dropV {K : Fg} {Z : Hp} : ∀ {xs : List V} {us : List D} (n : Nat), Reps K Z xs us → Reps K Z (xs.drop n) (us.drop n)
  | _, _, 0, h => h
  | _, _, n + 1, .nil => .nil
  | _, _, n + 1, .cons h r => Reps.dropV n r
variable {e b : Expr} {p pos apos : Pos} {fk fv : Dv → Option D}
theorem sv_ins (i : Nat) {x : Str} {cpos : Pos} (hk : EV X b fk) (hv' : EV X e fv) (hN : X.N[i]? = some x := by rfl) (hv : Vis X.env.scope x := by first | exact Or.inl rfl | exact Or.inr (Or.inl rfl) | exact Or.inr (Or.inr rfl)) (hd : (x == ("__debug__" : Str)) = false := by decide) (hcd : (x == ("__classdict__" : Str)) = false := by decide)
    (hbase : attributeBase (.Name x p) "insert" X.env (eval (.Name x p) X.env) = eval (.Name x p) X.env := by rfl)
    (hfew : ((backTo cpos (starEach [b, e] X.env)).all (fun x => !x.1) && (backToKw cpos (keywordEach [] X.env)).all (fun x => x.1.isSome)
      && decide ([b, e].length + ([] : List Keyword).length + (if ([] : List Keyword).isEmpty then 0 else 1) < 30)) = true := by rfl)
    (hline : (apos.endLine == cpos.line) = true := by rfl) (hs : starEach [b, e] X.env = (false, eval b X.env) :: starEach [e] X.env := by rfl) (hs2 : starEach [e] X.env = (false, eval e X.env) :: starEach [] X.env := by rfl) (hplain : (backTo cpos (starEach [e] X.env)).any (·.1) = false := by rfl)
    (hsw : swapsWith (.Call (.Attribute (.Name x p) "insert" apos) [b, e] [] cpos) none pos.line X.env = pure false := by rfl) : SV X (.Expr (.Call (.Attribute (.Name x p) "insert" apos) [b, e] [] cpos) pos) (sIns i fk fv) :=
  PS.imp (ps_expr (pe_bm PySem.F.plainAttrs_list PySem.F.slot_list_insert PySem.F.type_list_insert mt_insert (pe_var hN hv hd hcd) (pa_cons hk (pa_cons hv' pa_nil hs2) hs) hbase hfew hline hs hplain) hsw) fun D σ H h => by
    obtain ⟨H₀, Z₀, Z, δ, r, hh, e, k⟩ := h
    obtain ⟨dk, e0, e⟩ := bind_some e
    obtain ⟨v, e1, e⟩ := bind_some e
    obtain ⟨ds, e2, e⟩ := bind_some e
    cases dk with
    | int n =>
      obtain ⟨⟨h0, hn, hl⟩, e⟩ := ite_some e
      cases e
      obtain ⟨a, xs, h1, h4, h5⟩ := ow_at hh e2
      refine ⟨_, h1, .inl ⟨rfl, xs, SqL.of h4⟩, H₀, Z₀, Z, δ, .int n, hh, e0, fun w Z1 H1 hh1 t1 r1 => ?_⟩
      refine ⟨H₀, Z₀, Z1, δ, v, hh1, e1, fun w2 Z2 H2 hh2 t2 r2 => ?_⟩
      obtain ⟨a', xs', g1, g4, g5⟩ := ow_at hh2 e2
      rw [h1] at g1
      cases g1
      have := r1.int_eq
      subst this
      have gl := g5.length
      exact ⟨a, xs', n, w2, rfl, rfl, g4, h0, by rw [gl]; exact hn, by rw [gl]; exact hl, k σ _ Z2 (hh2.chg (xs := xs') (slO_eq e2) h1 ((Reps.takeV _ g5).append (.cons r2 (Reps.dropV _ g5)))) (t1.trans t2)⟩
    | _ => cases e
end
end VL

set_option Elab.async false
set_option linter.all false
set_option maxRecDepth 100000
set_option maxHeartbeats 4000000
namespace MA
open PySem
/-! ### or, the twos that are shared -/
/-- the number of twos, bounded: what twos_shared tells -/
def twos (j most : Int) : Int := if j = 0 then most else if (Builtin.Int.intBits (Builtin.bitAnd j (-j)) : Int) - 1 < most then (Builtin.Int.intBits (Builtin.bitAnd j (-j)) : Int) - 1 else most
/-! ### sizes -/
theorem bits_le {a : Int} {m : Nat} (h : a.natAbs < 2 ^ m) : Builtin.Int.intBits a ≤ m := by
  unfold Builtin.Int.intBits
  split
  · exact Nat.zero_le _
  · rename_i h0
    have h0 : a ≠ 0 := by simpa using h0
    have : a.natAbs.log2 < m := (Nat.log2_lt (by omega)).mpr h
    omega
/-! ### four parts -/
structure Q4 where
  a : Int
  b : Int
  c : Int
  d : Int
namespace Q4
end Q4
/-! ### shares -/
structure S2 where
  p : Int
  q : Int
namespace S2
end S2
/-! ### states -/
inductive Row where
  | swing (j : Nat) | turn (j : Nat) (e : Nat) | flip (j : Nat) | tie (i j : Nat) | sign (i j : Nat) | cross (i j : Nat)
def Row.ok (n : Nat) : Row → Prop
  | .swing j => j < n
  | .turn j e => j < n ∧ 1 ≤ e ∧ e ≤ 7
  | .flip j => j < n
  | .tie i j => i < n ∧ j < n ∧ i ≠ j
  | .sign i j => i < n ∧ j < n ∧ i ≠ j
  | .cross i j => i < n ∧ j < n ∧ i ≠ j
/-! ### bits of a whole number -/
/-- how many bits are 1 -/
def cnt (n : Nat) : Nat := if n = 0 then 0 else n % 2 + cnt (n / 2)
termination_by n
decreasing_by omega
/-- is an odd number of bits 1? -/
def par (n : Nat) : Nat := cnt n % 2
/-! ### words -/
/-! ### shapes: == of a thing with itself -/
def Sh (k : Nat) (d : PyData) : Prop := d.canLay0 = true ∧ d.depth ≤ k
theorem Sh.int (k : Nat) (i : Int) : Sh k (.int i) := ⟨by simp [PyData.canLay0], by simp [PyData.depth]⟩
theorem Sh.all {k : Nat} : ∀ (xs : List PyData), (∀ x ∈ xs, Sh k x) → PyData.canLayAll0 xs = true ∧ PyData.depthAll xs ≤ k
  | [], _ => ⟨by simp [PyData.canLayAll0], by simp [PyData.depthAll]⟩
  | x :: xs, h => by
    obtain ⟨a, b⟩ := Sh.all xs fun y hy => h y (List.mem_cons_of_mem _ hy)
    obtain ⟨c, d⟩ := h x List.mem_cons_self
    refine ⟨by simp [PyData.canLayAll0, a, c], ?_⟩
    simp only [PyData.depthAll]
    omega
theorem Sh.tuple {k : Nat} {xs : List PyData} (h : ∀ x ∈ xs, Sh k x) : Sh (k + 1) (.tuple xs) := by
  obtain ⟨a, b⟩ := Sh.all xs h
  exact ⟨by simp [PyData.canLay0, a], by simp only [PyData.depth]; omega⟩
theorem Sh.list {k : Nat} {xs : List PyData} (h : ∀ x ∈ xs, Sh k x) : Sh (k + 1) (.list xs) := by
  obtain ⟨a, b⟩ := Sh.all xs h
  exact ⟨by simp [PyData.canLay0, a], by simp only [PyData.depth]; omega⟩
/-! ### all numbers over one great r**M -/
/-! ### sums over places -/
/-! ### the whole and the inner number stay -/
/-! ### inner numbers -/
/-! ### columns: the state of a sum is the sum of the states -/
end MA
namespace GN
open PySem L2 VL
def top (i : Nat) : Stmt := PySem.Challenge.pw_wavewires_k62_steps_that_fit.main.body.getD i (.Pass ⟨0, 0, 0, 0⟩)
abbrev s_wires_of : Stmt := top 1
abbrev N_wires_of : List Str := ["row"]
def b_wires_of (G : List D → Option D) : Sf := sSeq (sIf (ob (o2 (o2 (oV 0) (oC (.int 0)) ixD) (oC (.str "where")) eqD)) (sRet (os (oCons (o2 (oV 0) (oC (.int 2)) ixD) (oNil)) G)) (sNx)) (sSeq (sIf (ob (o2 (o2 (oV 0) (oC (.int 0)) ixD) (os (oCons (oC (.str "tie")) (oCons (oC (.str "sign")) (oCons (oC (.str "cross")) (oNil)))) tupD) (inD false))) (sRet (os (oCons (os (oCons (o2 (oV 0) (oC (.int 1)) ixD) (oCons (o2 (oV 0) (oC (.int 2)) ixD) (oNil))) minD) (oCons (os (oCons (o2 (oV 0) (oC (.int 1)) ixD) (oCons (o2 (oV 0) (oC (.int 2)) ixD) (oNil))) maxD) (oNil))) tupD)) (sNx)) (sRet (os (oCons (o2 (oV 0) (oC (.int 1)) ixD) (oNil)) tupD)))
def r_wires_of : Nat → List D → Option D
  | 0 => runB N_wires_of 1 (fun _ => none)
  | m + 1 => runB N_wires_of 1 (b_wires_of (r_wires_of m))
def g_wires_of : List D → Option D := r_wires_of 8
abbrev s_inner_row : Stmt := top 3
abbrev N_inner_row : List Str := ["row"]
def b_inner_row : Sf := sRet (oIf (ob (o2 (o2 (oV 0) (oC (.int 0)) ixD) (oC (.str "where")) eqD)) (o2 (oV 0) (oC (.int 2)) ixD) (oV 0))
def g_inner_row : List D → Option D := runB N_inner_row 1 b_inner_row
abbrev s_flips : Stmt := top 4
abbrev N_flips : List Str := ["row", "wire"]
def b_flips : Sf := sSeq (sIf (ob (o2 (o2 (oV 0) (oC (.int 0)) ixD) (os (oCons (oC (.str "swing")) (oCons (oC (.str "cross")) (oNil))) tupD) (inD false))) (sRet (oC .none)) (sNx)) (sRet (oOrV (o2 (o2 (oV 0) (oC (.int 0)) ixD) (oC (.str "flip")) eqD) (oAndV (o2 (o2 (oV 0) (oC (.int 0)) ixD) (oC (.str "tie")) eqD) (o2 (o2 (oV 0) (oC (.int 2)) ixD) (oV 1) eqD))))
def g_flips : List D → Option D := runB N_flips 2 b_flips
abbrev s_both_alike : Stmt := top 5
abbrev N_both_alike : List Str := ["one", "other", "wire", "first"]
def b_both_alike : Sf := sSeq (sSet 3 (os (oCons (oV 0) (oCons (oV 2) (oNil))) g_flips)) (sRet (oAndV (o2 (oV 3) (oC .none) isntD) (o2 (oV 3) (os (oCons (oV 1) (oCons (oV 2) (oNil))) g_flips) eqD)))
def g_both_alike : List D → Option D := runB N_both_alike 3 b_both_alike
abbrev s_asks_for : Stmt := top 6
abbrev N_asks_for : List Str := ["row", "look", "mark"]
def b_asks_for : Sf := sRet (oAndV (o2 (o2 (oV 0) (oC (.int 0)) ixD) (oC (.str "where")) eqD) (oAndV (o2 (o2 (oV 1) (oC (.int 0)) ixD) (oC (.str "look")) eqD) (o2 (o2 (oV 0) (oC (.int 1)) ixD) (oV 2) eqD)))
def g_asks_for : List D → Option D := runB N_asks_for 3 b_asks_for
abbrev s_lets_by : Stmt := top 7
abbrev N_lets_by : List Str := ["one", "other", "mark", "shared"]
def p1_lets_by : Dv → Option D := oCompI (oI (os (oCons (oV 0) (oNil)) g_wires_of) itsD) [(1, "other")] bv1 (ob (o2 (oV 0) (os (oCons (oV 1) (oNil)) g_wires_of) (inD false))) (oV 0)
def p2_lets_by : Dv → Option D := oComp (oI (oV 3) itsD) [(0, "one"), (1, "other")] bv1 (os (oCons (os (oCons (oV 1) (oNil)) g_inner_row) (oCons (os (oCons (oV 2) (oNil)) g_inner_row) (oCons (oV 0) (oNil)))) g_both_alike)
def b_lets_by : Sf := sSeq (sIf (oAnd (ob (o2 (o2 (oV 0) (oC (.int 0)) ixD) (oC (.str "look")) eqD)) (ob (o2 (o2 (oV 1) (oC (.int 0)) ixD) (oC (.str "look")) eqD))) (sRet (oC (.bool false))) (sNx)) (sSeq (sIf (oOr (ob (os (oCons (oV 0) (oCons (oV 1) (oCons (oV 2) (oNil)))) g_asks_for)) (ob (os (oCons (oV 1) (oCons (oV 0) (oCons (oV 2) (oNil)))) g_asks_for))) (sRet (oC (.bool false))) (sNx)) (sSeq (sSet 3 (p1_lets_by)) (sRet (os (oCons (p2_lets_by) (oNil)) allD))))
def g_lets_by : List D → Option D := runB N_lets_by 3 b_lets_by
abbrev s_undone_by : Stmt := top 8
abbrev N_undone_by : List Str := ["one", "other"]
def b_undone_by : Sf := sSeq (sIf (ob (o2 (o2 (oV 0) (oC (.int 0)) ixD) (os (oCons (oC (.str "turn")) (oCons (oC (.str "look")) (oNil))) tupD) (inD false))) (sRet (oC (.bool false))) (sNx)) (sSeq (sIf (ob (o2 (o2 (oV 0) (oC (.int 0)) ixD) (os (oCons (oC (.str "sign")) (oCons (oC (.str "cross")) (oNil))) tupD) (inD false))) (sRet (oAndV (o2 (o2 (oV 0) (oC (.int 0)) ixD) (o2 (oV 1) (oC (.int 0)) ixD) eqD) (o2 (os (oCons (oV 0) (oNil)) g_wires_of) (os (oCons (oV 1) (oNil)) g_wires_of) eqD))) (sNx)) (sRet (o2 (oV 0) (oV 1) eqD)))
def g_undone_by : List D → Option D := runB N_undone_by 2 b_undone_by
abbrev s_steps_for_two : Stmt := top 9
abbrev N_steps_for_two : List Str := ["rows", "p", "steps", "q"]
def l1_steps_for_two : Sf := sSeq (sIf (ob (os (oCons (o2 (oV 0) (oV 1) ixD) (oCons (o2 (oV 0) (oV 3) ixD) (oNil))) g_undone_by)) (sApp 2 (os (oCons (oC (.str "gone")) (oCons (oV 1) (oCons (oV 3) (oNil)))) tupD)) (sNx)) (sSeq (sIf (oAnd (ob (o2 (o2 (o2 (oV 0) (oV 1) ixD) (oC (.int 0)) ixD) (oC (.str "turn")) eqD)) (ob (o2 (oSl (o2 (oV 0) (oV 1) ixD) (oNo) (oP (oC (.int 2)))) (oSl (o2 (oV 0) (oV 3) ixD) (oNo) (oP (oC (.int 2)))) eqD))) (sApp 2 (os (oCons (oC (.str "joined")) (oCons (oV 1) (oCons (oV 3) (oNil)))) tupD)) (sNx)) (sIf (oNot (ob (os (oCons (o2 (oV 0) (oV 1) ixD) (oCons (o2 (oV 0) (oV 3) ixD) (oNil))) (fun as => g_lets_by (as ++ [.none]))))) (fun δ => (sRet (oV 2)) (dFz 2 δ)) (sNx)))
def b_steps_for_two : Sf := sSeq (sOwn 2 (oNil)) (sSeq (sFor (oL (oCons (o2 (oV 1) (oC (.int 1)) addD) (oCons (os (oCons (oV 0) (oNil)) lenD) (oNil))) rng2D) (gN 3) (l1_steps_for_two)) (fun δ => (sRet (oV 2)) (dFz 2 δ)))
def g_steps_for_two : List D → Option D := runB N_steps_for_two 2 b_steps_for_two
abbrev s_swung_row : Stmt := top 10
abbrev N_swung_row : List Str := ["row", "wire"]
def b_swung_row (G : List D → Option D) : Sf := sSeq (sIf (ob (o2 (o2 (oV 0) (oC (.int 0)) ixD) (oC (.str "where")) eqD)) (sRet (os (oCons (oC (.str "where")) (oCons (o2 (oV 0) (oC (.int 1)) ixD) (oCons (os (oCons (o2 (oV 0) (oC (.int 2)) ixD) (oCons (oV 1) (oNil))) G) (oNil)))) tupD)) (sNx)) (sSeq (sIf (ob (o2 (oV 0) (os (oCons (oC (.str "flip")) (oCons (oV 1) (oNil))) tupD) eqD)) (sRet (os (oCons (oC (.str "turn")) (oCons (oV 1) (oCons (oC (.int 4)) (oNil)))) tupD)) (sNx)) (sSeq (sIf (ob (o2 (oV 0) (os (oCons (oC (.str "turn")) (oCons (oV 1) (oCons (oC (.int 4)) (oNil)))) tupD) eqD)) (sRet (os (oCons (oC (.str "flip")) (oCons (oV 1) (oNil))) tupD)) (sNx)) (sSeq (sIf (oAnd (ob (o2 (o2 (oV 0) (oC (.int 0)) ixD) (oC (.str "tie")) eqD)) (ob (o2 (o2 (oV 0) (oC (.int 2)) ixD) (oV 1) eqD))) (sRet (os (oCons (oC (.str "sign")) (oCons (o2 (oV 0) (oC (.int 1)) ixD) (oCons (oV 1) (oNil)))) tupD)) (sNx)) (sSeq (sIf (ob (o2 (o2 (oV 0) (oC (.int 0)) ixD) (oC (.str "sign")) eqD)) (sRet (os (oCons (oC (.str "tie")) (oCons (oIf (ob (o2 (o2 (oV 0) (oC (.int 1)) ixD) (oV 1) eqD)) (o2 (oV 0) (oC (.int 2)) ixD) (o2 (oV 0) (oC (.int 1)) ixD)) (oCons (oV 1) (oNil)))) tupD)) (sNx)) (sRet (oC .none))))))
def r_swung_row : Nat → List D → Option D
  | 0 => runB N_swung_row 2 (fun _ => none)
  | m + 1 => runB N_swung_row 2 (b_swung_row (r_swung_row m))
def g_swung_row : List D → Option D := r_swung_row 8
abbrev s_steps_for_three : Stmt := top 11
abbrev N_steps_for_three : List Str := ["rows", "p", "wire", "at"]
def p1_steps_for_three : Dv → Option D := oCompI (oL (oCons (o2 (oV 1) (oC (.int 1)) addD) (oCons (os (oCons (oV 0) (oNil)) lenD) (oNil))) rng2D) [(0, "rows"), (2, "wire")] bv1 (ob (o2 (oV 2) (os (oCons (o2 (oV 1) (oV 0) ixD) (oNil)) g_wires_of) (inD false))) (oV 0)
def b_steps_for_three : Sf := sSeq (sIf (ob (o2 (o2 (o2 (oV 0) (oV 1) ixD) (oC (.int 0)) ixD) (oC (.str "swing")) neD)) (sRet (os (oNil) lstD)) (sNx)) (sSeq (sSet 2 (o2 (o2 (oV 0) (oV 1) ixD) (oC (.int 1)) ixD)) (sSeq (sSet 3 (oSl (p1_steps_for_three) (oNo) (oP (oC (.int 2))))) (sSeq (sIf (oAnd (ob (o2 (os (oCons (oV 3) (oNil)) lenD) (oC (.int 2)) eqD)) (oAnd (ob (o2 (o2 (oV 0) (o2 (oV 3) (oC (.int 1)) ixD) ixD) (o2 (oV 0) (oV 1) ixD) eqD)) (ob (o2 (os (oCons (o2 (oV 0) (o2 (oV 3) (oC (.int 0)) ixD) ixD) (oCons (oV 2) (oNil))) g_swung_row) (oC .none) isntD)))) (sRet (os (oCons (os (oCons (oC (.str "swung")) (oCons (oV 1) (oCons (o2 (oV 3) (oC (.int 0)) ixD) (oCons (o2 (oV 3) (oC (.int 1)) ixD) (oNil))))) tupD) (oNil)) lstD)) (sNx)) (sRet (os (oNil) lstD)))))
def g_steps_for_three : List D → Option D := runB N_steps_for_three 2 b_steps_for_three
abbrev s_slides_of : Stmt := top 12
abbrev N_slides_of : List Str := ["circuit", "rows", "steps", "p"]
def l1_slides_of : Sf := sSeq (sExtL 2 (os (oCons (oV 1) (oCons (oV 3) (oNil))) g_steps_for_two)) (sExtL 2 (os (oCons (oV 1) (oCons (oV 3) (oNil))) g_steps_for_three))
def b_slides_of : Sf := sSeq (sSet 1 (o2 (oV 0) (oC (.int 1)) ixD)) (sSeq (sOwn 2 (oNil)) (sSeq (sFor (oL (oCons (os (oCons (oV 1) (oNil)) lenD) (oNil)) rng1D) (gN 3) (l1_slides_of)) (fun δ => (sRet (o1 (oV 2) sortD)) (dFz 2 δ))))
def g_slides_of : List D → Option D := runB N_slides_of 1 b_slides_of
abbrev s__law_cell : Stmt := top 14
abbrev N__law_cell : List Str := ["script", "k"]
def b__law_cell : Sf := sSeq (sIf (ob (o2 (oV 1) (os (oCons (oV 0) (oNil)) lenD) ltD)) (sRet (o2 (oV 0) (oV 1) ixD)) (sNx)) (sRet (oC (.int 0)))
def g__law_cell : List D → Option D := runB N__law_cell 2 b__law_cell
abbrev s__law_turn : Stmt := top 15
abbrev N__law_turn : List Str := ["cell", "prime", "near"]
def b__law_turn : Sf := sSeq (sSet 2 (o2 (oV 0) (oC (.int 1000003)) modD)) (sRet (o2 (o2 (o2 (oV 2) (oC (.int 11)) addD) (o2 (oV 2) (oC (.int 48271)) addD) mulI) (oV 1) modD))
def g__law_turn : List D → Option D := runB N__law_turn 2 b__law_turn
abbrev s__law_row : Stmt := top 16
abbrev N__law_row : List Str := ["cell", "wires", "looks", "plain", "seed", "j", "i"]
def b__law_row : Sf := sSeq (sSet 4 (o2 (os (oCons (oV 0) (oCons (oC (.int 2147483647)) (oNil))) g__law_turn) (oC (.int 7)) divD)) (sSeq (sSet 5 (o2 (o2 (oV 4) (oC (.int 16)) divD) (oV 1) modD)) (sSeq (sSet 6 (o2 (o2 (o2 (oV 5) (oC (.int 1)) addD) (o2 (o2 (oV 4) (oC (.int 96)) divD) (os (oCons (oC (.int 1)) (oCons (o2 (oV 1) (oC (.int 1)) subD) (oNil))) maxD) modD) addD) (oV 1) modD)) (sSeq (sIf (ob (o2 (o2 (oV 0) (oC (.int 16)) modD) (oC (.int 4)) ltD)) (sRet (os (oCons (oC (.str "swing")) (oCons (oV 5) (oNil))) tupD)) (sNx)) (sSeq (sIf (ob (o2 (o2 (oV 0) (oC (.int 16)) modD) (oC (.int 7)) ltD)) (sRet (os (oCons (oC (.str "turn")) (oCons (oV 5) (oCons (o2 (oC (.int 1)) (o2 (o2 (oV 4) (oC (.int 600)) divD) (oC (.int 7)) modD) addD) (oNil)))) tupD)) (sNx)) (sSeq (sIf (oAnd (ob (oCh (oC (.int 7)) (o2 (oV 0) (oC (.int 16)) modD) (oC (.int 13)) ltD ltD)) (ob (o2 (oV 1) (oC (.int 1)) gtD))) (sRet (os (oCons (o2 (os (oCons (oC (.str "tie")) (oCons (oC (.str "sign")) (oCons (oC (.str "cross")) (oCons (oC (.str "tie")) (oCons (oC (.str "sign")) (oNil)))))) lstD) (o2 (o2 (oV 0) (oC (.int 16)) modD) (oC (.int 8)) subD) ixD) (oCons (oV 6) (oCons (oV 5) (oNil)))) tupD)) (sNx)) (sSeq (sIf (oOr (ob (o2 (o2 (oV 0) (oC (.int 16)) modD) (oC (.int 7)) eqD)) (ob (oV 3))) (sRet (os (oCons (oC (.str "flip")) (oCons (oV 5) (oNil))) tupD)) (sNx)) (sSeq (sIf (oAnd (ob (o2 (oV 2) (oC (.int 6)) ltD)) (oOr (ob (o2 (o2 (oV 0) (oC (.int 16)) modD) (oC (.int 14)) ltD)) (ob (o2 (oV 2) (oC (.int 0)) eqD)))) (sRet (os (oCons (oC (.str "look")) (oCons (oV 5) (oNil))) tupD)) (sNx)) (sSeq (sIf (ob (o2 (oV 2) (oC (.int 0)) eqD)) (sRet (os (oCons (oC (.str "swing")) (oCons (oV 5) (oNil))) tupD)) (sNx)) (sRet (os (oCons (oC (.str "where")) (oCons (o2 (o2 (oV 4) (oC (.int 4200)) divD) (oV 2) modD) (oCons (o2 (os (oCons (os (oCons (oC (.str "flip")) (oCons (oV 5) (oNil))) tupD) (oCons (os (oCons (oC (.str "turn")) (oCons (oV 5) (oCons (oC (.int 4)) (oNil)))) tupD) (oNil))) lstD) (o2 (o2 (oV 4) (oC (.int 29400)) divD) (oC (.int 2)) modD) ixD) (oNil)))) tupD))))))))))
def g__law_row : List D → Option D := runB N__law_row 4 b__law_row
abbrev s__law_same : Stmt := top 18
abbrev N__law_same : List Str := ["found", "due", "k"]
def l1__law_same (G : List D → Option D) : Sf := sIf (oNot (ob (os (oCons (o2 (oV 0) (oV 2) ixD) (oCons (o2 (oV 1) (oV 2) ixD) (oNil))) G))) (sRet (oC (.bool false))) (sNx)
def b__law_same (G : List D → Option D) : Sf := sSeq (sIf (ob (o1 (oV 1) (isiD "tuple"))) (sSeq (sIf (oOr (oNot (ob (o1 (oV 0) (isiD "tuple")))) (ob (o2 (os (oCons (oV 0) (oNil)) lenD) (os (oCons (oV 1) (oNil)) lenD) neD))) (sRet (oC (.bool false))) (sNx)) (sSeq (sFor (oL (oCons (os (oCons (oV 1) (oNil)) lenD) (oNil)) rng1D) (gN 2) (l1__law_same G)) (sRet (oC (.bool true))))) (sNx)) (sSeq (sIf (ob (o1 (oV 1) (isiD "str"))) (sRet (oAndV (o1 (oV 0) (isiD "str")) (o2 (oV 0) (oV 1) eqD))) (sNx)) (sRet (oAndV (o1 (oV 0) (isiD "int")) (oAndV (o1 (o1 (oV 0) (isiD "bool")) notD) (o2 (oV 0) (oV 1) eqD)))))
def r__law_same : Nat → List D → Option D
  | 0 => runB N__law_same 2 (fun _ => none)
  | m + 1 => runB N__law_same 2 (b__law_same (r__law_same m))
def g__law_same : List D → Option D := r__law_same 8
abbrev s__law_often : Stmt := top 19
abbrev N__law_often : List Str := ["cells", "wires", "rows", "looks", "cell", "row", "seed"]
def l1__law_often : Sf := sSeq (sSet 5 (os (oCons (oV 4) (oCons (oV 1) (oCons (oV 3) (oCons (oC (.bool false)) (oNil))))) g__law_row)) (sSeq (sSet 6 (o2 (os (oCons (o2 (oV 4) (oC (.int 5)) divD) (oCons (oC (.int 86028121)) (oNil))) g__law_turn) (oC (.int 7)) divD)) (sSeq (sIf (oPeek 2 (oAnd (ob (o2 (o2 (oV 4) (oC (.int 5)) modD) (oC (.int 2)) ltD)) (oAnd (ob (o2 (oV 2) (os (oNil) lstD) neD)) (ob (o2 (o2 (o2 (oV 2) (o2 (oV 6) (os (oCons (oV 2) (oNil)) lenD) modD) ixD) (oC (.int 0)) ixD) (oC (.str "look")) neD))))) (sSeq (sSet 5 (oIxO 2 (o2 (oV 6) (oLenO 2) modD))) (sIf (oAnd (ob (o2 (o2 (oV 5) (oC (.int 0)) ixD) (os (oCons (oC (.str "sign")) (oCons (oC (.str "cross")) (oNil))) tupD) (inD false))) (ob (o2 (o2 (o2 (oV 6) (oC (.int 64)) divD) (oC (.int 2)) modD) (oC (.int 1)) eqD))) (sSet 5 (os (oCons (o2 (oV 5) (oC (.int 0)) ixD) (oCons (o2 (oV 5) (oC (.int 2)) ixD) (oCons (o2 (oV 5) (oC (.int 1)) ixD) (oNil)))) tupD)) (sNx))) (sNx)) (sSeq (sIf (oAnd (ob (o2 (o2 (oV 5) (oC (.int 0)) ixD) (oC (.str "look")) eqD)) (ob (o2 (oV 3) (oC (.int 3)) eqD))) (sSet 5 (os (oCons (oC (.str "swing")) (oCons (o2 (oV 5) (oC (.int 1)) ixD) (oNil))) tupD)) (sNx)) (sSeq (sSet 3 (o2 (oV 3) (os (oCons (o2 (o2 (oV 5) (oC (.int 0)) ixD) (oC (.str "look")) eqD) (oNil)) intD) addD)) (sApp 2 (oV 5))))))
def b__law_often : Sf := sSeq (sOwn 2 (oNil)) (sSeq (sSet 3 (oC (.int 0))) (sSeq (sFor (oI (oV 0) itsD) (gN 4) (l1__law_often)) (fun δ => (sRet (os (oCons (oV 1) (oCons (os (oCons (oV 2) (oNil)) tupleD) (oNil))) tupD)) (dFz 2 δ))))
def g__law_often : List D → Option D := runB N__law_often 2 b__law_often
abbrev s__law_kinds : Stmt := top 20
abbrev N__law_kinds : List Str := ["row"]
def p1__law_kinds (G : List D → Option D) : Dv → Option D := oComp (oI (oSl (oV 0) (oP (oC (.int 1))) (oNo)) itsD) [] bv1 (os (oCons (oV 0) (oCons (oC (.str "other")) (oNil))) tupD)
def b__law_kinds (G : List D → Option D) : Sf := sSeq (sIf (ob (o2 (o2 (oV 0) (oC (.int 0)) ixD) (oC (.str "where")) eqD)) (sRet (os (oCons (o2 (oV 0) (oC (.int 2)) ixD) (oNil)) G)) (sNx)) (sSeq (sIf (oOr (ob (o2 (o2 (oV 0) (oC (.int 0)) ixD) (oC (.str "turn")) eqD)) (ob (o2 (o2 (oV 0) (oC (.int 0)) ixD) (oC (.str "look")) eqD))) (sRet (os (oCons (os (oCons (o2 (oV 0) (oC (.int 1)) ixD) (oCons (oC (.str "hold")) (oNil))) tupD) (oNil)) lstD)) (sNx)) (sSeq (sIf (ob (o2 (o2 (oV 0) (oC (.int 0)) ixD) (oC (.str "flip")) eqD)) (sRet (os (oCons (os (oCons (o2 (oV 0) (oC (.int 1)) ixD) (oCons (oC (.str "flip")) (oNil))) tupD) (oNil)) lstD)) (sNx)) (sSeq (sIf (ob (o2 (o2 (oV 0) (oC (.int 0)) ixD) (oC (.str "tie")) eqD)) (sRet (os (oCons (os (oCons (o2 (oV 0) (oC (.int 1)) ixD) (oCons (oC (.str "hold")) (oNil))) tupD) (oCons (os (oCons (o2 (oV 0) (oC (.int 2)) ixD) (oCons (oC (.str "flip")) (oNil))) tupD) (oNil))) lstD)) (sNx)) (sSeq (sIf (ob (o2 (o2 (oV 0) (oC (.int 0)) ixD) (oC (.str "sign")) eqD)) (sRet (os (oCons (os (oCons (o2 (oV 0) (oC (.int 1)) ixD) (oCons (oC (.str "hold")) (oNil))) tupD) (oCons (os (oCons (o2 (oV 0) (oC (.int 2)) ixD) (oCons (oC (.str "hold")) (oNil))) tupD) (oNil))) lstD)) (sNx)) (sRet (p1__law_kinds G))))))
def r__law_kinds : Nat → List D → Option D
  | 0 => runB N__law_kinds 1 (fun _ => none)
  | m + 1 => runB N__law_kinds 1 (b__law_kinds (r__law_kinds m))
def g__law_kinds : List D → Option D := r__law_kinds 8
abbrev s__law_lets : Stmt := top 21
abbrev N__law_lets : List Str := ["one", "other", "mark", "words", "wire", "kind", "beside", "what"]
def l1__law_lets : Sf := sIf (oAnd (ob (o2 (oV 4) (oV 6) eqD)) (oOr (ob (o2 (oV 5) (oV 7) neD)) (ob (o2 (oV 5) (oC (.str "other")) eqD)))) (sRet (oC (.bool false))) (sNx)
def l2__law_lets : Sf := sFor (oI (os (oCons (oV 1) (oNil)) g__law_kinds) itsD) (gTu [gN 6, gN 7]) (l1__law_lets)
def b__law_lets : Sf := sSeq (sSet 3 (os (oCons (o2 (oV 0) (oC (.int 0)) ixD) (oCons (o2 (oV 1) (oC (.int 0)) ixD) (oNil))) lstD)) (sSeq (sIf (ob (o2 (oV 3) (os (oCons (oC (.str "look")) (oCons (oC (.str "look")) (oNil))) lstD) eqD)) (sRet (oC (.bool false))) (sNx)) (sSeq (sIf (oOr (oAnd (ob (o2 (oV 3) (os (oCons (oC (.str "look")) (oCons (oC (.str "where")) (oNil))) lstD) eqD)) (ob (o2 (o2 (oV 1) (oC (.int 1)) ixD) (oV 2) eqD))) (oAnd (ob (o2 (oV 3) (os (oCons (oC (.str "where")) (oCons (oC (.str "look")) (oNil))) lstD) eqD)) (ob (o2 (o2 (oV 0) (oC (.int 1)) ixD) (oV 2) eqD)))) (sRet (oC (.bool false))) (sNx)) (sSeq (sFor (oI (os (oCons (oV 0) (oNil)) g__law_kinds) itsD) (gTu [gN 4, gN 5]) (l2__law_lets)) (sRet (oC (.bool true))))))
def g__law_lets : List D → Option D := runB N__law_lets 3 b__law_lets
abbrev s__law_marks_ahead : Stmt := top 22
abbrev N__law_marks_ahead : List Str := ["rows", "place"]
def p1__law_marks_ahead : Dv → Option D := oCompI (oI (oSl (oV 0) (oNo) (oP (oV 1))) itsD) [] bv1 (ob (o2 (o2 (oV 0) (oC (.int 0)) ixD) (oC (.str "look")) eqD)) (oV 0)
def b__law_marks_ahead : Sf := sRet (os (oCons (p1__law_marks_ahead) (oNil)) lenD)
def g__law_marks_ahead : List D → Option D := runB N__law_marks_ahead 2 b__law_marks_ahead
abbrev s__law_clear : Stmt := top 23
abbrev N__law_clear : List Str := ["rows", "p", "q", "place"]
def l1__law_clear : Sf := sIf (oNot (ob (os (oCons (o2 (oV 0) (oV 1) ixD) (oCons (o2 (oV 0) (oV 3) ixD) (oCons (os (oCons (oV 0) (oCons (oV 3) (oNil))) g__law_marks_ahead) (oNil)))) g__law_lets))) (sRet (oC (.bool false))) (sNx)
def b__law_clear : Sf := sSeq (sFor (oL (oCons (o2 (oV 1) (oC (.int 1)) addD) (oCons (oV 2) (oNil))) rng2D) (gN 3) (l1__law_clear)) (sRet (oC (.bool true)))
def g__law_clear : List D → Option D := runB N__law_clear 3 b__law_clear
abbrev s__law_undo : Stmt := top 24
abbrev N__law_undo : List Str := ["one", "other"]
def b__law_undo : Sf := sSeq (sIf (ob (o2 (o2 (oV 0) (oC (.int 0)) ixD) (os (oCons (oC (.str "turn")) (oCons (oC (.str "look")) (oNil))) tupD) (inD false))) (sRet (oC (.bool false))) (sNx)) (sSeq (sIf (oAnd (ob (o2 (o2 (oV 0) (oC (.int 0)) ixD) (os (oCons (oC (.str "sign")) (oCons (oC (.str "cross")) (oNil))) tupD) (inD false))) (ob (o2 (o2 (oV 0) (oC (.int 0)) ixD) (o2 (oV 1) (oC (.int 0)) ixD) eqD))) (sRet (o2 (o1 (oSl (oV 0) (oP (oC (.int 1))) (oNo)) sortD) (o1 (oSl (oV 1) (oP (oC (.int 1))) (oNo)) sortD) eqD)) (sNx)) (sRet (o2 (oV 0) (oV 1) eqD)))
def g__law_undo : List D → Option D := runB N__law_undo 2 b__law_undo
abbrev s__law_swung : Stmt := top 25
abbrev N__law_swung : List Str := ["row", "wire"]
def p1__law_swung (G : List D → Option D) : Dv → Option D := oComp (oI (os (oCons (o2 (oV 0) (oC (.int 2)) ixD) (oCons (oV 1) (oNil))) G) itsD) [(0, "row")] bv1 (os (oCons (oC (.str "where")) (oCons (o2 (oV 1) (oC (.int 1)) ixD) (oCons (oV 0) (oNil)))) tupD)
def p2__law_swung (G : List D → Option D) : Dv → Option D := oCompI (oI (oSl (oV 0) (oP (oC (.int 1))) (oNo)) itsD) [(1, "wire")] bv1 (ob (o2 (oV 0) (oV 1) neD)) (oV 0)
def b__law_swung (G : List D → Option D) : Sf := sSeq (sIf (ob (o2 (o2 (oV 0) (oC (.int 0)) ixD) (oC (.str "where")) eqD)) (sRet (p1__law_swung G)) (sNx)) (sSeq (sIf (ob (o2 (oV 0) (os (oCons (oC (.str "flip")) (oCons (oV 1) (oNil))) tupD) eqD)) (sRet (os (oCons (os (oCons (oC (.str "turn")) (oCons (oV 1) (oCons (oC (.int 4)) (oNil)))) tupD) (oNil)) lstD)) (sNx)) (sSeq (sIf (ob (o2 (oV 0) (os (oCons (oC (.str "turn")) (oCons (oV 1) (oCons (oC (.int 4)) (oNil)))) tupD) eqD)) (sRet (os (oCons (os (oCons (oC (.str "flip")) (oCons (oV 1) (oNil))) tupD) (oNil)) lstD)) (sNx)) (sSeq (sIf (oAnd (ob (o2 (o2 (oV 0) (oC (.int 0)) ixD) (oC (.str "tie")) eqD)) (ob (o2 (o2 (oV 0) (oC (.int 2)) ixD) (oV 1) eqD))) (sRet (os (oCons (os (oCons (oC (.str "sign")) (oCons (o2 (oV 0) (oC (.int 1)) ixD) (oCons (oV 1) (oNil)))) tupD) (oNil)) lstD)) (sNx)) (sSeq (sIf (oAnd (ob (o2 (o2 (oV 0) (oC (.int 0)) ixD) (oC (.str "sign")) eqD)) (ob (o2 (oV 1) (oSl (oV 0) (oP (oC (.int 1))) (oNo)) (inD false)))) (sRet (os (oCons (os (oCons (oC (.str "tie")) (oCons (o2 (p2__law_swung G) (oC (.int 0)) ixD) (oCons (oV 1) (oNil)))) tupD) (oNil)) lstD)) (sNx)) (sRet (os (oNil) lstD))))))
def r__law_swung : Nat → List D → Option D
  | 0 => runB N__law_swung 2 (fun _ => none)
  | m + 1 => runB N__law_swung 2 (b__law_swung (r__law_swung m))
def g__law_swung : List D → Option D := r__law_swung 8
abbrev s__law_fit : Stmt := top 26
abbrev N__law_fit : List Str := ["rows", "step", "p", "q", "t", "place"]
def p1__law_fit : Dv → Option D := oComp (oI (os (oCons (o2 (oV 0) (oV 5) ixD) (oNil)) g__law_kinds) itsD) [] bv1 (o2 (oV 0) (oC (.int 0)) ixD)
def l1__law_fit : Sf := sIf (oAnd (ob (o2 (oV 5) (oV 3) neD)) (ob (o2 (o2 (o2 (oV 0) (oV 2) ixD) (oC (.int 1)) ixD) (p1__law_fit) (inD false)))) (sRet (oC (.bool false))) (sNx)
def b__law_fit : Sf := sSeq (sAsg (oSl (oV 1) (oP (oC (.int 1))) (oP (oC (.int 3)))) (gTu [gN 2, gN 3])) (sSeq (sIf (ob (o2 (o2 (oV 1) (oC (.int 0)) ixD) (oC (.str "gone")) eqD)) (sRet (oAndV (os (oCons (o2 (oV 0) (oV 2) ixD) (oCons (o2 (oV 0) (oV 3) ixD) (oNil))) g__law_undo) (os (oCons (oV 0) (oCons (oV 2) (oCons (oV 3) (oNil)))) g__law_clear))) (sNx)) (sSeq (sIf (ob (o2 (o2 (oV 1) (oC (.int 0)) ixD) (oC (.str "joined")) eqD)) (sRet (oAndV (o2 (o2 (o2 (oV 0) (oV 2) ixD) (oC (.int 0)) ixD) (oC (.str "turn")) eqD) (oAndV (o2 (oSl (o2 (oV 0) (oV 3) ixD) (oNo) (oP (oC (.int 2)))) (oSl (o2 (oV 0) (oV 2) ixD) (oNo) (oP (oC (.int 2)))) eqD) (os (oCons (oV 0) (oCons (oV 2) (oCons (oV 3) (oNil)))) g__law_clear)))) (sNx)) (sSeq (sSet 4 (o2 (oV 1) (oC (.int 3)) ixD)) (sSeq (sIf (oOr (ob (o2 (o2 (o2 (oV 0) (oV 2) ixD) (oC (.int 0)) ixD) (oC (.str "swing")) neD)) (oOr (ob (o2 (o2 (oV 0) (oV 2) ixD) (o2 (oV 0) (oV 4) ixD) neD)) (ob (o2 (os (oCons (o2 (oV 0) (oV 3) ixD) (oCons (o2 (o2 (oV 0) (oV 2) ixD) (oC (.int 1)) ixD) (oNil))) g__law_swung) (os (oNil) lstD) eqD)))) (sRet (oC (.bool false))) (sNx)) (sSeq (sFor (oL (oCons (o2 (oV 2) (oC (.int 1)) addD) (oCons (oV 4) (oNil))) rng2D) (gN 5) (l1__law_fit)) (sRet (oC (.bool true))))))))
def g__law_fit : List D → Option D := runB N__law_fit 2 b__law_fit
abbrev s__law_steps : Stmt := top 27
abbrev N__law_steps : List Str := ["rows", "found", "many", "p", "q"]
def p1__law_steps : Dv → Option D := oComp (oL (oCons (o2 (oV 4) (oC (.int 1)) addD) (oCons (oV 2) (oNil))) rng2D) [(3, "p"), (4, "q")] bv1 (os (oCons (oC (.str "swung")) (oCons (oV 1) (oCons (oV 2) (oCons (oV 0) (oNil))))) tupD)
def p2__law_steps : Dv → Option D := oCompI (oI (oV 1) itsD) [(0, "rows")] bv1 (ob (os (oCons (oV 1) (oCons (oV 0) (oNil))) g__law_fit)) (oV 0)
def l1__law_steps : Sf := sSeq (sApp 1 (os (oCons (oC (.str "gone")) (oCons (oV 3) (oCons (oV 4) (oNil)))) tupD)) (sSeq (sApp 1 (os (oCons (oC (.str "joined")) (oCons (oV 3) (oCons (oV 4) (oNil)))) tupD)) (sIf (ob (o2 (o2 (o2 (oV 0) (oV 3) ixD) (oC (.int 0)) ixD) (oC (.str "swing")) eqD)) (sExtL 1 (p1__law_steps)) (sNx)))
def l2__law_steps : Sf := sFor (oL (oCons (o2 (oV 3) (oC (.int 1)) addD) (oCons (oV 2) (oNil))) rng2D) (gN 4) (l1__law_steps)
def b__law_steps : Sf := sSeq (sOwn 1 (oNil)) (sSeq (sSet 2 (os (oCons (oV 0) (oNil)) lenD)) (sSeq (sFor (oL (oCons (oV 2) (oNil)) rng1D) (gN 3) (l2__law_steps)) (fun δ => (sRet (o1 (p2__law_steps) sortD)) (dFz 1 δ))))
def g__law_steps : List D → Option D := runB N__law_steps 1 b__law_steps
abbrev s__law_far : Stmt := top 28
abbrev N__law_far : List Str := ["cell", "row", "rows", "at"]
def b__law_far : Sf := sSeq (sSet 1 (o2 (os (oCons (os (oCons (oC (.str "swing")) (oCons (oC (.int 0)) (oNil))) tupD) (oCons (os (oCons (oC (.str "flip")) (oCons (oC (.int 0)) (oNil))) tupD) (oCons (os (oCons (oC (.str "tie")) (oCons (oC (.int 2)) (oCons (oC (.int 0)) (oNil)))) tupD) (oCons (os (oCons (oC (.str "sign")) (oCons (oC (.int 0)) (oCons (oC (.int 2)) (oNil)))) tupD) (oCons (os (oCons (oC (.str "turn")) (oCons (oC (.int 0)) (oCons (oC (.int 3)) (oNil)))) tupD) (oNil)))))) lstD) (o2 (oV 0) (oC (.int 5)) modD) ixD)) (sSeq (sOwnE 2 (oLi (o2 (os (oCons (os (oCons (oC (.str "swing")) (oCons (oC (.int 1)) (oNil))) tupD) (oNil)) lstD) (o2 (o2 (oV 0) (oC (.int 5)) divD) (oC (.int 40)) modD) mulL))) (sSeq (sSet 3 (o2 (o2 (oV 0) (oC (.int 200)) divD) (o2 (oLenO 2) (oC (.int 1)) addD) modD)) (sSeq (sIf (ob (o2 (o2 (o2 (oV 0) (oC (.int 8000)) divD) (oC (.int 3)) modD) (oC (.int 1)) eqD)) (sIns 2 (oV 3) (o2 (os (oCons (os (oCons (oC (.str "turn")) (oCons (oC (.int 0)) (oCons (oC (.int 4)) (oNil)))) tupD) (oCons (os (oCons (oC (.str "look")) (oCons (oC (.int 2)) (oNil))) tupD) (oCons (os (oCons (oC (.str "flip")) (oCons (oC (.int 0)) (oNil))) tupD) (oCons (os (oCons (oC (.str "cross")) (oCons (oC (.int 0)) (oCons (oC (.int 2)) (oNil)))) tupD) (oNil))))) lstD) (o2 (o2 (oV 0) (oC (.int 24000)) divD) (oC (.int 4)) modD) ixD)) (sNx)) (fun δ => (sRet (os (oCons (oC (.int 3)) (oCons (o2 (o2 (os (oCons (oV 1) (oNil)) tupD) (os (oCons (oV 2) (oNil)) tupleD) addD) (os (oCons (oV 1) (oNil)) tupD) addD) (oNil))) tupD)) (dFz 2 δ)))))
def g__law_far : List D → Option D := runB N__law_far 1 b__law_far
abbrev s_law : Stmt := top 29
abbrev N_law : List Str := ["script", "circuit", "due", "turn", "found"]
def l1_law : Sf := sSeq (sOwnE 4 (oLi (os (oCons (oV 1) (oNil)) g_slides_of))) (sSeq (sIf (oPeek 4 (oOr (oNot (ob (o1 (oV 4) (isiD "list")))) (oNot (ob (os (oCons (os (oCons (oV 4) (oNil)) tupleD) (oCons (oV 2) (oNil))) g__law_same))))) (sRet (oC (.bool false))) (sNx)) (sApp 4 (os (oCons (oC (.str "gone")) (oCons (oC (.int 0)) (oCons (oC (.int 0)) (oNil)))) tupD)))
def b_law : Sf := sSeq (sSet 1 (os (oCons (oSl (oV 0) (oP (oC (.int 2))) (oP (oC (.int 16)))) (oCons (o2 (oC (.int 1)) (o2 (os (oCons (oV 0) (oCons (oC (.int 0)) (oNil))) g__law_cell) (oC (.int 4)) modD) addD) (oNil))) g__law_often)) (sSeq (sIf (ob (o2 (o2 (o2 (os (oCons (oV 0) (oCons (oC (.int 0)) (oNil))) g__law_cell) (oC (.int 4)) divD) (oC (.int 8)) modD) (oC (.int 1)) eqD)) (sSet 1 (os (oCons (o2 (os (oCons (o2 (o2 (os (oCons (oV 0) (oCons (oC (.int 0)) (oNil))) g__law_cell) (oC (.int 32)) divD) (o2 (oC (.int 7)) (os (oCons (oV 0) (oCons (oC (.int 1)) (oNil))) g__law_cell) mulI) addD) (oCons (oC (.int 86028121)) (oNil))) g__law_turn) (oC (.int 7)) divD) (oNil)) g__law_far)) (sNx)) (sSeq (sSet 2 (os (oCons (os (oCons (o2 (oV 1) (oC (.int 1)) ixD) (oNil)) g__law_steps) (oNil)) tupleD)) (sSeq (sFor (oL (oCons (oC (.int 2)) (oNil)) rng1D) (gN 3) (l1_law)) (sRet (oC (.bool true))))))
def g_law : List D → Option D := runB N_law 1 b_law

open MA (Row)
/-- any row -/
inductive Rw where
  | pl (r : Row) | look (j : Nat) | wflip (m j : Nat) | wsign (m j : Nat)
def rowD : Row → D
  | .swing j => .tuple [.str "swing", .int j]
  | .turn j e => .tuple [.str "turn", .int j, .int e]
  | .flip j => .tuple [.str "flip", .int j]
  | .tie i j => .tuple [.str "tie", .int i, .int j]
  | .sign i j => .tuple [.str "sign", .int i, .int j]
  | .cross i j => .tuple [.str "cross", .int i, .int j]
def rwD : Rw → D
  | .pl r => rowD r
  | .look j => .tuple [.str "look", .int j]
  | .wflip m j => .tuple [.str "where", .int m, .tuple [.str "flip", .int j]]
  | .wsign m j => .tuple [.str "where", .int m, .tuple [.str "turn", .int j, .int 4]]
/-- a row of w wires behind l looks -/
def Rw.ok (w l : Nat) : Rw → Prop
  | .pl r => r.ok w
  | .look j => j < w ∧ l < 6
  | .wflip m j => m < l ∧ j < w
  | .wsign m j => m < l ∧ j < w
def Rw.isLook : Rw → Bool
  | .look _ => true
  | _ => false
def Rw.isPl : Rw → Bool
  | .pl _ => true
  | _ => false
/-! ### the words of rows -/
def okS (a : Str) : Bool := shp (.str a)
theorem eqS {a b : Str} (ha : okS a = true) (hb : okS b = true) : eqD (.str a) (.str b) = some (.bool (a == b)) := if_pos ⟨ha, hb⟩
theorem neS {a b : Str} (ha : okS a = true) (hb : okS b = true) : neD (.str a) (.str b) = some (.bool (!(a == b))) := if_pos ⟨ha, hb⟩
theorem ok_w_swing : okS "swing" = true := by decide +kernel
theorem ok_w_turn : okS "turn" = true := by decide +kernel
theorem ok_w_flip : okS "flip" = true := by decide +kernel
theorem ok_w_tie : okS "tie" = true := by decide +kernel
theorem ok_w_sign : okS "sign" = true := by decide +kernel
theorem ok_w_cross : okS "cross" = true := by decide +kernel
theorem ok_w_look : okS "look" = true := by decide +kernel
theorem ok_w_where : okS "where" = true := by decide +kernel
@[simp] theorem kw_swing_swing : eqD (.str "swing") (.str "swing") = some (.bool true) := (eqS ok_w_swing ok_w_swing).trans (congrArg (fun z => some (PyData.bool z)) (show (("swing" : Str) == ("swing" : Str)) = true by decide +kernel))
@[simp] theorem kw_swing_turn : eqD (.str "swing") (.str "turn") = some (.bool false) := (eqS ok_w_swing ok_w_turn).trans (congrArg (fun z => some (PyData.bool z)) (show (("swing" : Str) == ("turn" : Str)) = false by decide +kernel))
@[simp] theorem kw_swing_flip : eqD (.str "swing") (.str "flip") = some (.bool false) := (eqS ok_w_swing ok_w_flip).trans (congrArg (fun z => some (PyData.bool z)) (show (("swing" : Str) == ("flip" : Str)) = false by decide +kernel))
@[simp] theorem kw_swing_tie : eqD (.str "swing") (.str "tie") = some (.bool false) := (eqS ok_w_swing ok_w_tie).trans (congrArg (fun z => some (PyData.bool z)) (show (("swing" : Str) == ("tie" : Str)) = false by decide +kernel))
@[simp] theorem kw_swing_sign : eqD (.str "swing") (.str "sign") = some (.bool false) := (eqS ok_w_swing ok_w_sign).trans (congrArg (fun z => some (PyData.bool z)) (show (("swing" : Str) == ("sign" : Str)) = false by decide +kernel))
@[simp] theorem kw_swing_look : eqD (.str "swing") (.str "look") = some (.bool false) := (eqS ok_w_swing ok_w_look).trans (congrArg (fun z => some (PyData.bool z)) (show (("swing" : Str) == ("look" : Str)) = false by decide +kernel))
@[simp] theorem kw_swing_where : eqD (.str "swing") (.str "where") = some (.bool false) := (eqS ok_w_swing ok_w_where).trans (congrArg (fun z => some (PyData.bool z)) (show (("swing" : Str) == ("where" : Str)) = false by decide +kernel))
@[simp] theorem kw_turn_swing : eqD (.str "turn") (.str "swing") = some (.bool false) := (eqS ok_w_turn ok_w_swing).trans (congrArg (fun z => some (PyData.bool z)) (show (("turn" : Str) == ("swing" : Str)) = false by decide +kernel))
@[simp] theorem kw_turn_turn : eqD (.str "turn") (.str "turn") = some (.bool true) := (eqS ok_w_turn ok_w_turn).trans (congrArg (fun z => some (PyData.bool z)) (show (("turn" : Str) == ("turn" : Str)) = true by decide +kernel))
@[simp] theorem kw_turn_flip : eqD (.str "turn") (.str "flip") = some (.bool false) := (eqS ok_w_turn ok_w_flip).trans (congrArg (fun z => some (PyData.bool z)) (show (("turn" : Str) == ("flip" : Str)) = false by decide +kernel))
@[simp] theorem kw_turn_tie : eqD (.str "turn") (.str "tie") = some (.bool false) := (eqS ok_w_turn ok_w_tie).trans (congrArg (fun z => some (PyData.bool z)) (show (("turn" : Str) == ("tie" : Str)) = false by decide +kernel))
@[simp] theorem kw_turn_sign : eqD (.str "turn") (.str "sign") = some (.bool false) := (eqS ok_w_turn ok_w_sign).trans (congrArg (fun z => some (PyData.bool z)) (show (("turn" : Str) == ("sign" : Str)) = false by decide +kernel))
@[simp] theorem kw_turn_look : eqD (.str "turn") (.str "look") = some (.bool false) := (eqS ok_w_turn ok_w_look).trans (congrArg (fun z => some (PyData.bool z)) (show (("turn" : Str) == ("look" : Str)) = false by decide +kernel))
@[simp] theorem kw_turn_where : eqD (.str "turn") (.str "where") = some (.bool false) := (eqS ok_w_turn ok_w_where).trans (congrArg (fun z => some (PyData.bool z)) (show (("turn" : Str) == ("where" : Str)) = false by decide +kernel))
@[simp] theorem kw_flip_swing : eqD (.str "flip") (.str "swing") = some (.bool false) := (eqS ok_w_flip ok_w_swing).trans (congrArg (fun z => some (PyData.bool z)) (show (("flip" : Str) == ("swing" : Str)) = false by decide +kernel))
@[simp] theorem kw_flip_turn : eqD (.str "flip") (.str "turn") = some (.bool false) := (eqS ok_w_flip ok_w_turn).trans (congrArg (fun z => some (PyData.bool z)) (show (("flip" : Str) == ("turn" : Str)) = false by decide +kernel))
@[simp] theorem kw_flip_flip : eqD (.str "flip") (.str "flip") = some (.bool true) := (eqS ok_w_flip ok_w_flip).trans (congrArg (fun z => some (PyData.bool z)) (show (("flip" : Str) == ("flip" : Str)) = true by decide +kernel))
@[simp] theorem kw_flip_tie : eqD (.str "flip") (.str "tie") = some (.bool false) := (eqS ok_w_flip ok_w_tie).trans (congrArg (fun z => some (PyData.bool z)) (show (("flip" : Str) == ("tie" : Str)) = false by decide +kernel))
@[simp] theorem kw_flip_sign : eqD (.str "flip") (.str "sign") = some (.bool false) := (eqS ok_w_flip ok_w_sign).trans (congrArg (fun z => some (PyData.bool z)) (show (("flip" : Str) == ("sign" : Str)) = false by decide +kernel))
@[simp] theorem kw_flip_look : eqD (.str "flip") (.str "look") = some (.bool false) := (eqS ok_w_flip ok_w_look).trans (congrArg (fun z => some (PyData.bool z)) (show (("flip" : Str) == ("look" : Str)) = false by decide +kernel))
@[simp] theorem kw_flip_where : eqD (.str "flip") (.str "where") = some (.bool false) := (eqS ok_w_flip ok_w_where).trans (congrArg (fun z => some (PyData.bool z)) (show (("flip" : Str) == ("where" : Str)) = false by decide +kernel))
@[simp] theorem kw_tie_swing : eqD (.str "tie") (.str "swing") = some (.bool false) := (eqS ok_w_tie ok_w_swing).trans (congrArg (fun z => some (PyData.bool z)) (show (("tie" : Str) == ("swing" : Str)) = false by decide +kernel))
@[simp] theorem kw_tie_turn : eqD (.str "tie") (.str "turn") = some (.bool false) := (eqS ok_w_tie ok_w_turn).trans (congrArg (fun z => some (PyData.bool z)) (show (("tie" : Str) == ("turn" : Str)) = false by decide +kernel))
@[simp] theorem kw_tie_flip : eqD (.str "tie") (.str "flip") = some (.bool false) := (eqS ok_w_tie ok_w_flip).trans (congrArg (fun z => some (PyData.bool z)) (show (("tie" : Str) == ("flip" : Str)) = false by decide +kernel))
@[simp] theorem kw_tie_tie : eqD (.str "tie") (.str "tie") = some (.bool true) := (eqS ok_w_tie ok_w_tie).trans (congrArg (fun z => some (PyData.bool z)) (show (("tie" : Str) == ("tie" : Str)) = true by decide +kernel))
@[simp] theorem kw_tie_sign : eqD (.str "tie") (.str "sign") = some (.bool false) := (eqS ok_w_tie ok_w_sign).trans (congrArg (fun z => some (PyData.bool z)) (show (("tie" : Str) == ("sign" : Str)) = false by decide +kernel))
@[simp] theorem kw_tie_look : eqD (.str "tie") (.str "look") = some (.bool false) := (eqS ok_w_tie ok_w_look).trans (congrArg (fun z => some (PyData.bool z)) (show (("tie" : Str) == ("look" : Str)) = false by decide +kernel))
@[simp] theorem kw_tie_where : eqD (.str "tie") (.str "where") = some (.bool false) := (eqS ok_w_tie ok_w_where).trans (congrArg (fun z => some (PyData.bool z)) (show (("tie" : Str) == ("where" : Str)) = false by decide +kernel))
@[simp] theorem kw_sign_swing : eqD (.str "sign") (.str "swing") = some (.bool false) := (eqS ok_w_sign ok_w_swing).trans (congrArg (fun z => some (PyData.bool z)) (show (("sign" : Str) == ("swing" : Str)) = false by decide +kernel))
@[simp] theorem kw_sign_turn : eqD (.str "sign") (.str "turn") = some (.bool false) := (eqS ok_w_sign ok_w_turn).trans (congrArg (fun z => some (PyData.bool z)) (show (("sign" : Str) == ("turn" : Str)) = false by decide +kernel))
@[simp] theorem kw_sign_flip : eqD (.str "sign") (.str "flip") = some (.bool false) := (eqS ok_w_sign ok_w_flip).trans (congrArg (fun z => some (PyData.bool z)) (show (("sign" : Str) == ("flip" : Str)) = false by decide +kernel))
@[simp] theorem kw_sign_tie : eqD (.str "sign") (.str "tie") = some (.bool false) := (eqS ok_w_sign ok_w_tie).trans (congrArg (fun z => some (PyData.bool z)) (show (("sign" : Str) == ("tie" : Str)) = false by decide +kernel))
@[simp] theorem kw_sign_sign : eqD (.str "sign") (.str "sign") = some (.bool true) := (eqS ok_w_sign ok_w_sign).trans (congrArg (fun z => some (PyData.bool z)) (show (("sign" : Str) == ("sign" : Str)) = true by decide +kernel))
@[simp] theorem kw_sign_look : eqD (.str "sign") (.str "look") = some (.bool false) := (eqS ok_w_sign ok_w_look).trans (congrArg (fun z => some (PyData.bool z)) (show (("sign" : Str) == ("look" : Str)) = false by decide +kernel))
@[simp] theorem kw_sign_where : eqD (.str "sign") (.str "where") = some (.bool false) := (eqS ok_w_sign ok_w_where).trans (congrArg (fun z => some (PyData.bool z)) (show (("sign" : Str) == ("where" : Str)) = false by decide +kernel))
@[simp] theorem kw_cross_swing : eqD (.str "cross") (.str "swing") = some (.bool false) := (eqS ok_w_cross ok_w_swing).trans (congrArg (fun z => some (PyData.bool z)) (show (("cross" : Str) == ("swing" : Str)) = false by decide +kernel))
@[simp] theorem kw_cross_turn : eqD (.str "cross") (.str "turn") = some (.bool false) := (eqS ok_w_cross ok_w_turn).trans (congrArg (fun z => some (PyData.bool z)) (show (("cross" : Str) == ("turn" : Str)) = false by decide +kernel))
@[simp] theorem kw_cross_flip : eqD (.str "cross") (.str "flip") = some (.bool false) := (eqS ok_w_cross ok_w_flip).trans (congrArg (fun z => some (PyData.bool z)) (show (("cross" : Str) == ("flip" : Str)) = false by decide +kernel))
@[simp] theorem kw_cross_tie : eqD (.str "cross") (.str "tie") = some (.bool false) := (eqS ok_w_cross ok_w_tie).trans (congrArg (fun z => some (PyData.bool z)) (show (("cross" : Str) == ("tie" : Str)) = false by decide +kernel))
@[simp] theorem kw_cross_sign : eqD (.str "cross") (.str "sign") = some (.bool false) := (eqS ok_w_cross ok_w_sign).trans (congrArg (fun z => some (PyData.bool z)) (show (("cross" : Str) == ("sign" : Str)) = false by decide +kernel))
@[simp] theorem kw_cross_look : eqD (.str "cross") (.str "look") = some (.bool false) := (eqS ok_w_cross ok_w_look).trans (congrArg (fun z => some (PyData.bool z)) (show (("cross" : Str) == ("look" : Str)) = false by decide +kernel))
@[simp] theorem kw_cross_where : eqD (.str "cross") (.str "where") = some (.bool false) := (eqS ok_w_cross ok_w_where).trans (congrArg (fun z => some (PyData.bool z)) (show (("cross" : Str) == ("where" : Str)) = false by decide +kernel))
@[simp] theorem kw_look_swing : eqD (.str "look") (.str "swing") = some (.bool false) := (eqS ok_w_look ok_w_swing).trans (congrArg (fun z => some (PyData.bool z)) (show (("look" : Str) == ("swing" : Str)) = false by decide +kernel))
@[simp] theorem kw_look_turn : eqD (.str "look") (.str "turn") = some (.bool false) := (eqS ok_w_look ok_w_turn).trans (congrArg (fun z => some (PyData.bool z)) (show (("look" : Str) == ("turn" : Str)) = false by decide +kernel))
@[simp] theorem kw_look_flip : eqD (.str "look") (.str "flip") = some (.bool false) := (eqS ok_w_look ok_w_flip).trans (congrArg (fun z => some (PyData.bool z)) (show (("look" : Str) == ("flip" : Str)) = false by decide +kernel))
@[simp] theorem kw_look_tie : eqD (.str "look") (.str "tie") = some (.bool false) := (eqS ok_w_look ok_w_tie).trans (congrArg (fun z => some (PyData.bool z)) (show (("look" : Str) == ("tie" : Str)) = false by decide +kernel))
@[simp] theorem kw_look_sign : eqD (.str "look") (.str "sign") = some (.bool false) := (eqS ok_w_look ok_w_sign).trans (congrArg (fun z => some (PyData.bool z)) (show (("look" : Str) == ("sign" : Str)) = false by decide +kernel))
@[simp] theorem kw_look_look : eqD (.str "look") (.str "look") = some (.bool true) := (eqS ok_w_look ok_w_look).trans (congrArg (fun z => some (PyData.bool z)) (show (("look" : Str) == ("look" : Str)) = true by decide +kernel))
@[simp] theorem kw_look_where : eqD (.str "look") (.str "where") = some (.bool false) := (eqS ok_w_look ok_w_where).trans (congrArg (fun z => some (PyData.bool z)) (show (("look" : Str) == ("where" : Str)) = false by decide +kernel))
@[simp] theorem kw_where_swing : eqD (.str "where") (.str "swing") = some (.bool false) := (eqS ok_w_where ok_w_swing).trans (congrArg (fun z => some (PyData.bool z)) (show (("where" : Str) == ("swing" : Str)) = false by decide +kernel))
@[simp] theorem kw_where_turn : eqD (.str "where") (.str "turn") = some (.bool false) := (eqS ok_w_where ok_w_turn).trans (congrArg (fun z => some (PyData.bool z)) (show (("where" : Str) == ("turn" : Str)) = false by decide +kernel))
@[simp] theorem kw_where_look : eqD (.str "where") (.str "look") = some (.bool false) := (eqS ok_w_where ok_w_look).trans (congrArg (fun z => some (PyData.bool z)) (show (("where" : Str) == ("look" : Str)) = false by decide +kernel))
@[simp] theorem kw_where_where : eqD (.str "where") (.str "where") = some (.bool true) := (eqS ok_w_where ok_w_where).trans (congrArg (fun z => some (PyData.bool z)) (show (("where" : Str) == ("where" : Str)) = true by decide +kernel))
@[simp] theorem inp_swing : inD false (.str "swing") (.tuple [.str "swing", .str "turn", .str "flip", .str "tie", .str "sign", .str "cross"]) = some (.bool true) := by rfl
@[simp] theorem int_swing : inD false (.str "swing") (.tuple [.str "tie", .str "sign", .str "cross"]) = some (.bool false) := by rfl
@[simp] theorem inp_turn : inD false (.str "turn") (.tuple [.str "swing", .str "turn", .str "flip", .str "tie", .str "sign", .str "cross"]) = some (.bool true) := by rfl
@[simp] theorem int_turn : inD false (.str "turn") (.tuple [.str "tie", .str "sign", .str "cross"]) = some (.bool false) := by rfl
@[simp] theorem inp_flip : inD false (.str "flip") (.tuple [.str "swing", .str "turn", .str "flip", .str "tie", .str "sign", .str "cross"]) = some (.bool true) := by rfl
@[simp] theorem int_flip : inD false (.str "flip") (.tuple [.str "tie", .str "sign", .str "cross"]) = some (.bool false) := by rfl
@[simp] theorem inp_tie : inD false (.str "tie") (.tuple [.str "swing", .str "turn", .str "flip", .str "tie", .str "sign", .str "cross"]) = some (.bool true) := by rfl
@[simp] theorem int_tie : inD false (.str "tie") (.tuple [.str "tie", .str "sign", .str "cross"]) = some (.bool true) := by rfl
@[simp] theorem inp_sign : inD false (.str "sign") (.tuple [.str "swing", .str "turn", .str "flip", .str "tie", .str "sign", .str "cross"]) = some (.bool true) := by rfl
@[simp] theorem int_sign : inD false (.str "sign") (.tuple [.str "tie", .str "sign", .str "cross"]) = some (.bool true) := by rfl
@[simp] theorem inp_cross : inD false (.str "cross") (.tuple [.str "swing", .str "turn", .str "flip", .str "tie", .str "sign", .str "cross"]) = some (.bool true) := by rfl
@[simp] theorem int_cross : inD false (.str "cross") (.tuple [.str "tie", .str "sign", .str "cross"]) = some (.bool true) := by rfl
@[simp] theorem inp_look : inD false (.str "look") (.tuple [.str "swing", .str "turn", .str "flip", .str "tie", .str "sign", .str "cross"]) = some (.bool false) := by rfl
@[simp] theorem int_look : inD false (.str "look") (.tuple [.str "tie", .str "sign", .str "cross"]) = some (.bool false) := by rfl
@[simp] theorem inp_where : inD false (.str "where") (.tuple [.str "swing", .str "turn", .str "flip", .str "tie", .str "sign", .str "cross"]) = some (.bool false) := by rfl
@[simp] theorem int_where : inD false (.str "where") (.tuple [.str "tie", .str "sign", .str "cross"]) = some (.bool false) := by rfl
theorem lturn_eq (c : Int) : ∃ T : Nat, g__law_turn [.int c, .int 2147483647] = some (.int T) := by
  have h0 : 0 ≤ c % 1000003 := Int.emod_nonneg _ (by decide)
  have h1 : c % 1000003 < 1000003 := Int.emod_lt_of_pos _ (by decide)
  have m : IntMulOk (c % 1000003 + 11) (c % 1000003 + 48271) := .of_left (Nat.le_trans (MA.bits_le (m := 21) (by omega)) (by decide))
  have h2 : 0 ≤ (c % 1000003 + 11) * (c % 1000003 + 48271) % 2147483647 := Int.emod_nonneg _ (by decide)
  refine ⟨((c % 1000003 + 11) * (c % 1000003 + 48271) % 2147483647).toNat, ?_⟩
  rw [Int.toNat_of_nonneg h2]
  simp [-sSeq, -sIf, sSeq_k, sIf_k, g__law_turn, runB, b__law_turn, startD, m]
theorem pick5 (m : Int) (h1 : 7 < m) (h2 : m < 13) : ∃ s : Str, atI [PyData.str "tie", .str "sign", .str "cross", .str "tie", .str "sign"] (m - 8) = some (.str s) ∧ (s = "tie" ∨ s = "sign" ∨ s = "cross") := by
  have : m = 8 ∨ m = 9 ∨ m = 10 ∨ m = 11 ∨ m = 12 := by omega
  rcases this with h | h | h | h | h <;> subst h
  · exact ⟨"tie", at0 _ _, .inl rfl⟩
  · exact ⟨"sign", at1 _ _ _, .inr (.inl rfl)⟩
  · exact ⟨"cross", at2 _ _ _ _, .inr (.inr rfl)⟩
  · exact ⟨"tie", at3 _ _ _ _ _, .inl rfl⟩
  · exact ⟨"sign", at4 _ _ _ _ _ _, .inr (.inl rfl)⟩
section
variable (c w l T j t i mx q : Int) (hm0 : 0 ≤ c % 16) (hm1 : c % 16 < 16) (hT : g__law_turn [.int c, .int 2147483647] = some (.int T)) (hj : modD (.int (T / 7 / 16)) (.int w) = some (.int j)) (hx : maxD [.int 1, .int (w - 1)] = some (.int mx)) (ht : modD (.int (T / 7 / 96)) (.int mx) = some (.int t)) (hi : modD (.int (j + 1 + t)) (.int w) = some (.int i))
include hT hj hx ht hi
theorem lrow_swing (p : Bool) (h : c % 16 < 4) : g__law_row [.int c, .int w, .int l, .bool p] = some (.tuple [.str "swing", .int j]) := by
  simp [-sSeq, -sIf, sSeq_k, sIf_k, -maxD_int, g__law_row, runB, b__law_row, startD, hT, hj, hx, ht, hi, h]
theorem lrow_turn (p : Bool) (h : ¬ c % 16 < 4) (h2 : c % 16 < 7) : g__law_row [.int c, .int w, .int l, .bool p] = some (.tuple [.str "turn", .int j, .int (1 + T / 7 / 600 % 7)]) := by
  simp [-sSeq, -sIf, sSeq_k, sIf_k, -maxD_int, g__law_row, runB, b__law_row, startD, hT, hj, hx, ht, hi, h, h2]
theorem lrow_two (p : Bool) (h : ¬ c % 16 < 4) (h2 : ¬ c % 16 < 7) (h3 : 7 < c % 16) (h4 : c % 16 < 13) (h5 : 1 < w) (s : D) (hs : atI [PyData.str "tie", .str "sign", .str "cross", .str "tie", .str "sign"] (c % 16 - 8) = some s) : g__law_row [.int c, .int w, .int l, .bool p] = some (.tuple [s, .int i, .int j]) := by
  simp [-sSeq, -sIf, sSeq_k, sIf_k, -maxD_int, g__law_row, runB, b__law_row, startD, hT, hj, hx, ht, hi, h, h2, h3, h4, h5, oCh, hs]
theorem lrow_flip (p : Bool) (h : ¬ c % 16 < 4) (h2 : ¬ c % 16 < 7) (h3 : ¬ (7 < c % 16 ∧ c % 16 < 13 ∧ 1 < w)) (h4 : c % 16 = 7 ∨ p = true) : g__law_row [.int c, .int w, .int l, .bool p] = some (.tuple [.str "flip", .int j]) := by
  by_cases a : 7 < c % 16
  · by_cases b : c % 16 < 13
    · have d : ¬ 1 < w := fun z => h3 ⟨a, b, z⟩
      have e : ¬ c % 16 = 7 := by omega
      have f : p = true := by rcases h4 with z | z; exact absurd z e; exact z
      simp [-sSeq, -sIf, sSeq_k, sIf_k, -maxD_int, g__law_row, runB, b__law_row, startD, hT, hj, hx, ht, hi, h, h2, a, b, d, e, f, oCh]
    · have e : ¬ c % 16 = 7 := by omega
      have f : p = true := by rcases h4 with z | z; exact absurd z e; exact z
      simp [-sSeq, -sIf, sSeq_k, sIf_k, -maxD_int, g__law_row, runB, b__law_row, startD, hT, hj, hx, ht, hi, h, h2, a, b, e, f, oCh]
  · have e : c % 16 = 7 := by omega
    simp [-sSeq, -sIf, sSeq_k, sIf_k, -maxD_int, g__law_row, runB, b__law_row, startD, hT, hj, hx, ht, hi, e, oCh]
theorem lrow_look (h : ¬ c % 16 < 4) (h2 : ¬ c % 16 < 7) (h3 : ¬ (7 < c % 16 ∧ c % 16 < 13 ∧ 1 < w)) (h4 : ¬ c % 16 = 7) (h5 : l < 6) (h6 : c % 16 < 14 ∨ l = 0) : g__law_row [.int c, .int w, .int l, .bool false] = some (.tuple [.str "look", .int j]) := by
  have a : 7 < c % 16 := by omega
  have k : (oAnd (ob (oCh (oC (.int 7)) (o2 (oV 0) (oC (.int 16)) modD) (oC (.int 13)) ltD ltD)) (ob (o2 (oV 1) (oC (.int 1)) gtD))) [.fz (.int c), .fz (.int w), .fz (.int l), .fz (.bool false), .fz (.int (T / 7)), .fz (.int j), .fz (.int i)] = some false := by
    by_cases b : c % 16 < 13
    · have d : ¬ 1 < w := fun z => h3 ⟨a, b, z⟩
      simp [oCh, a, b, d]
    · simp [oCh, a, b]
  rcases h6 with z | z
  · simp [-sSeq, -sIf, sSeq_k, sIf_k, -oAnd, -maxD_int, g__law_row, runB, b__law_row, startD, hT, hj, hx, ht, hi, h, h2, k, h4]
    simp [h5, z]
  · simp [-sSeq, -sIf, sSeq_k, sIf_k, -oAnd, -maxD_int, g__law_row, runB, b__law_row, startD, hT, hj, hx, ht, hi, h, h2, k, h4]
    simp [h5, z]
theorem lrow_where (h : ¬ c % 16 < 4) (h2 : ¬ c % 16 < 7) (h3 : ¬ (7 < c % 16 ∧ c % 16 < 13 ∧ 1 < w)) (h4 : ¬ c % 16 = 7) (h5 : ¬ (l < 6 ∧ (c % 16 < 14 ∨ l = 0))) (h6 : ¬ l = 0) (hq : modD (.int (T / 7 / 4200)) (.int l) = some (.int q)) (s : D) (hs : atI [PyData.tuple [.str "flip", .int j], .tuple [.str "turn", .int j, .int 4]] (T / 7 / 29400 % 2) = some s) : g__law_row [.int c, .int w, .int l, .bool false] = some (.tuple [.str "where", .int q, s]) := by
  have a : 7 < c % 16 := by omega
  have k : (oAnd (ob (oCh (oC (.int 7)) (o2 (oV 0) (oC (.int 16)) modD) (oC (.int 13)) ltD ltD)) (ob (o2 (oV 1) (oC (.int 1)) gtD))) [.fz (.int c), .fz (.int w), .fz (.int l), .fz (.bool false), .fz (.int (T / 7)), .fz (.int j), .fz (.int i)] = some false := by
    by_cases b : c % 16 < 13
    · have d : ¬ 1 < w := fun z => h3 ⟨a, b, z⟩
      simp [oCh, a, b, d]
    · simp [oCh, a, b]
  have k2 : (oAnd (ob (o2 (oV 2) (oC (.int 6)) ltD)) (oOr (ob (o2 (o2 (oV 0) (oC (.int 16)) modD) (oC (.int 14)) ltD)) (ob (o2 (oV 2) (oC (.int 0)) eqD)))) [.fz (.int c), .fz (.int w), .fz (.int l), .fz (.bool false), .fz (.int (T / 7)), .fz (.int j), .fz (.int i)] = some false := by
    by_cases b : l < 6
    · have d : ¬ c % 16 < 14 := fun z => h5 ⟨b, .inl z⟩
      simp [b, d, h6]
    · simp [b]
  have h6' : (l == 0) = false := by simpa using h6
  simp [-sSeq, -sIf, sSeq_k, sIf_k, -oAnd, -maxD_int, g__law_row, runB, b__law_row, startD, hT, hj, hx, ht, hi, h, h2, k, k2, h4, h6, h6', hq, hs]
end
theorem lrow_ok (c : Int) (w l : Nat) (hw : 1 ≤ w) (p : Bool) : ∃ r : Rw, g__law_row [.int c, .int w, .int l, .bool p] = some (rwD r) ∧ r.ok w l ∧ (p = true → r.isPl = true) := by
  obtain ⟨T, hT⟩ := lturn_eq c
  have hw0 : (0 : Int) < w := by omega
  have a1 := Int.emod_nonneg ((T : Int) / 7 / 16) (show (w : Int) ≠ 0 by omega)
  have a2 := Int.emod_lt_of_pos ((T : Int) / 7 / 16) hw0
  obtain ⟨j, hj⟩ : ∃ j : Nat, (T : Int) / 7 / 16 % w = j := ⟨((T : Int) / 7 / 16 % w).toNat, by omega⟩
  have ej := modD_int (i := (T : Int) / 7 / 16) hw0
  rw [hj] at ej a1 a2
  obtain ⟨mx, ex, x1, x2, x3⟩ := (⟨_, maxD_int 1 (w - 1), by split <;> omega, by split <;> omega, by split <;> omega⟩ : ∃ m : Int, maxD [.int 1, .int ((w : Int) - 1)] = some (.int m) ∧ 1 ≤ m ∧ (w : Int) - 1 ≤ m ∧ (m = 1 ∨ m = w - 1))
  have b1 := Int.emod_nonneg ((T : Int) / 7 / 96) (show mx ≠ 0 by omega)
  have b2 := Int.emod_lt_of_pos ((T : Int) / 7 / 96) (show 0 < mx by omega)
  have et := modD_int (i := (T : Int) / 7 / 96) (show 0 < mx by omega)
  generalize (T : Int) / 7 / 96 % mx = t at *
  have c1 := Int.emod_nonneg ((j : Int) + 1 + t) (show (w : Int) ≠ 0 by omega)
  have c2 := Int.emod_lt_of_pos ((j : Int) + 1 + t) hw0
  have ei := modD_int (i := (j : Int) + 1 + t) hw0
  obtain ⟨i, hi⟩ : ∃ i : Nat, ((j : Int) + 1 + t) % w = i := ⟨(((j : Int) + 1 + t) % w).toNat, by omega⟩
  have hij : 1 < w → i ≠ j := fun h1 z => by
    have : t + 1 < w := by omega
    by_cases hh : (j : Int) + 1 + t < w
    · rw [Int.emod_eq_of_lt (by omega) hh] at hi; omega
    · have : ((j : Int) + 1 + t) % w = (j : Int) + 1 + t - w := by
        rw [← Int.sub_emod_right, Int.emod_eq_of_lt (by omega) (by omega)]
      omega
  rw [hi] at ei c1 c2
  have m0 : 0 ≤ c % 16 := Int.emod_nonneg _ (by decide)
  by_cases h1 : c % 16 < 4
  · exact ⟨.pl (.swing j), lrow_swing c w l T j t i mx hT ej ex et ei p h1, (show j < w by omega), fun _ => rfl⟩
  by_cases h2 : c % 16 < 7
  · obtain ⟨e, he⟩ : ∃ e : Nat, 1 + (T : Int) / 7 / 600 % 7 = e := ⟨(1 + (T : Int) / 7 / 600 % 7).toNat, by omega⟩
    have q := lrow_turn c w l T j t i mx hT ej ex et ei p h1 h2
    rw [he] at q
    exact ⟨.pl (.turn j e), q, (show j < w ∧ 1 ≤ e ∧ e ≤ 7 by omega), fun _ => rfl⟩
  by_cases h3 : 7 < c % 16 ∧ c % 16 < 13 ∧ (1 : Int) < w
  · obtain ⟨s, hs, h⟩ := pick5 (c % 16) h3.1 h3.2.1
    have q := lrow_two c w l T j t i mx hT ej ex et ei p h1 h2 h3.1 h3.2.1 h3.2.2 _ hs
    have k : i < w ∧ j < w ∧ i ≠ j := ⟨by omega, by omega, hij (by omega)⟩
    rcases h with rfl | rfl | rfl
    · exact ⟨.pl (.tie i j), q, k, fun _ => rfl⟩
    · exact ⟨.pl (.sign i j), q, k, fun _ => rfl⟩
    · exact ⟨.pl (.cross i j), q, k, fun _ => rfl⟩
  by_cases h4 : c % 16 = 7 ∨ p = true
  · exact ⟨.pl (.flip j), lrow_flip c w l T j t i mx hT ej ex et ei p h1 h2 h3 h4, (show j < w by omega), fun _ => rfl⟩
  have hp : p = false := by cases p; rfl; exact absurd (.inr rfl) h4
  subst hp
  have h4' : ¬ c % 16 = 7 := fun z => h4 (.inl z)
  by_cases h5 : (l : Int) < 6 ∧ (c % 16 < 14 ∨ (l : Int) = 0)
  · exact ⟨.look j, lrow_look c w l T j t i mx hT ej ex et ei h1 h2 h3 h4' h5.1 h5.2, (show j < w ∧ l < 6 by omega), fun z => (nomatch z)⟩
  have h6 : ¬ (l : Int) = 0 := by omega
  have hq := modD_int (i := (T : Int) / 7 / 4200) (show (0 : Int) < l by omega)
  have d1 := Int.emod_nonneg ((T : Int) / 7 / 4200) (show (l : Int) ≠ 0 by omega)
  have d2 := Int.emod_lt_of_pos ((T : Int) / 7 / 4200) (show (0 : Int) < l by omega)
  obtain ⟨m, hm⟩ : ∃ m : Nat, (T : Int) / 7 / 4200 % l = m := ⟨((T : Int) / 7 / 4200 % l).toNat, by omega⟩
  rw [hm] at hq d1 d2
  have k : m < l ∧ j < w := by omega
  have : (T : Int) / 7 / 29400 % 2 = 0 ∨ (T : Int) / 7 / 29400 % 2 = 1 := by omega
  rcases this with z | z
  · exact ⟨.wflip m j, lrow_where c w l T j t i mx m hT ej ex et ei h1 h2 h3 h4' h5 h6 hq _ (by rw [z]; exact at0 _ _), k, fun z => (nomatch z)⟩
  · exact ⟨.wsign m j, lrow_where c w l T j t i mx m hT ej ex et ei h1 h2 h3 h4' h5 h6 hq _ (by rw [z]; exact at1 _ _ _), k, fun z => (nomatch z)⟩
@[simp] theorem ifK_beq (u w : Sf) (δ : Dv) (a b : Int) : ifK u w δ (a == b) = if a = b then u δ else w δ := by
  by_cases h : a = b
  · subst h; simp
  · have : (a == b) = false := by simpa using h
    rw [this, if_neg h]; rfl
theorem mapO_map {α : Type} {f : D → Option D} {h k : α → D} : ∀ (xs : List α), (∀ x ∈ xs, f (h x) = some (k x)) → mapO f (xs.map h) = some (xs.map k)
  | [], _ => rfl
  | x :: xs, H => by
    show ((f (h x)).bind fun y => _) = _
    rw [H x List.mem_cons_self]
    show ((mapO f (xs.map h)).bind fun ys => _) = _
    rw [mapO_map xs fun y hy => H y (List.mem_cons_of_mem _ hy)]
    rfl
theorem filO_map {α : Type} {t : D → Option Bool} {f : D → Option D} {h k : α → D} {b : α → Bool} : ∀ (xs : List α), (∀ x ∈ xs, t (h x) = some (b x)) → (∀ x ∈ xs, b x = true → f (h x) = some (k x)) → filO t f (xs.map h) = some ((xs.filter b).map k)
  | [], _, _ => rfl
  | x :: xs, H, G => by
    have ih := filO_map (k := k) xs (fun y hy => H y (List.mem_cons_of_mem _ hy)) (fun y hy => G y (List.mem_cons_of_mem _ hy))
    show ((t (h x)).bind fun c => _) = _
    rw [H x List.mem_cons_self, Option.bind_some]
    cases e : b x with
    | false => simp [e, ih]
    | true => simp [e, ih, G x List.mem_cons_self e]
theorem comp_map {α : Type} {fi : Dv → Option (List D)} {caps : List (Nat × Str)} {fe : Dv → Option D} {δ : Dv} {h k : α → D} {xs : List α} (e : fi δ = some (xs.map h)) (hl : xs.length ≤ 16777216) (H : ∀ x ∈ xs, fe (.fz (h x) :: capS δ caps) = some (k x)) : oComp fi caps bv1 fe δ = some (.list (xs.map k)) := by
  unfold oComp
  rw [e, Option.bind_some, if_pos (by rw [List.length_map]; exact hl), mapO_map xs (k := k) fun x hx => by
    show fe _ = _
    exact H x hx]
  rfl
theorem compI_map {α : Type} {fi : Dv → Option (List D)} {caps : List (Nat × Str)} {ft : Dv → Option Bool} {fe : Dv → Option D} {δ : Dv} {h k : α → D} {b : α → Bool} {xs : List α} (e : fi δ = some (xs.map h)) (hl : xs.length ≤ 16777216) (H : ∀ x ∈ xs, ft (.fz (h x) :: capS δ caps) = some (b x)) (G : ∀ x ∈ xs, b x = true → fe (.fz (h x) :: capS δ caps) = some (k x)) : oCompI fi caps bv1 ft fe δ = some (.list ((xs.filter b).map k)) := by
  unfold oCompI
  rw [e, Option.bind_some, if_pos (by rw [List.length_map]; exact hl), filO_map xs (b := b) (k := k) (fun x hx => by
    show ft _ = _
    exact H x hx) (fun x hx hb => by
    show fe _ = _
    exact G x hx hb)]
  rfl
def cirD (w : Nat) (rs : List Rw) : D := .tuple [.int w, .tuple (rs.map rwD)]
theorem loop_rng {b : Sf} {k : Nat} (I : Nat → Dv → Prop) (n : Nat) (h : ∀ i, i < n → ∀ δ, I i δ → ∃ δ2, b (δ.set k (.fz (.int i))) = some (.nx, δ2) ∧ I (i + 1) δ2) : ∀ δ, I 0 δ → ∃ δ', loop (gN k) b (rngL 0 n) δ = some (.nx, δ') ∧ I n δ' := by
  have go : ∀ (m i : Nat), i + m = n → ∀ δ, I i δ → ∃ δ', loop (gN k) b ((List.range' i m).map fun (k : Nat) => PyData.int (0 + (k : Int))) δ = some (.nx, δ') ∧ I n δ' := by
    intro m
    induction m with
    | zero => intro i e δ h; exact ⟨δ, rfl, by rw [← e]; exact h⟩
    | succ m ih =>
      intro i e δ hi
      obtain ⟨δ2, e2, h2⟩ := h i (by omega) δ hi
      obtain ⟨δ', e3, h3⟩ := ih (i + 1) (by omega) δ2 h2
      refine ⟨δ', ?_, h3⟩
      rw [← e3, List.range'_succ, List.map_cons]
      exact loop_step (δ1 := δ.set k (.fz (.int i))) (by simp) e2
  intro δ h0
  have := go n 0 (by omega) δ h0
  rw [← List.range_eq_range'] at this
  exact this
/-! ### rows: words, kinds, wires -/
theorem seq_nx {a b : Sf} {δ δ1 : Dv} (h : a δ = some (.nx, δ1)) : sSeq a b δ = b δ1 := by simp [h]
theorem ok_hold : okS "hold" = true := by decide +kernel
theorem ok_other : okS "other" = true := by decide +kernel
def good : Rw → Prop
  | .pl (.tie i j) => i ≠ j
  | .pl (.sign i j) => i ≠ j
  | .pl (.cross i j) => i ≠ j
  | _ => True
theorem good_of {w l : Nat} {r : Rw} (h : r.ok w l) : good r := by
  cases r with
  | pl r => cases r <;> first | exact h.2.2 | exact trivial
  | _ => exact trivial
inductive Kd where
  | hold | flip | other
deriving DecidableEq
def Kd.s : Kd → Str
  | .hold => "hold"
  | .flip => "flip"
  | .other => "other"
theorem Kd.ok (k : Kd) : okS k.s = true := by cases k; exact ok_hold; exact ok_w_flip; exact ok_other
theorem Kd.beq (a b : Kd) : (a.s == b.s) = decide (a = b) := by cases a <;> cases b <;> decide +kernel
def kl : Rw → List (Nat × Kd)
  | .pl (.swing j) => [(j, .other)]
  | .pl (.turn j _) => [(j, .hold)]
  | .pl (.flip j) => [(j, .flip)]
  | .pl (.tie i j) => [(i, .hold), (j, .flip)]
  | .pl (.sign i j) => [(i, .hold), (j, .hold)]
  | .pl (.cross i j) => [(i, .other), (j, .other)]
  | .look j => [(j, .hold)]
  | .wflip _ j => [(j, .flip)]
  | .wsign _ j => [(j, .hold)]
def kpD (p : Nat × Kd) : D := .tuple [.int p.1, .str p.2.s]
theorem sl2 (a b : D) : slD (.tuple [a, b]) (some 1) none = some (.tuple [b]) := rfl
theorem sl3 (a b c : D) : slD (.tuple [a, b, c]) (some 1) none = some (.tuple [b, c]) := rfl
theorem kc1 (G : List D → Option D) (s : Str) (j : Int) : p1__law_kinds G [.fz (.tuple [.str s, .int j])] = some (.list [.tuple [.int j, .str "other"]]) := by
  have := comp_map (fi := oI (oSl (oV 0) (oP (oC (.int 1))) (oNo)) itsD) (caps := []) (fe := VL.os (oCons (oV 0) (oCons (oC (.str "other")) (oNil))) tupD) (δ := [.fz (.tuple [.str s, .int j])]) (h := PyData.int) (k := fun x => .tuple [.int x, .str "other"]) (xs := [j]) (by simp [sl2]) (by simp) (fun x _ => by simp [capS])
  exact this
theorem kc2 (G : List D → Option D) (s : Str) (i j : Int) : p1__law_kinds G [.fz (.tuple [.str s, .int i, .int j])] = some (.list [.tuple [.int i, .str "other"], .tuple [.int j, .str "other"]]) := by
  have := comp_map (fi := oI (oSl (oV 0) (oP (oC (.int 1))) (oNo)) itsD) (caps := []) (fe := VL.os (oCons (oV 0) (oCons (oC (.str "other")) (oNil))) tupD) (δ := [.fz (.tuple [.str s, .int i, .int j])]) (h := PyData.int) (k := fun x => .tuple [.int x, .str "other"]) (xs := [i, j]) (by simp [sl3]) (by simp) (fun x _ => by simp [capS])
  exact this
theorem lk_row (G : List D → Option D) (r : Row) : runB N__law_kinds 1 (b__law_kinds G) [rowD r] = some (.list ((kl (.pl r)).map kpD)) := by
  cases r with
  | swing j => have := kc1 G "swing" j; simp [-sSeq, -sIf, sSeq_k, sIf_k, runB, b__law_kinds, startD, rowD, kl, kpD, Kd.s, this]
  | cross i j => have := kc2 G "cross" i j; simp [-sSeq, -sIf, sSeq_k, sIf_k, runB, b__law_kinds, startD, rowD, kl, kpD, Kd.s, this]
  | turn j e => simp [-sSeq, -sIf, sSeq_k, sIf_k, runB, b__law_kinds, startD, rowD, kl, kpD, Kd.s]
  | flip j => simp [-sSeq, -sIf, sSeq_k, sIf_k, runB, b__law_kinds, startD, rowD, kl, kpD, Kd.s]
  | tie i j => simp [-sSeq, -sIf, sSeq_k, sIf_k, runB, b__law_kinds, startD, rowD, kl, kpD, Kd.s]
  | sign i j => simp [-sSeq, -sIf, sSeq_k, sIf_k, runB, b__law_kinds, startD, rowD, kl, kpD, Kd.s]
theorem lk_where (G : List D → Option D) (m : Int) (I L : D) (h : G [I] = some L) : runB N__law_kinds 1 (b__law_kinds G) [.tuple [.str "where", .int m, I]] = some L := by
  simp [-sSeq, -sIf, sSeq_k, sIf_k, runB, b__law_kinds, startD, h]
theorem lk_look (G : List D → Option D) (j : Nat) : runB N__law_kinds 1 (b__law_kinds G) [rwD (.look j)] = some (.list ((kl (.look j)).map kpD)) := by
  simp [-sSeq, -sIf, sSeq_k, sIf_k, runB, b__law_kinds, startD, rwD, kl, kpD, Kd.s]
theorem lkinds_eq (r : Rw) : g__law_kinds [rwD r] = some (.list ((kl r).map kpD)) := by
  cases r with
  | pl r => exact lk_row (r__law_kinds 7) r
  | look j => exact lk_look (r__law_kinds 7) j
  | wflip m j => exact lk_where (r__law_kinds 7) m _ _ (lk_row (r__law_kinds 6) (.flip j))
  | wsign m j => exact lk_where (r__law_kinds 7) m _ _ (lk_row (r__law_kinds 6) (.turn j 4))
def bad (p q : Nat × Kd) : Bool := (p.1 == q.1) && (decide (p.2 ≠ q.2) || decide (p.2 = .other))
theorem in_ne (z0 z1 z2 z3 : Sl) (a b : Int) (s t : Str) (h : ¬ a = b) : l1__law_lets [z0, z1, z2, z3, .fz (.int a), .fz (.str s), .fz (.int b), .fz (.str t)] = some (.nx, [z0, z1, z2, z3, .fz (.int a), .fz (.str s), .fz (.int b), .fz (.str t)]) := by
  simp [-sSeq, -sIf, sSeq_k, sIf_k, l1__law_lets, h]
theorem in_eq (z0 z1 z2 z3 : Sl) (a : Int) (s t : Str) (c2 c3 : Bool) (e1 : neD (.str s) (.str t) = some (.bool c2)) (e2 : eqD (.str s) (.str "other") = some (.bool c3)) : l1__law_lets [z0, z1, z2, z3, .fz (.int a), .fz (.str s), .fz (.int a), .fz (.str t)] = some (if (c2 || c3) then .rt (.bool false) else .nx, [z0, z1, z2, z3, .fz (.int a), .fz (.str s), .fz (.int a), .fz (.str t)]) := by
  cases c2 <;> cases c3 <;> simp [-sSeq, -sIf, sSeq_k, sIf_k, l1__law_lets, e1, e2]
theorem in_one (z0 z1 z2 z3 : Sl) (p q : Nat × Kd) : l1__law_lets [z0, z1, z2, z3, .fz (.int p.1), .fz (.str p.2.s), .fz (.int q.1), .fz (.str q.2.s)] = some (if bad p q then .rt (.bool false) else .nx, [z0, z1, z2, z3, .fz (.int p.1), .fz (.str p.2.s), .fz (.int q.1), .fz (.str q.2.s)]) := by
  obtain ⟨p1, p2⟩ := p
  obtain ⟨q1, q2⟩ := q
  dsimp only
  have e1 := neS p2.ok q2.ok
  have e2 : eqD (.str p2.s) (.str "other") = some (.bool (decide (p2 = .other))) := (eqS p2.ok ok_other).trans (by rw [show ("other" : Str) = Kd.other.s from rfl, Kd.beq])
  rw [Kd.beq] at e1
  by_cases h : p1 = q1
  · subst h
    rw [in_eq z0 z1 z2 z3 p1 p2.s q2.s _ _ e1 e2]
    have : bad (p1, p2) (p1, q2) = (!decide (p2 = q2) || decide (p2 = .other)) := by
      unfold bad
      simp
    rw [this]
  · have h' : ¬ (p1 : Int) = q1 := by omega
    rw [in_ne z0 z1 z2 z3 p1 q1 p2.s q2.s h']
    have : bad (p1, p2) (q1, q2) = false := by
      unfold bad
      simp [h]
    rw [this]
    rfl
theorem in_loop (z0 z1 z2 z3 : Sl) (p : Nat × Kd) : ∀ (qs : List (Nat × Kd)) (z6 z7 : Sl), ∃ y6 y7, loop (gTu [gN 6, gN 7]) l1__law_lets (qs.map kpD) [z0, z1, z2, z3, .fz (.int p.1), .fz (.str p.2.s), z6, z7] = some (if qs.any (bad p) then .rt (.bool false) else .nx, [z0, z1, z2, z3, .fz (.int p.1), .fz (.str p.2.s), y6, y7])
  | [], z6, z7 => ⟨z6, z7, rfl⟩
  | q :: qs, z6, z7 => by
    obtain ⟨y6, y7, e⟩ := in_loop z0 z1 z2 z3 p qs (.fz (.int q.1)) (.fz (.str q.2.s))
    have st := in_one z0 z1 z2 z3 p q
    have g : gTu [gN 6, gN 7] (kpD q) [z0, z1, z2, z3, .fz (.int p.1), .fz (.str p.2.s), z6, z7] = some [z0, z1, z2, z3, .fz (.int p.1), .fz (.str p.2.s), .fz (.int q.1), .fz (.str q.2.s)] := by simp [kpD]
    cases h : bad p q with
    | true =>
      rw [h] at st
      refine ⟨.fz (.int q.1), .fz (.str q.2.s), ?_⟩
      rw [List.map_cons, loop_ret g st, List.any_cons, h]
      rfl
    | false =>
      rw [h] at st
      refine ⟨y6, y7, ?_⟩
      rw [List.map_cons, loop_step g st, e, List.any_cons, h]
      rfl
theorem out_one (z0 z2 z3 : Sl) (O : D) (p : Nat × Kd) (qs : List (Nat × Kd)) (hk : g__law_kinds [O] = some (.list (qs.map kpD))) (z6 z7 : Sl) : ∃ y6 y7, l2__law_lets [z0, .fz O, z2, z3, .fz (.int p.1), .fz (.str p.2.s), z6, z7] = some (if qs.any (bad p) then .rt (.bool false) else .nx, [z0, .fz O, z2, z3, .fz (.int p.1), .fz (.str p.2.s), y6, y7]) := by
  obtain ⟨y6, y7, e⟩ := in_loop z0 (.fz O) z2 z3 p qs z6 z7
  refine ⟨y6, y7, ?_⟩
  rw [← e]
  simp [l2__law_lets, hk]
theorem out_loop (z0 z2 z3 : Sl) (O : D) (qs : List (Nat × Kd)) (hk : g__law_kinds [O] = some (.list (qs.map kpD))) : ∀ (ps : List (Nat × Kd)) (z4 z5 z6 z7 : Sl), ∃ δ, loop (gTu [gN 4, gN 5]) l2__law_lets (ps.map kpD) [z0, .fz O, z2, z3, z4, z5, z6, z7] = some (if ps.any (fun p => qs.any (bad p)) then .rt (.bool false) else .nx, δ)
  | [], z4, z5, z6, z7 => ⟨_, rfl⟩
  | p :: ps, z4, z5, z6, z7 => by
    obtain ⟨y6, y7, st⟩ := out_one z0 z2 z3 O p qs hk z6 z7
    have g : gTu [gN 4, gN 5] (kpD p) [z0, .fz O, z2, z3, z4, z5, z6, z7] = some [z0, .fz O, z2, z3, .fz (.int p.1), .fz (.str p.2.s), z6, z7] := by simp [kpD]
    cases h : qs.any (bad p) with
    | true =>
      rw [h] at st
      refine ⟨[z0, .fz O, z2, z3, .fz (.int p.1), .fz (.str p.2.s), y6, y7], ?_⟩
      rw [List.map_cons, loop_ret g st, List.any_cons, h]
      rfl
    | false =>
      rw [h] at st
      obtain ⟨δ, e⟩ := out_loop z0 z2 z3 O qs hk ps (.fz (.int p.1)) (.fz (.str p.2.s)) y6 y7
      refine ⟨δ, ?_⟩
      rw [List.map_cons, loop_step g st, e, List.any_cons, h]
      rfl
/-! ### the law's own answer -/
def asks (r q : Rw) (m : Int) : Bool := match r with
  | .wflip k _ => q.isLook && ((k : Int) == m)
  | .wsign k _ => q.isLook && ((k : Int) == m)
  | _ => false
def clash (r q : Rw) : Bool := (kl r).any fun p => (kl q).any (bad p)
def lets (r q : Rw) (m : Int) : Bool := !(r.isLook && q.isLook) && !(asks q r m || asks r q m) && !clash r q
def Rw.wd : Rw → Str
  | .pl (.swing _) => "swing"
  | .pl (.turn _ _) => "turn"
  | .pl (.flip _) => "flip"
  | .pl (.tie _ _) => "tie"
  | .pl (.sign _ _) => "sign"
  | .pl (.cross _ _) => "cross"
  | .look _ => "look"
  | .wflip _ _ => "where"
  | .wsign _ _ => "where"
theorem wd_ix (r : Rw) : ixD (rwD r) (.int 0) = some (.str r.wd) := by
  cases r with
  | pl r => cases r <;> exact at0 _ _
  | _ => exact at0 _ _
theorem wd_ok (r : Rw) : okS r.wd = true := by
  cases r with
  | pl r => cases r; exact ok_w_swing; exact ok_w_turn; exact ok_w_flip; exact ok_w_tie; exact ok_w_sign; exact ok_w_cross
  | look j => exact ok_w_look
  | wflip m j => exact ok_w_where
  | wsign m j => exact ok_w_where
def Rw.isW : Rw → Bool
  | .wflip _ _ => true
  | .wsign _ _ => true
  | _ => false
theorem wd_look (r : Rw) : (r.wd == ("look" : Str)) = r.isLook := by
  cases r with
  | pl r =>
    cases r
    · exact (by decide +kernel : (("swing" : Str) == "look") = false)
    · exact (by decide +kernel : (("turn" : Str) == "look") = false)
    · exact (by decide +kernel : (("flip" : Str) == "look") = false)
    · exact (by decide +kernel : (("tie" : Str) == "look") = false)
    · exact (by decide +kernel : (("sign" : Str) == "look") = false)
    · exact (by decide +kernel : (("cross" : Str) == "look") = false)
  | look j => exact (by decide +kernel : (("look" : Str) == "look") = true)
  | wflip m j => exact (by decide +kernel : (("where" : Str) == "look") = false)
  | wsign m j => exact (by decide +kernel : (("where" : Str) == "look") = false)
theorem wd_where (r : Rw) : (r.wd == ("where" : Str)) = r.isW := by
  cases r with
  | pl r =>
    cases r
    · exact (by decide +kernel : (("swing" : Str) == "where") = false)
    · exact (by decide +kernel : (("turn" : Str) == "where") = false)
    · exact (by decide +kernel : (("flip" : Str) == "where") = false)
    · exact (by decide +kernel : (("tie" : Str) == "where") = false)
    · exact (by decide +kernel : (("sign" : Str) == "where") = false)
    · exact (by decide +kernel : (("cross" : Str) == "where") = false)
  | look j => exact (by decide +kernel : (("look" : Str) == "where") = false)
  | wflip m j => exact (by decide +kernel : (("where" : Str) == "where") = true)
  | wsign m j => exact (by decide +kernel : (("where" : Str) == "where") = true)
theorem eq_look (r : Rw) : eqD (.str r.wd) (.str "look") = some (.bool r.isLook) := by rw [eqS (wd_ok r) ok_w_look, wd_look]
theorem ne_look (r : Rw) : neD (.str r.wd) (.str "look") = some (.bool (!r.isLook)) := by rw [neS (wd_ok r) ok_w_look, wd_look]
theorem eq_where (r : Rw) : eqD (.str r.wd) (.str "where") = some (.bool r.isW) := by rw [eqS (wd_ok r) ok_w_where, wd_where]
theorem shpS {a : Str} (h : okS a = true) : (PyData.str a).canLay0 = true := (Bool.and_eq_true_iff.mp h).1
theorem eqL2 {a b c d : Str} (ha : okS a = true) (hb : okS b = true) (hc : okS c = true) (hd : okS d = true) : eqD (.list [.str a, .str b]) (.list [.str c, .str d]) = some (.bool (a == c && b == d)) := by
  have h1 : shp (.list [.str a, .str b]) = true := by
    show (PyData.canLay0 _ && decide (PyData.depth _ ≤ 64)) = true
    have x1 := shpS ha; have x2 := shpS hb
    simp [PyData.canLay0, PyData.canLayAll0, PyData.depth, PyData.depthAll] at x1 x2 ⊢
    exact ⟨x1, x2⟩
  have h2 : shp (.list [.str c, .str d]) = true := by
    show (PyData.canLay0 _ && decide (PyData.depth _ ≤ 64)) = true
    have x1 := shpS hc; have x2 := shpS hd
    simp [PyData.canLay0, PyData.canLayAll0, PyData.depth, PyData.depthAll] at x1 x2 ⊢
    exact ⟨x1, x2⟩
  unfold eqD
  rw [if_pos ⟨h1, h2⟩]
  simp [PyData.eqv, PyData.eqvAll]
theorem mk_at {r : Rw} (h : r.isW = true) : ∃ k : Nat, ixD (rwD r) (.int 1) = some (.int k) ∧ ∀ q m, asks r q m = (q.isLook && ((k : Int) == m)) := by
  cases r with
  | wflip k j => exact ⟨k, at1 _ _ _, fun _ _ => rfl⟩
  | wsign k j => exact ⟨k, at1 _ _ _, fun _ _ => rfl⟩
  | _ => cases h
theorem asks_no {r : Rw} (h : r.isW = false) (q : Rw) (m : Int) : asks r q m = false := by
  cases r with
  | wflip k j => cases h
  | wsign k j => cases h
  | _ => rfl
theorem ll_x (A B : D) (m ka kb : Int) (a b : Str) (s1 s2 s3 c1 c2 cl : Bool) (δ : Dv) (a0 : ixD A (.int 0) = some (.str a)) (b0 : ixD B (.int 0) = some (.str b)) (L : List D) (hA : g__law_kinds [A] = some (.list L))
    (e1 : eqD (.list [.str a, .str b]) (.list [.str "look", .str "look"]) = some (.bool s1)) (e2 : eqD (.list [.str a, .str b]) (.list [.str "look", .str "where"]) = some (.bool s2)) (e3 : eqD (.list [.str a, .str b]) (.list [.str "where", .str "look"]) = some (.bool s3))
    (m1 : s2 = true → ixD B (.int 1) = some (.int kb) ∧ (kb == m) = c1) (m2 : s3 = true → ixD A (.int 1) = some (.int ka) ∧ (ka == m) = c2) (lp : loop (gTu [gN 4, gN 5]) l2__law_lets L [.fz A, .fz B, .fz (.int m), .fz (.list [.str a, .str b]), .un, .un, .un, .un] = some (if cl then .rt (.bool false) else .nx, δ)) :
    g__law_lets [A, B, .int m] = some (.bool (!s1 && !((s2 && c1) || (s3 && c2)) && !cl)) := by
  cases s1 with
  | true => simp [-sSeq, -sIf, sSeq_k, sIf_k, g__law_lets, runB, b__law_lets, startD, a0, b0, e1]
  | false =>
    cases s2 with
    | true =>
      obtain ⟨q1, q2⟩ := m1 rfl
      cases c1 with
      | true => simp [-sSeq, -sIf, sSeq_k, sIf_k, g__law_lets, runB, b__law_lets, startD, a0, b0, e1, e2, q1, q2]
      | false =>
        cases s3 with
        | true =>
          obtain ⟨q3, q4⟩ := m2 rfl
          cases c2 <;> cases cl <;> simp [-sSeq, -sIf, sSeq_k, sIf_k, g__law_lets, runB, b__law_lets, startD, a0, b0, e1, e2, e3, q1, q2, q3, q4, hA] <;> simp [lp]
        | false => cases cl <;> simp [-sSeq, -sIf, sSeq_k, sIf_k, g__law_lets, runB, b__law_lets, startD, a0, b0, e1, e2, e3, q1, q2, hA] <;> simp [lp]
    | false =>
      cases s3 with
      | true =>
        obtain ⟨q3, q4⟩ := m2 rfl
        cases c2 <;> cases cl <;> simp [-sSeq, -sIf, sSeq_k, sIf_k, g__law_lets, runB, b__law_lets, startD, a0, b0, e1, e2, e3, q3, q4, hA] <;> simp [lp]
      | false => cases cl <;> simp [-sSeq, -sIf, sSeq_k, sIf_k, g__law_lets, runB, b__law_lets, startD, a0, b0, e1, e2, e3, hA] <;> simp [lp]
theorem llets_eq (r q : Rw) (m : Int) : g__law_lets [rwD r, rwD q, .int m] = some (.bool (lets r q m)) := by
  have e1 := eqL2 (wd_ok r) (wd_ok q) ok_w_look ok_w_look
  have e2 := eqL2 (wd_ok r) (wd_ok q) ok_w_look ok_w_where
  have e3 := eqL2 (wd_ok r) (wd_ok q) ok_w_where ok_w_look
  rw [wd_look, wd_look] at e1
  rw [wd_look, wd_where] at e2
  rw [wd_where, wd_look] at e3
  obtain ⟨δ, lp⟩ := out_loop (.fz (rwD r)) (.fz (.int m)) (.fz (.list [.str r.wd, .str q.wd])) (rwD q) (kl q) (lkinds_eq q) (kl r) .un .un .un .un
  obtain ⟨kb, c1, m1, w1⟩ : ∃ (kb : Int) (c1 : Bool), ((r.isLook && q.isW) = true → ixD (rwD q) (.int 1) = some (.int kb) ∧ (kb == m) = c1) ∧ ((r.isLook && q.isW && c1) = asks q r m) := by
    cases h : q.isW with
    | true =>
      obtain ⟨k, h1, h2⟩ := mk_at h
      exact ⟨k, _, fun _ => ⟨h1, rfl⟩, by rw [h2]; simp⟩
    | false => exact ⟨0, false, fun z => by simp at z, by rw [asks_no h]; simp⟩
  obtain ⟨ka, c2, m2, w2⟩ : ∃ (ka : Int) (c2 : Bool), ((r.isW && q.isLook) = true → ixD (rwD r) (.int 1) = some (.int ka) ∧ (ka == m) = c2) ∧ ((r.isW && q.isLook && c2) = asks r q m) := by
    cases h : r.isW with
    | true =>
      obtain ⟨k, h1, h2⟩ := mk_at h
      exact ⟨k, _, fun _ => ⟨h1, rfl⟩, by rw [h2]; simp⟩
    | false => exact ⟨0, false, fun z => by simp at z, by rw [asks_no h]; simp⟩
  have := ll_x (rwD r) (rwD q) m ka kb _ _ _ _ _ c1 c2 (clash r q) δ (wd_ix r) (wd_ix q) _ (lkinds_eq r) e1 e2 e3 m1 m2 lp
  rw [w1, w2] at this
  exact this
/-! ### the program's answer -/
def wl : Rw → List Nat
  | .pl (.swing j) => [j]
  | .pl (.turn j _) => [j]
  | .pl (.flip j) => [j]
  | .pl (.tie i j) => [min i j, max i j]
  | .pl (.sign i j) => [min i j, max i j]
  | .pl (.cross i j) => [min i j, max i j]
  | .look j => [j]
  | .wflip _ j => [j]
  | .wsign _ j => [j]
theorem wo_row (G : List D → Option D) (r : Row) : runB N_wires_of 1 (b_wires_of G) [rowD r] = some (.tuple ((wl (.pl r)).map fun n : Nat => .int n)) := by
  cases r with
  | swing j => simp [-sSeq, -sIf, sSeq_k, sIf_k, runB, b_wires_of, startD, rowD, wl]
  | turn j e => simp [-sSeq, -sIf, sSeq_k, sIf_k, runB, b_wires_of, startD, rowD, wl]
  | flip j => simp [-sSeq, -sIf, sSeq_k, sIf_k, runB, b_wires_of, startD, rowD, wl]
  | tie i j => simp [-sSeq, -sIf, sSeq_k, sIf_k, runB, b_wires_of, startD, rowD, wl]; refine ⟨?_, ?_⟩ <;> split <;> omega
  | sign i j => simp [-sSeq, -sIf, sSeq_k, sIf_k, runB, b_wires_of, startD, rowD, wl]; refine ⟨?_, ?_⟩ <;> split <;> omega
  | cross i j => simp [-sSeq, -sIf, sSeq_k, sIf_k, runB, b_wires_of, startD, rowD, wl]; refine ⟨?_, ?_⟩ <;> split <;> omega
theorem wo_where (G : List D → Option D) (m : Int) (I L : D) (h : G [I] = some L) : runB N_wires_of 1 (b_wires_of G) [.tuple [.str "where", .int m, I]] = some L := by
  simp [-sSeq, -sIf, sSeq_k, sIf_k, runB, b_wires_of, startD, h]
theorem wo_look (G : List D → Option D) (j : Nat) : runB N_wires_of 1 (b_wires_of G) [rwD (.look j)] = some (.tuple ((wl (.look j)).map fun n : Nat => .int n)) := by
  simp [-sSeq, -sIf, sSeq_k, sIf_k, runB, b_wires_of, startD, rwD, wl]
theorem wires_eq (r : Rw) : g_wires_of [rwD r] = some (.tuple ((wl r).map fun n : Nat => .int n)) := by
  cases r with
  | pl r => exact wo_row (r_wires_of 7) r
  | look j => exact wo_look (r_wires_of 7) j
  | wflip m j => exact wo_where (r_wires_of 7) m _ _ (wo_row (r_wires_of 6) (.flip j))
  | wsign m j => exact wo_where (r_wires_of 7) m _ _ (wo_row (r_wires_of 6) (.turn j 4))
def inr : Rw → D
  | .wflip _ j => .tuple [.str "flip", .int j]
  | .wsign _ j => .tuple [.str "turn", .int j, .int 4]
  | r => rwD r
theorem inner_eq (r : Rw) : g_inner_row [rwD r] = some (inr r) := by
  cases r with
  | pl r => cases r <;> simp [-sSeq, -sIf, sSeq_k, sIf_k, g_inner_row, runB, b_inner_row, startD, rwD, rowD, inr]
  | look j => simp [-sSeq, -sIf, sSeq_k, sIf_k, g_inner_row, runB, b_inner_row, startD, rwD, inr]
  | wflip m j => simp [-sSeq, -sIf, sSeq_k, sIf_k, g_inner_row, runB, b_inner_row, startD, rwD, inr]
  | wsign m j => simp [-sSeq, -sIf, sSeq_k, sIf_k, g_inner_row, runB, b_inner_row, startD, rwD, inr]
def fl (r : Rw) (w : Nat) : Option Bool := match r with
  | .pl (.swing _) => none
  | .pl (.cross _ _) => none
  | .pl (.flip _) => some true
  | .wflip _ _ => some true
  | .pl (.tie _ j) => some (j == w)
  | _ => some false
def flD' : Option Bool → D
  | none => .none
  | some b => .bool b
theorem inc_swing : inD false (.str "swing") (.tuple [.str "swing", .str "cross"]) = some (.bool true) := by rfl
theorem inc_cross : inD false (.str "cross") (.tuple [.str "swing", .str "cross"]) = some (.bool true) := by rfl
theorem inc_turn : inD false (.str "turn") (.tuple [.str "swing", .str "cross"]) = some (.bool false) := by rfl
theorem inc_flip : inD false (.str "flip") (.tuple [.str "swing", .str "cross"]) = some (.bool false) := by rfl
theorem inc_tie : inD false (.str "tie") (.tuple [.str "swing", .str "cross"]) = some (.bool false) := by rfl
theorem inc_sign : inD false (.str "sign") (.tuple [.str "swing", .str "cross"]) = some (.bool false) := by rfl
theorem inc_look : inD false (.str "look") (.tuple [.str "swing", .str "cross"]) = some (.bool false) := by rfl
theorem nat_beq (a b : Nat) : (((a : Int) == (b : Int)) : Bool) = (a == b) := by
  rw [Bool.eq_iff_iff, beq_iff_eq, beq_iff_eq]; omega
theorem flips_eq (r : Rw) (w : Nat) : g_flips [inr r, .int w] = some (flD' (fl r w)) := by
  cases r with
  | pl r =>
    cases r with
    | swing j => simp [-sSeq, -sIf, sSeq_k, sIf_k, g_flips, runB, b_flips, startD, rwD, rowD, inr, fl, flD', inc_swing]
    | turn j e => simp [-sSeq, -sIf, sSeq_k, sIf_k, g_flips, runB, b_flips, startD, rwD, rowD, inr, fl, flD', inc_turn]
    | flip j => simp [-sSeq, -sIf, sSeq_k, sIf_k, g_flips, runB, b_flips, startD, rwD, rowD, inr, fl, flD', inc_flip]
    | tie i j => simp [-sSeq, -sIf, sSeq_k, sIf_k, g_flips, runB, b_flips, startD, rwD, rowD, inr, fl, flD', inc_tie]; exact nat_beq j w
    | sign i j => simp [-sSeq, -sIf, sSeq_k, sIf_k, g_flips, runB, b_flips, startD, rwD, rowD, inr, fl, flD', inc_sign]
    | cross i j => simp [-sSeq, -sIf, sSeq_k, sIf_k, g_flips, runB, b_flips, startD, rwD, rowD, inr, fl, flD', inc_cross]
  | look j => simp [-sSeq, -sIf, sSeq_k, sIf_k, g_flips, runB, b_flips, startD, rwD, inr, fl, flD', inc_look]
  | wflip m j => simp [-sSeq, -sIf, sSeq_k, sIf_k, g_flips, runB, b_flips, startD, inr, fl, flD', inc_flip]
  | wsign m j => simp [-sSeq, -sIf, sSeq_k, sIf_k, g_flips, runB, b_flips, startD, inr, fl, flD', inc_turn]
def alike (r q : Rw) (w : Nat) : Bool := match fl r w with
  | none => false
  | some b => fl q w == some b
theorem eqd_bn (b : Bool) : eqD (.bool b) .none = some (.bool false) := by cases b <;> rfl
theorem both_x (A B F G : D) (w : Int) (b1 : Bool) (r : Bool) (f1 : g_flips [A, .int w] = some F) (f2 : g_flips [B, .int w] = some G) (h1 : isN F = !b1) (h2 : b1 = true → eqD F G = some (.bool r)) : g_both_alike [A, B, .int w] = some (.bool (b1 && r)) := by
  cases b1 with
  | false => simp [-sSeq, -sIf, sSeq_k, sIf_k, g_both_alike, runB, b_both_alike, startD, f1, h1]
  | true => have h2 := h2 rfl; simp [-sSeq, -sIf, sSeq_k, sIf_k, g_both_alike, runB, b_both_alike, startD, f1, f2, h1, h2]
theorem both_eq (r q : Rw) (w : Nat) : g_both_alike [inr r, inr q, .int w] = some (.bool (alike r q w)) := by
  unfold alike
  cases h : fl r w with
  | none => exact both_x _ _ _ _ w false false (flips_eq r w) (flips_eq q w) (by rw [h]; rfl) (fun z => nomatch z)
  | some b =>
    have := both_x _ _ _ _ w true (fl q w == some b) (flips_eq r w) (flips_eq q w) (by rw [h]; rfl) (fun _ => by
      rw [h]
      cases h2 : fl q w with
      | none => exact eqd_bn b
      | some c => show eqD (.bool b) (.bool c) = _; rw [eqD_bool]; cases b <;> cases c <;> rfl)
    rw [Bool.true_and] at this
    exact this
theorem in_wires (w : Nat) (ws : List Nat) : inD false (.int w) (.tuple (ws.map fun n : Nat => .int n)) = some (.bool (ws.any (· == w))) := by
  have h1 : (ws.map fun n : Nat => PyData.int n).all flD = true := by rw [List.all_eq_true]; intro x hx; obtain ⟨r, _, rfl⟩ := List.mem_map.mp hx; rfl
  have h2 : inL (.int w) (ws.map fun n : Nat => PyData.int n) = ws.any (· == w) := by
    unfold inL
    rw [List.any_map]
    exact congrArg (fun z => ws.any z) (funext fun n => by
      show PyData.eqv (.int n) (.int w) = _
      simp only [PyData.eqv]
      exact nat_beq n w)
  unfold inD
  show (if _ then _ else _) = _
  rw [if_pos ⟨rfl, h1⟩, h2]
  rfl
def shar (r q : Rw) : List Nat := (wl r).filter fun w => (wl q).any (· == w)
theorem wl_len (r : Rw) : (wl r).length ≤ 2 := by
  cases r with
  | pl r => cases r <;> simp [wl]
  | _ => simp [wl]
theorem p1l (r q : Rw) (z2 z3 : Sl) : p1_lets_by [.fz (rwD r), .fz (rwD q), z2, z3] = some (.list ((shar r q).map fun n : Nat => .int n)) := by
  have hr := wires_eq r
  have hq := wires_eq q
  have := compI_map (fi := oI (VL.os (oCons (oV 0) (oNil)) g_wires_of) itsD) (caps := [(1, "other")]) (ft := ob (o2 (oV 0) (VL.os (oCons (oV 1) (oNil)) g_wires_of) (inD false))) (fe := oV 0) (δ := [.fz (rwD r), .fz (rwD q), z2, z3]) (h := fun n : Nat => PyData.int n) (k := fun n : Nat => PyData.int n) (b := fun w => (wl q).any (· == w)) (xs := wl r) (by simp [hr]) (Nat.le_trans (wl_len r) (by decide)) (fun w _ => by simp [capS, hq, in_wires]) (fun w _ _ => by simp)
  exact this
theorem p2l (r q : Rw) (z2 : Sl) : p2_lets_by [.fz (rwD r), .fz (rwD q), z2, .fz (.list ((shar r q).map fun n : Nat => .int n))] = some (.list ((shar r q).map fun w => .bool (alike r q w))) := by
  have hr := inner_eq r
  have hq := inner_eq q
  have := comp_map (fi := oI (oV 3) itsD) (caps := [(0, "one"), (1, "other")]) (fe := VL.os (oCons (VL.os (oCons (oV 1) (oNil)) g_inner_row) (oCons (VL.os (oCons (oV 2) (oNil)) g_inner_row) (oCons (oV 0) (oNil)))) g_both_alike) (δ := [.fz (rwD r), .fz (rwD q), z2, .fz (.list ((shar r q).map fun n : Nat => .int n))]) (h := fun n : Nat => PyData.int n) (k := fun w => .bool (alike r q w)) (xs := shar r q) (by simp) (Nat.le_trans (List.length_filter_le _ _) (Nat.le_trans (wl_len r) (by decide))) (fun w _ => by simp [capS, hr, hq, both_eq])
  exact this
theorem af_x (A B M : D) (a b : Str) (k : D) (s1 s2 c : Bool) (a0 : ixD A (.int 0) = some (.str a)) (b0 : ixD B (.int 0) = some (.str b)) (e1 : eqD (.str a) (.str "where") = some (.bool s1)) (e2 : eqD (.str b) (.str "look") = some (.bool s2)) (h : s1 = true → s2 = true → ixD A (.int 1) = some k ∧ eqD k M = some (.bool c)) : g_asks_for [A, B, M] = some (.bool (s1 && s2 && c)) := by
  cases s1 with
  | false => simp [-sSeq, -sIf, sSeq_k, sIf_k, g_asks_for, runB, b_asks_for, startD, a0, e1]
  | true =>
    cases s2 with
    | false => simp [-sSeq, -sIf, sSeq_k, sIf_k, g_asks_for, runB, b_asks_for, startD, a0, b0, e1, e2]
    | true =>
      obtain ⟨h1, h2⟩ := h rfl rfl
      simp [-sSeq, -sIf, sSeq_k, sIf_k, g_asks_for, runB, b_asks_for, startD, a0, b0, e1, e2, h1, h2]
theorem asks_eq (r q : Rw) (M : D) (m : Int) (hM : M = .int m ∨ (M = .none ∧ m = -1)) : g_asks_for [rwD r, rwD q, M] = some (.bool (asks r q m)) := by
  cases h : r.isW with
  | true =>
    obtain ⟨k, h1, h2⟩ := mk_at h
    have := af_x (rwD r) (rwD q) M _ _ (.int k) true q.isLook ((k : Int) == m) (wd_ix r) (wd_ix q) (by rw [eq_where, h]) (eq_look q) (fun _ _ => ⟨h1, by
      rcases hM with rfl | ⟨rfl, rfl⟩
      · exact eqD_int _ _
      · have : ((k : Int) == -1) = false := by
          have : ¬ (k : Int) = -1 := by omega
          simpa using this
        rw [this]; rfl⟩)
    rw [h2]
    simpa using this
  | false =>
    have := af_x (rwD r) (rwD q) M _ _ .none false q.isLook false (wd_ix r) (wd_ix q) (by rw [eq_where, h]) (eq_look q) (fun z => nomatch z)
    rw [asks_no h]
    simpa using this
theorem lb_x (A B M : D) (a b : Str) (s1 s2 c1 c2 r : Bool) (S L : D) (a0 : ixD A (.int 0) = some (.str a)) (b0 : ixD B (.int 0) = some (.str b)) (e1 : eqD (.str a) (.str "look") = some (.bool s1)) (e2 : eqD (.str b) (.str "look") = some (.bool s2)) (h1 : g_asks_for [A, B, M] = some (.bool c1)) (h2 : g_asks_for [B, A, M] = some (.bool c2)) (p1 : p1_lets_by [.fz A, .fz B, .fz M, .un] = some S) (p2 : p2_lets_by [.fz A, .fz B, .fz M, .fz S] = some L) (al : allD [L] = some (.bool r)) : g_lets_by [A, B, M] = some (.bool (!(s1 && s2) && !(c2 || c1) && r)) := by
  cases s1 <;> cases s2 <;> cases c1 <;> cases c2 <;> simp [-sSeq, -sIf, sSeq_k, sIf_k, g_lets_by, runB, b_lets_by, startD, a0, b0, e1, e2, h1, h2, p1, p2, al]
def free (r q : Rw) : Bool := (shar r q).all (alike r q)
theorem lets_by_eq (r q : Rw) (M : D) (m : Int) (hM : M = .int m ∨ (M = .none ∧ m = -1)) : g_lets_by [rwD r, rwD q, M] = some (.bool (!(r.isLook && q.isLook) && !(asks q r m || asks r q m) && free r q)) := by
  refine lb_x (rwD r) (rwD q) M _ _ _ _ _ _ _ _ _ (wd_ix r) (wd_ix q) (eq_look r) (eq_look q) (asks_eq r q M m hM) (asks_eq q r M m hM) (p1l r q _ _) (p2l r q _) ?_
  rw [allD_map]
  rfl
/-! ### both are one -/
theorem wl_kl {r : Rw} (w : Nat) : w ∈ wl r ↔ ∃ k, (w, k) ∈ kl r := by
  cases r with
  | pl r =>
    cases r with
    | tie i j =>
      simp only [wl, kl, List.mem_cons, List.not_mem_nil, or_false, Prod.mk.injEq]
      constructor
      · intro h
        have : w = i ∨ w = j := by omega
        rcases this with h | h
        · exact ⟨.hold, .inl ⟨h, rfl⟩⟩
        · exact ⟨.flip, .inr ⟨h, rfl⟩⟩
      · rintro ⟨k, ⟨h, _⟩ | ⟨h, _⟩⟩ <;> omega
    | sign i j =>
      simp only [wl, kl, List.mem_cons, List.not_mem_nil, or_false, Prod.mk.injEq]
      constructor
      · intro h
        have : w = i ∨ w = j := by omega
        rcases this with h | h
        · exact ⟨.hold, .inl ⟨h, rfl⟩⟩
        · exact ⟨.hold, .inr ⟨h, rfl⟩⟩
      · rintro ⟨k, ⟨h, _⟩ | ⟨h, _⟩⟩ <;> omega
    | cross i j =>
      simp only [wl, kl, List.mem_cons, List.not_mem_nil, or_false, Prod.mk.injEq]
      constructor
      · intro h
        have : w = i ∨ w = j := by omega
        rcases this with h | h
        · exact ⟨.other, .inl ⟨h, rfl⟩⟩
        · exact ⟨.other, .inr ⟨h, rfl⟩⟩
      · rintro ⟨k, ⟨h, _⟩ | ⟨h, _⟩⟩ <;> omega
    | _ => simp [wl, kl]
  | _ => simp [wl, kl]
def Kd.c : Kd → Option Bool
  | .hold => some false
  | .flip => some true
  | .other => none
theorem fl_kl {r : Rw} (h : good r) {w : Nat} {k : Kd} (hk : (w, k) ∈ kl r) : fl r w = k.c := by
  cases r with
  | pl r =>
    cases r with
    | tie i j =>
      have h : i ≠ j := h
      simp only [kl, List.mem_cons, Prod.mk.injEq, List.not_mem_nil, or_false] at hk
      rcases hk with ⟨rfl, rfl⟩ | ⟨rfl, rfl⟩
      · have : (j == w) = false := by simpa using (Ne.symm h)
        simp [fl, Kd.c, this]
      · simp [fl, Kd.c]
    | swing j => simp only [kl, List.mem_cons, Prod.mk.injEq, List.not_mem_nil, or_false] at hk; obtain ⟨rfl, rfl⟩ := hk; rfl
    | turn j e => simp only [kl, List.mem_cons, Prod.mk.injEq, List.not_mem_nil, or_false] at hk; obtain ⟨rfl, rfl⟩ := hk; rfl
    | flip j => simp only [kl, List.mem_cons, Prod.mk.injEq, List.not_mem_nil, or_false] at hk; obtain ⟨rfl, rfl⟩ := hk; rfl
    | sign i j => simp only [kl, List.mem_cons, Prod.mk.injEq, List.not_mem_nil, or_false] at hk; rcases hk with ⟨rfl, rfl⟩ | ⟨rfl, rfl⟩ <;> rfl
    | cross i j => simp only [kl, List.mem_cons, Prod.mk.injEq, List.not_mem_nil, or_false] at hk; rcases hk with ⟨rfl, rfl⟩ | ⟨rfl, rfl⟩ <;> rfl
  | look j => simp only [kl, List.mem_cons, Prod.mk.injEq, List.not_mem_nil, or_false] at hk; obtain ⟨rfl, rfl⟩ := hk; rfl
  | wflip m j => simp only [kl, List.mem_cons, Prod.mk.injEq, List.not_mem_nil, or_false] at hk; obtain ⟨rfl, rfl⟩ := hk; rfl
  | wsign m j => simp only [kl, List.mem_cons, Prod.mk.injEq, List.not_mem_nil, or_false] at hk; obtain ⟨rfl, rfl⟩ := hk; rfl
theorem free_clash {r q : Rw} (hr : good r) (hq : good q) : free r q = !clash r q := by
  have key : free r q = true ↔ clash r q = false := by
    unfold free clash shar
    rw [List.all_eq_true, List.any_eq_false]
    constructor
    · intro h p hp z
      obtain ⟨q', hq', hb⟩ := List.any_eq_true.mp z
      obtain ⟨w, k⟩ := p
      obtain ⟨w', k'⟩ := q'
      unfold bad at hb
      obtain ⟨hb1, hb2⟩ := Bool.and_eq_true_iff.mp hb
      have e : w = w' := by simpa using hb1
      subst e
      have al := h w (List.mem_filter.mpr ⟨wl_kl w |>.mpr ⟨k, hp⟩, List.any_eq_true.mpr ⟨w, wl_kl w |>.mpr ⟨k', hq'⟩, by simp⟩⟩)
      unfold alike at al
      rw [fl_kl hr hp, fl_kl hq hq'] at al
      cases k <;> cases k' <;> simp [Kd.c] at al hb2
    · intro h w hw
      obtain ⟨h1, h2⟩ := List.mem_filter.mp hw
      obtain ⟨w2, h3, h4⟩ := List.any_eq_true.mp h2
      have e : w2 = w := by simpa using h4
      subst e
      obtain ⟨k, hk⟩ := (wl_kl w2).mp h1
      obtain ⟨k', hk'⟩ := (wl_kl w2).mp h3
      have nb : bad (w2, k) (w2, k') = false := by
        cases e : bad (w2, k) (w2, k') with
        | false => rfl
        | true => exact absurd (List.any_eq_true.mpr ⟨_, hk', e⟩) (h _ hk)
      unfold alike
      rw [fl_kl hr hk, fl_kl hq hk']
      cases k <;> cases k' <;> simp [bad, Kd.c] at nb ⊢
  cases h1 : free r q <;> cases h2 : clash r q <;> simp_all
theorem lb_eq {r q : Rw} (hr : good r) (hq : good q) (M : D) (m : Int) (hM : M = .int m ∨ (M = .none ∧ m = -1)) : g_lets_by [rwD r, rwD q, M] = some (.bool (lets r q m)) := by
  rw [lets_by_eq r q M m hM, free_clash hr hq]
  rfl
def of0 : Sf := sSet 5 (os (oCons (oV 4) (oCons (oV 1) (oCons (oV 3) (oCons (oC (.bool false)) (oNil))))) g__law_row)
def of1 : Sf := sSet 6 (o2 (os (oCons (o2 (oV 4) (oC (.int 5)) divD) (oCons (oC (.int 86028121)) (oNil))) g__law_turn) (oC (.int 7)) divD)
def of2 : Sf := sIf (oPeek 2 (oAnd (ob (o2 (o2 (oV 4) (oC (.int 5)) modD) (oC (.int 2)) ltD)) (oAnd (ob (o2 (oV 2) (os (oNil) lstD) neD)) (ob (o2 (o2 (o2 (oV 2) (o2 (oV 6) (os (oCons (oV 2) (oNil)) lenD) modD) ixD) (oC (.int 0)) ixD) (oC (.str "look")) neD))))) (sSeq (sSet 5 (oIxO 2 (o2 (oV 6) (oLenO 2) modD))) (sIf (oAnd (ob (o2 (o2 (oV 5) (oC (.int 0)) ixD) (os (oCons (oC (.str "sign")) (oCons (oC (.str "cross")) (oNil))) tupD) (inD false))) (ob (o2 (o2 (o2 (oV 6) (oC (.int 64)) divD) (oC (.int 2)) modD) (oC (.int 1)) eqD))) (sSet 5 (os (oCons (o2 (oV 5) (oC (.int 0)) ixD) (oCons (o2 (oV 5) (oC (.int 2)) ixD) (oCons (o2 (oV 5) (oC (.int 1)) ixD) (oNil)))) tupD)) (sNx))) (sNx)
def of3 : Sf := sIf (oAnd (ob (o2 (o2 (oV 5) (oC (.int 0)) ixD) (oC (.str "look")) eqD)) (ob (o2 (oV 3) (oC (.int 3)) eqD))) (sSet 5 (os (oCons (oC (.str "swing")) (oCons (o2 (oV 5) (oC (.int 1)) ixD) (oNil))) tupD)) (sNx)
def of4 : Sf := sSet 3 (o2 (oV 3) (os (oCons (o2 (o2 (oV 5) (oC (.int 0)) ixD) (oC (.str "look")) eqD) (oNil)) intD) addD)
def of5 : Sf := sApp 2 (oV 5)
theorem often_is : l1__law_often = sSeq of0 (sSeq of1 (sSeq of2 (sSeq of3 (sSeq of4 (of5))))) := rfl
theorem lturn_P (c p : Int) (hp : 0 < p) : ∃ T : Nat, g__law_turn [.int c, .int p] = some (.int T) := by
  have h0 : 0 ≤ c % 1000003 := Int.emod_nonneg _ (by decide)
  have h1 : c % 1000003 < 1000003 := Int.emod_lt_of_pos _ (by decide)
  have m : IntMulOk (c % 1000003 + 11) (c % 1000003 + 48271) := .of_left (Nat.le_trans (MA.bits_le (m := 21) (by omega)) (by decide))
  have h2 : 0 ≤ (c % 1000003 + 11) * (c % 1000003 + 48271) % p := Int.emod_nonneg _ (by omega)
  refine ⟨((c % 1000003 + 11) * (c % 1000003 + 48271) % p).toNat, ?_⟩
  rw [Int.toNat_of_nonneg h2]
  simp [-sSeq, -sIf, sSeq_k, sIf_k, g__law_turn, runB, b__law_turn, startD, m, hp]
def sh2 (r : Rw) : MA.Sh 2 (rwD r) := by
  have a := fun k => MA.Sh.int k
  have st : ∀ (k : Nat) {s : Str}, okS s = true → MA.Sh k (.str s) := fun k s h => ⟨shpS h, by simp [PyData.depth]⟩
  cases r with
  | pl r =>
    cases r <;> refine MA.Sh.tuple fun x hx => ?_ <;> simp only [List.mem_cons, List.not_mem_nil, or_false] at hx
    · rcases hx with rfl | rfl; exact st 1 ok_w_swing; exact a 1 _
    · rcases hx with rfl | rfl | rfl; exact st 1 ok_w_turn; exact a 1 _; exact a 1 _
    · rcases hx with rfl | rfl; exact st 1 ok_w_flip; exact a 1 _
    · rcases hx with rfl | rfl | rfl; exact st 1 ok_w_tie; exact a 1 _; exact a 1 _
    · rcases hx with rfl | rfl | rfl; exact st 1 ok_w_sign; exact a 1 _; exact a 1 _
    · rcases hx with rfl | rfl | rfl; exact st 1 ok_w_cross; exact a 1 _; exact a 1 _
  | look j =>
    refine MA.Sh.tuple fun x hx => ?_
    simp only [List.mem_cons, List.not_mem_nil, or_false] at hx
    rcases hx with rfl | rfl; exact st 1 ok_w_look; exact a 1 _
  | wflip m j =>
    refine MA.Sh.tuple fun x hx => ?_
    simp only [List.mem_cons, List.not_mem_nil, or_false] at hx
    rcases hx with rfl | rfl | rfl
    · exact st 1 ok_w_where
    · exact a 1 _
    · refine MA.Sh.tuple fun x hx => ?_
      simp only [List.mem_cons, List.not_mem_nil, or_false] at hx
      rcases hx with rfl | rfl; exact st 0 ok_w_flip; exact a 0 _
  | wsign m j =>
    refine MA.Sh.tuple fun x hx => ?_
    simp only [List.mem_cons, List.not_mem_nil, or_false] at hx
    rcases hx with rfl | rfl | rfl
    · exact st 1 ok_w_where
    · exact a 1 _
    · refine MA.Sh.tuple fun x hx => ?_
      simp only [List.mem_cons, List.not_mem_nil, or_false] at hx
      rcases hx with rfl | rfl | rfl; exact st 0 ok_w_turn; exact a 0 _; exact a 0 _
theorem ne_nil (rs : List Rw) : neD (.list (rs.map rwD)) (.list []) = some (.bool (!rs.isEmpty)) := by
  have h : MA.Sh 3 (.list (rs.map rwD)) := MA.Sh.list fun x hx => by obtain ⟨r, _, rfl⟩ := List.mem_map.mp hx; exact sh2 r
  have h1 : shp (.list (rs.map rwD)) = true := by
    show (PyData.canLay0 _ && decide (PyData.depth _ ≤ 64)) = true
    rw [h.1, decide_eq_true (Nat.le_trans h.2 (by decide))]; rfl
  have h2 : shp (.list ([] : List D)) = true := by rfl
  unfold neD
  rw [if_pos ⟨h1, h2⟩]
  cases rs with
  | nil => rfl
  | cons r rs => simp [PyData.eqv, PyData.eqvAll]
section
variable (z0 z1 : Sl) (l c : Int) (hz0 : isOw z0 = false) (hz1 : isOw z1 = false)
include hz0 hz1
theorem of2_no (rs : List Rw) (R : D) (sd : Int) (h : ¬ c % 5 < 2 ∨ rs = []) : of2 [z0, z1, .ow (rs.map rwD), .fz (.int l), .fz (.int c), .fz R, .fz (.int sd)] = some (.nx, [z0, z1, .ow (rs.map rwD), .fz (.int l), .fz (.int c), .fz R, .fz (.int sd)]) := by
  by_cases h1 : c % 5 < 2
  · have e : rs = [] := by rcases h with h | h; exact absurd h1 h; exact h
    subst e
    have nn : neD (.list ([] : List D)) (.list []) = some (.bool false) := rfl
    simp [-sSeq, -sIf, sSeq_k, sIf_k, of2, oPeek, dFz, hz0, hz1, h1, nn]
  · simp [-sSeq, -sIf, sSeq_k, sIf_k, of2, oPeek, dFz, hz0, hz1, h1]
theorem of2_look (ds : List D) (R Q : D) (q : Str) (sd k n : Int) (h1 : c % 5 < 2) (nn : neD (.list ds) (.list []) = some (.bool true)) (hn : (ds.length : Int) = n) (hk : modD (.int sd) (.int n) = some (.int k)) (hQ : atI ds k = some Q) (q0 : ixD Q (.int 0) = some (.str q)) (ql : neD (.str q) (.str "look") = some (.bool false)) : of2 [z0, z1, .ow ds, .fz (.int l), .fz (.int c), .fz R, .fz (.int sd)] = some (.nx, [z0, z1, .ow ds, .fz (.int l), .fz (.int c), .fz R, .fz (.int sd)]) := by
  simp [-sSeq, -sIf, sSeq_k, sIf_k, of2, oPeek, dFz, hz0, hz1, h1, nn, hn, hk, hQ, q0, ql]
theorem of2_yes (ds : List D) (R Q Q' : D) (q : Str) (sd k n : Int) (b : Bool) (h1 : c % 5 < 2) (nn : neD (.list ds) (.list []) = some (.bool true)) (hn : (ds.length : Int) = n) (hk : modD (.int sd) (.int n) = some (.int k)) (hQ : atI ds k = some Q) (q0 : ixD Q (.int 0) = some (.str q)) (ql : neD (.str q) (.str "look") = some (.bool true)) (qs : inD false (.str q) (.tuple [.str "sign", .str "cross"]) = some (.bool b)) (hb : b = true → ∃ x y, ixD Q (.int 1) = some x ∧ ixD Q (.int 2) = some y ∧ Q' = .tuple [.str q, y, x]) : of2 [z0, z1, .ow ds, .fz (.int l), .fz (.int c), .fz R, .fz (.int sd)] = some (.nx, [z0, z1, .ow ds, .fz (.int l), .fz (.int c), .fz (if b = true ∧ sd / 64 % 2 = 1 then Q' else Q), .fz (.int sd)]) := by
  cases b with
  | false => simp [-sSeq, -sIf, sSeq_k, sIf_k, of2, oPeek, dFz, hz0, hz1, h1, nn, hn, hk, hQ, q0, ql, qs]
  | true =>
    obtain ⟨x, y, x1, y1, rfl⟩ := hb rfl
    by_cases h2 : sd / 64 % 2 = 1
    · simp [-sSeq, -sIf, sSeq_k, sIf_k, of2, oPeek, dFz, hz0, hz1, h1, nn, hn, hk, hQ, q0, ql, qs, x1, y1, h2]
    · simp [-sSeq, -sIf, sSeq_k, sIf_k, of2, oPeek, dFz, hz0, hz1, h1, nn, hn, hk, hQ, q0, ql, qs, x1, y1, h2]
end
theorem insc (r : Rw) : inD false (.str r.wd) (.tuple [.str "sign", .str "cross"]) = some (.bool (match r with | .pl (.sign _ _) => true | .pl (.cross _ _) => true | _ => false)) := by
  cases r with
  | pl r => cases r <;> rfl
  | _ => rfl
theorem of2_eq (z0 z1 : Sl) (hz0 : isOw z0 = false) (hz1 : isOw z1 = false) (l c : Int) (rs : List Rw) (P : Rw → Prop) (hP1 : ∀ i j, P (.pl (.sign i j)) → P (.pl (.sign j i))) (hP2 : ∀ i j, P (.pl (.cross i j)) → P (.pl (.cross j i))) (hg : ∀ r ∈ rs, P r) (r0 : Rw) (h0 : P r0) (sd : Nat) : ∃ r' : Rw, P r' ∧ of2 [z0, z1, .ow (rs.map rwD), .fz (.int l), .fz (.int c), .fz (rwD r0), .fz (.int sd)] = some (.nx, [z0, z1, .ow (rs.map rwD), .fz (.int l), .fz (.int c), .fz (rwD r'), .fz (.int sd)]) := by
  by_cases h1 : ¬ c % 5 < 2 ∨ rs = []
  · exact ⟨r0, h0, of2_no z0 z1 l c hz0 hz1 rs _ sd h1⟩
  · have h5 : c % 5 < 2 := Classical.byContradiction fun z => h1 (.inl z)
    have hne : rs ≠ [] := fun z => h1 (.inr z)
    have hlen : 0 < rs.length := List.length_pos_iff.mpr hne
    have nn := ne_nil rs
    have he : rs.isEmpty = false := by cases rs; exact absurd rfl hne; rfl
    rw [he] at nn
    have hk := modD_int (i := (sd : Int)) (show (0 : Int) < (rs.length : Int) by omega)
    have a1 := Int.emod_nonneg (sd : Int) (show (rs.length : Int) ≠ 0 by omega)
    have a2 := Int.emod_lt_of_pos (sd : Int) (show (0 : Int) < (rs.length : Int) by omega)
    obtain ⟨k, ek⟩ : ∃ k : Nat, (sd : Int) % (rs.length : Int) = k := ⟨_, (Int.toNat_of_nonneg a1).symm⟩
    rw [ek] at hk a2
    have hkl : k < rs.length := by omega
    have hQ : atI (rs.map rwD) (k : Int) = some (rwD rs[k]) := atI_of (j := k) rfl (by simp [hkl])
    have hgk := hg rs[k] (List.getElem_mem hkl)
    generalize rs[k] = q at hQ hgk
    have hn : ((rs.map rwD).length : Int) = (rs.length : Int) := by simp
    cases hl : q.isLook with
    | true => exact ⟨r0, h0, of2_look z0 z1 l c hz0 hz1 _ _ _ _ sd k _ h5 nn hn hk hQ (wd_ix q) (by rw [ne_look, hl]; rfl)⟩
    | false =>
      have ql : neD (.str q.wd) (.str "look") = some (.bool true) := by rw [ne_look, hl]; rfl
      have qs := insc q
      by_cases hsc : (∃ i j, q = .pl (.sign i j)) ∨ (∃ i j, q = .pl (.cross i j))
      · rcases hsc with ⟨i, j, rfl⟩ | ⟨i, j, rfl⟩
        · have st := of2_yes z0 z1 l c hz0 hz1 (rs.map rwD) (rwD r0) _ (rwD (.pl (.sign j i))) _ sd k _ true h5 nn hn hk hQ (wd_ix _) ql qs (fun _ => ⟨_, _, at1 _ _ _, at2 _ _ _ _, rfl⟩)
          by_cases h2 : (sd : Int) / 64 % 2 = 1
          · rw [if_pos ⟨rfl, h2⟩] at st; exact ⟨.pl (.sign j i), hP1 _ _ hgk, st⟩
          · rw [if_neg (fun z => h2 z.2)] at st; exact ⟨_, hgk, st⟩
        · have st := of2_yes z0 z1 l c hz0 hz1 (rs.map rwD) (rwD r0) _ (rwD (.pl (.cross j i))) _ sd k _ true h5 nn hn hk hQ (wd_ix _) ql qs (fun _ => ⟨_, _, at1 _ _ _, at2 _ _ _ _, rfl⟩)
          by_cases h2 : (sd : Int) / 64 % 2 = 1
          · rw [if_pos ⟨rfl, h2⟩] at st; exact ⟨.pl (.cross j i), hP2 _ _ hgk, st⟩
          · rw [if_neg (fun z => h2 z.2)] at st; exact ⟨_, hgk, st⟩
      · have qs' : inD false (.str q.wd) (.tuple [.str "sign", .str "cross"]) = some (.bool false) := by
          rw [qs]
          cases q with
          | pl r =>
            cases r with
            | sign i j => exact absurd (.inl ⟨i, j, rfl⟩) hsc
            | cross i j => exact absurd (.inr ⟨i, j, rfl⟩) hsc
            | _ => rfl
          | _ => rfl
        have st := of2_yes z0 z1 l c hz0 hz1 (rs.map rwD) (rwD r0) (rwD q) .none _ sd k _ false h5 nn hn hk hQ (wd_ix _) ql qs' (fun z => nomatch z)
        rw [if_neg (fun z => nomatch z.1)] at st
        exact ⟨q, hgk, st⟩
theorem of3_x (z0 z1 z2 z4 z6 : Sl) (l : Int) (R j : D) (q : Str) (s : Bool) (q0 : ixD R (.int 0) = some (.str q)) (e : eqD (.str q) (.str "look") = some (.bool s)) (hj : s = true → ixD R (.int 1) = some j) : of3 [z0, z1, z2, .fz (.int l), z4, .fz R, z6] = some (.nx, [z0, z1, z2, .fz (.int l), z4, .fz (if s = true ∧ l = 3 then .tuple [.str "swing", j] else R), z6]) := by
  cases s with
  | false => simp [-sSeq, -sIf, sSeq_k, sIf_k, of3, q0, e]
  | true =>
    have hj := hj rfl
    by_cases h : l = 3
    · subst h
      simp [-sSeq, -sIf, sSeq_k, sIf_k, of3, q0, e, hj]
    · simp [-sSeq, -sIf, sSeq_k, sIf_k, of3, q0, e, hj, h]
theorem of3_eq (z0 z1 z2 z4 z6 : Sl) (l : Int) (r : Rw) (P : Rw → Prop) (hP : ∀ j, P (.pl (.swing j))) (hr : P r) : ∃ r' : Rw, P r' ∧ of3 [z0, z1, z2, .fz (.int l), z4, .fz (rwD r), z6] = some (.nx, [z0, z1, z2, .fz (.int l), z4, .fz (rwD r'), z6]) := by
  cases h : r.isLook with
  | false =>
    have st := of3_x z0 z1 z2 z4 z6 l (rwD r) .none _ false (wd_ix r) (by rw [eq_look, h]) (fun z => nomatch z)
    rw [if_neg (fun z => nomatch z.1)] at st
    exact ⟨r, hr, st⟩
  | true =>
    cases r with
    | look j =>
      have st := of3_x z0 z1 z2 z4 z6 l (rwD (.look j)) (.int j) _ true (wd_ix _) (eq_look _) (fun _ => at1 _ _ _)
      by_cases hl : l = 3
      · rw [if_pos ⟨rfl, hl⟩] at st; exact ⟨.pl (.swing j), hP j, st⟩
      · rw [if_neg (fun z => hl z.2)] at st; exact ⟨_, hr, st⟩
    | _ => cases h
theorem of4_x (z0 z1 z2 z4 z6 : Sl) (l l' : Int) (R : D) (q : Str) (s : Bool) (q0 : ixD R (.int 0) = some (.str q)) (e : eqD (.str q) (.str "look") = some (.bool s)) (hl : l + (if s = true then 1 else 0) = l') : of4 [z0, z1, z2, .fz (.int l), z4, .fz R, z6] = some (.nx, [z0, z1, z2, .fz (.int l'), z4, .fz R, z6]) := by
  simp [-sSeq, -sIf, sSeq_k, sIf_k, of4, q0, e, hl]
theorem of5_x (z0 z1 z3 z4 z6 : Sl) (ds : List D) (R : D) (hs : ds.length < sizeLine) : of5 [z0, z1, .ow ds, z3, z4, .fz R, z6] = some (.nx, [z0, z1, .ow (ds ++ [R]), z3, z4, .fz R, z6]) := by
  simp [-sSeq, -sIf, sSeq_k, sIf_k, of5, hs]
theorem of0_x (z0 z2 z6 z5 : Sl) (w l c : Int) (R : D) (h : g__law_row [.int c, .int w, .int l, .bool false] = some R) : of0 [z0, .fz (.int w), z2, .fz (.int l), .fz (.int c), z5, z6] = some (.nx, [z0, .fz (.int w), z2, .fz (.int l), .fz (.int c), .fz R, z6]) := by
  simp [-sSeq, -sIf, sSeq_k, sIf_k, of0, h]
theorem of1_x (z0 z1 z2 z3 z5 z6 : Sl) (c T : Int) (h : g__law_turn [.int (c / 5), .int 86028121] = some (.int T)) : of1 [z0, z1, z2, z3, .fz (.int c), z5, z6] = some (.nx, [z0, z1, z2, z3, .fz (.int c), z5, .fz (.int (T / 7))]) := by
  simp [-sSeq, -sIf, sSeq_k, sIf_k, of1, h]

/-- a where row asks a look ahead of it -/
def mb (l : Nat) : Rw → Prop
  | .wflip m _ => m < l
  | .wsign m _ => m < l
  | _ => True
theorem mb_of {w l : Nat} {r : Rw} (h : r.ok w l) : mb l r := by
  cases r with
  | wflip m j => exact h.1
  | wsign m j => exact h.1
  | _ => exact trivial
theorem mb_le {l l' : Nat} {r : Rw} (h : mb l r) (hl : l ≤ l') : mb l' r := by
  cases r with
  | wflip m j => exact Nat.lt_of_lt_of_le h hl
  | wsign m j => exact Nat.lt_of_lt_of_le h hl
  | _ => exact trivial
def lks (rs : List Rw) : Nat := rs.countP Rw.isLook
structure Ord (rs : List Rw) : Prop where
  gd : ∀ r ∈ rs, good r
  al : ∀ r ∈ rs, mb (lks rs) r
  at_ : ∀ i (h : i < rs.length), mb (lks (rs.take i)) rs[i]
theorem lks_app (a b : List Rw) : lks (a ++ b) = lks a + lks b := List.countP_append
theorem lks_one (r : Rw) : lks [r] = if r.isLook = true then 1 else 0 := by simp [lks]
theorem Ord.nil : Ord [] := ⟨fun _ h => (nomatch h), fun _ h => (nomatch h), fun _ h => absurd h (Nat.not_lt_zero _)⟩
theorem Ord.snoc {rs : List Rw} (h : Ord rs) {r : Rw} (g : good r) (m : mb (lks rs) r) : Ord (rs ++ [r]) := by
  refine ⟨fun x hx => ?_, fun x hx => ?_, fun i hi => ?_⟩
  · rcases List.mem_append.mp hx with z | z
    · exact h.gd x z
    · rw [List.mem_singleton.mp z]; exact g
  · refine mb_le (l := lks rs) ?_ (by rw [lks_app]; omega)
    rcases List.mem_append.mp hx with z | z
    · exact h.al x z
    · rw [List.mem_singleton.mp z]; exact m
  · by_cases q : i < rs.length
    · rw [List.getElem_append_left q, List.take_append_of_le_length (by omega)]
      exact h.at_ i q
    · have e : i = rs.length := by simp at hi; omega
      subst e
      simpa using m
theorem often_step (C : D) (w : Nat) (hw : 1 ≤ w) (l : Nat) (c : Int) (rs : List Rw) (hg : Ord rs) (hL : lks rs = l) (hs : rs.length < 1000) (z5 z6 : Sl) : ∃ (r' : Rw) (y5 y6 : Sl), good r' ∧ mb l r' ∧ l1__law_often [.fz C, .fz (.int w), .ow (rs.map rwD), .fz (.int l), .fz (.int c), z5, z6] = some (.nx, [.fz C, .fz (.int w), .ow ((rs ++ [r']).map rwD), .fz (.int (lks (rs ++ [r']) : Nat)), .fz (.int c), y5, y6]) := by
  obtain ⟨r0, e0, ok0, _⟩ := lrow_ok c w l hw false
  obtain ⟨T, eT⟩ := lturn_P (c / 5) 86028121 (by decide)
  obtain ⟨r1, g1, e2⟩ := of2_eq (.fz C) (.fz (.int w)) rfl rfl l c rs (fun r => good r ∧ mb l r) (fun i j h => ⟨Ne.symm h.1, trivial⟩) (fun i j h => ⟨Ne.symm h.1, trivial⟩) (fun r hr => ⟨hg.gd r hr, hL ▸ hg.al r hr⟩) r0 ⟨good_of ok0, mb_of ok0⟩ (T / 7)
  obtain ⟨r2, g2, e3⟩ := of3_eq (.fz C) (.fz (.int w)) (.ow (rs.map rwD)) (.fz (.int c)) (.fz (.int ((T / 7 : Nat) : Int))) l r1 (fun r => good r ∧ mb l r) (fun _ => ⟨trivial, trivial⟩) g1
  have e4 := of4_x (.fz C) (.fz (.int w)) (.ow (rs.map rwD)) (.fz (.int c)) (.fz (.int ((T / 7 : Nat) : Int))) l ((lks (rs ++ [r2]) : Nat) : Int) (rwD r2) _ _ (wd_ix r2) (eq_look r2) (by rw [lks_app, lks_one, hL]; cases r2.isLook <;> simp)
  have e5 := of5_x (.fz C) (.fz (.int w)) (.fz (.int ((lks (rs ++ [r2]) : Nat) : Int))) (.fz (.int c)) (.fz (.int ((T / 7 : Nat) : Int))) (rs.map rwD) (rwD r2) (by rw [List.length_map]; show _ < 16777216; omega)
  refine ⟨r2, .fz (rwD r2), .fz (.int ((T / 7 : Nat) : Int)), g2.1, g2.2, ?_⟩
  have e1 := of1_x (.fz C) (.fz (.int w)) (.ow (rs.map rwD)) (.fz (.int l)) (.fz (rwD r0)) z6 c T eT
  rw [show ((T : Int) / 7) = ((T / 7 : Nat) : Int) by omega] at e1
  rw [often_is, seq_nx (of0_x (.fz C) (.ow (rs.map rwD)) z6 z5 w l c _ e0), seq_nx e1, seq_nx e2, seq_nx e3, seq_nx e4, e5]
  simp
theorem often_loop (C : D) (w : Nat) (hw : 1 ≤ w) : ∀ (cs : List Int) (l : Nat) (rs : List Rw), Ord rs → lks rs = l → rs.length + cs.length ≤ 1000 → ∀ z4 z5 z6, ∃ (rs' : List Rw) (y3 y4 y5 y6 : Sl), Ord rs' ∧ rs'.length = rs.length + cs.length ∧ loop (gN 4) l1__law_often (cs.map .int) [.fz C, .fz (.int w), .ow (rs.map rwD), .fz (.int l), z4, z5, z6] = some (.nx, [.fz C, .fz (.int w), .ow (rs'.map rwD), y3, y4, y5, y6])
  | [], l, rs, hg, _, _, z4, z5, z6 => ⟨rs, .fz (.int l), z4, z5, z6, hg, by simp, rfl⟩
  | c :: cs, l, rs, hg, hL, hl, z4, z5, z6 => by
    simp only [List.length_cons] at hl
    obtain ⟨r', y5, y6, g, m, st⟩ := often_step C w hw l c rs hg hL (by omega) z5 z6
    obtain ⟨rs', y3, y4, y5', y6', h1, h2, e⟩ := often_loop C w hw cs _ (rs ++ [r']) (hg.snoc g (hL ▸ m)) rfl (by simp; omega) (.fz (.int c)) y5 y6
    refine ⟨rs', y3, y4, y5', y6', h1, by rw [h2]; simp; omega, ?_⟩
    rw [List.map_cons, loop_step (δ1 := [.fz C, .fz (.int w), .ow (rs.map rwD), .fz (.int l), .fz (.int c), z5, z6]) (by simp) st, e]
theorem often_eq (w : Nat) (hw : 1 ≤ w) (cs : List Int) (hl : cs.length ≤ 1000) : ∃ rs : List Rw, Ord rs ∧ rs.length = cs.length ∧ g__law_often [.list (cs.map .int), .int w] = some (cirD w rs) := by
  obtain ⟨rs, y3, y4, y5, y6, h1, h2, e⟩ := often_loop (.list (cs.map .int)) w hw cs 0 [] Ord.nil rfl (by simpa using hl) .un .un .un
  refine ⟨rs, h1, by simpa using h2, ?_⟩
  have e' : loop (gN 4) l1__law_often (cs.map .int) [.fz (.list (cs.map .int)), .fz (.int w), .ow [], .fz (.int 0), .un, .un, .un] = _ := e
  simp [-sSeq, -sIf, sSeq_k, sIf_k, g__law_often, runB, b__law_often, startD, e', dFz, cirD]
/-! ### two rows held side by side -/
def Rw.n1 : Rw → Nat
  | .pl (.swing j) => j
  | .pl (.turn j _) => j
  | .pl (.flip j) => j
  | .pl (.tie i _) => i
  | .pl (.sign i _) => i
  | .pl (.cross i _) => i
  | .look j => j
  | .wflip m _ => m
  | .wsign m _ => m
theorem sl2r (r : Rw) : slD (rwD r) none (some 2) = some (.tuple [.str r.wd, .int r.n1]) := by
  cases r with
  | pl r => cases r <;> rfl
  | _ => rfl
theorem n1_ix (r : Rw) : ixD (rwD r) (.int 1) = some (.int r.n1) := by
  cases r with
  | pl r => cases r <;> exact at1 _ _ _
  | _ => exact at1 _ _ _
def Rw.isT : Rw → Bool
  | .pl (.turn _ _) => true
  | _ => false
def Rw.isS : Rw → Bool
  | .pl (.swing _) => true
  | _ => false
def Rw.isTL : Rw → Bool
  | .pl (.turn _ _) => true
  | .look _ => true
  | _ => false
def Rw.isSC : Rw → Bool
  | .pl (.sign _ _) => true
  | .pl (.cross _ _) => true
  | _ => false
theorem eq_turn (r : Rw) : eqD (.str r.wd) (.str "turn") = some (.bool r.isT) := by
  cases r with
  | pl r => cases r <;> simp [Rw.wd, Rw.isT]
  | _ => simp [Rw.wd, Rw.isT]
theorem eq_swing (r : Rw) : eqD (.str r.wd) (.str "swing") = some (.bool r.isS) := by
  cases r with
  | pl r => cases r <;> simp [Rw.wd, Rw.isS]
  | _ => simp [Rw.wd, Rw.isS]
theorem wd_swing (r : Rw) : (r.wd == ("swing" : Str)) = r.isS := by
  have h := eq_swing r
  rw [eqS (wd_ok r) ok_w_swing] at h
  simpa using h
theorem ne_swing (r : Rw) : neD (.str r.wd) (.str "swing") = some (.bool (!r.isS)) := by rw [neS (wd_ok r) ok_w_swing, wd_swing]
theorem intl (r : Rw) : inD false (.str r.wd) (.tuple [.str "turn", .str "look"]) = some (.bool r.isTL) := by
  cases r with
  | pl r => cases r <;> rfl
  | _ => rfl
theorem insc' (r : Rw) : inD false (.str r.wd) (.tuple [.str "sign", .str "cross"]) = some (.bool r.isSC) := by
  cases r with
  | pl r => cases r <;> rfl
  | _ => rfl
theorem shp_of {k : Nat} {d : D} (h : MA.Sh k d) (hk : k ≤ 64) : shp d = true := by
  show (PyData.canLay0 _ && decide (PyData.depth _ ≤ 64)) = true
  rw [h.1, decide_eq_true (Nat.le_trans h.2 hk)]; rfl
theorem shp_r (r : Rw) : shp (rwD r) = true := shp_of (sh2 r) (by decide)
theorem sh_str {s : Str} (k : Nat) (h : okS s = true) : MA.Sh k (.str s) := ⟨shpS h, by simp [PyData.depth]⟩
theorem eqT2 {a b : Str} (ha : okS a = true) (hb : okS b = true) (x y : Int) : eqD (.tuple [.str a, .int x]) (.tuple [.str b, .int y]) = some (.bool (a == b && x == y)) := by
  have h : ∀ {a : Str}, okS a = true → ∀ x : Int, shp (.tuple [.str a, .int x]) = true := fun ha x => shp_of (k := 1) (MA.Sh.tuple fun z hz => by
    simp only [List.mem_cons, List.not_mem_nil, or_false] at hz
    rcases hz with rfl | rfl
    · exact sh_str 0 ha
    · exact MA.Sh.int 0 _) (by decide)
  unfold eqD
  rw [if_pos ⟨h ha x, h hb y⟩]
  simp [PyData.eqv, PyData.eqvAll]
theorem eqI2 (a b c d : Int) : eqD (.tuple [.int a, .int b]) (.tuple [.int c, .int d]) = some (.bool (a == c && b == d)) := by
  have h : ∀ x y : Int, shp (.tuple [.int x, .int y]) = true := fun x y => shp_of (k := 1) (MA.Sh.tuple fun z hz => by
    simp only [List.mem_cons, List.not_mem_nil, or_false] at hz
    rcases hz with rfl | rfl <;> exact MA.Sh.int 0 _) (by decide)
  unfold eqD
  rw [if_pos ⟨h a b, h c d⟩]
  simp [PyData.eqv, PyData.eqvAll]
theorem eqIL (a b c d : Int) : eqD (.list [.int a, .int b]) (.list [.int c, .int d]) = some (.bool (a == c && b == d)) := by
  have h : ∀ x y : Int, shp (.list [.int x, .int y]) = true := fun x y => shp_of (k := 1) (MA.Sh.list fun z hz => by
    simp only [List.mem_cons, List.not_mem_nil, or_false] at hz
    rcases hz with rfl | rfl <;> exact MA.Sh.int 0 _) (by decide)
  unfold eqD
  rw [if_pos ⟨h a b, h c d⟩]
  simp [PyData.eqv, PyData.eqvAll]
def te (r q : Rw) : Bool := r.wd == q.wd && ((r.n1 : Int) == q.n1)
theorem te_comm (r q : Rw) : te r q = te q r := by
  unfold te
  rw [Bool.beq_comm (a := r.wd), Bool.beq_comm (a := (r.n1 : Int))]
theorem te_eq (r q : Rw) : eqD (.tuple [.str r.wd, .int r.n1]) (.tuple [.str q.wd, .int q.n1]) = some (.bool (te r q)) := eqT2 (wd_ok r) (wd_ok q) _ _
/-- rows told equal -/
def eqr (r q : Rw) : Bool := PyData.eqv (rwD r) (rwD q)
theorem eqr_eq (r q : Rw) : eqD (rwD r) (rwD q) = some (.bool (eqr r q)) := if_pos ⟨shp_r r, shp_r q⟩
theorem eqr_ne (r q : Rw) : neD (rwD r) (rwD q) = some (.bool (!eqr r q)) := if_pos ⟨shp_r r, shp_r q⟩
theorem rwD_form (r : Rw) : ∃ t, rwD r = .tuple (.str r.wd :: t) := by
  cases r with
  | pl r => cases r <;> exact ⟨_, rfl⟩
  | _ => exact ⟨_, rfl⟩
theorem eqr_wd {r q : Rw} (h : eqr r q = true) : r.wd = q.wd := by
  obtain ⟨t, e⟩ := rwD_form r
  obtain ⟨u, f⟩ := rwD_form q
  unfold eqr at h
  rw [e, f] at h
  simp [PyData.eqv, PyData.eqvAll] at h
  exact h.1
theorem eqr_no {r q : Rw} (h : (r.wd == q.wd) = false) : eqr r q = false := by
  cases e : eqr r q with
  | false => rfl
  | true => rw [eqr_wd e] at h; simp at h
theorem un_x (A B : D) (a b : Str) (s1 s2 c v e : Bool) (a0 : ixD A (.int 0) = some (.str a)) (b0 : ixD B (.int 0) = some (.str b)) (h1 : inD false (.str a) (.tuple [.str "turn", .str "look"]) = some (.bool s1)) (h2 : inD false (.str a) (.tuple [.str "sign", .str "cross"]) = some (.bool s2)) (e1 : eqD (.str a) (.str b) = some (.bool c)) (hw : s2 = true → c = true → ∃ W V, g_wires_of [A] = some W ∧ g_wires_of [B] = some V ∧ eqD W V = some (.bool v)) (he : eqD A B = some (.bool e)) : g_undone_by [A, B] = some (.bool (if s1 then false else if s2 then c && v else e)) := by
  cases s1 with
  | true => simp [-sSeq, -sIf, sSeq_k, sIf_k, g_undone_by, runB, b_undone_by, startD, a0, h1]
  | false =>
    cases s2 with
    | false => simp [-sSeq, -sIf, sSeq_k, sIf_k, g_undone_by, runB, b_undone_by, startD, a0, h1, h2, he]
    | true =>
      cases c with
      | false => simp [-sSeq, -sIf, sSeq_k, sIf_k, g_undone_by, runB, b_undone_by, startD, a0, b0, h1, h2, e1]
      | true =>
        obtain ⟨W, V, w1, w2, w3⟩ := hw rfl rfl
        simp [-sSeq, -sIf, sSeq_k, sIf_k, g_undone_by, runB, b_undone_by, startD, a0, b0, h1, h2, e1, w1, w2, w3]
theorem lu_x (A B : D) (a b : Str) (s1 s2 c v e : Bool) (a0 : ixD A (.int 0) = some (.str a)) (b0 : ixD B (.int 0) = some (.str b)) (h1 : inD false (.str a) (.tuple [.str "turn", .str "look"]) = some (.bool s1)) (h2 : inD false (.str a) (.tuple [.str "sign", .str "cross"]) = some (.bool s2)) (e1 : eqD (.str a) (.str b) = some (.bool c)) (hw : s2 = true → c = true → ∃ SA SB W V, slD A (some 1) none = some SA ∧ slD B (some 1) none = some SB ∧ sortD SA = some W ∧ sortD SB = some V ∧ eqD W V = some (.bool v)) (he : eqD A B = some (.bool e)) : g__law_undo [A, B] = some (.bool (if s1 then false else if s2 && c then v else e)) := by
  cases s1 with
  | true => simp [-sSeq, -sIf, sSeq_k, sIf_k, g__law_undo, runB, b__law_undo, startD, a0, h1]
  | false =>
    cases s2 with
    | false => simp [-sSeq, -sIf, sSeq_k, sIf_k, g__law_undo, runB, b__law_undo, startD, a0, h1, h2, he]
    | true =>
      cases c with
      | false => simp [-sSeq, -sIf, sSeq_k, sIf_k, g__law_undo, runB, b__law_undo, startD, a0, b0, h1, h2, e1, he]
      | true =>
        obtain ⟨SA, SB, W, V, w1, w2, w3, w4, w5⟩ := hw rfl rfl
        simp [-sSeq, -sIf, sSeq_k, sIf_k, g__law_undo, runB, b__law_undo, startD, a0, b0, h1, h2, e1, w1, w2, w3, w4, w5]
theorem sort2 (i j : Nat) : sortD (.tuple [.int i, .int j]) = some (.list [.int (min i j : Nat), .int (max i j : Nat)]) := by
  have h : isortI [(i : Int), (j : Int)] = [((min i j : Nat) : Int), ((max i j : Nat) : Int)] := by
    simp only [isortI, insI]
    split
    · rename_i h; rw [Nat.min_eq_left (by omega), Nat.max_eq_right (by omega)]
    · rename_i h; rw [Nat.min_eq_right (by omega), Nat.max_eq_left (by omega)]
  show some (PyData.list ((isortI [(i : Int), (j : Int)]).map .int)) = _
  rw [h]; rfl
/-- the two wires of a sign or a cross -/
def w2 : Rw → Nat × Nat
  | .pl (.sign i j) => (min i j, max i j)
  | .pl (.cross i j) => (min i j, max i j)
  | _ => (0, 0)
def un (r q : Rw) : Bool := if r.isTL then false else if r.isSC then (r.wd == q.wd && (((w2 r).1 : Int) == (w2 q).1 && ((w2 r).2 : Int) == (w2 q).2)) else eqr r q
theorem sc_wires {r : Rw} (h : r.isSC = true) : g_wires_of [rwD r] = some (.tuple [.int (w2 r).1, .int (w2 r).2]) := by
  have := wires_eq r
  cases r with
  | pl r => cases r <;> first | exact this | cases h
  | _ => cases h
theorem sc_sort {r : Rw} (h : r.isSC = true) : ∃ S, slD (rwD r) (some 1) none = some S ∧ sortD S = some (.list [.int (w2 r).1, .int (w2 r).2]) := by
  cases r with
  | pl r => cases r <;> first | exact ⟨_, sl3 _ _ _, sort2 _ _⟩ | cases h
  | _ => cases h
theorem sc_same {r q : Rw} (h : r.isSC = true) (e : (r.wd == q.wd) = true) : q.isSC = true := by
  have a := insc' r
  have b := insc' q
  rw [eq_of_beq e] at a
  rw [a] at b
  simp at b
  rw [← b, h]
theorem un_eq (r q : Rw) : g_undone_by [rwD r, rwD q] = some (.bool (un r q)) := by
  have := un_x (rwD r) (rwD q) r.wd q.wd r.isTL r.isSC (r.wd == q.wd) (((w2 r).1 : Int) == (w2 q).1 && ((w2 r).2 : Int) == (w2 q).2) (eqr r q) (wd_ix r) (wd_ix q) (intl r) (insc' r) (eqS (wd_ok r) (wd_ok q)) (fun h c => ⟨_, _, sc_wires h, sc_wires (sc_same h c), eqI2 _ _ _ _⟩) (eqr_eq r q)
  exact this
theorem lu_eq (r q : Rw) : g__law_undo [rwD r, rwD q] = some (.bool (un r q)) := by
  have := lu_x (rwD r) (rwD q) r.wd q.wd r.isTL r.isSC (r.wd == q.wd) (((w2 r).1 : Int) == (w2 q).1 && ((w2 r).2 : Int) == (w2 q).2) (eqr r q) (wd_ix r) (wd_ix q) (intl r) (insc' r) (eqS (wd_ok r) (wd_ok q)) (fun h c => by
    obtain ⟨S, a1, a2⟩ := sc_sort h
    obtain ⟨S', b1, b2⟩ := sc_sort (sc_same h c)
    exact ⟨_, _, _, _, a1, b1, a2, b2, eqIL _ _ _ _⟩) (eqr_eq r q)
  rw [this]
  unfold un
  cases h1 : r.isTL with
  | true => rfl
  | false =>
    cases h2 : r.isSC with
    | false => rfl
    | true =>
      cases h3 : (r.wd == q.wd) with
      | true => simp
      | false => simp [eqr_no h3]
/-! ### a row told between two swings -/
def swR (r : Rw) (w : Nat) : Option Rw := match r with
  | .pl (.flip j) => if j = w then some (.pl (.turn w 4)) else none
  | .pl (.turn j e) => if j = w ∧ e = 4 then some (.pl (.flip w)) else none
  | .pl (.tie i j) => if j = w then some (.pl (.sign i w)) else none
  | .pl (.sign i j) => if i = w then some (.pl (.tie j w)) else if j = w then some (.pl (.tie i w)) else none
  | .wflip m j => if j = w then some (.wsign m w) else none
  | .wsign m j => if j = w then some (.wflip m w) else none
  | _ => none
theorem swR_wl {r r' : Rw} {w : Nat} (h : swR r w = some r') : w ∈ wl r := by
  cases r with
  | pl r =>
    cases r with
    | flip j => simp [swR] at h; simp [wl, h]
    | turn j e => simp [swR] at h; simp [wl, h]
    | tie i j =>
      simp only [swR] at h
      split at h
      · rename_i e; subst e
        simp only [wl, List.mem_cons, List.not_mem_nil, or_false]; omega
      · cases h
    | sign i j =>
      simp only [swR] at h
      split at h
      · rename_i e; subst e
        simp only [wl, List.mem_cons, List.not_mem_nil, or_false]; omega
      · split at h
        · rename_i e; subst e
          simp only [wl, List.mem_cons, List.not_mem_nil, or_false]; omega
        · cases h
    | _ => cases h
  | look j => cases h
  | wflip m j => simp [swR] at h; simp [wl, h]
  | wsign m j => simp [swR] at h; simp [wl, h]
def opD : Option Rw → D
  | some r => rwD r
  | none => .none
theorem shx (s : Str) (h : okS s = true) (l : List Int) : shp (.tuple (.str s :: l.map .int)) = true := shp_of (k := 1) (MA.Sh.tuple fun z hz => by
    rcases List.mem_cons.mp hz with rfl | hz
    · exact sh_str 0 h
    · obtain ⟨i, _, rfl⟩ := List.mem_map.mp hz
      exact MA.Sh.int 0 _) (by decide)
theorem eqW {a b : Str} (ha : okS a = true) (hb : okS b = true) (h : (a == b) = false) (l m : List Int) : eqD (.tuple (.str a :: l.map .int)) (.tuple (.str b :: m.map .int)) = some (.bool false) := by
  unfold eqD
  rw [if_pos ⟨shx a ha l, shx b hb m⟩]
  simp at h
  simp [PyData.eqv, PyData.eqvAll, h]
theorem eqF (j w : Int) : eqD (.tuple [.str "flip", .int j]) (.tuple [.str "flip", .int w]) = some (.bool (j == w)) := by
  rw [eqT2 ok_w_flip ok_w_flip]; simp
theorem eqU (j e w f : Int) : eqD (.tuple [.str "turn", .int j, .int e]) (.tuple [.str "turn", .int w, .int f]) = some (.bool (j == w && e == f)) := by
  unfold eqD
  rw [if_pos ⟨shx _ ok_w_turn [j, e], shx _ ok_w_turn [w, f]⟩]
  simp [PyData.eqv, PyData.eqvAll]
theorem xTF (j e w : Int) : eqD (.tuple [.str "turn", .int j, .int e]) (.tuple [.str "flip", .int w]) = some (.bool false) := eqW ok_w_turn ok_w_flip (by decide +kernel) [j, e] [w]
theorem xFT (j e w : Int) : eqD (.tuple [.str "flip", .int j]) (.tuple [.str "turn", .int w, .int e]) = some (.bool false) := eqW ok_w_flip ok_w_turn (by decide +kernel) [j] [w, e]
theorem xIF (j e w : Int) : eqD (.tuple [.str "tie", .int j, .int e]) (.tuple [.str "flip", .int w]) = some (.bool false) := eqW ok_w_tie ok_w_flip (by decide +kernel) [j, e] [w]
theorem xIT (j e w f : Int) : eqD (.tuple [.str "tie", .int j, .int e]) (.tuple [.str "turn", .int w, .int f]) = some (.bool false) := eqW ok_w_tie ok_w_turn (by decide +kernel) [j, e] [w, f]
theorem xSF (j e w : Int) : eqD (.tuple [.str "sign", .int j, .int e]) (.tuple [.str "flip", .int w]) = some (.bool false) := eqW ok_w_sign ok_w_flip (by decide +kernel) [j, e] [w]
theorem xST (j e w f : Int) : eqD (.tuple [.str "sign", .int j, .int e]) (.tuple [.str "turn", .int w, .int f]) = some (.bool false) := eqW ok_w_sign ok_w_turn (by decide +kernel) [j, e] [w, f]
theorem xCF (j e w : Int) : eqD (.tuple [.str "cross", .int j, .int e]) (.tuple [.str "flip", .int w]) = some (.bool false) := eqW ok_w_cross ok_w_flip (by decide +kernel) [j, e] [w]
theorem xCT (j e w f : Int) : eqD (.tuple [.str "cross", .int j, .int e]) (.tuple [.str "turn", .int w, .int f]) = some (.bool false) := eqW ok_w_cross ok_w_turn (by decide +kernel) [j, e] [w, f]
theorem xGF (j w : Int) : eqD (.tuple [.str "swing", .int j]) (.tuple [.str "flip", .int w]) = some (.bool false) := eqW ok_w_swing ok_w_flip (by decide +kernel) [j] [w]
theorem xGT (j w f : Int) : eqD (.tuple [.str "swing", .int j]) (.tuple [.str "turn", .int w, .int f]) = some (.bool false) := eqW ok_w_swing ok_w_turn (by decide +kernel) [j] [w, f]
theorem xLF (j w : Int) : eqD (.tuple [.str "look", .int j]) (.tuple [.str "flip", .int w]) = some (.bool false) := eqW ok_w_look ok_w_flip (by decide +kernel) [j] [w]
theorem xLT (j w f : Int) : eqD (.tuple [.str "look", .int j]) (.tuple [.str "turn", .int w, .int f]) = some (.bool false) := eqW ok_w_look ok_w_turn (by decide +kernel) [j] [w, f]
section
variable (G : List D → Option D)
theorem pw_flip (j w : Nat) : runB N_swung_row 2 (b_swung_row G) [.tuple [.str "flip", .int j], .int w] = some (opD (swR (.pl (.flip j)) w)) := by
  by_cases h : j = w
  · subst h
    simp [-sSeq, -sIf, sSeq_k, sIf_k, runB, b_swung_row, startD, eqF, swR, opD, rwD, rowD]
  · have h' : ¬ (j : Int) = w := by omega
    simp [-sSeq, -sIf, sSeq_k, sIf_k, runB, b_swung_row, startD, eqF, xFT, swR, opD, rwD, rowD, h, h']
theorem pw_turn (j e w : Nat) : runB N_swung_row 2 (b_swung_row G) [.tuple [.str "turn", .int j, .int e], .int w] = some (opD (swR (.pl (.turn j e)) w)) := by
  by_cases h : j = w ∧ e = 4
  · obtain ⟨rfl, rfl⟩ := h
    have := xTF j 4 j
    have := eqU j 4 j 4
    simp [-sSeq, -sIf, sSeq_k, sIf_k, runB, b_swung_row, startD, xTF, eqU, swR, opD, rwD, rowD]
  · have h' : (((j : Int) == w) && ((e : Int) == 4)) = false := by
      cases q : (((j : Int) == w) && ((e : Int) == 4)) with
      | false => rfl
      | true => simp at q; exact absurd ⟨by omega, by omega⟩ h
    have u := eqU j e w 4
    rw [h'] at u
    have s : swR (.pl (.turn j e)) w = none := by simp only [swR]; rw [if_neg h]
    simp [-sSeq, -sIf, sSeq_k, sIf_k, runB, b_swung_row, startD, xTF, u, s, opD]
theorem pw_tie (i j w : Nat) : runB N_swung_row 2 (b_swung_row G) [.tuple [.str "tie", .int i, .int j], .int w] = some (opD (swR (.pl (.tie i j)) w)) := by
  by_cases h : j = w
  · subst h
    simp [-sSeq, -sIf, sSeq_k, sIf_k, runB, b_swung_row, startD, xIF, xIT, swR, opD, rwD, rowD]
  · have h' : ¬ (j : Int) = w := by omega
    simp [-sSeq, -sIf, sSeq_k, sIf_k, runB, b_swung_row, startD, xIF, xIT, swR, opD, rwD, rowD, h, h']
theorem pw_sign (i j w : Nat) (hw : w = i ∨ w = j) : runB N_swung_row 2 (b_swung_row G) [.tuple [.str "sign", .int i, .int j], .int w] = some (opD (swR (.pl (.sign i j)) w)) := by
  by_cases h : i = w
  · subst h
    simp [-sSeq, -sIf, sSeq_k, sIf_k, runB, b_swung_row, startD, xSF, xST, swR, opD, rwD, rowD]
  · have h' : ¬ (i : Int) = w := by omega
    have h2 : j = w := by omega
    subst h2
    simp [-sSeq, -sIf, sSeq_k, sIf_k, runB, b_swung_row, startD, xSF, xST, swR, opD, rwD, rowD, h, h']
theorem pw_rest (j w : Nat) : runB N_swung_row 2 (b_swung_row G) [.tuple [.str "swing", .int j], .int w] = some .none := by
  simp [-sSeq, -sIf, sSeq_k, sIf_k, runB, b_swung_row, startD, xGF, xGT]
theorem pw_cross (i j w : Nat) : runB N_swung_row 2 (b_swung_row G) [.tuple [.str "cross", .int i, .int j], .int w] = some .none := by
  simp [-sSeq, -sIf, sSeq_k, sIf_k, runB, b_swung_row, startD, xCF, xCT]
theorem pw_look (j w : Nat) : runB N_swung_row 2 (b_swung_row G) [.tuple [.str "look", .int j], .int w] = some .none := by
  simp [-sSeq, -sIf, sSeq_k, sIf_k, runB, b_swung_row, startD, xLF, xLT]
theorem pw_where (m w : Int) (I J : D) (h : G [I, .int w] = some J) : runB N_swung_row 2 (b_swung_row G) [.tuple [.str "where", .int m, I], .int w] = some (.tuple [.str "where", .int m, J]) := by
  simp [-sSeq, -sIf, sSeq_k, sIf_k, runB, b_swung_row, startD, h]
theorem mem2 {i j w : Nat} (h : w ∈ [min i j, max i j]) : w = i ∨ w = j := by
  simp only [List.mem_cons, List.not_mem_nil, or_false] at h; omega
theorem psw {r : Rw} {w : Nat} (h : w ∈ wl r) : g_swung_row [rwD r, .int w] = some (opD (swR r w)) := by
  cases r with
  | pl r =>
    cases r with
    | swing j => exact pw_rest (r_swung_row 7) j w
    | turn j e => exact pw_turn (r_swung_row 7) j e w
    | flip j => exact pw_flip (r_swung_row 7) j w
    | tie i j => exact pw_tie (r_swung_row 7) i j w
    | sign i j => exact pw_sign (r_swung_row 7) i j w (mem2 h)
    | cross i j => exact pw_cross (r_swung_row 7) i j w
  | look j => exact pw_look (r_swung_row 7) j w
  | wflip m j =>
    have e : w = j := by simpa [wl] using h
    subst e
    have a := pw_where (r_swung_row 7) m w _ _ (pw_flip (r_swung_row 6) w w)
    have s : swR (.pl (.flip w)) w = some (.pl (.turn w 4)) := by simp [swR]
    have t : swR (.wflip m w) w = some (.wsign m w) := by simp [swR]
    rw [s] at a
    rw [t]
    exact a
  | wsign m j =>
    have e : w = j := by simpa [wl] using h
    subst e
    have a := pw_where (r_swung_row 7) m w _ _ (pw_turn (r_swung_row 6) w 4 w)
    have s : swR (.pl (.turn w 4)) w = some (.pl (.flip w)) := by simp [swR]
    have t : swR (.wsign m w) w = some (.wflip m w) := by simp [swR]
    rw [s] at a
    rw [t]
    exact a
end
def olD (o : Option Rw) : D := .list (o.toList.map rwD)
section
variable (G : List D → Option D)
theorem lw_flip (j w : Nat) : runB N__law_swung 2 (b__law_swung G) [.tuple [.str "flip", .int j], .int w] = some (olD (swR (.pl (.flip j)) w)) := by
  by_cases h : j = w
  · subst h
    simp [-sSeq, -sIf, sSeq_k, sIf_k, runB, b__law_swung, startD, eqF, swR, olD, rwD, rowD]
  · have h' : ¬ (j : Int) = w := by omega
    simp [-sSeq, -sIf, sSeq_k, sIf_k, runB, b__law_swung, startD, eqF, xFT, swR, olD, rwD, rowD, h, h']
theorem lw_turn (j e w : Nat) : runB N__law_swung 2 (b__law_swung G) [.tuple [.str "turn", .int j, .int e], .int w] = some (olD (swR (.pl (.turn j e)) w)) := by
  by_cases h : j = w ∧ e = 4
  · obtain ⟨rfl, rfl⟩ := h
    simp [-sSeq, -sIf, sSeq_k, sIf_k, runB, b__law_swung, startD, xTF, eqU, swR, olD, rwD, rowD]
  · have h' : (((j : Int) == w) && ((e : Int) == 4)) = false := by
      cases q : (((j : Int) == w) && ((e : Int) == 4)) with
      | false => rfl
      | true => simp at q; exact absurd ⟨by omega, by omega⟩ h
    have u := eqU j e w 4
    rw [h'] at u
    have s : swR (.pl (.turn j e)) w = none := by simp only [swR]; rw [if_neg h]
    simp [-sSeq, -sIf, sSeq_k, sIf_k, runB, b__law_swung, startD, xTF, u, s, olD]
theorem lw_tie (i j w : Nat) : runB N__law_swung 2 (b__law_swung G) [.tuple [.str "tie", .int i, .int j], .int w] = some (olD (swR (.pl (.tie i j)) w)) := by
  by_cases h : j = w
  · subst h
    simp [-sSeq, -sIf, sSeq_k, sIf_k, runB, b__law_swung, startD, xIF, xIT, swR, olD, rwD, rowD]
  · have h' : ¬ (j : Int) = w := by omega
    simp [-sSeq, -sIf, sSeq_k, sIf_k, runB, b__law_swung, startD, xIF, xIT, swR, olD, rwD, rowD, h, h']
theorem inI2 (w i j : Nat) : inD false (.int w) (.tuple [.int i, .int j]) = some (.bool ([i, j].any (· == w))) := in_wires w [i, j]
theorem p2sw (i j w : Nat) : p2__law_swung G [.fz (.tuple [.str "sign", .int i, .int j]), .fz (.int w)] = some (.list (([i, j].filter fun x => !(x == w)).map fun n : Nat => .int n)) := by
  have := compI_map (fi := oI (oSl (oV 0) (oP (oC (.int 1))) (oNo)) itsD) (caps := [(1, "wire")]) (ft := ob (o2 (oV 0) (oV 1) neD)) (fe := oV 0) (δ := [.fz (.tuple [.str "sign", .int i, .int j]), .fz (.int w)]) (h := fun n : Nat => PyData.int n) (k := fun n : Nat => PyData.int n) (b := fun x => !(x == w)) (xs := [i, j]) (by simp [sl3]) (by simp) (fun x _ => by
    simp [capS, nat_beq]) (fun x _ _ => by simp)
  exact this
theorem lw_sign (i j w : Nat) (hg : i ≠ j) : runB N__law_swung 2 (b__law_swung G) [.tuple [.str "sign", .int i, .int j], .int w] = some (olD (swR (.pl (.sign i j)) w)) := by
  have p := p2sw G i j w
  have n := inI2 w i j
  by_cases h : i = w
  · subst h
    have n' : inD false (.int i) (.tuple [.int i, .int j]) = some (.bool true) := by rw [n]; simp
    have p' : p2__law_swung G [.fz (.tuple [.str "sign", .int i, .int j]), .fz (.int i)] = some (.list [.int j]) := by
      have q : (j == i) = false := by simpa using Ne.symm hg
      rw [p]; simp [List.filter, q]
    simp [-sSeq, -sIf, sSeq_k, sIf_k, runB, b__law_swung, startD, xSF, xST, sl3, n', p', swR, olD, rwD, rowD]
  · by_cases h2 : j = w
    · subst h2
      have n' : inD false (.int j) (.tuple [.int i, .int j]) = some (.bool true) := by rw [n]; simp
      have p' : p2__law_swung G [.fz (.tuple [.str "sign", .int i, .int j]), .fz (.int j)] = some (.list [.int i]) := by
        have q : (i == j) = false := by simpa using hg
        rw [p]; simp [List.filter, q]
      simp [-sSeq, -sIf, sSeq_k, sIf_k, runB, b__law_swung, startD, xSF, xST, sl3, n', p', swR, olD, rwD, rowD, h]
    · have n' : inD false (.int w) (.tuple [.int i, .int j]) = some (.bool false) := by rw [n]; simp [h, h2]
      simp [-sSeq, -sIf, sSeq_k, sIf_k, runB, b__law_swung, startD, xSF, xST, sl3, n', swR, olD, rwD, rowD, h, h2]
theorem lw_rest (j w : Nat) : runB N__law_swung 2 (b__law_swung G) [.tuple [.str "swing", .int j], .int w] = some (.list []) := by
  simp [-sSeq, -sIf, sSeq_k, sIf_k, runB, b__law_swung, startD, xGF, xGT]
theorem lw_cross (i j w : Nat) : runB N__law_swung 2 (b__law_swung G) [.tuple [.str "cross", .int i, .int j], .int w] = some (.list []) := by
  simp [-sSeq, -sIf, sSeq_k, sIf_k, runB, b__law_swung, startD, xCF, xCT]
theorem lw_look (j w : Nat) : runB N__law_swung 2 (b__law_swung G) [.tuple [.str "look", .int j], .int w] = some (.list []) := by
  simp [-sSeq, -sIf, sSeq_k, sIf_k, runB, b__law_swung, startD, xLF, xLT]
theorem lw_where (m w : Nat) (I : D) (L : List Rw) (hL : L.length ≤ 1) (h : G [I, .int w] = some (.list (L.map rwD))) : runB N__law_swung 2 (b__law_swung G) [.tuple [.str "where", .int m, I], .int w] = some (.list (L.map fun r => .tuple [.str "where", .int m, rwD r])) := by
  have c := comp_map (fi := oI (VL.os (oCons (o2 (oV 0) (oC (.int 2)) ixD) (oCons (oV 1) (oNil))) G) itsD) (caps := [(0, "row")]) (fe := VL.os (oCons (oC (.str "where")) (oCons (o2 (oV 1) (oC (.int 1)) ixD) (oCons (oV 0) (oNil)))) tupD) (δ := [.fz (.tuple [.str "where", .int m, I]), .fz (.int w)]) (h := rwD) (k := fun r => .tuple [.str "where", .int m, rwD r]) (xs := L) (by simp [h]) (by omega) (fun r _ => by simp [capS])
  have c' : p1__law_swung G [.fz (.tuple [.str "where", .int m, I]), .fz (.int w)] = _ := c
  simp [-sSeq, -sIf, sSeq_k, sIf_k, runB, b__law_swung, startD, c']
theorem lsw {r : Rw} {w : Nat} (h : good r) : g__law_swung [rwD r, .int w] = some (olD (swR r w)) := by
  cases r with
  | pl r =>
    cases r with
    | swing j => exact lw_rest (r__law_swung 7) j w
    | turn j e => exact lw_turn (r__law_swung 7) j e w
    | flip j => exact lw_flip (r__law_swung 7) j w
    | tie i j => exact lw_tie (r__law_swung 7) i j w
    | sign i j => exact lw_sign (r__law_swung 7) i j w h
    | cross i j => exact lw_cross (r__law_swung 7) i j w
  | look j => exact lw_look (r__law_swung 7) j w
  | wflip m j =>
    by_cases q : j = w
    · subst q
      have a := lw_where (r__law_swung 7) m j _ [.pl (.turn j 4)] (Nat.le_refl 1) ((lw_flip (r__law_swung 6) j j).trans (by simp [swR, olD]))
      have t : swR (.wflip m j) j = some (.wsign m j) := by simp [swR]
      rw [t]
      exact a
    · have a := lw_where (r__law_swung 7) m w _ [] (Nat.zero_le 1) ((lw_flip (r__law_swung 6) j w).trans (by simp [swR, olD, q]))
      have t : swR (.wflip m j) w = none := by simp [swR, q]
      rw [t]
      exact a
  | wsign m j =>
    by_cases q : j = w
    · subst q
      have a := lw_where (r__law_swung 7) m j _ [.pl (.flip j)] (Nat.le_refl 1) ((lw_turn (r__law_swung 6) j 4 j).trans (by simp [swR, olD]))
      have t : swR (.wsign m j) j = some (.wflip m j) := by simp [swR]
      rw [t]
      exact a
    · have a := lw_where (r__law_swung 7) m w _ [] (Nat.zero_le 1) ((lw_turn (r__law_swung 6) j 4 w).trans (by simp [swR, olD, q]))
      have t : swR (.wsign m j) w = none := by simp [swR, q]
      rw [t]
      exact a
end
/-! ### steps -/
inductive Sp where
  | g (p q : Nat) | j (p q : Nat) | s (p q t : Nat)
deriving DecidableEq
def zpD : Sp → D
  | .g p q => .tuple [.str "gone", .int p, .int q]
  | .j p q => .tuple [.str "joined", .int p, .int q]
  | .s p q t => .tuple [.str "swung", .int p, .int q, .int t]
def ro (rs : List Rw) (q : Nat) : Rw := (rs[q]?).getD (.look 0)
theorem ro_at {rs : List Rw} {q : Nat} (h : q < rs.length) : ro rs q = rs[q] := by simp [ro, h]
theorem ro_ix {rs : List Rw} {q : Nat} (h : q < rs.length) : ixD (.tuple (rs.map rwD)) (.int (q : Int)) = some (rwD (ro rs q)) := by
  rw [ro_at h]
  exact atI_of (j := q) rfl (by simp [h])
theorem rngL_nat (a m : Nat) : rngL (a : Int) m = (List.range' a m).map fun q : Nat => PyData.int q := by
  rw [List.range'_eq_map_range, List.map_map]
  exact List.map_congr_left fun k _ => by simp
theorem rng2D_i {i j : Int} (h : i < 4611686018427387904) (h2 : -4611686018427387904 ≤ i) (h3 : j < 4611686018427387904) (h4 : -4611686018427387904 ≤ j) : rng2D [.int i, .int j] = some (rngL i (j - i).toNat) := if_pos ⟨⟨h, h2⟩, h3, h4⟩
theorem rng2_nat {a b : Nat} (ha : a ≤ 100000) (hb : b ≤ 100000) : rng2D [.int (a : Int), .int (b : Int)] = some ((List.range' a (b - a)).map fun q : Nat => PyData.int q) := by
  rw [← rngL_nat, rng2D_i (by omega) (by omega) (by omega) (by omega), show ((b : Int) - a).toNat = b - a by omega]
def twoS (rs : List Rw) (p q : Nat) : List Sp := (if un (ro rs p) (ro rs q) then [.g p q] else []) ++ (if (ro rs p).isT && te (ro rs p) (ro rs q) then [.j p q] else [])
def twoL (rs : List Rw) (p : Nat) : List Nat → List Sp
  | [] => []
  | q :: qs => twoS rs p q ++ (if lets (ro rs p) (ro rs q) (-1) then twoL rs p qs else [])
theorem two_x (R A B SA SB : D) (a : Str) (p q : Int) (ds : List D) (u t v l : Bool) (ra : ixD R (.int p) = some A) (rb : ixD R (.int q) = some B) (hu : g_undone_by [A, B] = some (.bool u)) (a0 : ixD A (.int 0) = some (.str a)) (et : eqD (.str a) (.str "turn") = some (.bool t)) (sa : slD A none (some 2) = some SA) (sb : slD B none (some 2) = some SB) (ev : eqD SA SB = some (.bool v)) (hl : g_lets_by [A, B, .none] = some (.bool l)) (h1 : ds.length < sizeLine) (h2 : ds.length + 1 < sizeLine) : l1_steps_for_two [.fz R, .fz (.int p), .ow ds, .fz (.int q)] =
    some (if l then .nx else .rt (.list (ds ++ ((if u then [.tuple [.str "gone", .int p, .int q]] else []) ++ (if t && v then [.tuple [.str "joined", .int p, .int q]] else [])))), [.fz R, .fz (.int p), (if l then .ow (ds ++ ((if u then [.tuple [.str "gone", .int p, .int q]] else []) ++ (if t && v then [.tuple [.str "joined", .int p, .int q]] else []))) else .fz (.list (ds ++ ((if u then [.tuple [.str "gone", .int p, .int q]] else []) ++ (if t && v then [.tuple [.str "joined", .int p, .int q]] else []))))), .fz (.int q)]) := by
  cases u <;> cases t <;> cases v <;> cases l <;> simp [-sSeq, -sIf, sSeq_k, sIf_k, l1_steps_for_two, ra, rb, hu, a0, et, sa, sb, ev, hl, h1, h2, dFz]
theorem zpD_two (rs : List Rw) (p q : Nat) : (twoS rs p q).map zpD = (if un (ro rs p) (ro rs q) then [.tuple [.str "gone", .int p, .int q]] else []) ++ (if (ro rs p).isT && te (ro rs p) (ro rs q) then [.tuple [.str "joined", .int p, .int q]] else []) := by
  unfold twoS
  rw [List.map_append]
  congr 1 <;> split <;> rfl
theorem twoS_len (rs : List Rw) (p q : Nat) : (twoS rs p q).length ≤ 2 := by
  unfold twoS
  rw [List.length_append]
  split <;> split <;> simp
theorem two_step {rs : List Rw} (ho : Ord rs) {p q : Nat} (hp : p < rs.length) (hq : q < rs.length) (ds : List D) (hd : ds.length + 2 < sizeLine) : l1_steps_for_two [.fz (.tuple (rs.map rwD)), .fz (.int (p : Int)), .ow ds, .fz (.int (q : Int))] = some (if lets (ro rs p) (ro rs q) (-1) then .nx else .rt (.list (ds ++ (twoS rs p q).map zpD)), [.fz (.tuple (rs.map rwD)), .fz (.int (p : Int)), (if lets (ro rs p) (ro rs q) (-1) then .ow (ds ++ (twoS rs p q).map zpD) else .fz (.list (ds ++ (twoS rs p q).map zpD))), .fz (.int (q : Int))]) := by
  have gd : ∀ {k}, k < rs.length → good (ro rs k) := fun h => by rw [ro_at h]; exact ho.gd _ (List.getElem_mem h)
  have := two_x (.tuple (rs.map rwD)) _ _ _ _ _ (p : Int) (q : Int) ds _ _ _ _ (ro_ix hp) (ro_ix hq) (un_eq (ro rs p) (ro rs q)) (wd_ix _) (eq_turn _) (sl2r _) (sl2r _) (te_eq (ro rs p) (ro rs q)) (lb_eq (gd hp) (gd hq) .none (-1) (.inr ⟨rfl, rfl⟩)) (by omega) (by omega)
  rw [zpD_two]
  exact this
theorem two_loop {rs : List Rw} (ho : Ord rs) {p : Nat} (hp : p < rs.length) : ∀ (qs : List Nat), (∀ q ∈ qs, q < rs.length) → ∀ (ds : List D), ds.length + 2 * qs.length + 2 < sizeLine → ∀ z, ∃ fl δ, loop (gN 3) l1_steps_for_two (qs.map fun q : Nat => .int q) [.fz (.tuple (rs.map rwD)), .fz (.int (p : Int)), .ow ds, z] = some (fl, δ) ∧ (fl = .rt (.list (ds ++ (twoL rs p qs).map zpD)) ∨ (fl = .nx ∧ ∃ y, δ = [.fz (.tuple (rs.map rwD)), .fz (.int (p : Int)), .ow (ds ++ (twoL rs p qs).map zpD), y]))
  | [], _, ds, _, z => ⟨.nx, _, rfl, .inr ⟨rfl, z, by simp [twoL]⟩⟩
  | q :: qs, hq, ds, hd, z => by
    simp only [List.length_cons] at hd
    have st := two_step ho hp (hq q List.mem_cons_self) ds (by omega)
    have g : gN 3 (.int (q : Int)) [.fz (.tuple (rs.map rwD)), .fz (.int (p : Int)), .ow ds, z] = some [.fz (.tuple (rs.map rwD)), .fz (.int (p : Int)), .ow ds, .fz (.int (q : Int))] := by simp
    cases hl : lets (ro rs p) (ro rs q) (-1) with
    | false =>
      rw [hl] at st
      refine ⟨_, _, by rw [List.map_cons]; exact loop_ret g st, .inl ?_⟩
      simp [twoL, hl]
    | true =>
      rw [hl] at st
      have tl := twoS_len rs p q
      obtain ⟨fl, δ, e, h⟩ := two_loop ho hp qs (fun x hx => hq x (List.mem_cons_of_mem _ hx)) (ds ++ (twoS rs p q).map zpD) (by simp only [List.length_append, List.length_map]; omega) (.fz (.int (q : Int)))
      refine ⟨fl, δ, by rw [List.map_cons, loop_step g st]; exact e, ?_⟩
      have ee : ds ++ (twoL rs p (q :: qs)).map zpD = ds ++ (twoS rs p q).map zpD ++ (twoL rs p qs).map zpD := by
        rw [twoL, hl, if_pos rfl, List.map_append, List.append_assoc]
      rw [ee]
      exact h
def rest (rs : List Rw) (p : Nat) : List Nat := List.range' (p + 1) (rs.length - (p + 1))
theorem mem_rest {rs : List Rw} {p q : Nat} : q ∈ rest rs p ↔ p < q ∧ q < rs.length := by
  unfold rest
  rw [List.mem_range'_1]
  omega
theorem rest_len (rs : List Rw) (p : Nat) : (rest rs p).length ≤ rs.length := by
  unfold rest
  rw [List.length_range']
  omega
theorem two_y (R : D) (p n : Int) (L : List D) (X : D) (fl : Fl) (δ : Dv) (xs : List D) (ln : lenD [R] = some (.int n)) (hr : rng2D [.int (p + 1), .int n] = some L) (lp : loop (gN 3) l1_steps_for_two L [.fz R, .fz (.int p), .ow [], .un] = some (fl, δ)) (h : fl = .rt (.list xs) ∨ (fl = .nx ∧ ∃ y, δ = [.fz R, .fz (.int p), .ow xs, y])) : g_steps_for_two [R, .int p] = some (.list xs) := by
  rcases h with rfl | ⟨rfl, y, rfl⟩
  · simp [-sSeq, -sIf, sSeq_k, sIf_k, g_steps_for_two, runB, b_steps_for_two, startD, ln, hr, lp]
  · simp [-sSeq, -sIf, sSeq_k, sIf_k, g_steps_for_two, runB, b_steps_for_two, startD, ln, hr, lp, dFz]
theorem two_eq {rs : List Rw} (ho : Ord rs) (hn : rs.length ≤ 100) {p : Nat} (hp : p < rs.length) : g_steps_for_two [.tuple (rs.map rwD), .int (p : Int)] = some (.list ((twoL rs p (rest rs p)).map zpD)) := by
  have hl := rest_len rs p
  obtain ⟨fl, δ, e, h⟩ := two_loop ho hp (rest rs p) (fun q hq => (mem_rest.mp hq).2) [] (by show 0 + _ + 2 < 16777216; omega) .un
  refine two_y _ p rs.length _ .none fl δ _ (by simp) ?_ e h
  have := rng2_nat (a := p + 1) (b := rs.length) (by omega) (by omega)
  exact this
/-! ### a swing, a row, a swing -/
def onw (rs : List Rw) (p w : Nat) : List Nat := (rest rs p).filter fun q => (wl (ro rs q)).any (· == w)
theorem p1_x (R : D) (p n p' : Int) (w : Nat) (z : Sl) (xs : List Nat) (b : Nat → Bool) (W : Nat → D) (hx : xs.length ≤ 16777216) (hp : p + 1 = p') (ln : lenD [R] = some (.int n)) (hr : rng2D [.int p', .int n] = some (xs.map fun q : Nat => PyData.int q)) (hw : ∀ q ∈ xs, ∃ A, ixD R (.int (q : Int)) = some A ∧ g_wires_of [A] = some (W q)) (hb : ∀ q ∈ xs, inD false (.int (w : Int)) (W q) = some (.bool (b q))) : p1_steps_for_three [.fz R, .fz (.int p), .fz (.int (w : Int)), z] = some (.list ((xs.filter b).map fun q : Nat => .int q)) := by
  have := compI_map (fi := oL (oCons (o2 (oV 1) (oC (.int 1)) addD) (oCons (VL.os (oCons (oV 0) (oNil)) lenD) (oNil))) rng2D) (caps := [(0, "rows"), (2, "wire")]) (ft := ob (o2 (oV 2) (VL.os (oCons (o2 (oV 1) (oV 0) ixD) (oNil)) g_wires_of) (inD false))) (fe := oV 0) (δ := [.fz R, .fz (.int p), .fz (.int (w : Int)), z]) (h := fun n : Nat => PyData.int n) (k := fun n : Nat => PyData.int n) (b := b) (xs := xs) (by simp [ln, hp, hr]) hx (fun q hq => by
    obtain ⟨A, h1, h2⟩ := hw q hq
    simp [capS, h1, h2, hb q hq]) (fun q _ _ => by simp)
  exact this
theorem p1_three {rs : List Rw} (hn : rs.length ≤ 100) {p : Nat} (hp : p < rs.length) (w : Nat) (z : Sl) : p1_steps_for_three [.fz (.tuple (rs.map rwD)), .fz (.int (p : Int)), .fz (.int (w : Int)), z] = some (.list ((onw rs p w).map fun q : Nat => .int q)) := by
  have hr := rng2_nat (a := p + 1) (b := rs.length) (by omega) (by omega)
  exact p1_x _ p rs.length ((p + 1 : Nat) : Int) w z (rest rs p) (fun q => (wl (ro rs q)).any (· == w)) _ (Nat.le_trans (rest_len rs p) (by omega)) (by omega) (by simp) hr (fun q hq => ⟨_, ro_ix (mem_rest.mp hq).2, wires_eq _⟩) (fun q _ => in_wires w _)
def threeL (rs : List Rw) (p : Nat) : List Sp := match ro rs p with
  | .pl (.swing w) => match onw rs p w with
    | a :: b :: _ => if eqr (ro rs b) (ro rs p) && (swR (ro rs a) w).isSome then [.s p a b] else []
    | _ => []
  | _ => []
theorem three_no (R A : D) (a : Str) (p : Int) (ra : ixD R (.int p) = some A) (a0 : ixD A (.int 0) = some (.str a)) (hs : neD (.str a) (.str "swing") = some (.bool true)) : g_steps_for_three [R, .int p] = some (.list []) := by
  simp [-sSeq, -sIf, sSeq_k, sIf_k, g_steps_for_three, runB, b_steps_for_three, startD, ra, a0, hs]
section
variable (R A : D) (a : Str) (p w : Int) (ra : ixD R (.int p) = some A) (a0 : ixD A (.int 0) = some (.str a)) (hs : neD (.str a) (.str "swing") = some (.bool false)) (a1 : ixD A (.int 1) = some (.int w)) (L : D) (hp1 : p1_steps_for_three [.fz R, .fz (.int p), .fz (.int w), .un] = some L)
include ra a0 hs a1 hp1
theorem three_few (M : List D) (sl : slD L none (some 2) = some (.list M)) (hl : ¬ M.length = 2) : g_steps_for_three [R, .int p] = some (.list []) := by
  have h : ¬ ((M.length : Nat) : Int) = 2 := by omega
  simp [-sSeq, -sIf, sSeq_k, sIf_k, g_steps_for_three, runB, b_steps_for_three, startD, ra, a0, hs, a1, hp1, sl, h]
theorem three_two (x y : Int) (X Y W : D) (c n : Bool) (sl : slD L none (some 2) = some (.list [.int x, .int y])) (rx : ixD R (.int x) = some X) (ry : ixD R (.int y) = some Y) (e : eqD Y A = some (.bool c)) (sw : c = true → g_swung_row [X, .int w] = some W ∧ isN W = !n) : g_steps_for_three [R, .int p] = some (.list (if c && n then [.tuple [.str "swung", .int p, .int x, .int y]] else [])) := by
  cases c with
  | false => simp [-sSeq, -sIf, sSeq_k, sIf_k, g_steps_for_three, runB, b_steps_for_three, startD, ra, a0, hs, a1, hp1, sl, rx, ry, e]
  | true =>
    obtain ⟨s1, s2⟩ := sw rfl
    cases n <;> simp [-sSeq, -sIf, sSeq_k, sIf_k, g_steps_for_three, runB, b_steps_for_three, startD, ra, a0, hs, a1, hp1, sl, rx, ry, e, s1, isntD, s2]
end
theorem isN_op (o : Option Rw) : isN (opD o) = !o.isSome := by
  cases o with
  | none => rfl
  | some r =>
    obtain ⟨t, e⟩ := rwD_form r
    show isN (rwD r) = false
    rw [e]; rfl
theorem sl_take2 (l : List Nat) : slD (.list (l.map fun q : Nat => PyData.int q)) none (some 2) = some (.list ((l.take 2).map fun q : Nat => PyData.int q)) := by
  show some (PyData.list (cutD _ _ _)) = _
  unfold cutD
  rw [List.length_map, ← List.map_drop, ← List.map_take]
  match l with
  | [] => rfl
  | [a] => rfl
  | a :: b :: t =>
    have h1 : HT.sIx (a :: b :: t).length (a :: b :: t).length (some 2) = 2 := by
      simp [HT.sIx]
    rw [h1]
    rfl
theorem three_eq {rs : List Rw} (hn : rs.length ≤ 100) {p : Nat} (hp : p < rs.length) : g_steps_for_three [.tuple (rs.map rwD), .int (p : Int)] = some (.list ((threeL rs p).map zpD)) := by
  have ra := ro_ix hp
  cases hS : (ro rs p).isS with
  | false =>
    rw [three_no _ _ _ _ ra (wd_ix _) (by rw [ne_swing, hS]; rfl)]
    have : threeL rs p = [] := by
      unfold threeL
      split
      · rename_i w e; rw [e] at hS; cases hS
      · rfl
    rw [this]; rfl
  | true =>
    obtain ⟨w, ew⟩ : ∃ w, ro rs p = .pl (.swing w) := by
      cases h : ro rs p with
      | pl r => cases r <;> first | exact ⟨_, rfl⟩ | (rw [h] at hS; cases hS)
      | _ => rw [h] at hS; cases hS
    have a1 : ixD (rwD (ro rs p)) (.int 1) = some (.int (w : Int)) := by rw [n1_ix, ew]; rfl
    have hs : neD (.str (ro rs p).wd) (.str "swing") = some (.bool false) := by rw [ne_swing, hS]; rfl
    have hp1 := p1_three hn hp w .un
    have sl := sl_take2 (onw rs p w)
    have mem : ∀ q ∈ onw rs p w, q < rs.length ∧ w ∈ wl (ro rs q) := fun q hq => by
      obtain ⟨h1, h2⟩ := List.mem_filter.mp hq
      obtain ⟨x, hx, e⟩ := List.any_eq_true.mp h2
      exact ⟨(mem_rest.mp h1).2, by rw [← eq_of_beq e]; exact hx⟩
    have tE : threeL rs p = match onw rs p w with
      | a :: b :: _ => if eqr (ro rs b) (ro rs p) && (swR (ro rs a) w).isSome then [.s p a b] else []
      | _ => [] := by
      unfold threeL
      rw [ew]
    rw [tE]
    match hL : onw rs p w with
    | [] =>
      rw [hL] at sl hp1
      rw [three_few _ _ _ _ _ ra (wd_ix _) hs a1 _ hp1 _ sl (by simp)]; rfl
    | [a] =>
      rw [hL] at sl hp1
      rw [three_few _ _ _ _ _ ra (wd_ix _) hs a1 _ hp1 _ sl (by simp)]; rfl
    | a :: b :: t =>
      have ma := mem a (by rw [hL]; exact List.mem_cons_self)
      have mb := mem b (by rw [hL]; exact List.mem_cons_of_mem _ List.mem_cons_self)
      rw [hL] at sl hp1
      rw [three_two _ _ _ _ _ ra (wd_ix _) hs a1 _ hp1 (a : Int) (b : Int) _ _ _ _ (swR (ro rs a) w).isSome sl (ro_ix ma.1) (ro_ix mb.1) (eqr_eq _ _) (fun _ => ⟨psw ma.2, isN_op _⟩)]
      simp only
      split <;> rfl
/-! ### all steps of a circuit -/
def allL (rs : List Rw) (m : Nat) : List Sp := (List.range m).flatMap fun p => twoL rs p (rest rs p) ++ threeL rs p
theorem twoL_len (rs : List Rw) (p : Nat) : ∀ qs, (twoL rs p qs).length ≤ 2 * qs.length
  | [] => Nat.le_refl _
  | q :: qs => by
    have h1 := twoS_len rs p q
    have h2 := twoL_len rs p qs
    rw [twoL, List.length_append, List.length_cons]
    split
    · omega
    · simp; omega
theorem threeL_len (rs : List Rw) (p : Nat) : (threeL rs p).length ≤ 1 := by
  unfold threeL
  split
  · split
    · split <;> simp
    · simp
  · simp
theorem allL_succ (rs : List Rw) (m : Nat) : allL rs (m + 1) = allL rs m ++ (twoL rs m (rest rs m) ++ threeL rs m) := by
  unfold allL
  rw [List.range_succ, List.flatMap_append]
  simp
theorem allL_len (rs : List Rw) : ∀ m, (allL rs m).length ≤ m * (2 * rs.length + 1)
  | 0 => by simp [allL]
  | m + 1 => by
    have h1 := twoL_len rs m (rest rs m)
    have h2 := rest_len rs m
    have h3 := threeL_len rs m
    have h4 := allL_len rs m
    rw [allL_succ, List.length_append, List.length_append, Nat.succ_mul]
    omega
theorem sl_step (C R : D) (p : Int) (ds : List D) (A B : List D) (h1 : g_steps_for_two [R, .int p] = some (.list A)) (h2 : g_steps_for_three [R, .int p] = some (.list B)) (s1 : ds.length + A.length ≤ sizeLine) (s2 : ds.length + A.length + B.length ≤ sizeLine) : l1_slides_of [.fz C, .fz R, .ow ds, .fz (.int p)] = some (.nx, [.fz C, .fz R, .ow (ds ++ A ++ B), .fz (.int p)]) := by
  have s2' : (ds ++ A).length + B.length ≤ sizeLine := by rw [List.length_append]; exact s2
  simp [l1_slides_of, h1, h2, s1, lstI]
  exact s2
theorem slides_x (C R : D) (n : Int) (L : List D) (xs : List D) (y : Sl) (X : D) (cr : ixD C (.int 1) = some R) (ln : lenD [R] = some (.int n)) (hr : rng1D [.int n] = some L) (lp : loop (gN 3) l1_slides_of L [.fz C, .fz R, .ow [], .un] = some (.nx, [.fz C, .fz R, .ow xs, y])) (hs : sortD (.list xs) = some X) : g_slides_of [C] = some X := by
  simp [-sSeq, -sIf, sSeq_k, sIf_k, g_slides_of, runB, b_slides_of, startD, cr, ln, hr, lp, dFz, hs]
theorem cir_ix (w : Nat) (rs : List Rw) : ixD (cirD w rs) (.int 1) = some (.tuple (rs.map rwD)) := by simp [cirD]
theorem slides_eq {rs : List Rw} (ho : Ord rs) (hn : rs.length ≤ 100) (w : Nat) (X : D) (hs : sortD (.list ((allL rs rs.length).map zpD)) = some X) : g_slides_of [cirD w rs] = some X := by
  obtain ⟨δ', lp, z, rfl⟩ := loop_rng (b := l1_slides_of) (k := 3) (fun i δ => ∃ z, δ = [.fz (cirD w rs), .fz (.tuple (rs.map rwD)), .ow ((allL rs i).map zpD), z]) rs.length (by
    rintro i hi δ ⟨z, rfl⟩
    have l1 := twoL_len rs i (rest rs i)
    have l2 := rest_len rs i
    have l3 := threeL_len rs i
    have l4 := allL_len rs i
    have l5 : i * (2 * rs.length + 1) ≤ 100 * 201 := Nat.mul_le_mul (by omega) (by omega)
    have st := sl_step (cirD w rs) (.tuple (rs.map rwD)) i ((allL rs i).map zpD) _ _ (two_eq ho hn hi) (three_eq hn hi) (by simp only [List.length_map]; show _ ≤ 16777216; omega) (by simp only [List.length_map]; show _ ≤ 16777216; omega)
    refine ⟨_, st, .fz (.int i), ?_⟩
    rw [allL_succ, List.map_append, List.map_append, List.append_assoc]) [.fz (cirD w rs), .fz (.tuple (rs.map rwD)), .ow [], .un] ⟨_, rfl⟩
  exact slides_x _ _ rs.length _ _ z X (cir_ix w rs) (by simp) (rng1D_int (j := (rs.length : Int)) (by omega) (by omega)) lp hs
/-! ### the law's own steps -/
theorem take_sl (rs : List Rw) {x : Nat} (hx : x ≤ rs.length) : slD (.tuple (rs.map rwD)) none (some (x : Int)) = some (.tuple ((rs.take x).map rwD)) := by
  show some (PyData.tuple (cutD _ _ _)) = _
  unfold cutD
  rw [List.length_map]
  have h1 : HT.sIx rs.length 0 none = 0 := rfl
  have h2 : HT.sIx rs.length rs.length (some (x : Int)) = x := by
    simp only [HT.sIx]
    rw [if_neg (by omega)]
    omega
  rw [h1, h2, ← List.map_drop, ← List.map_take]
  rfl
theorem marks_x (R T : D) (x : Int) (n : Nat) (xs : List Rw) (hl : xs.length ≤ 16777216) (sl : slD R none (some x) = some (.tuple (xs.map rwD))) (hc : lks xs = n) : g__law_marks_ahead [R, .int x] = some (.int n) := by
  have := compI_map (fi := oI (oSl (oV 0) (oNo) (oP (oV 1))) itsD) (caps := []) (ft := ob (o2 (o2 (oV 0) (oC (.int 0)) ixD) (oC (.str "look")) eqD)) (fe := oV 0) (δ := [.fz R, .fz (.int x)]) (h := rwD) (k := rwD) (b := Rw.isLook) (xs := xs) (by simp [sl]) hl (fun r _ => by simp [capS, wd_ix, eq_look]) (fun r _ _ => by simp)
  have e : p1__law_marks_ahead [.fz R, .fz (.int x)] = _ := this
  have hc' : ((xs.filter Rw.isLook).length : Int) = n := by rw [← List.countP_eq_length_filter]; exact congrArg Nat.cast hc
  simp [-sSeq, -sIf, sSeq_k, sIf_k, g__law_marks_ahead, runB, b__law_marks_ahead, startD, e, lenD, hc']
theorem marks_eq {rs : List Rw} (hn : rs.length ≤ 100) {x : Nat} (hx : x ≤ rs.length) : g__law_marks_ahead [.tuple (rs.map rwD), .int (x : Int)] = some (.int (lks (rs.take x))) := marks_x _ .none x _ _ (by rw [List.length_take]; omega) (take_sl rs hx) rfl
def clrL (rs : List Rw) (p : Nat) (xs : List Nat) : Bool := xs.all fun x => lets (ro rs p) (ro rs x) (lks (rs.take x))
theorem clr_x (R A B : D) (p q x m : Int) (l : Bool) (ra : ixD R (.int p) = some A) (rb : ixD R (.int x) = some B) (hm : g__law_marks_ahead [R, .int x] = some (.int m)) (hl : g__law_lets [A, B, .int m] = some (.bool l)) : l1__law_clear [.fz R, .fz (.int p), .fz (.int q), .fz (.int x)] = some (if l then .nx else .rt (.bool false), [.fz R, .fz (.int p), .fz (.int q), .fz (.int x)]) := by
  cases l <;> simp [-sSeq, -sIf, sSeq_k, sIf_k, l1__law_clear, ra, rb, hm, hl]
theorem clr_loop {rs : List Rw} (hn : rs.length ≤ 100) {p : Nat} (hp : p < rs.length) (q : Int) : ∀ (xs : List Nat), (∀ x ∈ xs, x < rs.length) → ∀ z, ∃ δ, loop (gN 3) l1__law_clear (xs.map fun x : Nat => .int x) [.fz (.tuple (rs.map rwD)), .fz (.int (p : Int)), .fz (.int q), z] = some (if clrL rs p xs then .nx else .rt (.bool false), δ)
  | [], _, z => ⟨_, rfl⟩
  | x :: xs, hx, z => by
    have hx0 := hx x List.mem_cons_self
    have st := clr_x (.tuple (rs.map rwD)) _ _ p q x _ _ (ro_ix hp) (ro_ix hx0) (marks_eq hn (by omega)) (llets_eq (ro rs p) (ro rs x) (lks (rs.take x)))
    have g : gN 3 (.int (x : Int)) [.fz (.tuple (rs.map rwD)), .fz (.int (p : Int)), .fz (.int q), z] = some [.fz (.tuple (rs.map rwD)), .fz (.int (p : Int)), .fz (.int q), .fz (.int (x : Int))] := by simp
    cases hl : lets (ro rs p) (ro rs x) (lks (rs.take x)) with
    | false =>
      rw [hl] at st
      refine ⟨[.fz (.tuple (rs.map rwD)), .fz (.int (p : Int)), .fz (.int q), .fz (.int (x : Int))], ?_⟩
      rw [List.map_cons, loop_ret g st]
      simp [clrL, hl]
    | true =>
      rw [hl] at st
      obtain ⟨δ, e⟩ := clr_loop hn hp q xs (fun y hy => hx y (List.mem_cons_of_mem _ hy)) (.fz (.int (x : Int)))
      refine ⟨δ, ?_⟩
      rw [List.map_cons, loop_step g st, e]
      simp [clrL, hl]
def btw (p q : Nat) : List Nat := List.range' (p + 1) (q - (p + 1))
theorem mem_btw {p q x : Nat} : x ∈ btw p q ↔ p < x ∧ x < q := by
  unfold btw
  rw [List.mem_range'_1]
  omega
theorem clear_x (R : D) (p p' q : Int) (L : List D) (b : Bool) (δ : Dv) (hp : p + 1 = p') (hr : rng2D [.int p', .int q] = some L) (lp : loop (gN 3) l1__law_clear L [.fz R, .fz (.int p), .fz (.int q), .un] = some (if b then .nx else .rt (.bool false), δ)) : g__law_clear [R, .int p, .int q] = some (.bool b) := by
  cases b <;> simp at lp <;> simp [-sSeq, -sIf, sSeq_k, sIf_k, g__law_clear, runB, b__law_clear, startD, hp, hr, lp]
theorem clear_eq {rs : List Rw} (hn : rs.length ≤ 100) {p q : Nat} (hp : p < rs.length) (hq : q < rs.length) : g__law_clear [.tuple (rs.map rwD), .int (p : Int), .int (q : Int)] = some (.bool (clrL rs p (btw p q))) := by
  obtain ⟨δ, lp⟩ := clr_loop hn hp q (btw p q) (fun x hx => by have := mem_btw.mp hx; omega) .un
  exact clear_x _ p ((p + 1 : Nat) : Int) q _ _ δ (by omega) (rng2_nat (by omega) (by omega)) lp
/-- does a wire lie in a row -/
def onk (r : Rw) (w : Nat) : Bool := (kl r).any (·.1 == w)
def fitB (rs : List Rw) : Sp → Bool
  | .g p q => un (ro rs p) (ro rs q) && clrL rs p (btw p q)
  | .j p q => (ro rs p).isT && (te (ro rs q) (ro rs p) && clrL rs p (btw p q))
  | .s p q t => !(!(ro rs p).isS || (!eqr (ro rs p) (ro rs t) || (swR (ro rs q) (ro rs p).n1).toList.isEmpty)) && (btw p t).all fun x => !(!(x == q) && onk (ro rs x) (ro rs p).n1)
theorem ok_gone : okS "gone" = true := by decide +kernel
theorem ok_joined : okS "joined" = true := by decide +kernel
theorem ok_swung : okS "swung" = true := by decide +kernel
theorem k_gg : eqD (.str "gone") (.str "gone") = some (.bool true) := (eqS ok_gone ok_gone).trans (congrArg (fun z => some (PyData.bool z)) (show (("gone" : Str) == ("gone" : Str)) = true by decide +kernel))
theorem k_jg : eqD (.str "joined") (.str "gone") = some (.bool false) := (eqS ok_joined ok_gone).trans (congrArg (fun z => some (PyData.bool z)) (show (("joined" : Str) == ("gone" : Str)) = false by decide +kernel))
theorem k_jj : eqD (.str "joined") (.str "joined") = some (.bool true) := (eqS ok_joined ok_joined).trans (congrArg (fun z => some (PyData.bool z)) (show (("joined" : Str) == ("joined" : Str)) = true by decide +kernel))
theorem k_sg : eqD (.str "swung") (.str "gone") = some (.bool false) := (eqS ok_swung ok_gone).trans (congrArg (fun z => some (PyData.bool z)) (show (("swung" : Str) == ("gone" : Str)) = false by decide +kernel))
theorem k_sj : eqD (.str "swung") (.str "joined") = some (.bool false) := (eqS ok_swung ok_joined).trans (congrArg (fun z => some (PyData.bool z)) (show (("swung" : Str) == ("joined" : Str)) = false by decide +kernel))
theorem cut13 (s : Str) (p q : Int) : slD (.tuple [.str s, .int p, .int q]) (some 1) (some 3) = some (.tuple [.int p, .int q]) := rfl
theorem cut13' (s : Str) (p q t : Int) : slD (.tuple [.str s, .int p, .int q, .int t]) (some 1) (some 3) = some (.tuple [.int p, .int q]) := rfl
theorem fit_g (R A B : D) (p q : Int) (u c : Bool) (ra : ixD R (.int p) = some A) (rb : ixD R (.int q) = some B) (hu : g__law_undo [A, B] = some (.bool u)) (hc : g__law_clear [R, .int p, .int q] = some (.bool c)) : g__law_fit [R, .tuple [.str "gone", .int p, .int q]] = some (.bool (u && c)) := by
  cases u <;> simp [-sSeq, -sIf, sSeq_k, sIf_k, g__law_fit, runB, b__law_fit, startD, sAsg, cut13, k_gg, ra, rb, hu, hc]
theorem fit_j (R A B SA SB : D) (a : Str) (p q : Int) (t v c : Bool) (ra : ixD R (.int p) = some A) (rb : ixD R (.int q) = some B) (a0 : ixD A (.int 0) = some (.str a)) (et : eqD (.str a) (.str "turn") = some (.bool t)) (sa : slD A none (some 2) = some SA) (sb : slD B none (some 2) = some SB) (ev : eqD SB SA = some (.bool v)) (hc : g__law_clear [R, .int p, .int q] = some (.bool c)) : g__law_fit [R, .tuple [.str "joined", .int p, .int q]] = some (.bool (t && (v && c))) := by
  cases t <;> cases v <;> simp [-sSeq, -sIf, sSeq_k, sIf_k, g__law_fit, runB, b__law_fit, startD, sAsg, cut13, k_jg, k_jj, ra, rb, a0, et, sa, sb, ev, hc]
theorem fp_eq (r : Rw) (z0 z1 z2 z3 z4 : Sl) (R : D) (x : Int) (rx : ixD R (.int x) = some (rwD r)) : p1__law_fit [.fz R, z1, z2, z3, z4, .fz (.int x)] = some (.list ((kl r).map fun k => .int k.1)) := by
  have hk : (kl r).length ≤ 2 := by
    cases r with
    | pl r => cases r <;> simp [kl]
    | _ => simp [kl]
  have := comp_map (fi := oI (VL.os (oCons (o2 (oV 0) (oV 5) ixD) (oNil)) g__law_kinds) itsD) (caps := []) (fe := o2 (oV 0) (oC (.int 0)) ixD) (δ := [.fz R, z1, z2, z3, z4, .fz (.int x)]) (h := kpD) (k := fun k => .int k.1) (xs := kl r) (by simp [rx, lkinds_eq]) (by omega) (fun k _ => by simp [capS, kpD])
  exact this
theorem in_kl (w : Nat) (l : List (Nat × Kd)) : inD false (.int w) (.list (l.map fun k => .int k.1)) = some (.bool (l.any (·.1 == w))) := by
  have h := in_wires w (l.map (·.1))
  rw [List.map_map] at h
  have e : inD false (.int w) (.list (l.map fun k => .int k.1)) = inD false (.int w) (.tuple (l.map fun k => .int k.1)) := rfl
  rw [e, show (l.map fun k : Nat × Kd => PyData.int k.1) = l.map ((fun n : Nat => PyData.int n) ∘ (·.1)) from rfl, h, List.any_map]
  rfl
theorem fl_x (R A S K : D) (p q t x w : Int) (c : Bool) (k : Bool) (ra : ixD R (.int p) = some A) (a1 : ixD A (.int 1) = some (.int w)) (hp : p1__law_fit [.fz R, .fz S, .fz (.int p), .fz (.int q), .fz (.int t), .fz (.int x)] = some K) (hc : (x == q) = c) (hi : inD false (.int w) K = some (.bool k)) : l1__law_fit [.fz R, .fz S, .fz (.int p), .fz (.int q), .fz (.int t), .fz (.int x)] = some (if !(!c && k) then .nx else .rt (.bool false), [.fz R, .fz S, .fz (.int p), .fz (.int q), .fz (.int t), .fz (.int x)]) := by
  cases c with
  | true =>
    have h : x = q := eq_of_beq hc
    subst h
    simp [-sSeq, -sIf, sSeq_k, sIf_k, l1__law_fit]
  | false =>
    have h : ¬ x = q := by simpa using hc
    cases k <;> simp [-sSeq, -sIf, sSeq_k, sIf_k, l1__law_fit, h, ra, a1, hp, hi]
theorem fl_loop {rs : List Rw} {p : Nat} (hp : p < rs.length) (S : D) (q t : Nat) : ∀ (xs : List Nat), (∀ x ∈ xs, x < rs.length) → ∀ z, ∃ δ, loop (gN 5) l1__law_fit (xs.map fun x : Nat => .int x) [.fz (.tuple (rs.map rwD)), .fz S, .fz (.int (p : Int)), .fz (.int (q : Int)), .fz (.int (t : Int)), z] = some (if xs.all fun x => !(!(x == q) && onk (ro rs x) (ro rs p).n1) then .nx else .rt (.bool false), δ)
  | [], _, z => ⟨_, rfl⟩
  | x :: xs, hx, z => by
    have hx0 := hx x List.mem_cons_self
    have st := fl_x (.tuple (rs.map rwD)) _ S _ p q t x _ (x == q) _ (ro_ix hp) (n1_ix _) (fp_eq _ .un _ _ _ _ _ _ (ro_ix hx0)) (nat_beq x q) (in_kl _ _)
    have g : gN 5 (.int (x : Int)) [.fz (.tuple (rs.map rwD)), .fz S, .fz (.int (p : Int)), .fz (.int (q : Int)), .fz (.int (t : Int)), z] = some [.fz (.tuple (rs.map rwD)), .fz S, .fz (.int (p : Int)), .fz (.int (q : Int)), .fz (.int (t : Int)), .fz (.int (x : Int))] := by simp
    have st : l1__law_fit [.fz (.tuple (rs.map rwD)), .fz S, .fz (.int (p : Int)), .fz (.int (q : Int)), .fz (.int (t : Int)), .fz (.int (x : Int))] = some (if !(!(x == q) && onk (ro rs x) (ro rs p).n1) then .nx else .rt (.bool false), [.fz (.tuple (rs.map rwD)), .fz S, .fz (.int (p : Int)), .fz (.int (q : Int)), .fz (.int (t : Int)), .fz (.int (x : Int))]) := st
    cases hl : !(!(x == q) && onk (ro rs x) (ro rs p).n1) with
    | false =>
      rw [hl] at st
      refine ⟨[.fz (.tuple (rs.map rwD)), .fz S, .fz (.int (p : Int)), .fz (.int (q : Int)), .fz (.int (t : Int)), .fz (.int (x : Int))], ?_⟩
      rw [List.map_cons, loop_ret g st, List.all_cons, hl]
      rfl
    | true =>
      rw [hl] at st
      obtain ⟨δ, e⟩ := fl_loop hp S q t xs (fun y hy => hx y (List.mem_cons_of_mem _ hy)) (.fz (.int (x : Int)))
      refine ⟨δ, ?_⟩
      rw [List.map_cons, loop_step g st, e, List.all_cons, hl, Bool.true_and]
theorem ix3 (s : Str) (p q t : Int) : ixD (.tuple [.str s, .int p, .int q, .int t]) (.int 3) = some (.int t) := rfl
theorem fit_s (R A B T W : D) (a : Str) (p p' q t w : Int) (s e v b : Bool) (L : List D) (δ : Dv) (ra : ixD R (.int p) = some A) (a0 : ixD A (.int 0) = some (.str a)) (es : neD (.str a) (.str "swing") = some (.bool (!s))) (rt : ixD R (.int t) = some T) (he : neD A T = some (.bool (!e))) (a1 : ixD A (.int 1) = some (.int w)) (rb : ixD R (.int q) = some B) (hw : g__law_swung [B, .int w] = some W) (hv : eqD W (.list []) = some (.bool v)) (hp : p + 1 = p') (hr : rng2D [.int p', .int t] = some L) (lp : loop (gN 5) l1__law_fit L [.fz R, .fz (.tuple [.str "swung", .int p, .int q, .int t]), .fz (.int p), .fz (.int q), .fz (.int t), .un] = some (if b then .nx else .rt (.bool false), δ)) : g__law_fit [R, .tuple [.str "swung", .int p, .int q, .int t]] = some (.bool (!(!s || (!e || v)) && b)) := by
  cases s <;> cases e <;> cases v <;> cases b <;> simp at lp es he <;> simp [-sSeq, -sIf, sSeq_k, sIf_k, g__law_fit, runB, b__law_fit, startD, sAsg, cut13', k_sg, k_sj, ix3, ra, a0, es, rt, he, a1, rb, hw, hv, hp, hr, lp]
theorem eq_nil (o : Option Rw) : eqD (olD o) (.list []) = some (.bool o.toList.isEmpty) := by
  cases o with
  | none => rfl
  | some r =>
    have h : MA.Sh 3 (.list ([r].map rwD)) := MA.Sh.list fun x hx => by obtain ⟨r, _, rfl⟩ := List.mem_map.mp hx; exact sh2 r
    have h2 : shp (.list ([] : List D)) = true := by rfl
    show eqD (.list ([r].map rwD)) (.list []) = _
    unfold eqD
    rw [if_pos ⟨shp_of h (by decide), h2⟩]
    simp [PyData.eqv, PyData.eqvAll]
def inR (n : Nat) : Sp → Prop
  | .g p q => p < n ∧ q < n
  | .j p q => p < n ∧ q < n
  | .s p q t => p < n ∧ q < n ∧ t < n
theorem fit_eq {rs : List Rw} (ho : Ord rs) (hn : rs.length ≤ 100) (x : Sp) (hx : inR rs.length x) : g__law_fit [.tuple (rs.map rwD), zpD x] = some (.bool (fitB rs x)) := by
  have gd : ∀ {k}, k < rs.length → good (ro rs k) := fun h => by rw [ro_at h]; exact ho.gd _ (List.getElem_mem h)
  cases x with
  | g p q => exact fit_g _ _ _ p q _ _ (ro_ix hx.1) (ro_ix hx.2) (lu_eq _ _) (clear_eq hn hx.1 hx.2)
  | j p q => exact fit_j _ _ _ _ _ _ p q _ _ _ (ro_ix hx.1) (ro_ix hx.2) (wd_ix _) (eq_turn _) (sl2r _) (sl2r _) (te_eq _ _) (clear_eq hn hx.1 hx.2)
  | s p q t =>
    obtain ⟨h1, h2, h3⟩ := hx
    obtain ⟨δ, lp⟩ := fl_loop h1 (.tuple [.str "swung", .int (p : Int), .int (q : Int), .int (t : Int)]) q t (btw p t) (fun x hx => by have := mem_btw.mp hx; omega) .un
    exact fit_s _ _ _ _ _ _ p ((p + 1 : Nat) : Int) q t _ _ _ _ _ _ δ (ro_ix h1) (wd_ix _) (ne_swing _) (ro_ix h3) (eqr_ne _ _) (n1_ix _) (ro_ix h2) (lsw (gd h2)) (eq_nil _) (by omega) (rng2_nat (by omega) (by omega)) lp
/-! ### all steps that might be -/
def candQ (rs : List Rw) (p q : Nat) : List Sp := .g p q :: .j p q :: (if (ro rs p).isS then (rest rs q).map (Sp.s p q) else [])
def candP (rs : List Rw) (p : Nat) (qs : List Nat) : List Sp := qs.flatMap (candQ rs p)
def cand (rs : List Rw) (m : Nat) : List Sp := (List.range m).flatMap fun p => candP rs p (rest rs p)
theorem pl_x (z0 z1 : Sl) (n p q q' : Int) (ts : List Nat) (ht : ts.length ≤ 16777216) (hq : q + 1 = q') (hr : rng2D [.int q', .int n] = some (ts.map fun t : Nat => PyData.int t)) : p1__law_steps [z0, z1, .fz (.int n), .fz (.int p), .fz (.int q)] = some (.list (ts.map fun t : Nat => .tuple [.str "swung", .int p, .int q, .int t])) := by
  have := comp_map (fi := oL (oCons (o2 (oV 4) (oC (.int 1)) addD) (oCons (oV 2) (oNil))) rng2D) (caps := [(3, "p"), (4, "q")]) (fe := VL.os (oCons (oC (.str "swung")) (oCons (oV 1) (oCons (oV 2) (oCons (oV 0) (oNil))))) tupD) (δ := [z0, z1, .fz (.int n), .fz (.int p), .fz (.int q)]) (h := fun t : Nat => PyData.int t) (k := fun t : Nat => .tuple [.str "swung", .int p, .int q, .int t]) (xs := ts) (by simp [hq, hr]) ht (fun t _ => by simp [capS])
  exact this
theorem cq_x (R A : D) (a : Str) (n p q : Int) (s : Bool) (ds E : List D) (ra : ixD R (.int p) = some A) (a0 : ixD A (.int 0) = some (.str a)) (es : eqD (.str a) (.str "swing") = some (.bool s)) (hp : ∀ z, p1__law_steps [.fz R, z, .fz (.int n), .fz (.int p), .fz (.int q)] = some (.list E)) (h1 : ds.length < sizeLine) (h2 : ds.length + 1 < sizeLine) (h3 : ds.length + 1 + 1 + E.length ≤ sizeLine) : l1__law_steps [.fz R, .ow ds, .fz (.int n), .fz (.int p), .fz (.int q)] = some (.nx, [.fz R, .ow (ds ++ (.tuple [.str "gone", .int p, .int q] :: .tuple [.str "joined", .int p, .int q] :: (if s then E else []))), .fz (.int n), .fz (.int p), .fz (.int q)]) := by
  cases s <;> simp [-sSeq, -sIf, sSeq_k, sIf_k, l1__law_steps, ra, a0, es, hp, h1, h2, h3, lstI]
theorem candQ_map (rs : List Rw) (p q : Nat) : (candQ rs p q).map zpD = .tuple [.str "gone", .int p, .int q] :: .tuple [.str "joined", .int p, .int q] :: (if (ro rs p).isS then (rest rs q).map fun t : Nat => .tuple [.str "swung", .int p, .int q, .int t] else []) := by
  unfold candQ
  rw [List.map_cons, List.map_cons]
  congr 2
  split
  · rw [List.map_map]; rfl
  · rfl
theorem candQ_len (rs : List Rw) (p q : Nat) : (candQ rs p q).length ≤ rs.length + 2 := by
  have := rest_len rs q
  unfold candQ
  rw [List.length_cons, List.length_cons]
  split
  · rw [List.length_map]; omega
  · simp
theorem cq_loop {rs : List Rw} (hn : rs.length ≤ 100) {p : Nat} (hp : p < rs.length) : ∀ (qs : List Nat), (∀ q ∈ qs, q < rs.length) → ∀ (ds : List D), ds.length + qs.length * (rs.length + 2) + 2 < sizeLine → ∀ z, ∃ y, loop (gN 4) l1__law_steps (qs.map fun q : Nat => .int q) [.fz (.tuple (rs.map rwD)), .ow ds, .fz (.int (rs.length : Int)), .fz (.int (p : Int)), z] = some (.nx, [.fz (.tuple (rs.map rwD)), .ow (ds ++ (candP rs p qs).map zpD), .fz (.int (rs.length : Int)), .fz (.int (p : Int)), y])
  | [], _, ds, _, z => ⟨z, by simp [candP]⟩
  | q :: qs, hq, ds, hd, z => by
    rw [List.length_cons, Nat.succ_mul] at hd
    have hq0 := hq q List.mem_cons_self
    have rl := rest_len rs q
    have cl := candQ_len rs p q
    have st := cq_x (.tuple (rs.map rwD)) _ _ rs.length p q _ ds _ (ro_ix hp) (wd_ix _) (eq_swing _) (fun z => pl_x _ z rs.length p q ((q + 1 : Nat) : Int) (rest rs q) (by omega) (by omega) (rng2_nat (a := q + 1) (b := rs.length) (by omega) (by omega))) (by omega) (by omega) (by rw [List.length_map]; omega)
    rw [← candQ_map] at st
    obtain ⟨y, e⟩ := cq_loop hn hp qs (fun x hx => hq x (List.mem_cons_of_mem _ hx)) (ds ++ (candQ rs p q).map zpD) (by rw [List.length_append, List.length_map]; omega) (.fz (.int (q : Int)))
    refine ⟨y, ?_⟩
    rw [List.map_cons, loop_step (δ1 := [.fz (.tuple (rs.map rwD)), .ow ds, .fz (.int (rs.length : Int)), .fz (.int (p : Int)), .fz (.int (q : Int))]) (by simp) st, e, candP, candP, List.flatMap_cons, List.map_append, List.append_assoc]
theorem cand_succ (rs : List Rw) (m : Nat) : cand rs (m + 1) = cand rs m ++ candP rs m (rest rs m) := by
  unfold cand
  rw [List.range_succ, List.flatMap_append]
  simp
theorem candP_len (rs : List Rw) (p : Nat) : ∀ qs, (candP rs p qs).length ≤ qs.length * (rs.length + 2)
  | [] => by simp [candP]
  | q :: qs => by
    have h1 := candQ_len rs p q
    have h2 := candP_len rs p qs
    rw [candP, List.flatMap_cons, List.length_append, List.length_cons, Nat.succ_mul]
    unfold candP at h2
    omega
theorem cand_len (rs : List Rw) : ∀ m, (cand rs m).length ≤ m * (rs.length * (rs.length + 2))
  | 0 => by simp [cand]
  | m + 1 => by
    have h1 := candP_len rs m (rest rs m)
    have h2 := Nat.mul_le_mul_right (rs.length + 2) (rest_len rs m)
    have h3 := cand_len rs m
    rw [cand_succ, List.length_append, Nat.succ_mul]
    omega
theorem l2_x (R : D) (n p p' : Int) (L ds es : List D) (z y : Sl) (hp : p + 1 = p') (hr : rng2D [.int p', .int n] = some L) (lp : loop (gN 4) l1__law_steps L [.fz R, .ow ds, .fz (.int n), .fz (.int p), z] = some (.nx, [.fz R, .ow es, .fz (.int n), .fz (.int p), y])) : l2__law_steps [.fz R, .ow ds, .fz (.int n), .fz (.int p), z] = some (.nx, [.fz R, .ow es, .fz (.int n), .fz (.int p), y]) := by
  simp [l2__law_steps, hp, hr, lp]
theorem p2_x (R : D) (z2 z3 z4 : Sl) (xs : List Sp) (b : Sp → Bool) (hl : xs.length ≤ 16777216) (hb : ∀ x ∈ xs, g__law_fit [R, zpD x] = some (.bool (b x))) : p2__law_steps [.fz R, .fz (.list (xs.map zpD)), z2, z3, z4] = some (.list ((xs.filter b).map zpD)) := by
  have := compI_map (fi := oI (oV 1) itsD) (caps := [(0, "rows")]) (ft := ob (VL.os (oCons (oV 1) (oCons (oV 0) (oNil))) g__law_fit)) (fe := oV 0) (δ := [.fz R, .fz (.list (xs.map zpD)), z2, z3, z4]) (h := zpD) (k := zpD) (b := b) (xs := xs) (by simp) hl (fun x hx => by simp [capS, hb x hx]) (fun x _ _ => by simp)
  exact this
theorem ls_x (R X F : D) (n : Int) (L xs : List D) (z3 z4 : Sl) (ln : lenD [R] = some (.int n)) (hr : rng1D [.int n] = some L) (lp : loop (gN 3) l2__law_steps L [.fz R, .ow [], .fz (.int n), .un, .un] = some (.nx, [.fz R, .ow xs, .fz (.int n), z3, z4])) (h2 : p2__law_steps [.fz R, .fz (.list xs), .fz (.int n), z3, z4] = some F) (hs : sortD F = some X) : g__law_steps [R] = some X := by
  simp [-sSeq, -sIf, sSeq_k, sIf_k, g__law_steps, runB, b__law_steps, startD, ln, hr, lp, dFz, h2, hs]
theorem cand_in {rs : List Rw} {x : Sp} (h : x ∈ cand rs rs.length) : inR rs.length x := by
  obtain ⟨p, hp, h⟩ := List.mem_flatMap.mp h
  obtain ⟨q, hq, h⟩ := List.mem_flatMap.mp h
  have hp := List.mem_range.mp hp
  have hq := mem_rest.mp hq
  unfold candQ at h
  rcases List.mem_cons.mp h with rfl | h
  · exact ⟨hp, hq.2⟩
  rcases List.mem_cons.mp h with rfl | h
  · exact ⟨hp, hq.2⟩
  split at h
  · obtain ⟨t, ht, rfl⟩ := List.mem_map.mp h
    exact ⟨hp, hq.2, (mem_rest.mp ht).2⟩
  · cases h
theorem lsteps_eq {rs : List Rw} (ho : Ord rs) (hn : rs.length ≤ 100) (X : D) (hs : sortD (.list (((cand rs rs.length).filter (fitB rs)).map zpD)) = some X) : g__law_steps [.tuple (rs.map rwD)] = some X := by
  have big : ∀ i, i ≤ rs.length → i * (rs.length * (rs.length + 2)) ≤ 100 * (100 * 102) := fun i hi => Nat.mul_le_mul (by omega) (Nat.mul_le_mul hn (by omega))
  obtain ⟨δ', lp, z3, z4, rfl⟩ := loop_rng (b := l2__law_steps) (k := 3) (fun i δ => ∃ z3 z4, δ = [.fz (.tuple (rs.map rwD)), .ow ((cand rs i).map zpD), .fz (.int (rs.length : Int)), z3, z4]) rs.length (by
    rintro i hi δ ⟨z3, z4, rfl⟩
    have l2 := rest_len rs i
    have l4 := cand_len rs i
    have l5 := big i (by omega)
    have l6 : (rest rs i).length * (rs.length + 2) ≤ 100 * 102 := Nat.mul_le_mul (by omega) (by omega)
    obtain ⟨y, e⟩ := cq_loop hn hi (rest rs i) (fun q hq => (mem_rest.mp hq).2) ((cand rs i).map zpD) (by rw [List.length_map]; show _ < 16777216; omega) z4
    have st := l2_x (.tuple (rs.map rwD)) rs.length i ((i + 1 : Nat) : Int) _ _ _ z4 y (by omega) (rng2_nat (a := i + 1) (b := rs.length) (by omega) (by omega)) e
    refine ⟨_, st, .fz (.int (i : Int)), y, ?_⟩
    rw [cand_succ, List.map_append]) [.fz (.tuple (rs.map rwD)), .ow [], .fz (.int (rs.length : Int)), .un, .un] ⟨_, _, rfl⟩
  have l4 := cand_len rs rs.length
  have l5 := big rs.length (Nat.le_refl _)
  exact ls_x _ X _ rs.length _ _ z3 z4 (by simp) (rng1D_int (j := (rs.length : Int)) (by omega) (by omega)) lp (p2_x _ _ _ _ (cand rs rs.length) (fitB rs) (by omega) (fun x hx => fit_eq ho hn x (cand_in hx))) hs
/-! ### the same steps -/
theorem lets_mark {rs : List Rw} (ho : Ord rs) {p x : Nat} (hp : p < x) (hx : x < rs.length) : lets (ro rs p) (ro rs x) (lks (rs.take x)) = lets (ro rs p) (ro rs x) (-1) := by
  have le : ∀ {a b : Nat}, a ≤ b → lks (rs.take a) ≤ lks (rs.take b) := fun {a b} h => by
    have e : rs.take a = (rs.take b).take a := by rw [List.take_take, Nat.min_eq_left h]
    rw [e]
    exact List.Sublist.countP_le (List.take_sublist _ _)
  have no : ∀ {r q : Rw} {m : Nat}, mb m r → ∀ n : Nat, m ≤ n → asks r q n = asks r q (-1) := fun {r q m} h n hn => by
    cases r with
    | wflip k j =>
      have h : k < m := h
      simp only [asks]
      rw [show (((k : Int) == (n : Int)) : Bool) = false by simp; omega, show (((k : Int) == -1) : Bool) = false by simp]
    | wsign k j =>
      have h : k < m := h
      simp only [asks]
      rw [show (((k : Int) == (n : Int)) : Bool) = false by simp; omega, show (((k : Int) == -1) : Bool) = false by simp]
    | _ => rfl
  have h1 := no (q := ro rs p) (ho.at_ x hx) (lks (rs.take x)) (Nat.le_refl _)
  have h2 := no (q := ro rs x) (ho.at_ p (by omega)) (lks (rs.take x)) (le (by omega))
  rw [← ro_at hx] at h1
  rw [← ro_at (show p < rs.length by omega)] at h2
  unfold lets
  rw [h1, h2]
theorem mem_twoS {rs : List Rw} {p q : Nat} {x : Sp} : x ∈ twoS rs p q ↔ (x = .g p q ∧ un (ro rs p) (ro rs q) = true) ∨ (x = .j p q ∧ (ro rs p).isT = true ∧ te (ro rs p) (ro rs q) = true) := by
  unfold twoS
  rw [List.mem_append]
  cases un (ro rs p) (ro rs q) <;> cases (ro rs p).isT <;> cases te (ro rs p) (ro rs q) <;> simp
theorem mem_twoL {rs : List Rw} {p : Nat} {x : Sp} : ∀ {m a : Nat}, x ∈ twoL rs p (List.range' a m) ↔ ∃ q, a ≤ q ∧ q < a + m ∧ x ∈ twoS rs p q ∧ ∀ y, a ≤ y → y < q → lets (ro rs p) (ro rs y) (-1) = true
  | 0, a => by
    simp only [List.range'_zero, twoL, List.not_mem_nil, false_iff]
    rintro ⟨q, h1, h2, _⟩
    omega
  | m + 1, a => by
    rw [List.range'_succ, twoL, List.mem_append]
    constructor
    · rintro (h | h)
      · exact ⟨a, Nat.le_refl _, by omega, h, fun y h1 h2 => absurd h1 (by omega)⟩
      · split at h
        · rename_i hl
          obtain ⟨q, h1, h2, h3, h4⟩ := mem_twoL.mp h
          refine ⟨q, by omega, by omega, h3, fun y y1 y2 => ?_⟩
          by_cases e : y = a
          · rw [e]; exact hl
          · exact h4 y (by omega) y2
        · cases h
    · rintro ⟨q, h1, h2, h3, h4⟩
      by_cases e : q = a
      · subst e; exact .inl h3
      · refine .inr ?_
        rw [if_pos (h4 a (Nat.le_refl _) (by omega))]
        exact mem_twoL.mpr ⟨q, by omega, by omega, h3, fun y y1 y2 => h4 y (by omega) y2⟩
theorem wl_onk (r : Rw) (w : Nat) : (wl r).any (· == w) = onk r w := by
  unfold onk
  rw [Bool.eq_iff_iff, List.any_eq_true, List.any_eq_true]
  constructor
  · rintro ⟨x, hx, e⟩
    have e := eq_of_beq e
    subst e
    obtain ⟨k, hk⟩ := (wl_kl x).mp hx
    exact ⟨_, hk, by simp⟩
  · rintro ⟨k, hk, e⟩
    have e := eq_of_beq e
    exact ⟨w, (wl_kl w).mpr ⟨k.2, by rw [← e]; exact hk⟩, by simp⟩
theorem filt1 (f : Nat → Bool) {q : Nat} {l : List Nat} : ∀ {m a : Nat}, (List.range' a m).filter f = q :: l ↔ a ≤ q ∧ q < a + m ∧ f q = true ∧ (∀ x, a ≤ x → x < q → f x = false) ∧ l = (List.range' (q + 1) (a + m - (q + 1))).filter f
  | 0, a => by
    simp only [List.range'_zero, List.filter_nil]
    constructor
    · intro h; cases h
    · rintro ⟨h1, h2, _⟩; omega
  | m + 1, a => by
    rw [List.range'_succ, List.filter_cons]
    split
    · rename_i hf
      constructor
      · intro h
        obtain ⟨rfl, rfl⟩ := List.cons.inj h
        exact ⟨Nat.le_refl _, by omega, hf, fun x h1 h2 => absurd h1 (by omega), by rw [show a + (m + 1) - (a + 1) = m by omega]⟩
      · rintro ⟨h1, h2, h3, h4, h5⟩
        have e : q = a := by
          by_cases e : q = a
          · exact e
          · have := h4 a (Nat.le_refl _) (by omega)
            rw [hf] at this
            cases this
        subst e
        rw [h5, show q + (m + 1) - (q + 1) = m by omega]
    · rename_i hf
      rw [filt1 f (m := m) (a := a + 1)]
      constructor
      · rintro ⟨h1, h2, h3, h4, h5⟩
        refine ⟨by omega, by omega, h3, fun x x1 x2 => ?_, by rw [h5, show a + 1 + m = a + (m + 1) by omega]⟩
        by_cases e : x = a
        · rw [e]; simpa using hf
        · exact h4 x (by omega) x2
      · rintro ⟨h1, h2, h3, h4, h5⟩
        have e : q ≠ a := fun e => by rw [e] at h3; exact hf h3
        exact ⟨by omega, by omega, h3, fun x x1 x2 => h4 x (by omega) x2, by rw [h5, show a + 1 + m = a + (m + 1) by omega]⟩
theorem filt2 (f : Nat → Bool) {q t m a : Nat} : (∃ l, (List.range' a m).filter f = q :: t :: l) ↔ a ≤ q ∧ q < t ∧ t < a + m ∧ f q = true ∧ f t = true ∧ ∀ x, a ≤ x → x < t → x ≠ q → f x = false := by
  constructor
  · rintro ⟨l, h⟩
    obtain ⟨h1, h2, h3, h4, h5⟩ := (filt1 f).mp h
    obtain ⟨k1, k2, k3, k4, _⟩ := (filt1 f).mp h5.symm
    refine ⟨h1, by omega, by omega, h3, k3, fun x x1 x2 x3 => ?_⟩
    by_cases e : x < q
    · exact h4 x x1 e
    · exact k4 x (by omega) x2
  · rintro ⟨h1, h2, h3, h4, h5, h6⟩
    refine ⟨(List.range' (t + 1) (q + 1 + (a + m - (q + 1)) - (t + 1))).filter f, (filt1 f).mpr ⟨h1, by omega, h4, fun x x1 x2 => h6 x x1 (by omega) (by omega), ?_⟩⟩
    exact ((filt1 f).mpr ⟨by omega, by omega, h5, fun x x1 x2 => h6 x (by omega) x2 (by omega), rfl⟩).symm
theorem isS_eq {r : Rw} (h : r.isS = true) : r = .pl (.swing r.n1) := by
  cases r with
  | pl r => cases r <;> first | rfl | cases h
  | _ => cases h
theorem isS_wd {r q : Rw} (h : r.isS = true) (hq : q.isS = false) : (r.wd == q.wd) = false := by
  have a := wd_swing r
  have b := wd_swing q
  rw [h] at a
  rw [eq_of_beq a, Bool.beq_comm, b, hq]
theorem eqr_sw (w : Nat) (r : Rw) : eqr (.pl (.swing w)) r = eqr r (.pl (.swing w)) := by
  cases h : r.isS with
  | false =>
    have a := isS_wd (r := .pl (.swing w)) (q := r) rfl h
    rw [eqr_no a, eqr_no (by rw [Bool.beq_comm]; exact a)]
  | true =>
    rw [isS_eq h]
    simp only [eqr, rwD, rowD, PyData.eqv, PyData.eqvAll]
    simp [Bool.beq_comm]
theorem eqr_sw_eq {w : Nat} {r : Rw} (h : eqr (.pl (.swing w)) r = true) : r = .pl (.swing w) := by
  have e := eqr_wd h
  have hS : r.isS = true := by rw [← wd_swing, ← e]; exact wd_swing (.pl (.swing w))
  rw [isS_eq hS] at h ⊢
  simp only [eqr, rwD, rowD, PyData.eqv, PyData.eqvAll] at h
  simp at h
  have : w = r.n1 := by omega
  rw [this]
theorem mem_cand_g {rs : List Rw} {p q : Nat} : Sp.g p q ∈ cand rs rs.length ↔ p < q ∧ q < rs.length := by
  constructor
  · intro h
    obtain ⟨p', hp, h⟩ := List.mem_flatMap.mp h
    obtain ⟨q', hq, h⟩ := List.mem_flatMap.mp h
    have hq := mem_rest.mp hq
    unfold candQ at h
    rcases List.mem_cons.mp h with h | h
    · cases h; exact hq
    rcases List.mem_cons.mp h with h | h
    · cases h
    split at h
    · obtain ⟨t, ht, h⟩ := List.mem_map.mp h
      cases h
    · cases h
  · intro h
    exact List.mem_flatMap.mpr ⟨p, List.mem_range.mpr (by omega), List.mem_flatMap.mpr ⟨q, mem_rest.mpr h, List.mem_cons_self⟩⟩
theorem mem_cand_j {rs : List Rw} {p q : Nat} : Sp.j p q ∈ cand rs rs.length ↔ p < q ∧ q < rs.length := by
  constructor
  · intro h
    obtain ⟨p', hp, h⟩ := List.mem_flatMap.mp h
    obtain ⟨q', hq, h⟩ := List.mem_flatMap.mp h
    have hq := mem_rest.mp hq
    unfold candQ at h
    rcases List.mem_cons.mp h with h | h
    · cases h
    rcases List.mem_cons.mp h with h | h
    · cases h; exact hq
    split at h
    · obtain ⟨t, ht, h⟩ := List.mem_map.mp h
      cases h
    · cases h
  · intro h
    exact List.mem_flatMap.mpr ⟨p, List.mem_range.mpr (by omega), List.mem_flatMap.mpr ⟨q, mem_rest.mpr h, List.mem_cons_of_mem _ List.mem_cons_self⟩⟩
theorem mem_cand_s {rs : List Rw} {p q t : Nat} : Sp.s p q t ∈ cand rs rs.length ↔ (ro rs p).isS = true ∧ p < q ∧ q < t ∧ t < rs.length := by
  constructor
  · intro h
    obtain ⟨p', hp, h⟩ := List.mem_flatMap.mp h
    obtain ⟨q', hq, h⟩ := List.mem_flatMap.mp h
    have hq := mem_rest.mp hq
    unfold candQ at h
    rcases List.mem_cons.mp h with h | h
    · cases h
    rcases List.mem_cons.mp h with h | h
    · cases h
    split at h
    · rename_i hS
      obtain ⟨t', ht, h⟩ := List.mem_map.mp h
      have ht := mem_rest.mp ht
      cases h
      exact ⟨hS, hq.1, ht.1, ht.2⟩
    · cases h
  · rintro ⟨hS, h1, h2, h3⟩
    refine List.mem_flatMap.mpr ⟨p, List.mem_range.mpr (by omega), List.mem_flatMap.mpr ⟨q, mem_rest.mpr ⟨h1, by omega⟩, List.mem_cons_of_mem _ (List.mem_cons_of_mem _ ?_)⟩⟩
    rw [if_pos hS]
    exact List.mem_map.mpr ⟨t, mem_rest.mpr ⟨h2, h3⟩, rfl⟩
theorem clr_iff {rs : List Rw} (ho : Ord rs) {p q : Nat} (hq : q < rs.length) : clrL rs p (btw p q) = true ↔ ∀ y, p + 1 ≤ y → y < q → lets (ro rs p) (ro rs y) (-1) = true := by
  unfold clrL
  rw [List.all_eq_true]
  constructor
  · intro h y h1 h2
    rw [← lets_mark ho (show p < y by omega) (by omega)]
    exact h y (mem_btw.mpr ⟨by omega, h2⟩)
  · intro h y hy
    have hy := mem_btw.mp hy
    rw [lets_mark ho hy.1 (by omega)]
    exact h y (by omega) hy.2
theorem mem_threeL {rs : List Rw} {p : Nat} {x : Sp} : x ∈ threeL rs p ↔ ∃ q t, x = .s p q t ∧ (ro rs p).isS = true ∧ (∃ l, onw rs p (ro rs p).n1 = q :: t :: l) ∧ eqr (ro rs t) (ro rs p) = true ∧ (swR (ro rs q) (ro rs p).n1).isSome = true := by
  constructor
  · intro h
    unfold threeL at h
    split at h
    · rename_i w ew
      split at h
      · rename_i a b l hl
        split at h
        · rename_i hc
          have hc := Bool.and_eq_true_iff.mp hc
          refine ⟨a, b, List.mem_singleton.mp h, by rw [ew]; rfl, ⟨l, by rw [ew]; exact hl⟩, hc.1, by rw [ew]; exact hc.2⟩
        · cases h
      · cases h
    · cases h
  · rintro ⟨q, t, rfl, hS, ⟨l, hl⟩, h1, h2⟩
    unfold threeL
    have ew := isS_eq hS
    generalize ro rs p = r at ew hl h1 h2 hS ⊢
    rw [ew]
    simp only
    rw [hl]
    simp only
    rw [← ew, h1, h2]
    simp
theorem same_mem {rs : List Rw} (ho : Ord rs) (x : Sp) : x ∈ allL rs rs.length ↔ x ∈ (cand rs rs.length).filter (fitB rs) := by
  rw [List.mem_filter]
  have two : ∀ {p q : Nat} {x : Sp}, x ∈ twoL rs p (rest rs p) ↔ ∃ q, p < q ∧ q < rs.length ∧ x ∈ twoS rs p q ∧ ∀ y, p + 1 ≤ y → y < q → lets (ro rs p) (ro rs y) (-1) = true := fun {p q x} => by
    unfold rest
    rw [mem_twoL]
    constructor
    · rintro ⟨q, h1, h2, h3⟩; exact ⟨q, by omega, by omega, h3⟩
    · rintro ⟨q, h1, h2, h3⟩; exact ⟨q, by omega, by omega, h3⟩
  have all : x ∈ allL rs rs.length ↔ ∃ p, p < rs.length ∧ (x ∈ twoL rs p (rest rs p) ∨ x ∈ threeL rs p) := by
    unfold allL
    rw [List.mem_flatMap]
    constructor
    · rintro ⟨p, hp, h⟩; exact ⟨p, List.mem_range.mp hp, List.mem_append.mp h⟩
    · rintro ⟨p, hp, h⟩; exact ⟨p, List.mem_range.mpr hp, List.mem_append.mpr h⟩
  rw [all]
  cases x with
  | g p q =>
    rw [mem_cand_g]
    simp only [fitB, Bool.and_eq_true]
    constructor
    · rintro ⟨p', hp, h | h⟩
      · obtain ⟨q', h1, h2, h3, h4⟩ := (two (q := 0)).mp h
        rcases mem_twoS.mp h3 with ⟨e, hu⟩ | ⟨e, _⟩
        · cases e
          exact ⟨⟨h1, h2⟩, hu, (clr_iff ho h2).mpr h4⟩
        · cases e
      · obtain ⟨q, t, e, _⟩ := mem_threeL.mp h
        cases e
    · rintro ⟨⟨h1, h2⟩, hu, hc⟩
      exact ⟨p, by omega, .inl ((two (q := 0)).mpr ⟨q, h1, h2, mem_twoS.mpr (.inl ⟨rfl, hu⟩), (clr_iff ho h2).mp hc⟩)⟩
  | j p q =>
    rw [mem_cand_j]
    simp only [fitB, Bool.and_eq_true]
    constructor
    · rintro ⟨p', hp, h | h⟩
      · obtain ⟨q', h1, h2, h3, h4⟩ := (two (q := 0)).mp h
        rcases mem_twoS.mp h3 with ⟨e, hu⟩ | ⟨e, ht, hv⟩
        · cases e
        · cases e
          exact ⟨⟨h1, h2⟩, ht, by rw [te_comm]; exact hv, (clr_iff ho h2).mpr h4⟩
      · obtain ⟨q, t, e, _⟩ := mem_threeL.mp h
        cases e
    · rintro ⟨⟨h1, h2⟩, ht, hv, hc⟩
      exact ⟨p, by omega, .inl ((two (q := 0)).mpr ⟨q, h1, h2, mem_twoS.mpr (.inr ⟨rfl, ht, by rw [te_comm]; exact hv⟩), (clr_iff ho h2).mp hc⟩)⟩
  | s p q t =>
    rw [mem_cand_s]
    have fit : fitB rs (.s p q t) = true ↔ (ro rs p).isS = true ∧ eqr (ro rs p) (ro rs t) = true ∧ (swR (ro rs q) (ro rs p).n1).isSome = true ∧ ∀ x, p < x → x < t → x ≠ q → onk (ro rs x) (ro rs p).n1 = false := by
      have he : ∀ o : Option Rw, o.toList.isEmpty = !o.isSome := fun o => by cases o <;> rfl
      simp only [fitB, he, Bool.and_eq_true, List.all_eq_true, mem_btw]
      constructor
      · rintro ⟨h1, h2⟩
        have h1 : ((ro rs p).isS = true ∧ eqr (ro rs p) (ro rs t) = true ∧ (swR (ro rs q) (ro rs p).n1).isSome = true) := by
          simpa using h1
        refine ⟨h1.1, h1.2.1, h1.2.2, fun x x1 x2 x3 => ?_⟩
        have := h2 x ⟨x1, x2⟩
        have n : (x == q) = false := by simpa using x3
        rw [n] at this
        simpa using this
      · rintro ⟨h1, h2, h3, h4⟩
        refine ⟨by rw [h1, h2, h3]; rfl, fun x hx => ?_⟩
        by_cases e : x = q
        · subst e; simp
        · rw [h4 x hx.1 hx.2 e]; simp
    rw [fit]
    have fw : ∀ w, (∃ l, onw rs p w = q :: t :: l) ↔ p + 1 ≤ q ∧ q < t ∧ t < p + 1 + (rs.length - (p + 1)) ∧ onk (ro rs q) w = true ∧ onk (ro rs t) w = true ∧ ∀ x, p + 1 ≤ x → x < t → x ≠ q → onk (ro rs x) w = false := fun w => by
      have e : onw rs p w = (List.range' (p + 1) (rs.length - (p + 1))).filter fun q => onk (ro rs q) w := by
        unfold onw rest
        exact List.filter_congr fun q _ => wl_onk _ _
      rw [e]
      exact filt2 _
    constructor
    · rintro ⟨p', hp, h | h⟩
      · obtain ⟨q', h1, h2, h3, h4⟩ := (two (q := 0)).mp h
        rcases mem_twoS.mp h3 with ⟨e, _⟩ | ⟨e, _⟩ <;> cases e
      · obtain ⟨q', t', e, hS, hl, he, hw⟩ := mem_threeL.mp h
        cases e
        obtain ⟨a1, a2, a3, a4, a5, a6⟩ := (fw _).mp hl
        refine ⟨⟨hS, by omega, a2, by omega⟩, hS, ?_, hw, fun x x1 x2 x3 => a6 x (by omega) x2 x3⟩
        rw [isS_eq hS, eqr_sw, ← isS_eq hS]
        exact he
    · rintro ⟨⟨hS, h1, h2, h3⟩, _, he, hw, hx⟩
      refine ⟨p, by omega, .inr (mem_threeL.mpr ⟨q, t, rfl, hS, (fw _).mpr ⟨by omega, h2, by omega, ?_, ?_, fun x x1 x2 x3 => hx x (by omega) x2 x3⟩, ?_, hw⟩)⟩
      · obtain ⟨r', e⟩ := Option.isSome_iff_exists.mp hw
        rw [← wl_onk]
        exact List.any_eq_true.mpr ⟨_, swR_wl e, by simp⟩
      · rw [isS_eq hS] at he
        rw [eqr_sw_eq he]
        simp [onk, kl]
      · rw [isS_eq hS] at he ⊢
        rw [← eqr_sw]
        exact he
/-! ### each step once -/
def Sp.pp : Sp → Nat
  | .g p _ => p
  | .j p _ => p
  | .s p _ _ => p
def Sp.qq : Sp → Nat
  | .g _ q => q
  | .j _ q => q
  | .s _ q _ => q
theorem range_lt (a m : Nat) : (List.range' a m).Pairwise (· < ·) := List.pairwise_lt_range'
theorem nd_range (a m : Nat) : (List.range' a m).Pairwise (· ≠ ·) := (range_lt a m).imp fun h => Nat.ne_of_lt h
theorem pw_map {α β : Type} (f : α → β) {R : β → β → Prop} {S : α → α → Prop} {l : List α} (h : l.Pairwise S) (hf : ∀ a b, S a b → R (f a) (f b)) : (l.map f).Pairwise R := List.pairwise_map.mpr (h.imp fun h => hf _ _ h)
theorem candQ_pq {rs : List Rw} {p q : Nat} {x : Sp} (h : x ∈ candQ rs p q) : x.pp = p ∧ x.qq = q := by
  unfold candQ at h
  rcases List.mem_cons.mp h with rfl | h
  · exact ⟨rfl, rfl⟩
  rcases List.mem_cons.mp h with rfl | h
  · exact ⟨rfl, rfl⟩
  split at h
  · obtain ⟨t, _, rfl⟩ := List.mem_map.mp h
    exact ⟨rfl, rfl⟩
  · cases h
theorem candQ_nd (rs : List Rw) (p q : Nat) : (candQ rs p q).Pairwise (· ≠ ·) := by
  unfold candQ
  have hs : ∀ x ∈ (if (ro rs p).isS then (rest rs q).map (Sp.s p q) else []), ∃ t, x = .s p q t := fun x hx => by
    split at hx
    · obtain ⟨t, _, rfl⟩ := List.mem_map.mp hx
      exact ⟨t, rfl⟩
    · cases hx
  refine List.pairwise_cons.mpr ⟨fun x hx e => ?_, List.pairwise_cons.mpr ⟨fun x hx e => ?_, ?_⟩⟩
  · rcases List.mem_cons.mp hx with h | h
    · rw [← e] at h; cases h
    · obtain ⟨t, h⟩ := hs x h
      rw [← e] at h; cases h
  · obtain ⟨t, h⟩ := hs x hx
    rw [← e] at h; cases h
  · split
    · exact pw_map (Sp.s p q) (nd_range _ _) fun a b h e => h (by cases e; rfl)
    · exact .nil
theorem cand_nd (rs : List Rw) (m : Nat) : (cand rs m).Pairwise (· ≠ ·) := by
  unfold cand
  refine List.pairwise_flatMap.mpr ⟨fun p _ => ?_, ?_⟩
  · unfold candP
    refine List.pairwise_flatMap.mpr ⟨fun q _ => candQ_nd rs p q, ?_⟩
    refine (nd_range _ _).imp fun {a b} h x hx y hy e => h ?_
    rw [← (candQ_pq hx).2, ← (candQ_pq hy).2, e]
  · have : (List.range m).Pairwise (· ≠ ·) := by rw [List.range_eq_range']; exact nd_range _ _
    refine this.imp fun {a b} h x hx y hy e => h ?_
    obtain ⟨q, _, hx⟩ := List.mem_flatMap.mp hx
    obtain ⟨q', _, hy⟩ := List.mem_flatMap.mp hy
    rw [← (candQ_pq hx).1, ← (candQ_pq hy).1, e]
theorem twoS_nd (rs : List Rw) (p q : Nat) : (twoS rs p q).Pairwise (· ≠ ·) := by
  unfold twoS
  split <;> split <;> simp
theorem twoS_pq {rs : List Rw} {p q : Nat} {x : Sp} (h : x ∈ twoS rs p q) : x.pp = p ∧ x.qq = q := by
  rcases mem_twoS.mp h with ⟨rfl, _⟩ | ⟨rfl, _⟩ <;> exact ⟨rfl, rfl⟩
theorem twoL_q {rs : List Rw} {p : Nat} {x : Sp} : ∀ {qs : List Nat}, x ∈ twoL rs p qs → x.pp = p ∧ x.qq ∈ qs ∧ ∀ a b t, x ≠ .s a b t
  | [], h => by cases h
  | q :: qs, h => by
    rw [twoL] at h
    rcases List.mem_append.mp h with h | h
    · have := twoS_pq h
      refine ⟨this.1, by rw [this.2]; exact List.mem_cons_self, fun a b t e => ?_⟩
      rcases mem_twoS.mp h with ⟨f, _⟩ | ⟨f, _⟩ <;> rw [e] at f <;> cases f
    · split at h
      · have := twoL_q h
        exact ⟨this.1, List.mem_cons_of_mem _ this.2.1, this.2.2⟩
      · cases h
theorem twoL_nd (rs : List Rw) (p : Nat) : ∀ {qs : List Nat}, qs.Pairwise (· ≠ ·) → (twoL rs p qs).Pairwise (· ≠ ·)
  | [], _ => .nil
  | q :: qs, h => by
    obtain ⟨h1, h2⟩ := List.pairwise_cons.mp h
    rw [twoL]
    refine List.pairwise_append.mpr ⟨twoS_nd rs p q, ?_, fun x hx y hy e => ?_⟩
    · split
      · exact twoL_nd rs p h2
      · exact .nil
    · split at hy
      · have a := (twoS_pq hx).2
        have b := (twoL_q hy).2.1
        rw [← e, a] at b
        exact h1 q b rfl
      · cases hy
theorem allL_nd (rs : List Rw) (m : Nat) : (allL rs m).Pairwise (· ≠ ·) := by
  unfold allL
  have three : ∀ {p x}, x ∈ threeL rs p → x.pp = p ∧ ∃ a b t, x = .s a b t := fun h => by
    obtain ⟨q, t, rfl, _⟩ := mem_threeL.mp h
    exact ⟨rfl, _, _, _, rfl⟩
  refine List.pairwise_flatMap.mpr ⟨fun p _ => ?_, ?_⟩
  · refine List.pairwise_append.mpr ⟨twoL_nd rs p (nd_range _ _), ?_, fun x hx y hy e => ?_⟩
    · have := threeL_len rs p
      match h : threeL rs p with
      | [] => exact .nil
      | [a] => exact List.pairwise_singleton _ _
      | a :: b :: l => rw [h] at this; simp at this
    · obtain ⟨_, a, b, t, h⟩ := three hy
      exact (twoL_q hx).2.2 a b t (e.trans h)
  · have : (List.range m).Pairwise (· ≠ ·) := by rw [List.range_eq_range']; exact nd_range _ _
    refine this.imp fun {a b} h x hx y hy e => h ?_
    have pa : x.pp = a := by
      rcases List.mem_append.mp hx with z | z
      · exact (twoL_q z).1
      · exact (three z).1
    have pb : y.pp = b := by
      rcases List.mem_append.mp hy with z | z
      · exact (twoL_q z).1
      · exact (three z).1
    rw [← pa, ← pb, e]
theorem same_perm {rs : List Rw} (ho : Ord rs) : (allL rs rs.length).Perm ((cand rs rs.length).filter (fitB rs)) :=
  (List.perm_ext_iff_of_nodup (allL_nd rs _) ((cand_nd rs _).sublist List.filter_sublist)).mpr fun x => same_mem ho x
/-! ### steps in their order -/
def spK : Sp → List Key
  | .g p q => [.inr "gone", .inl p, .inl q]
  | .j p q => [.inr "joined", .inl p, .inl q]
  | .s p q t => [.inr "swung", .inl p, .inl q, .inl t]
theorem spK_D (x : Sp) : PyData.tuple ((spK x).map keyDD) = zpD x := by cases x <;> rfl
theorem keyT_sp (x : Sp) : keyT (zpD x) = some (spK x) := by cases x <;> rfl
theorem keyTs_sp : ∀ xs : List Sp, keyTs (xs.map zpD) = some (xs.map spK)
  | [] => rfl
  | x :: xs => by
    rw [List.map_cons, keyTs, keyT_sp, Option.bind_some, keyTs_sp xs, Option.bind_some, List.map_cons]
theorem text_sp (x : Sp) : textI (spK x) = true := by cases x <;> rfl
theorem intL_sp (x : Sp) (l : List D) : intL (zpD x :: l) = none := by cases x <;> rfl
theorem sort_sp (xs : List Sp) : sortD (.list (xs.map zpD)) = some (.list ((isortK (xs.map spK)).map fun k => .tuple (k.map keyDD))) := by
  cases xs with
  | nil => rfl
  | cons x xs =>
    have h1 : intL ((x :: xs).map zpD) = none := intL_sp x _
    have h2 := keyTs_sp (x :: xs)
    have h3 : (((x :: xs).map spK).all textI || ((x :: xs).map spK).all allI) = true := by
      rw [Bool.or_eq_true]
      refine .inl (List.all_eq_true.mpr fun k hk => ?_)
      obtain ⟨y, _, rfl⟩ := List.mem_map.mp hk
      exact text_sp y
    generalize (x :: xs) = ys at h1 h2 h3
    show ((itsD (.list (ys.map zpD))).bind _) = _
    have h0 : itsD (.list (ys.map zpD)) = some (ys.map zpD) := rfl
    rw [h0, Option.bind_some]
    simp only [h1, h2, Option.bind_some]
    rw [if_pos h3]
theorem sort_zs (xs : List Sp) : ∃ zs : List Sp, zs.length = xs.length ∧ sortD (.list (xs.map zpD)) = some (.list (zs.map zpD)) ∧ ∀ ys : List Sp, ys.Perm xs → sortD (.list (ys.map zpD)) = some (.list (zs.map zpD)) := by
  have pull : ∀ l : List (List Key), (∀ k ∈ l, ∃ x, k = spK x) → ∃ zs : List Sp, l = zs.map spK := by
    intro l
    induction l with
    | nil => exact fun _ => ⟨[], rfl⟩
    | cons k l ih =>
      intro h
      obtain ⟨x, rfl⟩ := h k List.mem_cons_self
      obtain ⟨zs, rfl⟩ := ih fun k hk => h k (List.mem_cons_of_mem _ hk)
      exact ⟨x :: zs, rfl⟩
  have pm := isortK_perm (xs.map spK)
  obtain ⟨zs, hz⟩ := pull (isortK (xs.map spK)) fun k hk => by
    obtain ⟨x, _, e⟩ := List.mem_map.mp (pm.mem_iff.mp hk)
    exact ⟨x, e.symm⟩
  have hl : zs.length = xs.length := by
    have := pm.length_eq
    rw [hz, List.length_map, List.length_map] at this
    exact this
  have key : ∀ ys : List Sp, ys.Perm xs → sortD (.list (ys.map zpD)) = some (.list (zs.map zpD)) := fun ys p => by
    rw [sort_sp, isortK_perm_eq (p.map spK), hz, List.map_map]
    congr 2
    exact List.map_congr_left fun x _ => spK_D x
  exact ⟨zs, hl, key xs (.refl _), key⟩
theorem both_eq' {rs : List Rw} (ho : Ord rs) (hn : rs.length ≤ 100) (w : Nat) : ∃ zs : List Sp, zs.length ≤ 100000 ∧ g_slides_of [cirD w rs] = some (.list (zs.map zpD)) ∧ g__law_steps [.tuple (rs.map rwD)] = some (.list (zs.map zpD)) := by
  obtain ⟨zs, hl, h1, h2⟩ := sort_zs ((cand rs rs.length).filter (fitB rs))
  have p := same_perm ho
  have l1 := allL_len rs rs.length
  have l2 : rs.length * (2 * rs.length + 1) ≤ 100 * 201 := Nat.mul_le_mul hn (by omega)
  exact ⟨zs, by rw [hl, ← p.length_eq]; omega, slides_eq ho hn w _ (h2 _ p), lsteps_eq ho hn _ h1⟩
/-! ### the law's own same -/
theorem isi_ti (i : Int) : isiD "tuple" (.int i) = some (.bool false) := rfl
theorem isi_si (i : Int) : isiD "str" (.int i) = some (.bool false) := rfl
theorem isi_ii (i : Int) : isiD "int" (.int i) = some (.bool true) := rfl
theorem isi_bi (i : Int) : isiD "bool" (.int i) = some (.bool false) := rfl
theorem isi_ts (s : Str) : isiD "tuple" (.str s) = some (.bool false) := rfl
theorem isi_ss (s : Str) : isiD "str" (.str s) = some (.bool true) := rfl
theorem isi_tt (ds : List D) : isiD "tuple" (.tuple ds) = some (.bool true) := rfl
theorem isi_ll (ds : List D) : isiD "list" (.list ds) = some (.bool true) := rfl
section
variable (G : List D → Option D)
theorem sm_int (i : Int) : runB N__law_same 2 (b__law_same G) [.int i, .int i] = some (.bool true) := by
  simp [-sSeq, -sIf, sSeq_k, sIf_k, runB, b__law_same, startD, isi_ti, isi_si, isi_ii, isi_bi]
theorem sm_str (s : Str) (hs : okS s = true) : runB N__law_same 2 (b__law_same G) [.str s, .str s] = some (.bool true) := by
  have e : eqD (.str s) (.str s) = some (.bool true) := by rw [eqS hs hs]; simp
  simp [-sSeq, -sIf, sSeq_k, sIf_k, runB, b__law_same, startD, e, isi_ts, isi_ss]
theorem sm_step (X x : D) (k : Int) (ha : ixD X (.int k) = some x) (h : G [x, x] = some (.bool true)) : l1__law_same G [.fz X, .fz X, .fz (.int k)] = some (.nx, [.fz X, .fz X, .fz (.int k)]) := by
  simp [-sSeq, -sIf, sSeq_k, sIf_k, l1__law_same, ha, h]
theorem sm_x (X : D) (S : Int) (L : List D) (δ : Dv) (t : isiD "tuple" X = some (.bool true)) (ln : lenD [X] = some (.int S)) (hN : rng1D [.int S] = some L) (e : loop (gN 2) (l1__law_same G) L [.fz X, .fz X, .un] = some (.nx, δ)) : runB N__law_same 2 (b__law_same G) [X, X] = some (.bool true) := by
  simp [-sSeq, -sIf, sSeq_k, sIf_k, runB, b__law_same, startD, t, ln, hN, e]
theorem sm_tup (ds : List D) (hn : ds.length ≤ 100000) (h : ∀ d ∈ ds, G [d, d] = some (.bool true)) : runB N__law_same 2 (b__law_same G) [.tuple ds, .tuple ds] = some (.bool true) := by
  obtain ⟨δ, lp, _⟩ := loop_rng (b := l1__law_same G) (k := 2) (fun i δ => ∃ z, δ = [.fz (.tuple ds), .fz (.tuple ds), z]) ds.length (by
    rintro i hi δ ⟨z, rfl⟩
    have e : ixD (.tuple ds) (.int (i : Int)) = some ds[i] := atI_of (j := i) rfl (by simp [hi])
    exact ⟨_, sm_step G _ _ i e (h _ (List.getElem_mem hi)), _, rfl⟩) [.fz (.tuple ds), .fz (.tuple ds), .un] ⟨_, rfl⟩
  exact sm_x G _ ds.length _ δ (isi_tt ds) rfl (rng1D_int (j := (ds.length : Int)) (by omega) (by omega)) lp
end
theorem sm_sp (x : Sp) : r__law_same 7 [zpD x, zpD x] = some (.bool true) := by
  have I := sm_int (r__law_same 5)
  have S := fun s hs => sm_str (r__law_same 5) s hs
  cases x with
  | g p q =>
    refine sm_tup (r__law_same 6) _ (by simp) fun d hd => ?_
    simp only [List.mem_cons, List.not_mem_nil, or_false] at hd
    rcases hd with rfl | rfl | rfl
    · exact S _ ok_gone
    · exact I _
    · exact I _
  | j p q =>
    refine sm_tup (r__law_same 6) _ (by simp) fun d hd => ?_
    simp only [List.mem_cons, List.not_mem_nil, or_false] at hd
    rcases hd with rfl | rfl | rfl
    · exact S _ ok_joined
    · exact I _
    · exact I _
  | s p q t =>
    refine sm_tup (r__law_same 6) _ (by simp) fun d hd => ?_
    simp only [List.mem_cons, List.not_mem_nil, or_false] at hd
    rcases hd with rfl | rfl | rfl | rfl
    · exact S _ ok_swung
    · exact I _
    · exact I _
    · exact I _
theorem same_zs (zs : List Sp) (h : zs.length ≤ 100000) : g__law_same [.tuple (zs.map zpD), .tuple (zs.map zpD)] = some (.bool true) :=
  sm_tup (r__law_same 7) _ (by rw [List.length_map]; exact h) fun d hd => by
    obtain ⟨x, _, rfl⟩ := List.mem_map.mp hd
    exact sm_sp x
/-! ### far apart -/
theorem Ord.plain {rs : List Rw} (h : ∀ r ∈ rs, good r ∧ r.isW = false) : Ord rs := by
  have m : ∀ {r : Rw} {l : Nat}, r.isW = false → mb l r := fun {r l} h => by
    cases r with
    | wflip m j => cases h
    | wsign m j => cases h
    | _ => exact trivial
  exact ⟨fun r hr => (h r hr).1, fun r hr => m (h r hr).2, fun i hi => m (h _ (List.getElem_mem hi)).2⟩
def pk5 (m : Int) : Rw := if m = 0 then .pl (.swing 0) else if m = 1 then .pl (.flip 0) else if m = 2 then .pl (.tie 2 0) else if m = 3 then .pl (.sign 0 2) else .pl (.turn 0 3)
def pk4 (m : Int) : Rw := if m = 0 then .pl (.turn 0 4) else if m = 1 then .look 2 else if m = 2 then .pl (.flip 0) else .pl (.cross 0 2)
theorem pk5_at (m : Int) (h0 : 0 ≤ m) (h : m < 5) : atI [PyData.tuple [.str "swing", .int 0], .tuple [.str "flip", .int 0], .tuple [.str "tie", .int 2, .int 0], .tuple [.str "sign", .int 0, .int 2], .tuple [.str "turn", .int 0, .int 3]] m = some (rwD (pk5 m)) := by
  have : m = 0 ∨ m = 1 ∨ m = 2 ∨ m = 3 ∨ m = 4 := by omega
  rcases this with h | h | h | h | h <;> subst h <;> rfl
theorem pk4_at (m : Int) (h0 : 0 ≤ m) (h : m < 4) : atI [PyData.tuple [.str "turn", .int 0, .int 4], .tuple [.str "look", .int 2], .tuple [.str "flip", .int 0], .tuple [.str "cross", .int 0, .int 2]] m = some (rwD (pk4 m)) := by
  have : m = 0 ∨ m = 1 ∨ m = 2 ∨ m = 3 := by omega
  rcases this with h | h | h | h <;> subst h <;> rfl
theorem pk5_ok (m : Int) : good (pk5 m) ∧ (pk5 m).isW = false := by
  unfold pk5
  repeat' split
  all_goals exact ⟨by simp [good], rfl⟩
theorem pk4_ok (m : Int) : good (pk4 m) ∧ (pk4 m).isW = false := by
  unfold pk4
  repeat' split
  all_goals exact ⟨by simp [good], rfl⟩
theorem rep_flat (k : Nat) (x : D) : (List.replicate k [x]).flatten = List.replicate k x := by
  induction k with
  | zero => rfl
  | succ k ih => rw [List.replicate_succ, List.flatten_cons, ih, List.replicate_succ]; rfl
theorem far_no (c k n : Int) (R : D) (M : List D) (h5 : atI [PyData.tuple [.str "swing", .int 0], .tuple [.str "flip", .int 0], .tuple [.str "tie", .int 2, .int 0], .tuple [.str "sign", .int 0, .int 2], .tuple [.str "turn", .int 0, .int 3]] (c % 5) = some R) (hm : mulL (.list [.tuple [.str "swing", .int 1]]) (.int (c / 5 % 40)) = some (.list M)) (hn : (M.length : Int) = n) (hk : modD (.int (c / 200)) (.int (n + 1)) = some (.int k)) (h3 : ¬ c / 8000 % 3 = 1) (sz : M.length ≤ 1000) : g__law_far [.int c] = some (.tuple [.int 3, .tuple (R :: M ++ [R])]) := by
  have a1 : addD (.tuple [R]) (.tuple M) = some (.tuple (R :: M)) := (addD_tup (by simp; omega)).trans rfl
  have a2 : addD (.tuple (R :: M)) (.tuple [R]) = some (.tuple (R :: M ++ [R])) := addD_tup (by simp; omega)
  simp [-sSeq, -sIf, sSeq_k, sIf_k, g__law_far, runB, b__law_far, startD, oLi, lstI, h5, hm, hn, hk, h3, dFz, a1, a2]
theorem far_ins (c k n : Int) (R Q : D) (M N : List D) (h5 : atI [PyData.tuple [.str "swing", .int 0], .tuple [.str "flip", .int 0], .tuple [.str "tie", .int 2, .int 0], .tuple [.str "sign", .int 0, .int 2], .tuple [.str "turn", .int 0, .int 3]] (c % 5) = some R) (hm : mulL (.list [.tuple [.str "swing", .int 1]]) (.int (c / 5 % 40)) = some (.list M)) (hn : (M.length : Int) = n) (hk : modD (.int (c / 200)) (.int (n + 1)) = some (.int k)) (h3 : c / 8000 % 3 = 1) (h4 : atI [PyData.tuple [.str "turn", .int 0, .int 4], .tuple [.str "look", .int 2], .tuple [.str "flip", .int 0], .tuple [.str "cross", .int 0, .int 2]] (c / 24000 % 4) = some Q) (k0 : 0 ≤ k ∧ k.toNat ≤ M.length ∧ M.length < sizeLine) (hN : M.take k.toNat ++ Q :: M.drop k.toNat = N) (sz : N.length ≤ 1000) : g__law_far [.int c] = some (.tuple [.int 3, .tuple (R :: N ++ [R])]) := by
  have a1 : addD (.tuple [R]) (.tuple N) = some (.tuple (R :: N)) := (addD_tup (by simp; omega)).trans rfl
  have a2 : addD (.tuple (R :: N)) (.tuple [R]) = some (.tuple (R :: N ++ [R])) := addD_tup (by simp; omega)
  have kn : k ≤ n := by have := k0.2.1; omega
  simp [-sSeq, -sIf, sSeq_k, sIf_k, g__law_far, runB, b__law_far, startD, oLi, lstI, h5, hm, hn, hk, h3, h4, k0, kn, hN, dFz, a1, a2]
theorem far_eq (c : Int) : ∃ rs : List Rw, Ord rs ∧ rs.length ≤ 100 ∧ g__law_far [.int c] = some (cirD 3 rs) := by
  have b0 := Int.emod_nonneg c (show (5 : Int) ≠ 0 by decide)
  have b1 := Int.emod_lt_of_pos c (show (0 : Int) < 5 by decide)
  have h5 := pk5_at (c % 5) b0 b1
  have c0 := Int.emod_nonneg (c / 5) (show (40 : Int) ≠ 0 by decide)
  have c1 := Int.emod_lt_of_pos (c / 5) (show (0 : Int) < 40 by decide)
  obtain ⟨m, hm⟩ : ∃ m : Nat, c / 5 % 40 = m := ⟨_, (Int.toNat_of_nonneg c0).symm⟩
  have hm40 : m < 40 := by omega
  have sw : rwD (.pl (.swing 1)) = .tuple [.str "swing", .int 1] := rfl
  have M : mulL (.list [.tuple [.str "swing", .int 1]]) (.int (c / 5 % 40)) = some (.list ((List.replicate m (Rw.pl (.swing 1))).map rwD)) := by
    rw [hm, mulL_eq (by omega) (by omega) (by simp; omega), Int.toNat_natCast, rep_flat, List.map_replicate, sw]
  have ln : (((List.replicate m (Rw.pl (.swing 1))).map rwD).length : Int) = m := by simp
  have k0 := Int.emod_nonneg (c / 200) (show ((m : Int) + 1) ≠ 0 by omega)
  have k1 := Int.emod_lt_of_pos (c / 200) (show (0 : Int) < (m : Int) + 1 by omega)
  have hk := modD_int (i := c / 200) (show (0 : Int) < (m : Int) + 1 by omega)
  have ok5 := pk5_ok (c % 5)
  have okr : ∀ r ∈ List.replicate m (Rw.pl (.swing 1)), good r ∧ r.isW = false := fun r hr => by rw [(List.mem_replicate.mp hr).2]; exact ⟨trivial, rfl⟩
  by_cases h3 : c / 8000 % 3 = 1
  · have d0 := Int.emod_nonneg (c / 24000) (show (4 : Int) ≠ 0 by decide)
    have d1 := Int.emod_lt_of_pos (c / 24000) (show (0 : Int) < 4 by decide)
    have h4 := pk4_at (c / 24000 % 4) d0 d1
    generalize hK : c / 200 % ((m : Int) + 1) = K at hk k0 k1
    refine ⟨pk5 (c % 5) :: ((List.replicate m (Rw.pl (.swing 1))).take K.toNat ++ pk4 (c / 24000 % 4) :: (List.replicate m (Rw.pl (.swing 1))).drop K.toNat) ++ [pk5 (c % 5)], Ord.plain fun r hr => ?_, by simp; omega, ?_⟩
    · rcases List.mem_append.mp hr with hr | hr
      · rcases List.mem_cons.mp hr with rfl | hr
        · exact ok5
        · rcases List.mem_append.mp hr with hr | hr
          · exact okr r (List.mem_of_mem_take hr)
          · rcases List.mem_cons.mp hr with rfl | hr
            · exact pk4_ok _
            · exact okr r (List.mem_of_mem_drop hr)
      · rw [List.mem_singleton.mp hr]; exact ok5
    · refine (far_ins c K m _ _ _ (((List.replicate m (Rw.pl (.swing 1))).take K.toNat ++ pk4 (c / 24000 % 4) :: (List.replicate m (Rw.pl (.swing 1))).drop K.toNat).map rwD) h5 M ln hk h3 h4 ⟨k0, by simp; omega, by rw [List.length_map, List.length_replicate]; show m < 16777216; omega⟩ ?_ (by simp; omega)).trans ?_
      · rw [List.map_append, List.map_cons, List.map_take, List.map_drop]
      · simp [cirD]
  · refine ⟨pk5 (c % 5) :: List.replicate m (Rw.pl (.swing 1)) ++ [pk5 (c % 5)], Ord.plain fun r hr => ?_, by simp; omega, ?_⟩
    · rcases List.mem_append.mp hr with hr | hr
      · rcases List.mem_cons.mp hr with rfl | hr
        · exact ok5
        · exact okr r hr
      · rw [List.mem_singleton.mp hr]; exact ok5
    · refine (far_no c _ m _ _ h5 M ln hk h3 (by simp; omega)).trans ?_
      simp [cirD]
/-! ### the law -/
theorem lcell_eq (ns : List Int) (k : Int) (hk : 0 ≤ k) : ∃ c, g__law_cell [.list (ns.map .int), .int k] = some (.int c) := by
  by_cases h : k < ns.length
  · have hk' : k.toNat < ns.length := by omega
    refine ⟨ns[k.toNat], ?_⟩
    have e : atI (ns.map PyData.int) k = some (.int ns[k.toNat]) := atI_of (j := k.toNat) (by omega) (by simp [hk'])
    simp [g__law_cell, runB, b__law_cell, startD, h, e]
  · exact ⟨0, by simp [g__law_cell, runB, b__law_cell, startD, h]⟩
theorem cut_any (ns : List Int) (lo hi : Option Int) : ∃ cs : List Int, cs.length ≤ ns.length ∧ slD (.list (ns.map .int)) lo hi = some (.list (cs.map .int)) := by
  refine ⟨(ns.drop (HT.sIx ns.length 0 lo)).take (HT.sIx ns.length ns.length hi - HT.sIx ns.length 0 lo), ?_, ?_⟩
  · rw [List.length_take, List.length_drop]; omega
  · show some (PyData.list (cutD _ _ _)) = _
    unfold cutD
    rw [List.length_map, ← List.map_drop, ← List.map_take]
theorem lw_turn1 (C S : D) (T xs : List D) (k : Int) (z4 : Sl) (h1 : g_slides_of [C] = some (.list xs)) (h2 : g__law_same [.tuple xs, .tuple T] = some (.bool true)) (hs : xs.length < sizeLine) : ∃ y, l1_law [.fz S, .fz C, .fz (.tuple T), .fz (.int k), z4] = some (.nx, [.fz S, .fz C, .fz (.tuple T), .fz (.int k), y]) := by
  refine ⟨.ow (xs ++ [.tuple [.str "gone", .int 0, .int 0]]), ?_⟩
  simp [-sSeq, -sIf, sSeq_k, sIf_k, l1_law, oLi, lstI, h1, oPeek, dFz, isi_ll, h2, hs]
theorem law_x (S B C0 C Rs : D) (T : List D) (c c1 w t d : Int) (f : Bool) (y : Sl) (h0 : g__law_cell [S, .int 0] = some (.int c)) (hw : 1 + c % 4 = w) (sl : slD S (some 2) (some 16) = some B) (k1 : g__law_often [B, .int w] = some C0) (hf : (c / 4 % 8 == 1) = f) (h1 : g__law_cell [S, .int 1] = some (.int c1)) (hm : IntMulOk 7 c1) (hd : c / 32 + 7 * c1 = d) (ht : g__law_turn [.int d, .int 86028121] = some (.int t)) (k2 : f = true → g__law_far [.int (t / 7)] = some C) (k3 : f = false → C = C0) (cr : ixD C (.int 1) = some Rs) (ls : g__law_steps [Rs] = some (.list T)) (lp : loop (gN 3) l1_law [.int 0, .int 1] [.fz S, .fz C, .fz (.tuple T), .un, .un] = some (.nx, [.fz S, .fz C, .fz (.tuple T), .fz (.int 1), y])) : g_law [S] = some (.bool true) := by
  have r2 : rng1D [.int 2] = some [.int 0, .int 1] := rfl
  cases f with
  | true =>
    have hf : c / 4 % 8 = 1 := eq_of_beq hf
    have k2 := k2 rfl
    simp [-sSeq, -sIf, sSeq_k, sIf_k, g_law, runB, b_law, startD, h0, hw, sl, k1, hf, h1, hm, hd, ht, k2, cr, ls, r2, lp]
  | false =>
    have hf : ¬ c / 4 % 8 = 1 := by simpa using hf
    have k3 := k3 rfl
    subst k3
    simp [-sSeq, -sIf, sSeq_k, sIf_k, g_law, runB, b_law, startD, h0, hw, sl, k1, hf, cr, ls, r2, lp]
theorem law_true (ns : List Int) (hl : ns.length ≤ 63) : g_law [.list (ns.map .int)] = some (.bool true) := by
  obtain ⟨c, hc⟩ := lcell_eq ns 0 (by decide)
  obtain ⟨c1, hc1⟩ := lcell_eq ns 1 (by decide)
  obtain ⟨w, hw⟩ : ∃ w : Nat, 1 + c % 4 = (w : Int) := ⟨(1 + c % 4).toNat, by omega⟩
  obtain ⟨cs, hcl, hsl⟩ := cut_any ns (some 2) (some 16)
  obtain ⟨rs, ho, hlen, he⟩ := often_eq w (by omega) cs (by omega)
  obtain ⟨t, ht⟩ := lturn_P (c / 32 + 7 * c1) 86028121 (by decide)
  have hm : IntMulOk 7 c1 := .of_left (Nat.le_trans (MA.bits_le (m := 3) (by decide)) (by decide))
  have fin : ∀ (v : Nat) (qs : List Rw), Ord qs → qs.length ≤ 100 → ((c / 4 % 8 == 1) = true → g__law_far [.int ((t : Int) / 7)] = some (cirD v qs)) → ((c / 4 % 8 == 1) = false → cirD v qs = cirD w rs) → g_law [.list (ns.map .int)] = some (.bool true) := fun v qs hq hn k2 k3 => by
    obtain ⟨zs, hz, h1, h2⟩ := both_eq' hq hn v
    have sm := same_zs zs hz
    have hs : (zs.map zpD).length < sizeLine := by rw [List.length_map]; show _ < 16777216; omega
    obtain ⟨y, e1⟩ := lw_turn1 (cirD v qs) (.list (ns.map .int)) _ _ 0 .un h1 sm hs
    obtain ⟨y', e2⟩ := lw_turn1 (cirD v qs) (.list (ns.map .int)) _ _ 1 y h1 sm hs
    refine law_x _ _ _ (cirD v qs) _ _ c c1 w t _ _ y' hc hw hsl he rfl hc1 hm rfl ht k2 k3 (cir_ix v qs) h2 ?_
    rw [loop_step (δ1 := [.fz (.list (ns.map .int)), .fz (cirD v qs), .fz (.tuple (zs.map zpD)), .fz (.int 0), .un]) (by simp) e1, loop_step (δ1 := [.fz (.list (ns.map .int)), .fz (cirD v qs), .fz (.tuple (zs.map zpD)), .fz (.int 1), y]) (by simp) e2]
    rfl
  cases hf : (c / 4 % 8 == 1) with
  | true =>
    obtain ⟨qs, hq, hn, e⟩ := far_eq ((t : Int) / 7)
    exact fin 3 qs hq hn (fun _ => e) (fun z => by rw [hf] at z; cases z)
  | false => exact fin w rs ho (by omega) (fun z => by rw [hf] at z; cases z) (fun _ => rfl)

end GN
namespace GN
open PySem PySem.Spec PyProof.Rows L2 VL
structure Txt (mg : Str → Option Value) : Prop where
  min : mg "min" = none
  max : mg "max" = none
  all : mg "all" = none
  range : mg "range" = none
  len : mg "len" = none
  sorted : mg "sorted" = none
  isinstance : mg "isinstance" = none
  tuple : mg "tuple" = none
  str : mg "str" = none
  int : mg "int" = none
  bool : mg "bool" = none
  list : mg "list" = none
section
variable {P : Program} {w : World} {K : PySem.W.Frag} {mg : Str → Option Value} {base : Heap}
theorem sc_wires_of : FnScope N_wires_of ["row"] (defScope s_wires_of) := ⟨rfl, rfl, rfl, by decide +kernel, rfl, by decide +kernel, by decide +kernel⟩
theorem okr_wires_of {f : Addr} {fd : FuncData} {dV : Value} (F : FunV K "wires_of" "wires_of" s_wires_of f fd dV) (T : Txt mg) (hm : mg "wires_of" = some (.ref f)) (hk : PySem.W.keepIn K (.ref f) = true) (hb : Binds K fd ["row"] []) : ∀ m, FnOk P w K mg base CX0 (1 + m) f fd ["row"] (spD K (r_wires_of m))
  | 0 => fn_b (k := 0) (b := fun _ => none) F sc_wires_of fun cdv A outer s H E hr => bv_no
  | m + 1 => by
    have C_wires_of : Cal P w K mg base "wires_of" (1 + m) (r_wires_of m) [] := Cal.mk0 (okr_wires_of F T hm hk hb m) hm hk hb
    exact fn_b (k := 1 + m) (b := b_wires_of (r_wires_of m)) F sc_wires_of fun cdv A outer s H E hr => (bv_cons (sv_if (tv_cmp (d_eq hr.units) (ev_ix d_ix (ev_var 0) ev_int (fun _ _ => rfl)) ev_str (nomark _)) (bv_one (sv_ret (ev_def0 C_wires_of (hr.mono (by omega)) rfl (av_cons (ev_ix d_ix (ev_var 0) ev_int (fun _ _ => rfl)) av_nil)))) bv_nil) (bv_cons (sv_if (tv_cmp d_in (ev_ix d_ix (ev_var 0) ev_int (fun _ _ => rfl)) (ev_tup (av_cons ev_str (av_cons ev_str (av_cons ev_str av_nil)))) (by with_unfolding_all rfl)) (bv_one (sv_ret (ev_tup (av_cons (ev_callB (c_min rfl) rfl T.min (by decide +kernel) (av_cons (ev_ix d_ix (ev_var 0) ev_int (fun _ _ => rfl)) (av_cons (ev_ix d_ix (ev_var 0) ev_int (fun _ _ => rfl)) av_nil))) (av_cons (ev_callB (c_max rfl) rfl T.max (by decide +kernel) (av_cons (ev_ix d_ix (ev_var 0) ev_int (fun _ _ => rfl)) (av_cons (ev_ix d_ix (ev_var 0) ev_int (fun _ _ => rfl)) av_nil))) av_nil))))) bv_nil) (bv_one (sv_ret (ev_tup (av_cons (ev_ix d_ix (ev_var 0) ev_int (fun _ _ => rfl)) av_nil))))))
theorem sc_inner_row : FnScope N_inner_row ["row"] (defScope s_inner_row) := ⟨rfl, rfl, rfl, by decide +kernel, rfl, by decide +kernel, by decide +kernel⟩
theorem ok_inner_row {f : Addr} {fd : FuncData} {dV : Value} (F : FunV K "inner_row" "inner_row" s_inner_row f fd dV) (T : Txt mg) : FnOk P w K mg base CX0 1 f fd ["row"] (spD K g_inner_row) :=
  fn_b (k := 0) (b := b_inner_row) F sc_inner_row fun cdv A outer s H E hr => (bv_one (sv_ret (ev_ifx (tv_cmp (d_eq hr.units) (ev_ix d_ix (ev_var 0) ev_int (fun _ _ => rfl)) ev_str (nomark _)) (ev_ix d_ix (ev_var 0) ev_int (fun _ _ => rfl)) (ev_var 0))))
theorem sc_flips : FnScope N_flips ["row", "wire"] (defScope s_flips) := ⟨rfl, rfl, rfl, by decide +kernel, rfl, by decide +kernel, by decide +kernel⟩
theorem ok_flips {f : Addr} {fd : FuncData} {dV : Value} (F : FunV K "flips" "flips" s_flips f fd dV) (T : Txt mg) : FnOk P w K mg base CX0 1 f fd ["row", "wire"] (spD K g_flips) :=
  fn_b (k := 0) (b := b_flips) F sc_flips fun cdv A outer s H E hr => (bv_cons (sv_if (tv_cmp d_in (ev_ix d_ix (ev_var 0) ev_int (fun _ _ => rfl)) (ev_tup (av_cons ev_str (av_cons ev_str av_nil))) (by with_unfolding_all rfl)) (bv_one (sv_ret ev_non)) bv_nil) (bv_one (sv_ret (ev_or (ev_cmp (d_eq hr.units) (ev_ix d_ix (ev_var 0) ev_int (fun _ _ => rfl)) ev_str (nomark _)) (ev_one (ev_and (ev_cmp (d_eq hr.units) (ev_ix d_ix (ev_var 0) ev_int (fun _ _ => rfl)) ev_str (nomark _)) (ev_one (ev_cmp (d_eq hr.units) (ev_ix d_ix (ev_var 0) ev_int (fun _ _ => rfl)) (ev_var 1) (nomark _)))))))))
theorem sc_both_alike : FnScope N_both_alike ["one", "other", "wire"] (defScope s_both_alike) := ⟨rfl, rfl, rfl, by decide +kernel, rfl, by decide +kernel, by decide +kernel⟩
theorem ok_both_alike {f : Addr} {fd : FuncData} {dV : Value} (F : FunV K "both_alike" "both_alike" s_both_alike f fd dV) (T : Txt mg) (C_flips : Cal P w K mg base "flips" 1 g_flips []) : FnOk P w K mg base CX0 2 f fd ["one", "other", "wire"] (spD K g_both_alike) :=
  fn_b (k := 1) (b := b_both_alike) F sc_both_alike fun cdv A outer s H E hr => (bv_cons (sv_set 3 sc_both_alike.nd (ev_def0 C_flips (hr.mono (by decide)) rfl (av_cons (ev_var 0) (av_cons (ev_var 2) av_nil)))) (bv_one (sv_ret (ev_and (ev_cmp d_isnt (ev_var 3) ev_non (nomark _)) (ev_one (ev_cmp (d_eq hr.units) (ev_var 3) (ev_def0 C_flips (hr.mono (by decide)) rfl (av_cons (ev_var 1) (av_cons (ev_var 2) av_nil))) (nomark _)))))))
theorem sc_asks_for : FnScope N_asks_for ["row", "look", "mark"] (defScope s_asks_for) := ⟨rfl, rfl, rfl, by decide +kernel, rfl, by decide +kernel, by decide +kernel⟩
theorem ok_asks_for {f : Addr} {fd : FuncData} {dV : Value} (F : FunV K "asks_for" "asks_for" s_asks_for f fd dV) (T : Txt mg) : FnOk P w K mg base CX0 1 f fd ["row", "look", "mark"] (spD K g_asks_for) :=
  fn_b (k := 0) (b := b_asks_for) F sc_asks_for fun cdv A outer s H E hr => (bv_one (sv_ret (ev_and (ev_cmp (d_eq hr.units) (ev_ix d_ix (ev_var 0) ev_int (fun _ _ => rfl)) ev_str (nomark _)) (ev_and (ev_cmp (d_eq hr.units) (ev_ix d_ix (ev_var 1) ev_int (fun _ _ => rfl)) ev_str (nomark _)) (ev_one (ev_cmp (d_eq hr.units) (ev_ix d_ix (ev_var 0) ev_int (fun _ _ => rfl)) (ev_var 2) (nomark _)))))))
theorem sc_lets_by : FnScope N_lets_by ["one", "other", "mark"] (defScope s_lets_by) := ⟨rfl, rfl, rfl, by decide +kernel, rfl, by decide +kernel, by decide +kernel⟩
theorem ok_lets_by {f : Addr} {fd : FuncData} {dV : Value} (F : FunV K "lets_by" "lets_by" s_lets_by f fd dV) (T : Txt mg) (C_asks_for : Cal P w K mg base "asks_for" 1 g_asks_for []) (C_wires_of : Cal P w K mg base "wires_of" 9 g_wires_of []) (C_both_alike : Cal P w K mg base "both_alike" 2 g_both_alike []) (C_inner_row : Cal P w K mg base "inner_row" 1 g_inner_row []) : FnOk P w K mg base CX0 10 f fd ["one", "other", "mark"] (spD K g_lets_by) :=
  fn_b (k := 9) (b := b_lets_by) F sc_lets_by fun cdv A outer s H E hr => (bv_cons (sv_if (WV.tv (wv_and (tv_cmp (d_eq hr.units) (ev_ix d_ix (ev_var 0) ev_int (fun _ _ => rfl)) ev_str (nomark _)) (wv_and1 (tv_cmp (d_eq hr.units) (ev_ix d_ix (ev_var 1) ev_int (fun _ _ => rfl)) ev_str (nomark _))))) (bv_one (sv_ret ev_bl)) bv_nil) (bv_cons (sv_if (WV.tv (wv_or (tv_val (ev_def0 C_asks_for (hr.mono (by decide)) rfl (av_cons (ev_var 0) (av_cons (ev_var 1) (av_cons (ev_var 2) av_nil))))) (wv_or1 (tv_val (ev_def0 C_asks_for (hr.mono (by decide)) rfl (av_cons (ev_var 1) (av_cons (ev_var 0) (av_cons (ev_var 2) av_nil)))))))) (bv_one (sv_ret ev_bl)) bv_nil) (bv_cons (sv_compI 3 sc_lets_by.nd (vars := ["wire"]) (caps := [(1, "other")]) (by change BlkOk (defScope s_lets_by).names N_lets_by _ _ _; exact ⟨rfl, by decide +kernel, by decide +kernel, by decide +kernel, by decide +kernel⟩) rfl (iv_seq (ev_def0 C_wires_of (hr.mono (by decide)) rfl (av_cons (ev_var 0) av_nil))) tg_one (fun _ _ _ _ => pg_name (i := 0) (show (["wire", "other"] : List Str).Nodup by decide +kernel) rfl (Or.inl rfl) (.inr rfl)) (fun _ _ _ _ => (tv_cmp d_in (ev_var 0) (ev_def0 C_wires_of (hr.mono (by decide)) rfl (av_cons (ev_var 1) av_nil)) (by with_unfolding_all rfl))) (fun _ _ _ _ => (ev_var 0))) (bv_one (sv_ret (ev_callB (c_all rfl) rfl T.all (by decide +kernel) (av_cons (ev_comp (vars := ["wire"]) (caps := [(0, "one"), (1, "other")]) (by change BlkOk (defScope s_lets_by).names N_lets_by _ _ _; exact ⟨rfl, by decide +kernel, by decide +kernel, by decide +kernel, by decide +kernel⟩) rfl (iv_seq (ev_var 3)) tg_one (fun _ _ _ _ => pg_name (i := 0) (show (["wire", "one", "other"] : List Str).Nodup by decide +kernel) rfl (Or.inl rfl) (.inr rfl)) (fun _ _ _ _ => (ev_def0 C_both_alike (hr.mono (by decide)) rfl (av_cons (ev_def0 C_inner_row (hr.mono (by decide)) rfl (av_cons (ev_var 1) av_nil)) (av_cons (ev_def0 C_inner_row (hr.mono (by decide)) rfl (av_cons (ev_var 2) av_nil)) (av_cons (ev_var 0) av_nil)))))) av_nil)))))))
theorem sc_undone_by : FnScope N_undone_by ["one", "other"] (defScope s_undone_by) := ⟨rfl, rfl, rfl, by decide +kernel, rfl, by decide +kernel, by decide +kernel⟩
theorem ok_undone_by {f : Addr} {fd : FuncData} {dV : Value} (F : FunV K "undone_by" "undone_by" s_undone_by f fd dV) (T : Txt mg) (C_wires_of : Cal P w K mg base "wires_of" 9 g_wires_of []) : FnOk P w K mg base CX0 10 f fd ["one", "other"] (spD K g_undone_by) :=
  fn_b (k := 9) (b := b_undone_by) F sc_undone_by fun cdv A outer s H E hr => (bv_cons (sv_if (tv_cmp d_in (ev_ix d_ix (ev_var 0) ev_int (fun _ _ => rfl)) (ev_tup (av_cons ev_str (av_cons ev_str av_nil))) (by with_unfolding_all rfl)) (bv_one (sv_ret ev_bl)) bv_nil) (bv_cons (sv_if (tv_cmp d_in (ev_ix d_ix (ev_var 0) ev_int (fun _ _ => rfl)) (ev_tup (av_cons ev_str (av_cons ev_str av_nil))) (by with_unfolding_all rfl)) (bv_one (sv_ret (ev_and (ev_cmp (d_eq hr.units) (ev_ix d_ix (ev_var 0) ev_int (fun _ _ => rfl)) (ev_ix d_ix (ev_var 1) ev_int (fun _ _ => rfl)) (nomark _)) (ev_one (ev_cmp (d_eq hr.units) (ev_def0 C_wires_of (hr.mono (by decide)) rfl (av_cons (ev_var 0) av_nil)) (ev_def0 C_wires_of (hr.mono (by decide)) rfl (av_cons (ev_var 1) av_nil)) (nomark _)))))) bv_nil) (bv_one (sv_ret (ev_cmp (d_eq hr.units) (ev_var 0) (ev_var 1) (nomark _))))))
theorem sc_steps_for_two : FnScope N_steps_for_two ["rows", "p"] (defScope s_steps_for_two) := ⟨rfl, rfl, rfl, by decide +kernel, rfl, by decide +kernel, by decide +kernel⟩
theorem ok_steps_for_two {f : Addr} {fd : FuncData} {dV : Value} (F : FunV K "steps_for_two" "steps_for_two" s_steps_for_two f fd dV) (T : Txt mg) (C_undone_by : Cal P w K mg base "undone_by" 10 g_undone_by []) (C_lets_by1 : Cal P w K mg base "lets_by" 10 g_lets_by [.none]) : FnOk P w K mg base CX0 11 f fd ["rows", "p"] (spD K g_steps_for_two) :=
  fn_b (k := 10) (b := b_steps_for_two) F sc_steps_for_two fun cdv A outer s H E hr => (bv_cons (sv_own 2 sc_steps_for_two.nd av_nil) (bv_cons (sv_for PassesOwn.never rfl (iv_range2 rfl T.range (av_cons (ev_op d_add (ev_var 1) ev_int) (av_cons (ev_callB c_len rfl T.len (by decide +kernel) (av_cons (ev_var 0) av_nil)) av_nil))) (gv_name 3 sc_steps_for_two.nd) (bv_cons (sv_if (tv_val (ev_def0 C_undone_by (hr.mono (by decide)) rfl (av_cons (ev_ix d_ix (ev_var 0) (ev_var 1) (fun _ _ => rfl)) (av_cons (ev_ix d_ix (ev_var 0) (ev_var 3) (fun _ _ => rfl)) av_nil)))) (bv_one (sv_app 2 (ev_tup (av_cons ev_str (av_cons (ev_var 1) (av_cons (ev_var 3) av_nil)))))) bv_nil) (bv_cons (sv_if (WV.tv (wv_and (tv_cmp (d_eq hr.units) (ev_ix d_ix (ev_ix d_ix (ev_var 0) (ev_var 1) (fun _ _ => rfl)) ev_int (fun _ _ => rfl)) ev_str (nomark _)) (wv_and1 (tv_cmp (d_eq hr.units) (ev_slice (ev_ix d_ix (ev_var 0) (ev_var 1) (fun _ _ => rfl)) ov_none (ov_some ev_int)) (ev_slice (ev_ix d_ix (ev_var 0) (ev_var 3) (fun _ _ => rfl)) ov_none (ov_some ev_int)) (nomark _))))) (bv_one (sv_app 2 (ev_tup (av_cons ev_str (av_cons (ev_var 1) (av_cons (ev_var 3) av_nil)))))) bv_nil) (bv_one (sv_if (tv_not (tv_val (ev_def C_lets_by1 (hr.mono (by decide)) rfl (av_cons (ev_ix d_ix (ev_var 0) (ev_var 1) (fun _ _ => rfl)) (av_cons (ev_ix d_ix (ev_var 0) (ev_var 3) (fun _ _ => rfl)) av_nil))))) (bv_one (sv_fz 2 (sv_ret (ev_var 2)))) bv_nil))))) (bv_one (sv_fz 2 (sv_ret (ev_var 2))))))
theorem sc_swung_row : FnScope N_swung_row ["row", "wire"] (defScope s_swung_row) := ⟨rfl, rfl, rfl, by decide +kernel, rfl, by decide +kernel, by decide +kernel⟩
theorem okr_swung_row {f : Addr} {fd : FuncData} {dV : Value} (F : FunV K "swung_row" "swung_row" s_swung_row f fd dV) (T : Txt mg) (hm : mg "swung_row" = some (.ref f)) (hk : PySem.W.keepIn K (.ref f) = true) (hb : Binds K fd ["row", "wire"] []) : ∀ m, FnOk P w K mg base CX0 (1 + m) f fd ["row", "wire"] (spD K (r_swung_row m))
  | 0 => fn_b (k := 0) (b := fun _ => none) F sc_swung_row fun cdv A outer s H E hr => bv_no
  | m + 1 => by
    have C_swung_row : Cal P w K mg base "swung_row" (1 + m) (r_swung_row m) [] := Cal.mk0 (okr_swung_row F T hm hk hb m) hm hk hb
    exact fn_b (k := 1 + m) (b := b_swung_row (r_swung_row m)) F sc_swung_row fun cdv A outer s H E hr => (bv_cons (sv_if (tv_cmp (d_eq hr.units) (ev_ix d_ix (ev_var 0) ev_int (fun _ _ => rfl)) ev_str (nomark _)) (bv_one (sv_ret (ev_tup (av_cons ev_str (av_cons (ev_ix d_ix (ev_var 0) ev_int (fun _ _ => rfl)) (av_cons (ev_def0 C_swung_row (hr.mono (by omega)) rfl (av_cons (ev_ix d_ix (ev_var 0) ev_int (fun _ _ => rfl)) (av_cons (ev_var 1) av_nil))) av_nil)))))) bv_nil) (bv_cons (sv_if (tv_cmp (d_eq hr.units) (ev_var 0) (ev_tup (av_cons ev_str (av_cons (ev_var 1) av_nil))) (nomark _)) (bv_one (sv_ret (ev_tup (av_cons ev_str (av_cons (ev_var 1) (av_cons ev_int av_nil)))))) bv_nil) (bv_cons (sv_if (tv_cmp (d_eq hr.units) (ev_var 0) (ev_tup (av_cons ev_str (av_cons (ev_var 1) (av_cons ev_int av_nil)))) (nomark _)) (bv_one (sv_ret (ev_tup (av_cons ev_str (av_cons (ev_var 1) av_nil))))) bv_nil) (bv_cons (sv_if (WV.tv (wv_and (tv_cmp (d_eq hr.units) (ev_ix d_ix (ev_var 0) ev_int (fun _ _ => rfl)) ev_str (nomark _)) (wv_and1 (tv_cmp (d_eq hr.units) (ev_ix d_ix (ev_var 0) ev_int (fun _ _ => rfl)) (ev_var 1) (nomark _))))) (bv_one (sv_ret (ev_tup (av_cons ev_str (av_cons (ev_ix d_ix (ev_var 0) ev_int (fun _ _ => rfl)) (av_cons (ev_var 1) av_nil)))))) bv_nil) (bv_cons (sv_if (tv_cmp (d_eq hr.units) (ev_ix d_ix (ev_var 0) ev_int (fun _ _ => rfl)) ev_str (nomark _)) (bv_one (sv_ret (ev_tup (av_cons ev_str (av_cons (ev_ifx (tv_cmp (d_eq hr.units) (ev_ix d_ix (ev_var 0) ev_int (fun _ _ => rfl)) (ev_var 1) (nomark _)) (ev_ix d_ix (ev_var 0) ev_int (fun _ _ => rfl)) (ev_ix d_ix (ev_var 0) ev_int (fun _ _ => rfl))) (av_cons (ev_var 1) av_nil)))))) bv_nil) (bv_one (sv_ret ev_non)))))))
theorem sc_steps_for_three : FnScope N_steps_for_three ["rows", "p"] (defScope s_steps_for_three) := ⟨rfl, rfl, rfl, by decide +kernel, rfl, by decide +kernel, by decide +kernel⟩
theorem ok_steps_for_three {f : Addr} {fd : FuncData} {dV : Value} (F : FunV K "steps_for_three" "steps_for_three" s_steps_for_three f fd dV) (T : Txt mg) (C_swung_row : Cal P w K mg base "swung_row" 9 g_swung_row []) (C_wires_of : Cal P w K mg base "wires_of" 9 g_wires_of []) : FnOk P w K mg base CX0 10 f fd ["rows", "p"] (spD K g_steps_for_three) :=
  fn_b (k := 9) (b := b_steps_for_three) F sc_steps_for_three fun cdv A outer s H E hr => (bv_cons (sv_if (tv_cmp (d_ne hr.units) (ev_ix d_ix (ev_ix d_ix (ev_var 0) (ev_var 1) (fun _ _ => rfl)) ev_int (fun _ _ => rfl)) ev_str (nomark _)) (bv_one (sv_ret (ev_lst av_nil))) bv_nil) (bv_cons (sv_set 2 sc_steps_for_three.nd (ev_ix d_ix (ev_ix d_ix (ev_var 0) (ev_var 1) (fun _ _ => rfl)) ev_int (fun _ _ => rfl))) (bv_cons (sv_set 3 sc_steps_for_three.nd (ev_slice (ev_compI (vars := ["q"]) (caps := [(0, "rows"), (2, "wire")]) (by change BlkOk (defScope s_steps_for_three).names N_steps_for_three _ _ _; exact ⟨rfl, by decide +kernel, by decide +kernel, by decide +kernel, by decide +kernel⟩) rfl (iv_range2 rfl T.range (av_cons (ev_op d_add (ev_var 1) ev_int) (av_cons (ev_callB c_len rfl T.len (by decide +kernel) (av_cons (ev_var 0) av_nil)) av_nil))) tg_one (fun _ _ _ _ => pg_name (i := 0) (show (["q", "rows", "wire"] : List Str).Nodup by decide +kernel) rfl (Or.inl rfl) (.inr rfl)) (fun _ _ _ _ => (tv_cmp d_in (ev_var 2) (ev_def0 C_wires_of (hr.mono (by decide)) rfl (av_cons (ev_ix d_ix (ev_var 1) (ev_var 0) (fun _ _ => rfl)) av_nil)) (by with_unfolding_all rfl))) (fun _ _ _ _ => (ev_var 0))) ov_none (ov_some ev_int))) (bv_cons (sv_if (WV.tv (wv_and (tv_cmp (d_eq hr.units) (ev_callB c_len rfl T.len (by decide +kernel) (av_cons (ev_var 3) av_nil)) ev_int (nomark _)) (wv_and (tv_cmp (d_eq hr.units) (ev_ix d_ix (ev_var 0) (ev_ix d_ix (ev_var 3) ev_int (fun _ _ => rfl)) (fun _ _ => rfl)) (ev_ix d_ix (ev_var 0) (ev_var 1) (fun _ _ => rfl)) (nomark _)) (wv_and1 (tv_cmp d_isnt (ev_def0 C_swung_row (hr.mono (by decide)) rfl (av_cons (ev_ix d_ix (ev_var 0) (ev_ix d_ix (ev_var 3) ev_int (fun _ _ => rfl)) (fun _ _ => rfl)) (av_cons (ev_var 2) av_nil))) ev_non (nomark _)))))) (bv_one (sv_ret (ev_lst (av_cons (ev_tup (av_cons ev_str (av_cons (ev_var 1) (av_cons (ev_ix d_ix (ev_var 3) ev_int (fun _ _ => rfl)) (av_cons (ev_ix d_ix (ev_var 3) ev_int (fun _ _ => rfl)) av_nil))))) av_nil)))) bv_nil) (bv_one (sv_ret (ev_lst av_nil)))))))
theorem sc_slides_of : FnScope N_slides_of ["circuit"] (defScope s_slides_of) := ⟨rfl, rfl, rfl, by decide +kernel, rfl, by decide +kernel, by decide +kernel⟩
theorem ok_slides_of {f : Addr} {fd : FuncData} {dV : Value} (F : FunV K "slides_of" "slides_of" s_slides_of f fd dV) (T : Txt mg) (C_steps_for_two : Cal P w K mg base "steps_for_two" 11 g_steps_for_two []) (C_steps_for_three : Cal P w K mg base "steps_for_three" 10 g_steps_for_three []) : FnOk P w K mg base CX0 12 f fd ["circuit"] (spD K g_slides_of) :=
  fn_b (k := 11) (b := b_slides_of) F sc_slides_of fun cdv A outer s H E hr => (bv_cons (sv_set 1 sc_slides_of.nd (ev_ix d_ix (ev_var 0) ev_int (fun _ _ => rfl))) (bv_cons (sv_own 2 sc_slides_of.nd av_nil) (bv_cons (sv_for PassesOwn.never rfl (iv_range1 rfl T.range (av_cons (ev_callB c_len rfl T.len (by decide +kernel) (av_cons (ev_var 1) av_nil)) av_nil)) (gv_name 3 sc_slides_of.nd) (bv_cons (sv_extL 2 (ev_def0 C_steps_for_two (hr.mono (by decide)) rfl (av_cons (ev_var 1) (av_cons (ev_var 3) av_nil)))) (bv_one (sv_extL 2 (ev_def0 C_steps_for_three (hr.mono (by decide)) rfl (av_cons (ev_var 1) (av_cons (ev_var 3) av_nil))))))) (bv_one (sv_fz 2 (sv_ret (ev_sort rfl T.sorted (ev_var 2))))))))
theorem oko_slides_of {f : Addr} {fd : FuncData} {dV : Value} (F : FunV K "slides_of" "slides_of" s_slides_of f fd dV) (T : Txt mg) (C_steps_for_two : Cal P w K mg base "steps_for_two" 11 g_steps_for_two []) (C_steps_for_three : Cal P w K mg base "steps_for_three" 10 g_steps_for_three []) : FnOk P w K mg base CX0 12 f fd ["circuit"] (spO K g_slides_of) :=
  fn_bO (k := 11) F sc_slides_of (fun cdv A outer s H E hr => (bo_cons (sv_set 1 sc_slides_of.nd (ev_ix d_ix (ev_var 0) ev_int (fun _ _ => rfl))) (nxt_set _ _) (bo_cons (sv_own 2 sc_slides_of.nd av_nil) (nxt_own _ _) (bo_cons (sv_for PassesOwn.never rfl (iv_range1 rfl T.range (av_cons (ev_callB c_len rfl T.len (by decide +kernel) (av_cons (ev_var 1) av_nil)) av_nil)) (gv_name 3 sc_slides_of.nd) (bv_cons (sv_extL 2 (ev_def0 C_steps_for_two (hr.mono (by decide)) rfl (av_cons (ev_var 1) (av_cons (ev_var 3) av_nil)))) (bv_one (sv_extL 2 (ev_def0 C_steps_for_three (hr.mono (by decide)) rfl (av_cons (ev_var 1) (av_cons (ev_var 3) av_nil))))))) (nxt_for (show Nxt l1_slides_of from (nxt_seq (nxt_extL _ _) (nxt_extL _ _)))) (bo_fz 2 (bo_ret (eo_sort rfl T.sorted (ev_var 2)))))))) (run_O (oe_cons (nxt_set _ _) (oe_cons (nxt_own _ _) (oe_cons (nxt_for (show Nxt l1_slides_of from (nxt_seq (nxt_extL _ _) (nxt_extL _ _)))) (oe_fz 2 (oe_ret _))))))
theorem sc__law_cell : FnScope N__law_cell ["script", "k"] (defScope s__law_cell) := ⟨rfl, rfl, rfl, by decide +kernel, rfl, by decide +kernel, by decide +kernel⟩
theorem ok__law_cell {f : Addr} {fd : FuncData} {dV : Value} (F : FunV K "_law_cell" "_law_cell" s__law_cell f fd dV) (T : Txt mg) : FnOk P w K mg base CX0 1 f fd ["script", "k"] (spD K g__law_cell) :=
  fn_b (k := 0) (b := b__law_cell) F sc__law_cell fun cdv A outer s H E hr => (bv_cons (sv_if (tv_cmp d_lt (ev_var 1) (ev_callB c_len rfl T.len (by decide +kernel) (av_cons (ev_var 0) av_nil)) (nomark _)) (bv_one (sv_ret (ev_ix d_ix (ev_var 0) (ev_var 1) (fun _ _ => rfl)))) bv_nil) (bv_one (sv_ret ev_int)))
theorem sc__law_turn : FnScope N__law_turn ["cell", "prime"] (defScope s__law_turn) := ⟨rfl, rfl, rfl, by decide +kernel, rfl, by decide +kernel, by decide +kernel⟩
theorem ok__law_turn {f : Addr} {fd : FuncData} {dV : Value} (F : FunV K "_law_turn" "_law_turn" s__law_turn f fd dV) (T : Txt mg) : FnOk P w K mg base CX0 1 f fd ["cell", "prime"] (spD K g__law_turn) :=
  fn_b (k := 0) (b := b__law_turn) F sc__law_turn fun cdv A outer s H E hr => (bv_cons (sv_set 2 sc__law_turn.nd (ev_op d_mod (ev_var 0) ev_int)) (bv_one (sv_ret (ev_op d_mod (ev_op d_mulI (ev_op d_add (ev_var 2) ev_int) (ev_op d_add (ev_var 2) ev_int)) (ev_var 1)))))
theorem sc__law_row : FnScope N__law_row ["cell", "wires", "looks", "plain"] (defScope s__law_row) := ⟨rfl, rfl, rfl, by decide +kernel, rfl, by decide +kernel, by decide +kernel⟩
theorem ok__law_row {f : Addr} {fd : FuncData} {dV : Value} (F : FunV K "_law_row" "_law_row" s__law_row f fd dV) (T : Txt mg) (C__law_turn : Cal P w K mg base "_law_turn" 1 g__law_turn []) : FnOk P w K mg base CX0 2 f fd ["cell", "wires", "looks", "plain"] (spD K g__law_row) :=
  fn_b (k := 1) (b := b__law_row) F sc__law_row fun cdv A outer s H E hr => (bv_cons (sv_set 4 sc__law_row.nd (ev_op d_div (ev_def0 C__law_turn (hr.mono (by decide)) rfl (av_cons (ev_var 0) (av_cons ev_int av_nil))) ev_int)) (bv_cons (sv_set 5 sc__law_row.nd (ev_op d_mod (ev_op d_div (ev_var 4) ev_int) (ev_var 1))) (bv_cons (sv_set 6 sc__law_row.nd (ev_op d_mod (ev_op d_add (ev_op d_add (ev_var 5) ev_int) (ev_op d_mod (ev_op d_div (ev_var 4) ev_int) (ev_callB (c_max rfl) rfl T.max (by decide +kernel) (av_cons ev_int (av_cons (ev_op d_sub (ev_var 1) ev_int) av_nil))))) (ev_var 1))) (bv_cons (sv_if (tv_cmp d_lt (ev_op d_mod (ev_var 0) ev_int) ev_int (nomark _)) (bv_one (sv_ret (ev_tup (av_cons ev_str (av_cons (ev_var 5) av_nil))))) bv_nil) (bv_cons (sv_if (tv_cmp d_lt (ev_op d_mod (ev_var 0) ev_int) ev_int (nomark _)) (bv_one (sv_ret (ev_tup (av_cons ev_str (av_cons (ev_var 5) (av_cons (ev_op d_add ev_int (ev_op d_mod (ev_op d_div (ev_var 4) ev_int) ev_int)) av_nil)))))) bv_nil) (bv_cons (sv_if (WV.tv (wv_and (tv_chain d_lt d_lt ev_int (ev_op d_mod (ev_var 0) ev_int) ev_int) (wv_and1 (tv_cmp d_gt (ev_var 1) ev_int (nomark _))))) (bv_one (sv_ret (ev_tup (av_cons (ev_ix d_ix (ev_lst (av_cons ev_str (av_cons ev_str (av_cons ev_str (av_cons ev_str (av_cons ev_str av_nil)))))) (ev_op d_sub (ev_op d_mod (ev_var 0) ev_int) ev_int) (fun _ _ => rfl)) (av_cons (ev_var 6) (av_cons (ev_var 5) av_nil)))))) bv_nil) (bv_cons (sv_if (WV.tv (wv_or (tv_cmp (d_eq hr.units) (ev_op d_mod (ev_var 0) ev_int) ev_int (nomark _)) (wv_or1 (tv_val (ev_var 3))))) (bv_one (sv_ret (ev_tup (av_cons ev_str (av_cons (ev_var 5) av_nil))))) bv_nil) (bv_cons (sv_if (WV.tv (wv_and (tv_cmp d_lt (ev_var 2) ev_int (nomark _)) (wv_and1 (WV.tv (wv_or (tv_cmp d_lt (ev_op d_mod (ev_var 0) ev_int) ev_int (nomark _)) (wv_or1 (tv_cmp (d_eq hr.units) (ev_var 2) ev_int (nomark _)))))))) (bv_one (sv_ret (ev_tup (av_cons ev_str (av_cons (ev_var 5) av_nil))))) bv_nil) (bv_cons (sv_if (tv_cmp (d_eq hr.units) (ev_var 2) ev_int (nomark _)) (bv_one (sv_ret (ev_tup (av_cons ev_str (av_cons (ev_var 5) av_nil))))) bv_nil) (bv_one (sv_ret (ev_tup (av_cons ev_str (av_cons (ev_op d_mod (ev_op d_div (ev_var 4) ev_int) (ev_var 2)) (av_cons (ev_ix d_ix (ev_lst (av_cons (ev_tup (av_cons ev_str (av_cons (ev_var 5) av_nil))) (av_cons (ev_tup (av_cons ev_str (av_cons (ev_var 5) (av_cons ev_int av_nil)))) av_nil))) (ev_op d_mod (ev_op d_div (ev_var 4) ev_int) ev_int) (fun _ _ => rfl)) av_nil)))))))))))))))
theorem sc__law_same : FnScope N__law_same ["found", "due"] (defScope s__law_same) := ⟨rfl, rfl, rfl, by decide +kernel, rfl, by decide +kernel, by decide +kernel⟩
theorem okr__law_same {f : Addr} {fd : FuncData} {dV : Value} (F : FunV K "_law_same" "_law_same" s__law_same f fd dV) (T : Txt mg) (hm : mg "_law_same" = some (.ref f)) (hk : PySem.W.keepIn K (.ref f) = true) (hb : Binds K fd ["found", "due"] []) : ∀ m, FnOk P w K mg base CX0 (1 + m) f fd ["found", "due"] (spD K (r__law_same m))
  | 0 => fn_b (k := 0) (b := fun _ => none) F sc__law_same fun cdv A outer s H E hr => bv_no
  | m + 1 => by
    have C__law_same : Cal P w K mg base "_law_same" (1 + m) (r__law_same m) [] := Cal.mk0 (okr__law_same F T hm hk hb m) hm hk hb
    exact fn_b (k := 1 + m) (b := b__law_same (r__law_same m)) F sc__law_same fun cdv A outer s H E hr => (bv_cons (sv_if (tv_val (ev_isi (T := "tuple") rfl T.isinstance rfl T.tuple (by decide +kernel) (by decide) (by decide) (ev_var 1))) (bv_cons (sv_if (WV.tv (wv_or (tv_not (tv_val (ev_isi (T := "tuple") rfl T.isinstance rfl T.tuple (by decide +kernel) (by decide) (by decide) (ev_var 0)))) (wv_or1 (tv_cmp (d_ne hr.units) (ev_callB c_len rfl T.len (by decide +kernel) (av_cons (ev_var 0) av_nil)) (ev_callB c_len rfl T.len (by decide +kernel) (av_cons (ev_var 1) av_nil)) (nomark _))))) (bv_one (sv_ret ev_bl)) bv_nil) (bv_cons (sv_for PassesOwn.never rfl (iv_range1 rfl T.range (av_cons (ev_callB c_len rfl T.len (by decide +kernel) (av_cons (ev_var 1) av_nil)) av_nil)) (gv_name 2 sc__law_same.nd) (bv_one (sv_if (tv_not (tv_val (ev_def0 C__law_same (hr.mono (by omega)) rfl (av_cons (ev_ix d_ix (ev_var 0) (ev_var 2) (fun _ _ => rfl)) (av_cons (ev_ix d_ix (ev_var 1) (ev_var 2) (fun _ _ => rfl)) av_nil))))) (bv_one (sv_ret ev_bl)) bv_nil))) (bv_one (sv_ret ev_bl)))) bv_nil) (bv_cons (sv_if (tv_val (ev_isi (T := "str") rfl T.isinstance rfl T.str (by decide +kernel) (by decide) (by decide) (ev_var 1))) (bv_one (sv_ret (ev_and (ev_isi (T := "str") rfl T.isinstance rfl T.str (by decide +kernel) (by decide) (by decide) (ev_var 0)) (ev_one (ev_cmp (d_eq hr.units) (ev_var 0) (ev_var 1) (nomark _)))))) bv_nil) (bv_one (sv_ret (ev_and (ev_isi (T := "int") rfl T.isinstance rfl T.int (by decide +kernel) (by decide) (by decide) (ev_var 0)) (ev_and (ev_not (ev_isi (T := "bool") rfl T.isinstance rfl T.bool (by decide +kernel) (by decide) (by decide) (ev_var 0))) (ev_one (ev_cmp (d_eq hr.units) (ev_var 0) (ev_var 1) (nomark _)))))))))
theorem sc__law_often : FnScope N__law_often ["cells", "wires"] (defScope s__law_often) := ⟨rfl, rfl, rfl, by decide +kernel, rfl, by decide +kernel, by decide +kernel⟩
theorem ok__law_often {f : Addr} {fd : FuncData} {dV : Value} (F : FunV K "_law_often" "_law_often" s__law_often f fd dV) (T : Txt mg) (C__law_row : Cal P w K mg base "_law_row" 2 g__law_row []) (C__law_turn : Cal P w K mg base "_law_turn" 1 g__law_turn []) : FnOk P w K mg base CX0 3 f fd ["cells", "wires"] (spD K g__law_often) :=
  fn_b (k := 2) (b := b__law_often) F sc__law_often fun cdv A outer s H E hr => (bv_cons (sv_own 2 sc__law_often.nd av_nil) (bv_cons (sv_set 3 sc__law_often.nd ev_int) (bv_cons (sv_for PassesOwn.never rfl (iv_seq (ev_var 0)) (gv_name 4 sc__law_often.nd) (bv_cons (sv_set 5 sc__law_often.nd (ev_def0 C__law_row (hr.mono (by decide)) rfl (av_cons (ev_var 4) (av_cons (ev_var 1) (av_cons (ev_var 3) (av_cons ev_bl av_nil)))))) (bv_cons (sv_set 6 sc__law_often.nd (ev_op d_div (ev_def0 C__law_turn (hr.mono (by decide)) rfl (av_cons (ev_op d_div (ev_var 4) ev_int) (av_cons ev_int av_nil))) ev_int)) (bv_cons (sv_if (tv_peek 2 (WV.tv (wv_and (tv_cmp d_lt (ev_op d_mod (ev_var 4) ev_int) ev_int (nomark _)) (wv_and (tv_cmp (d_ne hr.units) (ev_var 2) (ev_lst av_nil) (nomark _)) (wv_and1 (tv_cmp (d_ne hr.units) (ev_ix d_ix (ev_ix d_ix (ev_var 2) (ev_op d_mod (ev_var 6) (ev_callB c_len rfl T.len (by decide +kernel) (av_cons (ev_var 2) av_nil))) (fun _ _ => rfl)) ev_int (fun _ _ => rfl)) ev_str (nomark _))))))) (bv_cons (sv_set 5 sc__law_often.nd (ev_ixO 2 (ev_op d_mod (ev_var 6) (ev_lenO 2 rfl T.len)) (fun _ _ => rfl))) (bv_one (sv_if (WV.tv (wv_and (tv_cmp d_in (ev_ix d_ix (ev_var 5) ev_int (fun _ _ => rfl)) (ev_tup (av_cons ev_str (av_cons ev_str av_nil))) (by with_unfolding_all rfl)) (wv_and1 (tv_cmp (d_eq hr.units) (ev_op d_mod (ev_op d_div (ev_var 6) ev_int) ev_int) ev_int (nomark _))))) (bv_one (sv_set 5 sc__law_often.nd (ev_tup (av_cons (ev_ix d_ix (ev_var 5) ev_int (fun _ _ => rfl)) (av_cons (ev_ix d_ix (ev_var 5) ev_int (fun _ _ => rfl)) (av_cons (ev_ix d_ix (ev_var 5) ev_int (fun _ _ => rfl)) av_nil)))))) bv_nil))) bv_nil) (bv_cons (sv_if (WV.tv (wv_and (tv_cmp (d_eq hr.units) (ev_ix d_ix (ev_var 5) ev_int (fun _ _ => rfl)) ev_str (nomark _)) (wv_and1 (tv_cmp (d_eq hr.units) (ev_var 3) ev_int (nomark _))))) (bv_one (sv_set 5 sc__law_often.nd (ev_tup (av_cons ev_str (av_cons (ev_ix d_ix (ev_var 5) ev_int (fun _ _ => rfl)) av_nil))))) bv_nil) (bv_cons (sv_set 3 sc__law_often.nd (ev_op d_add (ev_var 3) (ev_callTy c_int rfl T.int (by decide +kernel) (av_cons (ev_cmp (d_eq hr.units) (ev_ix d_ix (ev_var 5) ev_int (fun _ _ => rfl)) ev_str (nomark _)) av_nil)))) (bv_one (sv_app 2 (ev_var 5))))))))) (bv_one (sv_fz 2 (sv_ret (ev_tup (av_cons (ev_var 1) (av_cons (ev_callTy c_tuple rfl T.tuple (by decide +kernel) (av_cons (ev_var 2) av_nil)) av_nil)))))))))
theorem sc__law_kinds : FnScope N__law_kinds ["row"] (defScope s__law_kinds) := ⟨rfl, rfl, rfl, by decide +kernel, rfl, by decide +kernel, by decide +kernel⟩
theorem okr__law_kinds {f : Addr} {fd : FuncData} {dV : Value} (F : FunV K "_law_kinds" "_law_kinds" s__law_kinds f fd dV) (T : Txt mg) (hm : mg "_law_kinds" = some (.ref f)) (hk : PySem.W.keepIn K (.ref f) = true) (hb : Binds K fd ["row"] []) : ∀ m, FnOk P w K mg base CX0 (1 + m) f fd ["row"] (spD K (r__law_kinds m))
  | 0 => fn_b (k := 0) (b := fun _ => none) F sc__law_kinds fun cdv A outer s H E hr => bv_no
  | m + 1 => by
    have C__law_kinds : Cal P w K mg base "_law_kinds" (1 + m) (r__law_kinds m) [] := Cal.mk0 (okr__law_kinds F T hm hk hb m) hm hk hb
    exact fn_b (k := 1 + m) (b := b__law_kinds (r__law_kinds m)) F sc__law_kinds fun cdv A outer s H E hr => (bv_cons (sv_if (tv_cmp (d_eq hr.units) (ev_ix d_ix (ev_var 0) ev_int (fun _ _ => rfl)) ev_str (nomark _)) (bv_one (sv_ret (ev_def0 C__law_kinds (hr.mono (by omega)) rfl (av_cons (ev_ix d_ix (ev_var 0) ev_int (fun _ _ => rfl)) av_nil)))) bv_nil) (bv_cons (sv_if (WV.tv (wv_or (tv_cmp (d_eq hr.units) (ev_ix d_ix (ev_var 0) ev_int (fun _ _ => rfl)) ev_str (nomark _)) (wv_or1 (tv_cmp (d_eq hr.units) (ev_ix d_ix (ev_var 0) ev_int (fun _ _ => rfl)) ev_str (nomark _))))) (bv_one (sv_ret (ev_lst (av_cons (ev_tup (av_cons (ev_ix d_ix (ev_var 0) ev_int (fun _ _ => rfl)) (av_cons ev_str av_nil))) av_nil)))) bv_nil) (bv_cons (sv_if (tv_cmp (d_eq hr.units) (ev_ix d_ix (ev_var 0) ev_int (fun _ _ => rfl)) ev_str (nomark _)) (bv_one (sv_ret (ev_lst (av_cons (ev_tup (av_cons (ev_ix d_ix (ev_var 0) ev_int (fun _ _ => rfl)) (av_cons ev_str av_nil))) av_nil)))) bv_nil) (bv_cons (sv_if (tv_cmp (d_eq hr.units) (ev_ix d_ix (ev_var 0) ev_int (fun _ _ => rfl)) ev_str (nomark _)) (bv_one (sv_ret (ev_lst (av_cons (ev_tup (av_cons (ev_ix d_ix (ev_var 0) ev_int (fun _ _ => rfl)) (av_cons ev_str av_nil))) (av_cons (ev_tup (av_cons (ev_ix d_ix (ev_var 0) ev_int (fun _ _ => rfl)) (av_cons ev_str av_nil))) av_nil))))) bv_nil) (bv_cons (sv_if (tv_cmp (d_eq hr.units) (ev_ix d_ix (ev_var 0) ev_int (fun _ _ => rfl)) ev_str (nomark _)) (bv_one (sv_ret (ev_lst (av_cons (ev_tup (av_cons (ev_ix d_ix (ev_var 0) ev_int (fun _ _ => rfl)) (av_cons ev_str av_nil))) (av_cons (ev_tup (av_cons (ev_ix d_ix (ev_var 0) ev_int (fun _ _ => rfl)) (av_cons ev_str av_nil))) av_nil))))) bv_nil) (bv_one (sv_ret (ev_comp (vars := ["wire"]) (caps := []) (by change BlkOk (defScope s__law_kinds).names N__law_kinds _ _ _; exact ⟨rfl, by decide +kernel, by decide +kernel, by decide +kernel, by decide +kernel⟩) rfl (iv_seq (ev_slice (ev_var 0) (ov_some ev_int) ov_none)) tg_one (fun _ _ _ _ => pg_name (i := 0) (show (["wire"] : List Str).Nodup by decide +kernel) rfl (Or.inl rfl) (.inr rfl)) (fun _ _ _ _ => (ev_tup (av_cons (ev_var 0) (av_cons ev_str av_nil))))))))))))
theorem sc__law_lets : FnScope N__law_lets ["one", "other", "mark"] (defScope s__law_lets) := ⟨rfl, rfl, rfl, by decide +kernel, rfl, by decide +kernel, by decide +kernel⟩
theorem ok__law_lets {f : Addr} {fd : FuncData} {dV : Value} (F : FunV K "_law_lets" "_law_lets" s__law_lets f fd dV) (T : Txt mg) (C__law_kinds : Cal P w K mg base "_law_kinds" 9 g__law_kinds []) : FnOk P w K mg base CX0 10 f fd ["one", "other", "mark"] (spD K g__law_lets) :=
  fn_b (k := 9) (b := b__law_lets) F sc__law_lets fun cdv A outer s H E hr => (bv_cons (sv_set 3 sc__law_lets.nd (ev_lst (av_cons (ev_ix d_ix (ev_var 0) ev_int (fun _ _ => rfl)) (av_cons (ev_ix d_ix (ev_var 1) ev_int (fun _ _ => rfl)) av_nil)))) (bv_cons (sv_if (tv_cmp (d_eq hr.units) (ev_var 3) (ev_lst (av_cons ev_str (av_cons ev_str av_nil))) (nomark _)) (bv_one (sv_ret ev_bl)) bv_nil) (bv_cons (sv_if (WV.tv (wv_or (WV.tv (wv_and (tv_cmp (d_eq hr.units) (ev_var 3) (ev_lst (av_cons ev_str (av_cons ev_str av_nil))) (nomark _)) (wv_and1 (tv_cmp (d_eq hr.units) (ev_ix d_ix (ev_var 1) ev_int (fun _ _ => rfl)) (ev_var 2) (nomark _))))) (wv_or1 (WV.tv (wv_and (tv_cmp (d_eq hr.units) (ev_var 3) (ev_lst (av_cons ev_str (av_cons ev_str av_nil))) (nomark _)) (wv_and1 (tv_cmp (d_eq hr.units) (ev_ix d_ix (ev_var 0) ev_int (fun _ _ => rfl)) (ev_var 2) (nomark _)))))))) (bv_one (sv_ret ev_bl)) bv_nil) (bv_cons (sv_for PassesOwn.never rfl (iv_seq (ev_def0 C__law_kinds (hr.mono (by decide)) rfl (av_cons (ev_var 0) av_nil))) (gv_tup rfl (gvs_cons (gv_name 4 sc__law_lets.nd) (gvs_cons (gv_name 5 sc__law_lets.nd) gvs_nil))) (bv_one (sv_for PassesOwn.never rfl (iv_seq (ev_def0 C__law_kinds (hr.mono (by decide)) rfl (av_cons (ev_var 1) av_nil))) (gv_tup rfl (gvs_cons (gv_name 6 sc__law_lets.nd) (gvs_cons (gv_name 7 sc__law_lets.nd) gvs_nil))) (bv_one (sv_if (WV.tv (wv_and (tv_cmp (d_eq hr.units) (ev_var 4) (ev_var 6) (nomark _)) (wv_and1 (WV.tv (wv_or (tv_cmp (d_ne hr.units) (ev_var 5) (ev_var 7) (nomark _)) (wv_or1 (tv_cmp (d_eq hr.units) (ev_var 5) ev_str (nomark _)))))))) (bv_one (sv_ret ev_bl)) bv_nil))))) (bv_one (sv_ret ev_bl))))))
theorem sc__law_marks_ahead : FnScope N__law_marks_ahead ["rows", "place"] (defScope s__law_marks_ahead) := ⟨rfl, rfl, rfl, by decide +kernel, rfl, by decide +kernel, by decide +kernel⟩
theorem ok__law_marks_ahead {f : Addr} {fd : FuncData} {dV : Value} (F : FunV K "_law_marks_ahead" "_law_marks_ahead" s__law_marks_ahead f fd dV) (T : Txt mg) : FnOk P w K mg base CX0 1 f fd ["rows", "place"] (spD K g__law_marks_ahead) :=
  fn_b (k := 0) (b := b__law_marks_ahead) F sc__law_marks_ahead fun cdv A outer s H E hr => (bv_one (sv_ret (ev_callB c_len rfl T.len (by decide +kernel) (av_cons (ev_compI (vars := ["row"]) (caps := []) (by change BlkOk (defScope s__law_marks_ahead).names N__law_marks_ahead _ _ _; exact ⟨rfl, by decide +kernel, by decide +kernel, by decide +kernel, by decide +kernel⟩) rfl (iv_seq (ev_slice (ev_var 0) ov_none (ov_some (ev_var 1)))) tg_one (fun _ _ _ _ => pg_name (i := 0) (show (["row"] : List Str).Nodup by decide +kernel) rfl (Or.inl rfl) (.inr rfl)) (fun _ _ _ _ => (tv_cmp (d_eq hr.units) (ev_ix d_ix (ev_var 0) ev_int (fun _ _ => rfl)) ev_str (nomark _))) (fun _ _ _ _ => (ev_var 0))) av_nil))))
theorem sc__law_clear : FnScope N__law_clear ["rows", "p", "q"] (defScope s__law_clear) := ⟨rfl, rfl, rfl, by decide +kernel, rfl, by decide +kernel, by decide +kernel⟩
theorem ok__law_clear {f : Addr} {fd : FuncData} {dV : Value} (F : FunV K "_law_clear" "_law_clear" s__law_clear f fd dV) (T : Txt mg) (C__law_lets : Cal P w K mg base "_law_lets" 10 g__law_lets []) (C__law_marks_ahead : Cal P w K mg base "_law_marks_ahead" 1 g__law_marks_ahead []) : FnOk P w K mg base CX0 11 f fd ["rows", "p", "q"] (spD K g__law_clear) :=
  fn_b (k := 10) (b := b__law_clear) F sc__law_clear fun cdv A outer s H E hr => (bv_cons (sv_for PassesOwn.never rfl (iv_range2 rfl T.range (av_cons (ev_op d_add (ev_var 1) ev_int) (av_cons (ev_var 2) av_nil))) (gv_name 3 sc__law_clear.nd) (bv_one (sv_if (tv_not (tv_val (ev_def0 C__law_lets (hr.mono (by decide)) rfl (av_cons (ev_ix d_ix (ev_var 0) (ev_var 1) (fun _ _ => rfl)) (av_cons (ev_ix d_ix (ev_var 0) (ev_var 3) (fun _ _ => rfl)) (av_cons (ev_def0 C__law_marks_ahead (hr.mono (by decide)) rfl (av_cons (ev_var 0) (av_cons (ev_var 3) av_nil))) av_nil)))))) (bv_one (sv_ret ev_bl)) bv_nil))) (bv_one (sv_ret ev_bl)))
theorem sc__law_undo : FnScope N__law_undo ["one", "other"] (defScope s__law_undo) := ⟨rfl, rfl, rfl, by decide +kernel, rfl, by decide +kernel, by decide +kernel⟩
theorem ok__law_undo {f : Addr} {fd : FuncData} {dV : Value} (F : FunV K "_law_undo" "_law_undo" s__law_undo f fd dV) (T : Txt mg) : FnOk P w K mg base CX0 1 f fd ["one", "other"] (spD K g__law_undo) :=
  fn_b (k := 0) (b := b__law_undo) F sc__law_undo fun cdv A outer s H E hr => (bv_cons (sv_if (tv_cmp d_in (ev_ix d_ix (ev_var 0) ev_int (fun _ _ => rfl)) (ev_tup (av_cons ev_str (av_cons ev_str av_nil))) (by with_unfolding_all rfl)) (bv_one (sv_ret ev_bl)) bv_nil) (bv_cons (sv_if (WV.tv (wv_and (tv_cmp d_in (ev_ix d_ix (ev_var 0) ev_int (fun _ _ => rfl)) (ev_tup (av_cons ev_str (av_cons ev_str av_nil))) (by with_unfolding_all rfl)) (wv_and1 (tv_cmp (d_eq hr.units) (ev_ix d_ix (ev_var 0) ev_int (fun _ _ => rfl)) (ev_ix d_ix (ev_var 1) ev_int (fun _ _ => rfl)) (nomark _))))) (bv_one (sv_ret (ev_cmp (d_eq hr.units) (ev_sort rfl T.sorted (ev_slice (ev_var 0) (ov_some ev_int) ov_none)) (ev_sort rfl T.sorted (ev_slice (ev_var 1) (ov_some ev_int) ov_none)) (nomark _)))) bv_nil) (bv_one (sv_ret (ev_cmp (d_eq hr.units) (ev_var 0) (ev_var 1) (nomark _))))))
theorem sc__law_swung : FnScope N__law_swung ["row", "wire"] (defScope s__law_swung) := ⟨rfl, rfl, rfl, by decide +kernel, rfl, by decide +kernel, by decide +kernel⟩
theorem okr__law_swung {f : Addr} {fd : FuncData} {dV : Value} (F : FunV K "_law_swung" "_law_swung" s__law_swung f fd dV) (T : Txt mg) (hm : mg "_law_swung" = some (.ref f)) (hk : PySem.W.keepIn K (.ref f) = true) (hb : Binds K fd ["row", "wire"] []) : ∀ m, FnOk P w K mg base CX0 (1 + m) f fd ["row", "wire"] (spD K (r__law_swung m))
  | 0 => fn_b (k := 0) (b := fun _ => none) F sc__law_swung fun cdv A outer s H E hr => bv_no
  | m + 1 => by
    have C__law_swung : Cal P w K mg base "_law_swung" (1 + m) (r__law_swung m) [] := Cal.mk0 (okr__law_swung F T hm hk hb m) hm hk hb
    exact fn_b (k := 1 + m) (b := b__law_swung (r__law_swung m)) F sc__law_swung fun cdv A outer s H E hr => (bv_cons (sv_if (tv_cmp (d_eq hr.units) (ev_ix d_ix (ev_var 0) ev_int (fun _ _ => rfl)) ev_str (nomark _)) (bv_one (sv_ret (ev_comp (vars := ["part"]) (caps := [(0, "row")]) (by change BlkOk (defScope s__law_swung).names N__law_swung _ _ _; exact ⟨rfl, by decide +kernel, by decide +kernel, by decide +kernel, by decide +kernel⟩) rfl (iv_seq (ev_def0 C__law_swung (hr.mono (by omega)) rfl (av_cons (ev_ix d_ix (ev_var 0) ev_int (fun _ _ => rfl)) (av_cons (ev_var 1) av_nil)))) tg_one (fun _ _ _ _ => pg_name (i := 0) (show (["part", "row"] : List Str).Nodup by decide +kernel) rfl (Or.inl rfl) (.inr rfl)) (fun _ _ _ _ => (ev_tup (av_cons ev_str (av_cons (ev_ix d_ix (ev_var 1) ev_int (fun _ _ => rfl)) (av_cons (ev_var 0) av_nil)))))))) bv_nil) (bv_cons (sv_if (tv_cmp (d_eq hr.units) (ev_var 0) (ev_tup (av_cons ev_str (av_cons (ev_var 1) av_nil))) (nomark _)) (bv_one (sv_ret (ev_lst (av_cons (ev_tup (av_cons ev_str (av_cons (ev_var 1) (av_cons ev_int av_nil)))) av_nil)))) bv_nil) (bv_cons (sv_if (tv_cmp (d_eq hr.units) (ev_var 0) (ev_tup (av_cons ev_str (av_cons (ev_var 1) (av_cons ev_int av_nil)))) (nomark _)) (bv_one (sv_ret (ev_lst (av_cons (ev_tup (av_cons ev_str (av_cons (ev_var 1) av_nil))) av_nil)))) bv_nil) (bv_cons (sv_if (WV.tv (wv_and (tv_cmp (d_eq hr.units) (ev_ix d_ix (ev_var 0) ev_int (fun _ _ => rfl)) ev_str (nomark _)) (wv_and1 (tv_cmp (d_eq hr.units) (ev_ix d_ix (ev_var 0) ev_int (fun _ _ => rfl)) (ev_var 1) (nomark _))))) (bv_one (sv_ret (ev_lst (av_cons (ev_tup (av_cons ev_str (av_cons (ev_ix d_ix (ev_var 0) ev_int (fun _ _ => rfl)) (av_cons (ev_var 1) av_nil)))) av_nil)))) bv_nil) (bv_cons (sv_if (WV.tv (wv_and (tv_cmp (d_eq hr.units) (ev_ix d_ix (ev_var 0) ev_int (fun _ _ => rfl)) ev_str (nomark _)) (wv_and1 (tv_cmp d_in (ev_var 1) (ev_slice (ev_var 0) (ov_some ev_int) ov_none) (by with_unfolding_all rfl))))) (bv_one (sv_ret (ev_lst (av_cons (ev_tup (av_cons ev_str (av_cons (ev_ix d_ix (ev_compI (vars := ["part"]) (caps := [(1, "wire")]) (by change BlkOk (defScope s__law_swung).names N__law_swung _ _ _; exact ⟨rfl, by decide +kernel, by decide +kernel, by decide +kernel, by decide +kernel⟩) rfl (iv_seq (ev_slice (ev_var 0) (ov_some ev_int) ov_none)) tg_one (fun _ _ _ _ => pg_name (i := 0) (show (["part", "wire"] : List Str).Nodup by decide +kernel) rfl (Or.inl rfl) (.inr rfl)) (fun _ _ _ _ => (tv_cmp (d_ne hr.units) (ev_var 0) (ev_var 1) (nomark _))) (fun _ _ _ _ => (ev_var 0))) ev_int (fun _ _ => rfl)) (av_cons (ev_var 1) av_nil)))) av_nil)))) bv_nil) (bv_one (sv_ret (ev_lst av_nil))))))))
theorem sc__law_fit : FnScope N__law_fit ["rows", "step"] (defScope s__law_fit) := ⟨rfl, rfl, rfl, by decide +kernel, rfl, by decide +kernel, by decide +kernel⟩
theorem ok__law_fit {f : Addr} {fd : FuncData} {dV : Value} (F : FunV K "_law_fit" "_law_fit" s__law_fit f fd dV) (T : Txt mg) (C__law_undo : Cal P w K mg base "_law_undo" 1 g__law_undo []) (C__law_clear : Cal P w K mg base "_law_clear" 11 g__law_clear []) (C__law_swung : Cal P w K mg base "_law_swung" 9 g__law_swung []) (C__law_kinds : Cal P w K mg base "_law_kinds" 9 g__law_kinds []) : FnOk P w K mg base CX0 12 f fd ["rows", "step"] (spD K g__law_fit) :=
  fn_b (k := 11) (b := b__law_fit) F sc__law_fit fun cdv A outer s H E hr => (bv_cons (sv_asg (ev_slice (ev_var 1) (ov_some ev_int) (ov_some ev_int)) (gv_tup rfl (gvs_cons (gv_name 2 sc__law_fit.nd) (gvs_cons (gv_name 3 sc__law_fit.nd) gvs_nil)))) (bv_cons (sv_if (tv_cmp (d_eq hr.units) (ev_ix d_ix (ev_var 1) ev_int (fun _ _ => rfl)) ev_str (nomark _)) (bv_one (sv_ret (ev_and (ev_def0 C__law_undo (hr.mono (by decide)) rfl (av_cons (ev_ix d_ix (ev_var 0) (ev_var 2) (fun _ _ => rfl)) (av_cons (ev_ix d_ix (ev_var 0) (ev_var 3) (fun _ _ => rfl)) av_nil))) (ev_one (ev_def0 C__law_clear (hr.mono (by decide)) rfl (av_cons (ev_var 0) (av_cons (ev_var 2) (av_cons (ev_var 3) av_nil)))))))) bv_nil) (bv_cons (sv_if (tv_cmp (d_eq hr.units) (ev_ix d_ix (ev_var 1) ev_int (fun _ _ => rfl)) ev_str (nomark _)) (bv_one (sv_ret (ev_and (ev_cmp (d_eq hr.units) (ev_ix d_ix (ev_ix d_ix (ev_var 0) (ev_var 2) (fun _ _ => rfl)) ev_int (fun _ _ => rfl)) ev_str (nomark _)) (ev_and (ev_cmp (d_eq hr.units) (ev_slice (ev_ix d_ix (ev_var 0) (ev_var 3) (fun _ _ => rfl)) ov_none (ov_some ev_int)) (ev_slice (ev_ix d_ix (ev_var 0) (ev_var 2) (fun _ _ => rfl)) ov_none (ov_some ev_int)) (nomark _)) (ev_one (ev_def0 C__law_clear (hr.mono (by decide)) rfl (av_cons (ev_var 0) (av_cons (ev_var 2) (av_cons (ev_var 3) av_nil))))))))) bv_nil) (bv_cons (sv_set 4 sc__law_fit.nd (ev_ix d_ix (ev_var 1) ev_int (fun _ _ => rfl))) (bv_cons (sv_if (WV.tv (wv_or (tv_cmp (d_ne hr.units) (ev_ix d_ix (ev_ix d_ix (ev_var 0) (ev_var 2) (fun _ _ => rfl)) ev_int (fun _ _ => rfl)) ev_str (nomark _)) (wv_or (tv_cmp (d_ne hr.units) (ev_ix d_ix (ev_var 0) (ev_var 2) (fun _ _ => rfl)) (ev_ix d_ix (ev_var 0) (ev_var 4) (fun _ _ => rfl)) (nomark _)) (wv_or1 (tv_cmp (d_eq hr.units) (ev_def0 C__law_swung (hr.mono (by decide)) rfl (av_cons (ev_ix d_ix (ev_var 0) (ev_var 3) (fun _ _ => rfl)) (av_cons (ev_ix d_ix (ev_ix d_ix (ev_var 0) (ev_var 2) (fun _ _ => rfl)) ev_int (fun _ _ => rfl)) av_nil))) (ev_lst av_nil) (nomark _)))))) (bv_one (sv_ret ev_bl)) bv_nil) (bv_cons (sv_for PassesOwn.never rfl (iv_range2 rfl T.range (av_cons (ev_op d_add (ev_var 2) ev_int) (av_cons (ev_var 4) av_nil))) (gv_name 5 sc__law_fit.nd) (bv_one (sv_if (WV.tv (wv_and (tv_cmp (d_ne hr.units) (ev_var 5) (ev_var 3) (nomark _)) (wv_and1 (tv_cmp d_in (ev_ix d_ix (ev_ix d_ix (ev_var 0) (ev_var 2) (fun _ _ => rfl)) ev_int (fun _ _ => rfl)) (ev_comp (vars := ["pair"]) (caps := []) (by change BlkOk (defScope s__law_fit).names N__law_fit _ _ _; exact ⟨rfl, by decide +kernel, by decide +kernel, by decide +kernel, by decide +kernel⟩) rfl (iv_seq (ev_def0 C__law_kinds (hr.mono (by decide)) rfl (av_cons (ev_ix d_ix (ev_var 0) (ev_var 5) (fun _ _ => rfl)) av_nil))) tg_one (fun _ _ _ _ => pg_name (i := 0) (show (["pair"] : List Str).Nodup by decide +kernel) rfl (Or.inl rfl) (.inr rfl)) (fun _ _ _ _ => (ev_ix d_ix (ev_var 0) ev_int (fun _ _ => rfl)))) (by with_unfolding_all rfl))))) (bv_one (sv_ret ev_bl)) bv_nil))) (bv_one (sv_ret ev_bl))))))))
theorem sc__law_steps : FnScope N__law_steps ["rows"] (defScope s__law_steps) := ⟨rfl, rfl, rfl, by decide +kernel, rfl, by decide +kernel, by decide +kernel⟩
theorem ok__law_steps {f : Addr} {fd : FuncData} {dV : Value} (F : FunV K "_law_steps" "_law_steps" s__law_steps f fd dV) (T : Txt mg) (C__law_fit : Cal P w K mg base "_law_fit" 12 g__law_fit []) : FnOk P w K mg base CX0 13 f fd ["rows"] (spD K g__law_steps) :=
  fn_b (k := 12) (b := b__law_steps) F sc__law_steps fun cdv A outer s H E hr => (bv_cons (sv_own 1 sc__law_steps.nd av_nil) (bv_cons (sv_set 2 sc__law_steps.nd (ev_callB c_len rfl T.len (by decide +kernel) (av_cons (ev_var 0) av_nil))) (bv_cons (sv_for PassesOwn.never rfl (iv_range1 rfl T.range (av_cons (ev_var 2) av_nil)) (gv_name 3 sc__law_steps.nd) (bv_one (sv_for PassesOwn.never rfl (iv_range2 rfl T.range (av_cons (ev_op d_add (ev_var 3) ev_int) (av_cons (ev_var 2) av_nil))) (gv_name 4 sc__law_steps.nd) (bv_cons (sv_app 1 (ev_tup (av_cons ev_str (av_cons (ev_var 3) (av_cons (ev_var 4) av_nil))))) (bv_cons (sv_app 1 (ev_tup (av_cons ev_str (av_cons (ev_var 3) (av_cons (ev_var 4) av_nil))))) (bv_one (sv_if (tv_cmp (d_eq hr.units) (ev_ix d_ix (ev_ix d_ix (ev_var 0) (ev_var 3) (fun _ _ => rfl)) ev_int (fun _ _ => rfl)) ev_str (nomark _)) (bv_one (sv_extL 1 (ev_comp (vars := ["t"]) (caps := [(3, "p"), (4, "q")]) (by change BlkOk (defScope s__law_steps).names N__law_steps _ _ _; exact ⟨rfl, by decide +kernel, by decide +kernel, by decide +kernel, by decide +kernel⟩) rfl (iv_range2 rfl T.range (av_cons (ev_op d_add (ev_var 4) ev_int) (av_cons (ev_var 2) av_nil))) tg_one (fun _ _ _ _ => pg_name (i := 0) (show (["t", "p", "q"] : List Str).Nodup by decide +kernel) rfl (Or.inl rfl) (.inr rfl)) (fun _ _ _ _ => (ev_tup (av_cons ev_str (av_cons (ev_var 1) (av_cons (ev_var 2) (av_cons (ev_var 0) av_nil))))))))) bv_nil))))))) (bv_one (sv_fz 1 (sv_ret (ev_sort rfl T.sorted (ev_compI (vars := ["step"]) (caps := [(0, "rows")]) (by change BlkOk (defScope s__law_steps).names N__law_steps _ _ _; exact ⟨rfl, by decide +kernel, by decide +kernel, by decide +kernel, by decide +kernel⟩) rfl (iv_seq (ev_var 1)) tg_one (fun _ _ _ _ => pg_name (i := 0) (show (["step", "rows"] : List Str).Nodup by decide +kernel) rfl (Or.inl rfl) (.inr rfl)) (fun _ _ _ _ => (tv_val (ev_def0 C__law_fit (hr.mono (by decide)) rfl (av_cons (ev_var 1) (av_cons (ev_var 0) av_nil))))) (fun _ _ _ _ => (ev_var 0))))))))))
theorem sc__law_far : FnScope N__law_far ["cell"] (defScope s__law_far) := ⟨rfl, rfl, rfl, by decide +kernel, rfl, by decide +kernel, by decide +kernel⟩
theorem sv_setH {X : Cx} {e : Expr} {f : Dv → Option D} {pos : Pos} {i : Nat} {x : Str} {pos' : Pos} (hN : X.N.Nodup) (he : EV X e f) (hi : X.N[i]? = some x := by rfl) (hx : Loc X.env.scope x := by first | exact Or.inl rfl | exact Or.inr rfl) (hs : swapsWith e (some (.Name x pos')) pos.line X.env = pure false := by rfl) (hf : X.fn x = true ∨ X.env.scope.names.lookup x = some .local := by first | exact .inl rfl | exact .inr rfl) : SV X (.Assign [.Name x pos'] e pos) (sSet i f) := sv_set i hN he hi hx hs hf
theorem sv_insH {X : Cx} {b e : Expr} {fk fv : Dv → Option D} {p pos cpos apos : Pos} {i : Nat} {x : Str} (hk : EV X b fk) (hv' : EV X e fv) (hN : X.N[i]? = some x := by rfl) (hv : Vis X.env.scope x := by first | exact Or.inl rfl | exact Or.inr (Or.inl rfl) | exact Or.inr (Or.inr rfl)) (hd : (x == ("__debug__" : Str)) = false := by decide) (hcd : (x == ("__classdict__" : Str)) = false := by decide)
    (hbase : attributeBase (.Name x p) "insert" X.env (eval (.Name x p) X.env) = eval (.Name x p) X.env := by rfl)
    (hfew : ((backTo cpos (starEach [b, e] X.env)).all (fun x => !x.1) && (backToKw cpos (keywordEach [] X.env)).all (fun x => x.1.isSome) && decide ([b, e].length + ([] : List Keyword).length + (if ([] : List Keyword).isEmpty then 0 else 1) < 30)) = true := by rfl)
    (hline : (apos.endLine == cpos.line) = true := by rfl) (hs : starEach [b, e] X.env = (false, eval b X.env) :: starEach [e] X.env := by rfl) (hs2 : starEach [e] X.env = (false, eval e X.env) :: starEach [] X.env := by rfl) (hplain : (backTo cpos (starEach [e] X.env)).any (·.1) = false := by rfl)
    (hsw : swapsWith (.Call (.Attribute (.Name x p) "insert" apos) [b, e] [] cpos) none pos.line X.env = pure false := by rfl) : SV X (.Expr (.Call (.Attribute (.Name x p) "insert" apos) [b, e] [] cpos) pos) (sIns i fk fv) := sv_ins i hk hv' hN hv hd hcd hbase hfew hline hs hs2 hplain hsw
theorem ok__law_far {f : Addr} {fd : FuncData} {dV : Value} (F : FunV K "_law_far" "_law_far" s__law_far f fd dV) (T : Txt mg) : FnOk P w K mg base CX0 1 f fd ["cell"] (spD K g__law_far) :=
  fn_b (k := 0) (b := b__law_far) F sc__law_far fun cdv A outer s H E hr => by
    refine bv_cons ?_ ?_
    refine sv_setH ?_ ?_
    exact sc__law_far.nd
    refine ev_ix ?_ ?_ ?_ ?_
    exact d_ix
    refine ev_lst ?_
    refine av_cons ?_ ?_
    exact ev_tup (av_cons ev_str (av_cons ev_int av_nil))
    refine av_cons ?_ ?_
    exact ev_tup (av_cons ev_str (av_cons ev_int av_nil))
    refine av_cons ?_ ?_
    exact ev_tup (av_cons ev_str (av_cons ev_int (av_cons ev_int av_nil)))
    refine av_cons ?_ ?_
    exact ev_tup (av_cons ev_str (av_cons ev_int (av_cons ev_int av_nil)))
    refine av_cons ?_ ?_
    exact ev_tup (av_cons ev_str (av_cons ev_int (av_cons ev_int av_nil)))
    exact av_nil
    exact (ev_op d_mod (ev_var 0) ev_int)
    exact (fun _ _ => rfl)
    refine bv_cons ?_ ?_
    exact (sv_ownE 2 sc__law_far.nd (eo_mul (ev_lst (av_cons (ev_tup (av_cons ev_str (av_cons ev_int av_nil))) av_nil)) (ev_op d_mod (ev_op d_div (ev_var 0) ev_int) ev_int)))
    refine bv_cons ?_ ?_
    exact (sv_set 3 sc__law_far.nd (ev_op d_mod (ev_op d_div (ev_var 0) ev_int) (ev_op d_add (ev_lenO 2 rfl T.len) ev_int)))
    refine bv_cons ?_ ?_
    refine sv_if ?_ ?_ ?_
    exact (tv_cmp (d_eq hr.units) (ev_op d_mod (ev_op d_div (ev_var 0) ev_int) ev_int) ev_int (nomark _))
    refine bv_one ?_
    refine sv_insH ?_ ?_
    exact (ev_var 3)
    refine ev_ix ?_ ?_ ?_ ?_
    exact d_ix
    refine ev_lst ?_
    refine av_cons ?_ ?_
    exact ev_tup (av_cons ev_str (av_cons ev_int (av_cons ev_int av_nil)))
    refine av_cons ?_ ?_
    exact ev_tup (av_cons ev_str (av_cons ev_int av_nil))
    refine av_cons ?_ ?_
    exact ev_tup (av_cons ev_str (av_cons ev_int av_nil))
    refine av_cons ?_ ?_
    exact ev_tup (av_cons ev_str (av_cons ev_int (av_cons ev_int av_nil)))
    exact av_nil
    exact (ev_op d_mod (ev_op d_div (ev_var 0) ev_int) ev_int)
    exact (fun _ _ => rfl)
    exact bv_nil
    exact (bv_one (sv_fz 2 (sv_ret (ev_tup (av_cons ev_int (av_cons (ev_op d_add (ev_op d_add (ev_tup (av_cons (ev_var 1) av_nil)) (ev_callTy c_tuple rfl T.tuple (by decide +kernel) (av_cons (ev_var 2) av_nil))) (ev_tup (av_cons (ev_var 1) av_nil))) av_nil))))))
theorem sc_law : FnScope N_law ["script"] (defScope s_law) := ⟨rfl, rfl, rfl, by decide +kernel, rfl, by decide +kernel, by decide +kernel⟩
theorem ok_law {f : Addr} {fd : FuncData} {dV : Value} (F : FunV K "law" "law" s_law f fd dV) (T : Txt mg) (C__law_often : Cal P w K mg base "_law_often" 3 g__law_often []) (C__law_far : Cal P w K mg base "_law_far" 1 g__law_far []) (C__law_steps : Cal P w K mg base "_law_steps" 13 g__law_steps []) (C_slides_of : Cal P w K mg base "slides_of" 12 g_slides_of []) (C__law_cell : Cal P w K mg base "_law_cell" 1 g__law_cell []) (C__law_turn : Cal P w K mg base "_law_turn" 1 g__law_turn []) (C__law_same : Cal P w K mg base "_law_same" 9 g__law_same []) (O_slides_of : CalO P w K mg base "slides_of" 12 g_slides_of []) : FnOk P w K mg base CX0 14 f fd ["script"] (spD K g_law) :=
  fn_b (k := 13) (b := b_law) F sc_law fun cdv A outer s H E hr => (bv_cons (sv_set 1 sc_law.nd (ev_def0 C__law_often (hr.mono (by decide)) rfl (av_cons (ev_slice (ev_var 0) (ov_some ev_int) (ov_some ev_int)) (av_cons (ev_op d_add ev_int (ev_op d_mod (ev_def0 C__law_cell (hr.mono (by decide)) rfl (av_cons (ev_var 0) (av_cons ev_int av_nil))) ev_int)) av_nil)))) (bv_cons (sv_if (tv_cmp (d_eq hr.units) (ev_op d_mod (ev_op d_div (ev_def0 C__law_cell (hr.mono (by decide)) rfl (av_cons (ev_var 0) (av_cons ev_int av_nil))) ev_int) ev_int) ev_int (nomark _)) (bv_one (sv_set 1 sc_law.nd (ev_def0 C__law_far (hr.mono (by decide)) rfl (av_cons (ev_op d_div (ev_def0 C__law_turn (hr.mono (by decide)) rfl (av_cons (ev_op d_add (ev_op d_div (ev_def0 C__law_cell (hr.mono (by decide)) rfl (av_cons (ev_var 0) (av_cons ev_int av_nil))) ev_int) (ev_op d_mulI ev_int (ev_def0 C__law_cell (hr.mono (by decide)) rfl (av_cons (ev_var 0) (av_cons ev_int av_nil))))) (av_cons ev_int av_nil))) ev_int) av_nil)))) bv_nil) (bv_cons (sv_set 2 sc_law.nd (ev_callTy c_tuple rfl T.tuple (by decide +kernel) (av_cons (ev_def0 C__law_steps (hr.mono (by decide)) rfl (av_cons (ev_ix d_ix (ev_var 1) ev_int (fun _ _ => rfl)) av_nil)) av_nil))) (bv_cons (sv_for PassesOwn.never rfl (iv_range1 rfl T.range (av_cons ev_int av_nil)) (gv_name 3 sc_law.nd) (bv_cons (sv_ownE 4 sc_law.nd (eo_def0 O_slides_of (hr.mono (by decide)) rfl (av_cons (ev_var 1) av_nil))) (bv_cons (sv_if (tv_peek 4 (WV.tv (wv_or (tv_not (tv_val (ev_isi (T := "list") rfl T.isinstance rfl T.list (by decide +kernel) (by decide) (by decide) (ev_var 4)))) (wv_or1 (tv_not (tv_val (ev_def0 C__law_same (hr.mono (by decide)) rfl (av_cons (ev_callTy c_tuple rfl T.tuple (by decide +kernel) (av_cons (ev_var 4) av_nil)) (av_cons (ev_var 2) av_nil))))))))) (bv_one (sv_ret ev_bl)) bv_nil) (bv_one (sv_app 4 (ev_tup (av_cons ev_str (av_cons ev_int (av_cons ev_int av_nil))))))))) (bv_one (sv_ret ev_bl))))))
end

theorem bd_wires_of : BindsAs "wires_of" s_wires_of ["row"] := fun _ _ _ _ _ _ us hl => by obtain ⟨_, rfl⟩ := len1 hl; exact rfl
theorem bd_inner_row : BindsAs "inner_row" s_inner_row ["row"] := fun _ _ _ _ _ _ us hl => by obtain ⟨_, rfl⟩ := len1 hl; exact rfl
theorem bd_flips : BindsAs "flips" s_flips ["row", "wire"] := fun _ _ _ _ _ _ us hl => by obtain ⟨_, _, rfl⟩ := len2 hl; exact rfl
theorem bd_both_alike : BindsAs "both_alike" s_both_alike ["one", "other", "wire"] := fun _ _ _ _ _ _ us hl => by obtain ⟨_, _, _, rfl⟩ := len3 hl; exact rfl
theorem bd_asks_for : BindsAs "asks_for" s_asks_for ["row", "look", "mark"] := fun _ _ _ _ _ _ us hl => by obtain ⟨_, _, _, rfl⟩ := len3 hl; exact rfl
theorem bd_undone_by : BindsAs "undone_by" s_undone_by ["one", "other"] := fun _ _ _ _ _ _ us hl => by obtain ⟨_, _, rfl⟩ := len2 hl; exact rfl
theorem bd_steps_for_two : BindsAs "steps_for_two" s_steps_for_two ["rows", "p"] := fun _ _ _ _ _ _ us hl => by obtain ⟨_, _, rfl⟩ := len2 hl; exact rfl
theorem bd_swung_row : BindsAs "swung_row" s_swung_row ["row", "wire"] := fun _ _ _ _ _ _ us hl => by obtain ⟨_, _, rfl⟩ := len2 hl; exact rfl
theorem bd_steps_for_three : BindsAs "steps_for_three" s_steps_for_three ["rows", "p"] := fun _ _ _ _ _ _ us hl => by obtain ⟨_, _, rfl⟩ := len2 hl; exact rfl
theorem bd_slides_of : BindsAs "slides_of" s_slides_of ["circuit"] := fun _ _ _ _ _ _ us hl => by obtain ⟨_, rfl⟩ := len1 hl; exact rfl
theorem bd__law_cell : BindsAs "_law_cell" s__law_cell ["script", "k"] := fun _ _ _ _ _ _ us hl => by obtain ⟨_, _, rfl⟩ := len2 hl; exact rfl
theorem bd__law_turn : BindsAs "_law_turn" s__law_turn ["cell", "prime"] := fun _ _ _ _ _ _ us hl => by obtain ⟨_, _, rfl⟩ := len2 hl; exact rfl
theorem bd__law_row : BindsAs "_law_row" s__law_row ["cell", "wires", "looks", "plain"] := fun _ _ _ _ _ _ us hl => by obtain ⟨_, _, _, _, rfl⟩ := len4 hl; exact rfl
theorem bd__law_same : BindsAs "_law_same" s__law_same ["found", "due"] := fun _ _ _ _ _ _ us hl => by obtain ⟨_, _, rfl⟩ := len2 hl; exact rfl
theorem bd__law_often : BindsAs "_law_often" s__law_often ["cells", "wires"] := fun _ _ _ _ _ _ us hl => by obtain ⟨_, _, rfl⟩ := len2 hl; exact rfl
theorem bd__law_kinds : BindsAs "_law_kinds" s__law_kinds ["row"] := fun _ _ _ _ _ _ us hl => by obtain ⟨_, rfl⟩ := len1 hl; exact rfl
theorem bd__law_lets : BindsAs "_law_lets" s__law_lets ["one", "other", "mark"] := fun _ _ _ _ _ _ us hl => by obtain ⟨_, _, _, rfl⟩ := len3 hl; exact rfl
theorem bd__law_marks_ahead : BindsAs "_law_marks_ahead" s__law_marks_ahead ["rows", "place"] := fun _ _ _ _ _ _ us hl => by obtain ⟨_, _, rfl⟩ := len2 hl; exact rfl
theorem bd__law_clear : BindsAs "_law_clear" s__law_clear ["rows", "p", "q"] := fun _ _ _ _ _ _ us hl => by obtain ⟨_, _, _, rfl⟩ := len3 hl; exact rfl
theorem bd__law_undo : BindsAs "_law_undo" s__law_undo ["one", "other"] := fun _ _ _ _ _ _ us hl => by obtain ⟨_, _, rfl⟩ := len2 hl; exact rfl
theorem bd__law_swung : BindsAs "_law_swung" s__law_swung ["row", "wire"] := fun _ _ _ _ _ _ us hl => by obtain ⟨_, _, rfl⟩ := len2 hl; exact rfl
theorem bd__law_fit : BindsAs "_law_fit" s__law_fit ["rows", "step"] := fun _ _ _ _ _ _ us hl => by obtain ⟨_, _, rfl⟩ := len2 hl; exact rfl
theorem bd__law_steps : BindsAs "_law_steps" s__law_steps ["rows"] := fun _ _ _ _ _ _ us hl => by obtain ⟨_, rfl⟩ := len1 hl; exact rfl
theorem bd__law_far : BindsAs "_law_far" s__law_far ["cell"] := fun _ _ _ _ _ _ us hl => by obtain ⟨_, rfl⟩ := len1 hl; exact rfl
theorem all_mk {l : PySem.W.OpenLaw} {w : World} {K : PySem.W.Frag} {h : Heap} {mg : Str → Option Value} {fa f5 f25 t5 : Addr} {od5 an5 od25 an25 td5 : Option Addr} {sl5 sl25 ts5 : Array (Option Value)} {oc5 kV5 dc5 pm5 cd5 ct5 oc25 kV25 dc25 pm25 cd25 ct25 tc5 : Value} {tn5 : Nat} (X : K.In h) (G : h.Ns mainGlobals mg) (hfa : mg "law" = some (.ref fa))
    (D0 : DefIn K "wires_of" "wires_of" s_wires_of)
    (D1 : DefIn K "inner_row" "inner_row" s_inner_row)
    (D2 : DefIn K "flips" "flips" s_flips)
    (D3 : DefIn K "both_alike" "both_alike" s_both_alike)
    (D4 : DefIn K "asks_for" "asks_for" s_asks_for)
    (a5 : PySem.W.nsIn K mainGlobals "lets_by" = some (some (.ref f5))) (l5 : K.lookup f5 = some ⟨oc5, od5, .func (PySem.W.fnOf "lets_by" "lets_by" (defArgs s_lets_by) (defBody s_lets_by) (defScope s_lets_by) (.ref t5) kV5 dc5 pm5 an5 cd5 ct5), sl5⟩) (c5 : PySem.W.codeIn K cd5 "lets_by" = true) (k5 : PySem.W.keepIn K (.ref f5) = true)
    (d5 : K.lookup t5 = some ⟨tc5, td5, .seq #[.none] tn5, ts5⟩)
    (D6 : DefIn K "undone_by" "undone_by" s_undone_by)
    (D7 : DefIn K "steps_for_two" "steps_for_two" s_steps_for_two)
    (D8 : DefIn K "swung_row" "swung_row" s_swung_row)
    (D9 : DefIn K "steps_for_three" "steps_for_three" s_steps_for_three)
    (D10 : DefIn K "slides_of" "slides_of" s_slides_of)
    (D11 : DefIn K "_law_cell" "_law_cell" s__law_cell)
    (D12 : DefIn K "_law_turn" "_law_turn" s__law_turn)
    (D13 : DefIn K "_law_row" "_law_row" s__law_row)
    (D14 : DefIn K "_law_same" "_law_same" s__law_same)
    (D15 : DefIn K "_law_often" "_law_often" s__law_often)
    (D16 : DefIn K "_law_kinds" "_law_kinds" s__law_kinds)
    (D17 : DefIn K "_law_lets" "_law_lets" s__law_lets)
    (D18 : DefIn K "_law_marks_ahead" "_law_marks_ahead" s__law_marks_ahead)
    (D19 : DefIn K "_law_clear" "_law_clear" s__law_clear)
    (D20 : DefIn K "_law_undo" "_law_undo" s__law_undo)
    (D21 : DefIn K "_law_swung" "_law_swung" s__law_swung)
    (D22 : DefIn K "_law_fit" "_law_fit" s__law_fit)
    (D23 : DefIn K "_law_steps" "_law_steps" s__law_steps)
    (D24 : DefIn K "_law_far" "_law_far" s__law_far)
    (a25 : PySem.W.nsIn K mainGlobals "law" = some (some (.ref f25))) (l25 : K.lookup f25 = some ⟨oc25, od25, .func (PySem.W.fnOf "law" "law" (defArgs s_law) (defBody s_law) (defScope s_law) .none kV25 dc25 pm25 an25 cd25 ct25), sl25⟩) (c25 : PySem.W.codeIn K cd25 "law" = true) (k25 : PySem.W.keepIn K (.ref f25) = true)
    (z_min : PySem.W.nsIn K mainGlobals "min" = some none)
    (z_max : PySem.W.nsIn K mainGlobals "max" = some none)
    (z_all : PySem.W.nsIn K mainGlobals "all" = some none)
    (z_range : PySem.W.nsIn K mainGlobals "range" = some none)
    (z_len : PySem.W.nsIn K mainGlobals "len" = some none)
    (z_sorted : PySem.W.nsIn K mainGlobals "sorted" = some none)
    (z_isinstance : PySem.W.nsIn K mainGlobals "isinstance" = some none)
    (z_tuple : PySem.W.nsIn K mainGlobals "tuple" = some none)
    (z_str : PySem.W.nsIn K mainGlobals "str" = some none)
    (z_int : PySem.W.nsIn K mainGlobals "int" = some none)
    (z_bool : PySem.W.nsIn K mainGlobals "bool" = some none)
    (z_list : PySem.W.nsIn K mainGlobals "list" = some none)
    : ∃ fd : FuncData, (∀ (s : Shared) (v : Value), BindsTo s fd ⟨[v], []⟩ [("script", v)]) ∧ ∀ base : Heap, K.In base → base.Ns mainGlobals mg → FnOk l.prog w K mg base CX0 14 fa fd ["script"] (spLaw K) := by
  have e := hfa.symm.trans (PySem.W.mg_of X G a25)
  cases e
  have T : Txt mg := ⟨PySem.W.mg_none_of X G z_min, PySem.W.mg_none_of X G z_max, PySem.W.mg_none_of X G z_all, PySem.W.mg_none_of X G z_range, PySem.W.mg_none_of X G z_len, PySem.W.mg_none_of X G z_sorted, PySem.W.mg_none_of X G z_isinstance, PySem.W.mg_none_of X G z_tuple, PySem.W.mg_none_of X G z_str, PySem.W.mg_none_of X G z_int, PySem.W.mg_none_of X G z_bool, PySem.W.mg_none_of X G z_list⟩
  have F5 := funV_mk (st := s_lets_by) l5 c5 k5
  have F25 := funV_mk (st := s_law) l25 c25 k25
  refine ⟨PySem.W.fnOf "law" "law" (defArgs s_law) (defBody s_law) (defScope s_law) .none kV25 dc25 pm25 an25 cd25 ct25, fun s v => .of_eq rfl, fun base _ _ => ?_⟩
  have C_wires_of : Cal l.prog w K mg base "wires_of" 9 g_wires_of [] := D0.calR X G bd_wires_of fun _ _ F m k b => okr_wires_of F T m k b 8
  have C_inner_row : Cal l.prog w K mg base "inner_row" 1 g_inner_row [] := D1.cal X G bd_inner_row fun _ _ F => ok_inner_row F T
  have C_flips : Cal l.prog w K mg base "flips" 1 g_flips [] := D2.cal X G bd_flips fun _ _ F => ok_flips F T
  have C_both_alike : Cal l.prog w K mg base "both_alike" 2 g_both_alike [] := D3.cal X G bd_both_alike fun _ _ F => ok_both_alike F T C_flips
  have C_asks_for : Cal l.prog w K mg base "asks_for" 1 g_asks_for [] := D4.cal X G bd_asks_for fun _ _ F => ok_asks_for F T
  have O5 : FnOk l.prog w K mg base CX0 10 _ _ _ (spD K g_lets_by) := ok_lets_by F5 T C_asks_for C_wires_of C_both_alike C_inner_row
  have C_lets_by1 : Cal l.prog w K mg base "lets_by" 10 g_lets_by [.none] := ⟨⟨_, _, _, [.none], [.non], O5, PySem.W.mg_of X G a5, k5, F5.bindsK d5 rfl (ps := ["one", "other", "mark"]) 2 rfl (fun _ _ _ _ _ _ us hl => by obtain ⟨_, _, rfl⟩ := len2 hl; exact rfl), .cons (by first | exact ⟨_, rfl⟩ | rfl) (.nil), fun _ => .cons (by constructor) (.nil)⟩⟩
  have C_undone_by : Cal l.prog w K mg base "undone_by" 10 g_undone_by [] := D6.cal X G bd_undone_by fun _ _ F => ok_undone_by F T C_wires_of
  have C_steps_for_two : Cal l.prog w K mg base "steps_for_two" 11 g_steps_for_two [] := D7.cal X G bd_steps_for_two fun _ _ F => ok_steps_for_two F T C_undone_by C_lets_by1
  have C_swung_row : Cal l.prog w K mg base "swung_row" 9 g_swung_row [] := D8.calR X G bd_swung_row fun _ _ F m k b => okr_swung_row F T m k b 8
  have C_steps_for_three : Cal l.prog w K mg base "steps_for_three" 10 g_steps_for_three [] := D9.cal X G bd_steps_for_three fun _ _ F => ok_steps_for_three F T C_swung_row C_wires_of
  have O_slides_of : CalO l.prog w K mg base "slides_of" 12 g_slides_of [] := D10.calO X G bd_slides_of fun _ _ F => oko_slides_of F T C_steps_for_two C_steps_for_three
  have C_slides_of : Cal l.prog w K mg base "slides_of" 12 g_slides_of [] := D10.cal X G bd_slides_of fun _ _ F => ok_slides_of F T C_steps_for_two C_steps_for_three
  have C__law_cell : Cal l.prog w K mg base "_law_cell" 1 g__law_cell [] := D11.cal X G bd__law_cell fun _ _ F => ok__law_cell F T
  have C__law_turn : Cal l.prog w K mg base "_law_turn" 1 g__law_turn [] := D12.cal X G bd__law_turn fun _ _ F => ok__law_turn F T
  have C__law_row : Cal l.prog w K mg base "_law_row" 2 g__law_row [] := D13.cal X G bd__law_row fun _ _ F => ok__law_row F T C__law_turn
  have C__law_same : Cal l.prog w K mg base "_law_same" 9 g__law_same [] := D14.calR X G bd__law_same fun _ _ F m k b => okr__law_same F T m k b 8
  have C__law_often : Cal l.prog w K mg base "_law_often" 3 g__law_often [] := D15.cal X G bd__law_often fun _ _ F => ok__law_often F T C__law_row C__law_turn
  have C__law_kinds : Cal l.prog w K mg base "_law_kinds" 9 g__law_kinds [] := D16.calR X G bd__law_kinds fun _ _ F m k b => okr__law_kinds F T m k b 8
  have C__law_lets : Cal l.prog w K mg base "_law_lets" 10 g__law_lets [] := D17.cal X G bd__law_lets fun _ _ F => ok__law_lets F T C__law_kinds
  have C__law_marks_ahead : Cal l.prog w K mg base "_law_marks_ahead" 1 g__law_marks_ahead [] := D18.cal X G bd__law_marks_ahead fun _ _ F => ok__law_marks_ahead F T
  have C__law_clear : Cal l.prog w K mg base "_law_clear" 11 g__law_clear [] := D19.cal X G bd__law_clear fun _ _ F => ok__law_clear F T C__law_lets C__law_marks_ahead
  have C__law_undo : Cal l.prog w K mg base "_law_undo" 1 g__law_undo [] := D20.cal X G bd__law_undo fun _ _ F => ok__law_undo F T
  have C__law_swung : Cal l.prog w K mg base "_law_swung" 9 g__law_swung [] := D21.calR X G bd__law_swung fun _ _ F m k b => okr__law_swung F T m k b 8
  have C__law_fit : Cal l.prog w K mg base "_law_fit" 12 g__law_fit [] := D22.cal X G bd__law_fit fun _ _ F => ok__law_fit F T C__law_undo C__law_clear C__law_swung C__law_kinds
  have C__law_steps : Cal l.prog w K mg base "_law_steps" 13 g__law_steps [] := D23.cal X G bd__law_steps fun _ _ F => ok__law_steps F T C__law_fit
  have C__law_far : Cal l.prog w K mg base "_law_far" 1 g__law_far [] := D24.cal X G bd__law_far fun _ _ F => ok__law_far F T
  have O25 : FnOk l.prog w K mg base CX0 14 _ _ _ (spD K g_law) := ok_law F25 T C__law_often C__law_far C__law_steps C_slides_of C__law_cell C__law_turn C__law_same O_slides_of
  exact law_v O25 fun ns hl => law_true ns hl

end GN
open PySem PySem.W PyProof.Rows
set_option maxRecDepth 1000000 in
set_option maxHeartbeats 0 in
theorem PySem.Challenge.cw_wavewires_k62_steps_that_fit_holds : PySem.Challenge.rw_wavewires_k62_steps_that_fit.Holds := by
  refine topT ?_
  k_fill
  refine VL.walkV (k := 14) (l := PySem.Challenge.rw_wavewires_k62_steps_that_fit) rfl ⟨rfl, by decide, by decide⟩ rfl (fun w h Y => PySem.W.kIn_of Y) ?F
  case F =>
    intro w mg fa h KX G hmg
    refine' GN.all_mk KX G hmg (VL.DefIn.mk ?a0 ?l0 ?c0 ?k0) (VL.DefIn.mk ?a1 ?l1 ?c1 ?k1) (VL.DefIn.mk ?a2 ?l2 ?c2 ?k2) (VL.DefIn.mk ?a3 ?l3 ?c3 ?k3) (VL.DefIn.mk ?a4 ?l4 ?c4 ?k4) ?a5 ?l5 ?c5 ?k5 ?d5 (VL.DefIn.mk ?a6 ?l6 ?c6 ?k6) (VL.DefIn.mk ?a7 ?l7 ?c7 ?k7) (VL.DefIn.mk ?a8 ?l8 ?c8 ?k8) (VL.DefIn.mk ?a9 ?l9 ?c9 ?k9) (VL.DefIn.mk ?a10 ?l10 ?c10 ?k10) (VL.DefIn.mk ?a11 ?l11 ?c11 ?k11) (VL.DefIn.mk ?a12 ?l12 ?c12 ?k12) (VL.DefIn.mk ?a13 ?l13 ?c13 ?k13) (VL.DefIn.mk ?a14 ?l14 ?c14 ?k14) (VL.DefIn.mk ?a15 ?l15 ?c15 ?k15) (VL.DefIn.mk ?a16 ?l16 ?c16 ?k16) (VL.DefIn.mk ?a17 ?l17 ?c17 ?k17) (VL.DefIn.mk ?a18 ?l18 ?c18 ?k18) (VL.DefIn.mk ?a19 ?l19 ?c19 ?k19) (VL.DefIn.mk ?a20 ?l20 ?c20 ?k20) (VL.DefIn.mk ?a21 ?l21 ?c21 ?k21) (VL.DefIn.mk ?a22 ?l22 ?c22 ?k22) (VL.DefIn.mk ?a23 ?l23 ?c23 ?k23) (VL.DefIn.mk ?a24 ?l24 ?c24 ?k24) ?a25 ?l25 ?c25 ?k25 ?z_min ?z_max ?z_all ?z_range ?z_len ?z_sorted ?z_isinstance ?z_tuple ?z_str ?z_int ?z_bool ?z_list
    (case a0 => k_is)
    (case l0 => k_is)
    (case c0 => k_is)
    (case k0 => k_is)
    (case a1 => k_is)
    (case l1 => k_is)
    (case c1 => k_is)
    (case k1 => k_is)
    (case a2 => k_is)
    (case l2 => k_is)
    (case c2 => k_is)
    (case k2 => k_is)
    (case a3 => k_is)
    (case l3 => k_is)
    (case c3 => k_is)
    (case k3 => k_is)
    (case a4 => k_is)
    (case l4 => k_is)
    (case c4 => k_is)
    (case k4 => k_is)
    (case a5 => k_is)
    (case l5 => k_is)
    (case c5 => k_is)
    (case k5 => k_is)
    (case d5 => k_is)
    (case a6 => k_is)
    (case l6 => k_is)
    (case c6 => k_is)
    (case k6 => k_is)
    (case a7 => k_is)
    (case l7 => k_is)
    (case c7 => k_is)
    (case k7 => k_is)
    (case a8 => k_is)
    (case l8 => k_is)
    (case c8 => k_is)
    (case k8 => k_is)
    (case a9 => k_is)
    (case l9 => k_is)
    (case c9 => k_is)
    (case k9 => k_is)
    (case a10 => k_is)
    (case l10 => k_is)
    (case c10 => k_is)
    (case k10 => k_is)
    (case a11 => k_is)
    (case l11 => k_is)
    (case c11 => k_is)
    (case k11 => k_is)
    (case a12 => k_is)
    (case l12 => k_is)
    (case c12 => k_is)
    (case k12 => k_is)
    (case a13 => k_is)
    (case l13 => k_is)
    (case c13 => k_is)
    (case k13 => k_is)
    (case a14 => k_is)
    (case l14 => k_is)
    (case c14 => k_is)
    (case k14 => k_is)
    (case a15 => k_is)
    (case l15 => k_is)
    (case c15 => k_is)
    (case k15 => k_is)
    (case a16 => k_is)
    (case l16 => k_is)
    (case c16 => k_is)
    (case k16 => k_is)
    (case a17 => k_is)
    (case l17 => k_is)
    (case c17 => k_is)
    (case k17 => k_is)
    (case a18 => k_is)
    (case l18 => k_is)
    (case c18 => k_is)
    (case k18 => k_is)
    (case a19 => k_is)
    (case l19 => k_is)
    (case c19 => k_is)
    (case k19 => k_is)
    (case a20 => k_is)
    (case l20 => k_is)
    (case c20 => k_is)
    (case k20 => k_is)
    (case a21 => k_is)
    (case l21 => k_is)
    (case c21 => k_is)
    (case k21 => k_is)
    (case a22 => k_is)
    (case l22 => k_is)
    (case c22 => k_is)
    (case k22 => k_is)
    (case a23 => k_is)
    (case l23 => k_is)
    (case c23 => k_is)
    (case k23 => k_is)
    (case a24 => k_is)
    (case l24 => k_is)
    (case c24 => k_is)
    (case k24 => k_is)
    (case a25 => k_is)
    (case l25 => k_is)
    (case c25 => k_is)
    (case k25 => k_is)
    (case z_min => k_is)
    (case z_max => k_is)
    (case z_all => k_is)
    (case z_range => k_is)
    (case z_len => k_is)
    (case z_sorted => k_is)
    (case z_isinstance => k_is)
    (case z_tuple => k_is)
    (case z_str => k_is)
    (case z_int => k_is)
    (case z_bool => k_is)
    (case z_list => k_is)
