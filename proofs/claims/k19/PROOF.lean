import PyProof.Rows.All
import Wide.All
import OpenK.AllK
import Wide.FinOn
import Lean
import PyProof.EqAt
import PyProof.EqKinds
import PyProof.TupleCall
import PyProof.ExcClass3
import PyProof.ExcInit
import PyProof.InstStore
import PyProof.InstLoad
import PyProof.InstStoreFacts
import PyProof.StrBlockG
import PySem.Challenge.RW_wavewires_k19_texts_refused
section TopS
set_option Elab.async false
set_option linter.all false
open PySem PySem.W PyProof.Rows
def viewQ : Program := view PySem.Challenge.rw_wavewires_k19_texts_refused.prog [1, 2, 3, 4, 5, 6, 7, 8, 9, 11, 12, 13, 14, 15, 16, 17, 18, 20, 21, 22, 23, 24, 25, 26, 27, 28, 29, 30, 31]
local macro_rules
  | `(tactic| o_head $H) => do
    let hw := Lean.mkIdent `hw
    let hc := Lean.mkIdent `hc
    `(tactic| refine holds_open (q := viewQ) (loose := []) (Xt := fun s => xlAt viewQ [] s && recOk (RowW.records (OpenRow.toRowW PySem.Challenge.rw_wavewires_k19_texts_refused.row)) s) (XP := XL viewQ []) (Yf := Hook.obs $H) (Ya := Hook.val $H) (YP := Hook.says $H) (N := 6000) (fun w => by (unfold openEnds fencedOpening topFrom; rw [Fast.te10274390034422433532, Fast.te14082659384304107361, Fast.te1435165496053646825, Fast.te14289696077712309145, Fast.te14364793385576792824, Fast.te4187177175401517315, Fast.te5923862056798008813]; kernel_rfl)) (Hook.of $H) (Hook.keeps $H) (fun s e => xl_of s (Bool.and_eq_true_iff.mp e).1) XL.keeps (by rfl) (by rfl) (by rfl) (fun s e => recFacts_of (Bool.and_eq_true_iff.mp e).2) (by rfl) (by first | assumption | decide +kernel) (by decide +kernel) ⟨rfl, rfl, rfl, rfl, rfl, by decide +kernel⟩ ?$hw ?$hc)
set_option maxRecDepth 1000000 in
set_option maxHeartbeats 0 in
open_top topT for PySem.Challenge.rw_wavewires_k19_texts_refused
end TopS

set_option Elab.async false
set_option linter.all false
set_option maxRecDepth 100000
/-! THE HAND LAYER, for ints, bools, texts, own classes, LISTS and tuples (index, slices, in, append, pop ..), calls, loops. Paste it whole ahead of your own text; what your proof does not reach may be deleted. -/
namespace L2
open PySem PySem.Spec PyProof.Rows

/-- a key: an int or a str -/
abbrev Key := Sum Int Str
def keyIs : Key → Value → Bool
  | .inl k, v => Value.isInt k v
  | .inr x, v => Value.isStrOf x v
def keyH (w : World) : Key → Int
  | .inl k => hashInt k
  | .inr x => hashStr w x
theorem keyIs_shape : ∀ {k : Key} {v : Value}, keyIs k v = true → (∃ i t, k = Sum.inl i ∧ v = Value.int i t) ∨ (∃ x t, k = Sum.inr x ∧ v = Value.str x t)
  | .inl i, v, h => by
    obtain ⟨t, e⟩ := Value.isInt_shape (k := i) (v := v) h
    exact .inl ⟨i, t, rfl, e⟩
  | .inr x, v, h => by
    obtain ⟨t, e⟩ := Value.isStrOf_shape (x := x) (v := v) h
    exact .inr ⟨x, t, rfl, e⟩
theorem keyIs_int (i : Int) (t : Tok) : keyIs (.inl i) (.int i t) = true := by simp [keyIs, Value.isInt]
theorem keyIs_str (x : Str) (t : Tok) : keyIs (.inr x) (.str x t) = true := by simp [keyIs, Value.isStrOf]
theorem key_ll (a b : Int) : decide ((Sum.inl a : Key) = Sum.inl b) = (a == b) := by
  by_cases e : a = b
  · subst e; simp
  · have h : ¬ (Sum.inl a : Key) = Sum.inl b := fun q => e (Sum.inl.inj q)
    rw [decide_eq_false h]
    exact (beq_eq_false_iff_ne.mpr e).symm
theorem key_rr (a b : Str) : decide ((Sum.inr a : Key) = Sum.inr b) = decide (a = b) := by
  by_cases e : a = b
  · subst e; simp
  · have h : ¬ (Sum.inr a : Key) = Sum.inr b := fun q => e (Sum.inr.inj q)
    rw [decide_eq_false h, decide_eq_false e]
theorem key_lr (a : Int) (b : Str) : decide ((Sum.inl a : Key) = Sum.inr b) = false := decide_eq_false (fun q => nomatch q)
theorem key_rl (a : Str) (b : Int) : decide ((Sum.inr a : Key) = Sum.inl b) = false := decide_eq_false (fun q => nomatch q)

def mixKind (prog : Program) (w : World) : PySem.KeyKind prog w Key where
  is := keyIs
  hash := keyH w
  inj := fun v a b ha hb => by
    rcases keyIs_shape ha with ⟨i, t, rfl, rfl⟩ | ⟨x, t, rfl, rfl⟩
    · rcases keyIs_shape hb with ⟨j, u, rfl, e⟩ | ⟨y, u, rfl, e⟩
      · injection e with e1 _; rw [e1]
      · exact nomatch e
    · rcases keyIs_shape hb with ⟨j, u, rfl, e⟩ | ⟨y, u, rfl, e⟩
      · exact nomatch e
      · injection e with e1 _; rw [e1]
  byValue := fun k v h => by
    rcases keyIs_shape h with ⟨i, t, rfl, rfl⟩ | ⟨x, t, rfl, rfl⟩ <;> rfl
  pyHash := fun hv h => by
    rcases keyIs_shape hv with ⟨i, t, rfl, rfl⟩ | ⟨x, t, rfl, rfl⟩
    · exact wpAny_pyHash_int h
    · exact wpAny_pyHash_str h
  eqBool := fun hu hv h => by
    rcases keyIs_shape hu with ⟨i, t, rfl, rfl⟩ | ⟨x, t, rfl, rfl⟩
    · rcases keyIs_shape hv with ⟨j, u, rfl, rfl⟩ | ⟨y, u, rfl, rfl⟩
      · rw [key_ll] at h; exact wpAny_eqBool_int h
      · rw [key_lr] at h; exact SeqAt.EqAt.int_str i t y u _ _ _ _ h
    · rcases keyIs_shape hv with ⟨j, u, rfl, rfl⟩ | ⟨y, u, rfl, rfl⟩
      · rw [key_rl] at h; exact SeqAt.EqAt.str_int x t j u _ _ _ _ h
      · rw [key_rr] at h; exact wpAny_eqBool_str h
  «strs» := fun k x t v h => by
    rcases keyIs_shape h with ⟨i, u, rfl, e⟩ | ⟨y, u, rfl, e⟩
    · exact nomatch e
    · injection e with e1 _
      subst e1
      cases v <;> rfl

theorem mixKind_int (prog : Program) (w : World) (i : Int) (t : Tok) : (mixKind prog w).is (.inl i) (.int i t) = true := keyIs_int i t
theorem mixKind_str (prog : Program) (w : World) (x : Str) (t : Tok) : (mixKind prog w).is (.inr x) (.str x t) = true := keyIs_str x t
end L2

namespace L2
open PySem PySem.Spec PyProof.Rows

/-- a value, without the heap -/
inductive V where
  | non | bl (b : Bool) | int (i : Int) | str (x : Str) | byt (b : Array UInt8) | flt (b : UInt64) | ref (a : Addr) | ty (n : String)
  deriving DecidableEq

def RelV : V → Value → Prop
  | .non, u => u = Value.none
  | .bl b, u => u = Value.bool b
  | .int i, u => ∃ t, u = Value.int i t
  | .str x, u => ∃ t, u = Value.str x t
  | .byt b, u => ∃ t, u = Value.bytes b t
  | .flt b, u => ∃ t, u = Value.float b t
  | .ref a, u => u = Value.ref a
  | .ty n, u => u = Value.type n

abbrev Vals : List V → List Value → Prop := Paired RelV
theorem Vals.length {xs : List V} {us : List Value} (r : Vals xs us) : xs.length = us.length := Paired.length r
theorem Vals.get : ∀ {xs : List V} {us : List Value} {i : Nat} {x : V}, Vals xs us → xs[i]? = some x → ∃ u, us[i]? = some u ∧ RelV x u
  | _, _, _, _, .nil, e => by simp at e
  | _, _, 0, _, .cons r _, e => by simp at e; subst e; exact ⟨_, rfl, r⟩
  | _, _, i + 1, x, .cons _ t, e => by
    obtain ⟨u, h1, h2⟩ := Vals.get (i := i) (x := x) t (by simpa using e)
    exact ⟨u, by simpa using h1, h2⟩
theorem Vals.append : ∀ {xs ys : List V} {us ws : List Value}, Vals xs us → Vals ys ws → Vals (xs ++ ys) (us ++ ws)
  | _, _, _, _, .nil, s => s
  | _, _, _, _, .cons r t, s => .cons r (Vals.append t s)
theorem Vals.take : ∀ {xs : List V} {us : List Value} (n : Nat), Vals xs us → Vals (xs.take n) (us.take n)
  | _, _, 0, _ => .nil
  | _, _, _ + 1, .nil => .nil
  | _, _, n + 1, .cons r t => .cons r (Vals.take n t)
theorem Vals.drop : ∀ {xs : List V} {us : List Value} (n : Nat), Vals xs us → Vals (xs.drop n) (us.drop n)
  | _, _, 0, r => r
  | _, _, _ + 1, .nil => .nil
  | _, _, n + 1, .cons _ t => Vals.drop n t
def RelO : Option V → Option Value → Prop
  | some v, some u => RelV v u
  | none, none => True
  | _, _ => False
def KV {κ : Type} : List (κ × V) → List (κ × Value) → Prop := Paired fun (p : κ × V) (q : κ × Value) => p.1 = q.1 ∧ RelV p.2 q.2

/-- a key of a dict (00_mix): an int or a text -/
def kV : Key → V
  | .inl i => .int i
  | .inr x => .str x

/-- what stands at a tracked address -/
inductive HO where
  /-- a list -/
  | lst (xs : List V)
  /-- a tuple (never changes) -/
  | tup (xs : List V)
  /-- a dict whose keys are ints and texts; one whose keys are tuples of ints and texts (the empty one is both) -/
  | dK (kvs : List (Key × V)) | dT (kvs : List (List Key × V))
  /-- a set of ints: its members, its size -/
  | set (S : Int → Bool) (n : Nat)
  /-- an instance of the class at C, its dict at dx, its attributes -/
  | ins (C dx : Addr) (fs : List (Str × V))
  /-- the dict of the instance at x -/
  | own (x : Addr)
  /-- the dict of an exception -/
  | xd (fs : List (Str × V))
  /-- a bound method, f of x -/
  | met (f x : Addr)
  /-- a range object lo, lo + 1, .. below hi -/
  | rng (lo hi : Int)
  /-- a thing that is known to the object (the script; a dict while a loop walks it): read, never written while it is so -/
  | frz (o : Obj) (u : HO)
  /-- a code object's table -/
  | tbl (ps : Array Value)
  /-- any other thing, by what is true of its one object (a def of one's own: SetO a S n := HO.ext fun h => ..) -/
  | ext (φ : Heap → Prop)

abbrev Hp := Addr → Option HO
def upd (H : Hp) (a : Addr) (o : HO) : Hp := fun b => if b = a then some o else H b
theorem upd_same {H : Hp} {a : Addr} {o : HO} : upd H a o a = some o := by unfold upd; rw [if_pos rfl]
theorem upd_ne {H : Hp} {a b : Addr} {o : HO} (h : b ≠ a) : upd H a o b = H b := by unfold upd; rw [if_neg h]
/-- two objects of different content stand apart -/
theorem ne_of {H : Hp} {a b : Addr} {o u : HO} (h : H a = some o) (h' : H b = some u) (d : o ≠ u) : a ≠ b := by
  intro e; subst e; rw [h] at h'; exact d (Option.some.inj h')
theorem ne_of_none {H : Hp} {a b : Addr} {o : HO} (h : H a = some o) (h' : H b = none) : a ≠ b := by
  intro e; subst e; rw [h] at h'; cases h'

section
variable (P : Program) (w : World)
/-- an object without a namespace of its own -/
def NoDi (h : Heap) (a : Addr) : Prop := ∃ o, h.get? a = some o ∧ o.dict = none
theorem NoDi.new (h : Heap) (o : Obj) (e : o.dict = none := by rfl) (f : o.isFreed = false := by rfl) : NoDi (h.push o) h.objs.size := ⟨o, Heap.get?_push_size h f, e⟩
def ObjOk (H : Hp) (h : Heap) (a : Addr) : HO → Prop
  | .lst xs => xs.length ≤ sizeLine ∧ ∃ (its : List Value) (n : Nat), Vals xs its ∧ h.get? a = some { cls := .type "list", data := .seq its.toArray n }
  | .tup xs => xs.length ≤ sizeLine ∧ ∃ its : List Value, Vals xs its ∧ IsTup h a its.toArray ∧ NoDi h a
  | .dK kvs => kvs.length ≤ sizeLine ∧ (a == sysModules) = false ∧ ∃ vs, KV kvs vs ∧ h.DictOf (mixKind P w) a vs
  | .dT kvs => kvs.length ≤ sizeLine ∧ (a == sysModules) = false ∧ ∃ xs : List (List Key × Addr × Value),
      Paired (fun (p : List Key × V) (q : List Key × Addr × Value) => p.1 = q.1 ∧ H q.2.1 = some (.tup (p.1.map kV)) ∧ RelV p.2 q.2.2) kvs xs ∧
      ∃ o es ep, h.get? a = some o ∧ o.ExactDict ∧ o.data = .dict es ep ∧ es.toList = xs.map (entryOfKey (tupleKind (mixKind P w))) ∧ (xs.map (·.1)).Nodup
  | .set S n => h.SetOf (intKind P w) a S n
  | .ins C dx fs => H dx = some (.own a) ∧ fs.length ≤ 1000 ∧ dx ≠ a ∧ h.get? a = some (PySem.W.instObj C dx) ∧
      ∃ mA, h.Ns1 dx mA ∧ (∀ f, RelO (fs.lookup f) (mA f)) ∧ PySem.Within mA (fs.map (·.1))
  | .own _ => ∃ o, h.get? a = some o
  | .xd fs => ∃ mA, h.Ns1 a mA ∧ ∀ f, RelO (fs.lookup f) (mA f)
  | .rng lo hi => ∃ t u v, h.get? a = some { cls := .type "range", data := .fields #[.int lo t, .int hi u, .int 1 v] }
  | .frz o u => h.get? a = some o ∧ ObjOk H h a u
  | .tbl ps => h.get? a = some { cls := .none, data := .fields ps }
  | .met f x => h.get? a = some (PySem.W.methodObj (.ref f) (.ref x))
  | .ext φ => φ h ∧ (∃ o, h.get? a = some o) ∧ ∀ h1 h2 : Heap, φ h1 → (∀ o, h1.get? a = some o → h2.get? a = some o) → φ h2
/-- the abstract heap is held -/
def HOk (H : Hp) (h : Heap) : Prop := ∀ a o, H a = some o → ObjOk P w H h a o
end

section
variable {P : Program} {w : World} {H H' : Hp} {h h' : Heap} {a : Addr} {o : HO}
theorem ObjOk.lt (x : ObjOk P w H h a o) : a < h.objs.size := by
  cases o with
  | lst xs => obtain ⟨_, _, _, _, e⟩ := x; exact Heap.lt_size e
  | tup xs => obtain ⟨_, _, _, p⟩ := x; exact p.1.lt
  | dK kvs => obtain ⟨_, _, _, _, o, _, _, e, _⟩ := x; exact Heap.lt_size e
  | dT kvs => obtain ⟨_, _, _, _, o, _, _, e, _⟩ := x; exact Heap.lt_size e
  | set S n => obtain ⟨o, _, _, _, e, _⟩ := x; exact Heap.lt_size e
  | ins C dx fs => obtain ⟨_, _, _, e, _⟩ := x; exact Heap.lt_size e
  | own y => obtain ⟨_, e⟩ := x; exact Heap.lt_size e
  | xd fs => obtain ⟨_, ⟨_, _, _, e, _⟩, _⟩ := x; exact Heap.lt_size e
  | rng lo hi => obtain ⟨_, _, _, e⟩ := x; exact Heap.lt_size e
  | frz ob u => obtain ⟨e, _⟩ := x; exact Heap.lt_size e
  | tbl ps => exact Heap.lt_size (show h.get? a = some _ from x)
  | met f y => exact Heap.lt_size (show h.get? a = some _ from x)
  | ext φ => obtain ⟨_, ⟨_, e⟩, _⟩ := x; exact Heap.lt_size e
theorem Paired.mapP {α β : Type} {F G : α → β → Prop} : ∀ {l₁ : List α} {l₂ : List β}, Paired F l₁ l₂ → (∀ a b, F a b → G a b) → Paired G l₁ l₂
  | _, _, .nil, _ => .nil
  | _, _, .cons r t, f => .cons (f _ _ r) (Paired.mapP t f)
/-- what an object's description leans on: its own object, its own dict, the tuples -/
theorem ObjOk.stay (x : ObjOk P w H h a o) (k : ∀ b u, (b = a ∨ H b = some (.own a)) → h.get? b = some u → h'.get? b = some u)
    (ho : ∀ b, H b = some (.own a) → H' b = some (.own a)) (ht : ∀ b xs, H b = some (.tup xs) → H' b = some (.tup xs)) : ObjOk P w H' h' a o := by
  induction o with
  | lst xs => obtain ⟨z, its, n, r, e⟩ := x; exact ⟨z, its, n, r, k _ _ (.inl rfl) e⟩
  | tup xs => obtain ⟨z, its, r, ⟨ob, e, c⟩, od, e', c'⟩ := x; exact ⟨z, its, r, ⟨ob, k _ _ (.inl rfl) e, c⟩, od, k _ _ (.inl rfl) e', c'⟩
  | dK kvs => obtain ⟨z, y, vs, r, ob, es, ep, e, c⟩ := x; exact ⟨z, y, vs, r, ob, es, ep, k _ _ (.inl rfl) e, c⟩
  | dT kvs =>
    obtain ⟨z, y, xs, r, ob, es, ep, e, c⟩ := x
    exact ⟨z, y, xs, Paired.mapP r fun p q z => ⟨z.1, ht _ _ z.2.1, z.2.2⟩, ob, es, ep, k _ _ (.inl rfl) e, c⟩
  | set S n => obtain ⟨ob, es, ep, t, e, c⟩ := x; exact ⟨ob, es, ep, t, k _ _ (.inl rfl) e, c⟩
  | ins C dx fs =>
    obtain ⟨d, z, ne, e, mA, ⟨od, es, ep, e2, c⟩, r⟩ := x
    exact ⟨ho _ d, z, ne, k _ _ (.inl rfl) e, mA, ⟨od, es, ep, k _ _ (.inr d) e2, c⟩, r⟩
  | own y => obtain ⟨ob, e⟩ := x; exact ⟨ob, k _ _ (.inl rfl) e⟩
  | xd fs => obtain ⟨mA, ⟨od, es, ep, e, c⟩, r⟩ := x; exact ⟨mA, ⟨od, es, ep, k _ _ (.inl rfl) e, c⟩, r⟩
  | rng lo hi => obtain ⟨t, u, v, e⟩ := x; exact ⟨t, u, v, k _ _ (.inl rfl) e⟩
  | frz ob u ih => obtain ⟨e, q⟩ := x; exact ⟨k _ _ (.inl rfl) e, ih q⟩
  | tbl ps =>
    have e : h.get? a = some { cls := .none, data := .fields ps } := x
    show h'.get? a = some { cls := .none, data := .fields ps }
    exact k a _ (.inl rfl) e
  | met f y =>
    have e : h.get? a = some (PySem.W.methodObj (.ref f) (.ref y)) := x
    show h'.get? a = some (PySem.W.methodObj (.ref f) (.ref y))
    exact k a _ (.inl rfl) e
  | ext φ => obtain ⟨p, ⟨o, e⟩, st⟩ := x; exact ⟨st _ _ p fun o q => k _ _ (.inl rfl) q, ⟨o, k _ _ (.inl rfl) e⟩, st⟩
theorem HOk.lt (x : HOk P w H h) (e : H a = some o) : a < h.objs.size := (x a o e).lt
theorem HOk.fresh (x : HOk P w H h) (e : h.objs.size ≤ a) : H a = none := by
  cases q : H a with
  | none => rfl
  | some u => exact absurd (Nat.lt_of_lt_of_le (x.lt q) e) (Nat.lt_irrefl _)
/-- every object of the heap is kept -/
theorem HOk.kept (x : HOk P w H h) (k : ∀ b u, h.get? b = some u → h'.get? b = some u) : HOk P w H h' := fun a o e =>
  (x a o e).stay (fun b u _ q => k b u q) (fun _ q => q) fun _ _ q => q
/-- a new object is laid and tracked -/
theorem HOk.laid (x : HOk P w H h) (k : ∀ b u, h.get? b = some u → h'.get? b = some u) (hp : h.objs.size ≤ a) (new : ObjOk P w (upd H a o) h' a o) : HOk P w (upd H a o) h' := fun b u e => by
  have hn := x.fresh hp
  by_cases hb : b = a
  · subst hb; rw [upd_same] at e; cases e; exact new
  · rw [upd_ne hb] at e
    exact (x b u e).stay (fun c v _ q => k c v q) (fun c q => by rw [upd_ne (ne_of_none q hn)]; exact q) fun c xs q => by rw [upd_ne (ne_of_none q hn)]; exact q
end

/-- what may be read as u: it is u, or a known u -/
def Rd (H : Hp) (a : Addr) (u : HO) : Prop := H a = some u ∨ ∃ o, H a = some (.frz o u)
theorem Rd.ok {P : Program} {w : World} {H : Hp} {h : Heap} {a : Addr} {u : HO} (r : Rd H a u) (x : HOk P w H h) : ObjOk P w H h a u := by
  rcases r with r | ⟨o, r⟩
  · exact x a u r
  · obtain ⟨_, q⟩ := x a _ r
    exact q
/-- what may be written -/
def Mut : Option HO → Prop
  | some (.lst _) => True
  | some (.dK _) => True
  | some (.dT _) => True
  | some (.set _ _) => True
  | some (.ins _ _ _) => True
  | some (.ext _) => True
  | _ => False
section
variable {P : Program} {w : World} {H : Hp} {h h' : Heap} {x e : Addr} {o' : HO}
/-- the object at e is changed: x itself, or the dict of the instance x -/
theorem HOk.write (ok : HOk P w H h) (mu : Mut (H x)) (he : e = x ∨ H e = some (.own x)) (k : ∀ b u, b ≠ e → h.get? b = some u → h'.get? b = some u) (heo : ∃ u, h'.get? e = some u)
    (new : ObjOk P w (upd H x o') h' x o') : HOk P w (upd H x o') h' := fun b u q => by
  have nown : ∀ c y, H c = some (.own y) → c ≠ x := fun c y r z => by subst z; rw [r] at mu; exact mu
  have ntup : ∀ c xs, H c = some (.tup xs) → c ≠ x := fun c xs r z => by subst z; rw [r] at mu; exact mu
  by_cases hb : b = x
  · subst hb; rw [upd_same] at q; cases q; exact new
  · rw [upd_ne hb] at q
    by_cases hbe : b = e
    · have q' : H b = some (.own x) := by
        rcases he with z | z
        · exact absurd (hbe.trans z) hb
        · rw [hbe]; exact z
      rw [q] at q'; cases q'
      obtain ⟨v, hv⟩ := heo
      exact ⟨v, by rw [hbe]; exact hv⟩
    · refine (ok b u q).stay (fun c v hc r => k c v ?_ r) (fun c r => by rw [upd_ne (nown c b r)]; exact r) fun c xs r => by rw [upd_ne (ntup c xs r)]; exact r
      rcases hc with rfl | hc
      · exact hbe
      · rintro rfl
        rcases he with z | z
        · exact nown c b hc z
        · rw [hc] at z; cases z; exact hb rfl
end

/-! ### kept unless tracked; of the frames at fs (the callers') the slots may change (an exception that passes writes there); of the records at ex (iterators) nothing is said -/
structure Un (fs ex : List Addr) (H H' : Hp) (h h' : Heap) : Prop where
  keep : ∀ b o, h.get? b = some o → H b = none → b ∉ fs → b ∉ ex → h'.get? b = some o
  slot : ∀ b o, h.get? b = some o → H b = none → b ∈ fs → b ∉ ex → ∃ sl, h'.get? b = some { o with slots := sl }
  free : ∀ b o, h.get? b = some o → H b = none → b ∉ ex → H' b = none
  there : ∀ b o, h.get? b = some o → b ∉ ex → ∃ o', h'.get? b = some o'
  tups : ∀ b xs, H b = some (.tup xs) → H' b = some (.tup xs)
  frzs : ∀ b o u, H b = some (.frz o u) → H' b = some (.frz o u)
  tbls : ∀ b ps, H b = some (.tbl ps) → ∃ more, H' b = some (.tbl (ps ++ more))
section
variable {fs fs' ex ex' : List Addr} {H H1 H2 : Hp} {h h1 h2 h' : Heap} {a x e : Addr} {o : HO}
theorem Un.any (u : Un fs ex H H1 h h1) {b : Addr} {ob : Obj} (q : h.get? b = some ob) (n : H b = none) (hx : b ∉ ex) : ∃ sl, h1.get? b = some { ob with slots := sl } := by
  by_cases hb : b ∈ fs
  · exact u.slot b ob q n hb hx
  · exact ⟨ob.slots, u.keep b ob q n hb hx⟩
theorem Un.kept (k : ∀ b u, h.get? b = some u → h'.get? b = some u) : Un fs ex H H h h' :=
  ⟨fun b ob q _ _ _ => k b ob q, fun b ob q _ _ _ => ⟨ob.slots, k b ob q⟩, fun _ _ _ n _ => n, fun b ob q _ => ⟨ob, k b ob q⟩, fun _ _ q => q, fun _ _ _ q => q, fun _ ps q => ⟨#[], by rw [q]; simp⟩⟩
theorem Un.refl : Un fs ex H H h h := Un.kept fun _ _ q => q
theorem Un.laid (k : ∀ b u, h.get? b = some u → h'.get? b = some u) (hp : h.objs.size ≤ a) (hn : H a = none) : Un fs ex H (upd H a o) h h' where
  keep := fun b u q _ _ _ => k b u q
  slot := fun b u q _ _ _ => ⟨u.slots, k b u q⟩
  free := fun b u q n _ => by rw [upd_ne (Nat.ne_of_lt (Nat.lt_of_lt_of_le (Heap.lt_size q) hp))]; exact n
  there := fun b u q _ => ⟨u, k b u q⟩
  tups := fun b xs q => by rw [upd_ne (ne_of_none q hn)]; exact q
  frzs := fun b u xs q => by rw [upd_ne (ne_of_none q hn)]; exact q
  tbls := fun b ps q => ⟨#[], by rw [upd_ne (ne_of_none q hn), q]; simp⟩
theorem Un.write (mu : Mut (H x)) (he : e = x ∨ H e = some (.own x)) (k : ∀ b u, b ≠ e → h.get? b = some u → h'.get? b = some u) (heo : ∃ u, h'.get? e = some u) : Un fs ex H (upd H x o) h h' := by
  have hx : ∀ b, H b = none → b ≠ x := fun b n z => by subst z; rw [n] at mu; exact mu
  have hb : ∀ b, H b = none → b ≠ e := fun b n z => by
    subst z
    rcases he with r | r
    · exact hx b n r
    · rw [n] at r; cases r
  have hm : ∀ b u, H b = some u → ¬ Mut (some u) → b ≠ x := fun b u q nm z => by subst z; rw [q] at mu; exact nm mu
  refine ⟨fun b u q n _ _ => k b u (hb b n) q, fun b u q n _ _ => ⟨u.slots, k b u (hb b n) q⟩, fun b u q n _ => by rw [upd_ne (hx b n)]; exact n, fun b u q _ => ?_,
    fun b xs q => by rw [upd_ne (hm b _ q fun z => z)]; exact q, fun b u xs q => by rw [upd_ne (hm b _ q fun z => z)]; exact q, fun b ps q => ⟨#[], by rw [upd_ne (hm b _ q fun z => z), q]; simp⟩⟩
  by_cases hbe : b = e
  · subst hbe; exact heo
  · exact ⟨u, k b u hbe q⟩
end

/-! ### the heap without what is tracked -/
def trk (h : Heap) (H : Hp) : List Addr := (List.range h.objs.size).filter fun a => (H a).isSome
def hidT (h : Heap) (H : Hp) : Heap := PySem.W.hideAll h (trk h H)
theorem hidT_size (h : Heap) (H : Hp) : (hidT h H).objs.size = h.objs.size := PySem.W.hideAll_size _ _
theorem hidT_get {h : Heap} {H : Hp} {b : Addr} {o : Obj} (e : h.get? b = some o) (n : H b = none) : (hidT h H).get? b = some o :=
  PySem.W.hideAll_get _ e fun hm => by
    have q : (H b).isSome = true := (List.mem_filter.mp hm).2
    rw [n] at q; simp at q
theorem of_hidT {h : Heap} {H : Hp} {b : Addr} {o : Obj} (e : (hidT h H).get? b = some o) : h.get? b = some o ∧ H b = none := by
  have e' : h.get? b = some o := PySem.W.of_hideAll (trk h H) e
  refine ⟨e', ?_⟩
  cases q : H b with
  | none => rfl
  | some x =>
    have hm : b ∈ trk h H := List.mem_filter.mpr ⟨List.mem_range.mpr (Heap.lt_size e'), by simp [q]⟩
    have z : (hidT h H).get? b = none := PySem.W.hideAll_none (trk h H) hm
    rw [z] at e; cases e

/-! ### OpenK's ledger, filled with every new object but one -/
def allNews (g h : Heap) (L : Addr) : List (Addr × Obj) := (List.range h.objs.size).filterMap fun a => if a = L ∨ (g.get? a).isSome = true then none else (h.get? a).map fun o => (a, o)
def rest (g h : Heap) (L d : Addr) : List (Addr × Obj) := (allNews g h L).filter fun p => decide (p.1 ≠ d)
end L2

namespace L2
open PySem PySem.Spec PyProof.Rows

/-- the module's facts, over the base: the heap at the law's entry without what is tracked there -/
structure Mod (K : PySem.W.Frag) (mg : Str → Option Value) (base : Heap) : Prop where
  kin : K.In base
  glob : base.Ns mainGlobals mg
  blt : ∃ mb, base.Ns builtinsNs mb ∧ ∀ x : Str, x ≠ "__name__" → mb x = bootBuiltins x
  nolimit : base.NoLimit

/-- the context: a def's body (or a comprehension's block) running. base: fixed through the whole law; s₀, H₀: the entry; outer: the frames whose slots others may change (a def's callers); stack: all frames that run;
   ex: iterators that were made ahead of the entry and are walked here (a comprehension's); fn: the names whose cells were made at the entry (a def: all; a comprehension's block: its own); calm: not within an except suite; pn: pins that every state bears; xe: what is wanted of an exception that leaves the code -/
structure Cx where
  prog : Program
  w : World
  K : PySem.W.Frag
  mg : Str → Option Value
  base : Heap
  A : Around
  N : List Str
  s₀ : Shared
  H₀ : Hp
  env : Env
  outer : List Env
  stack : List Env
  ex : List Addr
  fn : Str → Bool
  calm : Bool
  pn : List (Addr × Obj)
  xe : Value → Shared → Prop
/-- the callers' frames -/
def frs (l : List Env) : List Addr := l.filterMap (·.frame)
abbrev Cx.fs (X : Cx) : List Addr := frs X.outer

def Vis (sc : Scope) (x : Str) : Prop := sc.names.lookup x = some .local ∨ sc.names.lookup x = some .cell ∨ sc.names.lookup x = some .free
def Loc (sc : Scope) (x : Str) : Prop := sc.names.lookup x = some .local ∨ sc.names.lookup x = some .cell
def Look (env : Env) (h : Heap) (m : Str → Option Value) (x : Str) (u : Value) : Prop :=
  (env.kindOf x = some .local ∧ m x = some u) ∨ ((env.kindOf x = some .cell ∨ env.kindOf x = some .free) ∧ ∃ c, env.cells.lookup x = some c ∧ h.IsCell c (some u))

structure Cx.Ok (X : Cx) : Prop where
  mod : Mod X.K X.mg X.base
  kind : X.env.scope.kind = .function
  glob : X.env.globals = mainGlobals
  blt : X.env.builtins = builtinsNs
  above : X.s₀.heap.objs.size ≤ X.env.locals
  inj : ∀ x y c, X.env.cells.lookup x = some c → X.env.cells.lookup y = some c → x = y
  has : ∀ x, (X.env.kindOf x = some .cell ∨ X.env.kindOf x = some .free) → ∃ c, X.env.cells.lookup x = some c
  cab : ∀ x c, X.fn x = true → X.env.cells.lookup x = some c → X.s₀.heap.objs.size ≤ c
  hd : X.calm = true → X.A.handled = none
  frames : X.A.frames = some X.stack
  stk : X.stack = X.outer ∨ (X.stack = X.env :: X.outer ∧ X.env.frame = some X.env.locals)
  exf : ∀ b ∈ X.ex, b ≠ X.env.locals ∧ ∀ x c, X.env.cells.lookup x = some c → c ≠ b
  bs : ∀ b o, X.base.get? b = some o → X.s₀.heap.get? b = some o ∧ X.H₀ b = none
  bsz : X.base.objs.size ≤ X.s₀.heap.objs.size
  noex : ∀ b o, X.base.get? b = some o → b ∉ X.ex
  exfs : ∀ b ∈ X.ex, b ∉ X.fs
  funs : X.s₀.heap.FunFrames X.base X.outer
  frf : ∀ b ∈ X.fs, X.H₀ b = none

structure Inv (X : Cx) (pins : List (Addr × Obj)) (σ : List (Option V)) (H : Hp) (s : Shared) : Prop where
  ok : X.Ok
  os : s.os = X.s₀.os
  bare : AllBare s.gens
  base : Un X.fs X.ex X.H₀ H X.s₀.heap s.heap
  loc : ∃ m, s.heap.Ns X.env.locals m ∧ ∀ (i : Nat) (x : Str) (v : V), X.N[i]? = some x → σ[i]? = some (some v) → Vis X.env.scope x → ∃ u, RelV v u ∧ Look X.env s.heap m x u
  cell : ∀ x c, X.env.cells.lookup x = some c → ∃ v, s.heap.IsCell c v
  free : H X.env.locals = none
  freeC : ∀ x c, X.env.cells.lookup x = some c → H c = none
  pin : ∀ p ∈ X.pn ++ pins, s.heap.get? p.1 = some p.2 ∧ H p.1 = none ∧ p.1 ≠ X.env.locals ∧ p.1 ∉ X.fs ∧ ∀ v, p.2.data ≠ .cell v
  hok : HOk X.prog X.w H s.heap
  len : σ.length = X.N.length

section
variable {X : Cx} {pins : List (Addr × Obj)} {σ : List (Option V)} {H H' : Hp} {s : Shared} {h' : Heap}

theorem Cx.Ok.nofr (ok : X.Ok) {b : Addr} {o : Obj} (e : X.base.get? b = some o) : b ∉ X.fs := fun hb => by
  have := (ok.funs.mem hb).1
  rw [e] at this; cases this
theorem Inv.bs (I : Inv X pins σ H s) : ∀ b o, X.base.get? b = some o → s.heap.get? b = some o ∧ H b = none := fun b o e =>
  ⟨I.base.keep b o (I.ok.bs b o e).1 (I.ok.bs b o e).2 (I.ok.nofr e) (I.ok.noex b o e), I.base.free b o (I.ok.bs b o e).1 (I.ok.bs b o e).2 (I.ok.noex b o e)⟩
theorem Inv.bk (I : Inv X pins σ H s) : ∀ b o, X.base.get? b = some o → s.heap.get? b = some o := fun b o e => (I.bs b o e).1
theorem Inv.mod (I : Inv X pins σ H s) : Mod X.K X.mg X.base := I.ok.mod
theorem Inv.kIn (I : Inv X pins σ H s) : X.K.In s.heap := I.ok.mod.kin.keeps I.bk
/-- the frame over the base: for OpenK's rules (K.In X.base is I.mod.kin) -/
theorem Inv.fr (I : Inv X pins σ H s) : ∃ m, Fr X.base X.env.locals s.heap m :=
  let ⟨m, hn, _⟩ := I.loc
  ⟨m, hn, I.bk, Nat.le_trans I.ok.bsz I.ok.above⟩
theorem Inv.lt (I : Inv X pins σ H s) : X.env.locals < s.heap.objs.size := let ⟨_, hn, _⟩ := I.loc; hn.lt
theorem Inv.sz (I : Inv X pins σ H s) : X.s₀.heap.objs.size ≤ s.heap.objs.size := Nat.le_trans I.ok.above (Nat.le_of_lt I.lt)
theorem Inv.nofs (I : Inv X pins σ H s) {a : Addr} (h : s.heap.objs.size ≤ a) : a ∉ X.fs := fun hb => by
  obtain ⟨_, o, ho, _⟩ := I.ok.funs.mem hb
  exact absurd (Nat.lt_of_lt_of_le (Heap.lt_size ho) (Nat.le_trans I.sz h)) (Nat.lt_irrefl _)
theorem Inv.cne (I : Inv X pins σ H s) : ∀ x c, X.env.cells.lookup x = some c → c ≠ X.env.locals := fun x c e z => by
  obtain ⟨v, o, ho, hd⟩ := I.cell x c e
  obtain ⟨m, ⟨o', es, ep, ho', hd', _⟩, _⟩ := I.loc
  rw [z, ho'] at ho; cases ho; rw [hd'] at hd; cases hd
theorem Inv.funs (I : Inv X pins σ H s) : s.heap.FunFrames X.base X.outer := by
  have all : ∀ (l : List Env), (∀ b ∈ frs l, b ∈ X.fs) → X.s₀.heap.FunFrames X.base l → s.heap.FunFrames X.base l := by
    intro l
    induction l with
    | nil => intro _ _; trivial
    | cons env r ih =>
      intro hs hl
      obtain ⟨hk, ⟨L, o, hf, hn, ho, hd⟩, hr⟩ := hl
      have hL : L ∈ X.fs := hs L (by unfold frs; rw [List.filterMap_cons, hf]; exact List.mem_cons_self)
      obtain ⟨sl, e⟩ := I.base.slot L o ho (I.ok.frf L hL) hL fun z => I.ok.exfs L z hL
      exact ⟨hk, ⟨L, _, hf, hn, e, hd⟩, ih (fun b hb => hs b (by unfold frs; rw [List.filterMap_cons, hf]; exact List.mem_cons_of_mem _ hb)) hr⟩
  exact all X.outer (fun _ hb => hb) I.ok.funs

/-- the frames that run, for a call -/
theorem Inv.stack (I : Inv X pins σ H s) : s.heap.FunFrames X.base X.stack := by
  rcases I.ok.stk with e | ⟨e, hf⟩
  · rw [e]; exact I.funs
  · rw [e]
    obtain ⟨m, hn, _⟩ := I.loc
    refine .cons (by rw [I.ok.kind]; decide) hf hn ?_ I.funs
    exact Heap.get?_none_of_le (Nat.le_trans I.ok.bsz I.ok.above)
theorem Inv.stkSub (I : Inv X pins σ H s) : ∀ b ∈ frs X.stack, b ∈ X.env.locals :: X.fs := fun b hb => by
  rcases I.ok.stk with e | ⟨e, hf⟩
  · rw [e] at hb; exact List.mem_cons_of_mem _ hb
  · rw [e] at hb
    unfold frs at hb
    rw [List.filterMap_cons, hf] at hb
    exact hb
theorem Inv.stkFree (I : Inv X pins σ H s) : ∀ b ∈ frs X.stack, H b = none := fun b hb => by
  rcases List.mem_cons.mp (I.stkSub b hb) with e | hb
  · rw [e]; exact I.free
  · obtain ⟨_, o, ho, _⟩ := I.ok.funs.mem hb
    exact I.base.free b o ho (I.ok.frf b hb) fun z => I.ok.exfs b z hb

/-- THE STEP: the untracked objects but the frame and the records at ch are kept (the callers' frames up to slots), the frame's map is kept, the new abstract heap is held -/
theorem Inv.step {g' : Array GenState} {t' : Nat} {d' : Drawn} {ch : List Addr} (I : Inv X pins σ H s)
    (hch : ∀ b ∈ ch, (b ∈ X.ex ∨ X.s₀.heap.objs.size ≤ b) ∧ b ≠ X.env.locals ∧ (∀ x c, X.env.cells.lookup x = some c → c ≠ b) ∧ ∀ p ∈ X.pn ++ pins, p.1 ≠ b)
    (keep : ∀ b o, b ≠ X.env.locals → b ∉ X.fs → b ∉ ch → s.heap.get? b = some o → H b = none → h'.get? b = some o)
    (slot : ∀ b o, b ≠ X.env.locals → b ∈ X.fs → b ∉ ch → s.heap.get? b = some o → H b = none → ∃ sl, h'.get? b = some { o with slots := sl }) (free : ∀ b o, b ∉ ch → s.heap.get? b = some o → H b = none → H' b = none)
    (there : ∀ b o, b ∉ ch → s.heap.get? b = some o → ∃ o', h'.get? b = some o')
    (tups : ∀ b xs, H b = some (.tup xs) → H' b = some (.tup xs)) (frzs : ∀ b o u, H b = some (.frz o u) → H' b = some (.frz o u)) (tbls : ∀ b ps, H b = some (.tbl ps) → ∃ more, H' b = some (.tbl (ps ++ more)))
    (ns : ∀ m, s.heap.Ns X.env.locals m → h'.Ns X.env.locals m) (hok : HOk X.prog X.w H' h') (hg : AllBare g') :
    Inv X pins σ H' { s with heap := h', gens := g', drawn := d', toks := t' } := by
  have neL : ∀ b o, X.s₀.heap.get? b = some o → b ≠ X.env.locals := fun b o e => Nat.ne_of_lt (Nat.lt_of_lt_of_le (Heap.lt_size e) I.ok.above)
  have neC : ∀ b o, X.s₀.heap.get? b = some o → b ∉ X.ex → b ∉ ch := fun b o e hx hb => by
    rcases (hch b hb).1 with z | z
    · exact hx z
    · exact absurd (Nat.lt_of_lt_of_le (Heap.lt_size e) z) (Nat.lt_irrefl _)
  have cellK : ∀ x c, X.env.cells.lookup x = some c → ∀ v, s.heap.IsCell c v → h'.IsCell c v := fun x c e v ⟨o, ho, hd⟩ => by
    have nch : c ∉ ch := fun z => (hch c z).2.2.1 x c e rfl
    by_cases hc : c ∈ X.fs
    · obtain ⟨sl, q⟩ := slot c o (I.cne x c e) hc nch ho (I.freeC x c e)
      exact ⟨_, q, hd⟩
    · exact ⟨o, keep c o (I.cne x c e) hc nch ho (I.freeC x c e), hd⟩
  refine ⟨I.ok, I.os, hg, ⟨fun b o e n hb hx => ?_, fun b o e n hb hx => ?_, fun b o e n hx => ?_, fun b o e hx => ?_, fun b xs e => tups b xs (I.base.tups b xs e), fun b o xs e => frzs b o xs (I.base.frzs b o xs e), fun b ps e => ?_⟩, ?_, fun x c e => ?_, ?_, fun x c e => ?_, fun p hp => ?_, hok, I.len⟩
  · exact keep b o (neL b o e) hb (neC b o e hx) (I.base.keep b o e n hb hx) (I.base.free b o e n hx)
  · obtain ⟨sl, e1⟩ := I.base.slot b o e n hb hx
    obtain ⟨sl', e2⟩ := slot b _ (neL b o e) hb (neC b o e hx) e1 (I.base.free b o e n hx)
    exact ⟨sl', e2⟩
  · obtain ⟨o', e1⟩ := I.base.there b o e hx
    exact free b o' (neC b o e hx) e1 (I.base.free b o e n hx)
  · obtain ⟨o', e1⟩ := I.base.there b o e hx
    exact there b o' (neC b o e hx) e1
  · obtain ⟨m1, e1⟩ := I.base.tbls b ps e
    obtain ⟨m2, e2⟩ := tbls b _ e1
    exact ⟨m1 ++ m2, by rw [e2, Array.append_assoc]⟩
  · obtain ⟨m, hn, hl⟩ := I.loc
    refine ⟨m, ns m hn, fun i x v e1 e2 e3 => ?_⟩
    obtain ⟨u, r, l⟩ := hl i x v e1 e2 e3
    refine ⟨u, r, ?_⟩
    rcases l with l | ⟨k, c, e, z⟩
    · exact .inl l
    · exact .inr ⟨k, c, e, cellK x c e _ z⟩
  · obtain ⟨v, z⟩ := I.cell x c e
    exact ⟨v, cellK x c e v z⟩
  · obtain ⟨m, ⟨o, _, _, ho, _⟩, _⟩ := I.loc
    exact free _ o (fun z => (hch _ z).2.1 rfl) ho I.free
  · obtain ⟨v, o, ho, hd⟩ := I.cell x c e
    exact free c o (fun z => (hch c z).2.2.1 x c e rfl) ho (I.freeC x c e)
  · obtain ⟨e, n, ne, nf, d⟩ := I.pin p hp
    have nch : p.1 ∉ ch := fun z => (hch p.1 z).2.2.2 p hp rfl
    exact ⟨keep p.1 p.2 ne nf nch e n, free p.1 p.2 nch e n, ne, nf, d⟩
/-- .. where the frame's own object is kept too -/
theorem Inv.un {t' : Nat} (I : Inv X pins σ H s) (u : Un X.fs [] H H' s.heap h') (hok : HOk X.prog X.w H' h') : Inv X pins σ H' { s with heap := h', toks := t' } := by
  obtain ⟨m, ⟨o, es, ep, ho, r⟩, _⟩ := id I.loc
  obtain ⟨sl, hL⟩ := u.any ho I.free (by simp)
  exact I.step (g' := s.gens) (d' := s.drawn) (ch := []) (fun _ z => nomatch z) (fun b o _ hb _ e n => u.keep b o e n hb (by simp)) (fun b o _ hb _ e n => u.slot b o e n hb (by simp)) (fun b o _ e n => u.free b o e n (by simp)) (fun b o _ e => u.there b o e (by simp)) u.tups u.frzs u.tbls (fun m' hm => by
    obtain ⟨o', es', ep', ho', r'⟩ := hm
    rw [ho] at ho'; cases ho'
    exact ⟨_, es', ep', hL, r'⟩) hok I.bare
/-- behind a call (or a comprehension's block): the slots of this frame may have changed too, the records at ch may have turned -/
theorem Inv.call {g' : Array GenState} {t' : Nat} {d' : Drawn} {ch : List Addr} (I : Inv X pins σ H s) (u : Un (frs X.stack) ch H H' s.heap h') (hok : HOk X.prog X.w H' h') (hg : AllBare g')
    (hch : ∀ b ∈ ch, (b ∈ X.ex ∨ X.s₀.heap.objs.size ≤ b) ∧ b ≠ X.env.locals ∧ (∀ x c, X.env.cells.lookup x = some c → c ≠ b) ∧ ∀ p ∈ X.pn ++ pins, p.1 ≠ b) :
    Inv X pins σ H' { s with heap := h', gens := g', drawn := d', toks := t' } := by
  obtain ⟨m, ⟨o, es, ep, ho, r⟩, _⟩ := id I.loc
  obtain ⟨sl, hL⟩ := u.any ho I.free fun z => (hch _ z).2.1 rfl
  exact I.step (ch := ch) hch (fun b o hL hb hc e n => u.keep b o e n (fun z => (List.mem_cons.mp (I.stkSub b z)).elim hL hb) hc) (fun b o _ _ hc e n => u.any e n hc) (fun b o hc e n => u.free b o e n hc) (fun b o hc e => u.there b o e hc) u.tups u.frzs u.tbls (fun m' hm => by
    obtain ⟨o', es', ep', ho', r'⟩ := hm
    rw [ho] at ho'; cases ho'
    exact ⟨_, es', ep', hL, r'⟩) hok hg
/-- an untracked record of ours (an iterator) has turned -/
theorem Inv.turned {t' : Nat} {it : Addr} (I : Inv X pins σ H s) (k : ∀ b o, b ≠ it → s.heap.get? b = some o → h'.get? b = some o) (hn : H it = none) (hL : it ≠ X.env.locals)
    (h1 : it ∈ X.ex ∨ X.s₀.heap.objs.size ≤ it) (h2 : ∀ x c, X.env.cells.lookup x = some c → c ≠ it) (h3 : ∀ p ∈ X.pn ++ pins, p.1 ≠ it) : Inv X pins σ H { s with heap := h', toks := t' } := by
  have nit : ∀ b u, H b = some u → b ≠ it := fun b u e z => by rw [z, hn] at e; cases e
  refine I.step (g' := s.gens) (d' := s.drawn) (ch := [it]) (fun b hb => ?_) (fun b o _ _ hc e _ => k b o (fun z => hc (by simp [z])) e) (fun b o _ _ hc e _ => ⟨o.slots, k b o (fun z => hc (by simp [z])) e⟩) (fun _ _ _ _ n => n)
    (fun b o hc e => ⟨o, k b o (fun z => hc (by simp [z])) e⟩) (fun _ _ e => e) (fun _ _ _ e => e) (fun b ps e => ⟨#[], by rw [e]; simp⟩) (fun m hm => ?_) (fun b u e => ?_) I.bare
  · have e : b = it := by simpa using hb
    subst e
    exact ⟨h1, hL, h2, h3⟩
  · obtain ⟨o, es, ep, ho, r⟩ := hm
    exact ⟨o, es, ep, k _ o (Ne.symm hL) ho, r⟩
  · refine (I.hok b u e).stay (fun c v hc q => k c v ?_ q) (fun _ q => q) fun _ _ q => q
    rcases hc with z | z
    · rw [z]; exact nit b u e
    · exact nit c _ z
theorem Inv.tok (I : Inv X pins σ H s) (t : Nat) : Inv X pins σ H { s with toks := t } := I.un (h' := s.heap) (t' := t) Un.refl I.hok
/-- all objects kept -/
theorem Inv.kept {t' : Nat} (I : Inv X pins σ H s) (k : ∀ b u, s.heap.get? b = some u → h'.get? b = some u) : Inv X pins σ H { s with heap := h', toks := t' } := I.un (Un.kept k) (I.hok.kept k)
/-- a new object laid and tracked -/
theorem Inv.laid {a : Addr} {o : HO} {t' : Nat} (I : Inv X pins σ H s) (k : ∀ b u, s.heap.get? b = some u → h'.get? b = some u) (hp : s.heap.objs.size ≤ a) (new : ObjOk X.prog X.w (upd H a o) h' a o) :
    Inv X pins σ (upd H a o) { s with heap := h', toks := t' } := I.un (Un.laid k hp (I.hok.fresh hp)) (I.hok.laid k hp new)
/-- an object written -/
theorem Inv.write {x e : Addr} {o : HO} {t' : Nat} (I : Inv X pins σ H s) (mu : Mut (H x)) (he : e = x ∨ H e = some (.own x)) (k : ∀ b u, b ≠ e → s.heap.get? b = some u → h'.get? b = some u) (heo : ∃ u, h'.get? e = some u)
    (new : ObjOk X.prog X.w (upd H x o) h' x o) : Inv X pins σ (upd H x o) { s with heap := h', toks := t' } := I.un (Un.write mu he k heo) (I.hok.write mu he k heo new)
/-- forgetting slots, pins -/
theorem Inv.weak {σ' : List (Option V)} (I : Inv X pins σ H s) (hl : σ'.length = σ.length) (w : ∀ (i : Nat) v, σ'[i]? = some (some v) → σ[i]? = some (some v)) : Inv X pins σ' H s :=
  ⟨I.ok, I.os, I.bare, I.base, let ⟨m, hn, hl'⟩ := I.loc; ⟨m, hn, fun i x v e1 e2 e3 => hl' i x v e1 (w i v e2) e3⟩, I.cell, I.free, I.freeC, I.pin, I.hok, hl.trans I.len⟩
theorem Inv.pins_of {pins' : List (Addr × Obj)} (I : Inv X pins σ H s) (h : ∀ p ∈ pins', s.heap.get? p.1 = some p.2 ∧ H p.1 = none ∧ p.1 ≠ X.env.locals ∧ p.1 ∉ X.fs ∧ ∀ v, p.2.data ≠ .cell v) : Inv X pins' σ H s :=
  ⟨I.ok, I.os, I.bare, I.base, I.loc, I.cell, I.free, I.freeC, fun p hp => (List.mem_append.mp hp).elim (fun z => I.pin p (List.mem_append_left _ z)) (h p), I.hok, I.len⟩

theorem nodup_ix {N : List Str} (hN : N.Nodup) {i j : Nat} {x : Str} (a : N[i]? = some x) (b : N[j]? = some x) : i = j := by
  obtain ⟨h1, e1⟩ := List.getElem?_eq_some_iff.mp a
  obtain ⟨h2, e2⟩ := List.getElem?_eq_some_iff.mp b
  exact (List.getElem_inj hN).mp (e1.trans e2.symm)

/-- a name is stored; what changed -/
theorem store_ok2 {M : Model} {A : Around} {E : Value → Shared → Prop} {i : Nat} {x : Str} {v : V} {u : Value} {Q : Unit → Shared → Prop} (I : Inv X pins σ H s) (hN : X.N.Nodup) (hi : X.N[i]? = some x) (hx : Loc X.env.scope x) (r : RelV v u)
    (h : ∀ s', Inv X pins (σ.set i (some v)) H s' → (∃ a, Heap.SameBut a s.heap s'.heap ∧ (a = X.env.locals ∨ X.env.cells.lookup x = some a)) → Q () s') (hf : X.fn x = true ∨ X.env.scope.names.lookup x = some .local := by first | exact .inl rfl | exact .inr rfl | assumption) : wpAny M A (storeName X.env x u) Q E s := by
  obtain ⟨m, hn, hl⟩ := id I.loc
  have hcls : (X.env.scope.kind == .class || (X.env.scope.kind == .module && X.env.locals != X.env.globals)) = false := by rw [I.ok.kind]; rfl
  have hiσ : i < σ.length := by rw [I.len]; exact (List.getElem?_eq_some_iff.mp hi).1
  have cne := I.cne
  have tracked : ∀ {a : Addr} {h' : Heap}, (∃ o, s.heap.get? a = some o ∧ H a = none) → Heap.SameBut a s.heap h' → HOk X.prog X.w H h' := fun {a h'} ha hs b ob e => by
    obtain ⟨_, _, hfree⟩ := ha
    refine (I.hok b ob e).stay (fun c w' hc q => (hs.2 c ?_).trans q) (fun _ q => q) fun _ _ q => q
    rintro rfl
    rcases hc with rfl | hc
    · rw [hfree] at e; cases e
    · rw [hfree] at hc; cases hc
  rcases hx with hk | hk
  · refine wpAny_storeName_local hk hn (fun h' hn' hs => ?_) hcls
    obtain ⟨oL, _, _, hoL, _⟩ := id hn
    refine h _ ⟨I.ok, I.os, I.bare, ⟨fun b o e n hb hx => ?_, fun b o e n hb hx => ?_, I.base.free, fun b o e hx => ?_, I.base.tups, I.base.frzs, I.base.tbls⟩, ⟨_, hn', fun j y v' e1 e2 e3 => ?_⟩, fun y c e => ?_, I.free, I.freeC, fun p hp => ?_, tracked ⟨oL, hoL, I.free⟩ hs, by simpa using I.len⟩ ⟨_, hs, .inl rfl⟩
    · exact (hs.2 b (Nat.ne_of_lt (Nat.lt_of_lt_of_le (Heap.lt_size e) I.ok.above))).trans (I.base.keep b o e n hb hx)
    · obtain ⟨sl, e1⟩ := I.base.slot b o e n hb hx
      exact ⟨sl, (hs.2 b (Nat.ne_of_lt (Nat.lt_of_lt_of_le (Heap.lt_size e) I.ok.above))).trans e1⟩
    · obtain ⟨o', e1⟩ := I.base.there b o e hx
      exact ⟨o', (hs.2 b (Nat.ne_of_lt (Nat.lt_of_lt_of_le (Heap.lt_size e) I.ok.above))).trans e1⟩
    · by_cases hj : j = i
      · subst hj
        rw [hi] at e1; cases e1
        rw [List.getElem?_set_self hiσ] at e2
        cases e2
        exact ⟨u, r, .inl ⟨hk, by simp⟩⟩
      · rw [List.getElem?_set_ne (Ne.symm hj)] at e2
        obtain ⟨u', r', q⟩ := hl j y v' e1 e2 e3
        refine ⟨u', r', ?_⟩
        rcases q with ⟨k, e⟩ | ⟨k, c, e, z⟩
        · refine .inl ⟨k, ?_⟩
          have : y ≠ x := fun e => hj (nodup_ix hN e1 (e ▸ hi))
          simp [this, e]
        · exact .inr ⟨k, c, e, z.sameBut hs (cne y c e)⟩
    · obtain ⟨w', z⟩ := I.cell y c e
      exact ⟨w', z.sameBut hs (cne y c e)⟩
    · obtain ⟨e, n, ne, nf, d⟩ := I.pin p hp
      exact ⟨(hs.2 p.1 ne).trans e, n, ne, nf, d⟩
  · have hfn : X.fn x = true := by
      rcases hf with z | z
      · exact z
      · rw [z] at hk; cases hk
    obtain ⟨c, hc⟩ := I.ok.has x (.inl hk)
    obtain ⟨w', z⟩ := I.cell x c hc
    refine wpAny_storeName_cell I.ok.kind hk hc z (fun h' hc' hs => ?_)
    obtain ⟨oc, hoc, hocd⟩ := id z
    refine h { s with heap := h' } ⟨I.ok, I.os, I.bare, ⟨fun b o e n hb hx => ?_, fun b o e n hb hx => ?_, I.base.free, fun b o e hx => ?_, I.base.tups, I.base.frzs, I.base.tbls⟩, ⟨m, hn.sameBut hs (Ne.symm (cne x c hc)), fun j y v' e1 e2 e3 => ?_⟩, fun y c' e => ?_, I.free, I.freeC, fun p hp => ?_, tracked ⟨oc, hoc, I.freeC x c hc⟩ hs, by simpa using I.len⟩ ⟨c, hs, .inr hc⟩
    · exact (hs.2 b (Nat.ne_of_lt (Nat.lt_of_lt_of_le (Heap.lt_size e) (I.ok.cab x c hfn hc)))).trans (I.base.keep b o e n hb hx)
    · obtain ⟨sl, e1⟩ := I.base.slot b o e n hb hx
      exact ⟨sl, (hs.2 b (Nat.ne_of_lt (Nat.lt_of_lt_of_le (Heap.lt_size e) (I.ok.cab x c hfn hc)))).trans e1⟩
    · obtain ⟨o', e1⟩ := I.base.there b o e hx
      exact ⟨o', (hs.2 b (Nat.ne_of_lt (Nat.lt_of_lt_of_le (Heap.lt_size e) (I.ok.cab x c hfn hc)))).trans e1⟩
    · by_cases hj : j = i
      · subst hj
        rw [hi] at e1; cases e1
        rw [List.getElem?_set_self hiσ] at e2
        cases e2
        exact ⟨u, r, .inr ⟨.inl hk, c, hc, hc'⟩⟩
      · rw [List.getElem?_set_ne (Ne.symm hj)] at e2
        obtain ⟨u', r', q⟩ := hl j y v' e1 e2 e3
        refine ⟨u', r', ?_⟩
        rcases q with q | ⟨k, c', e, z'⟩
        · exact .inl q
        · refine .inr ⟨k, c', e, z'.sameBut hs ?_⟩
          rintro rfl
          exact hj (nodup_ix hN e1 (I.ok.inj _ _ _ e hc ▸ hi))
    · by_cases hcc : c' = c
      · subst hcc; exact ⟨_, hc'⟩
      · obtain ⟨w2, z2⟩ := I.cell y c' e
        exact ⟨w2, z2.sameBut hs hcc⟩
    · obtain ⟨e, n, ne, nf, d⟩ := I.pin p hp
      refine ⟨(hs.2 p.1 ?_).trans e, n, ne, nf, d⟩
      intro q
      rw [q, hoc] at e
      have q' : oc = p.2 := Option.some.inj e
      exact d w' (by rw [← q']; exact hocd)
theorem store_ok {M : Model} {A : Around} {E : Value → Shared → Prop} {i : Nat} {x : Str} {v : V} {u : Value} {Q : Unit → Shared → Prop} (I : Inv X pins σ H s) (hN : X.N.Nodup) (hi : X.N[i]? = some x) (hx : Loc X.env.scope x) (r : RelV v u)
    (h : ∀ s', Inv X pins (σ.set i (some v)) H s' → Q () s') (hf : X.fn x = true ∨ X.env.scope.names.lookup x = some .local := by first | exact .inl rfl | exact .inr rfl | assumption) : wpAny M A (storeName X.env x u) Q E s :=
  store_ok2 I hN hi hx r (fun s' I' _ => h s' I') hf
/-- behind a call or a block, the state as it is -/
theorem Inv.call' {s' : Shared} {ch : List Addr} (I : Inv X pins σ H s) (ho : s'.os = s.os) (u : Un (frs X.stack) ch H H' s.heap s'.heap) (hok : HOk X.prog X.w H' s'.heap) (hg : AllBare s'.gens)
    (hch : ∀ b ∈ ch, (b ∈ X.ex ∨ X.s₀.heap.objs.size ≤ b) ∧ b ≠ X.env.locals ∧ (∀ x c, X.env.cells.lookup x = some c → c ≠ b) ∧ ∀ p ∈ X.pn ++ pins, p.1 ≠ b) : Inv X pins σ H' s' := by
  obtain ⟨h', g', d', t', o'⟩ := s'
  have e : o' = s.os := ho
  subst e
  exact I.call (g' := g') (t' := t') (d' := d') u hok hg hch
end

/-! ### the judgements -/
/-- an exception: its class, its own dict's address (where it has one), the abstract heap behind it -/
abbrev XK := Value → Option Addr → Hp → Prop
abbrev St := List (Option V)
abbrev VK := V → Hp → Prop
/-- an expression's reading; a test's; an argument list's -/
abbrev TE := St → Hp → VK → Prop
abbrev TT := St → Hp → (Bool → Hp → Prop) → Prop
abbrev TA := St → Hp → (List V → Hp → Prop) → Prop
/-- what is wanted behind a statement -/
structure Ends where
  nx : St → Hp → Prop
  rt : VK
  bk : St → Hp → Prop := fun _ _ => False
  ct : St → Hp → Prop := fun _ _ => False
abbrev TS := Ends → St → Hp → Prop

def EP (X : Cx) (pins : List (Addr × Obj)) (σ : St) (Q : VK) (u : Value) (s' : Shared) : Prop := ∃ v H', Inv X pins σ H' s' ∧ RelV v u ∧ Q v H'
def TP (X : Cx) (pins : List (Addr × Obj)) (σ : St) (Q : Bool → Hp → Prop) (b : Bool) (s' : Shared) : Prop := ∃ H', Inv X pins σ H' s' ∧ Q b H'
def AP (X : Cx) (pins : List (Addr × Obj)) (σ : St) (Q : List V → Hp → Prop) (us : List Value) (s' : Shared) : Prop := ∃ vs H', Inv X pins σ H' s' ∧ Vals vs us ∧ Q vs H'
def SP (X : Cx) (pins : List (Addr × Obj)) (D : Ends) (f : Flow) (s' : Shared) : Prop :=
  match f with
  | .next => ∃ σ' H', Inv X pins σ' H' s' ∧ D.nx σ' H'
  | .brk => ∃ σ' H', Inv X pins σ' H' s' ∧ D.bk σ' H'
  | .cont => ∃ σ' H', Inv X pins σ' H' s' ∧ D.ct σ' H'
  | .ret u => ∃ v σ' H', Inv X pins σ' H' s' ∧ RelV v u ∧ D.rt v H'

def PE (X : Cx) (e : Expr) (t : TE) : Prop :=
  ∀ (pins : List (Addr × Obj)) (s : Shared) (σ : St) (H : Hp) (Q : VK), Inv X pins σ H s → t σ H Q → wpAny (model X.prog X.w) X.A (eval e X.env) (EP X pins σ Q) X.xe s
def PT (X : Cx) (e : Expr) (t : TT) : Prop :=
  ∀ (pins : List (Addr × Obj)) (s : Shared) (σ : St) (H : Hp) (Q : Bool → Hp → Prop), Inv X pins σ H s → t σ H Q → wpAny (model X.prog X.w) X.A (isTrue e X.env (eval e X.env)) (TP X pins σ Q) X.xe s
/-- a test whatever its 'whole' is (and, or) -/
def PW (X : Cx) (e : Expr) (t : TT) : Prop :=
  ∀ (whole : Sem Value) (pins : List (Addr × Obj)) (s : Shared) (σ : St) (H : Hp) (Q : Bool → Hp → Prop), Inv X pins σ H s → t σ H Q → wpAny (model X.prog X.w) X.A (isTrue e X.env whole) (TP X pins σ Q) X.xe s
theorem PW.pt {X : Cx} {e : Expr} {t : TT} (h : PW X e t) : PT X e t := h _
/-- an argument list (no star), from the left -/
def PA (X : Cx) (es : List Expr) (t : TA) : Prop :=
  ∀ (pos : Pos) (pins : List (Addr × Obj)) (s : Shared) (σ : St) (H : Hp) (Q : List V → Hp → Prop), Inv X pins σ H s → t σ H Q → wpAny (model X.prog X.w) X.A (spliced (backTo pos (starEach es X.env))) (AP X pins σ Q) X.xe s
def PS (X : Cx) (st : Stmt) (t : TS) : Prop :=
  ∀ (pins : List (Addr × Obj)) (s : Shared) (σ : St) (H : Hp) (D : Ends), Inv X pins σ H s → t D σ H → wpAny (model X.prog X.w) X.A (exec st X.env) (SP X pins D) X.xe s
def PSs (X : Cx) (st : List Stmt) (t : TS) : Prop :=
  ∀ (pins : List (Addr × Obj)) (s : Shared) (σ : St) (H : Hp) (D : Ends), Inv X pins σ H s → t D σ H → wpAny (model X.prog X.w) X.A (execs st X.env) (SP X pins D) X.xe s
/-- weaken the end -/
theorem thn {α : Type} {t : Sem α} {Q Q' : α → Shared → Prop} {M : Model} {A : Around} {E : Value → Shared → Prop} {s : Shared} (h : wpAny M A t Q E s) (hQ : ∀ a s, Q a s → Q' a s) : wpAny M A t Q' E s := wpAny_mono h hQ fun _ _ x => x
end L2

namespace L2
open PySem PySem.Spec PyProof.Rows
section
variable {X : Cx}

/-! ### names and constants -/
def tVar (i : Nat) : TE := fun σ H Q => ∃ v, σ[i]? = some (some v) ∧ Q v H
def tC (v : V) : TE := fun _ H Q => Q v H
theorem pe_var {i : Nat} {x : Str} {pos : Pos} (hN : X.N[i]? = some x) (hv : Vis X.env.scope x) (hd : (x == ("__debug__" : Str)) = false := by decide) (hcd : (x == ("__classdict__" : Str)) = false := by decide) : PE X (.Name x pos) (tVar i) := by
  intro pins s σ H Q I h
  obtain ⟨v, e, h⟩ := h
  obtain ⟨m, hn, hl⟩ := I.loc
  obtain ⟨u, r, l⟩ := hl i x v hN e hv
  have fin : EP X pins σ Q u s := ⟨v, H, I, r, h⟩
  rcases l with ⟨hk, hm⟩ | ⟨hk, c, hc, hcell⟩
  · exact wpAny_Name (wpAny_loadName_local I.ok.kind hk hn hm fin) hd
  · rcases hk with hk | hk
    · exact wpAny_Name (wpAny_loadName_cell I.ok.kind hk hc hcell fin) hd
    · exact wpAny_Name (wpAny_loadName_free I.ok.kind hk hc hcell fin hcd) hd
theorem pe_int {i j pos} : PE X (.Constant (.int i) j pos) (tC (.int i)) := fun _ _ _ H _ I h => wpAny_Constant_int ⟨.int i, H, I.tok _, ⟨_, rfl⟩, h⟩
theorem pe_bl {b j pos} : PE X (.Constant (.bool b) j pos) (tC (.bl b)) := fun _ _ _ H _ I h => Constant_bool ⟨.bl b, H, I, rfl, h⟩
theorem pe_non {j pos} : PE X (.Constant .none j pos) (tC .non) := fun _ _ _ H _ I h => Constant_none ⟨.non, H, I, rfl, h⟩
theorem pe_str {x j pos} : PE X (.Constant (.str x) j pos) (tC (.str x)) := fun _ _ _ H _ I h => Calls.Constant_str ⟨.str x, H, I.tok _, ⟨_, rfl⟩, h⟩

/-- a global name of the def -/
def Gl (X : Cx) (x : Str) : Prop := X.env.kindOf x = some .globalImplicit
theorem ld_glob {E : Value → Shared → Prop} {pins : List (Addr × Obj)} {s : Shared} {σ : St} {H : Hp} {x : Str} {u : Value} {pos : Pos} {Q : Value → Shared → Prop} (I : Inv X pins σ H s) (hg : Gl X x) (hm : X.mg x = some u) (h : Q u s)
    (hd : (x == ("__debug__" : Str)) = false := by decide) : wpAny (model X.prog X.w) X.A (eval (.Name x pos) X.env) Q E s :=
  Calls.Name_function_global I.ok.kind hg (Calls.loadGlobal_global (by rw [I.ok.glob]; exact I.mod.glob.keeps I.bk) hm h) hd
theorem ld_blt {E : Value → Shared → Prop} {pins : List (Addr × Obj)} {s : Shared} {σ : St} {H : Hp} {x : Str} {u : Value} {pos : Pos} {Q : Value → Shared → Prop} (I : Inv X pins σ H s) (hg : Gl X x) (hm : X.mg x = none) (hv : bootBuiltins x = some u) (h : Q u s)
    (hn : x ≠ "__name__" := by decide) (hd : (x == ("__debug__" : Str)) = false := by decide) : wpAny (model X.prog X.w) X.A (eval (.Name x pos) X.env) Q E s := by
  obtain ⟨mb, h1, h2⟩ := I.mod.blt
  exact Calls.Name_function_global I.ok.kind hg (Calls.loadGlobal_builtin (by rw [I.ok.glob]; exact I.mod.glob.keeps I.bk) hm (by rw [I.ok.blt]; exact h1.keeps I.bk) ((h2 x hn).trans hv) h) hd
/-- a module's constant, a class, a function, as a value -/
theorem pe_glob {x : Str} {v : V} {u : Value} {pos : Pos} (hg : Gl X x) (hm : X.mg x = some u) (r : RelV v u) (hd : (x == ("__debug__" : Str)) = false := by decide) : PE X (.Name x pos) (tC v) :=
  fun _ _ _ H _ I h => ld_glob I hg hm ⟨v, H, I, r, h⟩ hd
theorem pe_bltn {x : Str} {v : V} {u : Value} {pos : Pos} (hg : Gl X x) (hm : X.mg x = none) (hv : bootBuiltins x = some u) (r : RelV v u) (hn : x ≠ "__name__" := by decide) (hd : (x == ("__debug__" : Str)) = false := by decide) : PE X (.Name x pos) (tC v) :=
  fun _ _ _ H _ I h => ld_blt I hg hm hv ⟨v, H, I, r, h⟩ hn hd

/-! ### arithmetic -/
variable {a b : Expr} {ta tb : TE} {pos : Pos}
/-! ### comparisons -/
/-- a comparison as a value, as a test -/
def tB (t : TE) : TT := fun σ H Q => t σ H fun x H1 => ∃ c, x = .bl c ∧ Q c H1
/-- an expression whose value is a bool, as a test -/
theorem pt_val {e : Expr} {t : TE} (h : PE X e t) (he : ∀ whole, isTrue e X.env whole = (do let v ← whole; standAt e.pos; holding [v] (truthy v)) := by intro _; rfl) : PT X e (tB t) := by
  intro pins s σ H Q I hw
  refine isTrue_plain (thn (h pins s σ H _ I hw) fun v s1 ⟨x, H1, I1, r1, q1⟩ => ?_) (he _)
  obtain ⟨d, rfl, q⟩ := q1
  cases r1
  exact wpAny_truthy_bool ⟨H1, I1, q⟩

/-! ### and, or, not -/
variable {tA tB' : TT} {rest : List Expr}
def tAnd (t u : TT) : TT := fun σ H Q => t σ H fun c H1 => if c = true then u σ H1 Q else Q false H1
def tOr (t u : TT) : TT := fun σ H Q => t σ H fun c H1 => if c = true then Q true H1 else u σ H1 Q
def tNot (t : TT) : TT := fun σ H Q => t σ H fun c H1 => Q (!c) H1
theorem pw_and1 (ha : PT X a tA) : PW X (.BoolOp .And [a] pos) tA := by
  intro wh pins s σ H Q I h
  refine isTrue_and (thn (ha pins s σ H Q I h) fun c s1 e => ?_)
  cases c with
  | true => exact isTrue_and_nil e
  | false => exact e
theorem pw_or1 (ha : PT X a tA) : PW X (.BoolOp .Or [a] pos) tA := by
  intro wh pins s σ H Q I h
  refine isTrue_or (thn (ha pins s σ H Q I h) fun c s1 e => ?_)
  cases c with
  | false => exact isTrue_or_nil e
  | true => exact e
theorem pw_and (ha : PT X a tA) (hb : PW X (.BoolOp .And (b :: rest) pos) tB') : PW X (.BoolOp .And (a :: b :: rest) pos) (tAnd tA tB') := by
  intro wh pins s σ H Q I h
  refine isTrue_and (thn (ha pins s σ H _ I h) fun c s1 ⟨H1, I1, q1⟩ => ?_)
  cases c with
  | true => exact hb wh pins s1 σ H1 Q I1 q1
  | false => exact ⟨H1, I1, q1⟩
theorem pw_or (ha : PT X a tA) (hb : PW X (.BoolOp .Or (b :: rest) pos) tB') : PW X (.BoolOp .Or (a :: b :: rest) pos) (tOr tA tB') := by
  intro wh pins s σ H Q I h
  refine isTrue_or (thn (ha pins s σ H _ I h) fun c s1 ⟨H1, I1, q1⟩ => ?_)
  cases c with
  | true => exact ⟨H1, I1, q1⟩
  | false => exact hb wh pins s1 σ H1 Q I1 q1
theorem pt_not (ha : PT X a tA) : PT X (.UnaryOp .Not a pos) (tNot tA) := by
  intro pins s σ H Q I h
  exact isTrue_not (ha pins s σ H (fun c H1 => Q (!c) H1) I h)
def tOrV (ta tb : TE) : TE := fun σ H Q => ta σ H fun x H1 => ∃ c, x = .bl c ∧ if c = true then Q (.bl true) H1 else tb σ H1 Q
theorem pe_one {op} {t : TE} (h : PE X a t) : PE X (.BoolOp op [a] pos) t := fun pins s σ H Q I hw => BoolOp_one (h pins s σ H Q I hw)
theorem pe_or (ha : PE X a ta) (hb : PE X (.BoolOp .Or (b :: rest) pos) tb) : PE X (.BoolOp .Or (a :: b :: rest) pos) (tOrV ta tb) := by
  intro pins s σ H Q I h
  refine BoolOp_or (thn (ha pins s σ H _ I h) fun v s1 ⟨x, H1, I1, r1, q1⟩ => ?_)
  obtain ⟨c, rfl, q1⟩ := q1
  cases r1
  refine wpAny_truthy_bool ?_
  cases c with
  | false => exact hb pins s1 σ H1 Q I1 q1
  | true => exact ⟨.bl true, H1, I1, rfl, q1⟩
/-- a if t else b -/
def tIf (t : TT) (ta tb : TE) : TE := fun σ H Q => t σ H fun c H1 => if c = true then ta σ H1 Q else tb σ H1 Q
theorem pe_ifExp {c : Expr} (hc : PT X c tA) (ha : PE X a ta) (hb : PE X b tb) : PE X (.IfExp c a b pos) (tIf tA ta tb) := by
  intro pins s σ H Q I h
  refine wpAny_IfExp (thn (hc pins s σ H _ I h) fun d s1 ⟨H1, I1, q1⟩ => ?_)
  cases d with
  | true => exact ha pins s1 σ H1 Q I1 q1
  | false => exact hb pins s1 σ H1 Q I1 q1
end
end L2

namespace L2
open PySem PySem.Spec PyProof.Rows

/-! ### a list, a tuple that is read: tracked, frozen, or an object of the module -/
def SqL (K : PySem.W.Frag) (H : Hp) (a : Addr) (xs : List V) : Prop :=
  Rd H a (.lst xs) ∨
    ∃ (o : Obj) (its : Array Value) (n : Nat), K.lookup a = some o ∧ o.cls = .type "list" ∧ o.dict = none ∧ o.data = .seq its n ∧ its.size ≤ sizeLine ∧ Vals xs its.toList
def SqT (K : PySem.W.Frag) (H : Hp) (a : Addr) (xs : List V) : Prop :=
  Rd H a (.tup xs) ∨
    ∃ (o : Obj) (its : Array Value) (n : Nat), K.lookup a = some o ∧ o.cls = .type "tuple" ∧ o.data = .seq its n ∧ its.size ≤ sizeLine ∧ Vals xs its.toList ∧ o.dict = none
def absV : Value → Option V
  | .none => some .non
  | .bool b => some (.bl b)
  | .int i _ => some (.int i)
  | .str x _ => some (.str x)
  | .bytes b _ => some (.byt b)
  | .float b _ => some (.flt b)
  | .ref a => some (.ref a)
  | .type n => some (.ty n)
  | _ => none
theorem RelV.abs {x : V} {u : Value} (r : RelV x u) : absV u = some x := by
  cases x with
  | non => cases r; rfl
  | bl _ => cases r; rfl
  | int _ => obtain ⟨t, rfl⟩ := r; rfl
  | str _ => obtain ⟨t, rfl⟩ := r; rfl
  | byt _ => obtain ⟨t, rfl⟩ := r; rfl
  | flt _ => obtain ⟨t, rfl⟩ := r; rfl
  | ref _ => cases r; rfl
  | ty _ => cases r; rfl
theorem RelV.inj {x y : V} {u : Value} (r : RelV x u) (q : RelV y u) : x = y := Option.some.inj (r.abs.symm.trans q.abs)
theorem Vals.inj : ∀ {xs ys : List V} {us : List Value}, Vals xs us → Vals ys us → xs = ys
  | _, _, _, .nil, .nil => rfl
  | _, _, _, .cons r t, .cons r' t' => by rw [r.inj r', Vals.inj t t']
section
variable {X : Cx} {pins : List (Addr × Obj)} {σ : St} {H : Hp} {s : Shared} {a : Addr} {xs ys : List V}
theorem SqL.of {K : PySem.W.Frag} (h : H a = some (.lst xs)) : SqL K H a xs := .inl (.inl h)
theorem SqT.of {K : PySem.W.Frag} (h : H a = some (.tup xs)) : SqT K H a xs := .inl (.inl h)
theorem Inv.list (I : Inv X pins σ H s) (h : SqL X.K H a xs) : ∃ its : List Value, Vals xs its ∧ PlainL s.heap a its.toArray ∧ xs.length ≤ sizeLine := by
  rcases h with h | ⟨o, its, n, hk, hc, hd, hs, hz, r⟩
  · obtain ⟨z, its, n, r, e⟩ := h.ok I.hok
    exact ⟨its, r, ⟨_, n, e, rfl, rfl, rfl⟩, z⟩
  · refine ⟨its.toList, r, ⟨o, n, I.kIn a o hk, hc, hd, by simpa using hs⟩, ?_⟩
    have e := r.length
    simp only [Array.length_toList] at e
    omega
theorem Inv.tuple (I : Inv X pins σ H s) (h : SqT X.K H a xs) : ∃ its : List Value, Vals xs its ∧ IsTup s.heap a its.toArray ∧ xs.length ≤ sizeLine := by
  rcases h with h | ⟨o, its, n, hk, hc, hs, hz, r, hd⟩
  · obtain ⟨z, its, r, p⟩ := h.ok I.hok
    exact ⟨its, r, p.1, z⟩
  · refine ⟨its.toList, r, ⟨o, I.kIn a o hk, hc, n, by simpa using hs⟩, ?_⟩
    have e := r.length
    simp only [Array.length_toList] at e
    omega
theorem Inv.list_inj (I : Inv X pins σ H s) (h : SqL X.K H a xs) (h' : SqL X.K H a ys) : xs = ys := by
  obtain ⟨its, r, ⟨o, n, e, _, _, d⟩, _⟩ := I.list h
  obtain ⟨its', r', ⟨o', n', e', _, _, d'⟩, _⟩ := I.list h'
  rw [e] at e'; cases e'
  rw [d] at d'
  injection d' with d1 _
  have : its = its' := by simpa using congrArg Array.toList d1
  subst this
  exact r.inj r'
theorem Inv.tuple_inj (I : Inv X pins σ H s) (h : SqT X.K H a xs) (h' : SqT X.K H a ys) : xs = ys := by
  obtain ⟨its, r, ⟨o, e, _, n, d⟩, _⟩ := I.tuple h
  obtain ⟨its', r', ⟨o', e', _, n', d'⟩, _⟩ := I.tuple h'
  rw [e] at e'; cases e'
  rw [d] at d'
  injection d' with d1 _
  have : its = its' := by simpa using congrArg Array.toList d1
  subst this
  exact r.inj r'
end

/-! ### another wish about exceptions -/
abbrev Cx.wish (X : Cx) (E : Value → Shared → Prop) : Cx := { X with xe := E }
/-- no exception leaves -/
abbrev Cx.nox (X : Cx) : Cx := X.wish fun _ _ => False
theorem Cx.Ok.wish {X : Cx} (ok : X.Ok) (E : Value → Shared → Prop) : (X.wish E).Ok :=
  ⟨ok.mod, ok.kind, ok.glob, ok.blt, ok.above, ok.inj, ok.has, ok.cab, ok.hd, ok.frames, ok.stk, ok.exf, ok.bs, ok.bsz, ok.noex, ok.exfs, ok.funs, ok.frf⟩
theorem Cx.Ok.unwish {X : Cx} {E : Value → Shared → Prop} (ok : (X.wish E).Ok) : X.Ok :=
  ⟨ok.mod, ok.kind, ok.glob, ok.blt, ok.above, ok.inj, ok.has, ok.cab, ok.hd, ok.frames, ok.stk, ok.exf, ok.bs, ok.bsz, ok.noex, ok.exfs, ok.funs, ok.frf⟩
section
variable {X : Cx} {pins : List (Addr × Obj)} {σ : St} {H : Hp} {s : Shared} {E : Value → Shared → Prop}
theorem Inv.wish (I : Inv X pins σ H s) (E : Value → Shared → Prop) : Inv (X.wish E) pins σ H s := ⟨I.ok.wish E, I.os, I.bare, I.base, I.loc, I.cell, I.free, I.freeC, I.pin, I.hok, I.len⟩
theorem Inv.unwish (I : Inv (X.wish E) pins σ H s) : Inv X pins σ H s := ⟨I.ok.unwish, I.os, I.bare, I.base, I.loc, I.cell, I.free, I.freeC, I.pin, I.hok, I.len⟩
theorem SP.unwish {D : Ends} {f : Flow} {s' : Shared} (h : SP (X.wish E) pins D f s') : SP X pins D f s' := by
  cases f with
  | next => obtain ⟨σ', H', I, q⟩ := h; exact ⟨σ', H', I.unwish, q⟩
  | brk => obtain ⟨σ', H', I, q⟩ := h; exact ⟨σ', H', I.unwish, q⟩
  | cont => obtain ⟨σ', H', I, q⟩ := h; exact ⟨σ', H', I.unwish, q⟩
  | ret u => obtain ⟨v, σ', H', I, r, q⟩ := h; exact ⟨v, σ', H', I.unwish, r, q⟩
theorem PE.nox {e : Expr} {t : TE} (h : PE X.nox e t) : PE X e t := fun pins s σ H Q I hw =>
  wpAny_mono (h pins s σ H Q (I.wish _) hw) (fun _ _ ⟨v, H', I', r, q⟩ => ⟨v, H', I'.unwish, r, q⟩) fun _ _ z => False.elim z
theorem PT.nox {e : Expr} {t : TT} (h : PT X.nox e t) : PT X e t := fun pins s σ H Q I hw =>
  wpAny_mono (h pins s σ H Q (I.wish _) hw) (fun _ _ ⟨H', I', q⟩ => ⟨H', I'.unwish, q⟩) fun _ _ z => False.elim z
theorem PSs.nox {st : List Stmt} {t : TS} (h : PSs X.nox st t) : PSs X st t := fun pins s σ H D I hw =>
  wpAny_mono (h pins s σ H D (I.wish _) hw) (fun _ _ q => q.unwish) fun _ _ z => False.elim z
end

/-! ### blocks and small statements -/
section
variable {X : Cx} {st : Stmt} {rest : List Stmt} {t u : TS} {e : Expr} {te : TE} {pos : Pos}
def tNext : TS := fun D σ H => D.nx σ H
def tSeq (t u : TS) : TS := fun D σ H => t { D with nx := u D } σ H
theorem pss_nil : PSs X [] tNext := fun _ _ σ H _ I h => wpAny_execs_nil ⟨σ, H, I, h⟩
theorem pss_cons (h1 : PS X st t) (h2 : PSs X rest u) : PSs X (st :: rest) (tSeq t u) := by
  intro pins s σ H D I h
  refine wpAny_execs_cons (thn (h1 pins s σ H { D with nx := u D } I h) fun f s1 q => ?_)
  cases f with
  | next =>
    obtain ⟨σ', H', I', q⟩ := q
    exact h2 pins s1 σ' H' D I' q
  | ret v => exact q
  | brk => exact q
  | cont => exact q
theorem pss_one (h1 : PS X st t) : PSs X [st] t := by
  intro pins s σ H D I h
  refine wpAny_execs_cons (thn (h1 pins s σ H D I h) fun f s1 q => ?_)
  cases f with
  | next => exact wpAny_execs_nil q
  | ret v => exact q
  | brk => exact q
  | cont => exact q
/-- in a def's body nothing is shown -/
theorem Inv.quiet {pins : List (Addr × Obj)} {σ : St} {H : Hp} {s : Shared} (I : Inv X pins σ H s) : interactive X.env = false := by simp [interactive, I.ok.kind]
/-- an expression whose value is dropped -/
def tDrop (te : TE) : TS := fun D σ H => te σ H fun _ H1 => D.nx σ H1
theorem ps_expr (he : PE X e te) (hs : swapsWith e none pos.line X.env = pure false := by rfl) : PS X (.Expr e pos) (tDrop te) := by
  intro pins s σ H D I h
  exact wpAny_Expr_any (thn (he pins s σ H _ I h) fun v s1 ⟨x, H1, I1, r1, q1⟩ => ⟨σ, H1, I1, q1⟩) I.quiet hs
def tRet (te : TE) : TS := fun D σ H => te σ H D.rt
theorem ps_ret (he : PE X e te) : PS X (.Return (some e) pos) (tRet te) := by
  intro pins s σ H D I h
  exact wpAny_Return_some (thn (he pins s σ H _ I h) fun v s1 ⟨x, H1, I1, r1, q1⟩ => ⟨x, σ, H1, I1, r1, q1⟩)
def tIfS (c : TT) (t u : TS) : TS := fun D σ H => c σ H fun b H1 => if b = true then t D σ H1 else u D σ H1
theorem ps_if {c : Expr} {a b : List Stmt} {tc : TT} (hc : PT X c tc) (ha : PSs X a t) (hb : PSs X b u) : PS X (.If c a b pos) (tIfS tc t u) := by
  intro pins s σ H D I h
  refine wpAny_If (thn (hc pins s σ H _ I h) fun d s1 ⟨H1, I1, q1⟩ => ?_)
  cases d with
  | true => exact ha pins s1 σ H1 D I1 q1
  | false => exact hb pins s1 σ H1 D I1 q1
end

/-! ### targets -/
abbrev TG := V → St → Hp → (St → Hp → Prop) → Prop
def PG (X : Cx) (target : Expr) (t : TG) : Prop :=
  ∀ (pins : List (Addr × Obj)) (s : Shared) (σ : St) (H : Hp) (v : V) (u : Value) (Q : St → Hp → Prop), Inv X pins σ H s → RelV v u → t v σ H Q →
    wpAny (model X.prog X.w) X.A (assign target X.env u) (fun _ s' => ∃ σ' H', Inv X pins σ' H' s' ∧ Q σ' H') X.xe s
section
variable {X : Cx} {pos : Pos}
def gName (i : Nat) : TG := fun v σ H Q => Q (σ.set i (some v)) H
theorem pg_name {i : Nat} {x : Str} (hN : X.N.Nodup) (hi : X.N[i]? = some x) (hx : Loc X.env.scope x) (hf : X.fn x = true ∨ X.env.scope.names.lookup x = some .local := by first | exact .inl rfl | exact .inr rfl | assumption) : PG X (.Name x pos) (gName i) := by
  intro pins s σ H v u Q I r h
  exact wpAny_assign_Name (store_ok I hN hi hx r (fun s' I' => ⟨_, H, I', h⟩) hf)
/-- target = value -/
def tAsg (te : TE) (g : TG) : TS := fun D σ H => te σ H fun x H1 => g x σ H1 D.nx
/-- name = value -/
theorem ps_set {i : Nat} {x : Str} {e : Expr} {te : TE} {pos' : Pos} (hN : X.N.Nodup) (hi : X.N[i]? = some x) (hx : Loc X.env.scope x) (he : PE X e te) (hs : swapsWith e (some (.Name x pos')) pos.line X.env = pure false := by rfl) (hf : X.fn x = true ∨ X.env.scope.names.lookup x = some .local := by first | exact .inl rfl | exact .inr rfl | assumption) :
    PS X (.Assign [.Name x pos'] e pos) (tAsg te (gName i)) := by
  intro pins s σ H D I h
  refine wpAny_Assign_Name (thn (he pins s σ H _ I h) fun v s1 ⟨y, H1, I1, r1, q1⟩ => ?_) hs
  exact store_ok I1 hN hi hx r1 (fun s2 I2 => ⟨_, H1, I2, q1⟩) hf
end

/-! ### while -/
section
variable {X : Cx} {pos : Pos}
end

/-! ### what a loop or a comprehension walks -/
/-- at turn i: it yields x (the heap may grow), or it stops -/
structure It where
  go : Nat → Hp → Prop
  yld : Nat → Hp → V → Hp → Prop
  stop : Nat → Hp → Prop
/-- the iterator's own objects may turn: they are not the frame's, not pinned, younger than the entry (or a comprehension's own) -/
def FpOk (X : Cx) (pins : List (Addr × Obj)) (H : Hp) (b : Addr) : Prop :=
  H b = none ∧ b ≠ X.env.locals ∧ b ∉ X.fs ∧ (b ∈ X.ex ∨ X.s₀.heap.objs.size ≤ b) ∧ (∀ x c, X.env.cells.lookup x = some c → c ≠ b) ∧ ∀ p ∈ X.pn ++ pins, p.1 ≠ b
theorem Inv.fpOk {X : Cx} {pins : List (Addr × Obj)} {σ : St} {H H' : Hp} {s : Shared} {b : Addr} (I : Inv X pins σ H s) (hb : s.heap.objs.size ≤ b) (hn : H' b = none) : FpOk X pins H' b := by
  refine ⟨hn, Nat.ne_of_gt (Nat.lt_of_lt_of_le I.lt hb), I.nofs hb, .inr (Nat.le_trans I.sz hb), fun x c e z => ?_, fun p hp z => ?_⟩
  · obtain ⟨v, q⟩ := I.cell x c e
    exact absurd (Nat.lt_of_lt_of_le q.lt (by rw [z]; exact hb)) (Nat.lt_irrefl _)
  · exact absurd (Nat.lt_of_lt_of_le (Heap.lt_size (I.pin p hp).1) (by rw [z]; exact hb)) (Nat.lt_irrefl _)
structure TurnG (Cm : Cx → Prop) (P : Program) (w : World) (K : PySem.W.Frag) (tg : Expr) (J : It) (fp : List Addr) (it : Addr) (tn : Nat → Heap → Prop) : Prop where
  mem : it ∈ fp
  obj : ∀ i h, tn i h → ∀ b ∈ fp, ∃ o, h.get? b = some o ∧ ∀ v, o.data ≠ .cell v
  keep : ∀ i h h', tn i h → (∀ b ∈ fp, ∀ o, h.get? b = some o → h'.get? b = some o) → tn i h'
  item : ∀ (X : Cx), X.prog = P → X.w = w → X.K = K → Cm X → ∀ (i : Nat) (pins : List (Addr × Obj)) (s : Shared) (σ : St) (H : Hp) (E : Value → Shared → Prop), Inv X pins σ H s → (∀ b ∈ fp, FpOk X pins H b) → tn i s.heap → J.go i H →
    wpAny (model P w) X.A (pyNext (.ref it)) (fun r s1 => ∃ u, r = some u ∧
      wpAny (model P w) X.A (letOwnedTupleGo tg (.ref it) u) (fun _ s2 => ∃ x H', Inv X pins σ H' s2 ∧ RelV x u ∧ J.yld i H x H' ∧ tn (i + 1) s2.heap ∧ ∀ b ∈ fp, H' b = none) E s1) E s
  done : ∀ (X : Cx), X.prog = P → X.w = w → X.K = K → Cm X → ∀ (i : Nat) (pins : List (Addr × Obj)) (s : Shared) (σ : St) (H : Hp) (E : Value → Shared → Prop), Inv X pins σ H s → (∀ b ∈ fp, FpOk X pins H b) → tn i s.heap → J.stop i H →
    wpAny (model P w) X.A (pyNext (.ref it)) (fun r s1 => r = none ∧ Inv X pins σ H s1) E s
  self : ∀ (A : Around) (i : Nat) (s : Shared) (Q : Value → Shared → Prop) (E : Value → Shared → Prop), tn i s.heap → Q (.ref it) s → wpAny (model P w) A (pyIter (.ref it)) Q E s
abbrev Turn (P : Program) (w : World) (K : PySem.W.Frag) (tg : Expr) (J : It) (fp : List Addr) (it : Addr) (tn : Nat → Heap → Prop) : Prop := TurnG (fun X => X.calm = true) P w K tg J fp it tn
abbrev TI := St → Hp → (It → Hp → Prop) → Prop
/-- an iterator has come -/
def PIE (X : Cx) (pins : List (Addr × Obj)) (σ : St) (tg : Expr) (R : It → Hp → Prop) (itv : Value) (s2 : Shared) : Prop :=
  ∃ (it : Addr) (fp : List Addr) (tn : Nat → Heap → Prop) (J : It) (H' : Hp), itv = .ref it ∧ Inv X pins σ H' s2 ∧ Turn X.prog X.w X.K tg J fp it tn ∧ tn 0 s2.heap ∧ (∀ b ∈ fp, FpOk X pins H' b) ∧ R J H'
def PI (X : Cx) (tg iter : Expr) (wi : TI) : Prop :=
  ∀ (pins : List (Addr × Obj)) (s : Shared) (σ : St) (H : Hp) (R : It → Hp → Prop), Inv X pins σ H s → wi σ H R →
    wpAny (model X.prog X.w) X.A (eval iter X.env) (fun v s1 => wpAny (model X.prog X.w) X.A (pyIter v) (PIE X pins σ tg R) X.xe s1) X.xe s

/-- the step ahead of the store is nothing for an iterator that keeps no tuple -/
theorem go_of {M : Model} {A : Around} {E : Value → Shared → Prop} {s : Shared} {tg : Expr} {it : Addr} {u : Value} {o : Obj} {n : String} {vs : Array Value} {Q : Unit → Shared → Prop} (ho : s.heap.get? it = some o) (hc : o.cls = .type n) (hd : o.data = .fields vs)
    (hn : ["enumerate", "zip", "dict_itemiterator", "dict_reverseitemiterator", "odict_iterator", "itertools.zip_longest", "itertools.pairwise"].contains n = false) (hQ : Q () s) : wpAny M A (letOwnedTupleGo tg (.ref it) u) Q E s := by
  unfold letOwnedTupleGo
  cases tg <;> first
    | exact wpAny_pure hQ
    | (cases u <;> first
        | exact wpAny_pure hQ
        | (refine wpAny_bind (wpAny_load ho ?_)
           rw [hc, hd]
           show wpAny M A (if (["enumerate", "zip", "dict_itemiterator", "dict_reverseitemiterator", "odict_iterator", "itertools.zip_longest", "itertools.pairwise"].contains n && vs[0]? == some (rawInt _)) = true then _ else _) Q E s
           rw [if_neg (by intro h; rw [hn, Bool.false_and] at h; cases h)]
           exact wpAny_pure hQ))

/-- the list at a, as it stands at each turn (a loop may append to it) -/
def Itl (K : PySem.W.Frag) (a : Addr) : It :=
  ⟨fun i H => ∃ xs x, SqL K H a xs ∧ xs[i]? = some x, fun i H x H' => H' = H ∧ ∀ xs, SqL K H a xs → xs[i]? = some x, fun i H => ∃ xs, SqL K H a xs ∧ xs.length ≤ i⟩
def Itt (K : PySem.W.Frag) (a : Addr) : It :=
  ⟨fun i H => ∃ xs x, SqT K H a xs ∧ xs[i]? = some x, fun i H x H' => H' = H ∧ ∀ xs, SqT K H a xs → xs[i]? = some x, fun i H => ∃ xs, SqT K H a xs ∧ xs.length ≤ i⟩
/-- lo, lo + 1, .. (n of them) -/
def Itr (lo : Int) (n : Nat) : It := ⟨fun i _ => i < n, fun i H x H' => H' = H ∧ x = .int (lo + i), fun i _ => n ≤ i⟩
theorem turn_list {P : Program} {w : World} {K : PySem.W.Frag} {tg : Expr} (a it : Addr) : Turn P w K tg (Itl K a) [it] it (fun i h => h.IsListIter it a i) where
  mem := by simp
  obj := fun i h st b hb => by
    have e : b = it := by simpa using hb
    subst e
    obtain ⟨o, e, c, d⟩ := st
    exact ⟨o, e, fun v z => by rw [d] at z; cases z⟩
  keep := fun i h h' st k => st.at fun o e => k it (by simp) o e
  item := by
    intro X hP hw hK hc i pins s σ H E I hf st hg
    subst hP hw hK
    obtain ⟨xs, x, hq, hx⟩ := hg
    obtain ⟨its, rv, p, hz⟩ := I.list hq
    obtain ⟨u, hu, ru⟩ := rv.get hx
    obtain ⟨f0, f1, f2, f3, f4, f5⟩ := hf it (by simp)
    refine wpAny_pyNext_list_item st p.isList (x := u) (by simpa using hu) fun h' st' sb => ?_
    have I1 : Inv X pins σ H { s with heap := h' } := I.turned (t' := s.toks) (fun b o hb e => (sb.2 b hb).trans e) f0 f1 f3 f4 f5
    obtain ⟨o, e, c, d⟩ := id st'
    exact ⟨u, rfl, go_of (s := { s with heap := h' }) e c d (by decide) ⟨x, H, I1, ru, ⟨rfl, fun ys hy => by rw [I.list_inj hy hq]; exact hx⟩, st', fun b hb => (hf b hb).1⟩⟩
  done := by
    intro X hP hw hK hc i pins s σ H E I hf st hg
    subst hP hw hK
    obtain ⟨xs, hq, hx⟩ := hg
    obtain ⟨its, rv, p, hz⟩ := I.list hq
    obtain ⟨f0, f1, f2, f3, f4, f5⟩ := hf it (by simp)
    have hl := rv.length
    exact wpAny_pyNext_list_end (I.ok.hd hc) st p.isList (by simp; omega) fun h' eb => ⟨rfl, I.turned (t' := s.toks) (fun b o hb e => eb b o hb e) f0 f1 f3 f4 f5⟩
  self := fun _ _ _ _ _ st h => wpAny_pyIter_listiter st h
theorem turn_tuple {P : Program} {w : World} {K : PySem.W.Frag} {tg : Expr} (a it : Addr) : Turn P w K tg (Itt K a) [it] it (fun i h => h.IsTupleIter it a i) where
  mem := by simp
  obj := fun i h st b hb => by
    have e : b = it := by simpa using hb
    subst e
    obtain ⟨o, e, c, d⟩ := st
    exact ⟨o, e, fun v z => by rw [d] at z; cases z⟩
  keep := fun i h h' st k => st.at fun o e => k it (by simp) o e
  item := by
    intro X hP hw hK hc i pins s σ H E I hf st hg
    subst hP hw hK
    obtain ⟨xs, x, hq, hx⟩ := hg
    obtain ⟨its, rv, p, hz⟩ := I.tuple hq
    obtain ⟨u, hu, ru⟩ := rv.get hx
    obtain ⟨f0, f1, f2, f3, f4, f5⟩ := hf it (by simp)
    refine wpAny_pyNext_tuple_item st (show s.heap.IsTuple a its.toArray from p) (x := u) (by simpa using hu) fun h' st' sb => ?_
    have I1 : Inv X pins σ H { s with heap := h' } := I.turned (t' := s.toks) (fun b o hb e => (sb.2 b hb).trans e) f0 f1 f3 f4 f5
    obtain ⟨o, e, c, d⟩ := id st'
    exact ⟨u, rfl, go_of (s := { s with heap := h' }) e c d (by decide) ⟨x, H, I1, ru, ⟨rfl, fun ys hy => by rw [I.tuple_inj hy hq]; exact hx⟩, st', fun b hb => (hf b hb).1⟩⟩
  done := by
    intro X hP hw hK hc i pins s σ H E I hf st hg
    subst hP hw hK
    obtain ⟨xs, hq, hx⟩ := hg
    obtain ⟨its, rv, p, hz⟩ := I.tuple hq
    obtain ⟨f0, f1, f2, f3, f4, f5⟩ := hf it (by simp)
    have hl := rv.length
    exact wpAny_pyNext_tuple_end (I.ok.hd hc) st (show s.heap.IsTuple a its.toArray from p) (by simp; omega) fun h' eb => ⟨rfl, I.turned (t' := s.toks) (fun b o hb e => eb b o hb e) f0 f1 f3 f4 f5⟩
  self := fun _ _ _ _ _ st h => wpAny_pyIter_tupleiter st h
theorem turn_range {P : Program} {w : World} {K : PySem.W.Frag} {tg : Expr} (it : Addr) (lo : Int) (n : Nat) : Turn P w K tg (Itr lo n) [it] it (fun i h => IsRangeIter h it (lo + (i : Nat) * 1) ((n : Int) - (i : Nat)) 1) where
  mem := by simp
  obj := fun i h st b hb => by
    have e : b = it := by simpa using hb
    subst e
    exact ⟨_, st, fun v z => by
      have z' : Data.fields _ = Data.cell v := z
      cases z'⟩
  keep := fun i h h' st k => k it (by simp) _ st
  item := by
    intro X hP hw hK hc i pins s σ H E I hf st hg
    subst hP hw hK
    obtain ⟨f0, f1, f2, f3, f4, f5⟩ := hf it (by simp)
    have W := Walks.range (prog := X.prog) (w := X.w) (I.ok.hd hc) it lo 1 n
    refine W.item i s _ _ hg st fun v h' tk hv st' kk => ?_
    obtain ⟨t, rfl⟩ := hv
    have I1 : Inv X pins σ H { s with heap := h', toks := tk } := I.turned (fun b o hb e => kk b o (by simpa using hb) e) f0 f1 f3 f4 f5
    refine ⟨_, rfl, go_of (s := { s with heap := h', toks := tk }) (n := "range_iterator") st' rfl rfl (by decide) ⟨.int (lo + i), H, I1, ⟨t, ?_⟩, ⟨rfl, rfl⟩, st', fun b hb => (hf b hb).1⟩⟩
    rw [Int.mul_one]
  done := by
    intro X hP hw hK hc i pins s σ H E I hf st hg
    subst hP hw hK
    obtain ⟨f0, f1, f2, f3, f4, f5⟩ := hf it (by simp)
    exact wpAny_pyNext_range_end (I.ok.hd hc) st (by have : n ≤ i := hg; omega) fun h' eb => ⟨rfl, I.turned (t' := s.toks) (fun b o hb e => eb b o hb e) f0 f1 f3 f4 f5⟩
  self := fun _ _ _ _ _ st h => wpAny_pyIter_rangeiter st h
end L2

namespace L2
open PySem PySem.Spec PyProof.Rows
section
variable {X : Cx} {tg : Expr}
def iList (K : PySem.W.Frag) (tl : TE) : TI := fun σ H R => tl σ H fun x H1 => ∃ a, x = .ref a ∧ (∃ xs, SqL K H1 a xs) ∧ R (Itl K a) H1
def iTup (K : PySem.W.Frag) (tl : TE) : TI := fun σ H R => tl σ H fun x H1 => ∃ a, x = .ref a ∧ (∃ xs, SqT K H1 a xs) ∧ R (Itt K a) H1
theorem pi_list {l : Expr} {tl : TE} (hl : PE X l tl) : PI X tg l (iList X.K tl) := by
  intro pins s σ H R I h
  refine thn (hl pins s σ H _ I h) fun v s1 ⟨x, H1, I1, r1, q1⟩ => ?_
  obtain ⟨a, e, ⟨xs, hq⟩, q⟩ := q1
  subst e
  cases r1
  obtain ⟨its, rv, p, hz⟩ := I1.list hq
  refine wpAny_pyIter_list p.isList ?_
  refine ⟨s1.heap.objs.size, [s1.heap.objs.size], _, _, H1, rfl, I1.kept (t' := s1.toks) fun b o e => Heap.get?_push_of_some _ e, turn_list a _, ⟨_, Heap.get?_push_size _ rfl, rfl, rfl⟩, fun b hb => ?_, q⟩
  have e : b = s1.heap.objs.size := by simpa using hb
  subst e
  exact I1.fpOk (Nat.le_refl _) (I1.hok.fresh (Nat.le_refl _))
theorem pi_tup {l : Expr} {tl : TE} (hl : PE X l tl) : PI X tg l (iTup X.K tl) := by
  intro pins s σ H R I h
  refine thn (hl pins s σ H _ I h) fun v s1 ⟨x, H1, I1, r1, q1⟩ => ?_
  obtain ⟨a, e, ⟨xs, hq⟩, q⟩ := q1
  subst e
  cases r1
  obtain ⟨its, rv, p, hz⟩ := I1.tuple hq
  refine wpAny_pyIter_tuple (show s1.heap.IsTuple a its.toArray from p) ?_
  refine ⟨s1.heap.objs.size, [s1.heap.objs.size], _, _, H1, rfl, I1.kept (t' := s1.toks) fun b o e => Heap.get?_push_of_some _ e, turn_tuple a _, ⟨_, Heap.get?_push_size _ rfl, rfl, rfl⟩, fun b hb => ?_, q⟩
  have e : b = s1.heap.objs.size := by simpa using hb
  subst e
  exact I1.fpOk (Nat.le_refl _) (I1.hok.fresh (Nat.le_refl _))
/-- a range object just made, walked -/
theorem range_it {pins : List (Addr × Obj)} {σ : St} {H : Hp} {s : Shared} {R : It → Hp → Prop} {E : Value → Shared → Prop} {lo hi : Int} {t u v : Tok} {tk : Nat} (I : Inv X pins σ H s) (h1 : -(2 ^ 62) ≤ lo) (h2 : lo < 2 ^ 62) (h3 : -(2 ^ 62) ≤ hi) (h4 : hi < 2 ^ 62)
    (q : R (Itr lo (hi - lo).toNat) H) : wpAny (model X.prog X.w) X.A (pyIter (.ref s.heap.objs.size)) (PIE X pins σ tg R) E { s with heap := s.heap.push { cls := .type "range", data := .fields #[.int lo t, .int hi u, .int 1 v] }, toks := tk } := by
  refine wpAny_pyIter_range (IsRange.new ..) (small_one h1 h2 h3 h4) ?_
  have I1 : Inv X pins σ H { s with heap := s.heap.push { cls := .type "range", data := .fields #[.int lo t, .int hi u, .int 1 v] }, toks := tk } := I.kept fun b o e => Heap.get?_push_of_some _ e
  refine ⟨(s.heap.push { cls := .type "range", data := .fields #[.int lo t, .int hi u, .int 1 v] }).objs.size, [(s.heap.push { cls := .type "range", data := .fields #[.int lo t, .int hi u, .int 1 v] }).objs.size], _, _, H, rfl,
    I1.kept (t' := tk) fun b o e => Heap.get?_push_of_some _ e, turn_range _ lo (hi - lo).toNat, ?_, fun b hb => ?_, q⟩
  · have e1 : lo + ((0 : Nat) : Int) * 1 = lo := by simp
    have e2 : (((hi - lo).toNat : Nat) : Int) - ((0 : Nat) : Int) = Builtin.Range.rangeSize lo hi 1 := by rw [rangeSize_one]; split <;> omega
    show IsRangeIter _ _ (lo + ((0 : Nat) : Int) * 1) ((((hi - lo).toNat : Nat) : Int) - ((0 : Nat) : Int)) 1
    rw [e1, e2]
    exact Heap.get?_push_size _ rfl
  · have e : b = (s.heap.push { cls := .type "range", data := .fields #[.int lo t, .int hi u, .int 1 v] }).objs.size := by simpa using hb
    subst e
    exact I1.fpOk (Nat.le_refl _) (I1.hok.fresh (Nat.le_refl _))
def iRng1 (ta : TA) : TI := fun σ H R => ta σ H fun vs H1 => ∃ j : Int, vs = [.int j] ∧ -(2 ^ 62) ≤ j ∧ j < 2 ^ 62 ∧ R (Itr 0 j.toNat) H1
def iRng2 (ta : TA) : TI := fun σ H R => ta σ H fun vs H1 => ∃ i j : Int, vs = [.int i, .int j] ∧ (-(2 ^ 62) ≤ i ∧ i < 2 ^ 62 ∧ -(2 ^ 62) ≤ j ∧ j < 2 ^ 62) ∧ R (Itr i (j - i).toNat) H1
theorem pi_range1 {a : Expr} {ta : TA} {p pos : Pos} (hg : Gl X "range") (hm : X.mg "range" = none) (ha : PA X [a] ta) (hs : starEach [a] X.env = [(false, eval a X.env)] := by rfl) : PI X tg (.Call (.Name "range" p) [a] [] pos) (iRng1 ta) := by
  intro pins s σ H R I h
  refine Call_ (ld_blt I hg hm boot_range (PyProof.Rows.callWith_type1 (thn (ha pos pins s σ H _ I h) fun us s1 ⟨vs, H1, I1, r1, q1⟩ => ?_) hs rfl))
  obtain ⟨j, e, q1, q2, q⟩ := q1
  subst e
  cases r1 with
  | cons r rr =>
    cases rr
    obtain ⟨t, rfl⟩ := r
    exact call_range_1 (range_it I1 (by omega) (by omega) q1 q2 (by simpa using q))
theorem pi_range2 {a b : Expr} {ta : TA} {p pos : Pos} (hg : Gl X "range") (hm : X.mg "range" = none) (ha : PA X [a, b] ta) (hs : starEach [a, b] X.env = [(false, eval a X.env), (false, eval b X.env)] := by rfl) (hs2 : starEach [b] X.env = [(false, eval b X.env)] := by rfl) :
    PI X tg (.Call (.Name "range" p) [a, b] [] pos) (iRng2 ta) := by
  intro pins s σ H R I h
  refine Call_ (ld_blt I hg hm boot_range (PyProof.Rows.callWith_type1 (thn (ha pos pins s σ H _ I h) fun us s1 ⟨vs, H1, I1, r1, q1⟩ => ?_) (by rw [hs, hs2]) (by rw [hs2]; rfl)))
  obtain ⟨i, j, e, ⟨q1, q2, q3, q4⟩, q⟩ := q1
  subst e
  cases r1 with
  | cons r rr =>
    cases rr with
    | cons r' rr =>
      cases rr
      obtain ⟨t, rfl⟩ := r
      obtain ⟨t', rfl⟩ := r'
      exact call_range_2 (range_it I1 q1 q2 q3 q4 q)

/-! ### for -/
/-- W: the invariant by the turn and a measure; N: what the body is to reach -/
def tFor (wi : TI) (g : TG) (tb : TS) : TS := fun D σ H => wi σ H fun J H1 => ∃ W : Nat → Nat → St → Hp → Prop, (∃ m, W 0 m σ H1) ∧ ∀ i m σ H, W i m σ H →
  (J.stop i H ∧ D.nx σ H) ∨ (J.go i H ∧ ∃ N : St → Hp → Prop, (∀ σ' H', N σ' H' → ∃ m', m' < m ∧ W (i + 1) m' σ' H') ∧ ∀ x H', J.yld i H x H' → g x σ H' fun σ2 H2 => tb { D with nx := N, ct := N, bk := D.nx } σ2 H2)
/-- the records at fp as they stand -/
def pinsAt (fp : List Addr) (h : Heap) : List (Addr × Obj) := fp.filterMap fun b => (h.get? b).map fun o => (b, o)
theorem mem_pinsAt {fp : List Addr} {h : Heap} {b : Addr} {o : Obj} (hb : b ∈ fp) (e : h.get? b = some o) : (b, o) ∈ pinsAt fp h := List.mem_filterMap.mpr ⟨b, hb, by rw [e]; rfl⟩
theorem of_pinsAt {fp : List Addr} {h : Heap} {p : Addr × Obj} (hp : p ∈ pinsAt fp h) : p.1 ∈ fp ∧ h.get? p.1 = some p.2 := by
  obtain ⟨b, hb, e⟩ := List.mem_filterMap.mp hp
  cases q : h.get? b with
  | none => rw [q] at e; cases e
  | some o =>
    rw [q] at e
    have e' : (b, o) = p := Option.some.inj e
    subst e'
    exact ⟨hb, q⟩
theorem Inv.pinned {pins : List (Addr × Obj)} {σ : St} {H : Hp} {s : Shared} {fp : List Addr} (I : Inv X pins σ H s) (hf : ∀ b ∈ fp, FpOk X pins H b) (ho : ∀ b ∈ fp, ∃ o, s.heap.get? b = some o ∧ ∀ v, o.data ≠ .cell v) : Inv X (pins ++ pinsAt fp s.heap) σ H s :=
  I.pins_of fun p hp => (List.mem_append.mp hp).elim (fun z => I.pin p (List.mem_append_right _ z)) fun z => by
    obtain ⟨hb, e⟩ := of_pinsAt z
    obtain ⟨f0, f1, f2, _⟩ := hf p.1 hb
    obtain ⟨o, e', d⟩ := ho p.1 hb
    rw [e] at e'; cases e'
    exact ⟨e, f0, f1, f2, d⟩
theorem Inv.unpinned {pins pl : List (Addr × Obj)} {σ : St} {H : Hp} {s : Shared} (I : Inv X (pins ++ pl) σ H s) : Inv X pins σ H s := I.pins_of fun p hp => I.pin p (List.mem_append_right _ (List.mem_append_left _ hp))
theorem ps_for {iter : Expr} {body : List Stmt} {wi : TI} {g : TG} {tb : TS} {pos : Pos} (hp : PassesOwn (model X.prog X.w) X.A X.env X.xe) (hc : X.calm = true) (hi : PI X tg iter wi) (hg : PG X tg g) (hb : PSs X body tb)
    (hs : ∀ x, foldedSetIterable iter X.env x = pure x := by intro _; rfl) : PS X (.For tg iter body [] pos) (tFor wi g tb) := by
  intro pins s σ H D I h
  refine wpAny_For (thn (hi pins s σ H _ I h) fun v s1 h1 => thn h1 fun itv s2 h2 => ?_) hs
  obtain ⟨it, fp, tn, J, H2, e, I2, T, st2, f2, W, ⟨m0, w0⟩, turn⟩ := h2
  subst e
  -- what stays true of the iterator's objects through the loop
  have stat : ∀ {H' : Hp}, (∀ b ∈ fp, H' b = none) → ∀ b ∈ fp, FpOk X pins H' b := fun hn b hb => ⟨hn b hb, (f2 b hb).2⟩
  refine codeAny_forLoop_any (fun n s' => ∃ i σ' H', Inv X pins σ' H' s' ∧ tn i s'.heap ∧ (∀ b ∈ fp, H' b = none) ∧ W i n σ' H') ?_ m0 ⟨0, σ, H2, I2, st2, fun b hb => (f2 b hb).1, w0⟩
  rintro n s3 ⟨i, σ3, H3, I3, st3, fr3, w3⟩
  rcases turn i n σ3 H3 w3 with ⟨stop, qn⟩ | ⟨go, N, hN, step⟩
  · refine wpAny_passesOwn hp (thn (T.done X rfl rfl rfl hc i pins s3 σ3 H3 X.xe I3 (stat fr3) st3 stop) fun r s4 ⟨hr, I4⟩ => ?_)
    subst hr
    exact wpAny_execs_nil ⟨σ3, H3, I4, qn⟩
  · refine wpAny_passesOwn hp (thn (T.item X rfl rfl rfl hc i pins s3 σ3 H3 X.xe I3 (stat fr3) st3 go) fun r s4 ⟨u, hr, h4⟩ => ?_)
    subst hr
    refine wpAny_passesOwn hp (thn h4 fun _ s5 ⟨x, H5, I5, r5, y5, st5, fr5⟩ => ?_)
    have I5' := I5.pinned (stat fr5) (T.obj _ _ st5)
    refine wpAny_passesOwn hp (thn (hg _ s5 σ3 H5 x u _ I5' r5 (step x H5 y5)) fun _ s6 ⟨σ6, H6, I6, q6⟩ => ?_)
    refine wpAny_passesOwn hp (thn (hb _ s6 σ6 H6 _ I6 q6) fun f s7 q7 => ?_)
    have again : ∀ {σ7 : St} {H7 : Hp}, Inv X (pins ++ pinsAt fp s5.heap) σ7 H7 s7 → N σ7 H7 → ∃ m, m < n ∧ ∃ i σ' H', Inv X pins σ' H' s7 ∧ tn i s7.heap ∧ (∀ b ∈ fp, H' b = none) ∧ W i m σ' H' := fun {σ7 H7} I7 n7 => by
      obtain ⟨m', hm, w7⟩ := hN σ7 H7 n7
      refine ⟨m', hm, i + 1, σ7, H7, I7.unpinned, T.keep _ _ _ st5 fun b hb o e => (I7.pin (b, o) (List.mem_append_right _ (List.mem_append_right _ (mem_pinsAt hb e)))).1, fun b hb => ?_, w7⟩
      obtain ⟨o, e, d⟩ := T.obj _ _ st5 b hb
      exact (I7.pin (b, o) (List.mem_append_right _ (List.mem_append_right _ (mem_pinsAt hb e)))).2.1
    cases f with
    | next => obtain ⟨σ7, H7, I7, n7⟩ := q7; exact again I7 n7
    | cont => obtain ⟨σ7, H7, I7, n7⟩ := q7; exact again I7 n7
    | brk => obtain ⟨σ7, H7, I7, q7⟩ := q7; exact ⟨σ7, H7, I7.unpinned, q7⟩
    | ret v => obtain ⟨x7, σ7, H7, I7, r7, q7⟩ := q7; exact ⟨x7, σ7, H7, I7.unpinned, r7, q7⟩
end

/-! ### the forms one uses -/
end L2

namespace L2
open PySem PySem.Spec PyProof.Rows

abbrev R2 := V → V → Hp → VK → Prop
/-- a two-place operation on values: f is binaryOp op, inplaceOp op or compareOp op -/
def OpR (X : Cx) (f : Value → Value → Sem Value) (r : R2) : Prop :=
  ∀ (pins : List (Addr × Obj)) (s : Shared) (σ : St) (H : Hp) (x y : V) (v u : Value) (Q : VK), Inv X pins σ H s → RelV x v → RelV y u → r x y H Q →
    wpAny (model X.prog X.w) X.A (f v u) (EP X pins σ Q) X.xe s
/-- a one-place operation -/
def UnR (X : Cx) (f : Value → Sem Value) (r : V → Hp → VK → Prop) : Prop :=
  ∀ (pins : List (Addr × Obj)) (s : Shared) (σ : St) (H : Hp) (x : V) (v : Value) (Q : VK), Inv X pins σ H s → RelV x v → r x H Q →
    wpAny (model X.prog X.w) X.A (f v) (EP X pins σ Q) X.xe s
/-- a call of a value that is known (a builtin, a type) with values -/
def CallR (X : Cx) (f : Value) (r : List V → Hp → VK → Prop) : Prop :=
  ∀ (pins : List (Addr × Obj)) (s : Shared) (σ : St) (H : Hp) (xs : List V) (us : List Value) (Q : VK), Inv X pins σ H s → Vals xs us → r xs H Q →
    wpAny (model X.prog X.w) X.A (call f us) (EP X pins σ Q) X.xe s
def tOp (r : R2) (ta tb : TE) : TE := fun σ H Q => ta σ H fun x H1 => tb σ H1 fun y H2 => r x y H2 Q
def tUn (r : V → Hp → VK → Prop) (ta : TE) : TE := fun σ H Q => ta σ H fun x H1 => r x H1 Q
/-- ints in, under C, and a value out -/
def rI (C : Int → Int → Prop) (g : Int → Int → V) : R2 := fun x y H Q => ∃ i j, x = .int i ∧ y = .int j ∧ C i j ∧ Q (g i j) H
def rI0 (g : Int → Int → V) : R2 := fun x y H Q => ∃ i j, x = .int i ∧ y = .int j ∧ Q (g i j) H
def rU (g : Int → V) : V → Hp → VK → Prop := fun x H Q => ∃ i, x = .int i ∧ Q (g i) H

section
variable {X : Cx} {a b c : Expr} {ta tb tc : TE} {pos : Pos}

theorem binT (ha : PE X a ta) (hb : PE X b tb) {pins : List (Addr × Obj)} {s : Shared} {σ : St} {H : Hp} {R : V → V → Hp → Prop} (I : Inv X pins σ H s)
    (h : ta σ H fun x H1 => tb σ H1 fun y H2 => R x y H2) {Q : Value → Shared → Prop} {f : Value → Value → Sem Value}
    (hf : ∀ v u s2 x y H2, Inv X pins σ H2 s2 → RelV x v → RelV y u → R x y H2 → wpAny (model X.prog X.w) X.A (f v u) Q X.xe s2) :
    wpAny (model X.prog X.w) X.A (eval a X.env) (fun v s₁ => wpAny (model X.prog X.w) X.A (eval b X.env) (fun u s₂ => wpAny (model X.prog X.w) X.A (f v u) Q X.xe s₂) X.xe s₁) X.xe s := by
  refine thn (ha pins s σ H _ I h) fun v s1 ⟨x, H1, I1, r1, q1⟩ => ?_
  refine thn (hb pins s1 σ H1 _ I1 q1) fun u s2 ⟨y, H2, I2, r2, q2⟩ => ?_
  exact hf v u s2 x y H2 I2 r1 r2 q2

theorem pe_op {op : Operator} {r : R2} (ho : OpR X (binaryOp op) r) (ha : PE X a ta) (hb : PE X b tb) : PE X (.BinOp a op b pos) (tOp r ta tb) := by
  intro pins s σ H Q I h
  exact wpAny_BinOp (binT ha hb I h fun v u s2 x y H2 I2 rx ry q => ho pins s2 σ H2 x y v u Q I2 rx ry q)
theorem pe_un {op : UnaryOp} {r : V → Hp → VK → Prop} (ho : UnR X (unaryOp op) r) (ha : PE X a ta) : PE X (.UnaryOp op a pos) (tUn r ta) := by
  intro pins s σ H Q I h
  exact UnaryOp_ (thn (ha pins s σ H _ I h) fun v s1 ⟨x, H1, I1, r1, q1⟩ => ho pins s1 σ H1 x v Q I1 r1 q1)
/-! ### ints -/
theorem opI {f : Value → Value → Sem Value} {C : Int → Int → Prop} {g : Int → Int → Int}
    (rule : ∀ (i j : Int) (t u : Tok) (s : Shared) (Q : Value → Shared → Prop) (E : Value → Shared → Prop), C i j → Q (.int (g i j) s.toks) { s with toks := s.toks + 1 } → wpAny (model X.prog X.w) X.A (f (.int i t) (.int j u)) Q E s) :
    OpR X f (rI C fun i j => .int (g i j)) := by
  intro pins s σ H x y v u Q I rx ry h
  obtain ⟨i, j, rfl, rfl, hc, q⟩ := h
  obtain ⟨t, rfl⟩ := rx
  obtain ⟨t', rfl⟩ := ry
  exact rule i j t t' s _ _ hc ⟨.int (g i j), H, I.tok _, ⟨_, rfl⟩, q⟩
theorem opI0 {f : Value → Value → Sem Value} {g : Int → Int → Int}
    (rule : ∀ (i j : Int) (t u : Tok) (s : Shared) (Q : Value → Shared → Prop) (E : Value → Shared → Prop), Q (.int (g i j) s.toks) { s with toks := s.toks + 1 } → wpAny (model X.prog X.w) X.A (f (.int i t) (.int j u)) Q E s) :
    OpR X f (rI0 fun i j => .int (g i j)) := by
  intro pins s σ H x y v u Q I rx ry h
  obtain ⟨i, j, rfl, rfl, q⟩ := h
  obtain ⟨t, rfl⟩ := rx
  obtain ⟨t', rfl⟩ := ry
  exact rule i j t t' s _ _ ⟨.int (g i j), H, I.tok _, ⟨_, rfl⟩, q⟩
theorem opB0 {f : Value → Value → Sem Value} {g : Int → Int → Bool}
    (rule : ∀ (i j : Int) (t u : Tok) (s : Shared) (Q : Value → Shared → Prop) (E : Value → Shared → Prop), Q (.bool (g i j)) s → wpAny (model X.prog X.w) X.A (f (.int i t) (.int j u)) Q E s) :
    OpR X f (rI0 fun i j => .bl (g i j)) := by
  intro pins s σ H x y v u Q I rx ry h
  obtain ⟨i, j, rfl, rfl, q⟩ := h
  obtain ⟨t, rfl⟩ := rx
  obtain ⟨t', rfl⟩ := ry
  exact rule i j t t' s _ _ ⟨.bl (g i j), H, I, rfl, q⟩

def CDiv (i j : Int) : Prop := 0 < j ∧ j < 1073741824
def CPow (i j : Int) : Prop := 0 ≤ j ∧ j ≤ 1000000 ∧ i.natAbs < 2 ^ 64
theorem op_add : OpR X (binaryOp .Add) (rI0 fun i j => .int (i + j)) := opI0 fun _ _ _ _ _ _ _ q => add_int q
theorem op_sub : OpR X (binaryOp .Sub) (rI0 fun i j => .int (i - j)) := opI0 fun _ _ _ _ _ _ _ q => sub_int q
/-- // by a positive divisor -/
theorem op_fdiv : OpR X (binaryOp .FloorDiv) (rI CDiv fun i j => .int (i / j)) := opI fun i j _ _ _ _ _ hc q => by
  have h1 : (0 : Int) < j := hc.1
  have h2 : j < 1073741824 := hc.2
  exact floordiv_int (by omega) (by rw [Int.fdiv_eq_ediv_of_nonneg i (by omega)]; exact q) (.inl (PyProof.noPylong_small (by omega)))
/-- % by a positive divisor of any size -/
theorem op_mod : OpR X (binaryOp .Mod) (rI (fun _ j => 0 < j) fun i j => .int (i % j)) := opI fun i j _ _ _ _ _ hc q => by
  have h1 : (0 : Int) < j := hc
  exact mod_int' (by omega) (by rw [Int.fmod_eq_emod_of_nonneg i (by omega)]; exact q)
theorem op_pow : OpR X (binaryOp .Pow) (rI CPow fun i j => .int (i ^ j.toNat)) := opI fun _ _ _ _ _ _ _ hc q => pow_int_small hc.1 hc.2.1 hc.2.2 q
theorem unI {f : Value → Sem Value} {g : Int → Int}
    (rule : ∀ (i : Int) (t : Tok) (s : Shared) (Q : Value → Shared → Prop) (E : Value → Shared → Prop), Q (.int (g i) s.toks) { s with toks := s.toks + 1 } → wpAny (model X.prog X.w) X.A (f (.int i t)) Q E s) :
    UnR X f (rU fun i => .int (g i)) := by
  intro pins s σ H x v Q I rx h
  obtain ⟨i, rfl, q⟩ := h
  obtain ⟨t, rfl⟩ := rx
  exact rule i t s _ _ ⟨.int (g i), H, I.tok _, ⟨_, rfl⟩, q⟩
theorem un_neg : UnR X (unaryOp .USub) (rU fun i => .int (-i)) := unI fun _ _ _ _ _ q => neg_int q
/-! ### bools among ints: n += (a < b) -/
end

/-! ### comparisons -/
section
variable {X : Cx} {a b c : Expr} {ta tb tc : TE} {pos : Pos}
theorem fin_bl {pins : List (Addr × Obj)} {σ : St} {H : Hp} {s : Shared} {Q : VK} {k k' : Bool} (I : Inv X pins σ H s) (q : Q (.bl k) H) (e : k = k') : EP X pins σ Q (.bool k') s := by
  subst e
  exact ⟨.bl k, H, I, rfl, q⟩
theorem op_lt : OpR X (compareOp .Lt) (rI0 fun i j => .bl (decide (i < j))) := opB0 fun _ _ _ _ _ _ _ q => lt_int q
theorem op_gt : OpR X (compareOp .Gt) (rI0 fun i j => .bl (decide (j < i))) := opB0 fun _ _ _ _ _ _ _ q => gt_int q
/-- is None, is not None: the right side a value none -/
theorem op_isN : OpR X (compareOp .Is) (fun x y H Q => y = .non ∧ Q (.bl (decide (x = .non))) H) := by
  intro pins s σ H x y v u Q I rx ry h
  obtain ⟨rfl, q⟩ := h
  cases ry
  refine is_none_gen (fin_bl I q ?_)
  cases x <;> first
    | (cases rx; rfl)
    | (obtain ⟨t, rfl⟩ := rx; rfl)
theorem nomark (b : Expr) {op : CmpOp} (h : op ≠ .In := by decide) (h2 : op ≠ .NotIn := by decide) : behindInMarks op b = false := by
  have e1 : (op == CmpOp.In) = false := by cases op <;> first | rfl | exact absurd rfl h
  have e2 : (op == CmpOp.NotIn) = false := by cases op <;> first | rfl | exact absurd rfl h2
  cases b <;> simp [behindInMarks, e1, e2]
/-- a comparison as a value; hm: nomark b, or (for in, not in) by with_unfolding_all rfl -/
theorem pe_cmpR {op : CmpOp} {r : R2} (ho : OpR X (compareOp op) r) (ha : PE X a ta) (hb : PE X b tb) (hm : behindInMarks op b = false) : PE X (.Compare a [op] [b] pos) (tOp r ta tb) := by
  intro pins s σ H Q I h
  exact wpAny_Compare1 (binT ha hb I h fun v u s2 x y H2 I2 rx ry q => ho pins s2 σ H2 x y v u Q I2 rx ry q) hm
/-- a reading of a value as a test -/
def tTest (t : TE) : TT := fun σ H Q => t σ H fun x H' => ∃ k, x = .bl k ∧ Q k H'
theorem pt_cmpR {op : CmpOp} {r : R2} (ho : OpR X (compareOp op) r) (ha : PE X a ta) (hb : PE X b tb) (hm : behindInMarks op b = false) : PT X (.Compare a [op] [b] pos) (tTest (tOp r ta tb)) := by
  intro pins s σ H Q I h
  refine wpAny_isTrue_Compare1 (thn (ha pins s σ H _ I h) fun v s1 ⟨x, H1, I1, r1, q1⟩ => thn (hb pins s1 σ H1 _ I1 q1) fun u s2 ⟨y, H2, I2, r2, q2⟩ =>
    thn (ho pins s2 σ H2 x y v u _ I2 r1 r2 q2) fun c s3 ⟨z, H3, I3, r3, k, e, q3⟩ => ?_) hm
  subst e
  cases r3
  exact wpAny_truthy_bool ⟨H3, I3, q3⟩
/-- a op1 b op2 c -/
def tChain (r r' : R2) (ta tb tc : TE) : TE := fun σ H Q => ta σ H fun x H1 => tb σ H1 fun y H2 => r x y H2 fun z H3 => ∃ k, z = .bl k ∧
  (if k = true then tc σ H3 fun w' H4 => r' y w' H4 Q else Q (.bl false) H3)
theorem pt_chain {op op' : CmpOp} {r r' : R2} (ho : OpR X (compareOp op) r) (ho' : OpR X (compareOp op') r') (ha : PE X a ta) (hb : PE X b tb) (hc : PE X c tc)
    (hm : lastMarks [op, op'] [b, c] = false := by with_unfolding_all rfl) : PT X (.Compare a [op, op'] [b, c] pos) (tTest (tChain r r' ta tb tc)) := by
  intro pins s σ H Q I h
  refine isTrue_chain (thn (ha pins s σ H _ I h) fun v s1 ⟨x, H1, I1, r1, q1⟩ => test_link (thn (hb pins s1 σ H1 _ I1 q1) fun u s2 ⟨y, H2, I2, r2, q2⟩ =>
    thn (ho pins s2 σ H2 x y v u _ I2 r1 r2 q2) fun d s3 ⟨z, H3, I3, r3, k, e, q3⟩ => ?_)) hm
  subst e
  cases r3
  refine wpAny_truthy_bool ?_
  cases k with
  | false =>
    obtain ⟨k', e', q'⟩ := q3
    cases e'
    exact ite_ff ⟨H3, I3, q'⟩
  | true =>
    refine ite_tt (test_last (thn (hc pins s3 σ H3 _ I3 q3) fun w' s4 ⟨z', H4, I4, r4, q4⟩ => thn (ho' pins s4 σ H4 y z' u w' _ I4 r2 r4 q4) fun d' s5 ⟨z2, H5, I5, r5, k2, e2, q5⟩ => ?_))
    subst e2
    cases r5
    exact wpAny_truthy_bool ⟨H5, I5, q5⟩

/-! ### truth -/
theorem line63 : (sizeLine : Nat) < 2 ^ 63 := by rw [sizeLine_eq]; decide
/-! ### strs and bytes -/
theorem op_add_str : OpR X (binaryOp .Add) (fun x y H Q => ∃ i j, x = .str i ∧ y = .str j ∧ i.length + j.length ≤ sizeLine ∧ Q (.str (i ++ j)) H) := by
  intro pins s σ H x y v u Q I rx ry h
  obtain ⟨i, j, rfl, rfl, hz, q⟩ := h
  obtain ⟨t, rfl⟩ := rx
  obtain ⟨t', rfl⟩ := ry
  exact add_str (fun t' tk => ⟨.str (i ++ j), H, I.tok _, ⟨_, rfl⟩, q⟩) hz
/-! ### scalar builtins, by CallR -/
theorem vals1 {x : V} {us : List Value} (r : Vals [x] us) : ∃ u, us = [u] ∧ RelV x u := by
  cases r with
  | cons r1 r2 => cases r2; exact ⟨_, rfl, r1⟩
theorem vals2 {x y : V} {us : List Value} (r : Vals [x, y] us) : ∃ u w', us = [u, w'] ∧ RelV x u ∧ RelV y w' := by
  cases r with
  | cons r1 r2 =>
    cases r2 with
    | cons r3 r4 => cases r4; exact ⟨_, _, rfl, r1, r3⟩
theorem call_max2 (hc : X.calm = true) : CallR X (.builtin "max") (fun xs H Q => ∃ i j, xs = [.int i, .int j] ∧ Q (.int (if j > i then j else i)) H) := by
  intro pins s σ H xs us Q I r h
  obtain ⟨i, j, rfl, q⟩ := h
  obtain ⟨u, w', rfl, ⟨t, rfl⟩, ⟨t', rfl⟩⟩ := vals2 r
  refine max_two_ints (I.ok.hd hc) fun h' tk k => ⟨_, H, I.kept k, ?_, q⟩
  by_cases hj : j > i
  · rw [if_pos hj, if_pos hj]; exact ⟨_, rfl⟩
  · rw [if_neg hj, if_neg hj]; exact ⟨_, rfl⟩
theorem call_min2 (hc : X.calm = true) : CallR X (.builtin "min") (fun xs H Q => ∃ i j, xs = [.int i, .int j] ∧ Q (.int (if j < i then j else i)) H) := by
  intro pins s σ H xs us Q I r h
  obtain ⟨i, j, rfl, q⟩ := h
  obtain ⟨u, w', rfl, ⟨t, rfl⟩, ⟨t', rfl⟩⟩ := vals2 r
  refine min_two_ints (I.ok.hd hc) fun h' tk k => ⟨_, H, I.kept k, ?_, q⟩
  by_cases hj : j < i
  · rw [if_pos hj, if_pos hj]; exact ⟨_, rfl⟩
  · rw [if_neg hj, if_neg hj]; exact ⟨_, rfl⟩
theorem call_int1 : CallR X (.type "int") (fun xs H Q => (∃ i, xs = [.int i] ∧ Q (.int i) H) ∨ ∃ k, xs = [.bl k] ∧ Q (.int (if k then 1 else 0)) H) := by
  intro pins s σ H xs us Q I r h
  rcases h with ⟨i, rfl, q⟩ | ⟨k, rfl, q⟩
  · obtain ⟨u, rfl, t, rfl⟩ := vals1 r
    exact call_int_int ⟨.int i, H, I, ⟨_, rfl⟩, q⟩
  · obtain ⟨u, rfl, r1⟩ := vals1 r
    cases r1
    exact call_int_bool ⟨.int (if k then 1 else 0), H, I.tok _, ⟨_, rfl⟩, q⟩
/-- len of a str, a bytes, a list, a tuple -/
def LenV (K : PySem.W.Frag) (x : V) (H : Hp) (n : Nat) : Prop :=
  match x with
  | .str y => y.length ≤ sizeLine ∧ n = y.length
  | .byt y => y.size ≤ sizeLine ∧ n = y.size
  | .ref p => (∃ xs, SqL K H p xs ∧ n = xs.length) ∨ ∃ xs, SqT K H p xs ∧ n = xs.length
  | _ => False
theorem call_len : CallR X (.builtin "len") (fun xs H Q => ∃ x n, xs = [x] ∧ LenV X.K x H n ∧ Q (.int n) H) := by
  intro pins s σ H xs us Q I r h
  obtain ⟨x, n, rfl, e, q⟩ := h
  obtain ⟨u, rfl, rx⟩ := vals1 r
  have hl := line63
  have hs : sizeLine = 16777216 := sizeLine_eq
  cases x with
  | str y =>
    obtain ⟨t, rfl⟩ := rx
    obtain ⟨hy, e'⟩ : y.length ≤ sizeLine ∧ n = y.length := e
    subst e'
    exact len_str (by omega) ⟨.int _, H, I.tok _, ⟨_, rfl⟩, q⟩
  | byt y =>
    obtain ⟨t, rfl⟩ := rx
    obtain ⟨hy, e'⟩ : y.size ≤ sizeLine ∧ n = y.size := e
    subst e'
    exact PySem.W.len_bytes (by omega) ⟨.int _, H, I.tok _, ⟨_, rfl⟩, q⟩
  | ref p =>
    cases rx
    have e' : (∃ xs, SqL X.K H p xs ∧ n = xs.length) ∨ ∃ xs, SqT X.K H p xs ∧ n = xs.length := e
    rcases e' with ⟨xs, hx, e'⟩ | ⟨xs, hx, e'⟩
    · subst e'
      obtain ⟨its, r', pl, hz⟩ := I.list hx
      have hlen := r'.length
      exact Calls.call_len_list pl.isList (by simp only [List.size_toArray]; omega) ⟨.int xs.length, H, I.tok _, ⟨_, by simp only [List.size_toArray]; rw [hlen]⟩, q⟩
    · subst e'
      obtain ⟨its, r', pl, hz⟩ := I.tuple hx
      have hlen := r'.length
      exact len_tuple pl (by simp only [List.size_toArray]; omega) ⟨.int xs.length, H, I.tok _, ⟨_, by simp only [List.size_toArray]; rw [hlen]⟩, q⟩
  | _ => exact (show False from e).elim
end
end L2

namespace L2
open PySem PySem.Spec PyProof.Rows

/-! ### an instance, its attributes a map -/
structure ObjM (h : Heap) (x dx C : Addr) (mA : Str → Option Value) : Prop where
  obj : h.get? x = some (PySem.W.instObj C dx)
  ns : h.Ns1 dx mA
  ne : dx ≠ x

theorem lookIn_ns {h : Heap} {dx : Addr} {mA : Str → Option Value} (n : h.Ns1 dx mA) : ∃ od, h.get? dx = some od ∧ ∀ name, PySem.W.lookIn name od = some (mA name) := by
  obtain ⟨o, es, ep, ho, hd, hk, _, hm⟩ := n
  refine ⟨o, ho, fun name => ?_⟩
  have e := hm name
  unfold nsFind findBy at e
  rw [← Array.find?_toList] at e
  unfold PySem.W.lookIn
  rw [hd]
  dsimp only
  split
  · rename_i y q
    rw [q] at e
    exact congrArg some e
  · rename_i q
    rw [q] at e
    have a : es.toList.any (·.refKey) = false := by
      rw [List.any_eq_false]
      intro y hy
      obtain ⟨z, t, hkey⟩ := hk y (Array.mem_toList_iff.mp hy)
      simp [DictEntry.refKey, hkey]
    have a' : ¬ es.toList.any (·.refKey) = true := by rw [a]; exact Bool.false_ne_true
    rw [if_neg a']
    exact congrArg some e

theorem ObjM.look {h : Heap} {x dx C : Addr} {mA : Str → Option Value} (I : ObjM h x dx C mA) : ∃ od, PySem.W.InstAt h x (PySem.W.instObj C dx) C (some od) ∧ ∀ name, PySem.W.lookIn name od = some (mA name) :=
  let ⟨od, ho, hl⟩ := lookIn_ns I.ns
  ⟨od, ⟨I.obj, rfl, rfl, ho⟩, hl⟩

section
variable {prog : Program} {w : World} {A : Around} {E : Value → Shared → Prop} {s : Shared} {K : PySem.W.Frag} {x dx C f : Addr} {mA : Str → Option Value} {name : Str} {v : Value}

end

/-! ### the attributes as a list of pairs -/
section
variable {P : Program} {w : World} {H H' : Hp} {h h' : Heap} {a C dx : Addr} {fs fs' : List (Str × V)}
theorem ins_get (hok : HOk P w H h) (e : H a = some (.ins C dx fs)) : ∃ mA, ObjM h a dx C mA ∧ (∀ f, RelO (fs.lookup f) (mA f)) ∧ PySem.Within mA (fs.map (·.1)) ∧ fs.length ≤ 1000 ∧ H dx = some (.own a) := by
  obtain ⟨d, z, ne, ob, mA, n, r, q⟩ := (show ObjOk P w H h a (.ins C dx fs) from hok a _ e)
  exact ⟨mA, ⟨ob, n, ne⟩, r, q, z, d⟩
end

/-! ### what of the text a class must have -/
structure Cls (K : PySem.W.Frag) (C : Addr) : Prop where
  pg : PySem.W.plainGet K C Str.empty = true
  hd : PySem.W.hasDictIn K C = true
  po : PySem.W.plainOver K C = true
  sa : PySem.W.findIn K (.ref C) "__setattr__" = some (some (.builtin "object.__setattr__"))
theorem Cls.get {K : PySem.W.Frag} {C : Addr} (c : Cls K C) (f : Str) : PySem.W.plainGet K C f = true := c.pg
section
variable {X : Cx} {pins : List (Addr × Obj)} {σ : St} {H : Hp} {s : Shared} {a C dx : Addr} {fs : List (Str × V)} {f : Str} {v : V} {A : Around} {E : Value → Shared → Prop}

/-- e.f where nothing but the object is asked: through attributeBase (super) and the last hold -/
theorem attr_of {prog : Program} {w : World} {env : Env} {e : Expr} {f : Str} {pos : Pos} {s : Shared} {Q : Value → Shared → Prop} (hb : attributeBase e f env (eval e env) = eval e env)
    (h : wpAny (model prog w) A (eval e env) (fun o s₁ => wpAny (model prog w) A (getAttr o f true) Q E s₁) E s) : wpAny (model prog w) A (eval (.Attribute e f pos) env) Q E s :=
  Attribute_any_ h (by rw [arm_eval_Attribute, hb])
end

/-! ### readings and rules -/
section
variable {X : Cx} {o e value : Expr} {f : Str} {pos pos' tpos : Pos} {ta tv : TE}
end

/-! ### isinstance -/
section
variable {X : Cx} {pins : List (Addr × Obj)} {σ : St} {H : Hp} {s : Shared} {A : Around} {E : Value → Shared → Prop} {Q : Value → Shared → Prop} {c : Value} {b : Bool}
/-- the type of a value, as the fragment's deciders take it; for an instance its class -/
inductive TyOf (K : PySem.W.Frag) (H : Hp) : V → Value → Prop where
  | non : TyOf K H .non (.type "NoneType")
  | bl (x : Bool) : TyOf K H (.bl x) (.type "bool")
  | int (i : Int) : TyOf K H (.int i) (.type "int")
  | str (x : Str) : TyOf K H (.str x) (.type "str")
  | flt (x : UInt64) : TyOf K H (.flt x) (.type "float")
  | lst {a : Addr} {xs : List V} (e : H a = some (.lst xs)) : TyOf K H (.ref a) (.type "list")
  | frz {a : Addr} {o : Obj} {xs : List V} (e : H a = some (.frz o (.lst xs))) : TyOf K H (.ref a) (.type "list")
  | tup {a : Addr} {xs : List V} (e : H a = some (.tup xs)) : TyOf K H (.ref a) (.type "tuple")
  | dK {a : Addr} {kvs : List (Key × V)} (e : H a = some (.dK kvs)) : TyOf K H (.ref a) (.type "dict")
  | dT {a : Addr} {kvs : List (List Key × V)} (e : H a = some (.dT kvs)) : TyOf K H (.ref a) (.type "dict")
  | ins {a C dx : Addr} {fs : List (Str × V)} (e : H a = some (.ins C dx fs)) (cl : Cls K C) (ha : PySem.W.findIn K (.ref C) "__class__" = some (some (.builtin "object.__class__")))
      (hn : PySem.W.specialIn K (.builtin "object.__class__") "__get__" = some (some (.builtin "getset_descriptor.__get__"))) (htk : PySem.W.takesIn K (.builtin "object.__class__") = some true)
      (hm : PySem.W.mroIn K C (.type "object") = some true) : TyOf K H (.ref a) (.ref C)
/-- isinstance(x, c) for one class c, a built-in or an own one: kitOne's answer -/
theorem isinst_ok {x : V} {u t : Value} (I : Inv X pins σ H s) (rx : RelV x u) (ty : TyOf X.K H x t) (e : PySem.W.kitOne X.K t c = some b) (h : ∀ tk, Q (.bool b) { s with toks := tk }) :
    wpAny (model X.prog X.w) A (call (.builtin "isinstance") [u, c]) Q E s := by
  cases ty with
  | non => cases (show u = Value.none from rx); exact PySem.W.kia_one PySem.W.kitx_none I.kIn True.intro e (fun z => nomatch z) h
  | bl y => cases (show u = Value.bool y from rx); exact PySem.W.kia_one PySem.W.kitx_bool I.kIn True.intro e (fun z => nomatch z) h
  | int i => obtain ⟨t, q⟩ := (show ∃ t, u = Value.int i t from rx); cases q; exact PySem.W.kia_one PySem.W.kitx_int I.kIn True.intro e (fun z => nomatch z) h
  | str y => obtain ⟨t, q⟩ := (show ∃ t, u = Value.str y t from rx); cases q; exact PySem.W.kia_one PySem.W.kitx_str I.kIn True.intro e (fun z => nomatch z) h
  | flt y => obtain ⟨t, q⟩ := (show ∃ t, u = Value.float y t from rx); cases q; exact PySem.W.kia_one PySem.W.kitx_float I.kIn True.intro e (fun z => nomatch z) h
  | @lst a xs ea =>
    cases (show u = Value.ref a from rx)
    obtain ⟨_, _, n, _, h1⟩ := (show ObjOk X.prog X.w H s.heap a (.lst xs) from I.hok a _ ea)
    exact PySem.W.kia_one PySem.W.kitx_list I.kIn ⟨_, h1, rfl⟩ e (fun z => nomatch z) h
  | @frz a ob xs ea =>
    cases (show u = Value.ref a from rx)
    obtain ⟨_, _, _, n, _, h1⟩ := (show ObjOk X.prog X.w H s.heap a (.frz ob (.lst xs)) from I.hok a _ ea)
    exact PySem.W.kia_one PySem.W.kitx_list I.kIn ⟨_, h1, rfl⟩ e (fun z => nomatch z) h
  | @tup a xs ea =>
    cases (show u = Value.ref a from rx)
    obtain ⟨_, _, _, p⟩ := (show ObjOk X.prog X.w H s.heap a (.tup xs) from I.hok a _ ea)
    obtain ⟨o, h1, h2, _⟩ := p.1
    exact PySem.W.kia_one PySem.W.kitx_tuple I.kIn ⟨o, h1, h2⟩ e (fun z => nomatch z) h
  | @dK a kvs ea =>
    cases (show u = Value.ref a from rx)
    obtain ⟨_, _, vs, _, p⟩ := (show ObjOk X.prog X.w H s.heap a (.dK kvs) from I.hok a _ ea)
    obtain ⟨o, es, ep, h1, h2, _⟩ := p
    exact PySem.W.kia_one PySem.W.kitx_dict I.kIn ⟨o, h1, h2.1⟩ e (fun z => nomatch z) h
  | @dT a kvs ea =>
    cases (show u = Value.ref a from rx)
    obtain ⟨_, _, xs, _, o, es, ep, h1, h2, _⟩ := (show ObjOk X.prog X.w H s.heap a (.dT kvs) from I.hok a _ ea)
    exact PySem.W.kia_one PySem.W.kitx_dict I.kIn ⟨o, h1, h2.1⟩ e (fun z => nomatch z) h
  | @ins a C dx fs ea cl ha hn htk hm =>
    cases (show u = Value.ref a from rx)
    obtain ⟨mA, O, _⟩ := ins_get I.hok ea
    obtain ⟨od, J, _⟩ := O.look
    exact PySem.W.kia_one (PySem.W.kitx_own (cl.get _) cl.hd ha hn htk hm) I.kIn J e (fun z => nomatch z) h
end
end L2

namespace L2
open PySem PySem.Spec PyProof.Rows

/-! ### room -/
structure Room (k : Nat) (A : Around) : Prop where
  hd : A.handled = none
  dp : A.depth + 3 * k + 5 < recursionLimit
  un : A.units + 16 * k + 200 < cLine
theorem Room.mono {j k : Nat} {A : Around} (r : Room k A) (h : j ≤ k) : Room j A := ⟨r.hd, by have := r.dp; omega, by have := r.un; omega⟩
theorem Room.deeper {k : Nat} {A : Around} (r : Room (k + 1) A) (env : Env) : Room k (A.deeper env) :=
  ⟨r.hd, by have := r.dp; show A.depth + 1 + 3 * k + 5 < _; omega, by have := r.un; show A.units + 3 + 16 * k + 200 < _; omega⟩
theorem make_depth {A : Around} {C : Addr} {us : List Value} {kw : List (Str × Value)} : (A.under (.builtin "type.__call__" ⟨.ref C :: us, kw⟩)).depth = A.depth + 1 := by
  first | rfl | simp [Around.under, Code.weight, Code.isCreation, Code.isGuard, Code.isCaller, Code.frames, Code.isFrame, guardIds]
theorem make_units {A : Around} {C : Addr} {us : List Value} {kw : List (Str × Value)} : (A.under (.builtin "type.__call__" ⟨.ref C :: us, kw⟩)).units = A.units + 1 := by
  first | rfl | simp [Around.under, Code.cUnits, Code.frames, Code.isFrame]
theorem Room.make {k : Nat} {A : Around} (r : Room (k + 1) A) (C : Addr) (us : List Value) (kw : List (Str × Value)) : Room k (A.under (.builtin "type.__call__" ⟨.ref C :: us, kw⟩)) :=
  ⟨r.hd, by have := r.dp; rw [make_depth]; omega, by have := r.un; rw [make_units]; omega⟩
theorem Room.depth {k : Nat} {A : Around} (r : Room k A) : A.depth < recursionLimit := by have := r.dp; omega
theorem Room.units {k : Nat} {A : Around} (r : Room k A) : A.units + 64 < cLine := by have := r.un; omega
/-! ### argument lists and displays -/
def tNil : TA := fun _ H Q => Q [] H
def tCons (ta : TE) (tr : TA) : TA := fun σ H Q => ta σ H fun x H1 => tr σ H1 fun xs H2 => Q (x :: xs) H2
section
variable {X : Cx} {e : Expr} {es : List Expr} {te : TE} {t : TA} {pos : Pos}
theorem pa_nil : PA X [] tNil := fun _ _ _ _ H Q I h => Calls.spliced_nil ⟨[], H, I, .nil, h⟩
theorem pa_cons (ha : PE X e te) (hr : PA X es t) (hs : starEach (e :: es) X.env = (false, eval e X.env) :: starEach es X.env := by rfl) : PA X (e :: es) (tCons te t) := by
  intro pos pins s σ H Q I h
  rw [hs]
  show wpAny _ _ (spliced ((false, eval e X.env) :: backTo pos (starEach es X.env))) _ _ s
  refine Calls.spliced_cons (thn (ha pins s σ H _ I h) fun u s1 ⟨x, H1, I1, r1, q1⟩ => ?_)
  exact thn (hr pos pins s1 σ H1 _ I1 q1) fun us s2 ⟨xs, H2, I2, r2, q2⟩ => ⟨x :: xs, H2, I2, .cons r1 r2, q2⟩

/-- a tuple, a list of written items -/
def tTup (t : TA) : TE := fun σ H Q => t σ H fun xs H1 => xs.length ≤ sizeLine ∧ ∀ p, H1 p = none → Q (.ref p) (upd H1 p (.tup xs))
def tLst (t : TA) : TE := fun σ H Q => t σ H fun xs H1 => xs.length ≤ sizeLine ∧ ∀ p, H1 p = none → Q (.ref p) (upd H1 p (.lst xs))
theorem pe_tup {x1} (h : PA X es t) : PE X (.Tuple es x1 pos) (tTup t) := by
  intro pins s σ H Q I hq
  refine wpAny_Tuple_spliced (thn (h pos pins s σ H _ I hq) fun us s1 ⟨xs, H1, I1, r, z, q⟩ => ⟨by rw [← r.length]; exact z, ?_⟩)
  have hf : H1 s1.heap.objs.size = none := I1.hok.fresh (Nat.le_refl _)
  refine ⟨.ref s1.heap.objs.size, upd H1 s1.heap.objs.size (.tup xs), I1.laid (t' := s1.toks) (fun b u e => Heap.get?_push_of_some _ e) (Nat.le_refl _) ?_, rfl, q _ hf⟩
  exact ⟨z, us, r, ⟨_, Heap.get?_push_size _ rfl, rfl, _, rfl⟩, NoDi.new _ _⟩
theorem pe_lst (h : PA X es t) : PE X (.List es pos) (tLst t) := by
  intro pins s σ H Q I hq
  refine wpAny_List_spliced (thn (h pos pins s σ H _ I hq) fun us s1 ⟨xs, H1, I1, r, z, q⟩ => ⟨by rw [← r.length]; exact z, ?_⟩)
  have hf : H1 s1.heap.objs.size = none := I1.hok.fresh (Nat.le_refl _)
  refine ⟨.ref s1.heap.objs.size, upd H1 s1.heap.objs.size (.lst xs), I1.laid (t' := s1.toks) (fun b u e => Heap.get?_push_of_some _ e) (Nat.le_refl _) ?_, rfl, q _ hf⟩
  exact ⟨z, us, 0, r, Heap.get?_push_size _ rfl⟩
end

/-! ### what a def promises -/
/-- a def's promise: the bound arguments in the parameters' order, the heap, the wanted end, the wanted exception -/
abbrev Sp := List V → Hp → VK → XK → Prop
/-- how an exception lies behind a call (file 08 gives it): the callers' frames, abstract heap and state ahead of the call, the wish, the exception, the state -/
abbrev CXT := List Env → Hp → Shared → XK → Value → Shared → Prop

/-- the state at a call -/
structure Env0 (P : Program) (w : World) (K : PySem.W.Frag) (mg : Str → Option Value) (base : Heap) (A : Around) (outer : List Env) (s : Shared) (H : Hp) : Prop where
  frames : A.frames = some outer
  mod : Mod K mg base
  bs : ∀ b o, base.get? b = some o → s.heap.get? b = some o ∧ H b = none
  bsz : base.objs.size ≤ s.heap.objs.size
  funs : s.heap.FunFrames base outer
  frf : ∀ b ∈ frs outer, H b = none
  hok : HOk P w H s.heap
  bare : AllBare s.gens
/-- a call's end -/
def CE (outer : List Env) (P : Program) (w : World) (H : Hp) (s : Shared) (Q : VK) (u : Value) (s' : Shared) : Prop :=
  ∃ v H', s'.os = s.os ∧ AllBare s'.gens ∧ Un (frs outer) [] H H' s.heap s'.heap ∧ HOk P w H' s'.heap ∧ RelV v u ∧ Q v H'
def CR (CX : CXT) (outer : List Env) (P : Program) (w : World) (H : Hp) (s : Shared) (Q : VK) (E : XK) (r : Result) (s' : Shared) : Prop :=
  match r with
  | .ok (.ret u) => CE outer P w H s Q u s'
  | .ok _ => False
  | .error e => CX outer H s E e s'
structure FnOk (P : Program) (w : World) (K : PySem.W.Frag) (mg : Str → Option Value) (base : Heap) (CX : CXT) (k : Nat) (f : Addr) (fd : FuncData) (ps : List Str) (sp : Sp) : Prop where
  len : ∀ vs H Q E, sp vs H Q E → vs.length = ps.length
  run : ∀ (A : Around) (outer : List Env) (s : Shared) (H : Hp) (args : Args) (us : List Value) (vs : List V) (Q : VK) (E : XK), Room k A → Env0 P w K mg base A outer s H → BindsTo s fd args (ps.zip us) → Vals vs us → sp vs H Q E →
    codeAny (model P w) A (.call (.ref f) args) (CR CX outer P w H s Q E) s
/-- a weaker promise -/
theorem FnOk.imp {P : Program} {w : World} {K : PySem.W.Frag} {mg : Str → Option Value} {base : Heap} {CX : CXT} {k : Nat} {f : Addr} {fd : FuncData} {ps : List Str} {sp sp' : Sp} (F : FnOk P w K mg base CX k f fd ps sp)
    (h : ∀ vs H Q E, sp' vs H Q E → sp vs H Q E) : FnOk P w K mg base CX k f fd ps sp' :=
  ⟨fun vs H Q E q => F.len vs H Q E (h _ _ _ _ q), fun A outer s H args us vs Q E hr he hb hv hs => F.run A outer s H args us vs Q E hr he hb hv (h _ _ _ _ hs)⟩

theorem Env0.make {P : Program} {w : World} {K : PySem.W.Frag} {mg : Str → Option Value} {base : Heap} {A : Around} {outer : List Env} {s : Shared} {H : Hp} (e : Env0 P w K mg base A outer s H) (C : Addr) (us : List Value) (kw : List (Str × Value)) :
    Env0 P w K mg base (A.under (.builtin "type.__call__" ⟨.ref C :: us, kw⟩)) outer s H := ⟨by first | exact e.frames | (simpa [Around.under, Code.envs, Code.isFrame, pushEnvs] using e.frames), e.mod, e.bs, e.bsz, e.funs, e.frf, e.hok, e.bare⟩
section
variable {X : Cx} {pins : List (Addr × Obj)} {σ : St} {H : Hp} {s s' : Shared}
/-- from a body: what a callee wants -/
theorem Inv.env0 (I : Inv X pins σ H s) : Env0 X.prog X.w X.K X.mg X.base X.A X.stack s H :=
  ⟨I.ok.frames, I.ok.mod, I.bs, Nat.le_trans I.ok.bsz I.sz, I.stack, I.stkFree, I.hok, I.bare⟩
/-- behind a call -/
theorem Inv.after {Q : VK} {u : Value} (I : Inv X pins σ H s) (h : CE X.stack X.prog X.w H s Q u s') : EP X pins σ Q u s' := by
  obtain ⟨v, H', os, bare, un, hok, r, q⟩ := h
  obtain ⟨hh, g, d, t, os'⟩ := s'
  obtain rfl : os' = s.os := os
  exact ⟨v, H', I.call (h' := hh) (g' := g) (d' := d) (t' := t) (ch := []) un hok bare (fun b z => absurd z (by simp)), r, q⟩
end

/-! ### calls -/
/-- f(..): the written arguments, then the defaults dvs; E: what is wanted of an exception -/
def tCall (sp : Sp) (dvs : List V) (E : XK) (t : TA) : TE := fun σ H Q => t σ H fun vs H1 => sp (vs ++ dvs) H1 Q E
/-- how the parameters are bound: us the positional arguments, kw the keywords' values by name, ds the defaults that fill up -/
def Binds (K : PySem.W.Frag) (fd : FuncData) (ps : List Str) (ds : List Value) : Prop :=
  ∀ (s : Shared) (us : List Value), K.In s.heap → (us ++ ds).length = ps.length → BindsTo s fd ⟨us, []⟩ (ps.zip (us ++ ds))
/-- every parameter is given -/
theorem Binds.all {K : PySem.W.Frag} {fd : FuncData} {ps : List Str} (h : ∀ us : List Value, us.length = ps.length → bindArgs fd ⟨us, []⟩ = pure (ps.zip us)) : Binds K fd ps [] := fun s us _ hl => by
  rw [List.append_nil] at hl ⊢
  exact .of_eq (h us hl)

/-- an exception of a callee reaches what this body wants of exceptions -/
def Passes (CX : CXT) (X : Cx) (E : XK) : Prop := ∀ (pins : List (Addr × Obj)) (σ : St) (H : Hp) (s : Shared) (e : Value) (s' : Shared), Inv X pins σ H s → CX X.stack H s E e s' → X.xe e s'

section
variable {X : Cx} {CX : CXT} {k : Nat} {f C : Addr} {fd : FuncData} {ps : List Str} {sp : Sp} {dvs : List V} {ds : List Value} {E : XK} {x m : Str} {p pos apos : Pos} {e o : Expr} {es : List Expr} {ta : TE} {t : TA}

/-- the callee runs -/
theorem run_fn {pins : List (Addr × Obj)} {σ : St} {H : Hp} {s : Shared} {Q : VK} {us : List Value} {vs : List V} (F : FnOk X.prog X.w X.K X.mg X.base CX k f fd ps sp) (hr : Room k X.A) (hb : Binds X.K fd ps ds) (hd : Vals dvs ds) (hx : Passes CX X E)
    (I : Inv X pins σ H s) (r : Vals vs us) (h : sp (vs ++ dvs) H Q E) : wpAny (model X.prog X.w) X.A (call (.ref f) us) (EP X pins σ Q) X.xe s := by
  have r2 : Vals (vs ++ dvs) (us ++ ds) := r.append hd
  have hl : (us ++ ds).length = ps.length := by rw [← r2.length]; exact F.len _ _ _ _ h
  refine wpAny_call (codeAny_mono (F.run X.A X.stack s H ⟨us, []⟩ (us ++ ds) (vs ++ dvs) Q E hr I.env0 (hb s us I.kIn hl) r2 h) fun r s' hq => ?_)
  cases r with
  | error e => exact hx pins σ H s e s' I hq
  | ok fl =>
    cases fl with
    | ret u => exact I.after hq
    | next => exact False.elim hq
    | brk => exact False.elim hq
    | cont => exact False.elim hq

theorem pe_call (F : FnOk X.prog X.w X.K X.mg X.base CX k f fd ps sp) (hr : Room k X.A) (hg : Gl X x) (hm : X.mg x = some (.ref f)) (hk : PySem.W.keepIn X.K (.ref f) = true) (hb : Binds X.K fd ps ds) (hd : Vals dvs ds) (hx : Passes CX X E)
    (ha : PA X (e :: es) t) (hdb : (x == ("__debug__" : Str)) = false := by decide) (he : starEach (e :: es) X.env = (false, eval e X.env) :: starEach es X.env := by rfl) (hpl : (backTo pos (starEach es X.env)).any (·.1) = false := by rfl) :
    PE X (.Call (.Name x p) (e :: es) [] pos) (tCall sp dvs E t) := by
  intro pins s σ H Q I h
  refine wpAny_Call_Name_kw (ld_glob I hg hm ?_ hdb)
  refine PySem.W.callWith_K (h₀ := X.base) I.ok.mod.kin hk (thn (ha pos pins s σ H _ I h) fun us s1 ⟨vs, H1, I1, r, q⟩ => ⟨I1.kIn, ?_⟩) he hpl
  exact run_fn F hr hb hd hx I1 r q
theorem pe_call0 (F : FnOk X.prog X.w X.K X.mg X.base CX k f fd ps sp) (hr : Room k X.A) (hg : Gl X x) (hm : X.mg x = some (.ref f)) (hk : PySem.W.keepIn X.K (.ref f) = true) (hb : Binds X.K fd ps ds) (hd : Vals dvs ds) (hx : Passes CX X E)
    (hdb : (x == ("__debug__" : Str)) = false := by decide) : PE X (.Call (.Name x p) [] [] pos) (tCall sp dvs E tNil) := by
  intro pins s σ H Q I h
  refine wpAny_Call_Name_kw (ld_glob I hg hm ?_ hdb)
  exact PySem.W.callWith_K0 I.kIn hk (run_fn (us := []) F hr hb hd hx I .nil h)

end

/-! ### keywords -/
section
variable {X : Cx} {CX : CXT} {k : Nat} {f C : Addr} {fd : FuncData} {ps ks : List Str} {sp : Sp} {E : XK} {x m : Str} {p pos apos kpos : Pos} {e o : Expr} {es : List Expr} {kws : List Keyword} {te ta : TE} {t tk : TA} {nm : Option Str}
variable {g : List Value → List Value → List Value} {gV : List V → List V → List V}
end

/-! ### a def's body keeps its promise -/
/-- names: the parameters first -/
structure FnScope (N P : List Str) (sc : Scope) : Prop where
  kind : sc.kind = .function
  co : sc.isCoroutine = false
  gen : sc.isGenerator = false
  nd : N.Nodup
  pre : N.take P.length = P
  par : ∀ x ∈ P, sc.names.lookup x = some .local ∨ sc.names.lookup x = some .cell
  nofree : ∀ y ∈ sc.names, y.2 ≠ .free

theorem bindL_out {kindOf : Str → Option NameKind} {x : Str} : ∀ {binds : List (Str × Value)} {m : Str → Option Value}, (∀ v, (x, v) ∉ binds) → bindL kindOf binds m x = m x
  | [], _, _ => rfl
  | (n, v) :: r, m, h => by
    unfold bindL
    rw [bindL_out fun w hw => h w (List.mem_cons_of_mem _ hw)]
    split
    · have : x ≠ n := by rintro rfl; exact h v List.mem_cons_self
      simp [this]
    · rfl
theorem bindC_out {kindOf : Str → Option NameKind} {x : Str} : ∀ {binds : List (Str × Value)} {m : Str → Option Value}, (∀ v, (x, v) ∉ binds) → bindC kindOf binds m x = m x
  | [], _, _ => rfl
  | (n, v) :: r, m, h => by
    unfold bindC
    rw [bindC_out fun w hw => h w (List.mem_cons_of_mem _ hw)]
    split
    · rfl
    · have : x ≠ n := by rintro rfl; exact h v List.mem_cons_self
      simp [this]
theorem bindL_get {kindOf : Str → Option NameKind} {x : Str} {v : Value} : ∀ {P : List Str} {vs : List Value} {i : Nat} {m : Str → Option Value}, P.Nodup → P[i]? = some x → vs[i]? = some v → kindOf x = some .local →
    bindL kindOf (P.zip vs) m x = some v
  | [], _, _, _, _, h, _, _ => by simp at h
  | _ :: _, [], _, _, _, _, h, _ => by simp at h
  | p :: P, w :: vs, 0, m, nd, h1, h2, hk => by
    simp at h1 h2; subst h1; subst h2
    show bindL kindOf ((p, w) :: P.zip vs) m p = _
    unfold bindL
    rw [bindL_out fun v hv => (List.nodup_cons.mp nd).1 (List.of_mem_zip hv).1, if_pos hk]
    simp
  | p :: P, w :: vs, i + 1, m, nd, h1, h2, hk => by
    show bindL kindOf ((p, w) :: P.zip vs) m x = _
    unfold bindL
    exact bindL_get (i := i) (List.nodup_cons.mp nd).2 (by simpa using h1) (by simpa using h2) hk
theorem bindC_get {kindOf : Str → Option NameKind} {x : Str} {v : Value} : ∀ {P : List Str} {vs : List Value} {i : Nat} {m : Str → Option Value}, P.Nodup → P[i]? = some x → vs[i]? = some v → kindOf x ≠ some .local →
    bindC kindOf (P.zip vs) m x = some v
  | [], _, _, _, _, h, _, _ => by simp at h
  | _ :: _, [], _, _, _, _, h, _ => by simp at h
  | p :: P, w :: vs, 0, m, nd, h1, h2, hk => by
    simp at h1 h2; subst h1; subst h2
    show bindC kindOf ((p, w) :: P.zip vs) m p = _
    unfold bindC
    rw [bindC_out fun v hv => (List.nodup_cons.mp nd).1 (List.of_mem_zip hv).1, if_neg hk]
    simp
  | p :: P, w :: vs, i + 1, m, nd, h1, h2, hk => by
    show bindC kindOf ((p, w) :: P.zip vs) m x = _
    unfold bindC
    exact bindC_get (i := i) (List.nodup_cons.mp nd).2 (by simpa using h1) (by simpa using h2) hk

/-- the names' values at the entry -/
def start (N : List Str) (vs : List V) : St := vs.map some ++ List.replicate (N.length - vs.length) none

/-- the context of a def's body, at its entry; an exception leaves the frame, then lies as CX says -/
def cxOf (CX : CXT) (P : Program) (w : World) (K : PySem.W.Frag) (mg : Str → Option Value) (base : Heap) (N : List Str) (qual : Str) (scope : Scope) (f : Addr) (cd : Value) (A : Around) (outer : List Env) (s : Shared) (H : Hp) (E : XK) : Cx where
  prog := P
  w := w
  K := K
  mg := mg
  base := base
  A := A.deeper (envOfC qual scope s.heap.objs.size f cd)
  N := N
  s₀ := s
  H₀ := H
  env := envOfC qual scope s.heap.objs.size f cd
  outer := outer
  stack := envOfC qual scope s.heap.objs.size f cd :: outer
  ex := []
  calm := true
  fn := fun _ => true
  pn := []
  xe := fun e s' => wpAny (model P w) (A.deeper (envOfC qual scope s.heap.objs.size f cd)) (leaving (envOfC qual scope s.heap.objs.size f cd) e) (fun _ s'' => CX outer H s E e s'') (fun e' s'' => CX outer H s E e' s'') s'

theorem cell_has {sc : Scope} {n : Nat} {x : Str} (h : sc.names.lookup x = some .cell) : ∃ c, (cellsFrom n sc.names []).lookup x = some c := by
  have q := PySem.W.cellsFrom_some sc.names n [] (.inl h)
  exact Option.isSome_iff_exists.mp q

theorem inv_start {CX : CXT} {P : Program} {w : World} {K : PySem.W.Frag} {mg : Str → Option Value} {base : Heap} {N ps : List Str} {qual : Str} {scope : Scope} {f : Addr} {cd : Value} {A : Around} {outer : List Env} {s s1 : Shared} {H : Hp} {E : XK} {us : List Value} {vs : List V}
    (S : FnScope N ps scope) (hd : A.handled = none) (e0 : Env0 P w K mg base A outer s H) (hl : vs.length = ps.length) (r : Vals vs us)
    (x : InCallC s s.heap.objs.size (bindL (envOfC qual scope s.heap.objs.size f cd).kindOf (ps.zip us) fun _ => none) (cellsFrom (s.heap.objs.size + 1) scope.names []) (bindC (envOfC qual scope s.heap.objs.size f cd).kindOf (ps.zip us) fun _ => none) s1) :
    Inv (cxOf CX P w K mg base N qual scope f cd A outer s H E) [] (start N vs) H s1 := by
  have hpl : ps.length ≤ N.length := by have := congrArg List.length S.pre; rw [List.length_take] at this; omega
  obtain ⟨h1, tk, rfl, hk⟩ := x.done
  have noA : ∀ b : Addr, b ∉ (cxOf CX P w K mg base N qual scope f cd A outer s H E).ex := fun b z => absurd (show b ∈ ([] : List Addr) from z) (by simp)
  refine ⟨⟨e0.mod, S.kind, rfl, rfl, Nat.le_refl _, fun y z c h1 h2 => ?_, fun y hy => ?_, fun y c _ h => ?_, fun _ => hd, Around.frames_deeper e0.frames, .inr ⟨rfl, rfl⟩, fun b z => absurd z (noA b), e0.bs, e0.bsz, fun b _ _ => noA b, fun b z => absurd z (noA b), e0.funs, e0.frf⟩,
    rfl, e0.bare, Un.kept hk, ⟨_, x.toInCall.ns, fun i y v h1 h2 h3 => ?_⟩, fun y c h => ⟨_, x.cell y c h⟩, e0.hok.fresh (Nat.le_refl _), fun y c h => ?_, fun p hp => absurd (show p ∈ ([] : List (Addr × Obj)) from hp) (by simp), e0.hok.kept hk, ?_⟩
  · exact name_of_addr x.apart (PySem.mem_of_lookup h1) (PySem.mem_of_lookup h2)
  · have hy : scope.names.lookup y = some .cell ∨ scope.names.lookup y = some .free := hy
    rcases hy with hy | hy
    · exact cell_has hy
    · exact absurd rfl (S.nofree _ (PySem.mem_of_lookup hy))
  · exact Nat.le_of_lt (x.above y c (PySem.mem_of_lookup h))
  · have hi : i < vs.length := by
      unfold start at h2
      by_cases hi : i < vs.length
      · exact hi
      · rw [List.getElem?_append_right (by simpa using hi)] at h2
        rw [List.getElem?_replicate] at h2
        split at h2 <;> cases h2
    have ha : vs[i]? = some v := by
      unfold start at h2
      rw [List.getElem?_append_left (by simpa using hi), List.getElem?_map] at h2
      cases e : vs[i]? with
      | none => rw [e] at h2; cases h2
      | some a => rw [e] at h2; cases h2; rfl
    obtain ⟨u, hu, rv⟩ := r.get ha
    have hp : ps[i]? = some y := by
      rw [← S.pre, List.getElem?_take_of_lt (by omega)]; exact h1
    have ndP : ps.Nodup := by rw [← S.pre]; exact S.nd.sublist (List.take_sublist _ _)
    refine ⟨u, rv, ?_⟩
    rcases S.par y (List.mem_of_getElem? hp) with k | k
    · exact .inl ⟨k, bindL_get ndP hp hu k⟩
    · obtain ⟨c, e⟩ := cell_has (n := s.heap.objs.size + 1) k
      refine .inr ⟨.inl k, c, e, ?_⟩
      have q := x.cell y c e
      rw [bindC_get ndP hp hu (by show scope.names.lookup y ≠ _; rw [k]; decide)] at q
      exact q
  · exact e0.hok.fresh (Nat.le_of_lt (x.above y c (PySem.mem_of_lookup h)))
  · unfold start
    show _ = N.length
    rw [List.length_append, List.length_map, List.length_replicate]
    omega

/-- THE RULE: a def (or a method) of the text, by its body. The body's reading t is chosen for each entry; it is run at the parameters' values -/
theorem fn_of {CX : CXT} {P : Program} {w : World} {K : PySem.W.Frag} {mg : Str → Option Value} {base : Heap} {k : Nat} {f : Addr} {name qual : Str} {params : Arguments} {body : List Stmt} {scope : Scope} {dV kV doc pm cdv ct oc : Value} {an od : Option Addr}
    {osl : Array (Option Value)} {N ps : List Str} {sp : Sp} (lk : K.lookup f = some ⟨oc, od, .func (PySem.W.fnOf name qual params body scope dV kV doc pm an cdv ct), osl⟩) (hcd : PySem.W.codeIn K cdv qual = true) (S : FnScope N ps scope)
    (len : ∀ vs H Q E, sp vs H Q E → vs.length = ps.length)
    (hbody : ∀ (A : Around) (outer : List Env) (s : Shared) (H : Hp) (vs : List V) (Q : VK) (E : XK), Room k (A.deeper (envOfC qual scope s.heap.objs.size f cdv)) → sp vs H Q E →
      ∃ t, PSs (cxOf CX P w K mg base N qual scope f cdv A outer s H E) body t ∧ t { nx := fun _ H' => Q .non H', rt := Q } (start N vs) H) :
    FnOk P w K mg base CX (k + 1) f (PySem.W.fnOf name qual params body scope dV kV doc pm an cdv ct) ps sp := by
  refine ⟨len, fun A outer s H args us vs Q E hr e0 hb r hsp => ?_⟩
  have hl := len _ _ _ _ hsp
  have KX : K.In s.heap := e0.mod.kin.keeps fun b o e => (e0.bs b o e).1
  have lim : s.heap.NoLimit := e0.mod.nolimit.keeps fun b o e => (e0.bs b o e).1
  have hkind : ∀ y ∈ ps.zip us, scope.names.lookup y.1 = some .local ∨ (scope.names.lookup y.1 = some .cell ∧ ((cellsFrom (s.heap.objs.size + 1) scope.names []).lookup y.1).isSome = true) := fun ⟨n, v⟩ hy => by
    rcases S.par n (List.of_mem_zip hy).1 with q | q
    · exact .inl q
    · exact .inr ⟨q, PySem.W.cellsFrom_some _ _ _ (.inl q)⟩
  refine codeAny_call_function hr.depth (KX _ _ lk) rfl S.co S.gen rfl (PySem.W.codeRec_of KX hcd) (hb _ _ _ _ ?_)
  refine wpAny_newFunctionEnv_cells S.kind hkind fun env he s1 x => ?_
  subst he
  refine ⟨lim.keeps x.toInCall.keep, codeAny_func ?_⟩
  obtain ⟨t, ht, hq⟩ := hbody A outer s H vs Q E (hr.deeper _) hsp
  have I : Inv (cxOf CX P w K mg base N qual scope f cdv A outer s H E) [] (start N vs) H s1 := inv_start S hr.hd e0 hl r x
  refine wpAny_mono (ht [] s1 (start N vs) H _ I hq) (fun fl s' hs => ?_) fun e s' hs => hs
  have fin : ∀ {σ' : St} {H' : Hp} {v : V} {u : Value}, Inv (cxOf CX P w K mg base N qual scope f cdv A outer s H E) [] σ' H' s' → RelV v u → Q v H' → CE outer P w H s Q u s' :=
    fun {σ' H' v u} J rv q => ⟨v, H', J.os, J.bare, J.base, J.hok, rv, q⟩
  cases fl with
  | ret u =>
    obtain ⟨v, σ', H', J, rv, q⟩ := hs
    exact fin J rv q
  | next =>
    obtain ⟨σ', H', J, q⟩ := hs
    exact fin (v := V.non) (u := Value.none) J rfl q
  | brk =>
    obtain ⟨_, _, _, q⟩ := hs
    exact False.elim q
  | cont =>
    obtain ⟨_, _, _, q⟩ := hs
    exact False.elim q
end L2

namespace L2
open PySem PySem.Spec PyProof.Rows
section
variable {X : Cx} {x : Str} {p pos : Pos} {e : Expr} {es : List Expr} {t : TA} {id T : String} {r : List V → Hp → VK → Prop}

def tCB (r : List V → Hp → VK → Prop) (t : TA) : TE := fun σ H Q => t σ H fun vs H1 => r vs H1 Q
/-- f(e, ..), f a built-in function -/
theorem pe_callB (hc : CallR X (.builtin id) r) (hg : Gl X x) (hm : X.mg x = none) (hv : bootBuiltins x = some (.builtin id)) (ha : PA X (e :: es) t) (hn : x ≠ "__name__" := by decide) (hdb : (x == ("__debug__" : Str)) = false := by decide)
    (he : starEach (e :: es) X.env = (false, eval e X.env) :: starEach es X.env := by rfl) (hpl : (backTo pos (starEach es X.env)).any (·.1) = false := by rfl) : PE X (.Call (.Name x p) (e :: es) [] pos) (tCB r t) := by
  intro pins s σ H Q I h
  refine wpAny_Call_Name_kw (ld_blt I hg hm hv ?_ hn hdb)
  exact PyProof.Rows.callWith_builtin1 (thn (ha pos pins s σ H _ I h) fun us s1 ⟨vs, H1, I1, r1, q1⟩ => hc pins s1 σ H1 vs us Q I1 r1 q1) he hpl
/-- T(e, ..), T a built-in type -/
theorem pe_callTy (hc : CallR X (.type T) r) (hg : Gl X x) (hm : X.mg x = none) (hv : bootBuiltins x = some (.type T)) (ha : PA X (e :: es) t) (hn : x ≠ "__name__" := by decide) (hdb : (x == ("__debug__" : Str)) = false := by decide)
    (he : starEach (e :: es) X.env = (false, eval e X.env) :: starEach es X.env := by rfl) (hpl : (backTo pos (starEach es X.env)).any (·.1) = false := by rfl) : PE X (.Call (.Name x p) (e :: es) [] pos) (tCB r t) := by
  intro pins s σ H Q I h
  refine wpAny_Call_Name_kw (ld_blt I hg hm hv ?_ hn hdb)
  exact PyProof.Rows.callWith_type1 (thn (ha pos pins s σ H _ I h) fun us s1 ⟨vs, H1, I1, r1, q1⟩ => hc pins s1 σ H1 vs us Q I1 r1 q1) he hpl
end
end L2

namespace HT
open PySem PyProof.Rows

section
open PySem.SeqAt
open PySem.AutoSeq1 (wpAny_loadPart')
open PySem.MeetsSeq PySem.MeetsSeq2 PySem.MeetsSeq3

end

section
variable {prog : Program} {w : World} {A : Around} {E : Value → Shared → Prop} {s : Shared}

/-- t + u, t not empty -/
theorem cat_tup {t b : Addr} {vs ws : List Value} {Q : Value → Shared → Prop} (ht : IsTup s.heap t vs.toArray) (hb : IsTup s.heap b ws.toArray) (hv : vs ≠ [])
    (h1 : ws = [] → Q (.ref t) s) (h2 : ws ≠ [] → Q (.ref s.heap.objs.size) { s with heap := s.heap.push { cls := .type "tuple", data := .seq (vs ++ ws).toArray } })
    (hsz : vs.length + ws.length ≤ sizeLine) : wpAny (model prog w) A (binaryOp .Add (.ref t) (.ref b)) Q E s := by
  obtain ⟨⟨cls, dd, data, sl⟩, ho, hc, n, hd⟩ := id ht
  obtain ⟨⟨cls2, dd2, data2, sl2⟩, ho2, hc2, n2, hd2⟩ := id hb
  simp only at hc hd hc2 hd2
  subst hc hd hc2 hd2
  have e : vs.toArray ++ ws.toArray = (vs ++ ws).toArray := by simp
  by_cases hw : ws = []
  · exact concat_meets ⟨_, ho, rfl⟩ ⟨_, ho2, rfl⟩ noFill_tuple_add seq_tuple_add PySem.F.slot_tuple_add PySem.F.entry_tuple_add (PySem.F.args_tuple_add_2 _ _)
      (tuple_addW1 t b vs.toArray ws.toArray n n2 dd dd2 sl sl2 (by simpa using hv) (by simp [hw])) ⟨ho, ho2, h1 hw⟩
  · refine concat_meets ⟨_, ho, rfl⟩ ⟨_, ho2, rfl⟩ noFill_tuple_add seq_tuple_add PySem.F.slot_tuple_add PySem.F.entry_tuple_add (PySem.F.args_tuple_add_2 _ _)
      (tuple_addW2 t b vs.toArray ws.toArray n n2 dd dd2 sl sl2 (by simpa using hv) (by simpa using hw) (by rw [List.size_toArray, List.size_toArray]; exact hsz)) ⟨ho, ho2, ?_⟩
    rw [e]
    exact h2 hw

/-! ### t[a:b], not the whole -/
/-- a slice's bound as a place among n (d where it is left out) -/
def sIx (n d : Nat) : Option Int → Nat
  | none => d
  | some v => if v < 0 then (v + (n : Int)).toNat else min v.toNat n
theorem sIx_none (n d : Nat) : sIx n d none = d := rfl
theorem sIx_nat (n d k : Nat) : sIx n d (some (k : Int)) = min k n := by
  show (if (k : Int) < 0 then ((k : Int) + (n : Int)).toNat else min (k : Int).toNat n) = min k n
  rw [if_neg (by omega), Int.toNat_natCast]
theorem sIx_le (n d : Nat) (hd : d ≤ n) (o : Option Int) : sIx n d o ≤ n := by
  cases o with
  | none => exact hd
  | some v =>
    show (if v < 0 then (v + (n : Int)).toNat else min v.toNat n) ≤ n
    by_cases hv : v < 0
    · rw [if_pos hv]; omega
    · rw [if_neg hv]; exact Nat.min_le_right _ _
theorem clip_eq (v : Int) (n d : Nat) : (if v < 0 then max (v + (n : Int)) 0 else min v (n : Int)) = ((sIx n d (some v) : Nat) : Int) := by
  show (if v < 0 then max (v + (n : Int)) 0 else min v (n : Int)) = (((if v < 0 then (v + (n : Int)).toNat else min v.toNat n) : Nat) : Int)
  by_cases hv : v < 0
  · simp only [if_pos hv]; omega
  · simp only [if_neg hv]; omega
theorem adjust_gen (lo hi : Option Int) (n : Nat) : Builtin.Slice.sliceAdjust lo hi 1 (n : Int) = (((sIx n 0 lo : Nat) : Int), ((sIx n n hi : Nat) : Int)) := by
  have h1 : ¬ ((1 : Int) < 0) := by omega
  unfold Builtin.Slice.sliceAdjust
  simp only [h1, if_false]
  refine Prod.ext ?_ ?_
  · cases lo with
    | none => rfl
    | some v => exact clip_eq v n 0
  · cases hi with
    | none => rfl
    | some v => exact clip_eq v n n
theorem places_gen (i j : Nat) : Builtin.Slice.slicePlaces (i : Int) (j : Int) 1 = j - i := by
  unfold Builtin.Slice.slicePlaces
  have h1 : (1 : Int) > 0 := by omega
  simp only [h1, if_true, Int.ediv_one]
  split <;> omega
theorem slicePart_ {v : Value} {o : Option Int} {Q : Option Int → Shared → Prop} (p : IsPart v o) (h : Q o s) : wpAny (model prog w) A (Builtin.Slice.slicePartIndex v) Q E s := by
  cases p with
  | none => exact slicePart_none h
  | int i t => exact slicePart_int h
theorem sliceApplied_gen {sl : Addr} {vl vu : Value} {lo hi : Option Int} {n : Nat} {Q : Int × Int × Nat → Shared → Prop} (hs : s.heap.IsSliceOf sl vl vu .none) (pl : IsPart vl lo) (pu : IsPart vu hi)
    (h : Q (((sIx n 0 lo : Nat) : Int), 1, sIx n n hi - sIx n 0 lo) s) : wpAny (model prog w) A (Builtin.Slice.sliceApplied (.ref sl) (pure (n : Int))) Q E s := by
  obtain ⟨os, hos, hcs, hds⟩ := id hs
  unfold Builtin.Slice.sliceApplied Builtin.Slice.sliceFields
  refine wpAny_bind (wpAny_bind (wpAny_field hos hds (x := vl) rfl (wpAny_bind (wpAny_field hos hds (x := vu) rfl (wpAny_bind (wpAny_field hos hds (x := .none) rfl (wpAny_pure ?_)))))))
  refine wpAny_bind (slicePart_none ?_)
  show wpAny _ _ (if ((1 : Int) == 0) = true then _ else _) _ _ s
  rw [if_neg (by decide)]
  refine wpAny_bind (slicePart_ pl (wpAny_bind (slicePart_ pu (wpAny_bind (wpAny_pure ?_)))))
  show wpAny _ _ (match Builtin.Slice.sliceAdjust lo hi 1 (n : Int) with | (lo, hi) => pure (lo, (1 : Int), Builtin.Slice.slicePlaces lo hi 1)) _ _ s
  rw [adjust_gen lo hi n]
  show wpAny _ _ (pure (((sIx n 0 lo : Nat) : Int), (1 : Int), Builtin.Slice.slicePlaces ((sIx n 0 lo : Nat) : Int) ((sIx n n hi : Nat) : Int) 1)) _ _ s
  rw [places_gen]
  exact wpAny_pure h
theorem pick_gen (xs : Array Value) (i k : Nat) : ((List.range k).filterMap fun (m : Nat) => xs[((i : Int) + (m : Int) * 1).toNat]?).toArray = ((xs.toList.drop i).take k).toArray := by
  have e : (fun (m : Nat) => xs[((i : Int) + (m : Int) * 1).toNat]?) = fun m => xs[i + m]? := by
    funext m
    have : ((i : Int) + (m : Int) * 1).toNat = i + m := by omega
    rw [this]
  rw [e]
  have := pick_run xs i k
  rw [List.filterMap_map] at this
  have e2 : ((fun x => xs[x]?) ∘ fun x => i + x) = fun m => xs[i + m]? := rfl
  rw [e2] at this
  rw [this]

theorem getItem_tuple_cut {t sl : Addr} {items : Array Value} {vl vu : Value} {lo hi : Option Int} {Q : Value → Shared → Prop} (ht : IsTup s.heap t items) (hs : s.heap.IsSliceOf sl vl vu .none) (pl : IsPart vl lo) (pu : IsPart vu hi)
    (hw : ¬ (sIx items.size 0 lo = 0 ∧ sIx items.size items.size hi = items.size))
    (h : Q (.ref s.heap.objs.size) { s with heap := s.heap.push { cls := .type "tuple", data := .seq ((items.toList.drop (sIx items.size 0 lo)).take (sIx items.size items.size hi - sIx items.size 0 lo)).toArray } })
    (hsz : items.size ≤ sizeLine) : wpAny (model prog w) A (getItem (.ref t) (.ref sl)) Q E s := by
  have htake : sizeOk (.seq ((items.toList.drop (sIx items.size 0 lo)).take (sIx items.size items.size hi - sIx items.size 0 lo)).toArray) := by
    show ((items.toList.drop (sIx items.size 0 lo)).take (sIx items.size items.size hi - sIx items.size 0 lo)).toArray.size ≤ sizeLine
    rw [List.size_toArray, List.length_take, List.length_drop, Array.length_toList]
    omega
  have hj : sIx items.size items.size hi ≤ items.size := sIx_le _ _ (Nat.le_refl _) hi
  obtain ⟨os, hos, hcs, hds⟩ := id hs
  have hTs : s.TypeIs (.ref sl) "slice" := ⟨os, hos, hcs⟩
  unfold getItem
  try with_reducible refine wpAny_holding ?_
  first | refine wpAny_bind (wpAny_pure ?_) | skip
  refine wpAny_bind (wpAny_sequenceKey ht.typeIs (by decide) ?_)
  refine wpAny_bind (wpAny_callSpecial?_slot (name := Str.ofString "__getitem__") ht.typeIs PyProof.Rows.slot_tuple_getitem
    (wpAny_call_entry PyProof.Rows.slot_tuple_getitem ht.typeIs entry_tuple_getitem ?_ (args_tuple_getitem _ _)))
  show wpAny _ _ (Builtin.Tuple.tupleItemsOf (.ref t) >>= _) _ _ s
  refine wpAny_bind (tupleItemsOf_ ht ?_)
  refine wpAny_bind (wpAny_typeOf hTs ?_)
  rw [if_pos (by decide)]
  refine wpAny_bind (sliceApplied_gen hs pl pu ?_)
  have hno : ¬ ((((sIx items.size 0 lo : Nat) : Int) == 0 && (1 : Int) == 1 && (sIx items.size items.size hi - sIx items.size 0 lo) == items.size) = true) := by
    intro q
    rw [Bool.and_eq_true, Bool.and_eq_true] at q
    have q1 : ((sIx items.size 0 lo : Nat) : Int) = 0 := eq_of_beq q.1.1
    have q2 : sIx items.size items.size hi - sIx items.size 0 lo = items.size := eq_of_beq q.2
    exact hw ⟨by omega, by omega⟩
  show wpAny _ _ (if (((sIx items.size 0 lo : Nat) : Int) == 0 && (1 : Int) == 1 && (sIx items.size items.size hi - sIx items.size 0 lo) == items.size) = true then _ else _) _ _ s
  rw [if_neg hno, pick_gen]
  first
    | exact wpAny_bind (m := Builtin.Tuple.tupleExact _) (wpAny_newObj_type (wpAny_pure ⟨_, rfl, wpAny_pure h⟩) htake)
    | exact wpAny_bind (m := Builtin.Tuple.tupleExact _) (wpAny_newObj_type (wpAny_bind (wpAny_pure (wpAny_pure ⟨_, rfl, wpAny_pure h⟩))) htake)
    | exact wpAny_bind (wpAny_bind (m := Builtin.Tuple.tupleExact _) (wpAny_newObj_type (wpAny_pure (wpAny_pure ⟨_, rfl, wpAny_pure h⟩)) htake))
    | exact wpAny_bind (wpAny_bind (m := Builtin.Tuple.tupleExact _) (wpAny_newObj_type (wpAny_pure ⟨_, rfl, wpAny_pure h⟩) htake))
end
end HT

namespace L2
open PySem PySem.Spec PyProof.Rows

/-! ### the parts of a slice -/
abbrev TO := St → Hp → (Option Int → Hp → Prop) → Prop
/-- a slice's part (left out, or an int) -/
def PO (X : Cx) (e : Option Expr) (t : TO) : Prop :=
  ∀ (pins : List (Addr × Obj)) (s : Shared) (σ : St) (H : Hp) (Q : Option Int → Hp → Prop), Inv X pins σ H s → t σ H Q →
    wpAny (model X.prog X.w) X.A (evalPart e X.env) (fun u s' => ∃ o H', Inv X pins σ H' s' ∧ IsPart u o ∧ Q o H') X.xe s
def tNoPart : TO := fun _ H Q => Q none H
def tPart (t : TE) : TO := fun σ H Q => t σ H fun x H1 => ∃ i, x = .int i ∧ Q (some i) H1

section
variable {X : Cx} {e : Expr} {te : TE} {lo hi : Option Expr} {tl th : TO} {pos p2 : Pos}

theorem po_none : PO X none tNoPart := by
  intro pins s σ H Q I h
  rw [evalPart_none]
  exact wpAny_pure ⟨none, H, I, .none, h⟩
theorem po_some (h : PE X e te) : PO X (some e) (tPart te) := by
  intro pins s σ H Q I hw
  rw [evalPart_some]
  refine thn (h pins s σ H _ I hw) fun u s1 ⟨x, H1, I1, r1, q1⟩ => ?_
  obtain ⟨i, rfl, q⟩ := q1
  obtain ⟨t, rfl⟩ := r1
  exact ⟨some i, H1, I1, .int i t, q⟩

/-- what a slice of a value is, by values: the slice object stands at sl -/
def SlR (X : Cx) (r : V → Option Int → Option Int → Hp → VK → Prop) : Prop :=
  ∀ (pins : List (Addr × Obj)) (s : Shared) (σ : St) (H : Hp) (x : V) (v vl vu : Value) (lo hi : Option Int) (sl : Addr) (Q : VK), Inv X pins σ H s → RelV x v → s.heap.IsSliceOf sl vl vu .none → IsPart vl lo → IsPart vu hi → r x lo hi H Q →
    ∃ T id, typeLookup (.type T) "__getitem__" = pure (some (.builtin id)) ∧ s.TypeIs v T ∧ wpAny (model X.prog X.w) X.A (getItem v (.ref sl)) (EP X pins σ Q) X.xe s
theorem SlR.or {r r' : V → Option Int → Option Int → Hp → VK → Prop} (h : SlR X r) (h' : SlR X r') : SlR X (fun x lo hi H Q => r x lo hi H Q ∨ r' x lo hi H Q) := by
  intro pins s σ H x v vl vu lo hi sl Q I rx hs pl pu q
  rcases q with q | q
  · exact h pins s σ H x v vl vu lo hi sl Q I rx hs pl pu q
  · exact h' pins s σ H x v vl vu lo hi sl Q I rx hs pl pu q
def tSl (r : V → Option Int → Option Int → Hp → VK → Prop) (te : TE) (tl th : TO) : TE := fun σ H Q => te σ H fun x H1 => tl σ H1 fun l H2 => th σ H2 fun u H3 => r x l u H3 Q
/-- a[lo:hi], any a -/
theorem pe_slice {r : V → Option Int → Option Int → Hp → VK → Prop} (hr : SlR X r) (he : PE X e te) (hl : PO X lo tl) (hu : PO X hi th) : PE X (.Subscript e (.Slice lo hi none p2) pos) (tSl r te tl th) := by
  intro pins s σ H Q I h
  refine Subscript_ (thn (he pins s σ H _ I h) fun v s1 ⟨x, H1, I1, r1, q1⟩ => ?_)
  refine wpAny_Slice (thn (hl pins s1 σ H1 _ I1 q1) fun vl s2 ⟨l, H2, I2, pl, q2⟩ => thn (hu pins s2 σ H2 _ I2 q2) fun vu s3 ⟨u, H3, I3, pu, q3⟩ => ?_)
  rw [evalPart_none]
  refine wpAny_pure ?_
  have I4 : Inv X pins σ H3 { s3 with heap := s3.heap.push { cls := .type "slice", data := .fields #[vl, vu, .none] } } := I3.kept (t' := s3.toks) fun b ob q => Heap.get?_push_of_some _ q
  obtain ⟨T, id, hT, ht, hg⟩ := hr pins { s3 with heap := s3.heap.push { cls := .type "slice", data := .fields #[vl, vu, .none] } } σ H3 x v vl vu l u s3.heap.objs.size Q I4 r1 (Heap.IsSliceOf.new ..) pl pu q3
  show wpAny (model X.prog X.w) X.A (subscriptTail e (.Slice lo hi none p2) v (.ref s3.heap.objs.size)) (EP X pins σ Q) X.xe { s3 with heap := s3.heap.push { cls := .type "slice", data := .fields #[vl, vu, .none] } }
  exact tail_any (ops := [.ref s3.heap.objs.size, v]) ht hT hg (by with_unfolding_all rfl)

/-- the items of xs[lo:hi] -/
def cutV (xs : List V) (lo hi : Option Int) : List V := (xs.drop (HT.sIx xs.length 0 lo)).take (HT.sIx xs.length xs.length hi - HT.sIx xs.length 0 lo)
theorem cutV_length (xs : List V) (lo hi : Option Int) : (cutV xs lo hi).length ≤ xs.length := by
  unfold cutV
  rw [List.length_take, List.length_drop]
  omega
/-- t[lo:hi], not the whole of it (the whole would be t itself) -/
def rSlT (K : PySem.W.Frag) : V → Option Int → Option Int → Hp → VK → Prop := fun x lo hi H Q => ∃ a xs, x = .ref a ∧ SqT K H a xs ∧
  ¬ (HT.sIx xs.length 0 lo = 0 ∧ HT.sIx xs.length xs.length hi = xs.length) ∧ ∀ p, H p = none → Q (.ref p) (upd H p (.tup (cutV xs lo hi)))
theorem sl_tup : SlR X (rSlT X.K) := by
  intro pins s σ H x v vl vu lo hi sl Q I rx hs pl pu h
  obtain ⟨a, xs, rfl, hx, hw, q⟩ := h
  cases rx
  obtain ⟨its, r, ht, hz⟩ := I.tuple hx
  have hlen : its.toArray.size = xs.length := by rw [List.size_toArray]; exact r.length.symm
  refine ⟨"tuple", _, PyProof.Rows.slot_tuple_getitem.lookup, ht.typeIs, ?_⟩
  refine HT.getItem_tuple_cut ht hs pl pu (by rw [hlen]; exact hw) ?_ (by rw [hlen]; exact hz)
  rw [hlen]
  refine ⟨.ref s.heap.objs.size, _, I.laid (t' := s.toks) (o := .tup (cutV xs lo hi)) (fun b ob q => Heap.get?_push_of_some _ q) (Nat.le_refl _) ?_, rfl, q _ (I.hok.fresh (Nat.le_refl _))⟩
  exact ⟨Nat.le_trans (cutV_length xs lo hi) hz, _, (r.drop (HT.sIx xs.length 0 lo)).take (HT.sIx xs.length xs.length hi - HT.sIx xs.length 0 lo), IsTup.new _ _, NoDi.new _ _⟩

/-! ### t < u, t + u -/
/-- t + u, t not empty: u empty gives t itself -/
def rCatT (K : PySem.W.Frag) : R2 := fun x y H Q => ∃ a b xs ys, x = .ref a ∧ y = .ref b ∧ SqT K H a xs ∧ SqT K H b ys ∧ xs ≠ [] ∧ xs.length + ys.length ≤ sizeLine ∧
  (ys = [] → Q (.ref a) H) ∧ (ys ≠ [] → ∀ p, H p = none → Q (.ref p) (upd H p (.tup (xs ++ ys))))
theorem Vals.nil_iff {xs : List V} {us : List Value} (r : Vals xs us) : us = [] ↔ xs = [] := by
  cases r with
  | nil => simp
  | cons _ _ => simp
theorem op_catT : OpR X (binaryOp .Add) (rCatT X.K) := by
  intro pins s σ H x y v u Q I rx ry h
  obtain ⟨a, b, xs, ys, rfl, rfl, ha, hb, hx, hz, q1, q2⟩ := h
  cases rx
  cases ry
  obtain ⟨its, r1, p1, _⟩ := I.tuple ha
  obtain ⟨its2, r2, p2, _⟩ := I.tuple hb
  refine HT.cat_tup p1 p2 (fun z => hx (r1.nil_iff.mp z)) (fun z => ⟨.ref a, H, I, rfl, q1 (r2.nil_iff.mp z)⟩) (fun z => ?_) (by rw [← r1.length, ← r2.length]; exact hz)
  refine ⟨.ref s.heap.objs.size, _, I.laid (t' := s.toks) (o := .tup (xs ++ ys)) (fun b ob q => Heap.get?_push_of_some _ q) (Nat.le_refl _) ?_, rfl, q2 (fun w => z (r2.nil_iff.mpr w)) _ (I.hok.fresh (Nat.le_refl _))⟩
  exact ⟨by rw [List.length_append]; exact hz, _, r1.append r2, IsTup.new _ _, NoDi.new _ _⟩
end
end L2

namespace L2
open PySem PySem.Spec PyProof.Rows

/-! ### places -/
/-- the place that an index of any sign means -/
def ixN (n : Nat) (i : Int) : Option Nat := if 0 ≤ i then (if i < n then some i.toNat else none) else if -(n : Int) ≤ i then some (i + n).toNat else none
def atI {α : Type} (xs : List α) (i : Int) : Option α := (ixN xs.length i).bind fun j => xs[j]?
theorem ixN_seq {n : Nat} {i : Int} {j : Nat} (h : ixN n i = some j) : seqIndex? i n = some j ∧ j < n ∧ -(n : Int) ≤ i ∧ i < n := by
  unfold ixN at h
  by_cases h0 : 0 ≤ i
  · rw [if_pos h0] at h
    by_cases h1 : i < n
    · rw [if_pos h1] at h
      have e : i.toNat = j := Option.some.inj h
      exact ⟨by rw [seqIndex_of h0 h1, e], by omega, by omega, h1⟩
    · rw [if_neg h1] at h; cases h
  · rw [if_neg h0] at h
    by_cases h1 : -(n : Int) ≤ i
    · rw [if_pos h1] at h
      have e : (i + n).toNat = j := Option.some.inj h
      exact ⟨by rw [seqIndex_neg (by omega) h1, e], by omega, h1, by omega⟩
    · rw [if_neg h1] at h; cases h
theorem atI_get {α : Type} {xs : List α} {i : Int} {v : α} (h : atI xs i = some v) : ∃ j, seqIndex? i xs.length = some j ∧ xs[j]? = some v ∧ j < xs.length ∧ -(xs.length : Int) ≤ i ∧ i < xs.length := by
  unfold atI at h
  cases e : ixN xs.length i with
  | none => rw [e] at h; cases h
  | some j =>
    rw [e] at h
    obtain ⟨h1, h2, h3, h4⟩ := ixN_seq e
    exact ⟨j, h1, h, h2, h3, h4⟩
/-! ### what may be subscripted -/
/-- what stands as an index of a plain subscript -/
def PlainIx (b : Expr) : Prop := ∀ o i, subscripted b false o i = operate [o, i] (getItem o i)
/-- a subscript by values -/
def IxR (X : Cx) (r : R2) : Prop :=
  ∀ (value slice : Expr) (pins : List (Addr × Obj)) (s : Shared) (σ : St) (H : Hp) (x y : V) (v u : Value) (Q : VK), Inv X pins σ H s → RelV x v → RelV y u → r x y H Q →
    subscripted slice false v u = operate [v, u] (getItem v u) → wpAny (model X.prog X.w) X.A (subscriptTail value slice v u) (EP X pins σ Q) X.xe s
/-- a call of a builtin's method by values: the receiver, the arguments -/
def MtR (X : Cx) (id : String) (r : V → List V → Hp → VK → Prop) : Prop :=
  ∀ (pins : List (Addr × Obj)) (s : Shared) (σ : St) (H : Hp) (x : V) (xs : List V) (v : Value) (us : List Value) (Q : VK), Inv X pins σ H s → RelV x v → Vals xs us → r x xs H Q →
    wpAny (model X.prog X.w) X.A (call (.builtin id) (v :: us)) (EP X pins σ Q) X.xe s
section
variable {X : Cx} {a b : Expr} {ta tb : TE} {pos : Pos}
theorem IxR.or {r r' : R2} (h : IxR X r) (h' : IxR X r') : IxR X (fun x y H Q => r x y H Q ∨ r' x y H Q) := by
  intro value slice pins s σ H x y v u Q I rx ry q hs
  rcases q with q | q
  · exact h value slice pins s σ H x y v u Q I rx ry q hs
  · exact h' value slice pins s σ H x y v u Q I rx ry q hs
/-- a[b] -/
theorem pe_ix {r : R2} (hr : IxR X r) (ha : PE X a ta) (hb : PE X b tb) (hs : PlainIx b) : PE X (.Subscript a b pos) (tOp r ta tb) := by
  intro pins s σ H Q I h
  exact Subscript_ (binT ha hb I h fun v u s2 x y H2 I2 rx ry q => hr a b pins s2 σ H2 x y v u Q I2 rx ry q (hs _ _))

def rIxL (K : PySem.W.Frag) : R2 := fun x y H Q => ∃ p xs i v, x = .ref p ∧ y = .int i ∧ SqL K H p xs ∧ atI xs i = some v ∧ Q v H
def rIxT (K : PySem.W.Frag) : R2 := fun x y H Q => ∃ p xs i v, x = .ref p ∧ y = .int i ∧ SqT K H p xs ∧ atI xs i = some v ∧ Q v H
theorem ix_list : IxR X (rIxL X.K) := by
  intro value slice pins s σ H x y v u Q I rx ry h hs
  obtain ⟨p, xs, i, z, rfl, rfl, hq, he, q⟩ := h
  cases rx
  obtain ⟨t, rfl⟩ := ry
  obtain ⟨its, r, pl, hz⟩ := I.list hq
  obtain ⟨j, h1, h2, h3, h4, h5⟩ := atI_get he
  obtain ⟨w, ew, rw'⟩ := r.get h2
  have hl := r.length
  have hn := line63
  have fin : EP X pins σ Q w s := ⟨z, H, I, rw', q⟩
  by_cases h0 : 0 ≤ i
  · have hj : i.toNat = j := by
      rw [seqIndex_of h0 h5] at h1
      exact Option.some.inj h1
    exact item_listR pl.isList h0 (by omega) (by rw [hj]; simpa using ew) fin hs
  · have hj : (i + (its.toArray.size : Int)).toNat = j := by
      rw [seqIndex_neg (by omega) h4] at h1
      rw [List.size_toArray, ← hl]
      exact Option.some.inj h1
    exact subscriptTail_builtinR (x := w) pl.isList.typeIs slot_list_getitem.lookup
      (wpAny_getItem_list_neg (Q := fun r s' => r = w ∧ EP X pins σ Q r s') pl.isList (by omega) (by rw [List.size_toArray] <;> omega) (by omega) (by rw [hj]; simpa using ew) ⟨rfl, fin⟩) hs
theorem ix_tup : IxR X (rIxT X.K) := by
  intro value slice pins s σ H x y v u Q I rx ry h hs
  obtain ⟨p, xs, i, z, rfl, rfl, hq, he, q⟩ := h
  cases rx
  obtain ⟨t, rfl⟩ := ry
  obtain ⟨its, r, pl, hz⟩ := I.tuple hq
  obtain ⟨j, h1, h2, h3, h4, h5⟩ := atI_get he
  obtain ⟨w, ew, rw'⟩ := r.get h2
  have hl := r.length
  have hn := line63
  have fin : EP X pins σ Q w s := ⟨z, H, I, rw', q⟩
  exact subscriptTail_builtinR (x := w) pl.typeIs slot_tuple_getitem.lookup
    (getItem_tuple (j := j) (Q := fun r s' => r = w ∧ EP X pins σ Q r s') pl (by omega) (by omega) (by rw [List.size_toArray, ← hl]; exact h1) (by simpa using ew) ⟨rfl, fin⟩) hs
/-! ### xs[i] = v, any sign -/
/-! ### slices -/
theorem slice_bounds (lo hi : Option Int) (n : Nat) : (sliceBounds lo hi none n).1 = ((HT.sIx n 0 lo : Nat) : Int) ∧ (sliceBounds lo hi none n).2.1 = ((HT.sIx n n hi : Nat) : Int) ∧ (sliceBounds lo hi none n).2.2 = 1 := by
  refine ⟨?_, ?_, rfl⟩
  · cases lo with
    | none => simp [sliceBounds, HT.sIx]
    | some i =>
      simp only [sliceBounds, HT.sIx, Option.getD_none, show (1 : Int) > 0 by decide, if_true]
      by_cases h : i < 0
      · simp only [h, if_true] <;> omega
      · simp only [h, if_false] <;> omega
  · cases hi with
    | none => simp [sliceBounds, HT.sIx]
    | some i =>
      simp only [sliceBounds, HT.sIx, Option.getD_none, show (1 : Int) > 0 by decide, if_true]
      by_cases h : i < 0
      · simp only [h, if_true] <;> omega
      · simp only [h, if_false] <;> omega
theorem slicePick_cut (its : List Value) (lo hi : Option Int) : slicePick its.toArray lo hi none = ((its.drop (HT.sIx its.length 0 lo)).take (HT.sIx its.length its.length hi - HT.sIx its.length 0 lo)).toArray := by
  obtain ⟨h1, h2, h3⟩ := slice_bounds lo hi its.toArray.size
  unfold slicePick
  rw [h1, h2, h3]
  simp only [sliceRange_one, pick_run, List.size_toArray] <;> rfl
/-- xs[lo:hi] of a list: a new list -/
def rSlL (K : PySem.W.Frag) : V → Option Int → Option Int → Hp → VK → Prop := fun x lo hi H Q => ∃ a xs, x = .ref a ∧ SqL K H a xs ∧ ∀ p, H p = none → Q (.ref p) (upd H p (.lst (cutV xs lo hi)))
theorem sl_list : SlR X (rSlL X.K) := by
  intro pins s σ H x v vl vu lo hi sl Q I rx hs pl pu h
  obtain ⟨a, xs, rfl, hx, q⟩ := h
  cases rx
  obtain ⟨its, r, ht, hz⟩ := I.list hx
  have hlen := r.length
  refine ⟨"list", _, slot_list_getitem.lookup, ht.isList.typeIs, ?_⟩
  refine wpAny_getItem_list_slice ht.isList hs pl pu .none (by simp) ?_ (by rw [List.size_toArray] <;> omega)
  rw [slicePick_cut, ← hlen]
  refine ⟨.ref s.heap.objs.size, _, I.laid (t' := s.toks) (o := .lst (cutV xs lo hi)) (fun b ob q => Heap.get?_push_of_some _ q) (Nat.le_refl _) ?_, rfl, q _ (I.hok.fresh (Nat.le_refl _))⟩
  exact ⟨Nat.le_trans (cutV_length xs lo hi) hz, _, 0, (r.drop (HT.sIx xs.length 0 lo)).take (HT.sIx xs.length xs.length hi - HT.sIx xs.length 0 lo), Heap.get?_push_size _ rfl⟩

/-! ### in, not in: flat items -/
def flatV : V → Bool
  | .non => true
  | .bl _ => true
  | .int _ => true
  | .str _ => true
  | _ => false
/-- == of flat values -/
def eqV : V → V → Bool
  | .non, .non => true
  | .bl a, .bl b => a == b
  | .bl a, .int b => (if a then 1 else 0) == b
  | .int a, .bl b => a == (if b then 1 else 0)
  | .int a, .int b => a == b
  | .str a, .str b => a == b
  | _, _ => false
theorem eqAt_V {A : Around} {s : Shared} {y x : V} {u v : Value} (ry : RelV y u) (rx : RelV x v) (fy : flatV y = true) (fx : flatV x = true) : SeqAt.EqAt A s u v (eqV y x) := by
  cases y with
  | non =>
    cases ry
    cases x with
    | non => cases rx; exact SeqAt.EqAt.same _
    | bl b => cases rx; exact SeqAt.EqAt.none_bool b
    | int b => obtain ⟨t, rfl⟩ := rx; exact SeqAt.EqAt.none_int b t
    | str b => obtain ⟨t, rfl⟩ := rx; exact SeqAt.EqAt.none_str b t
    | _ => exact absurd (show false = true from fx) Bool.false_ne_true
  | bl a =>
    cases ry
    cases x with
    | non => cases rx; exact SeqAt.EqAt.bool_none a
    | bl b => cases rx; exact SeqAt.EqAt.bool_bool a b
    | int b => obtain ⟨t, rfl⟩ := rx; exact SeqAt.EqAt.bool_int a b t
    | str b => obtain ⟨t, rfl⟩ := rx; exact SeqAt.EqAt.bool_str a b t
    | _ => exact absurd (show false = true from fx) Bool.false_ne_true
  | int a =>
    obtain ⟨t', rfl⟩ := ry
    cases x with
    | non => cases rx; exact SeqAt.EqAt.int_none a t'
    | bl b => cases rx; exact SeqAt.EqAt.int_bool a t' b
    | int b => obtain ⟨t, rfl⟩ := rx; exact SeqAt.EqAt.int_int a t' b t
    | str b => obtain ⟨t, rfl⟩ := rx; exact SeqAt.EqAt.int_str a t' b t
    | _ => exact absurd (show false = true from fx) Bool.false_ne_true
  | str a =>
    obtain ⟨t', rfl⟩ := ry
    cases x with
    | non => cases rx; exact SeqAt.EqAt.str_none a t'
    | bl b => cases rx; exact SeqAt.EqAt.str_bool a t' b
    | int b => obtain ⟨t, rfl⟩ := rx; exact SeqAt.EqAt.str_int a t' b t
    | str b => obtain ⟨t, rfl⟩ := rx; exact SeqAt.EqAt.str_str a t' b t
    | _ => exact absurd (show false = true from fx) Bool.false_ne_true
  | _ => exact absurd (show false = true from fy) Bool.false_ne_true
/-- the items' answers, read off the values (a value's own answer does not lean on its token) -/
def eqU (x : V) (u : Value) : Bool := match u with
  | .none => eqV .non x
  | .bool b => eqV (.bl b) x
  | .int i _ => eqV (.int i) x
  | .str z _ => eqV (.str z) x
  | _ => false
theorem eqU_of {x y : V} {u : Value} (r : RelV y u) (f : flatV y = true) : eqU x u = eqV y x := by
  cases y with
  | non => cases r; rfl
  | bl b => cases r; rfl
  | int i => obtain ⟨t, rfl⟩ := r; rfl
  | str z => obtain ⟨t, rfl⟩ := r; rfl
  | _ => exact absurd (show false = true from f) Bool.false_ne_true
theorem any_eqU {x : V} : ∀ {xs : List V} {us : List Value}, Vals xs us → xs.all flatV = true → us.any (eqU x) = xs.any fun y => eqV y x
  | _, _, .nil, _ => rfl
  | y :: xs, u :: us, .cons r t, f => by
    rw [List.all_cons, Bool.and_eq_true] at f
    rw [List.any_cons, List.any_cons, eqU_of r f.1, any_eqU t f.2]
theorem mem_eqAt {A : Around} {s : Shared} {x : V} {v : Value} (rx : RelV x v) (fx : flatV x = true) : ∀ {xs : List V} {us : List Value}, Vals xs us → xs.all flatV = true → ∀ u ∈ us, SeqAt.EqAt A s u v (eqU x u)
  | _, _, .nil, _ => fun u hu => by cases hu
  | y :: xs, u :: us, .cons r t, f => fun u' hu => by
    rw [List.all_cons, Bool.and_eq_true] at f
    rcases List.mem_cons.mp hu with rfl | hu
    · rw [eqU_of r f.1]; exact eqAt_V r rx f.1 fx
    · exact mem_eqAt rx fx t f.2 u' hu
def inV (x : V) (xs : List V) : Bool := xs.any fun y => eqV y x
/-- x in a list or tuple of flat items -/
def rIn (K : PySem.W.Frag) (neg : Bool) : R2 := fun x y H Q => ∃ p xs, y = .ref p ∧ (SqL K H p xs ∨ SqT K H p xs) ∧ flatV x = true ∧ xs.all flatV = true ∧ Q (.bl (if neg then !inV x xs else inV x xs)) H
theorem op_in_seq : OpR X (compareOp .In) (rIn X.K false) := by
  intro pins s σ H x y v u Q I rx ry h
  obtain ⟨p, xs, rfl, hq, fx, fs, q⟩ := h
  cases ry
  rcases hq with hq | hq
  · obtain ⟨its, r, pl, hz⟩ := I.list hq
    refine SeqAt.in_listAt (eqU x) pl.isList (fun w hw => mem_eqAt rx fx r fs w (by simpa using hw)) ⟨.bl _, H, I, rfl, ?_⟩
    rw [show its.toArray.any (eqU x) = its.any (eqU x) by simp, any_eqU r fs]
    exact q
  · obtain ⟨its, r, pl, hz⟩ := I.tuple hq
    refine SeqAt.in_tupleAt (eqU x) pl (fun w hw => mem_eqAt rx fx r fs w (by simpa using hw)) ⟨.bl _, H, I, rfl, ?_⟩
    rw [show its.toArray.any (eqU x) = its.any (eqU x) by simp, any_eqU r fs]
    exact q
/-! ### len, list(x), tuple(x) of any list or tuple that is read -/
theorem call_tuple_of : CallR X (.type "tuple") (fun xs H Q => ∃ p ys, xs = [.ref p] ∧ ((SqL X.K H p ys ∧ ∀ l, H l = none → Q (.ref l) (upd H l (.tup ys))) ∨ (SqT X.K H p ys ∧ Q (.ref p) H))) := by
  intro pins s σ H xs us Q I r h
  obtain ⟨p, ys, rfl, h⟩ := h
  obtain ⟨u, rfl, rx⟩ := vals1 r
  cases rx
  rcases h with ⟨hq, q⟩ | ⟨hq, q⟩
  · obtain ⟨its, r', pl, hz⟩ := I.list hq
    have hlen := r'.length
    refine call_tuple_list pl.isList (fun h' kp => ?_) (by simp only [List.size_toArray] <;> omega)
    have I1 : Inv X pins σ H { s with heap := h' } := I.kept (t' := s.toks) kp
    have I2 : Inv X pins σ (upd H h'.objs.size (.tup ys)) { s with heap := h'.push { cls := .type "tuple", data := .seq its.toArray } } :=
      I1.laid (t' := s.toks) (fun b o e => Heap.get?_push_of_some _ e) (Nat.le_refl _) (show ObjOk X.prog X.w _ _ _ (.tup ys) from ⟨hz, its, r', IsTup.new _ _, NoDi.new _ _⟩)
    exact ⟨.ref h'.objs.size, _, I2, rfl, q _ (I1.hok.fresh (Nat.le_refl _))⟩
  · obtain ⟨its, r', pl, hz⟩ := I.tuple hq
    exact call_tuple_same pl ⟨.ref p, H, I, rfl, q⟩

/-! ### the call of a builtin's method: o.m(..) -/
/-- the value is of that builtin type -/
def tyV (K : PySem.W.Frag) (T : String) (x : V) (H : Hp) : Prop := match x with
  | .str _ => T = "str"
  | .int _ => T = "int"
  | .ref p => (T = "list" ∧ ∃ xs, SqL K H p xs) ∨ (T = "tuple" ∧ ∃ o, K.lookup p = some o ∧ o.cls = .type "tuple" ∧ o.dict = none) ∨
      (T = "dict" ∧ ((∃ kvs, H p = some (.dK kvs)) ∨ ∃ kvs, H p = some (.dT kvs))) ∨ (T = "set" ∧ ∃ S n, H p = some (.set S n))
  | _ => False
theorem tyV_is {pins : List (Addr × Obj)} {σ : St} {H : Hp} {s : Shared} {T : String} {x : V} {v : Value} (I : Inv X pins σ H s) (r : RelV x v) (ty : tyV X.K T x H) :
    s.TypeIs v T ∧ ∀ a, v = .ref a → ∃ ob, s.heap.get? a = some ob ∧ ob.dict = none := by
  cases x with
  | str z =>
    obtain ⟨t, rfl⟩ := r
    cases (show T = "str" from ty)
    exact ⟨typeIs_str s z t, fun _ e => nomatch e⟩
  | int i =>
    obtain ⟨t, rfl⟩ := r
    cases (show T = "int" from ty)
    exact ⟨typeIs_int s i t, fun _ e => nomatch e⟩
  | ref p =>
    cases r
    rcases ty with ⟨rfl, xs, hq⟩ | ⟨rfl, o, hk, hc, hd⟩ | ⟨rfl, hk⟩ | ⟨rfl, S, n, hk⟩
    · obtain ⟨its, _, pl, _⟩ := I.list hq
      refine ⟨pl.isList.typeIs, fun a e => ?_⟩
      cases e
      obtain ⟨o, n, e, c, hd, _⟩ := pl
      exact ⟨o, e, hd⟩
    · refine ⟨⟨o, I.kIn p o hk, hc⟩, fun a e => ?_⟩
      cases e
      exact ⟨o, I.kIn _ o hk, hd⟩
    · have z : ∃ o, s.heap.get? p = some o ∧ o.ExactDict := by
        rcases hk with ⟨kvs, hk⟩ | ⟨kvs, hk⟩
        · obtain ⟨_, _, _, _, o, _, _, e, ex, _⟩ := I.hok p _ hk
          exact ⟨o, e, ex⟩
        · obtain ⟨_, _, _, _, o, _, _, e, ex, _⟩ := I.hok p _ hk
          exact ⟨o, e, ex⟩
      obtain ⟨o, e, ex⟩ := z
      refine ⟨⟨o, e, ex.1⟩, fun a e2 => ?_⟩
      cases e2
      exact ⟨o, e, ex.2.1⟩
    · obtain ⟨o, _, _, _, e, ex, _⟩ := I.hok p _ hk
      refine ⟨⟨o, e, ex.1⟩, fun a e2 => ?_⟩
      cases e2
      exact ⟨o, e, ex.2.1⟩
  | _ => exact False.elim ty
def tBM (K : PySem.W.Frag) (T : String) (r : V → List V → Hp → VK → Prop) (to : TE) (t : TA) : TE := fun σ H Q => to σ H fun x H1 => tyV K T x H1 ∧ t σ H1 fun xs H2 => r x xs H2 Q
variable {o e : Expr} {es : List Expr} {to : TE} {t : TA} {name : Str} {apos cpos : Pos} {T id : String} {r : V → List V → Hp → VK → Prop}
theorem pe_bm (pa : PlainAttrs T) (slot : Slot T name id) (hty : typeOf (.builtin id) = pure (.type "method_descriptor")) (hm : MtR X id r) (ho : PE X o to) (ha : PA X (e :: es) t)
    (hbase : attributeBase o name X.env (eval o X.env) = eval o X.env := by rfl)
    (hfew : ((backTo cpos (starEach (e :: es) X.env)).all (fun x => !x.1) && (backToKw cpos (keywordEach [] X.env)).all (fun x => x.1.isSome)
      && decide ((e :: es).length + ([] : List Keyword).length + (if ([] : List Keyword).isEmpty then 0 else 1) < 30)) = true := by rfl)
    (hline : (apos.endLine == cpos.line) = true := by rfl) (hs : starEach (e :: es) X.env = (false, eval e X.env) :: starEach es X.env := by rfl) (hplain : (backTo cpos (starEach es X.env)).any (·.1) = false := by rfl) :
    PE X (.Call (.Attribute o name apos) (e :: es) [] cpos) (tBM X.K T r to t) := by
  intro pins s σ H Q I h
  refine wpAny_Call_method_late hbase hfew hline rfl (thn (ho pins s σ H _ I h) fun v s1 ⟨x, H1, I1, r1, ty, q1⟩ => ?_)
  obtain ⟨h1, h2⟩ := tyV_is I1 r1 ty
  refine ⟨T, id, pa, slot, hty, h1, h2, ?_⟩
  have hA := ha cpos pins s1 σ H1 _ I1 q1
  rw [hs] at hA ⊢
  refine Calls.callWith_builtin (by show (false || (backTo cpos (starEach es X.env)).any (·.1)) = false; rw [hplain] <;> rfl) (Calls.evalArgs_plain ?_)
  exact thn hA fun us s2 ⟨vs, H2, I2, r2, q2⟩ => hm pins s2 σ H2 x vs v us Q I2 r1 r2 q2
/- xs.append(e), list.index on a module's tuple .. are MtR facts of 06m -/
end
end L2

namespace L2
open PySem PySem.Spec PyProof.Rows

def MtM (X : Cx) (id : String) (r : V → List V → Hp → VK → Prop) : Prop :=
  ∀ (pins : List (Addr × Obj)) (s : Shared) (σ : St) (H : Hp) (x : V) (xs : List V) (v : Value) (us : List Value) (Q : VK), Inv X pins σ H s → RelV x v → Vals xs us → r x xs H Q →
    wpAny (model X.prog X.w) X.A (call (.builtin id) (v :: us)) (EP X pins σ Q) X.xe s

/-! ### lists of values -/
theorem Vals.one : ∀ {x : V} {us : List Value}, Vals [x] us → ∃ u, us = [u] ∧ RelV x u
  | _, _, h => by
    cases h with
    | cons r t =>
      cases t
      exact ⟨_, rfl, r⟩
theorem Vals.rep {xs : List V} {us : List Value} (h : Vals xs us) : ∀ k : Nat, Vals (List.replicate k xs).flatten (List.replicate k us).flatten
  | 0 => .nil
  | k + 1 => by
    rw [List.replicate_succ, List.replicate_succ, List.flatten_cons, List.flatten_cons]
    exact Vals.append h (Vals.rep h k)
theorem foldl_rep (its : List Value) : ∀ (k : Nat) (acc : List Value),
    List.foldl (fun x1 x2 => x1 ++ x2) acc.toArray (List.replicate k its.toArray) = (acc ++ (List.replicate k its).flatten).toArray
  | 0, acc => by simp
  | k + 1, acc => by
    have e : acc.toArray ++ its.toArray = (acc ++ its).toArray := by simp
    have e2 : (acc ++ its) ++ (List.replicate k its).flatten = acc ++ (List.replicate (k + 1) its).flatten := by
      rw [List.replicate_succ, List.flatten_cons, List.append_assoc]
    rw [← e2, ← foldl_rep its k (acc ++ its), ← e, List.replicate_succ, List.foldl_cons]

section
variable {X : Cx} {pins : List (Addr × Obj)} {σ : St} {H : Hp} {s : Shared} {l b : Addr} {xs ys zs : List V}

/-! ### the two steps: a tracked list is rewritten, a new list is laid -/
theorem Inv.lset {its its' : List Value} {n : Nat} {f : Array Value → Array Value} {t' : Nat} (I : Inv X pins σ H s) (hH : H l = some (.lst xs))
    (e : s.heap.get? l = some { cls := .type "list", data := .seq its.toArray n }) (hf : f its.toArray = its'.toArray) (hv : Vals ys its') (hz : ys.length ≤ sizeLine) :
    Inv X pins σ (upd H l (.lst ys)) { s with heap := s.heap.update l (Obj.mapSeq f), toks := t' } := by
  have q := PySem.IsL.update e f
  rw [hf] at q
  refine I.write (x := l) (e := l) (by rw [hH]; exact trivial) (.inl rfl) (fun b' u hb hu => (Heap.get?_update_other s.heap (Obj.mapSeq f) (Ne.symm hb)).trans hu) ⟨_, q⟩ ?_
  exact ⟨hz, its', _, hv, q⟩
theorem Inv.lnew {its : List Value} {t' : Nat} (I : Inv X pins σ H s) (hv : Vals ys its) (hz : ys.length ≤ sizeLine) :
    Inv X pins σ (upd H s.heap.objs.size (.lst ys)) { s with heap := s.heap.push { cls := .type "list", data := .seq its.toArray }, toks := t' } :=
  I.laid (fun _ _ q => Heap.get?_push_of_some _ q) (Nat.le_refl _) ⟨hz, its, 0, hv, Heap.get?_push_size _ rfl⟩
theorem Inv.fresh (I : Inv X pins σ H s) : H s.heap.objs.size = none := I.hok.fresh (Nat.le_refl _)
theorem Inv.lstM (I : Inv X pins σ H s) (hH : H l = some (.lst xs)) : xs.length ≤ sizeLine ∧ ∃ (its : List Value) (n : Nat), Vals xs its ∧ xs.length = its.length ∧ s.heap.get? l = some { cls := .type "list", data := .seq its.toArray n } := by
  obtain ⟨z, its, n, r, e⟩ := I.hok l _ hH
  exact ⟨z, its, n, r, r.length, e⟩

theorem notLongL {n : Nat} (h : n ≤ sizeLine) : Builtin.List.listTooLong n = false := by
  unfold Builtin.List.listTooLong
  exact decide_eq_false (by omega)
end

section
variable {X : Cx}

/-! ### methods -/
def rAppend : V → List V → Hp → VK → Prop := fun x vs H Q => ∃ l xs y, x = .ref l ∧ vs = [y] ∧ H l = some (.lst xs) ∧ xs.length < sizeLine ∧ Q .non (upd H l (.lst (xs ++ [y])))
theorem mt_append : MtM X "list.append" rAppend := by
  intro pins s σ H x vs v us Q I rx rv h
  obtain ⟨l, xs, y, rfl, rfl, hH, hz, q⟩ := h
  cases rx
  obtain ⟨u, rfl, ru⟩ := rv.one
  obtain ⟨z, its, n, r, hl, e⟩ := I.lstM hH
  refine call_meets F.slot_list_append ⟨_, e, rfl⟩ F.entry_list_append (F.args_list_append_2 _ _) (PySem.list_append l its.toArray n u (by rw [List.size_toArray]; omega)) ⟨e, ?_⟩
  refine ⟨.non, _, I.lset (its' := its ++ [u]) hH e (by simp) (r.append (.cons ru .nil)) ?_, rfl, q⟩
  rw [List.length_append, List.length_singleton]
  omega

/-! ### list + list, list += list, list * int -/
theorem len_rep {α : Type} (xs : List α) (k : Nat) : (List.replicate k xs).flatten.length = k * xs.length := by
  induction k with
  | zero => simp
  | succ k ih => rw [List.replicate_succ, List.flatten_cons, List.length_append, ih, Nat.succ_mul, Nat.add_comm]
/-! ### del xs[i] -/
end

/-! ### xs[a:b] = ys -/
section
variable {prog : Program} {w : World} {A : Around} {E : Value → Shared → Prop} {s : Shared}
end

section
variable {X : Cx}
end
end L2

namespace Att
open PySem PySem.W PySem.Calls PyProof.Rows

/-! ### the script -/
theorem ints_of_wellAll {P : Params} {h : Heap} : ∀ (ns : List Int) (vs : List Value), WellAll P h vs (ns.map WData.int) → IntsAre vs ns := by
  intro ns
  induction ns with
  | nil =>
    intro vs w
    rw [List.map_nil] at w
    cases w
    exact .nil
  | cons n ns ih =>
    intro vs w
    rw [List.map_cons] at w
    cases w with
    | cons a b =>
      cases a
      exact .cons _ _ (ih _ b)

theorem script_of {l : OpenLaw} {n : Nat} (hn : l.most = some n) {P : Params} {h : Heap} {args : List WData} {vals : List Value}
    (hpre : l.row.toRowW.claim.pre args = true) (hwl : WellAll P h vals args) :
    ∃ a vs ns, vals = [Value.ref a] ∧ args = [WData.list (ns.map WData.int)] ∧ h.get? a = some { cls := .type "list", data := .seq vs.toArray } ∧ IntsAre vs ns ∧ ns.length ≤ n := by
  have hsh : WShape.hasAll [] args [.list .int] = true := (pre_splitW hpre).1
  have hc : l.pre.holds [] { args := args } = true := (pre_splitW hpre).2
  obtain ⟨d, r, rfl, h1, h2⟩ := hasAllW_cons hsh
  obtain rfl := hasAllW_nil h2
  obtain ⟨xs, rfl, h3⟩ := hasW_list h1
  obtain ⟨ns, rfl⟩ := items_int h3
  have hlen : ns.length ≤ n := by
    unfold OpenLaw.pre at hc
    have h4 : (WTm.not (.lt (.lit (.int (n : Int))) (.len (.arg 0)))).holds [] { args := [.list (ns.map .int)] } = true := by
      have h4 := (holds_andW hc).1
      rw [hn] at h4
      exact h4
    have h5 := condW_of h4 (w_not (w_lt w_lit (w_len_list (w_arg rfl))))
    rw [List.length_map] at h5
    refine Nat.le_of_not_lt fun q => ?_
    have q' : (n : Int) < ((ns.length : Nat) : Int) := by omega
    first
      | (rw [decide_eq_true q'] at h5; exact absurd h5 (by decide))
      | (simp at h5; omega)
  cases hwl with
  | cons w1 w2 =>
    cases w2
    cases w1 with
    | list ho hall => exact ⟨_, _, ns, rfl, rfl, ho, ints_of_wellAll ns _ hall, hlen⟩

theorem post_true (l : OpenLaw) (args : List WData) : l.row.toRowW.claim.post args (.bool true) args = true :=
  postW_of (r := l.row.toRowW) (X := (true == true))
    (show WShape.has [] (.bool true) .bool = true by first | rfl | decide | simp [WShape.has, WShape.arms, WShape.armsAll])
    (show (WTm.eq .res (.lit (.bool true))).value [] { args := args, res := some (.bool true), after := args } = some (.bool (true == true)) from w_eq_bool (w_res rfl) w_lit) rfl

/-! ### the attachment: holds_open's last premise (the goal 'hc' behind k_head) from a wpAny of the law's body -/
/-- the same from a codeAny of the CALL (for a layer whose function contracts speak of calls) -/
theorem attach_call {l : OpenLaw} {n : Nat} {q : Program} {loose : List Str} {XP : (Str → Option Value) → Heap → Prop} {YP : World → Heap → Prop} {d : DefRec}
    (hn : l.most = some n) (hdf : d.params.defaults = [])
    (call : ∀ (w : World) (s₀ s₁ : Shared) (mg mb : Str → Option Value) (fa : Addr) (o : Obj) (pm cd doc : Value) (a : Addr) (vs : List Value) (ns : List Int),
      Ground q loose [] XP w s₀ mg mb s₁.heap → YP w s₁.heap →
      s₁.heap.get? fa = some o → o.data = .func (docDef d.name d.params d.body d.scope pm cd doc) → s₁.heap.CodeRec cd d.name → mg d.name = some (.ref fa) →
      s₁.heap.get? a = some { cls := .type "list", data := .seq vs.toArray } → IntsAre vs ns → ns.length ≤ n → s₁.gens = #[] →
      codeAny (model l.prog w) callerA (.call (.ref fa) ⟨[.ref a], []⟩) (fun r s' => r = .ok (.ret (.bool true)) ∧ OldK s₁.heap s'.heap ∧ s'.os = s₁.os ∧ AllBare s'.gens) s₁) :
    WalkO q loose XP YP l.row.toRowW d [] (fun f vs => PySem.call f vs) := by
  intro w s₀ s₁ mg mb G Y fa o pm cd doc dV kV ho hd hcd hD hmg hg args vals as hpre hlay hrd hwl hlo
  obtain rfl : dV = .none := Dflts.none hD hdf
  obtain rfl : kV = .none := Dflts.noKw hD
  obtain ⟨a, vs, ns, rfl, rfl, hobj, hints, hlen⟩ := script_of hn hpre hwl
  refine enter_call (codeAny_mono (call w s₀ s₁ mg mb fa o pm cd doc a vs ns G Y ho (fd_plain hd) hcd hmg hobj hints hlen hg) fun r s' hq => ?_)
  obtain ⟨rfl, h2, h3, h4⟩ := hq
  exact ⟨.inl ⟨.bool true, .bool true, [], rfl, fun _ => rfl, .bool true, post_true l _, fun _ => ⟨List.Pairwise.nil, fun _ hm => (nomatch hm)⟩⟩, h2, h3, h4⟩

/-! ### rules over ANY heap (no ledger) from facts about the written part K: the library's own take a ledger (News) for what they write -/
section
variable {prog : Program} {w : World} {A : Around} {E : Value → Shared → Prop} {s : Shared} {K : Frag}

/-! the whole heap as the ledger: makes every rule that writes through a ledger a rule over any heap -/
def ledger (h : Heap) (L d : Addr) : List (Addr × Obj) := (List.range h.objs.size).filterMap fun a => if a = L ∨ a = d then none else (h.get? a).map fun o => (a, o)
end
end Att

namespace L2
open PySem PySem.Spec PyProof.Rows

theorem vals_ints : ∀ {vs : List Value} {ns : List Int}, IntsAre vs ns → Vals (ns.map V.int) vs
  | _, _, .nil => .nil
  | _, _, .cons n t h => .cons ⟨t, rfl⟩ (vals_ints h)

/-- nothing is tracked but the script, known to the object (or it is an object of the module) -/
def Only (H : Hp) : Prop := ∀ b, H b = none ∨ ∃ o xs, H b = some (.frz o (.lst xs))

/-- THE HEAD: the law's promise, at the heap behind the top. F, the promise of the law's def, may use that base is part of the heap (so K.In base, base.Ns mainGlobals mg stand in Mod) -/
theorem law_call {P : Program} {w : World} {K : PySem.W.Frag} {mg mb : Str → Option Value} {CX : CXT} {k : Nat} {fa a : Addr} {fd : FuncData} {x : Str} {sp : Sp} {s₁ : Shared} {vs : List Value} {ns : List Int}
    (KX : K.In s₁.heap) (hns : s₁.heap.Ns mainGlobals mg) (hb : s₁.heap.Ns builtinsNs mb) (hbb : ∀ x : Str, x ≠ "__name__" → mb x = bootBuiltins x) (hlim : s₁.heap.NoLimit) (hg : s₁.gens = #[])
    (ha : s₁.heap.get? a = some { cls := .type "list", data := .seq vs.toArray }) (hi : IntsAre vs ns) (hl : ns.length ≤ sizeLine) (hr : Room k callerA)
    (F : ∀ base : Heap, K.In base → base.Ns mainGlobals mg → FnOk P w K mg base CX k fa fd [x] sp) (hbind : ∀ (s : Shared) (u : Value), BindsTo s fd ⟨[u], []⟩ [(x, u)])
    (hsp : ∀ H : Hp, Only H → SqL K H a (ns.map V.int) → sp [.ref a] H (fun v _ => v = .bl true) fun _ _ _ => False)
    (hCX : ∀ H e s', CX [] H s₁ (fun _ _ _ => False) e s' → False) :
    codeAny (model P w) callerA (.call (.ref fa) ⟨[.ref a], []⟩) (fun r s' => r = .ok (.ret (.bool true)) ∧ OldK s₁.heap s'.heap ∧ s'.os = s₁.os ∧ AllBare s'.gens) s₁ := by
  have rv := vals_ints hi
  have lenV := hi.length
  -- from an abstract heap in which nothing but the script may be tracked
  have core : ∀ H : Hp, Only H → SqL K H a (ns.map V.int) → HOk P w H s₁.heap → (∀ b, H b ≠ none → b = a) → (H a ≠ none → K.lookup a = none) →
      codeAny (model P w) callerA (.call (.ref fa) ⟨[.ref a], []⟩) (fun r s' => r = .ok (.ret (.bool true)) ∧ OldK s₁.heap s'.heap ∧ s'.os = s₁.os ∧ AllBare s'.gens) s₁ := by
    intro H hO hS hok hA hK
    have base_of : ∀ {b : Addr} {o : Obj}, s₁.heap.get? b = some o → H b = none → (hidT s₁.heap H).get? b = some o := fun e n => hidT_get e n
    have noA : ∀ {b : Addr} {o : Obj} {es : Array DictEntry} {ep : Nat}, s₁.heap.get? b = some o → o.data = .dict es ep → H b = none := fun {b o es ep} e d => by
      cases q : H b with
      | none => rfl
      | some u =>
        have e' : b = a := hA b (by rw [q]; simp)
        subst e'
        rw [ha] at e; cases e
        have d' : Data.seq vs.toArray _ = Data.dict es ep := d
        cases d'
    have nsK : ∀ {b : Addr} {m : Str → Option Value}, s₁.heap.Ns b m → (hidT s₁.heap H).Ns b m := fun {b m} ⟨o, es, ep, e, d, r⟩ => ⟨o, es, ep, base_of e (noA e d), d, r⟩
    have hKb : K.In (hidT s₁.heap H) := fun b o e => base_of (KX b o e) (by
      cases q : H b with
      | none => rfl
      | some u =>
        have e' : b = a := hA b (by rw [q]; simp)
        subst e'
        rw [hK (by rw [q]; simp)] at e; cases e)
    have hM : Mod K mg (hidT s₁.heap H) := ⟨hKb, nsK hns, ⟨mb, nsK hb, hbb⟩, let ⟨mc, h1, h2⟩ := hlim; ⟨mc, nsK h1, h2⟩⟩
    have e0 : Env0 P w K mg (hidT s₁.heap H) callerA [] s₁ H := ⟨rfl, hM, fun b o e => of_hidT e, Nat.le_of_eq (hidT_size _ _), trivial, fun b hb => absurd (show b ∈ ([] : List Addr) from hb) (by simp), hok, .of_eq hg⟩
    refine codeAny_mono ((F _ hKb (nsK hns)).run callerA [] s₁ H ⟨[.ref a], []⟩ [.ref a] [.ref a] _ _ hr e0 (hbind s₁ (.ref a)) (.cons rfl .nil) (hsp H hO hS)) fun r s' h => ?_
    cases r with
    | error e => exact (hCX H e s' h).elim
    | ok fl =>
      cases fl with
      | next => exact False.elim h
      | brk => exact False.elim h
      | cont => exact False.elim h
      | ret u =>
        obtain ⟨v, H', os, bare, un, hok', r', q⟩ := h
        have q' : v = .bl true := q
        subst q'
        obtain rfl : u = Value.bool true := r'
        refine ⟨rfl, OldK.of_keep fun b o e => ?_, os, bare⟩
        cases q : H b with
        | none => exact un.keep b o e q (by intro z; exact absurd (show b ∈ ([] : List Addr) from z) (by simp)) (by simp)
        | some u =>
          rcases hO b with z | ⟨ob, xs, z⟩
          · rw [q] at z; cases z
          · have z2 := un.frzs b ob _ z
            obtain ⟨e1, _⟩ := hok b _ z
            obtain ⟨e2, _⟩ := hok' b _ z2
            rw [e] at e1; cases e1
            exact e2
  cases hk : K.lookup a with
  | some o =>
    -- the script is one of the module's own objects
    have e := KX a o hk
    rw [ha] at e
    cases e
    refine core (fun _ => none) (fun _ => .inl rfl) (.inr ⟨_, vs.toArray, _, hk, rfl, rfl, rfl, by rw [List.size_toArray, lenV]; exact hl, by simpa using rv⟩) (fun b u z => by have z' : (none : Option HO) = some u := z; cases z') (fun b z => absurd rfl z) fun z => absurd rfl z
  | none =>
    refine core (fun b => if b = a then some (.frz { cls := .type "list", data := .seq vs.toArray } (.lst (ns.map V.int))) else none) (fun b => ?_) (.inl (.inr ⟨{ cls := .type "list", data := .seq vs.toArray }, if_pos rfl⟩)) (fun b u z => ?_) (fun b z => ?_) fun _ => hk
    · by_cases hb : b = a
      · exact .inr ⟨_, _, if_pos hb⟩
      · exact .inl (if_neg hb)
    · by_cases hb : b = a
      · have z' := (if_pos hb).symm.trans z
        cases z'
        subst hb
        exact ⟨ha, by rw [List.length_map]; exact hl, vs, _, rv, ha⟩
      · have z' := (if_neg hb).symm.trans z
        cases z'
    · by_cases hb : b = a
      · exact hb
      · exact absurd (if_neg hb) z
end L2

namespace L2
open PySem PySem.Spec PyProof.Rows

abbrev KOf {K : PySem.W.Frag} {h : Heap} (_ : K.In h) : PySem.W.Frag := K

/-- the goal that k_head leaves (case hc), from the law's promise. F gives the function object fd (K's own) once, then the promise over every base -/
theorem walk_of {l : PySem.W.OpenLaw} {n k : Nat} {q : Program} {loose : List Str} {XP : (Str → Option Value) → Heap → Prop} {YP : World → Heap → Prop} {d : DefRec} {K : Params → PySem.W.Frag} {CX : World → CXT} {sp : World → Sp} {x : Str}
    (hn : l.most = some n) (hn2 : n ≤ sizeLine) (hdf : d.params.defaults = []) (hr : Room k callerA)
    (hY : ∀ (w : World) (h : Heap), YP w h → (K w.params).In h)
    (F : ∀ (w : World) (mg : Str → Option Value) (fa : Addr) (h : Heap), (K w.params).In h → h.Ns mainGlobals mg → mg d.name = some (.ref fa) →
      ∃ fd : FuncData, (∀ (s : Shared) (u : Value), BindsTo s fd ⟨[u], []⟩ [(x, u)]) ∧
        ∀ base : Heap, (K w.params).In base → base.Ns mainGlobals mg → FnOk l.prog w (K w.params) mg base (CX w) k fa fd [x] (sp w))
    (hsp : ∀ (w : World) (H : Hp) (a : Addr) (ns : List Int), ns.length ≤ n → Only H → SqL (K w.params) H a (ns.map V.int) → sp w [.ref a] H (fun v _ => v = .bl true) fun _ _ _ => False)
    (hCX : ∀ (w : World) (H : Hp) (s : Shared) (e : Value) (s' : Shared), CX w [] H s (fun _ _ _ => False) e s' → False) :
    PySem.W.WalkO q loose XP YP l.row.toRowW d [] (fun f vs => PySem.call f vs) := by
  refine Att.attach_call hn hdf fun w s₀ s₁ mg mb fa o pm cd doc a vs ns G Y ho hd hcd hmg hobj hints hlen hg => ?_
  have KX := hY w _ Y
  obtain ⟨fd, hb, hF⟩ := F w mg fa _ KX G.T.g hmg
  exact law_call KX G.T.g G.T.b G.T.builtins G.T.nolimit hg hobj hints (Nat.le_trans hlen hn2) hr hF hb (fun H hO hS => hsp w H a ns hlen hO hS) fun H e s' => hCX w H s₁ e s'
end L2

/- THE LAST THEOREM (shape; LID, My.* are yours):
   My.Adr: a structure of the addresses that your layer names (classes, functions); My.Txt K t: a structure (Prop) of the equations over K;
   My.txt_mk : {K} {implicit addresses ..} (e1 : nsIn K mainGlobals "law" = some (some (.ref f))) (e2 : K.lookup f = some ⟨oc, od, .func (fnOf "law" "law" params body scope dV kV doc pm an cdv ct), sl⟩) (e3 : codeIn K cdv "law" = true) .. : ∃ t, My.Txt K t

set_option maxRecDepth 100000 in
set_option maxHeartbeats 0 in
theorem PySem.Challenge.cw_LID_holds : PySem.Challenge.rw_LID.Holds := by
  w_on; o_law; k_head; (case hw => w_witness2)
  k_fill
  refine L2.walk_of (l := PySem.Challenge.rw_LID) (n := 63) (k := 40) (x := "script") (CX := fun w => ..) (sp := fun _ => My.sp_law) rfl (by decide) rfl ⟨rfl, by decide, by decide⟩ (fun w h Y => PySem.W.kIn_of Y) ?F ?S ?C
  case F =>
    intro w mg fa h KX G hmg
    have T : ∃ t, My.Txt (L2.KOf KX) t := by
      dsimp only [L2.KOf]                          -- K must stand as «<heap const> w.params» for k_is
      refine' My.txt_mk ?e1 ?e2 ?e3 ..
      (case e1 => PySem.W.k_is)                    -- in the order: a name -> its address -> its object -> its parts
      (case e2 => PySem.W.k_is)
      ..
    obtain ⟨t, T⟩ := T
    have e0 := hmg.symm.trans (PySem.W.mg_of KX G T.law)
    cases e0                                       -- fa is the law's own address
    exact ⟨_, fun s u => .of_eq rfl, fun base kb nb => My.law_fn T kb nb⟩     -- if «.of_eq rfl» comes too early: refine' ⟨_, ?b, fun base kb nb => My.law_fn T kb nb⟩; exact fun s u => .of_eq rfl
  case S => exact fun w H a ns hl hO hS => ..
  case C => exact ..
(the tactic k_is has no namespace: write k_is) -/

/-! SHORT WORDS over the layer: a def of the text, its body, what a loop and a test want. -/
namespace L2
open PySem PySem.Spec PyProof.Rows

/-! ### the text by places -/
def defArgs (s : Stmt) : Arguments := match s with
  | .FunctionDef _ a _ _ _ _ _ _ _ _ => a
  | _ => { posonlyargs := [], args := [], vararg := none, kwonlyargs := [], kw_defaults := [], kwarg := none, defaults := [] }
def defBody (s : Stmt) : List Stmt := match s with
  | .FunctionDef _ _ b _ _ _ _ _ _ _ => b
  | _ => []
def defScope (s : Stmt) : Scope := match s with
  | .FunctionDef _ _ _ _ _ _ sc _ _ _ => sc
  | _ => { kind := .function, names := [], isGenerator := false, isCoroutine := false }

/-! ### no exception leaves a def -/
abbrev CX0 : CXT := fun _ _ _ _ _ _ => False
abbrev E0 : XK := fun _ _ _ => False
theorem pass0 {X : Cx} : Passes CX0 X E0 := fun _ _ _ _ _ _ _ h => h.elim

/-! ### a def (or method) of the text as it stands behind the top -/
section
variable {P : Program} {w : World} {K : PySem.W.Frag} {mg : Str → Option Value} {base : Heap}
end
/-! ### expressions in short: the name that stands in the i-th slot -/
section
variable {X : Cx}
end

/-! ### tests -/
/-! ### heaps -/
/-- all that was tracked is as it was -/
def Same (H H' : Hp) : Prop := ∀ b o, H b = some o → H' b = some o
theorem Same.refl (H : Hp) : Same H H := fun _ _ h => h
theorem Same.trans {H H1 H2 : Hp} (a : Same H H1) (b : Same H1 H2) : Same H H2 := fun c o h => b c o (a c o h)
end L2

set_option Elab.async false
set_option linter.all false
set_option maxRecDepth 100000
set_option maxHeartbeats 4000000
/-! Plain data, and the functions that expressions, statements and defs are. -/
namespace VL
open PySem L2
abbrev D := PyData
/-- what an own slot holds: a list, a dict -/
inductive Oc where
  | l (ds : List D) | d (es : List (Key × D))
inductive Sl where
  | un | fz (d : D) | own (c : Oc) | fr (ds : List D)
abbrev Sl.ow (ds : List D) : Sl := .own (.l ds)
abbrev Sl.od (es : List (Key × D)) : Sl := .own (.d es)
/-- a dict of whole numbers, kept as it is -/
def keyDD : Key → D
  | .inl i => .int i
  | .inr x => .str x
/-- an object of a class of the text: the class's name, the fields -/
def insL (n : Str) (ds : List (Str × D)) : List (D × D) := (.str "ins", .str n) :: ds.map fun q => (.str q.1, q.2)
def dctD (es : List (Key × Int)) : List (D × D) := es.map fun p => (keyDD p.1, .int p.2)
abbrev Dv := List Sl
inductive Fl where
  | nx | bk | ct | rt (d : D)
abbrev Sf := Dv → Option (Fl × Dv)
@[simp] def o2 (f1 f2 : Dv → Option D) (g : D → D → Option D) : Dv → Option D := fun δ => (f1 δ).bind fun x => (f2 δ).bind fun y => g x y
@[simp] def o1 (f : Dv → Option D) (g : D → Option D) : Dv → Option D := fun δ => (f δ).bind g
@[simp] def os (f : Dv → Option (List D)) (g : List D → Option D) : Dv → Option D := fun δ => (f δ).bind g
def asB : D → Option Bool
  | .bool b => some b
  | _ => none
@[simp] theorem asB_bool (b : Bool) : asB (.bool b) = some b := rfl
@[simp] def ob (f : Dv → Option D) : Dv → Option Bool := fun δ => (f δ).bind asB
@[simp] def oAnd (t u : Dv → Option Bool) : Dv → Option Bool := fun δ => (t δ).bind fun b => if b = true then u δ else some false
@[simp] def oOr (t u : Dv → Option Bool) : Dv → Option Bool := fun δ => (t δ).bind fun b => if b = true then some true else u δ
@[simp] def oNot (t : Dv → Option Bool) : Dv → Option Bool := fun δ => (t δ).map (!·)
@[simp] def oAndV (f1 f2 : Dv → Option D) : Dv → Option D := fun δ => (f1 δ).bind fun x => (asB x).bind fun b => if b = true then f2 δ else some (.bool false)
@[simp] def oOrV (f1 f2 : Dv → Option D) : Dv → Option D := fun δ => (f1 δ).bind fun x => (asB x).bind fun b => if b = true then some (.bool true) else f2 δ
@[simp] def notD (d : D) : Option D := (asB d).map fun b => .bool (!b)
@[simp] def oIf (t : Dv → Option Bool) (f1 f2 : Dv → Option D) : Dv → Option D := fun δ => (t δ).bind fun b => if b = true then f1 δ else f2 δ
def slV : Option Sl → Option D
  | some (.fz d) => some d
  | some (.fr ds) => some (.list ds)
  | _ => none
@[simp] theorem slV_fr (ds : List D) : slV (some (.fr ds)) = some (.list ds) := rfl
@[simp] theorem slV_fz (d : D) : slV (some (.fz d)) = some d := rfl
@[simp] def oV (i : Nat) : Dv → Option D := fun δ => slV δ[i]?
@[simp] def oC (d : D) : Dv → Option D := fun _ => some d
@[simp] def oNil : Dv → Option (List D) := fun _ => some []
@[simp] def oCons (f : Dv → Option D) (fs : Dv → Option (List D)) : Dv → Option (List D) := fun δ => (f δ).bind fun x => (fs δ).bind fun xs => some (x :: xs)
def tupD (ds : List D) : Option D := if ds.length ≤ sizeLine then some (.tuple ds) else none
def lstD (ds : List D) : Option D := if ds.length ≤ sizeLine then some (.list ds) else none
theorem tupD_ok {ds : List D} (h : ds.length ≤ 16777216) : tupD ds = some (.tuple ds) := if_pos h
theorem lstD_ok {ds : List D} (h : ds.length ≤ 16777216) : lstD ds = some (.list ds) := if_pos h
@[simp] theorem tupD0 : tupD [] = some (.tuple []) := rfl
@[simp] theorem tupD2 (a b : D) : tupD [a, b] = some (.tuple [a, b]) := tupD_ok (by simp)
@[simp] theorem tupD3 (a b c : D) : tupD [a, b, c] = some (.tuple [a, b, c]) := tupD_ok (by simp)
@[simp] theorem lstD0 : lstD [] = some (.list []) := rfl
@[simp] theorem lstD1 (a : D) : lstD [a] = some (.list [a]) := lstD_ok (by simp)
@[simp] theorem lstD2 (a b : D) : lstD [a, b] = some (.list [a, b]) := lstD_ok (by simp)
@[simp] theorem lstD3 (a b c : D) : lstD [a, b, c] = some (.list [a, b, c]) := lstD_ok (by simp)
@[simp] theorem lstD5 (a b c d e : D) : lstD [a, b, c, d, e] = some (.list [a, b, c, d, e]) := lstD_ok (by simp)
/-! ### ints -/
instance (i j : Int) : Decidable (IntMulOk i j) := by unfold IntMulOk; infer_instance
def iI (g : Int → Int → Int) : D → D → Option D
  | .int i, .int j => some (.int (g i j))
  | _, _ => none
def iC (C : Int → Int → Bool) (g : Int → Int → Int) : D → D → Option D
  | .int i, .int j => if C i j = true then some (.int (g i j)) else none
  | _, _ => none
def iB (g : Int → Int → Bool) : D → D → Option D
  | .int i, .int j => some (.bool (g i j))
  | _, _ => none
@[simp] theorem iI_int (g : Int → Int → Int) (i j : Int) : iI g (.int i) (.int j) = some (.int (g i j)) := rfl
@[simp] theorem iB_int (g : Int → Int → Bool) (i j : Int) : iB g (.int i) (.int j) = some (.bool (g i j)) := rfl
theorem iC_int {C : Int → Int → Bool} {g : Int → Int → Int} {i j : Int} (h : C i j = true) : iC C g (.int i) (.int j) = some (.int (g i j)) := if_pos h
def cMul (i j : Int) : Bool := decide (IntMulOk i j)
def cDiv (i j : Int) : Bool := decide (0 < j ∧ j < 1073741824)
def cMod (i j : Int) : Bool := decide (0 < j)
def cPow (i j : Int) : Bool := decide (0 ≤ j ∧ j ≤ 1000000 ∧ i.natAbs < 2 ^ 64)
abbrev subD := iI fun i j => i - j
abbrev mulI := iC cMul fun i j => i * j
abbrev divD := iC cDiv fun i j => i / j
abbrev modD := iC cMod fun i j => i % j
abbrev powD := iC cPow fun i j => i ^ j.toNat
abbrev ltD := iB fun i j => decide (i < j)
abbrev gtD := iB fun i j => decide (j < i)
@[simp] theorem mulI_int {i j : Int} (h : IntMulOk i j) : mulI (.int i) (.int j) = some (.int (i * j)) := iC_int (decide_eq_true h)
@[simp] theorem divD_int {i j : Int} (h : 0 < j) (h2 : j < 1073741824) : divD (.int i) (.int j) = some (.int (i / j)) := iC_int (decide_eq_true ⟨h, h2⟩)
@[simp] theorem modD_int {i j : Int} (h : 0 < j) : modD (.int i) (.int j) = some (.int (i % j)) := iC_int (decide_eq_true h)
@[simp] theorem powD_int {i j : Int} (h : 0 ≤ j) (h2 : j ≤ 1000000) (h3 : i.natAbs < 2 ^ 64) : powD (.int i) (.int j) = some (.int (i ^ j.toNat)) := iC_int (decide_eq_true ⟨h, h2, h3⟩)
def negD : D → Option D
  | .int i => some (.int (-i))
  | _ => none
@[simp] theorem negD_int (i : Int) : negD (.int i) = some (.int (-i)) := rfl
def addD : D → D → Option D
  | .int i, .int j => some (.int (i + j))
  | .str x, .str y => if x.length + y.length ≤ sizeLine then some (.str (x ++ y)) else none
  | .list xs, .list ys => if xs.length + ys.length ≤ sizeLine then some (.list (xs ++ ys)) else none
  | .tuple xs, .tuple ys => if xs.length + ys.length ≤ sizeLine then some (.tuple (xs ++ ys)) else none
  | _, _ => none
@[simp] theorem addD_int (i j : Int) : addD (.int i) (.int j) = some (.int (i + j)) := rfl
theorem addD_list {xs ys : List D} (h : xs.length + ys.length ≤ 16777216) : addD (.list xs) (.list ys) = some (.list (xs ++ ys)) := if_pos h
/-! ### == -/
def shp (d : D) : Bool := PySem.SeqAt.shaped d
def eqD : D → D → Option D := fun a b => if shp a = true ∧ shp b = true then some (.bool (PyData.eqv a b)) else none
def neD : D → D → Option D := fun a b => if shp a = true ∧ shp b = true then some (.bool (!PyData.eqv a b)) else none
@[simp] theorem eqD_int (i j : Int) : eqD (.int i) (.int j) = some (.bool (i == j)) := rfl
@[simp] theorem neD_int (i j : Int) : neD (.int i) (.int j) = some (.bool (!(i == j))) := rfl
@[simp] theorem eqD_bool (i j : Bool) : eqD (.bool i) (.bool j) = some (.bool (i == j)) := rfl
@[simp] theorem neD_bool (i j : Bool) : neD (.bool i) (.bool j) = some (.bool (!(i == j))) := rfl
def isN (d : D) : Bool := match d with
  | .none => true
  | _ => false
def isD : D → D → Option D := fun a b => match b with
  | .none => some (.bool (isN a))
  | _ => none
def isntD : D → D → Option D := fun a b => match b with
  | .none => some (.bool (!isN a))
  | _ => none
@[simp] theorem isD_none (a : D) : isD a .none = some (.bool (isN a)) := rfl
@[simp] theorem isntD_none (a : D) : isntD a .none = some (.bool (!isN a)) := rfl
@[simp] theorem isN_none : isN .none = true := rfl
@[simp] theorem isN_int (i : Int) : isN (.int i) = false := rfl
/-! ### items -/
def ixD : D → D → Option D
  | .list xs, .int i => atI xs i
  | .tuple xs, .int i => atI xs i
  | _, _ => none
@[simp] theorem ixD_list (xs : List D) (i : Int) : ixD (.list xs) (.int i) = atI xs i := rfl
@[simp] theorem ixD_tuple (xs : List D) (i : Int) : ixD (.tuple xs) (.int i) = atI xs i := rfl
theorem atI_of {α : Type} {xs : List α} {i : Int} {j : Nat} {v : α} (hi : i = j) (h : xs[j]? = some v) : atI xs i = some v := by
  have hl : j < xs.length := (List.getElem?_eq_some_iff.mp h).1
  subst hi
  unfold atI ixN
  rw [if_pos (by omega), if_pos (by omega)]
  simpa using h
@[simp] theorem at0 {α : Type} (a : α) (r : List α) : atI (a :: r) 0 = some a := atI_of (j := 0) rfl rfl
@[simp] theorem at1 {α : Type} (a b : α) (r : List α) : atI (a :: b :: r) 1 = some b := atI_of (j := 1) rfl rfl
@[simp] theorem at2 {α : Type} (a b c : α) (r : List α) : atI (a :: b :: c :: r) 2 = some c := atI_of (j := 2) rfl rfl
@[simp] theorem at3 {α : Type} (a b c d : α) (r : List α) : atI (a :: b :: c :: d :: r) 3 = some d := atI_of (j := 3) rfl rfl
@[simp] theorem at4 {α : Type} (a b c d e : α) (r : List α) : atI (a :: b :: c :: d :: e :: r) 4 = some e := atI_of (j := 4) rfl rfl
/-! ### builtins -/
def lenD : List D → Option D
  | [.list xs] => some (.int xs.length)
  | [.tuple xs] => some (.int xs.length)
  | _ => none
@[simp] theorem lenD_list (xs : List D) : lenD [.list xs] = some (.int xs.length) := rfl
@[simp] theorem lenD_tuple (xs : List D) : lenD [.tuple xs] = some (.int xs.length) := rfl
def minD : List D → Option D
  | [.int i, .int j] => some (.int (if j < i then j else i))
  | _ => none
def maxD : List D → Option D
  | [.int i, .int j] => some (.int (if j > i then j else i))
  | _ => none
@[simp] theorem minD_int (i j : Int) : minD [.int i, .int j] = some (.int (if j < i then j else i)) := rfl
@[simp] theorem maxD_int (i j : Int) : maxD [.int i, .int j] = some (.int (if j > i then j else i)) := rfl
def intD : List D → Option D
  | [.int i] => some (.int i)
  | [.bool b] => some (.int (if b then 1 else 0))
  | _ => none
@[simp] theorem intD_int (i : Int) : intD [.int i] = some (.int i) := rfl
@[simp] theorem intD_bool (b : Bool) : intD [.bool b] = some (.int (if b then 1 else 0)) := rfl
def listD : List D → Option D
  | [.list xs] => some (.list xs)
  | [.tuple xs] => some (.list xs)
  | _ => none
@[simp] theorem listD_list (xs : List D) : listD [.list xs] = some (.list xs) := rfl
@[simp] theorem listD_tuple (xs : List D) : listD [.tuple xs] = some (.list xs) := rfl
def tupleD : List D → Option D
  | [.list xs] => some (.tuple xs)
  | [.tuple xs] => some (.tuple xs)
  | _ => none
@[simp] theorem tupleD_list (xs : List D) : tupleD [.list xs] = some (.tuple xs) := rfl
@[simp] theorem tupleD_tuple (xs : List D) : tupleD [.tuple xs] = some (.tuple xs) := rfl
def bitsD : D → Option D
  | .int i => some (.int (Builtin.Int.intBits i))
  | _ => none
@[simp] theorem bitsD_int (i : Int) : bitsD (.int i) = some (.int (Builtin.Int.intBits i)) := rfl
def tyN : D → String
  | .none => "NoneType"
  | .bool _ => "bool"
  | .int _ => "int"
  | .str _ => "str"
  | .list _ => "list"
  | .tuple _ => "tuple"
  | .dict _ => "dict"
def isiB (t T : String) : Bool := t == T || (t == "bool" && T == "int")
def isDct : D → Bool
  | .dict _ => true
  | _ => false
def isiD (T : String) (d : D) : Option D := if isDct d = true then none else if T = "int" ∨ T = "bool" ∨ T = "str" ∨ T = "list" ∨ T = "tuple" then some (.bool (isiB (tyN d) T)) else none
@[simp] theorem isi_int_int (i : Int) : isiD "int" (.int i) = some (.bool true) := rfl
@[simp] theorem isi_bool_int (i : Int) : isiD "bool" (.int i) = some (.bool false) := rfl
@[simp] theorem isi_int_bool (i : Bool) : isiD "int" (.bool i) = some (.bool true) := rfl
@[simp] theorem isi_bool_bool (i : Bool) : isiD "bool" (.bool i) = some (.bool true) := rfl
@[simp] theorem isi_tuple_tuple (xs : List D) : isiD "tuple" (.tuple xs) = some (.bool true) := rfl
@[simp] theorem isi_list_list (xs : List D) : isiD "list" (.list xs) = some (.bool true) := rfl
/-! ### statements -/
@[simp] def sRet (f : Dv → Option D) : Sf := fun δ => (f δ).bind fun d => some (.rt d, δ)
@[simp] def sSet (i : Nat) (f : Dv → Option D) : Sf := fun δ => (f δ).bind fun d => some (.nx, δ.set i (.fz d))
@[simp] def sDrop (f : Dv → Option D) : Sf := fun δ => (f δ).bind fun _ => some (.nx, δ)
@[simp] def sNx : Sf := fun δ => some (.nx, δ)
@[simp] def sBk : Sf := fun δ => some (.bk, δ)
@[simp] def sCt : Sf := fun δ => some (.ct, δ)
@[simp] def sSeq (s t : Sf) : Sf := fun δ => (s δ).bind fun r => match r with
  | (.nx, δ') => t δ'
  | r => some r
@[simp] def sIf (t : Dv → Option Bool) (u w : Sf) : Sf := fun δ => (t δ).bind fun c => if c = true then u δ else w δ
def dFz (i : Nat) (δ : Dv) : Dv := match δ[i]? with
  | some (.own (.l ds)) => δ.set i (.fz (.list ds))
  | _ => δ
@[simp] def gN (i : Nat) : D → Dv → Option Dv := fun d δ => some (δ.set i (.fz d))
def loop (g : D → Dv → Option Dv) (b : Sf) : List D → Sf
  | [], δ => some (.nx, δ)
  | d :: ds, δ => (g d δ).bind fun δ1 => (b δ1).bind fun r => match r with
    | (.nx, δ2) => loop g b ds δ2
    | (.ct, δ2) => loop g b ds δ2
    | (.bk, δ2) => some (.nx, δ2)
    | (.rt x, δ2) => some (.rt x, δ2)
@[simp] theorem loop_nil (g : D → Dv → Option Dv) (b : Sf) (δ : Dv) : loop g b [] δ = some (.nx, δ) := rfl
@[simp] def sFor (f : Dv → Option (List D)) (g : D → Dv → Option Dv) (b : Sf) : Sf := fun δ => (f δ).bind fun ds => loop g b ds δ
def rngL (lo : Int) (n : Nat) : List D := (List.range n).map fun k => .int (lo + (k : Nat))
def rng1D : List D → Option (List D)
  | [.int j] => if j < 2 ^ 62 ∧ -(2 ^ 62) ≤ j then some (rngL 0 j.toNat) else none
  | _ => none
def rng2D : List D → Option (List D)
  | [.int i, .int j] => if (i < 2 ^ 62 ∧ -(2 ^ 62) ≤ i) ∧ j < 2 ^ 62 ∧ -(2 ^ 62) ≤ j then some (rngL i (j - i).toNat) else none
  | _ => none
@[simp] def oL (fs : Dv → Option (List D)) (g : List D → Option (List D)) : Dv → Option (List D) := fun δ => (fs δ).bind g
def itsD : D → Option (List D)
  | .list xs => some xs
  | .tuple xs => some xs
  | _ => none
@[simp] theorem itsD_list (xs : List D) : itsD (.list xs) = some xs := rfl
@[simp] theorem itsD_tuple (xs : List D) : itsD (.tuple xs) = some xs := rfl
def lstI : D → Option (List D)
  | .list xs => some xs
  | _ => none
def tupI : D → Option (List D)
  | .tuple xs => some xs
  | _ => none
@[simp] def oI (f : Dv → Option D) (g : D → Option (List D)) : Dv → Option (List D) := fun δ => (f δ).bind g
@[simp] def oNo : Dv → Option (Option Int) := fun _ => some none
def asI : D → Option (Option Int)
  | .int i => some (some i)
  | _ => none
@[simp] theorem asI_int (i : Int) : asI (.int i) = some (some i) := rfl
@[simp] def oP (f : Dv → Option D) : Dv → Option (Option Int) := fun δ => (f δ).bind asI
def cutD (xs : List D) (lo hi : Option Int) : List D := (xs.drop (HT.sIx xs.length 0 lo)).take (HT.sIx xs.length xs.length hi - HT.sIx xs.length 0 lo)
def slD : D → Option Int → Option Int → Option D
  | .list xs, lo, hi => some (.list (cutD xs lo hi))
  | .tuple xs, lo, hi => some (.tuple (cutD xs lo hi))
  | _, _, _ => none
@[simp] def oSl (f : Dv → Option D) (l u : Dv → Option (Option Int)) : Dv → Option D := fun δ => (f δ).bind fun x => (l δ).bind fun i => (u δ).bind fun j => slD x i j
def startD (N : List Str) (as : List D) : Dv := as.map .fz ++ List.replicate (N.length - as.length) .un
def runB (N : List Str) (n : Nat) (b : Sf) : List D → Option D := fun as => if as.length = n then (b (startD N as)).bind fun r => match r with
    | (.rt d, _) => some d
    | (.nx, _) => some .none
    | _ => none
  else none
end VL

set_option Elab.async false
set_option linter.all false
set_option maxRecDepth 100000
set_option maxHeartbeats 4000000
/-! Values as plain data over the hand layer: what an expression, a statement, a def is worth, as a partial function over plain data. -/
namespace VL
open PySem PySem.Spec PyProof.Rows L2

abbrev Fg := PySem.W.Frag
abbrev St := L2.St

/-- things that are no plain data: an exception of a class of the text, a def of the text -/
def exO (a C : Addr) (dx : Option Addr := none) : HO := .ext fun h => ∃ o, h.get? a = some o ∧ o.cls = .ref C ∧ (∃ vs, o.data = .fields vs ∧ vs[2]? = some .none) ∧ o.dict = dx
/-- the dict of an exception that holds a number as row -/
def rowO (d : Addr) (k : Int) : HO := .ext fun h => ∃ t, h.Ns1 d fun y => if y = "row" then some (.int k t) else none
theorem Rd.same {H H' : Hp} {a : Addr} {u : HO} (h : Rd H a u) (s : Same H H') : Rd H' a u := by
  rcases h with h | ⟨o, h⟩
  · exact .inl (s _ _ h)
  · exact .inr ⟨o, s _ _ h⟩
def RowAt (Z : Hp) (dx : Option Addr) (k : Int) : Prop := k = 0 ∨ ∃ d, dx = some d ∧ Rd Z d (rowO d k)
theorem RowAt.same {Z Z' : Hp} {dx : Option Addr} {k : Int} (h : RowAt Z dx k) (s : Same Z Z') : RowAt Z' dx k := h.imp id fun ⟨d, e, r⟩ => ⟨d, e, Rd.same r s⟩
/-- an item of a list that an object of a class of the text has -/
inductive FI (K : Fg) (Z : Hp) : V → D → Prop
  | int (i : Int) : FI K Z (.int i) (.int i)
  | pair {b : Addr} {i j : Int} : SqT K Z b [.int i, .int j] → FI K Z (.ref b) (.tuple [.int i, .int j])
/-- a field of an object of a class of the text -/
inductive FF (K : Fg) (Z : Hp) : V → D → Prop
  | int (i : Int) : FF K Z (.int i) (.int i)
  | lst {b : Addr} {xs : List V} {ds : List D} : Z b = some (.lst xs) → Paired (FI K Z) xs ds → FF K Z (.ref b) (.list ds)
inductive Opq (K : Fg) (Z : Hp) (a : Addr) : List (D × D) → Prop
  | exc {n : Str} {C : Addr} {dx : Option Addr} {k : Int} : PySem.W.nsIn K mainGlobals n = some (some (.ref C)) → Rd Z a (exO a C dx) → RowAt Z dx k → Opq K Z a [(.str "exc", .str n), (.str "row", .int k)]
  | fn {n : Str} : PySem.W.nsIn K mainGlobals n = some (some (.ref a)) → Opq K Z a [(.str "fn", .str n)]
  | ins {n : Str} {C dx : Addr} {fs : List (Str × V)} {ds : List (Str × D)} : PySem.W.nsIn K mainGlobals n = some (some (.ref C)) → Z a = some (.ins C dx fs) → Paired (fun (p : Str × V) (q : Str × D) => p.1 = q.1 ∧ FF K Z p.2 q.2) fs ds → Opq K Z a (insL n ds)
  | dct {kvs : List (D × D)} {es : List (Key × Int)} : kvs = dctD es → Z a = some (.dK (es.map fun p => (p.1, V.int p.2))) → Opq K Z a kvs
theorem dctD_no {es : List (Key × Int)} {a : D} {x : Str} {r : List (D × D)} (h : (a, PyData.str x) :: r = dctD es) : False := by
  cases es with
  | nil => cases h
  | cons e es => simp [dctD] at h
theorem SqT.same {K : Fg} {H H' : Hp} {a : Addr} {xs : List V} (h : SqT K H a xs) (s : Same H H') : SqT K H' a xs := by
  rcases h with h | h
  · exact .inl (Rd.same h s)
  · exact .inr h
theorem FI.same {K : Fg} {Z Z' : Hp} (s : Same Z Z') {v : V} {d : D} (h : FI K Z v d) : FI K Z' v d := by
  cases h with
  | int i => exact .int i
  | pair q => exact .pair (SqT.same q s)
theorem FF.same {K : Fg} {Z Z' : Hp} (s : Same Z Z') {v : V} {d : D} (h : FF K Z v d) : FF K Z' v d := by
  cases h with
  | int i => exact .int i
  | lst q r => exact .lst (s _ _ q) (Paired.mapP r fun _ _ => FI.same s)
theorem Opq.same {K : Fg} {Z Z' : Hp} {a : Addr} {kvs : List (D × D)} (s : Same Z Z') (h : Opq K Z a kvs) : Opq K Z' a kvs := by
  cases h with
  | exc h1 h2 h3 => exact .exc h1 (Rd.same h2 s) (h3.same s)
  | fn h1 => exact .fn h1
  | ins h1 h2 h3 => exact .ins h1 (s _ _ h2) (Paired.mapP h3 fun _ _ q => ⟨q.1, q.2.same s⟩)
  | dct h1 h2 => exact .dct h1 (s _ _ h2)
mutual
inductive Rep (K : Fg) (Z : Hp) : V → D → Prop
  | non : Rep K Z .non .none
  | bl (b : Bool) : Rep K Z (.bl b) (.bool b)
  | int (i : Int) : Rep K Z (.int i) (.int i)
  | str (x : Str) : Rep K Z (.str x) (.str x)
  | tup {a : Addr} {xs : List V} {ds : List D} : SqT K Z a xs → Reps K Z xs ds → Rep K Z (.ref a) (.tuple ds)
  | lst {a : Addr} {xs : List V} {ds : List D} : SqL K Z a xs → Reps K Z xs ds → Rep K Z (.ref a) (.list ds)
  | opq {a : Addr} {kvs : List (D × D)} : Opq K Z a kvs → Rep K Z (.ref a) (.dict kvs)
  | gdc {a : Addr} {kvs : List (Key × V)} {es : List (Key × D)} {l : List (D × D)} : Z a = some (.dK kvs) → es.map (·.1) = kvs.map (·.1) → Reps K Z (kvs.map (·.2)) (es.map (·.2)) → l = es.map (fun p => (keyDD p.1, p.2)) → Rep K Z (.ref a) (.dict ((.none, .none) :: l))
inductive Reps (K : Fg) (Z : Hp) : List V → List D → Prop
  | nil : Reps K Z [] []
  | cons {v : V} {d : D} {vs : List V} {ds : List D} : Rep K Z v d → Reps K Z vs ds → Reps K Z (v :: vs) (d :: ds)
end

theorem SqL.same {K : Fg} {H H' : Hp} {a : Addr} {xs : List V} (h : SqL K H a xs) (s : Same H H') : SqL K H' a xs := by
  rcases h with h | h
  · exact .inl (Rd.same h s)
  · exact .inr h
mutual
theorem Rep.same {K : Fg} {Z Z' : Hp} (s : Same Z Z') : ∀ {v : V} {d : D}, Rep K Z v d → Rep K Z' v d
  | _, _, .non => .non
  | _, _, .bl b => .bl b
  | _, _, .int i => .int i
  | _, _, .str x => .str x
  | _, _, .tup h r => .tup (SqT.same h s) (Reps.same s r)
  | _, _, .lst h r => .lst (SqL.same h s) (Reps.same s r)
  | _, _, .opq h => .opq (Opq.same s h)
  | _, _, .gdc h k r e => .gdc (s _ _ h) k (Reps.same s r) e
theorem Reps.same {K : Fg} {Z Z' : Hp} (s : Same Z Z') : ∀ {vs : List V} {ds : List D}, Reps K Z vs ds → Reps K Z' vs ds
  | _, _, .nil => .nil
  | _, _, .cons h r => .cons (Rep.same s h) (Reps.same s r)
end
theorem Reps.length {K : Fg} {Z : Hp} : ∀ {vs : List V} {ds : List D}, Reps K Z vs ds → vs.length = ds.length
  | _, _, .nil => rfl
  | _, _, .cons _ r => congrArg (· + 1) (Reps.length r)
theorem Reps.get {K : Fg} {Z : Hp} : ∀ {vs : List V} {ds : List D} {i : Nat} {d : D}, Reps K Z vs ds → ds[i]? = some d → ∃ v, vs[i]? = some v ∧ Rep K Z v d
  | _, _, _, _, .nil, e => by simp at e
  | _, _, 0, _, .cons r _, e => by simp at e; subst e; exact ⟨_, rfl, r⟩
  | _, _, i + 1, d, .cons _ t, e => by
    obtain ⟨u, h1, h2⟩ := Reps.get (i := i) (d := d) t (by simpa using e)
    exact ⟨u, by simpa using h1, h2⟩
theorem Reps.append {K : Fg} {Z : Hp} : ∀ {xs ys : List V} {us ws : List D}, Reps K Z xs us → Reps K Z ys ws → Reps K Z (xs ++ ys) (us ++ ws)
  | _, _, _, _, .nil, s => s
  | _, _, _, _, .cons r t, s => .cons r (Reps.append t s)
theorem Reps.take {K : Fg} {Z : Hp} : ∀ {xs : List V} {us : List D} (n : Nat), Reps K Z xs us → Reps K Z (xs.take n) (us.take n)
  | _, _, 0, _ => .nil
  | _, _, _ + 1, .nil => .nil
  | _, _, n + 1, .cons r t => .cons r (Reps.take n t)
theorem Reps.drop {K : Fg} {Z : Hp} : ∀ {xs : List V} {us : List D} (n : Nat), Reps K Z xs us → Reps K Z (xs.drop n) (us.drop n)
  | _, _, 0, r => r
  | _, _, _ + 1, .nil => .nil
  | _, _, n + 1, .cons _ t => Reps.drop n t
theorem Rep.int_eq {K : Fg} {Z : Hp} {v : V} {i : Int} (h : Rep K Z v (.int i)) : v = .int i := by cases h; rfl
theorem Rep.bl_eq {K : Fg} {Z : Hp} {v : V} {b : Bool} (h : Rep K Z v (.bool b)) : v = .bl b := by cases h; rfl
theorem Reps.ints {K : Fg} {Z : Hp} : ∀ ns : List Int, Reps K Z (ns.map V.int) (ns.map PyData.int)
  | [] => .nil
  | n :: r => .cons (.int n) (Reps.ints r)

/-! ### from the abstract heap to the heap -/
mutual
theorem Rep.reads {X : Cx} {pins : List (Addr × Obj)} {σ : St} {H Z : Hp} {s : Shared} (I : Inv X pins σ H s) (zh : Same Z H) : ∀ {v : V} {d : D} {u : Value}, Rep X.K Z v d → RelV v u → d.canLay0 = true → ∃ as, Reads s.heap u d as
  | _, _, u, .non, r, _ => by cases (show u = Value.none from r); exact ⟨_, .none⟩
  | _, _, u, .bl b, r, _ => by cases (show u = Value.bool b from r); exact ⟨_, .bool b⟩
  | _, _, u, .int i, r, _ => by obtain ⟨t, rfl⟩ := (show ∃ t, u = Value.int i t from r); exact ⟨_, .int i t⟩
  | _, _, u, .str x, r, _ => by obtain ⟨t, rfl⟩ := (show ∃ t, u = Value.str x t from r); exact ⟨_, .str x t⟩
  | _, _, u, .tup (a := a) h q, r, hc => by
    cases (show u = Value.ref a from r)
    obtain ⟨its, rv, ht, _⟩ := I.tuple (SqT.same h zh)
    obtain ⟨as, ra⟩ := Reps.reads I zh q rv hc
    obtain ⟨o, e, c, n, dd⟩ := ht
    exact ⟨_, reads_tuple_at e c dd (by simpa using ra)⟩
  | _, _, u, .lst (a := a) h q, r, hc => by
    cases (show u = Value.ref a from r)
    obtain ⟨its, rv, ht, _⟩ := I.list (SqL.same h zh)
    obtain ⟨as, ra⟩ := Reps.reads I zh q rv hc
    obtain ⟨o, n, e, c, _, dd⟩ := ht
    exact ⟨_, reads_list_at e c dd (by simpa using ra)⟩
  | _, _, u, .opq h, r, hc => by cases hc
  | _, _, u, .gdc h k q e, r, hc => by cases hc
theorem Reps.reads {X : Cx} {pins : List (Addr × Obj)} {σ : St} {H Z : Hp} {s : Shared} (I : Inv X pins σ H s) (zh : Same Z H) : ∀ {vs : List V} {ds : List D} {us : List Value}, Reps X.K Z vs ds → Vals vs us → PyData.canLayAll0 ds = true → ∃ as, ReadsAll s.heap us ds as
  | _, _, _, .nil, .nil, _ => ⟨_, .nil⟩
  | _, _, _, .cons h q, .cons r t, hc => by
    have hc' := Bool.and_eq_true_iff.mp hc
    obtain ⟨as, ha⟩ := Rep.reads I zh h r hc'.1
    obtain ⟨bs, hb⟩ := Reps.reads I zh q t hc'.2
    exact ⟨_, .cons ha hb⟩
end

/-! ### what is new -/
/-- no list that lies still -/
def noFz : HO → Bool
  | .frz _ (.lst _) => false
  | _ => true
/-- no new list lies still -/
def NoF (Z Z' : Hp) : Prop := ∀ b o xs, Z' b = some (.frz o (.lst xs)) → Z b = some (.frz o (.lst xs))
theorem NoF.refl (Z : Hp) : NoF Z Z := fun _ _ _ e => e
theorem NoF.trans {Z Z1 Z2 : Hp} (a : NoF Z Z1) (b : NoF Z1 Z2) : NoF Z Z2 := fun c o xs e => a c o xs (b c o xs e)
theorem NoF.upd {Z Z' : Hp} (a : NoF Z Z') (p : Addr) {u : HO} (hu : noFz u = true := by rfl) : NoF Z (upd Z' p u) := fun b o xs e => by
  by_cases hb : b = p
  · subst hb
    rw [upd_same] at e
    cases e
    cases hu
  · rw [upd_ne hb] at e
    exact a b o xs e
structure New (Z H Z' H' : Hp) : Prop where
  z : Same Z Z'
  h : Same H H'
  zh : Same Z' H'
  o : ∀ b, H b ≠ none → Z' b = Z b
  nf : NoF Z Z'
theorem New.refl {Z H : Hp} (zh : Same Z H) : New Z H Z H := ⟨Same.refl _, Same.refl _, zh, fun _ _ => rfl, NoF.refl _⟩
theorem New.trans {Z H Z1 H1 Z2 H2 : Hp} (a : New Z H Z1 H1) (b : New Z1 H1 Z2 H2) : New Z H Z2 H2 :=
  ⟨a.z.trans b.z, a.h.trans b.h, b.zh, fun c hc => by
    have : H1 c ≠ none := by
      cases e : H c with
      | none => exact absurd e hc
      | some o => rw [a.h c o e]; intro z; cases z
    rw [b.o c this, a.o c hc], a.nf.trans b.nf⟩
theorem same_upd {H : Hp} {p : Addr} {o : HO} (h : H p = none) : Same H (upd H p o) := fun b u e => by
  rw [upd_ne (ne_of_none e h)]; exact e
theorem free_of {Z H : Hp} (zh : Same Z H) {p : Addr} (h : H p = none) : Z p = none := by
  cases e : Z p with
  | none => rfl
  | some o => rw [zh p o e] at h; cases h
/-- a new object, known for good -/
theorem New.add {Z H : Hp} (zh : Same Z H) {p : Addr} (hp : H p = none) (o : HO) (hf : noFz o = true := by rfl) : New Z H (upd Z p o) (upd H p o) where
  nf := (NoF.refl Z).upd p hf
  z := same_upd (free_of zh hp)
  h := same_upd hp
  zh := fun b u e => by
    by_cases hb : b = p
    · subst hb; rw [upd_same] at e ⊢; exact e
    · rw [upd_ne hb] at e ⊢; exact zh b u e
  o := fun b hb => by
    have : b ≠ p := fun z => hb (z ▸ hp)
    rw [upd_ne this]

/-! ### slots -/

/-- a dict's pairs and what they stand for -/
def RepK (K : Fg) (Z : Hp) (kvs : List (Key × V)) (es : List (Key × D)) : Prop := es.map (·.1) = kvs.map (·.1) ∧ Reps K Z (kvs.map (·.2)) (es.map (·.2))
inductive OwR (K : Fg) (Z : Hp) : HO → Oc → Prop
  | lst {xs : List V} {ds : List D} : Reps K Z xs ds → OwR K Z (.lst xs) (.l ds)
  | dct {kvs : List (Key × V)} {es : List (Key × D)} : RepK K Z kvs es → OwR K Z (.dK kvs) (.d es)
theorem OwR.same {K : Fg} {Z Z' : Hp} {o : HO} {c : Oc} (h : OwR K Z o c) (s : Same Z Z') : OwR K Z' o c := by
  cases h with
  | lst r => exact .lst (r.same s)
  | dct r => exact .dct ⟨r.1, r.2.same s⟩
/-- lists told anew: read by all, and yet one's own -/
def FrOk (K : Fg) (H₀ Z₀ Z : Hp) (δ : Dv) (σ : St) : Prop := ∀ (i : Nat) ds, δ[i]? = some (.fr ds) → ∃ a xs, σ[i]? = some (some (.ref a)) ∧ H₀ a = none ∧ Z₀ a = none ∧ Z a = some (.lst xs) ∧ Reps K Z xs ds
theorem FrOk.same {K : Fg} {H₀ Z₀ Z Z' : Hp} {δ : Dv} {σ : St} (h : FrOk K H₀ Z₀ Z δ σ) (s : Same Z Z') : FrOk K H₀ Z₀ Z' δ σ := fun i ds e =>
  let ⟨a, xs, h1, h2, h3, h4, h5⟩ := h i ds e; ⟨a, xs, h1, h2, h3, s _ _ h4, h5.same s⟩
theorem FrOk.put {K : Fg} {H₀ Z₀ Z : Hp} {δ : Dv} {σ σ' : St} (h : FrOk K H₀ Z₀ Z δ σ) {i : Nat} {x : Sl} (hx : ∀ ds, x ≠ Sl.fr ds) (hs : ∀ j : Nat, i ≠ j → σ'[j]? = σ[j]?) : FrOk K H₀ Z₀ Z (δ.set i x) σ' := fun j ds e => by
  by_cases hj : i = j
  · subst hj
    have hl : i < δ.length := by have := (List.getElem?_eq_some_iff.mp e).1; simpa using this
    rw [List.getElem?_set_self hl] at e
    exact absurd (Option.some.inj e) (hx ds)
  · rw [List.getElem?_set_ne hj] at e
    obtain ⟨a, xs, h1, r⟩ := h j ds e
    exact ⟨a, xs, by rw [hs j hj]; exact h1, r⟩
structure Hold (K : Fg) (H₀ Z₀ Z : Hp) (δ : Dv) (σ : St) (H : Hp) : Prop where
  zh : Same Z H
  h0 : Same H₀ H
  z0 : Same Z₀ Z
  zb : ∀ b, H₀ b ≠ none → Z b = Z₀ b
  len : δ.length = σ.length
  fz : ∀ (i : Nat) d, δ[i]? = some (.fz d) → ∃ v, σ[i]? = some (some v) ∧ Rep K Z v d
  own : ∀ (i : Nat) c, δ[i]? = some (.own c) → ∃ a o, σ[i]? = some (some (.ref a)) ∧ H₀ a = none ∧ Z a = none ∧ H a = some o ∧ OwR K Z o c
  dja : ∀ (i j : Nat) c c' a, i ≠ j → δ[i]? = some (.own c) → δ[j]? = some (.own c') → σ[i]? = some (some (.ref a)) → σ[j]? ≠ some (some (V.ref a))
  fr : FrOk K H₀ Z₀ Z δ σ
  nf : NoF Z₀ Z
section
variable {K : Fg} {H₀ Z₀ Z Z' H H' : Hp} {δ : Dv} {σ : St}
theorem Hold.ow (h : Hold K H₀ Z₀ Z δ σ H) (i : Nat) (ds : List D) (e : δ[i]? = some (.ow ds)) : ∃ a xs, σ[i]? = some (some (.ref a)) ∧ H₀ a = none ∧ Z a = none ∧ H a = some (.lst xs) ∧ Reps K Z xs ds := by
  obtain ⟨a, o, h1, h2, h3, h4, h5⟩ := h.own i _ e
  cases h5 with
  | lst r => exact ⟨a, _, h1, h2, h3, h4, r⟩
theorem Hold.od (h : Hold K H₀ Z₀ Z δ σ H) (i : Nat) (es : List (Key × D)) (e : δ[i]? = some (.od es)) : ∃ a kvs, σ[i]? = some (some (.ref a)) ∧ H₀ a = none ∧ Z a = none ∧ H a = some (.dK kvs) ∧ RepK K Z kvs es := by
  obtain ⟨a, o, h1, h2, h3, h4, h5⟩ := h.own i _ e
  cases h5 with
  | dct r => exact ⟨a, _, h1, h2, h3, h4, r⟩
theorem Hold.new (h : Hold K H₀ Z₀ Z δ σ H) (n : New Z H Z' H') : Hold K H₀ Z₀ Z' δ σ H' where
  zh := n.zh
  h0 := h.h0.trans n.h
  z0 := h.z0.trans n.z
  zb := fun b hb => by
    have : H b ≠ none := by
      cases e : H₀ b with
      | none => exact absurd e hb
      | some o => rw [h.h0 b o e]; intro z; cases z
    rw [n.o b this, h.zb b hb]
  len := h.len
  fz := fun i d e => let ⟨v, a, r⟩ := h.fz i d e; ⟨v, a, r.same n.z⟩
  own := fun i ds e => by
    obtain ⟨a, xs, h1, h2, h3, h4, h5⟩ := h.own i ds e
    exact ⟨a, xs, h1, h2, by rw [n.o a (by rw [h4]; intro z; cases z)]; exact h3, n.h a _ h4, h5.same n.z⟩
  dja := h.dja
  fr := h.fr.same n.z
  nf := h.nf.trans n.nf
/-- a name is given a known value -/
theorem Hold.set (h : Hold K H₀ Z₀ Z δ σ H) {i : Nat} {v : V} {d : D} (r : Rep K Z v d) : Hold K H₀ Z₀ Z (δ.set i (.fz d)) (σ.set i (some v)) H where
  zh := h.zh
  h0 := h.h0
  z0 := h.z0
  zb := h.zb
  len := by simp [h.len]
  fz := fun j e q => by
    by_cases hj : i = j
    · subst hj
      have hl : i < δ.length := by
        have := (List.getElem?_eq_some_iff.mp q).1
        simpa using this
      rw [List.getElem?_set_self hl] at q
      cases q
      exact ⟨v, List.getElem?_set_self (by rw [← h.len]; exact hl), r⟩
    · rw [List.getElem?_set_ne hj] at q
      obtain ⟨u, a, b⟩ := h.fz j e q
      exact ⟨u, by rw [List.getElem?_set_ne hj]; exact a, b⟩
  own := fun j es q => by
    by_cases hj : i = j
    · subst hj
      have hl : i < δ.length := by
        have := (List.getElem?_eq_some_iff.mp q).1
        simpa using this
      rw [List.getElem?_set_self hl] at q
      cases q
    · rw [List.getElem?_set_ne hj] at q ⊢
      exact h.own j es q
  dja := fun j k ds es a hjk q1 q2 => by
    by_cases hj : i = j
    · subst hj
      have hl : i < δ.length := by
        have := (List.getElem?_eq_some_iff.mp q1).1
        simpa using this
      rw [List.getElem?_set_self hl] at q1
      cases q1
    · by_cases hk : i = k
      · subst hk
        have hl : i < δ.length := by
          have := (List.getElem?_eq_some_iff.mp q2).1
          simpa using this
        rw [List.getElem?_set_self hl] at q2
        cases q2
      · rw [List.getElem?_set_ne hj] at q1
        rw [List.getElem?_set_ne hk] at q2
        rw [List.getElem?_set_ne hj, List.getElem?_set_ne hk]
        exact h.dja j k ds es a hjk q1 q2
  fr := h.fr.put (fun _ z => nomatch z) fun _ hj => List.getElem?_set_ne hj
  nf := h.nf
/-- a name is given a new list of its own -/
theorem Hold.setW (h : Hold K H₀ Z₀ Z δ σ H) {i : Nat} {p : Addr} {o : HO} {c : Oc} (hp : H p = none) (r : OwR K Z o c) : Hold K H₀ Z₀ Z (δ.set i (.own c)) (σ.set i (some (.ref p))) (upd H p o) where
  zh := h.zh.trans (same_upd hp)
  h0 := h.h0.trans (same_upd hp)
  z0 := h.z0
  zb := h.zb
  len := by simp [h.len]
  fz := fun j e q => by
    by_cases hj : i = j
    · subst hj
      have hl : i < δ.length := by
        have := (List.getElem?_eq_some_iff.mp q).1
        simpa using this
      rw [List.getElem?_set_self hl] at q
      cases q
    · rw [List.getElem?_set_ne hj] at q
      obtain ⟨u, a, b⟩ := h.fz j e q
      exact ⟨u, by rw [List.getElem?_set_ne hj]; exact a, b⟩
  own := fun j es q => by
    by_cases hj : i = j
    · subst hj
      have hl : i < δ.length := by
        have := (List.getElem?_eq_some_iff.mp q).1
        simpa using this
      rw [List.getElem?_set_self hl] at q
      cases q
      exact ⟨p, o, List.getElem?_set_self (by rw [← h.len]; exact hl), free_of h.h0 hp, free_of h.zh hp, upd_same, r⟩
    · rw [List.getElem?_set_ne hj] at q ⊢
      obtain ⟨a, ys, h1, h2, h3, h4, h5⟩ := h.own j es q
      exact ⟨a, ys, h1, h2, h3, by rw [upd_ne (ne_of_none h4 hp)]; exact h4, h5⟩
  dja := fun j k ds es a hjk q1 q2 => by
    have old : ∀ {m : Nat} {fs : Oc}, δ[m]? = some (.own fs) → σ[m]? ≠ some (some (V.ref p)) := fun {m fs} q z => by
      obtain ⟨b, ys, h1, h2, h3, h4, h5⟩ := h.own m fs q
      rw [h1] at z
      cases z
      rw [hp] at h4
      cases h4
    have hl : ∀ {m : Nat} {x : Sl}, (δ.set i x)[m]? ≠ none → m < σ.length := fun {m x} q => by
      have : m < (δ.set i x).length := by
        rcases Nat.lt_or_ge m (δ.set i x).length with g | g
        · exact g
        · exact absurd (List.getElem?_eq_none_iff.mpr g) q
      rw [← h.len]; simpa using this
    by_cases hj : i = j
    · subst hj
      have h1 : i < σ.length := hl (by rw [q1]; intro z; cases z)
      rw [List.getElem?_set_self h1]
      intro e
      cases e
      rw [List.getElem?_set_ne hjk] at q2 ⊢
      exact old q2
    · rw [List.getElem?_set_ne hj] at q1 ⊢
      by_cases hk : i = k
      · subst hk
        have h1 : i < σ.length := hl (by rw [q2]; intro z; cases z)
        intro e z
        rw [List.getElem?_set_self h1] at z
        cases z
        exact old q1 e
      · rw [List.getElem?_set_ne hk] at q2 ⊢
        exact h.dja j k ds es a hjk q1 q2
  fr := h.fr.put (fun _ z => nomatch z) fun _ hj => List.getElem?_set_ne hj
  nf := h.nf
theorem Hold.setO (h : Hold K H₀ Z₀ Z δ σ H) {i : Nat} {p : Addr} {xs : List V} {ds : List D} (hp : H p = none) (r : Reps K Z xs ds) : Hold K H₀ Z₀ Z (δ.set i (.ow ds)) (σ.set i (some (.ref p))) (upd H p (.lst xs)) := h.setW hp (.lst r)
/-- a list of one's own is changed -/
theorem Hold.chgW (h : Hold K H₀ Z₀ Z δ σ H) {i : Nat} {p : Addr} {o : HO} {ds es : Oc} (e : δ[i]? = some (.own ds)) (ep : σ[i]? = some (some (.ref p))) (r : OwR K Z o es) : Hold K H₀ Z₀ Z (δ.set i (.own es)) σ (upd H p o) := by
  obtain ⟨a, zs, h1, h2, h3, h4, h5⟩ := h.own i ds e
  rw [ep] at h1
  cases h1
  have hl : i < δ.length := (List.getElem?_eq_some_iff.mp e).1
  refine ⟨fun b o' q => ?_, fun b o' q => ?_, h.z0, h.zb, by simp [h.len], fun j d q => ?_, fun j d q => ?_, fun j k d1 d2 a hjk q1 q2 => ?_, h.fr.put (fun _ z => nomatch z) fun _ _ => rfl, h.nf⟩
  · rw [upd_ne (ne_of_none q h3)]; exact h.zh b o' q
  · rw [upd_ne (ne_of_none q h2)]; exact h.h0 b o' q
  · by_cases hj : i = j
    · subst hj
      rw [List.getElem?_set_self hl] at q
      cases q
    · rw [List.getElem?_set_ne hj] at q
      exact h.fz j d q
  · by_cases hj : i = j
    · subst hj
      rw [List.getElem?_set_self hl] at q
      cases q
      exact ⟨p, o, ep, h2, h3, upd_same, r⟩
    · rw [List.getElem?_set_ne hj] at q
      obtain ⟨b, ws, g1, g2, g3, g4, g5⟩ := h.own j d q
      refine ⟨b, ws, g1, g2, g3, ?_, g5⟩
      have : b ≠ p := fun z => by subst z; exact h.dja i j ds d b hj e q ep g1
      rw [upd_ne this]; exact g4
  · have f : ∀ {m : Nat} {dm : Oc}, (δ.set i (.own es))[m]? = some (.own dm) → ∃ dm', δ[m]? = some (.own dm') := fun {m dm} q => by
      by_cases hm : i = m
      · subst hm; exact ⟨ds, e⟩
      · rw [List.getElem?_set_ne hm] at q; exact ⟨dm, q⟩
    obtain ⟨e1, g1⟩ := f q1
    obtain ⟨e2, g2⟩ := f q2
    exact h.dja j k e1 e2 a hjk g1 g2
theorem Hold.chg (h : Hold K H₀ Z₀ Z δ σ H) {i : Nat} {p : Addr} {xs ys : List V} {ds es : List D} (e : δ[i]? = some (.ow ds)) (ep : σ[i]? = some (some (.ref p))) (r : Reps K Z ys es) : Hold K H₀ Z₀ Z (δ.set i (.ow es)) σ (upd H p (.lst ys)) := h.chgW e ep (.lst r)
/-- a list of one's own is known for good -/
theorem Hold.frz (h : Hold K H₀ Z₀ Z δ σ H) {i : Nat} {ds : List D} (e : δ[i]? = some (.ow ds)) : ∃ Z', Same Z Z' ∧ Hold K H₀ Z₀ Z' (δ.set i (.fz (.list ds))) σ H := by
  obtain ⟨a, xs, h1, h2, h3, h4, h5⟩ := h.ow i ds e
  have hl : i < δ.length := (List.getElem?_eq_some_iff.mp e).1
  have sz : Same Z (upd Z a (.lst xs)) := same_upd h3
  refine ⟨upd Z a (.lst xs), sz, fun b o q => ?_, h.h0, h.z0.trans sz, fun b hb => ?_, by simp [h.len], fun j d q => ?_, fun j d q => ?_, fun j k d1 d2 b hjk q1 q2 => ?_, (h.fr.same sz).put (fun _ z => nomatch z) fun _ _ => rfl, h.nf.upd a⟩
  · by_cases hb : b = a
    · subst hb; rw [upd_same] at q; cases q; exact h4
    · rw [upd_ne hb] at q; exact h.zh b o q
  · rw [upd_ne (fun z => hb (by rw [z]; exact h2))]; exact h.zb b hb
  · by_cases hj : i = j
    · subst hj
      rw [List.getElem?_set_self hl] at q
      cases q
      exact ⟨.ref a, h1, .lst (SqL.of upd_same) (h5.same sz)⟩
    · rw [List.getElem?_set_ne hj] at q
      obtain ⟨v, g1, g2⟩ := h.fz j d q
      exact ⟨v, g1, g2.same sz⟩
  · by_cases hj : i = j
    · subst hj
      rw [List.getElem?_set_self hl] at q
      cases q
    · rw [List.getElem?_set_ne hj] at q
      obtain ⟨b, ws, g1, g2, g3, g4, g5⟩ := h.own j d q
      have : b ≠ a := fun z => by subst z; exact h.dja i j _ d b hj e q h1 g1
      exact ⟨b, ws, g1, g2, by rw [upd_ne this]; exact g3, g4, g5.same sz⟩
  · by_cases hj : i = j
    · subst hj
      rw [List.getElem?_set_self hl] at q1
      cases q1
    · by_cases hk : i = k
      · subst hk
        rw [List.getElem?_set_self hl] at q2
        cases q2
      · rw [List.getElem?_set_ne hj] at q1
        rw [List.getElem?_set_ne hk] at q2
        exact h.dja j k d1 d2 b hjk q1 q2
end

/-! ### readings by plain functions -/
def tV (K : Fg) (f : Dv → Option D) : TE := fun σ H Q => ∃ H₀ Z₀ Z δ d, Hold K H₀ Z₀ Z δ σ H ∧ f δ = some d ∧ ∀ v Z' H', Hold K H₀ Z₀ Z' δ σ H' → Same Z Z' → Rep K Z' v d → Q v H'
def tVT (K : Fg) (f : Dv → Option Bool) : TT := fun σ H Q => ∃ H₀ Z₀ Z δ b, Hold K H₀ Z₀ Z δ σ H ∧ f δ = some b ∧ ∀ Z' H', Hold K H₀ Z₀ Z' δ σ H' → Same Z Z' → Q b H'
def tVA (K : Fg) (f : Dv → Option (List D)) : TA := fun σ H Q => ∃ H₀ Z₀ Z δ ds, Hold K H₀ Z₀ Z δ σ H ∧ f δ = some ds ∧ ∀ vs Z' H', Hold K H₀ Z₀ Z' δ σ H' → Same Z Z' → Reps K Z' vs ds → Q vs H'
def Fl.to (K : Fg) (Z : Hp) (D : Ends) (σ : St) (H : Hp) : Fl → Prop
  | .nx => D.nx σ H
  | .bk => D.bk σ H
  | .ct => D.ct σ H
  | .rt d => ∀ v, Rep K Z v d → D.rt v H
def tVS (K : Fg) (f : Dv → Option (Fl × Dv)) : TS := fun D σ H => ∃ H₀ Z₀ Z δ r, Hold K H₀ Z₀ Z δ σ H ∧ f δ = some r ∧ ∀ σ' H' Z', Hold K H₀ Z₀ Z' r.2 σ' H' → Same Z Z' → r.1.to K Z' D σ' H'
def EV (X : Cx) (e : Expr) (f : Dv → Option D) : Prop := PE X e (tV X.K f)
def TV (X : Cx) (e : Expr) (f : Dv → Option Bool) : Prop := PT X e (tVT X.K f)
def AV (X : Cx) (es : List Expr) (f : Dv → Option (List D)) : Prop := PA X es (tVA X.K f)
def SV (X : Cx) (st : Stmt) (f : Dv → Option (Fl × Dv)) : Prop := PS X st (tVS X.K f)
def BV (X : Cx) (st : List Stmt) (f : Dv → Option (Fl × Dv)) : Prop := PSs X st (tVS X.K f)

theorem PE.imp {X : Cx} {e : Expr} {t t' : TE} (h : PE X e t) (i : ∀ σ H Q, t' σ H Q → t σ H Q) : PE X e t' := fun pins s σ H Q I hw => h pins s σ H Q I (i _ _ _ hw)
theorem PT.imp {X : Cx} {e : Expr} {t t' : TT} (h : PT X e t) (i : ∀ σ H Q, t' σ H Q → t σ H Q) : PT X e t' := fun pins s σ H Q I hw => h pins s σ H Q I (i _ _ _ hw)
theorem PA.imp {X : Cx} {es : List Expr} {t t' : TA} (h : PA X es t) (i : ∀ σ H Q, t' σ H Q → t σ H Q) : PA X es t' := fun pos pins s σ H Q I hw => h pos pins s σ H Q I (i _ _ _ hw)
theorem PS.imp {X : Cx} {st : Stmt} {t t' : TS} (h : PS X st t) (i : ∀ D σ H, t' D σ H → t D σ H) : PS X st t' := fun pins s σ H D I hw => h pins s σ H D I (i _ _ _ hw)
theorem PSs.imp {X : Cx} {st : List Stmt} {t t' : TS} (h : PSs X st t) (i : ∀ D σ H, t' D σ H → t D σ H) : PSs X st t' := fun pins s σ H D I hw => h pins s σ H D I (i _ _ _ hw)
theorem OpR.imp {X : Cx} {f : Value → Value → Sem Value} {r r' : R2} (h : OpR X f r) (i : ∀ x y H Q, r' x y H Q → r x y H Q) : OpR X f r' := fun pins s σ H x y v u Q I rx ry q => h pins s σ H x y v u Q I rx ry (i _ _ _ _ q)
theorem CallR.imp {X : Cx} {f : Value} {r r' : List V → Hp → VK → Prop} (h : CallR X f r) (i : ∀ xs H Q, r' xs H Q → r xs H Q) : CallR X f r' := fun pins s σ H xs us Q I rx q => h pins s σ H xs us Q I rx (i _ _ _ q)

/-! ### operations on known values -/
def rD (K : Fg) (g : D → D → Option D) : R2 := fun x y H Q => ∃ Z a b d, Same Z H ∧ Rep K Z x a ∧ Rep K Z y b ∧ g a b = some d ∧ ∀ v Z' H', New Z H Z' H' → Rep K Z' v d → Q v H'
def rD1 (K : Fg) (g : D → Option D) : V → Hp → VK → Prop := fun x H Q => ∃ Z a d, Same Z H ∧ Rep K Z x a ∧ g a = some d ∧ ∀ v Z' H', New Z H Z' H' → Rep K Z' v d → Q v H'
def rDs (K : Fg) (g : List D → Option D) : List V → Hp → VK → Prop := fun xs H Q => ∃ Z as d, Same Z H ∧ Reps K Z xs as ∧ g as = some d ∧ ∀ v Z' H', New Z H Z' H' → Rep K Z' v d → Q v H'
def spD (K : Fg) (g : List D → Option D) : Sp := fun vs H Q _ => rDs K g vs H Q
section
variable {X : Cx} {a b c e : Expr} {es : List Expr} {pos p : Pos} {f f1 f2 f3 : Dv → Option D} {fs : Dv → Option (List D)} {ft fu : Dv → Option Bool}
theorem bind_some {α β : Type} {o : Option α} {k : α → Option β} {r : β} (h : o.bind k = some r) : ∃ a, o = some a ∧ k a = some r := by
  cases o with
  | none => cases h
  | some a => exact ⟨a, rfl, h⟩
/-- two in a row -/
theorem two {K : Fg} {g : D → D → Option D} {σ : St} {H : Hp} {Q : VK} {r : R2} (hr : ∀ x y H Q, rD K g x y H Q → r x y H Q) (h : tV K (o2 f1 f2 g) σ H Q) : tOp r (tV K f1) (tV K f2) σ H Q := by
  obtain ⟨H₀, Z₀, Z, δ, d, hh, e, k⟩ := h
  obtain ⟨x, e1, e⟩ := bind_some e
  obtain ⟨y, e2, e⟩ := bind_some e
  refine ⟨H₀, Z₀, Z, δ, x, hh, e1, fun v Z1 H1 hh1 s1 r1 => ⟨H₀, Z₀, Z1, δ, y, hh1, e2, fun u Z2 H2 hh2 s2 r2 => hr _ _ _ _ ⟨Z2, x, y, d, hh2.zh, r1.same s2, r2, e, fun w Z3 H3 n r3 => ?_⟩⟩⟩
  exact k w Z3 H3 (hh2.new n) ((s1.trans s2).trans n.z) r3
theorem ev_op {op : Operator} {g : D → D → Option D} (ho : OpR X (binaryOp op) (rD X.K g)) (ha : EV X a f1) (hb : EV X b f2) : EV X (.BinOp a op b pos) (o2 f1 f2 g) :=
  PE.imp (pe_op ho ha hb) fun _ _ _ h => two (fun _ _ _ _ q => q) h
theorem ev_un {op : UnaryOp} {g : D → Option D} (ho : UnR X (unaryOp op) (rD1 X.K g)) (ha : EV X a f) : EV X (.UnaryOp op a pos) (o1 f g) :=
  PE.imp (pe_un ho ha) fun σ H Q h => by
    obtain ⟨H₀, Z₀, Z, δ, d, hh, e, k⟩ := h
    obtain ⟨x, e1, e⟩ := bind_some e
    exact ⟨H₀, Z₀, Z, δ, x, hh, e1, fun v Z1 H1 hh1 s1 r1 => ⟨Z1, x, d, hh1.zh, r1, e, fun w Z3 H3 n r3 => k w Z3 H3 (hh1.new n) (s1.trans n.z) r3⟩⟩
theorem ev_cmp {op : CmpOp} {g : D → D → Option D} (ho : OpR X (compareOp op) (rD X.K g)) (ha : EV X a f1) (hb : EV X b f2) (hm : behindInMarks op b = false) : EV X (.Compare a [op] [b] pos) (o2 f1 f2 g) :=
  PE.imp (pe_cmpR ho ha hb hm) fun _ _ _ h => two (fun _ _ _ _ q => q) h
/-- a value's bool -/
theorem asB_eq {d : D} {b : Bool} (h : asB d = some b) : d = .bool b := by
  cases d <;> simp [asB] at h
  subst h; rfl
theorem toB {K : Fg} {σ : St} {H : Hp} {Q : Bool → Hp → Prop} (h : tVT K (ob f) σ H Q) : tV K f σ H fun x H1 => ∃ c, x = .bl c ∧ Q c H1 := by
  obtain ⟨H₀, Z₀, Z, δ, d, hh, e, k⟩ := h
  obtain ⟨x, e1, e⟩ := bind_some e
  have := asB_eq e
  subst this
  exact ⟨H₀, Z₀, Z, δ, _, hh, e1, fun v Z1 H1 hh1 s1 r1 => ⟨_, r1.bl_eq, k Z1 H1 hh1 s1⟩⟩
theorem tv_cmp {op : CmpOp} {g : D → D → Option D} (ho : OpR X (compareOp op) (rD X.K g)) (ha : EV X a f1) (hb : EV X b f2) (hm : behindInMarks op b = false) : TV X (.Compare a [op] [b] pos) (ob (o2 f1 f2 g)) :=
  PT.imp (pt_cmpR ho ha hb hm) fun σ H Q h => by
    have h' := toB h
    exact two (f1 := f1) (f2 := f2) (g := g) (fun _ _ _ _ q => q) h'
theorem tv_val (ha : EV X a f) (he : ∀ whole, isTrue a X.env whole = (do let v ← whole; standAt a.pos; holding [v] (truthy v)) := by intro _; rfl) : TV X a (ob f) :=
  PT.imp (pt_val ha he) fun _ _ _ h => toB h
def WV (X : Cx) (e : Expr) (f : Dv → Option Bool) : Prop := PW X e (tVT X.K f)
theorem PW.imp {X : Cx} {e : Expr} {t t' : TT} (h : PW X e t) (i : ∀ σ H Q, t' σ H Q → t σ H Q) : PW X e t' := fun whole pins s σ H Q I hw => h whole pins s σ H Q I (i _ _ _ hw)
theorem wv_and1 (ha : TV X a ft) : WV X (.BoolOp .And [a] pos) ft := pw_and1 ha
theorem wv_or1 (ha : TV X a ft) : WV X (.BoolOp .Or [a] pos) ft := pw_or1 ha
theorem wv_and {rest : List Expr} (ha : TV X a ft) (hb : WV X (.BoolOp .And (b :: rest) pos) fu) : WV X (.BoolOp .And (a :: b :: rest) pos) (oAnd ft fu) :=
  PW.imp (pw_and ha hb) fun σ H Q h => by
    obtain ⟨H₀, Z₀, Z, δ, d, hh, e, k⟩ := h
    obtain ⟨x, e1, e⟩ := bind_some e
    refine ⟨H₀, Z₀, Z, δ, x, hh, e1, fun Z1 H1 hh1 s1 => ?_⟩
    cases x with
    | true => exact ⟨H₀, Z₀, Z1, δ, d, hh1, e, fun Z2 H2 hh2 s2 => k Z2 H2 hh2 (s1.trans s2)⟩
    | false => cases e; exact k Z1 H1 hh1 s1
theorem wv_or {rest : List Expr} (ha : TV X a ft) (hb : WV X (.BoolOp .Or (b :: rest) pos) fu) : WV X (.BoolOp .Or (a :: b :: rest) pos) (oOr ft fu) :=
  PW.imp (pw_or ha hb) fun σ H Q h => by
    obtain ⟨H₀, Z₀, Z, δ, d, hh, e, k⟩ := h
    obtain ⟨x, e1, e⟩ := bind_some e
    refine ⟨H₀, Z₀, Z, δ, x, hh, e1, fun Z1 H1 hh1 s1 => ?_⟩
    cases x with
    | true => cases e; exact k Z1 H1 hh1 s1
    | false => exact ⟨H₀, Z₀, Z1, δ, d, hh1, e, fun Z2 H2 hh2 s2 => k Z2 H2 hh2 (s1.trans s2)⟩
theorem WV.tv (h : WV X a ft) : TV X a ft := PW.pt h
theorem tv_not (ha : TV X a ft) : TV X (.UnaryOp .Not a pos) (oNot ft) :=
  PT.imp (pt_not ha) fun σ H Q h => by
    obtain ⟨H₀, Z₀, Z, δ, d, hh, e, k⟩ := h
    cases e1 : ft δ with
    | none => unfold oNot at e; rw [e1] at e; cases e
    | some x =>
      unfold oNot at e
      rw [e1] at e
      cases e
      exact ⟨H₀, Z₀, Z, δ, x, hh, e1, fun Z1 H1 hh1 s1 => k Z1 H1 hh1 s1⟩
/-- and, or, not as values (bools) -/
theorem ev_one {op} (h : EV X a f) : EV X (.BoolOp op [a] pos) f := pe_one h
theorem ev_or {rest : List Expr} (ha : EV X a f1) (hb : EV X (.BoolOp .Or (b :: rest) pos) f2) : EV X (.BoolOp .Or (a :: b :: rest) pos) (oOrV f1 f2) :=
  PE.imp (pe_or ha hb) fun σ H Q h => by
    obtain ⟨H₀, Z₀, Z, δ, d, hh, e, k⟩ := h
    obtain ⟨x, e1, e⟩ := bind_some e
    obtain ⟨c, e2, e⟩ := bind_some e
    have := asB_eq e2
    subst this
    refine ⟨H₀, Z₀, Z, δ, _, hh, e1, fun v Z1 H1 hh1 s1 r1 => ⟨c, r1.bl_eq, ?_⟩⟩
    cases c with
    | true => cases e; exact k _ Z1 H1 hh1 s1 (.bl true)
    | false => exact ⟨H₀, Z₀, Z1, δ, d, hh1, e, fun v Z2 H2 hh2 s2 r2 => k v Z2 H2 hh2 (s1.trans s2) r2⟩
theorem ev_ifx (hc : TV X c ft) (ha : EV X a f1) (hb : EV X b f2) : EV X (.IfExp c a b pos) (oIf ft f1 f2) :=
  PE.imp (pe_ifExp hc ha hb) fun σ H Q h => by
    obtain ⟨H₀, Z₀, Z, δ, d, hh, e, k⟩ := h
    obtain ⟨x, e1, e⟩ := bind_some e
    refine ⟨H₀, Z₀, Z, δ, x, hh, e1, fun Z1 H1 hh1 s1 => ?_⟩
    cases x with
    | true => exact ⟨H₀, Z₀, Z1, δ, d, hh1, e, fun v Z2 H2 hh2 s2 r2 => k v Z2 H2 hh2 (s1.trans s2) r2⟩
    | false => exact ⟨H₀, Z₀, Z1, δ, d, hh1, e, fun v Z2 H2 hh2 s2 r2 => k v Z2 H2 hh2 (s1.trans s2) r2⟩

/-! ### names, constants, argument lists, displays -/
theorem Hold.read {K : Fg} {H₀ Z₀ Z H : Hp} {δ : Dv} {σ : St} (hh : Hold K H₀ Z₀ Z δ σ H) {i : Nat} {d : D} (h : oV i δ = some d) : ∃ v, σ[i]? = some (some v) ∧ Rep K Z v d := by
  unfold oV at h
  cases q : δ[i]? with
  | none => rw [q] at h; cases h
  | some x =>
    rw [q] at h
    cases x with
    | fz e => cases h; exact hh.fz i _ q
    | un => cases h
    | own _ => cases h
    | fr ds =>
      cases h
      obtain ⟨a, xs, h1, _, _, h4, h5⟩ := hh.fr i ds q
      exact ⟨.ref a, h1, .lst (SqL.of h4) h5⟩
theorem ev_var (i : Nat) {x : Str} (hN : X.N[i]? = some x := by rfl) (hv : Vis X.env.scope x := by first | exact Or.inl rfl | exact Or.inr (Or.inl rfl) | exact Or.inr (Or.inr rfl)) (hd : (x == ("__debug__" : Str)) = false := by decide) (hcd : (x == ("__classdict__" : Str)) = false := by decide) :
    EV X (.Name x pos) (oV i) :=
  PE.imp (pe_var hN hv hd hcd) fun σ H Q h => by
    obtain ⟨H₀, Z₀, Z, δ, d, hh, e, k⟩ := h
    obtain ⟨v, q, r⟩ := hh.read e
    exact ⟨v, q, k v Z H hh (Same.refl _) r⟩
theorem ev_c {d : D} {v : V} (h : PE X e (tC v)) (r : ∀ Z, Rep X.K Z v d) : EV X e (oC d) :=
  PE.imp h fun σ H Q h => by
    obtain ⟨H₀, Z₀, Z, δ, d', hh, e, k⟩ := h
    cases e
    exact k v Z H hh (Same.refl _) (r Z)
theorem ev_int {i j} : EV X (.Constant (.int i) j pos) (oC (.int i)) := ev_c pe_int fun _ => .int i
theorem ev_bl {i j} : EV X (.Constant (.bool i) j pos) (oC (.bool i)) := ev_c pe_bl fun _ => .bl i
theorem ev_non {j} : EV X (.Constant .none j pos) (oC .none) := ev_c pe_non fun _ => .non
theorem ev_str {i j} : EV X (.Constant (.str i) j pos) (oC (.str i)) := ev_c pe_str fun _ => .str i
theorem av_nil : AV X [] oNil :=
  PA.imp pa_nil fun σ H Q h => by
    obtain ⟨H₀, Z₀, Z, δ, d, hh, e, k⟩ := h
    cases e
    exact k [] Z H hh (Same.refl _) .nil
theorem av_cons (ha : EV X e f) (hr : AV X es fs) (hs : starEach (e :: es) X.env = (false, eval e X.env) :: starEach es X.env := by rfl) : AV X (e :: es) (oCons f fs) :=
  PA.imp (pa_cons ha hr hs) fun σ H Q h => by
    obtain ⟨H₀, Z₀, Z, δ, d, hh, e, k⟩ := h
    obtain ⟨x, e1, e⟩ := bind_some e
    obtain ⟨xs, e2, e⟩ := bind_some e
    cases e
    exact ⟨H₀, Z₀, Z, δ, x, hh, e1, fun v Z1 H1 hh1 s1 r1 => ⟨H₀, Z₀, Z1, δ, xs, hh1, e2, fun vs Z2 H2 hh2 s2 r2 => k _ Z2 H2 hh2 (s1.trans s2) (.cons (r1.same s2) r2)⟩⟩
theorem ev_tup {x1} (h : AV X es fs) : EV X (.Tuple es x1 pos) (os fs tupD) :=
  PE.imp (pe_tup h) fun σ H Q h => by
    obtain ⟨H₀, Z₀, Z, δ, d, hh, e, k⟩ := h
    obtain ⟨xs, e1, e⟩ := bind_some e
    refine ⟨H₀, Z₀, Z, δ, xs, hh, e1, fun vs Z1 H1 hh1 s1 r1 => ?_⟩
    by_cases hl : xs.length ≤ sizeLine
    · rw [tupD, if_pos hl] at e
      cases e
      refine ⟨by rw [r1.length]; exact hl, fun p hp => ?_⟩
      have n := New.add hh1.zh hp (.tup vs)
      exact k _ _ _ (hh1.new n) (s1.trans n.z) (.tup (SqT.of upd_same) (r1.same n.z))
    · rw [tupD, if_neg hl] at e; cases e
theorem ev_lst (h : AV X es fs) : EV X (.List es pos) (os fs lstD) :=
  PE.imp (pe_lst h) fun σ H Q h => by
    obtain ⟨H₀, Z₀, Z, δ, d, hh, e, k⟩ := h
    obtain ⟨xs, e1, e⟩ := bind_some e
    refine ⟨H₀, Z₀, Z, δ, xs, hh, e1, fun vs Z1 H1 hh1 s1 r1 => ?_⟩
    by_cases hl : xs.length ≤ sizeLine
    · rw [lstD, if_pos hl] at e
      cases e
      refine ⟨by rw [r1.length]; exact hl, fun p hp => ?_⟩
      have n := New.add hh1.zh hp (.lst vs)
      exact k _ _ _ (hh1.new n) (s1.trans n.z) (.lst (SqL.of upd_same) (r1.same n.z))
    · rw [lstD, if_neg hl] at e; cases e
/-! ### calls -/
theorem args {K : Fg} {g : List D → Option D} {σ : St} {H : Hp} {Q : VK} (h : tV K (os fs g) σ H Q) : tVA K fs σ H fun vs H1 => rDs K g vs H1 Q := by
  obtain ⟨H₀, Z₀, Z, δ, d, hh, e, k⟩ := h
  obtain ⟨xs, e1, e⟩ := bind_some e
  exact ⟨H₀, Z₀, Z, δ, xs, hh, e1, fun vs Z1 H1 hh1 s1 r1 => ⟨Z1, xs, d, hh1.zh, r1, e, fun w Z3 H3 n r3 => k w Z3 H3 (hh1.new n) (s1.trans n.z) r3⟩⟩
theorem ev_callB {x : Str} {id : String} {g : List D → Option D} (hc : CallR X (.builtin id) (rDs X.K g)) (hg : Gl X x) (hm : X.mg x = none) (hv : bootBuiltins x = some (.builtin id)) (ha : AV X (e :: es) fs) (hn : x ≠ "__name__" := by decide) (hdb : (x == ("__debug__" : Str)) = false := by decide)
    (he : starEach (e :: es) X.env = (false, eval e X.env) :: starEach es X.env := by rfl) (hpl : (backTo pos (starEach es X.env)).any (·.1) = false := by rfl) : EV X (.Call (.Name x p) (e :: es) [] pos) (os fs g) :=
  PE.imp (pe_callB hc hg hm hv ha hn hdb he hpl) fun _ _ _ h => args h
theorem ev_callTy {x : Str} {id : String} {g : List D → Option D} (hc : CallR X (.type id) (rDs X.K g)) (hg : Gl X x) (hm : X.mg x = none) (hv : bootBuiltins x = some (.type id)) (ha : AV X (e :: es) fs) (hn : x ≠ "__name__" := by decide) (hdb : (x == ("__debug__" : Str)) = false := by decide)
    (he : starEach (e :: es) X.env = (false, eval e X.env) :: starEach es X.env := by rfl) (hpl : (backTo pos (starEach es X.env)).any (·.1) = false := by rfl) : EV X (.Call (.Name x p) (e :: es) [] pos) (os fs g) :=
  PE.imp (pe_callTy hc hg hm hv ha hn hdb he hpl) fun _ _ _ h => args h
/-- a def of the text: dd the defaults that fill up (plain) -/
theorem ev_call {k : Nat} {fa : Addr} {fd : FuncData} {ps : List Str} {x : Str} {g : List D → Option D} {dd : List D} {dv : List V} {ds : List Value} (F : FnOk X.prog X.w X.K X.mg X.base CX0 k fa fd ps (spD X.K g)) (hr : Room k X.A) (hg : Gl X x) (hm : X.mg x = some (.ref fa)) (hk : PySem.W.keepIn X.K (.ref fa) = true)
    (hb : Binds X.K fd ps ds) (hd : Vals dv ds) (hdd : ∀ Z, Reps X.K Z dv dd) (hx : Passes CX0 X E0) (ha : AV X (e :: es) fs) (hdb : (x == ("__debug__" : Str)) = false := by decide) (he : starEach (e :: es) X.env = (false, eval e X.env) :: starEach es X.env := by rfl) (hpl : (backTo pos (starEach es X.env)).any (·.1) = false := by rfl) :
    EV X (.Call (.Name x p) (e :: es) [] pos) (os fs fun as => g (as ++ dd)) :=
  PE.imp (pe_call F hr hg hm hk hb hd hx ha hdb he hpl) fun σ H Q h => by
    obtain ⟨H₀, Z₀, Z, δ, xs, hh, e1, q⟩ := args h
    refine ⟨H₀, Z₀, Z, δ, xs, hh, e1, fun vs Z1 H1 hh1 s1 r1 => ?_⟩
    obtain ⟨Z2, as, d, zh, ra, eg, kk⟩ := q vs Z1 H1 hh1 s1 r1
    exact ⟨Z2, as ++ dd, d, zh, ra.append (hdd Z2), eg, kk⟩
/-! ### subscripts -/
theorem IxR.imp {r r' : R2} (h : IxR X r) (i : ∀ x y H Q, r' x y H Q → r x y H Q) : IxR X r' := fun value slice pins s σ H x y v u Q I rx ry q hs => h value slice pins s σ H x y v u Q I rx ry (i _ _ _ _ q) hs
theorem ev_ix {g : D → D → Option D} (ho : IxR X (rD X.K g)) (ha : EV X a f1) (hb : EV X b f2) (hs : PlainIx b) : EV X (.Subscript a b pos) (o2 f1 f2 g) :=
  PE.imp (pe_ix ho ha hb hs) fun _ _ _ h => two (fun _ _ _ _ q => q) h
end
end VL

set_option Elab.async false
set_option linter.all false
set_option maxRecDepth 100000
set_option maxHeartbeats 4000000
namespace VL
open PySem PySem.Spec PyProof.Rows L2
section
variable {X : Cx} {a b c e tg : Expr} {es : List Expr} {pos p : Pos} {f f1 f2 f3 : Dv → Option D} {fs : Dv → Option (List D)} {ft fu : Dv → Option Bool} {st : Stmt} {sts body : List Stmt} {s1 s2 : Dv → Option (Fl × Dv)}

/-! ### ints -/
theorem op_iI {F : Value → Value → Sem Value} {g : Int → Int → Int} (h : OpR X F (rI0 fun i j => .int (g i j))) : OpR X F (rD X.K (iI g)) :=
  OpR.imp h fun x y H Q q => by
    obtain ⟨Z, a, b, d, zh, ra, rb, e, k⟩ := q
    cases ra <;> cases rb <;> simp [iI] at e
    subst e
    exact ⟨_, _, rfl, rfl, k _ Z H (New.refl zh) (.int _)⟩
theorem op_iB {F : Value → Value → Sem Value} {g : Int → Int → Bool} (h : OpR X F (rI0 fun i j => .bl (g i j))) : OpR X F (rD X.K (iB g)) :=
  OpR.imp h fun x y H Q q => by
    obtain ⟨Z, a, b, d, zh, ra, rb, e, k⟩ := q
    cases ra <;> cases rb <;> simp [iB] at e
    subst e
    exact ⟨_, _, rfl, rfl, k _ Z H (New.refl zh) (.bl _)⟩
theorem op_iC {F : Value → Value → Sem Value} {P : Int → Int → Prop} {C : Int → Int → Bool} {g : Int → Int → Int} (h : OpR X F (rI P fun i j => .int (g i j))) (hc : ∀ i j, C i j = true → P i j) : OpR X F (rD X.K (iC C g)) :=
  OpR.imp h fun x y H Q q => by
    obtain ⟨Z, a, b, d, zh, ra, rb, e, k⟩ := q
    cases ra with
    | int i =>
      cases rb with
      | int j =>
        by_cases hh : C i j = true
        · simp only [iC, if_pos hh] at e
          cases e
          exact ⟨_, _, rfl, rfl, hc _ _ hh, k _ Z H (New.refl zh) (.int _)⟩
        · simp only [iC, if_neg hh] at e
          cases e
      | _ => simp [iC] at e
    | _ => simp [iC] at e
theorem d_sub : OpR X (binaryOp .Sub) (rD X.K subD) := op_iI op_sub
theorem d_mulI : OpR X (binaryOp .Mult) (rD X.K mulI) := op_iC (P := fun i j => IntMulOk i j) (opI fun _ _ _ _ _ _ _ hc q => mul_int q hc) fun i j h => of_decide_eq_true h
theorem d_div : OpR X (binaryOp .FloorDiv) (rD X.K divD) := op_iC op_fdiv fun i j h => (of_decide_eq_true h : 0 < j ∧ j < 1073741824)
theorem d_mod : OpR X (binaryOp .Mod) (rD X.K modD) := op_iC op_mod fun i j h => of_decide_eq_true h
theorem d_pow : OpR X (binaryOp .Pow) (rD X.K powD) := op_iC op_pow fun i j h => (of_decide_eq_true h : 0 ≤ j ∧ j ≤ 1000000 ∧ i.natAbs < 2 ^ 64)
theorem d_lt : OpR X (compareOp .Lt) (rD X.K ltD) := op_iB op_lt
theorem d_gt : OpR X (compareOp .Gt) (rD X.K gtD) := op_iB op_gt
theorem d_neg : UnR X (unaryOp .USub) (rD1 X.K negD) := by
  intro pins s σ H x v Q I rx q
  obtain ⟨Z, a, d, zh, ra, e, k⟩ := q
  cases ra <;> simp [negD] at e
  subst e
  exact un_neg pins s σ H _ v Q I rx ⟨_, rfl, k _ Z H (New.refl zh) (.int _)⟩
/-! ### + -/
theorem Rep.str_eq {K : Fg} {Z : Hp} {v : V} {x : Str} (h : Rep K Z v (.str x)) : v = .str x := by cases h; rfl
theorem Rep.tup_ex {K : Fg} {Z : Hp} {v : V} {ds : List D} (h : Rep K Z v (.tuple ds)) : ∃ a xs, v = .ref a ∧ SqT K Z a xs ∧ Reps K Z xs ds := by
  cases h with
  | tup p q => exact ⟨_, _, rfl, p, q⟩
theorem Rep.lst_ex {K : Fg} {Z : Hp} {v : V} {ds : List D} (h : Rep K Z v (.list ds)) : ∃ a xs, v = .ref a ∧ SqL K Z a xs ∧ Reps K Z xs ds := by
  cases h with
  | lst p q => exact ⟨_, _, rfl, p, q⟩
theorem ite_some {p : Prop} [Decidable p] {α : Type} {x y : α} (h : (if p then some x else none) = some y) : p ∧ x = y := by
  by_cases q : p
  · rw [if_pos q] at h; exact ⟨q, Option.some.inj h⟩
  · rw [if_neg q] at h; cases h
theorem addD_k {a b d : D} (h : addD a b = some d) : (∃ i, a = .int i) ∨ (∃ x, a = .str x) ∨ (∃ xs, a = .list xs) ∨ ∃ xs, a = .tuple xs := by
  cases a with
  | int i => exact .inl ⟨_, rfl⟩
  | str i => exact .inr (.inl ⟨_, rfl⟩)
  | list i => exact .inr (.inr (.inl ⟨_, rfl⟩))
  | tuple i => exact .inr (.inr (.inr ⟨_, rfl⟩))
  | _ => cases h
theorem addD_i {i : Int} {b d : D} (h : addD (.int i) b = some d) : ∃ j, b = .int j ∧ d = .int (i + j) := by
  cases b with
  | int j => exact ⟨j, rfl, (Option.some.inj h).symm⟩
  | _ => cases h
theorem addD_s {i : Str} {b d : D} (h : addD (.str i) b = some d) : ∃ j, b = .str j ∧ i.length + j.length ≤ sizeLine ∧ d = .str (i ++ j) := by
  cases b with
  | str j => obtain ⟨p, q⟩ := ite_some h; exact ⟨j, rfl, p, q.symm⟩
  | _ => cases h
theorem addD_l {i : List D} {b d : D} (h : addD (.list i) b = some d) : ∃ j, b = .list j ∧ i.length + j.length ≤ sizeLine ∧ d = .list (i ++ j) := by
  cases b with
  | list j => obtain ⟨p, q⟩ := ite_some h; exact ⟨j, rfl, p, q.symm⟩
  | _ => cases h
theorem addD_t {i : List D} {b d : D} (h : addD (.tuple i) b = some d) : ∃ j, b = .tuple j ∧ i.length + j.length ≤ sizeLine ∧ d = .tuple (i ++ j) := by
  cases b with
  | tuple j => obtain ⟨p, q⟩ := ite_some h; exact ⟨j, rfl, p, q.symm⟩
  | _ => cases h
theorem d_add : OpR X (binaryOp .Add) (rD X.K addD) := by
  intro pins s σ H x y v u Q I rx ry q
  obtain ⟨Z, a, b, d, zh, ra, rb, e, k⟩ := q
  rcases addD_k e with ⟨i, rfl⟩ | ⟨i, rfl⟩ | ⟨ds, rfl⟩ | ⟨ds, rfl⟩
  · obtain ⟨j, rfl, rfl⟩ := addD_i e
    cases ra.int_eq
    cases rb.int_eq
    exact op_add pins s σ H _ _ v u Q I rx ry ⟨_, _, rfl, rfl, k _ Z H (New.refl zh) (.int _)⟩
  · obtain ⟨j, rfl, hl, rfl⟩ := addD_s e
    cases ra.str_eq
    cases rb.str_eq
    exact op_add_str pins s σ H _ _ v u Q I rx ry ⟨_, _, rfl, rfl, hl, k _ Z H (New.refl zh) (.str _)⟩
  · obtain ⟨es, rfl, hl, rfl⟩ := addD_l e
    obtain ⟨a, xs, rfl, h1, q1⟩ := ra.lst_ex
    obtain ⟨b, ys, rfl, h2, q2⟩ := rb.lst_ex
    cases rx
    cases ry
    obtain ⟨its, r1, p1, z1⟩ := I.list (SqL.same h1 zh)
    obtain ⟨its2, r2, p2, z2⟩ := I.list (SqL.same h2 zh)
    obtain ⟨⟨cls, dd, data, sl⟩, n1, ho, hc, hdd, hd⟩ := p1
    obtain ⟨⟨cls2, dd2, data2, sl2⟩, n2, ho2, hc2, hdd2, hd2⟩ := p2
    simp only at hc hd hc2 hd2
    subst hc hd hc2 hd2
    have hl1 := r1.length
    have hl2 := r2.length
    have ql1 := q1.length
    have ql2 := q2.length
    refine concat_meets ⟨_, ho, rfl⟩ ⟨_, ho2, rfl⟩ noFill_list_add seq_list_add PySem.F.slot_list_add PySem.F.entry_list_add (PySem.F.args_list_add_2 _ _) (list_addW a b its.toArray its2.toArray n1 n2 dd dd2 sl sl2 (by simp; omega)) ⟨ho, ho2, ?_⟩
    have ea : its.toArray ++ its2.toArray = (its ++ its2).toArray := by simp
    rw [ea]
    have n := New.add zh I.fresh (.lst (xs ++ ys))
    exact ⟨.ref _, _, I.lnew (t' := s.toks) (r1.append r2) (by rw [List.length_append]; omega), rfl, k _ _ _ n (.lst (SqL.of upd_same) ((q1.append q2).same n.z))⟩
  · obtain ⟨es, rfl, hl, rfl⟩ := addD_t e
    obtain ⟨a, xs, rfl, h1, q1⟩ := ra.tup_ex
    obtain ⟨b, ys, rfl, h2, q2⟩ := rb.tup_ex
    by_cases h0 : ds.length = 0
    · have hd0 : ds = [] := List.eq_nil_of_length_eq_zero h0
      subst hd0
      cases q1
      cases rx
      cases ry
      obtain ⟨its, r1, p1, z1⟩ := I.tuple (SqT.same h1 zh)
      obtain ⟨its2, r2, p2, z2⟩ := I.tuple (SqT.same h2 zh)
      cases r1
      obtain ⟨⟨cls, dd, data, sl⟩, ho, hc, n, hd⟩ := id p1
      obtain ⟨⟨cls2, dd2, data2, sl2⟩, ho2, hc2, n2, hd2⟩ := id p2
      simp only at hc hd hc2 hd2
      subst hc hd hc2 hd2
      exact concat_meets ⟨_, ho, rfl⟩ ⟨_, ho2, rfl⟩ noFill_tuple_add seq_tuple_add PySem.F.slot_tuple_add PySem.F.entry_tuple_add (PySem.F.args_tuple_add_2 _ _)
        (tuple_addW0 a b _ its2.toArray n n2 dd dd2 sl sl2 (by simp)) ⟨ho, ho2, ⟨.ref b, H, I, rfl, k _ Z H (New.refl zh) (.tup h2 q2)⟩⟩
    refine op_catT pins s σ H _ _ v u Q I rx ry ⟨a, b, xs, ys, rfl, rfl, SqT.same h1 zh, SqT.same h2 zh, fun z => h0 (by rw [← q1.length, z]; rfl), by rw [q1.length, q2.length]; exact hl, fun z => ?_, fun z p hp => ?_⟩
    · subst z
      cases q2
      rw [List.append_nil] at k
      exact k _ Z H (New.refl zh) (.tup h1 q1)
    · have n := New.add zh hp (.tup (xs ++ ys))
      exact k _ _ _ n (.tup (SqT.of upd_same) ((q1.append q2).same n.z))

/-! ### == -/
theorem shp_lay {d : D} (h : shp d = true) : d.canLay0 = true := (Bool.and_eq_true_iff.mp h).1
theorem d_eq (hu : X.A.units + 64 < cLine) : OpR X (compareOp .Eq) (rD X.K eqD) := by
  intro pins s σ H x y v u Q I rx ry q
  obtain ⟨Z, a, b, d, zh, ra, rb, e, k⟩ := q
  by_cases hs : shp a = true ∧ shp b = true
  · rw [eqD, if_pos hs] at e
    cases e
    obtain ⟨as, r1⟩ := ra.reads I zh rx (shp_lay hs.1)
    obtain ⟨bs, r2⟩ := rb.reads I zh ry (shp_lay hs.2)
    exact eq_dataH r1 r2 hs.1 hs.2 hu ⟨.bl _, H, I, rfl, k _ Z H (New.refl zh) (.bl _)⟩
  · rw [eqD, if_neg hs] at e; cases e
theorem d_ne (hu : X.A.units + 64 < cLine) : OpR X (compareOp .NotEq) (rD X.K neD) := by
  intro pins s σ H x y v u Q I rx ry q
  obtain ⟨Z, a, b, d, zh, ra, rb, e, k⟩ := q
  by_cases hs : shp a = true ∧ shp b = true
  · rw [neD, if_pos hs] at e
    cases e
    obtain ⟨as, r1⟩ := ra.reads I zh rx (shp_lay hs.1)
    obtain ⟨bs, r2⟩ := rb.reads I zh ry (shp_lay hs.2)
    exact ne_dataH r1 r2 hs.1 hs.2 hu ⟨.bl _, H, I, rfl, k _ Z H (New.refl zh) (.bl _)⟩
  · rw [neD, if_neg hs] at e; cases e
theorem isN_eq {K : Fg} {Z : Hp} {v : V} {d : D} (r : Rep K Z v d) : decide (v = .non) = isN d := by cases r <;> rfl
theorem d_is : OpR X (compareOp .Is) (rD X.K isD) :=
  OpR.imp op_isN fun x y H Q q => by
    obtain ⟨Z, a, b, d, zh, ra, rb, e, k⟩ := q
    cases rb <;> simp [isD] at e
    subst e
    exact ⟨rfl, by rw [isN_eq ra]; exact k _ Z H (New.refl zh) (.bl _)⟩
/-! ### items -/
theorem Reps.at {K : Fg} {Z : Hp} {vs : List V} {ds : List D} {i : Int} {d : D} (r : Reps K Z vs ds) (h : atI ds i = some d) : ∃ v, atI vs i = some v ∧ Rep K Z v d := by
  unfold atI at h ⊢
  rw [r.length]
  obtain ⟨j, e, h⟩ := bind_some h
  obtain ⟨v, q, rr⟩ := r.get h
  exact ⟨v, by rw [e]; exact q, rr⟩
theorem ixD_k {a b d : D} (h : ixD a b = some d) : (∃ xs, a = .list xs) ∨ ∃ xs, a = .tuple xs := by
  cases a with
  | list i => exact .inl ⟨_, rfl⟩
  | tuple i => exact .inr ⟨_, rfl⟩
  | _ => cases h
theorem ixD_l {xs : List D} {b d : D} (h : ixD (.list xs) b = some d) : ∃ i, b = .int i ∧ atI xs i = some d := by
  cases b with
  | int i => exact ⟨i, rfl, h⟩
  | _ => cases h
theorem d_ix : IxR X (rD X.K ixD) :=
  IxR.imp (ix_list.or ix_tup) fun x y H Q q => by
    obtain ⟨Z, a, b, d, zh, ra, rb, e, k⟩ := q
    rcases ixD_k e with ⟨xs, rfl⟩ | ⟨xs, rfl⟩
    · obtain ⟨i, rfl, e⟩ := ixD_l e
      obtain ⟨a, vs, rfl, h1, q1⟩ := ra.lst_ex
      cases rb.int_eq
      obtain ⟨v, ev, rv⟩ := q1.at e
      exact .inl ⟨_, _, _, v, rfl, rfl, SqL.same h1 zh, ev, k v Z H (New.refl zh) rv⟩
    · obtain ⟨i, rfl, e⟩ := ixD_l (xs := xs) (b := b) (by cases b <;> exact e)
      obtain ⟨a, vs, rfl, h1, q1⟩ := ra.tup_ex
      cases rb.int_eq
      obtain ⟨v, ev, rv⟩ := q1.at e
      exact .inr ⟨_, _, _, v, rfl, rfl, SqT.same h1 zh, ev, k v Z H (New.refl zh) rv⟩
/-! ### builtins -/
theorem c_len : CallR X (.builtin "len") (rDs X.K lenD) :=
  CallR.imp call_len fun xs H Q q => by
    obtain ⟨Z, as, d, zh, ra, e, k⟩ := q
    cases ra with
    | nil => cases e
    | cons r1 r2 =>
      cases r2 with
      | cons _ _ => cases r1 <;> cases e
      | nil =>
        cases r1 with
        | lst h1 q1 => cases e; exact ⟨_, _, rfl, .inl ⟨_, SqL.same h1 zh, rfl⟩, k _ Z H (New.refl zh) (by rw [q1.length]; exact .int _)⟩
        | tup h1 q1 => cases e; exact ⟨_, _, rfl, .inr ⟨_, SqT.same h1 zh, rfl⟩, k _ Z H (New.refl zh) (by rw [q1.length]; exact .int _)⟩
        | _ => cases e
theorem two_ints {K : Fg} {Z : Hp} {xs : List V} {as : List D} {d : D} {g : List D → Option D} {h : Int → Int → Int} (hg : ∀ as d, g as = some d → ∃ i j, as = [.int i, .int j] ∧ d = .int (h i j)) (r : Reps K Z xs as) (e : g as = some d) :
    ∃ i j, xs = [.int i, .int j] ∧ d = .int (h i j) := by
  obtain ⟨i, j, rfl, rfl⟩ := hg _ _ e
  cases r with
  | cons r1 r2 =>
    cases r2 with
    | cons r3 r4 =>
      cases r4
      exact ⟨i, j, by rw [r1.int_eq, r3.int_eq], rfl⟩
theorem c_min (hc : X.calm = true) : CallR X (.builtin "min") (rDs X.K minD) :=
  CallR.imp (call_min2 hc) fun xs H Q q => by
    obtain ⟨Z, as, d, zh, ra, e, k⟩ := q
    obtain ⟨i, j, rfl, rfl⟩ := two_ints (h := fun i j => if j < i then j else i) (fun as d h => by unfold minD at h; split at h <;> cases h; exact ⟨_, _, rfl, rfl⟩) ra e
    exact ⟨i, j, rfl, k _ Z H (New.refl zh) (.int _)⟩
theorem c_max (hc : X.calm = true) : CallR X (.builtin "max") (rDs X.K maxD) :=
  CallR.imp (call_max2 hc) fun xs H Q q => by
    obtain ⟨Z, as, d, zh, ra, e, k⟩ := q
    obtain ⟨i, j, rfl, rfl⟩ := two_ints (h := fun i j => if j > i then j else i) (fun as d h => by unfold maxD at h; split at h <;> cases h; exact ⟨_, _, rfl, rfl⟩) ra e
    exact ⟨i, j, rfl, k _ Z H (New.refl zh) (.int _)⟩
theorem c_int : CallR X (.type "int") (rDs X.K intD) :=
  CallR.imp call_int1 fun xs H Q q => by
    obtain ⟨Z, as, d, zh, ra, e, k⟩ := q
    cases ra with
    | nil => cases e
    | cons r1 r2 =>
      cases r2 with
      | cons _ _ => cases r1 <;> cases e
      | nil =>
        cases r1 with
        | int i => cases e; exact .inl ⟨_, rfl, k _ Z H (New.refl zh) (.int _)⟩
        | bl i => cases e; exact .inr ⟨_, rfl, k _ Z H (New.refl zh) (.int _)⟩
        | _ => cases e
theorem c_tuple : CallR X (.type "tuple") (rDs X.K tupleD) :=
  CallR.imp call_tuple_of fun xs H Q q => by
    obtain ⟨Z, as, d, zh, ra, e, k⟩ := q
    cases ra with
    | nil => cases e
    | cons r1 r2 =>
      cases r2 with
      | cons _ _ => cases r1 <;> cases e
      | nil =>
        cases r1 with
        | lst h1 q1 => cases e; exact ⟨_, _, rfl, .inl ⟨SqL.same h1 zh, fun l hl => let n := New.add zh hl (.tup _); k _ _ _ n (.tup (SqT.of upd_same) (q1.same n.z))⟩⟩
        | tup h1 q1 => cases e; exact ⟨_, _, rfl, .inr ⟨SqT.same h1 zh, k _ Z H (New.refl zh) (.tup h1 q1)⟩⟩
        | _ => cases e
/-! ### isinstance -/
theorem kit_ok (K : Fg) {t T : String} (ht : t = "NoneType" ∨ t = "bool" ∨ t = "int" ∨ t = "str" ∨ t = "list" ∨ t = "tuple") (hT : T = "int" ∨ T = "bool" ∨ T = "str" ∨ T = "list" ∨ T = "tuple") : PySem.W.kitOne K (.type t) (.type T) = some (isiB t T) := by
  rcases ht with rfl | rfl | rfl | rfl | rfl | rfl <;> rcases hT with rfl | rfl | rfl | rfl | rfl <;> rfl
theorem Rep.ty {K : Fg} {Z H : Hp} {v : V} {d : D} (zh : Same Z H) (r : Rep K Z v d) (hD : ¬isDct d = true) : (tyN d = "NoneType" ∨ tyN d = "bool" ∨ tyN d = "int" ∨ tyN d = "str" ∨ tyN d = "list" ∨ tyN d = "tuple") := by
  cases r <;> simp [tyN]
  · exact absurd rfl hD
  · exact absurd rfl hD
theorem isi_ok {pins : List (Addr × Obj)} {σ : St} {H Z : Hp} {s : Shared} {x : V} {u : Value} {d : D} {T : String} {A : Around} {E : Value → Shared → Prop} {Q : Value → Shared → Prop} (I : Inv X pins σ H s) (zh : Same Z H) (rx : RelV x u) (r : Rep X.K Z x d) (hD : ¬isDct d = true)
    (hT : T = "int" ∨ T = "bool" ∨ T = "str" ∨ T = "list" ∨ T = "tuple") (h : ∀ tk, Q (.bool (isiB (tyN d) T)) { s with toks := tk }) : wpAny (model X.prog X.w) A (call (.builtin "isinstance") [u, .type T]) Q E s := by
  have ko := kit_ok X.K (Rep.ty zh r hD) hT
  cases r with
  | non => exact isinst_ok I rx (.non) ko h
  | bl b => exact isinst_ok I rx (.bl b) ko h
  | int b => exact isinst_ok I rx (.int b) ko h
  | str b => exact isinst_ok I rx (.str b) ko h
  | @tup a xs ds h1 q1 =>
    cases (show u = Value.ref a from rx)
    obtain ⟨its, _, p, _⟩ := I.tuple (SqT.same h1 zh)
    obtain ⟨o, h1, h2, _⟩ := p
    exact PySem.W.kia_one PySem.W.kitx_tuple I.kIn ⟨o, h1, h2⟩ ko (fun z => nomatch z) h
  | @lst a xs ds h1 q1 =>
    cases (show u = Value.ref a from rx)
    obtain ⟨its, _, p, _⟩ := I.list (SqL.same h1 zh)
    obtain ⟨o, n, h1, h2, _⟩ := p
    exact PySem.W.kia_one PySem.W.kitx_list I.kIn ⟨o, h1, h2⟩ ko (fun z => nomatch z) h
  | opq h1 => exact absurd rfl hD
  | gdc _ _ _ _ => exact absurd rfl hD
theorem c_isi (T : String) : CallR X (.builtin "isinstance") (fun xs H Q => ∃ x Z d r, xs = [x, .ty T] ∧ Same Z H ∧ Rep X.K Z x d ∧ isiD T d = some r ∧ ∃ b, r = .bool b ∧ Q (.bl b) H) := by
  intro pins s σ H xs us Q I rv h
  obtain ⟨x, Z, d, r, rfl, zh, rr, e, b, rfl, q⟩ := h
  obtain ⟨u, w', rfl, r1, r2⟩ := vals2 rv
  cases (show w' = Value.type T from r2)
  by_cases hD : isDct d = true
  · rw [isiD, if_pos hD] at e; cases e
  by_cases hT : T = "int" ∨ T = "bool" ∨ T = "str" ∨ T = "list" ∨ T = "tuple"
  · rw [isiD, if_neg hD, if_pos hT] at e
    cases e
    exact isi_ok I zh r1 rr hD hT fun tk => ⟨.bl _, H, I.tok _, rfl, q⟩
  · rw [isiD, if_neg hD, if_neg hT] at e; cases e
theorem ev_isi {x : Str} {T : String} {p2 : Pos} (hg : Gl X "isinstance") (hm : X.mg "isinstance" = none) (hgT : Gl X x) (hmT : X.mg x = none) (hvT : bootBuiltins x = some (.type T)) (hnT : x ≠ "__name__") (hdT : (x == ("__debug__" : Str)) = false) (ha : EV X a f)
    (he : starEach (a :: [.Name x p2]) X.env = (false, eval a X.env) :: starEach [.Name x p2] X.env := by rfl) (he2 : starEach ((.Name x p2) :: []) X.env = (false, eval (.Name x p2) X.env) :: starEach [] X.env := by rfl) (hpl : (backTo pos (starEach [.Name x p2] X.env)).any (·.1) = false := by rfl) :
    EV X (.Call (.Name "isinstance" p) [a, .Name x p2] [] pos) (o1 f (isiD T)) :=
  PE.imp (pe_callB (c_isi T) hg hm PyProof.Rows.boot_isinstance (pa_cons ha (pa_cons (pe_bltn (v := .ty T) hgT hmT hvT rfl hnT hdT) pa_nil he2) he) (by decide) (by decide) he hpl) fun σ H Q h => by
    obtain ⟨H₀, Z₀, Z, δ, d, hh, e, k⟩ := h
    obtain ⟨y, e1, e⟩ := bind_some e
    refine ⟨H₀, Z₀, Z, δ, y, hh, e1, fun v Z1 H1 hh1 s1 r1 => ⟨v, Z1, y, d, rfl, hh1.zh, r1, e, ?_⟩⟩
    have : ∃ b, d = .bool b := by
      unfold isiD at e
      split at e
      · cases e
      · split at e
        · cases e; exact ⟨_, rfl⟩
        · cases e
    obtain ⟨b, rfl⟩ := this
    exact ⟨b, rfl, k _ Z1 H1 hh1 s1 (.bl b)⟩
end
end VL

set_option Elab.async false
set_option linter.all false
set_option maxRecDepth 100000
set_option maxHeartbeats 4000000
namespace VL
open PySem PySem.Spec PyProof.Rows L2
section
variable {X : Cx} {a b c e tg iter : Expr} {es : List Expr} {pos p : Pos} {f f1 f2 f3 : Dv → Option D} {fs : Dv → Option (List D)} {ft fu : Dv → Option Bool} {st : Stmt} {sts body orelse : List Stmt} {s1 s2 s3 : Sf}

/-! ### statements -/
theorem sv_ret (he : EV X e f) : SV X (.Return (some e) pos) (sRet f) :=
  PS.imp (ps_ret he) fun D σ H h => by
    obtain ⟨H₀, Z₀, Z, δ, r, hh, e, k⟩ := h
    obtain ⟨x, e1, e⟩ := bind_some e
    cases e
    exact ⟨H₀, Z₀, Z, δ, x, hh, e1, fun v Z1 H1 hh1 s1 r1 => k σ H1 Z1 hh1 s1 v r1⟩
theorem sv_set (i : Nat) {x : Str} {pos' : Pos} (hN : X.N.Nodup) (he : EV X e f) (hi : X.N[i]? = some x := by rfl) (hx : Loc X.env.scope x := by first | exact Or.inl rfl | exact Or.inr rfl) (hs : swapsWith e (some (.Name x pos')) pos.line X.env = pure false := by rfl)
    (hf : X.fn x = true ∨ X.env.scope.names.lookup x = some .local := by first | exact .inl rfl | exact .inr rfl | assumption) : SV X (.Assign [.Name x pos'] e pos) (sSet i f) :=
  PS.imp (ps_set hN hi hx he hs hf) fun D σ H h => by
    obtain ⟨H₀, Z₀, Z, δ, r, hh, e, k⟩ := h
    obtain ⟨x, e1, e⟩ := bind_some e
    cases e
    exact ⟨H₀, Z₀, Z, δ, x, hh, e1, fun v Z1 H1 hh1 s1 r1 => k _ H1 Z1 (hh1.set r1) s1⟩
theorem sv_expr (he : EV X e f) (hs : swapsWith e none pos.line X.env = pure false := by rfl) : SV X (.Expr e pos) (sDrop f) :=
  PS.imp (ps_expr he hs) fun D σ H h => by
    obtain ⟨H₀, Z₀, Z, δ, r, hh, e, k⟩ := h
    obtain ⟨x, e1, e⟩ := bind_some e
    cases e
    exact ⟨H₀, Z₀, Z, δ, x, hh, e1, fun v Z1 H1 hh1 s1 r1 => k σ H1 Z1 hh1 s1⟩
theorem nx_ok {D : Ends} {σ : St} {H : Hp} {K : Fg} (h : tVS K sNx D σ H) : D.nx σ H := by
  obtain ⟨H₀, Z₀, Z, δ, r, hh, e, k⟩ := h
  cases e
  exact k σ H Z hh (Same.refl _)
theorem bv_nil : BV X [] sNx := PSs.imp pss_nil fun D σ H h => nx_ok h
theorem bv_cons (h1 : SV X st s1) (h2 : BV X sts s2) : BV X (st :: sts) (sSeq s1 s2) :=
  PSs.imp (pss_cons h1 h2) fun D σ H h => by
    obtain ⟨H₀, Z₀, Z, δ, r, hh, e, k⟩ := h
    obtain ⟨⟨fl, δ'⟩, e1, e⟩ := bind_some e
    refine ⟨H₀, Z₀, Z, δ, (fl, δ'), hh, e1, fun σ' H' Z' hh' s' => ?_⟩
    cases fl with
    | nx => exact ⟨H₀, Z₀, Z', δ', r, hh', e, fun σ2 H2 Z2 hh2 s2 => by
        have := k σ2 H2 Z2 hh2 (s'.trans s2)
        obtain ⟨fl, δ2⟩ := r
        cases fl <;> exact this⟩
    | bk => cases e; exact k σ' H' Z' hh' s'
    | ct => cases e; exact k σ' H' Z' hh' s'
    | rt d => cases e; exact k σ' H' Z' hh' s'
theorem bv_one (h1 : SV X st s1) : BV X [st] s1 := pss_one h1
theorem sv_if (hc : TV X c ft) (ha : BV X body s1) (hb : BV X orelse s2) : SV X (.If c body orelse pos) (sIf ft s1 s2) :=
  PS.imp (ps_if hc ha hb) fun D σ H h => by
    obtain ⟨H₀, Z₀, Z, δ, r, hh, e, k⟩ := h
    obtain ⟨x, e1, e⟩ := bind_some e
    refine ⟨H₀, Z₀, Z, δ, x, hh, e1, fun Z1 H1 hh1 t1 => ?_⟩
    cases x with
    | true => exact ⟨H₀, Z₀, Z1, δ, r, hh1, e, fun σ2 H2 Z2 hh2 t2 => k σ2 H2 Z2 hh2 (t1.trans t2)⟩
    | false => exact ⟨H₀, Z₀, Z1, δ, r, hh1, e, fun σ2 H2 Z2 hh2 t2 => k σ2 H2 Z2 hh2 (t1.trans t2)⟩
/-- a list of one's own is known for good from here -/
theorem fz_ok {K : Fg} (i : Nat) {D : Ends} {σ : St} {H : Hp} (h : tVS K (fun δ => s1 (dFz i δ)) D σ H) : tVS K s1 D σ H := by
  obtain ⟨H₀, Z₀, Z, δ, r, hh, e, k⟩ := h
  have e : s1 (dFz i δ) = some r := e
  unfold dFz at e
  split at e
  · rename_i ds q
    obtain ⟨Z1, t1, hh1⟩ := hh.frz q
    exact ⟨H₀, Z₀, Z1, _, r, hh1, e, fun σ2 H2 Z2 hh2 t2 => k σ2 H2 Z2 hh2 (t1.trans t2)⟩
  · exact ⟨H₀, Z₀, Z, _, r, hh, e, k⟩
theorem sv_fz (i : Nat) (h : SV X st s1) : SV X st (fun δ => s1 (dFz i δ)) := PS.imp h fun D σ H q => fz_ok i q

/-! ### targets -/
def tVG (K : Fg) (g : D → Dv → Option Dv) : TG := fun v σ H Q => ∃ H₀ Z₀ Z δ d δ', Hold K H₀ Z₀ Z δ σ H ∧ Rep K Z v d ∧ g d δ = some δ' ∧ ∀ σ' H' Z', Hold K H₀ Z₀ Z' δ' σ' H' → Same Z Z' → Q σ' H'
def GV (X : Cx) (tg : Expr) (g : D → Dv → Option Dv) : Prop := PG X tg (tVG X.K g)
theorem PG.imp {t t' : TG} (h : PG X tg t) (i : ∀ v σ H Q, t' v σ H Q → t v σ H Q) : PG X tg t' := fun pins s σ H x v Q I r q => h pins s σ H x v Q I r (i _ _ _ _ q)
theorem gv_name (i : Nat) {x : Str} (hN : X.N.Nodup) (hi : X.N[i]? = some x := by rfl) (hx : Loc X.env.scope x := by first | exact Or.inl rfl | exact Or.inr rfl)
    (hf : X.fn x = true ∨ X.env.scope.names.lookup x = some .local := by first | exact .inl rfl | exact .inr rfl | assumption) : GV X (.Name x pos) (gN i) :=
  PG.imp (pg_name hN hi hx hf) fun v σ H Q h => by
    obtain ⟨H₀, Z₀, Z, δ, d, δ', hh, r, e, k⟩ := h
    cases e
    exact k _ H Z (hh.set r) (Same.refl _)
/-! ### loops -/
structure ItOk (K : Fg) (Z : Hp) (J : It) (ds : List D) : Prop where
  go : ∀ (i : Nat) (H : Hp), Same Z H → i < ds.length → J.go i H
  yld : ∀ (i : Nat) (H : Hp) x H' d, Same Z H → ds[i]? = some d → J.yld i H x H' → H' = H ∧ Rep K Z x d
  stop : ∀ (i : Nat) (H : Hp), Same Z H → ds.length ≤ i → J.stop i H
def tVI (K : Fg) (f : Dv → Option (List D)) : TI := fun σ H R => ∃ H₀ Z₀ Z δ ds, Hold K H₀ Z₀ Z δ σ H ∧ f δ = some ds ∧ ∀ J Z' H', Hold K H₀ Z₀ Z' δ σ H' → Same Z Z' → ItOk K Z' J ds → R J H'
def IV (X : Cx) (tg iter : Expr) (f : Dv → Option (List D)) : Prop := PI X tg iter (tVI X.K f)
theorem PI.imp {t t' : TI} (h : PI X tg iter t) (i : ∀ σ H R, t' σ H R → t σ H R) : PI X tg iter t' := fun pins s σ H R I q => h pins s σ H R I (i _ _ _ q)
theorem sv_for {g : D → Dv → Option Dv} (hp : PassesOwn (model X.prog X.w) X.A X.env X.xe) (hc : X.calm = true) (hi : IV X tg iter fs) (hg : GV X tg g) (hb : BV X body s1)
    (hs : ∀ x, foldedSetIterable iter X.env x = pure x := by intro _; rfl) : SV X (.For tg iter body [] pos) (sFor fs g s1) :=
  PS.imp (ps_for hp hc hi hg hb hs) fun D σ H h => by
    obtain ⟨H₀, Z₀, Z, δ, r, hh, e, k⟩ := h
    obtain ⟨ds, e1, e⟩ := bind_some e
    refine ⟨H₀, Z₀, Z, δ, ds, hh, e1, fun J Z1 H1 hh1 t1 ok => ?_⟩
    refine ⟨fun i m σ H => m = ds.length - i ∧ i ≤ ds.length ∧ ∃ Zc δc, Hold X.K H₀ Z₀ Zc δc σ H ∧ Same Z1 Zc ∧ loop g s1 (ds.drop i) δc = some r, ⟨ds.length, by simp, Nat.zero_le _, Z1, δ, hh1, Same.refl _, e⟩, ?_⟩
    rintro i m σ2 H2 ⟨rfl, hi2, Zc, δc, hhc, tc, ec⟩
    have zh : Same Z1 H2 := tc.trans hhc.zh
    by_cases hlt : i < ds.length
    · refine .inr ⟨ok.go i H2 zh hlt, fun σ3 H3 => ∃ Zc δc, Hold X.K H₀ Z₀ Zc δc σ3 H3 ∧ Same Z1 Zc ∧ loop g s1 (ds.drop (i + 1)) δc = some r, fun σ3 H3 q => ⟨ds.length - (i + 1), by omega, rfl, hlt, q⟩, fun x H3 y => ?_⟩
      have ed : ds[i]? = some ds[i] := by simp [hlt]
      obtain ⟨rfl, rx⟩ := ok.yld i H2 x H3 _ zh ed y
      rw [List.drop_eq_getElem_cons hlt] at ec
      obtain ⟨δ1, g1, ec⟩ := bind_some ec
      obtain ⟨⟨fl, δ2⟩, g2, ec⟩ := bind_some ec
      refine ⟨H₀, Z₀, Zc, δc, _, δ1, hhc, rx.same tc, g1, fun σ4 H4 Z4 hh4 t4 => ⟨H₀, Z₀, Z4, δ1, (fl, δ2), hh4, g2, fun σ5 H5 Z5 hh5 t5 => ?_⟩⟩
      cases fl with
      | nx => exact ⟨Z5, δ2, hh5, (tc.trans t4).trans t5, ec⟩
      | ct => exact ⟨Z5, δ2, hh5, (tc.trans t4).trans t5, ec⟩
      | bk => cases ec; exact k σ5 H5 Z5 hh5 (((t1.trans tc).trans t4).trans t5)
      | rt d => cases ec; exact k σ5 H5 Z5 hh5 (((t1.trans tc).trans t4).trans t5)
    · have e2 : ds.drop i = [] := List.drop_eq_nil_iff.mpr (by omega)
      rw [e2] at ec
      cases ec
      exact .inl ⟨ok.stop i H2 zh (by omega), k σ2 H2 Zc hhc (t1.trans tc)⟩
/-! ### what is walked -/
theorem itok_rng {K : Fg} {Z : Hp} {lo : Int} {n : Nat} : ItOk K Z (Itr lo n) (rngL lo n) where
  go := fun i H _ h => by simpa [rngL, Itr] using h
  yld := fun i H x H' d _ e y => by
    obtain ⟨rfl, rfl⟩ := y
    refine ⟨rfl, ?_⟩
    unfold rngL at e
    rw [List.getElem?_map] at e
    cases q : (List.range n)[i]? with
    | none => rw [q] at e; cases e
    | some k =>
      rw [q] at e
      cases e
      have : k = i := by
        obtain ⟨h, h2⟩ := List.getElem?_eq_some_iff.mp q
        simpa using h2.symm
      subst this
      exact .int _
  stop := fun i H _ h => by simpa [rngL, Itr] using h
theorem iv_range1 (hg : Gl X "range") (hm : X.mg "range" = none) (ha : AV X [a] fs) (hs : starEach [a] X.env = [(false, eval a X.env)] := by rfl) : IV X tg (.Call (.Name "range" p) [a] [] pos) (oL fs rng1D) :=
  PI.imp (pi_range1 hg hm ha hs) fun σ H R h => by
    obtain ⟨H₀, Z₀, Z, δ, ds, hh, e, k⟩ := h
    obtain ⟨as, e1, e⟩ := bind_some e
    refine ⟨H₀, Z₀, Z, δ, as, hh, e1, fun vs Z1 H1 hh1 t1 r1 => ?_⟩
    unfold rng1D at e
    split at e
    · rename_i j
      split at e
      · rename_i hj
        cases e
        cases r1 with
        | cons q1 q2 =>
          cases q2
          exact ⟨j, by rw [q1.int_eq], hj.2, hj.1, k _ Z1 H1 hh1 t1 itok_rng⟩
      · cases e
    · cases e
theorem iv_range2 (hg : Gl X "range") (hm : X.mg "range" = none) (ha : AV X [a, b] fs) (hs : starEach [a, b] X.env = [(false, eval a X.env), (false, eval b X.env)] := by rfl) (hs2 : starEach [b] X.env = [(false, eval b X.env)] := by rfl) : IV X tg (.Call (.Name "range" p) [a, b] [] pos) (oL fs rng2D) :=
  PI.imp (pi_range2 hg hm ha hs hs2) fun σ H R h => by
    obtain ⟨H₀, Z₀, Z, δ, ds, hh, e, k⟩ := h
    obtain ⟨as, e1, e⟩ := bind_some e
    refine ⟨H₀, Z₀, Z, δ, as, hh, e1, fun vs Z1 H1 hh1 t1 r1 => ?_⟩
    unfold rng2D at e
    split at e
    · rename_i i j
      split at e
      · rename_i hj
        cases e
        cases r1 with
        | cons q1 q2 =>
          cases q2 with
          | cons q2 q3 =>
            cases q3
            exact ⟨i, j, by rw [q1.int_eq, q2.int_eq], ⟨hj.1.2, hj.1.1, hj.2.2, hj.2.1⟩, k _ Z1 H1 hh1 t1 itok_rng⟩
      · cases e
    · cases e
/-- a list or a tuple -/
theorem iv_list (ha : EV X a f) : IV X tg a (oI f lstI) :=
  PI.imp (pi_list ha) fun σ H R h => by
    obtain ⟨H₀, Z₀, Z, δ, ds, hh, e, k⟩ := h
    obtain ⟨y, e1, e⟩ := bind_some e
    refine ⟨H₀, Z₀, Z, δ, y, hh, e1, fun v Z1 H1 hh1 t1 r1 => ?_⟩
    cases r1 with
    | @lst l xs ds' h1 q1 =>
      cases e
      refine ⟨l, rfl, ⟨xs, SqL.same h1 hh1.zh⟩, k _ Z1 H1 hh1 t1 ⟨fun i H2 z hi => ?_, fun i H2 x H3 d z ed y => ?_, fun i H2 z hi => ⟨xs, SqL.same h1 z, by rw [q1.length]; exact hi⟩⟩⟩
      · have hi' : i < xs.length := by rw [q1.length]; exact hi
        exact ⟨xs, xs[i], SqL.same h1 z, by simp [hi']⟩
      · obtain ⟨rfl, y⟩ := y
        obtain ⟨v, ev, rv⟩ := q1.get ed
        have := y xs (SqL.same h1 z)
        rw [ev] at this
        cases this
        exact ⟨rfl, rv⟩
    | _ => cases e
theorem iv_tup (ha : EV X a f) : IV X tg a (oI f tupI) :=
  PI.imp (pi_tup ha) fun σ H R h => by
    obtain ⟨H₀, Z₀, Z, δ, ds, hh, e, k⟩ := h
    obtain ⟨y, e1, e⟩ := bind_some e
    refine ⟨H₀, Z₀, Z, δ, y, hh, e1, fun v Z1 H1 hh1 t1 r1 => ?_⟩
    cases r1 with
    | @tup l xs ds' h1 q1 =>
      cases e
      refine ⟨l, rfl, ⟨xs, SqT.same h1 hh1.zh⟩, k _ Z1 H1 hh1 t1 ⟨fun i H2 z hi => ?_, fun i H2 x H3 d z ed y => ?_, fun i H2 z hi => ⟨xs, SqT.same h1 z, by rw [q1.length]; exact hi⟩⟩⟩
      · have hi' : i < xs.length := by rw [q1.length]; exact hi
        exact ⟨xs, xs[i], SqT.same h1 z, by simp [hi']⟩
      · obtain ⟨rfl, y⟩ := y
        obtain ⟨v, ev, rv⟩ := q1.get ed
        have := y xs (SqT.same h1 z)
        rw [ev] at this
        cases this
        exact ⟨rfl, rv⟩
    | _ => cases e
end
/-! ### range(a, b, c) -/
section
variable {X : Cx} {a b c tg : Expr} {ta : TA} {p pos : Pos} {fs : Dv → Option (List D)}
end
/-! ### slices -/
section
variable {X : Cx} {e : Expr} {lo hi : Option Expr} {p2 pos : Pos} {f : Dv → Option D}
def tVO (K : Fg) (f : Dv → Option (Option Int)) : TO := fun σ H Q => ∃ H₀ Z₀ Z δ d, Hold K H₀ Z₀ Z δ σ H ∧ f δ = some d ∧ ∀ Z' H', Hold K H₀ Z₀ Z' δ σ H' → Same Z Z' → Q d H'
def OV (X : Cx) (e : Option Expr) (f : Dv → Option (Option Int)) : Prop := PO X e (tVO X.K f)
theorem PO.imp {eo : Option Expr} {t t' : TO} (h : PO X eo t) (i : ∀ σ H Q, t' σ H Q → t σ H Q) : PO X eo t' := fun pins s σ H Q I q => h pins s σ H Q I (i _ _ _ q)
theorem ov_none : OV X none oNo := PO.imp po_none fun σ H Q h => by
  obtain ⟨H₀, Z₀, Z, δ, d, hh, e, k⟩ := h
  cases e
  exact k Z H hh (Same.refl _)
theorem ov_some (h : EV X e f) : OV X (some e) (oP f) := PO.imp (po_some h) fun σ H Q h => by
  obtain ⟨H₀, Z₀, Z, δ, d, hh, e, k⟩ := h
  obtain ⟨x, e1, e⟩ := bind_some e
  refine ⟨H₀, Z₀, Z, δ, x, hh, e1, fun v Z1 H1 hh1 t1 r1 => ?_⟩
  cases r1 <;> simp [asI] at e
  subst e
  exact ⟨_, rfl, k Z1 H1 hh1 t1⟩
/-- the items of xs[lo:hi] -/
theorem Reps.cut {K : Fg} {Z : Hp} {vs : List V} {ds : List D} (r : Reps K Z vs ds) (lo hi : Option Int) : Reps K Z (cutV vs lo hi) (cutD ds lo hi) := by
  unfold cutV cutD
  rw [r.length]
  exact (r.drop _).take _
/-- t[lo:hi], the whole of it: t itself -/
theorem cutD_whole {ds : List D} {lo hi : Option Int} (h1 : HT.sIx ds.length 0 lo = 0) (h2 : HT.sIx ds.length ds.length hi = ds.length) : cutD ds lo hi = ds := by
  unfold cutD
  rw [h1, h2]
  simp
section
variable {prog : Program} {w : World} {A : Around} {E : Value → Shared → Prop} {s : Shared}
theorem tupCut_whole {t sl : Addr} {items : Array Value} {vl vu : Value} {lo hi : Option Int} {Q : Value → Shared → Prop} (ht : IsTup s.heap t items) (hs : s.heap.IsSliceOf sl vl vu .none) (pl : IsPart vl lo) (pu : IsPart vu hi)
    (h1 : HT.sIx items.size 0 lo = 0) (h2 : HT.sIx items.size items.size hi = items.size) (h : Q (.ref t) s) : wpAny (model prog w) A (getItem (.ref t) (.ref sl)) Q E s := by
  obtain ⟨osl, hos, hcs, hds⟩ := id hs
  have ty : s.TypeIs (.ref sl) "slice" := ⟨osl, hos, hcs⟩
  unfold getItem
  try with_reducible refine wpAny_holding ?_
  first | refine wpAny_bind (wpAny_pure ?_) | skip
  refine wpAny_bind (wpAny_sequenceKey ht.typeIs (by decide) ?_)
  refine wpAny_bind (wpAny_callSpecial?_slot (name := Str.ofString "__getitem__") ht.typeIs PyProof.Rows.slot_tuple_getitem
    (wpAny_call_entry PyProof.Rows.slot_tuple_getitem ht.typeIs PyProof.Rows.entry_tuple_getitem ?_ (PyProof.Rows.args_tuple_getitem _ _)))
  show wpAny _ _ (Builtin.Tuple.tupleItemsOf (.ref t) >>= _) _ _ s
  refine wpAny_bind (tupleItemsOf_ ht ?_)
  refine wpAny_bind (wpAny_typeOf ty ?_)
  rw [if_pos (by decide)]
  refine wpAny_bind (HT.sliceApplied_gen hs pl pu ?_)
  have yes : (((((HT.sIx items.size 0 lo : Nat) : Int) == 0) && ((1 : Int) == 1)) && ((HT.sIx items.size items.size hi - HT.sIx items.size 0 lo) == items.size)) = true := by
    rw [h1, h2]; simp
  show wpAny _ _ (if (((((HT.sIx items.size 0 lo : Nat) : Int) == 0) && ((1 : Int) == 1)) && ((HT.sIx items.size items.size hi - HT.sIx items.size 0 lo) == items.size)) = true then _ else _) _ _ s
  rw [if_pos yes]
  unfold Builtin.Tuple.tupleIsExact
  refine wpAny_bind (wpAny_bind (wpAny_typeOf ht.typeIs (wpAny_pure ?_)))
  rw [if_pos (by decide)]
  exact wpAny_bind (wpAny_rule (wpAny_pure ⟨_, rfl, wpAny_pure h⟩))
end
def rSlW (K : PySem.W.Frag) : V → Option Int → Option Int → Hp → VK → Prop := fun x lo hi H Q => ∃ a xs, x = .ref a ∧ SqT K H a xs ∧ HT.sIx xs.length 0 lo = 0 ∧ HT.sIx xs.length xs.length hi = xs.length ∧ Q (.ref a) H
theorem sl_tupW : SlR X (rSlW X.K) := by
  intro pins s σ H x v vl vu lo hi sl Q I rx hs pl pu h
  obtain ⟨a, xs, rfl, hx, w1, w2, q⟩ := h
  cases rx
  obtain ⟨its, r, ht, hz⟩ := I.tuple hx
  have hlen : its.toArray.size = xs.length := by rw [List.size_toArray]; exact r.length.symm
  refine ⟨"tuple", _, PyProof.Rows.slot_tuple_getitem.lookup, ht.typeIs, ?_⟩
  exact tupCut_whole ht hs pl pu (by rw [hlen]; exact w1) (by rw [hlen]; exact w2) ⟨.ref a, H, I, rfl, q⟩
theorem ev_slice {fl fu : Dv → Option (Option Int)} (he : EV X e f) (hl : OV X lo fl) (hu : OV X hi fu) : EV X (.Subscript e (.Slice lo hi none p2) pos) (oSl f fl fu) :=
  PE.imp (pe_slice (sl_list.or (sl_tup.or sl_tupW)) he hl hu) fun σ H Q h => by
    obtain ⟨H₀, Z₀, Z, δ, d, hh, e, k⟩ := h
    obtain ⟨x, e1, e⟩ := bind_some e
    obtain ⟨i, e2, e⟩ := bind_some e
    obtain ⟨j, e3, e⟩ := bind_some e
    refine ⟨H₀, Z₀, Z, δ, x, hh, e1, fun v Z1 H1 hh1 t1 r1 => ⟨H₀, Z₀, Z1, δ, i, hh1, e2, fun Z2 H2 hh2 t2 => ⟨H₀, Z₀, Z2, δ, j, hh2, e3, fun Z3 H3 hh3 t3 => ?_⟩⟩⟩
    have r3 := (r1.same t2).same t3
    have tt := (t1.trans t2).trans t3
    cases r3 with
    | @lst a xs ds h1 q1 =>
      cases e
      refine .inl ⟨_, _, rfl, SqL.same h1 hh3.zh, fun p hp => ?_⟩
      have n := New.add hh3.zh hp (.lst (cutV xs i j))
      exact k _ _ _ (hh3.new n) (tt.trans n.z) (.lst (SqL.of upd_same) ((q1.cut i j).same n.z))
    | @tup a xs ds h1 q1 =>
      simp only [slD] at e
      cases e
      by_cases hw : HT.sIx ds.length 0 i = 0 ∧ HT.sIx ds.length ds.length j = ds.length
      · refine .inr (.inr ⟨_, _, rfl, SqT.same h1 hh3.zh, by rw [q1.length]; exact hw.1, by rw [q1.length]; exact hw.2, ?_⟩)
        refine k _ _ _ hh3 tt ?_
        rw [cutD_whole hw.1 hw.2]
        exact .tup h1 q1
      · refine .inr (.inl ⟨_, _, rfl, SqT.same h1 hh3.zh, by rw [q1.length]; exact hw, fun p hp => ?_⟩)
        have n := New.add hh3.zh hp (.tup (cutV xs i j))
        exact k _ _ _ (hh3.new n) (tt.trans n.z) (.tup (SqT.of upd_same) ((q1.cut i j).same n.z))
    | _ => cases e
end
/-! ### defs -/
structure FunV (K : PySem.W.Frag) (x qual : Str) (st : Stmt) (f : Addr) (fd : FuncData) (dV : Value) : Prop where
  ex : ∃ (oc : Value) (od : Option Addr) (kV doc pm : Value) (an : Option Addr) (cdv ct : Value) (osl : Array (Option Value)),
    fd = PySem.W.fnOf x qual (defArgs st) (defBody st) (defScope st) dV kV doc pm an cdv ct ∧ K.lookup f = some ⟨oc, od, .func fd, osl⟩ ∧ PySem.W.codeIn K cdv qual = true
  kp : PySem.W.keepIn K (.ref f) = true
section
variable {P : Program} {w : World} {K : PySem.W.Frag} {mg : Str → Option Value} {base : Heap}
theorem start_get {N : List Str} {vs : List V} {as : List D} {Z : Hp} (r : Reps K Z vs as) : ∀ (i : Nat) d, (startD N as)[i]? = some (.fz d) → ∃ v, (start N vs)[i]? = some (some v) ∧ Rep K Z v d := by
  intro i d e
  unfold startD at e
  unfold L2.start
  by_cases hi : i < as.length
  · rw [List.getElem?_append_left (by simpa using hi), List.getElem?_map] at e
    cases q : as[i]? with
    | none => rw [q] at e; cases e
    | some d' =>
      rw [q] at e
      cases e
      obtain ⟨v, ev, rv⟩ := r.get q
      exact ⟨v, by rw [List.getElem?_append_left (by simpa [r.length] using hi), List.getElem?_map, ev]; rfl, rv⟩
  · rw [List.getElem?_append_right (by simpa using hi), List.getElem?_replicate] at e
    split at e <;> cases e
theorem start_now {N : List Str} {as : List D} : ∀ (i : Nat) ds, (startD N as)[i]? ≠ some (.own ds) := by
  intro i ds e
  unfold startD at e
  by_cases hi : i < as.length
  · rw [List.getElem?_append_left (by simpa using hi), List.getElem?_map] at e
    cases q : as[i]? with
    | none => rw [q] at e; cases e
    | some d' => rw [q] at e; cases e
  · rw [List.getElem?_append_right (by simpa using hi), List.getElem?_replicate] at e
    split at e <;> cases e
theorem start_fr {N : List Str} {as : List D} : ∀ (i : Nat) ds, (startD N as)[i]? ≠ some (.fr ds) := by
  intro i ds e
  unfold startD at e
  by_cases hi : i < as.length
  · rw [List.getElem?_append_left (by simpa using hi), List.getElem?_map] at e
    cases q : as[i]? with
    | none => rw [q] at e; cases e
    | some d' => rw [q] at e; cases e
  · rw [List.getElem?_append_right (by simpa using hi), List.getElem?_replicate] at e
    split at e <;> cases e
theorem hold_start {N : List Str} {vs : List V} {as : List D} {Z H : Hp} (zh : Same Z H) (r : Reps K Z vs as) : Hold K H Z Z (startD N as) (start N vs) H :=
  ⟨zh, Same.refl _, Same.refl _, fun _ _ => rfl, by simp [startD, L2.start, r.length], start_get r, fun i ds e => absurd e (start_now i ds), fun i j ds es a _ e => absurd e (start_now i ds), fun i ds e => absurd e (start_fr i ds), NoF.refl _⟩
/-- THE RULE for a def: g what it is worth, b its body as a function -/
theorem fn_v {x qual : Str} {st : Stmt} {f : Addr} {fd : FuncData} {dV : Value} {N ps : List Str} {k : Nat} {g : List D → Option D} {b : Sf} (F : FunV K x qual st f fd dV) (S : FnScope N ps (defScope st)) (len : ∀ as d, g as = some d → as.length = ps.length)
    (hb : ∀ (cdv : Value) (A : Around) (outer : List Env) (s : Shared) (H : Hp) (E : XK), Room k (A.deeper (envOfC qual (defScope st) s.heap.objs.size f cdv)) → BV (cxOf CX0 P w K mg base N qual (defScope st) f cdv A outer s H E).nox (defBody st) b)
    (hg : ∀ as d, g as = some d → ∃ δ', b (startD N as) = some (.rt d, δ') ∨ (d = .none ∧ b (startD N as) = some (.nx, δ'))) : FnOk P w K mg base CX0 (k + 1) f fd ps (spD K g) := by
  obtain ⟨oc, od, kV, doc, pm, an, cdv, ct, osl, rfl, lk, hcd⟩ := F.ex
  refine fn_of lk hcd S (fun vs H Q E h => ?_) fun A outer s H vs Q E hr hsp => ?_
  · obtain ⟨Z, as, d, zh, r, e, _⟩ := h
    rw [r.length]
    exact len as d e
  · refine ⟨_, PSs.nox (hb cdv A outer s H E hr), ?_⟩
    obtain ⟨Z, as, d, zh, r, e, kk⟩ := hsp
    have hh := hold_start (N := N) zh r
    have fin : ∀ {σ' : St} {H' Z' : Hp} {δ' : Dv}, Hold K H Z Z' δ' σ' H' → Same Z Z' → New Z H Z' H' := fun h' z' => ⟨z', h'.h0, h'.zh, h'.zb, h'.nf⟩
    obtain ⟨δ', e2 | ⟨rfl, e2⟩⟩ := hg as d e
    · exact ⟨H, Z, Z, _, _, hh, e2, fun σ' H' Z' h' z' v rv => kk v Z' H' (fin h' z') rv⟩
    · exact ⟨H, Z, Z, _, _, hh, e2, fun σ' H' Z' h' z' => kk _ Z' H' (fin h' z') .non⟩
theorem FunV.binds {x qual : Str} {st : Stmt} {f : Addr} {fd : FuncData} {ps : List Str} (F : FunV K x qual st f fd .none)
    (h : ∀ (kV doc pm : Value) (an : Option Addr) (cdv ct : Value) (us : List Value), us.length = ps.length → bindArgs (PySem.W.fnOf x qual (defArgs st) (defBody st) (defScope st) .none kV doc pm an cdv ct) ⟨us, []⟩ = pure (ps.zip us)) : Binds K fd ps [] := by
  obtain ⟨oc, od, kV, doc, pm, an, cdv, ct, osl, rfl, lk, hcd⟩ := F.ex
  exact .all (h kV doc pm an cdv ct)
theorem funV_mk {x qual : Str} {st : Stmt} {f : Addr} {dV oc : Value} {od an : Option Addr} {osl : Array (Option Value)} {kV doc pm cdv ct : Value} (l : K.lookup f = some ⟨oc, od, .func (PySem.W.fnOf x qual (defArgs st) (defBody st) (defScope st) dV kV doc pm an cdv ct), osl⟩)
    (c : PySem.W.codeIn K cdv qual = true) (k : PySem.W.keepIn K (.ref f) = true) : FunV K x qual st f (PySem.W.fnOf x qual (defArgs st) (defBody st) (defScope st) dV kV doc pm an cdv ct) dV := ⟨⟨oc, od, kV, doc, pm, an, cdv, ct, osl, rfl, l, c⟩, k⟩
/-- law's: a list of at most 63 ints is handed in, True comes out -/
def spLaw (K : PySem.W.Frag) : Sp := fun vs H Q _ => ∃ (a : Addr) (ns : List Int), vs = [.ref a] ∧ SqL K H a (ns.map V.int) ∧ ns.length ≤ 63 ∧ ∀ H', Q (.bl true) H'
theorem law_v {g : List D → Option D} {k : Nat} {f : Addr} {fd : FuncData} (F : FnOk P w K mg base CX0 k f fd ["script"] (spD K g)) (hg : ∀ ns : List Int, ns.length ≤ 63 → g [.list (ns.map .int)] = some (.bool true)) : FnOk P w K mg base CX0 k f fd ["script"] (spLaw K) :=
  F.imp fun vs H Q E h => by
    obtain ⟨a, ns, rfl, hS, hl, q⟩ := h
    exact ⟨H, [.list (ns.map .int)], .bool true, Same.refl _, .cons (.lst hS (Reps.ints ns)) .nil, hg ns hl, fun v Z' H' _ r => by cases r; exact q H'⟩
end
theorem walkV {k : Nat} {l : PySem.W.OpenLaw} {q : Program} {loose : List Str} {XP : (Str → Option Value) → Heap → Prop} {YP : World → Heap → Prop} {d : DefRec} {K : Params → PySem.W.Frag} (hn : l.most = some 63) (hr : Room k callerA) (hdf : d.params.defaults = [])
    (hY : ∀ (w : World) (h : Heap), YP w h → (K w.params).In h)
    (F : ∀ (w : World) (mg : Str → Option Value) (fa : Addr) (h : Heap), (K w.params).In h → h.Ns mainGlobals mg → mg d.name = some (.ref fa) →
      ∃ fd : FuncData, (∀ (s : Shared) (u : Value), BindsTo s fd ⟨[u], []⟩ [("script", u)]) ∧ ∀ base : Heap, (K w.params).In base → base.Ns mainGlobals mg → FnOk l.prog w (K w.params) mg base CX0 k fa fd ["script"] (spLaw (K w.params))) :
    PySem.W.WalkO q loose XP YP l.row.toRowW d [] (fun f vs => PySem.call f vs) :=
  L2.walk_of (n := 63) (k := k) (x := "script") (CX := fun _ => CX0) (sp := fun w => spLaw (K w.params)) hn (by decide) hdf hr hY F (fun _ _ a ns hl _ hS => ⟨a, ns, rfl, hS, hl, fun _ => rfl⟩) fun _ _ _ _ _ z => z
/-! ### a def by its own body -/
section
variable {P : Program} {w : World} {K : PySem.W.Frag} {mg : Str → Option Value} {base : Heap}
theorem fn_b {x qual : Str} {st : Stmt} {f : Addr} {fd : FuncData} {dV : Value} {N ps : List Str} {k : Nat} {b : Sf} (F : FunV K x qual st f fd dV) (S : FnScope N ps (defScope st))
    (hb : ∀ (cdv : Value) (A : Around) (outer : List Env) (s : Shared) (H : Hp) (E : XK), Room k (A.deeper (envOfC qual (defScope st) s.heap.objs.size f cdv)) → BV (cxOf CX0 P w K mg base N qual (defScope st) f cdv A outer s H E).nox (defBody st) b) :
    FnOk P w K mg base CX0 (k + 1) f fd ps (spD K (runB N ps.length b)) := by
  refine fn_v F S (fun as d h => ?_) hb fun as d h => ?_
  · unfold runB at h
    split at h
    · assumption
    · cases h
  · unfold runB at h
    split at h
    · obtain ⟨⟨fl, δ'⟩, e, h⟩ := bind_some h
      cases fl with
      | nx => cases h; exact ⟨δ', .inr ⟨rfl, e⟩⟩
      | rt d => cases h; exact ⟨δ', .inl e⟩
      | bk => cases h
      | ct => cases h
    · cases h
/-- a def that may be called: g what it is worth, dd the defaults that fill up -/
structure Cal (P : Program) (w : World) (K : PySem.W.Frag) (mg : Str → Option Value) (base : Heap) (x : Str) (k : Nat) (g : List D → Option D) (dd : List D) : Prop where
  ex : ∃ (fa : Addr) (fd : FuncData) (ps : List Str) (ds : List Value) (dv : List V), FnOk P w K mg base CX0 k fa fd ps (spD K g) ∧ mg x = some (.ref fa) ∧ PySem.W.keepIn K (.ref fa) = true ∧ Binds K fd ps ds ∧ Vals dv ds ∧ ∀ Z, Reps K Z dv dd
theorem Cal.mk0 {x : Str} {k : Nat} {g : List D → Option D} {fa : Addr} {fd : FuncData} {ps : List Str} (F : FnOk P w K mg base CX0 k fa fd ps (spD K g)) (hm : mg x = some (.ref fa)) (hk : PySem.W.keepIn K (.ref fa) = true) (hb : Binds K fd ps []) : Cal P w K mg base x k g [] :=
  ⟨⟨fa, fd, ps, [], [], F, hm, hk, hb, .nil, fun _ => .nil⟩⟩
end
section
variable {X : Cx} {e : Expr} {es : List Expr} {p pos : Pos} {fs : Dv → Option (List D)}
theorem ev_def {k : Nat} {x : Str} {g : List D → Option D} {dd : List D} (C : Cal X.prog X.w X.K X.mg X.base x k g dd) (hr : Room k X.A) (hg : Gl X x) (ha : AV X (e :: es) fs) (hdb : (x == ("__debug__" : Str)) = false := by decide) (he : starEach (e :: es) X.env = (false, eval e X.env) :: starEach es X.env := by rfl)
    (hpl : (backTo pos (starEach es X.env)).any (·.1) = false := by rfl) : EV X (.Call (.Name x p) (e :: es) [] pos) (os fs fun as => g (as ++ dd)) := by
  obtain ⟨fa, fd, ps, ds, dv, F, hm, hk, hb, hd, hdd⟩ := C.ex
  exact ev_call F hr hg hm hk hb hd hdd pass0 ha hdb he hpl
variable {tg a : Expr} {f : Dv → Option D}
theorem iv_seq (ha : EV X a f) : IV X tg a (oI f itsD) := by
  intro pins s σ H R I h
  obtain ⟨H₀, Z₀, Z, δ, ds, hh, e, k⟩ := h
  obtain ⟨y, e1, e⟩ := bind_some e
  cases y with
  | list xs => exact iv_list ha pins s σ H R I ⟨H₀, Z₀, Z, δ, ds, hh, by unfold oI; rw [e1]; exact e, k⟩
  | tuple xs => exact iv_tup ha pins s σ H R I ⟨H₀, Z₀, Z, δ, ds, hh, by unfold oI; rw [e1]; exact e, k⟩
  | _ => cases e
end
end VL

set_option Elab.async false
set_option linter.all false
set_option maxRecDepth 100000
set_option maxHeartbeats 4000000
namespace VL
open PySem PySem.Spec PyProof.Rows L2
/-! ### comprehensions -/
/-- the cells that a block takes along -/
def clos (env : Env) : List (Str × NameKind) → List (Str × Addr) → List (Str × Addr)
  | [], cs => cs
  | (n, k) :: r, cs => if k == .free then clos env r ((n, (env.cells.lookup n).getD 0) :: cs) else clos env r cs
theorem forIn_clos {env : Env} : ∀ (l : List (Str × NameKind)) (cs : List (Str × Addr)), (∀ y ∈ l, y.2 = .free → ∃ c, env.cells.lookup y.1 = some c) →
    (forIn l cs fun (x : Str × NameKind) (r : List (Str × Addr)) => (if (x.2 == NameKind.free) = true then do let c ← cellOf env x.1; pure (ForInStep.yield ((x.1, c) :: r)) else pure (ForInStep.yield r) : Sem (ForInStep (List (Str × Addr))))) = pure (clos env l cs)
  | [], cs, _ => rfl
  | (n, k) :: r, cs, h => by
    have ih := fun cs' => forIn_clos r cs' fun y hy => h y (List.mem_cons_of_mem _ hy)
    rw [List.forIn_cons]
    cases hk : k == NameKind.free with
    | true =>
      have hk' : k = .free := by simpa using hk
      obtain ⟨c, ec⟩ := h (n, k) List.mem_cons_self hk'
      have e1 : cellOf env n = pure c := by unfold cellOf; rw [ec]
      simp only [hk, if_true, e1, pure_bind, clos, ec, Option.getD_some]
      exact ih _
    | false =>
      simp only [hk, Bool.false_eq_true, if_false, pure_bind, clos]
      exact ih _
theorem closureFor_eq {scope : Scope} {env : Env} (h : ∀ y ∈ scope.names, y.2 = .free → ∃ c, env.cells.lookup y.1 = some c) : closureFor scope env = pure (clos env scope.names []) := by
  simp only [closureFor]
  have := forIn_clos (env := env) scope.names [] h
  first
    | (rw [this]; rfl)
    | (simp only [this]; rfl)
    | (unfold closureFor; simp_all)
theorem clos_lookup {env : Env} : ∀ (l : List (Str × NameKind)) (cs : List (Str × Addr)) (y : Str) (c : Addr), (∀ z ∈ l, z.2 = .free → ∃ c, env.cells.lookup z.1 = some c) → (clos env l cs).lookup y = some c → cs.lookup y = some c ∨ env.cells.lookup y = some c
  | [], cs, y, c, _, e => .inl e
  | (n, k) :: r, cs, y, c, h, e => by
    unfold clos at e
    have hr := fun z hz => h z (List.mem_cons_of_mem _ hz)
    split at e
    · rename_i hk
      rcases clos_lookup r _ y c hr e with q | q
      · rw [List.lookup_cons] at q
        cases hy : y == n with
        | true =>
          have hy' : y = n := by simpa using hy
          subst hy'
          rw [hy] at q
          obtain ⟨c', ec⟩ := h (y, k) List.mem_cons_self (by simpa using hk)
          simp only [ec, Option.getD_some] at q
          cases q
          exact .inr ec
        | false => rw [hy] at q; exact .inl q
      · exact .inr q
    · exact clos_lookup r cs y c hr e
theorem clos_has {env : Env} : ∀ (l : List (Str × NameKind)) (cs : List (Str × Addr)) (y : Str), ((y, NameKind.free) ∈ l ∨ (cs.lookup y).isSome = true) → ((clos env l cs).lookup y).isSome = true
  | [], cs, y, h => by
    rcases h with h | h
    · cases h
    · exact h
  | (n, k) :: r, cs, y, h => by
    unfold clos
    split
    · rename_i hk
      refine clos_has r _ y ?_
      rcases h with h | h
      · rcases List.mem_cons.mp h with e | e
        · cases e; exact .inr (by simp [List.lookup_cons])
        · exact .inl e
      · refine .inr ?_
        rw [List.lookup_cons]
        cases hy : y == n with
        | true => rfl
        | false => exact h
    · rename_i hk
      refine clos_has r cs y ?_
      rcases h with h | h
      · rcases List.mem_cons.mp h with e | e
        · cases e; exact absurd rfl hk
        · exact .inl e
      · exact .inr h
theorem relabel_lookup {env : Env} {y : Str} : ∀ (l : List (Str × NameKind)), (∀ z ∈ l, z.2 ≠ .cell) →
    (((l.map fun (n, k) => if (k == NameKind.free && env.scope.kind == .function && env.kindOf n == some .cell) then (n, NameKind.cell) else (n, k)).lookup y = some .cell ∨ (l.map fun (n, k) => if (k == NameKind.free && env.scope.kind == .function && env.kindOf n == some .cell) then (n, NameKind.cell) else (n, k)).lookup y = some .free) ↔ l.lookup y = some .free)
  | [], _ => by simp
  | (n, k) :: r, h => by
    have ih := relabel_lookup (env := env) (y := y) r fun z hz => h z (List.mem_cons_of_mem _ hz)
    have hk : k ≠ .cell := h (n, k) List.mem_cons_self
    rw [List.map_cons]
    cases hy : y == n with
    | true =>
      by_cases hc : (k == NameKind.free && env.scope.kind == .function && env.kindOf n == some .cell) = true
      · have hf : k = .free := by
          simp only [Bool.and_eq_true] at hc
          simpa using hc.1.1
        simp only [if_pos hc, List.lookup_cons, hy]
        simp [hf]
      · simp only [if_neg hc, List.lookup_cons, hy]
        simp [hk]
    | false =>
      by_cases hc : (k == NameKind.free && env.scope.kind == .function && env.kindOf n == some .cell) = true
      · simp only [if_pos hc, List.lookup_cons, hy]; exact ih
      · simp only [if_neg hc, List.lookup_cons, hy]; exact ih
/-- the context of a comprehension's block -/
def blk (X : Cx) (scope : Scope) (N : List Str) (C : Addr) (s₀ : Shared) (H₀ : Hp) (ex : List Addr) : Cx :=
  { X with N := N, s₀ := s₀, H₀ := H₀, env := compEnvC scope (clos X.env scope.names []) C X.env, outer := X.stack, stack := X.stack, ex := ex, fn := fun _ => false, pn := [], xe := fun _ _ => False }
/-- what must be seen of the block's text: on the names of the code around, ON its slots -/
structure BlkOk (on : List (Str × NameKind)) (ON : List Str) (scope : Scope) (vars : List Str) (caps : List (Nat × Str)) : Prop where
  kind : scope.kind = .function
  cell : ∀ y ∈ scope.names, y.2 ≠ .cell
  names : ∀ y ∈ scope.names, y.2 = .local → scope.names.lookup y.1 = some .local
  free : ∀ y ∈ scope.names, y.2 = .free → on.lookup y.1 = some .cell ∨ on.lookup y.1 = some .free
  cap : ∀ p ∈ caps, ON[p.1]? = some p.2 ∧ scope.names.lookup p.2 = some .free
section
variable {X : Cx} {pins : List (Addr × Obj)} {σ : St} {H H' : Hp} {s s' : Shared} {scope : Scope} {vars : List Str} {caps : List (Nat × Str)} {fp : List Addr} {C : Addr}
def capV (σ : St) (caps : List (Nat × Str)) : St := caps.map fun p => (σ[p.1]?).getD none
theorem BlkOk.cells (B : BlkOk X.env.scope.names X.N scope vars caps) (I : Inv X pins σ H s) : ∀ y ∈ scope.names, y.2 = .free → ∃ c, X.env.cells.lookup y.1 = some c := fun y hy e => I.ok.has y.1 (B.free y hy e)
theorem blk_ok (B : BlkOk X.env.scope.names X.N scope vars caps) (I : Inv X pins σ H s) (hf : ∀ b ∈ fp, FpOk X pins H b) (hlt : ∀ b ∈ fp, b < s.heap.objs.size) (hC : s.heap.objs.size ≤ C) : (blk X scope (vars ++ caps.map (·.2)) C s H fp).Ok where
  mod := I.ok.mod
  kind := B.kind
  glob := I.ok.glob
  blt := I.ok.blt
  above := hC
  inj := fun x y c e1 e2 => by
    rcases clos_lookup _ _ _ _ (B.cells I) e1 with q1 | q1
    · cases q1
    · rcases clos_lookup _ _ _ _ (B.cells I) e2 with q2 | q2
      · cases q2
      · exact I.ok.inj x y c q1 q2
  has := fun x e => by
    have : scope.names.lookup x = some .free := (relabel_lookup scope.names B.cell).mp e
    have := clos_has (env := X.env) scope.names [] x (.inl (PySem.mem_of_lookup this))
    exact Option.isSome_iff_exists.mp this
  cab := fun x c e => nomatch e
  hd := I.ok.hd
  frames := I.ok.frames
  stk := .inl rfl
  exf := fun b hb => ⟨Nat.ne_of_lt (Nat.lt_of_lt_of_le (hlt b hb) hC), fun x c e => by
    rcases clos_lookup _ _ _ _ (B.cells I) e with q | q
    · cases q
    · exact (hf b hb).2.2.2.2.1 x c q⟩
  bs := I.bs
  bsz := Nat.le_trans I.ok.bsz I.sz
  noex := fun b o e hb => by
    rcases (hf b hb).2.2.2.1 with z | z
    · exact I.ok.noex b o e z
    · exact absurd (Nat.lt_of_lt_of_le (Heap.lt_size e) (Nat.le_trans I.ok.bsz z)) (Nat.lt_irrefl _)
  exfs := fun b hb z => by
    rcases List.mem_cons.mp (I.stkSub b z) with q | q
    · exact (hf b hb).2.1 q
    · exact (hf b hb).2.2.1 q
  funs := I.stack
  frf := I.stkFree
/-- the block is entered -/
theorem blk_inv (B : BlkOk X.env.scope.names X.N scope vars caps) (I : Inv X pins σ H s) (hf : ∀ b ∈ fp, FpOk X pins H b) (hlt : ∀ b ∈ fp, b < s.heap.objs.size) (hC : s.heap.objs.size ≤ C) {h₁ : Heap} {m : Str → Option Value} {tk : Nat} (hns : h₁.Ns C m) (old : ∀ b o, s.heap.get? b = some o → h₁.get? b = some o) :
    Inv (blk X scope (vars ++ caps.map (·.2)) C s H fp) [] (vars.map (fun _ => none) ++ capV σ caps) H { s with heap := h₁, toks := tk } := by
  refine ⟨blk_ok B I hf hlt hC, rfl, I.bare, Un.kept old, ⟨m, hns, fun i x v e1 e2 e3 => ?_⟩, fun x c e => ?_, I.hok.fresh hC, fun x c e => ?_, fun p hp => absurd (show p ∈ ([] : List (Addr × Obj)) from hp) (by simp), I.hok.kept old, ?_⟩
  · have e1 : (vars ++ caps.map (·.2))[i]? = some x := e1
    by_cases hi : i < vars.length
    · rw [List.getElem?_append_left (by simpa using hi), List.getElem?_map] at e2
      cases q : vars[i]? <;> rw [q] at e2 <;> cases e2
    · rw [List.getElem?_append_right (by simpa using hi)] at e1 e2
      simp only [List.length_map] at e2
      unfold capV at e2
      rw [List.getElem?_map] at e1 e2
      cases q : caps[i - vars.length]? with
      | none => rw [q] at e1; cases e1
      | some p =>
        rw [q] at e1 e2
        cases e1
        have hp := List.mem_of_getElem? q
        obtain ⟨g1, g2⟩ := B.cap p hp
        have gf : X.env.scope.names.lookup p.2 = some .cell ∨ X.env.scope.names.lookup p.2 = some .free := B.free (p.2, .free) (PySem.mem_of_lookup g2) rfl
        have ev : σ[p.1]? = some (some v) := by
          have e2 : (σ[p.1]?).getD none = some v := Option.some.inj e2
          cases z : σ[p.1]? with
          | none => rw [z] at e2; cases e2
          | some w => rw [z] at e2; rw [show w = some v from e2]
        obtain ⟨m', _, hl⟩ := I.loc
        obtain ⟨u, r, l⟩ := hl p.1 p.2 v g1 ev (gf.elim (fun z => .inr (.inl z)) fun z => .inr (.inr z))
        refine ⟨u, r, .inr ⟨?_, ?_⟩⟩
        · exact (relabel_lookup scope.names B.cell).mpr g2
        · rcases l with ⟨z, _⟩ | ⟨_, c, ec, hc⟩
          · have z : X.env.scope.names.lookup p.2 = some .local := z
            rcases gf with w | w <;> rw [z] at w <;> cases w
          · obtain ⟨c', q'⟩ := Option.isSome_iff_exists.mp (clos_has (env := X.env) scope.names [] p.2 (.inl (PySem.mem_of_lookup g2)))
            rcases clos_lookup _ _ _ _ (B.cells I) q' with w | w
            · cases w
            · rw [ec] at w
              cases w
              obtain ⟨o, ho, hd⟩ := hc
              exact ⟨c, q', o, old c o ho, hd⟩
  · rcases clos_lookup _ _ _ _ (B.cells I) e with q | q
    · cases q
    · obtain ⟨v, o, ho, hd⟩ := I.cell x c q
      exact ⟨v, o, old c o ho, hd⟩
  · rcases clos_lookup _ _ _ _ (B.cells I) e with q | q
    · cases q
    · exact I.freeC x c q
  · simp [blk, capV]
/-- the block is left: its list is told -/
theorem blk_out (I : Inv X pins σ H s) (hf : ∀ b ∈ fp, FpOk X pins H b) {D : Addr} {s' : Shared} {σ' : St} {N : List Str} {ys : List V} {its : List Value} (hC : s.heap.objs.size ≤ C) (hD : s.heap.objs.size ≤ D) (hDC : D ≠ C)
    (J : Inv (blk X scope N C s H fp) [] σ' H' s') (hD' : H' D = none) (hp : s'.heap.PlainList D its.toArray) (hv : Vals ys its) (hz : ys.length ≤ sizeLine) {h' : Heap} (hs : Heap.SameBut C s'.heap h') :
    Inv X pins σ (upd H' D (.lst ys)) { s' with heap := h' } := by
  have U : Un (frs X.stack) fp H H' s.heap s'.heap := J.base
  have neC : ∀ b o, s.heap.get? b = some o → b ≠ C := fun b o e => Nat.ne_of_lt (Nat.lt_of_lt_of_le (Heap.lt_size e) hC)
  have neD : ∀ b o, s.heap.get? b = some o → b ≠ D := fun b o e => Nat.ne_of_lt (Nat.lt_of_lt_of_le (Heap.lt_size e) hD)
  have mv : ∀ b o, b ≠ C → s'.heap.get? b = some o → h'.get? b = some o := fun b o hb e => hs.extBut b o hb e
  have tD : ∀ b o, H' b = some o → (upd H' D (.lst ys)) b = some o := fun b o e => by rw [upd_ne (ne_of_none e hD')]; exact e
  refine I.call' (s' := { s' with heap := h' }) (ch := fp) J.os ⟨fun b o e n h1 h2 => mv b o (neC b o e) (U.keep b o e n h1 h2), fun b o e n h1 h2 => ?_, fun b o e n h2 => ?_, fun b o e h2 => ?_, fun b xs e => tD _ _ (U.tups b xs e), fun b o xs e => tD _ _ (U.frzs b o xs e), fun b ps e => ?_⟩ (fun b o e => ?_) J.bare
    (fun b hb => ⟨(hf b hb).2.2.2.1, (hf b hb).2.1, (hf b hb).2.2.2.2.1, (hf b hb).2.2.2.2.2⟩)
  · obtain ⟨sl, q⟩ := U.slot b o e n h1 h2
    exact ⟨sl, mv b _ (neC b o e) q⟩
  · rw [upd_ne (neD b o e)]; exact U.free b o e n h2
  · obtain ⟨o', q⟩ := U.there b o e h2
    exact ⟨o', mv b _ (neC b o e) q⟩
  · obtain ⟨more, q⟩ := U.tbls b ps e
    exact ⟨more, tD _ _ q⟩
  · by_cases hb : b = D
    · subst hb
      rw [upd_same] at e
      cases e
      obtain ⟨n, q⟩ := hp
      exact ⟨hz, its, n, hv, mv _ _ hDC q⟩
    · rw [upd_ne hb] at e
      refine (J.hok b o e).stay (fun c v hc q => mv c v ?_ q) (fun c q => tD _ _ q) fun c xs q => tD _ _ q
      intro z
      have fc : H' C = none := J.free
      rcases hc with w | w
      · rw [← w, z, fc] at e; cases e
      · rw [z, fc] at w; cases w
theorem compTurn_go (elt target iter : Expr) (scope : Scope) (pos : Pos) (it acc : Value) (env : Env) :
    compTurn (.ListComp elt [⟨target, iter, [], 0⟩] scope pos) 0 it acc env = (standAt iter.pos >>= fun _ => pyNext it >>= fun r => match r with
      | none => pure (.done .next)
      | some v => letOwnedTupleGo target it v >>= fun _ => assign target env v >>= fun _ =>
        (eval elt env >>= fun x => call (.builtin "list.append") [acc, x] >>= fun _ => pure ()) >>= fun _ =>
          again (.compLoop (.ListComp elt [⟨target, iter, [], 0⟩] scope pos) 0 it acc env)) := by rfl
/-- what is wanted of a comprehension, turn by turn: W the invariant by the turn, a measure, the items so far -/
def KeepS (σ σ' : St) : Prop := σ.length = σ'.length ∧ ∀ (i : Nat) v, σ[i]? = some (some v) → σ'[i]? = some (some v)
def tComp (wi : TI) (g : TG) (te : TE) (vars : List Str) (caps : List (Nat × Str)) : TE := fun σ H Q => wi σ H fun J H1 => ∃ W : Nat → Nat → List V → Hp → Prop, (∃ m, W 0 m [] H1) ∧ ∀ i m ys H, W i m ys H →
  (J.stop i H ∧ ys.length ≤ sizeLine ∧ ∀ p, H p = none → Q (.ref p) (upd H p (.lst ys))) ∨
  (J.go i H ∧ ys.length < sizeLine ∧ ∀ x H', J.yld i H x H' → g x (vars.map (fun _ => none) ++ capV σ caps) H' fun σ2 H2 => KeepS (vars.map (fun _ => none) ++ capV σ caps) σ2 ∧ te σ2 H2 fun y H3 => ∃ m', m' < m ∧ W (i + 1) m' (ys ++ [y]) H3)
theorem codeAny_comp_go {prog : Program} {w : World} {A : Around} {R : Result → Shared → Prop} {s : Shared} {elt target iter : Expr} {scope : Scope} {pos : Pos} {it acc : Value} {env : Env} (I : Nat → Shared → Prop)
    (turn : ∀ n s, I n s → wpAny (model prog w) A (pyNext it) (fun r s₁ => match r with
      | none => R (.ok .next) s₁
      | some v => wpAny (model prog w) A (letOwnedTupleGo target it v) (fun _ s₁ => wpAny (model prog w) A (assign target env v) (fun _ s₂ => wpAny (model prog w) A (eval elt env) (fun x s₃ =>
          wpAny (model prog w) A (call (.builtin "list.append") [acc, x]) (fun _ s₄ => ∃ m, m < n ∧ I m s₄) (fun _ _ => False) s₃) (fun _ _ => False) s₂) (fun _ _ => False) s₁) (fun _ _ => False) s₁) (fun _ _ => False) s)
    (n : Nat) (h : I n s) : codeAny (model prog w) A (.compLoop (.ListComp elt [⟨target, iter, [], 0⟩] scope pos) 0 it acc env) R s := by
  refine codeAny_loop rfl I (fun n s hI => ?_) n h
  show wpAny _ _ ((compTurn (.ListComp elt [⟨target, iter, [], 0⟩] scope pos) 0 it acc env).onRaise (fun x => do noteFrame x env; theTreesLotGoes x)) _ _ s
  refine wpAny_noted ?_
  rw [compTurn_go]
  refine wpAny_bind (wpAny_standAt (wpAny_bind (wpAny_mono (turn n s hI) (fun r s₁ h₁ => ?_) fun _ _ h' => h'.elim)))
  cases r with
  | none => exact wpAny_pure h₁
  | some v =>
    refine wpAny_bind (wpAny_mono h₁ (fun _ s₁ h₁ => ?_) fun _ _ h' => h'.elim)
    exact wpAny_bind (wpAny_mono h₁ (fun _ s₂ h₂ => wpAny_bind (wpAny_bind (wpAny_mono h₂ (fun x s₃ h₃ => wpAny_bind (wpAny_mono h₃
      (fun _ s₄ h₄ => wpAny_pure (wpAny_pure ⟨rfl, h₄⟩)) fun _ _ h' => h'.elim)) fun _ _ h' => h'.elim))) fun _ _ h' => h'.elim)
end
section
variable {X : Cx} {scope : Scope} {vars : List Str} {caps : List (Nat × Str)} {elt tg iter : Expr} {pos : Pos} {wi : TI} {g : TG} {te : TE}
/-- the walk of the block -/
theorem comp_block (B : BlkOk X.env.scope.names X.N scope vars caps) (hc : X.calm = true)
    (hg : ∀ C s₀ H₀ ex, PG (blk X scope (vars ++ caps.map (·.2)) C s₀ H₀ ex) tg g) (he : ∀ C s₀ H₀ ex, PE (blk X scope (vars ++ caps.map (·.2)) C s₀ H₀ ex) elt te)
    {pins : List (Addr × Obj)} {σ : St} {H2 : Hp} {s2 : Shared} {Q : VK} {it : Addr} {fp : List Addr} {tn : Nat → Heap → Prop} {J : It} (I2 : Inv X pins σ H2 s2) (T : Turn X.prog X.w X.K tg J fp it tn) (st2 : tn 0 s2.heap) (f2 : ∀ b ∈ fp, FpOk X pins H2 b)
    {W : Nat → Nat → List V → Hp → Prop} {m0 : Nat} (w0 : W 0 m0 [] H2) (turn : ∀ i m ys H, W i m ys H →
      (J.stop i H ∧ ys.length ≤ sizeLine ∧ ∀ p, H p = none → Q (.ref p) (upd H p (.lst ys))) ∨
      (J.go i H ∧ ys.length < sizeLine ∧ ∀ x H', J.yld i H x H' → g x (vars.map (fun _ => none) ++ capV σ caps) H' fun σ2 H2 => KeepS (vars.map (fun _ => none) ++ capV σ caps) σ2 ∧ te σ2 H2 fun y H3 => ∃ m', m' < m ∧ W (i + 1) m' (ys ++ [y]) H3))
    {RR : Value → Addr → Result → Shared → Prop} {E : Value → Shared → Prop}
    (hRR : ∀ D C s' m, s'.heap.Ns C m → D ≠ C → s2.heap.objs.size ≤ D → s2.heap.objs.size ≤ C → ∀ H', H' C = none → (∀ h', Heap.SameBut C s'.heap h' → Inv X pins σ H' { s' with heap := h' }) → Q (.ref D) H' → RR (.ref D) C (.ok .next) s') :
    wpAny (model X.prog X.w) X.A (newList []) (fun acc s₃ => wpAny (model X.prog X.w) X.A (newFunctionEnv scope X.env.globals (clos X.env scope.names []) [] X.env.qual none .none (some X.env)) (fun cenv s₄ =>
      codeAny (model X.prog X.w) X.A (.compStart (.ListComp elt [⟨tg, iter, [], 0⟩] scope pos) 0 (.ref it) acc { cenv with scope := relabel scope X.env }) (RR acc cenv.locals) s₄) E s₃) E s2 := by
  refine wpAny_newObj_type (wpAny_newFunctionEnv B.cell (by intro y hy; simp at hy) (fun h₁ hns₁ hsb₁ => ?_) B.kind)
  dsimp only at hns₁ hsb₁ ⊢
  generalize hP : s2.heap.push { cls := .type "list", dict := none, data := .seq ([] : List Value).toArray } = HP at hns₁ hsb₁ ⊢
  have hCs : HP.objs.size = s2.heap.objs.size + 1 := by rw [← hP, Heap.size_push]
  have hDC : s2.heap.objs.size ≠ HP.objs.size := by rw [hCs]; exact Nat.ne_of_lt (Nat.lt_succ_self _)
  have hCle : s2.heap.objs.size ≤ HP.objs.size := by rw [hCs]; exact Nat.le_succ _
  have old : ∀ b o, s2.heap.get? b = some o → h₁.get? b = some o := fun b o e => hsb₁.extBut b o (Nat.ne_of_lt (Nat.lt_of_lt_of_le (Heap.lt_size e) hCle)) (Heap.get?_push_of_some _ (hP ▸ Heap.get?_push_of_some _ e))
  have hacc : h₁.PlainList s2.heap.objs.size #[] := ⟨_, hsb₁.extBut _ _ hDC (Heap.get?_push_of_some _ (hP ▸ Heap.get?_push_size _ rfl))⟩
  have flt : ∀ b ∈ fp, b < s2.heap.objs.size := fun b hb => by
    obtain ⟨o, e, _⟩ := T.obj _ _ st2 b hb
    exact Heap.lt_size e
  have st1 : tn 0 h₁ := T.keep _ _ _ st2 fun b _ o e => old b o e
  -- the loop
  have loop : ∀ s3 : Shared, s3 = { s2 with heap := h₁, toks := s2.toks + ([] : List (Str × Value)).length } →
      codeAny (model X.prog X.w) X.A (.compLoop (.ListComp elt [⟨tg, iter, [], 0⟩] scope pos) 0 (.ref it) (.ref s2.heap.objs.size) (compEnvC scope (clos X.env scope.names []) HP.objs.size X.env))
        (RR (.ref s2.heap.objs.size) HP.objs.size) s3 := by
    rintro s3 rfl
    have X' := blk X scope (vars ++ caps.map (·.2)) HP.objs.size s2 H2 fp
    have fpo : ∀ {H' : Hp}, (∀ b ∈ fp, H' b = none) → ∀ b ∈ fp, FpOk (blk X scope (vars ++ caps.map (·.2)) HP.objs.size s2 H2 fp) [] H' b := fun hn b hb => by
      have ok := blk_ok B I2 f2 flt hCle
      exact ⟨hn b hb, (ok.exf b hb).1, ok.exfs b hb, .inl hb, (ok.exf b hb).2, fun p hp => absurd (show p ∈ ([] : List (Addr × Obj)) from hp) (by simp)⟩
    refine codeAny_comp_go (fun n s => ∃ i ys H its, Inv (blk X scope (vars ++ caps.map (·.2)) HP.objs.size s2 H2 fp) [] (vars.map (fun _ => none) ++ capV σ caps) H s ∧ tn i s.heap ∧ (∀ b ∈ fp, H b = none) ∧ s.heap.PlainList s2.heap.objs.size (List.toArray its) ∧ H s2.heap.objs.size = none ∧ Vals ys its ∧ W i n ys H) ?_ m0
      ⟨0, [], H2, [], blk_inv B I2 f2 flt hCle hns₁ old, st1, fun b hb => (f2 b hb).1, hacc, I2.hok.fresh (Nat.le_refl _), .nil, w0⟩
    rintro n s4 ⟨i, ys, H4, its, I4, st4, fr4, pl4, nD4, v4, w4⟩
    obtain ⟨nn, eD⟩ := id pl4
    have DnL : s2.heap.objs.size ≠ (blk X scope (vars ++ caps.map (·.2)) HP.objs.size s2 H2 fp).env.locals := hDC
    have Dfs : s2.heap.objs.size ∉ (blk X scope (vars ++ caps.map (·.2)) HP.objs.size s2 H2 fp).fs := fun z => by
      rcases List.mem_cons.mp (I2.stkSub _ z) with q | q
      · have := I2.lt; rw [← q] at this; exact Nat.lt_irrefl _ this
      · exact I2.nofs (Nat.le_refl _) q
    have Dfp : ∀ b ∈ fp, s2.heap.objs.size ≠ b := fun b hb z => by have := flt b hb; rw [← z] at this; exact Nat.lt_irrefl _ this
    have DnC : ∀ x c, (blk X scope (vars ++ caps.map (·.2)) HP.objs.size s2 H2 fp).env.cells.lookup x = some c → c ≠ s2.heap.objs.size := fun x c e z => by
      rcases clos_lookup _ _ _ _ (B.cells I2) e with q | q
      · cases q
      · obtain ⟨v, o, ho, _⟩ := I2.cell x c q
        have := Heap.lt_size ho
        rw [z] at this
        exact Nat.lt_irrefl _ this
    have pinD : ∀ {σ' : St} {H' : Hp} {s' : Shared}, Inv (blk X scope (vars ++ caps.map (·.2)) HP.objs.size s2 H2 fp) [(s2.heap.objs.size, { cls := .type "list", data := .seq its.toArray nn })] σ' H' s' → s'.heap.PlainList s2.heap.objs.size its.toArray ∧ H' s2.heap.objs.size = none := fun {σ' H' s'} I' => by
      obtain ⟨q1, q2, _⟩ := I'.pin (s2.heap.objs.size, { cls := .type "list", data := .seq its.toArray nn }) (by simp [blk])
      exact ⟨⟨nn, q1⟩, q2⟩
    have I4p : Inv (blk X scope (vars ++ caps.map (·.2)) HP.objs.size s2 H2 fp) [(s2.heap.objs.size, { cls := .type "list", data := .seq its.toArray nn })] (vars.map (fun _ => none) ++ capV σ caps) H4 s4 :=
      I4.pins_of fun p hp => by
        have e : p = (s2.heap.objs.size, { cls := .type "list", data := .seq its.toArray nn }) := by simpa [blk] using hp
        subst e
        exact ⟨eD, nD4, DnL, Dfs, fun v z => by cases z⟩
    have fpo' : ∀ {H' : Hp}, (∀ b ∈ fp, H' b = none) → ∀ b ∈ fp, FpOk (blk X scope (vars ++ caps.map (·.2)) HP.objs.size s2 H2 fp) [(s2.heap.objs.size, { cls := .type "list", data := .seq its.toArray nn })] H' b := fun hn b hb => by
      obtain ⟨q1, q2, q3, q4, q5, _⟩ := fpo hn b hb
      exact ⟨q1, q2, q3, q4, q5, fun p hp => by
        have e : p = (s2.heap.objs.size, { cls := .type "list", data := .seq its.toArray nn }) := by simpa [blk] using hp
        subst e
        exact Dfp b hb⟩
    have unp : ∀ {pl : List (Addr × Obj)} {σ' : St} {H' : Hp} {s' : Shared}, Inv (blk X scope (vars ++ caps.map (·.2)) HP.objs.size s2 H2 fp) pl σ' H' s' → Inv (blk X scope (vars ++ caps.map (·.2)) HP.objs.size s2 H2 fp) [] σ' H' s' := fun {pl σ' H' s'} I' =>
      I'.pins_of fun p hp => absurd (show p ∈ ([] : List (Addr × Obj)) from hp) (by simp)
    rcases turn i n ys H4 w4 with ⟨stop, hz, qn⟩ | ⟨go, hz, step⟩
    · refine thn (T.done (blk X scope (vars ++ caps.map (·.2)) HP.objs.size s2 H2 fp) rfl rfl rfl hc i _ s4 _ H4 _ I4p (fpo' fr4) st4 stop) fun r s5 ⟨hr, I5⟩ => ?_
      subst hr
      obtain ⟨p5, n5⟩ := pinD I5
      obtain ⟨m5, ns5, _⟩ := I5.loc
      refine hRR _ _ s5 m5 ns5 hDC (Nat.le_refl _) hCle _ ?_ (fun h' hs' => blk_out I2 f2 hCle (Nat.le_refl _) hDC (unp I5) n5 p5 v4 hz hs') (qn _ n5)
      rw [upd_ne hDC.symm]
      exact I5.free
    · refine thn (T.item (blk X scope (vars ++ caps.map (·.2)) HP.objs.size s2 H2 fp) rfl rfl rfl hc i _ s4 _ H4 _ I4p (fpo' fr4) st4 go) fun r s5 ⟨u, hr, h5⟩ => ?_
      subst hr
      refine thn h5 fun _ s6 ⟨x, H6, I6, rx, yx, st6, fr6⟩ => ?_
      have I6p := I6.pinned (fpo' fr6) (T.obj _ _ st6)
      refine thn (hg _ _ _ _ _ s6 _ H6 x u _ I6p rx (step x H6 yx)) fun _ s7 ⟨σ7, H7, I7, kp, q7⟩ => ?_
      refine thn (he _ _ _ _ _ s7 σ7 H7 _ I7 q7) fun v s8 ⟨y, H8, I8, ry, m', hm, w8⟩ => ?_
      obtain ⟨p8, n8⟩ := pinD I8.unpinned
      have st8 : tn (i + 1) s8.heap := T.keep _ _ _ st6 fun b hb o e => (I8.pin (b, o) (List.mem_append_right _ (List.mem_append_right _ (mem_pinsAt hb e)))).1
      have fr8 : ∀ b ∈ fp, H8 b = none := fun b hb => by
        obtain ⟨o, e, d⟩ := T.obj _ _ st6 b hb
        exact (I8.pin (b, o) (List.mem_append_right _ (List.mem_append_right _ (mem_pinsAt hb e)))).2.1
      have hl := v4.length
      refine wpAny_list_append_plain p8 (fun h9 p9 sb9 => ⟨m', hm, i + 1, ys ++ [y], H8, its ++ [v], ?_, ?_, fr8, by simpa using p9, n8, v4.append (.cons ry .nil), w8⟩) (by simp; omega)
      · have I9 : Inv (blk X scope (vars ++ caps.map (·.2)) HP.objs.size s2 H2 fp) [] σ7 H8 { s8 with heap := h9, toks := s8.toks } :=
          (unp I8).turned (it := s2.heap.objs.size) (fun b o hb e => sb9.extBut b o hb e) n8 DnL (.inr (Nat.le_refl _)) DnC fun p hp => absurd (show p ∈ ([] : List (Addr × Obj)) from hp) (by simp)
        exact I9.weak kp.1 kp.2
      · exact T.keep _ _ _ st8 fun b hb o e => sb9.extBut b o (Dfp b hb).symm e
  exact codeAny_compStart_list (loop _ rfl) (T.self _ 0 _ _ _ st1 (loop _ rfl))
theorem pe_comp (B : BlkOk X.env.scope.names X.N scope vars caps) (hc : X.calm = true) (hi : PI X tg iter wi)
    (hg : ∀ C s₀ H₀ ex, PG (blk X scope (vars ++ caps.map (·.2)) C s₀ H₀ ex) tg g) (he : ∀ C s₀ H₀ ex, PE (blk X scope (vars ++ caps.map (·.2)) C s₀ H₀ ex) elt te) (hs : ∀ x, foldedSetIterable iter X.env x = pure x := by intro _; rfl) :
    PE X (.ListComp elt [⟨tg, iter, [], 0⟩] scope pos) (tComp wi g te vars caps) := by
  intro pins s σ H Q I h
  rw [eval_ListComp]
  refine wpAny_comprehension_free (use := none) rfl hs (closureFor_eq (B.cells I)) B.kind B.names ?_
  show wpAny _ _ (eval iter X.env) _ _ s
  refine thn (hi pins s σ H _ I h) fun v s1 h1 => thn h1 fun itv s2 h2 => ?_
  obtain ⟨it, fp, tn, J, H2, e, I2, T, st2, f2, W, ⟨m0, w0⟩, turn⟩ := h2
  subst e
  exact comp_block B hc hg he I2 T st2 f2 w0 turn (RR := fun acc C => compPost (model X.prog X.w) X.A X.xe none (EP X pins σ Q) acc C) fun D C s' m ns _ _ _ H' _ k q => ⟨m, ns, fun h' hs' => ⟨.ref D, H', k h' hs', rfl, q⟩⟩
end
/-! ### comprehensions by plain functions -/
def slF : Option Sl → Sl
  | some (.fz d) => .fz d
  | _ => .un
@[simp] theorem slF_fz (d : D) : slF (some (.fz d)) = .fz d := rfl
def capS (δ : Dv) (caps : List (Nat × Str)) : Dv := caps.map fun p => slF δ[p.1]?
def mapO (f : D → Option D) : List D → Option (List D)
  | [] => some []
  | d :: ds => (f d).bind fun e => (mapO f ds).bind fun es => some (e :: es)
def oComp (fi : Dv → Option (List D)) (caps : List (Nat × Str)) (bv : D → Option (List D)) (fe : Dv → Option D) : Dv → Option D := fun δ => (fi δ).bind fun ds => if ds.length ≤ sizeLine then (mapO (fun d => (bv d).bind fun vs => fe (vs.map .fz ++ capS δ caps)) ds).bind fun es => some (.list es) else none
def bv1 : D → Option (List D) := fun d => some [d]
theorem mapO_length {f : D → Option D} : ∀ {ds es : List D}, mapO f ds = some es → es.length = ds.length
  | [], es, h => by cases h; rfl
  | d :: ds, es, h => by
    obtain ⟨e, _, h⟩ := bind_some h
    obtain ⟨es', h2, h⟩ := bind_some h
    cases h
    exact congrArg (· + 1) (mapO_length h2)
theorem mapO_get {f : D → Option D} : ∀ {ds es : List D} {i : Nat} {d : D}, mapO f ds = some es → ds[i]? = some d → ∃ e, f d = some e ∧ es[i]? = some e
  | [], es, i, d, h, q => by simp at q
  | d :: ds, es, i, d', h, q => by
    obtain ⟨e, h1, h⟩ := bind_some h
    obtain ⟨es', h2, h⟩ := bind_some h
    cases h
    cases i with
    | zero => simp at q; subst q; exact ⟨e, h1, rfl⟩
    | succ i => simp at q; obtain ⟨e', g1, g2⟩ := mapO_get (i := i) h2 q; exact ⟨e', g1, by simpa using g2⟩
/-- how a target of the block binds -/
def TgOk (K : Fg) (g : TG) (n : Nat) (bv : D → Option (List D)) : Prop := ∀ (x : V) (Z : Hp) (d : D) (vs : List D) (σc : St) (H : Hp) (R : St → Hp → Prop), Rep K Z x d → Same Z H → bv d = some vs → (∀ us, Reps K Z us vs → us.length = n → R (us.map some ++ σc) H) → g x (List.replicate n none ++ σc) H R
theorem tg_one {K : Fg} : TgOk K (gName 0) 1 bv1 := fun x Z d vs σc H R r zh e k => by
  cases e
  exact k [x] (.cons r .nil) rfl
section
variable {X : Cx} {scope : Scope} {vars : List Str} {caps : List (Nat × Str)} {elt tg iter : Expr} {pos : Pos} {g : TG} {fi : Dv → Option (List D)} {fe : Dv → Option D} {bv : D → Option (List D)}
theorem capV_get {σ : St} {δ : Dv} {K : Fg} {H₀ Z₀ Z H : Hp} (hh : Hold K H₀ Z₀ Z δ σ H) : ∀ (j : Nat) d, (capS δ caps)[j]? = some (.fz d) → ∃ v, (capV σ caps)[j]? = some (some v) ∧ Rep K Z v d := fun j d e => by
  unfold capS at e
  unfold capV
  rw [List.getElem?_map] at e ⊢
  cases q : caps[j]? with
  | none => rw [q] at e; cases e
  | some p =>
    rw [q] at e
    have e : slF δ[p.1]? = .fz d := Option.some.inj e
    cases z : δ[p.1]? with
    | none => rw [z] at e; cases e
    | some sl =>
      rw [z] at e
      cases sl with
      | fz d' =>
        cases e
        obtain ⟨v, g1, g2⟩ := hh.fz p.1 _ z
        exact ⟨v, by show some ((σ[p.1]?).getD none) = _; rw [g1]; rfl, g2⟩
      | un => cases e
      | own _ => cases e
      | fr _ => cases e
theorem capS_ow {δ : Dv} : ∀ (j : Nat) ds, (capS δ caps)[j]? ≠ some (.own ds) := fun j ds e => by
  unfold capS at e
  rw [List.getElem?_map] at e
  cases q : caps[j]? with
  | none => rw [q] at e; cases e
  | some p =>
    rw [q] at e
    have e : slF δ[p.1]? = .own ds := Option.some.inj e
    cases z : δ[p.1]? with
    | none => rw [z] at e; cases e
    | some sl => rw [z] at e; cases sl <;> cases e
theorem capS_fr {δ : Dv} : ∀ (j : Nat) ds, (capS δ caps)[j]? ≠ some (.fr ds) := fun j ds e => by
  unfold capS at e
  rw [List.getElem?_map] at e
  cases q : caps[j]? with
  | none => rw [q] at e; cases e
  | some p =>
    rw [q] at e
    have e : slF δ[p.1]? = .fr ds := Option.some.inj e
    cases z : δ[p.1]? with
    | none => rw [z] at e; cases e
    | some sl => rw [z] at e; cases sl <;> cases e
/-- a block's slots hold -/
theorem blk_hold {σ : St} {δ : Dv} {K : Fg} {H₀ Z₀ Z H : Hp} (hh : Hold K H₀ Z₀ Z δ σ H) {us : List V} {vs : List D} (r : Reps K Z us vs) : Hold K H Z Z (vs.map .fz ++ capS δ caps) (us.map some ++ capV σ caps) H := by
  have hl := r.length
  refine ⟨hh.zh, Same.refl _, Same.refl _, fun _ _ => rfl, by simp [capS, capV, hl], fun i d e => ?_, fun i ds e => ?_, fun i j ds es a _ e => ?_, fun i ds e => ?_, NoF.refl _⟩
  · by_cases hi : i < vs.length
    · rw [List.getElem?_append_left (by simpa using hi), List.getElem?_map] at e
      cases q : vs[i]? with
      | none => rw [q] at e; cases e
      | some d' =>
        rw [q] at e
        cases e
        obtain ⟨v, g1, g2⟩ := r.get q
        exact ⟨v, by rw [List.getElem?_append_left (by simpa [hl] using hi), List.getElem?_map, g1]; rfl, g2⟩
    · rw [List.getElem?_append_right (by simpa using hi)] at e
      obtain ⟨v, g1, g2⟩ := capV_get hh _ d e
      refine ⟨v, ?_, g2⟩
      rw [List.getElem?_append_right (by simpa [hl] using hi)]
      simp only [List.length_map] at g1 ⊢
      rw [hl]; exact g1
  all_goals
    exfalso
    by_cases hi : i < vs.length
    · rw [List.getElem?_append_left (by simpa using hi), List.getElem?_map] at e
      cases q : vs[i]? <;> rw [q] at e <;> cases e
    · rw [List.getElem?_append_right (by simpa using hi)] at e
      first | exact capS_ow _ _ e | exact capS_fr _ _ e
theorem comp_read (tk : TgOk X.K g vars.length bv) {σ : St} {H : Hp} {Q : VK} (h : tV X.K (oComp fi caps bv fe) σ H Q) : tComp (tVI X.K fi) g (tV X.K fe) vars caps σ H Q := by
  obtain ⟨H₀, Z₀, Z, δ, d, hh, e, k⟩ := h
  obtain ⟨ds, e1, e⟩ := bind_some e
  by_cases hz : ds.length ≤ sizeLine
  · rw [if_pos hz] at e
    obtain ⟨es, e2, e⟩ := bind_some e
    cases e
    have le := mapO_length e2
    have hv : vars.map (fun _ => (none : Option V)) = List.replicate vars.length none := by rw [List.map_const']
    refine ⟨H₀, Z₀, Z, δ, ds, hh, e1, fun J Z1 H1 hh1 t1 ok => ?_⟩
    refine ⟨fun i m ys H => m = ds.length - i ∧ i ≤ ds.length ∧ ∃ Zc, Hold X.K H₀ Z₀ Zc δ σ H ∧ Same Z1 Zc ∧ Reps X.K Zc ys (es.take i), ⟨ds.length, by simp, Nat.zero_le _, Z1, hh1, Same.refl _, by simpa using .nil⟩, ?_⟩
    rintro i m ys H2 ⟨rfl, hi2, Zc, hhc, tc, rc⟩
    have zh : Same Z1 H2 := tc.trans hhc.zh
    have ly := rc.length
    rw [List.length_take] at ly
    by_cases hlt : i < ds.length
    · refine .inr ⟨ok.go i H2 zh hlt, by omega, fun x H3 y => ?_⟩
      have ed : ds[i]? = some ds[i] := by simp [hlt]
      obtain ⟨rfl, rx⟩ := ok.yld i H2 x H3 _ zh ed y
      obtain ⟨ei, f1, f2⟩ := mapO_get e2 ed
      obtain ⟨vs, f3, f1⟩ := bind_some f1
      rw [hv]
      refine tk x Zc ds[i] vs (capV σ caps) H3 _ (rx.same tc) hhc.zh f3 fun us ru hn => ⟨⟨by simp [hn], fun j v q => ?_⟩, ?_⟩
      · by_cases hj : j < vars.length
        · rw [List.getElem?_append_left (by simpa using hj), List.getElem?_replicate] at q
          split at q <;> cases q
        · rw [List.getElem?_append_right (by simpa using hj)] at q
          rw [List.getElem?_append_right (by simpa [hn] using hj)]
          simpa [hn] using q
      · refine ⟨H3, Zc, Zc, _, ei, blk_hold hhc ru, f1, fun v Z4 H4 h4 t4 r4 => ⟨ds.length - (i + 1), by omega, rfl, hlt, Z4, hhc.new ⟨t4, h4.h0, h4.zh, h4.zb, h4.nf⟩, tc.trans t4, ?_⟩⟩
        have : es.take (i + 1) = es.take i ++ [ei] := by
          rw [List.take_add_one, f2]; rfl
        rw [this]
        exact (rc.same t4).append (.cons r4 .nil)
    · have hie : i = ds.length := by omega
      subst hie
      refine .inl ⟨ok.stop _ H2 zh (Nat.le_refl _), by omega, fun p hp => ?_⟩
      rw [← le, List.take_length] at rc
      have n := New.add hhc.zh hp (.lst ys)
      exact k _ _ _ (hhc.new n) ((t1.trans tc).trans n.z) (.lst (SqL.of upd_same) (rc.same n.z))
  · rw [if_neg hz] at e; cases e
theorem ev_comp (B : BlkOk X.env.scope.names X.N scope vars caps) (hc : X.calm = true) (hi : IV X tg iter fi) (tk : TgOk X.K g vars.length bv)
    (hg : ∀ C s₀ H₀ ex, PG (blk X scope (vars ++ caps.map (·.2)) C s₀ H₀ ex) tg g) (he : ∀ C s₀ H₀ ex, EV (blk X scope (vars ++ caps.map (·.2)) C s₀ H₀ ex) elt fe) (hs : ∀ x, foldedSetIterable iter X.env x = pure x := by intro _; rfl) :
    EV X (.ListComp elt [⟨tg, iter, [], 0⟩] scope pos) (oComp fi caps bv fe) :=
  PE.imp (pe_comp (te := tV X.K fe) B hc hi hg he hs) fun _ _ _ h => comp_read tk h
end
end VL

set_option Elab.async false
set_option linter.all false
set_option maxRecDepth 100000
set_option maxHeartbeats 4000000
namespace VL
open PySem PySem.Spec PyProof.Rows L2
section
variable {X : Cx} {e : Expr} {es : List Expr} {p pos : Pos} {fs : Dv → Option (List D)}
/-- a def of the text, every argument given -/
theorem ev_def0 {k : Nat} {x : Str} {g : List D → Option D} (C : Cal X.prog X.w X.K X.mg X.base x k g []) (hr : Room k X.A) (hg : Gl X x) (ha : AV X (e :: es) fs) (hdb : (x == ("__debug__" : Str)) = false := by decide) (he : starEach (e :: es) X.env = (false, eval e X.env) :: starEach es X.env := by rfl)
    (hpl : (backTo pos (starEach es X.env)).any (·.1) = false := by rfl) : EV X (.Call (.Name x p) (e :: es) [] pos) (os fs g) := by
  have h := ev_def C hr hg ha hdb he hpl (p := p) (pos := pos)
  have e : (fun as => g (as ++ [])) = g := by funext as; rw [List.append_nil]
  rw [e] at h
  exact h
end
/-- a plain value at the module's top -/
structure TopV (K : Fg) (mg : Str → Option Value) (x : Str) (d : D) : Prop where
  ex : ∃ v u, mg x = some u ∧ RelV v u ∧ ∀ Z, Rep K Z v d
theorem TopV.int {K : Fg} {mg : Str → Option Value} {x : Str} {i : Int} {t : Tok} (hm : mg x = some (.int i t)) : TopV K mg x (.int i) := ⟨.int i, .int i t, hm, ⟨t, rfl⟩, fun _ => .int i⟩
theorem ev_topV {X : Cx} {x : Str} {pos : Pos} {d : D} (T : TopV X.K X.mg x d) (hg : Gl X x) (hd : (x == ("__debug__" : Str)) = false := by decide) : EV X (.Name x pos) (oC d) := by
  obtain ⟨v, u, hm, r, h⟩ := T.ex
  exact ev_c (pe_glob hg hm r hd) h
/-! ### lists of one's own -/
def slO : Option Sl → Option (List D)
  | some (.own (.l ds)) => some ds
  | _ => none
@[simp] theorem slO_ow (ds : List D) : slO (some (.ow ds)) = some ds := rfl
theorem slO_eq {o : Option Sl} {ds : List D} (h : slO o = some ds) : o = some (.ow ds) := by
  cases o with
  | none => cases h
  | some x =>
    cases x with
    | own c =>
      cases c with
      | l es => cases h; rfl
      | d es => cases h
    | un => cases h
    | fz d => cases h
    | fr _ => cases h
@[simp] def sOwn (i : Nat) (fs : Dv → Option (List D)) : Sf := fun δ => (fs δ).bind fun ds => if ds.length ≤ sizeLine then some (.nx, δ.set i (.ow ds)) else none
/-- x[k] of one's own -/
@[simp] def oIxO (i : Nat) (f : Dv → Option D) : Dv → Option D := fun δ => (slO δ[i]?).bind fun ds => (f δ).bind fun k => ixD (.list ds) k
@[simp] def oLenO (i : Nat) : Dv → Option D := fun δ => (slO δ[i]?).bind fun ds => some (.int ds.length)
def putD (ds : List D) (k v : D) : Option (List D) := match k with
  | .int j => (ixN ds.length j).map fun n => ds.set n v
  | _ => none
@[simp] theorem putD_int (ds : List D) (j : Int) (v : D) : putD ds (.int j) v = (ixN ds.length j).map fun n => ds.set n v := rfl
/-- x[k] = v -/
@[simp] def sPut (i : Nat) (fk fv : Dv → Option D) : Sf := fun δ => (fv δ).bind fun v => (fk δ).bind fun k => (slO δ[i]?).bind fun ds => (putD ds k v).bind fun ds' => some (.nx, δ.set i (.ow ds'))
/-- x.append(v) -/
@[simp] def sApp (i : Nat) (f : Dv → Option D) : Sf := fun δ => (f δ).bind fun v => (slO δ[i]?).bind fun ds => if ds.length < sizeLine then some (.nx, δ.set i (.ow (ds ++ [v]))) else none
section
variable {X : Cx} {e b : Expr} {es : List Expr} {p pos tpos apos : Pos} {fs : Dv → Option (List D)} {f fk fv : Dv → Option D}
theorem sv_own (i : Nat) {x : Str} {pos' : Pos} (hN : X.N.Nodup) (ha : AV X es fs) (hi : X.N[i]? = some x := by rfl) (hx : Loc X.env.scope x := by first | exact Or.inl rfl | exact Or.inr rfl) (hs : swapsWith (.List es p) (some (.Name x pos')) pos.line X.env = pure false := by rfl)
    (hf : X.fn x = true ∨ X.env.scope.names.lookup x = some .local := by first | exact .inl rfl | exact .inr rfl | assumption) : SV X (.Assign [.Name x pos'] (.List es p) pos) (sOwn i fs) :=
  PS.imp (ps_set hN hi hx (pe_lst ha) hs hf) fun D σ H h => by
    obtain ⟨H₀, Z₀, Z, δ, r, hh, e, k⟩ := h
    obtain ⟨ds, e1, e⟩ := bind_some e
    by_cases hl : ds.length ≤ sizeLine
    · rw [if_pos hl] at e
      cases e
      exact ⟨H₀, Z₀, Z, δ, ds, hh, e1, fun vs Z1 H1 hh1 t1 r1 => ⟨by rw [r1.length]; exact hl, fun p hp => k _ _ Z1 (hh1.setO hp r1) t1⟩⟩
    · rw [if_neg hl] at e; cases e
theorem ow_at {K : Fg} {H₀ Z₀ Z : Hp} {δ : Dv} {σ : St} {H : Hp} (hh : Hold K H₀ Z₀ Z δ σ H) {i : Nat} {ds : List D} (h : slO δ[i]? = some ds) : ∃ a xs, σ[i]? = some (some (V.ref a)) ∧ H a = some (.lst xs) ∧ Reps K Z xs ds := by
  obtain ⟨a, xs, h1, _, _, h4, h5⟩ := hh.ow i ds (slO_eq h)
  exact ⟨a, xs, h1, h4, h5⟩
theorem ev_lenO (i : Nat) {x : Str} {p2 : Pos} (hg : Gl X "len") (hm : X.mg "len" = none) (hN : X.N[i]? = some x := by rfl) (hv : Vis X.env.scope x := by first | exact Or.inl rfl | exact Or.inr (Or.inl rfl) | exact Or.inr (Or.inr rfl)) (hd : (x == ("__debug__" : Str)) = false := by decide) (hcd : (x == ("__classdict__" : Str)) = false := by decide)
    (he : starEach [.Name x p2] X.env = (false, eval (.Name x p2) X.env) :: starEach [] X.env := by rfl) (hpl : (backTo pos (starEach [] X.env)).any (·.1) = false := by rfl) : EV X (.Call (.Name "len" p) [.Name x p2] [] pos) (oLenO i) :=
  PE.imp (pe_callB call_len hg hm PySem.boot_len (pa_cons (pe_var hN hv hd hcd) pa_nil he) (by decide) (by decide) he hpl) fun σ H Q h => by
    obtain ⟨H₀, Z₀, Z, δ, d, hh, e, k⟩ := h
    obtain ⟨ds, e1, e⟩ := bind_some e
    cases e
    obtain ⟨a, xs, h1, h4, h5⟩ := ow_at hh e1
    exact ⟨_, h1, _, _, rfl, .inl ⟨xs, SqL.of h4, rfl⟩, k _ Z H hh (Same.refl _) (by rw [h5.length]; exact .int _)⟩
theorem sv_app (i : Nat) {x : Str} {cpos : Pos} (hv' : EV X e f) (hN : X.N[i]? = some x := by rfl) (hv : Vis X.env.scope x := by first | exact Or.inl rfl | exact Or.inr (Or.inl rfl) | exact Or.inr (Or.inr rfl)) (hd : (x == ("__debug__" : Str)) = false := by decide) (hcd : (x == ("__classdict__" : Str)) = false := by decide)
    (hbase : attributeBase (.Name x p) "append" X.env (eval (.Name x p) X.env) = eval (.Name x p) X.env := by rfl)
    (hfew : ((backTo cpos (starEach [e] X.env)).all (fun x => !x.1) && (backToKw cpos (keywordEach [] X.env)).all (fun x => x.1.isSome)
      && decide ([e].length + ([] : List Keyword).length + (if ([] : List Keyword).isEmpty then 0 else 1) < 30)) = true := by rfl)
    (hline : (apos.endLine == cpos.line) = true := by rfl) (hs : starEach [e] X.env = (false, eval e X.env) :: starEach [] X.env := by rfl) (hplain : (backTo cpos (starEach [] X.env)).any (·.1) = false := by rfl)
    (hsw : swapsWith (.Call (.Attribute (.Name x p) "append" apos) [e] [] cpos) none pos.line X.env = pure false := by rfl) : SV X (.Expr (.Call (.Attribute (.Name x p) "append" apos) [e] [] cpos) pos) (sApp i f) :=
  PS.imp (ps_expr (pe_bm PySem.F.plainAttrs_list PySem.F.slot_list_append PySem.F.type_list_append mt_append (pe_var hN hv hd hcd) (pa_cons hv' pa_nil hs) hbase hfew hline hs hplain) hsw) fun D σ H h => by
    obtain ⟨H₀, Z₀, Z, δ, r, hh, e, k⟩ := h
    obtain ⟨v, e1, e⟩ := bind_some e
    obtain ⟨ds, e2, e⟩ := bind_some e
    by_cases hl : ds.length < sizeLine
    · rw [if_pos hl] at e
      cases e
      obtain ⟨a, xs, h1, h4, h5⟩ := ow_at hh e2
      refine ⟨_, h1, .inl ⟨rfl, xs, SqL.of h4⟩, H₀, Z₀, Z, δ, v, hh, e1, fun w Z1 H1 hh1 t1 r1 => ?_⟩
      obtain ⟨a', xs', g1, g4, g5⟩ := ow_at hh1 e2
      rw [h1] at g1
      cases g1
      exact ⟨a, xs', w, rfl, rfl, g4, by rw [g5.length]; exact hl, k σ _ Z1 (hh1.chg (xs := xs') (slO_eq e2) h1 (g5.append (.cons r1 .nil))) t1⟩
    · rw [if_neg hl] at e; cases e
end
end VL

set_option Elab.async false
set_option linter.all false
set_option maxRecDepth 100000
set_option maxHeartbeats 4000000
namespace VL
open PySem PySem.Spec PyProof.Rows L2
/-! ### comprehensions with a test -/
section
def tCompI (wi : TI) (g : TG) (tt : TT) (te : TE) (vars : List Str) (caps : List (Nat × Str)) : TE := fun σ H Q => wi σ H fun J H1 => ∃ W : Nat → Nat → List V → Hp → Prop, (∃ m, W 0 m [] H1) ∧ ∀ i m ys H, W i m ys H →
  (J.stop i H ∧ ys.length ≤ sizeLine ∧ ∀ p, H p = none → Q (.ref p) (upd H p (.lst ys))) ∨
  (J.go i H ∧ ys.length < sizeLine ∧ ∀ x H', J.yld i H x H' → g x (vars.map (fun _ => none) ++ capV σ caps) H' fun σ2 H2 => KeepS (vars.map (fun _ => none) ++ capV σ caps) σ2 ∧ tt σ2 H2 fun b H3 => if b = true then te σ2 H3 fun y H4 => ∃ m', m' < m ∧ W (i + 1) m' (ys ++ [y]) H4 else ∃ m', m' < m ∧ W (i + 1) m' ys H3)
theorem codeAny_comp_goI {prog : Program} {w : World} {A : Around} {R : Result → Shared → Prop} {s : Shared} {elt target iter cnd : Expr} {scope : Scope} {pos : Pos} {it acc : Value} {env : Env} (I : Nat → Shared → Prop)
    (turn : ∀ n s, I n s → wpAny (model prog w) A (pyNext it) (fun r s₁ => match r with
      | none => R (.ok .next) s₁
      | some v => wpAny (model prog w) A (letOwnedTupleGo target it v) (fun _ s₁ => wpAny (model prog w) A (assign target env v) (fun _ s₂ => wpAny (model prog w) A (isTrue cnd env (eval cnd env)) (fun ok s₂ => if ok = true then wpAny (model prog w) A (eval elt env) (fun x s₃ =>
          wpAny (model prog w) A (call (.builtin "list.append") [acc, x]) (fun _ s₄ => ∃ m, m < n ∧ I m s₄) (fun _ _ => False) s₃) (fun _ _ => False) s₂ else ∃ m, m < n ∧ I m s₂) (fun _ _ => False) s₂) (fun _ _ => False) s₁) (fun _ _ => False) s₁) (fun _ _ => False) s)
    (n : Nat) (h : I n s) : codeAny (model prog w) A (.compLoop (.ListComp elt [⟨target, iter, [cnd], 0⟩] scope pos) 0 it acc env) R s := by
  refine codeAny_loop rfl I (fun n s hI => ?_) n h
  show wpAny _ _ ((compTurn (.ListComp elt [⟨target, iter, [cnd], 0⟩] scope pos) 0 it acc env).onRaise (fun x => do noteFrame x env; theTreesLotGoes x)) _ _ s
  refine wpAny_noted ?_
  rw [compTurn_list]
  refine wpAny_bind (wpAny_standAt (wpAny_bind (wpAny_mono (turn n s hI) (fun r s₁ h₁ => ?_) fun _ _ h' => h'.elim)))
  cases r with
  | none => exact wpAny_pure h₁
  | some v =>
    refine wpAny_bind (wpAny_mono h₁ (fun _ s₁ h₁ => ?_) fun _ _ h' => h'.elim)
    refine wpAny_bind (wpAny_mono h₁ (fun _ s₂ h₂ => ?_) fun _ _ h' => h'.elim)
    refine wpAny_bind (wpAny_tests_one (wpAny_mono h₂ (fun okb s₃ h₃ => ?_) fun _ _ h' => h'.elim))
    cases okb with
    | false => exact wpAny_pure ⟨rfl, h₃⟩
    | true => exact wpAny_bind (wpAny_bind (wpAny_mono h₃ (fun x s₄ h₄ => wpAny_bind (wpAny_mono h₄ (fun _ s₅ h₅ => wpAny_pure (wpAny_pure ⟨rfl, h₅⟩)) fun _ _ h' => h'.elim)) fun _ _ h' => h'.elim))
end
section
variable {X : Cx} {scope : Scope} {vars : List Str} {caps : List (Nat × Str)} {elt tg iter cnd : Expr} {pos : Pos} {wi : TI} {g : TG} {tt : TT} {te : TE}
/-- the walk of the block -/
theorem comp_blockI {Cm : Cx → Prop} (B : BlkOk X.env.scope.names X.N scope vars caps)
    (hg : ∀ C s₀ H₀ ex, PG (blk X scope (vars ++ caps.map (·.2)) C s₀ H₀ ex) tg g) (hb : ∀ C s₀ H₀ ex, PT (blk X scope (vars ++ caps.map (·.2)) C s₀ H₀ ex) cnd tt) (he : ∀ C s₀ H₀ ex, PE (blk X scope (vars ++ caps.map (·.2)) C s₀ H₀ ex) elt te)
    {pins : List (Addr × Obj)} {σ : St} {H2 : Hp} {s2 : Shared} {Q : VK} {it : Addr} {fp : List Addr} {tn : Nat → Heap → Prop} {J : It} (I2 : Inv X pins σ H2 s2) (T : TurnG Cm X.prog X.w X.K tg J fp it tn) (st2 : tn 0 s2.heap) (f2 : ∀ b ∈ fp, FpOk X pins H2 b) (hc : ∀ C, Cm (blk X scope (vars ++ caps.map (·.2)) C s2 H2 fp))
    {W : Nat → Nat → List V → Hp → Prop} {m0 : Nat} (w0 : W 0 m0 [] H2) (turn : ∀ i m ys H, W i m ys H →
      (J.stop i H ∧ ys.length ≤ sizeLine ∧ ∀ p, H p = none → Q (.ref p) (upd H p (.lst ys))) ∨
      (J.go i H ∧ ys.length < sizeLine ∧ ∀ x H', J.yld i H x H' → g x (vars.map (fun _ => none) ++ capV σ caps) H' fun σ2 H2 => KeepS (vars.map (fun _ => none) ++ capV σ caps) σ2 ∧ tt σ2 H2 fun b H3 => if b = true then te σ2 H3 fun y H4 => ∃ m', m' < m ∧ W (i + 1) m' (ys ++ [y]) H4 else ∃ m', m' < m ∧ W (i + 1) m' ys H3))
    {RR : Value → Addr → Result → Shared → Prop} {E : Value → Shared → Prop}
    (hRR : ∀ D C s' m, s'.heap.Ns C m → D ≠ C → s2.heap.objs.size ≤ D → s2.heap.objs.size ≤ C → ∀ H', H' C = none → (∀ h', Heap.SameBut C s'.heap h' → Inv X pins σ H' { s' with heap := h' }) → Q (.ref D) H' → RR (.ref D) C (.ok .next) s') :
    wpAny (model X.prog X.w) X.A (newList []) (fun acc s₃ => wpAny (model X.prog X.w) X.A (newFunctionEnv scope X.env.globals (clos X.env scope.names []) [] X.env.qual none .none (some X.env)) (fun cenv s₄ =>
      codeAny (model X.prog X.w) X.A (.compStart (.ListComp elt [⟨tg, iter, [cnd], 0⟩] scope pos) 0 (.ref it) acc { cenv with scope := relabel scope X.env }) (RR acc cenv.locals) s₄) E s₃) E s2 := by
  refine wpAny_newObj_type (wpAny_newFunctionEnv B.cell (by intro y hy; simp at hy) (fun h₁ hns₁ hsb₁ => ?_) B.kind)
  dsimp only at hns₁ hsb₁ ⊢
  generalize hP : s2.heap.push { cls := .type "list", dict := none, data := .seq ([] : List Value).toArray } = HP at hns₁ hsb₁ ⊢
  have hCs : HP.objs.size = s2.heap.objs.size + 1 := by rw [← hP, Heap.size_push]
  have hDC : s2.heap.objs.size ≠ HP.objs.size := by rw [hCs]; exact Nat.ne_of_lt (Nat.lt_succ_self _)
  have hCle : s2.heap.objs.size ≤ HP.objs.size := by rw [hCs]; exact Nat.le_succ _
  have old : ∀ b o, s2.heap.get? b = some o → h₁.get? b = some o := fun b o e => hsb₁.extBut b o (Nat.ne_of_lt (Nat.lt_of_lt_of_le (Heap.lt_size e) hCle)) (Heap.get?_push_of_some _ (hP ▸ Heap.get?_push_of_some _ e))
  have hacc : h₁.PlainList s2.heap.objs.size #[] := ⟨_, hsb₁.extBut _ _ hDC (Heap.get?_push_of_some _ (hP ▸ Heap.get?_push_size _ rfl))⟩
  have flt : ∀ b ∈ fp, b < s2.heap.objs.size := fun b hb => by
    obtain ⟨o, e, _⟩ := T.obj _ _ st2 b hb
    exact Heap.lt_size e
  have st1 : tn 0 h₁ := T.keep _ _ _ st2 fun b _ o e => old b o e
  -- the loop
  have loop : ∀ s3 : Shared, s3 = { s2 with heap := h₁, toks := s2.toks + ([] : List (Str × Value)).length } →
      codeAny (model X.prog X.w) X.A (.compLoop (.ListComp elt [⟨tg, iter, [cnd], 0⟩] scope pos) 0 (.ref it) (.ref s2.heap.objs.size) (compEnvC scope (clos X.env scope.names []) HP.objs.size X.env))
        (RR (.ref s2.heap.objs.size) HP.objs.size) s3 := by
    rintro s3 rfl
    have X' := blk X scope (vars ++ caps.map (·.2)) HP.objs.size s2 H2 fp
    have fpo : ∀ {H' : Hp}, (∀ b ∈ fp, H' b = none) → ∀ b ∈ fp, FpOk (blk X scope (vars ++ caps.map (·.2)) HP.objs.size s2 H2 fp) [] H' b := fun hn b hb => by
      have ok := blk_ok B I2 f2 flt hCle
      exact ⟨hn b hb, (ok.exf b hb).1, ok.exfs b hb, .inl hb, (ok.exf b hb).2, fun p hp => absurd (show p ∈ ([] : List (Addr × Obj)) from hp) (by simp)⟩
    refine codeAny_comp_goI (fun n s => ∃ i ys H its, Inv (blk X scope (vars ++ caps.map (·.2)) HP.objs.size s2 H2 fp) [] (vars.map (fun _ => none) ++ capV σ caps) H s ∧ tn i s.heap ∧ (∀ b ∈ fp, H b = none) ∧ s.heap.PlainList s2.heap.objs.size (List.toArray its) ∧ H s2.heap.objs.size = none ∧ Vals ys its ∧ W i n ys H) ?_ m0
      ⟨0, [], H2, [], blk_inv B I2 f2 flt hCle hns₁ old, st1, fun b hb => (f2 b hb).1, hacc, I2.hok.fresh (Nat.le_refl _), .nil, w0⟩
    rintro n s4 ⟨i, ys, H4, its, I4, st4, fr4, pl4, nD4, v4, w4⟩
    obtain ⟨nn, eD⟩ := id pl4
    have DnL : s2.heap.objs.size ≠ (blk X scope (vars ++ caps.map (·.2)) HP.objs.size s2 H2 fp).env.locals := hDC
    have Dfs : s2.heap.objs.size ∉ (blk X scope (vars ++ caps.map (·.2)) HP.objs.size s2 H2 fp).fs := fun z => by
      rcases List.mem_cons.mp (I2.stkSub _ z) with q | q
      · have := I2.lt; rw [← q] at this; exact Nat.lt_irrefl _ this
      · exact I2.nofs (Nat.le_refl _) q
    have Dfp : ∀ b ∈ fp, s2.heap.objs.size ≠ b := fun b hb z => by have := flt b hb; rw [← z] at this; exact Nat.lt_irrefl _ this
    have DnC : ∀ x c, (blk X scope (vars ++ caps.map (·.2)) HP.objs.size s2 H2 fp).env.cells.lookup x = some c → c ≠ s2.heap.objs.size := fun x c e z => by
      rcases clos_lookup _ _ _ _ (B.cells I2) e with q | q
      · cases q
      · obtain ⟨v, o, ho, _⟩ := I2.cell x c q
        have := Heap.lt_size ho
        rw [z] at this
        exact Nat.lt_irrefl _ this
    have pinD : ∀ {σ' : St} {H' : Hp} {s' : Shared}, Inv (blk X scope (vars ++ caps.map (·.2)) HP.objs.size s2 H2 fp) [(s2.heap.objs.size, { cls := .type "list", data := .seq its.toArray nn })] σ' H' s' → s'.heap.PlainList s2.heap.objs.size its.toArray ∧ H' s2.heap.objs.size = none := fun {σ' H' s'} I' => by
      obtain ⟨q1, q2, _⟩ := I'.pin (s2.heap.objs.size, { cls := .type "list", data := .seq its.toArray nn }) (by simp [blk])
      exact ⟨⟨nn, q1⟩, q2⟩
    have I4p : Inv (blk X scope (vars ++ caps.map (·.2)) HP.objs.size s2 H2 fp) [(s2.heap.objs.size, { cls := .type "list", data := .seq its.toArray nn })] (vars.map (fun _ => none) ++ capV σ caps) H4 s4 :=
      I4.pins_of fun p hp => by
        have e : p = (s2.heap.objs.size, { cls := .type "list", data := .seq its.toArray nn }) := by simpa [blk] using hp
        subst e
        exact ⟨eD, nD4, DnL, Dfs, fun v z => by cases z⟩
    have fpo' : ∀ {H' : Hp}, (∀ b ∈ fp, H' b = none) → ∀ b ∈ fp, FpOk (blk X scope (vars ++ caps.map (·.2)) HP.objs.size s2 H2 fp) [(s2.heap.objs.size, { cls := .type "list", data := .seq its.toArray nn })] H' b := fun hn b hb => by
      obtain ⟨q1, q2, q3, q4, q5, _⟩ := fpo hn b hb
      exact ⟨q1, q2, q3, q4, q5, fun p hp => by
        have e : p = (s2.heap.objs.size, { cls := .type "list", data := .seq its.toArray nn }) := by simpa [blk] using hp
        subst e
        exact Dfp b hb⟩
    have unp : ∀ {pl : List (Addr × Obj)} {σ' : St} {H' : Hp} {s' : Shared}, Inv (blk X scope (vars ++ caps.map (·.2)) HP.objs.size s2 H2 fp) pl σ' H' s' → Inv (blk X scope (vars ++ caps.map (·.2)) HP.objs.size s2 H2 fp) [] σ' H' s' := fun {pl σ' H' s'} I' =>
      I'.pins_of fun p hp => absurd (show p ∈ ([] : List (Addr × Obj)) from hp) (by simp)
    rcases turn i n ys H4 w4 with ⟨stop, hz, qn⟩ | ⟨go, hz, step⟩
    · refine thn (T.done (blk X scope (vars ++ caps.map (·.2)) HP.objs.size s2 H2 fp) rfl rfl rfl (hc _) i _ s4 _ H4 _ I4p (fpo' fr4) st4 stop) fun r s5 ⟨hr, I5⟩ => ?_
      subst hr
      obtain ⟨p5, n5⟩ := pinD I5
      obtain ⟨m5, ns5, _⟩ := I5.loc
      refine hRR _ _ s5 m5 ns5 hDC (Nat.le_refl _) hCle _ ?_ (fun h' hs' => blk_out I2 f2 hCle (Nat.le_refl _) hDC (unp I5) n5 p5 v4 hz hs') (qn _ n5)
      rw [upd_ne hDC.symm]
      exact I5.free
    · refine thn (T.item (blk X scope (vars ++ caps.map (·.2)) HP.objs.size s2 H2 fp) rfl rfl rfl (hc _) i _ s4 _ H4 _ I4p (fpo' fr4) st4 go) fun r s5 ⟨u, hr, h5⟩ => ?_
      subst hr
      refine thn h5 fun _ s6 ⟨x, H6, I6, rx, yx, st6, fr6⟩ => ?_
      have I6p := I6.pinned (fpo' fr6) (T.obj _ _ st6)
      refine thn (hg _ _ _ _ _ s6 _ H6 x u _ I6p rx (step x H6 yx)) fun _ s7 ⟨σ7, H7, I7, kp, q7⟩ => ?_
      refine thn (hb _ _ _ _ _ s7 σ7 H7 _ I7 q7) fun okb s7' q7' => ?_
      obtain ⟨H7', I7', q7'⟩ := q7'
      cases okb with
      | false =>
        obtain ⟨m', hm, w8⟩ := q7'
        rw [if_neg (by decide)]
        obtain ⟨p8, n8⟩ := pinD I7'.unpinned
        have st8 : tn (i + 1) s7'.heap := T.keep _ _ _ st6 fun b hb o e => (I7'.pin (b, o) (List.mem_append_right _ (List.mem_append_right _ (mem_pinsAt hb e)))).1
        have fr8 : ∀ b ∈ fp, H7' b = none := fun b hb => by
          obtain ⟨o, e, d⟩ := T.obj _ _ st6 b hb
          exact (I7'.pin (b, o) (List.mem_append_right _ (List.mem_append_right _ (mem_pinsAt hb e)))).2.1
        exact ⟨m', hm, i + 1, ys, H7', its, (unp I7').weak kp.1 kp.2, st8, fr8, p8, n8, v4, w8⟩
      | true =>
      rw [if_pos rfl]
      rw [if_pos rfl] at q7'
      refine thn (he _ _ _ _ _ s7' σ7 H7' _ I7' q7') fun v s8 ⟨y, H8, I8, ry, m', hm, w8⟩ => ?_
      obtain ⟨p8, n8⟩ := pinD I8.unpinned
      have st8 : tn (i + 1) s8.heap := T.keep _ _ _ st6 fun b hb o e => (I8.pin (b, o) (List.mem_append_right _ (List.mem_append_right _ (mem_pinsAt hb e)))).1
      have fr8 : ∀ b ∈ fp, H8 b = none := fun b hb => by
        obtain ⟨o, e, d⟩ := T.obj _ _ st6 b hb
        exact (I8.pin (b, o) (List.mem_append_right _ (List.mem_append_right _ (mem_pinsAt hb e)))).2.1
      have hl := v4.length
      refine wpAny_list_append_plain p8 (fun h9 p9 sb9 => ⟨m', hm, i + 1, ys ++ [y], H8, its ++ [v], ?_, ?_, fr8, by simpa using p9, n8, v4.append (.cons ry .nil), w8⟩) (by simp; omega)
      · have I9 : Inv (blk X scope (vars ++ caps.map (·.2)) HP.objs.size s2 H2 fp) [] σ7 H8 { s8 with heap := h9, toks := s8.toks } :=
          (unp I8).turned (it := s2.heap.objs.size) (fun b o hb e => sb9.extBut b o hb e) n8 DnL (.inr (Nat.le_refl _)) DnC fun p hp => absurd (show p ∈ ([] : List (Addr × Obj)) from hp) (by simp)
        exact I9.weak kp.1 kp.2
      · exact T.keep _ _ _ st8 fun b hb o e => sb9.extBut b o (Dfp b hb).symm e
  exact codeAny_compStart_list (loop _ rfl) (T.self _ 0 _ _ _ st1 (loop _ rfl))
theorem pe_compI (B : BlkOk X.env.scope.names X.N scope vars caps) (hc : X.calm = true) (hi : PI X tg iter wi)
    (hg : ∀ C s₀ H₀ ex, PG (blk X scope (vars ++ caps.map (·.2)) C s₀ H₀ ex) tg g) (hb : ∀ C s₀ H₀ ex, PT (blk X scope (vars ++ caps.map (·.2)) C s₀ H₀ ex) cnd tt) (he : ∀ C s₀ H₀ ex, PE (blk X scope (vars ++ caps.map (·.2)) C s₀ H₀ ex) elt te) (hs : ∀ x, foldedSetIterable iter X.env x = pure x := by intro _; rfl) :
    PE X (.ListComp elt [⟨tg, iter, [cnd], 0⟩] scope pos) (tCompI wi g tt te vars caps) := by
  intro pins s σ H Q I h
  rw [eval_ListComp]
  refine wpAny_comprehension_free (use := none) rfl hs (closureFor_eq (B.cells I)) B.kind B.names ?_
  show wpAny _ _ (eval iter X.env) _ _ s
  refine thn (hi pins s σ H _ I h) fun v s1 h1 => thn h1 fun itv s2 h2 => ?_
  obtain ⟨it, fp, tn, J, H2, e, I2, T, st2, f2, W, ⟨m0, w0⟩, turn⟩ := h2
  subst e
  exact comp_blockI (Cm := fun X => X.calm = true) B hg hb he I2 T st2 f2 (fun _ => hc) w0 turn (RR := fun acc C => compPost (model X.prog X.w) X.A X.xe none (EP X pins σ Q) acc C) fun D C s' m ns _ _ _ H' _ k q => ⟨m, ns, fun h' hs' => ⟨.ref D, H', k h' hs', rfl, q⟩⟩
end
/-! ### by plain functions -/
def filO (t : D → Option Bool) (f : D → Option D) : List D → Option (List D)
  | [] => some []
  | d :: ds => (t d).bind fun b => if b = true then (f d).bind fun e => (filO t f ds).bind fun es => some (e :: es) else filO t f ds
@[simp] theorem filO_nil {t : D → Option Bool} {f : D → Option D} : filO t f [] = some [] := rfl
def oCompI (fi : Dv → Option (List D)) (caps : List (Nat × Str)) (bv : D → Option (List D)) (ft : Dv → Option Bool) (fe : Dv → Option D) : Dv → Option D := fun δ => (fi δ).bind fun ds => if ds.length ≤ sizeLine then (filO (fun d => (bv d).bind fun vs => ft (vs.map .fz ++ capS δ caps)) (fun d => (bv d).bind fun vs => fe (vs.map .fz ++ capS δ caps)) ds).bind fun es => some (.list es) else none
theorem filO_snoc {t : D → Option Bool} {f : D → Option D} : ∀ {ds es : List D} {i : Nat} {d : D}, filO t f ds = some es → ds[i]? = some d → ∃ xs, filO t f (ds.take i) = some xs ∧ ∃ b, t d = some b ∧ (b = false → filO t f (ds.take (i + 1)) = some xs) ∧ (b = true → ∃ e, f d = some e ∧ filO t f (ds.take (i + 1)) = some (xs ++ [e]))
  | [], es, i, d, h, q => by simp at q
  | d :: ds, es, i, d', h, q => by
    obtain ⟨b, h1, h⟩ := bind_some h
    cases i with
    | zero =>
      simp at q; subst q
      refine ⟨[], rfl, b, h1, fun hb => ?_, fun hb => ?_⟩
      · subst hb; simp [filO, h1]
      · subst hb
        rw [if_pos rfl] at h
        obtain ⟨e, h2, h⟩ := bind_some h
        exact ⟨e, h2, by simp [filO, h1, h2]⟩
    | succ i =>
      simp at q
      cases b with
      | false =>
        rw [if_neg (by decide)] at h
        obtain ⟨xs, g1, b', g2, g3, g4⟩ := filO_snoc (i := i) h q
        refine ⟨xs, by simp [filO, h1, g1], b', g2, fun hb => by simpa [filO, h1] using g3 hb, fun hb => ?_⟩
        obtain ⟨e, k1, k2⟩ := g4 hb
        exact ⟨e, k1, by simpa [filO, h1] using k2⟩
      | true =>
        rw [if_pos rfl] at h
        obtain ⟨e0, h2, h⟩ := bind_some h
        obtain ⟨es', h3, h⟩ := bind_some h
        obtain ⟨xs, g1, b', g2, g3, g4⟩ := filO_snoc (i := i) h3 q
        refine ⟨e0 :: xs, by simp [filO, h1, h2, g1], b', g2, fun hb => by simp [filO, h1, h2, g3 hb], fun hb => ?_⟩
        obtain ⟨e, k1, k2⟩ := g4 hb
        exact ⟨e, k1, by simp [filO, h1, h2, k2]⟩
theorem filO_le {t : D → Option Bool} {f : D → Option D} : ∀ {ds es : List D}, filO t f ds = some es → es.length ≤ ds.length
  | [], es, h => by cases h; exact Nat.le_refl _
  | d :: ds, es, h => by
    obtain ⟨b, h1, h⟩ := bind_some h
    cases b with
    | false => rw [if_neg (by decide)] at h; exact Nat.le_succ_of_le (filO_le h)
    | true =>
      rw [if_pos rfl] at h
      obtain ⟨e0, h2, h⟩ := bind_some h
      obtain ⟨es', h3, h⟩ := bind_some h
      cases h
      exact Nat.succ_le_succ (filO_le h3)
section
variable {X : Cx} {scope : Scope} {vars : List Str} {caps : List (Nat × Str)} {elt tg iter cnd : Expr} {pos : Pos} {g : TG} {fi : Dv → Option (List D)} {ft : Dv → Option Bool} {fe : Dv → Option D} {bv : D → Option (List D)}
theorem comp_readI (tk : TgOk X.K g vars.length bv) {σ : St} {H : Hp} {Q : VK} (h : tV X.K (oCompI fi caps bv ft fe) σ H Q) : tCompI (tVI X.K fi) g (tVT X.K ft) (tV X.K fe) vars caps σ H Q := by
  obtain ⟨H₀, Z₀, Z, δ, d, hh, e, k⟩ := h
  obtain ⟨ds, e1, e⟩ := bind_some e
  by_cases hz : ds.length ≤ sizeLine
  · rw [if_pos hz] at e
    obtain ⟨es, e2, e⟩ := bind_some e
    cases e
    have hv : vars.map (fun _ => (none : Option V)) = List.replicate vars.length none := by rw [List.map_const']
    refine ⟨H₀, Z₀, Z, δ, ds, hh, e1, fun J Z1 H1 hh1 t1 ok => ?_⟩
    refine ⟨fun i m ys H => m = ds.length - i ∧ i ≤ ds.length ∧ ∃ Zc xs, Hold X.K H₀ Z₀ Zc δ σ H ∧ Same Z1 Zc ∧ filO (fun d => (bv d).bind fun vs => ft (vs.map .fz ++ capS δ caps)) (fun d => (bv d).bind fun vs => fe (vs.map .fz ++ capS δ caps)) (ds.take i) = some xs ∧ Reps X.K Zc ys xs, ⟨ds.length, by simp, Nat.zero_le _, Z1, [], hh1, Same.refl _, rfl, .nil⟩, ?_⟩
    rintro i m ys H2 ⟨rfl, hi2, Zc, xs, hhc, tc, fx, rc⟩
    have zh : Same Z1 H2 := tc.trans hhc.zh
    have ly := rc.length
    have lx := filO_le fx
    rw [List.length_take] at lx
    by_cases hlt : i < ds.length
    · refine .inr ⟨ok.go i H2 zh hlt, by omega, fun x H3 y => ?_⟩
      have ed : ds[i]? = some ds[i] := by simp [hlt]
      obtain ⟨rfl, rx⟩ := ok.yld i H2 x H3 _ zh ed y
      obtain ⟨xs', f0, b, fb, ff, ftr⟩ := filO_snoc e2 ed
      rw [fx] at f0
      cases f0
      obtain ⟨vs, f3, f1⟩ := bind_some fb
      rw [hv]
      refine tk x Zc ds[i] vs (capV σ caps) H3 _ (rx.same tc) hhc.zh f3 fun us ru hn => ⟨⟨by simp [hn], fun j v q => ?_⟩, ?_⟩
      · by_cases hj : j < vars.length
        · rw [List.getElem?_append_left (by simpa using hj), List.getElem?_replicate] at q
          split at q <;> cases q
        · rw [List.getElem?_append_right (by simpa using hj)] at q
          rw [List.getElem?_append_right (by simpa [hn] using hj)]
          simpa [hn] using q
      · refine ⟨H3, Zc, Zc, _, b, blk_hold hhc ru, f1, fun Z3 H3' h3 t3 => ?_⟩
        have hh3 := hhc.new ⟨t3, h3.h0, h3.zh, h3.zb, h3.nf⟩
        cases b with
        | false =>
          dsimp only
          rw [if_neg (by decide)]
          exact ⟨ds.length - (i + 1), by omega, rfl, hlt, Z3, xs, hh3, tc.trans t3, ff rfl, rc.same t3⟩
        | true =>
          dsimp only
          rw [if_pos rfl]
          obtain ⟨ei, f2, f4⟩ := ftr rfl
          rw [f3] at f2
          refine ⟨H3, Zc, Z3, _, ei, h3, f2, fun v Z4 H4 h4 t4 r4 => ⟨ds.length - (i + 1), by omega, rfl, hlt, Z4, xs ++ [ei], ?_, (tc.trans t3).trans t4, f4, ((rc.same t3).same t4).append (.cons r4 .nil)⟩⟩
          exact hhc.new ⟨t3.trans t4, h4.h0, h4.zh, h4.zb, h4.nf⟩
    · have hie : i = ds.length := by omega
      subst hie
      refine .inl ⟨ok.stop _ H2 zh (Nat.le_refl _), by omega, fun p hp => ?_⟩
      rw [List.take_length, e2] at fx
      cases fx
      have n := New.add hhc.zh hp (.lst ys)
      exact k _ _ _ (hhc.new n) ((t1.trans tc).trans n.z) (.lst (SqL.of upd_same) (rc.same n.z))
  · rw [if_neg hz] at e; cases e
theorem ev_compI (B : BlkOk X.env.scope.names X.N scope vars caps) (hc : X.calm = true) (hi : IV X tg iter fi) (tk : TgOk X.K g vars.length bv)
    (hg : ∀ C s₀ H₀ ex, PG (blk X scope (vars ++ caps.map (·.2)) C s₀ H₀ ex) tg g) (hb : ∀ C s₀ H₀ ex, TV (blk X scope (vars ++ caps.map (·.2)) C s₀ H₀ ex) cnd ft) (he : ∀ C s₀ H₀ ex, EV (blk X scope (vars ++ caps.map (·.2)) C s₀ H₀ ex) elt fe) (hs : ∀ x, foldedSetIterable iter X.env x = pure x := by intro _; rfl) :
    EV X (.ListComp elt [⟨tg, iter, [cnd], 0⟩] scope pos) (oCompI fi caps bv ft fe) :=
  PE.imp (pe_compI (tt := tVT X.K ft) (te := tV X.K fe) B hc hi hg hb he hs) fun _ _ _ h => comp_readI tk h
end
end VL

set_option Elab.async false
set_option linter.all false
set_option maxRecDepth 100000
set_option maxHeartbeats 4000000
namespace VL
open PySem PySem.Spec PyProof.Rows L2
/-! ### a op b op c -/
def oCh (f1 f2 f3 : Dv → Option D) (g g' : D → D → Option D) : Dv → Option D := fun δ => (f1 δ).bind fun a => (f2 δ).bind fun b => (g a b).bind fun r => (asB r).bind fun k => if k = true then (f3 δ).bind fun c => g' b c else some (.bool false)
section
variable {X : Cx} {a b c : Expr} {pos : Pos} {f1 f2 f3 : Dv → Option D}
theorem chain_read {K : Fg} {g g' : D → D → Option D} {σ : St} {H : Hp} {Q : VK} (h : tV K (oCh f1 f2 f3 g g') σ H Q) : tChain (rD K g) (rD K g') (tV K f1) (tV K f2) (tV K f3) σ H Q := by
  obtain ⟨H₀, Z₀, Z, δ, d, hh, e, k⟩ := h
  obtain ⟨x, e1, ea⟩ := bind_some e
  obtain ⟨y, e2, eb⟩ := bind_some ea
  obtain ⟨r, e3, ec⟩ := bind_some eb
  obtain ⟨kk, e4, ed⟩ := bind_some ec
  clear e ea eb ec
  have er := asB_eq e4
  subst er
  refine ⟨H₀, Z₀, Z, δ, x, hh, e1, fun v1 Z1 H1 hh1 s1 r1 => ⟨H₀, Z₀, Z1, δ, y, hh1, e2, fun v2 Z2 H2 hh2 s2 r2 => ?_⟩⟩
  refine ⟨Z2, x, y, _, hh2.zh, r1.same s2, r2, e3, fun v3 Z3 H3 n r3 => ⟨kk, r3.bl_eq, ?_⟩⟩
  cases kk with
  | true =>
    rw [if_pos rfl] at ed ⊢
    obtain ⟨z, e5, e⟩ := bind_some ed
    refine ⟨H₀, Z₀, Z3, δ, z, hh2.new n, e5, fun v4 Z4 H4 hh4 s4 r4 => ⟨Z4, y, z, d, hh4.zh, (r2.same n.z).same s4, r4, e, fun v5 Z5 H5 n5 r5 => ?_⟩⟩
    exact k v5 Z5 H5 (hh4.new n5) ((((s1.trans s2).trans n.z).trans s4).trans n5.z) r5
  | false =>
    rw [if_neg (by decide)] at ed ⊢
    cases ed
    exact k _ Z3 H3 (hh2.new n) ((s1.trans s2).trans n.z) (.bl _)
theorem tv_chain {op op' : CmpOp} {g g' : D → D → Option D} (ho : OpR X (compareOp op) (rD X.K g)) (ho' : OpR X (compareOp op') (rD X.K g')) (ha : EV X a f1) (hb : EV X b f2) (hc : EV X c f3)
    (hm : lastMarks [op, op'] [b, c] = false := by with_unfolding_all rfl) : TV X (.Compare a [op, op'] [b, c] pos) (ob (oCh f1 f2 f3 g g')) :=
  PT.imp (pt_chain ho ho' ha hb hc hm) fun _ _ _ h => chain_read (toB h)
end
/-! ### in, not in: flat items -/
def flD : D → Bool
  | .none => true
  | .bool _ => true
  | .int _ => true
  | .str _ => true
  | _ => false
def inL (x : D) (ds : List D) : Bool := ds.any fun y => PyData.eqv y x
def inD (neg : Bool) : D → D → Option D := fun a b => (itsD b).bind fun ds => if flD a = true ∧ ds.all flD = true then some (.bool (if neg = true then !inL a ds else inL a ds)) else none
theorem Rep.flat {K : Fg} {Z : Hp} {v : V} {d : D} (r : Rep K Z v d) : flatV v = flD d := by cases r <;> rfl
theorem Rep.eqF {K : Fg} {Z : Hp} {v u : V} {d e : D} (r : Rep K Z v d) (q : Rep K Z u e) (h1 : flD d = true) (h2 : flD e = true) : eqV v u = PyData.eqv d e := by
  cases r <;> first | (cases q <;> first | rfl | cases h2) | cases h1
theorem Reps.allF {K : Fg} {Z : Hp} : ∀ {vs : List V} {ds : List D}, Reps K Z vs ds → vs.all flatV = ds.all flD
  | _, _, .nil => rfl
  | _, _, .cons r t => by rw [List.all_cons, List.all_cons, r.flat, t.allF]
theorem Reps.inF {K : Fg} {Z : Hp} {x : V} {a : D} (q : Rep K Z x a) (h : flD a = true) : ∀ {vs : List V} {ds : List D}, Reps K Z vs ds → ds.all flD = true → inV x vs = inL a ds
  | _, _, .nil, _ => rfl
  | _, _, .cons r t, f => by
    rw [List.all_cons, Bool.and_eq_true] at f
    show (eqV _ x || inV x _) = (PyData.eqv _ a || inL a _)
    rw [r.eqF q f.1 h, t.inF q h f.2]
theorem in_read {K : Fg} {neg : Bool} {x y : V} {H : Hp} {Q : VK} (h : rD K (inD neg) x y H Q) : rIn K neg x y H Q := by
  obtain ⟨Z, a, b, d, zh, ra, rb, e, k⟩ := h
  obtain ⟨ds, e1, e⟩ := bind_some e
  by_cases c : flD a = true ∧ ds.all flD = true
  · rw [if_pos c] at e
    cases e
    have go : ∀ (xs : List V), Reps K Z xs ds → (∃ p, y = .ref p ∧ (SqL K H p xs ∨ SqT K H p xs)) → rIn K neg x y H Q := fun xs r ⟨p, ey, hq⟩ => by
      refine ⟨p, xs, ey, hq, by rw [ra.flat]; exact c.1, by rw [r.allF]; exact c.2, ?_⟩
      have := r.inF ra c.1 c.2
      rw [this]
      exact k _ Z H (New.refl zh) (.bl _)
    cases rb with
    | lst h q => cases e1; exact go _ q ⟨_, rfl, .inl (SqL.same h zh)⟩
    | tup h q => cases e1; exact go _ q ⟨_, rfl, .inr (SqT.same h zh)⟩
    | _ => cases e1
  · rw [if_neg c] at e; cases e
theorem d_in {X : Cx} : OpR X (compareOp .In) (rD X.K (inD false)) := OpR.imp op_in_seq fun _ _ _ _ h => in_read h
/-! ### targets that are tuples -/
def gT : List (D → Dv → Option Dv) → List D → Dv → Option Dv
  | [], [], δ => some δ
  | g :: gs, d :: ds, δ => (g d δ).bind fun δ1 => gT gs ds δ1
  | _, _, _ => none
def gTu (gs : List (D → Dv → Option Dv)) : D → Dv → Option Dv
  | .tuple ds, δ => gT gs ds δ
  | _, _ => none
@[simp] theorem gT_nil (δ : Dv) : gT [] [] δ = some δ := rfl
@[simp] theorem gT_cons (g : D → Dv → Option Dv) (gs : List (D → Dv → Option Dv)) (d : D) (ds : List D) (δ : Dv) : gT (g :: gs) (d :: ds) δ = (g d δ).bind fun δ1 => gT gs ds δ1 := rfl
@[simp] theorem gTu_tup (gs : List (D → Dv → Option Dv)) (ds : List D) (δ : Dv) : gTu gs (.tuple ds) δ = gT gs ds δ := rfl
section
variable {X : Cx} {pos : Pos} {e : Expr} {es : List Expr} {g : D → Dv → Option Dv} {gs : List (D → Dv → Option Dv)}
end
/-! ### a block's target that is a tuple of names -/
/-! ### while -/
theorem loop_step {g : D → Dv → Option Dv} {b : Sf} {d : D} {ds : List D} {δ δ1 δ2 : Dv} (h1 : g d δ = some δ1) (h2 : b δ1 = some (.nx, δ2)) : loop g b (d :: ds) δ = loop g b ds δ2 := by
  show ((g d δ).bind fun δ1 => _) = _
  rw [h1, Option.bind_some, h2]; rfl
/-! ### a def that calls itself -/
theorem bv_no {X : Cx} {ss : List Stmt} : BV X ss (fun _ => none) := fun pins s σ H D I h => by
  obtain ⟨_, _, _, _, _, _, e, _⟩ := h
  cases e
end VL

set_option Elab.async false
set_option linter.all false
set_option maxRecDepth 100000
set_option maxHeartbeats 4000000
namespace VL
open PySem PySem.Spec PyProof.Rows L2
/-! ### an expression whose value is a list of one's own -/
def tO (K : Fg) (f : Dv → Option (List D)) : TE := fun σ H Q => ∃ H₀ Z₀ Z δ ds, Hold K H₀ Z₀ Z δ σ H ∧ f δ = some ds ∧ ∀ p vs Z' H', Hold K H₀ Z₀ Z' δ σ H' → Same Z Z' → H' p = none → Reps K Z' vs ds → Q (.ref p) (upd H' p (.lst vs))
def EO (X : Cx) (e : Expr) (f : Dv → Option (List D)) : Prop := PE X e (tO X.K f)
/-- the items of a list -/
def oLi (f : Dv → Option D) : Dv → Option (List D) := fun δ => (f δ).bind lstI
@[simp] def sOwnE (i : Nat) (f : Dv → Option (List D)) : Sf := fun δ => (f δ).bind fun ds => some (.nx, δ.set i (.ow ds))
section
variable {X : Cx} {e : Expr} {es : List Expr} {p pos : Pos} {f : Dv → Option (List D)} {fs : Dv → Option (List D)}
theorem own_read {K : Fg} {D : Ends} {i : Nat} {σ : St} {H : Hp} (h : tVS K (sOwnE i f) D σ H) : tO K f σ H fun v H1 => D.nx (σ.set i (some v)) H1 := by
  obtain ⟨H₀, Z₀, Z, δ, r, hh, e, k⟩ := h
  obtain ⟨ds, e1, e⟩ := bind_some e
  cases e
  exact ⟨H₀, Z₀, Z, δ, ds, hh, e1, fun p vs Z1 H1 hh1 t1 hp r1 => k _ _ Z1 (hh1.setO hp r1) t1⟩
theorem sv_ownE (i : Nat) {x : Str} {pos' : Pos} (hN : X.N.Nodup) (ha : EO X e f) (hi : X.N[i]? = some x := by rfl) (hx : Loc X.env.scope x := by first | exact Or.inl rfl | exact Or.inr rfl) (hs : swapsWith e (some (.Name x pos')) pos.line X.env = pure false := by rfl)
    (hf : X.fn x = true ∨ X.env.scope.names.lookup x = some .local := by first | exact .inl rfl | exact .inr rfl | assumption) : SV X (.Assign [.Name x pos'] e pos) (sOwnE i f) :=
  PS.imp (ps_set hN hi hx ha hs hf) fun D σ H h => own_read h
end
section
variable {X : Cx} {scope : Scope} {vars : List Str} {caps : List (Nat × Str)} {elt tg iter cnd : Expr} {pos : Pos} {g : TG} {fi : Dv → Option (List D)} {ft : Dv → Option Bool} {fe : Dv → Option D} {bv : D → Option (List D)}
end
/-! ### evaluation without the dead ways -/
def seqK (t : Sf) : Fl × Dv → Option (Fl × Dv)
  | (.nx, δ) => t δ
  | r => some r
@[simp] theorem seqK_nx (t : Sf) (δ : Dv) : seqK t (.nx, δ) = t δ := rfl
@[simp] theorem seqK_rt (t : Sf) (d : D) (δ : Dv) : seqK t (.rt d, δ) = some (.rt d, δ) := rfl
@[simp] theorem seqK_bk (t : Sf) (δ : Dv) : seqK t (.bk, δ) = some (.bk, δ) := rfl
@[simp] theorem seqK_ct (t : Sf) (δ : Dv) : seqK t (.ct, δ) = some (.ct, δ) := rfl
def ifK (u w : Sf) (δ : Dv) : Bool → Option (Fl × Dv)
  | true => u δ
  | false => w δ
@[simp] theorem ifK_t (u w : Sf) (δ : Dv) : ifK u w δ true = u δ := rfl
@[simp] theorem ifK_f (u w : Sf) (δ : Dv) : ifK u w δ false = w δ := rfl
theorem sSeq_k (s t : Sf) (δ : Dv) : sSeq s t δ = (s δ).bind (seqK t) := by
  unfold sSeq seqK
  congr 1
theorem sIf_k (t : Dv → Option Bool) (u w : Sf) (δ : Dv) : sIf t u w δ = (t δ).bind (ifK u w δ) := by
  unfold sIf
  congr 1
  funext c
  cases c <;> rfl
end VL

set_option Elab.async false
set_option linter.all false
set_option maxRecDepth 100000
set_option maxHeartbeats 4000000
namespace VL
open PySem PySem.Spec PyProof.Rows L2
/-! ### all, any, sum of a list; reversed; raise; extend -/
/-- list(reversed(x)) -/
def revLD : D → Option D
  | .list xs => some (.list xs.reverse)
  | _ => none
@[simp] theorem revLD_list (xs : List D) : revLD (.list xs) = some (.list xs.reverse) := rfl
/-- for .. in reversed(x) -/
def revI : D → Option (List D)
  | .list xs => some xs.reverse
  | .tuple xs => some xs.reverse
  | _ => none
@[simp] theorem revI_list (xs : List D) : revI (.list xs) = some xs.reverse := rfl
@[simp] theorem revI_tuple (xs : List D) : revI (.tuple xs) = some xs.reverse := rfl
@[simp] def sNo : Sf := fun _ => none
/-- x.extend(v) -/
@[simp] def sExt (i : Nat) (f : Dv → Option D) : Sf := fun δ => (f δ).bind fun v => (itsD v).bind fun es => (slO δ[i]?).bind fun ds => if ds.length + es.length ≤ sizeLine then some (.nx, δ.set i (.ow (ds ++ es))) else none

section
variable {X : Cx} {e : Expr} {es : List Expr} {p pos tpos apos : Pos} {f : Dv → Option D} {st : Stmt}
theorem sv_no {st : Stmt} : SV X st sNo := fun pins s σ H D I h => by
  obtain ⟨_, _, _, _, _, _, e, _⟩ := h
  cases e
end
end VL

set_option Elab.async false
set_option linter.all false
set_option maxRecDepth 100000
set_option maxHeartbeats 4000000
namespace VL
open PySem PySem.Spec PyProof.Rows L2
/-! ### list(reversed(a list)) -/
section
variable {prog : Program} {w : World} {A : Around} {s : Shared} {R : Result → Shared → Prop}
variable {I : Addr} {fp wr : List Addr} {G : Array GenState → Array GenState → Prop} {n : Nat} {P : Nat → Value → Prop} {St : Nat → Shared → Prop}
end
section
variable {prog : Program} {w : World} {A : Around} {E : Value → Shared → Prop} {s : Shared}
variable {I : Addr} {fp wr : List Addr} {G : Array GenState → Array GenState → Prop} {n : Nat} {P : Nat → Value → Prop} {St : Nat → Shared → Prop}
end
section
variable {X : Cx} {e : Expr} {p p2 pos pos2 : Pos} {te : TE} {f : Dv → Option D}
end
end VL

set_option Elab.async false
set_option linter.all false
set_option maxRecDepth 100000
set_option maxHeartbeats 4000000
namespace VL
open PySem PySem.Spec PyProof.Rows L2
section
variable {prog : Program} {w : World} {A : Around} {E : Value → Shared → Prop} {s : Shared}
/-! the walk -/
end
/-! ### for x in reversed(a tuple) -/
def revT : D → Option (List D)
  | .tuple xs => some xs.reverse
  | _ => none
@[simp] theorem revT_tuple (xs : List D) : revT (.tuple xs) = some xs.reverse := rfl
section
variable {X : Cx} {tg e : Expr} {p pos : Pos} {te : TE} {f : Dv → Option D}
end
end VL

set_option Elab.async false
set_option linter.all false
set_option maxRecDepth 100000
set_option maxHeartbeats 4000000
namespace VL
open PySem PySem.Spec PyProof.Rows L2
/-! ### an exception that was raised while none was handled: its context stays None -/
def F2 (h : Heap) (e : Addr) (dx : Option Addr := none) : Prop := ∃ oe vs, h.get? e = some oe ∧ oe.data = .fields vs ∧ vs[2]? = some .none ∧ oe.dict = dx
def FlyX (base : Heap) (l : List Env) (e : Addr) (cls a0 : Value) (h : Heap) (dx : Option Addr := none) : Prop := Heap.FlyingW base l e cls a0 h ∧ F2 h e dx
def HeldX (base : Heap) (l : List Env) (e : Addr) (cls a0 : Value) (L : Addr) (h : Heap) (dx : Option Addr := none) : Prop := Heap.HeldW base l e cls a0 L h ∧ F2 h e dx
/-- where a mark of the way is put: what is there behind it -/
structure Put (l : List Env) (e T : Addr) (oe : Obj) (fl : Value) (h h' : Heap) : Prop where
  new : h.get? T = none
  ex : h'.get? e = some (oe.mapFields (·.setIfInBounds 1 (.ref T)))
  tb : ∃ oT ts, h'.get? T = some oT ∧ oT.data = .fields ts ∧ ts[3]? = some fl
  keep : ∀ b o, b ≠ e → b ∉ frs l → h.get? b = some o → h'.get? b = some o
  slot : ∀ b o, b ≠ e → h.get? b = some o → ∃ sl, h'.get? b = some { o with slots := sl }
theorem dict_mapF (o : Obj) (f : Array Value → Array Value) : (o.mapFields f).dict = o.dict := by obtain ⟨a, b, c, d⟩ := o; cases c <;> rfl
section
variable {M : Model} {A : Around} {E : Value → Shared → Prop} {s : Shared} {dx : Option Addr}
theorem put_entry {base : Heap} {env : Env} {outer : List Env} {L e : Addr} {oe : Obj} {vs : Array Value} {head : Value} {nx : Bool} {Q : Unit → Shared → Prop}
    (hfr : A.frames = some (env :: outer)) (hl : s.heap.FunFrames base (env :: outer)) (hf : env.frame = some L) (he : s.heap.get? e = some oe) (hd : oe.data = .fields vs) (hsz : 1 < vs.size)
    (h : ∀ h' T, Put (env :: outer) e T oe (rawInt L) s.heap h' → Q () { s with heap := h' }) :
    wpAny M A (do let a ← frameOf env; let pl ← entryPlaceOf L nx; let b ← EntryCells.newEntry head a .none (rawInt L) .none pl; setField (.ref e) 1 b) Q E s := by
  have hene : e ∉ frs (env :: outer) := fun hm => by
    obtain ⟨_, o, ho, hnf⟩ := hl.mem hm
    rw [he] at ho; cases ho; exact hnf vs hd
  refine wpAny_bind (wpAny_frameOf_fun hfr hl hf fun h₁ hs₁ => wpAny_bind (wpAny_entryPlaceOf fun pl hpl => ?_))
  unfold EntryCells.newEntry newFields
  refine wpAny_bind (wpAny_newObj_type ?_ (hpl.sizeOk5 _ _ _ _ _))
  have he₁ : h₁.get? e = some oe := (hs₁.2.1 e hene).trans he
  have nT : s.heap.get? h₁.objs.size = none := by
    cases q : s.heap.get? h₁.objs.size with
    | none => rfl
    | some o =>
      obtain ⟨sl, q2⟩ := hs₁.2.2 _ o q
      exact absurd (Heap.lt_size q2) (Nat.lt_irrefl _)
  refine wpAny_setField (Heap.get?_push_of_some _ he₁) hd hsz (h _ h₁.objs.size ⟨nT, ?_, ?_, fun b o hb hbf q => ?_, fun b o hb q => ?_⟩)
  · exact Heap.get?_update_self _ (Heap.get?_push_of_some _ he₁) (Obj.isFreed_of_fields (Obj.data_mapFields hd _))
  · refine ⟨_, _, (Heap.get?_update_other _ _ (Nat.ne_of_lt (Heap.lt_size he₁))).trans (Heap.get?_push_size h₁ rfl), rfl, ?_⟩
    first | (simp; done) | (rcases hpl with rfl | ⟨_, _, _, _, _, _, _, rfl⟩ <;> simp)
  · rw [Heap.get?_update_other _ _ (Ne.symm hb)]
    exact Heap.get?_push_of_some _ ((hs₁.2.1 b hbf).trans q)
  · obtain ⟨sl, q2⟩ := hs₁.2.2 b o q
    exact ⟨sl, by rw [Heap.get?_update_other _ _ (Ne.symm hb)]; exact Heap.get?_push_of_some _ q2⟩
/-- behind such a mark -/
theorem Put.flies {base h h' : Heap} {l : List Env} {e T : Addr} {oe : Obj} {vs : Array Value} {fl a0 : Value} (p : Put l e T oe fl h h') (hkb : base.StaysIn h) (hl : h.FunFrames base l) (hen : base.get? e = none) (he : h.get? e = some oe) (hd : oe.data = .fields vs) (h0 : vs[0]? = some a0) (h2 : vs[2]? = some .none) :
    base.StaysIn h' ∧ h'.FunFrames base l ∧ h'.TracedAtW base e oe.cls a0 fl ∧ F2 h' e oe.dict ∧ h.UpToSlots h' := by
  have hsz : 2 < vs.size := (Array.getElem?_eq_some_iff.mp h2).1
  have hd3 := Obj.data_mapFields hd (·.setIfInBounds 1 (Value.ref T))
  have hTe : T ≠ e := fun z => by subst z; rw [p.new] at he; cases he
  obtain ⟨oT, ts, q1, q2, q3⟩ := p.tb
  have ne : ∀ b o, h.get? b = some o → (∀ ws, o.data ≠ .fields ws) → b ≠ e := fun b o hb hnf z => by subst z; rw [he] at hb; cases hb; exact hnf _ hd
  have nT : base.get? T = none := by
    cases q : base.get? T with
    | none => rfl
    | some o => have := hkb _ _ q; rw [p.new] at this; cases this
  refine ⟨fun b o hb => p.keep b o (fun z => by subst z; rw [hen] at hb; cases hb) (fun z => ?_) (hkb b o hb), hl.of_keeps fun b o hb hnf => ?_, ⟨_, _, T, oT, ts, p.ex, ⟨Obj.cls_mapFields _ _, by rw [Array.getElem?_setIfInBounds_ne (by decide)]; exact h0⟩, hd3, by rw [Array.getElem?_setIfInBounds_self, if_pos (by omega)], nT, hTe, q1, q2, q3⟩, ⟨_, _, p.ex, hd3, by rw [Array.getElem?_setIfInBounds_ne (by decide)]; exact h2, dict_mapF _ _⟩, fun b o hb hnf => p.slot b o (ne b o hb hnf) hb⟩
  · rw [(hl.mem z).1] at hb; cases hb
  · obtain ⟨sl, q⟩ := p.slot b o (ne b o hb hnf) hb
    exact ⟨_, q, rfl⟩
theorem flight_no {base : Heap} {l : List Env} {e : Addr} {cls a0 fl : Value} {Q : Unit → Shared → Prop} (hkb : base.StaysIn s.heap) (hl : s.heap.FunFrames base l) (ht : s.heap.TracedAtW base e cls a0 fl) (h2 : F2 s.heap e dx)
    (h : ∀ h', base.StaysIn h' → h'.FunFrames base l → h'.TracedW base e cls a0 → F2 h' e dx → s.heap.UpToSlots h' → Q () { s with heap := h' }) : wpAny M A (setFlight (.ref e) none) Q E s := by
  obtain ⟨oe, vs, T, oT, ts, he, hcls, hd, h1, hnT, hTe, hT, hdT, h3⟩ := ht
  have hsz3 : 3 < ts.size := (Array.getElem?_eq_some_iff.mp h3).1
  have other : ∀ b, b ≠ T → (s.heap.update T (Obj.mapFields (·.setIfInBounds 3 ((none : Option Addr).elim Value.none fun f => rawInt f)))).get? b = s.heap.get? b := fun b hb => Heap.get?_update_other _ _ (Ne.symm hb)
  have noR : ∀ b o, s.heap.get? b = some o → (∀ ws, o.data ≠ .fields ws) → b ≠ T := fun b o hb hnf q => by
    subst q; rw [hT] at hb; cases hb; exact hnf _ hdT
  unfold setFlight
  refine wpAny_bind (wpAny_field he hd h1 ?_)
  rw [if_pos (show (Value.ref T != Value.none) = true from by simp)]
  refine wpAny_setField hT hdT hsz3 (h _ (fun b o hb => (other b fun q => by subst q; rw [hnT] at hb; cases hb).trans (hkb b o hb)) (hl.of_keeps fun b o hb hnf => ⟨o, (other b (noR b o hb hnf)).trans hb, rfl⟩) ?_ ?_ fun b o hb hnf => ⟨o.slots, (other b (noR b o hb hnf)).trans hb⟩)
  · exact ⟨oe, vs, T, _, _, (other e (Ne.symm hTe)).trans he, hcls, hd, h1, hnT, hTe, Heap.get?_update_self _ hT (Obj.isFreed_of_fields (Obj.data_mapFields hdT _)), Obj.data_mapFields hdT _, by simp [hsz3]⟩
  · obtain ⟨o2, v2, q1, q2, q3⟩ := h2
    exact ⟨o2, v2, (other e (Ne.symm hTe)).trans q1, q2, q3⟩
/-- a mark is put behind others -/
theorem note_on {base : Heap} {env : Env} {outer : List Env} {L e : Addr} {cls a0 : Value} {Q : Unit → Shared → Prop} (hfr : A.frames = some (env :: outer)) (hf : env.frame = some L) (hfl : FlyX base (env :: outer) e cls a0 s.heap dx)
    (hQ : ∀ h', HeldX base (env :: outer) e cls a0 L h' dx → s.heap.UpToSlots h' → Q () { s with heap := h' }) : wpAny M A (noteFrame (.ref e) env) Q E s := by
  obtain ⟨⟨hkb, hen, hl, oe, vs, T, oT, ts, he, ⟨hcls, h0⟩, hd, h1, hnT, hTe, hT, hdT, h3⟩, h2⟩ := hfl
  subst hcls
  have h2 : vs[2]? = some .none ∧ oe.dict = dx := by
    obtain ⟨o2, v2, q1, q2, q3⟩ := h2
    rw [he] at q1; cases q1; rw [hd] at q2; cases q2; exact q3
  obtain ⟨g2, rfl⟩ := h2
  have other : ∀ b, b ≠ T → (s.heap.update T (Obj.mapFields (·.setIfInBounds 3 Value.none))).get? b = s.heap.get? b := fun b hb => Heap.get?_update_other _ _ (Ne.symm hb)
  have noR : ∀ b o, s.heap.get? b = some o → (∀ ws, o.data ≠ .fields ws) → b ≠ T := fun b o hb hnf q => by
    subst q; rw [hT] at hb; cases hb; exact hnf _ hdT
  unfold noteFrame
  simp only [hf]
  refine wpAny_bind (wpAny_field he hd h1 ?_)
  rw [if_pos (show (Value.ref T != Value.none) = true from by simp)]
  refine wpAny_bind (wpAny_field hT hdT h3 ?_)
  rw [if_neg (show ¬ ((Value.none == rawInt L) = true) from by simp [rawInt])]
  refine wpAny_bind (wpAny_setField hT hdT (Array.getElem?_eq_some_iff.mp h3).1 ?_)
  have hl' : (s.heap.update T (Obj.mapFields (·.setIfInBounds 3 Value.none))).FunFrames base (env :: outer) := hl.of_keeps fun b o hb hnf => ⟨o, (other b (noR b o hb hnf)).trans hb, rfl⟩
  have he' := (other e (Ne.symm hTe)).trans he
  refine put_entry hfr hl' hf he' hd (Array.getElem?_eq_some_iff.mp h1).1 fun h' T' p => ?_
  obtain ⟨k1, k2, k3, k4, k5⟩ := p.flies (fun b o hb => (other b fun q => by subst q; rw [hnT] at hb; cases hb).trans (hkb b o hb)) hl' hen he' hd h0 g2
  exact hQ h' ⟨⟨k1, hen, k2, k3⟩, k4⟩ fun b o hb hnf => k5 b o ((other b (noR b o hb hnf)).trans hb) hnf
theorem lands_x {base : Heap} {l : List Env} {e L : Addr} {cls a0 : Value} {Q : Unit → Shared → Prop} (hh : HeldX base l e cls a0 L s.heap dx)
    (hQ : ∀ h', FlyX base l e cls a0 h' dx → s.heap.UpToSlots h' → Q () { s with heap := h' }) : wpAny M A (setFlight (.ref e) none) Q E s := by
  obtain ⟨⟨f1, f2, f3, f4⟩, f5⟩ := hh
  exact flight_no f1 f3 f4 f5 fun h' k1 k2 k3 k4 k5 => hQ h' ⟨⟨k1, f2, k2, k3⟩, k4⟩ k5
theorem lands_again_x {base : Heap} {l : List Env} {e : Addr} {cls a0 : Value} {Q : Unit → Shared → Prop} (hh : FlyX base l e cls a0 s.heap dx)
    (hQ : ∀ h', FlyX base l e cls a0 h' dx → s.heap.UpToSlots h' → Q () { s with heap := h' }) : wpAny M A (setFlight (.ref e) none) Q E s := by
  obtain ⟨⟨f1, f2, f3, f4⟩, f5⟩ := hh
  exact flight_no f1 f3 f4.at f5 fun h' k1 k2 k3 k4 k5 => hQ h' ⟨⟨k1, f2, k2, k3⟩, k4⟩ k5
theorem FlyX.pop {dx : Option Addr} {base h : Heap} {env : Env} {l : List Env} {e : Addr} {cls a0 : Value} (x : FlyX base (env :: l) e cls a0 h dx) : FlyX base l e cls a0 h dx :=
  let ⟨⟨k1, k2, ⟨_, _, k3⟩, k4⟩, k5⟩ := x; ⟨⟨k1, k2, k3, k4⟩, k5⟩
theorem leaves_on_x {base : Heap} {env : Env} {outer : List Env} {L e : Addr} {cls a0 : Value} {Q : Unit → Shared → Prop} (hfr : A.frames = some (env :: outer)) (hf : env.frame = some L) (hfl : FlyX base (env :: outer) e cls a0 s.heap dx)
    (hQ : ∀ h', FlyX base outer e cls a0 h' dx → s.heap.UpToSlots h' → Q () { s with heap := h' }) : wpAny M A (leaving env (.ref e)) Q E s := by
  unfold leaving
  refine wpAny_bind (note_on hfr hf hfl fun h1 x1 u1 => ?_)
  exact lands_x (s := { s with heap := h1 }) x1 fun h2 x2 u2 => hQ h2 x2.pop (u1.trans u2)
/-- a thing that was made, its parts said -/
structure MadeX (h h' : Heap) (e : Addr) (cls : Value) (dx : Option Addr) : Prop where
  keeps : ∀ b o, h.get? b = some o → h'.get? b = some o
  new : h.get? e = none
  there : ∃ oe vs t, h'.get? e = some oe ∧ oe.cls = cls ∧ oe.data = .fields vs ∧ vs[0]? = some t ∧ vs[1]? = some .none ∧ vs[2]? = some .none ∧ oe.dict = dx
theorem leaves_made_x {base h : Heap} {env : Env} {outer : List Env} {L e : Addr} {cls : Value} {Q : Unit → Shared → Prop}
    (hfr : A.frames = some (env :: outer)) (hf : env.frame = some L) (hkb : base.StaysIn h) (hl : h.FunFrames base (env :: outer)) (hx : MadeX h s.heap e cls dx)
    (hQ : ∀ h' t, FlyX base outer e cls t h' dx → s.heap.UpToSlots h' → Q () { s with heap := h' }) : wpAny M A (leaving env (.ref e)) Q E s := by
  obtain ⟨oe, vs, t, he, rfl, hd, h0, h1, h2, rfl⟩ := hx.there
  have fresh : ∀ b, h.get? b = none → base.get? b = none := fun b hb => by
    cases hq : base.get? b with
    | none => rfl
    | some o' => have := hkb b o' hq; rw [hb] at this; cases this
  have hl2 : s.heap.FunFrames base (env :: outer) := hl.of_keeps fun b o hb _ => ⟨o, hx.keeps b o hb, rfl⟩
  unfold leaving noteFrame
  simp only [hf]
  refine wpAny_bind (wpAny_bind (wpAny_field he hd h1 ?_))
  rw [if_neg (by decide)]
  refine put_entry hfr hl2 hf he hd (Array.getElem?_eq_some_iff.mp h1).1 fun h1 T p => ?_
  obtain ⟨k1, k2, k3, k4, k5⟩ := p.flies (a0 := t) (fun b o hb => hx.keeps b o (hkb b o hb)) hl2 (fresh e hx.new) he hd h0 h2
  exact lands_x (s := { s with heap := h1 }) (L := L) ⟨⟨k1, fresh e hx.new, k2, k3⟩, k4⟩ fun h2 x2 u2 => hQ h2 t x2.pop (k5.trans u2)
end
end VL

set_option Elab.async false
set_option linter.all false
set_option maxRecDepth 100000
set_option maxHeartbeats 4000000
namespace VL
open PySem PySem.Spec PyProof.Rows L2
/-! ### an exception that this frame has noted -/
section
variable {M : Model} {A : Around} {E : Value → Shared → Prop} {s : Shared} {dx : Option Addr}
/-- it leaves the frame that noted it -/
theorem leaves_held {base : Heap} {env : Env} {outer : List Env} {L e : Addr} {cls a0 : Value} {Q : Unit → Shared → Prop} (hf : env.frame = some L) (hh : HeldX base (env :: outer) e cls a0 L s.heap dx)
    (hQ : ∀ h', FlyX base outer e cls a0 h' dx → s.heap.UpToSlots h' → Q () { s with heap := h' }) : wpAny M A (leaving env (.ref e)) Q E s := by
  have hh0 := hh
  obtain ⟨⟨hkb, hen, hl, oe, vs, T, oT, ts, he, ⟨hcls, h0⟩, hd, h1, hnT, hTe, hT, hdT, h3⟩, h2⟩ := hh
  unfold leaving noteFrame
  simp only [hf]
  refine wpAny_bind (wpAny_bind (wpAny_field he hd h1 ?_))
  rw [if_pos (show (Value.ref T != Value.none) = true from by simp)]
  refine wpAny_bind (wpAny_field hT hdT h3 ?_)
  rw [if_pos (by simp)]
  refine wpAny_pure ?_
  exact lands_x hh0 fun h' fl sm => hQ h' fl.pop sm
/-- its flight set to the frame that noted it -/
theorem held_again {base : Heap} {l : List Env} {L e : Addr} {cls a0 : Value} {Q : Unit → Shared → Prop} (hh : HeldX base l e cls a0 L s.heap dx)
    (hQ : ∀ h', HeldX base l e cls a0 L h' dx → s.heap.UpToSlots h' → Q () { s with heap := h' }) : wpAny M A (setFlight (.ref e) (some L)) Q E s := by
  obtain ⟨⟨hkb, hen, hl, oe, vs, T, oT, ts, he, hcls, hd, h1, hnT, hTe, hT, hdT, h3⟩, h2⟩ := hh
  have hsz3 : 3 < ts.size := (Array.getElem?_eq_some_iff.mp h3).1
  have other : ∀ b, b ≠ T → (s.heap.update T (Obj.mapFields (·.setIfInBounds 3 ((some L : Option Addr).elim Value.none fun f => rawInt f)))).get? b = s.heap.get? b := fun b hb => Heap.get?_update_other _ _ (Ne.symm hb)
  have noR : ∀ b o, s.heap.get? b = some o → (∀ ws, o.data ≠ .fields ws) → b ≠ T := fun b o hb hnf q => by
    subst q; rw [hT] at hb; cases hb; exact hnf _ hdT
  unfold setFlight
  refine wpAny_bind (wpAny_field he hd h1 ?_)
  rw [if_pos (show (Value.ref T != Value.none) = true from by simp)]
  refine wpAny_setField hT hdT hsz3 (hQ _ ⟨⟨fun b o hb => (other b fun q => by subst q; rw [hnT] at hb; cases hb).trans (hkb b o hb), hen, hl.of_keeps fun b o hb hnf => ⟨o, (other b (noR b o hb hnf)).trans hb, rfl⟩, ?_⟩, ?_⟩ fun b o hb hnf => ⟨o.slots, (other b (noR b o hb hnf)).trans hb⟩)
  · exact ⟨oe, vs, T, _, _, (other e (Ne.symm hTe)).trans he, hcls, hd, h1, hnT, hTe, Heap.get?_update_self _ hT (Obj.isFreed_of_fields (Obj.data_mapFields hdT _)), Obj.data_mapFields hdT _, by simp [hsz3]⟩
  · obtain ⟨o2, v2, q1, q2, q3⟩ := h2
    exact ⟨o2, v2, (other e (Ne.symm hTe)).trans q1, q2, q3⟩
theorem came_held {base : Heap} {env : Env} {l : List Env} {L e : Addr} {cls a0 : Value} {E' : Value → Shared → Prop} (hf : env.frame = some L) (hh : HeldX base l e cls a0 L s.heap dx)
    (hE : ∀ h', HeldX base l e cls a0 L h' dx → s.heap.UpToSlots h' → E' (.ref e) { s with heap := h' }) : cameBackBy M A env E' (.ref e) s := by
  have x1' := hh
  obtain ⟨⟨_, _, _, oe, vs, T, oT, ts, he, _, hd, hv1, _⟩, _⟩ := hh
  refine wpAny_bind (wpAny_field he hd hv1 ?_)
  rw [if_neg (by simp), hf]
  first
    | exact wpAny_bind (wpAny_pure (held_again x1' fun h2 x2 u2 => hE h2 x2 u2))
    | exact held_again x1' fun h2 x2 u2 => hE h2 x2 u2
theorem passes_held {base : Heap} {env : Env} {l : List Env} {L e : Addr} {cls a0 : Value} {E' : Value → Shared → Prop} (hf : env.frame = some L) (hh : HeldX base l e cls a0 L s.heap dx)
    (hE : ∀ h', HeldX base l e cls a0 L h' dx → s.heap.UpToSlots h' → E' (.ref e) { s with heap := h' }) : notedBy M A env (cameBackBy M A env E') (.ref e) s := by
  have hh0 := hh
  obtain ⟨⟨hkb, hen, hl, oe, vs, T, oT, ts, he, ⟨hcls, h0⟩, hd, h1, hnT, hTe, hT, hdT, h3⟩, h2⟩ := hh
  unfold notedBy noteFrame
  simp only [hf]
  refine wpAny_bind (wpAny_field he hd h1 ?_)
  rw [if_pos (show (Value.ref T != Value.none) = true from by simp)]
  refine wpAny_bind (wpAny_field hT hdT h3 ?_)
  rw [if_pos (by simp)]
  exact wpAny_pure (came_held hf hh0 hE)
theorem passes_made {base h : Heap} {env : Env} {outer : List Env} {L e : Addr} {cls : Value} {E' : Value → Shared → Prop} (hfr : A.frames = some (env :: outer)) (hf : env.frame = some L) (hkb : base.StaysIn h) (hl : h.FunFrames base (env :: outer)) (hx : MadeX h s.heap e cls dx)
    (hE : ∀ h' t, HeldX base (env :: outer) e cls t L h' dx → s.heap.UpToSlots h' → E' (.ref e) { s with heap := h' }) : notedBy M A env (cameBackBy M A env E') (.ref e) s := by
  obtain ⟨oe, vs, t, he, rfl, hd, h0, h1, h2, rfl⟩ := hx.there
  have fresh : ∀ b, h.get? b = none → base.get? b = none := fun b hb => by
    cases hq : base.get? b with
    | none => rfl
    | some o' => have := hkb b o' hq; rw [hb] at this; cases this
  have hl2 : s.heap.FunFrames base (env :: outer) := hl.of_keeps fun b o hb _ => ⟨o, hx.keeps b o hb, rfl⟩
  unfold notedBy noteFrame
  simp only [hf]
  refine wpAny_bind (wpAny_field he hd h1 ?_)
  rw [if_neg (by decide)]
  refine put_entry hfr hl2 hf he hd (Array.getElem?_eq_some_iff.mp h1).1 fun h1 T p => ?_
  obtain ⟨k1, k2, k3, k4, k5⟩ := p.flies (a0 := t) (fun b o hb => hx.keeps b o (hkb b o hb)) hl2 (fresh e hx.new) he hd h0 h2
  exact came_held (s := { s with heap := h1 }) hf ⟨⟨k1, fresh e hx.new, k2, k3⟩, k4⟩ fun h2 x2 u2 => hE h2 t x2 (k5.trans u2)
end
end VL

set_option Elab.async false
set_option linter.all false
set_option maxRecDepth 100000
set_option maxHeartbeats 4000000
/-! Exceptions of the text's own classes: raised, passed on, caught, asked for their class. -/
namespace VL
open PySem PySem.Spec PyProof.Rows L2
/-! ### exceptions as plain data, and the functions of code that raises -/
/-- the name of a raised class, and the number that it holds (0: none) -/
abbrev Xn := Str × Int
def exD (n : Xn) : D := .dict [(.str "exc", .str n.1), (.str "row", .int n.2)]
abbrev Xf := Dv → Option (Xn × Dv)
@[simp] def xNo : Xf := fun _ => none
@[simp] def xRaise (n : Str) (f : Dv → Option D) : Xf := fun δ => (f δ).bind fun _ => some ((n, 0), δ)
/-- a class whose __init__ stores its argument as row -/
@[simp] def xRaiseR (n : Str) (f : Dv → Option D) : Xf := fun δ => (f δ).bind fun d => match d with
  | .int k => some ((n, k), δ)
  | _ => none
@[simp] def xE (f : Dv → Option Xn) : Xf := fun δ => (f δ).bind fun n => some (n, δ)
@[simp] def xIf (t : Dv → Option Bool) (u w : Xf) : Xf := fun δ => (t δ).bind fun c => if c = true then u δ else w δ
@[simp] def xSeq (s : Sf) (u : Xf) : Xf := fun δ => (s δ).bind fun r => match r with
  | (.nx, δ') => u δ'
  | _ => none
@[simp] def xBoth (u1 : Xf) (s : Sf) (u : Xf) : Xf := fun δ => match u1 δ with
  | some r => some r
  | none => xSeq s u δ
def runX (N : List Str) (m : Nat) (fx : Xf) : List D → Option Xn := fun as => if as.length = m then (fx (startD N as)).bind fun r => some r.1 else none
@[simp] def osX (fs : Dv → Option (List D)) (g : List D → Option Xn) : Dv → Option Xn := fun δ => (fs δ).bind g
def sTry (i : Nat) (ns : List Str) (b : Sf) (bx : Xf) (bs : Sf) : Sf := fun δ => match bx δ with
  | some (n, δ') => if ns.contains n.1 = true then (bs (δ'.set i (.fz (exD n)))).bind fun r => some (r.1, r.2.set i .un) else none
  | none => b δ
def isxL (t : List (Str × Bool)) (n : Str) : Option D := (t.lookup n).map .bool
def isxD (t : List (Str × Bool)) : D → Option D
  | .dict [(.str k, .str n), _] => if k = "exc" then isxL t n else none
  | _ => none
theorem isxD_ex (t : List (Str × Bool)) (n : Xn) : isxD t (exD n) = isxL t n.1 := by simp [isxD, exD]
theorem objOk_there {P : Program} {w : World} {H : Hp} {h : Heap} {a : Addr} {o : HO} (x : ObjOk P w H h a o) : ∃ ob, h.get? a = some ob := by
  cases o with
  | lst xs => obtain ⟨_, _, _, _, e⟩ := x; exact ⟨_, e⟩
  | tup xs => obtain ⟨_, _, _, ⟨ob, e, _⟩, _⟩ := x; exact ⟨_, e⟩
  | dK kvs => obtain ⟨_, _, _, _, o, _, _, e, _⟩ := x; exact ⟨_, e⟩
  | dT kvs => obtain ⟨_, _, _, _, o, _, _, e, _⟩ := x; exact ⟨_, e⟩
  | set S n => obtain ⟨o, _, _, _, e, _⟩ := x; exact ⟨_, e⟩
  | ins C dx fs => obtain ⟨_, _, _, e, _⟩ := x; exact ⟨_, e⟩
  | own y => exact x
  | xd fs => obtain ⟨_, ⟨_, _, _, e, _⟩, _⟩ := x; exact ⟨_, e⟩
  | rng lo hi => obtain ⟨_, _, _, e⟩ := x; exact ⟨_, e⟩
  | frz ob u => exact ⟨_, x.1⟩
  | tbl ps => exact ⟨_, x⟩
  | met f y => exact ⟨_, x⟩
  | ext φ => exact x.2.1
theorem exO_ok {P : Program} {w : World} {H : Hp} {h : Heap} {x C : Addr} {dx : Option Addr} {o : Obj} (e : h.get? x = some o) (c : o.cls = .ref C) (f : F2 h x dx) : ObjOk P w H h x (exO x C dx) :=
  ⟨⟨o, e, c, by obtain ⟨o', vs, q1, q2⟩ := f; rw [e] at q1; cases q1; exact ⟨⟨vs, q2.1, q2.2.1⟩, q2.2.2⟩⟩, ⟨o, e⟩, fun h1 h2 ⟨o', e', c'⟩ k => ⟨o', k o' e', c'⟩⟩
theorem FlyX.there {dx : Option Addr} {base h : Heap} {l : List Env} {e : Addr} {cls a0 : Value} (x : FlyX base l e cls a0 h dx) : ∃ ob, h.get? e = some ob ∧ ob.cls = cls := x.1.there
/-- on its way out of a call: outer the frames that run -/
structure Thrown (P : Program) (w : World) (outer : List Env) (H : Hp) (s : Shared) (x C : Addr) (H' : Hp) (s' : Shared) (dx : Option Addr) : Prop where
  os : s'.os = s.os
  bare : AllBare s'.gens
  un : Un (frs outer) [] H H' s.heap s'.heap
  hok : HOk P w H' s'.heap
  sm : Same H H'
  is : H' x = some (exO x C dx)
  fly : ∃ B t, FlyX B outer x (.ref C) t s'.heap dx ∧ (∀ b o, H' b = some o → b ≠ x → ∃ ob, B.get? b = some ob) ∧ (∀ b o, s.heap.get? b = some o → H b = none → b ∉ frs outer → B.get? b = some o)
/-- the same, where this frame (at L) has noted it -/
structure ThrownH (P : Program) (w : World) (l : List Env) (L : Addr) (H : Hp) (s : Shared) (x C : Addr) (H' : Hp) (s' : Shared) (dx : Option Addr) : Prop where
  os : s'.os = s.os
  bare : AllBare s'.gens
  un : Un (frs l) [] H H' s.heap s'.heap
  hok : HOk P w H' s'.heap
  is : H' x = some (exO x C dx)
  tr : ∀ b, H' b = none → H b = none
  fly : ∃ B t, HeldX B l x (.ref C) t L s'.heap dx ∧ (∀ b o, H' b = some o → b ≠ x → ∃ ob, B.get? b = some ob) ∧ (∀ b o, s.heap.get? b = some o → H b = none → b ∉ frs l → B.get? b = some o)
def CXX (P : Program) (w : World) : CXT := fun outer H s E e s' => ∃ x C dx H', e = .ref x ∧ Thrown P w outer H s x C H' s' dx ∧ E (.ref C) (some x) H'
theorem hok_fly {P : Program} {w : World} {H2 : Hp} {B h2 h' : Heap} {l l' : List Env} {x C : Addr} {dx : Option Addr} {t t' : Value} (ok : HOk P w H2 h2) (is : H2 x = some (exO x C dx)) (k2 : B.StaysIn h2) (fl' : FlyX B l' x (.ref C) t' h' dx)
    (hB : ∀ b o, H2 b = some o → b ≠ x → ∃ ob, B.get? b = some ob) : HOk P w H2 h' := fun b o e => by
  by_cases hb : b = x
  · subst hb
    rw [is] at e; cases e
    obtain ⟨ob, h1, h2⟩ := fl'.there
    exact exO_ok h1 h2 fl'.2
  · refine (ok b o e).stay (fun c u hc q => ?_) (fun _ q => q) fun _ _ q => q
    have : ∃ ob, B.get? c = some ob := by
      rcases hc with rfl | hc
      · exact hB c o e hb
      · refine hB c _ hc fun z => ?_
        subst z; rw [is] at hc; cases hc
    obtain ⟨ob, hob⟩ := this
    have := k2 c ob hob
    rw [q] at this; cases this
    exact fl'.1.1 c _ hob
theorem exO_one {P : Program} {w : World} {H : Hp} {h : Heap} {x C C' : Addr} {dx dx' : Option Addr} (ok : HOk P w H h) (a : H x = some (exO x C dx)) (b : H x = some (exO x C' dx')) : dx = dx' := by
  obtain ⟨o, e, _, _, d⟩ := (ok x _ a).1
  obtain ⟨o', e', _, _, d'⟩ := (ok x _ b).1
  rw [e] at e'; cases e'; exact d.symm.trans d'
section
variable {P : Program} {w : World} {K : PySem.W.Frag} {mg : Str → Option Value} {base : Heap} {N : List Str} {qual : Str} {scope : Scope} {f : Addr} {cd : Value} {A : Around} {outer : List Env} {s : Shared} {H : Hp} {E : XK} {pins : List (Addr × Obj)} {σ : St} {H1 H2 : Hp} {s1 s2 : Shared} {x C : Addr} {dx : Option Addr}
/-- it leaves one frame more: F what is known of it -/
theorem leave_by (I : Inv (cxOf (CXX P w) P w K mg base N qual scope f cd A outer s H E) pins σ H1 s1) (Tos : s2.os = s1.os) (Tbare : AllBare s2.gens) (Tun : Un (frs (cxOf (CXX P w) P w K mg base N qual scope f cd A outer s H E).stack) [] H1 H2 s1.heap s2.heap) (Thok : HOk P w H2 s2.heap) (Tis : H2 x = some (exO x C dx)) {B : Heap} {t : Value} (Bs : B.StaysIn s2.heap) (hB1 : ∀ b o, H2 b = some o → b ≠ x → ∃ ob, B.get? b = some ob) (hB2 : ∀ b o, s1.heap.get? b = some o → H1 b = none → b ∉ frs (cxOf (CXX P w) P w K mg base N qual scope f cd A outer s H E).stack → B.get? b = some o)
    (go : ∀ (Q : Unit → Shared → Prop) (E0 : Value → Shared → Prop), (∀ h', FlyX B outer x (.ref C) t h' dx → s2.heap.UpToSlots h' → Q () { s2 with heap := h' }) → wpAny (model P w) (cxOf (CXX P w) P w K mg base N qual scope f cd A outer s H E).A (leaving (cxOf (CXX P w) P w K mg base N qual scope f cd A outer s H E).env (.ref x)) Q E0 s2) (hE : E (.ref C) (some x) H2) (h0 : Same H H2) :
    (cxOf (CXX P w) P w K mg base N qual scope f cd A outer s H E).xe (.ref x) s2 := by
  have hfr := I.ok.frames
  have loc : ∀ b o, s.heap.get? b = some o → b ∉ frs outer → b ∉ frs (cxOf (CXX P w) P w K mg base N qual scope f cd A outer s H E).stack := fun b o q hb z => by
    rcases List.mem_cons.mp (I.stkSub b z) with e | e
    · exact absurd (Heap.lt_size q) (by rw [e]; exact Nat.not_lt.mpr I.ok.above)
    · exact hb e
  have keep : ∀ b o, s.heap.get? b = some o → H b = none → b ∉ frs outer → B.get? b = some o := fun b o q n hb =>
    hB2 b o (I.base.keep b o q n hb (fun z => nomatch z)) (I.base.free b o q n (fun z => nomatch z)) (loc b o q hb)
  refine go _ _ fun h' fl' sm => ?_
  have slot : ∀ b o, s.heap.get? b = some o → H b = none → b ∈ frs outer → ∃ sl, h'.get? b = some { o with slots := sl } := fun b o q n hb => by
    obtain ⟨sl, e1⟩ := I.base.slot b o q n hb (fun z => nomatch z)
    have hb' : b ∈ frs (cxOf (CXX P w) P w K mg base N qual scope f cd A outer s H E).stack := by
      show b ∈ List.filterMap _ (_ :: outer)
      exact List.mem_filterMap.mpr (by obtain ⟨env, he, hf⟩ := List.mem_filterMap.mp hb; exact ⟨env, List.mem_cons_of_mem _ he, hf⟩)
    obtain ⟨sl2, e2⟩ := Tun.slot b _ e1 (I.base.free b o q n (fun z => nomatch z)) hb' (fun z => nomatch z)
    obtain ⟨_, o', ho', hd⟩ := I.ok.funs.mem hb
    have ho2 : s.heap.get? b = some o' := ho'
    rw [q] at ho2; cases ho2
    obtain ⟨sl3, e3⟩ := sm b _ e2 hd
    exact ⟨sl3, e3⟩
  refine ⟨x, C, dx, H2, rfl, ⟨Tos.trans I.os, Tbare, ⟨fun b o q n hb _ => fl'.1.1 b o (keep b o q n hb), fun b o q n hb _ => slot b o q n hb, fun b o q n _ => ?_, fun b o q _ => ?_, fun b xs e => Tun.tups b xs (I.base.tups b xs e), fun b o u e => Tun.frzs b o u (I.base.frzs b o u e), fun b ps e => ?_⟩, hok_fly (l := []) (t := t) Thok Tis Bs fl' hB1, h0, Tis, ⟨B, t, fl', hB1, keep⟩⟩, hE⟩
  · obtain ⟨o1, e1⟩ := I.base.there b o q (fun z => nomatch z)
    exact Tun.free b o1 e1 (I.base.free b o q n (fun z => nomatch z)) (fun z => nomatch z)
  · cases q2 : H2 b with
    | some ho =>
      by_cases hb : b = x
      · subst hb; obtain ⟨ob, e1, _⟩ := fl'.there; exact ⟨ob, e1⟩
      · obtain ⟨ob, e1⟩ := hB1 b ho q2 hb; exact ⟨ob, fl'.1.1 b ob e1⟩
    | none =>
      have n : H b = none := by
        cases e : H b with
        | none => rfl
        | some z => rw [h0 b z e] at q2; cases q2
      by_cases hb : b ∈ frs outer
      · obtain ⟨sl, e⟩ := slot b o q n hb; exact ⟨_, e⟩
      · exact ⟨o, fl'.1.1 b o (keep b o q n hb)⟩
  · obtain ⟨m1, e1⟩ := I.base.tbls b ps e
    obtain ⟨m2, e2⟩ := Tun.tbls b _ e1
    exact ⟨m1 ++ m2, by rw [e2, Array.append_assoc]⟩
theorem leave_on (I : Inv (cxOf (CXX P w) P w K mg base N qual scope f cd A outer s H E) pins σ H1 s1) (T : Thrown P w (cxOf (CXX P w) P w K mg base N qual scope f cd A outer s H E).stack H1 s1 x C H2 s2 dx) (hE : E (.ref C) (some x) H2) (h0 : Same H H2) :
    (cxOf (CXX P w) P w K mg base N qual scope f cd A outer s H E).xe (.ref x) s2 := by
  obtain ⟨B, t, fl, hB1, hB2⟩ := T.fly
  exact leave_by I T.os T.bare T.un T.hok T.is fl.1.1 hB1 hB2 (fun Q _ hQ => leaves_on_x I.ok.frames rfl fl hQ) hE h0
theorem leave_held (I : Inv (cxOf (CXX P w) P w K mg base N qual scope f cd A outer s H E) pins σ H1 s1) {L : Addr} (hL : (cxOf (CXX P w) P w K mg base N qual scope f cd A outer s H E).env.frame = some L) (T : ThrownH P w (cxOf (CXX P w) P w K mg base N qual scope f cd A outer s H E).stack L H1 s1 x C H2 s2 dx) (hE : E (.ref C) (some x) H2) (h0 : Same H H2) :
    (cxOf (CXX P w) P w K mg base N qual scope f cd A outer s H E).xe (.ref x) s2 := by
  obtain ⟨B, t, fl, hB1, hB2⟩ := T.fly
  exact leave_by I T.os T.bare T.un T.hok T.is fl.1.1 hB1 hB2 (fun Q _ hQ => leaves_held hL fl hQ) hE h0
/-- it is made in this frame, and leaves it -/
theorem leave_made (I : Inv (cxOf (CXX P w) P w K mg base N qual scope f cd A outer s H E) pins σ H1 s1) (hs : s2 = { s1 with heap := s2.heap }) (hx : MadeX s1.heap s2.heap x (.ref C) dx) (h0 : Same H H1) (hE : H1 x = none → E (.ref C) (some x) (upd H1 x (exO x C dx))) :
    (cxOf (CXX P w) P w K mg base N qual scope f cd A outer s H E).xe (.ref x) s2 := by
  have hfr := I.ok.frames
  have n1 : H1 x = none := by
    cases e : H1 x with
    | none => rfl
    | some o => obtain ⟨ob, h⟩ := objOk_there (I.hok x o e); rw [hx.new] at h; cases h
  have loc : ∀ b o, s.heap.get? b = some o → b ∉ frs outer → b ∉ frs (cxOf (CXX P w) P w K mg base N qual scope f cd A outer s H E).stack := fun b o q hb z => by
    rcases List.mem_cons.mp (I.stkSub b z) with e | e
    · exact absurd (Heap.lt_size q) (by rw [e]; exact Nat.not_lt.mpr I.ok.above)
    · exact hb e
  have hin : ∀ env ∈ (cxOf (CXX P w) P w K mg base N qual scope f cd A outer s H E).stack, ∀ b, env.frame = some b → b ∈ frs (cxOf (CXX P w) P w K mg base N qual scope f cd A outer s H E).stack := fun env he b hb => List.mem_filterMap.mpr ⟨env, he, hb⟩
  have keep : ∀ b o, s.heap.get? b = some o → H b = none → b ∉ frs outer → (PySem.W.hideAll s1.heap (frs (cxOf (CXX P w) P w K mg base N qual scope f cd A outer s H E).stack)).get? b = some o := fun b o q n hb =>
    PySem.W.hideAll_get _ (I.base.keep b o q n hb (fun z => nomatch z)) (loc b o q hb)
  have trk : ∀ b o, H1 b = some o → ∃ ob, (PySem.W.hideAll s1.heap (frs (cxOf (CXX P w) P w K mg base N qual scope f cd A outer s H E).stack)).get? b = some ob := fun b o e => by
    obtain ⟨ob, h⟩ := objOk_there (I.hok b o e)
    refine ⟨ob, PySem.W.hideAll_get _ h fun z => ?_⟩
    rw [I.stkFree b z] at e; cases e
  refine leaves_made_x hfr rfl (fun b o q => PySem.W.of_hideAll _ q) (PySem.W.funFrames_hide I.stack hin) hx fun h' t fl sm => ?_
  have slot : ∀ b o, s.heap.get? b = some o → H b = none → b ∈ frs outer → ∃ sl, h'.get? b = some { o with slots := sl } := fun b o q n hb => by
    obtain ⟨sl, e1⟩ := I.base.slot b o q n hb (fun z => nomatch z)
    obtain ⟨_, o', ho', hd⟩ := I.ok.funs.mem hb
    have ho2 : s.heap.get? b = some o' := ho'
    rw [q] at ho2; cases ho2
    obtain ⟨sl3, e3⟩ := sm b _ (hx.keeps b _ e1) hd
    exact ⟨sl3, e3⟩
  have ne : ∀ b o, s1.heap.get? b = some o → b ≠ x := fun b o q z => by subst z; rw [hx.new] at q; cases q
  have os2 : s2.os = s1.os := by rw [hs]
  have g2 : s2.gens = s1.gens := by rw [hs]
  have hok2 : HOk P w (upd H1 x (exO x C dx)) h' := fun b o e => by
    by_cases hb : b = x
    · subst hb; rw [upd_same] at e; cases e; obtain ⟨ob, q1, q2⟩ := fl.there; exact exO_ok q1 q2 fl.2
    · rw [upd_ne hb] at e
      refine (I.hok b o e).stay (fun c u hc q => ?_) (fun c q => ?_) fun c xs q => ?_
      · have : ∃ ho, H1 c = some ho := by rcases hc with rfl | hc; exact ⟨_, e⟩; exact ⟨_, hc⟩
        obtain ⟨ho, hc⟩ := this
        obtain ⟨ob, hob⟩ := trk c ho hc
        have := PySem.W.of_hideAll _ hob
        rw [q] at this; cases this
        exact fl.1.1 c _ hob
      · rw [upd_ne (ne_of_none q n1)]; exact q
      · rw [upd_ne (ne_of_none q n1)]; exact q
  refine ⟨x, C, dx, upd H1 x (exO x C dx), rfl, ⟨os2.trans I.os, by rw [show ({ s2 with heap := h' } : Shared).gens = s1.gens from g2]; exact I.bare, ⟨fun b o q n hb _ => fl.1.1 b o (keep b o q n hb), fun b o q n hb _ => slot b o q n hb, fun b o q n _ => ?_, fun b o q _ => ?_, fun b xs e => ?_, fun b o u e => ?_, fun b ps e => ?_⟩, hok2, h0.trans (same_upd n1), upd_same, ⟨_, _, fl, fun b o e hb => ?_, keep⟩⟩, hE n1⟩
  · obtain ⟨o1, e1⟩ := I.base.there b o q (fun z => nomatch z)
    rw [upd_ne (ne b o1 e1)]
    exact I.base.free b o q n (fun z => nomatch z)
  · obtain ⟨o1, e1⟩ := I.base.there b o q (fun z => nomatch z)
    cases q2 : H1 b with
    | some ho => obtain ⟨ob, e⟩ := trk b ho q2; exact ⟨ob, fl.1.1 b ob e⟩
    | none =>
      have n : H b = none := by
        cases e : H b with
        | none => rfl
        | some z => rw [h0 b z e] at q2; cases q2
      by_cases hb : b ∈ frs outer
      · obtain ⟨sl, e⟩ := slot b o q n hb; exact ⟨_, e⟩
      · exact ⟨o, fl.1.1 b o (keep b o q n hb)⟩
  · have := I.base.tups b xs e
    rw [upd_ne (ne_of_none this n1)]; exact this
  · have := I.base.frzs b o u e
    rw [upd_ne (ne_of_none this n1)]; exact this
  · obtain ⟨m1, e1⟩ := I.base.tbls b ps e
    exact ⟨m1, by rw [upd_ne (ne_of_none e1 n1)]; exact e1⟩
  · rw [upd_ne hb] at e
    exact trk b o e
end
/-- an exception that was made and not yet raised -/
def exN (a C : Addr) (dx : Option Addr := none) : HO := .ext fun h => ∃ o, h.get? a = some o ∧ o.cls = .ref C ∧ (∃ vs, o.data = .fields vs ∧ vs[2]? = some .none ∧ vs[1]? = some .none) ∧ o.dict = dx
theorem exN_ok {P : Program} {w : World} {H : Hp} {h : Heap} {x C : Addr} {dx : Option Addr} {o : Obj} {vs : Array Value} (e : h.get? x = some o) (c : o.cls = .ref C) (d : o.data = .fields vs) (h2 : vs[2]? = some .none) (h1 : vs[1]? = some .none) (dc : o.dict = dx) : ObjOk P w H h x (exN x C dx) :=
  ⟨⟨o, e, c, ⟨vs, d, h2, h1⟩, dc⟩, ⟨o, e⟩, fun _ _ ⟨o', e', c'⟩ k => ⟨o', k o' e', c'⟩⟩
section
variable {P : Program} {w : World} {K : PySem.W.Frag} {mg : Str → Option Value} {base : Heap} {N : List Str} {qual : Str} {scope : Scope} {f : Addr} {cd : Value} {A : Around} {outer : List Env} {s : Shared} {H : Hp} {E : XK} {pins : List (Addr × Obj)} {σ : St} {H1 : Hp} {s1 : Shared} {x C : Addr} {dx : Option Addr}
/-- it was made ahead, and is raised in this frame -/
theorem leave_here (I : Inv (cxOf (CXX P w) P w K mg base N qual scope f cd A outer s H E) pins σ H1 s1) (hx : H1 x = some (exN x C dx)) (hn : H x = none) (h0 : Same H H1) (hE : E (.ref C) (some x) (upd H1 x (exO x C dx))) :
    (cxOf (CXX P w) P w K mg base N qual scope f cd A outer s H E).xe (.ref x) s1 := by
  have hfr := I.ok.frames
  obtain ⟨oe, he, hc, ⟨vs, hd, h2, h1⟩, hdc⟩ := (I.hok x _ hx).1
  have n1 : ∀ b, H1 b = none → b ≠ x := fun b e z => by subst z; rw [hx] at e; cases e
  have loc : ∀ b o, s.heap.get? b = some o → b ∉ frs outer → b ∉ frs (cxOf (CXX P w) P w K mg base N qual scope f cd A outer s H E).stack := fun b o q hb z => by
    rcases List.mem_cons.mp (I.stkSub b z) with e | e
    · exact absurd (Heap.lt_size q) (by rw [e]; exact Nat.not_lt.mpr I.ok.above)
    · exact hb e
  have hin : ∀ env ∈ (cxOf (CXX P w) P w K mg base N qual scope f cd A outer s H E).stack, ∀ b, env.frame = some b → b ∈ x :: frs (cxOf (CXX P w) P w K mg base N qual scope f cd A outer s H E).stack := fun env he b hb => List.mem_cons_of_mem _ (List.mem_filterMap.mpr ⟨env, he, hb⟩)
  have keep : ∀ b o, s.heap.get? b = some o → H b = none → b ∉ frs outer → (PySem.W.hideAll s1.heap (x :: frs (cxOf (CXX P w) P w K mg base N qual scope f cd A outer s H E).stack)).get? b = some o := fun b o q n hb =>
    PySem.W.hideAll_get _ (I.base.keep b o q n hb (fun z => nomatch z)) (fun z => (List.mem_cons.mp z).elim (n1 b (I.base.free b o q n (fun z => nomatch z))) (loc b o q hb))
  have trk : ∀ b o, H1 b = some o → b ≠ x → ∃ ob, (PySem.W.hideAll s1.heap (x :: frs (cxOf (CXX P w) P w K mg base N qual scope f cd A outer s H E).stack)).get? b = some ob := fun b o e nb => by
    obtain ⟨ob, h⟩ := objOk_there (I.hok b o e)
    refine ⟨ob, PySem.W.hideAll_get _ h fun z => ?_⟩
    rcases List.mem_cons.mp z with z | z
    · exact nb z
    · rw [I.stkFree b z] at e; cases e
  have hid : (PySem.W.hideAll s1.heap [x]).get? x = none := PySem.W.hideAll_none _ List.mem_cons_self
  have hid2 : (PySem.W.hideAll s1.heap (x :: frs (cxOf (CXX P w) P w K mg base N qual scope f cd A outer s H E).stack)).get? x = none := PySem.W.hideAll_none _ List.mem_cons_self
  have hk : ∀ b o, s1.heap.get? b = some o → b ≠ x → (PySem.W.hideAll s1.heap [x]).get? b = some o := fun b o q nb => PySem.W.hideAll_get _ q fun z => nb (List.mem_singleton.mp z)
  have bk : (PySem.W.hideAll s1.heap (x :: frs (cxOf (CXX P w) P w K mg base N qual scope f cd A outer s H E).stack)).StaysIn (PySem.W.hideAll s1.heap [x]) := fun b o q => hk b o (PySem.W.of_hideAll _ q) fun z => by subst z; rw [hid2] at q; cases q
  have ff := (PySem.W.funFrames_hide I.stack hin).of_keeps (h' := PySem.W.hideAll s1.heap [x]) fun b o q nf => ⟨o, hk b o q fun z => by subst z; rw [he] at q; cases q; exact nf _ hd, rfl⟩
  have mx : MadeX (PySem.W.hideAll s1.heap [x]) s1.heap x (.ref C) dx := ⟨fun b o q => PySem.W.of_hideAll _ q, hid, oe, vs, vs[0]'(by have := (Array.getElem?_eq_some_iff.mp h2).1; omega), he, hc, hd, Array.getElem?_eq_getElem _, h1, h2, hdc⟩
  refine leaves_made_x hfr rfl bk ff mx fun h' t fl sm => ?_
  have slot : ∀ b o, s.heap.get? b = some o → H b = none → b ∈ frs outer → ∃ sl, h'.get? b = some { o with slots := sl } := fun b o q n hb => by
    obtain ⟨sl, e1⟩ := I.base.slot b o q n hb (fun z => nomatch z)
    obtain ⟨_, o', ho', hd⟩ := I.ok.funs.mem hb
    have ho2 : s.heap.get? b = some o' := ho'
    rw [q] at ho2; cases ho2
    obtain ⟨sl3, e3⟩ := sm b _ e1 hd
    exact ⟨sl3, e3⟩
  have hok2 : HOk P w (upd H1 x (exO x C dx)) h' := fun b o e => by
    by_cases hb : b = x
    · subst hb; rw [upd_same] at e; cases e; obtain ⟨ob, q1, q2⟩ := fl.there; exact exO_ok q1 q2 fl.2
    · rw [upd_ne hb] at e
      refine (I.hok b o e).stay (fun c u hc q => ?_) (fun c q => ?_) fun c xs q => ?_
      · have : ∃ ho, H1 c = some ho ∧ c ≠ x := by
          rcases hc with rfl | hc
          · exact ⟨_, e, hb⟩
          · exact ⟨_, hc, fun z => by subst z; rw [hx] at hc; cases hc⟩
        obtain ⟨ho, hc, nc⟩ := this
        obtain ⟨ob, hob⟩ := trk c ho hc nc
        have := PySem.W.of_hideAll _ hob
        rw [q] at this; cases this
        exact fl.1.1 c _ hob
      · rw [upd_ne (fun z => by subst z; rw [hx] at q; cases q)]; exact q
      · rw [upd_ne (fun z => by subst z; rw [hx] at q; cases q)]; exact q
  refine ⟨x, C, dx, upd H1 x (exO x C dx), rfl, ⟨I.os, I.bare, ⟨fun b o q n hb _ => fl.1.1 b o (keep b o q n hb), fun b o q n hb _ => slot b o q n hb, fun b o q n _ => ?_, fun b o q _ => ?_, fun b xs e => ?_, fun b o u e => ?_, fun b ps e => ?_⟩, hok2, fun b o e => ?_, upd_same, ⟨_, _, fl, fun b o e hb => ?_, keep⟩⟩, hE⟩
  · have z := I.base.free b o q n (fun z => nomatch z)
    rw [upd_ne (n1 b z)]; exact z
  · obtain ⟨o1, e1⟩ := I.base.there b o q (fun z => nomatch z)
    cases q2 : H1 b with
    | some ho =>
      by_cases hb : b = x
      · subst hb; obtain ⟨ob, e, _⟩ := fl.there; exact ⟨ob, e⟩
      · obtain ⟨ob, e⟩ := trk b ho q2 hb; exact ⟨ob, fl.1.1 b ob e⟩
    | none =>
      have n : H b = none := by
        cases e : H b with
        | none => rfl
        | some z => rw [h0 b z e] at q2; cases q2
      by_cases hb : b ∈ frs outer
      · obtain ⟨sl, e⟩ := slot b o q n hb; exact ⟨_, e⟩
      · exact ⟨o, fl.1.1 b o (keep b o q n hb)⟩
  · have := I.base.tups b xs e
    rw [upd_ne (fun z => by subst z; rw [hx] at this; cases this)]; exact this
  · have := I.base.frzs b o u e
    rw [upd_ne (fun z => by subst z; rw [hx] at this; cases this)]; exact this
  · obtain ⟨m1, e1⟩ := I.base.tbls b ps e
    exact ⟨m1, by rw [upd_ne (fun z => by subst z; rw [hx] at e1; cases e1)]; exact e1⟩
  · rw [upd_ne (fun z => by subst z; rw [hn] at e; cases e)]; exact h0 b o e
  · rw [upd_ne hb] at e
    exact trk b o e hb
end
end VL

set_option Elab.async false
set_option linter.all false
set_option maxRecDepth 100000
set_option maxHeartbeats 4000000
namespace VL
open PySem PySem.Spec PyProof.Rows L2
/-! ### facts of a class -/
abbrev vMro : List Value := [.type "ValueError", .type "Exception", .type "BaseException", .type "object"]
/-- the shape of an exception's class -/
def clsIn (K : Fg) (C : Addr) (newId : String) : Bool := match K.lookup C with
  | some ⟨.type "type", _, .cls cd, sl⟩ => (match cd.mro, sl.toList with
    | .ref C' :: _, [_, _, _, _, some (.builtin n), _] => C' == C && n == newId && !cd.hasDel
    | _, _ => false)
  | _ => false
theorem cls_obj {K : Fg} {h : Heap} {C : Addr} {newId : String} (kin : K.In h) (q : clsIn K C newId = true) : ∃ mr ns nm qn bs hd sn sub ab col dd a0 a1 a2 a3 a5, h.get? C = some (excClassObj nm qn C ns bs mr hd sn sub ab col dd a0 a1 a2 a3 a5 newId) := by
  unfold clsIn at q
  split at q
  · rename_i dct cda slo lk
    split at q
    · rename_i C2 mr a0 a1 a2 a3 nw a5 em es
      simp only [Bool.and_eq_true, beq_iff_eq, Bool.not_eq_true'] at q
      obtain ⟨⟨rfl, rfl⟩, nodel⟩ := q
      obtain ⟨nm, bs, mro, ns, qn, hd, sn, sub, ab, col, del⟩ := cda
      dsimp only at em nodel
      subst em nodel
      have esl : slo = #[a0, a1, a2, a3, some (.builtin nw), a5] := by
        obtain ⟨ll⟩ := slo
        simp only at es
        rw [es]
      subst esl
      exact ⟨mr, ns, nm, qn, bs, hd, sn, sub, ab, col, dct, a0, a1, a2, a3, a5, kin _ _ lk⟩
    · cases q
  · cases q
structure ExcC (K : Fg) (n : Str) (C : Addr) : Prop where
  nm : PySem.W.nsIn K mainGlobals n = some (some (.ref C))
  ex : clsIn K C "ValueError.__new__" = true
  ga : PySem.W.findIn K (.ref C) "__getattribute__" = some (some (.builtin "BaseException.__getattribute__"))
  gt : PySem.W.findIn K (.ref C) "__getattr__" = some none
  cl : PySem.W.findIn K (.ref C) "__class__" = some (some (.builtin "object.__class__"))
  mo : PySem.W.mroIn K C (.type "object") = some true
  be : PySem.W.mroIn K C (.type "BaseException") = some true
theorem exc_obj {K : Fg} {h : Heap} {C : Addr} {mB : List Value} {newId : String} (kin : K.In h) (q : PySem.W.excIn K C mB newId = true) :
    ∃ mr ns nm qn bs hd sn sub ab col dd a0 a1 a2 a3 a5 mN, h.get? C = some (excClassObj nm qn C ns bs mr hd sn sub ab col dd a0 a1 a2 a3 a5 newId) ∧ h.Ns ns mN ∧ mN "__init__" = none ∧ OwnTail h mB mr := by
  unfold PySem.W.excIn at q
  split at q
  · rename_i dct cda slo lk
    split at q
    · rename_i C2 mr a0 a1 a2 a3 nw a5 em es
      simp only [Bool.and_eq_true, beq_iff_eq, Bool.not_eq_true'] at q
      obtain ⟨⟨⟨⟨⟨rfl, rfl⟩, nodel⟩, tl⟩, okn⟩, noini⟩ := q
      obtain ⟨nm, bs, mro, ns, qn, hd, sn, sub, ab, col, del⟩ := cda
      dsimp only at em nodel okn noini
      subst em nodel
      have esl : slo = #[a0, a1, a2, a3, some (.builtin nw), a5] := by
        obtain ⟨ll⟩ := slo
        simp only at es
        rw [es]
      subst esl
      exact ⟨mr, ns, nm, qn, bs, hd, sn, sub, ab, col, dct, a0, a1, a2, a3, a5, _, kin _ _ lk, Heap.Ns.of_isNs (PySem.W.isNs_of_in kin okn), PySem.W.nsMap_none_of_in kin okn noini, PySem.W.tail_of_in kin tl⟩
    · cases q
  · cases q
section
variable {K : Fg} {n : Str} {C x : Addr}
theorem looks_ty {M : Model} {h : Heap} {o : Obj} (e : h.get? x = some o) (c : o.cls = .ref C) : PySem.W.Looks M h (typeOf (.ref x)) (.ref C) := c ▸ (PySem.W.Looks.ld e).andThen .now
variable {prog : Program} {w : World} {A : Around} {E : Value → Shared → Prop}
open Builtin Builtin.ObjectAttr Builtin.Getset_descriptor in
theorem exc_get {R : Result → Shared → Prop} {tp : Value} {o : Obj} {s : Shared} (F : ExcC K n C) (kin : K.In s.heap) (e : s.heap.get? x = some o) (c : o.cls = .ref C) (h : R (.ok (.ret (.ref C))) s) :
    codeAny (model prog w) A (.call (.builtin "getset_descriptor.__get__") ⟨[.builtin "object.__class__", .ref x, tp], []⟩) R s := by
  obtain ⟨hh, g, dr, t, os⟩ := s
  have L0 := looks_ty (M := model prog w) e c
  have L1 := PySem.W.looks_mroIn (M := model prog w) kin F.mo
  refine codeAny_call_builtin PySem.W.KF.slot_gs.plain PySem.W.KF.entry_gs (PySem.W.KF.slot_gs.check _ _ _ _ _ _ _ _ PySem.W.KF.type_class (PySem.W.KF.args_gs _ _ _) ?_)
  unfold Builtin.«getset_descriptor.__get__» descrGet
  rw [PySem.W.dga_obj]
  refine wpAny_bind (wpAny_pure ?_)
  unfold descrGetter descrCheckInstance descrNameAndClass isInstance
  simp only [PySem.W.KF.owner_class]
  repeat lk
  refine ⟨Code.quiet_builtin _ (by decide +kernel), codeAny_builtin PySem.W.KF.entry_class ?_⟩
  unfold Builtin.«object.__class__» shownTypeOf
  repeat lk
  exact h
theorem exc_check {M : Model} {o : Obj} {s : Shared} {nameV : Value} {Q : Unit → Shared → Prop} (F : ExcC K n C) (kin : K.In s.heap) (e : s.heap.get? x = some o) (c : o.cls = .ref C) (h : Q () s) :
    wpAny M A (checkBuiltinCall "BaseException.__getattribute__" ⟨[.ref x, nameV], []⟩) Q E s := by
  obtain ⟨hh, g, dr, t, os⟩ := s
  have L0 := looks_ty (M := M) e c
  have L1 := PySem.W.looks_mroIn (M := M) kin F.be
  have kd : builtinKind "BaseException.__getattribute__" = some .slot := by decide +kernel
  have sp : splitId "BaseException.__getattribute__" = some ("BaseException", "__getattribute__") := by decide +kernel
  have ao := PySem.F.args_bexc_ga (.ref x) nameV
  simp only [checkBuiltinCall, kd, sp]
  refine wpAny_bind ?_
  unfold isInstance
  refine wpAny_bind (L0.at (L1.at ?_))
  repeat wp_step
  exact h
theorem exc_entry {tk : Tok} {o : Obj} {s : Shared} {Q : Fin → Shared → Prop} (F : ExcC K n C) (kin : K.In s.heap) (e : s.heap.get? x = some o) (c : o.cls = .ref C) (h : Q (.done (.ret (.ref C))) s) :
    wpAny (model prog w) A (Builtin.«object.__getattribute__» ⟨[.ref x, .str "__class__" tk], []⟩) Q E s := by
  obtain ⟨hh, g, dr, t, os⟩ := s
  have L0 := looks_ty (M := model prog w) e c
  have L1 := PySem.W.looks_findIn (M := model prog w) kin F.cl
  have t5 : (⟨hh, g, dr, t, os⟩ : Shared).TypeIs (.builtin "object.__class__") "getset_descriptor" := PySem.F.typeOf_object_class
  have f5 := PySem.F.typeOf_object_class
  have f6 := PySem.F.slot_gs_get.lookup
  have f7 := PySem.F.slot_gs_set.lookup
  repeat (any_goals (first | assumption | with_reducible refine L0.at ?_ | with_reducible refine L1.at ?_ | wp_step))
  refine exc_get F kin e c ?_
  repeat (any_goals (first | assumption | wp_step))
end
end VL

set_option Elab.async false
set_option linter.all false
set_option maxRecDepth 100000
set_option maxHeartbeats 4000000
namespace VL
open PySem PySem.Spec PyProof.Rows L2
section
variable {K : Fg} {n : Str} {C x : Addr} {prog : Program} {w : World} {A : Around} {E : Value → Shared → Prop}
theorem exc_class {o : Obj} {s : Shared} {Q : Option Value → Shared → Prop} (F : ExcC K n C) (kin : K.In s.heap) (e : s.heap.get? x = some o) (c : o.cls = .ref C) (h : Q (some (.ref C)) { s with toks := s.toks + 1 }) :
    wpAny (model prog w) A (getAttr? (.ref x) "__class__") Q E s := by
  obtain ⟨hh, g, dr, t, os⟩ := s
  have L0 := looks_ty (M := model prog w) e c
  have L1 := PySem.W.looks_findIn (M := model prog w) kin F.ga
  have L2 := PySem.W.looks_findIn (M := model prog w) kin F.gt
  have b3 := PySem.F.attr_ValueError.ga.bind (.ref x)
  have n2 : (Value.builtin "BaseException.__getattribute__" == Value.builtin "object.__getattribute__") = false := by decide +kernel
  have n1 : (onTheHeap (Value.ref C) && Value.builtin "BaseException.__getattribute__" == Value.builtin "object.__getattribute__") = false := by rw [n2]; rfl
  have go : ∀ {tk : Tok} {R : Result → Shared → Prop} {A' : Around}, R (.ok (.ret (.ref C))) ⟨hh, g, dr, t + 1, os⟩ → codeAny (model prog w) A' (.call (.builtin "BaseException.__getattribute__") ⟨[.ref x, .str "__class__" tk], []⟩) R ⟨hh, g, dr, t + 1, os⟩ := fun {tk R A'} q =>
    codeAny_call_builtin PySem.F.attr_ValueError.ga.plain PySem.F.entry_bexc_ga (exc_check (s := ⟨hh, g, dr, t + 1, os⟩) F kin e c (exc_entry (s := ⟨hh, g, dr, t + 1, os⟩) F kin e c q))
  unfold getAttr? getAttrBy? getAttrBy
  repeat (any_goals (first | assumption | with_reducible refine L0.at ?_ | with_reducible refine L1.at ?_ | with_reducible refine L2.at ?_ | wp_step))
  refine go ?_
  repeat (any_goals (first | assumption | wp_step))
theorem looks_isType {M : Model} {h : Heap} (F : ExcC K n C) (kin : K.In h) : PySem.W.Looks M h (isType (.ref C)) true := by
  obtain ⟨_, _, _, _, _, _, _, _, _, _, _, _, _, _, _, _, hC⟩ := cls_obj kin F.ex
  intro A' Q' E' s' k q
  unfold isType loadHead
  exact wpAny_bind (wpAny_loadPart (k _ _ hC) (wpAny_pure q))
theorem kitx_exc (F : ExcC K n C) : PySem.W.KitX K (.ref x) (.ref C) (fun h => ∃ o, h.get? x = some o ∧ o.cls = .ref C) where
  ty := fun M h _ ⟨o, e, c⟩ => looks_ty e c
  it := fun M h kin _ => looks_isType F kin
  ne := fun h tp dd its m sl kin htp => by
    obtain ⟨_, _, _, _, _, _, _, _, _, _, _, _, _, _, _, _, hC⟩ := cls_obj kin F.ex
    refine Bool.eq_false_iff.mpr fun q => ?_
    have z : C = tp := Value.ref.inj (beq_iff_eq.mp q)
    subst z
    rw [htp] at hC
    have z2 := congrArg (fun z : Option Obj => z.map (·.cls)) hC
    simp [excClassObj] at z2
  ca := fun {_ _ _ _ _ s} kin ⟨o, e, c⟩ k => exc_class F kin e c k
end
/-! ### isinstance of an exception -/
inductive IsX (K : Fg) (D : Str) : List (Str × Bool) → Prop
  | nil : IsX K D []
  | cons {n : Str} {b : Bool} {t : List (Str × Bool)} {C dC : Addr} : ExcC K n C → PySem.W.nsIn K mainGlobals D = some (some (.ref dC)) → PySem.W.kitOne K (.ref C) (.ref dC) = some b → IsX K D t → IsX K D ((n, b) :: t)
inductive IsT (K : Fg) (D : String) : List (Str × Bool) → Prop
  | nil : IsT K D []
  | cons {n : Str} {b : Bool} {t : List (Str × Bool)} {C : Addr} : ExcC K n C → PySem.W.kitOne K (.ref C) (.type D) = some b → IsT K D t → IsT K D ((n, b) :: t)
theorem lookup_cons_some {n m : Str} {b c : Bool} {t : List (Str × Bool)} (h : List.lookup m ((n, b) :: t) = some c) : (m = n ∧ c = b) ∨ List.lookup m t = some c := by
  rw [List.lookup_cons] at h
  split at h
  · rename_i q; cases h; exact .inl ⟨by simpa using q, rfl⟩
  · exact .inr h
theorem IsX.get {K : Fg} {D : Str} {t : List (Str × Bool)} (h : IsX K D t) {n : Str} {b : Bool} (e : t.lookup n = some b) : ∃ C dC, ExcC K n C ∧ PySem.W.nsIn K mainGlobals D = some (some (.ref dC)) ∧ PySem.W.kitOne K (.ref C) (.ref dC) = some b := by
  induction h with
  | nil => cases e
  | cons h1 h2 h3 _ ih =>
    rcases lookup_cons_some e with ⟨rfl, rfl⟩ | e
    · exact ⟨_, _, h1, h2, h3⟩
    · exact ih e
theorem IsT.get {K : Fg} {D : String} {t : List (Str × Bool)} (h : IsT K D t) {n : Str} {b : Bool} (e : t.lookup n = some b) : ∃ C, ExcC K n C ∧ PySem.W.kitOne K (.ref C) (.type D) = some b := by
  induction h with
  | nil => cases e
  | cons h1 h3 _ ih =>
    rcases lookup_cons_some e with ⟨rfl, rfl⟩ | e
    · exact ⟨_, h1, h3⟩
    · exact ih e
theorem isxD_some {t : List (Str × Bool)} {d r : D} (h : isxD t d = some r) : ∃ n p b, d = .dict [(.str "exc", .str n), p] ∧ t.lookup n = some b ∧ r = .bool b := by
  unfold isxD at h
  split at h
  · rename_i k n p
    split at h
    · rename_i hk
      subst hk
      unfold isxL at h
      cases e : List.lookup n t with
      | none => rw [e] at h; cases h
      | some b => rw [e] at h; cases h; exact ⟨n, p, b, rfl, e, rfl⟩
    · cases h
  · cases h
section
variable {X : Cx} {a : Expr} {f : Dv → Option D} {p pos : Pos}
theorem isx_call {pins : List (Addr × Obj)} {σ : St} {H Z : Hp} {s : Shared} {x : Addr} {n : Str} {C : Addr} {c : Value} {pr : D × D} {b : Bool} {A : Around} {E : Value → Shared → Prop} {Q : Value → Shared → Prop} (I : Inv X pins σ H s) (zh : Same Z H) (r : Rep X.K Z (.ref x) (.dict [(.str "exc", .str n), pr])) (F : ExcC X.K n C) (ko : PySem.W.kitOne X.K (.ref C) c = some b)
    (h : ∀ tk, Q (.bool b) { s with toks := tk }) : wpAny (model X.prog X.w) A (call (.builtin "isinstance") [.ref x, c]) Q E s := by
  cases r with
  | opq q =>
    cases q with
    | @exc _ C' dx' k' h1 h2 _ =>
      have : C' = C := by have := h1.symm.trans F.nm; simpa using this
      subst this
      have q : ObjOk X.prog X.w H s.heap x (exO x C' dx') := by
        rcases h2 with h2 | ⟨ob, h2⟩
        · exact I.hok x _ (zh _ _ h2)
        · exact (I.hok x _ (zh _ _ h2)).2
      obtain ⟨o, q1, q2, _⟩ := q.1
      exact PySem.W.kia_one (kitx_exc F) I.kIn ⟨o, q1, q2⟩ ko (fun z => nomatch z) h
    | dct h1 _ => exact absurd h1 fun z => dctD_no z
theorem ev_isx {x : Str} {t : List (Str × Bool)} {p2 : Pos} (T : IsX X.K x t) (hg : Gl X "isinstance") (hm : X.mg "isinstance" = none) (hgT : Gl X x) (ha : EV X a f) (hdT : (x == ("__debug__" : Str)) = false := by decide)
    (he : starEach (a :: [.Name x p2]) X.env = (false, eval a X.env) :: starEach [.Name x p2] X.env := by rfl) (he2 : starEach ((.Name x p2) :: []) X.env = (false, eval (.Name x p2) X.env) :: starEach [] X.env := by rfl) (hpl : (backTo pos (starEach [.Name x p2] X.env)).any (·.1) = false := by rfl) :
    EV X (.Call (.Name "isinstance" p) [a, .Name x p2] [] pos) (o1 f (isxD t)) := by
  intro pins s σ H Q I h
  obtain ⟨H₀, Z₀, Z, δ, d, hh, e, k⟩ := h
  obtain ⟨y, e1, e⟩ := bind_some e
  obtain ⟨n, pr, b, rfl, e2, rfl⟩ := isxD_some e
  obtain ⟨C, dC, F, hD, ko⟩ := T.get e2
  have hmT := PySem.W.mg_of I.ok.mod.kin I.ok.mod.glob hD
  have cr : CallR X (.builtin "isinstance") (fun xs H Q => ∃ z Z, xs = [z, .ref dC] ∧ Same Z H ∧ Rep X.K Z z (.dict [(.str "exc", .str n), pr]) ∧ Q (.bl b) H) := by
    intro pins s σ H xs us Q I rv h
    obtain ⟨z, Z, rfl, zh, r, q⟩ := h
    obtain ⟨u, w', rfl, r1, r2⟩ := vals2 rv
    cases (show w' = Value.ref dC from r2)
    cases r with
    | @opq a' _ q' =>
      cases (show u = Value.ref a' from r1)
      exact isx_call I zh (.opq q') F ko fun tk => ⟨.bl b, H, I.tok _, rfl, q⟩
  exact pe_callB cr hg hm PyProof.Rows.boot_isinstance (pa_cons ha (pa_cons (pe_glob (v := .ref dC) hgT hmT rfl hdT) pa_nil he2) he) (by decide) (by decide) he hpl pins s σ H Q I
    ⟨H₀, Z₀, Z, δ, _, hh, e1, fun v Z1 H1 hh1 s1 r1 => ⟨v, Z1, rfl, hh1.zh, r1, k _ Z1 H1 hh1 s1 (.bl b)⟩⟩
theorem ev_isxT {x : Str} {D : String} {t : List (Str × Bool)} {p2 : Pos} (T : IsT X.K D t) (hg : Gl X "isinstance") (hm : X.mg "isinstance" = none) (hgT : Gl X x) (hmT : X.mg x = none) (ha : EV X a f) (hvT : bootBuiltins x = some (.type D) := by decide +kernel) (hnT : x ≠ "__name__" := by decide) (hdT : (x == ("__debug__" : Str)) = false := by decide)
    (he : starEach (a :: [.Name x p2]) X.env = (false, eval a X.env) :: starEach [.Name x p2] X.env := by rfl) (he2 : starEach ((.Name x p2) :: []) X.env = (false, eval (.Name x p2) X.env) :: starEach [] X.env := by rfl) (hpl : (backTo pos (starEach [.Name x p2] X.env)).any (·.1) = false := by rfl) :
    EV X (.Call (.Name "isinstance" p) [a, .Name x p2] [] pos) (o1 f (isxD t)) := by
  intro pins s σ H Q I h
  obtain ⟨H₀, Z₀, Z, δ, d, hh, e, k⟩ := h
  obtain ⟨y, e1, e⟩ := bind_some e
  obtain ⟨n, pr, b, rfl, e2, rfl⟩ := isxD_some e
  obtain ⟨C, F, ko⟩ := T.get e2
  have cr : CallR X (.builtin "isinstance") (fun xs H Q => ∃ z Z, xs = [z, .ty D] ∧ Same Z H ∧ Rep X.K Z z (.dict [(.str "exc", .str n), pr]) ∧ Q (.bl b) H) := by
    intro pins s σ H xs us Q I rv h
    obtain ⟨z, Z, rfl, zh, r, q⟩ := h
    obtain ⟨u, w', rfl, r1, r2⟩ := vals2 rv
    cases (show w' = Value.type D from r2)
    cases r with
    | @opq a' _ q' =>
      cases (show u = Value.ref a' from r1)
      exact isx_call I zh (.opq q') F ko fun tk => ⟨.bl b, H, I.tok _, rfl, q⟩
  exact pe_callB cr hg hm PyProof.Rows.boot_isinstance (pa_cons ha (pa_cons (pe_bltn (v := .ty D) hgT hmT hvT rfl hnT hdT) pa_nil he2) he) (by decide) (by decide) he hpl pins s σ H Q I
    ⟨H₀, Z₀, Z, δ, _, hh, e1, fun v Z1 H1 hh1 s1 r1 => ⟨v, Z1, rfl, hh1.zh, r1, k _ Z1 H1 hh1 s1 (.bl b)⟩⟩
end
end VL

set_option Elab.async false
set_option linter.all false
set_option maxRecDepth 100000
set_option maxHeartbeats 4000000
namespace VL
open PySem PySem.Spec PyProof.Rows L2
/-! ### code that raises -/
theorem none_of_same {H H' : Hp} {b : Addr} (s : Same H H') (h : H' b = none) : H b = none := by
  cases e : H b with
  | none => rfl
  | some o => rw [s b o e] at h; cases h
inductive Flung (m : Nat) (X : Cx) (n : Xn) (Z H : Hp) (s : Shared) (e : Value) (s' : Shared) : Prop
  | made {x C : Addr} : m = 1 → PySem.W.nsIn X.K mainGlobals n.1 = some (some (.ref C)) → e = .ref x → s' = { s with heap := s'.heap } → MadeX s.heap s'.heap x (.ref C) none → n.2 = 0 → Flung m X n Z H s e s'
  | thrown {x C : Addr} {dx : Option Addr} {H' Z' : Hp} : m ≤ 1 → PySem.W.nsIn X.K mainGlobals n.1 = some (some (.ref C)) → e = .ref x → Thrown X.prog X.w X.stack H s x C H' s' dx → New Z H Z' H' → Z' x = some (exO x C dx) → RowAt Z' dx n.2 → H x = none → Flung m X n Z H s e s'
  | here {x C : Addr} {dx : Option Addr} {H' Z' : Hp} {pins : List (Addr × Obj)} {σ : St} : 1 ≤ m → PySem.W.nsIn X.K mainGlobals n.1 = some (some (.ref C)) → e = .ref x → Inv X pins σ H' s' → New Z H Z' H' → Z' x = some (exN x C dx) → RowAt (upd Z' x (exO x C dx)) dx n.2 → H x = none → Flung m X n Z H s e s'
  | held {x C L : Addr} {dx : Option Addr} {H1 H' Z' : Hp} {pins : List (Addr × Obj)} {σ : St} {s1 : Shared} : 1 ≤ m → PySem.W.nsIn X.K mainGlobals n.1 = some (some (.ref C)) → e = .ref x → X.env.frame = some L → Inv X pins σ H1 s1 → ThrownH X.prog X.w X.stack L H1 s1 x C H' s' dx → New Z H Z' H' → Z' x = some (exO x C dx) → RowAt Z' dx n.2 → H x = none → Flung m X n Z H s e s'
def tVX (m : Nat) (X : Cx) (f : Xf) : TS := fun _ σ H => ∃ H₀ Z₀ Z δ r, Hold X.K H₀ Z₀ Z δ σ H ∧ f δ = some r ∧ ∀ pins σ' H' Z' s e s', Hold X.K H₀ Z₀ Z' r.2 σ' H' → Same Z Z' → Inv X pins σ' H' s → Flung m X r.1 Z' H' s e s' → X.xe e s'
def tEX (m : Nat) (X : Cx) (f : Dv → Option Xn) : TE := fun σ H _ => ∃ H₀ Z₀ Z δ n, Hold X.K H₀ Z₀ Z δ σ H ∧ f δ = some n ∧ ∀ pins σ' H' Z' s e s', Hold X.K H₀ Z₀ Z' δ σ' H' → Same Z Z' → Inv X pins σ' H' s → Flung m X n Z' H' s e s' → X.xe e s'
def SX (m : Nat) (X : Cx) (st : Stmt) (f : Xf) : Prop := PS X st (tVX m X f)
def BX (m : Nat) (X : Cx) (st : List Stmt) (f : Xf) : Prop := PSs X st (tVX m X f)
def EX (m : Nat) (X : Cx) (e : Expr) (f : Dv → Option Xn) : Prop := PE X e (tEX m X f)
section
variable {m : Nat} {X : Cx} {e c : Expr} {es : List Expr} {f : Dv → Option D} {fs : Dv → Option (List D)} {ft : Dv → Option Bool} {fx : Dv → Option Xn} {st : Stmt} {sts body orelse : List Stmt} {s1 : Sf} {u u1 u2 : Xf} {pos p : Pos}
theorem SV.lift (h : SV X.nox st s1) : SV X st s1 := fun pins s σ H D I hw =>
  wpAny_mono (h pins s σ H D (I.wish _) hw) (fun _ _ q => q.unwish) fun _ _ z => False.elim z
theorem BV.lift (h : BV X.nox sts s1) : BV X sts s1 := PSs.nox h
theorem EV.lift (h : EV X.nox e f) : EV X e f := PE.nox h
theorem TV.lift (h : TV X.nox e ft) : TV X e ft := PT.nox h
theorem AV.lift (h : AV X.nox es fs) : AV X es fs := fun pos pins s σ H Q I hw =>
  wpAny_mono (h pos pins s σ H Q (I.wish _) hw) (fun _ _ ⟨vs, H', I', r, q⟩ => ⟨vs, H', I'.unwish, r, q⟩) fun _ _ z => False.elim z
theorem bx_no : BX m X sts xNo := fun _ _ _ _ _ _ ⟨_, _, _, _, _, _, e, _⟩ => nomatch e
theorem sx_ret (h : EX m X e fx) : SX m X (.Return (some e) pos) (xE fx) :=
  PS.imp (ps_ret h) fun D σ H q => by
    obtain ⟨H₀, Z₀, Z, δ, r, hh, e, k⟩ := q
    obtain ⟨n, e1, e⟩ := bind_some e
    cases e
    exact ⟨H₀, Z₀, Z, δ, n, hh, e1, k⟩
theorem sx_expr (h : EX m X e fx) (hs : swapsWith e none pos.line X.env = pure false := by rfl) : SX m X (.Expr e pos) (xE fx) :=
  PS.imp (ps_expr h hs) fun D σ H q => by
    obtain ⟨H₀, Z₀, Z, δ, r, hh, e, k⟩ := q
    obtain ⟨n, e1, e⟩ := bind_some e
    cases e
    exact ⟨H₀, Z₀, Z, δ, n, hh, e1, k⟩
theorem bx_here (h : SX m X st u) : BX m X (st :: sts) u :=
  PSs.imp (pss_cons h (u := fun _ _ _ => False) fun _ _ _ _ _ _ z => z.elim) fun D σ H q => q
theorem bx_next (h1 : SV X st s1) (h2 : BX m X sts u) : BX m X (st :: sts) (xSeq s1 u) :=
  PSs.imp (pss_cons h1 h2) fun D σ H q => by
    obtain ⟨H₀, Z₀, Z, δ, r, hh, e, k⟩ := q
    obtain ⟨⟨fl, δ'⟩, e1, e⟩ := bind_some e
    cases fl with
    | nx => exact ⟨H₀, Z₀, Z, δ, (.nx, δ'), hh, e1, fun σ' H' Z' hh' t' => ⟨H₀, Z₀, Z', δ', r, hh', e, fun pins σ2 H2 Z2 s e s' hh2 t2 I fl => k pins σ2 H2 Z2 s e s' hh2 (t'.trans t2) I fl⟩⟩
    | bk => cases e
    | ct => cases e
    | rt d => cases e
theorem bx_both (h : SX m X st u1) (h1 : SV X st s1) (h2 : BX m X sts u2) : BX m X (st :: sts) (xBoth u1 s1 u2) := fun pins s σ H D I q => by
  obtain ⟨H₀, Z₀, Z, δ, r, hh, e, k⟩ := q
  have e : (match u1 δ with | some r => some r | none => xSeq s1 u2 δ) = some r := e
  cases q1 : u1 δ with
  | some r1 => rw [q1] at e; cases e; exact bx_here h pins s σ H D I ⟨H₀, Z₀, Z, δ, r, hh, q1, k⟩
  | none => rw [q1] at e; exact bx_next h1 h2 pins s σ H D I ⟨H₀, Z₀, Z, δ, r, hh, e, k⟩
theorem sx_if (hc : TV X c ft) (ha : BX m X body u1) (hb : BX m X orelse u2) : SX m X (.If c body orelse pos) (xIf ft u1 u2) :=
  PS.imp (ps_if hc ha hb) fun D σ H q => by
    obtain ⟨H₀, Z₀, Z, δ, r, hh, e, k⟩ := q
    obtain ⟨x, e1, e⟩ := bind_some e
    refine ⟨H₀, Z₀, Z, δ, x, hh, e1, fun Z1 H1 hh1 t1 => ?_⟩
    cases x with
    | true => exact ⟨H₀, Z₀, Z1, δ, r, hh1, e, fun pins σ2 H2 Z2 s e s' hh2 t2 I fl => k pins σ2 H2 Z2 s e s' hh2 (t1.trans t2) I fl⟩
    | false => exact ⟨H₀, Z₀, Z1, δ, r, hh1, e, fun pins σ2 H2 Z2 s e s' hh2 t2 I fl => k pins σ2 H2 Z2 s e s' hh2 (t1.trans t2) I fl⟩
/-! ### raise -/
/-! ### a call that raises -/
def spX (K : Fg) (g : List D → Option Xn) : Sp := fun vs H _ E => ∃ Z as n, Same Z H ∧ Reps K Z vs as ∧ g as = some n ∧ ∀ C x dx Z' H', PySem.W.nsIn K mainGlobals n.1 = some (some (.ref C)) → New Z H Z' H' → Z' x = some (exO x C dx) → RowAt Z' dx n.2 → H x = none → E (.ref C) (some x) H'
structure CalX (P : Program) (w : World) (K : PySem.W.Frag) (mg : Str → Option Value) (base : Heap) (x : Str) (k : Nat) (g : List D → Option Xn) (dd : List D) : Prop where
  ex : ∃ (fa : Addr) (fd : FuncData) (ps : List Str) (ds : List Value) (dv : List V), FnOk P w K mg base (CXX P w) k fa fd ps (spX K g) ∧ mg x = some (.ref fa) ∧ PySem.W.keepIn K (.ref fa) = true ∧ Binds K fd ps ds ∧ Vals dv ds ∧ ∀ Z, Reps K Z dv dd
theorem ex_def {k : Nat} {x : Str} {g : List D → Option Xn} (Y : CalX X.prog X.w X.K X.mg X.base x k g []) (hr : Room k X.A) (hg : Gl X x) (ha : AV X (e :: es) fs) (hdb : (x == ("__debug__" : Str)) = false := by decide) (he : starEach (e :: es) X.env = (false, eval e X.env) :: starEach es X.env := by rfl)
    (hpl : (backTo pos (starEach es X.env)).any (·.1) = false := by rfl) (hm1 : m ≤ 1 := by decide) : EX m X (.Call (.Name x p) (e :: es) [] pos) (osX fs g) := by
  obtain ⟨fa, fd, ps, ds, dv, F, hm, hk, hb, hd, hdd⟩ := Y.ex
  intro pins s σ H Q I h
  obtain ⟨H₀, Z₀, Z, δ, n, hh, e0, k⟩ := h
  obtain ⟨as, e1, e0⟩ := bind_some e0
  refine wpAny_Call_Name_kw (ld_glob I hg hm ?_ hdb)
  refine PySem.W.callWith_K (h₀ := X.base) I.ok.mod.kin hk (thn (ha pos pins s σ H (fun vs H1 => ∃ Z1, Hold X.K H₀ Z₀ Z1 δ σ H1 ∧ Same Z Z1 ∧ Reps X.K Z1 vs as) I ⟨H₀, Z₀, Z, δ, as, hh, e1, fun vs Z1 H1 hh1 t1 r1 => ⟨Z1, hh1, t1, r1⟩⟩) fun us s1 ⟨vs, H1, I1, r, Z1, hh1, t1, r1⟩ => ⟨I1.kIn, ?_⟩) he hpl
  have r2 : Vals (vs ++ dv) (us ++ ds) := r.append hd
  have sp : spX X.K g (vs ++ dv) H1 Q (fun c ox H2 => ∃ C xx dx Z2, c = .ref C ∧ ox = some xx ∧ PySem.W.nsIn X.K mainGlobals n.1 = some (some (.ref C)) ∧ New Z1 H1 Z2 H2 ∧ Z2 xx = some (exO xx C dx) ∧ RowAt Z2 dx n.2 ∧ H1 xx = none) := ⟨Z1, as ++ [], n, hh1.zh, r1.append (hdd Z1), by rw [List.append_nil]; exact e0, fun C xx dx Z2 H2 hC n2 h2 hr2 h3 => ⟨C, xx, dx, Z2, rfl, rfl, hC, n2, h2, hr2, h3⟩⟩
  have hl : (us ++ ds).length = ps.length := by rw [← r2.length]; exact F.len _ _ _ _ sp
  refine wpAny_call (codeAny_mono (F.run X.A X.stack s1 H1 ⟨us, []⟩ (us ++ ds) (vs ++ dv) Q _ hr I1.env0 (hb s1 us I1.kIn hl) r2 sp) fun res s' hq => ?_)
  cases res with
  | error ee =>
    obtain ⟨xx, C', dx', H2, rfl, T, C, xx', dx, Z2, hC', hx', hC, n2, h2, hr2, h3⟩ := hq
    cases hx'
    cases hC'
    cases exO_one T.hok T.is (n2.zh _ _ h2)
    exact k pins σ H1 Z1 s1 _ s' hh1 t1 I1 (.thrown hm1 hC rfl T n2 h2 hr2 h3)
  | ok fl =>
    cases fl with
    | ret z => exact I1.after hq
    | next => exact False.elim hq
    | brk => exact False.elim hq
    | cont => exact False.elim hq
end
theorem New.raised {Z H Z2 H2 Z1 H1 : Hp} {x : Addr} {o u : HO} (n : New Z H Z2 H2) (zh : Same Z H) (hn : H x = none) (_ : New Z1 H1 Z2 H2) (hz : Z2 x = some u) (hu : noFz o = true := by rfl) : New Z H (upd Z2 x o) (upd H2 x o) where
  z := fun b v e => by rw [upd_ne (ne_of_none (zh b v e) hn)]; exact n.z b v e
  h := fun b v e => by rw [upd_ne (ne_of_none e hn)]; exact n.h b v e
  zh := fun b v e => by
    by_cases hb : b = x
    · subst hb; rw [upd_same] at e ⊢; exact e
    · rw [upd_ne hb] at e ⊢; exact n.zh b v e
  o := fun b hb => by
    have : b ≠ x := fun z => hb (by rw [z]; exact hn)
    rw [upd_ne this]; exact n.o b hb
  nf := n.nf.upd x hu
section
variable {P : Program} {w : World} {K : PySem.W.Frag} {mg : Str → Option Value} {base : Heap}
theorem fn_x {x qual : Str} {st : Stmt} {f : Addr} {fd : FuncData} {dV : Value} {N ps : List Str} {k : Nat} {fx : Xf} (F : FunV K x qual st f fd dV) (S : FnScope N ps (defScope st))
    (hb : ∀ (cdv : Value) (A : Around) (outer : List Env) (s : Shared) (H : Hp) (E : XK), Room k (A.deeper (envOfC qual (defScope st) s.heap.objs.size f cdv)) → BX 1 (cxOf (CXX P w) P w K mg base N qual (defScope st) f cdv A outer s H E) (defBody st) fx) :
    FnOk P w K mg base (CXX P w) (k + 1) f fd ps (spX K (runX N ps.length fx)) := by
  obtain ⟨oc, od, kV, doc, pm, an, cdv, ct, osl, rfl, lk, hcd⟩ := F.ex
  have some_of : ∀ {as : List D} {n : Xn}, runX N ps.length fx as = some n → as.length = ps.length ∧ ∃ δ', fx (startD N as) = some (n, δ') := fun {as n} h => by
    unfold runX at h
    split at h
    · rename_i hl
      obtain ⟨⟨n', δ'⟩, e, h⟩ := bind_some h
      cases h
      exact ⟨hl, δ', e⟩
    · cases h
  refine fn_of lk hcd S (fun vs H Q E h => ?_) fun A outer s H vs Q E hr hsp => ?_
  · obtain ⟨Z, as, n, zh, r, e, _⟩ := h
    rw [r.length]
    exact (some_of e).1
  · refine ⟨_, hb cdv A outer s H E hr, ?_⟩
    obtain ⟨Z, as, n, zh, r, e, kk⟩ := hsp
    obtain ⟨_, δ', e2⟩ := some_of e
    have hh := hold_start (N := N) zh r
    refine ⟨H, Z, Z, _, (n, δ'), hh, e2, fun pins σ' H' Z' s1 ee s2 h' z' I fl => ?_⟩
    have nw : New Z H Z' H' := ⟨z', h'.h0, h'.zh, h'.zb, h'.nf⟩
    cases fl with
    | @made xx C' _ hC' he hs hmd h0n =>
      subst he
      exact leave_made I hs hmd h'.h0 fun hn => kk C' xx none (upd Z' xx (exO xx C' none)) _ hC' (nw.trans (New.add h'.zh hn _)) upd_same (.inl h0n) (none_of_same h'.h0 hn)
    | @thrown xx C' dx' H2 Z2 _ hC' he T n2 hx hrr hn =>
      subst he
      exact leave_on I T (kk C' xx dx' Z2 H2 hC' (nw.trans n2) hx hrr (none_of_same h'.h0 hn)) (h'.h0.trans n2.h)
    | @here xx C' dx' H2 Z2 pins2 σ2 _ hC' he I2 n2 hx hrr hn =>
      subst he
      have hn0 := none_of_same h'.h0 hn
      exact leave_here I2 (n2.zh _ _ hx) hn0 (h'.h0.trans n2.h) (kk C' xx dx' (upd Z2 xx (exO xx C' dx')) (upd H2 xx (exO xx C' dx')) hC' ((nw.trans n2).raised zh hn0 n2 hx) upd_same hrr hn0)
    | @held xx C' L dx' H1 H2 Z2 pins2 σ2 s3 _ hC' he hL I2 T n2 hx hrr hn =>
      subst he
      have hn0 := none_of_same h'.h0 hn
      exact leave_held I2 hL T (kk C' xx dx' Z2 H2 hC' (nw.trans n2) hx hrr hn0) (h'.h0.trans n2.h)
end
end VL

set_option Elab.async false
set_option linter.all false
set_option maxRecDepth 100000
set_option maxHeartbeats 4000000
namespace VL
open PySem PySem.Spec PyProof.Rows L2
/-! ### try: body except W as n: suite -/
/-- of two exceptions' classes the handler's one is asked -/
theorem exc_match {K : Fg} {n : Str} {M : Model} {A : Around} {E : Value → Shared → Prop} {s : Shared} {x C W : Addr} {o : Obj} {Q : Bool → Shared → Prop} (kin : K.In s.heap) (F : ExcC K n C) (FW : PySem.W.excIn K W vMro "ValueError.__new__" = true) (hs : PySem.W.subIn K (.ref C) (.ref W) = some true)
    (e : s.heap.get? x = some o) (c : o.cls = .ref C) (h : Q true s) : wpAny M A (excMatches (.ref x) (.ref W)) Q E s := by
  obtain ⟨mr, ns, nm, qn, bs, hd, sn, sub, ab, col, dd, a0, a1, a2, a3, a5, mN, hW, hN, hni, TL⟩ := exc_obj kin FW
  obtain ⟨hh, g, d, t, os⟩ := s
  have cB : (Value.ref W :: mr).contains (.type "BaseException") = true := by rw [List.contains_cons, TL.hasType (b := true) (by decide +kernel), Bool.or_true]
  have L := PySem.W.looks_subIn (M := M) kin hs
  have L0 := looks_ty (M := M) e c
  have nt := tc_notTuple
  unfold excMatches
  repeat (first | with_reducible refine L0.at ?_ | with_reducible refine L.at ?_ | with_reducible refine wpAny_loadPart_at hW ?_ | (with_reducible refine wpAny_isSubtype_exc hW ?_; rw [cB]) | wp_step)
  exact h
inductive HndL (K : Fg) (W : Addr) : List Str → Prop
  | nil : HndL K W []
  | cons {n : Str} {t : List Str} {C : Addr} : ExcC K n C → PySem.W.subIn K (.ref C) (.ref W) = some true → HndL K W t → HndL K W (n :: t)
theorem HndL.get {K : Fg} {W : Addr} {t : List Str} (h : HndL K W t) {n : Str} (e : t.contains n = true) : ∃ C, ExcC K n C ∧ PySem.W.subIn K (.ref C) (.ref W) = some true := by
  induction h with
  | nil => cases e
  | cons h1 h2 _ ih =>
    rw [List.contains_cons, Bool.or_eq_true] at e
    rcases e with e | e
    · have := eq_of_beq e; subst this; exact ⟨_, h1, h2⟩
    · exact ih e
structure Hnd (K : Fg) (W : Str) (ns : List Str) : Prop where
  ex : ∃ wC, PySem.W.nsIn K mainGlobals W = some (some (.ref wC)) ∧ PySem.W.excIn K wC vMro "ValueError.__new__" = true ∧ HndL K wC ns
/-- the exception's own record has changed, else nothing but slots of frames -/
theorem Thrown.move {dx : Option Addr} {P : Program} {w : World} {l : List Env} {H H2 : Hp} {s s2 : Shared} {x C : Addr} (T : Thrown P w l H s x C H2 s2 dx) (hf : ∀ b ∈ frs l, ∃ o, s.heap.get? b = some o ∧ ∀ vs, o.data ≠ .fields vs) (hn : ∀ b ∈ frs l, H b = none) :
    ∃ B t, FlyX B l x (.ref C) t s2.heap dx ∧ ∀ h' t', FlyX B l x (.ref C) t' h' dx → s2.heap.UpToSlots h' → Thrown P w l H s x C H2 { s2 with heap := h' } dx := by
  obtain ⟨B, t, fl, hB1, hB2⟩ := T.fly
  refine ⟨B, t, fl, fun h' t' fl' sm => ?_⟩
  have slot : ∀ b o, s.heap.get? b = some o → H b = none → b ∈ frs l → ∃ sl, h'.get? b = some { o with slots := sl } := fun b o q n hb => by
    obtain ⟨sl2, e2⟩ := T.un.slot b o q n hb (fun z => nomatch z)
    obtain ⟨o', ho', hd⟩ := hf b hb
    rw [q] at ho'; cases ho'
    obtain ⟨sl3, e3⟩ := sm b _ e2 hd
    exact ⟨sl3, e3⟩
  refine ⟨T.os, T.bare, ⟨fun b o q n hb _ => fl'.1.1 b o (hB2 b o q n hb), fun b o q n hb _ => slot b o q n hb, fun b o q n z => T.un.free b o q n z, fun b o q _ => ?_, T.un.tups, T.un.frzs, T.un.tbls⟩, hok_fly (l := []) (t := t) T.hok T.is fl.1.1 fl' hB1, T.sm, T.is, ⟨B, t', fl', hB1, hB2⟩⟩
  cases q2 : H2 b with
  | some ho =>
    by_cases hb : b = x
    · subst hb; obtain ⟨ob, e1, _⟩ := fl'.there; exact ⟨ob, e1⟩
    · obtain ⟨ob, e1⟩ := hB1 b ho q2 hb; exact ⟨ob, fl'.1.1 b ob e1⟩
  | none =>
    have n : H b = none := by
      cases e : H b with
      | none => rfl
      | some z => rw [T.sm b z e] at q2; cases q2
    by_cases hb : b ∈ frs l
    · obtain ⟨sl, e⟩ := slot b o q n hb; exact ⟨_, e⟩
    · exact ⟨o, fl'.1.1 b o (hB2 b o q n hb)⟩
section
variable {X : Cx} {pins : List (Addr × Obj)} {σ : St} {H : Hp} {s : Shared}
/-- a name goes -/
theorem del_ok {M : Model} {A : Around} {E : Value → Shared → Prop} {i : Nat} {x : Str} {v : V} {Q : Unit → Shared → Prop} (I : Inv X pins σ H s) (hN : X.N.Nodup) (hi : X.N[i]? = some x) (hk : X.env.scope.names.lookup x = some .local) (hv : σ[i]? = some (some v))
    (h : ∀ s', Inv X pins (σ.set i none) H s' → Q () s') : wpAny M A (unbindName X.env x) Q E s := by
  obtain ⟨m, hn, hl⟩ := id I.loc
  have hcls : (X.env.scope.kind == .class || (X.env.scope.kind == .module && X.env.locals != X.env.globals)) = false := by rw [I.ok.kind]; rfl
  have hiσ : i < σ.length := by rw [I.len]; exact (List.getElem?_eq_some_iff.mp hi).1
  have cne := I.cne
  obtain ⟨u, rv, lk⟩ := hl i x v hi hv (.inl hk)
  have hmx : m x = some u := by
    rcases lk with ⟨_, q⟩ | ⟨q, _⟩
    · exact q
    · rcases q with q | q
      · rw [show X.env.kindOf x = some .local from hk] at q; cases q
      · rw [show X.env.kindOf x = some .local from hk] at q; cases q
  refine wpAny_unbindName_local hk hn hmx hcls fun h' u' hn' hs => ?_
  obtain ⟨oL, _, _, hoL, _⟩ := id hn
  have tracked : HOk X.prog X.w H h' := fun b ob e => by
    refine (I.hok b ob e).stay (fun c w' hc q => (hs.2 c ?_).trans q) (fun _ q => q) fun _ _ q => q
    rintro rfl
    rcases hc with z | hc
    · rw [← z, I.free] at e; cases e
    · rw [I.free] at hc; cases hc
  refine h _ ⟨I.ok, I.os, I.bare, ⟨fun b o e n hb hx => ?_, fun b o e n hb hx => ?_, I.base.free, fun b o e hx => ?_, I.base.tups, I.base.frzs, I.base.tbls⟩, ⟨_, hn', fun j y v' e1 e2 e3 => ?_⟩, fun y c e => ?_, I.free, I.freeC, fun p hp => ?_, tracked, by simpa using I.len⟩
  · exact (hs.2 b (Nat.ne_of_lt (Nat.lt_of_lt_of_le (Heap.lt_size e) I.ok.above))).trans (I.base.keep b o e n hb hx)
  · obtain ⟨sl, e1⟩ := I.base.slot b o e n hb hx
    exact ⟨sl, (hs.2 b (Nat.ne_of_lt (Nat.lt_of_lt_of_le (Heap.lt_size e) I.ok.above))).trans e1⟩
  · obtain ⟨o', e1⟩ := I.base.there b o e hx
    exact ⟨o', (hs.2 b (Nat.ne_of_lt (Nat.lt_of_lt_of_le (Heap.lt_size e) I.ok.above))).trans e1⟩
  · by_cases hj : j = i
    · subst hj
      rw [List.getElem?_set_self hiσ] at e2
      cases e2
    · rw [List.getElem?_set_ne (Ne.symm hj)] at e2
      obtain ⟨z', r', q⟩ := hl j y v' e1 e2 e3
      refine ⟨z', r', ?_⟩
      rcases q with ⟨k, e⟩ | ⟨k, c, e, z⟩
      · refine .inl ⟨k, ?_⟩
        have : y ≠ x := fun e => hj (nodup_ix hN e1 (e ▸ hi))
        simp [this, e]
      · exact .inr ⟨k, c, e, z.sameBut hs (cne y c e)⟩
  · obtain ⟨w', z⟩ := I.cell y c e
    exact ⟨w', z.sameBut hs (cne y c e)⟩
  · obtain ⟨e, n, ne, nf, d⟩ := I.pin p hp
    exact ⟨(hs.2 p.1 ne).trans e, n, ne, nf, d⟩
/-- behind an except suite: its name goes -/
theorem unb_ok {M : Model} {A : Around} {E : Value → Shared → Prop} {i : Nat} {x : Str} {pos : Pos} {Q : Unit → Shared → Prop} (I : Inv X pins σ H s) (hN : X.N.Nodup) (hi : X.N[i]? = some x) (hk : X.env.scope.names.lookup x = some .local)
    (h : ∀ s', Inv X pins (σ.set i none) H s' → Q () s') : wpAny M A (do bindName X.env x .none; unbindBehindTheSuite X.env x pos) Q E s := by
  have hiσ : i < σ.length := by rw [I.len]; exact (List.getElem?_eq_some_iff.mp hi).1
  refine wpAny_bind (wpAny_bindName (store_ok I hN hi (.inl hk) (v := .non) (u := .none) rfl (fun s1 I1 => ?_) (.inr hk)))
  unfold unbindBehindTheSuite
  refine wpAny_onRaise ?_
  refine del_ok (v := .non) I1 hN hi hk (List.getElem?_set_self hiσ) fun s2 I2 => ?_
  rw [List.set_set] at I2
  exact h s2 I2
end
theorem Hold.unset {K : Fg} {H₀ Z₀ Z H : Hp} {δ : Dv} {σ : St} (h : Hold K H₀ Z₀ Z δ σ H) (i : Nat) : Hold K H₀ Z₀ Z (δ.set i .un) (σ.set i none) H where
  zh := h.zh
  h0 := h.h0
  z0 := h.z0
  zb := h.zb
  len := by simp [h.len]
  fz := fun j e q => by
    by_cases hj : i = j
    · subst hj
      have hl : i < δ.length := by have := (List.getElem?_eq_some_iff.mp q).1; simpa using this
      rw [List.getElem?_set_self hl] at q
      cases q
    · rw [List.getElem?_set_ne hj] at q
      obtain ⟨u, a, b⟩ := h.fz j e q
      exact ⟨u, by rw [List.getElem?_set_ne hj]; exact a, b⟩
  own := fun j es q => by
    by_cases hj : i = j
    · subst hj
      have hl : i < δ.length := by have := (List.getElem?_eq_some_iff.mp q).1; simpa using this
      rw [List.getElem?_set_self hl] at q
      cases q
    · rw [List.getElem?_set_ne hj] at q ⊢
      exact h.own j es q
  dja := fun j k ds es a hjk q1 q2 => by
    have f : ∀ {m : Nat} {ds : Oc}, (δ.set i .un)[m]? = some (.own ds) → i ≠ m ∧ δ[m]? = some (.own ds) := fun {m ds} q => by
      by_cases hm : i = m
      · subst hm
        have hl : i < δ.length := by have := (List.getElem?_eq_some_iff.mp q).1; simpa using this
        rw [List.getElem?_set_self hl] at q
        cases q
      · rw [List.getElem?_set_ne hm] at q; exact ⟨hm, q⟩
    obtain ⟨a1, b1⟩ := f q1
    obtain ⟨a2, b2⟩ := f q2
    rw [List.getElem?_set_ne a1, List.getElem?_set_ne a2]
    exact h.dja j k ds es a hjk b1 b2
  fr := h.fr.put (fun _ z => nomatch z) fun _ hj => List.getElem?_set_ne hj
  nf := h.nf
/-- the context of a try's body, of an except suite -/
abbrev cxT (X : Cx) (pn : List (Addr × Obj)) (E : Value → Shared → Prop) : Cx := { X with pn := pn, xe := E }
abbrev cxH (X : Cx) (x : Addr) : Cx := { X with A := X.A.mark (some (.ref x)), calm := false, xe := fun _ _ => False }
theorem Inv.toT {X : Cx} {pins : List (Addr × Obj)} {σ : St} {H : Hp} {s : Shared} (I : Inv X pins σ H s) (E : Value → Shared → Prop) : Inv (cxT X (X.pn ++ pins) E) [] σ H s :=
  ⟨⟨I.ok.mod, I.ok.kind, I.ok.glob, I.ok.blt, I.ok.above, I.ok.inj, I.ok.has, I.ok.cab, I.ok.hd, I.ok.frames, I.ok.stk, I.ok.exf, I.ok.bs, I.ok.bsz, I.ok.noex, I.ok.exfs, I.ok.funs, I.ok.frf⟩, I.os, I.bare, I.base, I.loc, I.cell, I.free, I.freeC, fun p hp => I.pin p (by simpa using hp), I.hok, I.len⟩
theorem Inv.ofT {X : Cx} {pins pins' : List (Addr × Obj)} {σ : St} {H : Hp} {s : Shared} {E : Value → Shared → Prop} (I : Inv (cxT X (X.pn ++ pins) E) pins' σ H s) : Inv X pins σ H s :=
  ⟨⟨I.ok.mod, I.ok.kind, I.ok.glob, I.ok.blt, I.ok.above, I.ok.inj, I.ok.has, I.ok.cab, I.ok.hd, I.ok.frames, I.ok.stk, I.ok.exf, I.ok.bs, I.ok.bsz, I.ok.noex, I.ok.exfs, I.ok.funs, I.ok.frf⟩, I.os, I.bare, I.base, I.loc, I.cell, I.free, I.freeC, fun p hp => I.pin p (List.mem_append_left _ hp), I.hok, I.len⟩
theorem Inv.toH {X : Cx} {pins : List (Addr × Obj)} {σ : St} {H : Hp} {s : Shared} (I : Inv X pins σ H s) (x : Addr) : Inv (cxH X x) pins σ H s :=
  ⟨⟨I.ok.mod, I.ok.kind, I.ok.glob, I.ok.blt, I.ok.above, I.ok.inj, I.ok.has, I.ok.cab, (fun z => (nomatch z)), I.ok.frames, I.ok.stk, I.ok.exf, I.ok.bs, I.ok.bsz, I.ok.noex, I.ok.exfs, I.ok.funs, I.ok.frf⟩, I.os, I.bare, I.base, I.loc, I.cell, I.free, I.freeC, I.pin, I.hok, I.len⟩
theorem Inv.ofH {X : Cx} {pins : List (Addr × Obj)} {σ : St} {H : Hp} {s : Shared} {x : Addr} (hc : X.A.handled = none) (I : Inv (cxH X x) pins σ H s) : Inv X pins σ H s :=
  ⟨⟨I.ok.mod, I.ok.kind, I.ok.glob, I.ok.blt, I.ok.above, I.ok.inj, I.ok.has, I.ok.cab, fun _ => hc, I.ok.frames, I.ok.stk, I.ok.exf, I.ok.bs, I.ok.bsz, I.ok.noex, I.ok.exfs, I.ok.funs, I.ok.frf⟩, I.os, I.bare, I.base, I.loc, I.cell, I.free, I.freeC, I.pin, I.hok, I.len⟩
/-- the exception lies still: from here on it is kept as it is -/
theorem Inv.still {dx : Option Addr} {X : Cx} {pins : List (Addr × Obj)} {σ : St} {H : Hp} {s : Shared} {x C : Addr} {ob : Obj} (I : Inv X pins σ H s) (hx : H x = some (exO x C dx)) (ho : s.heap.get? x = some ob) : Inv X pins σ (upd H x (.frz ob (exO x C dx))) s := by
  have ne : ∀ {b : Addr}, H b = none → b ≠ x := fun {b} h z => by subst z; rw [hx] at h; cases h
  have up : ∀ {b : Addr}, H b = none → upd H x (.frz ob (exO x C dx)) b = none := fun {b} h => by rw [upd_ne (ne h)]; exact h
  refine ⟨I.ok, I.os, I.bare, ⟨I.base.keep, I.base.slot, fun b o e n hb => up (I.base.free b o e n hb), I.base.there, fun b xs e => ?_, fun b o u e => ?_, fun b ps e => ?_⟩, I.loc, I.cell, up I.free, fun y c e => up (I.freeC y c e), fun p hp => ?_, fun b o e => ?_, I.len⟩
  · have q := I.base.tups b xs e
    by_cases hb : b = x
    · subst hb; rw [hx] at q; cases q
    · rw [upd_ne hb]; exact q
  · have q := I.base.frzs b o u e
    by_cases hb : b = x
    · subst hb; rw [hx] at q; cases q
    · rw [upd_ne hb]; exact q
  · obtain ⟨m, q⟩ := I.base.tbls b ps e
    by_cases hb : b = x
    · subst hb; rw [hx] at q; cases q
    · exact ⟨m, by rw [upd_ne hb]; exact q⟩
  · obtain ⟨e, n, r⟩ := I.pin p hp
    exact ⟨e, up n, r⟩
  · have st : ∀ {b' : Addr} {o' : HO}, ObjOk X.prog X.w H s.heap b' o' → ObjOk X.prog X.w (upd H x (.frz ob (exO x C dx))) s.heap b' o' := fun {b' o'} q => by
      refine q.stay (fun _ _ _ z => z) (fun c z => ?_) fun c xs z => ?_
      · by_cases hc : c = x
        · subst hc; rw [hx] at z; cases z
        · rw [upd_ne hc]; exact z
      · by_cases hc : c = x
        · subst hc; rw [hx] at z; cases z
        · rw [upd_ne hc]; exact z
    by_cases hb : b = x
    · subst hb
      rw [upd_same] at e
      cases e
      exact ⟨ho, st (I.hok b _ hx)⟩
    · rw [upd_ne hb] at e
      exact st (I.hok b o e)
theorem New.still {dx : Option Addr} {Z H Z2 H2 : Hp} {x C : Addr} {ob : Obj} (n : New Z H Z2 H2) (zh : Same Z H) (hz : Z2 x = some (exO x C dx)) (hn : H x = none) : New Z H (upd Z2 x (.frz ob (exO x C dx))) (upd H2 x (.frz ob (exO x C dx))) where
  z := fun b o e => by rw [upd_ne (ne_of_none (zh b o e) hn)]; exact n.z b o e
  h := fun b o e => by rw [upd_ne (ne_of_none e hn)]; exact n.h b o e
  zh := fun b o e => by
    by_cases hb : b = x
    · subst hb; rw [upd_same] at e ⊢; exact e
    · rw [upd_ne hb] at e ⊢; exact n.zh b o e
  o := fun b hb => by
    have : b ≠ x := fun z => hb (by rw [z]; exact hn)
    rw [upd_ne this]; exact n.o b hb
  nf := n.nf.upd x
theorem RowAt.still {Z : Hp} {x C : Addr} {dx dx' : Option Addr} {k : Int} {ob : Obj} (h : RowAt Z dx k) (hz : Z x = some (exO x C dx')) : RowAt (upd Z x (.frz ob (exO x C dx'))) dx k := h.imp id fun ⟨d, e, r⟩ => ⟨d, e, by
  by_cases hd : d = x
  · subst hd
    rcases r with r | ⟨o, r⟩
    · rw [hz] at r
      exact .inr ⟨ob, by rw [upd_same]; injection r with r; rw [r]⟩
    · rw [hz] at r; cases r
  · rcases r with r | ⟨o, r⟩
    · exact .inl (by rw [upd_ne hd]; exact r)
    · exact .inr ⟨o, by rw [upd_ne hd]; exact r⟩⟩
/-- in an except suite: the exception lies still at x -/
def tSx (K : Fg) (x : Addr) (ob : Obj) (C : Addr) (dx : Option Addr) (f : Sf) : TS := fun D σ H => ∃ H₀ Z₀ Z δ r, Hold K H₀ Z₀ Z δ σ H ∧ Z x = some (.frz ob (exO x C dx)) ∧ f δ = some r ∧ ∀ σ' H' Z', Hold K H₀ Z₀ Z' r.2 σ' H' → Same Z Z' → r.1.to K Z' D σ' H'
section
variable {X : Cx} {body suite : List Stmt} {b₀ : Stmt} {b bs : Sf} {bx : Xf} {np hpos pos : Pos}
theorem sv_tryG (i : Nat) {n W : Str} {ns : List Str} (O : Hnd X.K W ns) (hgW : Gl X W) (hN : X.N.Nodup) (hi : X.N[i]? = some n) (hloc : X.env.scope.names.lookup n = some .local) (hcalm : X.calm = true) (hstk : X.stack = X.env :: X.outer)
    (hb : BV X.nox body b) (hx : ∀ pn E', BX 0 (cxT X pn E') body bx) (hs : ∀ x ob C dx, (∃ vs, ob.data = .fields vs ∧ vs[2]? = some .none) → PSs (cxH X x) (b₀ :: suite) (tSx X.K x ob C dx bs)) (hfrm : X.env.frame = some X.env.locals := by rfl) (hdb : (W == ("__debug__" : Str)) = false := by decide) :
    SV X (.Try body [.ExceptHandler (some (.Name W np)) (some n) (b₀ :: suite) hpos] [] [] pos) (sTry i ns b bx bs) := by
  intro pins s σ H D I h
  obtain ⟨H₀, Z₀, Z, δ, r, hh, e, k⟩ := h
  unfold sTry at e
  cases hbx : bx δ with
  | none =>
    rw [hbx] at e
    refine wpAny_Try_except (wpAny_mono (hb pins s σ H D (I.wish _) ⟨H₀, Z₀, Z, δ, r, hh, e, k⟩) (fun f s1 q => ?_) fun _ _ z => False.elim z)
    have q := q.unwish
    cases f with
    | next => exact wpAny_execs_nil q
    | brk => exact q
    | cont => exact q
    | ret u => exact q
  | some pr =>
    obtain ⟨nm, δ'⟩ := pr
    rw [hbx] at e
    dsimp only at e
    split at e
    rotate_left
    · cases e
    rename_i hcn
    obtain ⟨⟨fl, δ2⟩, e2, e⟩ := bind_some e
    cases e
    obtain ⟨wC, hW, FW, L⟩ := O.ex
    obtain ⟨C, F, hsub⟩ := L.get hcn
    have hhd := I.ok.hd hcalm
    refine wpAny_Try_except (wpAny_mono (hx (X.pn ++ pins) _ [] s σ H ⟨fun _ _ => False, fun _ _ => False, fun _ _ => False, fun _ _ => False⟩ (Inv.toT I _) ⟨H₀, Z₀, Z, δ, (nm, δ'), hh, hbx, ?_⟩) (fun f s1 q => ?_) fun _ _ z => z)
    rotate_left
    · cases f with
      | next => obtain ⟨_, _, _, q⟩ := q; exact q.elim
      | brk => obtain ⟨_, _, _, q⟩ := q; exact q.elim
      | cont => obtain ⟨_, _, _, q⟩ := q; exact q.elim
      | ret u => obtain ⟨_, _, _, _, _, q⟩ := q; exact q.elim
    intro pins' σ' H' Z' s1 e1 s2 hh' sm I1 fg
    cases fg with
    | made hm _ _ _ _ _ => cases hm
    | here hm _ _ _ _ _ _ _ => exact absurd hm (by decide)
    | held hm _ _ _ _ _ _ _ _ _ => exact absurd hm (by decide)
    | @thrown x C' dx H2 Z2 _ hC' he T nw hx2 hrr hxn =>
      subst he
      have : C' = C := by have := hC'.symm.trans F.nm; simpa using this
      subst this
      have I1 : Inv X pins σ' H' s1 := Inv.ofT I1
      have T : Thrown X.prog X.w X.stack H' s1 x C' H2 s2 dx := T
      have ff : ∀ b ∈ frs X.stack, ∃ o, s1.heap.get? b = some o ∧ ∀ vs, o.data ≠ .fields vs := fun b hb => (I1.stack.mem hb).2
      obtain ⟨B, t, fl0, mv⟩ := T.move ff I1.stkFree
      have fl1 := fl0
      rw [hstk] at fl1
      refine note_on (by rw [I1.ok.frames, hstk]) hfrm fl1 fun h4 held4 sm4 => ?_
      refine lands_x held4 fun h5 fl5 sm5 => ?_
      have fl5' := fl5
      rw [← hstk] at fl5'
      have T5 := mv h5 t fl5' (sm4.trans sm5)
      have I5 : Inv X pins σ' H2 { s2 with heap := h5 } := I1.call' T5.os T5.un T5.hok T5.bare (fun _ z => nomatch z)
      have hmW := PySem.W.mg_of I.ok.mod.kin I.ok.mod.glob hW
      refine wpAny_handleBy_cons (codeAny_handlers_test (ld_glob (X := cxH X x) (Inv.toH I5 x) hgW hmW ?_ hdb)) (by intro q; cases q)
      obtain ⟨oe, hoe, hoec⟩ := fl5.there
      refine exc_match I5.kIn F FW hsub hoe hoec (codeAny_handlers_suite_as ?_)
      refine lands_again_x fl5 fun h6 fl6 sm6 => ?_
      have fl6' := fl6
      rw [← hstk] at fl6'
      have T6 := mv h6 t fl6' ((sm4.trans sm5).trans sm6)
      have I6 : Inv X pins σ' H2 { s2 with heap := h6 } := I1.call' T6.os T6.un T6.hok T6.bare (fun _ z => nomatch z)
      obtain ⟨ob, hob, _, hF, _⟩ := (T6.hok x _ T6.is).1
      have I6' : Inv X pins σ' (upd H2 x (.frz ob (exO x C' dx))) { s2 with heap := h6 } := Inv.still I6 T.is hob
      refine store_ok (X := cxH X x) (v := .ref x) (u := .ref x) (Inv.toH I6' x) hN hi (.inl hloc) rfl (fun s7 I7 => ?_) (.inr hloc)
      have nw' := nw.still (ob := ob) hh'.zh hx2 hxn
      have hh7 : Hold X.K H₀ Z₀ (upd Z2 x (.frz ob (exO x C' dx))) (δ'.set i (.fz (exD nm))) (σ'.set i (some (.ref x))) (upd H2 x (.frz ob (exO x C' dx))) := (hh'.new nw').set (.opq (.exc hC' (.inr ⟨ob, upd_same⟩) (hrr.still hx2)))
      refine wpAny_mono (hs x ob C' dx hF pins s7 _ _ ⟨fun σ8 H8 => D.nx (σ8.set i none) H8, D.rt, fun σ8 H8 => D.bk (σ8.set i none) H8, fun σ8 H8 => D.ct (σ8.set i none) H8⟩ I7 ⟨H₀, Z₀, _, _, (fl, δ2), hh7, upd_same, e2, fun σ8 H8 Z8 hh8 t8 => ?_⟩) (fun f s8 q => ?_) fun _ _ z => False.elim z
      · have := k (σ8.set i none) H8 Z8 (hh8.unset i) ((sm.trans nw'.z).trans t8)
        cases fl <;> exact this
      · cases f with
        | next =>
          obtain ⟨σ8, H8, I8, q⟩ := q
          exact unb_ok (Inv.ofH hhd I8) hN hi hloc fun s9 I9 => ⟨_, H8, I9, q⟩
        | brk =>
          obtain ⟨σ8, H8, I8, q⟩ := q
          exact unb_ok (Inv.ofH hhd I8) hN hi hloc fun s9 I9 => ⟨_, H8, I9, q⟩
        | cont =>
          obtain ⟨σ8, H8, I8, q⟩ := q
          exact unb_ok (Inv.ofH hhd I8) hN hi hloc fun s9 I9 => ⟨_, H8, I9, q⟩
        | ret u =>
          obtain ⟨v, σ8, H8, I8, rv, q⟩ := q
          exact unb_ok (Inv.ofH hhd I8) hN hi hloc fun s9 I9 => ⟨v, _, H8, I9, rv, q⟩
theorem sv_try (i : Nat) {n W : Str} {ns : List Str} (O : Hnd X.K W ns) (hgW : Gl X W) (hN : X.N.Nodup) (hi : X.N[i]? = some n) (hloc : X.env.scope.names.lookup n = some .local) (hcalm : X.calm = true) (hstk : X.stack = X.env :: X.outer)
    (hb : BV X.nox body b) (hx : ∀ pn E', BX 0 (cxT X pn E') body bx) (hs : ∀ x, BV (cxH X x) (b₀ :: suite) bs) (hfrm : X.env.frame = some X.env.locals := by rfl) (hdb : (W == ("__debug__" : Str)) = false := by decide) :
    SV X (.Try body [.ExceptHandler (some (.Name W np)) (some n) (b₀ :: suite) hpos] [] [] pos) (sTry i ns b bx bs) :=
  sv_tryG i O hgW hN hi hloc hcalm hstk hb hx (fun x _ _ _ _ => PSs.imp (hs x) fun D σ H h => by
    obtain ⟨H₀, Z₀, Z, δ, r, hh, _, e, k⟩ := h
    exact ⟨H₀, Z₀, Z, δ, r, hh, e, k⟩) hfrm hdb
end
end VL

set_option Elab.async false
set_option linter.all false
set_option maxRecDepth 100000
set_option maxHeartbeats 4000000
namespace VL
open PySem PySem.Spec PyProof.Rows L2
/-! ### a loop that raises at some turn -/
section
variable {X : Cx} {pins : List (Addr × Obj)} {σ : St} {H1 H2 : Hp} {s1 s2 : Shared} {x C L : Addr} {dx : Option Addr} {M : Model} {E' : Value → Shared → Prop}
/-- made in this frame and raised in a loop: the loop notes it -/
theorem held_here (I : Inv X pins σ H1 s1) (hstk : X.stack = X.env :: X.outer) (hL : X.env.frame = some L) (hx : H1 x = some (exN x C dx)) (hE : ∀ s2, ThrownH X.prog X.w X.stack L H1 s1 x C (upd H1 x (exO x C dx)) s2 dx → E' (.ref x) s2) : notedBy M X.A X.env (cameBackBy M X.A X.env E') (.ref x) s1 := by
  obtain ⟨oe, he, hc, ⟨vs, hd, h2, h1⟩, hdc⟩ := (I.hok x _ hx).1
  have n1 : ∀ b, H1 b = none → b ≠ x := fun b e z => by subst z; rw [hx] at e; cases e
  have hin : ∀ env ∈ X.stack, ∀ b, env.frame = some b → b ∈ x :: frs X.stack := fun env he b hb => List.mem_cons_of_mem _ (List.mem_filterMap.mpr ⟨env, he, hb⟩)
  have keep : ∀ b o, s1.heap.get? b = some o → H1 b = none → b ∉ frs X.stack → (PySem.W.hideAll s1.heap (x :: frs X.stack)).get? b = some o := fun b o q n hb =>
    PySem.W.hideAll_get _ q (fun z => (List.mem_cons.mp z).elim (n1 b n) hb)
  have trk : ∀ b o, H1 b = some o → b ≠ x → ∃ ob, (PySem.W.hideAll s1.heap (x :: frs X.stack)).get? b = some ob := fun b o e nb => by
    obtain ⟨ob, h⟩ := objOk_there (I.hok b o e)
    refine ⟨ob, PySem.W.hideAll_get _ h fun z => ?_⟩
    rcases List.mem_cons.mp z with z | z
    · exact nb z
    · rw [I.stkFree b z] at e; cases e
  have hid : (PySem.W.hideAll s1.heap [x]).get? x = none := PySem.W.hideAll_none _ List.mem_cons_self
  have hid2 : (PySem.W.hideAll s1.heap (x :: frs X.stack)).get? x = none := PySem.W.hideAll_none _ List.mem_cons_self
  have hk : ∀ b o, s1.heap.get? b = some o → b ≠ x → (PySem.W.hideAll s1.heap [x]).get? b = some o := fun b o q nb => PySem.W.hideAll_get _ q fun z => nb (List.mem_singleton.mp z)
  have bk : (PySem.W.hideAll s1.heap (x :: frs X.stack)).StaysIn (PySem.W.hideAll s1.heap [x]) := fun b o q => hk b o (PySem.W.of_hideAll _ q) fun z => by subst z; rw [hid2] at q; cases q
  have ff := (PySem.W.funFrames_hide I.stack hin).of_keeps (h' := PySem.W.hideAll s1.heap [x]) fun b o q nf => ⟨o, hk b o q fun z => by subst z; rw [he] at q; cases q; exact nf _ hd, rfl⟩
  have mx : MadeX (PySem.W.hideAll s1.heap [x]) s1.heap x (.ref C) dx := ⟨fun b o q => PySem.W.of_hideAll _ q, hid, oe, vs, vs[0]'(by have := (Array.getElem?_eq_some_iff.mp h2).1; omega), he, hc, hd, Array.getElem?_eq_getElem _, h1, h2, hdc⟩
  have ff := Eq.mp (congrArg (fun l => (PySem.W.hideAll s1.heap [x]).FunFrames (PySem.W.hideAll s1.heap (x :: frs X.stack)) l) hstk) ff
  refine passes_made (by rw [I.ok.frames, hstk]) hL bk ff mx fun h' t hl sm => ?_
  rw [← hstk] at hl
  have hob : ∃ ob, h'.get? x = some ob ∧ ob.cls = .ref C := by obtain ⟨⟨_, _, _, o, _, _, _, _, q1, ⟨q2, _⟩, _⟩, _⟩ := hl; exact ⟨o, q1, q2⟩
  have slot : ∀ b o, s1.heap.get? b = some o → b ∈ frs X.stack → ∃ sl, h'.get? b = some { o with slots := sl } := fun b o q hb => by
    obtain ⟨_, o', ho', hd⟩ := I.stack.mem hb
    rw [q] at ho'; cases ho'
    exact sm b _ q hd
  refine hE _ ⟨rfl, I.bare, ⟨fun b o q n hb _ => hl.1.1 b o (keep b o q n hb), fun b o q n hb _ => slot b o q hb, fun b o q n _ => by rw [upd_ne (n1 b n)]; exact n, fun b o q _ => ?_, fun b xs e => ?_, fun b o u e => ?_, fun b ps e => ?_⟩, fun b o e => ?_, upd_same, fun b e => ?_, ⟨_, _, hl, fun b o e hb => ?_, keep⟩⟩
  · by_cases hb : b = x
    · subst hb; obtain ⟨ob, e, _⟩ := hob; exact ⟨ob, e⟩
    · cases q2 : H1 b with
      | some ho => obtain ⟨ob, e⟩ := trk b ho q2 hb; exact ⟨ob, hl.1.1 b ob e⟩
      | none =>
        by_cases hs : b ∈ frs X.stack
        · obtain ⟨sl, e⟩ := slot b o q hs; exact ⟨_, e⟩
        · exact ⟨o, hl.1.1 b o (keep b o q q2 hs)⟩
  · rw [upd_ne (fun z => by subst z; rw [hx] at e; cases e)]; exact e
  · rw [upd_ne (fun z => by subst z; rw [hx] at e; cases e)]; exact e
  · exact ⟨#[], by rw [upd_ne (fun z => by subst z; rw [hx] at e; cases e), Array.append_empty]; exact e⟩
  · by_cases hb : b = x
    · subst hb; rw [upd_same] at e; cases e; obtain ⟨ob, q1, q2⟩ := hob; exact exO_ok q1 q2 hl.2
    · rw [upd_ne hb] at e
      refine (I.hok b o e).stay (fun c u hc q => ?_) (fun c q => ?_) fun c xs q => ?_
      · have : ∃ ho, H1 c = some ho ∧ c ≠ x := by
          rcases hc with rfl | hc
          · exact ⟨_, e, hb⟩
          · exact ⟨_, hc, fun z => by subst z; rw [hx] at hc; cases hc⟩
        obtain ⟨ho, hc, nc⟩ := this
        obtain ⟨ob, hob⟩ := trk c ho hc nc
        have := PySem.W.of_hideAll _ hob
        rw [q] at this; cases this
        exact hl.1.1 c _ hob
      · rw [upd_ne (fun z => by subst z; rw [hx] at q; cases q)]; exact q
      · rw [upd_ne (fun z => by subst z; rw [hx] at q; cases q)]; exact q
  · by_cases hb : b = x
    · subst hb; rw [upd_same] at e; cases e
    · rwa [upd_ne hb] at e
  · rw [upd_ne hb] at e
    exact trk b o e hb
/-- noted by this frame already -/
theorem held_on (I : Inv X pins σ H1 s1) (hL : X.env.frame = some L) (T : ThrownH X.prog X.w X.stack L H1 s1 x C H2 s2 dx) (hE : ∀ s3, ThrownH X.prog X.w X.stack L H1 s1 x C H2 s3 dx → E' (.ref x) s3) : notedBy M X.A X.env (cameBackBy M X.A X.env E') (.ref x) s2 := by
  obtain ⟨B, t, fl, hB1, hB2⟩ := T.fly
  refine passes_held hL fl fun h' hl sm => ?_
  have slot : ∀ b o, s1.heap.get? b = some o → H1 b = none → b ∈ frs X.stack → ∃ sl, h'.get? b = some { o with slots := sl } := fun b o q n hb => by
    obtain ⟨sl, e1⟩ := T.un.slot b o q n hb (fun z => nomatch z)
    obtain ⟨_, o', ho', hd⟩ := I.stack.mem hb
    rw [q] at ho'; cases ho'
    obtain ⟨sl3, e3⟩ := sm b _ e1 hd
    exact ⟨sl3, e3⟩
  have hob : ∃ ob, h'.get? x = some ob ∧ ob.cls = .ref C := by obtain ⟨⟨_, _, _, o, _, _, _, _, q1, ⟨q2, _⟩, _⟩, _⟩ := hl; exact ⟨o, q1, q2⟩
  refine hE _ ⟨T.os, T.bare, ⟨fun b o q n hb _ => hl.1.1 b o (hB2 b o q n hb), fun b o q n hb _ => slot b o q n hb, T.un.free, fun b o q hz => ?_, T.un.tups, T.un.frzs, T.un.tbls⟩, fun b o e => ?_, T.is, T.tr, ⟨B, t, hl, hB1, hB2⟩⟩
  · cases q2 : H2 b with
    | some ho =>
      by_cases hb : b = x
      · subst hb; obtain ⟨ob, e, _⟩ := hob; exact ⟨ob, e⟩
      · obtain ⟨ob, e1⟩ := hB1 b ho q2 hb; exact ⟨ob, hl.1.1 b ob e1⟩
    | none =>
      have q1 := T.tr b q2
      by_cases hs : b ∈ frs X.stack
      · obtain ⟨sl, e⟩ := slot b o q q1 hs; exact ⟨_, e⟩
      · exact ⟨o, hl.1.1 b o (hB2 b o q q1 hs)⟩
  · by_cases hb : b = x
    · subst hb; rw [T.is] at e; cases e; obtain ⟨ob, q1, q2⟩ := hob; exact exO_ok q1 q2 hl.2
    · refine (T.hok b o e).stay (fun c u hc q => ?_) (fun _ q => q) fun _ _ q => q
      have : ∃ ob, B.get? c = some ob := by
        rcases hc with rfl | hc
        · exact hB1 c o e hb
        · refine hB1 c _ hc fun z => ?_
          subst z; rw [T.is] at hc; cases hc
      obtain ⟨ob, hob⟩ := this
      have := fl.1.1 c ob hob
      rw [q] at this; cases this
      exact hl.1.1 c _ hob
end
theorem Flung.ofT {X : Cx} {pins0 : List (Addr × Obj)} {E0 : Value → Shared → Prop} {n : Xn} {Z H : Hp} {s : Shared} {e : Value} {s' : Shared} (h : Flung 2 (cxT X (X.pn ++ pins0) E0) n Z H s e s') : Flung 2 X n Z H s e s' := by
  cases h with
  | made hm => exact absurd hm (by decide)
  | thrown hm => exact absurd hm (by decide)
  | here hm hC he I nw hx hr hn => exact .here hm hC he (Inv.ofT I) nw hx hr hn
  | held hm hC he hL I T nw hx hr hn => exact .held hm hC he hL (Inv.ofT I) T nw hx hr hn
theorem Flung.up {m : Nat} (hm : 1 ≤ m) {X : Cx} {n : Xn} {Z H : Hp} {s : Shared} {e : Value} {s' : Shared} (h : Flung 2 X n Z H s e s') : Flung m X n Z H s e s' := by
  cases h with
  | made hm => exact absurd hm (by decide)
  | thrown hm => exact absurd hm (by decide)
  | here _ hC he I nw hx hr hn => exact .here hm hC he I nw hx hr hn
  | held _ hC he hL I T nw hx hr hn => exact .held hm hC he hL I T nw hx hr hn
def xloop (g : D → Dv → Option Dv) (b : Sf) (bx : Xf) : List D → Xf
  | [], _ => none
  | d :: ds, δ => (g d δ).bind fun δ1 => match bx δ1 with
    | some r => some r
    | none => (b δ1).bind fun r => match r with
      | (.nx, δ2) => xloop g b bx ds δ2
      | (.ct, δ2) => xloop g b bx ds δ2
      | _ => none
@[simp] def xFor (fs : Dv → Option (List D)) (g : D → Dv → Option Dv) (b : Sf) (bx : Xf) : Xf := fun δ => (fs δ).bind fun ds => xloop g b bx ds δ
section
variable {m : Nat} {X : Cx} {tg iter : Expr} {body : List Stmt} {fs : Dv → Option (List D)} {g : D → Dv → Option Dv} {s1 : Sf} {bx : Xf} {pos : Pos}
theorem sx_for (hstk : X.stack = X.env :: X.outer) (hc : X.calm = true) (hi : ∀ pn E, IV (cxT X pn E) tg iter fs) (hg : ∀ pn E, GV (cxT X pn E) tg g) (hb : ∀ pn E, BV (cxT X pn E) body s1) (hx : ∀ pn E, BX 2 (cxT X pn E) body bx) (hL : X.env.frame = some X.env.locals := by rfl) (hm : 1 ≤ m := by decide)
    (hs : ∀ x, foldedSetIterable iter X.env x = pure x := by intro _; rfl) : SX m X (.For tg iter body [] pos) (xFor fs g s1 bx) := by
  intro pins s σ H D I h
  obtain ⟨H₀, Z₀, Z, δ, r, hh, e, k⟩ := h
  let E' : Value → Shared → Prop := fun v s' => ∃ pins σ' H' Z' s, Hold X.K H₀ Z₀ Z' r.2 σ' H' ∧ Same Z Z' ∧ Inv X pins σ' H' s ∧ Flung 2 X r.1 Z' H' s v s'
  have hp : PassesOwn (model X.prog X.w) X.A X.env E' := by
    rintro v s' ⟨pins2, σ2, H2, Z2, s2, hh2, sm2, I2, fl⟩
    cases fl with
    | made hm => exact absurd hm (by decide)
    | thrown hm => exact absurd hm (by decide)
    | @here x C dx H3 Z3 pins3 σ3 hm hC he I3 nw hx hrr hn =>
      subst he
      exact held_here I3 hstk hL (nw.zh _ _ hx) fun s4 T => ⟨pins2, σ2, H2, Z2, s2, hh2, sm2, I2, .held hm hC rfl hL I3 T (nw.raised hh2.zh hn nw hx) upd_same hrr hn⟩
    | @held x C L dx H1 H3 Z3 pins3 σ3 s1 hm hC he hL' I3 T nw hx hrr hn =>
      subst he
      exact held_on I3 hL' T fun s4 T4 => ⟨pins2, σ2, H2, Z2, s2, hh2, sm2, I2, .held hm hC rfl hL' I3 T4 nw hx hrr hn⟩
  have both : PSs (cxT X (X.pn ++ pins) E') body (fun D σ H => tVS X.K s1 D σ H ∨ tVX 2 (cxT X (X.pn ++ pins) E') bx D σ H) := fun pins' s σ H D I h => h.elim (hb _ _ pins' s σ H D I) (hx _ _ pins' s σ H D I)
  obtain ⟨ds, e1, e⟩ := bind_some e
  refine wpAny_mono (ps_for (X := cxT X (X.pn ++ pins) E') hp hc (hi _ _) (hg _ _) both hs [] s σ H ⟨fun _ _ => False, fun _ _ => False, fun _ _ => False, fun _ _ => False⟩ (Inv.toT I _) ⟨H₀, Z₀, Z, δ, ds, hh, e1, fun J Z1 H1 hh1 t1 ok => ?_⟩) (fun f s1 q => ?_) fun v s' ⟨pins2, σ2, H2, Z2, s2, hh2, sm2, I2, fl⟩ => k pins2 σ2 H2 Z2 s2 v s' hh2 sm2 I2 (fl.up hm)
  rotate_left
  · cases f with
    | next => obtain ⟨_, _, _, q⟩ := q; exact q.elim
    | brk => obtain ⟨_, _, _, q⟩ := q; exact q.elim
    | cont => obtain ⟨_, _, _, q⟩ := q; exact q.elim
    | ret u => obtain ⟨_, _, _, _, _, q⟩ := q; exact q.elim
  refine ⟨fun i m σ H => m = ds.length - i ∧ i ≤ ds.length ∧ ∃ Zc δc, Hold X.K H₀ Z₀ Zc δc σ H ∧ Same Z1 Zc ∧ xloop g s1 bx (ds.drop i) δc = some r, ⟨ds.length, by simp, Nat.zero_le _, Z1, δ, hh1, Same.refl _, e⟩, ?_⟩
  rintro i m' σ2 H2 ⟨rfl, hi2, Zc, δc, hhc, tc, ec⟩
  have zh : Same Z1 H2 := tc.trans hhc.zh
  by_cases hlt : i < ds.length
  · refine .inr ⟨ok.go i H2 zh hlt, fun σ3 H3 => ∃ Zc δc, Hold X.K H₀ Z₀ Zc δc σ3 H3 ∧ Same Z1 Zc ∧ xloop g s1 bx (ds.drop (i + 1)) δc = some r, fun σ3 H3 q => ⟨ds.length - (i + 1), by omega, rfl, hlt, q⟩, fun x H3 y => ?_⟩
    have ed : ds[i]? = some ds[i] := by simp [hlt]
    obtain ⟨rfl, rx⟩ := ok.yld i H2 x H3 _ zh ed y
    rw [List.drop_eq_getElem_cons hlt] at ec
    obtain ⟨δ1, g1, ec⟩ := bind_some ec
    refine ⟨H₀, Z₀, Zc, δc, _, δ1, hhc, rx.same tc, g1, fun σ4 H4 Z4 hh4 t4 => ?_⟩
    cases hbx : bx δ1 with
    | some r1 =>
      rw [hbx] at ec
      cases ec
      exact .inr ⟨H₀, Z₀, Z4, δ1, _, hh4, hbx, fun pins' σ' H' Z' s e s' hh' sm I fl => ⟨pins, σ', H', Z', s, hh', ((t1.trans tc).trans t4).trans sm, Inv.ofT I, fl.ofT⟩⟩
    | none =>
      rw [hbx] at ec
      obtain ⟨⟨fl, δ2⟩, g2, ec⟩ := bind_some ec
      refine .inl ⟨H₀, Z₀, Z4, δ1, (fl, δ2), hh4, g2, fun σ5 H5 Z5 hh5 t5 => ?_⟩
      cases fl with
      | nx => exact ⟨Z5, δ2, hh5, (tc.trans t4).trans t5, ec⟩
      | ct => exact ⟨Z5, δ2, hh5, (tc.trans t4).trans t5, ec⟩
      | bk => cases ec
      | rt d => cases ec
  · have e2 : ds.drop i = [] := List.drop_eq_nil_iff.mpr (by omega)
    rw [e2] at ec
    cases ec
end
end VL

/-! An own exception class under another own one, with an __init__ of its own (k19, k70, k71). -/
set_option Elab.async false
set_option linter.all false
set_option maxRecDepth 100000
namespace PySem
open Sem (wp)
section
variable {prog : Program} {w : World} {A : Around} {E : Value → Shared → Prop} {h : Heap} {g : Array GenState} {d : Drawn} {t : Nat} {os : OsState} {nm q : Str} {C N : Addr} {bs bm bmB : List Value}
variable {hdct : Bool} {sn : List Str} {sub : List Value} {ab : Bool} {col : Option Bool} {dd : Option Addr} {k0 k1 k2 k3 k5 : Option Value} {B Bn newId nid initId inN : String} {bmN rest : List Value}
abbrev raw (h : Heap) (C : Addr) (rest : List Value) : Heap := (h.push { cls := .type "tuple", data := .seq rest.toArray }).push { cls := .ref C, data := .fields #[.ref h.objs.size, .none, .none, .none, .bool false, .none] }
theorem raw_keeps {b : Addr} {o : Obj} (e : h.get? b = some o) : (raw h C rest).get? b = some o := Heap.get?_push_of_some _ (Heap.get?_push_of_some _ e)
theorem xi_type_call (Fn : ExcBaseFacts Bn newId inN bmN) (hBn : bmB.contains (.type Bn) = true) (F : ExcBaseFacts B nid initId bmB) (T : OwnTail h bmB bm) {mN : Str → Option Value} {fI : Addr} {oI : Obj} {Q : Fin → Shared → Prop}
    (hC : h.get? C = some (excClassObj nm q C N bs bm hdct sn sub ab col dd k0 k1 k2 k3 k5 newId)) (hn : h.Ns N mN) (hi : mN "__init__" = some (.ref fI)) (hfI : h.get? fI = some oI) (hfc : oI.cls = .type "function")
    (hq : wpAny (model prog w) A (call (.ref fI) (.ref (h.objs.size + 1) :: rest)) (fun r s' => r = .none ∧ Q (.done (.ret (.ref (h.objs.size + 1)))) s') E ⟨raw h C rest, g, d, t, os⟩) (hrest : rest.length ≤ sizeLine) :
    wpAny (model prog w) A (Builtin.«type.__call__» ⟨.ref C :: rest, []⟩) Q E ⟨h, g, d, t, os⟩ := by
  repeat (first | with_reducible refine wpAny_loadPart_at hC ?_ | with_reducible refine wpAny_madeBy_exc hC ?_ | wp_step)
  refine codeAny_call_builtin_code (Code.quiet_builtin _ Fn.quiet) (wpAny_check_new_subU Fn hBn T hC (codeAny_exc_new_subU Fn hBn F T hC ?_ hrest))
  show wpAny _ _ _ _ _ _
  have hC1 : (raw h C rest).get? C = _ := raw_keeps hC
  have hf1 : (raw h C rest).get? fI = _ := raw_keeps hfI
  have hn1 : (raw h C rest).Ns N mN := let ⟨o, es, ep, e, r⟩ := hn; ⟨o, es, ep, raw_keeps e, r⟩
  have T1 : OwnTail (raw h C rest) bmB bm := T.keeps fun _ _ => raw_keeps
  have he : (raw h C rest).get? (h.objs.size + 1) = some { cls := .ref C, data := .fields #[.ref h.objs.size, .none, .none, .none, .bool false, .none] } := by heap_get
  have cc : (Value.ref C :: bm).contains (.ref C) = true := by simp
  unfold isInstance
  repeat (first | with_reducible refine wpAny_loadPart_at he ?_ | (with_reducible refine wpAny_isSubtype_exc hC1 ?_; rw [cc]) | wp_step)
  show wpAny _ _ (typeLookup (.ref C) _) _ _ _
  refine wpAny_typeLookup_tail hC1 hn1 T1 F.mroIs F.init.lookup ?_
  rw [hi]
  refine wpAny_holding (wpAny_bind ?_)
  unfold bindSpecial
  refine wpAny_bind (wpAny_typeOf (T := "function") ⟨_, hf1, hfc⟩ ?_)
  rw [if_pos (by decide)]
  refine wpAny_pure (wpAny_bind (wpAny_mono hq (fun r s' hr => ?_) fun _ _ x => x))
  obtain ⟨rfl, hQ⟩ := hr
  wp_walk
  exact hQ
theorem xi_call (Fn : ExcBaseFacts Bn newId inN bmN) (hBn : bmB.contains (.type Bn) = true) (F : ExcBaseFacts B nid initId bmB) (T : OwnTail h bmB bm) {mN : Str → Option Value} {fI : Addr} {oI : Obj} {Q : Value → Shared → Prop}
    (hC : h.get? C = some (excClassObj nm q C N bs bm hdct sn sub ab col dd k0 k1 k2 k3 k5 newId)) (hn : h.Ns N mN) (hi : mN "__init__" = some (.ref fI)) (hfI : h.get? fI = some oI) (hfc : oI.cls = .type "function")
    (hq : wpAny (model prog w) (A.under (.builtin "type.__call__" ⟨.ref C :: rest, []⟩)) (call (.ref fI) (.ref (h.objs.size + 1) :: rest)) (fun r s' => r = .none ∧ Q (.ref (h.objs.size + 1)) s') E ⟨raw h C rest, g, d, t, os⟩) (hrest : rest.length ≤ sizeLine) :
    wpAny (model prog w) A (call (.ref C) rest) Q E ⟨h, g, d, t, os⟩ := by
  have f1 := tc_lookup
  have f2 := tc_bind (.ref C)
  have hT : (⟨h, g, d, t, os⟩ : Shared).TypeIs (.ref C) "type" := ⟨_, hC, rfl⟩
  refine wpAny_call (codeAny_of_tree ?_)
  show wpAny _ _ (callAny (.ref C) _) _ _ _
  repeat (any_goals (first | assumption | with_reducible refine wpAny_loadPart_at hC ?_ | wp_step))
  refine ⟨rfl, codeAny_call_builtin_at (Code.quiet_builtin _ (by decide +kernel)) entry_typeCall (wpAny_check_type_call_sub hC (xi_type_call Fn hBn F T hC hn hi hfI hfc ?_ hrest))⟩
  exact hq
end
end PySem

set_option Elab.async false
set_option linter.all false
set_option maxRecDepth 100000
namespace PySem
open Sem (wp)
open Builtin Builtin.ObjectAttr
/-- own classes on the way to the built-in ones, none of which has a name of P -/
inductive NoTail (h : Heap) (P : Str → Prop) (bmB : List Value) : List Value → Prop
  | base : NoTail h P bmB bmB
  | own {a : Addr} {c0 : Value} {dd : Option Addr} {cd : ClassData} {sl : Array (Option Value)} {m : Str → Option Value} {tl : List Value} : h.get? a = some { cls := c0, dict := dd, data := .cls cd, slots := sl } → h.Ns cd.ns m → (∀ n, P n → m n = none) → NoTail h P bmB tl → NoTail h P bmB (.ref a :: tl)
theorem NoTail.tail {h : Heap} {P : Str → Prop} {bmB tl : List Value} (T : NoTail h P bmB tl) (p : P "__init__") : OwnTail h bmB tl := by
  induction T with
  | base => exact .base
  | own a n k _ ih => exact .own a n (k _ p) ih
theorem NoTail.has {h : Heap} {P : Str → Prop} {bmB tl : List Value} (T : NoTail h P bmB tl) {X : String} {b : Bool} (hb : bmB.contains (.type X) = b) : tl.contains (.type X) = b := by
  induction T with
  | base => exact hb
  | own _ _ _ _ ih => rw [List.contains_cons, ih]; rfl
theorem NoTail.passes {h : Heap} {P : Str → Prop} {bmB tl : List Value} (T : NoTail h P bmB tl) {self : Value} (p : refuseLoop self "__setattr__" bmB = pure ()) : refuseLoop self "__setattr__" tl = pure () := by
  induction T with
  | base => exact p
  | own _ _ _ _ ih => rw [refuseLoop_ref]; exact ih
section
variable {M : Model} {A : Around} {E : Value → Shared → Prop} {h : Heap} {g : Array GenState} {d : Drawn} {t : Nat} {os : OsState} {P : Str → Prop}
variable {nm q : Str} {C N x : Addr} {bs bm bmB : List Value} {hdct : Bool} {sn : List Str} {sub : List Value} {ab : Bool} {col : Option Bool} {dd : Option Addr} {k0 k1 k2 k3 k5 : Option Value} {B newId : String} {mN : Str → Option Value} {name : Str}
theorem nt_along {y : Option Value} {Q : Option Value → Shared → Prop} (T : NoTail h P bmB bm) (p : P name) (hr : lookupAlong bmB name = pure y) (hq : Q y ⟨h, g, d, t, os⟩) : wpAny M A (lookupAlong bm name) Q E ⟨h, g, d, t, os⟩ := by
  induction T with
  | base => rw [hr]; exact wpAny_pure hq
  | own a n k _ ih =>
    rw [lookupAlong_cons]
    refine wpAny_bind (wpAny_classOwn_cls a n ?_)
    rw [k _ p]
    exact ih
theorem nt_lookup {y : Option Value} {Q : Option Value → Shared → Prop} (hC : h.get? C = some (excClassObj nm q C N bs bm hdct sn sub ab col dd k0 k1 k2 k3 k5 newId)) (hn : h.Ns N mN) (T : NoTail h P bmB bm) (p : P name)
    (hbm : mroOf (.type B) = pure bmB) (hB : typeLookup (.type B) name = pure y) (hm : mN name = none) (hq : Q y ⟨h, g, d, t, os⟩) : wpAny M A (typeLookup (.ref C) name) Q E ⟨h, g, d, t, os⟩ := by
  have hr : lookupAlong bmB name = pure y := by rw [typeLookup_eq, hbm] at hB; exact hB
  rw [typeLookup_eq]
  refine wpAny_bind (wpAny_mroOf_exc hC ?_)
  rw [lookupAlong_cons]
  refine wpAny_bind (wpAny_classOwn_exc hC hn ?_)
  rw [hm]
  exact nt_along T p hr hq
end
section
variable {prog : Program} {w : World} {A : Around} {E : Value → Shared → Prop} {h : Heap} {g : Array GenState} {d : Drawn} {t : Nat} {os : OsState} {P : Str → Prop}
variable {nm q : Str} {C N x : Addr} {bs bm bmB : List Value} {sn : List Str} {sub : List Value} {ab : Bool} {col : Option Bool} {dd : Option Addr} {k0 k1 k2 k3 k5 : Option Value} {B newId sa owner : String} {mN : Str → Option Value} {name : Str} {v : Value}
theorem xs_check {o : Obj} {nameV : Value} {Q : Unit → Shared → Prop} (SF : StoreFacts B bmB sa owner) (T : NoTail h P bmB bm) (hC : h.get? C = some (excClassObj nm q C N bs bm true sn sub ab col dd k0 k1 k2 k3 k5 newId)) (hx : h.get? x = some o) (hc : o.cls = .ref C) (hq : Q () ⟨h, g, d, t, os⟩) :
    wpAny (model prog w) A (checkBuiltinCall sa ⟨[.ref x, nameV, v], []⟩) Q E ⟨h, g, d, t, os⟩ := by
  have cB : (Value.ref C :: bm).contains (.type owner) = true := by rw [List.contains_cons, T.has SF.hasOwner, Bool.or_true]
  have ha := SF.args (.ref x) nameV v
  simp only [checkBuiltinCall, SF.kind, SF.split]
  refine wpAny_bind ?_
  unfold isInstance
  repeat (first | (with_reducible refine wpAny_loadPart_at hx ?_; rw [hc]) | (with_reducible refine wpAny_isSubtype_exc hC ?_; rw [cB]) | wp_step)
  cases hs : Manifest.signature? sa with
  | none => exact wpAny_pure hq
  | some sig =>
    simp only [argsOk, hs] at ha
    have h2 : Bind.checkArgs sa sig ⟨[.ref x, nameV, v], []⟩ = pure () := ha
    show wpAny _ A (Bind.checkArgs sa sig ⟨[.ref x, nameV, v], []⟩) Q E _
    rw [h2]
    exact wpAny_pure hq
/-- the first field of a new thing -/
theorem xs_entry {tk : Tok} {o : Obj} {Q : Fin → Shared → Prop} (SF : StoreFacts B bmB sa owner) (T : NoTail h P bmB bm) (p : P name) (hC : h.get? C = some (excClassObj nm q C N bs bm true sn sub ab col dd k0 k1 k2 k3 k5 newId)) (hn : h.Ns N mN) (hm : mN name = none)
    (hB : typeLookup (.type B) name = pure none) (hx : h.get? x = some o) (hc : o.cls = .ref C) (hnc : ∀ c, o.data ≠ .cls c) (hd : o.dict = none)
    (hq : ∀ h' tk', h'.get? x = some { o with dict := some h.objs.size } → h'.Ns1 h.objs.size (fun y => if y = name then some v else none) → (∀ b o, b ≠ x → h.get? b = some o → h'.get? b = some o) → Q (.done (.ret .none)) ⟨h', g, d, tk', os⟩) :
    wpAny (model prog w) A (Builtin.«object.__setattr__» ⟨[.ref x, .str name tk, v], []⟩) Q E ⟨h, g, d, t, os⟩ := by
  have ps := T.passes (SF.passes (.ref x))
  unfold Builtin.«object.__setattr__»
  repeat (first | rw [refuse_eq] | (rw [refuseLoop_ref, ps]) | (with_reducible refine wpAny_loadPart_at hx ?_; rw [hc]) | with_reducible refine wpAny_mroOf_exc hC ?_ | with_reducible refine nt_lookup hC hn T p SF.mro hB hm ?_ | wp_step)
  rw [hd, if_neg (by simp [typeHasDict])]
  split
  · rename_i z
    cases z
  split
  · rename_i c z
    exact absurd z (hnc c)
  have hx1 : (h.push { cls := .type "dict", data := .dict #[] }).get? x = some o := Heap.get?_push_of_some _ hx
  have ne : x ≠ h.objs.size := Nat.ne_of_lt (Heap.lt_size hx)
  refine wpAny_bind (wpAny_alloc' (wpAny_bind (wpAny_update' hx1 (wpAny_pure ?_))))
  have hg : ((h.push { cls := .type "dict", data := .dict #[] }).update x fun o => { o with dict := some h.objs.size }).get? h.objs.size = some { cls := .type "dict", data := .dict #[] } := (Heap.get?_update_ne _ _ _ _ ne.symm).trans (Heap.get?_push_at rfl rfl)
  have hnd : ((h.push { cls := .type "dict", data := .dict #[] }).update x fun o => { o with dict := some h.objs.size }).Ns h.objs.size (fun _ => none) := ⟨_, #[], _, hg, rfl, fun e he => absurd he (by simp), fun _ => rfl⟩
  show wpAny _ _ (storeInDict h.objs.size (.str name tk) name v) _ _ _
  unfold storeInDict newKeyGuard
  refine wpAny_bind (wpAny_pure (wpAny_bind (wpAny_nsSet1 (Heap.Ns1.of_empty hnd) fun h' hn' hs => ?_)))
  obtain ⟨oD, esD, epD, hoD, hdD, hcD⟩ := hn'.count (Within.cons name v Within.nil)
  refine wpAny_bind (wpAny_lookBehind hoD (by rw [hdD]; exact pastItsLine_dict (Nat.le_trans hcD (by rw [List.length_cons, List.length_nil, sizeLine_eq]; omega))) ?_)
  wp_walk
  have hx' : h'.get? x = some { o with dict := some h.objs.size } := by
    refine (hs.2 x ne).trans (Heap.get?_update_self _ hx1 ?_)
    have hfr := (Heap.get?_some_iff.mp hx).2
    obtain ⟨oc, od, odt, osl⟩ := o
    cases odt <;> first | rfl | exact hfr
  refine hq h' _ hx' hn' fun b ob hb e => ?_
  exact (hs.2 b (Nat.ne_of_lt (Heap.lt_size e))).trans ((Heap.get?_update_ne _ _ _ _ hb).trans (Heap.get?_push_of_some _ e))
theorem xs_attr {o : Obj} {Q : Unit → Shared → Prop} (SF : StoreFacts B bmB sa owner) (T : NoTail h P bmB bm) (p : P name) (p2 : P "__setattr__") (hC : h.get? C = some (excClassObj nm q C N bs bm true sn sub ab col dd k0 k1 k2 k3 k5 newId)) (hn : h.Ns N mN) (hm : mN name = none) (hm2 : mN "__setattr__" = none)
    (hB : typeLookup (.type B) name = pure none) (hx : h.get? x = some o) (hc : o.cls = .ref C) (hnc : ∀ c, o.data ≠ .cls c) (hd : o.dict = none)
    (hq : ∀ h' tk', h'.get? x = some { o with dict := some h.objs.size } → h'.Ns1 h.objs.size (fun y => if y = name then some v else none) → (∀ b o, b ≠ x → h.get? b = some o → h'.get? b = some o) → Q () ⟨h', g, d, tk', os⟩) :
    wpAny (model prog w) A (setAttr (.ref x) name v) Q E ⟨h, g, d, t, os⟩ := by
  have f3 := SF.slot.bind (.ref x)
  unfold setAttr callSpecial? specialOf
  repeat (any_goals (first | assumption | (with_reducible refine wpAny_loadPart_at hx ?_; rw [hc]) | with_reducible refine nt_lookup hC hn T p2 SF.mro SF.slot.lookup hm2 ?_ | wp_step))
  refine codeAny_call_builtin SF.slot.plain SF.entry (xs_check SF T hC hx hc (xs_entry SF T p hC hn hm hB hx hc hnc hd fun h' tk' a1 a4 a5 => ?_))
  repeat (any_goals (first | assumption | wp_step))
  exact hq h' tk' a1 a4 a5
end
end PySem

set_option Elab.async false
set_option linter.all false
set_option maxRecDepth 100000
set_option maxHeartbeats 4000000
/-! An own exception class with an __init__ that stores its argument as row (BadRow). -/
namespace VL
open PySem PySem.Spec PyProof.Rows L2
open PySem.W (nsIn nsOkIn)
def noIn (K : Fg) (ns : List Str) (N : Addr) : Bool := nsOkIn K N && ns.all fun n => nsIn K N n == some none
def tailP (K : Fg) (ns : List Str) (mB : List Value) : List Value → Bool
  | [] => mB == []
  | v :: r => (v :: r) == mB || match v with
    | .ref a => (match K.lookup a with
      | some ⟨_, _, .cls cd, _⟩ => noIn K ns cd.ns && tailP K ns mB r
      | _ => false)
    | _ => false
theorem noIn_of {K : Fg} {h : Heap} {ns : List Str} {N : Addr} (X : K.In h) (q : noIn K ns N = true) : h.Ns N (h.nsMap N) ∧ ∀ n, n ∈ ns → h.nsMap N n = none := by
  obtain ⟨a, b⟩ := Bool.and_eq_true_iff.mp q
  exact ⟨.of_isNs (PySem.W.isNs_of_in X a), fun n hn => PySem.W.nsMap_none_of_in X a (beq_iff_eq.mp (List.all_eq_true.mp b n hn))⟩
theorem tailP_of {K : Fg} {h : Heap} {ns : List Str} {mB : List Value} (X : K.In h) : ∀ {l : List Value}, tailP K ns mB l = true → NoTail h (· ∈ ns) mB l
  | [], e => by rw [← beq_iff_eq.mp e]; exact .base
  | v :: r, e => by
    unfold tailP at e
    rcases Bool.or_eq_true_iff.mp e with q | q
    · rw [beq_iff_eq.mp q]; exact .base
    · split at q
      · split at q
        · rename_i ho
          obtain ⟨q1, q2⟩ := Bool.and_eq_true_iff.mp q
          obtain ⟨a, b⟩ := noIn_of X q1
          exact .own (X _ _ ho) a b (tailP_of X q2)
        · cases q
      · cases q
def rowNs : List Str := ["row", "__setattr__", "__getattribute__", "__getattr__"]
def iniNs : List Str := ["__init__", "row", "__setattr__", "__getattribute__", "__getattr__"]
def exrIn (K : Fg) (C fI : Addr) (mB : List Value) (newId : String) : Bool := match K.lookup C with
  | some ⟨.type "type", _, .cls cd, sl⟩ => (match cd.mro, sl.toList with
    | .ref C' :: bm, [_, _, _, _, some (.builtin n), _] => C' == C && n == newId && !cd.hasDel && cd.hasDict && tailP K iniNs mB bm && noIn K rowNs cd.ns && nsIn K cd.ns "__init__" == some (some (.ref fI))
    | _, _ => false)
  | _ => false
theorem exr_obj {K : Fg} {h : Heap} {C fI : Addr} {mB : List Value} {newId : String} (kin : K.In h) (q : exrIn K C fI mB newId = true) :
    ∃ mr ns nm qn bs sn sub ab col dd a0 a1 a2 a3 a5, h.get? C = some (excClassObj nm qn C ns bs mr true sn sub ab col dd a0 a1 a2 a3 a5 newId) ∧ h.Ns ns (h.nsMap ns) ∧ nsIn K ns "__init__" = some (some (.ref fI)) ∧ (∀ n, n ∈ rowNs → h.nsMap ns n = none) ∧ NoTail h (· ∈ iniNs) mB mr := by
  unfold exrIn at q
  split at q
  · rename_i dct cda slo lk
    split at q
    · rename_i C2 mr a0 a1 a2 a3 nw a5 em es
      simp only [Bool.and_eq_true, beq_iff_eq, Bool.not_eq_true'] at q
      obtain ⟨⟨⟨⟨⟨⟨rfl, rfl⟩, nodel⟩, hdct⟩, tl⟩, okn⟩, ini⟩ := q
      obtain ⟨nm, bs, mro, ns, qn, hd, sn, sub, ab, col, del⟩ := cda
      dsimp only at em nodel okn ini hdct
      subst em nodel hdct
      have esl : slo = #[a0, a1, a2, a3, some (.builtin nw), a5] := by
        obtain ⟨ll⟩ := slo
        simp only at es
        rw [es]
      subst esl
      obtain ⟨n1, n2⟩ := noIn_of kin okn
      exact ⟨mr, ns, nm, qn, bs, sn, sub, ab, col, dct, a0, a1, a2, a3, a5, kin _ _ lk, n1, ini, n2, tailP_of kin tl⟩
    · cases q
  · cases q
section
variable {X : Cx} {pins : List (Addr × Obj)} {σ : St} {H : Hp} {s : Shared} {A : Around} {E : Value → Shared → Prop}
theorem rowO_ok {P : Program} {w : World} {H : Hp} {h : Heap} {d : Addr} {k : Int} {t : Tok} (e : h.Ns1 d fun y => if y = "row" then some (.int k t) else none) : ObjOk P w H h d (rowO d k) :=
  ⟨⟨t, e⟩, (let ⟨o, _, _, q, _⟩ := e; ⟨o, q⟩), fun h1 h2 ⟨t', o, es, ep, q, r⟩ kk => ⟨t', o, es, ep, kk o q, r⟩⟩
/-- self.row = k of a new thing -/
theorem xrow_ok {a C fI : Addr} {k : Int} {t : Tok} {Q : Unit → Shared → Prop} (I : Inv X pins σ H s) (ea : H a = some (exN a C none)) (F : exrIn X.K C fI vMro "ValueError.__new__" = true)
    (hq : ∀ s' d, H d = none → Inv X pins σ (upd (upd H d (rowO d k)) a (exN a C (some d))) s' → Q () s') : wpAny (model X.prog X.w) A (setAttr (.ref a) "row" (.int k t)) Q E s := by
  obtain ⟨o, hx, hc, ⟨vs, hd, h2, h1⟩, hdn⟩ := (I.hok a _ ea).1
  obtain ⟨mr, ns, nm, qn, bs, sn, sub, ab, col, dd, a0, a1, a2, a3, a5, hC, hn, _, hno, T⟩ := exr_obj I.kIn F
  obtain ⟨hp, g, d, tk, os⟩ := s
  refine xs_attr (name := "row") PySem.F.store_ValueError T (by decide) (by decide) hC hn (hno _ (by decide)) (hno _ (by decide)) ?_ hx hc (fun c z => by rw [hd] at z; cases z) hdn fun h' tk' e1 e2 e3 => ?_
  · rw [typeLookup_type, builtinLookup_eq_fast]; kernel_rfl
  · have ne : a ≠ hp.objs.size := Nat.ne_of_lt (Heap.lt_size hx)
    have fr : o.isFreed = false := (Heap.get?_some_iff.mp hx).2
    have em : (h'.update a fun _ => o).get? a = some o := Heap.get?_update_self _ e1 fr
    have eo : ∀ b, b ≠ a → (h'.update a fun _ => o).get? b = h'.get? b := fun b hb => Heap.get?_update_other _ _ (Ne.symm hb)
    have I1 := I.laid (a := hp.objs.size) (o := rowO hp.objs.size k) (h' := h'.update a fun _ => o) (t' := tk') (fun b u q => by
      by_cases hb : b = a
      · subst hb; rw [hx] at q; cases q; exact em
      · rw [eo b hb]; exact e3 b u hb q) (Nat.le_refl _) (rowO_ok (t := t) (e2.at fun o q => by rw [eo _ ne.symm]; exact q))
    have I2 := I1.write (x := a) (e := a) (o := exN a C (some hp.objs.size)) (h' := h') (t' := tk') (by rw [upd_ne ne, ea]; exact trivial) (.inl rfl) (fun b u hb q => by rw [← eo b hb]; exact q) ⟨_, e1⟩ (exN_ok e1 hc hd h2 h1 rfl)
    exact hq _ _ (I.hok.fresh (Nat.le_refl _)) I2
theorem upd_own {H : Hp} {a : Addr} {o : HO} (h : H a = some o) : upd H a o = H := by
  funext b
  by_cases hb : b = a
  · subst hb; rw [upd_same, h]
  · rw [upd_ne hb]
theorem xinit_ok {a C fI : Addr} {v : Value} {Q : Value → Shared → Prop} (I : Inv X pins σ H s) (ea : H a = some (exN a C none)) (F : exrIn X.K C fI vMro "ValueError.__new__" = true)
    (hq : ∀ s', Inv X pins σ H s' → Q .none s') : wpAny (model X.prog X.w) A (call (.builtin "ValueError.__init__") [.ref a, v]) Q E s := by
  obtain ⟨o, hx, hc, ⟨vs, hd, h2, h1⟩, hdn⟩ := (I.hok a _ ea).1
  obtain ⟨mr, ns, nm, qn, bs, sn, sub, ab, col, dd, a0, a1, a2, a3, a5, hC, hn, _, hno, T⟩ := exr_obj I.kIn F
  obtain ⟨hp, g, d, tk, os⟩ := s
  refine wpAny_call (codeAny_call_builtin PySem.F.excBase_ValueError.init.plain PySem.F.excBase_ValueError.initEntry (wpAny_check_init_subU PySem.F.excBase_ValueError (T.tail (by decide)) hC hx hc ?_))
  wp_walk
  have sz : 2 < vs.size := (Array.getElem?_eq_some_iff.mp h2).1
  have h0 : vs[0]? = some vs[0] := Array.getElem?_eq_getElem (by omega)
  simp only [hd]
  refine wpAny_pure ?_
  rw [h0]
  refine wpAny_pure (wpAny_bind (wpAny_setField (Heap.get?_push_of_some _ hx) hd (by omega) ?_))
  have fin : ∀ s', Inv X pins σ H s' → wpAny (model X.prog X.w) A.in1 (ret Value.none) (fun fin s' => match fin with
      | Fin.done f => (match (Except.ok f : Except Value Flow) with
        | Except.ok (Flow.ret v) => Q v s'
        | Except.ok a => False
        | Except.error e => E e s')
      | Fin.again c' => c'.quiet = true ∧ codeAny (model X.prog X.w) A c' (fun r s' => match r with
        | Except.ok (Flow.ret v) => Q v s'
        | Except.ok a => False
        | Except.error e => E e s') s') (fun e s' => E e s') s' := fun s' I' => wpAny_pure (hq s' I')
  have I1 := I.kept (h' := hp.push { cls := Value.type "tuple", data := Data.seq #[v] }) (t' := tk) fun b u q => Heap.get?_push_of_some _ q
  have e1 : ((hp.push { cls := Value.type "tuple", data := Data.seq #[v] }).update a (Obj.mapFields fun x => x.setIfInBounds 0 (Value.ref hp.objs.size))).get? a = some (o.mapFields fun x => x.setIfInBounds 0 (Value.ref hp.objs.size)) := Heap.get?_update_self _ (Heap.get?_push_of_some _ hx) (Obj.isFreed_of_fields (Obj.data_mapFields hd _))
  have I2 := I1.write (x := a) (e := a) (o := exN a C none) (t' := tk) (by rw [ea]; exact trivial) (.inl rfl) (fun b u hb q => (Heap.get?_update_other _ _ (Ne.symm hb)).trans q) ⟨_, e1⟩ (exN_ok e1 ((Obj.cls_mapFields _ _).trans hc) (Obj.data_mapFields hd _) (by rw [Array.getElem?_setIfInBounds_ne (by decide)]; exact h2) (by rw [Array.getElem?_setIfInBounds_ne (by decide)]; exact h1) ((dict_mapF _ _).trans hdn))
  rw [show upd H a (exN a C none) = H from upd_own ea] at I2
  cases vs[0] <;> first | exact wpAny_letGo (fin _ I2) | exact wpAny_pure (fin _ I2)
end
/-! ### the two statements of such an __init__ -/
structure WaveC (K : Fg) (n : Str) (W : Addr) : Prop where
  nm : PySem.W.nsIn K mainGlobals n = some (some (.ref W))
  ga : PySem.W.specialIn K (.ref W) "__getattribute__" = some (some (.builtin "type.__getattribute__"))
  rd : PySem.W.readsIn K W (.type "type") = true
  fc : PySem.W.findCls K (.ref W) (.type "type") "__init__" = some (.val (.builtin "ValueError.__init__"))
section
variable {X : Cx} {e o value : Expr} {es : List Expr} {ta tv : TE} {t2 : TA} {pos pos' apos np : Pos}
theorem pe_wave {n : Str} {W : Addr} {pl : Sem Bool} (C : WaveC X.K n W) (hg : Gl X n) (ha : PA X (e :: es) t2) (ht : eval (.Call (.Attribute (.Name n np) "__init__" apos) (e :: es) [] pos) X.env = (do
      let ov ← eval (.Name n np) X.env
      standAt apos.atName
      let (f, first) ← holding [ov] (getMethod ov "__init__" pl)
      callWith pos f first (backTo pos (starEach (e :: es) X.env)) (backToKw pos (keywordEach [] X.env)))) (hdb : (n == ("__debug__" : Str)) = false := by decide) (hpl : (backTo pos (starEach es X.env)).any (·.1) = false := by rfl) (he : starEach (e :: es) X.env = (false, eval e X.env) :: starEach es X.env := by rfl) :
    PE X (.Call (.Attribute (.Name n np) "__init__" apos) (e :: es) [] pos) (fun σ H Q => t2 σ H fun vs H1 => ∃ a C fI y, vs = [.ref a, y] ∧ H1 a = some (exN a C none) ∧ exrIn X.K C fI vMro "ValueError.__new__" = true ∧ Q .non H1) := by
  intro pins s σ H Q I h
  have hm := PySem.W.mg_of I.ok.mod.kin I.ok.mod.glob C.nm
  refine PySem.W.methodCall_KW (pl := pl) (ld_glob I hg hm ?_ hdb) ht
  refine PySem.W.method_cls I.kIn C.ga (PySem.W.cls_value I.kIn C.rd C.fc rfl ?_)
  refine PyProof.Rows.callWith_method1 (thn (ha pos pins _ σ H _ (I.tok _) h) fun us s1 ⟨vs, H1, I1, r, a, C', fI, y, ev, ea, F, q⟩ => ?_) he hpl
  subst ev
  obtain ⟨u1, u2, rfl, r1, r2⟩ := vals2 r
  obtain rfl : u1 = Value.ref a := r1
  exact xinit_ok I1 ea F fun s' I' => ⟨.non, H1, I', rfl, q⟩
/-- self.row = value -/
theorem ps_row (ha : PE X o ta) (hv : PE X value tv) (hs : swapsWith value (some (.Attribute o "row" pos')) pos.line X.env = pure false := by rfl) :
    PS X (.Assign [.Attribute o "row" pos'] value pos) (fun D σ H => tv σ H fun y H1 => ta σ H1 fun x H2 => ∃ a C fI k, x = .ref a ∧ y = .int k ∧ H2 a = some (exN a C none) ∧ exrIn X.K C fI vMro "ValueError.__new__" = true ∧ ∀ d, H2 d = none → D.nx σ (upd (upd H2 d (rowO d k)) a (exN a C (some d)))) := by
  intro pins s σ H D I h
  refine plainObj_wpAny_Assign_Attribute (thn (hv pins s σ H _ I h) fun u s1 ⟨y, H1, I1, ry, q⟩ => thn (ha pins s1 σ H1 _ I1 q) fun ov s2 ⟨x, H2, I2, rx, a, C, fI, k, ex, ey, ea, F, q2⟩ => ?_) hs
  subst ex ey
  obtain rfl : ov = Value.ref a := rx
  obtain ⟨t, rfl⟩ := (show ∃ t, u = Value.int k t from ry)
  exact xrow_ok I2 ea F fun s3 d hd I3 => ⟨σ, _, I3, q2 d hd⟩
/-- f"a{e}b" of a whole number -/
theorem pe_fint {a b : Str} {j1 j2 : Nat} {p1 p2 fp : Pos} (he : PE X e ta) (ha : a.length ≤ 1000) (hb : b.length ≤ 1000) :
    PE X (.JoinedStr [.Constant (.str a) j1 p1, .FormattedValue e (-1) none fp, .Constant (.str b) j2 p2] pos) (fun σ H Q => ta σ H fun v H1 => ∃ i : Int, v = .int i ∧ i.natAbs.log2 < 1920 ∧ (toString i : Str).length ≤ 1000 ∧ Q (.str (Str.empty ++ a ++ (toString i : Str) ++ b)) H1) := by
  intro pins s σ H Q I h
  have l0 : (Str.empty ++ a).length ≤ 1000 := by rw [strLen_append]; show 0 + a.length ≤ 1000; omega
  refine JoinedStr_many (joinParts_cons (Calls.Constant_str ⟨Nat.le_trans l0 (by decide), ?_⟩))
  refine joinParts_cons (FormattedValue_plain (thn (he pins _ σ H _ (I.tok _) h) fun u s1 ⟨v, H1, I1, rv, i, ev, hi, hl, q⟩ => ?_))
  subst ev
  obtain ⟨t, rfl⟩ := (show ∃ t, u = Value.int i t from rv)
  have l1 : (Str.empty ++ a ++ (toString i : Str)).length ≤ 2000 := by rw [strLen_append]; omega
  have l2 : (Str.empty ++ a ++ (toString i : Str) ++ b).length ≤ 3000 := by rw [strLen_append]; omega
  refine formatField_int_small hi ⟨Nat.le_trans l1 (by decide), ?_⟩
  refine joinParts_cons (Calls.Constant_str ⟨Nat.le_trans l2 (by decide), ?_⟩)
  exact joinParts_nil ⟨.str _, H1, (I1.tok _), ⟨_, rfl⟩, q⟩ (Nat.le_trans l2 (by decide))
end
end VL

set_option Elab.async false
set_option linter.all false
set_option maxRecDepth 100000
set_option maxHeartbeats 4000000
namespace VL
open PySem PySem.Spec PyProof.Rows L2
/-- what BadRow.__init__ does -/
def spRow (K : Fg) : Sp := fun vs H Q _ => ∃ a C fI i, vs = [.ref a, .int i] ∧ H a = some (exN a C none) ∧ exrIn K C fI vMro "ValueError.__new__" = true ∧ i.natAbs.log2 < 1920 ∧ (toString i : Str).length ≤ 1000 ∧ ∀ d, H d = none → Q .non (upd (upd H d (rowO d i)) a (exN a C (some d)))
section
variable {P : Program} {w : World} {K : PySem.W.Frag} {mg : Str → Option Value} {base : Heap} {CX : CXT}
theorem fn_row {x qual sa sb : Str} {st : Stmt} {f W : Addr} {fd : FuncData} {dV : Value} {k : Nat} {np ap p1 p2 p3 p4 p5 p6 cp ep q1 q2 q3 q4 : Pos} (F : FunV K x qual st f fd dV) (S : FnScope ["self", "row"] ["self", "row"] (defScope st)) (C : WaveC K "WaveError" W)
    (hb : defBody st = [.Expr (.Call (.Attribute (Expr.Name "WaveError" np) "__init__" ap) [.Name "self" p1, .JoinedStr [.Constant (.str sa) 0 p2, .FormattedValue (.Name "row" p3) (-1) none p4, .Constant (.str sb) 0 p5] p6] [] cp) ep, .Assign [.Attribute (.Name "self" q1) "row" q2] (.Name "row" q3) q4])
    (la : sa.length ≤ 1000) (lb : sb.length ≤ 1000)
    (hg : ∀ (cdv : Value) (A : Around) (outer : List Env) (s : Shared) (H : Hp) (E : XK), Gl (cxOf CX P w K mg base ["self", "row"] qual (defScope st) f cdv A outer s H E) "WaveError")
    (ht : ∀ (cdv : Value) (A : Around) (outer : List Env) (s : Shared) (H : Hp) (E : XK), ∃ pl, ∀ env, env = (cxOf CX P w K mg base ["self", "row"] qual (defScope st) f cdv A outer s H E).env → eval (.Call (.Attribute (.Name "WaveError" np) "__init__" ap) [.Name "self" p1, .JoinedStr [.Constant (.str sa) 0 p2, .FormattedValue (.Name "row" p3) (-1) none p4, .Constant (.str sb) 0 p5] p6] [] cp) env = (do
      let ov ← eval (.Name "WaveError" np) env
      standAt ap.atName
      let (f, first) ← holding [ov] (getMethod ov "__init__" pl)
      callWith cp f first (backTo cp (starEach [.Name "self" p1, .JoinedStr [.Constant (.str sa) 0 p2, .FormattedValue (.Name "row" p3) (-1) none p4, .Constant (.str sb) 0 p5] p6] env)) (backToKw cp (keywordEach [] env))))
    (v1 : Vis (defScope st) "self") (v2 : Vis (defScope st) "row") : FnOk P w K mg base CX (k + 1) f fd ["self", "row"] (spRow K) := by
  obtain ⟨oc, od, kV, doc, pm, an, cdv, ct, osl, rfl, lk, hcd⟩ := F.ex
  refine fn_of lk hcd S (fun vs H Q E h => ?_) fun A outer s H vs Q E hr hsp => ?_
  · obtain ⟨a, C', fI, i, rfl, _⟩ := h
    rfl
  · rw [hb]
    obtain ⟨pl, ht⟩ := ht cdv A outer s H E
    refine ⟨_, pss_cons (ps_expr (pe_wave (pl := pl) C (hg cdv A outer s H E) (pa_cons (pe_var (i := 0) rfl v1) (pa_cons (pe_fint (pe_var (i := 1) rfl v2) la lb) pa_nil rfl) rfl) (ht _ rfl) (by decide) rfl rfl) rfl) (pss_one (ps_row (pe_var (i := 0) rfl v1) (pe_var (i := 1) rfl v2) rfl)), ?_⟩
    obtain ⟨a, C', fI, i, rfl, ea, F', hi, hl, q⟩ := hsp
    exact ⟨.ref a, rfl, .int i, rfl, i, rfl, hi, hl, a, C', fI, .str _, rfl, ea, F', .int i, rfl, .ref a, rfl, a, C', fI, i, rfl, rfl, ea, F', q⟩
end
end VL

set_option Elab.async false
set_option linter.all false
set_option maxRecDepth 100000
set_option maxHeartbeats 4000000
namespace VL
open PySem PySem.Spec PyProof.Rows L2
theorem ns_some {K : Fg} {h : Heap} {N : Addr} {m : Str → Option Value} {n : Str} {v : Value} (X : K.In h) (G : h.Ns N m) (e : PySem.W.nsIn K N n = some (some v)) : m n = some v := by
  obtain ⟨o, es, ep, ho, hd, _, hf⟩ := G
  unfold PySem.W.nsIn at e
  split at e
  · rename_i lk
    have q := X _ _ lk
    rw [ho] at q
    cases q
    cases hd
    split at e
    · rename_i y hy
      injection e with e; injection e with e
      rw [← hf]
      unfold nsFind findBy
      rw [← Array.find?_toList, hy, ← e]
      rfl
    · split at e <;> cases e
  · cases e
/-- a class with such an __init__ -/
structure RowC (K : Fg) (n : Str) (C fI : Addr) : Prop where
  nm : PySem.W.nsIn K mainGlobals n = some (some (.ref C))
  ex : exrIn K C fI vMro "ValueError.__new__" = true
  fo : (match K.lookup fI with | some o => o.cls == .type "function" | none => false) = true
  kp : PySem.W.keepIn K (.ref C) = true
section
variable {X : Cx} {CX : CXT} {E : XK} {pins : List (Addr × Obj)} {σ : St} {H : Hp} {s : Shared} {k : Nat} {fd : FuncData} {n : Str} {C fI : Addr}
theorem run_row {i : Int} {t : Tok} {Q : VK} (M : RowC X.K n C fI) (F : FnOk X.prog X.w X.K X.mg X.base CX k fI fd ["self", "row"] (spRow X.K)) (hr : Room (k + 1) X.A) (hb : Binds X.K fd ["self", "row"] []) (hx : Passes CX X E) (I : Inv X pins σ H s) (hi : i.natAbs.log2 < 1920) (hl : (toString i : Str).length ≤ 1000)
    (h : ∀ a d, H a = none → upd H a (exN a C none) d = none → Q (.ref a) (upd (upd (upd H a (exN a C none)) d (rowO d i)) a (exN a C (some d)))) : wpAny (model X.prog X.w) X.A (call (.ref C) [.int i t]) (EP X pins σ Q) X.xe s := by
  obtain ⟨mr, ns, nm, qn, bs, sn, sub, ab, col, dd, a0, a1, a2, a3, a5, hC, hn, ini, _, T⟩ := exr_obj I.kIn M.ex
  have fo := M.fo
  split at fo
  rotate_left
  · cases fo
  rename_i oI lo
  have I0 := I
  obtain ⟨hp, g, d, tk, os⟩ := s
  refine xi_call (rest := [.int i t]) PySem.F.excBase_ValueError (by decide +kernel) PySem.F.excBase_ValueError (T.tail (by decide)) hC hn (ns_some I.kIn hn ini) (I.kIn _ _ lo) (beq_iff_eq.mp fo) ?_ (show 1 ≤ sizeLine by decide)
  have he : (raw hp C [.int i t]).get? (hp.objs.size + 1) = some { cls := .ref C, data := .fields #[.ref hp.objs.size, .none, .none, .none, .bool false, .none] } := by heap_get
  have I2 := I.laid (a := hp.objs.size + 1) (o := exN (hp.objs.size + 1) C none) (h' := raw hp C [.int i t]) (t' := tk) (fun b u q => raw_keeps q) (Nat.le_succ _) (exN_ok he rfl rfl rfl rfl rfl)
  have sp : spRow X.K [.ref (hp.objs.size + 1), .int i] (upd H (hp.objs.size + 1) (exN (hp.objs.size + 1) C none)) (fun v H' => v = .non ∧ Q (.ref (hp.objs.size + 1)) H') E := ⟨_, C, fI, i, rfl, upd_same, M.ex, hi, hl, fun d hd => ⟨rfl, h _ d (I0.hok.fresh (Nat.le_succ _)) hd⟩⟩
  refine wpAny_call (codeAny_mono (F.run _ X.stack _ _ ⟨[.ref (hp.objs.size + 1), .int i t], []⟩ [.ref (hp.objs.size + 1), .int i t] [.ref (hp.objs.size + 1), .int i] _ E (hr.make C [.int i t] []) (I2.env0.make C [.int i t] []) (hb _ [.ref (hp.objs.size + 1), .int i t] I2.kIn rfl) (.cons rfl (.cons ⟨t, rfl⟩ .nil)) sp) fun r s' hq => ?_)
  cases r with
  | error e => exact hx pins σ _ _ e s' I2 hq
  | ok fl =>
    cases fl with
    | ret u =>
      obtain ⟨v, H', I3, rv, ev, q3⟩ := I2.after hq
      subst ev
      exact ⟨rv, ⟨V.ref (hp.objs.size + 1), H', I3, rfl, q3⟩⟩
    | next => exact False.elim hq
    | brk => exact False.elim hq
    | cont => exact False.elim hq
end
end VL

set_option Elab.async false
set_option linter.all false
set_option maxRecDepth 100000
set_option maxHeartbeats 4000000
namespace VL
open PySem PySem.Spec PyProof.Rows L2
section
variable {M : Model} {A : Around} {E : Value → Shared → Prop} {s : Shared} {env : Env} {C : Addr}
/-- raise of a thing that is there -/
theorem raise_any {x : Sem Value} {Q : Flow → Shared → Prop} (hh : A.handled = none)
    (h : wpAny M A x (fun v s1 => ∃ e oe vs, v = .ref e ∧ s1.heap.get? e = some oe ∧ oe.cls = .ref C ∧ oe.data = .fields vs ∧ vs[1]? = some .none ∧ (∃ nm q N bs bm hdct sn sub ab col dd k0 k1 k2 k3 k5 newId, s1.heap.get? C = some (excClassObj nm q C N bs bm hdct sn sub ab col dd k0 k1 k2 k3 k5 newId) ∧ bm.contains (.type "BaseException") = true) ∧ E (.ref e) s1) E s) :
    wpAny M A (raiseStmt env (some x) none) Q E s := by
  unfold raiseStmt
  refine wpAny_bind (wpAny_mono h (fun v s1 h1 => ?_) fun _ _ x => x)
  obtain ⟨e, ⟨oc, od, odt, osl⟩, vs, rfl, he, hc, hd, hv1, ⟨nm, q, N, bs, bm, hdct, sn, sub, ab, col, dd, k0, k1, k2, k3, k5, newId, hC, hb⟩, hE⟩ := h1
  have cB : (Value.ref C :: bm).contains (.type "BaseException") = true := by rw [List.contains_cons, hb, Bool.or_true]
  obtain ⟨hp, g, d, tk, os⟩ := s1
  dsimp only at hc hd
  subst hc hd
  repeat (first | with_reducible refine wpAny_loadPart_at he ?_ | with_reducible refine wpAny_field he rfl hv1 ?_ | with_reducible refine wpAny_loadPart_at hC ?_ | (with_reducible refine wpAny_isSubtype_exc hC ?_; rw [cB]) | wp_step)
  exact wpAny_raiseNew_none hh hE
end
@[simp] def xRaiseK (n : Str) (f : Dv → Option D) : Xf := fun δ => (f δ).bind fun d => match d with
  | .int k => if 0 < k ∧ k ≤ 100 then some ((n, k), δ) else none
  | _ => none
theorem small_txt : ((List.range 101).all fun k => decide ((toString (k : Int) : Str).length ≤ 1000) && decide ((k : Int).natAbs.log2 < 1920)) = true := by decide +kernel
theorem small_ok {k : Int} (h0 : 0 < k) (h1 : k ≤ 100) : (toString k : Str).length ≤ 1000 ∧ k.natAbs.log2 < 1920 := by
  obtain ⟨m, rfl⟩ : ∃ m : Nat, k = m := ⟨k.toNat, by omega⟩
  have := List.all_eq_true.mp small_txt m (List.mem_range.mpr (by omega))
  simpa using this
section
variable {m : Nat} {X : Cx} {CX : CXT} {E : XK} {k : Nat} {fd : FuncData} {C fI : Addr} {e : Expr} {f : Dv → Option D} {pos : Pos}
/-- raise N(e), N a class that stores its argument as row -/
theorem sx_raiseK {x : Str} {np cpos : Pos} (M : RowC X.K x C fI) (F : FnOk X.prog X.w X.K X.mg X.base CX k fI fd ["self", "row"] (spRow X.K)) (hr : Room (k + 1) X.A) (hb : Binds X.K fd ["self", "row"] []) (hxp : Passes CX X E) (hg : Gl X x) (hc : X.calm = true) (ha : EV X e f) (hdb : (x == ("__debug__" : Str)) = false := by decide)
    (he : starEach (e :: []) X.env = (false, eval e X.env) :: starEach [] X.env := by rfl) (hpl : (backTo cpos (starEach [] X.env)).any (·.1) = false := by rfl) (hm1 : 1 ≤ m := by decide) :
    SX m X (.Raise (some (.Call (.Name x np) [e] [] cpos)) none pos) (xRaiseK x f) := by
  intro pins s σ H D I h
  obtain ⟨H₀, Z₀, Z, δ, r, hh, e0, kk⟩ := h
  obtain ⟨d, e1, e0⟩ := bind_some e0
  split at e0
  rotate_left
  · cases e0
  rename_i i
  split at e0
  rotate_left
  · cases e0
  rename_i hi
  cases e0
  obtain ⟨hl, hi2⟩ := small_ok hi.1 hi.2
  have hm := PySem.W.mg_of I.ok.mod.kin I.ok.mod.glob M.nm
  rw [arm_exec_Raise]
  refine wpAny_bind (wpAny_standAt (raise_any (C := C) (I.ok.hd hc) ?_))
  have main : wpAny (model X.prog X.w) X.A (eval (.Call (.Name x np) [e] [] cpos) X.env) (fun v s1 => ∃ e oe vs, v = .ref e ∧ s1.heap.get? e = some oe ∧ oe.cls = .ref C ∧ oe.data = .fields vs ∧ vs[1]? = some .none ∧ (∃ nm q N bs bm hdct sn sub ab col dd k0 k1 k2 k3 k5 newId, s1.heap.get? C = some (excClassObj nm q C N bs bm hdct sn sub ab col dd k0 k1 k2 k3 k5 newId) ∧ bm.contains (.type "BaseException") = true) ∧ X.xe (.ref e) s1) X.xe s := by
    refine wpAny_Call_Name_kw (ld_glob I hg hm ?_ hdb)
    refine PySem.W.callWith_K (h₀ := X.base) I.ok.mod.kin M.kp (thn ((pa_cons ha pa_nil he) cpos pins s σ H (fun vs H1 => ∃ Z1, Hold X.K H₀ Z₀ Z1 δ σ H1 ∧ Same Z Z1 ∧ vs = [.int i]) I ⟨H₀, Z₀, Z, δ, _, hh, e1, fun v Z1 H1 hh1 t1 r1 => ⟨Z1, hh1, t1, by cases r1; rfl⟩⟩) fun us s1 ⟨vs, H1, I1, rv, Z1, hh1, t1, ev⟩ => ⟨I1.kIn, ?_⟩) he hpl
    subst ev
    obtain ⟨u, rfl, ru⟩ := vals1 rv
    obtain ⟨t, rfl⟩ := (show ∃ t, u = Value.int i t from ru)
    refine wpAny_mono (run_row (Q := fun v H2 => ∃ a d, v = .ref a ∧ H1 a = none ∧ upd H1 a (exN a C none) d = none ∧ H2 = upd (upd (upd H1 a (exN a C none)) d (rowO d i)) a (exN a C (some d))) M F hr hb hxp I1 hi2 hl fun a d h1 h2 => ⟨a, d, rfl, h1, h2, rfl⟩) (fun v s2 q => ?_) fun _ _ z => z
    obtain ⟨v', H2, I2, rv2, a, d, rfl, fa, fdn, rfl⟩ := q
    obtain rfl : v = Value.ref a := rv2
    obtain ⟨oe, hoe, hoc, ⟨vs, hvd, _, hv1⟩, _⟩ := (I2.hok a _ upd_same).1
    obtain ⟨mr, ns, nm, qn, bs, sn, sub, ab, col, dd, a0, a1, a2, a3, a5, hC, _, _, _, T⟩ := exr_obj I2.kIn M.ex
    refine ⟨a, oe, vs, rfl, hoe, hoc, hvd, hv1, ⟨nm, qn, ns, bs, mr, true, sn, sub, ab, col, dd, a0, a1, a2, a3, a5, _, hC, T.has (by decide +kernel)⟩, ?_⟩
    have da : d ≠ a := fun z => by subst z; rw [upd_same] at fdn; cases fdn
    have n1 := New.add hh1.zh fa (exN a C none)
    have n2 := New.add n1.zh fdn (rowO d i)
    have n12 := n1.trans n2
    refine kk pins σ H1 Z1 s1 _ _ hh1 t1 I1 (.here hm1 M.nm rfl I2 (n12.raised (o := exN a C (some d)) hh1.zh fa n12 (u := exN a C none) (by rw [upd_ne da.symm, upd_same])) upd_same (.inr ⟨d, rfl, .inl ?_⟩) fa)
    rw [upd_ne da, upd_ne da, upd_same]
  first
    | exact wpAny_bind (wpAny_mono main (fun v s3 h3 => wpAny_bind (wpAny_standAt (wpAny_pure h3))) fun _ _ z => z)
    | exact main
end
end VL

set_option Elab.async false
set_option linter.all false
set_option maxRecDepth 100000
set_option maxHeartbeats 4000000
namespace VL
open PySem PySem.Spec PyProof.Rows L2
theorem lk_ve_ga : typeLookup (.type "ValueError") "__getattribute__" = pure (some (.builtin "BaseException.__getattribute__")) := by rw [typeLookup_type, builtinLookup_eq_fast]; kernel_rfl
theorem lk_ve_gt : typeLookup (.type "ValueError") "__getattr__" = pure none := by rw [typeLookup_type, builtinLookup_eq_fast]; kernel_rfl
theorem lk_ve_row : typeLookup (.type "ValueError") "row" = pure none := by rw [typeLookup_type, builtinLookup_eq_fast]; kernel_rfl
section
variable {prog : Program} {w : World} {A : Around} {E : Value → Shared → Prop} {h : Heap} {g : Array GenState} {d : Drawn} {t : Nat} {os : OsState}
variable {nm q : Str} {C N x dx : Addr} {bs bm : List Value} {sn : List Str} {sub : List Value} {ab : Bool} {col : Option Bool} {dd : Option Addr} {k0 k1 k2 k3 k5 : Option Value} {newId : String} {mN mA : Str → Option Value} {v : Value} {o : Obj}
theorem xga_check {nameV : Value} {Q : Unit → Shared → Prop} (hC : h.get? C = some (excClassObj nm q C N bs bm true sn sub ab col dd k0 k1 k2 k3 k5 newId)) (T : NoTail h (· ∈ iniNs) vMro bm) (hx : h.get? x = some o) (hc : o.cls = .ref C) (hq : Q () ⟨h, g, d, t, os⟩) :
    wpAny (model prog w) A (checkBuiltinCall "BaseException.__getattribute__" ⟨[.ref x, nameV], []⟩) Q E ⟨h, g, d, t, os⟩ := by
  have cB : (Value.ref C :: bm).contains (.type "BaseException") = true := by rw [List.contains_cons, T.has (b := true) (by decide +kernel), Bool.or_true]
  have kd : builtinKind "BaseException.__getattribute__" = some .slot := by decide +kernel
  have sp : splitId "BaseException.__getattribute__" = some ("BaseException", "__getattribute__") := by decide +kernel
  have ao := PySem.F.args_bexc_ga (.ref x) nameV
  simp only [checkBuiltinCall, kd, sp]
  refine wpAny_bind ?_
  unfold isInstance
  repeat (any_goals (first | assumption | (with_reducible refine wpAny_loadPart_at hx ?_; rw [hc]) | (with_reducible refine wpAny_isSubtype_exc hC ?_; rw [cB]) | wp_step))
theorem xga_entry {tk : Tok} {Q : Fin → Shared → Prop} (hC : h.get? C = some (excClassObj nm q C N bs bm true sn sub ab col dd k0 k1 k2 k3 k5 newId)) (hn : h.Ns N mN) (hno : ∀ n, n ∈ rowNs → mN n = none) (T : NoTail h (· ∈ iniNs) vMro bm) (hbm : mroOf (.type "ValueError") = pure vMro)
    (hx : h.get? x = some o) (hc : o.cls = .ref C) (hnc : ∀ c, o.data ≠ .cls c) (hd : o.dict = some dx) (hns : h.Ns1 dx mA) (hv : mA "row" = some v) (hq : Q (.done (.ret v)) ⟨h, g, d, t, os⟩) :
    wpAny (model prog w) A (Builtin.«object.__getattribute__» ⟨[.ref x, .str "row" tk], []⟩) Q E ⟨h, g, d, t, os⟩ := by
  unfold Builtin.«object.__getattribute__»
  repeat (first | (with_reducible refine wpAny_loadPart_at hx ?_; rw [hc]) | with_reducible refine nt_lookup hC hn T (by decide) hbm lk_ve_row (hno _ (by decide)) ?_ | wp_step)
  split
  · rename_i c z
    exact absurd z (hnc c)
  unfold instanceDict
  repeat (first | (with_reducible refine wpAny_loadPart_at hx ?_; rw [hc]) | with_reducible refine wpAny_loadPart_at hC ?_ | wp_step)
  rw [hd]
  repeat (first | (with_reducible refine wpAny_nsGet hns.ns ?_; rw [hv]) | wp_step)
  exact hq
theorem xload {expr : Bool} {Q : Value → Shared → Prop} (hC : h.get? C = some (excClassObj nm q C N bs bm true sn sub ab col dd k0 k1 k2 k3 k5 newId)) (hn : h.Ns N mN) (hno : ∀ n, n ∈ rowNs → mN n = none) (T : NoTail h (· ∈ iniNs) vMro bm) (hbm : mroOf (.type "ValueError") = pure vMro)
    (hx : h.get? x = some o) (hc : o.cls = .ref C) (hnc : ∀ c, o.data ≠ .cls c) (hd : o.dict = some dx) (hns : h.Ns1 dx mA) (hv : mA "row" = some v) (hh : handedOut v = pure v) (hq : ∀ tk, Q v ⟨h, g, d, tk, os⟩) :
    wpAny (model prog w) A (getAttr (.ref x) "row" expr) Q E ⟨h, g, d, t, os⟩ := by
  unfold getAttr getAttrBy
  repeat (first | (with_reducible refine wpAny_loadPart_at hx ?_; rw [hc]) | with_reducible refine nt_lookup hC hn T (by decide) hbm lk_ve_ga (hno _ (by decide)) ?_ | wp_step)
  refine nt_lookup hC hn T (by decide) hbm lk_ve_gt (hno _ (by decide)) ?_
  unfold callGetattribute
  repeat (first | (with_reducible refine wpAny_loadPart_at hx ?_; rw [hc]) | wp_step)
  rw [show (expr && onTheHeap (Value.builtin "BaseException.__getattribute__")) = false by cases expr <;> rfl, if_neg (by decide)]
  unfold boundAndCalled
  have f3 := PySem.F.excAttr_ValueError.ga.bind (.ref x)
  repeat (any_goals (first | assumption | (with_reducible refine wpAny_loadPart_at hx ?_; rw [hc]) | wp_step))
  refine codeAny_call_builtin PySem.F.excAttr_ValueError.ga.plain PySem.F.entry_bexc_ga (xga_check hC T hx hc (xga_entry hC hn hno T hbm hx hc hnc hd hns hv ?_))
  show wpAny _ _ (handedOut v) _ _ _
  rw [hh]
  exact wpAny_pure (hq _)
end
/-- e.row, e an exception of one of the classes ns -/
def rowXs (ns : List Str) : D → Option D
  | .dict [(.str k, .str n), (.str _, .int r)] => if k = "exc" ∧ ns.contains n = true ∧ r ≠ 0 then some (.int r) else none
  | _ => none
theorem rowXs_some {ns : List Str} {d r : D} (h : rowXs ns d = some r) : ∃ n k i, d = .dict [(.str "exc", .str n), (.str k, .int i)] ∧ ns.contains n = true ∧ i ≠ 0 ∧ r = .int i := by
  unfold rowXs at h
  split at h
  · split at h
    · rename_i q
      obtain ⟨rfl, q1, q2⟩ := q
      cases h
      exact ⟨_, _, _, rfl, q1, q2, rfl⟩
    · cases h
  · cases h
section
variable {X : Cx} {a : Expr} {f : Dv → Option D} {pos : Pos}
theorem rd_ok {H Z : Hp} {s : Shared} {pins : List (Addr × Obj)} {σ : St} {b : Addr} {o : HO} (I : Inv X pins σ H s) (zh : Same Z H) (h : Rd Z b o) : ObjOk X.prog X.w H s.heap b o := by
  rcases h with h | ⟨ob, h⟩
  · exact I.hok b _ (zh _ _ h)
  · exact (I.hok b _ (zh _ _ h)).2
theorem ev_row {ns : List Str} (hR : ∀ n, ns.contains n = true → ∃ C fI, RowC X.K n C fI) (ha : EV X a f) (hb : attributeBase a "row" X.env (eval a X.env) = eval a X.env := by rfl) : EV X (.Attribute a "row" pos) (o1 f (rowXs ns)) := by
  intro pins s σ H Q I h
  obtain ⟨H₀, Z₀, Z, δ, d, hh, e, k⟩ := h
  obtain ⟨y, e1, e⟩ := bind_some e
  obtain ⟨n, kk, i, rfl, hc, hi, rfl⟩ := rowXs_some e
  obtain ⟨C, fI, R⟩ := hR n hc
  refine attr_of hb (thn (ha pins s σ H (fun v H1 => ∃ Z1, Hold X.K H₀ Z₀ Z1 δ σ H1 ∧ Same Z Z1 ∧ Rep X.K Z1 v (.dict [(.str "exc", .str n), (.str kk, .int i)])) I ⟨H₀, Z₀, Z, δ, _, hh, e1, fun v Z1 H1 hh1 t1 r1 => ⟨Z1, hh1, t1, r1⟩⟩) fun u s1 ⟨v, H1, I1, rv, Z1, hh1, t1, r1⟩ => ?_)
  cases r1 with
  | @opq b _ q =>
    obtain rfl : u = Value.ref b := rv
    cases q with
    | @exc _ C' dx _ h1 h2 h3 =>
      have : C' = C := by have := h1.symm.trans R.nm; simpa using this
      subst this
      obtain ⟨o, hx, hcl, ⟨vs, hd, _⟩, hdx⟩ := (rd_ok I1 hh1.zh h2).1
      rcases h3 with h3 | ⟨dd, rfl, h3⟩
      · exact absurd h3 hi
      obtain ⟨t, hns⟩ := (rd_ok I1 hh1.zh h3).1
      obtain ⟨mr, ns', nm, qn, bs, sn, sub, ab, col, dd', a0, a1, a2, a3, a5, hC, hn, _, hno, T⟩ := exr_obj I1.kIn R.ex
      obtain ⟨hp, g, dr, tk, os⟩ := s1
      exact xload (mA := fun y => if y = "row" then some (.int i t) else none) hC hn hno T PySem.F.store_ValueError.mro hx hcl (fun c z => by rw [hd] at z; cases z) hdx hns rfl rfl fun tk' => ⟨.int i, H1, I1.tok _, ⟨t, rfl⟩, k _ Z1 H1 hh1 t1 (.int i)⟩
    | dct h1 _ => exact absurd h1 fun z => dctD_no z
end
end VL

set_option Elab.async false
set_option linter.all false
set_option maxRecDepth 100000
set_option maxHeartbeats 4000000
namespace VL
open PySem PySem.Spec PyProof.Rows L2
structure CalRow (P : Program) (w : World) (K : PySem.W.Frag) (mg : Str → Option Value) (base : Heap) (x : Str) (k : Nat) : Prop where
  ex : ∃ C fI fd, RowC K x C fI ∧ FnOk P w K mg base CX0 k fI fd ["self", "row"] (spRow K) ∧ Binds K fd ["self", "row"] []
def RowsC (K : Fg) (ns : List Str) : Prop := ∀ n, ns.contains n = true → ∃ C fI, RowC K n C fI
theorem rows_one {K : Fg} {n : Str} {C fI : Addr} (M : RowC K n C fI) : RowsC K [n] := fun m h => by
  have : m = n := by simpa using h
  subst this
  exact ⟨C, fI, M⟩
theorem sx_raiseR {m : Nat} {X : Cx} {k : Nat} {e : Expr} {f : Dv → Option D} {pos : Pos} {x : Str} {np cpos : Pos} (Y : CalRow X.prog X.w X.K X.mg X.base x k) (hr : Room (k + 1) X.A) (hg : Gl X x) (hc : X.calm = true) (ha : EV X e f) (hdb : (x == ("__debug__" : Str)) = false := by decide)
    (he : starEach (e :: []) X.env = (false, eval e X.env) :: starEach [] X.env := by rfl) (hpl : (backTo cpos (starEach [] X.env)).any (·.1) = false := by rfl) (hm1 : 1 ≤ m := by decide) :
    SX m X (.Raise (some (.Call (.Name x np) [e] [] cpos)) none pos) (xRaiseK x f) := by
  obtain ⟨C, fI, fd, M, F, B⟩ := Y.ex
  exact sx_raiseK (E := fun _ _ _ => False) M F hr B (fun _ _ _ _ _ _ _ h => False.elim h) hg hc ha hdb he hpl hm1
end VL

set_option Elab.async false
set_option linter.all false
set_option maxRecDepth 100000
set_option maxHeartbeats 4000000
namespace VL
open PySem PySem.Spec PyProof.Rows L2
/-! ### a test that looks at the one list of one's own -/
--PURE
def isOw : Sl → Bool
  | .own _ => true
  | _ => false
@[simp] theorem isOw_fz (d : D) : isOw (.fz d) = false := rfl
@[simp] theorem isOw_un : isOw .un = false := rfl
def sole : Nat → Dv → Bool
  | _, [] => true
  | 0, _ :: r => r.all fun s => !isOw s
  | n + 1, s :: r => !isOw s && sole n r
@[simp] theorem sole_zero (s : Sl) (r : Dv) : sole 0 (s :: r) = r.all fun s => !isOw s := rfl
@[simp] theorem sole_succ (n : Nat) (s : Sl) (r : Dv) : sole (n + 1) (s :: r) = (!isOw s && sole n r) := rfl
--END
end VL

set_option Elab.async false
set_option linter.all false
set_option maxRecDepth 100000
set_option maxHeartbeats 4000000
namespace VL
open PySem PySem.Spec PyProof.Rows L2
/-! ### xs.count(x), xs.index(x) of flat items -/
--PURE
@[simp] def xThen (f : Dv → Option D) (u : Dv → Option Xn) : Dv → Option Xn := fun δ => (f δ).bind fun _ => u δ
--END
section
variable {X : Cx} {a b : Expr} {f1 f2 : Dv → Option D} {pos apos : Pos}
/-! ### what raises within a tuple's display -/
def tAX (m : Nat) (X : Cx) (f : Dv → Option Xn) : TA := fun σ H _ => ∃ H₀ Z₀ Z δ n, Hold X.K H₀ Z₀ Z δ σ H ∧ f δ = some n ∧ ∀ pins σ' H' Z' s e s', Hold X.K H₀ Z₀ Z' δ σ' H' → Same Z Z' → Inv X pins σ' H' s → Flung m X n Z' H' s e s' → X.xe e s'
def AX (m : Nat) (X : Cx) (es : List Expr) (f : Dv → Option Xn) : Prop := PA X es (tAX m X f)
variable {m : Nat} {e : Expr} {es : List Expr} {f : Dv → Option D} {fx : Dv → Option Xn} {x1 : Nat}
theorem ax_here (h : EX m X e fx) (hs : starEach (e :: es) X.env = (false, eval e X.env) :: starEach es X.env := by rfl) : AX m X (e :: es) fx :=
  PA.imp (pa_cons h (t := fun _ _ _ => False) (fun _ _ _ _ _ _ _ z => z.elim) hs) fun σ H Q q => q
theorem ax_next (ha : EV X e f) (h : AX m X es fx) (hs : starEach (e :: es) X.env = (false, eval e X.env) :: starEach es X.env := by rfl) : AX m X (e :: es) (xThen f fx) :=
  PA.imp (pa_cons ha h hs) fun σ H Q q => by
    obtain ⟨H₀, Z₀, Z, δ, n, hh, e, k⟩ := q
    obtain ⟨d, e1, e⟩ := bind_some e
    exact ⟨H₀, Z₀, Z, δ, d, hh, e1, fun v Z1 H1 hh1 t1 r1 => ⟨H₀, Z₀, Z1, δ, n, hh1, e, fun pins σ2 H2 Z2 s e s' hh2 t2 I fl => k pins σ2 H2 Z2 s e s' hh2 (t1.trans t2) I fl⟩⟩
theorem ex_tup (h : AX m X es fx) : EX m X (.Tuple es x1 pos) fx :=
  PE.imp (pe_tup h) fun σ H Q q => q
end
end VL

set_option Elab.async false
set_option linter.all false
set_option maxRecDepth 100000
set_option maxHeartbeats 4000000
namespace VL
open PySem PySem.Spec PyProof.Rows L2
/-! ### defs of the text as values -/
--PURE
/-- x.extend(a list) -/
@[simp] def sExtL (i : Nat) (f : Dv → Option D) : Sf := fun δ => (f δ).bind fun v => (lstI v).bind fun es => (slO δ[i]?).bind fun ds => if ds.length + es.length ≤ sizeLine then some (.nx, δ.set i (.ow (ds ++ es))) else none
--END
section
variable {X : Cx} {e : Expr} {es : List Expr} {p pos : Pos} {fs : Dv → Option (List D)}
end
theorem extend_gen (l : Addr) (items : Array Value) (n : Nat) (b : Addr) (items2 : Array Value) (n2 : Nat) (sl : Array (Option Value)) (hc0 : ¬(!items.isEmpty && Builtin.List.listTooLong (items.size + items2.size)) = true) (hc1 : items.size ≤ sizeLine) (hs2 : items.size + items2.size ≤ sizeLine + 1) :
    Meets (Builtin.«list.extend» ⟨[.ref l, .ref b], []⟩) (fun _ R s => s.heap.get? l = some { cls := .type "list", dict := none, data := .seq items n, slots := #[] } ∧ s.heap.get? b = some { cls := .type "list", dict := none, data := .seq items2 n2, slots := sl } ∧ R (.ok (.ret Value.none)) { s with heap := s.heap.update l (Obj.mapSeq fun x => x ++ items2), toks := s.toks }) :=
  .of_wp fun prog w A R s h => by
    obtain ⟨hp, g, d, tk, os⟩ := s; obtain ⟨hl, hb, h⟩ := h; have f1 := AutoSeq1.idx_int; have f2 := AutoSeq1.sub_tuple_tuple; have f3 := AutoSeq1.sub_list_list; have f4 := AutoSeq1.sub_tuple_list; have f5 := AutoSeq1.sub_list_tuple;
    have hz' : (items ++ items2).size ≤ sizeLine + 1 := by rw [Array.size_append]; exact hs2
    wp_walk using (wpAny_updateSeq hl rfl (hz := hc1) (_hz' := hz')), AutoSeq1.wpAny_loadPart' hl, AutoSeq1.wpAny_loadPart' hb; exact ⟨_, rfl, h⟩
def rExtK (K : Fg) : V → List V → Hp → VK → Prop := fun x vs H Q => ∃ l b xs zs, x = .ref l ∧ vs = [.ref b] ∧ H l = some (.lst xs) ∧ SqL K H b zs ∧ xs.length + zs.length ≤ sizeLine ∧ Q .non (upd H l (.lst (xs ++ zs)))
section
variable {X : Cx}
theorem mt_extK : MtM X "list.extend" (rExtK X.K) := by
  intro pins s σ H x vs v us Q I rx rv h
  obtain ⟨l, b, xs, zs, rfl, rfl, hH, hB, hz, q⟩ := h
  cases rx
  obtain ⟨u, rfl, ru⟩ := rv.one
  cases ru
  obtain ⟨z, its, n, r, hl, e⟩ := I.lstM hH
  obtain ⟨its2, r2, ⟨o2, n2, e2, hc, hd, hs⟩, z2⟩ := I.list hB
  have hl2 := r2.length
  obtain ⟨c2, d2, dt2, sl2⟩ := o2
  dsimp only at hc hd hs
  subst hc hd hs
  have hsz : its.toArray.size + its2.toArray.size ≤ sizeLine := by rw [List.size_toArray, List.size_toArray]; omega
  have hlong : ¬ (!its.toArray.isEmpty && Builtin.List.listTooLong (its.toArray.size + its2.toArray.size)) = true := by
    rw [notLongL hsz, Bool.and_false]
    exact Bool.false_ne_true
  refine call_meets F.slot_list_extend ⟨_, e, rfl⟩ F.entry_list_extend (F.args_list_extend_2 _ _)
    (extend_gen l its.toArray n b its2.toArray n2 sl2 hlong (by rw [List.size_toArray]; omega) (by omega)) ⟨e, e2, ?_⟩
  refine ⟨.non, _, I.lset (its' := its ++ its2) hH e (by simp) (r.append r2) ?_, rfl, q⟩
  rw [List.length_append]
  omega
end
section
variable {X : Cx} {e : Expr} {f : Dv → Option D} {p pos apos : Pos}
theorem sv_extL (i : Nat) {x : Str} {cpos : Pos} (hv' : EV X e f) (hN : X.N[i]? = some x := by rfl) (hv : Vis X.env.scope x := by first | exact Or.inl rfl | exact Or.inr (Or.inl rfl) | exact Or.inr (Or.inr rfl)) (hd : (x == ("__debug__" : Str)) = false := by decide) (hcd : (x == ("__classdict__" : Str)) = false := by decide)
    (hbase : attributeBase (.Name x p) "extend" X.env (eval (.Name x p) X.env) = eval (.Name x p) X.env := by rfl)
    (hfew : ((backTo cpos (starEach [e] X.env)).all (fun x => !x.1) && (backToKw cpos (keywordEach [] X.env)).all (fun x => x.1.isSome)
      && decide ([e].length + ([] : List Keyword).length + (if ([] : List Keyword).isEmpty then 0 else 1) < 30)) = true := by rfl)
    (hline : (apos.endLine == cpos.line) = true := by rfl) (hs : starEach [e] X.env = (false, eval e X.env) :: starEach [] X.env := by rfl) (hplain : (backTo cpos (starEach [] X.env)).any (·.1) = false := by rfl)
    (hsw : swapsWith (.Call (.Attribute (.Name x p) "extend" apos) [e] [] cpos) none pos.line X.env = pure false := by rfl) : SV X (.Expr (.Call (.Attribute (.Name x p) "extend" apos) [e] [] cpos) pos) (sExtL i f) :=
  PS.imp (ps_expr (pe_bm PySem.F.plainAttrs_list PySem.F.slot_list_extend PySem.F.type_list_extend mt_extK (pe_var hN hv hd hcd) (pa_cons hv' pa_nil hs) hbase hfew hline hs hplain) hsw) fun D σ H h => by
    obtain ⟨H₀, Z₀, Z, δ, r, hh, e, k⟩ := h
    obtain ⟨v, e1, e⟩ := bind_some e
    obtain ⟨es, e3, e⟩ := bind_some e
    obtain ⟨ds, e2, e⟩ := bind_some e
    by_cases hl : ds.length + es.length ≤ sizeLine
    · rw [if_pos hl] at e
      cases e
      cases v with
      | list es' =>
        cases e3
        obtain ⟨a, xs, h1, h4, h5⟩ := ow_at hh e2
        refine ⟨_, h1, .inl ⟨rfl, xs, SqL.of h4⟩, H₀, Z₀, Z, δ, _, hh, e1, fun w Z1 H1 hh1 t1 r1 => ?_⟩
        obtain ⟨a', xs', g1, g4, g5⟩ := ow_at hh1 e2
        rw [h1] at g1
        cases g1
        cases r1 with
        | lst q1 q2 =>
          exact ⟨a, _, xs', _, rfl, rfl, g4, SqL.same q1 hh1.zh, by rw [g5.length, q2.length]; exact hl, k σ _ Z1 (hh1.chg (xs := xs') (slO_eq e2) h1 (g5.append q2)) t1⟩
      | _ => cases e3
    · rw [if_neg hl] at e; cases e
end
end VL

set_option Elab.async false
set_option linter.all false
set_option maxRecDepth 100000
set_option maxHeartbeats 4000000
namespace VL
open PySem PySem.Spec PyProof.Rows L2
/-! ### a list times an int -/
--PURE
def mulL : D → D → Option D
  | .list xs, .int k => if -(2 ^ 63) ≤ k ∧ k < 2 ^ 63 ∧ xs.length * k.toNat ≤ 16777216 then some (.list (List.replicate k.toNat xs).flatten) else none
  | _, _ => none
--END
theorem Reps.rep {K : Fg} {Z : Hp} {xs : List V} {us : List D} (h : Reps K Z xs us) : ∀ k : Nat, Reps K Z (List.replicate k xs).flatten (List.replicate k us).flatten
  | 0 => .nil
  | k + 1 => by
    rw [List.replicate_succ, List.replicate_succ, List.flatten_cons, List.flatten_cons]
    exact h.append (Reps.rep h k)
theorem mulW (l : Addr) (items : Array Value) (n : Nat) (sl : Array (Option Value)) (x : Int) (u : Tok) (hc0 : ¬(!Builtin.List.listFitsIndex x) = true) (hc1 : ¬items.size * x.toNat > (2 ^ 63 - 1) / 8) (hc2 : ¬Builtin.List.listTooLong (items.size * x.toNat) = true) :
    Meets (Builtin.«list.__mul__» ⟨[.ref l, .int x u], []⟩) (fun _ R s => s.heap.get? l = some { cls := .type "list", dict := none, data := .seq items n, slots := sl } ∧ R (.ok (.ret (Value.ref s.heap.objs.size))) { s with heap := s.heap.push { cls := Value.type "list", data := Data.seq (List.foldl (fun x1 x2 => x1 ++ x2) #[] (List.replicate (if items.isEmpty = true then 0 else x.toNat) items)) }, toks := s.toks }) :=
  .of_wp fun prog w A R s h => by
    obtain ⟨hp, g, d, tk, os⟩ := s; obtain ⟨hl, h⟩ := h
    have hsz := AutoListH.joined_fits hc2
    wp_walk; refine wpAny_ite_false (decide_eq_false (Nat.not_lt.mpr hsz)) ?_; wp_walk; exact ⟨_, rfl, h⟩
theorem rmulW (a : Int) (t : Tok) (l : Addr) (items : Array Value) (n : Nat) (sl : Array (Option Value)) :
    Meets (Builtin.«int.__rmul__» ⟨[.int a t, .ref l], []⟩) (fun _ R s => s.heap.get? l = some { cls := .type "list", dict := none, data := .seq items n, slots := sl } ∧ R (.ok (.ret Value.notImplemented)) s) :=
  .of_wp fun prog w A R s h => by obtain ⟨hp, g, d, tk, os⟩ := s; obtain ⟨hl, h⟩ := h; wp_walk; exact ⟨_, rfl, h⟩
section
variable {X : Cx}
/-- an operation whose value is a list of one's own -/
def rO (K : Fg) (g : D → D → Option D) : R2 := fun x y H Q => ∃ Z a b ds, Same Z H ∧ Rep K Z x a ∧ Rep K Z y b ∧ g a b = some (.list ds) ∧ ∀ p vs, H p = none → Reps K Z vs ds → Q (.ref p) (upd H p (.lst vs))
theorem mulL_ex {a b : D} {es : List D} (h : mulL a b = some (.list es)) : ∃ ds k, a = .list ds ∧ b = .int k ∧ (-(2 ^ 63) ≤ k ∧ k < 2 ^ 63 ∧ ds.length * k.toNat ≤ 16777216) ∧ (List.replicate k.toNat ds).flatten = es := by
  cases a with
  | list xs =>
    cases b with
    | int i => obtain ⟨p, q⟩ := ite_some h; exact ⟨_, _, rfl, rfl, p, PyData.list.inj q⟩
    | _ => cases h
  | _ => cases h
theorem d_mulO : OpR X (binaryOp .Mult) (rO X.K mulL) := by
  intro pins s σ H x y v u Q I rx ry q
  obtain ⟨Z, a, b, d, zh, ra, rb, e, kk⟩ := q
  obtain ⟨ds, k, rfl, rfl, hl, rfl⟩ := mulL_ex e
  obtain ⟨a, xs, rfl, h1, q1⟩ := ra.lst_ex
  cases rb.int_eq
  obtain ⟨h63, h63', hz⟩ := hl
  cases rx
  obtain ⟨t, rfl⟩ := ry
  obtain ⟨its, r1, p1, z1⟩ := I.list (SqL.same h1 zh)
  obtain ⟨⟨cls, dd, data, sl⟩, n1, ho, hc, hdd, hd⟩ := p1
  simp only at hc hd hdd
  subst hc hd hdd
  have hl1 := r1.length
  have ql1 := q1.length
  have hlen : its.toArray.size * k.toNat ≤ sizeLine := by rw [List.size_toArray, ← hl1, ql1]; exact hz
  have hcap : ¬ its.toArray.size * k.toNat > (2 ^ 63 - 1) / 8 := by
    have : (sizeLine : Nat) ≤ (2 ^ 63 - 1) / 8 := by decide
    omega
  have hfit : ¬ (!Builtin.List.listFitsIndex k) = true := by
    rw [fitsIndex_both h63 h63']
    exact Bool.false_ne_true
  have hlong : ¬ Builtin.List.listTooLong (its.toArray.size * k.toNat) = true := by
    rw [notLongL hlen]
    exact Bool.false_ne_true
  have hnew : List.foldl (fun x1 x2 => x1 ++ x2) #[] (List.replicate (if its.toArray.isEmpty = true then 0 else k.toNat) its.toArray) = (List.replicate k.toNat its).flatten.toArray := by
    have f0 : ∀ m : Nat, List.foldl (fun x1 x2 => x1 ++ x2) #[] (List.replicate m its.toArray) = (List.replicate m its).flatten.toArray := fun m => by
      have := foldl_rep its m []
      rw [List.nil_append] at this
      exact this
    rw [f0]
    cases its with
    | nil => simp
    | cons a r' => rw [if_neg (by simp)]
  refine wpAny_binaryOp_repeat_ref (T := "list") (U := "int") (by decide) ⟨_, ho, rfl⟩ (fun s' => typeIs_int s' k t) noFill_list_mul F.fills_int_mul F.slot_int_rmul repeat_list F.slot_int_index.lookup
    (call_meets F.slot_int_rmul (typeIs_int s k t) F.entry_int_rmul (F.args_int_rmul_2 _ _) (rmulW k t a its.toArray n1 sl)
      ⟨ho, rfl, ⟨_, ho, rfl⟩, call_meets F.slot_list_mul ⟨_, ho, rfl⟩ F.entry_list_mul (F.args_list_mul_2 _ _) (mulW a its.toArray n1 sl k t hfit hcap hlong) ⟨ho, ?_⟩⟩)
  rw [hnew]
  exact ⟨.ref _, _, I.lnew (t' := s.toks) (r1.rep k.toNat) (by rw [len_rep, Nat.mul_comm, ql1]; exact hz), rfl, kk _ _ I.fresh (Reps.rep q1 k.toNat)⟩
theorem mulL_lst {a b d : D} (h : mulL a b = some d) : ∃ ds, d = .list ds := by
  unfold mulL at h
  split at h
  · split at h
    · cases h; exact ⟨_, rfl⟩
    · cases h
  · cases h
theorem d_mulL : OpR X (binaryOp .Mult) (rD X.K mulL) := by
  intro pins s σ H x y v u Q I rx ry q
  obtain ⟨Z, a, b, d, zh, ra, rb, e, kk⟩ := q
  obtain ⟨ds, rfl⟩ := mulL_lst e
  exact d_mulO pins s σ H x y v u Q I rx ry ⟨Z, a, b, ds, zh, ra, rb, e, fun p vs hp r => by
    have n := New.add zh hp (.lst vs)
    exact kk _ _ _ n (.lst (SqL.of upd_same) (r.same n.z))⟩
variable {a b : Expr} {pos : Pos} {f1 f2 : Dv → Option D}
end
end VL

set_option Elab.async false
set_option linter.all false
set_option maxRecDepth 100000
set_option maxHeartbeats 4000000
namespace VL
open PySem PySem.Spec PyProof.Rows L2
/-! ### a cut of a text; a sum of lists as a list of one's own -/
def slS : D → Option Int → Option Int → Option D
  | .str y, lo, hi => if y.length ≤ sizeLine then some (.str (Txt.slice y lo hi)) else none
  | _, _, _ => none
@[simp] def oSlS (f : Dv → Option D) (l u : Dv → Option (Option Int)) : Dv → Option D := fun δ => (f δ).bind fun x => (l δ).bind fun i => (u δ).bind fun j => slS x i j
section
variable {X : Cx} {e a b : Expr} {lo hi : Option Expr} {f f1 f2 : Dv → Option D} {fl fu : Dv → Option (Option Int)} {pos p2 : Pos}
theorem part_of {v : Value} {o : Option Int} (p : IsPart v o) : ∃ q : Option (Int × Tok), v = partValue q ∧ q.map (·.1) = o := by
  cases p with
  | none => exact ⟨none, rfl, rfl⟩
  | int i t => exact ⟨some (i, t), rfl, rfl⟩
theorem sl_str : SlR X (fun x lo hi H Q => ∃ y, x = .str y ∧ y.length ≤ sizeLine ∧ Q (.str (Txt.slice y lo hi)) H) := by
  intro pins s σ H x v vl vu lo hi sl Q I rx hs pl pu h
  obtain ⟨y, rfl, hz, q⟩ := h
  obtain ⟨t, rfl⟩ := (show ∃ t, v = Value.str y t from rx)
  obtain ⟨l, rfl, rfl⟩ := part_of pl
  obtain ⟨u, rfl, rfl⟩ := part_of pu
  refine ⟨"str", _, PySem.F.slot_str_getitem.lookup, typeIs_str _ _ _, wpAny_getItem_str_slice (l := l) (u := u) (st := none) hs rfl ?_⟩
  exact post_val_or_str ⟨Nat.le_trans (Txt.slice_le y _ _) hz, fun t' k => ⟨.str _, H, I.tok _, ⟨t', rfl⟩, q⟩⟩
theorem ev_sliceS (he : EV X e f) (hl : OV X lo fl) (hu : OV X hi fu) : EV X (.Subscript e (.Slice lo hi none p2) pos) (oSlS f fl fu) :=
  PE.imp (pe_slice sl_str he hl hu) fun σ H Q h => by
    obtain ⟨H₀, Z₀, Z, δ, d, hh, e, k⟩ := h
    obtain ⟨x, e1, e⟩ := bind_some e
    obtain ⟨i, e2, e⟩ := bind_some e
    obtain ⟨j, e3, e⟩ := bind_some e
    refine ⟨H₀, Z₀, Z, δ, x, hh, e1, fun v Z1 H1 hh1 t1 r1 => ⟨H₀, Z₀, Z1, δ, i, hh1, e2, fun Z2 H2 hh2 t2 => ⟨H₀, Z₀, Z2, δ, j, hh2, e3, fun Z3 H3 hh3 t3 => ?_⟩⟩⟩
    cases x with
    | str y =>
      cases r1.str_eq
      obtain ⟨hz, rfl⟩ := ite_some e
      exact ⟨y, rfl, hz, k _ _ _ hh3 ((t1.trans t2).trans t3) (.str _)⟩
    | _ => cases e
theorem d_addO : OpR X (binaryOp .Add) (rO X.K addD) := by
  intro pins s σ H x y v u Q I rx ry q
  obtain ⟨Z, a, b, d, zh, ra, rb, e, kk⟩ := q
  cases a with
  | list ds =>
    obtain ⟨es, rfl, hl, q⟩ := addD_l e
    cases q
    obtain ⟨a, xs, rfl, h1, q1⟩ := ra.lst_ex
    obtain ⟨b, ys, rfl, h2, q2⟩ := rb.lst_ex
    cases rx
    cases ry
    obtain ⟨its, r1, p1, z1⟩ := I.list (SqL.same h1 zh)
    obtain ⟨its2, r2, p2, z2⟩ := I.list (SqL.same h2 zh)
    obtain ⟨⟨cls, dd, data, sl⟩, n1, ho, hc, hdd, hd⟩ := p1
    obtain ⟨⟨cls2, dd2, data2, sl2⟩, n2, ho2, hc2, hdd2, hd2⟩ := p2
    simp only at hc hd hc2 hd2
    subst hc hd hc2 hd2
    have hl1 := r1.length
    have hl2 := r2.length
    have ql1 := q1.length
    have ql2 := q2.length
    refine concat_meets ⟨_, ho, rfl⟩ ⟨_, ho2, rfl⟩ noFill_list_add seq_list_add PySem.F.slot_list_add PySem.F.entry_list_add (PySem.F.args_list_add_2 _ _) (list_addW a b its.toArray its2.toArray n1 n2 dd dd2 sl sl2 (by simp; omega)) ⟨ho, ho2, ?_⟩
    have ea : its.toArray ++ its2.toArray = (its ++ its2).toArray := by simp
    rw [ea]
    exact ⟨.ref _, _, I.lnew (t' := s.toks) (r1.append r2) (by rw [List.length_append]; omega), rfl, kk _ _ I.fresh (q1.append q2)⟩
  | int i => obtain ⟨j, _, q⟩ := addD_i e; cases q
  | str i => obtain ⟨j, _, _, q⟩ := addD_s e; cases q
  | tuple i => obtain ⟨j, _, _, q⟩ := addD_t e; cases q
  | _ => cases e
theorem eo_add (ha : EV X a f1) (hb : EV X b f2) : EO X (.BinOp a .Add b pos) (oLi (o2 f1 f2 addD)) :=
  PE.imp (pe_op d_addO ha hb) fun σ H Q h => by
    obtain ⟨H₀, Z₀, Z, δ, ds, hh, e, k⟩ := h
    obtain ⟨d, e, e3⟩ := bind_some e
    obtain ⟨x, e1, e⟩ := bind_some e
    obtain ⟨y, e2, e⟩ := bind_some e
    cases d with
    | list es =>
      cases e3
      exact ⟨H₀, Z₀, Z, δ, x, hh, e1, fun v Z1 H1 hh1 s1 r1 => ⟨H₀, Z₀, Z1, δ, y, hh1, e2, fun u Z2 H2 hh2 s2 r2 => ⟨Z2, x, y, _, hh2.zh, r1.same s2, r2, e, fun p vs hp r => k p vs Z2 H2 hh2 (s1.trans s2) hp r⟩⟩⟩
    | _ => cases e3
end
end VL

set_option Elab.async false
set_option linter.all false
set_option maxRecDepth 100000
set_option maxHeartbeats 4000000
namespace VL
open PySem PySem.Spec PyProof.Rows L2
/-! ### a comprehension whose variable another comprehension within it takes along -/
section
variable {X : Cx} {pins : List (Addr × Obj)} {σ : St} {H H' : Hp} {s s' : Shared} {scope : Scope} {m : Str} {vars : List Str} {caps : List (Nat × Str)} {fp : List Addr} {C : Addr}
end
section
variable {X : Cx} {scope : Scope} {m : Str} {vars : List Str} {caps : List (Nat × Str)} {elt tg iter : Expr} {pos : Pos} {wi : TI} {g : TG} {te : TE}
end
section
variable {X : Cx} {scope : Scope} {m : Str} {vars : List Str} {caps : List (Nat × Str)} {elt tg iter : Expr} {pos : Pos} {g : TG} {fi : Dv → Option (List D)} {fe : Dv → Option D} {bv : D → Option (List D)}
end
end VL

set_option Elab.async false
set_option linter.all false
set_option maxRecDepth 100000
set_option maxHeartbeats 4000000
namespace VL
open PySem PySem.Spec PyProof.Rows L2
/-! ### a def that tells a new list -/
/-- a statement that always goes on -/
def Nxt (s : Sf) : Prop := ∀ δ r, s δ = some r → r.1 = .nx
section
variable {X : Cx} {e : Expr} {es : List Expr} {p pos : Pos} {st : Stmt} {sts : List Stmt} {f : Dv → Option (List D)} {fs : Dv → Option (List D)} {s : Sf}
end
section
variable {P : Program} {w : World} {K : PySem.W.Frag} {mg : Str → Option Value} {base : Heap}
end
section
variable {X : Cx} {e : Expr} {es : List Expr} {p pos : Pos} {fs : Dv → Option (List D)}
end
section
variable {X : Cx} {scope : Scope} {m : Str} {vars : List Str} {caps : List (Nat × Str)} {elt tg iter : Expr} {pos : Pos} {g : TG} {fi : Dv → Option (List D)} {fe : Dv → Option D} {bv : D → Option (List D)}
end
/-! ### lists of so many -/
theorem len1 {α : Type} : ∀ {us : List α}, us.length = 1 → ∃ a, us = [a]
  | [a], _ => ⟨a, rfl⟩
theorem len2 {α : Type} {us : List α} (h : us.length = 2) : ∃ a b, us = [a, b] := by
  cases us with
  | nil => cases h
  | cons a r =>
    obtain ⟨b, rfl⟩ := len1 (Nat.succ.inj h)
    exact ⟨a, b, rfl⟩
theorem len3 {α : Type} {us : List α} (h : us.length = 3) : ∃ a b c, us = [a, b, c] := by
  cases us with
  | nil => cases h
  | cons a r =>
    obtain ⟨b, c, rfl⟩ := len2 (Nat.succ.inj h)
    exact ⟨a, b, c, rfl⟩
theorem len4 {α : Type} {us : List α} (h : us.length = 4) : ∃ a b c d, us = [a, b, c, d] := by
  cases us with
  | nil => cases h
  | cons a r =>
    obtain ⟨b, c, d, rfl⟩ := len3 (Nat.succ.inj h)
    exact ⟨a, b, c, d, rfl⟩
end VL

set_option Elab.async false
set_option linter.all false
set_option maxRecDepth 100000
set_option maxHeartbeats 4000000
namespace VL
open PySem PySem.Spec PyProof.Rows L2
--PURE
/-! ### lists of one's own handed on -/
--END
section
variable {X : Cx} {e : Expr} {es : List Expr} {p p' pos : Pos} {st : Stmt} {sts body : List Stmt} {f f1 f2 : Dv → Option (List D)} {s : Sf} {c : Expr} {ft : Dv → Option Bool}
end
/-! ### statements that always go on -/
theorem nxt_loop {g : D → Dv → Option Dv} {b : Sf} (hb : Nxt b) : ∀ ds, Nxt (loop g b ds)
  | [], δ, r, h => by cases h; rfl
  | d :: ds, δ, r, h => by
    obtain ⟨δ1, e1, h⟩ := bind_some (show (g d δ).bind _ = _ from h)
    obtain ⟨⟨fl, δ2⟩, e2, h⟩ := bind_some h
    have : fl = .nx := hb _ _ e2
    subst this
    exact nxt_loop hb ds δ2 r h
theorem nxt_for {f : Dv → Option (List D)} {g : D → Dv → Option Dv} {b : Sf} (hb : Nxt b) : Nxt (sFor f g b) := fun δ r h => by
  obtain ⟨ds, e, h⟩ := bind_some h
  exact nxt_loop hb ds δ r h
end VL

set_option Elab.async false
set_option linter.all false
set_option maxRecDepth 100000
set_option maxHeartbeats 4000000
namespace VL
open PySem PySem.Spec PyProof.Rows L2
--PURE
/-! ### max of a list of ints -/
--END
section
variable {X : Cx}
end
end VL

set_option Elab.async false
set_option linter.all false
set_option maxRecDepth 100000
set_option maxHeartbeats 4000000
namespace VL
open PySem PySem.Spec PyProof.Rows L2
/-! ### a def without defaults, at the top -/
def DefIn (K : PySem.W.Frag) (x y : Str) (st : Stmt) : Prop := ∃ f fd, PySem.W.nsIn K mainGlobals x = some (some (.ref f)) ∧ FunV K y y st f fd .none ∧ PySem.W.keepIn K (.ref f) = true
def BindsAs (x : Str) (st : Stmt) (ps : List Str) : Prop := ∀ (kV doc pm : Value) (an : Option Addr) (cdv ct : Value) (us : List Value), us.length = ps.length → bindArgs (PySem.W.fnOf x x (defArgs st) (defBody st) (defScope st) .none kV doc pm an cdv ct) ⟨us, []⟩ = pure (ps.zip us)
section
variable {P : Program} {w : World} {K : PySem.W.Frag} {mg : Str → Option Value} {base h : Heap} {x y : Str} {st : Stmt} {k : Nat} {ps : List Str}
theorem DefIn.mk {f : Addr} {oc : Value} {od an : Option Addr} {osl : Array (Option Value)} {kV doc pm cdv ct : Value} (a : PySem.W.nsIn K mainGlobals x = some (some (.ref f))) (l : K.lookup f = some ⟨oc, od, .func (PySem.W.fnOf y y (defArgs st) (defBody st) (defScope st) .none kV doc pm an cdv ct), osl⟩)
    (c : PySem.W.codeIn K cdv y = true) (k : PySem.W.keepIn K (.ref f) = true) : DefIn K x y st := ⟨_, _, a, funV_mk l c k, k⟩
variable (D : DefIn K x y st) (X : K.In h) (G : h.Ns mainGlobals mg) (b : BindsAs y st ps)
include D X G
include b
theorem DefIn.cal {g : List VL.D → Option VL.D} (ok : ∀ f fd, FunV K y y st f fd .none → FnOk P w K mg base CX0 k f fd ps (spD K g)) : Cal P w K mg base x k g [] := by
  obtain ⟨f, fd, a, F, hk⟩ := D
  exact Cal.mk0 (ok f fd F) (PySem.W.mg_of X G a) hk (F.binds b)
theorem DefIn.calR {g : List VL.D → Option VL.D} (ok : ∀ f fd, FunV K y y st f fd .none → mg x = some (.ref f) → PySem.W.keepIn K (.ref f) = true → Binds K fd ps [] → FnOk P w K mg base CX0 k f fd ps (spD K g)) : Cal P w K mg base x k g [] := by
  obtain ⟨f, fd, a, F, hk⟩ := D
  exact Cal.mk0 (ok f fd F (PySem.W.mg_of X G a) hk (F.binds b)) (PySem.W.mg_of X G a) hk (F.binds b)
theorem DefIn.calX {g : List VL.D → Option Xn} (ok : ∀ f fd, FunV K y y st f fd .none → FnOk P w K mg base (CXX P w) k f fd ps (spX K g)) : CalX P w K mg base x k g [] := by
  obtain ⟨f, fd, a, F, hk⟩ := D
  exact ⟨⟨_, _, _, [], [], ok f fd F, PySem.W.mg_of X G a, hk, F.binds b, .nil, fun _ => .nil⟩⟩
end
end VL

set_option Elab.async false
set_option linter.all false
set_option maxRecDepth 100000
set_option maxHeartbeats 4000000
namespace VL
open PySem PySem.Spec PyProof.Rows L2
open AutoSeq1 (wpAny_loadPart')
/-! ### a tuple times an int -/
--PURE
--END
section
variable {X : Cx}
end
end VL

set_option Elab.async false
set_option linter.all false
set_option maxRecDepth 100000
set_option maxHeartbeats 4000000
namespace VL
open PySem PySem.Spec PyProof.Rows L2
/-! ### is True, is not True, of bools -/
--PURE
def isB (z : Bool) : D → D → Option D
  | .bool a, .bool b => some (.bool (z != (a == b)))
  | _, _ => none
@[simp] theorem isB_bool (z a b : Bool) : isB z (.bool a) (.bool b) = some (.bool (z != (a == b))) := rfl
--END
section
variable {X : Cx}
end
end VL

set_option Elab.async false
set_option linter.all false
set_option maxRecDepth 100000
set_option maxHeartbeats 4000000
namespace VL
open PySem PySem.Spec PyProof.Rows L2
/-! ### a call that raises, of a def with defaults -/
section
variable {m : Nat} {X : Cx} {e c : Expr} {es : List Expr} {f : Dv → Option D} {fs : Dv → Option (List D)} {ft : Dv → Option Bool} {fx : Dv → Option Xn} {st : Stmt} {sts body orelse : List Stmt} {s1 : Sf} {u u1 u2 : Xf} {pos p : Pos}
end
end VL

-- CHANGE: your row's module here, as the last of these rows
set_option Elab.async false
set_option linter.all false
set_option maxRecDepth 100000
/-! THE HAND LAYER, for ints, bools, texts, own classes, DICTS (int and text keys), calls, loops. Paste it whole ahead of your own text; what your proof does not reach may be deleted. -/
namespace L2
open PySem PySem.Spec PyProof.Rows

end L2

namespace L2
open PySem PySem.Spec PyProof.Rows

section
variable (P : Program) (w : World)
end

section
variable {P : Program} {w : World} {H H' : Hp} {h h' : Heap} {a : Addr} {o : HO}
end

section
variable {P : Program} {w : World} {H : Hp} {h h' : Heap} {x e : Addr} {o' : HO}
end

/-! ### kept unless tracked; of the frames at fs (the callers') the slots may change (an exception that passes writes there); of the records at ex (iterators) nothing is said -/
section
variable {fs fs' ex ex' : List Addr} {H H1 H2 : Hp} {h h1 h2 h' : Heap} {a x e : Addr} {o : HO}
end

/-! ### the heap without what is tracked -/
/-! ### OpenK's ledger, filled with every new object but one -/
end L2

namespace L2
open PySem PySem.Spec PyProof.Rows

section
variable {X : Cx} {pins : List (Addr × Obj)} {σ : List (Option V)} {H H' : Hp} {s : Shared} {h' : Heap}

end

/-! ### the judgements -/
end L2

namespace L2
open PySem PySem.Spec PyProof.Rows
section
variable {X : Cx}

/-! ### names and constants -/
/-! ### arithmetic -/
variable {a b : Expr} {ta tb : TE} {pos : Pos}
/-! ### comparisons -/
/-! ### and, or, not -/
variable {tA tB' : TT} {rest : List Expr}
end
end L2

namespace L2
open PySem PySem.Spec PyProof.Rows

/-! ### a list, a tuple that is read: tracked, frozen, or an object of the module -/
section
variable {X : Cx} {pins : List (Addr × Obj)} {σ : St} {H : Hp} {s : Shared} {a : Addr} {xs ys : List V}
end

/-! ### another wish about exceptions -/
section
variable {X : Cx} {pins : List (Addr × Obj)} {σ : St} {H : Hp} {s : Shared} {E : Value → Shared → Prop}
end

/-! ### blocks and small statements -/
section
variable {X : Cx} {st : Stmt} {rest : List Stmt} {t u : TS} {e : Expr} {te : TE} {pos : Pos}
end

/-! ### targets -/
section
variable {X : Cx} {pos : Pos}
end

/-! ### while -/
section
variable {X : Cx} {pos : Pos}
end

/-! ### what a loop or a comprehension walks -/
end L2

namespace L2
open PySem PySem.Spec PyProof.Rows
section
variable {X : Cx} {tg : Expr}
/-! ### for -/
end

/-! ### the forms one uses -/
end L2

namespace L2
open PySem PySem.Spec PyProof.Rows

section
variable {X : Cx} {a b c : Expr} {ta tb tc : TE} {pos : Pos}

/-! ### ints -/
/-! ### bools among ints: n += (a < b) -/
end

/-! ### comparisons -/
section
variable {X : Cx} {a b c : Expr} {ta tb tc : TE} {pos : Pos}
/-! ### truth -/
/-! ### strs and bytes -/
/-! ### scalar builtins, by CallR -/
end
end L2

namespace L2
open PySem PySem.Spec PyProof.Rows

/-! ### an instance, its attributes a map -/
section
variable {prog : Program} {w : World} {A : Around} {E : Value → Shared → Prop} {s : Shared} {K : PySem.W.Frag} {x dx C f : Addr} {mA : Str → Option Value} {name : Str} {v : Value}

end

/-! ### the attributes as a list of pairs -/
section
variable {P : Program} {w : World} {H H' : Hp} {h h' : Heap} {a C dx : Addr} {fs fs' : List (Str × V)}
end

/-! ### what of the text a class must have -/
section
variable {X : Cx} {pins : List (Addr × Obj)} {σ : St} {H : Hp} {s : Shared} {a C dx : Addr} {fs : List (Str × V)} {f : Str} {v : V} {A : Around} {E : Value → Shared → Prop}

end

/-! ### readings and rules -/
section
variable {X : Cx} {o e value : Expr} {f : Str} {pos pos' tpos : Pos} {ta tv : TE}
end

/-! ### isinstance -/
section
variable {X : Cx} {pins : List (Addr × Obj)} {σ : St} {H : Hp} {s : Shared} {A : Around} {E : Value → Shared → Prop} {Q : Value → Shared → Prop} {c : Value} {b : Bool}
end
end L2

namespace L2
open PySem PySem.Spec PyProof.Rows

/-! ### room -/
/-! ### argument lists and displays -/
section
variable {X : Cx} {e : Expr} {es : List Expr} {te : TE} {t : TA} {pos : Pos}
end

/-! ### what a def promises -/
section
variable {X : Cx} {pins : List (Addr × Obj)} {σ : St} {H : Hp} {s s' : Shared}
end

/-! ### calls -/
section
variable {X : Cx} {CX : CXT} {k : Nat} {f C : Addr} {fd : FuncData} {ps : List Str} {sp : Sp} {dvs : List V} {ds : List Value} {E : XK} {x m : Str} {p pos apos : Pos} {e o : Expr} {es : List Expr} {ta : TE} {t : TA}

end

/-! ### keywords -/
section
variable {X : Cx} {CX : CXT} {k : Nat} {f C : Addr} {fd : FuncData} {ps ks : List Str} {sp : Sp} {E : XK} {x m : Str} {p pos apos kpos : Pos} {e o : Expr} {es : List Expr} {kws : List Keyword} {te ta : TE} {t tk : TA} {nm : Option Str}
variable {g : List Value → List Value → List Value} {gV : List V → List V → List V}
end

/-! ### a def's body keeps its promise -/
end L2

namespace L2
open PySem PySem.Spec PyProof.Rows
section
variable {X : Cx} {x : Str} {p pos : Pos} {e : Expr} {es : List Expr} {t : TA} {id T : String} {r : List V → Hp → VK → Prop}

end
end L2

namespace L2
open PySem PySem.Spec PyProof.Rows

/-! ### lists of pairs as tables -/
section
variable {κ : Type} [DecidableEq κ]
def valV (kvs : List (κ × V)) (k : κ) : Option V := (kvs.find? fun kv => decide (kv.1 = k)).map (·.2)
/-- in its place, or at the end -/
def putK (kvs : List (κ × V)) (k : κ) (v : V) : List (κ × V) :=
  if (kvs.any fun kv => decide (kv.1 = k)) = true then kvs.map (fun kv => if kv.1 = k then (kv.1, v) else kv) else kvs ++ [(k, v)]
theorem valV_pos {p : κ × V} {r : List (κ × V)} {k : κ} (e : p.1 = k) : valV (p :: r) k = some p.2 := by simp [valV, List.find?_cons, e]
theorem valV_neg {p : κ × V} {r : List (κ × V)} {k : κ} (e : ¬ p.1 = k) : valV (p :: r) k = valV r k := by simp [valV, List.find?_cons, e]
theorem valV_any (k : κ) : ∀ kvs : List (κ × V), (kvs.any fun kv => decide (kv.1 = k)) = (valV kvs k).isSome
  | [] => rfl
  | p :: r => by
    rw [List.any_cons]
    by_cases e : p.1 = k
    · simp only [valV_pos e, decide_eq_true e, Bool.true_or, Option.isSome_some]
    · rw [valV_neg e, decide_eq_false e, Bool.false_or]; exact valV_any k r
theorem length_putK (kvs : List (κ × V)) (k : κ) (v : V) : (putK kvs k v).length ≤ kvs.length + 1 := by
  unfold putK
  split
  · rw [List.length_map]; omega
  · rw [List.length_append, List.length_cons, List.length_nil]; omega
theorem RelO.isSome_eq {o : Option V} {u : Option Value} (r : RelO o u) : o.isSome = u.isSome := by
  cases o with
  | none => cases u with
    | none => rfl
    | some _ => exact (show False from r).elim
  | some _ => cases u with
    | none => exact (show False from r).elim
    | some _ => rfl
theorem RelO.getD {o : Option V} {u : Option Value} {d : V} {d' : Value} (r : RelO o u) (rd : RelV d d') : RelV (o.getD d) (u.getD d') := by
  cases o with
  | none => cases u with
    | none => exact rd
    | some _ => exact (show False from r).elim
  | some _ => cases u with
    | none => exact (show False from r).elim
    | some _ => exact r

/-- raw tables of the same keys -/
theorem KV.val {kvs : List (κ × V)} {vs : List (κ × Value)} (r : KV kvs vs) (k : κ) : RelO (valV kvs k) (valueAt vs k) := by
  unfold KV at r
  induction r with
  | nil => exact True.intro
  | @cons p q ps qs h t ih =>
    obtain ⟨h1, h2⟩ := h
    by_cases e : p.1 = k
    · have e' : q.1 = k := h1.symm.trans e
      have b : valueAt (q :: qs) k = some q.2 := by simp [valueAt, List.find?_cons, e']
      rw [valV_pos e, b]; exact h2
    · have e' : ¬ q.1 = k := fun z => e (h1.trans z)
      have b : valueAt (q :: qs) k = valueAt qs k := by simp [valueAt, List.find?_cons, e']
      rw [valV_neg e, b]; exact ih
theorem KV.any {kvs : List (κ × V)} {vs : List (κ × Value)} (r : KV kvs vs) (k : κ) : (kvs.any fun kv => decide (kv.1 = k)) = vs.any fun kv => decide (kv.1 = k) := by
  unfold KV at r
  induction r with
  | nil => rfl
  | cons h t ih => rw [List.any_cons, List.any_cons, ih, h.1]
theorem KV.repl {kvs : List (κ × V)} {vs : List (κ × Value)} (r : KV kvs vs) (k : κ) {y : V} {u : Value} (ry : RelV y u) :
    KV (kvs.map fun kv => if kv.1 = k then (kv.1, y) else kv) (vs.map fun kv => if kv.1 = k then (kv.1, u) else kv) := by
  unfold KV at r ⊢
  induction r with
  | nil => exact .nil
  | @cons p q ps qs h t ih =>
    rw [List.map_cons, List.map_cons]
    refine .cons ?_ ih
    obtain ⟨h1, h2⟩ := h
    by_cases e : p.1 = k
    · rw [if_pos e, if_pos (h1.symm.trans e)]; exact ⟨h1, ry⟩
    · rw [if_neg e, if_neg (fun z => e (h1.trans z))]; exact ⟨h1, h2⟩
theorem KV.put {kvs : List (κ × V)} {vs : List (κ × Value)} (r : KV kvs vs) (k : κ) {y : V} {u : Value} (ry : RelV y u) : KV (putK kvs k y) (stored vs k u) := by
  unfold putK stored
  rw [r.any k]
  by_cases e : (vs.any fun kv => decide (kv.1 = k)) = true
  · rw [if_pos e, if_pos e]; exact r.repl k ry
  · rw [if_neg e, if_neg e]; exact Paired.snoc r ⟨rfl, ry⟩
theorem KV.length {kvs : List (κ × V)} {vs : List (κ × Value)} (r : KV kvs vs) : kvs.length = vs.length := Paired.length r
end


/-! ### a tracked dict, its keys ints and texts or tuples of these -/
theorem kV_is {P : Program} {w : World} {k : Key} {u : Value} (r : RelV (kV k) u) : (mixKind P w).is k u = true := by
  cases k with
  | inl i => obtain ⟨t, e⟩ := (show ∃ t, u = Value.int i t from r); subst e; exact mixKind_int P w i t
  | inr x => obtain ⟨t, e⟩ := (show ∃ t, u = Value.str x t from r); subst e; exact mixKind_str P w x t
theorem items_are {P : Program} {w : World} : ∀ {ks : List Key} {us : List Value}, Vals (ks.map kV) us → ItemsAre (mixKind P w) ks us
  | [], _, r => by rw [List.map_nil] at r; cases r; exact .nil
  | k :: ks, _, r => by
    rw [List.map_cons] at r
    cases r with
    | cons h t => exact .cons (kV_is h) (items_are t)

/-- raw entries of a dict with tuple keys -/
abbrev KT (H : Hp) : List (List Key × V) → List (List Key × Addr × Value) → Prop := Paired fun p q => p.1 = q.1 ∧ H q.2.1 = some (.tup (p.1.map kV)) ∧ RelV p.2 q.2.2
theorem KT.val {H : Hp} {kvs : List (List Key × V)} {xs : List (List Key × Addr × Value)} (r : KT H kvs xs) (k : List Key) : RelO (valV kvs k) ((atKey xs k).map (·.2)) := by
  induction r with
  | nil => exact True.intro
  | @cons p q ps qs h t ih =>
    obtain ⟨h1, _, h2⟩ := h
    by_cases e : p.1 = k
    · have e' : q.1 = k := h1.symm.trans e
      have b : atKey (q :: qs) k = some q.2 := by simp [atKey, List.find?_cons, e']
      rw [valV_pos e, b]; exact h2
    · have e' : ¬ q.1 = k := fun z => e (h1.trans z)
      have b : atKey (q :: qs) k = atKey qs k := by simp [atKey, List.find?_cons, e']
      rw [valV_neg e, b]; exact ih
theorem KT.repl {H : Hp} {kvs : List (List Key × V)} {xs : List (List Key × Addr × Value)} (r : KT H kvs xs) (k : List Key) {y : V} {u : Value} (ry : RelV y u) :
    KT H (kvs.map fun kv => if kv.1 = k then (kv.1, y) else kv) (xs.map (putAt k u)) := by
  induction r with
  | nil => exact .nil
  | @cons p q ps qs h t ih =>
    rw [List.map_cons, List.map_cons]
    refine .cons ?_ ih
    obtain ⟨h1, h2, h3⟩ := h
    unfold putAt
    by_cases e : p.1 = k
    · rw [if_pos e, if_pos (h1.symm.trans e)]; exact ⟨h1, h2, ry⟩
    · rw [if_neg e, if_neg (fun z => e (h1.trans z))]; exact ⟨h1, h2, h3⟩
theorem KT.put {H : Hp} {kvs : List (List Key × V)} {xs : List (List Key × Addr × Value)} (r : KT H kvs xs) (k : List Key) {b : Addr} {y : V} {u : Value} (hb : H b = some (.tup (k.map kV))) (ry : RelV y u) :
    KT H (putK kvs k y) (storedH xs k b u) := by
  have e : (kvs.any fun kv => decide (kv.1 = k)) = (atKey xs k).isSome := by
    rw [valV_any, (r.val k).isSome_eq, Option.isSome_map]
  unfold putK storedH
  rw [e]
  by_cases q : (atKey xs k).isSome = true
  · rw [if_pos q, if_pos q]; exact r.repl k ry
  · rw [if_neg q, if_neg q]; exact Paired.snoc r ⟨rfl, hb, ry⟩
theorem KT.keeps {H H' : Hp} {kvs : List (List Key × V)} {xs : List (List Key × Addr × Value)} (r : KT H kvs xs) (ht : ∀ b ys, H b = some (.tup ys) → H' b = some (.tup ys)) : KT H' kvs xs :=
  Paired.mapP r fun _ _ z => ⟨z.1, ht _ _ z.2.1, z.2.2⟩

section
variable {P : Program} {w : World} {H : Hp} {h : Heap} {a : Addr}
theorem rd_of {u : HO} (ok : HOk P w H h) (e : Rd H a u) : ObjOk P w H h a u := e.ok ok
theorem dk_rd {kvs : List (Key × V)} (ok : HOk P w H h) (e : Rd H a (.dK kvs)) : kvs.length ≤ sizeLine ∧ (a == sysModules) = false ∧ ∃ vs, KV kvs vs ∧ h.DictOf (mixKind P w) a vs :=
  show ObjOk P w H h a (.dK kvs) from rd_of ok e
theorem dk_of {kvs : List (Key × V)} (ok : HOk P w H h) (e : H a = some (.dK kvs)) : kvs.length ≤ sizeLine ∧ (a == sysModules) = false ∧ ∃ vs, KV kvs vs ∧ h.DictOf (mixKind P w) a vs := dk_rd ok (.inl e)
/-- a tracked tuple of ints and texts is a key -/
theorem key_of {ks : List Key} (ok : HOk P w H h) (e : H a = some (.tup (ks.map kV))) : (tupleKind (mixKind P w)).is h ks a := by
  obtain ⟨_, its, r, ⟨o, h1, h2, n, h3⟩, _⟩ := (show ObjOk P w H h a (.tup (ks.map kV)) from ok a _ e)
  exact ⟨o, its.toArray, n, h1, h2, h3, by simpa using items_are r⟩
theorem dt_rd {kvs : List (List Key × V)} (ok : HOk P w H h) (e : Rd H a (.dT kvs)) : kvs.length ≤ sizeLine ∧ (a == sysModules) = false ∧
    ∃ xs, KT H kvs xs ∧ h.DictOfH (tupleKind (mixKind P w)) a xs := by
  obtain ⟨z, y, xs, r, o, es, ep, h1, h2, h3, h4, h5⟩ := (show ObjOk P w H h a (.dT kvs) from rd_of ok e)
  refine ⟨z, y, xs, r, o, es, ep, h1, h2, h3, h4, fun x hx => ?_, h5⟩
  have all : ∀ {l : List (List Key × V)} {m : List (List Key × Addr × Value)}, KT H l m → ∀ x ∈ m, (tupleKind (mixKind P w)).is h x.1 x.2.1 := by
    intro l m q
    induction q with
    | nil => intro x hx; exact nomatch hx
    | @cons p q ps qs hq t ih =>
      intro x hx
      rcases List.mem_cons.mp hx with e | hx
      · subst e
        exact key_of ok (by rw [← hq.1]; exact hq.2.1)
      · exact ih x hx
  exact all r x hx
theorem dt_of {kvs : List (List Key × V)} (ok : HOk P w H h) (e : H a = some (.dT kvs)) : kvs.length ≤ sizeLine ∧ (a == sysModules) = false ∧
    ∃ xs, KT H kvs xs ∧ h.DictOfH (tupleKind (mixKind P w)) a xs := dt_rd ok (.inl e)
end

/-- what the dict at a holds at the key y -/
def DGet (H : Hp) (a : Addr) (y : V) (r : Option V) : Prop :=
  (∃ kvs k, Rd H a (.dK kvs) ∧ y = kV k ∧ r = valV kvs k) ∨ ∃ kvs k b, Rd H a (.dT kvs) ∧ y = .ref b ∧ H b = some (.tup (k.map kV)) ∧ r = valV kvs k
/-- the heap behind a[y] = v -/
def DPut (H : Hp) (a : Addr) (y v : V) (H' : Hp) : Prop :=
  (∃ kvs k, H a = some (.dK kvs) ∧ y = kV k ∧ kvs.length < sizeLine ∧ H' = upd H a (.dK (putK kvs k v))) ∨
  ∃ kvs k b, H a = some (.dT kvs) ∧ y = .ref b ∧ H b = some (.tup (k.map kV)) ∧ kvs.length < sizeLine ∧ H' = upd H a (.dT (putK kvs k v))
theorem DGet.k {H : Hp} {a : Addr} {kvs : List (Key × V)} {k : Key} (e : H a = some (.dK kvs)) : DGet H a (kV k) (valV kvs k) := .inl ⟨kvs, k, .inl e, rfl, rfl⟩
theorem DPut.k {H : Hp} {a : Addr} {kvs : List (Key × V)} {k : Key} {v : V} (e : H a = some (.dK kvs)) (hl : kvs.length < sizeLine) : DPut H a (kV k) v (upd H a (.dK (putK kvs k v))) := .inl ⟨kvs, k, e, rfl, hl, rfl⟩
section
variable {X : Cx} {pins : List (Addr × Obj)} {σ : St} {H : Hp} {s : Shared} {a : Addr} {y v : V} {u r : Value} {o : Option V} {A : Around} {E : Value → Shared → Prop}

theorem Inv.big (I : Inv X pins σ H s) : sysModules < s.heap.objs.size := by
  have h : mainGlobals < s.heap.objs.size := (I.mod.glob.keeps I.bk).lt
  exact Nat.lt_trans (by decide) h

/-- y in d -/
theorem d_in {Q : Value → Shared → Prop} (hu : A.units + 1 < cLine) (I : Inv X pins σ H s) (g : DGet H a y o) (ry : RelV y u) (h : ∀ s', Inv X pins σ H s' → Q (.bool o.isSome) s') :
    wpAny (model X.prog X.w) A (compareOp .In u (.ref a)) Q E s := by
  rcases g with ⟨kvs, k, e, ey, l⟩ | ⟨kvs, k, b, e, ey, eb, l⟩
  · subst ey
    obtain ⟨z, hd, vs, rel, dd⟩ := dk_rd I.hok e
    refine wpAny_in_of (kV_is ry) hd dd.mapOf ?_
    rw [← (rel.val k).isSome_eq, ← l]
    exact h _ (I.tok _)
  · subst ey
    cases (show u = Value.ref b from ry)
    obtain ⟨z, hd, xs, rel, dd⟩ := dt_rd I.hok e
    refine wpAny_in_heap (tupleKind_room_in1 hu) (key_of I.hok eb) hd dd ?_
    have q := (rel.val k).isSome_eq
    rw [Option.isSome_map] at q
    rw [← q, ← l]
    exact h _ (I.tok _)
/-- a dict's object is replaced -/
theorem d_write {h' : Heap} {t' : Nat} {ob : HO} (I : Inv X pins σ H s) (mu : Mut (H a)) (hs : Heap.SameBut a s.heap h') (he : ∃ q, h'.get? a = some q) (new : ObjOk X.prog X.w (upd H a ob) h' a ob) :
    Inv X pins σ (upd H a ob) { s with heap := h', toks := t' } :=
  I.write (x := a) (e := a) mu (.inl rfl) (fun b q hb z => (hs.2 b hb).trans z) he new
theorem dk_new {P : Program} {w : World} {H' : Hp} {h' : Heap} {kvs : List (Key × V)} {vs : List (Key × Value)} (z : kvs.length ≤ sizeLine) (hd : (a == sysModules) = false) (rel : KV kvs vs) (dd : h'.DictOf (mixKind P w) a vs) :
    ObjOk P w H' h' a (.dK kvs) := ⟨z, hd, vs, rel, dd⟩
/-- d[y] = v -/
theorem d_setItem {H' : Hp} {Q : Unit → Shared → Prop} (hu : A.units + 1 < cLine) (I : Inv X pins σ H s) (g : DPut H a y v H') (ry : RelV y u) (rv : RelV v r) (h : ∀ s', Inv X pins σ H' s' → Q () s') :
    wpAny (model X.prog X.w) A (setItem (.ref a) u r) Q E s := by
  rcases g with ⟨kvs, k, e, ey, l, eH⟩ | ⟨kvs, k, b, e, ey, eb, l, eH⟩
  · subst ey eH
    obtain ⟨z, hd, vs, rel, dd⟩ := dk_of I.hok e
    have hz : vs.length ≤ sizeLine := by rw [← rel.length]; exact z
    have hl : (putK kvs k v).length ≤ sizeLine := by have := length_putK kvs k v; omega
    refine wpAny_setItem_pairs (hsz := hz) (kV_is ry) dd fun h' dd' hs => h _ ?_
    have he : ∃ q, h'.get? a = some q := let ⟨q, _, _, hq, _⟩ := dd'; ⟨q, hq⟩
    exact d_write I (by rw [e]; exact True.intro) hs he (dk_new hl hd (rel.put k rv) dd')
  · subst ey eH
    cases (show u = Value.ref b from ry)
    obtain ⟨z, hd, xs, rel, dd⟩ := dt_of I.hok e
    have hz : xs.length ≤ sizeLine := by rw [← Paired.length rel]; exact z
    have hl : (putK kvs k v).length ≤ sizeLine := by have := length_putK kvs k v; omega
    refine wpAny_setItem_heap (hsz := hz) (tupleKind_room_in1 hu) (key_of I.hok eb) dd fun h' dd' hs => h _ ?_
    obtain ⟨q, es, ep, hq, h2, h3, h4, _, h5⟩ := dd'
    refine d_write I (by rw [e]; exact True.intro) hs ⟨q, hq⟩ ⟨hl, hd, _, (rel.put k eb rv).keeps fun c ys ec => ?_, q, es, ep, hq, h2, h3, h4, h5⟩
    rw [upd_ne (ne_of ec e (fun z => nomatch z))]
    exact ec
end

section
variable {X : Cx} {pins : List (Addr × Obj)} {σ : St} {H : Hp} {s : Shared} {a : Addr} {kvs : List (Key × V)} {k : Key} {u : Value} {A : Around} {E : Value → Shared → Prop}
end


/-! ### readings and rules -/
/-- d[y] = v -/
def sDPut (td ty tv : TE) : TS := fun D σ H => tv σ H fun v H1 => td σ H1 fun x H2 => ty σ H2 fun y H3 => ∃ a H4, x = .ref a ∧ DPut H3 a y v H4 ∧ D.nx σ H4
section
variable {X : Cx} {o i e value : Expr} {pos pos' tpos : Pos} {td ty tv : TE}
theorem ps_dput (hu : X.A.units + 1 < cLine) (ho : PE X o td) (hi : PE X i ty) (hv : PE X value tv) (hs : swapsWith value (some (.Subscript o i pos')) pos.line X.env = pure false) :
    PS X (.Assign [.Subscript o i pos'] value pos) (sDPut td ty tv) := by
  intro pins s σ H D I h
  refine wpAny_Assign_Subscript (thn (hv pins s σ H _ I h) fun r s1 ⟨v, H1, I1, rv, q1⟩ => thn (ho pins s1 σ H1 _ I1 q1) fun u s2 ⟨x, H2, I2, rx, q2⟩ => thn (hi pins s2 σ H2 _ I2 q2) fun iv s3 ⟨y, H3, I3, ry, a, H4, ex, g, q3⟩ => ?_) hs
  subst ex
  obtain rfl : u = Value.ref a := rx
  exact d_setItem hu I3 g ry rv fun s4 I4 => ⟨σ, H4, I4, q3⟩
end


/-! ### displays -/
theorem dk_empty {P : Program} {w : World} {H : Hp} (h : Heap) (hb : sysModules < h.objs.size) : ObjOk P w H (h.push { cls := .type "dict", data := .dict #[] }) h.objs.size (.dK []) :=
  ⟨Nat.zero_le _, beq_eq_false_iff_ne.mpr (Ne.symm (Nat.ne_of_lt hb)), [], .nil, Heap.DictOf.new h⟩
/-- {}, to be a dict of the kind that is wanted -/
def tDNewK : TE := fun _ H Q => ∀ p, H p = none → Q (.ref p) (upd H p (.dK []))
section
variable {X : Cx} {pos : Pos}
theorem pe_dnewK : PE X (.Dict [] [] pos) tDNewK := fun pins s σ H Q I h =>
  wpAny_Dict_empty ⟨.ref s.heap.objs.size, _, I.laid (a := s.heap.objs.size) (o := .dK []) (t' := s.toks) (fun _ _ q => Heap.get?_push_of_some _ q) (Nat.le_refl _) (dk_empty s.heap I.big), rfl, h _ (I.hok.fresh (Nat.le_refl _))⟩
end

/-! ### methods -/
/-- a method call o.m(e) of a built-in, with one argument: what must be seen of the text -/
structure M1 (X : Cx) (o : Expr) (m : Str) (apos : Pos) (e : Expr) (cpos : Pos) : Prop where
  base : attributeBase o m X.env (eval o X.env) = eval o X.env
  few : ((backTo cpos (starEach [e] X.env)).all (fun x => !x.1) && (backToKw cpos (keywordEach [] X.env)).all (fun x => x.1.isSome)
    && decide (([e] : List Expr).length + ([] : List Keyword).length + (if ([] : List Keyword).isEmpty then 0 else 1) < 30)) = true
  line : (apos.endLine == cpos.line) = true
  trees : backTo cpos (starEach [e] X.env) = [(false, eval e X.env)]
/-- a is a dict, whatever its keys -/
def IsD (H : Hp) (a : Addr) : Prop := (∃ kvs, Rd H a (.dK kvs)) ∨ ∃ kvs, Rd H a (.dT kvs)
theorem isD_at {X : Cx} {pins : List (Addr × Obj)} {σ : St} {H : Hp} {s : Shared} {a : Addr} (I : Inv X pins σ H s) (d : IsD H a) :
    s.TypeIs (.ref a) "dict" ∧ (∀ b, Value.ref a = .ref b → ∃ ob, s.heap.get? b = some ob ∧ ob.dict = none) ∧ (a == sysModules) = false := by
  rcases d with ⟨kvs, e⟩ | ⟨kvs, e⟩
  · obtain ⟨_, hd, vs, _, dd⟩ := dk_rd I.hok e
    refine ⟨dd.typeIs, fun b q => ?_, hd⟩
    cases q
    obtain ⟨ob, _, _, h1, h2, _⟩ := dd
    exact ⟨ob, h1, h2.2.1⟩
  · obtain ⟨_, hd, xs, _, dd⟩ := dt_rd I.hok e
    refine ⟨dd.typeIs, fun b q => ?_, hd⟩
    cases q
    obtain ⟨ob, _, _, h1, h2, _⟩ := dd
    exact ⟨ob, h1, h2.2.1⟩

section
variable {X : Cx} {pins : List (Addr × Obj)} {σ : St} {H : Hp} {s : Shared} {a : Addr} {y d : V} {u r : Value} {o : Option V} {A : Around} {E : Value → Shared → Prop}
/-- d.get(y) -/
theorem d_get1 {Q : Value → Shared → Prop} (hu : A.units + 1 < cLine) (I : Inv X pins σ H s) (g : DGet H a y o) (ry : RelV y u) (h : ∀ w' s', Inv X pins σ H s' → RelV (o.getD .non) w' → Q w' s') :
    wpAny (model X.prog X.w) A (call (.builtin "dict.get") [.ref a, u]) Q E s := by
  rcases g with ⟨kvs, k, e, ey, l⟩ | ⟨kvs, k, b, e, ey, eb, l⟩
  · subst ey
    obtain ⟨z, hd, vs, rel, dd⟩ := dk_rd I.hok e
    refine call_meetsIn PySem.F.slot_dict_get dd.typeIs PySem.F.entry_dict_get (PySem.F.args_dict_get_2 _ _) (meets_dict_get (mixKind X.prog X.w) a (kV_is ry) hd) ⟨_, dd.mapOf, h _ _ (I.tok _) ?_⟩
    rw [l]
    exact (rel.val k).getD rfl
  · subst ey
    cases (show u = Value.ref b from ry)
    obtain ⟨z, hd, xs, rel, dd⟩ := dt_rd I.hok e
    refine call_meetsIn PySem.F.slot_dict_get dd.typeIs PySem.F.entry_dict_get (PySem.F.args_dict_get_2 _ _) (meetsH_dict_get (tupleKind (mixKind X.prog X.w)) a b hd) ⟨tupleKind_room_in1 hu, k, xs, key_of I.hok eb, dd, h _ _ (I.tok _) ?_⟩
    rw [l]
    exact (rel.val k).getD rfl
end

def tDGet1 (td ty : TE) : TE := fun σ H Q => td σ H fun x H1 => ∃ a, x = .ref a ∧ IsD H1 a ∧ ty σ H1 fun y H2 => ∃ o, DGet H2 a y o ∧ Q (o.getD .non) H2
section
variable {X : Cx} {o e f : Expr} {apos cpos : Pos} {td ty tx : TE}
theorem pe_dget1 (hu : X.A.units + 1 < cLine) (ho : PE X o td) (he : PE X e ty) (m : M1 X o "get" apos e cpos) : PE X (.Call (.Attribute o "get" apos) [e] [] cpos) (tDGet1 td ty) := by
  intro pins s σ H Q I h
  refine wpAny_Call_method m.base m.few m.line PySem.F.plainAttrs_dict PySem.F.slot_dict_get PySem.F.type_dict_get (thn (ho pins s σ H _ I h) fun u s1 ⟨x, H1, I1, rx, a, ex, d, q1⟩ => ?_)
  subst ex
  obtain rfl : u = Value.ref a := rx
  obtain ⟨t1, t2, _⟩ := isD_at I1 d
  refine ⟨t1, t2, ?_⟩
  rw [m.trees]
  refine Calls.callWith_builtin rfl (Calls.evalArgs_plain (Calls.spliced_cons (thn (he pins s1 σ H1 _ I1 q1) fun iv s2 ⟨y, H2, I2, ry, ov, g, q2⟩ => Calls.spliced_nil ?_)))
  exact d_get1 hu I2 g ry fun w' s3 I3 rw' => ⟨_, H2, I3, rw', q2⟩
end

/-! ### dict(d): a copy -/
section
variable {X : Cx} {pins : List (Addr × Obj)} {σ : St} {H : Hp} {s : Shared} {a : Addr} {kvs : List (Key × V)} {A : Around} {E : Value → Shared → Prop}
end


section
variable {X : Cx} {pins : List (Addr × Obj)} {σ : St} {H : Hp} {s : Shared} {a : Addr} {y : V} {u : Value} {A : Around} {E : Value → Shared → Prop}
end
end L2

namespace Att
open PySem PySem.W PySem.Calls PyProof.Rows

/-! ### the script -/
/-! ### the attachment: holds_open's last premise (the goal 'hc' behind k_head) from a wpAny of the law's body -/
/-! ### rules over ANY heap (no ledger) from facts about the written part K: the library's own take a ledger (News) for what they write -/
section
variable {prog : Program} {w : World} {A : Around} {E : Value → Shared → Prop} {s : Shared} {K : Frag}

/-! the whole heap as the ledger: makes every rule that writes through a ledger a rule over any heap -/
end
end Att

namespace L2
open PySem PySem.Spec PyProof.Rows

end L2

namespace L2
open PySem PySem.Spec PyProof.Rows

end L2

/- THE LAST THEOREM (shape; LID, My.* are yours):
   My.Adr: a structure of the addresses that your layer names (classes, functions); My.Txt K t: a structure (Prop) of the equations over K;
   My.txt_mk : {K} {implicit addresses ..} (e1 : nsIn K mainGlobals "law" = some (some (.ref f))) (e2 : K.lookup f = some ⟨oc, od, .func (fnOf "law" "law" params body scope dV kV doc pm an cdv ct), sl⟩) (e3 : codeIn K cdv "law" = true) .. : ∃ t, My.Txt K t

(the tactic k_is has no namespace: write k_is) -/

/-! SHORT WORDS over the layer: a def of the text, its body, what a loop and a test want. -/
namespace L2
open PySem PySem.Spec PyProof.Rows

/-! ### the text by places -/
/-! ### no exception leaves a def -/
/-! ### a def (or method) of the text as it stands behind the top -/
section
variable {P : Program} {w : World} {K : PySem.W.Frag} {mg : Str → Option Value} {base : Heap}
end
/-! ### expressions in short: the name that stands in the i-th slot -/
section
variable {X : Cx}
end

/-! ### tests -/
/-! ### heaps -/
/-! ### a dict's pairs: keys that differ -/
section
variable {κ : Type} [DecidableEq κ]
end
end L2

set_option Elab.async false
set_option linter.all false
set_option maxRecDepth 100000
set_option maxHeartbeats 4000000
namespace VL
open PySem PySem.Spec PyProof.Rows L2
/-! ### dicts of one's own -/
--PURE
def keyD : D → Option Key
  | .int i => some (.inl i)
  | .str x => some (.inr x)
  | _ => none
@[simp] theorem keyD_int (i : Int) : keyD (.int i) = some (.inl i) := rfl
def slK : Option Sl → Option (List (Key × D))
  | some (.own (.d es)) => some es
  | _ => none
@[simp] theorem slK_od (es : List (Key × D)) : slK (some (.od es)) = some es := rfl
def getE (es : List (Key × D)) (k : Key) : Option D := (es.find? fun p => decide (p.1 = k)).map (·.2)
def putE (es : List (Key × D)) (k : Key) (d : D) : List (Key × D) := if (es.any fun p => decide (p.1 = k)) = true then es.map (fun p => if p.1 = k then (p.1, d) else p) else es ++ [(k, d)]
/-- x = {} -/
def sDNew (i : Nat) : Sf := fun δ => some (.nx, δ.set i (.od []))
/-- x[k] = v -/
def sDPutE (i : Nat) (fk fv : Dv → Option D) : Sf := fun δ => (fv δ).bind fun v => (slK δ[i]?).bind fun es => (fk δ).bind fun k => (keyD k).bind fun k => if es.length < sizeLine then some (.nx, δ.set i (.od (putE es k v))) else none
--END
theorem slK_eq {o : Option Sl} {es : List (Key × D)} (h : slK o = some es) : o = some (.od es) := by
  cases o with
  | none => cases h
  | some x =>
    cases x with
    | own c =>
      cases c with
      | l ds => cases h
      | d fs => cases h; rfl
    | un => cases h
    | fz d => cases h
    | fr _ => cases h
theorem keyD_rep {K : Fg} {Z : Hp} {v : V} {d : D} {k : Key} (r : Rep K Z v d) (h : keyD d = some k) : v = kV k := by
  cases d with
  | int i => cases h; exact r.int_eq
  | str x => cases h; exact r.str_eq
  | _ => cases h
theorem repK_len {K : Fg} {Z : Hp} {kvs : List (Key × V)} {es : List (Key × D)} (h : RepK K Z kvs es) : kvs.length = es.length := by
  have := congrArg List.length h.1
  rw [List.length_map, List.length_map] at this
  exact this.symm
theorem repK_cons {K : Fg} {Z : Hp} {kv : Key × V} {kvs : List (Key × V)} {es : List (Key × D)} (h : RepK K Z (kv :: kvs) es) : ∃ d fs, es = (kv.1, d) :: fs ∧ Rep K Z kv.2 d ∧ RepK K Z kvs fs := by
  obtain ⟨h1, h2⟩ := h
  cases es with
  | nil => cases h1
  | cons e fs =>
    obtain ⟨k, d⟩ := e
    rw [List.map_cons, List.map_cons, List.cons.injEq] at h1
    cases h2 with
    | cons r q => exact ⟨d, fs, by rw [← h1.1], r, h1.2, q⟩
theorem repK_get {K : Fg} {Z : Hp} (k : Key) : ∀ {kvs : List (Key × V)} {es : List (Key × D)}, RepK K Z kvs es → (valV kvs k = none ∧ getE es k = none) ∨ ∃ v d, valV kvs k = some v ∧ getE es k = some d ∧ Rep K Z v d
  | [], es, h => by
    have : es = [] := List.length_eq_zero_iff.mp (repK_len h).symm
    subst this
    exact .inl ⟨rfl, rfl⟩
  | kv :: kvs, es, h => by
    obtain ⟨d, fs, rfl, r, q⟩ := repK_cons h
    by_cases e : kv.1 = k
    · exact .inr ⟨kv.2, d, valV_pos e, by simp [getE, List.find?_cons, e], r⟩
    · rw [valV_neg e]
      have : getE ((kv.1, d) :: fs) k = getE fs k := by simp [getE, List.find?_cons, e]
      rw [this]
      exact repK_get k q
theorem repK_put {K : Fg} {Z : Hp} {kvs : List (Key × V)} {es : List (Key × D)} (h : RepK K Z kvs es) (k : Key) {v : V} {d : D} (r : Rep K Z v d) : RepK K Z (putK kvs k v) (putE es k d) := by
  have any : ∀ {kvs : List (Key × V)} {es : List (Key × D)}, RepK K Z kvs es → (kvs.any fun kv => decide (kv.1 = k)) = es.any fun p => decide (p.1 = k) := by
    intro kvs
    induction kvs with
    | nil =>
      intro es h
      have : es = [] := List.length_eq_zero_iff.mp (repK_len h).symm
      subst this; rfl
    | cons kv kvs ih =>
      intro es h
      obtain ⟨d, fs, rfl, _, q⟩ := repK_cons h
      rw [List.any_cons, List.any_cons, ih q]
  unfold putK putE
  rw [any h]
  by_cases a : (es.any fun p => decide (p.1 = k)) = true
  · rw [if_pos a, if_pos a]
    clear a any
    revert es
    induction kvs with
    | nil =>
      intro es h
      have : es = [] := List.length_eq_zero_iff.mp (repK_len h).symm
      subst this; exact ⟨rfl, .nil⟩
    | cons kv kvs ih =>
      intro es h
      obtain ⟨d', fs, rfl, r', q⟩ := repK_cons h
      obtain ⟨i1, i2⟩ := ih q
      by_cases e : kv.1 = k
      · rw [List.map_cons, List.map_cons, if_pos e, if_pos e]
        exact ⟨by rw [List.map_cons, List.map_cons, i1], .cons r i2⟩
      · rw [List.map_cons, List.map_cons, if_neg e, if_neg e]
        exact ⟨by rw [List.map_cons, List.map_cons, i1], .cons r' i2⟩
  · rw [if_neg a, if_neg a]
    refine ⟨by rw [List.map_append, List.map_append, h.1]; rfl, ?_⟩
    rw [List.map_append, List.map_append]
    exact h.2.append (.cons r .nil)
theorem un1 {n : Nat} (h : n + 64 < cLine) : n + 1 < cLine := by omega
section
variable {X : Cx} {e b c : Expr} {p pos tpos apos cpos : Pos} {f fk fv fx : Dv → Option D}
theorem sv_dnew (i : Nat) {x : Str} {pos' : Pos} (hN : X.N.Nodup) (hi : X.N[i]? = some x := by rfl) (hx : Loc X.env.scope x := by first | exact Or.inl rfl | exact Or.inr rfl) (hs : swapsWith (.Dict [] [] p) (some (.Name x pos')) pos.line X.env = pure false := by rfl)
    (hf : X.fn x = true ∨ X.env.scope.names.lookup x = some .local := by first | exact .inl rfl | exact .inr rfl | assumption) : SV X (.Assign [.Name x pos'] (.Dict [] [] p) pos) (sDNew i) :=
  PS.imp (ps_set hN hi hx pe_dnewK hs hf) fun D σ H h => by
    obtain ⟨H₀, Z₀, Z, δ, r, hh, e, k⟩ := h
    cases e
    exact fun p hp => k _ _ Z (hh.setW hp (.dct ⟨rfl, .nil⟩)) (Same.refl _)
theorem od_at {K : Fg} {H₀ Z₀ Z : Hp} {δ : Dv} {σ : St} {H : Hp} (hh : Hold K H₀ Z₀ Z δ σ H) {i : Nat} {es : List (Key × D)} (h : slK δ[i]? = some es) : ∃ a kvs, σ[i]? = some (some (V.ref a)) ∧ H a = some (.dK kvs) ∧ RepK K Z kvs es := by
  obtain ⟨a, kvs, h1, _, _, h4, h5⟩ := hh.od i es (slK_eq h)
  exact ⟨a, kvs, h1, h4, h5⟩
theorem sv_dput (i : Nat) {x : Str} (hu : X.A.units + 1 < cLine) (hb : EV X b fk) (hv' : EV X e fv) (hN : X.N[i]? = some x := by rfl) (hv : Vis X.env.scope x := by first | exact Or.inl rfl | exact Or.inr (Or.inl rfl) | exact Or.inr (Or.inr rfl)) (hd : (x == ("__debug__" : Str)) = false := by decide) (hcd : (x == ("__classdict__" : Str)) = false := by decide)
    (hs : swapsWith e (some (.Subscript (.Name x p) b tpos)) pos.line X.env = pure false := by rfl) : SV X (.Assign [.Subscript (.Name x p) b tpos] e pos) (sDPutE i fk fv) :=
  PS.imp (ps_dput hu (pe_var hN hv hd hcd) hb hv' hs) fun D σ H h => by
    obtain ⟨H₀, Z₀, Z, δ, r, hh, e, k⟩ := h
    obtain ⟨v, e1, e⟩ := bind_some e
    obtain ⟨es, e2, e⟩ := bind_some e
    obtain ⟨y, e3, e⟩ := bind_some e
    obtain ⟨ky, e4, e⟩ := bind_some e
    obtain ⟨hl, e5⟩ := ite_some e
    cases e5
    refine ⟨H₀, Z₀, Z, δ, v, hh, e1, fun w Z1 H1 hh1 t1 r1 => ?_⟩
    obtain ⟨a, kvs, h1, h4, h5⟩ := od_at hh1 e2
    refine ⟨_, h1, H₀, Z₀, Z1, δ, y, hh1, e3, fun u Z2 H2 hh2 t2 r2 => ?_⟩
    obtain ⟨a', kvs', g1, g4, g5⟩ := od_at hh2 e2
    rw [h1] at g1
    cases g1
    obtain rfl := keyD_rep r2 e4
    exact ⟨a, _, rfl, DPut.k g4 (by rw [repK_len g5]; exact hl), k σ _ Z2 (hh2.chgW (slK_eq e2) h1 (.dct (repK_put g5 ky (r1.same t2)))) (t1.trans t2)⟩
end
end VL

set_option Elab.async false
set_option linter.all false
set_option maxRecDepth 100000
set_option maxHeartbeats 4000000
namespace VL
open PySem PySem.Spec PyProof.Rows L2
/-! ### sorted(x) of a dict of one's own, with whole numbers for keys; list(range(n)) -/
--PURE
--END
theorem vals_ints : ∀ {out : List Value} {l : List Int}, IntsAre out l → Vals (l.map V.int) out
  | _, _, .nil => .nil
  | _, _, .cons n t r => .cons ⟨t, rfl⟩ (vals_ints r)
section
variable {X : Cx}
variable {e : Expr} {p p2 pos pos2 : Pos} {te : TE} {f : Dv → Option D}
end
end VL

set_option Elab.async false
set_option linter.all false
set_option maxRecDepth 100000
set_option maxHeartbeats 4000000
namespace VL
open PySem PySem.Spec PyProof.Rows L2
/-! ### list(zip(x, y)) of two lists -/
section
variable {prog : Program} {w : World} {A : Around} {E : Value → Shared → Prop} {s : Shared}
end
end VL

set_option Elab.async false
set_option linter.all false
set_option maxRecDepth 100000
set_option maxHeartbeats 4000000
namespace VL
open PySem PySem.Spec PyProof.Rows L2
--PURE
/-- list(zip(x, y)) -/
def zipLD : List D → Option D
  | [.list a, .list b] => some (.list (List.zipWith (fun x y => .tuple [x, y]) a b))
  | _ => none
@[simp] def oLD (fs : Dv → Option (List D)) (g : List D → Option D) : Dv → Option D := fun δ => (fs δ).bind g
@[simp] theorem zipLD_l (a b : List D) : zipLD [.list a, .list b] = some (.list (List.zipWith (fun x y => .tuple [x, y]) a b)) := rfl
--END
section
variable {prog : Program} {w : World} {A : Around} {s : Shared} {R : Result → Shared → Prop} {z TI TO i1 i2 l1 l2 S lo : Addr} {xs ys : Array Value}
end
section
variable {prog : Program} {w : World} {A : Around} {E : Value → Shared → Prop} {s : Shared} {z TI TO i1 i2 l1 l2 : Addr} {xs ys : Array Value}
end
/-! several objects laid at once -/
section
variable {X : Cx} {e1 e2 : Expr} {p p2 pos pos2 : Pos} {ta : TA} {fs : Dv → Option (List D)}
end
end VL

set_option Elab.async false
set_option linter.all false
set_option maxRecDepth 100000
set_option maxHeartbeats 4000000
namespace VL
open PySem PySem.Spec PyProof.Rows L2
/-! ### a dict of one's own, of whole numbers, that is known for good from here -/
--PURE
--END
section
variable {X : Cx} {st : Stmt} {s1 : Sf} {a b : Expr} {f fk : Dv → Option D} {p pos : Pos}
end
end VL

set_option Elab.async false
set_option linter.all false
set_option maxRecDepth 100000
set_option maxHeartbeats 4000000
namespace VL
open PySem PySem.Spec PyProof.Rows L2
/-! ### in, not in, of any plain data; list(range(a, b)) -/
--PURE
--END
section
variable {X : Cx}
end
section
variable {X : Cx} {e1 e2 : Expr} {p p2 pos pos2 : Pos} {ta : TA} {f g : Dv → Option D}
end
end VL

set_option Elab.async false
set_option linter.all false
set_option maxRecDepth 100000
set_option maxHeartbeats 4000000
namespace VL
open PySem PySem.Spec PyProof.Rows L2
/-! ### the kit's tree of asks, over keys that differ: it sorts -/
section
variable {cmp : Nat → Nat → (Bool → Shared → Prop) → Shared → Prop} {N : Nat} {key : Nat → Int}
def ky (key : Nat → Int) (p : Array Nat) (i : Nat) : Int := key (p.getD i 0)
variable {s : Shared} (hinj : ∀ i j, i < N → j < N → key i = key j → i = j) (hc : ∀ i j, i < N → j < N → i ≠ j → ∀ C : Bool → Shared → Prop, C (decide (key i < key j)) s → cmp i j C s)
end
end VL

set_option Elab.async false
set_option linter.all false
set_option maxRecDepth 100000
set_option maxHeartbeats 4000000
namespace VL
open PySem PySem.Spec PyProof.Rows L2
/-! ### a list of pairs sorted, its first parts whole numbers that differ -/
section
variable {prog : Program} {w : World} {A : Around} {E : Value → Shared → Prop} {s : Shared}
end
end VL

set_option Elab.async false
set_option linter.all false
set_option maxRecDepth 100000
set_option maxHeartbeats 4000000
namespace VL
open PySem PySem.Spec PyProof.Rows L2
/-! ### sorted(x.items()) of a dict of one's own, its keys whole numbers -/
--PURE
--END
section
variable {X : Cx} {o : Expr} {p pos apos cpos : Pos} {td : TE}
end
end VL

set_option Elab.async false
set_option linter.all false
set_option maxRecDepth 100000
set_option maxHeartbeats 4000000
namespace VL
open PySem PySem.Spec PyProof.Rows L2
/-! ### dict(pairs) -/
section
variable {prog : Program} {w : World} {A : Around} {E : Value → Shared → Prop} {s : Shared}
end
section
variable {prog : Program} {w : World} {A : Around} {R : Result → Shared → Prop} {I : Addr} {fp wr : List Addr} {G : Array GenState → Array GenState → Prop} {n : Nat} {P : Nat → Value → Prop} {St : Nat → Shared → Prop}
end
end VL

set_option Elab.async false
set_option linter.all false
set_option maxRecDepth 100000
set_option maxHeartbeats 4000000
namespace VL
open PySem PySem.Spec PyProof.Rows L2
/-! ### code that runs while an exception is handled whose context is None -/
section
variable {prog : Program} {w : World} {A : Around} {E : Value → Shared → Prop} {s : Shared} {α : Type}
end
section
variable {X : Cx} {tg : Expr}
end
section
variable {X : Cx} {scope : Scope} {vars : List Str} {caps : List (Nat × Str)} {elt tg iter cnd : Expr} {pos : Pos} {g : TG} {fi : Dv → Option (List D)} {ft : Dv → Option Bool} {fe : Dv → Option D} {bv : D → Option (List D)}
end
/-! ### a def that is called while an exception is handled -/
section
variable {P : Program} {w : World} {K : PySem.W.Frag} {mg : Str → Option Value} {base : Heap}
end
section
variable {X : Cx} {body : List Stmt} {b : Sf} {bx : Xf} {np hpos pos : Pos}
end
section
variable {P : Program} {w : World} {K : PySem.W.Frag} {mg : Str → Option Value} {base h : Heap} {x y : Str} {st : Stmt} {k : Nat} {ps : List Str}
end
end VL

set_option Elab.async false
set_option linter.all false
set_option maxRecDepth 100000
set_option maxHeartbeats 4000000
namespace VL
open PySem PySem.Spec PyProof.Rows L2
/-! ### a list told anew is read by all, and changed at last -/
--PURE
--END
section
variable {K : Fg} {Z : Hp} {a : Addr} {ys : List V} (ha : Z a = some (.lst ys))
include ha
end
section
variable {K : Fg} {H₀ Z₀ Z H : Hp} {δ : Dv} {σ : St}
end
section
variable {X : Cx} {e c : Expr} {st : Stmt} {sts : List Stmt} {s1 s2 : Sf} {f : Dv → Option D} {p pos apos : Pos}
/-! ### the statements of a def, one behind the other: lists may be forgotten -/
end
section
variable {P : Program} {w : World} {K : PySem.W.Frag} {mg : Str → Option Value} {base : Heap}
end
end VL

set_option Elab.async false
set_option linter.all false
set_option maxRecDepth 100000
set_option maxHeartbeats 4000000
namespace VL
open PySem PySem.Spec PyProof.Rows L2
/-! ### a list told anew is handed in, and a list comes back at the head of a tuple -/
--PURE
--END
section
variable {K : Fg} {H₀ Z₀ Z H : Hp} {δ : Dv} {σ : St}
end
section
variable {X : Cx} {e c b : Expr} {es : List Expr} {sts : List Stmt} {s2 : Sf} {fk fv : Dv → Option D} {fs : Dv → Option (List D)} {ft : Dv → Option Bool} {p pos pos1 tpos : Pos}
end
end VL

set_option Elab.async false
set_option linter.all false
set_option maxRecDepth 100000
set_option maxHeartbeats 4000000
namespace VL
open PySem PySem.Spec PyProof.Rows L2
/-! ### dict(pairs), the pairs in a tuple -/
section
variable {prog : Program} {w : World} {A : Around} {E : Value → Shared → Prop} {s : Shared}
end
--PURE
--END
section
variable {X : Cx}
/-! ### x = dict(t) -/
end
end VL

set_option Elab.async false
set_option linter.all false
set_option maxRecDepth 100000
set_option maxHeartbeats 4000000
namespace VL
open PySem PySem.Spec PyProof.Rows L2
/-! ### x = {k: v} -/
--PURE
--END
section
variable {K : Fg} {H₀ Z₀ Z H : Hp} {δ : Dv} {σ : St} {p : Addr} {o : HO}
end
section
variable {X : Cx}
end
end VL

set_option Elab.async false
set_option linter.all false
set_option maxRecDepth 100000
set_option maxHeartbeats 4000000
namespace VL
open PySem PySem.Spec PyProof.Rows L2
/-! ### a dict of one's own, handed to a def that changes it -/
--PURE
--END
/-! ### the statements of such a def: the first name keeps its dict -/
section
variable {X : Cx} {e b c : Expr} {st : Stmt} {sts body orelse : List Stmt} {s1 s2 : Sf} {f fk fv : Dv → Option D} {ft : Dv → Option Bool} {p pos tpos : Pos}
end
section
variable {P : Program} {w : World} {K : PySem.W.Frag} {mg : Str → Option Value} {base : Heap}
end
section
variable {K : Fg} {H₀ Z₀ Z H : Hp} {δ : Dv} {σ : St}
end
section
variable {X : Cx} {es : List Expr} {fs : Dv → Option (List D)} {p p2 pos cpos : Pos}
end
end VL

set_option Elab.async false
set_option linter.all false
set_option maxRecDepth 100000
set_option maxHeartbeats 4000000
namespace VL
open PySem PySem.Spec PyProof.Rows L2
/-! ### a test that reads a dict of one's own (of ints) by defs -/
--PURE
--END
/-! ### an expression that reads a list of one's own by defs, and tells no list -/
--PURE
--END
section
variable {P : Program} {w : World} {K : PySem.W.Frag} {mg : Str → Option Value} {base h : Heap} {x y : Str} {st : Stmt} {k : Nat} {ps : List Str}
end
end VL

set_option Elab.async false
set_option linter.all false
set_option maxRecDepth 100000
set_option maxHeartbeats 4000000
namespace VL
open PySem PySem.Spec PyProof.Rows L2
/-! ### sorted(set(x)), x a list or tuple of whole numbers -/
--PURE
--END
/-! ### a set's table: its places rise -/
/-! ### sets of whole numbers -/
section
variable {prog : Program} {w : World} {A : Around} {E : Value → Shared → Prop} {s : Shared}
end
/-! ### set(x) -/
section
variable {prog : Program} {w : World} {A : Around} {R : Result → Shared → Prop} {I : Addr} {fp wr : List Addr} {G : Array GenState → Array GenState → Prop} {n : Nat} {P : Nat → Value → Prop} {St : Nat → Shared → Prop}
end
section
variable {prog : Program} {w : World} {A : Around} {E : Value → Shared → Prop} {s : Shared}
end
section
variable {prog : Program} {w : World} {A : Around} {E : Value → Shared → Prop} {s : Shared}
end
/-! ### a walk over a set -/
section
variable {M : Model} {prog : Program} {w : World} {A : Around} {E : Value → Shared → Prop} {s : Shared}
end
section
variable {prog : Program} {w : World} {A : Around} {E : Value → Shared → Prop} {s : Shared}
end
section
variable {prog : Program} {w : World} {A : Around} {E : Value → Shared → Prop} {s : Shared}
end
end VL

set_option Elab.async false
set_option linter.all false
set_option maxRecDepth 100000
set_option maxHeartbeats 4000000
namespace VL
open PySem PySem.Spec PyProof.Rows L2
section
variable {prog : Program} {w : World} {A : Around} {E : Value → Shared → Prop} {s : Shared}
end
section
variable {X : Cx}
variable {e : Expr} {p p2 pos pos2 : Pos} {te : TE} {f : Dv → Option D}
end
end VL

set_option Elab.async false
set_option linter.all false
set_option maxRecDepth 100000
set_option maxHeartbeats 4000000
namespace VL
open PySem PySem.Spec PyProof.Rows L2
/-! ### an object of a class of the text -/
--PURE
--END
section
variable {X : Cx} {e b c : Expr} {es : List Expr} {f fk fv : Dv → Option D} {fs : Dv → Option (List D)} {ft : Dv → Option Bool} {p pos tpos apos : Pos} {n F : Str}
end
end VL

set_option Elab.async false
set_option linter.all false
set_option maxRecDepth 100000
set_option maxHeartbeats 4000000
namespace VL
open PySem PySem.Spec PyProof.Rows L2
/-! ### an object of one's own -/
section
variable {K : Fg} {n : Str} {i : Nat} {A : List Addr} {x : Addr} {ds : List (Str × D)} {Z H : Hp} {δ : Dv} {σ : St}
/-! ### fields -/
end
end VL

set_option Elab.async false
set_option linter.all false
set_option maxRecDepth 100000
set_option maxHeartbeats 4000000
namespace VL
open PySem PySem.Spec PyProof.Rows L2
/-! ### statements about an object of one's own -/
section
variable {K : Fg} {n : Str} {i : Nat} {A : List Addr} {x : Addr} {ds : List (Str × D)} {Z H : Hp} {δ : Dv} {σ : St}
end
section
variable {X : Cx} {n F m : Str} {i : Nat} {e b c : Expr} {es : List Expr} {st : Stmt} {sts body orelse : List Stmt} {s1 s2 : Sf} {f fk fv : Dv → Option D} {fs : Dv → Option (List D)} {ft : Dv → Option Bool} {p p2 pos tpos apos cpos : Pos}
end
end VL

set_option Elab.async false
set_option linter.all false
set_option maxRecDepth 100000
set_option maxHeartbeats 4000000
namespace VL
open PySem PySem.Spec PyProof.Rows L2
--PURE
--END
section
variable {K : Fg} {n : Str} {i : Nat} {A : List Addr} {x : Addr} {ds : List (Str × D)} {Z H : Hp} {δ : Dv} {σ : St}
end
section
variable {P : Program} {w : World} {K : PySem.W.Frag} {mg : Str → Option Value} {base : Heap}
/-! ### __init__ -/
end
section
variable {X : Cx} {n F m : Str} {i : Nat} {e b c : Expr} {es : List Expr} {st : Stmt} {sts body orelse : List Stmt} {s1 s2 : Sf} {f fk fv : Dv → Option D} {fs : Dv → Option (List D)} {ft : Dv → Option Bool} {p p2 pos tpos apos cpos : Pos}
end
end VL

set_option Elab.async false
set_option linter.all false
set_option maxRecDepth 100000
set_option maxHeartbeats 4000000
namespace VL
open PySem PySem.Spec PyProof.Rows L2
def inClassV (s : Stmt) (j : Nat) : Stmt := match s with
  | .ClassDef _ _ _ body _ _ _ _ _ _ _ => body.getD j (.Pass ⟨0, 0, 0, 0⟩)
  | _ => .Pass ⟨0, 0, 0, 0⟩
/-! ### a def of a class -/
section
variable {P : Program} {w : World} {K : PySem.W.Frag} {mg : Str → Option Value} {base h : Heap} {C : Addr} {n m q : Str} {st : Stmt} {k : Nat} {ps : List Str}
end
end VL

set_option Elab.async false
set_option linter.all false
set_option maxRecDepth 100000
set_option maxHeartbeats 4000000
namespace VL
open PySem PySem.Spec PyProof.Rows L2
/-! ### texts: str(x), sep.join(x), x.split(sep) -/
--PURE
def strD : List D → Option D
  | [.int a] => if a.natAbs.log2 < 1920 then some (.str (Str.ofString (toString a))) else none
  | [.str x] => some (.str x)
  | _ => none
def strsD : List D → Option (List Str)
  | [] => some []
  | .str x :: r => (strsD r).bind fun l => some (x :: l)
  | _ => none
def joinD : D → D → Option D
  | .str x, .list ds => (strsD ds).bind fun l => if JoinOk x l = true then some (.str (Txt.join x l)) else none
  | _, _ => none
def splitD : D → D → Option D
  | .str x, .str y => if (y.length == 0) = false ∧ x.length + 2 ≤ sizeLine then some (.list ((Txt.split x y).map .str)) else none
  | _, _ => none
--END
theorem strsD_rep {K : Fg} {Z : Hp} : ∀ {vs : List V} {ds : List D} {l : List Str}, Reps K Z vs ds → strsD ds = some l → vs = l.map V.str
  | _, _, _, .nil, h => by cases h; rfl
  | _, .str i :: ds, l, .cons r rs, h => by
    obtain ⟨l', e, h⟩ := bind_some h
    cases h
    rw [r.str_eq, strsD_rep rs e]
    rfl
  | _, .none :: ds, l, .cons r rs, h => by cases h
  | _, .bool _ :: ds, l, .cons r rs, h => by cases h
  | _, .int _ :: ds, l, .cons r rs, h => by cases h
  | _, .list _ :: ds, l, .cons r rs, h => by cases h
  | _, .tuple _ :: ds, l, .cons r rs, h => by cases h
  | _, .dict _ :: ds, l, .cons r rs, h => by cases h
theorem vals_strs : ∀ {l : List Str} {us : List Value}, Vals (l.map V.str) us → ∃ m : List (Str × Tok), us = strValues m ∧ m.map (·.1) = l
  | [], [], .nil => ⟨[], rfl, rfl⟩
  | n :: l, u :: us, .cons h r => by
    obtain ⟨t, rfl⟩ := h
    obtain ⟨m, rfl, e⟩ := vals_strs r
    exact ⟨(n, t) :: m, rfl, by rw [List.map_cons, e]⟩
theorem strs_vals : ∀ m : List (Str × Tok), Vals ((m.map (·.1)).map V.str) (strValues m)
  | [] => .nil
  | (x, t) :: m => .cons ⟨t, rfl⟩ (strs_vals m)
theorem reps_strs {K : Fg} {Z : Hp} : ∀ l : List Str, Reps K Z (l.map V.str) (l.map PyData.str)
  | [] => .nil
  | x :: l => .cons (.str x) (reps_strs l)
section
variable {X : Cx} {a b : Expr} {f1 f2 : Dv → Option D} {pos apos : Pos}
theorem call_str1 : CallR X (.type "str") (fun xs H Q => (∃ i : Int, xs = [.int i] ∧ i.natAbs.log2 < 1920 ∧ Q (.str (Str.ofString (toString i))) H) ∨ ∃ x, xs = [.str x] ∧ Q (.str x) H) := by
  intro pins s σ H xs us Q I rv h
  rcases h with ⟨i, rfl, hi, q⟩ | ⟨x, rfl, q⟩
  · obtain ⟨u, rfl, t, rfl⟩ := vals1 rv
    exact P.str_of_int hi ⟨.str _, H, I.tok _, ⟨_, rfl⟩, q⟩
  · obtain ⟨u, rfl, t, rfl⟩ := vals1 rv
    exact P.str_of_str ⟨.str _, H, I, ⟨_, rfl⟩, q⟩
theorem c_str : CallR X (.type "str") (rDs X.K strD) :=
  CallR.imp call_str1 fun xs H Q q => by
    obtain ⟨Z, as, d, zh, ra, e, k⟩ := q
    cases ra with
    | nil => cases e
    | cons r1 r2 =>
      cases r2 with
      | cons _ _ => cases r1 <;> cases e
      | nil =>
        cases r1 with
        | int i =>
          obtain ⟨hi, e⟩ := ite_some e
          cases e
          exact .inl ⟨i, rfl, hi, k _ Z H (New.refl zh) (.str _)⟩
        | str x => cases e; exact .inr ⟨x, rfl, k _ Z H (New.refl zh) (.str _)⟩
        | _ => cases e
theorem mt_join : MtR X "str.join" (fun x xs H Q => ∃ y p l, x = .str y ∧ xs = [.ref p] ∧ SqL X.K H p (l.map V.str) ∧ JoinOk y l = true ∧ Q (.str (Txt.join y l)) H) := by
  intro pins s σ H x xs v us Q I rx rs h
  obtain ⟨y, p, l, rfl, rfl, hq, hj, q⟩ := h
  obtain ⟨t, rfl⟩ := rx
  obtain ⟨u, rfl, ru⟩ := vals1 rs
  cases ru
  obtain ⟨its, r, pl, hz⟩ := I.list hq
  obtain ⟨m, rfl, e⟩ := vals_strs r
  exact SC.join pl.isList e hj fun t' k => ⟨.str _, H, I.tok _, ⟨_, rfl⟩, q⟩
theorem ev_join (ha : EV X a f1) (hb : EV X b f2) (hbase : attributeBase a "join" X.env (eval a X.env) = eval a X.env := by rfl)
    (hfew : ((backTo pos (starEach (b :: []) X.env)).all (fun x => !x.1) && (backToKw pos (keywordEach [] X.env)).all (fun x => x.1.isSome)
      && decide ((b :: []).length + ([] : List Keyword).length + (if ([] : List Keyword).isEmpty then 0 else 1) < 30)) = true := by rfl)
    (hline : (apos.endLine == pos.line) = true := by rfl) (hs : starEach (b :: []) X.env = (false, eval b X.env) :: starEach [] X.env := by rfl) (hplain : (backTo pos (starEach [] X.env)).any (·.1) = false := by rfl) :
    EV X (.Call (.Attribute a "join" apos) [b] [] pos) (o2 f1 f2 joinD) :=
  PE.imp (pe_bm PySem.F.plainAttrs_str PySem.F.slot_str_join PySem.F.type_str_join mt_join ha (pa_cons hb pa_nil hs) hbase hfew hline hs hplain) fun σ H Q h => by
    obtain ⟨H₀, Z₀, Z, δ, d, hh, e, k⟩ := h
    obtain ⟨x, e1, e⟩ := bind_some e
    obtain ⟨y, e2, e⟩ := bind_some e
    refine ⟨H₀, Z₀, Z, δ, x, hh, e1, fun v Z1 H1 hh1 t1 r1 => ?_⟩
    cases r1 with
    | str z =>
      refine ⟨rfl, H₀, Z₀, Z1, δ, y, hh1, e2, fun w Z2 H2 hh2 t2 r2 => ?_⟩
      cases r2 with
      | @lst p xs ds h1 q1 =>
        have e : ((strsD ds).bind fun l => if JoinOk z l = true then some (PyData.str (Txt.join z l)) else none) = some d := e
        obtain ⟨l, e3, e⟩ := bind_some e
        obtain ⟨hj, e⟩ := ite_some e
        cases e
        obtain rfl := strsD_rep q1 e3
        exact ⟨z, p, l, rfl, rfl, SqL.same h1 hh2.zh, hj, k _ Z2 H2 hh2 (t1.trans t2) (.str _)⟩
      | _ => cases e
    | _ => cases e
theorem split_new {prog : Program} {w : World} {A : Around} {E : Value → Shared → Prop} {s : Shared} {x y : Str} {t u : Tok} {Q : Value → Shared → Prop} (hy : (y.length == 0) = false) (hsz : x.length + 2 ≤ sizeLine)
    (h : ∀ (l : List (Str × Tok)) k, l.map (·.1) = Txt.split x y → Q (.ref s.heap.objs.size) { s with heap := s.heap.push (seqObj "list" (strValues l).toArray 0), toks := k }) :
    wpAny (model prog w) A (call (.builtin "str.split") [.str x t, .str y u]) Q E s := by
  open Builtin Builtin.Str in
  have hn : (partsBetween x (occurrences x y 0 x.length (x.length + 1)) y.length).length ≤ sizeLine := by
    have e1 := StrLaws.occ_length_le x y 0 x.length (x.length + 1)
    rw [length_partsBetween]; omega
  cases h1 : (decide (x.length < y.length) || decide (Builtin.Str.strKind x < Builtin.Str.strKind y))
  · cases hf : (Builtin.Str.occurrences x y 0 x.length (x.length + 1)).isEmpty
    · refine call_meets F.slot_str_split (typeIs_str _ _ _) F.entry_str_split (F.args_str_split_2 _ _) (meets_str_split_sep x y t u h1 hy hf (by omega) hn) ?_
      show wants Q E _ { s with toks := _, heap := s.heap.push { cls := .type "list", data := .seq (strsFrom s.toks (Builtin.Str.partsBetween x (Builtin.Str.occurrences x y 0 x.length (x.length + 1)) y.length)).toArray } }
      rw [strsFrom_eq]
      exact h (numbered s.toks _) _ ((numbered_texts _ _).trans ((if_neg (ne_true_of_eq_false h1)).trans (if_neg (ne_true_of_eq_false hf))).symm)
    · exact call_meets F.slot_str_split (typeIs_str _ _ _) F.entry_str_split (F.args_str_split_2 _ _) (meets_str_split_not_found x y t u h1 hy hf)
        (h [(x, t)] s.toks ((if_neg (ne_true_of_eq_false h1)).trans (if_pos hf)).symm)
  · exact call_meets F.slot_str_split (typeIs_str _ _ _) F.entry_str_split (F.args_str_split_2 _ _) (meets_str_split_cannot_occur x y t u h1)
      (h [(x, t)] s.toks (if_pos h1).symm)
theorem split_few {x y : Str} (hy : (y.length == 0) = false) (hsz : x.length + 2 ≤ sizeLine) : (Txt.split x y).length ≤ sizeLine := by
  have h := split_weight x y (by have : y.length ≠ 0 := by simpa using hy
                                 omega)
  omega
theorem mt_split : MtR X "str.split" (fun x xs H Q => ∃ y z, x = .str y ∧ xs = [.str z] ∧ (z.length == 0) = false ∧ y.length + 2 ≤ sizeLine ∧ ∀ b, H b = none → Q (.ref b) (upd H b (.lst ((Txt.split y z).map V.str)))) := by
  intro pins s σ H x xs v us Q I rx rs h
  obtain ⟨y, z, rfl, rfl, hz, hs, q⟩ := h
  obtain ⟨t, rfl⟩ := rx
  obtain ⟨u, rfl, t2, rfl⟩ := vals1 rs
  refine split_new hz hs fun l k e => ?_
  have L := I.laid (h' := s.heap.push (seqObj "list" (strValues l).toArray 0)) (a := s.heap.objs.size) (o := .lst ((Txt.split y z).map V.str)) (t' := k) (fun b u eb => Heap.get?_push_of_some _ eb) (Nat.le_refl _)
    (show ObjOk X.prog X.w _ _ _ (.lst ((Txt.split y z).map V.str)) from ⟨by rw [List.length_map]; exact split_few hz hs, strValues l, _, by rw [← e]; exact strs_vals l, Heap.get?_push_size _ rfl⟩)
  exact ⟨.ref s.heap.objs.size, _, L, rfl, q _ (I.hok.fresh (Nat.le_refl _))⟩
theorem ev_split (ha : EV X a f1) (hb : EV X b f2) (hbase : attributeBase a "split" X.env (eval a X.env) = eval a X.env := by rfl)
    (hfew : ((backTo pos (starEach (b :: []) X.env)).all (fun x => !x.1) && (backToKw pos (keywordEach [] X.env)).all (fun x => x.1.isSome)
      && decide ((b :: []).length + ([] : List Keyword).length + (if ([] : List Keyword).isEmpty then 0 else 1) < 30)) = true := by rfl)
    (hline : (apos.endLine == pos.line) = true := by rfl) (hs : starEach (b :: []) X.env = (false, eval b X.env) :: starEach [] X.env := by rfl) (hplain : (backTo pos (starEach [] X.env)).any (·.1) = false := by rfl) :
    EV X (.Call (.Attribute a "split" apos) [b] [] pos) (o2 f1 f2 splitD) :=
  PE.imp (pe_bm PySem.F.plainAttrs_str PySem.F.slot_str_split PySem.F.type_str_split mt_split ha (pa_cons hb pa_nil hs) hbase hfew hline hs hplain) fun σ H Q h => by
    obtain ⟨H₀, Z₀, Z, δ, d, hh, e, k⟩ := h
    obtain ⟨x, e1, e⟩ := bind_some e
    obtain ⟨y, e2, e⟩ := bind_some e
    refine ⟨H₀, Z₀, Z, δ, x, hh, e1, fun v Z1 H1 hh1 t1 r1 => ?_⟩
    cases r1 with
    | str z =>
      refine ⟨rfl, H₀, Z₀, Z1, δ, y, hh1, e2, fun w Z2 H2 hh2 t2 r2 => ?_⟩
      cases r2 with
      | str z2 =>
        have e : (if (z2.length == 0) = false ∧ z.length + 2 ≤ sizeLine then some (PyData.list ((Txt.split z z2).map .str)) else none) = some d := e
        obtain ⟨hj, e⟩ := ite_some e
        cases e
        refine ⟨z, z2, rfl, rfl, hj.1, hj.2, fun l hl => ?_⟩
        have n := New.add hh2.zh hl (.lst ((Txt.split z z2).map V.str))
        exact k _ _ _ (hh2.new n) ((t1.trans t2).trans n.z) (.lst (SqL.of upd_same) (reps_strs _))
      | _ => cases e
    | _ => cases e
end
end VL

set_option Elab.async false
set_option linter.all false
set_option maxRecDepth 100000
set_option maxHeartbeats 4000000
namespace VL
open PySem PySem.Spec PyProof.Rows L2
/-! ### a def that tells a new dict -/
--PURE
def oOd (i : Nat) : Dv → Option (List (Key × D)) := fun δ => slK δ[i]?
def sqN (s : Sf) (f : Dv → Option (List (Key × D))) : Dv → Option (List (Key × D)) := fun δ => (s δ).bind fun r => match r.1 with
  | .nx => f r.2
  | _ => none
def runDN (N : List Str) (n : Nat) (b : Dv → Option (List (Key × D))) : List D → Option (List (Key × D)) := fun as => if as.length = n then b (startD N as) else none
/-- x = f(..) -/
def sDOwn (i : Nat) (fs : Dv → Option (List D)) (g : List D → Option (List (Key × D))) : Sf := fun δ => (fs δ).bind fun as => (g as).bind fun es => some (.nx, δ.set i (.od es))
/-- x.get(k) -/
def oDGet1 (i : Nat) (fk : Dv → Option D) : Dv → Option D := fun δ => (slK δ[i]?).bind fun es => (fk δ).bind fun k => (keyD k).bind fun k => some ((getE es k).getD .none)
/-- f(..).get(k) -/
def oDGetC (fs : Dv → Option (List D)) (g : List D → Option (List (Key × D))) (fk : Dv → Option D) : Dv → Option D := fun δ => (fs δ).bind fun as => (g as).bind fun es => (fk δ).bind fun k => (keyD k).bind fun k => some ((getE es k).getD .none)
--END
def spN (K : Fg) (g : List D → Option (List (Key × D))) : Sp := fun vs H Q _ => ∃ Z as es, Same Z H ∧ Reps K Z vs as ∧ g as = some es ∧ ∀ p kvs Z' H', New Z H Z' H' → H' p = none → RepK K Z' kvs es → Q (.ref p) (upd H' p (.dK kvs))
def tNN (K : Fg) (f : Dv → Option (List (Key × D))) : TS := fun D σ H => ∃ H₀ Z₀ Z δ es, Hold K H₀ Z₀ Z δ σ H ∧ f δ = some es ∧ ∀ σ' H' Z' δ' p kvs, Hold K H₀ Z₀ Z' δ' σ' H' → Same Z Z' → H' p = none → RepK K Z' kvs es → D.rt (.ref p) (upd H' p (.dK kvs))
def BN (X : Cx) (sts : List Stmt) (f : Dv → Option (List (Key × D))) : Prop := PSs X sts (tNN X.K f)
section
variable {X : Cx} {e b : Expr} {es : List Expr} {p pos apos cpos : Pos} {st : Stmt} {sts : List Stmt} {f : Dv → Option (List (Key × D))} {fk : Dv → Option D} {fs : Dv → Option (List D)} {s : Sf}
theorem bn_cons (h1 : SV X st s) (hn : Nxt s) (h2 : BN X sts f) : BN X (st :: sts) (sqN s f) :=
  PSs.imp (pss_cons h1 h2) fun D σ H h => by
    obtain ⟨H₀, Z₀, Z, δ, ds, hh, e, k⟩ := h
    obtain ⟨⟨fl, δ'⟩, e1, e⟩ := bind_some e
    have hf : fl = .nx := hn δ _ e1
    subst hf
    refine ⟨H₀, Z₀, Z, δ, (.nx, δ'), hh, e1, fun σ' H' Z' hh' t' => ?_⟩
    exact ⟨H₀, Z₀, Z', δ', ds, hh', e, fun σ2 H2 Z2 δ2 p us hh2 t2 hp ru => k σ2 H2 Z2 δ2 p us hh2 (t'.trans t2) hp ru⟩
theorem bn_retV (i : Nat) {x : Str} (hN : X.N[i]? = some x := by rfl) (hv : Vis X.env.scope x := by first | exact Or.inl rfl | exact Or.inr (Or.inl rfl) | exact Or.inr (Or.inr rfl)) (hd : (x == ("__debug__" : Str)) = false := by decide) (hcd : (x == ("__classdict__" : Str)) = false := by decide) : BN X [.Return (some (.Name x p)) pos] (oOd i) :=
  PSs.imp (pss_one (ps_ret (pe_var hN hv hd hcd))) fun D σ H h => by
    obtain ⟨H₀, Z₀, Z, δ, ds, hh, e, k⟩ := h
    obtain ⟨a, xs, h1, h2, h3, h4, h5⟩ := hh.od i ds (slK_eq e)
    refine ⟨_, h1, ?_⟩
    have eH : upd (fun b => if b = a then none else H b) a (.dK xs) = H := funext fun b => by
      by_cases hb : b = a
      · subst hb; rw [upd_same, h4]
      · rw [upd_ne hb]; exact if_neg hb
    have := k σ (fun b => if b = a then none else H b) Z (List.replicate σ.length .un) a xs ⟨fun b o q => ?_, fun b o q => ?_, hh.z0, hh.zb, by simp, fun j d q => ?_, fun j d q => ?_, fun j l d d' b _ q => ?_, fun j d q => ?_, hh.nf⟩ (Same.refl _) (if_pos rfl) h5
    · rw [eH] at this; exact this
    · have : b ≠ a := fun z => by rw [z, h3] at q; cases q
      show (if b = a then none else H b) = some o
      rw [if_neg this]; exact hh.zh b o q
    · have : b ≠ a := fun z => by rw [z, h2] at q; cases q
      show (if b = a then none else H b) = some o
      rw [if_neg this]; exact hh.h0 b o q
    all_goals
      rw [List.getElem?_replicate] at q
      split at q <;> cases q
theorem nxt_dnew (i : Nat) : Nxt (sDNew i) := fun δ r h => by cases h; rfl
theorem nxt_dput (i : Nat) (fk fv : Dv → Option D) : Nxt (sDPutE i fk fv) := fun δ r h => by
  obtain ⟨x, _, h⟩ := bind_some h
  obtain ⟨x, _, h⟩ := bind_some h
  obtain ⟨x, _, h⟩ := bind_some h
  obtain ⟨x, _, h⟩ := bind_some h
  obtain ⟨_, h⟩ := ite_some h
  cases h; rfl
theorem ev_dget1 (i : Nat) {x : Str} (hu : X.A.units + 1 < cLine) (hb : EV X b fk) (m : M1 X (.Name x p) "get" apos b cpos) (hN : X.N[i]? = some x := by rfl) (hv : Vis X.env.scope x := by first | exact Or.inl rfl | exact Or.inr (Or.inl rfl) | exact Or.inr (Or.inr rfl)) (hd : (x == ("__debug__" : Str)) = false := by decide) (hcd : (x == ("__classdict__" : Str)) = false := by decide) :
    EV X (.Call (.Attribute (.Name x p) "get" apos) [b] [] cpos) (oDGet1 i fk) :=
  PE.imp (pe_dget1 hu (pe_var hN hv hd hcd) hb m) fun σ H Q h => by
    obtain ⟨H₀, Z₀, Z, δ, d, hh, e, k⟩ := h
    obtain ⟨es, e1, e⟩ := bind_some e
    obtain ⟨y, e2, e⟩ := bind_some e
    obtain ⟨ky, e4, e⟩ := bind_some e
    cases e
    obtain ⟨a, kvs, h1, h4, h5⟩ := od_at hh e1
    refine ⟨_, h1, a, rfl, .inl ⟨kvs, .inl h4⟩, H₀, Z₀, Z, δ, y, hh, e2, fun v Z1 H1 hh1 t1 r1 => ?_⟩
    obtain ⟨a', kvs', g1, g4, g5⟩ := od_at hh1 e1
    rw [h1] at g1
    cases g1
    obtain rfl := keyD_rep r1 e4
    rcases repK_get ky g5 with ⟨q, q'⟩ | ⟨w, d', q1, q2, rw'⟩
    · refine ⟨none, q ▸ DGet.k g4, k .non Z1 H1 hh1 t1 ?_⟩
      rw [q']; exact .non
    · refine ⟨some w, q1 ▸ DGet.k g4, k w Z1 H1 hh1 t1 ?_⟩
      rw [q2]; exact rw'
end
theorem repK_same {K : Fg} {Z Z' : Hp} {kvs : List (Key × V)} {es : List (Key × D)} (h : RepK K Z kvs es) (s : Same Z Z') : RepK K Z' kvs es := ⟨h.1, h.2.same s⟩
theorem runDN_ok {N : List Str} {n : Nat} {b : Dv → Option (List (Key × D))} {as : List D} {ds : List (Key × D)} (e : runDN N n b as = some ds) : as.length = n ∧ b (startD N as) = some ds := by
  unfold runDN at e
  split at e
  · exact ⟨‹_›, e⟩
  · cases e
section
variable {P : Program} {w : World} {K : PySem.W.Frag} {mg : Str → Option Value} {base : Heap}
theorem fn_n {x qual : Str} {st : Stmt} {f : Addr} {fd : FuncData} {dV : Value} {N ps : List Str} {k : Nat} {b : Dv → Option (List (Key × D))} (F : FunV K x qual st f fd dV) (S : FnScope N ps (defScope st))
    (hb : ∀ (cdv : Value) (A : Around) (outer : List Env) (s : Shared) (H : Hp) (E : XK), Room k (A.deeper (envOfC qual (defScope st) s.heap.objs.size f cdv)) → BN (cxOf CX0 P w K mg base N qual (defScope st) f cdv A outer s H E).nox (defBody st) b) : FnOk P w K mg base CX0 (k + 1) f fd ps (spN K (runDN N ps.length b)) := by
  obtain ⟨oc, od, kV, doc, pm, an, cdv, ct, osl, rfl, lk, hcd⟩ := F.ex
  refine fn_of lk hcd S (fun vs H Q E h => ?_) fun A outer s H vs Q E hr hsp => ?_
  · obtain ⟨Z, as, ds, zh, r, e, _⟩ := h
    rw [r.length]
    exact (runDN_ok e).1
  · refine ⟨_, PSs.nox (hb cdv A outer s H E hr), ?_⟩
    obtain ⟨Z, as, ds, zh, r, e, kk⟩ := hsp
    have hh := hold_start (N := N) zh r
    exact ⟨H, Z, Z, _, ds, hh, (runDN_ok e).2, fun σ' H' Z' δ' p us h' z' hp ru => kk p us Z' H' ⟨z', h'.h0, h'.zh, h'.zb, h'.nf⟩ hp ru⟩
structure CalN (P : Program) (w : World) (K : PySem.W.Frag) (mg : Str → Option Value) (base : Heap) (x : Str) (k : Nat) (g : List D → Option (List (Key × D))) : Prop where
  ex : ∃ (fa : Addr) (fd : FuncData) (ps : List Str), FnOk P w K mg base CX0 k fa fd ps (spN K g) ∧ mg x = some (.ref fa) ∧ PySem.W.keepIn K (.ref fa) = true ∧ Binds K fd ps []
end
section
variable {X : Cx} {e b : Expr} {es : List Expr} {p pos apos cpos : Pos} {fk : Dv → Option D} {fs : Dv → Option (List D)} {k : Nat} {x : Str} {g : List D → Option (List (Key × D))}
theorem ev_def00 {gd : List D → Option D} (C : Cal X.prog X.w X.K X.mg X.base x k gd []) (hr : Room k X.A) (hg : Gl X x) (hdb : (x == ("__debug__" : Str)) = false := by decide) : EV X (.Call (.Name x p) [] [] pos) (os oNil gd) := by
  obtain ⟨fa, fd, ps, ds, dv, F, hm, hk, hb, hd, hdd⟩ := C.ex
  refine PE.imp (pe_call0 F hr hg hm hk hb hd pass0 hdb) fun σ H Q h => ?_
  obtain ⟨H₀, Z₀, Z, δ, d, hh, e, q⟩ := h
  exact ⟨Z, [], d, hh.zh, hdd Z, e, fun v Z' H' n r => q v Z' H' (hh.new n) n.z r⟩
theorem sv_downC (i : Nat) {y : Str} {pos' cpos : Pos} (C : CalN X.prog X.w X.K X.mg X.base x k g) (hr : Room k X.A) (hg : Gl X x) (ha : AV X (e :: es) fs) (hN : X.N.Nodup) (hi : X.N[i]? = some y := by rfl) (hx : Loc X.env.scope y := by first | exact Or.inl rfl | exact Or.inr rfl) (hdb : (x == ("__debug__" : Str)) = false := by decide) (he : starEach (e :: es) X.env = (false, eval e X.env) :: starEach es X.env := by rfl)
    (hpl : (backTo cpos (starEach es X.env)).any (·.1) = false := by rfl) (hs : swapsWith (.Call (.Name x p) (e :: es) [] cpos) (some (.Name y pos')) pos.line X.env = pure false := by rfl)
    (hf : X.fn y = true ∨ X.env.scope.names.lookup y = some .local := by first | exact .inl rfl | exact .inr rfl | assumption) : SV X (.Assign [.Name y pos'] (.Call (.Name x p) (e :: es) [] cpos) pos) (sDOwn i fs g) := by
  obtain ⟨fa, fd, ps, F, hm, hk, hb⟩ := C.ex
  refine PS.imp (ps_set hN hi hx (pe_call F hr hg hm hk hb .nil pass0 ha hdb he hpl) hs hf) fun D σ H h => ?_
  obtain ⟨H₀, Z₀, Z, δ, r, hh, e0, q⟩ := h
  obtain ⟨as, e1, e0⟩ := bind_some e0
  obtain ⟨ds, e2, e0⟩ := bind_some e0
  cases e0
  exact ⟨H₀, Z₀, Z, δ, as, hh, e1, fun vs Z1 H1 hh1 s1 r1 => ⟨Z1, as, ds, hh1.zh, by rw [List.append_nil]; exact r1, e2, fun p us Z' H' n hp ru => q _ _ Z' ((hh1.new n).setW hp (.dct ru)) (s1.trans n.z)⟩⟩
theorem ev_dgetC (C : CalN X.prog X.w X.K X.mg X.base x k g) (hr : Room k X.A) (hg : Gl X x) (ha : AV X (e :: es) fs) (hb' : EV X b fk) (m : M1 X (.Call (.Name x p) (e :: es) [] pos) "get" apos b cpos) (hdb : (x == ("__debug__" : Str)) = false := by decide) (he : starEach (e :: es) X.env = (false, eval e X.env) :: starEach es X.env := by rfl)
    (hpl : (backTo pos (starEach es X.env)).any (·.1) = false := by rfl) : EV X (.Call (.Attribute (.Call (.Name x p) (e :: es) [] pos) "get" apos) [b] [] cpos) (oDGetC fs g fk) := by
  obtain ⟨fa, fd, ps, F, hm, hk, hb⟩ := C.ex
  refine PE.imp (pe_dget1 (un1 hr.units) (pe_call F hr hg hm hk hb .nil pass0 ha hdb he hpl) hb' m) fun σ H Q h => ?_
  obtain ⟨H₀, Z₀, Z, δ, d, hh, e0, q⟩ := h
  obtain ⟨as, e1, e0⟩ := bind_some e0
  obtain ⟨ds, e2, e0⟩ := bind_some e0
  obtain ⟨y, e3, e0⟩ := bind_some e0
  obtain ⟨ky, e4, e0⟩ := bind_some e0
  cases e0
  refine ⟨H₀, Z₀, Z, δ, as, hh, e1, fun vs Z1 H1 hh1 s1 r1 => ⟨Z1, as, ds, hh1.zh, by rw [List.append_nil]; exact r1, e2, fun p us Z' H' n hp ru => ?_⟩⟩
  have n2 := New.add (hh1.new n).zh hp (.dK us)
  refine ⟨p, rfl, .inl ⟨us, .inl upd_same⟩, H₀, Z₀, _, δ, y, (hh1.new n).new n2, e3, fun v Z2 H2 hh2 t2 r2 => ?_⟩
  obtain rfl := keyD_rep r2 e4
  have g4 : H2 p = some (.dK us) := hh2.zh _ _ (t2 _ _ upd_same)
  have tt := (s1.trans n.z).trans (n2.z.trans t2)
  rcases repK_get ky (repK_same ru (n2.z.trans t2)) with ⟨q1, q'⟩ | ⟨w, d', q1, q2, rw'⟩
  · refine ⟨none, q1 ▸ DGet.k g4, q .non Z2 H2 hh2 tt ?_⟩
    rw [q']; exact .non
  · refine ⟨some w, q1 ▸ DGet.k g4, q w Z2 H2 hh2 tt ?_⟩
    rw [q2]; exact rw'
end
section
variable {P : Program} {w : World} {K : PySem.W.Frag} {mg : Str → Option Value} {base h : Heap} {x y : Str} {st : Stmt} {ps : List Str} {k : Nat}
theorem DefIn.calN (D : DefIn K x y st) (X : K.In h) (G : h.Ns mainGlobals mg) (b : BindsAs y st ps) {g : List VL.D → Option (List (Key × VL.D))} (ok : ∀ f fd, FunV K y y st f fd .none → FnOk P w K mg base CX0 k f fd ps (spN K g)) : CalN P w K mg base x k g := by
  obtain ⟨f, fd, a, F, hk⟩ := D
  exact ⟨⟨_, _, _, ok f fd F, PySem.W.mg_of X G a, hk, F.binds b⟩⟩
end
end VL

set_option Elab.async false
set_option linter.all false
set_option maxRecDepth 100000
set_option maxHeartbeats 4000000
namespace MA
open PySem
/-! ### or, the twos that are shared -/
/-- the number of twos, bounded: what twos_shared tells -/
def twos (j most : Int) : Int := if j = 0 then most else if (Builtin.Int.intBits (Builtin.bitAnd j (-j)) : Int) - 1 < most then (Builtin.Int.intBits (Builtin.bitAnd j (-j)) : Int) - 1 else most
/-! ### sizes -/
theorem bits_le {a : Int} {m : Nat} (h : a.natAbs < 2 ^ m) : Builtin.Int.intBits a ≤ m := by
  unfold Builtin.Int.intBits
  split
  · exact Nat.zero_le _
  · rename_i h0
    have h0 : a ≠ 0 := by simpa using h0
    have : a.natAbs.log2 < m := (Nat.log2_lt (by omega)).mpr h
    omega
/-! ### four parts -/
structure Q4 where
  a : Int
  b : Int
  c : Int
  d : Int
namespace Q4
def add (x y : Q4) : Q4 := ⟨x.a + y.a, x.b + y.b, x.c + y.c, x.d + y.d⟩
/-- times the root of two -/
def rt (x : Q4) : Q4 := ⟨x.b - x.d, x.a + x.c, x.b + x.d, x.c - x.a⟩
/-- an eighth turn -/
def tn (x : Q4) : Q4 := ⟨-x.d, x.a, x.b, x.c⟩
def rtn : Nat → Q4 → Q4
  | 0, x => x
  | n + 1, x => rtn n (rt x)
end Q4
/-- what number tells -/
def num (x : Q4) (k : Int) : Q4 × Int :=
  let t := (twos (Builtin.bitOr (Builtin.bitOr (Builtin.bitOr x.a x.b) x.c) x.d) (k / 2)).toNat
  let y : Q4 := ⟨x.a / 2 ^ t, x.b / 2 ^ t, x.c / 2 ^ t, x.d / 2 ^ t⟩
  if k - 2 * t = 0 ∨ (y.a - y.c) % 2 = 1 ∨ (y.b - y.d) % 2 = 1 then (y, k - 2 * t) else (⟨(y.b - y.d) / 2, (y.a + y.c) / 2, (y.b + y.d) / 2, (y.c - y.a) / 2⟩, k - 2 * t - 1)
/-- the sum and the product, as the program tells them -/
def plusQ (x : Q4) (c : Int) (y : Q4) (d : Int) : Q4 × Int := num (Q4.add (Q4.rtn (max c d - c).toNat x) (Q4.rtn (max c d - d).toNat y)) (max c d)
/-- turned by eighths -/
def tnn : Nat → Q4 → Q4
  | 0, x => x
  | n + 1, x => Q4.tn (tnn n x)
/-! ### shares -/
structure S2 where
  p : Int
  q : Int
namespace S2
end S2
/-! ### states -/
abbrev Nu := Q4 × Nat
inductive Row where
  | swing (j : Nat) | turn (j : Nat) (e : Nat) | flip (j : Nat) | tie (i j : Nat) | sign (i j : Nat) | cross (i j : Nat)
def plusN (u v : Nu) : Nu := ((plusQ u.1 u.2 v.1 v.2).1, (plusQ u.1 u.2 v.1 v.2).2.toNat)
def halfN (u : Nu) : Nu := ((num u.1 ((u.2 + 1 : Nat) : Int)).1, (num u.1 ((u.2 + 1 : Nat) : Int)).2.toNat)
def turnN (e : Nat) (u : Nu) : Nu := (tnn (e % 8) u.1, u.2)
/-- what wire j's bit is worth -/
def wt (n j : Nat) : Nat := 2 ^ (n - 1 - j)
def bit (w p : Nat) : Nat := p / w % 2
def flp (w p : Nat) : Nat := if bit w p = 0 then p + w else p - w
/-- where a flip, a tie, a cross take the number from -/
def from_ (n : Nat) : Row → Nat → Nat
  | .flip j, p => flp (wt n j) p
  | .tie i j, p => if bit (wt n i) p = 0 then p else flp (wt n j) p
  | .cross i j, p => if bit (wt n i) p = bit (wt n j) p then p else flp (wt n j) (flp (wt n i) p)
  | _, p => p
def doneAt (n : Nat) (f : Nat → Nu) : Row → Nat → Nu
  | .swing j, p => if bit (wt n j) p = 0 then halfN (plusN (f p) (f (p + wt n j))) else halfN (plusN (f (p - wt n j)) (turnN 4 (f p)))
  | .turn j e, p => turnN (e * bit (wt n j) p) (f p)
  | .sign i j, p => turnN (4 * bit (wt n i) p * bit (wt n j) p) (f p)
  | r, p => f (from_ n r p)
def Row.ok (n : Nat) : Row → Prop
  | .swing j => j < n
  | .turn j e => j < n ∧ 1 ≤ e ∧ e ≤ 7
  | .flip j => j < n
  | .tie i j => i < n ∧ j < n ∧ i ≠ j
  | .sign i j => i < n ∧ j < n ∧ i ≠ j
  | .cross i j => i < n ∧ j < n ∧ i ≠ j
/-! ### bits of a whole number -/
/-- how many bits are 1 -/
def cnt (n : Nat) : Nat := if n = 0 then 0 else n % 2 + cnt (n / 2)
termination_by n
decreasing_by omega
/-- is an odd number of bits 1? -/
def par (n : Nat) : Nat := cnt n % 2
/-! ### words -/
structure Wd where
  x : Nat
  z : Nat
  s : Nat
def wtimes (u v : Wd) : Wd := ⟨u.x ^^^ v.x, u.z ^^^ v.z, (u.s + v.s + 2 * par (u.z &&& v.x)) % 4⟩
/-! ### shapes: == of a thing with itself -/
/-! ### all numbers over one great r**M -/
/-! ### sums over places -/
/-! ### the whole and the inner number stay -/
/-! ### inner numbers -/
/-! ### columns: the state of a sum is the sum of the states -/
end MA
namespace GN
open PySem L2 VL
def top (i : Nat) : Stmt := PySem.Challenge.pw_wavewires_k19_texts_refused.main.body.getD i (.Pass ⟨0, 0, 0, 0⟩)
def tt_HasLooks : List (Str × Bool) := [("BadRow", false)]
def tt_NoStep : List (Str × Bool) := [("BadRow", false)]
def tt_TooGreat : List (Str × Bool) := [("BadRow", false)]
def tt_UnlikeWires : List (Str × Bool) := [("BadRow", false)]
def tt_BadRow : List (Str × Bool) := [("BadRow", true)]
def tt_ValueError : List (Str × Bool) := [("BadRow", true)]
def hs_WaveError : List Str := ["BadRow"]
abbrev s_BadRow____init__ : Stmt := inClassV (top 6) 0
abbrev s_row_shown : Stmt := top 11
abbrev N_row_shown : List Str := ["row", "words"]
def p1_row_shown : Dv → Option D := oComp (oI (oV 1) itsD) [] bv1 (os (oCons (oV 0) (oNil)) strD)
def b_row_shown : Sf := sSeq (sSet 1 (oIf (ob (o2 (o2 (oV 0) (oC (.int 0)) ixD) (oC (.str "where")) eqD)) (o2 (oSl (oV 0) (oNo) (oP (oC (.int 2)))) (o2 (oV 0) (oC (.int 2)) ixD) addD) (oV 0))) (sRet (o2 (oC (.str " ")) (p1_row_shown) joinD))
def g_row_shown : List D → Option D := runB N_row_shown 1 b_row_shown
abbrev s_wires_rows : Stmt := top 12
abbrev N_wires_rows : List Str := []
def p1_wires_rows : Dv → Option D := oComp (oL (oCons (oC (.int 1)) (oCons (o2 (oC (.int 6)) (oC (.int 1)) addD) (oNil))) rng2D) [] bv1 (os (oCons (oC (.str "wires")) (oCons (oV 0) (oNil))) tupD)
def b_wires_rows : Sf := sRet (p1_wires_rows)
def g_wires_rows : List D → Option D := runB N_wires_rows 0 b_wires_rows
abbrev s_rows_at : Stmt := top 13
abbrev N_rows_at : List Str := ["wire", "wires", "rows", "mark", "other"]
def p1_rows_at : Dv → Option D := oComp (oL (oCons (oC (.int 1)) (oCons (oC (.int 8)) (oNil))) rng2D) [(0, "wire")] bv1 (os (oCons (oC (.str "turn")) (oCons (oV 1) (oCons (oV 0) (oNil)))) tupD)
def l1_rows_at : Sf := sExtL 2 (os (oCons (os (oCons (oC (.str "where")) (oCons (oV 3) (oCons (os (oCons (oC (.str "flip")) (oCons (oV 0) (oNil))) tupD) (oNil)))) tupD) (oCons (os (oCons (oC (.str "where")) (oCons (oV 3) (oCons (os (oCons (oC (.str "turn")) (oCons (oV 0) (oCons (oC (.int 4)) (oNil)))) tupD) (oNil)))) tupD) (oNil))) lstD)
def l2_rows_at : Sf := sIf (ob (o2 (oV 4) (oV 0) neD)) (sExtL 2 (os (oCons (os (oCons (oC (.str "tie")) (oCons (oV 0) (oCons (oV 4) (oNil)))) tupD) (oCons (os (oCons (oC (.str "sign")) (oCons (oV 0) (oCons (oV 4) (oNil)))) tupD) (oCons (os (oCons (oC (.str "cross")) (oCons (oV 0) (oCons (oV 4) (oNil)))) tupD) (oNil)))) lstD)) (sNx)
def b_rows_at : Sf := sSeq (sOwn 2 (oCons (os (oCons (oC (.str "swing")) (oCons (oV 0) (oNil))) tupD) (oCons (os (oCons (oC (.str "flip")) (oCons (oV 0) (oNil))) tupD) (oCons (os (oCons (oC (.str "look")) (oCons (oV 0) (oNil))) tupD) (oNil))))) (sSeq (sExtL 2 (p1_rows_at)) (sSeq (sFor (oL (oCons (oC (.int 6)) (oNil)) rng1D) (gN 3) (l1_rows_at)) (sSeq (sFor (oL (oCons (oV 1) (oNil)) rng1D) (gN 4) (l2_rows_at)) (fun δ => (sRet (oV 2)) (dFz 2 δ)))))
def g_rows_at : List D → Option D := runB N_rows_at 2 b_rows_at
abbrev s_rows_over : Stmt := top 14
abbrev N_rows_over : List Str := ["wires", "rows", "wire"]
def l1_rows_over : Sf := sExtL 1 (os (oCons (oV 2) (oCons (oV 0) (oNil))) g_rows_at)
def b_rows_over : Sf := sSeq (sOwn 1 (oNil)) (sSeq (sFor (oL (oCons (oV 0) (oNil)) rng1D) (gN 2) (l1_rows_over)) (fun δ => (sRet (oV 1)) (dFz 1 δ)))
def g_rows_over : List D → Option D := runB N_rows_over 1 b_rows_over
abbrev s_by_text : Stmt := top 15
abbrev N_by_text : List Str := ["rows", "told", "row"]
def l1_by_text : Sf := sDPutE 1 (os (oCons (oV 2) (oNil)) g_row_shown) (oV 2)
def b_by_text : Dv → Option (List (Key × D)) := sqN (sDNew 1) (sqN (sFor (oI (oV 0) itsD) (gN 2) (l1_by_text)) (oOd 1))
def gn_by_text : List D → Option (List (Key × D)) := runDN N_by_text 1 b_by_text
abbrev s_may_stand : Stmt := top 16
abbrev N_may_stand : List Str := ["row", "looks"]
def b_may_stand : Sf := sSeq (sIf (ob (o2 (o2 (oV 0) (oC (.int 0)) ixD) (oC (.str "look")) eqD)) (sRet (o2 (oV 1) (oC (.int 6)) ltD)) (sNx)) (sRet (oOrV (o2 (o2 (oV 0) (oC (.int 0)) ixD) (oC (.str "where")) neD) (o2 (o2 (oV 0) (oC (.int 1)) ixD) (oV 1) ltD)))
def g_may_stand : List D → Option D := runB N_may_stand 2 b_may_stand
abbrev s_rows_read : Stmt := top 17
abbrev N_rows_read : List Str := ["texts", "wires", "known", "rows", "looks", "text", "row"]
def l1_rows_read : Sf := sSeq (sSet 6 (oDGet1 2 (oV 5))) (sSeq (sIf (oOr (ob (o2 (oV 6) (oC .none) isD)) (oOr (ob (o2 (oLenO 3) (oC (.int 60)) eqD)) (oNot (ob (os (oCons (oV 6) (oCons (oV 4) (oNil))) g_may_stand))))) (sNo) (sNx)) (sSeq (sApp 3 (oV 6)) (sIf (ob (o2 (o2 (oV 6) (oC (.int 0)) ixD) (oC (.str "look")) eqD)) (sSet 4 (o2 (oV 4) (oC (.int 1)) addD)) (sNx))))
def b_rows_read : Sf := sSeq (sDOwn 2 (oCons (os (oCons (oV 1) (oNil)) g_rows_over) (oNil)) gn_by_text) (sSeq (sOwn 3 (oNil)) (sSeq (sSet 4 (oC (.int 0))) (sSeq (sFor (oI (oV 0) itsD) (gN 5) (l1_rows_read)) (fun δ => (sRet (os (oCons (oV 3) (oNil)) tupleD)) (dFz 3 δ)))))
def g_rows_read : List D → Option D := runB N_rows_read 2 b_rows_read
def bx_rows_read : Xf := xSeq (sDOwn 2 (oCons (os (oCons (oV 1) (oNil)) g_rows_over) (oNil)) gn_by_text) (xSeq (sOwn 3 (oNil)) (xSeq (sSet 4 (oC (.int 0))) (xFor (oI (oV 0) itsD) (gN 5) (l1_rows_read) (xSeq (sSet 6 (oDGet1 2 (oV 5))) (xIf (oOr (ob (o2 (oV 6) (oC .none) isD)) (oOr (ob (o2 (oLenO 3) (oC (.int 60)) eqD)) (oNot (ob (os (oCons (oV 6) (oCons (oV 4) (oNil))) g_may_stand))))) (xRaiseK "BadRow" (o2 (oLenO 3) (oC (.int 2)) addD)) (xNo))))))
def x_rows_read : List D → Option Xn := runX N_rows_read 2 bx_rows_read
abbrev s_read : Stmt := top 18
abbrev N_read : List Str := ["text", "texts", "first"]
def b_read : Sf := sSeq (sSet 1 (o2 (oV 0) (oC (.str "\n")) splitD)) (sSeq (sSet 2 (oDGetC (oCons (os oNil g_wires_rows) (oNil)) gn_by_text (o2 (oV 1) (oC (.int 0)) ixD))) (sSeq (sIf (ob (o2 (oV 2) (oC .none) isD)) (sNo) (sNx)) (sRet (os (oCons (o2 (oV 2) (oC (.int 1)) ixD) (oCons (os (oCons (oSl (oV 1) (oP (oC (.int 1))) (oNo)) (oCons (o2 (oV 2) (oC (.int 1)) ixD) (oNil))) g_rows_read) (oNil))) tupD))))
def g_read : List D → Option D := runB N_read 1 b_read
def bx_read : Xf := xSeq (sSet 1 (o2 (oV 0) (oC (.str "\n")) splitD)) (xSeq (sSet 2 (oDGetC (oCons (os oNil g_wires_rows) (oNil)) gn_by_text (o2 (oV 1) (oC (.int 0)) ixD))) (xBoth (xIf (ob (o2 (oV 2) (oC .none) isD)) (xRaiseK "BadRow" (oC (.int 1))) (xNo)) (sIf (ob (o2 (oV 2) (oC .none) isD)) (sNo) (sNx)) (xE (xThen (o2 (oV 2) (oC (.int 1)) ixD) (osX (oCons (oSl (oV 1) (oP (oC (.int 1))) (oNo)) (oCons (o2 (oV 2) (oC (.int 1)) ixD) (oNil))) x_rows_read)))))
def x_read : List D → Option Xn := runX N_read 1 bx_read
abbrev s__law_cell : Stmt := top 20
abbrev N__law_cell : List Str := ["script", "k"]
def b__law_cell : Sf := sSeq (sIf (ob (o2 (oV 1) (os (oCons (oV 0) (oNil)) lenD) ltD)) (sRet (o2 (oV 0) (oV 1) ixD)) (sNx)) (sRet (oC (.int 0)))
def g__law_cell : List D → Option D := runB N__law_cell 2 b__law_cell
abbrev s__law_turn : Stmt := top 21
abbrev N__law_turn : List Str := ["cell", "prime", "near"]
def b__law_turn : Sf := sSeq (sSet 2 (o2 (oV 0) (oC (.int 1000003)) modD)) (sRet (o2 (o2 (o2 (oV 2) (oC (.int 11)) addD) (o2 (oV 2) (oC (.int 48271)) addD) mulI) (oV 1) modD))
def g__law_turn : List D → Option D := runB N__law_turn 2 b__law_turn
abbrev s__law_row : Stmt := top 22
abbrev N__law_row : List Str := ["cell", "wires", "looks", "plain", "seed", "j", "i"]
def b__law_row : Sf := sSeq (sSet 4 (o2 (os (oCons (oV 0) (oCons (oC (.int 2147483647)) (oNil))) g__law_turn) (oC (.int 7)) divD)) (sSeq (sSet 5 (o2 (o2 (oV 4) (oC (.int 16)) divD) (oV 1) modD)) (sSeq (sSet 6 (o2 (o2 (o2 (oV 5) (oC (.int 1)) addD) (o2 (o2 (oV 4) (oC (.int 96)) divD) (os (oCons (oC (.int 1)) (oCons (o2 (oV 1) (oC (.int 1)) subD) (oNil))) maxD) modD) addD) (oV 1) modD)) (sSeq (sIf (ob (o2 (o2 (oV 0) (oC (.int 16)) modD) (oC (.int 4)) ltD)) (sRet (os (oCons (oC (.str "swing")) (oCons (oV 5) (oNil))) tupD)) (sNx)) (sSeq (sIf (ob (o2 (o2 (oV 0) (oC (.int 16)) modD) (oC (.int 7)) ltD)) (sRet (os (oCons (oC (.str "turn")) (oCons (oV 5) (oCons (o2 (oC (.int 1)) (o2 (o2 (oV 4) (oC (.int 600)) divD) (oC (.int 7)) modD) addD) (oNil)))) tupD)) (sNx)) (sSeq (sIf (oAnd (ob (oCh (oC (.int 7)) (o2 (oV 0) (oC (.int 16)) modD) (oC (.int 13)) ltD ltD)) (ob (o2 (oV 1) (oC (.int 1)) gtD))) (sRet (os (oCons (o2 (os (oCons (oC (.str "tie")) (oCons (oC (.str "sign")) (oCons (oC (.str "cross")) (oCons (oC (.str "tie")) (oCons (oC (.str "sign")) (oNil)))))) lstD) (o2 (o2 (oV 0) (oC (.int 16)) modD) (oC (.int 8)) subD) ixD) (oCons (oV 6) (oCons (oV 5) (oNil)))) tupD)) (sNx)) (sSeq (sIf (oOr (ob (o2 (o2 (oV 0) (oC (.int 16)) modD) (oC (.int 7)) eqD)) (ob (oV 3))) (sRet (os (oCons (oC (.str "flip")) (oCons (oV 5) (oNil))) tupD)) (sNx)) (sSeq (sIf (oAnd (ob (o2 (oV 2) (oC (.int 6)) ltD)) (oOr (ob (o2 (o2 (oV 0) (oC (.int 16)) modD) (oC (.int 14)) ltD)) (ob (o2 (oV 2) (oC (.int 0)) eqD)))) (sRet (os (oCons (oC (.str "look")) (oCons (oV 5) (oNil))) tupD)) (sNx)) (sSeq (sIf (ob (o2 (oV 2) (oC (.int 0)) eqD)) (sRet (os (oCons (oC (.str "swing")) (oCons (oV 5) (oNil))) tupD)) (sNx)) (sRet (os (oCons (oC (.str "where")) (oCons (o2 (o2 (oV 4) (oC (.int 4200)) divD) (oV 2) modD) (oCons (o2 (os (oCons (os (oCons (oC (.str "flip")) (oCons (oV 5) (oNil))) tupD) (oCons (os (oCons (oC (.str "turn")) (oCons (oV 5) (oCons (oC (.int 4)) (oNil)))) tupD) (oNil))) lstD) (o2 (o2 (oV 4) (oC (.int 29400)) divD) (oC (.int 2)) modD) ixD) (oNil)))) tupD))))))))))
def g__law_row : List D → Option D := runB N__law_row 4 b__law_row
abbrev s__law_circuit : Stmt := top 23
abbrev N__law_circuit : List Str := ["cells", "wires", "plain", "rows", "looks", "cell", "row"]
def l1__law_circuit : Sf := sSeq (sSet 6 (os (oCons (oV 5) (oCons (oV 1) (oCons (oV 4) (oCons (oV 2) (oNil))))) g__law_row)) (sSeq (sSet 4 (o2 (oV 4) (os (oCons (o2 (o2 (oV 6) (oC (.int 0)) ixD) (oC (.str "look")) eqD) (oNil)) intD) addD)) (sApp 3 (oV 6)))
def b__law_circuit : Sf := sSeq (sOwn 3 (oNil)) (sSeq (sSet 4 (oC (.int 0))) (sSeq (sFor (oI (oV 0) itsD) (gN 5) (l1__law_circuit)) (fun δ => (sRet (os (oCons (oV 1) (oCons (os (oCons (oV 3) (oNil)) tupleD) (oNil))) tupD)) (dFz 3 δ))))
def g__law_circuit : List D → Option D := runB N__law_circuit 3 b__law_circuit
abbrev s__law_words : Stmt := top 24
abbrev N__law_words : List Str := ["row"]
def p1__law_words (G : List D → Option D) : Dv → Option D := oComp (oI (oSl (oV 0) (oP (oC (.int 1))) (oNo)) itsD) [] bv1 (os (oCons (oV 0) (oNil)) strD)
def b__law_words (G : List D → Option D) : Sf := sSeq (sIf (ob (o2 (o2 (oV 0) (oC (.int 0)) ixD) (oC (.str "where")) eqD)) (sRet (o2 (os (oCons (oC (.str "where")) (oCons (os (oCons (o2 (oV 0) (oC (.int 1)) ixD) (oNil)) strD) (oNil))) lstD) (os (oCons (o2 (oV 0) (oC (.int 2)) ixD) (oNil)) G) addD)) (sNx)) (sRet (o2 (os (oCons (o2 (oV 0) (oC (.int 0)) ixD) (oNil)) lstD) (p1__law_words G) addD))
def r__law_words : Nat → List D → Option D
  | 0 => runB N__law_words 1 (fun _ => none)
  | m + 1 => runB N__law_words 1 (b__law_words (r__law_words m))
def g__law_words : List D → Option D := r__law_words 8
abbrev s__law_first_bad : Stmt := top 25
abbrev N__law_first_bad : List Str := ["cell", "texts"]
def b__law_first_bad : Sf := sSeq (sSet 1 (os (oCons (oC (.str "")) (oCons (oC (.str "wires")) (oCons (oC (.str "wires 0")) (oCons (oC (.str "wires 7")) (oCons (oC (.str "wires 03")) (oCons (oC (.str "wires +3")) (oCons (oC (.str "wires 3 ")) (oCons (oC (.str " wires 3")) (oCons (oC (.str "Wires 3")) (oCons (oC (.str "wires 3 3")) (oNil))))))))))) lstD)) (sSeq (sSet 1 (o2 (oV 1) (os (oCons (oC (.str "wires three")) (oCons (oC (.str "wire 3")) (oCons (oC (.str "wires  3")) (oCons (oC (.str "swing 0")) (oCons (oC (.str "wires 1_0")) (oCons (oC (.str "wires -1")) (oCons (oC (.str "wires 3.")) (oCons (oC (.str "3")) (oNil))))))))) lstD) addD)) (sRet (o2 (oV 1) (o2 (oV 0) (os (oCons (oV 1) (oNil)) lenD) modD) ixD)))
def g__law_first_bad : List D → Option D := runB N__law_first_bad 1 b__law_first_bad
abbrev s__law_number_bad : Stmt := top 26
abbrev N__law_number_bad : List Str := ["cell", "texts"]
def b__law_number_bad : Sf := sSeq (sSet 1 (os (oCons (oC (.str "6")) (oCons (oC (.str "7")) (oCons (oC (.str "9")) (oCons (oC (.str "-1")) (oCons (oC (.str "+1")) (oCons (oC (.str "01")) (oCons (oC (.str "00")) (oCons (oC (.str "1_0")) (oCons (oC (.str "10")) (oCons (oC (.str "")) (oCons (oC (.str "a")) (oCons (oC (.str "0.")) (oCons (oC (.str "1000000000000000000000")) (oCons (oC (.str "\t0")) (oNil))))))))))))))) lstD)) (sRet (o2 (oV 1) (o2 (oV 0) (os (oCons (oV 1) (oNil)) lenD) modD) ixD))
def g__law_number_bad : List D → Option D := runB N__law_number_bad 1 b__law_number_bad
abbrev s__law_shape_bad : Stmt := top 27
abbrev N__law_shape_bad : List Str := ["cell", "texts"]
def b__law_shape_bad : Sf := sSeq (sSet 1 (os (oCons (oC (.str "")) (oCons (oC (.str " ")) (oCons (oC (.str "swing")) (oCons (oC (.str "swing 0 0")) (oCons (oC (.str "Swing 0")) (oCons (oC (.str "swing  0")) (oCons (oC (.str "swing 0 ")) (oCons (oC (.str " swing 0")) (oCons (oC (.str "flip")) (oCons (oC (.str "flip 0 1 2")) (oCons (oC (.str "look")) (oNil)))))))))))) lstD)) (sSeq (sSet 1 (o2 (oV 1) (os (oCons (oC (.str "turn 0")) (oCons (oC (.str "turn 0 0")) (oCons (oC (.str "turn 0 8")) (oCons (oC (.str "turn 0 9")) (oCons (oC (.str "turn 0 -1")) (oCons (oC (.str "turn 0 1 1")) (oCons (oC (.str "turn 0 +1")) (oCons (oC (.str "turn 0 04")) (oNil))))))))) lstD) addD)) (sSeq (sSet 1 (o2 (oV 1) (os (oCons (oC (.str "tie 0")) (oCons (oC (.str "tie 0 0")) (oCons (oC (.str "sign 0 0")) (oCons (oC (.str "cross 0 0")) (oCons (oC (.str "sign 0")) (oCons (oC (.str "cross 0 1 1")) (oCons (oC (.str "where 0")) (oCons (oC (.str "where 0 flip")) (oNil))))))))) lstD) addD)) (sSeq (sSet 1 (o2 (oV 1) (os (oCons (oC (.str "where 6 flip 0")) (oCons (oC (.str "where flip 0")) (oCons (oC (.str "where 0 swing 0")) (oCons (oC (.str "where 0 turn 0 3")) (oCons (oC (.str "where 0 turn 0")) (oNil)))))) lstD) addD)) (sSeq (sSet 1 (o2 (oV 1) (os (oCons (oC (.str "where 0 turn 0 4 4")) (oCons (oC (.str "where 0 look 0")) (oCons (oC (.str "where -1 flip 0")) (oCons (oC (.str "wires 3")) (oCons (oC (.str "swim 0")) (oCons (oC (.str "0")) (oCons (oC (.str "swing\t0")) (oNil)))))))) lstD) addD)) (sRet (o2 (oV 1) (o2 (oV 0) (os (oCons (oV 1) (oNil)) lenD) modD) ixD))))))
def g__law_shape_bad : List D → Option D := runB N__law_shape_bad 1 b__law_shape_bad
abbrev s__law_bad : Stmt := top 28
abbrev N__law_bad : List Str := ["cell", "word", "way"]
def b__law_bad : Sf := sSeq (sSet 1 (os (oCons (o2 (oV 0) (oC (.int 9)) divD) (oNil)) g__law_number_bad)) (sSeq (sSet 2 (o2 (oV 0) (oC (.int 9)) modD)) (sSeq (sIf (ob (o2 (oV 2) (oC (.int 4)) ltD)) (sRet (os (oCons (o2 (oV 0) (oC (.int 9)) divD) (oNil)) g__law_shape_bad)) (sNx)) (sSeq (sIf (ob (o2 (oV 2) (oC (.int 4)) eqD)) (sRet (o2 (o2 (os (oCons (oC (.str "swing ")) (oCons (oC (.str "flip ")) (oCons (oC (.str "look ")) (oNil)))) lstD) (o2 (o2 (oV 0) (oC (.int 126)) divD) (oC (.int 3)) modD) ixD) (oV 1) addD)) (sNx)) (sSeq (sIf (ob (o2 (oV 2) (oC (.int 5)) eqD)) (sRet (o2 (o2 (oC (.str "turn ")) (oV 1) addD) (oC (.str " 1")) addD)) (sNx)) (sSeq (sIf (ob (o2 (oV 2) (oC (.int 6)) eqD)) (sRet (o2 (o2 (o2 (os (oCons (oC (.str "tie ")) (oCons (oC (.str "sign ")) (oCons (oC (.str "cross ")) (oNil)))) lstD) (o2 (o2 (oV 0) (oC (.int 126)) divD) (oC (.int 3)) modD) ixD) (oV 1) addD) (oC (.str " 0")) addD)) (sNx)) (sSeq (sIf (ob (o2 (oV 2) (oC (.int 7)) eqD)) (sRet (o2 (o2 (o2 (os (oCons (oC (.str "tie ")) (oCons (oC (.str "sign ")) (oCons (oC (.str "cross ")) (oNil)))) lstD) (o2 (o2 (oV 0) (oC (.int 126)) divD) (oC (.int 3)) modD) ixD) (oC (.str "0 ")) addD) (oV 1) addD)) (sNx)) (sRet (o2 (o2 (oC (.str "where ")) (oV 1) addD) (o2 (os (oCons (oC (.str " flip 0")) (oCons (oC (.str " turn 0 4")) (oNil))) lstD) (o2 (o2 (oV 0) (oC (.int 126)) divD) (oC (.int 2)) modD) ixD) addD))))))))
def g__law_bad : List D → Option D := runB N__law_bad 1 b__law_bad
abbrev s__law_refused_at : Stmt := top 29
abbrev N__law_refused_at : List Str := ["text", "e", "others"]
def b__law_refused_at : Sf := sSeq (sTry 1 hs_WaveError (sDrop (os (oCons (oV 0) (oNil)) g_read)) (xE (osX (oCons (oV 0) (oNil)) x_read)) (sSeq (sSet 2 (os (oCons (o1 (oV 1) (isxD tt_HasLooks)) (oCons (o1 (oV 1) (isxD tt_NoStep)) (oCons (o1 (oV 1) (isxD tt_TooGreat)) (oCons (o1 (oV 1) (isxD tt_UnlikeWires)) (oNil))))) lstD)) (sSeq (sIf (oOr (oNot (ob (o1 (oV 1) (isxD tt_BadRow)))) (oOr (oNot (ob (o1 (oV 1) (isxD tt_ValueError)))) (ob (o2 (oC (.bool true)) (oV 2) (inD false))))) (sRet (o1 (oC (.int 1)) negD)) (sNx)) (sSeq (sIf (oOr (oNot (ob (o1 (o1 (oV 1) (rowXs ["BadRow"])) (isiD "int")))) (ob (o1 (o1 (oV 1) (rowXs ["BadRow"])) (isiD "bool")))) (sRet (o1 (oC (.int 1)) negD)) (sNx)) (sRet (o1 (oV 1) (rowXs ["BadRow"]))))))) (sRet (oC (.int 0)))
def g__law_refused_at : List D → Option D := runB N__law_refused_at 1 b__law_refused_at
abbrev s__law_spoilt : Stmt := top 30
abbrev N__law_spoilt : List Str := ["texts", "cell", "other", "wires", "at", "bad", "keep", "spoilt"]
def p1__law_spoilt : Dv → Option D := oCompI (oI (oSl (oV 0) (oNo) (oP (oV 4))) itsD) [] bv1 (ob (o2 (oSlS (oV 0) (oNo) (oP (oC (.int 4)))) (oC (.str "look")) eqD)) (oV 0)
def b__law_spoilt : Sf := sSeq (sSet 4 (o2 (oV 1) (os (oCons (oV 0) (oNil)) lenD) modD)) (sSeq (sSet 5 (os (oCons (o2 (oV 1) (oC (.int 61)) divD) (oNil)) g__law_bad)) (sSeq (sIf (ob (o2 (o2 (o2 (oV 2) (oC (.int 8)) divD) (oC (.int 4)) modD) (oC (.int 1)) eqD)) (sSet 5 (o2 (o2 (os (oCons (oC (.str "swing ")) (oCons (oC (.str "flip ")) (oCons (oC (.str "look ")) (oNil)))) lstD) (o2 (o2 (oV 1) (oC (.int 61)) divD) (oC (.int 3)) modD) ixD) (os (oCons (oV 3) (oNil)) strD) addD)) (sNx)) (sSeq (sIf (ob (o2 (o2 (o2 (oV 2) (oC (.int 8)) divD) (oC (.int 4)) modD) (oC (.int 2)) eqD)) (sSet 5 (o2 (o2 (oC (.str "where ")) (os (oCons (os (oCons (p1__law_spoilt) (oNil)) lenD) (oNil)) strD) addD) (oC (.str " flip 0")) addD)) (sNx)) (sSeq (sIf (ob (o2 (oV 4) (oC (.int 0)) eqD)) (sSet 5 (os (oCons (o2 (oV 1) (oC (.int 61)) divD) (oNil)) g__law_first_bad)) (sNx)) (sSeq (sSet 6 (o2 (o2 (oV 1) (oC (.int 61)) divD) (oC (.int 2)) modD)) (sSeq (sOwnE 7 (oLi (o2 (o2 (oSl (oV 0) (oNo) (oP (oV 4))) (os (oCons (oV 5) (oNil)) lstD) addD) (oSl (oV 0) (oP (o2 (o2 (oV 4) (oC (.int 1)) addD) (o2 (oV 6) (os (oCons (o2 (oV 4) (oC (.int 0)) gtD) (oNil)) intD) mulI) subD)) (oNo)) addD))) (sSeq (sIf (ob (o2 (o2 (oV 2) (oC (.int 4)) modD) (oC (.int 1)) eqD)) (sApp 7 (os (oCons (o2 (oV 2) (oC (.int 4)) divD) (oNil)) g__law_bad)) (sNx)) (fun δ => (sRet (os (oCons (oV 7) (oCons (o2 (oV 4) (oC (.int 1)) addD) (oNil))) tupD)) (dFz 7 δ)))))))))
def g__law_spoilt : List D → Option D := runB N__law_spoilt 4 b__law_spoilt
abbrev s_law : Stmt := top 31
abbrev N_law : List Str := ["script", "wires", "head", "circuit", "texts", "due", "looks", "spoilt"]
def p1_law : Dv → Option D := oComp (oI (o2 (oV 3) (oC (.int 1)) ixD) itsD) [] bv1 (o2 (oC (.str " ")) (os (oCons (oV 0) (oNil)) g__law_words) joinD)
def p2_law : Dv → Option D := oCompI (oI (oSl (o2 (oV 3) (oC (.int 1)) ixD) (oNo) (oP (oC (.int 53)))) itsD) [] bv1 (ob (o2 (o2 (oV 0) (oC (.int 0)) ixD) (oC (.str "look")) eqD)) (oV 0)
def b_law : Sf := sSeq (sSet 1 (o2 (oC (.int 1)) (o2 (os (oCons (oV 0) (oCons (oC (.int 0)) (oNil))) g__law_cell) (oC (.int 6)) modD) addD)) (sSeq (sSet 2 (os (oCons (oV 0) (oCons (oC (.int 1)) (oNil))) g__law_cell)) (sSeq (sSet 3 (os (oCons (oSl (oV 0) (oP (oC (.int 3))) (oP (oC (.int 63)))) (oCons (oV 1) (oCons (o2 (o2 (oV 2) (oC (.int 2)) modD) (oC (.int 0)) eqD) (oNil)))) g__law_circuit)) (sSeq (sSet 4 (o2 (os (oCons (o2 (oC (.str "wires ")) (os (oCons (oV 1) (oNil)) strD) addD) (oNil)) lstD) (p1_law) addD)) (sSeq (sIf (ob (o2 (os (oCons (o2 (oC (.str "\n")) (oV 4) joinD) (oNil)) g__law_refused_at) (oC (.int 0)) neD)) (sRet (oC (.bool false))) (sNx)) (sSeq (sSet 5 (oC (.int 0))) (sSeq (sIf (ob (o2 (o2 (o2 (oV 2) (oC (.int 2)) divD) (oC (.int 6)) modD) (oC (.int 1)) eqD)) (sSeq (sSet 4 (o2 (oSl (o2 (oV 4) (o2 (os (oCons (oC (.str "flip 0")) (oNil)) lstD) (oC (.int 60)) mulL) addD) (oNo) (oP (oC (.int 61)))) (oSl (os (oCons (oC (.str "swing 0")) (oCons (oC (.str "flip")) (oNil))) lstD) (oNo) (oP (o2 (oC (.int 1)) (o2 (o2 (oV 2) (oC (.int 12)) divD) (oC (.int 2)) modD) addD))) addD)) (sSet 5 (oC (.int 62)))) (sIf (ob (o2 (o2 (o2 (oV 2) (oC (.int 2)) divD) (oC (.int 6)) modD) (oC (.int 2)) eqD)) (sSeq (sSet 4 (o2 (oSl (oV 4) (oNo) (oP (oC (.int 54)))) (o2 (os (oCons (oC (.str "look 0")) (oNil)) lstD) (oC (.int 7)) mulL) addD)) (sSeq (sSet 6 (os (oCons (p2_law) (oNil)) lenD)) (sSet 5 (o2 (o2 (os (oCons (oC (.int 54)) (oCons (o2 (os (oCons (o2 (oV 3) (oC (.int 1)) ixD) (oNil)) lenD) (oC (.int 1)) addD) (oNil))) minD) (oC (.int 7)) addD) (oV 6) subD)))) (sSeq (sSet 7 (os (oCons (oV 4) (oCons (o2 (os (oCons (oV 0) (oCons (oC (.int 2)) (oNil))) g__law_cell) (o2 (oC (.int 10)) (oC (.int 12)) powD) modD) (oCons (o2 (oV 2) (oC (.int 12)) divD) (oCons (oV 1) (oNil))))) g__law_spoilt)) (sSeq (sSet 4 (o2 (oV 7) (oC (.int 0)) ixD)) (sSet 5 (o2 (oV 7) (oC (.int 1)) ixD)))))) (sRet (o2 (os (oCons (o2 (oC (.str "\n")) (oV 4) joinD) (oNil)) g__law_refused_at) (oV 5) eqD))))))))
def g_law : List D → Option D := runB N_law 1 b_law

open MA (Nu Row wt bit flp from_ doneAt Wd par wtimes)
theorem nseq {s t : Sf} {δ δ' : Dv} (h : s δ = some (.nx, δ')) : sSeq s t δ = t δ' := by simp only [sSeq, h, Option.bind_some]
theorem nrun {N : List Str} {n : Nat} {b : Sf} {as : List D} {d : D} {δ' : Dv} (hl : as.length = n) (h : b (startD N as) = some (.rt d, δ')) : runB N n b as = some d := by unfold runB; rw [if_pos hl, h]; rfl
@[simp] theorem ifK_beq (u w : Sf) (δ : Dv) (a b : Int) : ifK u w δ (a == b) = if a = b then u δ else w δ := by
  by_cases h : a = b
  · subst h; simp
  · have : (a == b) = false := by simpa using h
    rw [this, if_neg h]; rfl
theorem mapO_map {α : Type} {f : D → Option D} {h k : α → D} : ∀ (xs : List α), (∀ x ∈ xs, f (h x) = some (k x)) → mapO f (xs.map h) = some (xs.map k)
  | [], _ => rfl
  | x :: xs, H => by
    show ((f (h x)).bind fun y => _) = _
    rw [H x List.mem_cons_self]
    show ((mapO f (xs.map h)).bind fun ys => _) = _
    rw [mapO_map xs fun y hy => H y (List.mem_cons_of_mem _ hy)]
    rfl
theorem filO_map {α : Type} {t : D → Option Bool} {f : D → Option D} {h k : α → D} {b : α → Bool} : ∀ (xs : List α), (∀ x ∈ xs, t (h x) = some (b x)) → (∀ x ∈ xs, b x = true → f (h x) = some (k x)) → filO t f (xs.map h) = some ((xs.filter b).map k)
  | [], _, _ => rfl
  | x :: xs, H, G => by
    have ih := filO_map (k := k) xs (fun y hy => H y (List.mem_cons_of_mem _ hy)) (fun y hy => G y (List.mem_cons_of_mem _ hy))
    show ((t (h x)).bind fun c => _) = _
    rw [H x List.mem_cons_self, Option.bind_some]
    cases e : b x with
    | false => simp [e, ih]
    | true => simp [e, ih, G x List.mem_cons_self e]
theorem comp_map {α : Type} {fi : Dv → Option (List D)} {caps : List (Nat × Str)} {fe : Dv → Option D} {δ : Dv} {h k : α → D} {xs : List α} (e : fi δ = some (xs.map h)) (hl : xs.length ≤ 16777216) (H : ∀ x ∈ xs, fe (.fz (h x) :: capS δ caps) = some (k x)) : oComp fi caps bv1 fe δ = some (.list (xs.map k)) := by
  unfold oComp
  rw [e, Option.bind_some, if_pos (by rw [List.length_map]; exact hl), mapO_map xs (k := k) fun x hx => by
    show fe _ = _
    exact H x hx]
  rfl
theorem compI_map {α : Type} {fi : Dv → Option (List D)} {caps : List (Nat × Str)} {ft : Dv → Option Bool} {fe : Dv → Option D} {δ : Dv} {h k : α → D} {b : α → Bool} {xs : List α} (e : fi δ = some (xs.map h)) (hl : xs.length ≤ 16777216) (H : ∀ x ∈ xs, ft (.fz (h x) :: capS δ caps) = some (b x)) (G : ∀ x ∈ xs, b x = true → fe (.fz (h x) :: capS δ caps) = some (k x)) : oCompI fi caps bv1 ft fe δ = some (.list ((xs.filter b).map k)) := by
  unfold oCompI
  rw [e, Option.bind_some, if_pos (by rw [List.length_map]; exact hl), filO_map xs (b := b) (k := k) (fun x hx => by
    show ft _ = _
    exact H x hx) (fun x hx hb => by
    show fe _ = _
    exact G x hx hb)]
  rfl

def okS (a : Str) : Bool := shp (.str a)
theorem eqS {a b : Str} (ha : okS a = true) (hb : okS b = true) : eqD (.str a) (.str b) = some (.bool (a == b)) := if_pos ⟨ha, hb⟩
theorem neS {a b : Str} (ha : okS a = true) (hb : okS b = true) : neD (.str a) (.str b) = some (.bool (!(a == b))) := if_pos ⟨ha, hb⟩
theorem ok_w_swing : okS "swing" = true := by decide +kernel
theorem ok_w_turn : okS "turn" = true := by decide +kernel
theorem ok_w_flip : okS "flip" = true := by decide +kernel
theorem ok_w_tie : okS "tie" = true := by decide +kernel
theorem ok_w_sign : okS "sign" = true := by decide +kernel
theorem ok_w_cross : okS "cross" = true := by decide +kernel
theorem ok_w_look : okS "look" = true := by decide +kernel
theorem ok_w_where : okS "where" = true := by decide +kernel
@[simp] theorem kw_swing_look : eqD (.str "swing") (.str "look") = some (.bool false) := (eqS ok_w_swing ok_w_look).trans (congrArg (fun z => some (PyData.bool z)) (show (("swing" : Str) == ("look" : Str)) = false by decide +kernel))
@[simp] theorem kw_swing_where : eqD (.str "swing") (.str "where") = some (.bool false) := (eqS ok_w_swing ok_w_where).trans (congrArg (fun z => some (PyData.bool z)) (show (("swing" : Str) == ("where" : Str)) = false by decide +kernel))
@[simp] theorem kw_turn_look : eqD (.str "turn") (.str "look") = some (.bool false) := (eqS ok_w_turn ok_w_look).trans (congrArg (fun z => some (PyData.bool z)) (show (("turn" : Str) == ("look" : Str)) = false by decide +kernel))
@[simp] theorem kw_turn_where : eqD (.str "turn") (.str "where") = some (.bool false) := (eqS ok_w_turn ok_w_where).trans (congrArg (fun z => some (PyData.bool z)) (show (("turn" : Str) == ("where" : Str)) = false by decide +kernel))
@[simp] theorem kw_flip_look : eqD (.str "flip") (.str "look") = some (.bool false) := (eqS ok_w_flip ok_w_look).trans (congrArg (fun z => some (PyData.bool z)) (show (("flip" : Str) == ("look" : Str)) = false by decide +kernel))
@[simp] theorem kw_flip_where : eqD (.str "flip") (.str "where") = some (.bool false) := (eqS ok_w_flip ok_w_where).trans (congrArg (fun z => some (PyData.bool z)) (show (("flip" : Str) == ("where" : Str)) = false by decide +kernel))
@[simp] theorem kw_tie_look : eqD (.str "tie") (.str "look") = some (.bool false) := (eqS ok_w_tie ok_w_look).trans (congrArg (fun z => some (PyData.bool z)) (show (("tie" : Str) == ("look" : Str)) = false by decide +kernel))
@[simp] theorem kw_tie_where : eqD (.str "tie") (.str "where") = some (.bool false) := (eqS ok_w_tie ok_w_where).trans (congrArg (fun z => some (PyData.bool z)) (show (("tie" : Str) == ("where" : Str)) = false by decide +kernel))
@[simp] theorem kw_sign_look : eqD (.str "sign") (.str "look") = some (.bool false) := (eqS ok_w_sign ok_w_look).trans (congrArg (fun z => some (PyData.bool z)) (show (("sign" : Str) == ("look" : Str)) = false by decide +kernel))
@[simp] theorem kw_sign_where : eqD (.str "sign") (.str "where") = some (.bool false) := (eqS ok_w_sign ok_w_where).trans (congrArg (fun z => some (PyData.bool z)) (show (("sign" : Str) == ("where" : Str)) = false by decide +kernel))
@[simp] theorem kw_cross_look : eqD (.str "cross") (.str "look") = some (.bool false) := (eqS ok_w_cross ok_w_look).trans (congrArg (fun z => some (PyData.bool z)) (show (("cross" : Str) == ("look" : Str)) = false by decide +kernel))
@[simp] theorem kw_cross_where : eqD (.str "cross") (.str "where") = some (.bool false) := (eqS ok_w_cross ok_w_where).trans (congrArg (fun z => some (PyData.bool z)) (show (("cross" : Str) == ("where" : Str)) = false by decide +kernel))
@[simp] theorem kw_look_look : eqD (.str "look") (.str "look") = some (.bool true) := (eqS ok_w_look ok_w_look).trans (congrArg (fun z => some (PyData.bool z)) (show (("look" : Str) == ("look" : Str)) = true by decide +kernel))
@[simp] theorem kw_look_where : eqD (.str "look") (.str "where") = some (.bool false) := (eqS ok_w_look ok_w_where).trans (congrArg (fun z => some (PyData.bool z)) (show (("look" : Str) == ("where" : Str)) = false by decide +kernel))
@[simp] theorem kw_where_look : eqD (.str "where") (.str "look") = some (.bool false) := (eqS ok_w_where ok_w_look).trans (congrArg (fun z => some (PyData.bool z)) (show (("where" : Str) == ("look" : Str)) = false by decide +kernel))
@[simp] theorem kw_where_where : eqD (.str "where") (.str "where") = some (.bool true) := (eqS ok_w_where ok_w_where).trans (congrArg (fun z => some (PyData.bool z)) (show (("where" : Str) == ("where" : Str)) = true by decide +kernel))

@[simp] theorem inp_swing : inD false (.str "swing") (.tuple [.str "swing", .str "turn", .str "flip", .str "tie", .str "sign", .str "cross"]) = some (.bool true) := by rfl
@[simp] theorem int_swing : inD false (.str "swing") (.tuple [.str "tie", .str "sign", .str "cross"]) = some (.bool false) := by rfl
@[simp] theorem inp_turn : inD false (.str "turn") (.tuple [.str "swing", .str "turn", .str "flip", .str "tie", .str "sign", .str "cross"]) = some (.bool true) := by rfl
@[simp] theorem int_turn : inD false (.str "turn") (.tuple [.str "tie", .str "sign", .str "cross"]) = some (.bool false) := by rfl
@[simp] theorem inp_flip : inD false (.str "flip") (.tuple [.str "swing", .str "turn", .str "flip", .str "tie", .str "sign", .str "cross"]) = some (.bool true) := by rfl
@[simp] theorem int_flip : inD false (.str "flip") (.tuple [.str "tie", .str "sign", .str "cross"]) = some (.bool false) := by rfl
@[simp] theorem inp_tie : inD false (.str "tie") (.tuple [.str "swing", .str "turn", .str "flip", .str "tie", .str "sign", .str "cross"]) = some (.bool true) := by rfl
@[simp] theorem int_tie : inD false (.str "tie") (.tuple [.str "tie", .str "sign", .str "cross"]) = some (.bool true) := by rfl
@[simp] theorem inp_sign : inD false (.str "sign") (.tuple [.str "swing", .str "turn", .str "flip", .str "tie", .str "sign", .str "cross"]) = some (.bool true) := by rfl
@[simp] theorem int_sign : inD false (.str "sign") (.tuple [.str "tie", .str "sign", .str "cross"]) = some (.bool true) := by rfl
@[simp] theorem inp_cross : inD false (.str "cross") (.tuple [.str "swing", .str "turn", .str "flip", .str "tie", .str "sign", .str "cross"]) = some (.bool true) := by rfl
@[simp] theorem int_cross : inD false (.str "cross") (.tuple [.str "tie", .str "sign", .str "cross"]) = some (.bool true) := by rfl
@[simp] theorem inp_look : inD false (.str "look") (.tuple [.str "swing", .str "turn", .str "flip", .str "tie", .str "sign", .str "cross"]) = some (.bool false) := by rfl
@[simp] theorem int_look : inD false (.str "look") (.tuple [.str "tie", .str "sign", .str "cross"]) = some (.bool false) := by rfl
@[simp] theorem inp_where : inD false (.str "where") (.tuple [.str "swing", .str "turn", .str "flip", .str "tie", .str "sign", .str "cross"]) = some (.bool false) := by rfl
@[simp] theorem int_where : inD false (.str "where") (.tuple [.str "tie", .str "sign", .str "cross"]) = some (.bool false) := by rfl

inductive Rw where
  | pl (r : Row) | look (j : Nat) | wflip (m j : Nat) | wsign (m j : Nat)
def rowD : Row → D
  | .swing j => .tuple [.str "swing", .int j]
  | .turn j e => .tuple [.str "turn", .int j, .int e]
  | .flip j => .tuple [.str "flip", .int j]
  | .tie i j => .tuple [.str "tie", .int i, .int j]
  | .sign i j => .tuple [.str "sign", .int i, .int j]
  | .cross i j => .tuple [.str "cross", .int i, .int j]
def rwD : Rw → D
  | .pl r => rowD r
  | .look j => .tuple [.str "look", .int j]
  | .wflip m j => .tuple [.str "where", .int m, .tuple [.str "flip", .int j]]
  | .wsign m j => .tuple [.str "where", .int m, .tuple [.str "turn", .int j, .int 4]]
def Rw.ok (w l : Nat) : Rw → Prop
  | .pl r => r.ok w
  | .look j => j < w ∧ l < 6
  | .wflip m j => m < l ∧ j < w
  | .wsign m j => m < l ∧ j < w
def Rw.isLook : Rw → Bool
  | .look _ => true
  | _ => false
def Rw.isPl : Rw → Bool
  | .pl _ => true
  | _ => false


theorem lturn_eq (c : Int) : ∃ T : Nat, g__law_turn [.int c, .int 2147483647] = some (.int T) := by
  have h0 : 0 ≤ c % 1000003 := Int.emod_nonneg _ (by decide)
  have h1 : c % 1000003 < 1000003 := Int.emod_lt_of_pos _ (by decide)
  have m : IntMulOk (c % 1000003 + 11) (c % 1000003 + 48271) := .of_left (Nat.le_trans (MA.bits_le (m := 21) (by omega)) (by decide))
  have h2 : 0 ≤ (c % 1000003 + 11) * (c % 1000003 + 48271) % 2147483647 := Int.emod_nonneg _ (by decide)
  refine ⟨((c % 1000003 + 11) * (c % 1000003 + 48271) % 2147483647).toNat, ?_⟩
  rw [Int.toNat_of_nonneg h2]
  simp [-sSeq, -sIf, sSeq_k, sIf_k, g__law_turn, runB, b__law_turn, startD, m]
theorem pick5 (m : Int) (h1 : 7 < m) (h2 : m < 13) : ∃ s : Str, atI [PyData.str "tie", .str "sign", .str "cross", .str "tie", .str "sign"] (m - 8) = some (.str s) ∧ (s = "tie" ∨ s = "sign" ∨ s = "cross") := by
  have : m = 8 ∨ m = 9 ∨ m = 10 ∨ m = 11 ∨ m = 12 := by omega
  rcases this with h | h | h | h | h <;> subst h
  · exact ⟨"tie", at0 _ _, .inl rfl⟩
  · exact ⟨"sign", at1 _ _ _, .inr (.inl rfl)⟩
  · exact ⟨"cross", at2 _ _ _ _, .inr (.inr rfl)⟩
  · exact ⟨"tie", at3 _ _ _ _ _, .inl rfl⟩
  · exact ⟨"sign", at4 _ _ _ _ _ _, .inr (.inl rfl)⟩
section
variable (c w l T j t i mx q : Int) (hm0 : 0 ≤ c % 16) (hm1 : c % 16 < 16) (hT : g__law_turn [.int c, .int 2147483647] = some (.int T)) (hj : modD (.int (T / 7 / 16)) (.int w) = some (.int j)) (hx : maxD [.int 1, .int (w - 1)] = some (.int mx)) (ht : modD (.int (T / 7 / 96)) (.int mx) = some (.int t)) (hi : modD (.int (j + 1 + t)) (.int w) = some (.int i))
include hT hj hx ht hi
theorem lrow_swing (p : Bool) (h : c % 16 < 4) : g__law_row [.int c, .int w, .int l, .bool p] = some (.tuple [.str "swing", .int j]) := by
  simp [-sSeq, -sIf, sSeq_k, sIf_k, -maxD_int, g__law_row, runB, b__law_row, startD, hT, hj, hx, ht, hi, h]
theorem lrow_turn (p : Bool) (h : ¬ c % 16 < 4) (h2 : c % 16 < 7) : g__law_row [.int c, .int w, .int l, .bool p] = some (.tuple [.str "turn", .int j, .int (1 + T / 7 / 600 % 7)]) := by
  simp [-sSeq, -sIf, sSeq_k, sIf_k, -maxD_int, g__law_row, runB, b__law_row, startD, hT, hj, hx, ht, hi, h, h2]
theorem lrow_two (p : Bool) (h : ¬ c % 16 < 4) (h2 : ¬ c % 16 < 7) (h3 : 7 < c % 16) (h4 : c % 16 < 13) (h5 : 1 < w) (s : D) (hs : atI [PyData.str "tie", .str "sign", .str "cross", .str "tie", .str "sign"] (c % 16 - 8) = some s) : g__law_row [.int c, .int w, .int l, .bool p] = some (.tuple [s, .int i, .int j]) := by
  simp [-sSeq, -sIf, sSeq_k, sIf_k, -maxD_int, g__law_row, runB, b__law_row, startD, hT, hj, hx, ht, hi, h, h2, h3, h4, h5, oCh, hs]
theorem lrow_flip (p : Bool) (h : ¬ c % 16 < 4) (h2 : ¬ c % 16 < 7) (h3 : ¬ (7 < c % 16 ∧ c % 16 < 13 ∧ 1 < w)) (h4 : c % 16 = 7 ∨ p = true) : g__law_row [.int c, .int w, .int l, .bool p] = some (.tuple [.str "flip", .int j]) := by
  by_cases a : 7 < c % 16
  · by_cases b : c % 16 < 13
    · have d : ¬ 1 < w := fun z => h3 ⟨a, b, z⟩
      have e : ¬ c % 16 = 7 := by omega
      have f : p = true := by rcases h4 with z | z; exact absurd z e; exact z
      simp [-sSeq, -sIf, sSeq_k, sIf_k, -maxD_int, g__law_row, runB, b__law_row, startD, hT, hj, hx, ht, hi, h, h2, a, b, d, e, f, oCh]
    · have e : ¬ c % 16 = 7 := by omega
      have f : p = true := by rcases h4 with z | z; exact absurd z e; exact z
      simp [-sSeq, -sIf, sSeq_k, sIf_k, -maxD_int, g__law_row, runB, b__law_row, startD, hT, hj, hx, ht, hi, h, h2, a, b, e, f, oCh]
  · have e : c % 16 = 7 := by omega
    simp [-sSeq, -sIf, sSeq_k, sIf_k, -maxD_int, g__law_row, runB, b__law_row, startD, hT, hj, hx, ht, hi, e, oCh]
theorem lrow_look (h : ¬ c % 16 < 4) (h2 : ¬ c % 16 < 7) (h3 : ¬ (7 < c % 16 ∧ c % 16 < 13 ∧ 1 < w)) (h4 : ¬ c % 16 = 7) (h5 : l < 6) (h6 : c % 16 < 14 ∨ l = 0) : g__law_row [.int c, .int w, .int l, .bool false] = some (.tuple [.str "look", .int j]) := by
  have a : 7 < c % 16 := by omega
  have k : (oAnd (ob (oCh (oC (.int 7)) (o2 (oV 0) (oC (.int 16)) modD) (oC (.int 13)) ltD ltD)) (ob (o2 (oV 1) (oC (.int 1)) gtD))) [.fz (.int c), .fz (.int w), .fz (.int l), .fz (.bool false), .fz (.int (T / 7)), .fz (.int j), .fz (.int i)] = some false := by
    by_cases b : c % 16 < 13
    · have d : ¬ 1 < w := fun z => h3 ⟨a, b, z⟩
      simp [oCh, a, b, d]
    · simp [oCh, a, b]
  rcases h6 with z | z
  · simp [-sSeq, -sIf, sSeq_k, sIf_k, -oAnd, -maxD_int, g__law_row, runB, b__law_row, startD, hT, hj, hx, ht, hi, h, h2, k, h4]
    simp [h5, z]
  · simp [-sSeq, -sIf, sSeq_k, sIf_k, -oAnd, -maxD_int, g__law_row, runB, b__law_row, startD, hT, hj, hx, ht, hi, h, h2, k, h4]
    simp [h5, z]
theorem lrow_where (h : ¬ c % 16 < 4) (h2 : ¬ c % 16 < 7) (h3 : ¬ (7 < c % 16 ∧ c % 16 < 13 ∧ 1 < w)) (h4 : ¬ c % 16 = 7) (h5 : ¬ (l < 6 ∧ (c % 16 < 14 ∨ l = 0))) (h6 : ¬ l = 0) (hq : modD (.int (T / 7 / 4200)) (.int l) = some (.int q)) (s : D) (hs : atI [PyData.tuple [.str "flip", .int j], .tuple [.str "turn", .int j, .int 4]] (T / 7 / 29400 % 2) = some s) : g__law_row [.int c, .int w, .int l, .bool false] = some (.tuple [.str "where", .int q, s]) := by
  have a : 7 < c % 16 := by omega
  have k : (oAnd (ob (oCh (oC (.int 7)) (o2 (oV 0) (oC (.int 16)) modD) (oC (.int 13)) ltD ltD)) (ob (o2 (oV 1) (oC (.int 1)) gtD))) [.fz (.int c), .fz (.int w), .fz (.int l), .fz (.bool false), .fz (.int (T / 7)), .fz (.int j), .fz (.int i)] = some false := by
    by_cases b : c % 16 < 13
    · have d : ¬ 1 < w := fun z => h3 ⟨a, b, z⟩
      simp [oCh, a, b, d]
    · simp [oCh, a, b]
  have k2 : (oAnd (ob (o2 (oV 2) (oC (.int 6)) ltD)) (oOr (ob (o2 (o2 (oV 0) (oC (.int 16)) modD) (oC (.int 14)) ltD)) (ob (o2 (oV 2) (oC (.int 0)) eqD)))) [.fz (.int c), .fz (.int w), .fz (.int l), .fz (.bool false), .fz (.int (T / 7)), .fz (.int j), .fz (.int i)] = some false := by
    by_cases b : l < 6
    · have d : ¬ c % 16 < 14 := fun z => h5 ⟨b, .inl z⟩
      simp [b, d, h6]
    · simp [b]
  have h6' : (l == 0) = false := by simpa using h6
  simp [-sSeq, -sIf, sSeq_k, sIf_k, -oAnd, -maxD_int, g__law_row, runB, b__law_row, startD, hT, hj, hx, ht, hi, h, h2, k, k2, h4, h6, h6', hq, hs]
end
theorem lrow_ok (c : Int) (w l : Nat) (hw : 1 ≤ w) (p : Bool) : ∃ r : Rw, g__law_row [.int c, .int w, .int l, .bool p] = some (rwD r) ∧ r.ok w l ∧ (p = true → r.isPl = true) := by
  obtain ⟨T, hT⟩ := lturn_eq c
  have hw0 : (0 : Int) < w := by omega
  have a1 := Int.emod_nonneg ((T : Int) / 7 / 16) (show (w : Int) ≠ 0 by omega)
  have a2 := Int.emod_lt_of_pos ((T : Int) / 7 / 16) hw0
  obtain ⟨j, hj⟩ : ∃ j : Nat, (T : Int) / 7 / 16 % w = j := ⟨((T : Int) / 7 / 16 % w).toNat, by omega⟩
  have ej := modD_int (i := (T : Int) / 7 / 16) hw0
  rw [hj] at ej a1 a2
  obtain ⟨mx, ex, x1, x2, x3⟩ := (⟨_, maxD_int 1 (w - 1), by split <;> omega, by split <;> omega, by split <;> omega⟩ : ∃ m : Int, maxD [.int 1, .int ((w : Int) - 1)] = some (.int m) ∧ 1 ≤ m ∧ (w : Int) - 1 ≤ m ∧ (m = 1 ∨ m = w - 1))
  have b1 := Int.emod_nonneg ((T : Int) / 7 / 96) (show mx ≠ 0 by omega)
  have b2 := Int.emod_lt_of_pos ((T : Int) / 7 / 96) (show 0 < mx by omega)
  have et := modD_int (i := (T : Int) / 7 / 96) (show 0 < mx by omega)
  generalize (T : Int) / 7 / 96 % mx = t at *
  have c1 := Int.emod_nonneg ((j : Int) + 1 + t) (show (w : Int) ≠ 0 by omega)
  have c2 := Int.emod_lt_of_pos ((j : Int) + 1 + t) hw0
  have ei := modD_int (i := (j : Int) + 1 + t) hw0
  obtain ⟨i, hi⟩ : ∃ i : Nat, ((j : Int) + 1 + t) % w = i := ⟨(((j : Int) + 1 + t) % w).toNat, by omega⟩
  have hij : 1 < w → i ≠ j := fun h1 z => by
    have : t + 1 < w := by omega
    by_cases hh : (j : Int) + 1 + t < w
    · rw [Int.emod_eq_of_lt (by omega) hh] at hi; omega
    · have : ((j : Int) + 1 + t) % w = (j : Int) + 1 + t - w := by
        rw [← Int.sub_emod_right, Int.emod_eq_of_lt (by omega) (by omega)]
      omega
  rw [hi] at ei c1 c2
  have m0 : 0 ≤ c % 16 := Int.emod_nonneg _ (by decide)
  by_cases h1 : c % 16 < 4
  · exact ⟨.pl (.swing j), lrow_swing c w l T j t i mx hT ej ex et ei p h1, (show j < w by omega), fun _ => rfl⟩
  by_cases h2 : c % 16 < 7
  · obtain ⟨e, he⟩ : ∃ e : Nat, 1 + (T : Int) / 7 / 600 % 7 = e := ⟨(1 + (T : Int) / 7 / 600 % 7).toNat, by omega⟩
    have q := lrow_turn c w l T j t i mx hT ej ex et ei p h1 h2
    rw [he] at q
    exact ⟨.pl (.turn j e), q, (show j < w ∧ 1 ≤ e ∧ e ≤ 7 by omega), fun _ => rfl⟩
  by_cases h3 : 7 < c % 16 ∧ c % 16 < 13 ∧ (1 : Int) < w
  · obtain ⟨s, hs, h⟩ := pick5 (c % 16) h3.1 h3.2.1
    have q := lrow_two c w l T j t i mx hT ej ex et ei p h1 h2 h3.1 h3.2.1 h3.2.2 _ hs
    have k : i < w ∧ j < w ∧ i ≠ j := ⟨by omega, by omega, hij (by omega)⟩
    rcases h with rfl | rfl | rfl
    · exact ⟨.pl (.tie i j), q, k, fun _ => rfl⟩
    · exact ⟨.pl (.sign i j), q, k, fun _ => rfl⟩
    · exact ⟨.pl (.cross i j), q, k, fun _ => rfl⟩
  by_cases h4 : c % 16 = 7 ∨ p = true
  · exact ⟨.pl (.flip j), lrow_flip c w l T j t i mx hT ej ex et ei p h1 h2 h3 h4, (show j < w by omega), fun _ => rfl⟩
  have hp : p = false := by cases p; rfl; exact absurd (.inr rfl) h4
  subst hp
  have h4' : ¬ c % 16 = 7 := fun z => h4 (.inl z)
  by_cases h5 : (l : Int) < 6 ∧ (c % 16 < 14 ∨ (l : Int) = 0)
  · exact ⟨.look j, lrow_look c w l T j t i mx hT ej ex et ei h1 h2 h3 h4' h5.1 h5.2, (show j < w ∧ l < 6 by omega), fun z => (nomatch z)⟩
  have h6 : ¬ (l : Int) = 0 := by omega
  have hq := modD_int (i := (T : Int) / 7 / 4200) (show (0 : Int) < l by omega)
  have d1 := Int.emod_nonneg ((T : Int) / 7 / 4200) (show (l : Int) ≠ 0 by omega)
  have d2 := Int.emod_lt_of_pos ((T : Int) / 7 / 4200) (show (0 : Int) < l by omega)
  obtain ⟨m, hm⟩ : ∃ m : Nat, (T : Int) / 7 / 4200 % l = m := ⟨((T : Int) / 7 / 4200 % l).toNat, by omega⟩
  rw [hm] at hq d1 d2
  have k : m < l ∧ j < w := by omega
  have : (T : Int) / 7 / 29400 % 2 = 0 ∨ (T : Int) / 7 / 29400 % 2 = 1 := by omega
  rcases this with z | z
  · exact ⟨.wflip m j, lrow_where c w l T j t i mx m hT ej ex et ei h1 h2 h3 h4' h5 h6 hq _ (by rw [z]; exact at0 _ _), k, fun z => (nomatch z)⟩
  · exact ⟨.wsign m j, lrow_where c w l T j t i mx m hT ej ex et ei h1 h2 h3 h4' h5 h6 hq _ (by rw [z]; exact at1 _ _ _), k, fun z => (nomatch z)⟩

def cirD (w : Nat) (rs : List Rw) : D := .tuple [.int w, .tuple (rs.map rwD)]
def okAll (w : Nat) : Nat → List Rw → Prop
  | _, [] => True
  | l, r :: rs => r.ok w l ∧ okAll w (l + if r.isLook then 1 else 0) rs
theorem islook_eq (r : Rw) : ∃ s : Str, ixD (rwD r) (.int 0) = some (.str s) ∧ eqD (.str s) (.str "look") = some (.bool r.isLook) ∧ eqD (.str s) (.str "where") = some (.bool (!r.isLook && !r.isPl)) ∧ inD false (.str s) (.tuple [.str "swing", .str "turn", .str "flip", .str "tie", .str "sign", .str "cross"]) = some (.bool r.isPl) := by
  cases r with
  | pl r => cases r <;> exact ⟨_, at0 _ _, by simp [Rw.isLook], by simp [Rw.isLook, Rw.isPl], by simp [Rw.isPl]⟩
  | look j => exact ⟨_, at0 _ _, by simp [Rw.isLook], by simp [Rw.isLook, Rw.isPl], by simp [Rw.isPl]⟩
  | wflip m j => exact ⟨_, at0 _ _, by simp [Rw.isLook], by simp [Rw.isLook, Rw.isPl], by simp [Rw.isPl]⟩
  | wsign m j => exact ⟨_, at0 _ _, by simp [Rw.isLook], by simp [Rw.isLook, Rw.isPl], by simp [Rw.isPl]⟩
theorem lcirc_x (c w l l' : Int) (p b : Bool) (C R : D) (ds : List D) (z6 : Sl) (s : Str) (hr : g__law_row [.int c, .int w, .int l, .bool p] = some R) (h0 : ixD R (.int 0) = some (.str s)) (h1 : eqD (.str s) (.str "look") = some (.bool b)) (hl' : l + (if b = true then 1 else 0) = l') (hs : ds.length < sizeLine) :
    l1__law_circuit [.fz C, .fz (.int w), .fz (.bool p), .ow ds, .fz (.int l), .fz (.int c), z6] = some (.nx, [.fz C, .fz (.int w), .fz (.bool p), .ow (ds ++ [R]), .fz (.int l'), .fz (.int c), .fz R]) := by
  simp [-sSeq, -sIf, sSeq_k, sIf_k, l1__law_circuit, hr, h0, h1, hl', hs]
theorem lcirc_loop (w : Nat) (hw : 1 ≤ w) (p : Bool) (C : D) : ∀ (cs : List Int) (l : Nat) (ds : List D) (z5 z6 : Sl), ds.length + cs.length ≤ 1000 → ∃ rs : List Rw, rs.length = cs.length ∧ okAll w l rs ∧ (p = true → ∀ r ∈ rs, r.isPl = true) ∧ ∃ y4 y5 y6, loop (gN 5) l1__law_circuit (cs.map .int) [.fz C, .fz (.int w), .fz (.bool p), .ow ds, .fz (.int l), z5, z6] = some (.nx, [.fz C, .fz (.int w), .fz (.bool p), .ow (ds ++ rs.map rwD), y4, y5, y6])
  | [], l, ds, z5, z6, _ => ⟨[], rfl, trivial, fun _ _ h => (nomatch h), .fz (.int l), z5, z6, by simp⟩
  | c :: cs, l, ds, z5, z6, hl => by
    obtain ⟨r, hr, hok, hp⟩ := lrow_ok c w l hw p
    obtain ⟨s, h0, h1, _, _⟩ := islook_eq r
    have hlen : ds.length < 1000 := by simp only [List.length_cons] at hl; omega
    have st := lcirc_x c w l ((l + if r.isLook then 1 else 0 : Nat) : Int) p r.isLook C (rwD r) ds z6 s hr h0 h1 (by cases r.isLook <;> simp) (by show _ < 16777216; omega)
    obtain ⟨rs, e1, e2, e3, y4, y5, y6, e4⟩ := lcirc_loop w hw p C cs (l + if r.isLook then 1 else 0) (ds ++ [rwD r]) (.fz (.int c)) (.fz (rwD r)) (by simp only [List.length_append, List.length_cons, List.length_nil] at hl ⊢; omega)
    refine ⟨r :: rs, by simp [e1], ⟨hok, e2⟩, fun z q hq => ?_, y4, y5, y6, ?_⟩
    · rcases List.mem_cons.mp hq with rfl | hq
      · exact hp z
      · exact e3 z q hq
    · rw [List.map_cons, loop_step (δ1 := [.fz C, .fz (.int w), .fz (.bool p), .ow ds, .fz (.int l), .fz (.int c), z6]) (by simp) st, e4]
      simp
theorem lcirc_ok (w : Nat) (hw : 1 ≤ w) (p : Bool) (cs : List Int) (hl : cs.length ≤ 1000) : ∃ rs : List Rw, rs.length = cs.length ∧ okAll w 0 rs ∧ (p = true → ∀ r ∈ rs, r.isPl = true) ∧ g__law_circuit [.list (cs.map .int), .int w, .bool p] = some (cirD w rs) := by
  obtain ⟨rs, e1, e2, e3, y4, y5, y6, e4⟩ := lcirc_loop w hw p (.list (cs.map .int)) cs 0 [] .un .un (by simpa using hl)
  refine ⟨rs, e1, e2, e3, ?_⟩
  have e4' : loop (gN 5) l1__law_circuit (cs.map .int) [.fz (.list (cs.map .int)), .fz (.int w), .fz (.bool p), .ow [], .fz (.int 0), .un, .un] = _ := e4
  simp [-sSeq, -sIf, sSeq_k, sIf_k, g__law_circuit, runB, b__law_circuit, startD, e4', dFz, cirD]

theorem lcell_eq (ns : List Int) (k : Int) (hk : 0 ≤ k) : ∃ c, g__law_cell [.list (ns.map .int), .int k] = some (.int c) := by
  by_cases h : k < ns.length
  · have hk' : k.toNat < ns.length := by omega
    refine ⟨ns[k.toNat], ?_⟩
    have e : atI (ns.map PyData.int) k = some (.int ns[k.toNat]) := atI_of (j := k.toNat) (by omega) (by simp [hk'])
    simp [g__law_cell, runB, b__law_cell, startD, h, e]
  · exact ⟨0, by simp [g__law_cell, runB, b__law_cell, startD, h]⟩
def sN (n : Nat) : Str := Str.ofString (toString (n : Int))
def wdsR : Row → List Str
  | .swing j => ["swing", sN j]
  | .turn j e => ["turn", sN j, sN e]
  | .flip j => ["flip", sN j]
  | .tie i j => ["tie", sN i, sN j]
  | .sign i j => ["sign", sN i, sN j]
  | .cross i j => ["cross", sN i, sN j]
def wds : Rw → List Str
  | .pl r => wdsR r
  | .look j => ["look", sN j]
  | .wflip m j => ["where", sN m, "flip", sN j]
  | .wsign m j => ["where", sN m, "turn", sN j, sN 4]
def shw (r : Rw) : Str := Txt.join " " (wds r)
theorem log_sm {j : Nat} (h : j < 100) : ((j : Int).natAbs.log2 < 1920) := by
  rw [Int.natAbs_natCast]
  by_cases h0 : j = 0
  · subst h0; decide
  · exact (Nat.log2_lt h0).mpr (Nat.lt_of_lt_of_le h (by decide))
theorem strD_n {j : Nat} (h : j < 100) : strD [.int j] = some (.str (sN j)) := if_pos (log_sm h)
@[simp] theorem strD_s (x : Str) : strD [.str x] = some (.str x) := rfl
theorem strD_4 : strD [.int 4] = some (.str (sN 4)) := strD_n (j := 4) (by decide)
@[simp] theorem strsD_map : ∀ l : List Str, strsD (l.map .str) = some l
  | [] => rfl
  | x :: l => by
    show (strsD (l.map .str)).bind _ = _
    rw [strsD_map l]; rfl
theorem joinD_ok {x : Str} {l : List Str} (h : JoinOk x l = true) : joinD (.str x) (.list (l.map .str)) = some (.str (Txt.join x l)) := by
  show ((strsD (l.map .str)).bind fun l => if JoinOk x l = true then some (PyData.str (Txt.join x l)) else none) = _
  rw [strsD_map, Option.bind_some, if_pos h]
theorem joinOk_of {x : Str} {l : List Str} (h : (l.map (·.length)).sum + l.length * x.length ≤ 100000) : JoinOk x l = true := by
  unfold JoinOk
  rw [StrLaws.joinTotal]
  have : Builtin.Str.tooLong ((l.map (·.length)).sum + l.length * x.length) = false := by
    unfold Builtin.Str.tooLong
    simp
    show _ ≤ 16777216
    omega
  rw [this]; rfl

theorem sN_d {j : Nat} (h : j < 10) : sN j = ⟨#[48 + j]⟩ := by
  match j, h with
  | 0, _ => decide +kernel
  | 1, _ => decide +kernel
  | 2, _ => decide +kernel
  | 3, _ => decide +kernel
  | 4, _ => decide +kernel
  | 5, _ => decide +kernel
  | 6, _ => decide +kernel
  | 7, _ => decide +kernel
  | 8, _ => decide +kernel
  | 9, _ => decide +kernel
theorem l_swing : (Str.ofString "swing") = ⟨#[115, 119, 105, 110, 103]⟩ := by decide +kernel
theorem l_turn : (Str.ofString "turn") = ⟨#[116, 117, 114, 110]⟩ := by decide +kernel
theorem l_flip : (Str.ofString "flip") = ⟨#[102, 108, 105, 112]⟩ := by decide +kernel
theorem l_tie : (Str.ofString "tie") = ⟨#[116, 105, 101]⟩ := by decide +kernel
theorem l_sign : (Str.ofString "sign") = ⟨#[115, 105, 103, 110]⟩ := by decide +kernel
theorem l_cross : (Str.ofString "cross") = ⟨#[99, 114, 111, 115, 115]⟩ := by decide +kernel
theorem l_look : (Str.ofString "look") = ⟨#[108, 111, 111, 107]⟩ := by decide +kernel
theorem l_where : (Str.ofString "where") = ⟨#[119, 104, 101, 114, 101]⟩ := by decide +kernel
theorem l_wires : (Str.ofString "wires") = ⟨#[119, 105, 114, 101, 115]⟩ := by decide +kernel
theorem l_sp : (Str.ofString " ") = ⟨#[32]⟩ := by decide +kernel
theorem l_nl : (Str.ofString "\n") = ⟨#[10]⟩ := by decide +kernel
def cdR : Row → List Nat
  | .swing j => [115, 119, 105, 110, 103, 32, 48 + j]
  | .turn j e => [116, 117, 114, 110, 32, 48 + j, 32, 48 + e]
  | .flip j => [102, 108, 105, 112, 32, 48 + j]
  | .tie i j => [116, 105, 101, 32, 48 + i, 32, 48 + j]
  | .sign i j => [115, 105, 103, 110, 32, 48 + i, 32, 48 + j]
  | .cross i j => [99, 114, 111, 115, 115, 32, 48 + i, 32, 48 + j]
def cd : Rw → List Nat
  | .pl r => cdR r
  | .look j => [108, 111, 111, 107, 32, 48 + j]
  | .wflip m j => [119, 104, 101, 114, 101, 32, 48 + m, 32, 102, 108, 105, 112, 32, 48 + j]
  | .wsign m j => [119, 104, 101, 114, 101, 32, 48 + m, 32, 116, 117, 114, 110, 32, 48 + j, 32, 52]
def digR : Row → Prop
  | .swing j => j < 10
  | .turn j e => j < 10 ∧ e < 10
  | .flip j => j < 10
  | .tie i j => i < 10 ∧ j < 10
  | .sign i j => i < 10 ∧ j < 10
  | .cross i j => i < 10 ∧ j < 10
def dig : Rw → Prop
  | .pl r => digR r
  | .look j => j < 10
  | .wflip m j => m < 10 ∧ j < 10
  | .wsign m j => m < 10 ∧ j < 10
theorem ok_dig {w l : Nat} (hw : w ≤ 6) (hl : l ≤ 6) : ∀ {r : Rw}, r.ok w l → dig r
  | .pl (.swing j), h => by have : j < w := h; show j < 10; omega
  | .pl (.turn j e), h => by
    have : j < w ∧ 1 ≤ e ∧ e ≤ 7 := h
    exact ⟨by omega, by omega⟩
  | .pl (.flip j), h => by have : j < w := h; show j < 10; omega
  | .pl (.tie i j), h => by have : i < w ∧ j < w ∧ i ≠ j := h; exact ⟨by omega, by omega⟩
  | .pl (.sign i j), h => by have : i < w ∧ j < w ∧ i ≠ j := h; exact ⟨by omega, by omega⟩
  | .pl (.cross i j), h => by have : i < w ∧ j < w ∧ i ≠ j := h; exact ⟨by omega, by omega⟩
  | .look j, h => by have : j < w ∧ l < 6 := h; show j < 10; omega
  | .wflip m j, h => by have : m < l ∧ j < w := h; exact ⟨by omega, by omega⟩
  | .wsign m j, h => by have : m < l ∧ j < w := h; exact ⟨by omega, by omega⟩
theorem tj (x : Str) (l : List Str) : Txt.join x l = Str.join x l := StrLaws.glued_eq_join x l
theorem shw_cd : ∀ {r : Rw}, dig r → shw r = ⟨(cd r).toArray⟩
  | .pl (.swing j), h => by have h : j < 10 := h; simp only [shw, wds, wdsR, tj, Str.join, sN_d h, l_sp, l_swing]; rfl
  | .pl (.turn j e), h => by have h : j < 10 ∧ e < 10 := h; simp only [shw, wds, wdsR, tj, Str.join, sN_d h.1, sN_d h.2, l_sp, l_turn]; rfl
  | .pl (.flip j), h => by have h : j < 10 := h; simp only [shw, wds, wdsR, tj, Str.join, sN_d h, l_sp, l_flip]; rfl
  | .pl (.tie j e), h => by have h : j < 10 ∧ e < 10 := h; simp only [shw, wds, wdsR, tj, Str.join, sN_d h.1, sN_d h.2, l_sp, l_tie]; rfl
  | .pl (.sign j e), h => by have h : j < 10 ∧ e < 10 := h; simp only [shw, wds, wdsR, tj, Str.join, sN_d h.1, sN_d h.2, l_sp, l_sign]; rfl
  | .pl (.cross j e), h => by have h : j < 10 ∧ e < 10 := h; simp only [shw, wds, wdsR, tj, Str.join, sN_d h.1, sN_d h.2, l_sp, l_cross]; rfl
  | .look j, h => by have h : j < 10 := h; simp only [shw, wds, tj, Str.join, sN_d h, l_sp, l_look]; rfl
  | .wflip m j, h => by have h : m < 10 ∧ j < 10 := h; simp only [shw, wds, tj, Str.join, sN_d h.1, sN_d h.2, l_sp, l_where, l_flip]; rfl
  | .wsign m j, h => by have h : m < 10 ∧ j < 10 := h; simp only [shw, wds, tj, Str.join, sN_d h.1, sN_d h.2, sN_d (show 4 < 10 by decide), l_sp, l_where, l_turn]; rfl
theorem cd_inj : ∀ {r q : Rw}, cd r = cd q → r = q := by
  intro r q h
  cases r with
  | pl r => cases q with
    | pl q => cases r <;> cases q <;> simp_all [cd, cdR]
    | _ => cases r <;> simp_all [cd, cdR]
  | _ => cases q with
    | pl q => cases q <;> simp_all [cd, cdR]
    | _ => simp_all [cd]
theorem shw_inj {r q : Rw} (hr : dig r) (hq : dig q) (h : shw r = shw q) : r = q := by
  rw [shw_cd hr, shw_cd hq] at h
  injection h with h
  exact cd_inj (by simpa using h)
theorem cd_len : ∀ r : Rw, (cd r).length ≤ 20
  | .pl r => by cases r <;> simp [cd, cdR]
  | .look j => by simp [cd]
  | .wflip m j => by simp [cd]
  | .wsign m j => by simp [cd]
theorem cd_free : ∀ {r : Rw}, dig r → (10 : Nat) ∉ cd r
  | .pl r, h => by cases r <;> simp [cd, cdR] <;> omega
  | .look j, h => by simp [cd]; omega
  | .wflip m j, h => by simp [cd]; omega
  | .wsign m j, h => by simp [cd]; omega

theorem wds_ok (r : Rw) (h : dig r) : JoinOk " " (wds r) = true := by
  have a1 : (Str.ofString " ").length = 1 := by decide +kernel
  have s1 : (Str.ofString "swing").length = 5 := by decide +kernel
  have s2 : (Str.ofString "turn").length = 4 := by decide +kernel
  have s3 : (Str.ofString "flip").length = 4 := by decide +kernel
  have s4 : (Str.ofString "tie").length = 3 := by decide +kernel
  have s5 : (Str.ofString "sign").length = 4 := by decide +kernel
  have s6 : (Str.ofString "cross").length = 5 := by decide +kernel
  have s7 : (Str.ofString "look").length = 4 := by decide +kernel
  have s8 : (Str.ofString "where").length = 5 := by decide +kernel
  have d : ∀ {j : Nat}, j < 10 → (sN j).length = 1 := fun h => by rw [sN_d h]; rfl
  apply joinOk_of
  cases r with
  | pl r =>
    cases r with
    | swing j => simp [wds, wdsR, a1, s1, d (show j < 10 from h)]
    | flip j => simp [wds, wdsR, a1, s3, d (show j < 10 from h)]
    | turn j e => simp [wds, wdsR, a1, s2, d (show j < 10 from h.1), d (show e < 10 from h.2)]
    | tie j e => simp [wds, wdsR, a1, s4, d (show j < 10 from h.1), d (show e < 10 from h.2)]
    | sign j e => simp [wds, wdsR, a1, s5, d (show j < 10 from h.1), d (show e < 10 from h.2)]
    | cross j e => simp [wds, wdsR, a1, s6, d (show j < 10 from h.1), d (show e < 10 from h.2)]
  | look j => simp [wds, a1, s7, d (show j < 10 from h)]
  | wflip m j => simp [wds, a1, s8, s3, d (show m < 10 from h.1), d (show j < 10 from h.2)]
  | wsign m j => simp [wds, a1, s8, s2, d (show m < 10 from h.1), d (show j < 10 from h.2), d (show 4 < 10 by decide)]
theorem jn2 {a b : Str} (h : JoinOk " " [a, b] = true) : joinD (.str " ") (.list [.str a, .str b]) = some (.str (Txt.join " " [a, b])) := joinD_ok h
theorem jn3 {a b c : Str} (h : JoinOk " " [a, b, c] = true) : joinD (.str " ") (.list [.str a, .str b, .str c]) = some (.str (Txt.join " " [a, b, c])) := joinD_ok h
theorem jn4 {a b c d : Str} (h : JoinOk " " [a, b, c, d] = true) : joinD (.str " ") (.list [.str a, .str b, .str c, .str d]) = some (.str (Txt.join " " [a, b, c, d])) := joinD_ok h
theorem jn5 {a b c d e : Str} (h : JoinOk " " [a, b, c, d, e] = true) : joinD (.str " ") (.list [.str a, .str b, .str c, .str d, .str e]) = some (.str (Txt.join " " [a, b, c, d, e])) := joinD_ok h
theorem d1 {j : Nat} (h : j < 10) : j < 100 := by omega
theorem sz1 : 1 ≤ sizeLine := by decide
theorem sz2 : 2 ≤ sizeLine := by decide
theorem sz3 : 3 ≤ sizeLine := by decide
theorem sz4 : 4 ≤ sizeLine := by decide
theorem sz5 : 5 ≤ sizeLine := by decide
theorem ct2 (a b : D) : cutD [a, b] (some 1) none = [b] := rfl
theorem ct3 (a b c : D) : cutD [a, b, c] (some 1) none = [b, c] := rfl
theorem ct32 (a b c : D) : cutD [a, b, c] none (some 2) = [a, b] := rfl
theorem at22 (a b c : D) : ixD (.tuple [a, b, c]) (.int 2) = some c := rfl
theorem at21 (a b c : D) : ixD (.tuple [a, b, c]) (.int 1) = some b := rfl
theorem adT22 (a b c d : D) : addD (.tuple [a, b]) (.tuple [c, d]) = some (.tuple [a, b, c, d]) := by unfold addD; exact if_pos sz4
theorem adT23 (a b c d e : D) : addD (.tuple [a, b]) (.tuple [c, d, e]) = some (.tuple [a, b, c, d, e]) := by unfold addD; exact if_pos sz5
theorem adL11 (a b : D) : addD (.list [a]) (.list [b]) = some (.list [a, b]) := by unfold addD; exact if_pos sz2
theorem adL12 (a b c : D) : addD (.list [a]) (.list [b, c]) = some (.list [a, b, c]) := by unfold addD; exact if_pos sz3
theorem adL22 (a b c d : D) : addD (.list [a, b]) (.list [c, d]) = some (.list [a, b, c, d]) := by unfold addD; exact if_pos sz4
theorem adL23 (a b c d e : D) : addD (.list [a, b]) (.list [c, d, e]) = some (.list [a, b, c, d, e]) := by unfold addD; exact if_pos sz5
theorem rshow2 (x : Str) (j : Nat) (hx : eqD (.str x) (.str "where") = some (.bool false)) (h : j < 10) (hj : JoinOk " " [x, sN j] = true) : g_row_shown [.tuple [.str x, .int j]] = some (.str (Txt.join " " [x, sN j])) := by
  simp [-sSeq, -sIf, sSeq_k, sIf_k, g_row_shown, runB, b_row_shown, startD, p1_row_shown, oComp, capS, bv1, mapO, at0, hx, strD_n (d1 h), jn2 hj, sz2]
theorem rshow3 (x : Str) (i j : Nat) (hx : eqD (.str x) (.str "where") = some (.bool false)) (h1 : i < 10) (h : j < 10) (hj : JoinOk " " [x, sN i, sN j] = true) : g_row_shown [.tuple [.str x, .int i, .int j]] = some (.str (Txt.join " " [x, sN i, sN j])) := by
  simp [-sSeq, -sIf, sSeq_k, sIf_k, g_row_shown, runB, b_row_shown, startD, p1_row_shown, oComp, capS, bv1, mapO, at0, hx, strD_n (d1 h), strD_n (d1 h1), jn3 hj, sz3]
theorem rshow4 (m j : Nat) (h1 : m < 10) (h : j < 10) (hj : JoinOk " " ["where", sN m, "flip", sN j] = true) : g_row_shown [.tuple [.str "where", .int m, .tuple [.str "flip", .int j]]] = some (.str (Txt.join " " ["where", sN m, "flip", sN j])) := by
  simp [-sSeq, -sIf, sSeq_k, sIf_k, g_row_shown, runB, b_row_shown, startD, p1_row_shown, oComp, capS, bv1, mapO, at0, at22, slD, ct32, adT22, adT23, strD_n (d1 h), strD_n (d1 h1), jn4 hj, sz4]
theorem rshow5 (m j : Nat) (h1 : m < 10) (h : j < 10) (hj : JoinOk " " ["where", sN m, "turn", sN j, sN 4] = true) : g_row_shown [.tuple [.str "where", .int m, .tuple [.str "turn", .int j, .int 4]]] = some (.str (Txt.join " " ["where", sN m, "turn", sN j, sN 4])) := by
  simp [-sSeq, -sIf, sSeq_k, sIf_k, g_row_shown, runB, b_row_shown, startD, p1_row_shown, oComp, capS, bv1, mapO, at0, at22, slD, ct32, adT22, adT23, strD_n (d1 h), strD_n (d1 h1), strD_4, jn5 hj, sz5]
theorem rshow_eq : ∀ (r : Rw), dig r → g_row_shown [rwD r] = some (.str (shw r))
  | .pl (.swing j), h => rshow2 _ _ (by simp) h (wds_ok (.pl (.swing j)) h)
  | .pl (.turn j e), h => rshow3 _ _ _ (by simp) h.1 h.2 (wds_ok (.pl (.turn j e)) h)
  | .pl (.flip j), h => rshow2 _ _ (by simp) h (wds_ok (.pl (.flip j)) h)
  | .pl (.tie j e), h => rshow3 _ _ _ (by simp) h.1 h.2 (wds_ok (.pl (.tie j e)) h)
  | .pl (.sign j e), h => rshow3 _ _ _ (by simp) h.1 h.2 (wds_ok (.pl (.sign j e)) h)
  | .pl (.cross j e), h => rshow3 _ _ _ (by simp) h.1 h.2 (wds_ok (.pl (.cross j e)) h)
  | .look j, h => rshow2 _ _ (by simp) h (wds_ok (.look j) h)
  | .wflip m j, h => rshow4 m j h.1 h.2 (wds_ok (.wflip m j) h)
  | .wsign m j, h => rshow5 m j h.1 h.2 (wds_ok (.wsign m j) h)
theorem lwords2 (m : Nat) (x : Str) (j : Nat) (hx : eqD (.str x) (.str "where") = some (.bool false)) (h : j < 10) : r__law_words (m + 1) [.tuple [.str x, .int j]] = some (.list [.str x, .str (sN j)]) := by
  simp [-sSeq, -sIf, sSeq_k, sIf_k, r__law_words, runB, b__law_words, startD, p1__law_words, oComp, capS, bv1, mapO, at0, slD, ct2, ct3, adL11, adL12, List.length, hx, strD_n (d1 h), sz2, sz1]
theorem lwords3 (m : Nat) (x : Str) (i j : Nat) (hx : eqD (.str x) (.str "where") = some (.bool false)) (h1 : i < 10) (h : j < 10) : r__law_words (m + 1) [.tuple [.str x, .int i, .int j]] = some (.list [.str x, .str (sN i), .str (sN j)]) := by
  simp [-sSeq, -sIf, sSeq_k, sIf_k, r__law_words, runB, b__law_words, startD, p1__law_words, oComp, capS, bv1, mapO, at0, slD, ct2, ct3, adL11, adL12, List.length, hx, strD_n (d1 h), strD_n (d1 h1), sz3, sz2]
theorem lwords_w {m : Nat} (G : List D → Option D) {k : Nat} (h : k < 10) (R : D) (l : List D) (L : List D) (e : G [R] = some (.list l)) (e2 : addD (.list [.str "where", .str (sN k)]) (.list l) = some (.list L)) : runB N__law_words 1 (b__law_words G) [.tuple [.str "where", .int k, R]] = some (.list L) := by
  simp [-sSeq, -sIf, sSeq_k, sIf_k, runB, b__law_words, startD, at0, at21, at22, strD_n (d1 h), e, e2]
theorem lwordsR (m : Nat) : ∀ (r : Row), digR r → r__law_words (m + 1) [rowD r] = some (.list ((wdsR r).map .str))
  | .swing j, h => lwords2 m _ j (by simp) h
  | .turn j e, h => lwords3 m _ j e (by simp) h.1 h.2
  | .flip j, h => lwords2 m _ j (by simp) h
  | .tie i j, h => lwords3 m _ i j (by simp) h.1 h.2
  | .sign i j, h => lwords3 m _ i j (by simp) h.1 h.2
  | .cross i j, h => lwords3 m _ i j (by simp) h.1 h.2
theorem lwords_eq : ∀ (r : Rw), dig r → g__law_words [rwD r] = some (.list ((wds r).map .str))
  | .pl r, h => lwordsR 7 r h
  | .look j, h => lwords2 7 _ j (by simp) h
  | .wflip k j, h => lwords_w (m := 7) (r__law_words 7) h.1 _ _ _ (lwords2 6 "flip" j (by simp) h.2) (adL22 _ _ _ _)
  | .wsign k j, h => lwords_w (m := 7) (r__law_words 7) h.1 _ _ _ (lwords3 6 "turn" j 4 (by simp) h.2 (by decide)) (adL23 _ _ _ _ _)

def rowsAt (i w : Nat) : List Rw := [.pl (.swing i), .pl (.flip i), .look i] ++ (List.range 7).map (fun e => Rw.pl (.turn i (e + 1))) ++ (List.range 6).flatMap (fun m => [Rw.wflip m i, .wsign m i]) ++ (List.range w).flatMap (fun o => if o = i then [] else [Rw.pl (.tie i o), .pl (.sign i o), .pl (.cross i o)])
def rowsOver (w : Nat) : List Rw := (List.range w).flatMap fun i => rowsAt i w
theorem over_eq {w : Nat} (h0 : 1 ≤ w) (h : w ≤ 6) : g_rows_over [.int w] = some (.list ((rowsOver w).map rwD)) := by
  match w, h0, h with
  | 1, _, _ => rfl
  | 2, _, _ => rfl
  | 3, _, _ => rfl
  | 4, _, _ => rfl
  | 5, _, _ => rfl
  | 6, _, _ => rfl
theorem at_mem {w l : Nat} (hl : l ≤ 6) : ∀ {r : Rw}, r.ok w l → r ∈ rowsOver w := by
  have key : ∀ (i : Nat) (r : Rw), i < w → r ∈ rowsAt i w → r ∈ rowsOver w := fun i r hi hr => List.mem_flatMap.mpr ⟨i, List.mem_range.mpr hi, hr⟩
  intro r h
  cases r with
  | pl r =>
    cases r with
    | swing j => exact key j _ h (by simp [rowsAt])
    | flip j => exact key j _ h (by simp [rowsAt])
    | turn j e =>
      have h : j < w ∧ 1 ≤ e ∧ e ≤ 7 := h
      refine key j _ h.1 ?_
      simp only [rowsAt, List.mem_append]
      exact .inl (.inl (.inr (List.mem_map.mpr ⟨e - 1, List.mem_range.mpr (by omega), by rw [Nat.sub_add_cancel h.2.1]⟩)))
    | tie i j =>
      have h : i < w ∧ j < w ∧ i ≠ j := h
      refine key i _ h.1 ?_
      simp only [rowsAt, List.mem_append]
      exact .inr (List.mem_flatMap.mpr ⟨j, List.mem_range.mpr h.2.1, by rw [if_neg (Ne.symm h.2.2)]; simp⟩)
    | sign i j =>
      have h : i < w ∧ j < w ∧ i ≠ j := h
      refine key i _ h.1 ?_
      simp only [rowsAt, List.mem_append]
      exact .inr (List.mem_flatMap.mpr ⟨j, List.mem_range.mpr h.2.1, by rw [if_neg (Ne.symm h.2.2)]; simp⟩)
    | cross i j =>
      have h : i < w ∧ j < w ∧ i ≠ j := h
      refine key i _ h.1 ?_
      simp only [rowsAt, List.mem_append]
      exact .inr (List.mem_flatMap.mpr ⟨j, List.mem_range.mpr h.2.1, by rw [if_neg (Ne.symm h.2.2)]; simp⟩)
  | look j => exact key j _ h.1 (by simp [rowsAt])
  | wflip m j =>
    have h : m < l ∧ j < w := h
    refine key j _ h.2 ?_
    simp only [rowsAt, List.mem_append]
    exact .inl (.inr (List.mem_flatMap.mpr ⟨m, List.mem_range.mpr (by omega), by simp⟩))
  | wsign m j =>
    have h : m < l ∧ j < w := h
    refine key j _ h.2 ?_
    simp only [rowsAt, List.mem_append]
    exact .inl (.inr (List.mem_flatMap.mpr ⟨m, List.mem_range.mpr (by omega), by simp⟩))
theorem over_dig {w : Nat} (h : w ≤ 6) : ∀ r ∈ rowsOver w, dig r := by
  intro r hr
  obtain ⟨i, hi, hr⟩ := List.mem_flatMap.mp hr
  have hi := List.mem_range.mp hi
  simp only [rowsAt, List.mem_append, List.mem_map, List.mem_flatMap, List.mem_range, List.mem_cons, List.not_mem_nil, or_false] at hr
  rcases hr with ((hr | ⟨e, he, rfl⟩) | ⟨m, hm, hr⟩) | ⟨o, ho, hr⟩
  · rcases hr with rfl | rfl | rfl <;> (show i < 10; omega)
  · exact ⟨by omega, by omega⟩
  · rcases hr with rfl | rfl <;> exact ⟨by omega, by omega⟩
  · split at hr
    · cases hr
    · simp only [List.mem_cons, List.not_mem_nil, or_false] at hr
      rcases hr with rfl | rfl | rfl <;> exact ⟨by omega, by omega⟩
theorem over_len {w : Nat} (h : w ≤ 6) : (rowsOver w).length ≤ 300 := by
  match w, h with
  | 0, _ => decide
  | 1, _ => decide
  | 2, _ => decide
  | 3, _ => decide
  | 4, _ => decide
  | 5, _ => decide
  | 6, _ => decide
theorem getE_put (k k' : Key) (d : D) : ∀ es : List (Key × D), getE (putE es k d) k' = if k = k' then some d else getE es k' := by
  intro es
  have app : ∀ es : List (Key × D), (es.any fun p => decide (p.1 = k)) = false → getE (es ++ [(k, d)]) k' = if k = k' then some d else getE es k' := by
    intro es
    induction es with
    | nil =>
      intro _
      by_cases h : k = k'
      · simp [getE, h]
      · simp [getE, h]
    | cons p es ih =>
      intro h
      rw [List.any_cons, Bool.or_eq_false_iff] at h
      have ih := ih h.2
      have hp : p.1 ≠ k := by simpa using h.1
      unfold getE at ih ⊢
      rw [List.cons_append, List.find?_cons, List.find?_cons]
      by_cases e : p.1 = k'
      · have : k ≠ k' := fun z => hp (e.trans z.symm)
        simp [e, this]
      · simp only [e, decide_false]; exact ih
  have mp : ∀ es : List (Key × D), getE (es.map (fun p => if p.1 = k then (p.1, d) else p)) k' = if k = k' ∧ (es.any fun p => decide (p.1 = k)) = true then some d else getE es k' := by
    intro es
    induction es with
    | nil => simp [getE]
    | cons p es ih =>
      unfold getE at ih ⊢
      rw [List.map_cons, List.find?_cons, List.find?_cons, List.any_cons]
      by_cases e : p.1 = k
      · rw [if_pos e]
        by_cases z : k = k'
        · simp [e, z]
        · have : ¬ p.1 = k' := fun q => z (e.symm.trans q)
          simp only [this, decide_false]
          rw [ih]
          simp [z]
      · rw [if_neg e]
        by_cases q : p.1 = k'
        · have z : ¬ k = k' := fun z => e (q.trans z.symm)
          simp [q, z]
        · rw [decide_eq_false q]
          show Option.map _ (List.find? _ _) = _
          rw [ih, decide_eq_false e, Bool.false_or]
  unfold putE
  by_cases a : (es.any fun p => decide (p.1 = k)) = true
  · rw [if_pos a, mp es]
    by_cases z : k = k'
    · rw [if_pos ⟨z, a⟩, if_pos z]
    · rw [if_neg (fun q => z q.1), if_neg z]
  · rw [if_neg a]
    exact app es (Bool.eq_false_iff.mpr a)
theorem putE_len (es : List (Key × D)) (k : Key) (d : D) : (putE es k d).length ≤ es.length + 1 := by
  unfold putE
  split
  · rw [List.length_map]; omega
  · simp

section
variable {α : Type} {R : α → D} {T : α → Str}
def btF (R : α → D) (T : α → Str) (es : List (Key × D)) (x : α) : List (Key × D) := putE es (.inr (T x)) (R x)
theorem bt_x (L r : D) (t : Str) (es : List (Key × D)) (h : g_row_shown [r] = some (.str t)) (hl : es.length < sizeLine) : l1_by_text [.fz L, .od es, .fz r] = some (.nx, [.fz L, .od (putE es (.inr t) r), .fz r]) := by
  unfold l1_by_text sDPutE
  simp [h, hl, slK, keyD]
theorem bt_loop (L : D) : ∀ (xs : List α) (es : List (Key × D)) (z : Sl), (∀ x ∈ xs, g_row_shown [R x] = some (.str (T x))) → es.length + xs.length ≤ 1000 → ∃ z', loop (gN 2) l1_by_text (xs.map R) [.fz L, .od es, z] = some (.nx, [.fz L, .od (xs.foldl (btF R T) es), z'])
  | [], es, z, _, _ => ⟨z, rfl⟩
  | x :: xs, es, z, h, hl => by
    simp only [List.length_cons] at hl
    obtain ⟨z', e⟩ := bt_loop L xs (btF R T es x) (.fz (R x)) (fun y hy => h y (List.mem_cons_of_mem _ hy)) (by have := putE_len es (.inr (T x)) (R x); show (putE _ _ _).length + _ ≤ _; omega)
    refine ⟨z', ?_⟩
    rw [List.map_cons, loop_step (δ1 := [.fz L, .od es, .fz (R x)]) (by simp) (bt_x L (R x) (T x) es (h x List.mem_cons_self) (by show _ < 16777216; omega))]
    exact e
theorem bt_eq (xs : List α) (h : ∀ x ∈ xs, g_row_shown [R x] = some (.str (T x))) (hl : xs.length ≤ 1000) : gn_by_text [.list (xs.map R)] = some (xs.foldl (btF R T) []) := by
  obtain ⟨z', e⟩ := bt_loop (R := R) (T := T) (.list (xs.map R)) xs [] .un h (by simpa using hl)
  have e : loop (gN 2) l1_by_text (xs.map R) [.fz (.list (xs.map R)), .own (.d []), .un] = _ := e
  simp [gn_by_text, runDN, b_by_text, startD, sqN, sDNew, e, oOd, slK]
theorem bt_get {t : Str} {d : D} : ∀ (xs : List α) (es : List (Key × D)), (∀ x ∈ xs, T x = t → R x = d) → ((∃ x ∈ xs, T x = t) ∨ getE es (.inr t) = some d) → getE (xs.foldl (btF R T) es) (.inr t) = some d
  | [], es, _, h => by
    rcases h with ⟨x, hx, _⟩ | h
    · cases hx
    · exact h
  | x :: xs, es, u, h => by
    rw [List.foldl_cons]
    refine bt_get xs _ (fun y hy => u y (List.mem_cons_of_mem _ hy)) ?_
    by_cases e : T x = t
    · refine .inr ?_
      show getE (putE _ _ _) _ = _
      rw [getE_put, if_pos (by rw [e]), u x List.mem_cons_self e]
    · rcases h with ⟨y, hy, ey⟩ | h
      · rcases List.mem_cons.mp hy with rfl | hy
        · exact absurd ey e
        · exact .inl ⟨y, hy, ey⟩
      · refine .inr ?_
        show getE (putE _ _ _) _ = _
        rw [getE_put, if_neg (fun q => e (by injection q)), h]
end
def knownE (w : Nat) : List (Key × D) := (rowsOver w).foldl (btF rwD shw) []
theorem known_eq {w : Nat} (h : w ≤ 6) : gn_by_text [.list ((rowsOver w).map rwD)] = some (knownE w) := bt_eq _ (fun x hx => rshow_eq x (over_dig h x hx)) (by have := over_len h; omega)
theorem known_get {w l : Nat} (hw : w ≤ 6) (hl : l ≤ 6) {r : Rw} (h : r.ok w l) : getE (knownE w) (.inr (shw r)) = some (rwD r) :=
  bt_get _ _ (fun x hx e => by rw [shw_inj (over_dig hw x hx) (ok_dig hw hl h) e]) (.inl ⟨r, at_mem hl h, rfl⟩)
def wirD (w : Nat) : D := .tuple [.str "wires", .int w]
def wirT (w : Nat) : Str := Txt.join " " ["wires", sN w]
theorem ok_w_wires : okS "wires" = true := by decide +kernel
theorem wir_shown {w : Nat} (h : w < 10) : g_row_shown [wirD w] = some (.str (wirT w)) := rshow2 _ _ ((eqS ok_w_wires ok_w_where).trans (congrArg (fun z => some (PyData.bool z)) (show (("wires" : Str) == ("where" : Str)) = false by decide +kernel))) h (by
  have a1 : (Str.ofString " ").length = 1 := by decide +kernel
  have s1 : (Str.ofString "wires").length = 5 := by decide +kernel
  have d : (sN w).length = 1 := by rw [sN_d h]; rfl
  exact joinOk_of (by simp [a1, s1, d]))
def wir6 : List Nat := [1, 2, 3, 4, 5, 6]
theorem wrows_eq : g_wires_rows [] = some (.list (wir6.map wirD)) := by rfl
theorem wirT_cd {w : Nat} (h : w < 10) : wirT w = ⟨#[119, 105, 114, 101, 115, 32, 48 + w]⟩ := by simp only [wirT, tj, Str.join, sN_d h, l_sp, l_wires]; rfl
theorem wir6_lt : ∀ w ∈ wir6, w < 10 := by decide
theorem first_get {w : Nat} (h0 : 1 ≤ w) (h : w ≤ 6) : ∃ es, gn_by_text [.list (wir6.map wirD)] = some es ∧ getE es (.inr (wirT w)) = some (wirD w) := by
  refine ⟨_, bt_eq (T := wirT) wir6 (fun x hx => wir_shown (wir6_lt x hx)) (by decide), bt_get _ _ (fun x hx e => ?_) (.inl ⟨w, ?_, rfl⟩)⟩
  · rw [wirT_cd (wir6_lt x hx), wirT_cd (by omega)] at e
    simp at e
    rw [e]
  · match w, h0, h with
    | 1, _, _ => decide
    | 2, _, _ => decide
    | 3, _, _ => decide
    | 4, _, _ => decide
    | 5, _, _ => decide
    | 6, _, _ => decide

theorem free_cut {c : Nat} : ∀ {a b r s : List Nat}, c ∉ a → c ∉ b → a ++ c :: r = b ++ c :: s → a = b ∧ r = s
  | [], [], r, s, _, _, h => ⟨rfl, by injection h⟩
  | [], y :: b, r, s, _, hb, h => by injection h with h1 h2; exact absurd (h1 ▸ List.mem_cons_self) hb
  | x :: a, [], r, s, ha, _, h => by injection h with h1 h2; exact absurd (h1 ▸ List.mem_cons_self) ha
  | x :: a, y :: b, r, s, ha, hb, h => by
    injection h with h1 h2
    obtain ⟨e1, e2⟩ := free_cut (fun z => ha (List.mem_cons_of_mem _ z)) (fun z => hb (List.mem_cons_of_mem _ z)) h2
    exact ⟨by rw [h1, e1], e2⟩
theorem join_cps (c : Nat) (x y : Str) (l : List Str) : (Str.join ⟨#[c]⟩ (x :: y :: l)).cps.toList = x.cps.toList ++ c :: (Str.join ⟨#[c]⟩ (y :: l)).cps.toList := by
  show ((x ++ ⟨#[c]⟩) ++ Str.join ⟨#[c]⟩ (y :: l)).cps.toList = _
  rw [Str.cps_append, Str.cps_append]
  simp
theorem join_inj (c : Nat) : ∀ {A B : List Str}, A ≠ [] → B ≠ [] → (∀ x ∈ A, c ∉ x.cps.toList) → (∀ x ∈ B, c ∉ x.cps.toList) → Str.join ⟨#[c]⟩ A = Str.join ⟨#[c]⟩ B → A = B
  | [], _, h, _, _, _, _ => absurd rfl h
  | _, [], _, h, _, _, _ => absurd rfl h
  | [x], [y], _, _, _, _, h => by have h : x = y := h; rw [h]
  | [x], y :: z :: B, _, _, ha, hb, h => by
    have h := congrArg (fun s : Str => s.cps.toList) h
    simp only [join_cps] at h
    have h : x.cps.toList = _ := h
    exact absurd (h ▸ (by simp)) (ha x List.mem_cons_self)
  | x :: z :: A, [y], _, _, ha, hb, h => by
    have h := congrArg (fun s : Str => s.cps.toList) h
    simp only [join_cps] at h
    have h : _ = y.cps.toList := h
    exact absurd (h ▸ (by simp)) (hb y List.mem_cons_self)
  | x :: x2 :: A, y :: y2 :: B, _, _, ha, hb, h => by
    have h := congrArg (fun s : Str => s.cps.toList) h
    simp only [join_cps] at h
    obtain ⟨e1, e2⟩ := free_cut (ha x List.mem_cons_self) (hb y List.mem_cons_self) h
    have e3 : x2 :: A = y2 :: B := join_inj c (by simp) (by simp) (fun z hz => ha z (List.mem_cons_of_mem _ hz)) (fun z hz => hb z (List.mem_cons_of_mem _ hz)) (Str.ext' (Array.ext' e2))
    rw [e3, Str.ext' (Array.ext' e1)]
theorem split_join {c : Nat} {A : List Str} (h : A ≠ []) (hf : ∀ x ∈ A, c ∉ x.cps.toList) : Txt.split (Str.join ⟨#[c]⟩ A) ⟨#[c]⟩ = A := by
  refine join_inj c (fun e => ?_) h (StrLaws.split_free _ c) hf (StrLaws.join_split _ _)
  unfold Txt.split at e
  split at e
  · cases e
  · split at e
    · cases e
    · rw [StrLaws.partsBetween_eq] at e
      obtain ⟨p, r, q⟩ := StrLaws.partsFrom_ne (Str.join ⟨#[c]⟩ A) (⟨#[c]⟩ : Str).length 0 (Builtin.Str.occurrences (Str.join ⟨#[c]⟩ A) ⟨#[c]⟩ 0 (Str.join ⟨#[c]⟩ A).length ((Str.join ⟨#[c]⟩ A).length + 1))
      rw [q] at e; cases e

def txs (w : Nat) (rs : List Rw) : List Str := wirT w :: rs.map shw
def Few (x : Str) : Prop := x.length ≤ 40 ∧ (∀ c ∈ x.cps.toList, c < 128) ∧ (10 : Nat) ∉ x.cps.toList
theorem few_shw {r : Rw} (h : dig r) : Few (shw r) := by
  rw [shw_cd h]
  refine ⟨by have := cd_len r; simp [Str.length]; omega, ?_, by simpa using cd_free h⟩
  intro c hc
  have hc : c ∈ cd r := by simpa using hc
  cases r with
  | pl r => cases r <;> simp [cd, cdR] at hc <;> simp [dig, digR] at h <;> omega
  | look j => simp [cd] at hc; simp [dig] at h; omega
  | wflip m j => simp [cd] at hc; simp [dig] at h; omega
  | wsign m j => simp [cd] at hc; simp [dig] at h; omega
theorem few_wir {w : Nat} (h : w < 10) : Few (wirT w) := by
  rw [wirT_cd h]
  refine ⟨by simp [Str.length], fun c hc => ?_, by simp; omega⟩
  simp at hc
  omega
theorem few_txs {w : Nat} {rs : List Rw} (hw : w < 10) (h : ∀ r ∈ rs, dig r) : ∀ x ∈ txs w rs, Few x := by
  intro x hx
  rcases List.mem_cons.mp hx with rfl | hx
  · exact few_wir hw
  · obtain ⟨r, hr, rfl⟩ := List.mem_map.mp hx
    exact few_shw (h r hr)
theorem sum_few : ∀ {l : List Str}, (∀ x ∈ l, Few x) → (l.map (·.length)).sum ≤ 40 * l.length
  | [], _ => by simp
  | x :: l, h => by
    have := sum_few (fun y hy => h y (List.mem_cons_of_mem _ hy))
    have := (h x List.mem_cons_self).1
    simp only [List.map_cons, List.sum_cons, List.length_cons]
    omega
theorem nl_len : (Str.ofString "\n").length = 1 := by decide +kernel
theorem join_few {l : List Str} (h : ∀ x ∈ l, Few x) (hl : l.length ≤ 100) : JoinOk "\n" l = true ∧ (Str.join "\n" l).length ≤ 4200 ∧ ∀ c ∈ (Str.join "\n" l).cps.toList, c < 128 := by
  have s := sum_few h
  refine ⟨joinOk_of (by rw [nl_len]; omega), ?_, ?_⟩
  · have := StrLaws.join_length_le "\n" l
    rw [nl_len] at this
    omega
  · clear s hl
    rw [l_nl]
    induction l with
    | nil => intro c hc; simp [Str.join, Str.empty] at hc
    | cons x l ih =>
      cases l with
      | nil => exact (h x List.mem_cons_self).2.1
      | cons y l =>
        intro c hc
        rw [join_cps] at hc
        rcases List.mem_append.mp hc with hc | hc
        · exact (h x List.mem_cons_self).2.1 c hc
        · rcases List.mem_cons.mp hc with rfl | hc
          · decide
          · exact ih (fun z hz => h z (List.mem_cons_of_mem _ hz)) c hc
theorem ne_ww : neD (.str "where") (.str "where") = some (.bool false) := (neS ok_w_where ok_w_where).trans (by simp)
theorem ne_w {x : Str} (h : okS x = true) (e : (x == ("where" : Str)) = false) : neD (.str x) (.str "where") = some (.bool true) := (neS h ok_w_where).trans (by rw [e]; rfl)
theorem ne_sw : neD (.str "swing") (.str "where") = some (.bool true) := ne_w ok_w_swing (by decide +kernel)
theorem ne_tu : neD (.str "turn") (.str "where") = some (.bool true) := ne_w ok_w_turn (by decide +kernel)
theorem ne_fl : neD (.str "flip") (.str "where") = some (.bool true) := ne_w ok_w_flip (by decide +kernel)
theorem ne_ti : neD (.str "tie") (.str "where") = some (.bool true) := ne_w ok_w_tie (by decide +kernel)
theorem ne_si : neD (.str "sign") (.str "where") = some (.bool true) := ne_w ok_w_sign (by decide +kernel)
theorem ne_cr : neD (.str "cross") (.str "where") = some (.bool true) := ne_w ok_w_cross (by decide +kernel)
theorem look_where {w l : Nat} : ∀ {r : Rw}, r.ok w l → g_may_stand [rwD r, .int l] = some (.bool true) := by
  intro r h
  cases r with
  | pl r => cases r <;> simp [rwD, rowD, g_may_stand, runB, b_may_stand, startD, at0, ne_sw, ne_tu, ne_fl, ne_ti, ne_si, ne_cr]
  | look j =>
    have h : j < w ∧ l < 6 := h
    have : (l : Int) < 6 := by omega
    simp [rwD, g_may_stand, runB, b_may_stand, startD, at0, this]
  | wflip m j =>
    have h : m < l ∧ j < w := h
    simp [rwD, g_may_stand, runB, b_may_stand, startD, at0, at21, h.1, ne_ww]
  | wsign m j =>
    have h : m < l ∧ j < w := h
    simp [rwD, g_may_stand, runB, b_may_stand, startD, at0, at21, h.1, ne_ww]
def rr_1 : Sf := sSet 6 (oDGet1 2 (oV 5))
def rr_2 : Sf := sIf (oOr (ob (o2 (oV 6) (oC .none) isD)) (oOr (ob (o2 (oLenO 3) (oC (.int 60)) eqD)) (oNot (ob (VL.os (oCons (oV 6) (oCons (oV 4) (oNil))) g_may_stand))))) (sNo) (sNx)
def rr_3 : Sf := sApp 3 (oV 6)
def rr_4 : Sf := sIf (ob (o2 (o2 (oV 6) (oC (.int 0)) ixD) (oC (.str "look")) eqD)) (sSet 4 (o2 (oV 4) (oC (.int 1)) addD)) (sNx)
theorem rr_st : l1_rows_read = sSeq rr_1 (sSeq rr_2 (sSeq rr_3 (rr_4))) := rfl
theorem rr_x {w l l' : Nat} {es : List (Key × D)} {L : D} {ds : List D} {t : Str} {R : D} {s : Str} {b : Bool} {z6 : Sl} (hg : getE es (.inr t) = some R) (hn : isN R = false) (hm : g_may_stand [R, .int l] = some (.bool true)) (h0 : ixD R (.int 0) = some (.str s)) (h1 : eqD (.str s) (.str "look") = some (.bool b)) (hl' : l + (if b = true then 1 else 0) = l') (hd : ds.length < 60) :
    l1_rows_read [.fz L, .fz (.int w), .od es, .ow ds, .fz (.int l), .fz (.str t), z6] = some (.nx, [.fz L, .fz (.int w), .od es, .ow (ds ++ [R]), .fz (.int l'), .fz (.str t), .fz R]) := by
  have hd' : ¬ ((ds.length : Int) = 60) := by omega
  have hs : ds.length < sizeLine := by show _ < 16777216; omega
  have e1 : rr_1 [.fz L, .fz (.int w), .od es, .ow ds, .fz (.int l), .fz (.str t), z6] = some (.nx, [.fz L, .fz (.int w), .od es, .ow ds, .fz (.int l), .fz (.str t), .fz R]) := by
    simp [rr_1, oDGet1, slK, keyD, hg]
  have e2 : rr_2 [.fz L, .fz (.int w), .od es, .ow ds, .fz (.int l), .fz (.str t), .fz R] = some (.nx, [.fz L, .fz (.int w), .od es, .ow ds, .fz (.int l), .fz (.str t), .fz R]) := by
    simp [rr_2, hn, hm, hd']
  have e3 : rr_3 [.fz L, .fz (.int w), .od es, .ow ds, .fz (.int l), .fz (.str t), .fz R] = some (.nx, [.fz L, .fz (.int w), .od es, .ow (ds ++ [R]), .fz (.int l), .fz (.str t), .fz R]) := by
    simp [rr_3, hs]
  have e4 : rr_4 [.fz L, .fz (.int w), .od es, .ow (ds ++ [R]), .fz (.int l), .fz (.str t), .fz R] = some (.nx, [.fz L, .fz (.int w), .od es, .ow (ds ++ [R]), .fz (.int l'), .fz (.str t), .fz R]) := by
    subst hl'
    cases b <;> simp [rr_4, h0, h1]
  rw [rr_st, nseq e1, nseq e2, nseq e3, e4]

theorem rr_loop {w : Nat} (hw : w ≤ 6) (L : D) : ∀ (rs : List Rw) (l : Nat) (ds : List D) (z5 z6 : Sl), l ≤ 6 → okAll w l rs → ds.length + rs.length ≤ 60 → ∃ y4 y5 y6, loop (gN 5) l1_rows_read ((rs.map shw).map .str) [.fz L, .fz (.int w), .od (knownE w), .ow ds, .fz (.int l), z5, z6] = some (.nx, [.fz L, .fz (.int w), .od (knownE w), .ow (ds ++ rs.map rwD), y4, y5, y6])
  | [], l, ds, z5, z6, _, _, _ => ⟨.fz (.int l), z5, z6, by simp⟩
  | r :: rs, l, ds, z5, z6, hl, ho, hn => by
    obtain ⟨h1, h2⟩ := ho
    obtain ⟨s, g0, g1, _, _⟩ := islook_eq r
    simp only [List.length_cons] at hn
    have hl2 : l + (if r.isLook = true then 1 else 0) ≤ 6 := by
      cases r with
      | look j => have : j < w ∧ l < 6 := h1; simp [Rw.isLook]; omega
      | _ => simp [Rw.isLook]; exact hl
    have st := rr_x (w := w) (l := l) (L := L) (ds := ds) (z6 := z6) (known_get hw hl h1) (by cases r with | pl r => cases r <;> rfl | _ => rfl) (look_where h1) g0 g1 rfl (by omega)
    obtain ⟨y4, y5, y6, e⟩ := rr_loop hw L rs _ (ds ++ [rwD r]) (.fz (.str (shw r))) (.fz (rwD r)) hl2 h2 (by simp; omega)
    refine ⟨y4, y5, y6, ?_⟩
    rw [List.map_cons, List.map_cons, loop_step (δ1 := [.fz L, .fz (.int w), .od (knownE w), .ow ds, .fz (.int l), .fz (.str (shw r)), z6]) (by simp) st, e]
    simp
theorem rread_x {w : Int} {TX : D} {ts R : List D} {es : List (Key × D)} {y4 y5 y6 : Sl} (hi : itsD TX = some ts) (s1 : sDOwn 2 (oCons (VL.os (oCons (oV 1) (oNil)) g_rows_over) (oNil)) gn_by_text [.fz TX, .fz (.int w), .un, .un, .un, .un, .un] = some (.nx, [.fz TX, .fz (.int w), .od es, .un, .un, .un, .un]))
    (e : loop (gN 5) l1_rows_read ts [.fz TX, .fz (.int w), .od es, .ow [], .fz (.int 0), .un, .un] = some (.nx, [.fz TX, .fz (.int w), .od es, .ow R, y4, y5, y6])) (ht : tupleD [.list R] = some (.tuple R)) : g_rows_read [TX, .int w] = some (.tuple R) := by
  simp [-sSeq, -sIf, sSeq_k, sIf_k, g_rows_read, runB, b_rows_read, startD, s1, hi, e, dFz, ht]
theorem rread_s {w : Int} {TX L : D} {es : List (Key × D)} (h1 : g_rows_over [.int w] = some L) (h2 : gn_by_text [L] = some es) : sDOwn 2 (oCons (VL.os (oCons (oV 1) (oNil)) g_rows_over) (oNil)) gn_by_text [.fz TX, .fz (.int w), .un, .un, .un, .un, .un] = some (.nx, [.fz TX, .fz (.int w), .od es, .un, .un, .un, .un]) := by
  simp [sDOwn, h1, h2]
theorem rread_eq {w : Nat} (h0 : 1 ≤ w) (hw : w ≤ 6) {rs : List Rw} (ho : okAll w 0 rs) (hn : rs.length ≤ 60) : g_rows_read [.list ((rs.map shw).map .str), .int w] = some (.tuple (rs.map rwD)) := by
  obtain ⟨y4, y5, y6, e⟩ := rr_loop hw (.list ((rs.map shw).map .str)) rs 0 [] .un .un (by decide) ho (by simpa using hn)
  exact rread_x rfl (rread_s (over_eq h0 hw) (known_eq hw)) e rfl
theorem okAll_dig {w : Nat} (hw : w ≤ 6) : ∀ (rs : List Rw) (l : Nat), l ≤ 6 → okAll w l rs → ∀ r ∈ rs, dig r
  | [], _, _, _, r, hr => by cases hr
  | q :: rs, l, hl, ho, r, hr => by
    have hl2 : l + (if q.isLook = true then 1 else 0) ≤ 6 := by
      have h1 := ho.1
      cases q with
      | look j => have : j < w ∧ l < 6 := h1; simp [Rw.isLook]; omega
      | _ => simp [Rw.isLook]; exact hl
    rcases List.mem_cons.mp hr with rfl | hr
    · exact ok_dig hw hl ho.1
    · exact okAll_dig hw rs _ hl2 ho.2 r hr
theorem at0L (a : D) (l : List D) : ixD (.list (a :: l)) (.int 0) = some a := by
  show atI _ _ = _
  exact atI_of (j := 0) rfl rfl
theorem read_x {T t0 : Str} {w : Int} {F WL C R : D} {ts : List D} {es : List (Key × D)} (sp : splitD (.str T) (.str "\n") = some (.list ts)) (a0 : ixD (.list ts) (.int 0) = some (.str t0)) (hw : g_wires_rows [] = some WL) (e1 : gn_by_text [WL] = some es) (e2 : getE es (.inr t0) = some F) (n1 : isN F = false) (a1 : ixD F (.int 1) = some (.int w)) (cu : slD (.list ts) (some 1) none = some C) (rr : g_rows_read [C, .int w] = some R) : g_read [.str T] = some (.tuple [.int w, R]) := by
  have gc : oDGetC (oCons (VL.os oNil g_wires_rows) (oNil)) gn_by_text (o2 (oV 1) (oC (.int 0)) ixD) [.fz (.str T), .fz (.list ts), .un] = some F := by simp [oDGetC, hw, e1, a0, keyD, e2]
  simp [-sSeq, -sIf, sSeq_k, sIf_k, g_read, runB, b_read, startD, sp, gc, n1, a1, cu, rr]
theorem cut1 (a : D) (l : List D) : slD (.list (a :: l)) (some 1) none = some (.list l) := by
  show some (PyData.list (cutD _ _ _)) = _
  congr 2
  unfold cutD
  simp [HT.sIx]
theorem split_eq {l : List Str} (h : l ≠ []) (F : ∀ x ∈ l, Few x) (hl : (Str.join "\n" l).length ≤ 4200) : splitD (.str (Txt.join "\n" l)) (.str "\n") = some (.list (l.map .str)) := by
  have c : ((Str.ofString "\n").length == 0) = false ∧ (Txt.join "\n" l).length + 2 ≤ sizeLine := ⟨by rw [nl_len]; rfl, by rw [tj]; exact Nat.le_trans (Nat.add_le_add_right hl 2) (by decide)⟩
  have e : Txt.split (Txt.join "\n" l) "\n" = l := by rw [tj, l_nl]; exact split_join h fun x hx => (F x hx).2.2
  have q : splitD (.str (Txt.join "\n" l)) (.str "\n") = if ((Str.ofString "\n").length == 0) = false ∧ (Txt.join "\n" l).length + 2 ≤ sizeLine then some (.list ((Txt.split (Txt.join "\n" l) "\n").map .str)) else none := rfl
  rw [q, if_pos c, e]
theorem read_eq {w : Nat} (h0 : 1 ≤ w) (hw : w ≤ 6) {rs : List Rw} (ho : okAll w 0 rs) (hn : rs.length ≤ 60) : g_read [.str (Txt.join "\n" (txs w rs))] = some (cirD w rs) := by
  have F := few_txs (w := w) (by omega) (okAll_dig hw rs 0 (by decide) ho)
  have hl : (txs w rs).length ≤ 100 := by unfold txs; rw [List.length_cons, List.length_map]; omega
  obtain ⟨es, e1, e2⟩ := first_get h0 hw
  exact read_x (split_eq (by simp [txs]) F (join_few F hl).2.1) (at0L _ _) wrows_eq e1 e2 rfl rfl (cut1 _ _) (rread_eq h0 hw ho hn)


section
variable {α : Type} {R : α → D} {T : α → Str}
theorem bt_none {t : Str} : ∀ (xs : List α) (es : List (Key × D)), (∀ x ∈ xs, T x ≠ t) → getE es (.inr t) = none → getE (xs.foldl (btF R T) es) (.inr t) = none
  | [], _, _, h => h
  | x :: xs, es, u, h => bt_none xs _ (fun y hy => u y (List.mem_cons_of_mem _ hy)) (by show getE (putE _ _ _) _ = _; rw [getE_put, if_neg (fun q => u x List.mem_cons_self (by injection q)), h])
end
theorem known_none {w : Nat} {t : Str} (h : ∀ r ∈ rowsOver w, shw r ≠ t) : getE (knownE w) (.inr t) = none := bt_none _ _ h rfl
theorem first_none {t : Str} (h : ∀ w ∈ wir6, wirT w ≠ t) : ∃ es, gn_by_text [.list (wir6.map wirD)] = some es ∧ getE es (.inr t) = none := ⟨_, bt_eq (T := wirT) wir6 (fun x hx => wir_shown (wir6_lt x hx)) (by decide), bt_none _ _ h rfl⟩
def bR (k : Int) : Xn := (("BadRow" : Str), k)
/-! a text that is refused -/
def Ref (es : List (Key × D)) (l n : Nat) (t : Str) : Prop := getE es (.inr t) = none ∨ ∃ R, getE es (.inr t) = some R ∧ isN R = false ∧ (n = 60 ∨ g_may_stand [R, .int (l : Int)] = some (.bool false))
def rt_ : Dv → Option Bool := oOr (ob (o2 (oV 6) (oC .none) isD)) (oOr (ob (o2 (oLenO 3) (oC (.int 60)) eqD)) (oNot (ob (VL.os (oCons (oV 6) (oCons (oV 4) (oNil))) g_may_stand))))
def rx_ : Xf := xSeq rr_1 (xIf rt_ (xRaiseK "BadRow" (o2 (oLenO 3) (oC (.int 2)) addD)) (xNo))
theorem bxrr_st : bx_rows_read = xSeq (sDOwn 2 (oCons (VL.os (oCons (oV 1) (oNil)) g_rows_over) (oNil)) gn_by_text) (xSeq (sOwn 3 (oNil)) (xSeq (sSet 4 (oC (.int 0))) (xFor (oI (oV 0) itsD) (gN 5) l1_rows_read rx_))) := rfl
section
variable {w l : Nat} {es : List (Key × D)} {L : D} {ds : List D} {t : Str} {z6 : Sl}
theorem rx_no {R : D} (hg : getE es (.inr t) = some R) (hn : isN R = false) (hm : g_may_stand [R, .int l] = some (.bool true)) (hd : ds.length < 60) : rx_ [.fz L, .fz (.int w), .od es, .ow ds, .fz (.int l), .fz (.str t), z6] = none := by
  have hd' : ¬ ((ds.length : Int) = 60) := by omega
  have e1 : rr_1 [.fz L, .fz (.int w), .od es, .ow ds, .fz (.int l), .fz (.str t), z6] = some (.nx, [.fz L, .fz (.int w), .od es, .ow ds, .fz (.int l), .fz (.str t), .fz R]) := by
    simp [rr_1, oDGet1, slK, keyD, hg]
  have e2 : rt_ [.fz L, .fz (.int w), .od es, .ow ds, .fz (.int l), .fz (.str t), .fz R] = some false := by
    simp [rt_, hn, hm, hd']
  simp only [rx_, xSeq, e1, Option.bind_some, xIf, e2]
  rfl
theorem rx_yes (h : Ref es l ds.length t) (hd : ds.length ≤ 60) : ∃ δ, rx_ [.fz L, .fz (.int w), .od es, .ow ds, .fz (.int l), .fz (.str t), z6] = some (bR ((ds.length : Int) + 2), δ) := by
  have hk : 0 < (ds.length : Int) + 2 ∧ (ds.length : Int) + 2 ≤ 100 := by omega
  have fin : ∀ R : D, rr_1 [.fz L, .fz (.int w), .od es, .ow ds, .fz (.int l), .fz (.str t), z6] = some (.nx, [.fz L, .fz (.int w), .od es, .ow ds, .fz (.int l), .fz (.str t), .fz R]) → rt_ [.fz L, .fz (.int w), .od es, .ow ds, .fz (.int l), .fz (.str t), .fz R] = some true → ∃ δ, rx_ [.fz L, .fz (.int w), .od es, .ow ds, .fz (.int l), .fz (.str t), z6] = some (bR ((ds.length : Int) + 2), δ) := fun R e1 e2 => by
    simp only [rx_, xSeq, e1, Option.bind_some, xIf, e2]
    exact ⟨_, by simp [hk]; exact ⟨rfl, rfl⟩⟩
  rcases h with h | ⟨R, h, hn, h2⟩
  · exact fin .none (by simp [rr_1, oDGet1, slK, keyD, h]) (by simp [rt_])
  · refine fin R (by simp [rr_1, oDGet1, slK, keyD, h]) ?_
    rcases h2 with h2 | h2
    · have : (ds.length : Int) = 60 := by omega
      simp [rt_, hn, this]
    · by_cases q : (ds.length : Int) = 60
      · simp [rt_, hn, q]
      · simp [rt_, hn, q, h2]
end
def lks : List Rw → Nat
  | [] => 0
  | r :: rs => (if r.isLook then 1 else 0) + lks rs
theorem isN_rw (r : Rw) : isN (rwD r) = false := by cases r with | pl r => cases r <;> rfl | _ => rfl
theorem ok_look {w l : Nat} {r : Rw} (hl : l ≤ 6) (h : r.ok w l) : l + (if r.isLook = true then 1 else 0) ≤ 6 := by
  cases r with
  | look j => have : j < w ∧ l < 6 := h; simp [Rw.isLook]; omega
  | _ => simp [Rw.isLook]; exact hl
theorem xl_bad {w : Nat} (hw : w ≤ 6) (L : D) (t : Str) (ts : List D) : ∀ (rs : List Rw) (l : Nat) (ds : List D) (z5 z6 : Sl), l ≤ 6 → okAll w l rs → ds.length + rs.length ≤ 60 → Ref (knownE w) (l + lks rs) (ds.length + rs.length) t → ∃ δ, xloop (gN 5) l1_rows_read rx_ ((rs.map shw).map .str ++ .str t :: ts) [.fz L, .fz (.int w), .od (knownE w), .ow ds, .fz (.int l), z5, z6] = some (bR (((ds.length + rs.length : Nat) : Int) + 2), δ)
  | [], l, ds, z5, z6, _, _, hn, hr => by
    obtain ⟨δ, e⟩ := rx_yes (w := w) (L := L) (z6 := z6) (l := l) (ds := ds) hr hn
    refine ⟨δ, ?_⟩
    show ((gN 5 (.str t) _).bind _) = _
    simp only [gN, Option.bind_some, List.set_cons_succ, List.set_cons_zero, e]
    rfl
  | r :: rs, l, ds, z5, z6, hl, ho, hn, hr => by
    obtain ⟨h1, h2⟩ := ho
    obtain ⟨s, g0, g1, _, _⟩ := islook_eq r
    simp only [List.length_cons] at hn hr
    have hg := known_get hw hl h1
    have st := rr_x (w := w) (l := l) (L := L) (ds := ds) (z6 := z6) hg (isN_rw r) (look_where h1) g0 g1 rfl (by omega)
    have sx := rx_no (w := w) (l := l) (L := L) (ds := ds) (z6 := z6) hg (isN_rw r) (look_where h1) (by omega)
    have hr' : Ref (knownE w) (l + (if r.isLook = true then 1 else 0) + lks rs) ((ds ++ [rwD r]).length + rs.length) t := by
      rw [List.length_append, List.length_singleton, Nat.add_assoc l, Nat.add_assoc ds.length, Nat.add_comm 1]; exact hr
    obtain ⟨δ, e⟩ := xl_bad hw L t ts rs _ (ds ++ [rwD r]) (.fz (.str (shw r))) (.fz (rwD r)) (ok_look hl h1) h2 (by simp; omega) hr'
    refine ⟨δ, ?_⟩
    rw [List.map_cons, List.map_cons, List.cons_append]
    show ((gN 5 (.str (shw r)) _).bind _) = _
    simp only [gN, Option.bind_some, List.set_cons_succ, List.set_cons_zero, sx, st, List.length_cons]
    rw [e, List.length_append, List.length_singleton, Nat.add_assoc, Nat.add_comm 1]
theorem xl_good {w : Nat} (hw : w ≤ 6) (L : D) : ∀ (rs : List Rw) (l : Nat) (ds : List D) (z5 z6 : Sl), l ≤ 6 → okAll w l rs → ds.length + rs.length ≤ 60 → xloop (gN 5) l1_rows_read rx_ ((rs.map shw).map .str) [.fz L, .fz (.int w), .od (knownE w), .ow ds, .fz (.int l), z5, z6] = none
  | [], l, ds, z5, z6, _, _, hn => rfl
  | r :: rs, l, ds, z5, z6, hl, ho, hn => by
    obtain ⟨h1, h2⟩ := ho
    obtain ⟨s, g0, g1, _, _⟩ := islook_eq r
    simp only [List.length_cons] at hn
    have hg := known_get hw hl h1
    have st := rr_x (w := w) (l := l) (L := L) (ds := ds) (z6 := z6) hg (isN_rw r) (look_where h1) g0 g1 rfl (by omega)
    have sx := rx_no (w := w) (l := l) (L := L) (ds := ds) (z6 := z6) hg (isN_rw r) (look_where h1) (by omega)
    have e := xl_good hw L rs _ (ds ++ [rwD r]) (.fz (.str (shw r))) (.fz (rwD r)) (ok_look hl h1) h2 (by simp; omega)
    rw [List.map_cons, List.map_cons]
    show ((gN 5 (.str (shw r)) _).bind _) = _
    simp only [gN, Option.bind_some, List.set_cons_succ, List.set_cons_zero, sx, st]
    exact e
theorem xrr_x {w : Int} {TX : D} {ts : List D} {es : List (Key × D)} {o : Option (Xn × Dv)} (hi : itsD TX = some ts) (s1 : sDOwn 2 (oCons (VL.os (oCons (oV 1) (oNil)) g_rows_over) (oNil)) gn_by_text [.fz TX, .fz (.int w), .un, .un, .un, .un, .un] = some (.nx, [.fz TX, .fz (.int w), .od es, .un, .un, .un, .un]))
    (e : xloop (gN 5) l1_rows_read rx_ ts [.fz TX, .fz (.int w), .od es, .ow [], .fz (.int 0), .un, .un] = o) : x_rows_read [TX, .int w] = o.map (·.1) := by
  have s2 : sOwn 3 oNil [.fz TX, .fz (.int w), .od es, .un, .un, .un, .un] = some (.nx, [.fz TX, .fz (.int w), .od es, .ow [], .un, .un, .un]) := by simp
  have s3 : sSet 4 (oC (.int 0)) [.fz TX, .fz (.int w), .od es, .ow [], .un, .un, .un] = some (.nx, [.fz TX, .fz (.int w), .od es, .ow [], .fz (.int 0), .un, .un]) := by simp
  have it : (oI (oV 0) itsD) [.fz TX, .fz (.int w), .od es, .ow [], .fz (.int 0), .un, .un] = some ts := by simp [hi]
  have st : startD N_rows_read [TX, .int w] = [.fz TX, .fz (.int w), .un, .un, .un, .un, .un] := rfl
  unfold x_rows_read runX
  rw [if_pos (show [TX, PyData.int w].length = 2 from rfl), st, bxrr_st]
  simp only [xSeq, s1, s2, s3, Option.bind_some, xFor, it, e]
  cases o <;> rfl
theorem xread_x {T t0 : Str} {w : Int} {F WL C : D} {ts : List D} {es : List (Key × D)} {o : Option Xn} (sp : splitD (.str T) (.str "\n") = some (.list ts)) (a0 : ixD (.list ts) (.int 0) = some (.str t0)) (hw : g_wires_rows [] = some WL) (e1 : gn_by_text [WL] = some es) (e2 : getE es (.inr t0) = some F) (n1 : isN F = false) (a1 : ixD F (.int 1) = some (.int w)) (cu : slD (.list ts) (some 1) none = some C) (rr : x_rows_read [C, .int w] = o) : x_read [.str T] = o := by
  have gc : oDGetC (oCons (VL.os oNil g_wires_rows) (oNil)) gn_by_text (o2 (oV 1) (oC (.int 0)) ixD) [.fz (.str T), .fz (.list ts), .un] = some F := by simp [oDGetC, hw, e1, a0, keyD, e2]
  unfold x_read runX
  rw [if_pos (show [PyData.str T].length = 1 from rfl)]
  cases o <;> simp [bx_read, startD, sp, gc, n1, a1, cu, rr, xThen]
theorem xread_0 {T t0 : Str} {WL : D} {ts : List D} {es : List (Key × D)} (sp : splitD (.str T) (.str "\n") = some (.list ts)) (a0 : ixD (.list ts) (.int 0) = some (.str t0)) (hw : g_wires_rows [] = some WL) (e1 : gn_by_text [WL] = some es) (e2 : getE es (.inr t0) = none) : x_read [.str T] = some (bR 1) := by
  have gc : oDGetC (oCons (VL.os oNil g_wires_rows) (oNil)) gn_by_text (o2 (oV 1) (oC (.int 0)) ixD) [.fz (.str T), .fz (.list ts), .un] = some .none := by simp [oDGetC, hw, e1, a0, keyD, e2]
  unfold x_read runX
  rw [if_pos (show [PyData.str T].length = 1 from rfl)]
  simp [bx_read, startD, sp, gc]
  rfl

theorem isx_b (t : List (Str × Bool)) (k : Int) (b : Bool) (h : t.lookup ("BadRow" : Str) = some b) : isxD t (exD (bR k)) = some (.bool b) := by rw [isxD_ex]; show (List.lookup _ t).map _ = _; rw [show (bR k).1 = ("BadRow" : Str) from rfl, h]; rfl
theorem rowX_b {k : Int} (h : k ≠ 0) : rowXs ["BadRow"] (exD (bR k)) = some (.int k) := by
  simp [rowXs, exD, bR, h]
theorem ra_k {T : Str} {k : Int} (h0 : k ≠ 0) (h : x_read [.str T] = some (bR k)) : g__law_refused_at [.str T] = some (.int k) := by
  have i1 := isx_b tt_HasLooks k false (by decide +kernel)
  have i2 := isx_b tt_NoStep k false (by decide +kernel)
  have i3 := isx_b tt_TooGreat k false (by decide +kernel)
  have i4 := isx_b tt_UnlikeWires k false (by decide +kernel)
  have i5 := isx_b tt_BadRow k true (by decide +kernel)
  have i6 := isx_b tt_ValueError k true (by decide +kernel)
  have i7 : inD false (.bool true) (.list [.bool false, .bool false, .bool false, .bool false]) = some (.bool false) := rfl
  have l4 : lstD [.bool false, .bool false, .bool false, .bool false] = some (.list [.bool false, .bool false, .bool false, .bool false]) := rfl
  have hc : hs_WaveError.contains (bR k).1 = true := (by decide +kernel : hs_WaveError.contains ("BadRow" : Str) = true)
  have j1 : isiD "int" (.int k) = some (.bool true) := rfl
  have j2 : isiD "bool" (.int k) = some (.bool false) := rfl
  have ex : (xE (osX (oCons (oV 0) (oNil)) x_read)) [.fz (.str T), .un, .un] = some (bR k, [.fz (.str T), .un, .un]) := by simp [h]
  have e : (sTry 1 hs_WaveError (sDrop (VL.os (oCons (oV 0) (oNil)) g_read)) (xE (osX (oCons (oV 0) (oNil)) x_read)) (sSeq (sSet 2 (VL.os (oCons (o1 (oV 1) (isxD tt_HasLooks)) (oCons (o1 (oV 1) (isxD tt_NoStep)) (oCons (o1 (oV 1) (isxD tt_TooGreat)) (oCons (o1 (oV 1) (isxD tt_UnlikeWires)) (oNil))))) lstD)) (sSeq (sIf (oOr (oNot (ob (o1 (oV 1) (isxD tt_BadRow)))) (oOr (oNot (ob (o1 (oV 1) (isxD tt_ValueError)))) (ob (o2 (oC (.bool true)) (oV 2) (inD false))))) (sRet (o1 (oC (.int 1)) negD)) (sNx)) (sSeq (sIf (oOr (oNot (ob (o1 (o1 (oV 1) (rowXs ["BadRow"])) (isiD "int")))) (ob (o1 (o1 (oV 1) (rowXs ["BadRow"])) (isiD "bool")))) (sRet (o1 (oC (.int 1)) negD)) (sNx)) (sRet (o1 (oV 1) (rowXs ["BadRow"]))))))) [.fz (.str T), .un, .un] = some (.rt (.int k), [.fz (.str T), .un, .fz (.list [.bool false, .bool false, .bool false, .bool false])]) := by
    unfold sTry
    rw [ex]
    dsimp only
    rw [if_pos hc]
    simp [i1, i2, i3, i4, i5, i6, i7, l4, j1, j2, rowX_b h0, oNot]
  unfold g__law_refused_at runB
  rw [if_pos (show [PyData.str T].length = 1 from rfl)]
  have st : startD N__law_refused_at [.str T] = [.fz (.str T), .un, .un] := rfl
  rw [st]
  unfold b__law_refused_at
  simp only [sSeq, e, Option.bind_some]
theorem ra_0 {T : Str} {C : D} (h : x_read [.str T] = none) (g : g_read [.str T] = some C) : g__law_refused_at [.str T] = some (.int 0) := by
  have ex : (xE (osX (oCons (oV 0) (oNil)) x_read)) [.fz (.str T), .un, .un] = none := by simp [h]
  have st : startD N__law_refused_at [.str T] = [.fz (.str T), .un, .un] := rfl
  unfold g__law_refused_at runB
  rw [if_pos (show [PyData.str T].length = 1 from rfl), st]
  unfold b__law_refused_at sTry
  simp only [sSeq, ex]
  simp [g, sDrop]
theorem refuses {w : Nat} (h0 : 1 ≤ w) (hw : w ≤ 6) {rs : List Rw} (ho : okAll w 0 rs) (hn : rs.length ≤ 60) {t : Str} {ts : List Str} (ft : Few t) (fts : ∀ x ∈ ts, Few x) (hl : rs.length + ts.length ≤ 98) (hr : Ref (knownE w) (lks rs) rs.length t) :
    g__law_refused_at [.str (Txt.join "\n" (txs w rs ++ t :: ts))] = some (.int ((rs.length : Int) + 2)) := by
  have F : ∀ x ∈ txs w rs ++ t :: ts, Few x := fun x hx => by
    rcases List.mem_append.mp hx with hx | hx
    · exact few_txs (w := w) (by omega) (okAll_dig hw rs 0 (by decide) ho) x hx
    · rcases List.mem_cons.mp hx with rfl | hx
      · exact ft
      · exact fts x hx
  have hll : (txs w rs ++ t :: ts).length ≤ 100 := by unfold txs; simp; omega
  obtain ⟨es, e1, e2⟩ := first_get h0 hw
  have hr' : Ref (knownE w) (0 + lks rs) (([] : List D).length + rs.length) t := by rw [Nat.zero_add]; show Ref _ _ (0 + rs.length) t; rw [Nat.zero_add]; exact hr
  obtain ⟨δ, e⟩ := xl_bad hw (.list ((rs.map shw).map .str ++ .str t :: ts.map .str)) t (ts.map .str) rs 0 [] .un .un (by decide) ho (by simpa using hn) hr'
  have xr := xrr_x (w := (w : Int)) (TX := .list ((rs.map shw).map .str ++ .str t :: ts.map .str)) rfl (rread_s (over_eq h0 hw) (known_eq hw)) e
  have e3 : (txs w rs ++ t :: ts).map PyData.str = .str (wirT w) :: ((rs.map shw).map .str ++ .str t :: ts.map .str) := by simp [txs]
  have sp := split_eq (by simp [txs]) F (join_few F hll).2.1
  rw [e3] at sp
  refine ra_k (by omega) (xread_x sp (at0L _ _) wrows_eq e1 e2 rfl rfl (cut1 _ _) (xr.trans ?_))
  show some (bR _) = _
  simp
theorem refuses0 {t : Str} {ts : List Str} (ft : Few t) (fts : ∀ x ∈ ts, Few x) (hl : ts.length ≤ 90) (h : ∀ w ∈ wir6, wirT w ≠ t) : g__law_refused_at [.str (Txt.join "\n" (t :: ts))] = some (.int 1) := by
  have F : ∀ x ∈ t :: ts, Few x := fun x hx => (List.mem_cons.mp hx).elim (fun z => z ▸ ft) (fts x)
  obtain ⟨es, e1, e2⟩ := first_none h
  exact ra_k (by decide) (xread_0 (split_eq (by simp) F (join_few F (by simp; omega)).2.1) (at0L _ _) wrows_eq e1 e2)
theorem accepts {w : Nat} (h0 : 1 ≤ w) (hw : w ≤ 6) {rs : List Rw} (ho : okAll w 0 rs) (hn : rs.length ≤ 60) : g__law_refused_at [.str (Txt.join "\n" (txs w rs))] = some (.int 0) := by
  have F := few_txs (w := w) (by omega) (okAll_dig hw rs 0 (by decide) ho)
  have hl : (txs w rs).length ≤ 100 := by unfold txs; rw [List.length_cons, List.length_map]; omega
  obtain ⟨es, e1, e2⟩ := first_get h0 hw
  refine ra_0 (C := cirD w rs) (xread_x (split_eq (by simp [txs]) F (join_few F hl).2.1) (at0L _ _) wrows_eq e1 e2 rfl rfl (cut1 _ _) (xrr_x (w := (w : Int)) rfl (rread_s (over_eq h0 hw) (known_eq hw)) (xl_good hw _ rs 0 [] .un .un (by decide) ho (by simpa using hn)))) (read_eq h0 hw ho hn)

/-! bad texts -/
def numL : List Str := ["6", "7", "9", "-1", "+1", "01", "00", "1_0", "10", "", "a", "0.", "1000000000000000000000", "\t0"]
def shA : List Str := ["", " ", "swing", "swing 0 0", "Swing 0", "swing  0", "swing 0 ", " swing 0", "flip", "flip 0 1 2", "look"]
def shB : List Str := ["turn 0", "turn 0 0", "turn 0 8", "turn 0 9", "turn 0 -1", "turn 0 1 1", "turn 0 +1", "turn 0 04"]
def shC : List Str := ["tie 0", "tie 0 0", "sign 0 0", "cross 0 0", "sign 0", "cross 0 1 1", "where 0", "where 0 flip"]
def shD : List Str := ["where 6 flip 0", "where flip 0", "where 0 swing 0", "where 0 turn 0 3", "where 0 turn 0"]
def shE : List Str := ["where 0 turn 0 4 4", "where 0 look 0", "where -1 flip 0", "wires 3", "swim 0", "0", "swing\t0"]
def shpL : List Str := shA ++ shB ++ shC ++ shD ++ shE
def k1L : List Str := ["swing ", "flip ", "look "]
def k2L : List Str := ["tie ", "sign ", "cross "]
def k3L : List Str := [" flip 0", " turn 0 4"]
def fsA : List Str := ["", "wires", "wires 0", "wires 7", "wires 03", "wires +3", "wires 3 ", " wires 3", "Wires 3", "wires 3 3"]
def fsB : List Str := ["wires three", "wire 3", "wires  3", "swing 0", "wires 1_0", "wires -1", "wires 3.", "3"]
def fstL : List Str := fsA ++ fsB
def badL : List Str := shpL ++ (k1L.flatMap fun a => numL.map fun x => a ++ x) ++ numL.map (fun x => ("turn " : Str) ++ x ++ (" 1" : Str)) ++ (k2L.flatMap fun a => numL.map fun x => a ++ x ++ (" 0" : Str)) ++ (k2L.flatMap fun a => numL.map fun x => a ++ ("0 " : Str) ++ x) ++ (k3L.flatMap fun a => numL.map fun x => ("where " : Str) ++ x ++ a)
def fewB (t : Str) : Bool := decide (t.length ≤ 40) && t.cps.toList.all fun c => decide (c < 128) && decide (c ≠ 10)
theorem few_of {t : Str} (h : fewB t = true) : Few t := by
  unfold fewB at h
  rw [Bool.and_eq_true, List.all_eq_true] at h
  refine ⟨by simpa using h.1, fun c hc => ?_, fun hc => ?_⟩
  · have := h.2 c hc
    simp at this
    exact this.1
  · have := h.2 10 hc
    simp at this
def nbB (w : Nat) (t : Str) : Bool := (rowsOver w).all fun r => decide (cd r ≠ t.cps.toList)
theorem nb_of {w : Nat} (hw : w ≤ 6) {t : Str} (h : nbB w t = true) : getE (knownE w) (.inr t) = none := known_none fun r hr e => by
  have := List.all_eq_true.mp h r hr
  rw [← e, shw_cd (over_dig hw r hr)] at this
  simp at this
theorem over_up {w : Nat} (hw : w ≤ 6) : ∀ r ∈ rowsOver w, r ∈ rowsOver 6 := by
  intro r hr
  obtain ⟨i, hi, hr⟩ := List.mem_flatMap.mp hr
  have hi := List.mem_range.mp hi
  refine List.mem_flatMap.mpr ⟨i, List.mem_range.mpr (by omega), ?_⟩
  unfold rowsAt at hr ⊢
  rw [List.mem_append] at hr ⊢
  rcases hr with hr | hr
  · exact .inl hr
  · obtain ⟨o, ho, hr⟩ := List.mem_flatMap.mp hr
    exact .inr (List.mem_flatMap.mpr ⟨o, List.mem_range.mpr (by have := List.mem_range.mp ho; omega), hr⟩)
theorem bad_few : (badL.all fewB) = true := by decide +kernel
theorem bad_nb : (badL.all (nbB 6)) = true := by decide +kernel
theorem fst_few : (fstL.all fewB) = true := by decide +kernel
theorem fst_nb : (fstL.all fun t => wir6.all fun w => decide ([119, 105, 114, 101, 115, 32, 48 + w] ≠ t.cps.toList)) = true := by decide +kernel
theorem bad_none {w : Nat} (hw : w ≤ 6) {t : Str} (h : t ∈ badL) : getE (knownE w) (.inr t) = none := known_none fun r hr e => by
  have := List.all_eq_true.mp (List.all_eq_true.mp bad_nb t h) r (over_up hw r hr)
  rw [← e, shw_cd (over_dig hw r hr)] at this
  simp at this
theorem fst_none {t : Str} (h : t ∈ fstL) : ∀ w ∈ wir6, wirT w ≠ t := fun w hw e => by
  have := List.all_eq_true.mp (List.all_eq_true.mp fst_nb t h) w hw
  rw [← e, wirT_cd (wir6_lt w hw)] at this
  simp at this

theorem at_str (l : List Str) (i : Int) (h0 : 0 ≤ i) (h : i < (l.length : Int)) : ∃ t ∈ l, atI (l.map PyData.str) i = some (.str t) := by
  obtain ⟨n, rfl⟩ : ∃ n : Nat, i = n := ⟨i.toNat, by omega⟩
  have hn : n < l.length := by omega
  refine ⟨l[n], List.getElem_mem hn, ?_⟩
  exact atI_of (j := n) rfl (by rw [List.getElem?_map, List.getElem?_eq_getElem hn]; rfl)
def rtO (δ : Dv) (o : Option D) : Option D := (o.bind fun d => some (Fl.rt d, δ)).bind fun r => match r with
  | (.rt d, _) => some d
  | (.nx, _) => some .none
  | _ => none
theorem nb_x (c : Int) (t : Str) (h : atI (numL.map PyData.str) (c % 14) = some (.str t)) : g__law_number_bad [.int c] = some (.str t) := by
  have e : g__law_number_bad [.int c] = rtO [.fz (.int c), .fz (.list (numL.map .str))] (atI (numL.map PyData.str) (c % 14)) := rfl
  rw [e, h]; rfl
theorem nb_eq (c : Int) : ∃ t ∈ numL, g__law_number_bad [.int c] = some (.str t) := by
  obtain ⟨t, ht, e⟩ := at_str numL (c % 14) (by omega) (by show _ < ((14 : Nat) : Int); omega)
  exact ⟨t, ht, nb_x c t e⟩
theorem sb_x (c : Int) (t : Str) (h : atI (shpL.map PyData.str) (c % 39) = some (.str t)) : g__law_shape_bad [.int c] = some (.str t) := by
  have e : g__law_shape_bad [.int c] = rtO [.fz (.int c), .fz (.list (shpL.map .str))] (atI (shpL.map PyData.str) (c % 39)) := rfl
  rw [e, h]; rfl
theorem sb_eq (c : Int) : ∃ t ∈ shpL, g__law_shape_bad [.int c] = some (.str t) := by
  obtain ⟨t, ht, e⟩ := at_str shpL (c % 39) (by omega) (by show _ < ((39 : Nat) : Int); omega)
  exact ⟨t, ht, sb_x c t e⟩
theorem fb_x (c : Int) (t : Str) (h : atI (fstL.map PyData.str) (c % 18) = some (.str t)) : g__law_first_bad [.int c] = some (.str t) := by
  have e : g__law_first_bad [.int c] = rtO [.fz (.int c), .fz (.list (fstL.map .str))] (atI (fstL.map PyData.str) (c % 18)) := rfl
  rw [e, h]; rfl
theorem fb_eq (c : Int) : ∃ t ∈ fstL, g__law_first_bad [.int c] = some (.str t) := by
  obtain ⟨t, ht, e⟩ := at_str fstL (c % 18) (by omega) (by show _ < ((18 : Nat) : Int); omega)
  exact ⟨t, ht, fb_x c t e⟩
theorem num_len : ∀ t ∈ numL, t.length ≤ 30 := by decide +kernel
theorem k1_len : ∀ t ∈ k1L, t.length ≤ 30 := by decide +kernel
theorem k2_len : ∀ t ∈ k2L, t.length ≤ 30 := by decide +kernel
theorem k3_len : ∀ t ∈ k3L, t.length ≤ 30 := by decide +kernel
theorem addS {x y : Str} (h : x.length + y.length ≤ 1000) : addD (.str x) (.str y) = some (.str (x ++ y)) := if_pos (Nat.le_trans h (by decide))
theorem l_len : (Str.ofString "turn ").length ≤ 30 ∧ (Str.ofString " 1").length ≤ 30 ∧ (Str.ofString " 0").length ≤ 30 ∧ (Str.ofString "0 ").length ≤ 30 ∧ (Str.ofString "where ").length ≤ 30 ∧ (Str.ofString " flip 0").length ≤ 30 := by decide +kernel
section
variable (c : Int) (x : Str) (hx : x ∈ numL) (g : g__law_number_bad [.int (c / 9)] = some (.str x))
include hx g
theorem bd_0 (h : c % 9 < 4) (t : Str) (e : g__law_shape_bad [.int (c / 9)] = some (.str t)) : g__law_bad [.int c] = some (.str t) := by
  simp [-sSeq, -sIf, sSeq_k, sIf_k, g__law_bad, runB, b__law_bad, startD, g, h, e]
theorem bd_4 (h : c % 9 = 4) (k : Str) (hk : k ∈ k1L) (e : atI [PyData.str "swing ", .str "flip ", .str "look "] (c / 126 % 3) = some (.str k)) : g__law_bad [.int c] = some (.str (k ++ x)) := by
  have a := addS (x := k) (y := x) (by have := num_len x hx; have := k1_len k hk; omega)
  simp [-sSeq, -sIf, sSeq_k, sIf_k, g__law_bad, runB, b__law_bad, startD, g, h, e, a]
theorem bd_5 (h : c % 9 = 5) : g__law_bad [.int c] = some (.str (("turn " : Str) ++ x ++ (" 1" : Str))) := by
  have a := addS (x := "turn ") (y := x) (by have := num_len x hx; have := l_len.1; omega)
  have b := addS (x := ("turn " : Str) ++ x) (y := " 1") (by have := num_len x hx; have := l_len; rw [Str.length_append]; omega)
  simp [-sSeq, -sIf, sSeq_k, sIf_k, g__law_bad, runB, b__law_bad, startD, g, h, a, b]
theorem bd_6 (h : c % 9 = 6) (k : Str) (hk : k ∈ k2L) (e : atI [PyData.str "tie ", .str "sign ", .str "cross "] (c / 126 % 3) = some (.str k)) : g__law_bad [.int c] = some (.str (k ++ x ++ (" 0" : Str))) := by
  have a := addS (x := k) (y := x) (by have := num_len x hx; have := k2_len k hk; omega)
  have b := addS (x := k ++ x) (y := " 0") (by have := num_len x hx; have := k2_len k hk; have := l_len; rw [Str.length_append]; omega)
  simp [-sSeq, -sIf, sSeq_k, sIf_k, g__law_bad, runB, b__law_bad, startD, g, h, e, a, b]
theorem bd_7 (h : c % 9 = 7) (k : Str) (hk : k ∈ k2L) (e : atI [PyData.str "tie ", .str "sign ", .str "cross "] (c / 126 % 3) = some (.str k)) : g__law_bad [.int c] = some (.str (k ++ ("0 " : Str) ++ x)) := by
  have a := addS (x := k) (y := "0 ") (by have := k2_len k hk; have := l_len; omega)
  have b := addS (x := k ++ ("0 " : Str)) (y := x) (by have := num_len x hx; have := k2_len k hk; have := l_len; rw [Str.length_append]; omega)
  simp [-sSeq, -sIf, sSeq_k, sIf_k, g__law_bad, runB, b__law_bad, startD, g, h, e, a, b]
theorem bd_8 (h : c % 9 = 8) (k : Str) (hk : k ∈ k3L) (e : atI [PyData.str " flip 0", .str " turn 0 4"] (c / 126 % 2) = some (.str k)) : g__law_bad [.int c] = some (.str (("where " : Str) ++ x ++ k)) := by
  have a := addS (x := "where ") (y := x) (by have := num_len x hx; have := l_len; omega)
  have b := addS (x := ("where " : Str) ++ x) (y := k) (by have := num_len x hx; have := k3_len k hk; have := l_len; rw [Str.length_append]; omega)
  simp [-sSeq, -sIf, sSeq_k, sIf_k, g__law_bad, runB, b__law_bad, startD, g, h, e, a, b]
end
theorem bad_eq (c : Int) : ∃ t ∈ badL, g__law_bad [.int c] = some (.str t) := by
  obtain ⟨x, hx, g⟩ := nb_eq (c / 9)
  unfold badL
  rcases (by omega : c % 9 < 4 ∨ c % 9 = 4 ∨ c % 9 = 5 ∨ c % 9 = 6 ∨ c % 9 = 7 ∨ c % 9 = 8) with h | h | h | h | h | h
  · obtain ⟨t, ht, e⟩ := sb_eq (c / 9)
    exact ⟨t, by simp only [List.mem_append]; exact .inl (.inl (.inl (.inl (.inl ht)))), bd_0 c x hx g h t e⟩
  · obtain ⟨k, hk, e⟩ := at_str k1L (c / 126 % 3) (by omega) (by show _ < ((3 : Nat) : Int); omega)
    exact ⟨_, by simp only [List.mem_append]; exact .inl (.inl (.inl (.inl (.inr (List.mem_flatMap.mpr ⟨k, hk, List.mem_map.mpr ⟨x, hx, rfl⟩⟩))))), bd_4 c x hx g h k hk e⟩
  · exact ⟨_, by simp only [List.mem_append]; exact .inl (.inl (.inl (.inr (List.mem_map.mpr ⟨x, hx, rfl⟩)))), bd_5 c x hx g h⟩
  · obtain ⟨k, hk, e⟩ := at_str k2L (c / 126 % 3) (by omega) (by show _ < ((3 : Nat) : Int); omega)
    exact ⟨_, by simp only [List.mem_append]; exact .inl (.inl (.inr (List.mem_flatMap.mpr ⟨k, hk, List.mem_map.mpr ⟨x, hx, rfl⟩⟩))), bd_6 c x hx g h k hk e⟩
  · obtain ⟨k, hk, e⟩ := at_str k2L (c / 126 % 3) (by omega) (by show _ < ((3 : Nat) : Int); omega)
    exact ⟨_, by simp only [List.mem_append]; exact .inl (.inr (List.mem_flatMap.mpr ⟨k, hk, List.mem_map.mpr ⟨x, hx, rfl⟩⟩)), bd_7 c x hx g h k hk e⟩
  · obtain ⟨k, hk, e⟩ := at_str k3L (c / 126 % 2) (by omega) (by show _ < ((2 : Nat) : Int); omega)
    exact ⟨_, by simp only [List.mem_append]; exact .inr (List.mem_flatMap.mpr ⟨k, hk, List.mem_map.mpr ⟨x, hx, rfl⟩⟩), bd_8 c x hx g h k hk e⟩

/-! a row put otherwise -/
theorem cut_to (L : List D) (k : Nat) : slD (.list L) none (some (k : Int)) = some (.list (L.take k)) := by
  show some (PyData.list (cutD _ _ _)) = _
  unfold cutD
  rw [HT.sIx_none, HT.sIx_nat, List.drop_zero, Nat.sub_zero]
  congr 2
  rcases Nat.le_total k L.length with h | h
  · rw [Nat.min_eq_left h]
  · rw [Nat.min_eq_right h, List.take_length, List.take_of_length_le h]
theorem cut_from (L : List D) (k : Nat) : slD (.list L) (some (k : Int)) none = some (.list (L.drop k)) := by
  show some (PyData.list (cutD _ _ _)) = _
  unfold cutD
  rw [HT.sIx_none, HT.sIx_nat]
  congr 2
  rcases Nat.le_total k L.length with h | h
  · rw [Nat.min_eq_left h, List.take_of_length_le (by rw [List.length_drop]; omega)]
  · rw [Nat.min_eq_right h, List.drop_length, List.take_nil, List.drop_of_length_le h]
def s4 (t : Str) : Bool := Txt.slice t none (some 4) == ("look" : Str)
theorem sl_x {x y : Str} {b : Bool} (e : Txt.slice x none (some 4) = y) (h : okS y = true) (hb : (y == ("look" : Str)) = b) (hl : x.length ≤ 40) : (ob (o2 (oSlS (oV 0) (oNo) (oP (oC (.int 4)))) (oC (.str "look")) eqD)) [.fz (.str x)] = some b := by
  have s : slS (.str x) none (some 4) = some (.str y) := by
    show (if x.length ≤ sizeLine then some (PyData.str (Txt.slice x none (some 4))) else none) = _
    rw [if_pos (Nat.le_trans hl (by decide)), e]
  have q := eqS h ok_w_look
  rw [hb] at q
  simp [s, q]
theorem sl_rw : ∀ {r : Rw}, dig r → (ob (o2 (oSlS (oV 0) (oNo) (oP (oC (.int 4)))) (oC (.str "look")) eqD)) [.fz (.str (shw r))] = some r.isLook
  | .pl (.swing j), h => by have l := (few_shw h).1; rw [shw_cd h] at l ⊢; exact sl_x (b := false) (y := ⟨#[115, 119, 105, 110]⟩) rfl (by decide +kernel) (by decide +kernel) l
  | .pl (.turn j e), h => by have l := (few_shw h).1; rw [shw_cd h] at l ⊢; exact sl_x (b := false) (y := ⟨#[116, 117, 114, 110]⟩) rfl (by decide +kernel) (by decide +kernel) l
  | .pl (.flip j), h => by have l := (few_shw h).1; rw [shw_cd h] at l ⊢; exact sl_x (b := false) (y := ⟨#[102, 108, 105, 112]⟩) rfl (by decide +kernel) (by decide +kernel) l
  | .pl (.tie i j), h => by have l := (few_shw h).1; rw [shw_cd h] at l ⊢; exact sl_x (b := false) (y := ⟨#[116, 105, 101, 32]⟩) rfl (by decide +kernel) (by decide +kernel) l
  | .pl (.sign i j), h => by have l := (few_shw h).1; rw [shw_cd h] at l ⊢; exact sl_x (b := false) (y := ⟨#[115, 105, 103, 110]⟩) rfl (by decide +kernel) (by decide +kernel) l
  | .pl (.cross i j), h => by have l := (few_shw h).1; rw [shw_cd h] at l ⊢; exact sl_x (b := false) (y := ⟨#[99, 114, 111, 115]⟩) rfl (by decide +kernel) (by decide +kernel) l
  | .look j, h => by have l := (few_shw h).1; rw [shw_cd h] at l ⊢; exact sl_x (b := true) (y := ⟨#[108, 111, 111, 107]⟩) rfl (by decide +kernel) (by decide +kernel) l
  | .wflip m j, h => by have l := (few_shw h).1; rw [shw_cd h] at l ⊢; exact sl_x (b := false) (y := ⟨#[119, 104, 101, 114]⟩) rfl (by decide +kernel) (by decide +kernel) l
  | .wsign m j, h => by have l := (few_shw h).1; rw [shw_cd h] at l ⊢; exact sl_x (b := false) (y := ⟨#[119, 104, 101, 114]⟩) rfl (by decide +kernel) (by decide +kernel) l
theorem sl_wir {w : Nat} (h : w < 10) : (ob (o2 (oSlS (oV 0) (oNo) (oP (oC (.int 4)))) (oC (.str "look")) eqD)) [.fz (.str (wirT w))] = some false := by
  have l := (few_wir h).1
  rw [wirT_cd h] at l ⊢
  exact sl_x (b := false) (y := ⟨#[119, 105, 114, 101]⟩) rfl (by decide +kernel) (by decide +kernel) l
theorem lks_f : ∀ rs : List Rw, (rs.filter Rw.isLook).length = lks rs
  | [] => rfl
  | r :: rs => by
    rw [List.filter_cons]
    unfold lks
    cases r.isLook <;> simp [lks_f rs] <;> omega
theorem okAll_app {w : Nat} : ∀ (as bs : List Rw) (l : Nat), okAll w l (as ++ bs) ↔ okAll w l as ∧ okAll w (l + lks as) bs
  | [], bs, l => by simp [okAll, lks]
  | a :: as, bs, l => by
    show (a.ok w l ∧ okAll w _ (as ++ bs)) ↔ (a.ok w l ∧ okAll w _ as) ∧ okAll w (l + ((if a.isLook then 1 else 0) + lks as)) bs
    rw [okAll_app as bs, and_assoc, Nat.add_assoc]
theorem okAll_take {w : Nat} {rs : List Rw} {l : Nat} (h : okAll w l rs) (k : Nat) : okAll w l (rs.take k) := by
  have := List.take_append_drop k rs
  rw [← this, okAll_app] at h
  exact h.1
theorem lks_le {w : Nat} : ∀ {rs : List Rw} {l : Nat}, l ≤ 6 → okAll w l rs → l + lks rs ≤ 6
  | [], l, h, _ => h
  | r :: rs, l, h, ho => by
    have := lks_le (ok_look h ho.1) ho.2
    unfold lks
    omega
theorem txs_take {w : Nat} (rs : List Rw) {a : Nat} (h : 1 ≤ a) : (txs w rs).take a = txs w (rs.take (a - 1)) := by
  obtain ⟨k, rfl⟩ : ∃ k, a = k + 1 := ⟨a - 1, by omega⟩
  unfold txs
  rw [List.take_succ_cons, Nat.add_sub_cancel, List.map_take]
theorem looks_p {w : Nat} (hw : w < 10) {rs : List Rw} (hd : ∀ r ∈ rs, dig r) (hl : rs.length ≤ 100) (a : Nat) (z1 z2 z3 z5 z6 z7 : Sl) : ∃ L : List D, L.length = lks (rs.take (a - 1)) ∧ p1__law_spoilt [.fz (.list ((txs w rs).map .str)), z1, z2, z3, .fz (.int (a : Int)), z5, z6, z7] = some (.list L) := by
  let f : Option Rw → Str := fun o => match o with | none => wirT w | some r => shw r
  have e0 : ∀ l : List Rw, (none :: l.map some).map f = txs w l := fun l => by simp [txs, f]
  by_cases h : 1 ≤ a
  · refine ⟨_, ?_, compI_map (xs := none :: (rs.take (a - 1)).map some) (h := fun o => PyData.str (f o)) (k := fun o => PyData.str (f o)) (b := fun o => match o with | none => false | some r => r.isLook) ?_ ?_ ?_ ?_⟩
    · rw [List.length_map, List.filter_cons, if_neg (by simp), List.filter_map, List.length_map]
      exact lks_f _
    · have c := cut_to ((txs w rs).map .str) a
      have e1 : (txs w (rs.take (a - 1))).map PyData.str = (none :: (rs.take (a - 1)).map some).map (fun o => PyData.str (f o)) := by rw [← e0, List.map_map]; rfl
      rw [← List.map_take, txs_take rs h, e1] at c
      show ((slD (.list _) none (some (a : Int))).bind itsD) = _
      rw [c]
      rfl
    · simp; omega
    · intro o ho
      cases o with
      | none => exact sl_wir hw
      | some r =>
        rcases List.mem_cons.mp ho with q | q
        · cases q
        · obtain ⟨r', hr, e⟩ := List.mem_map.mp q
          cases e
          exact sl_rw (hd r (List.mem_of_mem_take hr))
    · intro o _ _
      rfl
  · obtain rfl : a = 0 := by omega
    refine ⟨[], rfl, ?_⟩
    exact compI_map (xs := ([] : List Str)) (h := PyData.str) (k := PyData.str) (b := fun _ => false) (by have c := cut_to ((txs w rs).map .str) 0; simp at c ⊢; simp [c]) (by simp) (fun x hx => by cases hx) fun x hx => by cases hx

def sp_1 : Sf := sSet 4 (o2 (oV 1) (VL.os (oCons (oV 0) (oNil)) lenD) modD)
def sp_2 : Sf := sSet 5 (VL.os (oCons (o2 (oV 1) (oC (.int 61)) divD) (oNil)) g__law_bad)
def sp_3 : Sf := sIf (ob (o2 (o2 (o2 (oV 2) (oC (.int 8)) divD) (oC (.int 4)) modD) (oC (.int 1)) eqD)) (sSet 5 (o2 (o2 (VL.os (oCons (oC (.str "swing ")) (oCons (oC (.str "flip ")) (oCons (oC (.str "look ")) (oNil)))) lstD) (o2 (o2 (oV 1) (oC (.int 61)) divD) (oC (.int 3)) modD) ixD) (VL.os (oCons (oV 3) (oNil)) strD) addD)) (sNx)
def sp_4 : Sf := sIf (ob (o2 (o2 (o2 (oV 2) (oC (.int 8)) divD) (oC (.int 4)) modD) (oC (.int 2)) eqD)) (sSet 5 (o2 (o2 (oC (.str "where ")) (VL.os (oCons (VL.os (oCons (p1__law_spoilt) (oNil)) lenD) (oNil)) strD) addD) (oC (.str " flip 0")) addD)) (sNx)
def sp_5 : Sf := sIf (ob (o2 (oV 4) (oC (.int 0)) eqD)) (sSet 5 (VL.os (oCons (o2 (oV 1) (oC (.int 61)) divD) (oNil)) g__law_first_bad)) (sNx)
def sp_6 : Sf := sSet 6 (o2 (o2 (oV 1) (oC (.int 61)) divD) (oC (.int 2)) modD)
def sp_7 : Sf := sOwnE 7 (oLi (o2 (o2 (oSl (oV 0) (oNo) (oP (oV 4))) (VL.os (oCons (oV 5) (oNil)) lstD) addD) (oSl (oV 0) (oP (o2 (o2 (oV 4) (oC (.int 1)) addD) (o2 (oV 6) (VL.os (oCons (o2 (oV 4) (oC (.int 0)) gtD) (oNil)) intD) mulI) subD)) (oNo)) addD))
def sp_8 : Sf := sIf (ob (o2 (o2 (oV 2) (oC (.int 4)) modD) (oC (.int 1)) eqD)) (sApp 7 (VL.os (oCons (o2 (oV 2) (oC (.int 4)) divD) (oNil)) g__law_bad)) (sNx)
def sp_9 : Sf := fun δ => (sRet (VL.os (oCons (oV 7) (oCons (o2 (oV 4) (oC (.int 1)) addD) (oNil))) tupD)) (dFz 7 δ)
theorem spoilt_st : b__law_spoilt = sSeq sp_1 (sSeq sp_2 (sSeq sp_3 (sSeq sp_4 (sSeq sp_5 (sSeq sp_6 (sSeq sp_7 (sSeq sp_8 (sp_9)))))))) := rfl

section
variable (L : List D) (c o w a : Int) (t0 t1 t2 t3 t : Str)
theorem q1 (n : Int) (hl : (L.length : Int) = n) (h : modD (.int c) (.int n) = some (.int a)) : sp_1 [.fz (.list L), .fz (.int c), .fz (.int o), .fz (.int w), .un, .un, .un, .un] = some (.nx, [.fz (.list L), .fz (.int c), .fz (.int o), .fz (.int w), .fz (.int a), .un, .un, .un]) := by
  simp [sp_1, hl, h]
theorem q2 (h : g__law_bad [.int (c / 61)] = some (.str t)) : sp_2 [.fz (.list L), .fz (.int c), .fz (.int o), .fz (.int w), .fz (.int a), .un, .un, .un] = some (.nx, [.fz (.list L), .fz (.int c), .fz (.int o), .fz (.int w), .fz (.int a), .fz (.str t), .un, .un]) := by
  simp [sp_2, h]
theorem q3 (k s : Str) (hk : atI [PyData.str "swing ", .str "flip ", .str "look "] (c / 61 % 3) = some (.str k)) (hs : strD [.int w] = some (.str s)) (ha : addD (.str k) (.str s) = some (.str t1)) : sp_3 [.fz (.list L), .fz (.int c), .fz (.int o), .fz (.int w), .fz (.int a), .fz (.str t), .un, .un] = some (.nx, [.fz (.list L), .fz (.int c), .fz (.int o), .fz (.int w), .fz (.int a), .fz (.str (if o / 8 % 4 = 1 then t1 else t)), .un, .un]) := by
  by_cases h : o / 8 % 4 = 1 <;> simp [-sSeq, -sIf, sSeq_k, sIf_k, sp_3, h, hk, hs, ha]
theorem q4 (P : List D) (m : Int) (s u : Str) (hp : p1__law_spoilt [.fz (.list L), .fz (.int c), .fz (.int o), .fz (.int w), .fz (.int a), .fz (.str t), .un, .un] = some (.list P)) (hm : (P.length : Int) = m) (hs : strD [.int m] = some (.str s)) (h1 : addD (.str "where ") (.str s) = some (.str u)) (h2 : addD (.str u) (.str " flip 0") = some (.str t2)) : sp_4 [.fz (.list L), .fz (.int c), .fz (.int o), .fz (.int w), .fz (.int a), .fz (.str t), .un, .un] = some (.nx, [.fz (.list L), .fz (.int c), .fz (.int o), .fz (.int w), .fz (.int a), .fz (.str (if o / 8 % 4 = 2 then t2 else t)), .un, .un]) := by
  by_cases h : o / 8 % 4 = 2 <;> simp [-sSeq, -sIf, sSeq_k, sIf_k, sp_4, h, hp, hm, hs, h1, h2]
theorem q5 (hf : g__law_first_bad [.int (c / 61)] = some (.str t3)) : sp_5 [.fz (.list L), .fz (.int c), .fz (.int o), .fz (.int w), .fz (.int a), .fz (.str t), .un, .un] = some (.nx, [.fz (.list L), .fz (.int c), .fz (.int o), .fz (.int w), .fz (.int a), .fz (.str (if a = 0 then t3 else t)), .un, .un]) := by
  by_cases h : a = 0 <;> simp [-sSeq, -sIf, sSeq_k, sIf_k, sp_5, h, hf]
theorem q6 : sp_6 [.fz (.list L), .fz (.int c), .fz (.int o), .fz (.int w), .fz (.int a), .fz (.str t), .un, .un] = some (.nx, [.fz (.list L), .fz (.int c), .fz (.int o), .fz (.int w), .fz (.int a), .fz (.str t), .fz (.int (c / 61 % 2)), .un]) := by
  simp [sp_6]
theorem q7 (k b : Int) (A B T : List D) (hA : slD (.list L) none (some a) = some (.list A)) (hb : (oP (o2 (o2 (oV 4) (oC (.int 1)) addD) (o2 (oV 6) (VL.os (oCons (o2 (oV 4) (oC (.int 0)) gtD) (oNil)) intD) mulI) subD)) [.fz (.list L), .fz (.int c), .fz (.int o), .fz (.int w), .fz (.int a), .fz (.str t), .fz (.int k), .un] = some (some b)) (hB : slD (.list L) (some b) none = some (.list B)) (h1 : addD (.list A) (.list [.str t]) = some (.list (A ++ [.str t]))) (h2 : addD (.list (A ++ [.str t])) (.list B) = some (.list T)) : sp_7 [.fz (.list L), .fz (.int c), .fz (.int o), .fz (.int w), .fz (.int a), .fz (.str t), .fz (.int k), .un] = some (.nx, [.fz (.list L), .fz (.int c), .fz (.int o), .fz (.int w), .fz (.int a), .fz (.str t), .fz (.int k), .ow T]) := by
  have e2 : (oSl (oV 0) (oP (o2 (o2 (oV 4) (oC (.int 1)) addD) (o2 (oV 6) (VL.os (oCons (o2 (oV 4) (oC (.int 0)) gtD) (oNil)) intD) mulI) subD)) (oNo)) [.fz (.list L), .fz (.int c), .fz (.int o), .fz (.int w), .fz (.int a), .fz (.str t), .fz (.int k), .un] = some (.list B) := by
    unfold oSl
    rw [hb]
    simp [hB]
  have e1 : (o2 (oSl (oV 0) (oNo) (oP (oV 4))) (VL.os (oCons (oV 5) (oNil)) lstD) addD) [.fz (.list L), .fz (.int c), .fz (.int o), .fz (.int w), .fz (.int a), .fz (.str t), .fz (.int k), .un] = some (.list (A ++ [.str t])) := by
    simp [hA, h1]
  unfold sp_7 sOwnE oLi
  simp only [o2] at e1 ⊢
  rw [e1, e2]
  simp [h2, lstI]
theorem q8 (k : Int) (T : List D) (t4 : Str) (hl : T.length < sizeLine) (h : g__law_bad [.int (o / 4)] = some (.str t4)) : sp_8 [.fz (.list L), .fz (.int c), .fz (.int o), .fz (.int w), .fz (.int a), .fz (.str t), .fz (.int k), .ow T] = some (.nx, [.fz (.list L), .fz (.int c), .fz (.int o), .fz (.int w), .fz (.int a), .fz (.str t), .fz (.int k), .ow (if o % 4 = 1 then T ++ [.str t4] else T)]) := by
  by_cases q : o % 4 = 1 <;> simp [-sSeq, -sIf, sSeq_k, sIf_k, sp_8, q, h, hl]
theorem q9 (k : Int) (T : List D) : ∃ δ, sp_9 [.fz (.list L), .fz (.int c), .fz (.int o), .fz (.int w), .fz (.int a), .fz (.str t), .fz (.int k), .ow T] = some (.rt (.tuple [.list T, .int (a + 1)]), δ) := by
  exact ⟨_, by simp [sp_9, dFz]; rfl⟩
end

theorem far_nb : (wir6.all fun w => k1L.all fun k => fewB (k ++ sN w) && nbB w (k ++ sN w)) = true := by decide +kernel
theorem in6 {w : Nat} (h0 : 1 ≤ w) (hw : w ≤ 6) : w ∈ wir6 := by
  match w, h0, hw with
  | 1, _, _ => decide
  | 2, _, _ => decide
  | 3, _, _ => decide
  | 4, _, _ => decide
  | 5, _, _ => decide
  | 6, _, _ => decide
theorem wf_txt {m : Nat} (h : m < 10) : ("where " : Str) ++ sN m ++ (" flip 0" : Str) = shw (.wflip m 0) := by
  rw [shw_cd (r := .wflip m 0) ⟨h, by decide⟩, sN_d h]
  have e1 : (Str.ofString "where ") = ⟨#[119, 104, 101, 114, 101, 32]⟩ := by decide +kernel
  have e2 : (Str.ofString " flip 0") = ⟨#[32, 102, 108, 105, 112, 32, 48]⟩ := by decide +kernel
  rw [e1, e2]
  rfl
theorem wf_6 : shw (.wflip 6 0) ∈ badL := by
  have : shw (.wflip 6 0) = ("where 6 flip 0" : Str) := by decide +kernel
  rw [this]
  decide +kernel
theorem ms_no (m : Nat) : g_may_stand [rwD (.wflip m 0), .int (m : Int)] = some (.bool false) := by
  simp [rwD, g_may_stand, runB, b_may_stand, startD, at0, at21, ne_ww]
theorem wf_ref {w m n : Nat} (h0 : 1 ≤ w) (hw : w ≤ 6) (hm : m ≤ 6) : Ref (knownE w) m n (shw (.wflip m 0)) := by
  by_cases h : m = 6
  · subst h; exact .inl (bad_none hw wf_6)
  · exact .inr ⟨_, known_get (l := m + 1) hw (by omega) (r := .wflip m 0) ⟨by omega, by omega⟩, isN_rw _, .inr (ms_no m)⟩
theorem bnd_x (L : List D) (c o w : Int) (t : Str) (a : Nat) (k : Int) (b : Nat) (hk : k = 0 ∨ k = 1) (hb : (a : Int) + 1 - k * (if (a : Int) > 0 then 1 else 0) = b) : (oP (o2 (o2 (oV 4) (oC (.int 1)) addD) (o2 (oV 6) (VL.os (oCons (o2 (oV 4) (oC (.int 0)) gtD) (oNil)) intD) mulI) subD)) [.fz (.list L), .fz (.int c), .fz (.int o), .fz (.int w), .fz (.int (a : Int)), .fz (.str t), .fz (.int k), .un] = some (some (b : Int)) := by
  have g : gtD (.int (a : Int)) (.int 0) = some (.bool (decide ((a : Int) > 0))) := rfl
  generalize hp : decide ((a : Int) > 0) = p at g
  have mI : mulI (.int k) (.int (if p = true then 1 else 0)) = some (.int (k * (if p = true then 1 else 0))) := by
    rcases hk with rfl | rfl <;> cases p <;> rfl
  have hb' : (a : Int) + 1 - k * (if p = true then 1 else 0) = b := by rw [← hb, ← hp]; simp
  simp [g, mI, hb', asI]
theorem spoilt_eq {w : Nat} (h0 : 1 ≤ w) (hw : w ≤ 6) {rs : List Rw} (ho : okAll w 0 rs) (hn : rs.length ≤ 60) (c : Int) (o : Int) :
    ∃ (T : List Str) (due : Int), g__law_spoilt [.list ((txs w rs).map .str), .int c, .int o, .int w] = some (.tuple [.list (T.map .str), .int due]) ∧ g__law_refused_at [.str (Txt.join "\n" T)] = some (.int due) ∧ (∀ x ∈ T, Few x) ∧ T.length ≤ 100 := by
  have hd := okAll_dig hw rs 0 (by decide) ho
  have F := few_txs (w := w) (by omega) hd
  have lx : (txs w rs).length = rs.length + 1 := by simp [txs]
  have ln : ((txs w rs).map PyData.str).length = rs.length + 1 := by simp [txs]
  obtain ⟨a, ha⟩ : ∃ a : Nat, c % ((rs.length : Int) + 1) = a := ⟨(c % ((rs.length : Int) + 1)).toNat, by have := Int.emod_nonneg c (show (rs.length : Int) + 1 ≠ 0 by omega); omega⟩
  have hal : a < rs.length + 1 := by have := Int.emod_lt_of_pos c (show (0 : Int) < (rs.length : Int) + 1 by omega); omega
  have hmod : modD (.int c) (.int ((rs.length : Int) + 1)) = some (.int (a : Int)) := by rw [← ha]; exact modD_int (by omega)
  obtain ⟨t0, b0, g0⟩ := bad_eq (c / 61)
  obtain ⟨k, hk, ek⟩ := at_str k1L (c / 61 % 3) (by omega) (by show _ < ((3 : Nat) : Int); omega)
  obtain ⟨P, hP, ep⟩ : ∃ P : List D, P.length = lks (rs.take (a - 1)) ∧ ∀ z1 z2 z3 z5 z6 z7, p1__law_spoilt [.fz (.list ((txs w rs).map .str)), z1, z2, z3, .fz (.int (a : Int)), z5, z6, z7] = some (.list P) := by
    obtain ⟨P, hP, e⟩ := looks_p (w := w) (by omega) hd (by omega) a .un .un .un .un .un .un
    exact ⟨P, hP, fun z1 z2 z3 z5 z6 z7 => e⟩
  have m6 : lks (rs.take (a - 1)) ≤ 6 := by have := lks_le (l := 0) (by decide) (okAll_take ho (a - 1)); omega
  generalize hm : lks (rs.take (a - 1)) = m at *
  obtain ⟨t3, b3, g3⟩ := fb_eq (c / 61)
  obtain ⟨t4, b4, g4⟩ := bad_eq (o / 4)
  have few4 := few_of (List.all_eq_true.mp bad_few t4 b4)
  have lw : (sN w).length = 1 := by rw [sN_d (by omega)]; rfl
  have lm : (sN m).length = 1 := by rw [sN_d (by omega)]; rfl
  have ll := l_len
  have a1 := addS (x := k) (y := sN w) (by have := k1_len k hk; omega)
  have a2 := addS (x := "where ") (y := sN m) (by omega)
  have a3 := addS (x := ("where " : Str) ++ sN m) (y := " flip 0") (by rw [Str.length_append]; omega)
  rw [wf_txt (by omega)] at a3
  -- the bad text
  have fx := List.all_eq_true.mp (List.all_eq_true.mp far_nb w (in6 h0 hw)) k hk
  rw [Bool.and_eq_true] at fx
  generalize ht : (if (a : Int) = 0 then t3 else if o / 8 % 4 = 2 then shw (.wflip m 0) else if o / 8 % 4 = 1 then k ++ sN w else t0) = t
  have tf : Few t := by
    rw [← ht]
    split
    · exact few_of (List.all_eq_true.mp fst_few t3 b3)
    · split
      · exact few_shw (r := .wflip m 0) ⟨by omega, by decide⟩
      · split
        · exact few_of fx.1
        · exact few_of (List.all_eq_true.mp bad_few t0 b0)
  have tr : 1 ≤ a → Ref (knownE w) m (rs.take (a - 1)).length t := fun h1 => by
    rw [← ht, if_neg (by omega)]
    split
    · exact wf_ref h0 hw m6
    · split
      · exact .inl (nb_of hw fx.2)
      · exact .inl (bad_none hw b0)
  -- the cuts
  obtain ⟨b, hb⟩ : ∃ b : Nat, (a : Int) + 1 - c / 61 % 2 * (if (a : Int) > 0 then 1 else 0) = b := ⟨((a : Int) + 1 - c / 61 % 2 * (if (a : Int) > 0 then 1 else 0)).toNat, by split <;> omega⟩
  have hbl : a ≤ b := by
    by_cases q : (a : Int) > 0
    · rw [if_pos q] at hb; omega
    · rw [if_neg q] at hb; omega
  have cA := cut_to ((txs w rs).map .str) a
  have cB := cut_from ((txs w rs).map .str) b
  rw [← List.map_take] at cA
  rw [← List.map_drop] at cB
  have lt : ((txs w rs).take a).length ≤ 61 := by rw [List.length_take]; simp at ln; omega
  have ltd : ((txs w rs).take a).length + ((txs w rs).drop b).length ≤ 61 := by rw [List.length_take, List.length_drop]; simp at ln; omega
  have d1 : addD (.list (((txs w rs).take a).map .str)) (.list [.str t]) = some (.list (((txs w rs).take a).map .str ++ [.str t])) := addD_list (by simp; omega)
  have d2 : addD (.list (((txs w rs).take a).map .str ++ [.str t])) (.list (((txs w rs).drop b).map .str)) = some (.list (((txs w rs).take a ++ t :: (txs w rs).drop b).map .str)) := by
    rw [addD_list (by rw [List.length_append, List.length_map, List.length_map, List.length_singleton]; omega)]
    simp
  have obn := bnd_x ((txs w rs).map .str) c o (w : Int) t a (c / 61 % 2) b (by omega) hb
  generalize hT : (if o % 4 = 1 then ((txs w rs).take a ++ t :: (txs w rs).drop b) ++ [t4] else (txs w rs).take a ++ t :: (txs w rs).drop b) = T
  obtain ⟨δ, e9⟩ := q9 ((txs w rs).map .str) c o w (a : Int) t (c / 61 % 2) (T.map .str)
  have e8 := q8 ((txs w rs).map .str) c o w (a : Int) t (c / 61 % 2) (((txs w rs).take a ++ t :: (txs w rs).drop b).map .str) t4 (by rw [sizeLine_eq]; simp; omega) g4
  have hT' : (if o % 4 = 1 then ((txs w rs).take a ++ t :: (txs w rs).drop b).map PyData.str ++ [.str t4] else ((txs w rs).take a ++ t :: (txs w rs).drop b).map PyData.str) = T.map .str := by
    rw [← hT]; split <;> simp
  rw [hT'] at e8
  have e7 := q7 ((txs w rs).map .str) c o w (a : Int) t (c / 61 % 2) b _ _ _ cA obn cB d1 d2
  have e5 := q5 ((txs w rs).map .str) c o w (a : Int) t3 (if o / 8 % 4 = 2 then shw (.wflip m 0) else if o / 8 % 4 = 1 then k ++ sN w else t0) g3
  rw [ht] at e5
  refine ⟨T, (a : Int) + 1, ?_, ?_, ?_, ?_⟩
  · refine nrun rfl (δ' := δ) ?_
    show b__law_spoilt [.fz (.list ((txs w rs).map .str)), .fz (.int c), .fz (.int o), .fz (.int w), .un, .un, .un, .un] = _
    rw [spoilt_st, nseq (q1 _ c o w a _ (by rw [ln]; push_cast; rfl) hmod), nseq (q2 _ c o w a t0 g0), nseq (q3 _ c o w a (k ++ sN w) t0 k (sN w) ek (strD_n (by omega)) a1), nseq (q4 _ c o w a (shw (.wflip m 0)) _ P m (sN m) _ (ep _ _ _ _ _ _) (by rw [hP]) (strD_n (by omega)) a2 a3), nseq e5, nseq (q6 _ c o w a t), nseq e7, nseq e8, e9]
  · have tl : ∃ ts : List Str, T = (txs w rs).take a ++ t :: ts ∧ (∀ x ∈ ts, Few x) ∧ ((txs w rs).take a).length + ts.length ≤ 62 := by
      by_cases q : o % 4 = 1
      · rw [if_pos q] at hT
        refine ⟨(txs w rs).drop b ++ [t4], by rw [← hT]; simp, fun x hx => ?_, by simp; omega⟩
        rcases List.mem_append.mp hx with hx | hx
        · exact F x (List.mem_of_mem_drop hx)
        · rw [List.mem_singleton.mp hx]; exact few4
      · rw [if_neg q] at hT
        exact ⟨(txs w rs).drop b, hT.symm, fun x hx => F x (List.mem_of_mem_drop hx), by omega⟩
    obtain ⟨ts, e, fts, hts⟩ := tl
    rw [e]
    by_cases h1 : 1 ≤ a
    · rw [txs_take rs h1] at hts ⊢
      have l1 : (rs.take (a - 1)).length = a - 1 := by rw [List.length_take]; omega
      have := refuses h0 hw (okAll_take ho (a - 1)) (by omega) tf fts (by simp [txs] at hts; omega) (by rw [hm]; exact tr h1)
      rw [this, l1]
      congr 2
      omega
    · obtain rfl : a = 0 := by omega
      have t3e : t = t3 := by rw [← ht]; exact if_pos rfl
      exact refuses0 tf fts (by omega) (by rw [t3e]; exact fst_none b3)
  · rw [← hT]
    intro x hx
    have mem : ∀ x ∈ (txs w rs).take a ++ t :: (txs w rs).drop b, Few x := fun x hx => by
      rcases List.mem_append.mp hx with hx | hx
      · exact F x (List.mem_of_mem_take hx)
      · rcases List.mem_cons.mp hx with rfl | hx
        · exact tf
        · exact F x (List.mem_of_mem_drop hx)
    split at hx
    · rcases List.mem_append.mp hx with hx | hx
      · exact mem x hx
      · rw [List.mem_singleton.mp hx]; exact few4
    · exact mem x hx
  · rw [← hT]
    split <;> simp <;> omega

def st_1 : Sf := sSet 1 (o2 (oC (.int 1)) (o2 (VL.os (oCons (oV 0) (oCons (oC (.int 0)) (oNil))) g__law_cell) (oC (.int 6)) modD) addD)
def st_2 : Sf := sSet 2 (VL.os (oCons (oV 0) (oCons (oC (.int 1)) (oNil))) g__law_cell)
def st_3 : Sf := sSet 3 (VL.os (oCons (oSl (oV 0) (oP (oC (.int 3))) (oP (oC (.int 63)))) (oCons (oV 1) (oCons (o2 (o2 (oV 2) (oC (.int 2)) modD) (oC (.int 0)) eqD) (oNil)))) g__law_circuit)
def st_4 : Sf := sSet 4 (o2 (VL.os (oCons (o2 (oC (.str "wires ")) (VL.os (oCons (oV 1) (oNil)) strD) addD) (oNil)) lstD) (p1_law) addD)
def st_5 : Sf := sIf (ob (o2 (VL.os (oCons (o2 (oC (.str "\n")) (oV 4) joinD) (oNil)) g__law_refused_at) (oC (.int 0)) neD)) (sRet (oC (.bool false))) (sNx)
def st_6 : Sf := sSet 5 (oC (.int 0))
def st_7 : Sf := sIf (ob (o2 (o2 (o2 (oV 2) (oC (.int 2)) divD) (oC (.int 6)) modD) (oC (.int 1)) eqD)) (sSeq (sSet 4 (o2 (oSl (o2 (oV 4) (o2 (VL.os (oCons (oC (.str "flip 0")) (oNil)) lstD) (oC (.int 60)) mulL) addD) (oNo) (oP (oC (.int 61)))) (oSl (VL.os (oCons (oC (.str "swing 0")) (oCons (oC (.str "flip")) (oNil))) lstD) (oNo) (oP (o2 (oC (.int 1)) (o2 (o2 (oV 2) (oC (.int 12)) divD) (oC (.int 2)) modD) addD))) addD)) (sSet 5 (oC (.int 62)))) (sIf (ob (o2 (o2 (o2 (oV 2) (oC (.int 2)) divD) (oC (.int 6)) modD) (oC (.int 2)) eqD)) (sSeq (sSet 4 (o2 (oSl (oV 4) (oNo) (oP (oC (.int 54)))) (o2 (VL.os (oCons (oC (.str "look 0")) (oNil)) lstD) (oC (.int 7)) mulL) addD)) (sSeq (sSet 6 (VL.os (oCons (p2_law) (oNil)) lenD)) (sSet 5 (o2 (o2 (VL.os (oCons (oC (.int 54)) (oCons (o2 (VL.os (oCons (o2 (oV 3) (oC (.int 1)) ixD) (oNil)) lenD) (oC (.int 1)) addD) (oNil))) minD) (oC (.int 7)) addD) (oV 6) subD)))) (sSeq (sSet 7 (VL.os (oCons (oV 4) (oCons (o2 (VL.os (oCons (oV 0) (oCons (oC (.int 2)) (oNil))) g__law_cell) (o2 (oC (.int 10)) (oC (.int 12)) powD) modD) (oCons (o2 (oV 2) (oC (.int 12)) divD) (oCons (oV 1) (oNil))))) g__law_spoilt)) (sSeq (sSet 4 (o2 (oV 7) (oC (.int 0)) ixD)) (sSet 5 (o2 (oV 7) (oC (.int 1)) ixD)))))
def st_8 : Sf := sRet (o2 (VL.os (oCons (o2 (oC (.str "\n")) (oV 4) joinD) (oNil)) g__law_refused_at) (oV 5) eqD)
theorem law_st : b_law = sSeq st_1 (sSeq st_2 (sSeq st_3 (sSeq st_4 (sSeq st_5 (sSeq st_6 (sSeq st_7 (st_8))))))) := rfl

/-! the law -/
theorem s_flip0 : ("flip 0" : Str) = shw (.pl (.flip 0)) := by decide +kernel
theorem s_swing0 : ("swing 0" : Str) = shw (.pl (.swing 0)) := by decide +kernel
theorem s_look0 : ("look 0" : Str) = shw (.look 0) := by decide +kernel
theorem mul60 (x : D) : mulL (.list [x]) (.int 60) = some (.list (List.replicate 60 x)) := rfl
theorem mul7 (x : D) : mulL (.list [x]) (.int 7) = some (.list (List.replicate 7 x)) := rfl
theorem pw12 : powD (.int 10) (.int 12) = some (.int 1000000000000) := rfl
theorem p1_eq {w : Nat} {rs : List Rw} (hd : ∀ r ∈ rs, dig r) (hl : rs.length ≤ 60) (z0 z1 z2 z4 z5 z6 z7 : Sl) : p1_law [z0, z1, z2, .fz (cirD w rs), z4, z5, z6, z7] = some (.list ((rs.map shw).map .str)) := by
  have e : (rs.map shw).map PyData.str = rs.map fun r => .str (shw r) := by rw [List.map_map]; rfl
  rw [e]
  refine comp_map (h := rwD) (k := fun r => PyData.str (shw r)) rfl (by omega) fun r hr => ?_
  have a := lwords_eq r (hd r hr)
  have b := joinD_ok (wds_ok r (hd r hr))
  simp [a, b]
  rfl
theorem p2_eq {w : Nat} (rs : List Rw) (hl : rs.length ≤ 60) (z0 z1 z2 z4 z5 z6 z7 : Sl) : ∃ L : List D, L.length = lks (rs.take 53) ∧ p2_law [z0, z1, z2, .fz (cirD w rs), z4, z5, z6, z7] = some (.list L) := by
  refine ⟨((rs.take 53).filter Rw.isLook).map rwD, by rw [List.length_map, lks_f], ?_⟩
  refine compI_map (h := rwD) (k := rwD) (b := Rw.isLook) ?_ (by rw [List.length_take]; omega) (fun r _ => ?_) fun r _ _ => rfl
  · have c : slD (.tuple (rs.map rwD)) none (some 53) = some (.tuple ((rs.take 53).map rwD)) := by
      show some (PyData.tuple (cutD _ _ _)) = _
      unfold cutD
      have e := HT.sIx_nat (rs.map rwD).length (rs.map rwD).length 53
      have e : HT.sIx (rs.map rwD).length (rs.map rwD).length (some 53) = min 53 (rs.map rwD).length := e
      rw [HT.sIx_none, e, List.drop_zero, Nat.sub_zero, List.map_take]
      congr 2
      rcases Nat.le_total 53 (rs.map rwD).length with h | h
      · rw [Nat.min_eq_left h]
      · rw [Nat.min_eq_right h, List.take_length, List.take_of_length_le h]
    have a : ixD (cirD w rs) (.int 1) = some (.tuple (rs.map rwD)) := rfl
    simp [a, c]
  · obtain ⟨s, g0, g1, _, _⟩ := islook_eq r
    simp [g0, g1]
section
variable (S C : D) (w h : Int) (L : List D)
theorem a1 (c : Int) (e : g__law_cell [S, .int 0] = some (.int c)) (hw : 1 + c % 6 = w) : st_1 [.fz S, .un, .un, .un, .un, .un, .un, .un] = some (.nx, [.fz S, .fz (.int w), .un, .un, .un, .un, .un, .un]) := by
  simp [st_1, e, hw]
theorem a2 (e : g__law_cell [S, .int 1] = some (.int h)) : st_2 [.fz S, .fz (.int w), .un, .un, .un, .un, .un, .un] = some (.nx, [.fz S, .fz (.int w), .fz (.int h), .un, .un, .un, .un, .un]) := by
  simp [st_2, e]
theorem a3 (A : D) (b : Bool) (sl : slD S (some 3) (some 63) = some A) (hb : (h % 2 == 0) = b) (e : g__law_circuit [A, .int w, .bool b] = some C) : st_3 [.fz S, .fz (.int w), .fz (.int h), .un, .un, .un, .un, .un] = some (.nx, [.fz S, .fz (.int w), .fz (.int h), .fz C, .un, .un, .un, .un]) := by
  simp [st_3, sl, hb, e]
theorem a4 (s t : Str) (A : List D) (hs : strD [.int w] = some (.str s)) (ha : addD (.str "wires ") (.str s) = some (.str t)) (hp : p1_law [.fz S, .fz (.int w), .fz (.int h), .fz C, .un, .un, .un, .un] = some (.list A)) (hl : addD (.list [.str t]) (.list A) = some (.list L)) : st_4 [.fz S, .fz (.int w), .fz (.int h), .fz C, .un, .un, .un, .un] = some (.nx, [.fz S, .fz (.int w), .fz (.int h), .fz C, .fz (.list L), .un, .un, .un]) := by
  simp [st_4, hs, ha, hp, hl]
theorem a5 (T : Str) (hj : joinD (.str "\n") (.list L) = some (.str T)) (hr : g__law_refused_at [.str T] = some (.int 0)) : st_5 [.fz S, .fz (.int w), .fz (.int h), .fz C, .fz (.list L), .un, .un, .un] = some (.nx, [.fz S, .fz (.int w), .fz (.int h), .fz C, .fz (.list L), .un, .un, .un]) := by
  simp [st_5, hj, hr]
theorem a6 : st_6 [.fz S, .fz (.int w), .fz (.int h), .fz C, .fz (.list L), .un, .un, .un] = some (.nx, [.fz S, .fz (.int w), .fz (.int h), .fz C, .fz (.list L), .fz (.int 0), .un, .un]) := by
  simp [st_6]
theorem a8 (T : List D) (J : Str) (due : Int) (z6 z7 : Sl) (hj : joinD (.str "\n") (.list T) = some (.str J)) (hr : g__law_refused_at [.str J] = some (.int due)) : st_8 [.fz S, .fz (.int w), .fz (.int h), .fz C, .fz (.list T), .fz (.int due), z6, z7] = some (.rt (.bool true), [.fz S, .fz (.int w), .fz (.int h), .fz C, .fz (.list T), .fz (.int due), z6, z7]) := by
  simp [st_8, hj, hr]
theorem a7A (q : h / 2 % 6 = 1) (M A B T : List D) (h0 : mulL (.list [.str "flip 0"]) (.int 60) = some (.list M)) (h1 : addD (.list L) (.list M) = some (.list A)) (h2 : slD (.list A) none (some 61) = some (.list B)) (E : List D) (h3 : slD (.list [.str "swing 0", .str "flip"]) none (some (1 + h / 12 % 2)) = some (.list E)) (h4 : addD (.list B) (.list E) = some (.list T)) : st_7 [.fz S, .fz (.int w), .fz (.int h), .fz C, .fz (.list L), .fz (.int 0), .un, .un] = some (.nx, [.fz S, .fz (.int w), .fz (.int h), .fz C, .fz (.list T), .fz (.int 62), .un, .un]) := by
  simp [-sSeq, -sIf, sSeq_k, sIf_k, st_7, q, h0, h1, h2, h3, h4]
theorem a7B (q : h / 2 % 6 = 2) (M A T P R : List D) (n m : Int) (h0 : mulL (.list [.str "look 0"]) (.int 7) = some (.list M)) (h1 : slD (.list L) none (some 54) = some (.list A)) (h2 : addD (.list A) (.list M) = some (.list T)) (hp : p2_law [.fz S, .fz (.int w), .fz (.int h), .fz C, .fz (.list T), .fz (.int 0), .un, .un] = some (.list P)) (hm : (P.length : Int) = m) (c1 : ixD C (.int 1) = some (.tuple R)) (hR : (R.length : Int) = n) (due : Int) (hd : (if n + 1 < 54 then n + 1 else 54) + 7 - m = due) : st_7 [.fz S, .fz (.int w), .fz (.int h), .fz C, .fz (.list L), .fz (.int 0), .un, .un] = some (.nx, [.fz S, .fz (.int w), .fz (.int h), .fz C, .fz (.list T), .fz (.int due), .fz (.int m), .un]) := by
  simp [-sSeq, -sIf, sSeq_k, sIf_k, st_7, q, h0, h1, h2, hp, hm, c1, hR, hd]
theorem a7C (q : ¬ h / 2 % 6 = 1) (q2 : ¬ h / 2 % 6 = 2) (c : Int) (T : List D) (due : Int) (e : g__law_cell [S, .int 2] = some (.int c)) (g : g__law_spoilt [.list L, .int (c % 1000000000000), .int (h / 12), .int w] = some (.tuple [.list T, .int due])) : st_7 [.fz S, .fz (.int w), .fz (.int h), .fz C, .fz (.list L), .fz (.int 0), .un, .un] = some (.nx, [.fz S, .fz (.int w), .fz (.int h), .fz C, .fz (.list T), .fz (.int due), .un, .fz (.tuple [.list T, .int due])]) := by
  have q1 : (h / 2 % 6 == 1) = false := by simpa using q
  have q2 : (h / 2 % 6 == 2) = false := by simpa using q2
  simp [-sSeq, -sIf, sSeq_k, sIf_k, st_7, q1, q2, pw12, e, g]
end

theorem rep_map {α β : Type} (f : α → β) (n : Nat) (x : α) : List.replicate n (f x) = (List.replicate n x).map f := by rw [List.map_replicate]
theorem okAll_rep {w : Nat} (r : Rw) (h : ∀ l, r.ok w l) : ∀ (n l : Nat), okAll w l (List.replicate n r)
  | 0, _ => trivial
  | n + 1, l => ⟨h l, okAll_rep r h n _⟩
theorem okAll_look {w : Nat} (h0 : 1 ≤ w) : ∀ (n l : Nat), l + n ≤ 6 → okAll w l (List.replicate n (.look 0))
  | 0, _, _ => trivial
  | n + 1, l, h => ⟨⟨by omega, by omega⟩, okAll_look h0 n (l + 1) (by omega)⟩
theorem lks_rep (n : Nat) : lks (List.replicate n (.look 0)) = n := by
  induction n with
  | zero => rfl
  | succ n ih => show 1 + lks (List.replicate n (.look 0)) = n + 1; rw [ih]; omega
theorem lks_app : ∀ as bs : List Rw, lks (as ++ bs) = lks as + lks bs
  | [], bs => by simp [lks]
  | a :: as, bs => by show (if a.isLook then 1 else 0) + lks (as ++ bs) = _; rw [lks_app as bs]; show _ = (if a.isLook then 1 else 0) + lks as + lks bs; omega
theorem ms_look : g_may_stand [rwD (.look 0), .int ((6 : Nat) : Int)] = some (.bool false) := by
  simp [rwD, g_may_stand, runB, b_may_stand, startD, at0]
theorem txs_app (w : Nat) (as bs : List Rw) : txs w as ++ bs.map shw = txs w (as ++ bs) := by simp [txs]
theorem take_rep {α : Type} (l : List α) (x : α) (m n : Nat) (h : l.length ≤ n) (hm : n ≤ l.length + m) : (l ++ List.replicate m x).take n = l ++ List.replicate (n - l.length) x := by
  rw [List.take_append, List.take_of_length_le h, List.take_replicate, Nat.min_eq_left (by omega)]
theorem flip_bad : ("flip" : Str) ∈ badL := by decide +kernel
/-- the rows are filled to more than sixty -/
theorem case_A {w : Nat} (h0 : 1 ≤ w) (hw : w ≤ 6) {rs : List Rw} (ho : okAll w 0 rs) (hn : rs.length ≤ 60) (h : Int) (q : h / 2 % 6 = 1) (S C : D) : ∃ T : List Str, st_7 [.fz S, .fz (.int w), .fz (.int h), .fz C, .fz (.list ((txs w rs).map .str)), .fz (.int 0), .un, .un] = some (.nx, [.fz S, .fz (.int w), .fz (.int h), .fz C, .fz (.list (T.map .str)), .fz (.int 62), .un, .un]) ∧ g__law_refused_at [.str (Txt.join "\n" T)] = some (.int 62) ∧ (∀ x ∈ T, Few x) ∧ T.length ≤ 100 := by
  have oa : okAll w 0 (rs ++ List.replicate (60 - rs.length) (.pl (.flip 0))) := (okAll_app _ _ _).mpr ⟨ho, okAll_rep (.pl (.flip 0)) (fun l => (show 0 < w by omega)) _ _⟩
  have ol : (rs ++ List.replicate (60 - rs.length) (Rw.pl (.flip 0))).length = 60 := by simp; omega
  have F := few_txs (w := w) (by omega) (okAll_dig hw _ 0 (by decide) oa)
  have hB : ((txs w rs).map PyData.str ++ List.replicate 60 (PyData.str "flip 0")).take 61 = (txs w (rs ++ List.replicate (60 - rs.length) (.pl (.flip 0)))).map .str := by
    rw [take_rep _ _ _ _ (by simp [txs]; omega) (by simp [txs]), s_flip0]
    have e : 61 - ((txs w rs).map PyData.str).length = 60 - rs.length := by rw [List.length_map]; unfold txs; rw [List.length_cons, List.length_map]; omega
    rw [e, ← txs_app, List.map_append, rep_map PyData.str, rep_map shw]
  have hE : ∃ ts : List Str, slD (.list [.str "swing 0", .str "flip"]) none (some (1 + h / 12 % 2)) = some (.list ((("swing 0" : Str) :: ts).map .str)) ∧ (∀ x ∈ ts, Few x) ∧ ts.length ≤ 1 := by
    rcases (by omega : h / 12 % 2 = 0 ∨ h / 12 % 2 = 1) with z | z
    · rw [z]; exact ⟨[], rfl, (fun x hx => by cases hx), by decide⟩
    · rw [z]; exact ⟨["flip"], rfl, (fun x hx => by rw [List.mem_singleton.mp hx]; exact few_of (List.all_eq_true.mp bad_few _ flip_bad)), by decide⟩
  obtain ⟨ts, e3, fts, lts⟩ := hE
  have lx : (txs w (rs ++ List.replicate (60 - rs.length) (Rw.pl (.flip 0)))).length = 61 := by unfold txs; rw [List.length_cons, List.length_map, ol]
  have fs : Few ("swing 0" : Str) := by rw [s_swing0]; exact few_shw (r := .pl (.swing 0)) (show 0 < 10 by decide)
  have c61 := cut_to ((txs w rs).map PyData.str ++ List.replicate 60 (PyData.str "flip 0")) 61
  rw [hB] at c61
  refine ⟨txs w (rs ++ List.replicate (60 - rs.length) (.pl (.flip 0))) ++ ("swing 0" : Str) :: ts, ?_, ?_, fun x hx => ?_, ?_⟩
  · exact a7A S C w h _ q _ _ _ _ (mul60 _) (addD_list (by simp [txs]; omega)) c61 _ e3 (by rw [addD_list (by simp [lx]; omega), ← List.map_append])
  · have r := refuses h0 hw oa (by omega) (t := "swing 0") (ts := ts) fs fts (by omega) (.inr ⟨rwD (.pl (.swing 0)), by rw [s_swing0]; exact known_get (l := 0) hw (by decide) (r := .pl (.swing 0)) (show 0 < w by omega), isN_rw _, .inl ol⟩)
    rw [r, ol]
    rfl
  · rcases List.mem_append.mp hx with hx | hx
    · exact F x hx
    · rcases List.mem_cons.mp hx with rfl | hx
      · exact fs
      · exact fts x hx
  · rw [List.length_append, lx, List.length_cons]; omega
/-- a seventh look -/
theorem case_B {w : Nat} (h0 : 1 ≤ w) (hw : w ≤ 6) {rs : List Rw} (ho : okAll w 0 rs) (hn : rs.length ≤ 60) (h : Int) (q : h / 2 % 6 = 2) (S : D) : ∃ (T : List Str) (due : Int) (z6 : Sl), st_7 [.fz S, .fz (.int w), .fz (.int h), .fz (cirD w rs), .fz (.list ((txs w rs).map .str)), .fz (.int 0), .un, .un] = some (.nx, [.fz S, .fz (.int w), .fz (.int h), .fz (cirD w rs), .fz (.list (T.map .str)), .fz (.int due), z6, .un]) ∧ g__law_refused_at [.str (Txt.join "\n" T)] = some (.int due) ∧ (∀ x ∈ T, Few x) ∧ T.length ≤ 100 := by
  have ot := okAll_take ho 53
  have m6 : lks (rs.take 53) ≤ 6 := by have := lks_le (l := 0) (by decide) ot; omega
  generalize hm : lks (rs.take 53) = m at m6
  have oa : okAll w 0 (rs.take 53 ++ List.replicate (6 - m) (.look 0)) := (okAll_app _ _ _).mpr ⟨ot, okAll_look h0 _ _ (by omega)⟩
  have la : lks (rs.take 53 ++ List.replicate (6 - m) (.look 0)) = 6 := by rw [lks_app, lks_rep, hm]; omega
  have ol : (rs.take 53 ++ List.replicate (6 - m) (Rw.look 0)).length = min 53 rs.length + (6 - m) := by simp
  have F := few_txs (w := w) (by omega) (okAll_dig hw _ 0 (by decide) oa)
  have fl : Few (shw (.look 0)) := few_shw (r := .look 0) (show 0 < 10 by decide)
  obtain ⟨P, hP, ep⟩ : ∃ P : List D, P.length = m ∧ ∀ z0 z1 z2 z4 z5 z6 z7, p2_law [z0, z1, z2, .fz (cirD w rs), z4, z5, z6, z7] = some (.list P) := by
    obtain ⟨P, hP, e⟩ := p2_eq (w := w) rs hn .un .un .un .un .un .un .un
    exact ⟨P, by rw [hP, hm], fun z0 z1 z2 z4 z5 z6 z7 => e⟩
  have c54 := cut_to ((txs w rs).map PyData.str) 54
  rw [← List.map_take, txs_take rs (by decide)] at c54
  have eT : (txs w (rs.take 53)).map PyData.str ++ List.replicate 7 (PyData.str "look 0") = (txs w (rs.take 53 ++ List.replicate (6 - m) (.look 0)) ++ shw (.look 0) :: List.replicate m (shw (.look 0))).map .str := by
    rw [s_look0, ← txs_app, List.append_assoc, List.map_append, List.map_append, List.map_cons, List.map_replicate, List.map_replicate, List.map_replicate]
    congr 1
    rw [← List.replicate_succ, List.replicate_append_replicate]
    congr 1
    omega
  have lx : (txs w (rs.take 53)).length ≤ 54 := by simp [txs]; omega
  refine ⟨txs w (rs.take 53 ++ List.replicate (6 - m) (.look 0)) ++ shw (.look 0) :: List.replicate m (shw (.look 0)), ((min 53 rs.length + (6 - m) : Nat) : Int) + 2, .fz (.int (m : Int)), ?_, ?_, fun x hx => ?_, ?_⟩
  · refine a7B S (cirD w rs) w h _ q _ _ _ P (rs.map rwD) _ m (mul7 _) c54 (by rw [addD_list (by simp; omega), eT]) (ep _ _ _ _ _ _ _) (by rw [hP]) rfl rfl _ ?_
    rw [List.length_map]
    split <;> omega
  · have r := refuses h0 hw oa (by omega) (t := shw (.look 0)) (ts := List.replicate m (shw (.look 0))) fl (fun x hx => by rw [(List.mem_replicate.mp hx).2]; exact fl) (by rw [ol, List.length_replicate]; omega) (by rw [la]; exact .inr ⟨rwD (.look 0), known_get (l := 0) hw (by decide) (r := .look 0) ⟨by omega, by decide⟩, isN_rw _, .inr ms_look⟩)
    rw [r, ol]
  · rcases List.mem_append.mp hx with hx | hx
    · exact F x hx
    · rcases List.mem_cons.mp hx with rfl | hx
      · exact fl
      · rw [(List.mem_replicate.mp hx).2]; exact fl
  · unfold txs
    rw [List.length_append, List.length_cons, List.length_map, ol, List.length_cons, List.length_replicate]; omega
theorem wires0 {w : Nat} (h : w < 10) : addD (.str "wires ") (.str (sN w)) = some (.str (wirT w)) := by
  have e : (Str.ofString "wires ") = ⟨#[119, 105, 114, 101, 115, 32]⟩ := by decide +kernel
  have q : addD (.str "wires ") (.str (sN w)) = some (.str ("wires " ++ sN w)) := if_pos (by rw [e, sN_d h]; show 6 + 1 ≤ _; decide)
  rw [q, wirT_cd h, e, sN_d h]; rfl
theorem cut_63 (ns : List Int) : ∃ cs : List Int, cs.length ≤ 60 ∧ slD (.list (ns.map .int)) (some 3) (some 63) = some (.list (cs.map .int)) := by
  refine ⟨(ns.drop (HT.sIx ns.length 0 (some 3))).take (HT.sIx ns.length ns.length (some 63) - HT.sIx ns.length 0 (some 3)), ?_, ?_⟩
  · have e1 : HT.sIx ns.length 0 (some 3) = min 3 ns.length := rfl
    have e2 : HT.sIx ns.length ns.length (some 63) = min 63 ns.length := rfl
    rw [List.length_take, e1, e2]; omega
  · show some (PyData.list (cutD _ _ _)) = _
    unfold cutD
    rw [List.length_map, ← List.map_drop, ← List.map_take]
theorem law_true (ns : List Int) (hl : ns.length ≤ 63) : g_law [.list (ns.map .int)] = some (.bool true) := by
  obtain ⟨c, hc⟩ := lcell_eq ns 0 (by decide)
  obtain ⟨h, hh⟩ := lcell_eq ns 1 (by decide)
  obtain ⟨c2, hc2⟩ := lcell_eq ns 2 (by decide)
  obtain ⟨cs, l60, hcs⟩ := cut_63 ns
  obtain ⟨w, hw⟩ : ∃ w : Nat, 1 + c % 6 = (w : Int) := ⟨(1 + c % 6).toNat, by omega⟩
  have h0 : 1 ≤ w := by omega
  have h6 : w ≤ 6 := by omega
  obtain ⟨rs, e1, ho, _, e4⟩ := lcirc_ok w h0 (h % 2 == 0) cs (by omega)
  have hn : rs.length ≤ 60 := by omega
  have hd := okAll_dig h6 rs 0 (by decide) ho
  have F := few_txs (w := w) (by omega) hd
  have lx : (txs w rs).length ≤ 100 := by simp [txs]; omega
  have s4 := a4 (.list (ns.map .int)) (cirD w rs) w h ((txs w rs).map .str) (sN w) (wirT w) _ (strD_n (by omega)) (wires0 (by omega)) (p1_eq hd hn _ _ _ _ _ _ _) (by rw [addD_list (by simp; omega)]; simp [txs])
  have s5 := a5 (.list (ns.map .int)) (cirD w rs) w h ((txs w rs).map .str) _ (joinD_ok (join_few F lx).1) (accepts h0 h6 ho hn)
  obtain ⟨T, due, z6, z7, s7, r, FT, lT⟩ : ∃ (T : List Str) (due : Int) (z6 z7 : Sl), st_7 [.fz (.list (ns.map .int)), .fz (.int w), .fz (.int h), .fz (cirD w rs), .fz (.list ((txs w rs).map .str)), .fz (.int 0), .un, .un] = some (.nx, [.fz (.list (ns.map .int)), .fz (.int w), .fz (.int h), .fz (cirD w rs), .fz (.list (T.map .str)), .fz (.int due), z6, z7]) ∧ g__law_refused_at [.str (Txt.join "\n" T)] = some (.int due) ∧ (∀ x ∈ T, Few x) ∧ T.length ≤ 100 := by
    by_cases q : h / 2 % 6 = 1
    · obtain ⟨T, a, b, c, d⟩ := case_A h0 h6 ho hn h q (.list (ns.map .int)) (cirD w rs)
      exact ⟨T, 62, .un, .un, a, b, c, d⟩
    · by_cases q2 : h / 2 % 6 = 2
      · obtain ⟨T, due, z6, a, b, c, d⟩ := case_B h0 h6 ho hn h q2 (.list (ns.map .int))
        exact ⟨T, due, z6, .un, a, b, c, d⟩
      · obtain ⟨T, due, a, b, c, d⟩ := spoilt_eq h0 h6 ho hn (c2 % 1000000000000) (h / 12)
        exact ⟨T, due, .un, _, a7C _ _ w h _ q q2 c2 _ _ hc2 a, b, c, d⟩
  refine nrun rfl (δ' := [.fz (.list (ns.map .int)), .fz (.int w), .fz (.int h), .fz (cirD w rs), .fz (.list (T.map .str)), .fz (.int due), z6, z7]) ?_
  show b_law [.fz (.list (ns.map .int)), .un, .un, .un, .un, .un, .un, .un] = _
  rw [law_st, nseq (a1 _ w c hc hw), nseq (a2 _ w h hh), nseq (a3 _ (cirD w rs) w h _ _ hcs rfl e4), nseq s4, nseq s5, nseq (a6 _ _ _ _ _), nseq s7, a8 _ _ _ _ _ _ _ _ _ (joinD_ok (join_few FT lT).1) r]


end GN
namespace GN
open PySem PySem.Spec PyProof.Rows L2 VL
structure Txt (mg : Str → Option Value) : Prop where
  str : mg "str" = none
  range : mg "range" = none
  tuple : mg "tuple" = none
  len : mg "len" = none
  max : mg "max" = none
  int : mg "int" = none
  isinstance : mg "isinstance" = none
  bool : mg "bool" = none
  ValueError : mg "ValueError" = none
  min : mg "min" = none
section
variable {P : Program} {w : World} {K : PySem.W.Frag} {mg : Str → Option Value} {base : Heap}
theorem sv_setH {X : Cx} {e : Expr} {f : Dv → Option D} {pos : Pos} {i : Nat} {x : Str} {pos' : Pos} (hN : X.N.Nodup) (he : EV X e f) (hi : X.N[i]? = some x := by rfl) (hx : Loc X.env.scope x := by first | exact Or.inl rfl | exact Or.inr rfl) (hs : swapsWith e (some (.Name x pos')) pos.line X.env = pure false := by rfl) (hf : X.fn x = true ∨ X.env.scope.names.lookup x = some .local := by first | exact .inl rfl | exact .inr rfl) : SV X (.Assign [.Name x pos'] e pos) (sSet i f) := sv_set i hN he hi hx hs hf
theorem sc_BadRow : FnScope ["self", "row"] ["self", "row"] (defScope s_BadRow____init__) := ⟨rfl, rfl, rfl, by decide +kernel, rfl, by decide +kernel, by decide +kernel⟩
theorem okR_BadRow {f W : Addr} {fd : FuncData} {dV : Value} (F : FunV K "__init__" "BadRow.__init__" s_BadRow____init__ f fd dV) (C : WaveC K "WaveError" W) : FnOk P w K mg base CX0 1 f fd ["self", "row"] (spRow K) :=
  fn_row (k := 0) F sc_BadRow C rfl (by decide +kernel) (by decide +kernel) (fun _ _ _ _ _ _ => rfl) (fun _ _ _ _ _ _ => ⟨_, fun _ h => by subst h; rfl⟩) (Or.inl rfl) (Or.inl rfl)
theorem sc_row_shown : FnScope N_row_shown ["row"] (defScope s_row_shown) := ⟨rfl, rfl, rfl, by decide +kernel, rfl, by decide +kernel, by decide +kernel⟩
theorem ok_row_shown {f : Addr} {fd : FuncData} {dV : Value} (F : FunV K "row_shown" "row_shown" s_row_shown f fd dV) (T : Txt mg) : FnOk P w K mg base CX0 1 f fd ["row"] (spD K g_row_shown) :=
  fn_b (k := 0) (b := b_row_shown) F sc_row_shown fun cdv A outer s H E hr => (bv_cons (sv_set 1 sc_row_shown.nd (ev_ifx (tv_cmp (d_eq hr.units) (ev_ix d_ix (ev_var 0) ev_int (fun _ _ => rfl)) ev_str (nomark _)) (ev_op d_add (ev_slice (ev_var 0) ov_none (ov_some ev_int)) (ev_ix d_ix (ev_var 0) ev_int (fun _ _ => rfl))) (ev_var 0))) (bv_one (sv_ret (ev_join ev_str (ev_comp (vars := ["word"]) (caps := []) (by change BlkOk (defScope s_row_shown).names N_row_shown _ _ _; exact ⟨rfl, by decide +kernel, by decide +kernel, by decide +kernel, by decide +kernel⟩) rfl (iv_seq (ev_var 1)) tg_one (fun _ _ _ _ => pg_name (i := 0) (show (["word"] : List Str).Nodup by decide +kernel) rfl (Or.inl rfl) (.inr rfl)) (fun _ _ _ _ => (ev_callTy c_str rfl T.str (by decide +kernel) (av_cons (ev_var 0) av_nil))))))))
theorem sc_wires_rows : FnScope N_wires_rows [] (defScope s_wires_rows) := ⟨rfl, rfl, rfl, by decide +kernel, rfl, by decide +kernel, by decide +kernel⟩
theorem ok_wires_rows {f : Addr} {fd : FuncData} {dV : Value} (F : FunV K "wires_rows" "wires_rows" s_wires_rows f fd dV) (T : Txt mg) (T_MOST_WIRES : TopV K mg "MOST_WIRES" (.int 6)) : FnOk P w K mg base CX0 1 f fd [] (spD K g_wires_rows) :=
  fn_b (k := 0) (b := b_wires_rows) F sc_wires_rows fun cdv A outer s H E hr => (bv_one (sv_ret (ev_comp (vars := ["wires"]) (caps := []) (by change BlkOk (defScope s_wires_rows).names N_wires_rows _ _ _; exact ⟨rfl, by decide +kernel, by decide +kernel, by decide +kernel, by decide +kernel⟩) rfl (iv_range2 rfl T.range (av_cons ev_int (av_cons (ev_op d_add (ev_topV T_MOST_WIRES rfl) ev_int) av_nil))) tg_one (fun _ _ _ _ => pg_name (i := 0) (show (["wires"] : List Str).Nodup by decide +kernel) rfl (Or.inl rfl) (.inr rfl)) (fun _ _ _ _ => (ev_tup (av_cons ev_str (av_cons (ev_var 0) av_nil)))))))
theorem sc_rows_at : FnScope N_rows_at ["wire", "wires"] (defScope s_rows_at) := ⟨rfl, rfl, rfl, by decide +kernel, rfl, by decide +kernel, by decide +kernel⟩
theorem ok_rows_at {f : Addr} {fd : FuncData} {dV : Value} (F : FunV K "rows_at" "rows_at" s_rows_at f fd dV) (T : Txt mg) (T_MOST_LOOKS : TopV K mg "MOST_LOOKS" (.int 6)) : FnOk P w K mg base CX0 1 f fd ["wire", "wires"] (spD K g_rows_at) :=
  fn_b (k := 0) (b := b_rows_at) F sc_rows_at fun cdv A outer s H E hr => (bv_cons (sv_own 2 sc_rows_at.nd (av_cons (ev_tup (av_cons ev_str (av_cons (ev_var 0) av_nil))) (av_cons (ev_tup (av_cons ev_str (av_cons (ev_var 0) av_nil))) (av_cons (ev_tup (av_cons ev_str (av_cons (ev_var 0) av_nil))) av_nil)))) (bv_cons (sv_extL 2 (ev_comp (vars := ["e"]) (caps := [(0, "wire")]) (by change BlkOk (defScope s_rows_at).names N_rows_at _ _ _; exact ⟨rfl, by decide +kernel, by decide +kernel, by decide +kernel, by decide +kernel⟩) rfl (iv_range2 rfl T.range (av_cons ev_int (av_cons ev_int av_nil))) tg_one (fun _ _ _ _ => pg_name (i := 0) (show (["e", "wire"] : List Str).Nodup by decide +kernel) rfl (Or.inl rfl) (.inr rfl)) (fun _ _ _ _ => (ev_tup (av_cons ev_str (av_cons (ev_var 1) (av_cons (ev_var 0) av_nil))))))) (bv_cons (sv_for PassesOwn.never rfl (iv_range1 rfl T.range (av_cons (ev_topV T_MOST_LOOKS rfl) av_nil)) (gv_name 3 sc_rows_at.nd) (bv_one (sv_extL 2 (ev_lst (av_cons (ev_tup (av_cons ev_str (av_cons (ev_var 3) (av_cons (ev_tup (av_cons ev_str (av_cons (ev_var 0) av_nil))) av_nil)))) (av_cons (ev_tup (av_cons ev_str (av_cons (ev_var 3) (av_cons (ev_tup (av_cons ev_str (av_cons (ev_var 0) (av_cons ev_int av_nil)))) av_nil)))) av_nil)))))) (bv_cons (sv_for PassesOwn.never rfl (iv_range1 rfl T.range (av_cons (ev_var 1) av_nil)) (gv_name 4 sc_rows_at.nd) (bv_one (sv_if (tv_cmp (d_ne hr.units) (ev_var 4) (ev_var 0) (nomark _)) (bv_one (sv_extL 2 (ev_lst (av_cons (ev_tup (av_cons ev_str (av_cons (ev_var 0) (av_cons (ev_var 4) av_nil)))) (av_cons (ev_tup (av_cons ev_str (av_cons (ev_var 0) (av_cons (ev_var 4) av_nil)))) (av_cons (ev_tup (av_cons ev_str (av_cons (ev_var 0) (av_cons (ev_var 4) av_nil)))) av_nil)))))) bv_nil))) (bv_one (sv_fz 2 (sv_ret (ev_var 2))))))))
theorem sc_rows_over : FnScope N_rows_over ["wires"] (defScope s_rows_over) := ⟨rfl, rfl, rfl, by decide +kernel, rfl, by decide +kernel, by decide +kernel⟩
theorem ok_rows_over {f : Addr} {fd : FuncData} {dV : Value} (F : FunV K "rows_over" "rows_over" s_rows_over f fd dV) (T : Txt mg) (C_rows_at : Cal P w K mg base "rows_at" 1 g_rows_at []) : FnOk P w K mg base CX0 2 f fd ["wires"] (spD K g_rows_over) :=
  fn_b (k := 1) (b := b_rows_over) F sc_rows_over fun cdv A outer s H E hr => (bv_cons (sv_own 1 sc_rows_over.nd av_nil) (bv_cons (sv_for PassesOwn.never rfl (iv_range1 rfl T.range (av_cons (ev_var 0) av_nil)) (gv_name 2 sc_rows_over.nd) (bv_one (sv_extL 1 (ev_def0 C_rows_at (hr.mono (by decide)) rfl (av_cons (ev_var 2) (av_cons (ev_var 0) av_nil)))))) (bv_one (sv_fz 1 (sv_ret (ev_var 1))))))
theorem sc_by_text : FnScope N_by_text ["rows"] (defScope s_by_text) := ⟨rfl, rfl, rfl, by decide +kernel, rfl, by decide +kernel, by decide +kernel⟩
theorem okn_by_text {f : Addr} {fd : FuncData} {dV : Value} (F : FunV K "by_text" "by_text" s_by_text f fd dV) (T : Txt mg) (C_row_shown : Cal P w K mg base "row_shown" 1 g_row_shown []) : FnOk P w K mg base CX0 2 f fd ["rows"] (spN K gn_by_text) :=
  fn_n (k := 1) (b := b_by_text) F sc_by_text fun cdv A outer s H E hr => (bn_cons (sv_dnew 1 sc_by_text.nd) (nxt_dnew _) (bn_cons (sv_for PassesOwn.never rfl (iv_seq (ev_var 0)) (gv_name 2 sc_by_text.nd) (bv_one (sv_dput 1 (un1 hr.units) (ev_def0 C_row_shown (hr.mono (by decide)) rfl (av_cons (ev_var 2) av_nil)) (ev_var 2)))) (nxt_for (show Nxt l1_by_text from (nxt_dput _ _ _))) (bn_retV 1)))
theorem sc_may_stand : FnScope N_may_stand ["row", "looks"] (defScope s_may_stand) := ⟨rfl, rfl, rfl, by decide +kernel, rfl, by decide +kernel, by decide +kernel⟩
theorem ok_may_stand {f : Addr} {fd : FuncData} {dV : Value} (F : FunV K "may_stand" "may_stand" s_may_stand f fd dV) (T : Txt mg) (T_MOST_LOOKS : TopV K mg "MOST_LOOKS" (.int 6)) : FnOk P w K mg base CX0 1 f fd ["row", "looks"] (spD K g_may_stand) :=
  fn_b (k := 0) (b := b_may_stand) F sc_may_stand fun cdv A outer s H E hr => (bv_cons (sv_if (tv_cmp (d_eq hr.units) (ev_ix d_ix (ev_var 0) ev_int (fun _ _ => rfl)) ev_str (nomark _)) (bv_one (sv_ret (ev_cmp d_lt (ev_var 1) (ev_topV T_MOST_LOOKS rfl) (nomark _)))) bv_nil) (bv_one (sv_ret (ev_or (ev_cmp (d_ne hr.units) (ev_ix d_ix (ev_var 0) ev_int (fun _ _ => rfl)) ev_str (nomark _)) (ev_one (ev_cmp d_lt (ev_ix d_ix (ev_var 0) ev_int (fun _ _ => rfl)) (ev_var 1) (nomark _)))))))
theorem sc_rows_read : FnScope N_rows_read ["texts", "wires"] (defScope s_rows_read) := ⟨rfl, rfl, rfl, by decide +kernel, rfl, by decide +kernel, by decide +kernel⟩
theorem okx_rows_read {f : Addr} {fd : FuncData} {dV : Value} (F : FunV K "rows_read" "rows_read" s_rows_read f fd dV) (T : Txt mg) (T_MOST_ROWS : TopV K mg "MOST_ROWS" (.int 60)) (C_rows_over : Cal P w K mg base "rows_over" 2 g_rows_over []) (C_may_stand : Cal P w K mg base "may_stand" 1 g_may_stand []) (Q_by_text : CalN P w K mg base "by_text" 2 gn_by_text) (R_BadRow : CalRow P w K mg base "BadRow" 1) : FnOk P w K mg base (CXX P w) 3 f fd ["texts", "wires"] (spX K x_rows_read) :=
  fn_x (k := 2) (fx := bx_rows_read) F sc_rows_read fun cdv A outer s H E hr => (bx_next (SV.lift (sv_downC 2 Q_by_text (hr.mono (by decide)) rfl (av_cons (ev_def0 C_rows_over (hr.mono (by decide)) rfl (av_cons (ev_var 1) av_nil)) av_nil) sc_rows_read.nd)) (bx_next (SV.lift (sv_own 3 sc_rows_read.nd av_nil)) (bx_next (SV.lift (sv_set 4 sc_rows_read.nd ev_int)) (bx_here (sx_for rfl rfl (fun _ _ => (iv_seq (ev_var 0))) (fun _ _ => (gv_name 5 sc_rows_read.nd)) (fun _ _ => BV.lift (bv_cons (sv_set 6 sc_rows_read.nd (ev_dget1 2 (un1 hr.units) (ev_var 5) ⟨rfl, rfl, rfl, rfl⟩)) (bv_cons (sv_if (WV.tv (wv_or (tv_cmp d_is (ev_var 6) ev_non (nomark _)) (wv_or (tv_cmp (d_eq hr.units) (ev_lenO 3 rfl T.len) (ev_topV T_MOST_ROWS rfl) (nomark _)) (wv_or1 (tv_not (tv_val (ev_def0 C_may_stand (hr.mono (by decide)) rfl (av_cons (ev_var 6) (av_cons (ev_var 4) av_nil))))))))) (bv_one sv_no) bv_nil) (bv_cons (sv_app 3 (ev_var 6)) (bv_one (sv_if (tv_cmp (d_eq hr.units) (ev_ix d_ix (ev_var 6) ev_int (fun _ _ => rfl)) ev_str (nomark _)) (bv_one (sv_set 4 sc_rows_read.nd (ev_op d_add (ev_var 4) ev_int))) bv_nil)))))) (fun _ _ => (bx_next (SV.lift (sv_set 6 sc_rows_read.nd (ev_dget1 2 (un1 hr.units) (ev_var 5) ⟨rfl, rfl, rfl, rfl⟩))) (bx_here (sx_if (TV.lift (WV.tv (wv_or (tv_cmp d_is (ev_var 6) ev_non (nomark _)) (wv_or (tv_cmp (d_eq hr.units) (ev_lenO 3 rfl T.len) (ev_topV T_MOST_ROWS rfl) (nomark _)) (wv_or1 (tv_not (tv_val (ev_def0 C_may_stand (hr.mono (by decide)) rfl (av_cons (ev_var 6) (av_cons (ev_var 4) av_nil)))))))))) (bx_here (sx_raiseR R_BadRow (hr.mono (by decide)) rfl rfl (EV.lift (ev_op d_add (ev_lenO 3 rfl T.len) ev_int)))) bx_no)))))))))
theorem ok_rows_read {f : Addr} {fd : FuncData} {dV : Value} (F : FunV K "rows_read" "rows_read" s_rows_read f fd dV) (T : Txt mg) (T_MOST_ROWS : TopV K mg "MOST_ROWS" (.int 60)) (C_rows_over : Cal P w K mg base "rows_over" 2 g_rows_over []) (C_may_stand : Cal P w K mg base "may_stand" 1 g_may_stand []) (Q_by_text : CalN P w K mg base "by_text" 2 gn_by_text) : FnOk P w K mg base CX0 3 f fd ["texts", "wires"] (spD K g_rows_read) :=
  fn_b (k := 2) (b := b_rows_read) F sc_rows_read fun cdv A outer s H E hr => (bv_cons (sv_downC 2 Q_by_text (hr.mono (by decide)) rfl (av_cons (ev_def0 C_rows_over (hr.mono (by decide)) rfl (av_cons (ev_var 1) av_nil)) av_nil) sc_rows_read.nd) (bv_cons (sv_own 3 sc_rows_read.nd av_nil) (bv_cons (sv_set 4 sc_rows_read.nd ev_int) (bv_cons (sv_for PassesOwn.never rfl (iv_seq (ev_var 0)) (gv_name 5 sc_rows_read.nd) (bv_cons (sv_set 6 sc_rows_read.nd (ev_dget1 2 (un1 hr.units) (ev_var 5) ⟨rfl, rfl, rfl, rfl⟩)) (bv_cons (sv_if (WV.tv (wv_or (tv_cmp d_is (ev_var 6) ev_non (nomark _)) (wv_or (tv_cmp (d_eq hr.units) (ev_lenO 3 rfl T.len) (ev_topV T_MOST_ROWS rfl) (nomark _)) (wv_or1 (tv_not (tv_val (ev_def0 C_may_stand (hr.mono (by decide)) rfl (av_cons (ev_var 6) (av_cons (ev_var 4) av_nil))))))))) (bv_one sv_no) bv_nil) (bv_cons (sv_app 3 (ev_var 6)) (bv_one (sv_if (tv_cmp (d_eq hr.units) (ev_ix d_ix (ev_var 6) ev_int (fun _ _ => rfl)) ev_str (nomark _)) (bv_one (sv_set 4 sc_rows_read.nd (ev_op d_add (ev_var 4) ev_int))) bv_nil)))))) (bv_one (sv_fz 3 (sv_ret (ev_callTy c_tuple rfl T.tuple (by decide +kernel) (av_cons (ev_var 3) av_nil)))))))))
theorem sc_read : FnScope N_read ["text"] (defScope s_read) := ⟨rfl, rfl, rfl, by decide +kernel, rfl, by decide +kernel, by decide +kernel⟩
theorem okx_read {f : Addr} {fd : FuncData} {dV : Value} (F : FunV K "read" "read" s_read f fd dV) (T : Txt mg) (C_rows_read : Cal P w K mg base "rows_read" 3 g_rows_read []) (C_wires_rows : Cal P w K mg base "wires_rows" 1 g_wires_rows []) (Q_by_text : CalN P w K mg base "by_text" 2 gn_by_text) (R_BadRow : CalRow P w K mg base "BadRow" 1) (Y_rows_read : CalX P w K mg base "rows_read" 3 x_rows_read []) : FnOk P w K mg base (CXX P w) 4 f fd ["text"] (spX K x_read) :=
  fn_x (k := 3) (fx := bx_read) F sc_read fun cdv A outer s H E hr => (bx_next (SV.lift (sv_set 1 sc_read.nd (ev_split (ev_var 0) ev_str))) (bx_next (SV.lift (sv_set 2 sc_read.nd (ev_dgetC Q_by_text (hr.mono (by decide)) rfl (av_cons (ev_def00 C_wires_rows (hr.mono (by decide)) rfl) av_nil) (ev_ix d_ix (ev_var 1) ev_int (fun _ _ => rfl)) ⟨rfl, rfl, rfl, rfl⟩))) (bx_both (sx_if (TV.lift (tv_cmp d_is (ev_var 2) ev_non (nomark _))) (bx_here (sx_raiseR R_BadRow (hr.mono (by decide)) rfl rfl (EV.lift ev_int))) bx_no) (SV.lift (sv_if (tv_cmp d_is (ev_var 2) ev_non (nomark _)) (bv_one sv_no) bv_nil)) (bx_here (sx_ret (ex_tup (ax_next (EV.lift (ev_ix d_ix (ev_var 2) ev_int (fun _ _ => rfl))) (ax_here (ex_def Y_rows_read (hr.mono (by decide)) rfl (AV.lift (av_cons (ev_slice (ev_var 1) (ov_some ev_int) ov_none) (av_cons (ev_ix d_ix (ev_var 2) ev_int (fun _ _ => rfl)) av_nil))))))))))))
theorem ok_read {f : Addr} {fd : FuncData} {dV : Value} (F : FunV K "read" "read" s_read f fd dV) (T : Txt mg) (C_rows_read : Cal P w K mg base "rows_read" 3 g_rows_read []) (C_wires_rows : Cal P w K mg base "wires_rows" 1 g_wires_rows []) (Q_by_text : CalN P w K mg base "by_text" 2 gn_by_text) : FnOk P w K mg base CX0 4 f fd ["text"] (spD K g_read) :=
  fn_b (k := 3) (b := b_read) F sc_read fun cdv A outer s H E hr => (bv_cons (sv_set 1 sc_read.nd (ev_split (ev_var 0) ev_str)) (bv_cons (sv_set 2 sc_read.nd (ev_dgetC Q_by_text (hr.mono (by decide)) rfl (av_cons (ev_def00 C_wires_rows (hr.mono (by decide)) rfl) av_nil) (ev_ix d_ix (ev_var 1) ev_int (fun _ _ => rfl)) ⟨rfl, rfl, rfl, rfl⟩)) (bv_cons (sv_if (tv_cmp d_is (ev_var 2) ev_non (nomark _)) (bv_one sv_no) bv_nil) (bv_one (sv_ret (ev_tup (av_cons (ev_ix d_ix (ev_var 2) ev_int (fun _ _ => rfl)) (av_cons (ev_def0 C_rows_read (hr.mono (by decide)) rfl (av_cons (ev_slice (ev_var 1) (ov_some ev_int) ov_none) (av_cons (ev_ix d_ix (ev_var 2) ev_int (fun _ _ => rfl)) av_nil))) av_nil))))))))
theorem sc__law_cell : FnScope N__law_cell ["script", "k"] (defScope s__law_cell) := ⟨rfl, rfl, rfl, by decide +kernel, rfl, by decide +kernel, by decide +kernel⟩
theorem ok__law_cell {f : Addr} {fd : FuncData} {dV : Value} (F : FunV K "_law_cell" "_law_cell" s__law_cell f fd dV) (T : Txt mg) : FnOk P w K mg base CX0 1 f fd ["script", "k"] (spD K g__law_cell) :=
  fn_b (k := 0) (b := b__law_cell) F sc__law_cell fun cdv A outer s H E hr => (bv_cons (sv_if (tv_cmp d_lt (ev_var 1) (ev_callB c_len rfl T.len (by decide +kernel) (av_cons (ev_var 0) av_nil)) (nomark _)) (bv_one (sv_ret (ev_ix d_ix (ev_var 0) (ev_var 1) (fun _ _ => rfl)))) bv_nil) (bv_one (sv_ret ev_int)))
theorem sc__law_turn : FnScope N__law_turn ["cell", "prime"] (defScope s__law_turn) := ⟨rfl, rfl, rfl, by decide +kernel, rfl, by decide +kernel, by decide +kernel⟩
theorem ok__law_turn {f : Addr} {fd : FuncData} {dV : Value} (F : FunV K "_law_turn" "_law_turn" s__law_turn f fd dV) (T : Txt mg) : FnOk P w K mg base CX0 1 f fd ["cell", "prime"] (spD K g__law_turn) :=
  fn_b (k := 0) (b := b__law_turn) F sc__law_turn fun cdv A outer s H E hr => (bv_cons (sv_set 2 sc__law_turn.nd (ev_op d_mod (ev_var 0) ev_int)) (bv_one (sv_ret (ev_op d_mod (ev_op d_mulI (ev_op d_add (ev_var 2) ev_int) (ev_op d_add (ev_var 2) ev_int)) (ev_var 1)))))
theorem sc__law_row : FnScope N__law_row ["cell", "wires", "looks", "plain"] (defScope s__law_row) := ⟨rfl, rfl, rfl, by decide +kernel, rfl, by decide +kernel, by decide +kernel⟩
theorem ok__law_row {f : Addr} {fd : FuncData} {dV : Value} (F : FunV K "_law_row" "_law_row" s__law_row f fd dV) (T : Txt mg) (C__law_turn : Cal P w K mg base "_law_turn" 1 g__law_turn []) : FnOk P w K mg base CX0 2 f fd ["cell", "wires", "looks", "plain"] (spD K g__law_row) :=
  fn_b (k := 1) (b := b__law_row) F sc__law_row fun cdv A outer s H E hr => (bv_cons (sv_set 4 sc__law_row.nd (ev_op d_div (ev_def0 C__law_turn (hr.mono (by decide)) rfl (av_cons (ev_var 0) (av_cons ev_int av_nil))) ev_int)) (bv_cons (sv_set 5 sc__law_row.nd (ev_op d_mod (ev_op d_div (ev_var 4) ev_int) (ev_var 1))) (bv_cons (sv_set 6 sc__law_row.nd (ev_op d_mod (ev_op d_add (ev_op d_add (ev_var 5) ev_int) (ev_op d_mod (ev_op d_div (ev_var 4) ev_int) (ev_callB (c_max rfl) rfl T.max (by decide +kernel) (av_cons ev_int (av_cons (ev_op d_sub (ev_var 1) ev_int) av_nil))))) (ev_var 1))) (bv_cons (sv_if (tv_cmp d_lt (ev_op d_mod (ev_var 0) ev_int) ev_int (nomark _)) (bv_one (sv_ret (ev_tup (av_cons ev_str (av_cons (ev_var 5) av_nil))))) bv_nil) (bv_cons (sv_if (tv_cmp d_lt (ev_op d_mod (ev_var 0) ev_int) ev_int (nomark _)) (bv_one (sv_ret (ev_tup (av_cons ev_str (av_cons (ev_var 5) (av_cons (ev_op d_add ev_int (ev_op d_mod (ev_op d_div (ev_var 4) ev_int) ev_int)) av_nil)))))) bv_nil) (bv_cons (sv_if (WV.tv (wv_and (tv_chain d_lt d_lt ev_int (ev_op d_mod (ev_var 0) ev_int) ev_int) (wv_and1 (tv_cmp d_gt (ev_var 1) ev_int (nomark _))))) (bv_one (sv_ret (ev_tup (av_cons (ev_ix d_ix (ev_lst (av_cons ev_str (av_cons ev_str (av_cons ev_str (av_cons ev_str (av_cons ev_str av_nil)))))) (ev_op d_sub (ev_op d_mod (ev_var 0) ev_int) ev_int) (fun _ _ => rfl)) (av_cons (ev_var 6) (av_cons (ev_var 5) av_nil)))))) bv_nil) (bv_cons (sv_if (WV.tv (wv_or (tv_cmp (d_eq hr.units) (ev_op d_mod (ev_var 0) ev_int) ev_int (nomark _)) (wv_or1 (tv_val (ev_var 3))))) (bv_one (sv_ret (ev_tup (av_cons ev_str (av_cons (ev_var 5) av_nil))))) bv_nil) (bv_cons (sv_if (WV.tv (wv_and (tv_cmp d_lt (ev_var 2) ev_int (nomark _)) (wv_and1 (WV.tv (wv_or (tv_cmp d_lt (ev_op d_mod (ev_var 0) ev_int) ev_int (nomark _)) (wv_or1 (tv_cmp (d_eq hr.units) (ev_var 2) ev_int (nomark _)))))))) (bv_one (sv_ret (ev_tup (av_cons ev_str (av_cons (ev_var 5) av_nil))))) bv_nil) (bv_cons (sv_if (tv_cmp (d_eq hr.units) (ev_var 2) ev_int (nomark _)) (bv_one (sv_ret (ev_tup (av_cons ev_str (av_cons (ev_var 5) av_nil))))) bv_nil) (bv_one (sv_ret (ev_tup (av_cons ev_str (av_cons (ev_op d_mod (ev_op d_div (ev_var 4) ev_int) (ev_var 2)) (av_cons (ev_ix d_ix (ev_lst (av_cons (ev_tup (av_cons ev_str (av_cons (ev_var 5) av_nil))) (av_cons (ev_tup (av_cons ev_str (av_cons (ev_var 5) (av_cons ev_int av_nil)))) av_nil))) (ev_op d_mod (ev_op d_div (ev_var 4) ev_int) ev_int) (fun _ _ => rfl)) av_nil)))))))))))))))
theorem sc__law_circuit : FnScope N__law_circuit ["cells", "wires", "plain"] (defScope s__law_circuit) := ⟨rfl, rfl, rfl, by decide +kernel, rfl, by decide +kernel, by decide +kernel⟩
theorem ok__law_circuit {f : Addr} {fd : FuncData} {dV : Value} (F : FunV K "_law_circuit" "_law_circuit" s__law_circuit f fd dV) (T : Txt mg) (C__law_row : Cal P w K mg base "_law_row" 2 g__law_row []) : FnOk P w K mg base CX0 3 f fd ["cells", "wires", "plain"] (spD K g__law_circuit) :=
  fn_b (k := 2) (b := b__law_circuit) F sc__law_circuit fun cdv A outer s H E hr => (bv_cons (sv_own 3 sc__law_circuit.nd av_nil) (bv_cons (sv_set 4 sc__law_circuit.nd ev_int) (bv_cons (sv_for PassesOwn.never rfl (iv_seq (ev_var 0)) (gv_name 5 sc__law_circuit.nd) (bv_cons (sv_set 6 sc__law_circuit.nd (ev_def0 C__law_row (hr.mono (by decide)) rfl (av_cons (ev_var 5) (av_cons (ev_var 1) (av_cons (ev_var 4) (av_cons (ev_var 2) av_nil)))))) (bv_cons (sv_set 4 sc__law_circuit.nd (ev_op d_add (ev_var 4) (ev_callTy c_int rfl T.int (by decide +kernel) (av_cons (ev_cmp (d_eq hr.units) (ev_ix d_ix (ev_var 6) ev_int (fun _ _ => rfl)) ev_str (nomark _)) av_nil)))) (bv_one (sv_app 3 (ev_var 6)))))) (bv_one (sv_fz 3 (sv_ret (ev_tup (av_cons (ev_var 1) (av_cons (ev_callTy c_tuple rfl T.tuple (by decide +kernel) (av_cons (ev_var 3) av_nil)) av_nil)))))))))
theorem sc__law_words : FnScope N__law_words ["row"] (defScope s__law_words) := ⟨rfl, rfl, rfl, by decide +kernel, rfl, by decide +kernel, by decide +kernel⟩
theorem okr__law_words {f : Addr} {fd : FuncData} {dV : Value} (F : FunV K "_law_words" "_law_words" s__law_words f fd dV) (T : Txt mg) (hm : mg "_law_words" = some (.ref f)) (hk : PySem.W.keepIn K (.ref f) = true) (hb : Binds K fd ["row"] []) : ∀ m, FnOk P w K mg base CX0 (1 + m) f fd ["row"] (spD K (r__law_words m))
  | 0 => fn_b (k := 0) (b := fun _ => none) F sc__law_words fun cdv A outer s H E hr => bv_no
  | m + 1 => by
    have C__law_words : Cal P w K mg base "_law_words" (1 + m) (r__law_words m) [] := Cal.mk0 (okr__law_words F T hm hk hb m) hm hk hb
    exact fn_b (k := 1 + m) (b := b__law_words (r__law_words m)) F sc__law_words fun cdv A outer s H E hr => (bv_cons (sv_if (tv_cmp (d_eq hr.units) (ev_ix d_ix (ev_var 0) ev_int (fun _ _ => rfl)) ev_str (nomark _)) (bv_one (sv_ret (ev_op d_add (ev_lst (av_cons ev_str (av_cons (ev_callTy c_str rfl T.str (by decide +kernel) (av_cons (ev_ix d_ix (ev_var 0) ev_int (fun _ _ => rfl)) av_nil)) av_nil))) (ev_def0 C__law_words (hr.mono (by omega)) rfl (av_cons (ev_ix d_ix (ev_var 0) ev_int (fun _ _ => rfl)) av_nil))))) bv_nil) (bv_one (sv_ret (ev_op d_add (ev_lst (av_cons (ev_ix d_ix (ev_var 0) ev_int (fun _ _ => rfl)) av_nil)) (ev_comp (vars := ["part"]) (caps := []) (by change BlkOk (defScope s__law_words).names N__law_words _ _ _; exact ⟨rfl, by decide +kernel, by decide +kernel, by decide +kernel, by decide +kernel⟩) rfl (iv_seq (ev_slice (ev_var 0) (ov_some ev_int) ov_none)) tg_one (fun _ _ _ _ => pg_name (i := 0) (show (["part"] : List Str).Nodup by decide +kernel) rfl (Or.inl rfl) (.inr rfl)) (fun _ _ _ _ => (ev_callTy c_str rfl T.str (by decide +kernel) (av_cons (ev_var 0) av_nil))))))))
theorem sc__law_first_bad : FnScope N__law_first_bad ["cell"] (defScope s__law_first_bad) := ⟨rfl, rfl, rfl, by decide +kernel, rfl, by decide +kernel, by decide +kernel⟩
theorem ok__law_first_bad {f : Addr} {fd : FuncData} {dV : Value} (F : FunV K "_law_first_bad" "_law_first_bad" s__law_first_bad f fd dV) (T : Txt mg) : FnOk P w K mg base CX0 1 f fd ["cell"] (spD K g__law_first_bad) :=
  fn_b (k := 0) (b := b__law_first_bad) F sc__law_first_bad fun cdv A outer s H E hr => by
    refine bv_cons ?_ ?_
    refine sv_setH ?_ ?_
    exact sc__law_first_bad.nd
    refine ev_lst ?_
    refine av_cons ?_ ?_
    exact ev_str
    refine av_cons ?_ ?_
    exact ev_str
    refine av_cons ?_ ?_
    exact ev_str
    refine av_cons ?_ ?_
    exact ev_str
    refine av_cons ?_ ?_
    exact ev_str
    refine av_cons ?_ ?_
    exact ev_str
    refine av_cons ?_ ?_
    exact ev_str
    refine av_cons ?_ ?_
    exact ev_str
    exact (av_cons ev_str (av_cons ev_str av_nil))
    refine bv_cons ?_ ?_
    refine sv_setH ?_ ?_
    exact sc__law_first_bad.nd
    refine ev_op ?_ ?_ ?_
    exact d_add
    exact (ev_var 1)
    refine ev_lst ?_
    refine av_cons ?_ ?_
    exact ev_str
    refine av_cons ?_ ?_
    exact ev_str
    refine av_cons ?_ ?_
    exact ev_str
    refine av_cons ?_ ?_
    exact ev_str
    refine av_cons ?_ ?_
    exact ev_str
    refine av_cons ?_ ?_
    exact ev_str
    exact (av_cons ev_str (av_cons ev_str av_nil))
    exact (bv_one (sv_ret (ev_ix d_ix (ev_var 1) (ev_op d_mod (ev_var 0) (ev_callB c_len rfl T.len (by decide +kernel) (av_cons (ev_var 1) av_nil))) (fun _ _ => rfl))))
theorem sc__law_number_bad : FnScope N__law_number_bad ["cell"] (defScope s__law_number_bad) := ⟨rfl, rfl, rfl, by decide +kernel, rfl, by decide +kernel, by decide +kernel⟩
theorem ok__law_number_bad {f : Addr} {fd : FuncData} {dV : Value} (F : FunV K "_law_number_bad" "_law_number_bad" s__law_number_bad f fd dV) (T : Txt mg) : FnOk P w K mg base CX0 1 f fd ["cell"] (spD K g__law_number_bad) :=
  fn_b (k := 0) (b := b__law_number_bad) F sc__law_number_bad fun cdv A outer s H E hr => by
    refine bv_cons ?_ ?_
    refine sv_setH ?_ ?_
    exact sc__law_number_bad.nd
    refine ev_lst ?_
    refine av_cons ?_ ?_
    exact ev_str
    refine av_cons ?_ ?_
    exact ev_str
    refine av_cons ?_ ?_
    exact ev_str
    refine av_cons ?_ ?_
    exact ev_str
    refine av_cons ?_ ?_
    exact ev_str
    refine av_cons ?_ ?_
    exact ev_str
    refine av_cons ?_ ?_
    exact ev_str
    refine av_cons ?_ ?_
    exact ev_str
    refine av_cons ?_ ?_
    exact ev_str
    refine av_cons ?_ ?_
    exact ev_str
    refine av_cons ?_ ?_
    exact ev_str
    refine av_cons ?_ ?_
    exact ev_str
    exact (av_cons ev_str (av_cons ev_str av_nil))
    exact (bv_one (sv_ret (ev_ix d_ix (ev_var 1) (ev_op d_mod (ev_var 0) (ev_callB c_len rfl T.len (by decide +kernel) (av_cons (ev_var 1) av_nil))) (fun _ _ => rfl))))
theorem sc__law_shape_bad : FnScope N__law_shape_bad ["cell"] (defScope s__law_shape_bad) := ⟨rfl, rfl, rfl, by decide +kernel, rfl, by decide +kernel, by decide +kernel⟩
theorem ok__law_shape_bad {f : Addr} {fd : FuncData} {dV : Value} (F : FunV K "_law_shape_bad" "_law_shape_bad" s__law_shape_bad f fd dV) (T : Txt mg) : FnOk P w K mg base CX0 1 f fd ["cell"] (spD K g__law_shape_bad) :=
  fn_b (k := 0) (b := b__law_shape_bad) F sc__law_shape_bad fun cdv A outer s H E hr => by
    refine bv_cons ?_ ?_
    refine sv_setH ?_ ?_
    exact sc__law_shape_bad.nd
    refine ev_lst ?_
    refine av_cons ?_ ?_
    exact ev_str
    refine av_cons ?_ ?_
    exact ev_str
    refine av_cons ?_ ?_
    exact ev_str
    refine av_cons ?_ ?_
    exact ev_str
    refine av_cons ?_ ?_
    exact ev_str
    refine av_cons ?_ ?_
    exact ev_str
    refine av_cons ?_ ?_
    exact ev_str
    refine av_cons ?_ ?_
    exact ev_str
    refine av_cons ?_ ?_
    exact ev_str
    exact (av_cons ev_str (av_cons ev_str av_nil))
    refine bv_cons ?_ ?_
    refine sv_setH ?_ ?_
    exact sc__law_shape_bad.nd
    refine ev_op ?_ ?_ ?_
    exact d_add
    exact (ev_var 1)
    refine ev_lst ?_
    refine av_cons ?_ ?_
    exact ev_str
    refine av_cons ?_ ?_
    exact ev_str
    refine av_cons ?_ ?_
    exact ev_str
    refine av_cons ?_ ?_
    exact ev_str
    refine av_cons ?_ ?_
    exact ev_str
    refine av_cons ?_ ?_
    exact ev_str
    exact (av_cons ev_str (av_cons ev_str av_nil))
    refine bv_cons ?_ ?_
    refine sv_setH ?_ ?_
    exact sc__law_shape_bad.nd
    refine ev_op ?_ ?_ ?_
    exact d_add
    exact (ev_var 1)
    refine ev_lst ?_
    refine av_cons ?_ ?_
    exact ev_str
    refine av_cons ?_ ?_
    exact ev_str
    refine av_cons ?_ ?_
    exact ev_str
    refine av_cons ?_ ?_
    exact ev_str
    refine av_cons ?_ ?_
    exact ev_str
    refine av_cons ?_ ?_
    exact ev_str
    exact (av_cons ev_str (av_cons ev_str av_nil))
    refine bv_cons ?_ ?_
    refine sv_setH ?_ ?_
    exact sc__law_shape_bad.nd
    refine ev_op ?_ ?_ ?_
    exact d_add
    exact (ev_var 1)
    refine ev_lst ?_
    refine av_cons ?_ ?_
    exact ev_str
    refine av_cons ?_ ?_
    exact ev_str
    refine av_cons ?_ ?_
    exact ev_str
    exact (av_cons ev_str (av_cons ev_str av_nil))
    refine bv_cons ?_ ?_
    refine sv_setH ?_ ?_
    exact sc__law_shape_bad.nd
    refine ev_op ?_ ?_ ?_
    exact d_add
    exact (ev_var 1)
    refine ev_lst ?_
    refine av_cons ?_ ?_
    exact ev_str
    refine av_cons ?_ ?_
    exact ev_str
    refine av_cons ?_ ?_
    exact ev_str
    refine av_cons ?_ ?_
    exact ev_str
    refine av_cons ?_ ?_
    exact ev_str
    exact (av_cons ev_str (av_cons ev_str av_nil))
    exact (bv_one (sv_ret (ev_ix d_ix (ev_var 1) (ev_op d_mod (ev_var 0) (ev_callB c_len rfl T.len (by decide +kernel) (av_cons (ev_var 1) av_nil))) (fun _ _ => rfl))))
theorem sc__law_bad : FnScope N__law_bad ["cell"] (defScope s__law_bad) := ⟨rfl, rfl, rfl, by decide +kernel, rfl, by decide +kernel, by decide +kernel⟩
theorem ok__law_bad {f : Addr} {fd : FuncData} {dV : Value} (F : FunV K "_law_bad" "_law_bad" s__law_bad f fd dV) (T : Txt mg) (C__law_number_bad : Cal P w K mg base "_law_number_bad" 1 g__law_number_bad []) (C__law_shape_bad : Cal P w K mg base "_law_shape_bad" 1 g__law_shape_bad []) : FnOk P w K mg base CX0 2 f fd ["cell"] (spD K g__law_bad) :=
  fn_b (k := 1) (b := b__law_bad) F sc__law_bad fun cdv A outer s H E hr => (bv_cons (sv_set 1 sc__law_bad.nd (ev_def0 C__law_number_bad (hr.mono (by decide)) rfl (av_cons (ev_op d_div (ev_var 0) ev_int) av_nil))) (bv_cons (sv_set 2 sc__law_bad.nd (ev_op d_mod (ev_var 0) ev_int)) (bv_cons (sv_if (tv_cmp d_lt (ev_var 2) ev_int (nomark _)) (bv_one (sv_ret (ev_def0 C__law_shape_bad (hr.mono (by decide)) rfl (av_cons (ev_op d_div (ev_var 0) ev_int) av_nil)))) bv_nil) (bv_cons (sv_if (tv_cmp (d_eq hr.units) (ev_var 2) ev_int (nomark _)) (bv_one (sv_ret (ev_op d_add (ev_ix d_ix (ev_lst (av_cons ev_str (av_cons ev_str (av_cons ev_str av_nil)))) (ev_op d_mod (ev_op d_div (ev_var 0) ev_int) ev_int) (fun _ _ => rfl)) (ev_var 1)))) bv_nil) (bv_cons (sv_if (tv_cmp (d_eq hr.units) (ev_var 2) ev_int (nomark _)) (bv_one (sv_ret (ev_op d_add (ev_op d_add ev_str (ev_var 1)) ev_str))) bv_nil) (bv_cons (sv_if (tv_cmp (d_eq hr.units) (ev_var 2) ev_int (nomark _)) (bv_one (sv_ret (ev_op d_add (ev_op d_add (ev_ix d_ix (ev_lst (av_cons ev_str (av_cons ev_str (av_cons ev_str av_nil)))) (ev_op d_mod (ev_op d_div (ev_var 0) ev_int) ev_int) (fun _ _ => rfl)) (ev_var 1)) ev_str))) bv_nil) (bv_cons (sv_if (tv_cmp (d_eq hr.units) (ev_var 2) ev_int (nomark _)) (bv_one (sv_ret (ev_op d_add (ev_op d_add (ev_ix d_ix (ev_lst (av_cons ev_str (av_cons ev_str (av_cons ev_str av_nil)))) (ev_op d_mod (ev_op d_div (ev_var 0) ev_int) ev_int) (fun _ _ => rfl)) ev_str) (ev_var 1)))) bv_nil) (bv_one (sv_ret (ev_op d_add (ev_op d_add ev_str (ev_var 1)) (ev_ix d_ix (ev_lst (av_cons ev_str (av_cons ev_str av_nil))) (ev_op d_mod (ev_op d_div (ev_var 0) ev_int) ev_int) (fun _ _ => rfl))))))))))))
theorem sc__law_refused_at : FnScope N__law_refused_at ["text"] (defScope s__law_refused_at) := ⟨rfl, rfl, rfl, by decide +kernel, rfl, by decide +kernel, by decide +kernel⟩
theorem ok__law_refused_at {f : Addr} {fd : FuncData} {dV : Value} (F : FunV K "_law_refused_at" "_law_refused_at" s__law_refused_at f fd dV) (T : Txt mg) (C_read : Cal P w K mg base "read" 4 g_read []) (Y_read : CalX P w K mg base "read" 4 x_read []) (I_UnlikeWires : IsX K "UnlikeWires" tt_UnlikeWires) (I_TooGreat : IsX K "TooGreat" tt_TooGreat) (I_NoStep : IsX K "NoStep" tt_NoStep) (I_HasLooks : IsX K "HasLooks" tt_HasLooks) (I_ValueError : IsT K "ValueError" tt_ValueError) (I_BadRow : IsX K "BadRow" tt_BadRow) (G_rows : RowsC K ["BadRow"]) (H_WaveError : Hnd K "WaveError" hs_WaveError) : FnOk P w K mg base CX0 5 f fd ["text"] (spD K g__law_refused_at) :=
  fn_b (k := 4) (b := b__law_refused_at) F sc__law_refused_at fun cdv A outer s H E hr => (bv_cons (sv_try 1 H_WaveError rfl sc__law_refused_at.nd rfl rfl rfl rfl (bv_one (sv_expr (ev_def0 C_read (hr.mono (by decide)) rfl (av_cons (ev_var 0) av_nil)))) (fun _ _ => (bx_here (sx_expr (ex_def Y_read (hr.mono (by decide)) rfl (AV.lift (av_cons (ev_var 0) av_nil)))))) (fun _ => (bv_cons (sv_set 2 sc__law_refused_at.nd (ev_lst (av_cons (ev_isx I_HasLooks rfl T.isinstance rfl (ev_var 1)) (av_cons (ev_isx I_NoStep rfl T.isinstance rfl (ev_var 1)) (av_cons (ev_isx I_TooGreat rfl T.isinstance rfl (ev_var 1)) (av_cons (ev_isx I_UnlikeWires rfl T.isinstance rfl (ev_var 1)) av_nil)))))) (bv_cons (sv_if (WV.tv (wv_or (tv_not (tv_val (ev_isx I_BadRow rfl T.isinstance rfl (ev_var 1)))) (wv_or (tv_not (tv_val (ev_isxT I_ValueError rfl T.isinstance rfl T.ValueError (ev_var 1)))) (wv_or1 (tv_cmp d_in ev_bl (ev_var 2) (by with_unfolding_all rfl)))))) (bv_one (sv_ret (ev_un d_neg ev_int))) bv_nil) (bv_cons (sv_if (WV.tv (wv_or (tv_not (tv_val (ev_isi (T := "int") rfl T.isinstance rfl T.int (by decide +kernel) (by decide) (by decide) (ev_row G_rows (ev_var 1))))) (wv_or1 (tv_val (ev_isi (T := "bool") rfl T.isinstance rfl T.bool (by decide +kernel) (by decide) (by decide) (ev_row G_rows (ev_var 1))))))) (bv_one (sv_ret (ev_un d_neg ev_int))) bv_nil) (bv_one (sv_ret (ev_row G_rows (ev_var 1))))))))) (bv_one (sv_ret ev_int)))
theorem sc__law_spoilt : FnScope N__law_spoilt ["texts", "cell", "other", "wires"] (defScope s__law_spoilt) := ⟨rfl, rfl, rfl, by decide +kernel, rfl, by decide +kernel, by decide +kernel⟩
theorem ok__law_spoilt {f : Addr} {fd : FuncData} {dV : Value} (F : FunV K "_law_spoilt" "_law_spoilt" s__law_spoilt f fd dV) (T : Txt mg) (C__law_bad : Cal P w K mg base "_law_bad" 2 g__law_bad []) (C__law_first_bad : Cal P w K mg base "_law_first_bad" 1 g__law_first_bad []) : FnOk P w K mg base CX0 3 f fd ["texts", "cell", "other", "wires"] (spD K g__law_spoilt) :=
  fn_b (k := 2) (b := b__law_spoilt) F sc__law_spoilt fun cdv A outer s H E hr => (bv_cons (sv_set 4 sc__law_spoilt.nd (ev_op d_mod (ev_var 1) (ev_callB c_len rfl T.len (by decide +kernel) (av_cons (ev_var 0) av_nil)))) (bv_cons (sv_set 5 sc__law_spoilt.nd (ev_def0 C__law_bad (hr.mono (by decide)) rfl (av_cons (ev_op d_div (ev_var 1) ev_int) av_nil))) (bv_cons (sv_if (tv_cmp (d_eq hr.units) (ev_op d_mod (ev_op d_div (ev_var 2) ev_int) ev_int) ev_int (nomark _)) (bv_one (sv_set 5 sc__law_spoilt.nd (ev_op d_add (ev_ix d_ix (ev_lst (av_cons ev_str (av_cons ev_str (av_cons ev_str av_nil)))) (ev_op d_mod (ev_op d_div (ev_var 1) ev_int) ev_int) (fun _ _ => rfl)) (ev_callTy c_str rfl T.str (by decide +kernel) (av_cons (ev_var 3) av_nil))))) bv_nil) (bv_cons (sv_if (tv_cmp (d_eq hr.units) (ev_op d_mod (ev_op d_div (ev_var 2) ev_int) ev_int) ev_int (nomark _)) (bv_one (sv_set 5 sc__law_spoilt.nd (ev_op d_add (ev_op d_add ev_str (ev_callTy c_str rfl T.str (by decide +kernel) (av_cons (ev_callB c_len rfl T.len (by decide +kernel) (av_cons (ev_compI (vars := ["text"]) (caps := []) (by change BlkOk (defScope s__law_spoilt).names N__law_spoilt _ _ _; exact ⟨rfl, by decide +kernel, by decide +kernel, by decide +kernel, by decide +kernel⟩) rfl (iv_seq (ev_slice (ev_var 0) ov_none (ov_some (ev_var 4)))) tg_one (fun _ _ _ _ => pg_name (i := 0) (show (["text"] : List Str).Nodup by decide +kernel) rfl (Or.inl rfl) (.inr rfl)) (fun _ _ _ _ => (tv_cmp (d_eq hr.units) (ev_sliceS (ev_var 0) ov_none (ov_some ev_int)) ev_str (nomark _))) (fun _ _ _ _ => (ev_var 0))) av_nil)) av_nil))) ev_str))) bv_nil) (bv_cons (sv_if (tv_cmp (d_eq hr.units) (ev_var 4) ev_int (nomark _)) (bv_one (sv_set 5 sc__law_spoilt.nd (ev_def0 C__law_first_bad (hr.mono (by decide)) rfl (av_cons (ev_op d_div (ev_var 1) ev_int) av_nil)))) bv_nil) (bv_cons (sv_set 6 sc__law_spoilt.nd (ev_op d_mod (ev_op d_div (ev_var 1) ev_int) ev_int)) (bv_cons (sv_ownE 7 sc__law_spoilt.nd (eo_add (ev_op d_add (ev_slice (ev_var 0) ov_none (ov_some (ev_var 4))) (ev_lst (av_cons (ev_var 5) av_nil))) (ev_slice (ev_var 0) (ov_some (ev_op d_sub (ev_op d_add (ev_var 4) ev_int) (ev_op d_mulI (ev_var 6) (ev_callTy c_int rfl T.int (by decide +kernel) (av_cons (ev_cmp d_gt (ev_var 4) ev_int (nomark _)) av_nil))))) ov_none))) (bv_cons (sv_if (tv_cmp (d_eq hr.units) (ev_op d_mod (ev_var 2) ev_int) ev_int (nomark _)) (bv_one (sv_app 7 (ev_def0 C__law_bad (hr.mono (by decide)) rfl (av_cons (ev_op d_div (ev_var 2) ev_int) av_nil)))) bv_nil) (bv_one (sv_fz 7 (sv_ret (ev_tup (av_cons (ev_var 7) (av_cons (ev_op d_add (ev_var 4) ev_int) av_nil))))))))))))))
theorem sc_law : FnScope N_law ["script"] (defScope s_law) := ⟨rfl, rfl, rfl, by decide +kernel, rfl, by decide +kernel, by decide +kernel⟩
theorem ok_law {f : Addr} {fd : FuncData} {dV : Value} (F : FunV K "law" "law" s_law f fd dV) (T : Txt mg) (C__law_cell : Cal P w K mg base "_law_cell" 1 g__law_cell []) (C__law_circuit : Cal P w K mg base "_law_circuit" 3 g__law_circuit []) (C__law_refused_at : Cal P w K mg base "_law_refused_at" 5 g__law_refused_at []) (C__law_spoilt : Cal P w K mg base "_law_spoilt" 3 g__law_spoilt []) (C__law_words : Cal P w K mg base "_law_words" 9 g__law_words []) : FnOk P w K mg base CX0 10 f fd ["script"] (spD K g_law) :=
  fn_b (k := 9) (b := b_law) F sc_law fun cdv A outer s H E hr => (bv_cons (sv_set 1 sc_law.nd (ev_op d_add ev_int (ev_op d_mod (ev_def0 C__law_cell (hr.mono (by decide)) rfl (av_cons (ev_var 0) (av_cons ev_int av_nil))) ev_int))) (bv_cons (sv_set 2 sc_law.nd (ev_def0 C__law_cell (hr.mono (by decide)) rfl (av_cons (ev_var 0) (av_cons ev_int av_nil)))) (bv_cons (sv_set 3 sc_law.nd (ev_def0 C__law_circuit (hr.mono (by decide)) rfl (av_cons (ev_slice (ev_var 0) (ov_some ev_int) (ov_some ev_int)) (av_cons (ev_var 1) (av_cons (ev_cmp (d_eq hr.units) (ev_op d_mod (ev_var 2) ev_int) ev_int (nomark _)) av_nil))))) (bv_cons (sv_set 4 sc_law.nd (ev_op d_add (ev_lst (av_cons (ev_op d_add ev_str (ev_callTy c_str rfl T.str (by decide +kernel) (av_cons (ev_var 1) av_nil))) av_nil)) (ev_comp (vars := ["row"]) (caps := []) (by change BlkOk (defScope s_law).names N_law _ _ _; exact ⟨rfl, by decide +kernel, by decide +kernel, by decide +kernel, by decide +kernel⟩) rfl (iv_seq (ev_ix d_ix (ev_var 3) ev_int (fun _ _ => rfl))) tg_one (fun _ _ _ _ => pg_name (i := 0) (show (["row"] : List Str).Nodup by decide +kernel) rfl (Or.inl rfl) (.inr rfl)) (fun _ _ _ _ => (ev_join ev_str (ev_def0 C__law_words (hr.mono (by decide)) rfl (av_cons (ev_var 0) av_nil))))))) (bv_cons (sv_if (tv_cmp (d_ne hr.units) (ev_def0 C__law_refused_at (hr.mono (by decide)) rfl (av_cons (ev_join ev_str (ev_var 4)) av_nil)) ev_int (nomark _)) (bv_one (sv_ret ev_bl)) bv_nil) (bv_cons (sv_set 5 sc_law.nd ev_int) (bv_cons (sv_if (tv_cmp (d_eq hr.units) (ev_op d_mod (ev_op d_div (ev_var 2) ev_int) ev_int) ev_int (nomark _)) (bv_cons (sv_set 4 sc_law.nd (ev_op d_add (ev_slice (ev_op d_add (ev_var 4) (ev_op d_mulL (ev_lst (av_cons ev_str av_nil)) ev_int)) ov_none (ov_some ev_int)) (ev_slice (ev_lst (av_cons ev_str (av_cons ev_str av_nil))) ov_none (ov_some (ev_op d_add ev_int (ev_op d_mod (ev_op d_div (ev_var 2) ev_int) ev_int)))))) (bv_one (sv_set 5 sc_law.nd ev_int))) (bv_one (sv_if (tv_cmp (d_eq hr.units) (ev_op d_mod (ev_op d_div (ev_var 2) ev_int) ev_int) ev_int (nomark _)) (bv_cons (sv_set 4 sc_law.nd (ev_op d_add (ev_slice (ev_var 4) ov_none (ov_some ev_int)) (ev_op d_mulL (ev_lst (av_cons ev_str av_nil)) ev_int))) (bv_cons (sv_set 6 sc_law.nd (ev_callB c_len rfl T.len (by decide +kernel) (av_cons (ev_compI (vars := ["row"]) (caps := []) (by change BlkOk (defScope s_law).names N_law _ _ _; exact ⟨rfl, by decide +kernel, by decide +kernel, by decide +kernel, by decide +kernel⟩) rfl (iv_seq (ev_slice (ev_ix d_ix (ev_var 3) ev_int (fun _ _ => rfl)) ov_none (ov_some ev_int))) tg_one (fun _ _ _ _ => pg_name (i := 0) (show (["row"] : List Str).Nodup by decide +kernel) rfl (Or.inl rfl) (.inr rfl)) (fun _ _ _ _ => (tv_cmp (d_eq hr.units) (ev_ix d_ix (ev_var 0) ev_int (fun _ _ => rfl)) ev_str (nomark _))) (fun _ _ _ _ => (ev_var 0))) av_nil))) (bv_one (sv_set 5 sc_law.nd (ev_op d_sub (ev_op d_add (ev_callB (c_min rfl) rfl T.min (by decide +kernel) (av_cons ev_int (av_cons (ev_op d_add (ev_callB c_len rfl T.len (by decide +kernel) (av_cons (ev_ix d_ix (ev_var 3) ev_int (fun _ _ => rfl)) av_nil)) ev_int) av_nil))) ev_int) (ev_var 6)))))) (bv_cons (sv_set 7 sc_law.nd (ev_def0 C__law_spoilt (hr.mono (by decide)) rfl (av_cons (ev_var 4) (av_cons (ev_op d_mod (ev_def0 C__law_cell (hr.mono (by decide)) rfl (av_cons (ev_var 0) (av_cons ev_int av_nil))) (ev_op d_pow ev_int ev_int)) (av_cons (ev_op d_div (ev_var 2) ev_int) (av_cons (ev_var 1) av_nil)))))) (bv_cons (sv_set 4 sc_law.nd (ev_ix d_ix (ev_var 7) ev_int (fun _ _ => rfl))) (bv_one (sv_set 5 sc_law.nd (ev_ix d_ix (ev_var 7) ev_int (fun _ _ => rfl))))))))) (bv_one (sv_ret (ev_cmp (d_eq hr.units) (ev_def0 C__law_refused_at (hr.mono (by decide)) rfl (av_cons (ev_join ev_str (ev_var 4)) av_nil)) (ev_var 5) (nomark _)))))))))))
end

theorem bd_row_shown : BindsAs "row_shown" s_row_shown ["row"] := fun _ _ _ _ _ _ us hl => by obtain ⟨_, rfl⟩ := len1 hl; exact rfl
theorem bd_wires_rows : BindsAs "wires_rows" s_wires_rows [] := fun _ _ _ _ _ _ us hl => match us, hl with | [], _ => rfl
theorem bd_rows_at : BindsAs "rows_at" s_rows_at ["wire", "wires"] := fun _ _ _ _ _ _ us hl => by obtain ⟨_, _, rfl⟩ := len2 hl; exact rfl
theorem bd_rows_over : BindsAs "rows_over" s_rows_over ["wires"] := fun _ _ _ _ _ _ us hl => by obtain ⟨_, rfl⟩ := len1 hl; exact rfl
theorem bd_by_text : BindsAs "by_text" s_by_text ["rows"] := fun _ _ _ _ _ _ us hl => by obtain ⟨_, rfl⟩ := len1 hl; exact rfl
theorem bd_may_stand : BindsAs "may_stand" s_may_stand ["row", "looks"] := fun _ _ _ _ _ _ us hl => by obtain ⟨_, _, rfl⟩ := len2 hl; exact rfl
theorem bd_rows_read : BindsAs "rows_read" s_rows_read ["texts", "wires"] := fun _ _ _ _ _ _ us hl => by obtain ⟨_, _, rfl⟩ := len2 hl; exact rfl
theorem bd_read : BindsAs "read" s_read ["text"] := fun _ _ _ _ _ _ us hl => by obtain ⟨_, rfl⟩ := len1 hl; exact rfl
theorem bd__law_cell : BindsAs "_law_cell" s__law_cell ["script", "k"] := fun _ _ _ _ _ _ us hl => by obtain ⟨_, _, rfl⟩ := len2 hl; exact rfl
theorem bd__law_turn : BindsAs "_law_turn" s__law_turn ["cell", "prime"] := fun _ _ _ _ _ _ us hl => by obtain ⟨_, _, rfl⟩ := len2 hl; exact rfl
theorem bd__law_row : BindsAs "_law_row" s__law_row ["cell", "wires", "looks", "plain"] := fun _ _ _ _ _ _ us hl => by obtain ⟨_, _, _, _, rfl⟩ := len4 hl; exact rfl
theorem bd__law_circuit : BindsAs "_law_circuit" s__law_circuit ["cells", "wires", "plain"] := fun _ _ _ _ _ _ us hl => by obtain ⟨_, _, _, rfl⟩ := len3 hl; exact rfl
theorem bd__law_words : BindsAs "_law_words" s__law_words ["row"] := fun _ _ _ _ _ _ us hl => by obtain ⟨_, rfl⟩ := len1 hl; exact rfl
theorem bd__law_first_bad : BindsAs "_law_first_bad" s__law_first_bad ["cell"] := fun _ _ _ _ _ _ us hl => by obtain ⟨_, rfl⟩ := len1 hl; exact rfl
theorem bd__law_number_bad : BindsAs "_law_number_bad" s__law_number_bad ["cell"] := fun _ _ _ _ _ _ us hl => by obtain ⟨_, rfl⟩ := len1 hl; exact rfl
theorem bd__law_shape_bad : BindsAs "_law_shape_bad" s__law_shape_bad ["cell"] := fun _ _ _ _ _ _ us hl => by obtain ⟨_, rfl⟩ := len1 hl; exact rfl
theorem bd__law_bad : BindsAs "_law_bad" s__law_bad ["cell"] := fun _ _ _ _ _ _ us hl => by obtain ⟨_, rfl⟩ := len1 hl; exact rfl
theorem bd__law_refused_at : BindsAs "_law_refused_at" s__law_refused_at ["text"] := fun _ _ _ _ _ _ us hl => by obtain ⟨_, rfl⟩ := len1 hl; exact rfl
theorem bd__law_spoilt : BindsAs "_law_spoilt" s__law_spoilt ["texts", "cell", "other", "wires"] := fun _ _ _ _ _ _ us hl => by obtain ⟨_, _, _, _, rfl⟩ := len4 hl; exact rfl
theorem all_mk {l : PySem.W.OpenLaw} {w : World} {K : PySem.W.Frag} {h : Heap} {mg : Str → Option Value} {fa f19 xc_UnlikeWires xc_TooGreat xc_NoStep xc_HasLooks xc_BadRow xc_WaveError rf_BadRow : Addr} {od19 an19 rod_BadRow ran_BadRow : Option Addr} {sl19 rsl_BadRow : Array (Option Value)} {oc19 kV19 dc19 pm19 cd19 ct19 roc_BadRow rkv_BadRow rdc_BadRow rpm_BadRow rcd_BadRow rct_BadRow : Value} {tk_MOST_WIRES_0 tk_MOST_ROWS_0 tk_MOST_LOOKS_0 : Tok} (X : K.In h) (G : h.Ns mainGlobals mg) (hfa : mg "law" = some (.ref fa))
    (D0 : DefIn K "row_shown" "row_shown" s_row_shown)
    (D1 : DefIn K "wires_rows" "wires_rows" s_wires_rows)
    (D2 : DefIn K "rows_at" "rows_at" s_rows_at)
    (D3 : DefIn K "rows_over" "rows_over" s_rows_over)
    (D4 : DefIn K "by_text" "by_text" s_by_text)
    (D5 : DefIn K "may_stand" "may_stand" s_may_stand)
    (D6 : DefIn K "rows_read" "rows_read" s_rows_read)
    (D7 : DefIn K "read" "read" s_read)
    (D8 : DefIn K "_law_cell" "_law_cell" s__law_cell)
    (D9 : DefIn K "_law_turn" "_law_turn" s__law_turn)
    (D10 : DefIn K "_law_row" "_law_row" s__law_row)
    (D11 : DefIn K "_law_circuit" "_law_circuit" s__law_circuit)
    (D12 : DefIn K "_law_words" "_law_words" s__law_words)
    (D13 : DefIn K "_law_first_bad" "_law_first_bad" s__law_first_bad)
    (D14 : DefIn K "_law_number_bad" "_law_number_bad" s__law_number_bad)
    (D15 : DefIn K "_law_shape_bad" "_law_shape_bad" s__law_shape_bad)
    (D16 : DefIn K "_law_bad" "_law_bad" s__law_bad)
    (D17 : DefIn K "_law_refused_at" "_law_refused_at" s__law_refused_at)
    (D18 : DefIn K "_law_spoilt" "_law_spoilt" s__law_spoilt)
    (a19 : PySem.W.nsIn K mainGlobals "law" = some (some (.ref f19))) (l19 : K.lookup f19 = some ⟨oc19, od19, .func (PySem.W.fnOf "law" "law" (defArgs s_law) (defBody s_law) (defScope s_law) .none kV19 dc19 pm19 an19 cd19 ct19), sl19⟩) (c19 : PySem.W.codeIn K cd19 "law" = true) (k19 : PySem.W.keepIn K (.ref f19) = true)
    (z_str : PySem.W.nsIn K mainGlobals "str" = some none)
    (z_range : PySem.W.nsIn K mainGlobals "range" = some none)
    (z_tuple : PySem.W.nsIn K mainGlobals "tuple" = some none)
    (z_len : PySem.W.nsIn K mainGlobals "len" = some none)
    (z_max : PySem.W.nsIn K mainGlobals "max" = some none)
    (z_int : PySem.W.nsIn K mainGlobals "int" = some none)
    (z_isinstance : PySem.W.nsIn K mainGlobals "isinstance" = some none)
    (z_bool : PySem.W.nsIn K mainGlobals "bool" = some none)
    (z_ValueError : PySem.W.nsIn K mainGlobals "ValueError" = some none)
    (z_min : PySem.W.nsIn K mainGlobals "min" = some none)
    (a_MOST_WIRES : PySem.W.nsIn K mainGlobals "MOST_WIRES" = some (some (.int 6 tk_MOST_WIRES_0)))
    (a_MOST_ROWS : PySem.W.nsIn K mainGlobals "MOST_ROWS" = some (some (.int 60 tk_MOST_ROWS_0)))
    (a_MOST_LOOKS : PySem.W.nsIn K mainGlobals "MOST_LOOKS" = some (some (.int 6 tk_MOST_LOOKS_0)))
    (xn_UnlikeWires : PySem.W.nsIn K mainGlobals "UnlikeWires" = some (some (.ref xc_UnlikeWires)))
    (xn_TooGreat : PySem.W.nsIn K mainGlobals "TooGreat" = some (some (.ref xc_TooGreat)))
    (xn_NoStep : PySem.W.nsIn K mainGlobals "NoStep" = some (some (.ref xc_NoStep)))
    (xn_HasLooks : PySem.W.nsIn K mainGlobals "HasLooks" = some (some (.ref xc_HasLooks)))
    (xn_BadRow : PySem.W.nsIn K mainGlobals "BadRow" = some (some (.ref xc_BadRow)))
    (xn_WaveError : PySem.W.nsIn K mainGlobals "WaveError" = some (some (.ref xc_WaveError)))
    (xe_BadRow : clsIn K xc_BadRow "ValueError.__new__" = true)
    (xi_WaveError : PySem.W.excIn K xc_WaveError vMro "ValueError.__new__" = true)
    (xga_BadRow : PySem.W.findIn K (.ref xc_BadRow) "__getattribute__" = some (some (.builtin "BaseException.__getattribute__")))
    (xgt_BadRow : PySem.W.findIn K (.ref xc_BadRow) "__getattr__" = some none)
    (xcl_BadRow : PySem.W.findIn K (.ref xc_BadRow) "__class__" = some (some (.builtin "object.__class__")))
    (xmo_BadRow : PySem.W.mroIn K xc_BadRow (.type "object") = some true)
    (xbe_BadRow : PySem.W.mroIn K xc_BadRow (.type "BaseException") = some true)
    (xk_BadRow_UnlikeWires : PySem.W.kitOne K (.ref xc_BadRow) (.ref xc_UnlikeWires) = some false)
    (xk_BadRow_TooGreat : PySem.W.kitOne K (.ref xc_BadRow) (.ref xc_TooGreat) = some false)
    (xk_BadRow_NoStep : PySem.W.kitOne K (.ref xc_BadRow) (.ref xc_NoStep) = some false)
    (xk_BadRow_HasLooks : PySem.W.kitOne K (.ref xc_BadRow) (.ref xc_HasLooks) = some false)
    (xk_BadRow_ValueError : PySem.W.kitOne K (.ref xc_BadRow) (.type "ValueError") = some true)
    (xk_BadRow_BadRow : PySem.W.kitOne K (.ref xc_BadRow) (.ref xc_BadRow) = some true)
    (xs_BadRow_WaveError : PySem.W.subIn K (.ref xc_BadRow) (.ref xc_WaveError) = some true)
    (ri_BadRow : PySem.W.findIn K (.ref xc_BadRow) "__init__" = some (some (.ref rf_BadRow)))
    (rl_BadRow : K.lookup rf_BadRow = some ⟨roc_BadRow, rod_BadRow, .func (PySem.W.fnOf "__init__" "BadRow.__init__" (defArgs s_BadRow____init__) (defBody s_BadRow____init__) (defScope s_BadRow____init__) .none rkv_BadRow rdc_BadRow rpm_BadRow ran_BadRow rcd_BadRow rct_BadRow), rsl_BadRow⟩)
    (rc_BadRow : PySem.W.codeIn K rcd_BadRow "BadRow.__init__" = true)
    (rk_BadRow : PySem.W.keepIn K (.ref rf_BadRow) = true)
    (re_BadRow : exrIn K xc_BadRow rf_BadRow vMro "ValueError.__new__" = true)
    (ro_BadRow : (match K.lookup rf_BadRow with | some o => o.cls == .type "function" | none => false) = true)
    (rp_BadRow : PySem.W.keepIn K (.ref xc_BadRow) = true)
    (rwga : PySem.W.specialIn K (.ref xc_WaveError) "__getattribute__" = some (some (.builtin "type.__getattribute__")))
    (rwrd : PySem.W.readsIn K xc_WaveError (.type "type") = true)
    (rwfc : PySem.W.findCls K (.ref xc_WaveError) (.type "type") "__init__" = some (.val (.builtin "ValueError.__init__")))
    : ∃ fd : FuncData, (∀ (s : Shared) (v : Value), BindsTo s fd ⟨[v], []⟩ [("script", v)]) ∧ ∀ base : Heap, K.In base → base.Ns mainGlobals mg → FnOk l.prog w K mg base CX0 10 fa fd ["script"] (spLaw K) := by
  have e := hfa.symm.trans (PySem.W.mg_of X G a19)
  cases e
  have T : Txt mg := ⟨PySem.W.mg_none_of X G z_str, PySem.W.mg_none_of X G z_range, PySem.W.mg_none_of X G z_tuple, PySem.W.mg_none_of X G z_len, PySem.W.mg_none_of X G z_max, PySem.W.mg_none_of X G z_int, PySem.W.mg_none_of X G z_isinstance, PySem.W.mg_none_of X G z_bool, PySem.W.mg_none_of X G z_ValueError, PySem.W.mg_none_of X G z_min⟩
  have T_MOST_WIRES : TopV K mg "MOST_WIRES" (.int 6) := TopV.int (PySem.W.mg_of X G a_MOST_WIRES)
  have T_MOST_ROWS : TopV K mg "MOST_ROWS" (.int 60) := TopV.int (PySem.W.mg_of X G a_MOST_ROWS)
  have T_MOST_LOOKS : TopV K mg "MOST_LOOKS" (.int 6) := TopV.int (PySem.W.mg_of X G a_MOST_LOOKS)
  have F19 := funV_mk (st := s_law) l19 c19 k19
  have F_BadRow : ExcC K "BadRow" xc_BadRow := ⟨xn_BadRow, xe_BadRow, xga_BadRow, xgt_BadRow, xcl_BadRow, xmo_BadRow, xbe_BadRow⟩
  have I_UnlikeWires : IsX K "UnlikeWires" tt_UnlikeWires := (.cons F_BadRow xn_UnlikeWires xk_BadRow_UnlikeWires .nil)
  have I_TooGreat : IsX K "TooGreat" tt_TooGreat := (.cons F_BadRow xn_TooGreat xk_BadRow_TooGreat .nil)
  have I_NoStep : IsX K "NoStep" tt_NoStep := (.cons F_BadRow xn_NoStep xk_BadRow_NoStep .nil)
  have I_HasLooks : IsX K "HasLooks" tt_HasLooks := (.cons F_BadRow xn_HasLooks xk_BadRow_HasLooks .nil)
  have I_ValueError : IsT K "ValueError" tt_ValueError := (.cons F_BadRow xk_BadRow_ValueError .nil)
  have I_BadRow : IsX K "BadRow" tt_BadRow := (.cons F_BadRow xn_BadRow xk_BadRow_BadRow .nil)
  have H_WaveError : Hnd K "WaveError" hs_WaveError := ⟨⟨_, xn_WaveError, xi_WaveError, (.cons F_BadRow xs_BadRow_WaveError .nil)⟩⟩
  refine ⟨PySem.W.fnOf "law" "law" (defArgs s_law) (defBody s_law) (defScope s_law) .none kV19 dc19 pm19 an19 cd19 ct19, fun s v => .of_eq rfl, fun base _ _ => ?_⟩
  have FR_BadRow := funV_mk (st := s_BadRow____init__) rl_BadRow rc_BadRow rk_BadRow
  have R_BadRow : CalRow l.prog w K mg base "BadRow" 1 := ⟨⟨_, _, _, ⟨xn_BadRow, re_BadRow, ro_BadRow, rp_BadRow⟩, okR_BadRow FR_BadRow ⟨xn_WaveError, rwga, rwrd, rwfc⟩, FR_BadRow.binds (ps := ["self", "row"]) fun _ _ _ _ _ _ us hl => by obtain ⟨_, _, rfl⟩ := len2 hl; exact rfl⟩⟩
  have G_rows : RowsC K ["BadRow"] := rows_one (⟨xn_BadRow, re_BadRow, ro_BadRow, rp_BadRow⟩ : RowC K _ _ _)
  have C_row_shown : Cal l.prog w K mg base "row_shown" 1 g_row_shown [] := D0.cal X G bd_row_shown fun _ _ F => ok_row_shown F T
  have C_wires_rows : Cal l.prog w K mg base "wires_rows" 1 g_wires_rows [] := D1.cal X G bd_wires_rows fun _ _ F => ok_wires_rows F T T_MOST_WIRES
  have C_rows_at : Cal l.prog w K mg base "rows_at" 1 g_rows_at [] := D2.cal X G bd_rows_at fun _ _ F => ok_rows_at F T T_MOST_LOOKS
  have C_rows_over : Cal l.prog w K mg base "rows_over" 2 g_rows_over [] := D3.cal X G bd_rows_over fun _ _ F => ok_rows_over F T C_rows_at
  have Q_by_text : CalN l.prog w K mg base "by_text" 2 gn_by_text := D4.calN X G bd_by_text fun _ _ F => okn_by_text F T C_row_shown
  have C_may_stand : Cal l.prog w K mg base "may_stand" 1 g_may_stand [] := D5.cal X G bd_may_stand fun _ _ F => ok_may_stand F T T_MOST_LOOKS
  have Y_rows_read : CalX l.prog w K mg base "rows_read" 3 x_rows_read [] := D6.calX X G bd_rows_read fun _ _ F => okx_rows_read F T T_MOST_ROWS C_rows_over C_may_stand Q_by_text R_BadRow
  have C_rows_read : Cal l.prog w K mg base "rows_read" 3 g_rows_read [] := D6.cal X G bd_rows_read fun _ _ F => ok_rows_read F T T_MOST_ROWS C_rows_over C_may_stand Q_by_text
  have Y_read : CalX l.prog w K mg base "read" 4 x_read [] := D7.calX X G bd_read fun _ _ F => okx_read F T C_rows_read C_wires_rows Q_by_text R_BadRow Y_rows_read
  have C_read : Cal l.prog w K mg base "read" 4 g_read [] := D7.cal X G bd_read fun _ _ F => ok_read F T C_rows_read C_wires_rows Q_by_text
  have C__law_cell : Cal l.prog w K mg base "_law_cell" 1 g__law_cell [] := D8.cal X G bd__law_cell fun _ _ F => ok__law_cell F T
  have C__law_turn : Cal l.prog w K mg base "_law_turn" 1 g__law_turn [] := D9.cal X G bd__law_turn fun _ _ F => ok__law_turn F T
  have C__law_row : Cal l.prog w K mg base "_law_row" 2 g__law_row [] := D10.cal X G bd__law_row fun _ _ F => ok__law_row F T C__law_turn
  have C__law_circuit : Cal l.prog w K mg base "_law_circuit" 3 g__law_circuit [] := D11.cal X G bd__law_circuit fun _ _ F => ok__law_circuit F T C__law_row
  have C__law_words : Cal l.prog w K mg base "_law_words" 9 g__law_words [] := D12.calR X G bd__law_words fun _ _ F m k b => okr__law_words F T m k b 8
  have C__law_first_bad : Cal l.prog w K mg base "_law_first_bad" 1 g__law_first_bad [] := D13.cal X G bd__law_first_bad fun _ _ F => ok__law_first_bad F T
  have C__law_number_bad : Cal l.prog w K mg base "_law_number_bad" 1 g__law_number_bad [] := D14.cal X G bd__law_number_bad fun _ _ F => ok__law_number_bad F T
  have C__law_shape_bad : Cal l.prog w K mg base "_law_shape_bad" 1 g__law_shape_bad [] := D15.cal X G bd__law_shape_bad fun _ _ F => ok__law_shape_bad F T
  have C__law_bad : Cal l.prog w K mg base "_law_bad" 2 g__law_bad [] := D16.cal X G bd__law_bad fun _ _ F => ok__law_bad F T C__law_number_bad C__law_shape_bad
  have C__law_refused_at : Cal l.prog w K mg base "_law_refused_at" 5 g__law_refused_at [] := D17.cal X G bd__law_refused_at fun _ _ F => ok__law_refused_at F T C_read Y_read I_UnlikeWires I_TooGreat I_NoStep I_HasLooks I_ValueError I_BadRow G_rows H_WaveError
  have C__law_spoilt : Cal l.prog w K mg base "_law_spoilt" 3 g__law_spoilt [] := D18.cal X G bd__law_spoilt fun _ _ F => ok__law_spoilt F T C__law_bad C__law_first_bad
  have O19 : FnOk l.prog w K mg base CX0 10 _ _ _ (spD K g_law) := ok_law F19 T C__law_cell C__law_circuit C__law_refused_at C__law_spoilt C__law_words
  exact law_v O19 fun ns hl => law_true ns hl

end GN
open PySem PySem.W PyProof.Rows
set_option maxRecDepth 1000000 in
set_option maxHeartbeats 0 in
theorem PySem.Challenge.cw_wavewires_k19_texts_refused_holds : PySem.Challenge.rw_wavewires_k19_texts_refused.Holds := by
  refine topT ?_
  k_fill
  refine VL.walkV (k := 10) (l := PySem.Challenge.rw_wavewires_k19_texts_refused) rfl ⟨rfl, by decide, by decide⟩ rfl (fun w h Y => PySem.W.kIn_of Y) ?F
  case F =>
    intro w mg fa h KX G hmg
    refine' GN.all_mk KX G hmg (VL.DefIn.mk ?a0 ?l0 ?c0 ?k0) (VL.DefIn.mk ?a1 ?l1 ?c1 ?k1) (VL.DefIn.mk ?a2 ?l2 ?c2 ?k2) (VL.DefIn.mk ?a3 ?l3 ?c3 ?k3) (VL.DefIn.mk ?a4 ?l4 ?c4 ?k4) (VL.DefIn.mk ?a5 ?l5 ?c5 ?k5) (VL.DefIn.mk ?a6 ?l6 ?c6 ?k6) (VL.DefIn.mk ?a7 ?l7 ?c7 ?k7) (VL.DefIn.mk ?a8 ?l8 ?c8 ?k8) (VL.DefIn.mk ?a9 ?l9 ?c9 ?k9) (VL.DefIn.mk ?a10 ?l10 ?c10 ?k10) (VL.DefIn.mk ?a11 ?l11 ?c11 ?k11) (VL.DefIn.mk ?a12 ?l12 ?c12 ?k12) (VL.DefIn.mk ?a13 ?l13 ?c13 ?k13) (VL.DefIn.mk ?a14 ?l14 ?c14 ?k14) (VL.DefIn.mk ?a15 ?l15 ?c15 ?k15) (VL.DefIn.mk ?a16 ?l16 ?c16 ?k16) (VL.DefIn.mk ?a17 ?l17 ?c17 ?k17) (VL.DefIn.mk ?a18 ?l18 ?c18 ?k18) ?a19 ?l19 ?c19 ?k19 ?z_str ?z_range ?z_tuple ?z_len ?z_max ?z_int ?z_isinstance ?z_bool ?z_ValueError ?z_min ?a_MOST_WIRES ?a_MOST_ROWS ?a_MOST_LOOKS ?xn_UnlikeWires ?xn_TooGreat ?xn_NoStep ?xn_HasLooks ?xn_BadRow ?xn_WaveError ?xe_BadRow ?xi_WaveError ?xga_BadRow ?xgt_BadRow ?xcl_BadRow ?xmo_BadRow ?xbe_BadRow ?xk_BadRow_UnlikeWires ?xk_BadRow_TooGreat ?xk_BadRow_NoStep ?xk_BadRow_HasLooks ?xk_BadRow_ValueError ?xk_BadRow_BadRow ?xs_BadRow_WaveError ?ri_BadRow ?rl_BadRow ?rc_BadRow ?rk_BadRow ?re_BadRow ?ro_BadRow ?rp_BadRow ?rwga ?rwrd ?rwfc
    (case a0 => k_is)
    (case l0 => k_is)
    (case c0 => k_is)
    (case k0 => k_is)
    (case a1 => k_is)
    (case l1 => k_is)
    (case c1 => k_is)
    (case k1 => k_is)
    (case a2 => k_is)
    (case l2 => k_is)
    (case c2 => k_is)
    (case k2 => k_is)
    (case a3 => k_is)
    (case l3 => k_is)
    (case c3 => k_is)
    (case k3 => k_is)
    (case a4 => k_is)
    (case l4 => k_is)
    (case c4 => k_is)
    (case k4 => k_is)
    (case a5 => k_is)
    (case l5 => k_is)
    (case c5 => k_is)
    (case k5 => k_is)
    (case a6 => k_is)
    (case l6 => k_is)
    (case c6 => k_is)
    (case k6 => k_is)
    (case a7 => k_is)
    (case l7 => k_is)
    (case c7 => k_is)
    (case k7 => k_is)
    (case a8 => k_is)
    (case l8 => k_is)
    (case c8 => k_is)
    (case k8 => k_is)
    (case a9 => k_is)
    (case l9 => k_is)
    (case c9 => k_is)
    (case k9 => k_is)
    (case a10 => k_is)
    (case l10 => k_is)
    (case c10 => k_is)
    (case k10 => k_is)
    (case a11 => k_is)
    (case l11 => k_is)
    (case c11 => k_is)
    (case k11 => k_is)
    (case a12 => k_is)
    (case l12 => k_is)
    (case c12 => k_is)
    (case k12 => k_is)
    (case a13 => k_is)
    (case l13 => k_is)
    (case c13 => k_is)
    (case k13 => k_is)
    (case a14 => k_is)
    (case l14 => k_is)
    (case c14 => k_is)
    (case k14 => k_is)
    (case a15 => k_is)
    (case l15 => k_is)
    (case c15 => k_is)
    (case k15 => k_is)
    (case a16 => k_is)
    (case l16 => k_is)
    (case c16 => k_is)
    (case k16 => k_is)
    (case a17 => k_is)
    (case l17 => k_is)
    (case c17 => k_is)
    (case k17 => k_is)
    (case a18 => k_is)
    (case l18 => k_is)
    (case c18 => k_is)
    (case k18 => k_is)
    (case a19 => k_is)
    (case l19 => k_is)
    (case c19 => k_is)
    (case k19 => k_is)
    (case z_str => k_is)
    (case z_range => k_is)
    (case z_tuple => k_is)
    (case z_len => k_is)
    (case z_max => k_is)
    (case z_int => k_is)
    (case z_isinstance => k_is)
    (case z_bool => k_is)
    (case z_ValueError => k_is)
    (case z_min => k_is)
    (case a_MOST_WIRES => k_is)
    (case a_MOST_ROWS => k_is)
    (case a_MOST_LOOKS => k_is)
    (case xn_UnlikeWires => k_is)
    (case xn_TooGreat => k_is)
    (case xn_NoStep => k_is)
    (case xn_HasLooks => k_is)
    (case xn_BadRow => k_is)
    (case xn_WaveError => k_is)
    (case xe_BadRow => first | k_is | rfl | kernel_rfl | decide +kernel)
    (case xi_WaveError => k_exc)
    (case xga_BadRow => k_is)
    (case xgt_BadRow => k_is)
    (case xcl_BadRow => k_is)
    (case xmo_BadRow => k_is)
    (case xbe_BadRow => k_is)
    (case xk_BadRow_UnlikeWires => kit_is)
    (case xk_BadRow_TooGreat => kit_is)
    (case xk_BadRow_NoStep => kit_is)
    (case xk_BadRow_HasLooks => kit_is)
    (case xk_BadRow_ValueError => kit_is)
    (case xk_BadRow_BadRow => kit_is)
    (case xs_BadRow_WaveError => k_is)
    (case ri_BadRow => first | k_is | rfl | kernel_rfl | decide +kernel)
    (case rl_BadRow => first | k_is | rfl | kernel_rfl | decide +kernel)
    (case rc_BadRow => first | k_is | rfl | kernel_rfl | decide +kernel)
    (case rk_BadRow => first | k_is | rfl | kernel_rfl | decide +kernel)
    (case re_BadRow => first | k_is | rfl | kernel_rfl | decide +kernel)
    (case ro_BadRow => first | k_is | rfl | kernel_rfl | decide +kernel)
    (case rp_BadRow => first | k_is | rfl | kernel_rfl | decide +kernel)
    (case rwga => first | k_is | rfl | kernel_rfl | decide +kernel)
    (case rwrd => first | k_is | rfl | kernel_rfl | decide +kernel)
    (case rwfc => first | k_is | rfl | kernel_rfl | decide +kernel)
