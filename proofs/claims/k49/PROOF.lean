import PyProof.Rows.All
import KE.KIsAll
import KE.KItem
import KE.LcSums
import KE.KBits
import KE.RegKIsAll
import PyProof.EqAt
import PyProof.EqKinds
import PyProof.TupleCall
import Lean
import PySem.Challenge.RW_wavewires_k49_tables_behind_looks
section TopS
set_option Elab.async false
set_option linter.all false
open PySem PySem.W PyProof.Rows
def viewQ : Program := view PySem.Challenge.rw_wavewires_k49_tables_behind_looks.prog [1, 2, 3, 4, 5, 6, 7, 8, 9, 10, 12, 13, 14, 15, 17, 18, 19, 20, 21, 23, 24, 26, 27, 28, 29, 30, 32, 34, 35, 36, 37, 38, 39, 40, 41, 44, 45, 46, 47, 48, 49, 50, 51, 52, 54, 55, 56, 57, 58, 59, 60, 61, 62, 63, 64, 65, 66, 67]
local macro_rules
  | `(tactic| o_head $H) => do
    let hw := Lean.mkIdent `hw
    let hc := Lean.mkIdent `hc
    `(tactic| refine holds_open (q := viewQ) (loose := ["number", "beginning", "table_of"]) (Xt := fun s => xlAt viewQ [] s && recOk (RowW.records (OpenRow.toRowW PySem.Challenge.rw_wavewires_k49_tables_behind_looks.row)) s) (XP := XL viewQ []) (Yf := Hook.obs $H) (Ya := Hook.val $H) (YP := Hook.says $H) (N := 6000) (fun w => by (unfold openEnds fencedOpening topFrom; rw [Fast.te10274390034422433532, Fast.te14082659384304107361, Fast.te1435165496053646825, Fast.te14289696077712309145, Fast.te14364793385576792824, Fast.te4187177175401517315, Fast.te5923862056798008813]; kernel_rfl)) (Hook.of $H) (Hook.keeps $H) (fun s e => xl_of s (Bool.and_eq_true_iff.mp e).1) XL.keeps (by rfl) (by rfl) (by rfl) (fun s e => recFacts_of (Bool.and_eq_true_iff.mp e).2) (by rfl) (by first | assumption | decide +kernel) (by decide +kernel) ⟨rfl, rfl, rfl, rfl, rfl, by decide +kernel⟩ ?$hw ?$hc)
set_option maxRecDepth 1000000 in
set_option maxHeartbeats 0 in
open_top topT for PySem.Challenge.rw_wavewires_k49_tables_behind_looks
end TopS
set_option Elab.async false
set_option linter.all false
set_option maxRecDepth 100000
namespace L2
open PySem PySem.Spec PyProof.Rows
abbrev Key:=Sum Int Str
def jlB:Key → Value → Bool
  | .inl k,v=>Value.isInt k v
  | .inr x,v=>Value.isStrOf x v
def jxA (w:World):Key → Int
  | .inl k=>hashInt k
  | .inr x=>hashStr w x
theorem jbu:∀ {k:Key} {v:Value},jlB k v = true → (∃ i t,k = Sum.inl i ∧ v = Value.int i t) ∨ (∃ x t,k = Sum.inr x ∧ v = Value.str x t)
  | .inl i,v,h=>by
    obtain ⟨t,e⟩:=Value.isInt_shape (k:=i) (v:=v) h
    exact .inl ⟨i,t,rfl,e⟩
  | .inr x,v,h=>by
    obtain ⟨t,e⟩:=Value.isStrOf_shape (x:=x) (v:=v) h
    exact .inr ⟨x,t,rfl,e⟩
theorem jm8 (i:Int) (t:Tok):jlB (.inl i) (.int i t) = true:=by simp [jlB,Value.isInt]
theorem jm7 (x:Str) (t:Tok):jlB (.inr x) (.str x t) = true:=by simp [jlB,Value.isStrOf]
theorem jtu (a b:Int):decide ((Sum.inl a:Key) = Sum.inl b) = (a == b):=by
  by_cases e:a = b
  · subst e; simp
  · have h:¬ (Sum.inl a:Key) = Sum.inl b:=fun q=>e (Sum.inl.inj q)
    rw [decide_eq_false h]
    exact (beq_eq_false_iff_ne.mpr e).symm
theorem jtr (a b:Str):decide ((Sum.inr a:Key) = Sum.inr b) = decide (a = b):=by
  by_cases e:a = b
  · subst e; simp
  · have h:¬ (Sum.inr a:Key) = Sum.inr b:=fun q=>e (Sum.inr.inj q)
    rw [decide_eq_false h,decide_eq_false e]
theorem jtt (a:Int) (b:Str):decide ((Sum.inl a:Key) = Sum.inr b) = false:=decide_eq_false (fun q=>nomatch q)
theorem jts (a:Str) (b:Int):decide ((Sum.inr a:Key) = Sum.inl b) = false:=decide_eq_false (fun q=>nomatch q)
def jdj (prog:Program) (w:World):PySem.KeyKind prog w Key where
  is:=jlB
  hash:=jxA w
  inj:=fun v a b ha hb=>by
    rcases jbu ha with ⟨i,t,rfl,rfl⟩ | ⟨x,t,rfl,rfl⟩
    · rcases jbu hb with ⟨j,u,rfl,e⟩ | ⟨y,u,rfl,e⟩
      · injection e with e1 _; rw [e1]
      · exact nomatch e
    · rcases jbu hb with ⟨j,u,rfl,e⟩ | ⟨y,u,rfl,e⟩
      · exact nomatch e
      · injection e with e1 _; rw [e1]
  byValue:=fun k v h=>by
    rcases jbu h with ⟨i,t,rfl,rfl⟩ | ⟨x,t,rfl,rfl⟩ <;> rfl
  pyHash:=fun hv h=>by
    rcases jbu hv with ⟨i,t,rfl,rfl⟩ | ⟨x,t,rfl,rfl⟩
    · exact wpAny_pyHash_int h
    · exact wpAny_pyHash_str h
  eqBool:=fun hu hv h=>by
    rcases jbu hu with ⟨i,t,rfl,rfl⟩ | ⟨x,t,rfl,rfl⟩
    · rcases jbu hv with ⟨j,u,rfl,rfl⟩ | ⟨y,u,rfl,rfl⟩
      · rw [jtu] at h; exact wpAny_eqBool_int h
      · rw [jtt] at h; exact SeqAt.EqAt.int_str i t y u _ _ _ _ h
    · rcases jbu hv with ⟨j,u,rfl,rfl⟩ | ⟨y,u,rfl,rfl⟩
      · rw [jts] at h; exact SeqAt.EqAt.str_int x t j u _ _ _ _ h
      · rw [jtr] at h; exact wpAny_eqBool_str h
  «strs»:=fun k x t v h=>by
    rcases jbu h with ⟨i,u,rfl,e⟩ | ⟨y,u,rfl,e⟩
    · exact nomatch e
    · injection e with e1 _
      subst e1
      cases v <;> rfl
theorem jj7 (prog:Program) (w:World) (i:Int) (t:Tok):(jdj prog w).is (.inl i) (.int i t) = true:=jm8 i t
theorem jj6 (prog:Program) (w:World) (x:Str) (t:Tok):(jdj prog w).is (.inr x) (.str x t) = true:=jm7 x t
end L2
namespace L2
open PySem PySem.Spec PyProof.Rows
inductive V where
  | non | bl (b:Bool) | int (i:Int) | str (x:Str) | byt (b:Array UInt8) | flt (b:UInt64) | ref (a:Addr) | ty (n:String)
  deriving DecidableEq
def RelV:V → Value → Prop
  | .non,u=>u = Value.none
  | .bl b,u=>u = Value.bool b
  | .int i,u=>∃ t,u = Value.int i t
  | .str x,u=>∃ t,u = Value.str x t
  | .byt b,u=>∃ t,u = Value.bytes b t
  | .flt b,u=>∃ t,u = Value.float b t
  | .ref a,u=>u = Value.ref a
  | .ty n,u=>u = Value.type n
abbrev Vals:List V → List Value → Prop:=Paired RelV
theorem Vals.length {xs:List V} {us:List Value} (r:Vals xs us):xs.length = us.length:=Paired.length r
theorem Vals.get:∀ {xs:List V} {us:List Value} {i:Nat} {x:V},Vals xs us → xs[i]? = some x → ∃ u,us[i]? = some u ∧ RelV x u
  | _,_,_,_,.nil,e=>by simp at e
  | _,_,0,_,.cons r _,e=>by simp at e; subst e; exact ⟨_,rfl,r⟩
  | _,_,i + 1,x,.cons _ t,e=>by
    obtain ⟨u,h1,h2⟩:=Vals.get (i:=i) (x:=x) t (by simpa using e)
    exact ⟨u,by simpa using h1,h2⟩
theorem Vals.set {x:V} {u:Value} (r:RelV x u):∀ {xs:List V} {us:List Value} (i:Nat),Vals xs us → Vals (xs.set i x) (us.set i u)
  | _,_,_,.nil=>.nil
  | _,_,0,.cons _ t=>.cons r t
  | _,_,i + 1,.cons q t=>.cons q (Vals.set r i t)
theorem Vals.append:∀ {xs ys:List V} {us ws:List Value},Vals xs us → Vals ys ws → Vals (xs ++ ys) (us ++ ws)
  | _,_,_,_,.nil,s=>s
  | _,_,_,_,.cons r t,s=>.cons r (Vals.append t s)
theorem Vals.take:∀ {xs:List V} {us:List Value} (n:Nat),Vals xs us → Vals (xs.take n) (us.take n)
  | _,_,0,_=>.nil
  | _,_,_ + 1,.nil=>.nil
  | _,_,n + 1,.cons r t=>.cons r (Vals.take n t)
theorem Vals.drop:∀ {xs:List V} {us:List Value} (n:Nat),Vals xs us → Vals (xs.drop n) (us.drop n)
  | _,_,0,r=>r
  | _,_,_ + 1,.nil=>.nil
  | _,_,n + 1,.cons _ t=>Vals.drop n t
def RelO:Option V → Option Value → Prop
  | some v,some u=>RelV v u
  | none,none=>True
  | _,_=>False
def KV {κ:Type}:List (κ × V) → List (κ × Value) → Prop:=Paired fun (p:κ × V) (q:κ × Value)=>p.1 = q.1 ∧ RelV p.2 q.2
def kV:Key → V
  | .inl i=>.int i
  | .inr x=>.str x
inductive HO where
  | lst (xs:List V)
  | tup (xs:List V)
  | dK (kvs:List (Key × V)) | dT (kvs:List (List Key × V))
  | set (S:Int → Bool) (n:Nat)
  | ins (C dx:Addr) (fs:List (Str × V))
  | own (x:Addr)
  | xd (fs:List (Str × V))
  | met (f x:Addr)
  | rng (lo hi:Int)
  | frz (o:Obj) (u:HO)
  | tbl (ps:Array Value)
  | ext (φ:Heap → Prop)
abbrev Hp:=Addr → Option HO
def upd (H:Hp) (a:Addr) (o:HO):Hp:=fun b=>if b = a then some o else H b
theorem jaF {H:Hp} {a:Addr} {o:HO}:upd H a o a = some o:=by unfold upd; rw [if_pos rfl]
theorem jaA {H:Hp} {a b:Addr} {o:HO} (h:b ≠ a):upd H a o b = H b:=by unfold upd; rw [if_neg h]
theorem jaJ {H:Hp} {a b:Addr} {o:HO} (h:H a = some o) (h':H b = none):a ≠ b:=by
  intro e; subst e; rw [h] at h'; cases h'
section
variable (P:Program) (w:World)
def ObjOk (H:Hp) (h:Heap) (a:Addr):HO → Prop
  | .lst xs=>xs.length ≤ sizeLine ∧ ∃ (its:List Value) (n:Nat),Vals xs its ∧ h.get? a = some { cls:=.type "list",data:=.seq its.toArray n }
  | .tup xs=>xs.length ≤ sizeLine ∧ ∃ its:List Value,Vals xs its ∧ IsTup h a its.toArray
  | .dK kvs=>kvs.length ≤ sizeLine ∧ (a == sysModules) = false ∧ ∃ vs,KV kvs vs ∧ h.DictOf (jdj P w) a vs
  | .dT kvs=>kvs.length ≤ sizeLine ∧ (a == sysModules) = false ∧ ∃ xs:List (List Key × Addr × Value),
      Paired (fun (p:List Key × V) (q:List Key × Addr × Value)=>p.1 = q.1 ∧ H q.2.1 = some (.tup (p.1.map kV)) ∧ RelV p.2 q.2.2) kvs xs ∧
      ∃ o es ep,h.get? a = some o ∧ o.ExactDict ∧ o.data = .dict es ep ∧ es.toList = xs.map (entryOfKey (tupleKind (jdj P w))) ∧ (xs.map (·.1)).Nodup
  | .set S n=>h.SetOf (intKind P w) a S n
  | .ins C dx fs=>H dx = some (.own a) ∧ fs.length ≤ 1000 ∧ dx ≠ a ∧ h.get? a = some (PySem.W.instObj C dx) ∧
      ∃ mA,h.Ns1 dx mA ∧ (∀ f,RelO (fs.lookup f) (mA f)) ∧ PySem.Within mA (fs.map (·.1))
  | .own _=>∃ o,h.get? a = some o
  | .xd fs=>∃ mA,h.Ns1 a mA ∧ ∀ f,RelO (fs.lookup f) (mA f)
  | .rng lo hi=>∃ t u v,h.get? a = some { cls:=.type "range",data:=.fields #[.int lo t,.int hi u,.int 1 v] }
  | .frz o u=>h.get? a = some o ∧ ObjOk H h a u
  | .tbl ps=>h.get? a = some { cls:=.none,data:=.fields ps }
  | .met f x=>h.get? a = some (PySem.W.methodObj (.ref f) (.ref x))
  | .ext φ=>φ h ∧ (∃ o,h.get? a = some o) ∧ ∀ h1 h2:Heap,φ h1 → (∀ o,h1.get? a = some o → h2.get? a = some o) → φ h2
def HOk (H:Hp) (h:Heap):Prop:=∀ a o,H a = some o → ObjOk P w H h a o
end
section
variable {P:Program} {w:World} {H H':Hp} {h h':Heap} {a:Addr} {o:HO}
theorem ObjOk.lt (x:ObjOk P w H h a o):a < h.objs.size:=by
  cases o with
  | lst xs=>obtain ⟨_,_,_,_,e⟩:=x; exact Heap.lt_size e
  | tup xs=>obtain ⟨_,_,_,p⟩:=x; exact p.lt
  | dK kvs=>obtain ⟨_,_,_,_,o,_,_,e,_⟩:=x; exact Heap.lt_size e
  | dT kvs=>obtain ⟨_,_,_,_,o,_,_,e,_⟩:=x; exact Heap.lt_size e
  | set S n=>obtain ⟨o,_,_,_,e,_⟩:=x; exact Heap.lt_size e
  | ins C dx fs=>obtain ⟨_,_,_,e,_⟩:=x; exact Heap.lt_size e
  | own y=>obtain ⟨_,e⟩:=x; exact Heap.lt_size e
  | xd fs=>obtain ⟨_,⟨_,_,_,e,_⟩,_⟩:=x; exact Heap.lt_size e
  | rng lo hi=>obtain ⟨_,_,_,e⟩:=x; exact Heap.lt_size e
  | frz ob u=>obtain ⟨e,_⟩:=x; exact Heap.lt_size e
  | tbl ps=>exact Heap.lt_size (show h.get? a = some _ from x)
  | met f y=>exact Heap.lt_size (show h.get? a = some _ from x)
  | ext φ=>obtain ⟨_,⟨_,e⟩,_⟩:=x; exact Heap.lt_size e
theorem Paired.mapP {α β:Type} {F G:α → β → Prop}:∀ {l₁:List α} {l₂:List β},Paired F l₁ l₂ → (∀ a b,F a b → G a b) → Paired G l₁ l₂
  | _,_,.nil,_=>.nil
  | _,_,.cons r t,f=>.cons (f _ _ r) (Paired.mapP t f)
theorem ObjOk.stay (x:ObjOk P w H h a o) (k:∀ b u,(b = a ∨ H b = some (.own a)) → h.get? b = some u → h'.get? b = some u)
    (ho:∀ b,H b = some (.own a) → H' b = some (.own a)) (ht:∀ b xs,H b = some (.tup xs) → H' b = some (.tup xs)):ObjOk P w H' h' a o:=by
  induction o with
  | lst xs=>obtain ⟨z,its,n,r,e⟩:=x; exact ⟨z,its,n,r,k _ _ (.inl rfl) e⟩
  | tup xs=>obtain ⟨z,its,r,ob,e,c⟩:=x; exact ⟨z,its,r,ob,k _ _ (.inl rfl) e,c⟩
  | dK kvs=>obtain ⟨z,y,vs,r,ob,es,ep,e,c⟩:=x; exact ⟨z,y,vs,r,ob,es,ep,k _ _ (.inl rfl) e,c⟩
  | dT kvs=>
    obtain ⟨z,y,xs,r,ob,es,ep,e,c⟩:=x
    exact ⟨z,y,xs,Paired.mapP r fun p q z=>⟨z.1,ht _ _ z.2.1,z.2.2⟩,ob,es,ep,k _ _ (.inl rfl) e,c⟩
  | set S n=>obtain ⟨ob,es,ep,t,e,c⟩:=x; exact ⟨ob,es,ep,t,k _ _ (.inl rfl) e,c⟩
  | ins C dx fs=>
    obtain ⟨d,z,ne,e,mA,⟨od,es,ep,e2,c⟩,r⟩:=x
    exact ⟨ho _ d,z,ne,k _ _ (.inl rfl) e,mA,⟨od,es,ep,k _ _ (.inr d) e2,c⟩,r⟩
  | own y=>obtain ⟨ob,e⟩:=x; exact ⟨ob,k _ _ (.inl rfl) e⟩
  | xd fs=>obtain ⟨mA,⟨od,es,ep,e,c⟩,r⟩:=x; exact ⟨mA,⟨od,es,ep,k _ _ (.inl rfl) e,c⟩,r⟩
  | rng lo hi=>obtain ⟨t,u,v,e⟩:=x; exact ⟨t,u,v,k _ _ (.inl rfl) e⟩
  | frz ob u ih=>obtain ⟨e,q⟩:=x; exact ⟨k _ _ (.inl rfl) e,ih q⟩
  | tbl ps=>
    have e:h.get? a = some { cls:=.none,data:=.fields ps }:=x
    show h'.get? a = some { cls:=.none,data:=.fields ps }
    exact k a _ (.inl rfl) e
  | met f y=>
    have e:h.get? a = some (PySem.W.methodObj (.ref f) (.ref y)):=x
    show h'.get? a = some (PySem.W.methodObj (.ref f) (.ref y))
    exact k a _ (.inl rfl) e
  | ext φ=>obtain ⟨p,⟨o,e⟩,st⟩:=x; exact ⟨st _ _ p fun o q=>k _ _ (.inl rfl) q,⟨o,k _ _ (.inl rfl) e⟩,st⟩
theorem HOk.lt (x:HOk P w H h) (e:H a = some o):a < h.objs.size:=(x a o e).lt
theorem HOk.fresh (x:HOk P w H h) (e:h.objs.size ≤ a):H a = none:=by
  cases q:H a with
  | none=>rfl
  | some u=>exact absurd (Nat.lt_of_lt_of_le (x.lt q) e) (Nat.lt_irrefl _)
theorem HOk.kept (x:HOk P w H h) (k:∀ b u,h.get? b = some u → h'.get? b = some u):HOk P w H h':=fun a o e=>
  (x a o e).stay (fun b u _ q=>k b u q) (fun _ q=>q) fun _ _ q=>q
theorem HOk.laid (x:HOk P w H h) (k:∀ b u,h.get? b = some u → h'.get? b = some u) (hp:h.objs.size ≤ a) (new:ObjOk P w (upd H a o) h' a o):HOk P w (upd H a o) h':=fun b u e=>by
  have hn:=x.fresh hp
  by_cases hb:b = a
  · subst hb; rw [jaF] at e; cases e; exact new
  · rw [jaA hb] at e
    exact (x b u e).stay (fun c v _ q=>k c v q) (fun c q=>by rw [jaA (jaJ q hn)]; exact q) fun c xs q=>by rw [jaA (jaJ q hn)]; exact q
end
def Rd (H:Hp) (a:Addr) (u:HO):Prop:=H a = some u ∨ ∃ o,H a = some (.frz o u)
theorem Rd.of {H:Hp} {a:Addr} {u:HO} (h:H a = some u):Rd H a u:=.inl h
theorem Rd.ok {P:Program} {w:World} {H:Hp} {h:Heap} {a:Addr} {u:HO} (r:Rd H a u) (x:HOk P w H h):ObjOk P w H h a u:=by
  rcases r with r | ⟨o,r⟩
  · exact x a u r
  · obtain ⟨_,q⟩:=x a _ r
    exact q
def Mut:Option HO → Prop
  | some (.lst _)=>True
  | some (.dK _)=>True
  | some (.dT _)=>True
  | some (.set _ _)=>True
  | some (.ins _ _ _)=>True
  | some (.ext _)=>True
  | _=>False
section
variable {P:Program} {w:World} {H:Hp} {h h':Heap} {x e:Addr} {o':HO}
theorem HOk.write (ok:HOk P w H h) (mu:Mut (H x)) (he:e = x ∨ H e = some (.own x)) (k:∀ b u,b ≠ e → h.get? b = some u → h'.get? b = some u) (heo:∃ u,h'.get? e = some u)
    (new:ObjOk P w (upd H x o') h' x o'):HOk P w (upd H x o') h':=fun b u q=>by
  have nown:∀ c y,H c = some (.own y) → c ≠ x:=fun c y r z=>by subst z; rw [r] at mu; exact mu
  have ntup:∀ c xs,H c = some (.tup xs) → c ≠ x:=fun c xs r z=>by subst z; rw [r] at mu; exact mu
  by_cases hb:b = x
  · subst hb; rw [jaF] at q; cases q; exact new
  · rw [jaA hb] at q
    by_cases hbe:b = e
    · have q':H b = some (.own x):=by
        rcases he with z | z
        · exact absurd (hbe.trans z) hb
        · rw [hbe]; exact z
      rw [q] at q'; cases q'
      obtain ⟨v,hv⟩:=heo
      exact ⟨v,by rw [hbe]; exact hv⟩
    · refine (ok b u q).stay (fun c v hc r=>k c v ?_ r) (fun c r=>by rw [jaA (nown c b r)]; exact r) fun c xs r=>by rw [jaA (ntup c xs r)]; exact r
      rcases hc with rfl | hc
      · exact hbe
      · rintro rfl
        rcases he with z | z
        · exact nown c b hc z
        · rw [hc] at z; cases z; exact hb rfl
end
structure Un (fs ex:List Addr) (H H':Hp) (h h':Heap):Prop where
  keep:∀ b o,h.get? b = some o → H b = none → b ∉ fs → b ∉ ex → h'.get? b = some o
  slot:∀ b o,h.get? b = some o → H b = none → b ∈ fs → b ∉ ex → ∃ sl,h'.get? b = some { o with slots:=sl }
  free:∀ b o,h.get? b = some o → H b = none → b ∉ ex → H' b = none
  there:∀ b o,h.get? b = some o → b ∉ ex → ∃ o',h'.get? b = some o'
  tups:∀ b xs,H b = some (.tup xs) → H' b = some (.tup xs)
  frzs:∀ b o u,H b = some (.frz o u) → H' b = some (.frz o u)
  tbls:∀ b ps,H b = some (.tbl ps) → ∃ more,H' b = some (.tbl (ps ++ more))
section
variable {fs fs' ex ex':List Addr} {H H1 H2:Hp} {h h1 h2 h':Heap} {a x e:Addr} {o:HO}
theorem Un.any (u:Un fs ex H H1 h h1) {b:Addr} {ob:Obj} (q:h.get? b = some ob) (n:H b = none) (hx:b ∉ ex):∃ sl,h1.get? b = some { ob with slots:=sl }:=by
  by_cases hb:b ∈ fs
  · exact u.slot b ob q n hb hx
  · exact ⟨ob.slots,u.keep b ob q n hb hx⟩
theorem Un.trans (a:Un fs ex H H1 h h1) (b:Un fs ex H1 H2 h1 h2):Un fs ex H H2 h h2 where
  keep:=fun c ob q n hc hx=>b.keep c ob (a.keep c ob q n hc hx) (a.free c ob q n hx) hc hx
  slot:=fun c ob q n hc hx=>by
    obtain ⟨sl,e1⟩:=a.slot c ob q n hc hx
    obtain ⟨sl',e2⟩:=b.slot c _ e1 (a.free c ob q n hx) hc hx
    exact ⟨sl',e2⟩
  free:=fun c ob q n hx=>by
    obtain ⟨o',e1⟩:=a.there c ob q hx
    exact b.free c o' e1 (a.free c ob q n hx) hx
  there:=fun c ob q hx=>by
    obtain ⟨o',e1⟩:=a.there c ob q hx
    exact b.there c o' e1 hx
  tups:=fun c xs q=>b.tups c xs (a.tups c xs q)
  frzs:=fun c ob xs q=>b.frzs c ob xs (a.frzs c ob xs q)
  tbls:=fun c ps q=>by
    obtain ⟨m1,e1⟩:=a.tbls c ps q
    obtain ⟨m2,e2⟩:=b.tbls c _ e1
    exact ⟨m1 ++ m2,by rw [e2,Array.append_assoc]⟩
theorem Un.kept (k:∀ b u,h.get? b = some u → h'.get? b = some u):Un fs ex H H h h':=
  ⟨fun b ob q _ _ _=>k b ob q,fun b ob q _ _ _=>⟨ob.slots,k b ob q⟩,fun _ _ _ n _=>n,fun b ob q _=>⟨ob,k b ob q⟩,fun _ _ q=>q,fun _ _ _ q=>q,fun _ ps q=>⟨#[],by rw [q]; simp⟩⟩
theorem Un.refl:Un fs ex H H h h:=Un.kept fun _ _ q=>q
theorem Un.laid (k:∀ b u,h.get? b = some u → h'.get? b = some u) (hp:h.objs.size ≤ a) (hn:H a = none):Un fs ex H (upd H a o) h h' where
  keep:=fun b u q _ _ _=>k b u q
  slot:=fun b u q _ _ _=>⟨u.slots,k b u q⟩
  free:=fun b u q n _=>by rw [jaA (Nat.ne_of_lt (Nat.lt_of_lt_of_le (Heap.lt_size q) hp))]; exact n
  there:=fun b u q _=>⟨u,k b u q⟩
  tups:=fun b xs q=>by rw [jaA (jaJ q hn)]; exact q
  frzs:=fun b u xs q=>by rw [jaA (jaJ q hn)]; exact q
  tbls:=fun b ps q=>⟨#[],by rw [jaA (jaJ q hn),q]; simp⟩
theorem Un.write (mu:Mut (H x)) (he:e = x ∨ H e = some (.own x)) (k:∀ b u,b ≠ e → h.get? b = some u → h'.get? b = some u) (heo:∃ u,h'.get? e = some u):Un fs ex H (upd H x o) h h':=by
  have hx:∀ b,H b = none → b ≠ x:=fun b n z=>by subst z; rw [n] at mu; exact mu
  have hb:∀ b,H b = none → b ≠ e:=fun b n z=>by
    subst z
    rcases he with r | r
    · exact hx b n r
    · rw [n] at r; cases r
  have hm:∀ b u,H b = some u → ¬ Mut (some u) → b ≠ x:=fun b u q nm z=>by subst z; rw [q] at mu; exact nm mu
  refine ⟨fun b u q n _ _=>k b u (hb b n) q,fun b u q n _ _=>⟨u.slots,k b u (hb b n) q⟩,fun b u q n _=>by rw [jaA (hx b n)]; exact n,fun b u q _=>?_,
    fun b xs q=>by rw [jaA (hm b _ q fun z=>z)]; exact q,fun b u xs q=>by rw [jaA (hm b _ q fun z=>z)]; exact q,fun b ps q=>⟨#[],by rw [jaA (hm b _ q fun z=>z),q]; simp⟩⟩
  by_cases hbe:b = e
  · subst hbe; exact heo
  · exact ⟨u,k b u hbe q⟩
theorem Un.mono (u:Un fs ex H H1 h h1) (hs:∀ b ∈ fs,b ∈ fs') (hx:∀ b ∈ ex,b ∈ ex'):Un fs' ex' H H1 h h1:=
  ⟨fun b ob q n hb he=>u.keep b ob q n (fun z=>hb (hs b z)) fun z=>he (hx b z),fun _ _ q n _ he=>u.any q n fun z=>he (hx _ z),fun b ob q n he=>u.free b ob q n fun z=>he (hx b z),fun b ob q he=>u.there b ob q fun z=>he (hx b z),u.tups,u.frzs,u.tbls⟩
end
def trk (h:Heap) (H:Hp):List Addr:=(List.range h.objs.size).filter fun a=>(H a).isSome
def jpk (h:Heap) (H:Hp):Heap:=PySem.W.hideAll h (trk h H)
theorem jnc (h:Heap) (H:Hp):(jpk h H).objs.size = h.objs.size:=PySem.W.hideAll_size _ _
theorem jpj {h:Heap} {H:Hp} {b:Addr} {o:Obj} (e:h.get? b = some o) (n:H b = none):(jpk h H).get? b = some o:=
  PySem.W.hideAll_get _ e fun hm=>by
    have q:(H b).isSome = true:=(List.mem_filter.mp hm).2
    rw [n] at q; simp at q
theorem jq9 {h:Heap} {H:Hp} {b:Addr} {o:Obj} (e:(jpk h H).get? b = some o):h.get? b = some o ∧ H b = none:=by
  have e':h.get? b = some o:=PySem.W.of_hideAll (trk h H) e
  refine ⟨e',?_⟩
  cases q:H b with
  | none=>rfl
  | some x=>
    have hm:b ∈ trk h H:=List.mem_filter.mpr ⟨List.mem_range.mpr (Heap.lt_size e'),by simp [q]⟩
    have z:(jpk h H).get? b = none:=PySem.W.hideAll_none (trk h H) hm
    rw [z] at e; cases e
def jr2 (g h:Heap) (L:Addr):List (Addr × Obj):=(List.range h.objs.size).filterMap fun a=>if a = L ∨ (g.get? a).isSome = true then none else (h.get? a).map fun o=>(a,o)
def rest (g h:Heap) (L d:Addr):List (Addr × Obj):=(jr2 g h L).filter fun p=>decide (p.1 ≠ d)
end L2
namespace L2
open PySem PySem.Spec PyProof.Rows
structure Mod (K:PySem.W.Frag) (mg:Str → Option Value) (base:Heap):Prop where
  kin:K.In base
  glob:base.Ns mainGlobals mg
  blt:∃ mb,base.Ns builtinsNs mb ∧ ∀ x:Str,x ≠ "__name__" → mb x = bootBuiltins x
  nolimit:base.NoLimit
structure Cx where
  prog:Program
  w:World
  K:PySem.W.Frag
  mg:Str → Option Value
  base:Heap
  A:Around
  N:List Str
  s₀:Shared
  H₀:Hp
  env:Env
  outer:List Env
  stack:List Env
  ex:List Addr
  fn:Str → Bool
  calm:Bool
  pn:List (Addr × Obj)
  xe:Value → Shared → Prop
def frs (l:List Env):List Addr:=l.filterMap (·.frame)
abbrev Cx.fs (X:Cx):List Addr:=frs X.outer
def Vis (sc:Scope) (x:Str):Prop:=sc.names.lookup x = some .local ∨ sc.names.lookup x = some .cell ∨ sc.names.lookup x = some .free
def Loc (sc:Scope) (x:Str):Prop:=sc.names.lookup x = some .local ∨ sc.names.lookup x = some .cell
def jxY (env:Env) (h:Heap) (m:Str → Option Value) (x:Str) (u:Value):Prop:=
  (env.kindOf x = some .local ∧ m x = some u) ∨ ((env.kindOf x = some .cell ∨ env.kindOf x = some .free) ∧ ∃ c,env.cells.lookup x = some c ∧ h.IsCell c (some u))
structure Cx.Ok (X:Cx):Prop where
  mod:Mod X.K X.mg X.base
  kind:X.env.scope.kind = .function
  glob:X.env.globals = mainGlobals
  blt:X.env.builtins = builtinsNs
  above:X.s₀.heap.objs.size ≤ X.env.locals
  inj:∀ x y c,X.env.cells.lookup x = some c → X.env.cells.lookup y = some c → x = y
  has:∀ x,(X.env.kindOf x = some .cell ∨ X.env.kindOf x = some .free) → ∃ c,X.env.cells.lookup x = some c
  cab:∀ x c,X.fn x = true → X.env.cells.lookup x = some c → X.s₀.heap.objs.size ≤ c
  hd:X.calm = true → X.A.handled = none
  frames:X.A.frames = some X.stack
  stk:X.stack = X.outer ∨ (X.stack = X.env :: X.outer ∧ X.env.frame = some X.env.locals)
  exf:∀ b ∈ X.ex,b ≠ X.env.locals ∧ ∀ x c,X.env.cells.lookup x = some c → c ≠ b
  bs:∀ b o,X.base.get? b = some o → X.s₀.heap.get? b = some o ∧ X.H₀ b = none
  bsz:X.base.objs.size ≤ X.s₀.heap.objs.size
  noex:∀ b o,X.base.get? b = some o → b ∉ X.ex
  exfs:∀ b ∈ X.ex,b ∉ X.fs
  funs:X.s₀.heap.FunFrames X.base X.outer
  frf:∀ b ∈ X.fs,X.H₀ b = none
structure Inv (X:Cx) (pins:List (Addr × Obj)) (σ:List (Option V)) (H:Hp) (s:Shared):Prop where
  ok:X.Ok
  os:s.os = X.s₀.os
  bare:AllBare s.gens
  base:Un X.fs X.ex X.H₀ H X.s₀.heap s.heap
  loc:∃ m,s.heap.Ns X.env.locals m ∧ ∀ (i:Nat) (x:Str) (v:V),X.N[i]? = some x → σ[i]? = some (some v) → Vis X.env.scope x → ∃ u,RelV v u ∧ jxY X.env s.heap m x u
  cell:∀ x c,X.env.cells.lookup x = some c → ∃ v,s.heap.IsCell c v
  free:H X.env.locals = none
  freeC:∀ x c,X.env.cells.lookup x = some c → H c = none
  pin:∀ p ∈ X.pn ++ pins,s.heap.get? p.1 = some p.2 ∧ H p.1 = none ∧ p.1 ≠ X.env.locals ∧ p.1 ∉ X.fs ∧ ∀ v,p.2.data ≠ .cell v
  hok:HOk X.prog X.w H s.heap
  len:σ.length = X.N.length
section
variable {X:Cx} {pins:List (Addr × Obj)} {σ:List (Option V)} {H H':Hp} {s:Shared} {h':Heap}
theorem Cx.Ok.nofr (ok:X.Ok) {b:Addr} {o:Obj} (e:X.base.get? b = some o):b ∉ X.fs:=fun hb=>by
  have:=(ok.funs.mem hb).1
  rw [e] at this; cases this
theorem Inv.bs (I:Inv X pins σ H s):∀ b o,X.base.get? b = some o → s.heap.get? b = some o ∧ H b = none:=fun b o e=>
  ⟨I.base.keep b o (I.ok.bs b o e).1 (I.ok.bs b o e).2 (I.ok.nofr e) (I.ok.noex b o e),I.base.free b o (I.ok.bs b o e).1 (I.ok.bs b o e).2 (I.ok.noex b o e)⟩
theorem Inv.bk (I:Inv X pins σ H s):∀ b o,X.base.get? b = some o → s.heap.get? b = some o:=fun b o e=>(I.bs b o e).1
theorem Inv.mod (I:Inv X pins σ H s):Mod X.K X.mg X.base:=I.ok.mod
theorem Inv.kIn (I:Inv X pins σ H s):X.K.In s.heap:=I.ok.mod.kin.keeps I.bk
theorem Inv.nolimit (I:Inv X pins σ H s):s.heap.NoLimit:=I.ok.mod.nolimit.keeps I.bk
theorem Inv.fr (I:Inv X pins σ H s):∃ m,Fr X.base X.env.locals s.heap m:=
  let ⟨m,hn,_⟩:=I.loc
  ⟨m,hn,I.bk,Nat.le_trans I.ok.bsz I.ok.above⟩
theorem Inv.lt (I:Inv X pins σ H s):X.env.locals < s.heap.objs.size:=let ⟨_,hn,_⟩:=I.loc; hn.lt
theorem Inv.sz (I:Inv X pins σ H s):X.s₀.heap.objs.size ≤ s.heap.objs.size:=Nat.le_trans I.ok.above (Nat.le_of_lt I.lt)
theorem Inv.nofs (I:Inv X pins σ H s) {a:Addr} (h:s.heap.objs.size ≤ a):a ∉ X.fs:=fun hb=>by
  obtain ⟨_,o,ho,_⟩:=I.ok.funs.mem hb
  exact absurd (Nat.lt_of_lt_of_le (Heap.lt_size ho) (Nat.le_trans I.sz h)) (Nat.lt_irrefl _)
theorem Inv.cne (I:Inv X pins σ H s):∀ x c,X.env.cells.lookup x = some c → c ≠ X.env.locals:=fun x c e z=>by
  obtain ⟨v,o,ho,hd⟩:=I.cell x c e
  obtain ⟨m,⟨o',es,ep,ho',hd',_⟩,_⟩:=I.loc
  rw [z,ho'] at ho; cases ho; rw [hd'] at hd; cases hd
theorem Inv.funs (I:Inv X pins σ H s):s.heap.FunFrames X.base X.outer:=by
  have all:∀ (l:List Env),(∀ b ∈ frs l,b ∈ X.fs) → X.s₀.heap.FunFrames X.base l → s.heap.FunFrames X.base l:=by
    intro l
    induction l with
    | nil=>intro _ _; trivial
    | cons env r ih=>
      intro hs hl
      obtain ⟨hk,⟨L,o,hf,hn,ho,hd⟩,hr⟩:=hl
      have hL:L ∈ X.fs:=hs L (by unfold frs; rw [List.filterMap_cons,hf]; exact List.mem_cons_self)
      obtain ⟨sl,e⟩:=I.base.slot L o ho (I.ok.frf L hL) hL fun z=>I.ok.exfs L z hL
      exact ⟨hk,⟨L,_,hf,hn,e,hd⟩,ih (fun b hb=>hs b (by unfold frs; rw [List.filterMap_cons,hf]; exact List.mem_cons_of_mem _ hb)) hr⟩
  exact all X.outer (fun _ hb=>hb) I.ok.funs
theorem Inv.stack (I:Inv X pins σ H s):s.heap.FunFrames X.base X.stack:=by
  rcases I.ok.stk with e | ⟨e,hf⟩
  · rw [e]; exact I.funs
  · rw [e]
    obtain ⟨m,hn,_⟩:=I.loc
    refine .cons (by rw [I.ok.kind]; decide) hf hn ?_ I.funs
    exact Heap.get?_none_of_le (Nat.le_trans I.ok.bsz I.ok.above)
theorem Inv.stkSub (I:Inv X pins σ H s):∀ b ∈ frs X.stack,b ∈ X.env.locals :: X.fs:=fun b hb=>by
  rcases I.ok.stk with e | ⟨e,hf⟩
  · rw [e] at hb; exact List.mem_cons_of_mem _ hb
  · rw [e] at hb
    unfold frs at hb
    rw [List.filterMap_cons,hf] at hb
    exact hb
theorem Inv.stkFree (I:Inv X pins σ H s):∀ b ∈ frs X.stack,H b = none:=fun b hb=>by
  rcases List.mem_cons.mp (I.stkSub b hb) with e | hb
  · rw [e]; exact I.free
  · obtain ⟨_,o,ho,_⟩:=I.ok.funs.mem hb
    exact I.base.free b o ho (I.ok.frf b hb) fun z=>I.ok.exfs b z hb
theorem Inv.step {g':Array GenState} {t':Nat} {d':Drawn} {ch:List Addr} (I:Inv X pins σ H s)
    (hch:∀ b ∈ ch,(b ∈ X.ex ∨ X.s₀.heap.objs.size ≤ b) ∧ b ≠ X.env.locals ∧ (∀ x c,X.env.cells.lookup x = some c → c ≠ b) ∧ ∀ p ∈ X.pn ++ pins,p.1 ≠ b)
    (keep:∀ b o,b ≠ X.env.locals → b ∉ X.fs → b ∉ ch → s.heap.get? b = some o → H b = none → h'.get? b = some o)
    (slot:∀ b o,b ≠ X.env.locals → b ∈ X.fs → b ∉ ch → s.heap.get? b = some o → H b = none → ∃ sl,h'.get? b = some { o with slots:=sl }) (free:∀ b o,b ∉ ch → s.heap.get? b = some o → H b = none → H' b = none)
    (there:∀ b o,b ∉ ch → s.heap.get? b = some o → ∃ o',h'.get? b = some o')
    (tups:∀ b xs,H b = some (.tup xs) → H' b = some (.tup xs)) (frzs:∀ b o u,H b = some (.frz o u) → H' b = some (.frz o u)) (tbls:∀ b ps,H b = some (.tbl ps) → ∃ more,H' b = some (.tbl (ps ++ more)))
    (ns:∀ m,s.heap.Ns X.env.locals m → h'.Ns X.env.locals m) (hok:HOk X.prog X.w H' h') (hg:AllBare g') :
    Inv X pins σ H' { s with heap:=h',gens:=g',drawn:=d',toks:=t' }:=by
  have neL:∀ b o,X.s₀.heap.get? b = some o → b ≠ X.env.locals:=fun b o e=>Nat.ne_of_lt (Nat.lt_of_lt_of_le (Heap.lt_size e) I.ok.above)
  have neC:∀ b o,X.s₀.heap.get? b = some o → b ∉ X.ex → b ∉ ch:=fun b o e hx hb=>by
    rcases (hch b hb).1 with z | z
    · exact hx z
    · exact absurd (Nat.lt_of_lt_of_le (Heap.lt_size e) z) (Nat.lt_irrefl _)
  have cellK:∀ x c,X.env.cells.lookup x = some c → ∀ v,s.heap.IsCell c v → h'.IsCell c v:=fun x c e v ⟨o,ho,hd⟩=>by
    have nch:c ∉ ch:=fun z=>(hch c z).2.2.1 x c e rfl
    by_cases hc:c ∈ X.fs
    · obtain ⟨sl,q⟩:=slot c o (I.cne x c e) hc nch ho (I.freeC x c e)
      exact ⟨_,q,hd⟩
    · exact ⟨o,keep c o (I.cne x c e) hc nch ho (I.freeC x c e),hd⟩
  refine ⟨I.ok,I.os,hg,⟨fun b o e n hb hx=>?_,fun b o e n hb hx=>?_,fun b o e n hx=>?_,fun b o e hx=>?_,fun b xs e=>tups b xs (I.base.tups b xs e),fun b o xs e=>frzs b o xs (I.base.frzs b o xs e),fun b ps e=>?_⟩,?_,fun x c e=>?_,?_,fun x c e=>?_,fun p hp=>?_,hok,I.len⟩
  · exact keep b o (neL b o e) hb (neC b o e hx) (I.base.keep b o e n hb hx) (I.base.free b o e n hx)
  · obtain ⟨sl,e1⟩:=I.base.slot b o e n hb hx
    obtain ⟨sl',e2⟩:=slot b _ (neL b o e) hb (neC b o e hx) e1 (I.base.free b o e n hx)
    exact ⟨sl',e2⟩
  · obtain ⟨o',e1⟩:=I.base.there b o e hx
    exact free b o' (neC b o e hx) e1 (I.base.free b o e n hx)
  · obtain ⟨o',e1⟩:=I.base.there b o e hx
    exact there b o' (neC b o e hx) e1
  · obtain ⟨m1,e1⟩:=I.base.tbls b ps e
    obtain ⟨m2,e2⟩:=tbls b _ e1
    exact ⟨m1 ++ m2,by rw [e2,Array.append_assoc]⟩
  · obtain ⟨m,hn,hl⟩:=I.loc
    refine ⟨m,ns m hn,fun i x v e1 e2 e3=>?_⟩
    obtain ⟨u,r,l⟩:=hl i x v e1 e2 e3
    refine ⟨u,r,?_⟩
    rcases l with l | ⟨k,c,e,z⟩
    · exact .inl l
    · exact .inr ⟨k,c,e,cellK x c e _ z⟩
  · obtain ⟨v,z⟩:=I.cell x c e
    exact ⟨v,cellK x c e v z⟩
  · obtain ⟨m,⟨o,_,_,ho,_⟩,_⟩:=I.loc
    exact free _ o (fun z=>(hch _ z).2.1 rfl) ho I.free
  · obtain ⟨v,o,ho,hd⟩:=I.cell x c e
    exact free c o (fun z=>(hch c z).2.2.1 x c e rfl) ho (I.freeC x c e)
  · obtain ⟨e,n,ne,nf,d⟩:=I.pin p hp
    have nch:p.1 ∉ ch:=fun z=>(hch p.1 z).2.2.2 p hp rfl
    exact ⟨keep p.1 p.2 ne nf nch e n,free p.1 p.2 nch e n,ne,nf,d⟩
theorem Inv.un {t':Nat} (I:Inv X pins σ H s) (u:Un X.fs [] H H' s.heap h') (hok:HOk X.prog X.w H' h'):Inv X pins σ H' { s with heap:=h',toks:=t' }:=by
  obtain ⟨m,⟨o,es,ep,ho,r⟩,_⟩:=id I.loc
  obtain ⟨sl,hL⟩:=u.any ho I.free (by simp)
  exact I.step (g':=s.gens) (d':=s.drawn) (ch:=[]) (fun _ z=>nomatch z) (fun b o _ hb _ e n=>u.keep b o e n hb (by simp)) (fun b o _ hb _ e n=>u.slot b o e n hb (by simp)) (fun b o _ e n=>u.free b o e n (by simp)) (fun b o _ e=>u.there b o e (by simp)) u.tups u.frzs u.tbls (fun m' hm=>by
    obtain ⟨o',es',ep',ho',r'⟩:=hm
    rw [ho] at ho'; cases ho'
    exact ⟨_,es',ep',hL,r'⟩) hok I.bare
theorem Inv.call {g':Array GenState} {t':Nat} {d':Drawn} {ch:List Addr} (I:Inv X pins σ H s) (u:Un (frs X.stack) ch H H' s.heap h') (hok:HOk X.prog X.w H' h') (hg:AllBare g')
    (hch:∀ b ∈ ch,(b ∈ X.ex ∨ X.s₀.heap.objs.size ≤ b) ∧ b ≠ X.env.locals ∧ (∀ x c,X.env.cells.lookup x = some c → c ≠ b) ∧ ∀ p ∈ X.pn ++ pins,p.1 ≠ b) :
    Inv X pins σ H' { s with heap:=h',gens:=g',drawn:=d',toks:=t' }:=by
  obtain ⟨m,⟨o,es,ep,ho,r⟩,_⟩:=id I.loc
  obtain ⟨sl,hL⟩:=u.any ho I.free fun z=>(hch _ z).2.1 rfl
  exact I.step (ch:=ch) hch (fun b o hL hb hc e n=>u.keep b o e n (fun z=>(List.mem_cons.mp (I.stkSub b z)).elim hL hb) hc) (fun b o _ _ hc e n=>u.any e n hc) (fun b o hc e n=>u.free b o e n hc) (fun b o hc e=>u.there b o e hc) u.tups u.frzs u.tbls (fun m' hm=>by
    obtain ⟨o',es',ep',ho',r'⟩:=hm
    rw [ho] at ho'; cases ho'
    exact ⟨_,es',ep',hL,r'⟩) hok hg
theorem Inv.turned {t':Nat} {it:Addr} (I:Inv X pins σ H s) (k:∀ b o,b ≠ it → s.heap.get? b = some o → h'.get? b = some o) (hn:H it = none) (hL:it ≠ X.env.locals)
    (h1:it ∈ X.ex ∨ X.s₀.heap.objs.size ≤ it) (h2:∀ x c,X.env.cells.lookup x = some c → c ≠ it) (h3:∀ p ∈ X.pn ++ pins,p.1 ≠ it):Inv X pins σ H { s with heap:=h',toks:=t' }:=by
  have nit:∀ b u,H b = some u → b ≠ it:=fun b u e z=>by rw [z,hn] at e; cases e
  refine I.step (g':=s.gens) (d':=s.drawn) (ch:=[it]) (fun b hb=>?_) (fun b o _ _ hc e _=>k b o (fun z=>hc (by simp [z])) e) (fun b o _ _ hc e _=>⟨o.slots,k b o (fun z=>hc (by simp [z])) e⟩) (fun _ _ _ _ n=>n)
    (fun b o hc e=>⟨o,k b o (fun z=>hc (by simp [z])) e⟩) (fun _ _ e=>e) (fun _ _ _ e=>e) (fun b ps e=>⟨#[],by rw [e]; simp⟩) (fun m hm=>?_) (fun b u e=>?_) I.bare
  · have e:b = it:=by simpa using hb
    subst e
    exact ⟨h1,hL,h2,h3⟩
  · obtain ⟨o,es,ep,ho,r⟩:=hm
    exact ⟨o,es,ep,k _ o (Ne.symm hL) ho,r⟩
  · refine (I.hok b u e).stay (fun c v hc q=>k c v ?_ q) (fun _ q=>q) fun _ _ q=>q
    rcases hc with z | z
    · rw [z]; exact nit b u e
    · exact nit c _ z
theorem Inv.tok (I:Inv X pins σ H s) (t:Nat):Inv X pins σ H { s with toks:=t }:=I.un (h':=s.heap) (t':=t) Un.refl I.hok
theorem Inv.kept {t':Nat} (I:Inv X pins σ H s) (k:∀ b u,s.heap.get? b = some u → h'.get? b = some u):Inv X pins σ H { s with heap:=h',toks:=t' }:=I.un (Un.kept k) (I.hok.kept k)
theorem Inv.laid {a:Addr} {o:HO} {t':Nat} (I:Inv X pins σ H s) (k:∀ b u,s.heap.get? b = some u → h'.get? b = some u) (hp:s.heap.objs.size ≤ a) (new:ObjOk X.prog X.w (upd H a o) h' a o) :
    Inv X pins σ (upd H a o) { s with heap:=h',toks:=t' }:=I.un (Un.laid k hp (I.hok.fresh hp)) (I.hok.laid k hp new)
theorem Inv.write {x e:Addr} {o:HO} {t':Nat} (I:Inv X pins σ H s) (mu:Mut (H x)) (he:e = x ∨ H e = some (.own x)) (k:∀ b u,b ≠ e → s.heap.get? b = some u → h'.get? b = some u) (heo:∃ u,h'.get? e = some u)
    (new:ObjOk X.prog X.w (upd H x o) h' x o):Inv X pins σ (upd H x o) { s with heap:=h',toks:=t' }:=I.un (Un.write mu he k heo) (I.hok.write mu he k heo new)
theorem Inv.weak {σ':List (Option V)} (I:Inv X pins σ H s) (hl:σ'.length = σ.length) (w:∀ (i:Nat) v,σ'[i]? = some (some v) → σ[i]? = some (some v)):Inv X pins σ' H s:=
  ⟨I.ok,I.os,I.bare,I.base,let ⟨m,hn,hl'⟩:=I.loc; ⟨m,hn,fun i x v e1 e2 e3=>hl' i x v e1 (w i v e2) e3⟩,I.cell,I.free,I.freeC,I.pin,I.hok,hl.trans I.len⟩
theorem Inv.pins_of {pins':List (Addr × Obj)} (I:Inv X pins σ H s) (h:∀ p ∈ pins',s.heap.get? p.1 = some p.2 ∧ H p.1 = none ∧ p.1 ≠ X.env.locals ∧ p.1 ∉ X.fs ∧ ∀ v,p.2.data ≠ .cell v):Inv X pins' σ H s:=
  ⟨I.ok,I.os,I.bare,I.base,I.loc,I.cell,I.free,I.freeC,fun p hp=>(List.mem_append.mp hp).elim (fun z=>I.pin p (List.mem_append_left _ z)) (h p),I.hok,I.len⟩
theorem jid {N:List Str} (hN:N.Nodup) {i j:Nat} {x:Str} (a:N[i]? = some x) (b:N[j]? = some x):i = j:=by
  obtain ⟨h1,e1⟩:=List.getElem?_eq_some_iff.mp a
  obtain ⟨h2,e2⟩:=List.getElem?_eq_some_iff.mp b
  exact (List.getElem_inj hN).mp (e1.trans e2.symm)
theorem jmm {M:Model} {A:Around} {E:Value → Shared → Prop} {i:Nat} {x:Str} {v:V} {u:Value} {Q:Unit → Shared → Prop} (I:Inv X pins σ H s) (hN:X.N.Nodup) (hi:X.N[i]? = some x) (hx:Loc X.env.scope x) (r:RelV v u)
    (h:∀ s',Inv X pins (σ.set i (some v)) H s' → (∃ a,Heap.SameBut a s.heap s'.heap ∧ (a = X.env.locals ∨ X.env.cells.lookup x = some a)) → Q () s') (hf:X.fn x = true ∨ X.env.scope.names.lookup x = some .local:=by first | exact .inl rfl | exact .inr rfl | assumption):wpAny M A (storeName X.env x u) Q E s:=by
  obtain ⟨m,hn,hl⟩:=id I.loc
  have hcls:(X.env.scope.kind == .class || (X.env.scope.kind == .module && X.env.locals != X.env.globals)) = false:=by rw [I.ok.kind]; rfl
  have hiσ:i < σ.length:=by rw [I.len]; exact (List.getElem?_eq_some_iff.mp hi).1
  have cne:=I.cne
  have tracked:∀ {a:Addr} {h':Heap},(∃ o,s.heap.get? a = some o ∧ H a = none) → Heap.SameBut a s.heap h' → HOk X.prog X.w H h':=fun {a h'} ha hs b ob e=>by
    obtain ⟨_,_,hfree⟩:=ha
    refine (I.hok b ob e).stay (fun c w' hc q=>(hs.2 c ?_).trans q) (fun _ q=>q) fun _ _ q=>q
    rintro rfl
    rcases hc with rfl | hc
    · rw [hfree] at e; cases e
    · rw [hfree] at hc; cases hc
  rcases hx with hk | hk
  · refine wpAny_storeName_local hk hn (fun h' hn' hs=>?_) hcls
    obtain ⟨oL,_,_,hoL,_⟩:=id hn
    refine h _ ⟨I.ok,I.os,I.bare,⟨fun b o e n hb hx=>?_,fun b o e n hb hx=>?_,I.base.free,fun b o e hx=>?_,I.base.tups,I.base.frzs,I.base.tbls⟩,⟨_,hn',fun j y v' e1 e2 e3=>?_⟩,fun y c e=>?_,I.free,I.freeC,fun p hp=>?_,tracked ⟨oL,hoL,I.free⟩ hs,by simpa using I.len⟩ ⟨_,hs,.inl rfl⟩
    · exact (hs.2 b (Nat.ne_of_lt (Nat.lt_of_lt_of_le (Heap.lt_size e) I.ok.above))).trans (I.base.keep b o e n hb hx)
    · obtain ⟨sl,e1⟩:=I.base.slot b o e n hb hx
      exact ⟨sl,(hs.2 b (Nat.ne_of_lt (Nat.lt_of_lt_of_le (Heap.lt_size e) I.ok.above))).trans e1⟩
    · obtain ⟨o',e1⟩:=I.base.there b o e hx
      exact ⟨o',(hs.2 b (Nat.ne_of_lt (Nat.lt_of_lt_of_le (Heap.lt_size e) I.ok.above))).trans e1⟩
    · by_cases hj:j = i
      · subst hj
        rw [hi] at e1; cases e1
        rw [List.getElem?_set_self hiσ] at e2
        cases e2
        exact ⟨u,r,.inl ⟨hk,by simp⟩⟩
      · rw [List.getElem?_set_ne (Ne.symm hj)] at e2
        obtain ⟨u',r',q⟩:=hl j y v' e1 e2 e3
        refine ⟨u',r',?_⟩
        rcases q with ⟨k,e⟩ | ⟨k,c,e,z⟩
        · refine .inl ⟨k,?_⟩
          have:y ≠ x:=fun e=>hj (jid hN e1 (e ▸ hi))
          simp [this,e]
        · exact .inr ⟨k,c,e,z.sameBut hs (cne y c e)⟩
    · obtain ⟨w',z⟩:=I.cell y c e
      exact ⟨w',z.sameBut hs (cne y c e)⟩
    · obtain ⟨e,n,ne,nf,d⟩:=I.pin p hp
      exact ⟨(hs.2 p.1 ne).trans e,n,ne,nf,d⟩
  · have hfn:X.fn x = true:=by
      rcases hf with z | z
      · exact z
      · rw [z] at hk; cases hk
    obtain ⟨c,hc⟩:=I.ok.has x (.inl hk)
    obtain ⟨w',z⟩:=I.cell x c hc
    refine wpAny_storeName_cell I.ok.kind hk hc z (fun h' hc' hs=>?_)
    obtain ⟨oc,hoc,hocd⟩:=id z
    refine h { s with heap:=h' } ⟨I.ok,I.os,I.bare,⟨fun b o e n hb hx=>?_,fun b o e n hb hx=>?_,I.base.free,fun b o e hx=>?_,I.base.tups,I.base.frzs,I.base.tbls⟩,⟨m,hn.sameBut hs (Ne.symm (cne x c hc)),fun j y v' e1 e2 e3=>?_⟩,fun y c' e=>?_,I.free,I.freeC,fun p hp=>?_,tracked ⟨oc,hoc,I.freeC x c hc⟩ hs,by simpa using I.len⟩ ⟨c,hs,.inr hc⟩
    · exact (hs.2 b (Nat.ne_of_lt (Nat.lt_of_lt_of_le (Heap.lt_size e) (I.ok.cab x c hfn hc)))).trans (I.base.keep b o e n hb hx)
    · obtain ⟨sl,e1⟩:=I.base.slot b o e n hb hx
      exact ⟨sl,(hs.2 b (Nat.ne_of_lt (Nat.lt_of_lt_of_le (Heap.lt_size e) (I.ok.cab x c hfn hc)))).trans e1⟩
    · obtain ⟨o',e1⟩:=I.base.there b o e hx
      exact ⟨o',(hs.2 b (Nat.ne_of_lt (Nat.lt_of_lt_of_le (Heap.lt_size e) (I.ok.cab x c hfn hc)))).trans e1⟩
    · by_cases hj:j = i
      · subst hj
        rw [hi] at e1; cases e1
        rw [List.getElem?_set_self hiσ] at e2
        cases e2
        exact ⟨u,r,.inr ⟨.inl hk,c,hc,hc'⟩⟩
      · rw [List.getElem?_set_ne (Ne.symm hj)] at e2
        obtain ⟨u',r',q⟩:=hl j y v' e1 e2 e3
        refine ⟨u',r',?_⟩
        rcases q with q | ⟨k,c',e,z'⟩
        · exact .inl q
        · refine .inr ⟨k,c',e,z'.sameBut hs ?_⟩
          rintro rfl
          exact hj (jid hN e1 (I.ok.inj _ _ _ e hc ▸ hi))
    · by_cases hcc:c' = c
      · subst hcc; exact ⟨_,hc'⟩
      · obtain ⟨w2,z2⟩:=I.cell y c' e
        exact ⟨w2,z2.sameBut hs hcc⟩
    · obtain ⟨e,n,ne,nf,d⟩:=I.pin p hp
      refine ⟨(hs.2 p.1 ?_).trans e,n,ne,nf,d⟩
      intro q
      rw [q,hoc] at e
      have q':oc = p.2:=Option.some.inj e
      exact d w' (by rw [← q']; exact hocd)
theorem jf8 {M:Model} {A:Around} {E:Value → Shared → Prop} {i:Nat} {x:Str} {v:V} {u:Value} {Q:Unit → Shared → Prop} (I:Inv X pins σ H s) (hN:X.N.Nodup) (hi:X.N[i]? = some x) (hx:Loc X.env.scope x) (r:RelV v u)
    (h:∀ s',Inv X pins (σ.set i (some v)) H s' → Q () s') (hf:X.fn x = true ∨ X.env.scope.names.lookup x = some .local:=by first | exact .inl rfl | exact .inr rfl | assumption):wpAny M A (storeName X.env x u) Q E s:=
  jmm I hN hi hx r (fun s' I' _=>h s' I') hf
theorem Inv.call' {s':Shared} {ch:List Addr} (I:Inv X pins σ H s) (ho:s'.os = s.os) (u:Un (frs X.stack) ch H H' s.heap s'.heap) (hok:HOk X.prog X.w H' s'.heap) (hg:AllBare s'.gens)
    (hch:∀ b ∈ ch,(b ∈ X.ex ∨ X.s₀.heap.objs.size ≤ b) ∧ b ≠ X.env.locals ∧ (∀ x c,X.env.cells.lookup x = some c → c ≠ b) ∧ ∀ p ∈ X.pn ++ pins,p.1 ≠ b):Inv X pins σ H' s':=by
  obtain ⟨h',g',d',t',o'⟩:=s'
  have e:o' = s.os:=ho
  subst e
  exact I.call (g':=g') (t':=t') (d':=d') u hok hg hch
end
abbrev XK:=Value → Option Addr → Hp → Prop
abbrev St:=List (Option V)
abbrev VK:=V → Hp → Prop
abbrev TE:=St → Hp → VK → Prop
abbrev TT:=St → Hp → (Bool → Hp → Prop) → Prop
abbrev TA:=St → Hp → (List V → Hp → Prop) → Prop
structure Ends where
  nx:St → Hp → Prop
  rt:VK
  bk:St → Hp → Prop:=fun _ _=>False
  ct:St → Hp → Prop:=fun _ _=>False
abbrev TS:=Ends → St → Hp → Prop
def EP (X:Cx) (pins:List (Addr × Obj)) (σ:St) (Q:VK) (u:Value) (s':Shared):Prop:=∃ v H',Inv X pins σ H' s' ∧ RelV v u ∧ Q v H'
def TP (X:Cx) (pins:List (Addr × Obj)) (σ:St) (Q:Bool → Hp → Prop) (b:Bool) (s':Shared):Prop:=∃ H',Inv X pins σ H' s' ∧ Q b H'
def AP (X:Cx) (pins:List (Addr × Obj)) (σ:St) (Q:List V → Hp → Prop) (us:List Value) (s':Shared):Prop:=∃ vs H',Inv X pins σ H' s' ∧ Vals vs us ∧ Q vs H'
def SP (X:Cx) (pins:List (Addr × Obj)) (D:Ends) (f:Flow) (s':Shared):Prop:=
  match f with
  | .next=>∃ σ' H',Inv X pins σ' H' s' ∧ D.nx σ' H'
  | .brk=>∃ σ' H',Inv X pins σ' H' s' ∧ D.bk σ' H'
  | .cont=>∃ σ' H',Inv X pins σ' H' s' ∧ D.ct σ' H'
  | .ret u=>∃ v σ' H',Inv X pins σ' H' s' ∧ RelV v u ∧ D.rt v H'
def PE (X:Cx) (e:Expr) (t:TE):Prop:=
  ∀ (pins:List (Addr × Obj)) (s:Shared) (σ:St) (H:Hp) (Q:VK),Inv X pins σ H s → t σ H Q → wpAny (model X.prog X.w) X.A (eval e X.env) (EP X pins σ Q) X.xe s
def PT (X:Cx) (e:Expr) (t:TT):Prop:=
  ∀ (pins:List (Addr × Obj)) (s:Shared) (σ:St) (H:Hp) (Q:Bool → Hp → Prop),Inv X pins σ H s → t σ H Q → wpAny (model X.prog X.w) X.A (isTrue e X.env (eval e X.env)) (TP X pins σ Q) X.xe s
def PW (X:Cx) (e:Expr) (t:TT):Prop:=
  ∀ (whole:Sem Value) (pins:List (Addr × Obj)) (s:Shared) (σ:St) (H:Hp) (Q:Bool → Hp → Prop),Inv X pins σ H s → t σ H Q → wpAny (model X.prog X.w) X.A (isTrue e X.env whole) (TP X pins σ Q) X.xe s
theorem PW.pt {X:Cx} {e:Expr} {t:TT} (h:PW X e t):PT X e t:=h _
def PA (X:Cx) (es:List Expr) (t:TA):Prop:=
  ∀ (pos:Pos) (pins:List (Addr × Obj)) (s:Shared) (σ:St) (H:Hp) (Q:List V → Hp → Prop),Inv X pins σ H s → t σ H Q → wpAny (model X.prog X.w) X.A (spliced (backTo pos (starEach es X.env))) (AP X pins σ Q) X.xe s
def PS (X:Cx) (st:Stmt) (t:TS):Prop:=
  ∀ (pins:List (Addr × Obj)) (s:Shared) (σ:St) (H:Hp) (D:Ends),Inv X pins σ H s → t D σ H → wpAny (model X.prog X.w) X.A (exec st X.env) (SP X pins D) X.xe s
def PSs (X:Cx) (st:List Stmt) (t:TS):Prop:=
  ∀ (pins:List (Addr × Obj)) (s:Shared) (σ:St) (H:Hp) (D:Ends),Inv X pins σ H s → t D σ H → wpAny (model X.prog X.w) X.A (execs st X.env) (SP X pins D) X.xe s
theorem thn {α:Type} {t:Sem α} {Q Q':α → Shared → Prop} {M:Model} {A:Around} {E:Value → Shared → Prop} {s:Shared} (h:wpAny M A t Q E s) (hQ:∀ a s,Q a s → Q' a s):wpAny M A t Q' E s:=wpAny_mono h hQ fun _ _ x=>x
end L2
namespace L2
open PySem PySem.Spec PyProof.Rows
section
variable {X:Cx}
def jwO (i:Nat):TE:=fun σ H Q=>∃ v,σ[i]? = some (some v) ∧ Q v H
def tC (v:V):TE:=fun _ H Q=>Q v H
theorem jmz {i:Nat} {x:Str} {pos:Pos} (hN:X.N[i]? = some x) (hv:Vis X.env.scope x) (hd:(x == ("__debug__":Str)) = false:=by decide) (hcd:(x == ("__classdict__":Str)) = false:=by decide):PE X (.Name x pos) (jwO i):=by
  intro pins s σ H Q I h
  obtain ⟨v,e,h⟩:=h
  obtain ⟨m,hn,hl⟩:=I.loc
  obtain ⟨u,r,l⟩:=hl i x v hN e hv
  have fin:EP X pins σ Q u s:=⟨v,H,I,r,h⟩
  rcases l with ⟨hk,hm⟩ | ⟨hk,c,hc,hcell⟩
  · exact wpAny_Name (wpAny_loadName_local I.ok.kind hk hn hm fin) hd
  · rcases hk with hk | hk
    · exact wpAny_Name (wpAny_loadName_cell I.ok.kind hk hc hcell fin) hd
    · exact wpAny_Name (wpAny_loadName_free I.ok.kind hk hc hcell fin hcd) hd
theorem js3 {i j pos}:PE X (.Constant (.int i) j pos) (tC (.int i)):=fun _ _ _ H _ I h=>wpAny_Constant_int ⟨.int i,H,I.tok _,⟨_,rfl⟩,h⟩
theorem jvb {b j pos}:PE X (.Constant (.bool b) j pos) (tC (.bl b)):=fun _ _ _ H _ I h=>Constant_bool ⟨.bl b,H,I,rfl,h⟩
theorem js2 {j pos}:PE X (.Constant .none j pos) (tC .non):=fun _ _ _ H _ I h=>Constant_none ⟨.non,H,I,rfl,h⟩
theorem jsZ {x j pos}:PE X (.Constant (.str x) j pos) (tC (.str x)):=fun _ _ _ H _ I h=>Calls.Constant_str ⟨.str x,H,I.tok _,⟨_,rfl⟩,h⟩
def Gl (X:Cx) (x:Str):Prop:=X.env.kindOf x = some .globalImplicit
theorem jfz {E:Value → Shared → Prop} {pins:List (Addr × Obj)} {s:Shared} {σ:St} {H:Hp} {x:Str} {u:Value} {pos:Pos} {Q:Value → Shared → Prop} (I:Inv X pins σ H s) (hg:Gl X x) (hm:X.mg x = some u) (h:Q u s)
    (hd:(x == ("__debug__":Str)) = false:=by decide):wpAny (model X.prog X.w) X.A (eval (.Name x pos) X.env) Q E s:=
  Calls.Name_function_global I.ok.kind hg (Calls.loadGlobal_global (by rw [I.ok.glob]; exact I.mod.glob.keeps I.bk) hm h) hd
theorem jje {E:Value → Shared → Prop} {pins:List (Addr × Obj)} {s:Shared} {σ:St} {H:Hp} {x:Str} {u:Value} {pos:Pos} {Q:Value → Shared → Prop} (I:Inv X pins σ H s) (hg:Gl X x) (hm:X.mg x = none) (hv:bootBuiltins x = some u) (h:Q u s)
    (hn:x ≠ "__name__":=by decide) (hd:(x == ("__debug__":Str)) = false:=by decide):wpAny (model X.prog X.w) X.A (eval (.Name x pos) X.env) Q E s:=by
  obtain ⟨mb,h1,h2⟩:=I.mod.blt
  exact Calls.Name_function_global I.ok.kind hg (Calls.loadGlobal_builtin (by rw [I.ok.glob]; exact I.mod.glob.keeps I.bk) hm (by rw [I.ok.blt]; exact h1.keeps I.bk) ((h2 x hn).trans hv) h) hd
theorem jmA {x:Str} {v:V} {u:Value} {pos:Pos} (hg:Gl X x) (hm:X.mg x = some u) (r:RelV v u) (hd:(x == ("__debug__":Str)) = false:=by decide):PE X (.Name x pos) (tC v):=
  fun _ _ _ H _ I h=>jfz I hg hm ⟨v,H,I,r,h⟩ hd
theorem jmC {x:Str} {v:V} {u:Value} {pos:Pos} (hg:Gl X x) (hm:X.mg x = none) (hv:bootBuiltins x = some u) (r:RelV v u) (hn:x ≠ "__name__":=by decide) (hd:(x == ("__debug__":Str)) = false:=by decide):PE X (.Name x pos) (tC v):=
  fun _ _ _ H _ I h=>jje I hg hm hv ⟨v,H,I,r,h⟩ hn hd
variable {a b:Expr} {ta tb:TE} {pos:Pos}
def tB (t:TE):TT:=fun σ H Q=>t σ H fun x H1=>∃ c,x = .bl c ∧ Q c H1
theorem jsP {e:Expr} {t:TE} (h:PE X e t) (he:∀ whole,isTrue e X.env whole = (do let v ← whole; standAt e.pos; holding [v] (truthy v)):=by intro _; rfl):PT X e (tB t):=by
  intro pins s σ H Q I hw
  refine isTrue_plain (thn (h pins s σ H _ I hw) fun v s1 ⟨x,H1,I1,r1,q1⟩=>?_) (he _)
  obtain ⟨d,rfl,q⟩:=q1
  cases r1
  exact wpAny_truthy_bool ⟨H1,I1,q⟩
variable {tA tB':TT} {rest:List Expr}
def tOr (t u:TT):TT:=fun σ H Q=>t σ H fun c H1=>if c = true then Q true H1 else u σ H1 Q
def jwS (t:TT):TT:=fun σ H Q=>t σ H fun c H1=>Q (!c) H1
theorem jsO (ha:PT X a tA):PW X (.BoolOp .Or [a] pos) tA:=by
  intro wh pins s σ H Q I h
  refine isTrue_or (thn (ha pins s σ H Q I h) fun c s1 e=>?_)
  cases c with
  | false=>exact isTrue_or_nil e
  | true=>exact e
theorem ju5 (ha:PT X a tA) (hb:PW X (.BoolOp .Or (b :: rest) pos) tB'):PW X (.BoolOp .Or (a :: b :: rest) pos) (tOr tA tB'):=by
  intro wh pins s σ H Q I h
  refine isTrue_or (thn (ha pins s σ H _ I h) fun c s1 ⟨H1,I1,q1⟩=>?_)
  cases c with
  | true=>exact ⟨H1,I1,q1⟩
  | false=>exact hb wh pins s1 σ H1 Q I1 q1
theorem jsQ (ha:PT X a tA):PT X (.UnaryOp .Not a pos) (jwS tA):=by
  intro pins s σ H Q I h
  exact isTrue_not (ha pins s σ H (fun c H1=>Q (!c) H1) I h)
def juQ (ta tb:TE):TE:=fun σ H Q=>ta σ H fun x H1=>∃ c,x = .bl c ∧ if c = true then tb σ H1 Q else Q (.bl false) H1
def juL (ta:TE):TE:=fun σ H Q=>ta σ H fun x H1=>∃ c,x = .bl c ∧ Q (.bl (!c)) H1
theorem js0 {op} {t:TE} (h:PE X a t):PE X (.BoolOp op [a] pos) t:=fun pins s σ H Q I hw=>BoolOp_one (h pins s σ H Q I hw)
theorem js5 (ha:PE X a ta) (hb:PE X (.BoolOp .And (b :: rest) pos) tb):PE X (.BoolOp .And (a :: b :: rest) pos) (juQ ta tb):=by
  intro pins s σ H Q I h
  refine BoolOp_and (thn (ha pins s σ H _ I h) fun v s1 ⟨x,H1,I1,r1,q1⟩=>?_)
  obtain ⟨c,rfl,q1⟩:=q1
  cases r1
  refine wpAny_truthy_bool ?_
  cases c with
  | true=>exact hb pins s1 σ H1 Q I1 q1
  | false=>exact ⟨.bl false,H1,I1,rfl,q1⟩
theorem js1 (ha:PE X a ta):PE X (.UnaryOp .Not a pos) (juL ta):=by
  intro pins s σ H Q I h
  refine UnaryOp_ (thn (ha pins s σ H _ I h) fun v s1 ⟨x,H1,I1,r1,q1⟩=>?_)
  obtain ⟨c,rfl,q1⟩:=q1
  cases r1
  exact not_of (wpAny_truthy_bool ⟨.bl (!c),H1,I1,rfl,q1⟩)
def tIf (t:TT) (ta tb:TE):TE:=fun σ H Q=>t σ H fun c H1=>if c = true then ta σ H1 Q else tb σ H1 Q
theorem joB {c:Expr} (hc:PT X c tA) (ha:PE X a ta) (hb:PE X b tb):PE X (.IfExp c a b pos) (tIf tA ta tb):=by
  intro pins s σ H Q I h
  refine wpAny_IfExp (thn (hc pins s σ H _ I h) fun d s1 ⟨H1,I1,q1⟩=>?_)
  cases d with
  | true=>exact ha pins s1 σ H1 Q I1 q1
  | false=>exact hb pins s1 σ H1 Q I1 q1
end
end L2
namespace L2
open PySem PySem.Spec PyProof.Rows
def SqL (K:PySem.W.Frag) (H:Hp) (a:Addr) (xs:List V):Prop:=
  Rd H a (.lst xs) ∨
    ∃ (o:Obj) (its:Array Value) (n:Nat),K.lookup a = some o ∧ o.cls = .type "list" ∧ o.dict = none ∧ o.data = .seq its n ∧ its.size ≤ sizeLine ∧ Vals xs its.toList
def SqT (K:PySem.W.Frag) (H:Hp) (a:Addr) (xs:List V):Prop:=
  Rd H a (.tup xs) ∨
    ∃ (o:Obj) (its:Array Value) (n:Nat),K.lookup a = some o ∧ o.cls = .type "tuple" ∧ o.data = .seq its n ∧ its.size ≤ sizeLine ∧ Vals xs its.toList
def jxX:Value → Option V
  | .none=>some .non
  | .bool b=>some (.bl b)
  | .int i _=>some (.int i)
  | .str x _=>some (.str x)
  | .bytes b _=>some (.byt b)
  | .float b _=>some (.flt b)
  | .ref a=>some (.ref a)
  | .type n=>some (.ty n)
  | _=>none
theorem RelV.abs {x:V} {u:Value} (r:RelV x u):jxX u = some x:=by
  cases x with
  | non=>cases r; rfl
  | bl _=>cases r; rfl
  | int _=>obtain ⟨t,rfl⟩:=r; rfl
  | str _=>obtain ⟨t,rfl⟩:=r; rfl
  | byt _=>obtain ⟨t,rfl⟩:=r; rfl
  | flt _=>obtain ⟨t,rfl⟩:=r; rfl
  | ref _=>cases r; rfl
  | ty _=>cases r; rfl
theorem RelV.inj {x y:V} {u:Value} (r:RelV x u) (q:RelV y u):x = y:=Option.some.inj (r.abs.symm.trans q.abs)
theorem Vals.inj:∀ {xs ys:List V} {us:List Value},Vals xs us → Vals ys us → xs = ys
  | _,_,_,.nil,.nil=>rfl
  | _,_,_,.cons r t,.cons r' t'=>by rw [r.inj r',Vals.inj t t']
section
variable {X:Cx} {pins:List (Addr × Obj)} {σ:St} {H:Hp} {s:Shared} {a:Addr} {xs ys:List V}
theorem SqL.of {K:PySem.W.Frag} (h:H a = some (.lst xs)):SqL K H a xs:=.inl (.inl h)
theorem SqT.of {K:PySem.W.Frag} (h:H a = some (.tup xs)):SqT K H a xs:=.inl (.inl h)
theorem Inv.list (I:Inv X pins σ H s) (h:SqL X.K H a xs):∃ its:List Value,Vals xs its ∧ PlainL s.heap a its.toArray ∧ xs.length ≤ sizeLine:=by
  rcases h with h | ⟨o,its,n,hk,hc,hd,hs,hz,r⟩
  · obtain ⟨z,its,n,r,e⟩:=h.ok I.hok
    exact ⟨its,r,⟨_,n,e,rfl,rfl,rfl⟩,z⟩
  · refine ⟨its.toList,r,⟨o,n,I.kIn a o hk,hc,hd,by simpa using hs⟩,?_⟩
    have e:=r.length
    simp only [Array.length_toList] at e
    omega
theorem Inv.tuple (I:Inv X pins σ H s) (h:SqT X.K H a xs):∃ its:List Value,Vals xs its ∧ IsTup s.heap a its.toArray ∧ xs.length ≤ sizeLine:=by
  rcases h with h | ⟨o,its,n,hk,hc,hs,hz,r⟩
  · obtain ⟨z,its,r,p⟩:=h.ok I.hok
    exact ⟨its,r,p,z⟩
  · refine ⟨its.toList,r,⟨o,I.kIn a o hk,hc,n,by simpa using hs⟩,?_⟩
    have e:=r.length
    simp only [Array.length_toList] at e
    omega
theorem Inv.list_inj (I:Inv X pins σ H s) (h:SqL X.K H a xs) (h':SqL X.K H a ys):xs = ys:=by
  obtain ⟨its,r,⟨o,n,e,_,_,d⟩,_⟩:=I.list h
  obtain ⟨its',r',⟨o',n',e',_,_,d'⟩,_⟩:=I.list h'
  rw [e] at e'; cases e'
  rw [d] at d'
  injection d' with d1 _
  have:its = its':=by simpa using congrArg Array.toList d1
  subst this
  exact r.inj r'
theorem Inv.tuple_inj (I:Inv X pins σ H s) (h:SqT X.K H a xs) (h':SqT X.K H a ys):xs = ys:=by
  obtain ⟨its,r,⟨o,e,_,n,d⟩,_⟩:=I.tuple h
  obtain ⟨its',r',⟨o',e',_,n',d'⟩,_⟩:=I.tuple h'
  rw [e] at e'; cases e'
  rw [d] at d'
  injection d' with d1 _
  have:its = its':=by simpa using congrArg Array.toList d1
  subst this
  exact r.inj r'
end
abbrev Cx.wish (X:Cx) (E:Value → Shared → Prop):Cx:={ X with xe:=E }
abbrev Cx.nox (X:Cx):Cx:=X.wish fun _ _=>False
theorem Cx.Ok.wish {X:Cx} (ok:X.Ok) (E:Value → Shared → Prop):(X.wish E).Ok:=
  ⟨ok.mod,ok.kind,ok.glob,ok.blt,ok.above,ok.inj,ok.has,ok.cab,ok.hd,ok.frames,ok.stk,ok.exf,ok.bs,ok.bsz,ok.noex,ok.exfs,ok.funs,ok.frf⟩
theorem Cx.Ok.unwish {X:Cx} {E:Value → Shared → Prop} (ok:(X.wish E).Ok):X.Ok:=
  ⟨ok.mod,ok.kind,ok.glob,ok.blt,ok.above,ok.inj,ok.has,ok.cab,ok.hd,ok.frames,ok.stk,ok.exf,ok.bs,ok.bsz,ok.noex,ok.exfs,ok.funs,ok.frf⟩
section
variable {X:Cx} {pins:List (Addr × Obj)} {σ:St} {H:Hp} {s:Shared} {E:Value → Shared → Prop}
theorem Inv.wish (I:Inv X pins σ H s) (E:Value → Shared → Prop):Inv (X.wish E) pins σ H s:=⟨I.ok.wish E,I.os,I.bare,I.base,I.loc,I.cell,I.free,I.freeC,I.pin,I.hok,I.len⟩
theorem Inv.unwish (I:Inv (X.wish E) pins σ H s):Inv X pins σ H s:=⟨I.ok.unwish,I.os,I.bare,I.base,I.loc,I.cell,I.free,I.freeC,I.pin,I.hok,I.len⟩
theorem SP.unwish {D:Ends} {f:Flow} {s':Shared} (h:SP (X.wish E) pins D f s'):SP X pins D f s':=by
  cases f with
  | next=>obtain ⟨σ',H',I,q⟩:=h; exact ⟨σ',H',I.unwish,q⟩
  | brk=>obtain ⟨σ',H',I,q⟩:=h; exact ⟨σ',H',I.unwish,q⟩
  | cont=>obtain ⟨σ',H',I,q⟩:=h; exact ⟨σ',H',I.unwish,q⟩
  | ret u=>obtain ⟨v,σ',H',I,r,q⟩:=h; exact ⟨v,σ',H',I.unwish,r,q⟩
theorem PE.nox {e:Expr} {t:TE} (h:PE X.nox e t):PE X e t:=fun pins s σ H Q I hw=>
  wpAny_mono (h pins s σ H Q (I.wish _) hw) (fun _ _ ⟨v,H',I',r,q⟩=>⟨v,H',I'.unwish,r,q⟩) fun _ _ z=>False.elim z
theorem PT.nox {e:Expr} {t:TT} (h:PT X.nox e t):PT X e t:=fun pins s σ H Q I hw=>
  wpAny_mono (h pins s σ H Q (I.wish _) hw) (fun _ _ ⟨H',I',q⟩=>⟨H',I'.unwish,q⟩) fun _ _ z=>False.elim z
theorem PSs.nox {st:List Stmt} {t:TS} (h:PSs X.nox st t):PSs X st t:=fun pins s σ H D I hw=>
  wpAny_mono (h pins s σ H D (I.wish _) hw) (fun _ _ q=>q.unwish) fun _ _ z=>False.elim z
end
section
variable {X:Cx} {st:Stmt} {rest:List Stmt} {t u:TS} {e:Expr} {te:TE} {pos:Pos}
def juM:TS:=fun D σ H=>D.nx σ H
def jwQ (t u:TS):TS:=fun D σ H=>t { D with nx:=u D } σ H
theorem jqT:PSs X [] juM:=fun _ _ σ H _ I h=>wpAny_execs_nil ⟨σ,H,I,h⟩
theorem jh3 (h1:PS X st t) (h2:PSs X rest u):PSs X (st :: rest) (jwQ t u):=by
  intro pins s σ H D I h
  refine wpAny_execs_cons (thn (h1 pins s σ H { D with nx:=u D } I h) fun f s1 q=>?_)
  cases f with
  | next=>
    obtain ⟨σ',H',I',q⟩:=q
    exact h2 pins s1 σ' H' D I' q
  | ret v=>exact q
  | brk=>exact q
  | cont=>exact q
theorem jmv (h1:PS X st t):PSs X [st] t:=by
  intro pins s σ H D I h
  refine wpAny_execs_cons (thn (h1 pins s σ H D I h) fun f s1 q=>?_)
  cases f with
  | next=>exact wpAny_execs_nil q
  | ret v=>exact q
  | brk=>exact q
  | cont=>exact q
theorem Inv.quiet {pins:List (Addr × Obj)} {σ:St} {H:Hp} {s:Shared} (I:Inv X pins σ H s):interactive X.env = false:=by simp [interactive,I.ok.kind]
def juN (te:TE):TS:=fun D σ H=>te σ H fun _ H1=>D.nx σ H1
theorem jjW (he:PE X e te) (hs:swapsWith e none pos.line X.env = pure false:=by rfl):PS X (.Expr e pos) (juN te):=by
  intro pins s σ H D I h
  exact wpAny_Expr_any (thn (he pins s σ H _ I h) fun v s1 ⟨x,H1,I1,r1,q1⟩=>⟨σ,H1,I1,q1⟩) I.quiet hs
def jwR (te:TE):TS:=fun D σ H=>te σ H D.rt
theorem jsR (he:PE X e te):PS X (.Return (some e) pos) (jwR te):=by
  intro pins s σ H D I h
  exact wpAny_Return_some (thn (he pins s σ H _ I h) fun v s1 ⟨x,H1,I1,r1,q1⟩=>⟨x,σ,H1,I1,r1,q1⟩)
def jwV (c:TT) (t u:TS):TS:=fun D σ H=>c σ H fun b H1=>if b = true then t D σ H1 else u D σ H1
theorem jsS {c:Expr} {a b:List Stmt} {tc:TT} (hc:PT X c tc) (ha:PSs X a t) (hb:PSs X b u):PS X (.If c a b pos) (jwV tc t u):=by
  intro pins s σ H D I h
  refine wpAny_If (thn (hc pins s σ H _ I h) fun d s1 ⟨H1,I1,q1⟩=>?_)
  cases d with
  | true=>exact ha pins s1 σ H1 D I1 q1
  | false=>exact hb pins s1 σ H1 D I1 q1
end
abbrev TG:=V → St → Hp → (St → Hp → Prop) → Prop
abbrev TGs:=List V → St → Hp → (St → Hp → Prop) → Prop
def PG (X:Cx) (target:Expr) (t:TG):Prop:=
  ∀ (pins:List (Addr × Obj)) (s:Shared) (σ:St) (H:Hp) (v:V) (u:Value) (Q:St → Hp → Prop),Inv X pins σ H s → RelV v u → t v σ H Q →
    wpAny (model X.prog X.w) X.A (assign target X.env u) (fun _ s'=>∃ σ' H',Inv X pins σ' H' s' ∧ Q σ' H') X.xe s
def PGs (X:Cx) (ts:List Expr) (t:TGs):Prop:=
  ∀ (pins:List (Addr × Obj)) (s:Shared) (σ:St) (H:Hp) (vs:List V) (us:List Value) (Q:St → Hp → Prop),Inv X pins σ H s → Vals vs us → t vs σ H Q →
    wpAny (model X.prog X.w) X.A (assignInOrder ((assignEach ts X.env).map (·.2)) us) (fun _ s'=>∃ σ' H',Inv X pins σ' H' s' ∧ Q σ' H') X.xe s
abbrev jvZ:=V → V → V → Hp → (Hp → Prop) → Prop
def jwr (X:Cx) (t:jvZ):Prop:=
  ∀ (pins:List (Addr × Obj)) (s:Shared) (σ:St) (H:Hp) (o i v:V) (ov iv u:Value) (Q:Hp → Prop),Inv X pins σ H s → RelV o ov → RelV i iv → RelV v u → t o i v H Q →
    wpAny (model X.prog X.w) X.A (setItem ov iv u) (fun _ s'=>∃ H',Inv X pins σ H' s' ∧ Q H') X.xe s
section
variable {X:Cx} {pos:Pos}
def jrA (i:Nat):TG:=fun v σ H Q=>Q (σ.set i (some v)) H
theorem jbH {i:Nat} {x:Str} (hN:X.N.Nodup) (hi:X.N[i]? = some x) (hx:Loc X.env.scope x) (hf:X.fn x = true ∨ X.env.scope.names.lookup x = some .local:=by first | exact .inl rfl | exact .inr rfl | assumption):PG X (.Name x pos) (jrA i):=by
  intro pins s σ H v u Q I r h
  exact wpAny_assign_Name (jf8 I hN hi hx r (fun s' I'=>⟨_,H,I',h⟩) hf)
def jxE (to ti:TE) (t:jvZ):TG:=fun v σ H Q=>to σ H fun o H1=>ti σ H1 fun i H2=>t o i v H2 fun H3=>Q σ H3
theorem jsX {o i:Expr} {to ti:TE} {t:jvZ} (ho:PE X o to) (hi:PE X i ti) (hs:jwr X t)
    (ha:∀ v,assign (.Subscript o i pos) X.env v = (do
      let ov ← holding [v] (eval o X.env)
      let iv ← holding [v,ov] (eval i X.env)
      standAt pos
      holding [v,ov,iv] (setItem ov iv v)
      release [v,ov,iv] []):=by intro _; rfl):PG X (.Subscript o i pos) (jxE to ti t):=by
  intro pins s σ H v u Q I r h
  rw [ha]
  refine wpAny_bind (wpAny_holding (thn (ho pins s σ H _ I h) fun ov s1 ⟨x,H1,I1,r1,q1⟩=>?_))
  refine wpAny_bind (wpAny_holding (thn (hi pins s1 σ H1 _ I1 q1) fun iv s2 ⟨y,H2,I2,r2,q2⟩=>?_))
  refine wpAny_bind (wpAny_standAt (wpAny_bind (wpAny_holding (thn (hs pins s2 σ H2 x y v ov iv u _ I2 r1 r2 r q2) fun _ s3 ⟨H3,I3,q3⟩=>?_))))
  exact wpAny_release ⟨σ,H3,I3,q3⟩
def jv1 (te:TE) (g:TG):TS:=fun D σ H=>te σ H fun x H1=>g x σ H1 D.nx
theorem jsU {tg e:Expr} {te:TE} {g:TG} (he:PE X e te) (hg:PG X tg g) (hs:swapsWithSole [tg] e pos.line X.env = pure false:=by rfl) (hw:swappedStores [tg] e X.env = pure none:=by rfl)
    (h1:(assignEach [tg] X.env).map (·.2) = [assign tg X.env]:=by rfl):PS X (.Assign [tg] e pos) (jv1 te g):=by
  intro pins s σ H D I h
  refine wpAny_Assign_stores (thn (he pins s σ H _ I h) fun v s1 ⟨x,H1,I1,r1,q1⟩=>?_) hs hw
  rw [h1]
  exact thn (hg pins s1 σ H1 x v _ I1 r1 q1) fun _ s2 q=>q
theorem jmw {i:Nat} {x:Str} {e:Expr} {te:TE} {pos':Pos} (hN:X.N.Nodup) (hi:X.N[i]? = some x) (hx:Loc X.env.scope x) (he:PE X e te) (hs:swapsWith e (some (.Name x pos')) pos.line X.env = pure false:=by rfl) (hf:X.fn x = true ∨ X.env.scope.names.lookup x = some .local:=by first | exact .inl rfl | exact .inr rfl | assumption) :
    PS X (.Assign [.Name x pos'] e pos) (jv1 te (jrA i)):=by
  intro pins s σ H D I h
  refine wpAny_Assign_Name (thn (he pins s σ H _ I h) fun v s1 ⟨y,H1,I1,r1,q1⟩=>?_) hs
  exact jf8 I1 hN hi hx r1 (fun s2 I2=>⟨_,H1,I2,q1⟩) hf
end
section
variable {X:Cx} {pos:Pos}
def jsD (c:TT) (tb:TS):TS:=fun D σ H=>∃ W:Nat → St → Hp → Prop,(∃ m,W m σ H) ∧ ∀ m σ H,W m σ H →
  c σ H fun b H1=>if b = true then ∃ N:St → Hp → Prop,(∀ σ' H',N σ' H' → ∃ m',m' < m ∧ W m' σ' H') ∧ tb { D with nx:=N,ct:=N,bk:=D.nx } σ H1 else D.nx σ H1
theorem jow {c:Expr} {body:List Stmt} {tc:TT} {tb:TS} (hp:PassesOwn (model X.prog X.w) X.A X.env X.xe) (hc:PT X c tc) (hb:PSs X body tb):PS X (.While c body [] pos) (jsD tc tb):=by
  intro pins s σ H D I h
  obtain ⟨W,⟨m0,w0⟩,turn⟩:=h
  refine wpAny_While (codeAny_whileLoop (fun n s'=>∃ σ' H',Inv X pins σ' H' s' ∧ W n σ' H') ?_ m0 ⟨σ,H,I,w0⟩)
  rintro n s1 ⟨σ1,H1,I1,w1⟩
  refine wpAny_passesOwn hp (thn (hc pins s1 σ1 H1 _ I1 (turn n σ1 H1 w1)) fun b s2 ⟨H2,I2,q2⟩=>?_)
  cases b with
  | true=>
    obtain ⟨N,hN,q2⟩:=q2
    rw [if_pos rfl]
    refine wpAny_passesOwn hp (thn (hb pins s2 σ1 H2 _ I2 q2) fun f s3 q3=>?_)
    cases f with
    | next=>
      obtain ⟨σ3,H3,I3,n3⟩:=q3
      obtain ⟨m',hm,w3⟩:=hN σ3 H3 n3
      exact ⟨m',hm,σ3,H3,I3,w3⟩
    | cont=>
      obtain ⟨σ3,H3,I3,n3⟩:=q3
      obtain ⟨m',hm,w3⟩:=hN σ3 H3 n3
      exact ⟨m',hm,σ3,H3,I3,w3⟩
    | brk=>exact q3
    | ret v=>exact q3
  | false=>
    rw [if_neg Bool.false_ne_true]
    exact wpAny_execs_nil ⟨σ1,H2,I2,q2⟩
end
structure It where
  go:Nat → Hp → Prop
  yld:Nat → Hp → V → Hp → Prop
  stop:Nat → Hp → Prop
def jjM (X:Cx) (pins:List (Addr × Obj)) (H:Hp) (b:Addr):Prop:=
  H b = none ∧ b ≠ X.env.locals ∧ b ∉ X.fs ∧ (b ∈ X.ex ∨ X.s₀.heap.objs.size ≤ b) ∧ (∀ x c,X.env.cells.lookup x = some c → c ≠ b) ∧ ∀ p ∈ X.pn ++ pins,p.1 ≠ b
theorem Inv.fpOk {X:Cx} {pins:List (Addr × Obj)} {σ:St} {H H':Hp} {s:Shared} {b:Addr} (I:Inv X pins σ H s) (hb:s.heap.objs.size ≤ b) (hn:H' b = none):jjM X pins H' b:=by
  refine ⟨hn,Nat.ne_of_gt (Nat.lt_of_lt_of_le I.lt hb),I.nofs hb,.inr (Nat.le_trans I.sz hb),fun x c e z=>?_,fun p hp z=>?_⟩
  · obtain ⟨v,q⟩:=I.cell x c e
    exact absurd (Nat.lt_of_lt_of_le q.lt (by rw [z]; exact hb)) (Nat.lt_irrefl _)
  · exact absurd (Nat.lt_of_lt_of_le (Heap.lt_size (I.pin p hp).1) (by rw [z]; exact hb)) (Nat.lt_irrefl _)
structure TurnG (Cm:Cx → Prop) (P:Program) (w:World) (K:PySem.W.Frag) (tg:Expr) (J:It) (fp:List Addr) (it:Addr) (tn:Nat → Heap → Prop):Prop where
  mem:it ∈ fp
  obj:∀ i h,tn i h → ∀ b ∈ fp,∃ o,h.get? b = some o ∧ ∀ v,o.data ≠ .cell v
  keep:∀ i h h',tn i h → (∀ b ∈ fp,∀ o,h.get? b = some o → h'.get? b = some o) → tn i h'
  item:∀ (X:Cx),X.prog = P → X.w = w → X.K = K → Cm X → ∀ (i:Nat) (pins:List (Addr × Obj)) (s:Shared) (σ:St) (H:Hp) (E:Value → Shared → Prop),Inv X pins σ H s → (∀ b ∈ fp,jjM X pins H b) → tn i s.heap → J.go i H →
    wpAny (model P w) X.A (pyNext (.ref it)) (fun r s1=>∃ u,r = some u ∧
      wpAny (model P w) X.A (letOwnedTupleGo tg (.ref it) u) (fun _ s2=>∃ x H',Inv X pins σ H' s2 ∧ RelV x u ∧ J.yld i H x H' ∧ tn (i + 1) s2.heap ∧ ∀ b ∈ fp,H' b = none) E s1) E s
  done:∀ (X:Cx),X.prog = P → X.w = w → X.K = K → Cm X → ∀ (i:Nat) (pins:List (Addr × Obj)) (s:Shared) (σ:St) (H:Hp) (E:Value → Shared → Prop),Inv X pins σ H s → (∀ b ∈ fp,jjM X pins H b) → tn i s.heap → J.stop i H →
    wpAny (model P w) X.A (pyNext (.ref it)) (fun r s1=>r = none ∧ Inv X pins σ H s1) E s
  self:∀ (A:Around) (i:Nat) (s:Shared) (Q:Value → Shared → Prop) (E:Value → Shared → Prop),tn i s.heap → Q (.ref it) s → wpAny (model P w) A (pyIter (.ref it)) Q E s
abbrev jt3 (P:Program) (w:World) (K:PySem.W.Frag) (tg:Expr) (J:It) (fp:List Addr) (it:Addr) (tn:Nat → Heap → Prop):Prop:=TurnG (fun X=>X.calm = true) P w K tg J fp it tn
abbrev TI:=St → Hp → (It → Hp → Prop) → Prop
def PIE (X:Cx) (pins:List (Addr × Obj)) (σ:St) (tg:Expr) (R:It → Hp → Prop) (itv:Value) (s2:Shared):Prop:=
  ∃ (it:Addr) (fp:List Addr) (tn:Nat → Heap → Prop) (J:It) (H':Hp),itv = .ref it ∧ Inv X pins σ H' s2 ∧ jt3 X.prog X.w X.K tg J fp it tn ∧ tn 0 s2.heap ∧ (∀ b ∈ fp,jjM X pins H' b) ∧ R J H'
def PI (X:Cx) (tg iter:Expr) (wi:TI):Prop:=
  ∀ (pins:List (Addr × Obj)) (s:Shared) (σ:St) (H:Hp) (R:It → Hp → Prop),Inv X pins σ H s → wi σ H R →
    wpAny (model X.prog X.w) X.A (eval iter X.env) (fun v s1=>wpAny (model X.prog X.w) X.A (pyIter v) (PIE X pins σ tg R) X.xe s1) X.xe s
theorem jpl {M:Model} {A:Around} {E:Value → Shared → Prop} {s:Shared} {tg:Expr} {it:Addr} {u:Value} {o:Obj} {n:String} {vs:Array Value} {Q:Unit → Shared → Prop} (ho:s.heap.get? it = some o) (hc:o.cls = .type n) (hd:o.data = .fields vs)
    (hn:["enumerate","zip","dict_itemiterator","dict_reverseitemiterator","odict_iterator","itertools.zip_longest","itertools.pairwise"].contains n = false) (hQ:Q () s):wpAny M A (letOwnedTupleGo tg (.ref it) u) Q E s:=by
  unfold letOwnedTupleGo
  cases tg <;> first
    | exact wpAny_pure hQ
    | (cases u <;> first
        | exact wpAny_pure hQ
        | (refine wpAny_bind (wpAny_load ho ?_)
           rw [hc,hd]
           show wpAny M A (if (["enumerate","zip","dict_itemiterator","dict_reverseitemiterator","odict_iterator","itertools.zip_longest","itertools.pairwise"].contains n && vs[0]? == some (rawInt _)) = true then _ else _) Q E s
           rw [if_neg (by intro h; rw [hn,Bool.false_and] at h; cases h)]
           exact wpAny_pure hQ))
def Itl (K:PySem.W.Frag) (a:Addr):It:=
  ⟨fun i H=>∃ xs x,SqL K H a xs ∧ xs[i]? = some x,fun i H x H'=>H' = H ∧ ∀ xs,SqL K H a xs → xs[i]? = some x,fun i H=>∃ xs,SqL K H a xs ∧ xs.length ≤ i⟩
def Itt (K:PySem.W.Frag) (a:Addr):It:=
  ⟨fun i H=>∃ xs x,SqT K H a xs ∧ xs[i]? = some x,fun i H x H'=>H' = H ∧ ∀ xs,SqT K H a xs → xs[i]? = some x,fun i H=>∃ xs,SqT K H a xs ∧ xs.length ≤ i⟩
def Itr (lo:Int) (n:Nat):It:=⟨fun i _=>i < n,fun i H x H'=>H' = H ∧ x = .int (lo + i),fun i _=>n ≤ i⟩
theorem jl7 {P:Program} {w:World} {K:PySem.W.Frag} {tg:Expr} (a it:Addr):jt3 P w K tg (Itl K a) [it] it (fun i h=>h.IsListIter it a i) where
  mem:=by simp
  obj:=fun i h st b hb=>by
    have e:b = it:=by simpa using hb
    subst e
    obtain ⟨o,e,c,d⟩:=st
    exact ⟨o,e,fun v z=>by rw [d] at z; cases z⟩
  keep:=fun i h h' st k=>st.at fun o e=>k it (by simp) o e
  item:=by
    intro X hP hw hK hc i pins s σ H E I hf st hg
    subst hP hw hK
    obtain ⟨xs,x,hq,hx⟩:=hg
    obtain ⟨its,rv,p,hz⟩:=I.list hq
    obtain ⟨u,hu,ru⟩:=rv.get hx
    obtain ⟨f0,f1,f2,f3,f4,f5⟩:=hf it (by simp)
    refine wpAny_pyNext_list_item st p.isList (x:=u) (by simpa using hu) fun h' st' sb=>?_
    have I1:Inv X pins σ H { s with heap:=h' }:=I.turned (t':=s.toks) (fun b o hb e=>(sb.2 b hb).trans e) f0 f1 f3 f4 f5
    obtain ⟨o,e,c,d⟩:=id st'
    exact ⟨u,rfl,jpl (s:={ s with heap:=h' }) e c d (by decide) ⟨x,H,I1,ru,⟨rfl,fun ys hy=>by rw [I.list_inj hy hq]; exact hx⟩,st',fun b hb=>(hf b hb).1⟩⟩
  done:=by
    intro X hP hw hK hc i pins s σ H E I hf st hg
    subst hP hw hK
    obtain ⟨xs,hq,hx⟩:=hg
    obtain ⟨its,rv,p,hz⟩:=I.list hq
    obtain ⟨f0,f1,f2,f3,f4,f5⟩:=hf it (by simp)
    have hl:=rv.length
    exact wpAny_pyNext_list_end (I.ok.hd hc) st p.isList (by simp; omega) fun h' eb=>⟨rfl,I.turned (t':=s.toks) (fun b o hb e=>eb b o hb e) f0 f1 f3 f4 f5⟩
  self:=fun _ _ _ _ _ st h=>wpAny_pyIter_listiter st h
theorem jlk {P:Program} {w:World} {K:PySem.W.Frag} {tg:Expr} (a it:Addr):jt3 P w K tg (Itt K a) [it] it (fun i h=>h.IsTupleIter it a i) where
  mem:=by simp
  obj:=fun i h st b hb=>by
    have e:b = it:=by simpa using hb
    subst e
    obtain ⟨o,e,c,d⟩:=st
    exact ⟨o,e,fun v z=>by rw [d] at z; cases z⟩
  keep:=fun i h h' st k=>st.at fun o e=>k it (by simp) o e
  item:=by
    intro X hP hw hK hc i pins s σ H E I hf st hg
    subst hP hw hK
    obtain ⟨xs,x,hq,hx⟩:=hg
    obtain ⟨its,rv,p,hz⟩:=I.tuple hq
    obtain ⟨u,hu,ru⟩:=rv.get hx
    obtain ⟨f0,f1,f2,f3,f4,f5⟩:=hf it (by simp)
    refine wpAny_pyNext_tuple_item st (show s.heap.IsTuple a its.toArray from p) (x:=u) (by simpa using hu) fun h' st' sb=>?_
    have I1:Inv X pins σ H { s with heap:=h' }:=I.turned (t':=s.toks) (fun b o hb e=>(sb.2 b hb).trans e) f0 f1 f3 f4 f5
    obtain ⟨o,e,c,d⟩:=id st'
    exact ⟨u,rfl,jpl (s:={ s with heap:=h' }) e c d (by decide) ⟨x,H,I1,ru,⟨rfl,fun ys hy=>by rw [I.tuple_inj hy hq]; exact hx⟩,st',fun b hb=>(hf b hb).1⟩⟩
  done:=by
    intro X hP hw hK hc i pins s σ H E I hf st hg
    subst hP hw hK
    obtain ⟨xs,hq,hx⟩:=hg
    obtain ⟨its,rv,p,hz⟩:=I.tuple hq
    obtain ⟨f0,f1,f2,f3,f4,f5⟩:=hf it (by simp)
    have hl:=rv.length
    exact wpAny_pyNext_tuple_end (I.ok.hd hc) st (show s.heap.IsTuple a its.toArray from p) (by simp; omega) fun h' eb=>⟨rfl,I.turned (t':=s.toks) (fun b o hb e=>eb b o hb e) f0 f1 f3 f4 f5⟩
  self:=fun _ _ _ _ _ st h=>wpAny_pyIter_tupleiter st h
theorem jll {P:Program} {w:World} {K:PySem.W.Frag} {tg:Expr} (it:Addr) (lo:Int) (n:Nat):jt3 P w K tg (Itr lo n) [it] it (fun i h=>IsRangeIter h it (lo + (i:Nat) * 1) ((n:Int) - (i:Nat)) 1) where
  mem:=by simp
  obj:=fun i h st b hb=>by
    have e:b = it:=by simpa using hb
    subst e
    exact ⟨_,st,fun v z=>by
      have z':Data.fields _ = Data.cell v:=z
      cases z'⟩
  keep:=fun i h h' st k=>k it (by simp) _ st
  item:=by
    intro X hP hw hK hc i pins s σ H E I hf st hg
    subst hP hw hK
    obtain ⟨f0,f1,f2,f3,f4,f5⟩:=hf it (by simp)
    have W:=Walks.range (prog:=X.prog) (w:=X.w) (I.ok.hd hc) it lo 1 n
    refine W.item i s _ _ hg st fun v h' tk hv st' kk=>?_
    obtain ⟨t,rfl⟩:=hv
    have I1:Inv X pins σ H { s with heap:=h',toks:=tk }:=I.turned (fun b o hb e=>kk b o (by simpa using hb) e) f0 f1 f3 f4 f5
    refine ⟨_,rfl,jpl (s:={ s with heap:=h',toks:=tk }) (n:="range_iterator") st' rfl rfl (by decide) ⟨.int (lo + i),H,I1,⟨t,?_⟩,⟨rfl,rfl⟩,st',fun b hb=>(hf b hb).1⟩⟩
    rw [Int.mul_one]
  done:=by
    intro X hP hw hK hc i pins s σ H E I hf st hg
    subst hP hw hK
    obtain ⟨f0,f1,f2,f3,f4,f5⟩:=hf it (by simp)
    exact wpAny_pyNext_range_end (I.ok.hd hc) st (by have:n ≤ i:=hg; omega) fun h' eb=>⟨rfl,I.turned (t':=s.toks) (fun b o hb e=>eb b o hb e) f0 f1 f3 f4 f5⟩
  self:=fun _ _ _ _ _ st h=>wpAny_pyIter_rangeiter st h
end L2
namespace L2
open PySem PySem.Spec PyProof.Rows
section
variable {X:Cx} {tg:Expr}
def jvF (K:PySem.W.Frag) (tl:TE):TI:=fun σ H R=>tl σ H fun x H1=>∃ a,x = .ref a ∧ (∃ xs,SqL K H1 a xs) ∧ R (Itl K a) H1
def jxD (K:PySem.W.Frag) (tl:TE):TI:=fun σ H R=>tl σ H fun x H1=>∃ a,x = .ref a ∧ (∃ xs,SqT K H1 a xs) ∧ R (Itt K a) H1
theorem jqY {l:Expr} {tl:TE} (hl:PE X l tl):PI X tg l (jvF X.K tl):=by
  intro pins s σ H R I h
  refine thn (hl pins s σ H _ I h) fun v s1 ⟨x,H1,I1,r1,q1⟩=>?_
  obtain ⟨a,e,⟨xs,hq⟩,q⟩:=q1
  subst e
  cases r1
  obtain ⟨its,rv,p,hz⟩:=I1.list hq
  refine wpAny_pyIter_list p.isList ?_
  refine ⟨s1.heap.objs.size,[s1.heap.objs.size],_,_,H1,rfl,I1.kept (t':=s1.toks) fun b o e=>Heap.get?_push_of_some _ e,jl7 a _,⟨_,Heap.get?_push_size _ rfl,rfl,rfl⟩,fun b hb=>?_,q⟩
  have e:b = s1.heap.objs.size:=by simpa using hb
  subst e
  exact I1.fpOk (Nat.le_refl _) (I1.hok.fresh (Nat.le_refl _))
theorem jsW {l:Expr} {tl:TE} (hl:PE X l tl):PI X tg l (jxD X.K tl):=by
  intro pins s σ H R I h
  refine thn (hl pins s σ H _ I h) fun v s1 ⟨x,H1,I1,r1,q1⟩=>?_
  obtain ⟨a,e,⟨xs,hq⟩,q⟩:=q1
  subst e
  cases r1
  obtain ⟨its,rv,p,hz⟩:=I1.tuple hq
  refine wpAny_pyIter_tuple (show s1.heap.IsTuple a its.toArray from p) ?_
  refine ⟨s1.heap.objs.size,[s1.heap.objs.size],_,_,H1,rfl,I1.kept (t':=s1.toks) fun b o e=>Heap.get?_push_of_some _ e,jlk a _,⟨_,Heap.get?_push_size _ rfl,rfl,rfl⟩,fun b hb=>?_,q⟩
  have e:b = s1.heap.objs.size:=by simpa using hb
  subst e
  exact I1.fpOk (Nat.le_refl _) (I1.hok.fresh (Nat.le_refl _))
theorem jov {pins:List (Addr × Obj)} {σ:St} {H:Hp} {s:Shared} {R:It → Hp → Prop} {E:Value → Shared → Prop} {lo hi:Int} {t u v:Tok} {tk:Nat} (I:Inv X pins σ H s) (h1:-(2 ^ 62) ≤ lo) (h2:lo < 2 ^ 62) (h3:-(2 ^ 62) ≤ hi) (h4:hi < 2 ^ 62)
    (q:R (Itr lo (hi - lo).toNat) H):wpAny (model X.prog X.w) X.A (pyIter (.ref s.heap.objs.size)) (PIE X pins σ tg R) E { s with heap:=s.heap.push { cls:=.type "range",data:=.fields #[.int lo t,.int hi u,.int 1 v] },toks:=tk }:=by
  refine wpAny_pyIter_range (IsRange.new ..) (small_one h1 h2 h3 h4) ?_
  have I1:Inv X pins σ H { s with heap:=s.heap.push { cls:=.type "range",data:=.fields #[.int lo t,.int hi u,.int 1 v] },toks:=tk }:=I.kept fun b o e=>Heap.get?_push_of_some _ e
  refine ⟨(s.heap.push { cls:=.type "range",data:=.fields #[.int lo t,.int hi u,.int 1 v] }).objs.size,[(s.heap.push { cls:=.type "range",data:=.fields #[.int lo t,.int hi u,.int 1 v] }).objs.size],_,_,H,rfl,
    I1.kept (t':=tk) fun b o e=>Heap.get?_push_of_some _ e,jll _ lo (hi - lo).toNat,?_,fun b hb=>?_,q⟩
  · have e1:lo + ((0:Nat):Int) * 1 = lo:=by simp
    have e2:(((hi - lo).toNat:Nat):Int) - ((0:Nat):Int) = Builtin.Range.rangeSize lo hi 1:=by rw [rangeSize_one]; split <;> omega
    show IsRangeIter _ _ (lo + ((0:Nat):Int) * 1) ((((hi - lo).toNat:Nat):Int) - ((0:Nat):Int)) 1
    rw [e1,e2]
    exact Heap.get?_push_size _ rfl
  · have e:b = (s.heap.push { cls:=.type "range",data:=.fields #[.int lo t,.int hi u,.int 1 v] }).objs.size:=by simpa using hb
    subst e
    exact I1.fpOk (Nat.le_refl _) (I1.hok.fresh (Nat.le_refl _))
def jtF (ta:TA):TI:=fun σ H R=>ta σ H fun vs H1=>∃ j:Int,vs = [.int j] ∧ -(2 ^ 62) ≤ j ∧ j < 2 ^ 62 ∧ R (Itr 0 j.toNat) H1
theorem jmy {a:Expr} {ta:TA} {p pos:Pos} (hg:Gl X "range") (hm:X.mg "range" = none) (ha:PA X [a] ta) (hs:starEach [a] X.env = [(false,eval a X.env)]:=by rfl):PI X tg (.Call (.Name "range" p) [a] [] pos) (jtF ta):=by
  intro pins s σ H R I h
  refine Call_ (jje I hg hm boot_range (PyProof.Rows.callWith_type1 (thn (ha pos pins s σ H _ I h) fun us s1 ⟨vs,H1,I1,r1,q1⟩=>?_) hs rfl))
  obtain ⟨j,e,q1,q2,q⟩:=q1
  subst e
  cases r1 with
  | cons r rr=>
    cases rr
    obtain ⟨t,rfl⟩:=r
    exact call_range_1 (jov I1 (by omega) (by omega) q1 q2 (by simpa using q))
def jwW (wi:TI) (g:TG) (tb:TS):TS:=fun D σ H=>wi σ H fun J H1=>∃ W:Nat → Nat → St → Hp → Prop,(∃ m,W 0 m σ H1) ∧ ∀ i m σ H,W i m σ H →
  (J.stop i H ∧ D.nx σ H) ∨ (J.go i H ∧ ∃ N:St → Hp → Prop,(∀ σ' H',N σ' H' → ∃ m',m' < m ∧ W (i + 1) m' σ' H') ∧ ∀ x H',J.yld i H x H' → g x σ H' fun σ2 H2=>tb { D with nx:=N,ct:=N,bk:=D.nx } σ2 H2)
def jkU (fp:List Addr) (h:Heap):List (Addr × Obj):=fp.filterMap fun b=>(h.get? b).map fun o=>(b,o)
theorem jbY {fp:List Addr} {h:Heap} {b:Addr} {o:Obj} (hb:b ∈ fp) (e:h.get? b = some o):(b,o) ∈ jkU fp h:=List.mem_filterMap.mpr ⟨b,hb,by rw [e]; rfl⟩
theorem jmQ {fp:List Addr} {h:Heap} {p:Addr × Obj} (hp:p ∈ jkU fp h):p.1 ∈ fp ∧ h.get? p.1 = some p.2:=by
  obtain ⟨b,hb,e⟩:=List.mem_filterMap.mp hp
  cases q:h.get? b with
  | none=>rw [q] at e; cases e
  | some o=>
    rw [q] at e
    have e':(b,o) = p:=Option.some.inj e
    subst e'
    exact ⟨hb,q⟩
theorem Inv.pinned {pins:List (Addr × Obj)} {σ:St} {H:Hp} {s:Shared} {fp:List Addr} (I:Inv X pins σ H s) (hf:∀ b ∈ fp,jjM X pins H b) (ho:∀ b ∈ fp,∃ o,s.heap.get? b = some o ∧ ∀ v,o.data ≠ .cell v):Inv X (pins ++ jkU fp s.heap) σ H s:=
  I.pins_of fun p hp=>(List.mem_append.mp hp).elim (fun z=>I.pin p (List.mem_append_right _ z)) fun z=>by
    obtain ⟨hb,e⟩:=jmQ z
    obtain ⟨f0,f1,f2,_⟩:=hf p.1 hb
    obtain ⟨o,e',d⟩:=ho p.1 hb
    rw [e] at e'; cases e'
    exact ⟨e,f0,f1,f2,d⟩
theorem Inv.unpinned {pins pl:List (Addr × Obj)} {σ:St} {H:Hp} {s:Shared} (I:Inv X (pins ++ pl) σ H s):Inv X pins σ H s:=I.pins_of fun p hp=>I.pin p (List.mem_append_right _ (List.mem_append_left _ hp))
theorem jsT {iter:Expr} {body:List Stmt} {wi:TI} {g:TG} {tb:TS} {pos:Pos} (hp:PassesOwn (model X.prog X.w) X.A X.env X.xe) (hc:X.calm = true) (hi:PI X tg iter wi) (hg:PG X tg g) (hb:PSs X body tb)
    (hs:∀ x,foldedSetIterable iter X.env x = pure x:=by intro _; rfl):PS X (.For tg iter body [] pos) (jwW wi g tb):=by
  intro pins s σ H D I h
  refine wpAny_For (thn (hi pins s σ H _ I h) fun v s1 h1=>thn h1 fun itv s2 h2=>?_) hs
  obtain ⟨it,fp,tn,J,H2,e,I2,T,st2,f2,W,⟨m0,w0⟩,turn⟩:=h2
  subst e
  have stat:∀ {H':Hp},(∀ b ∈ fp,H' b = none) → ∀ b ∈ fp,jjM X pins H' b:=fun hn b hb=>⟨hn b hb,(f2 b hb).2⟩
  refine codeAny_forLoop_any (fun n s'=>∃ i σ' H',Inv X pins σ' H' s' ∧ tn i s'.heap ∧ (∀ b ∈ fp,H' b = none) ∧ W i n σ' H') ?_ m0 ⟨0,σ,H2,I2,st2,fun b hb=>(f2 b hb).1,w0⟩
  rintro n s3 ⟨i,σ3,H3,I3,st3,fr3,w3⟩
  rcases turn i n σ3 H3 w3 with ⟨stop,qn⟩ | ⟨go,N,hN,step⟩
  · refine wpAny_passesOwn hp (thn (T.done X rfl rfl rfl hc i pins s3 σ3 H3 X.xe I3 (stat fr3) st3 stop) fun r s4 ⟨hr,I4⟩=>?_)
    subst hr
    exact wpAny_execs_nil ⟨σ3,H3,I4,qn⟩
  · refine wpAny_passesOwn hp (thn (T.item X rfl rfl rfl hc i pins s3 σ3 H3 X.xe I3 (stat fr3) st3 go) fun r s4 ⟨u,hr,h4⟩=>?_)
    subst hr
    refine wpAny_passesOwn hp (thn h4 fun _ s5 ⟨x,H5,I5,r5,y5,st5,fr5⟩=>?_)
    have I5':=I5.pinned (stat fr5) (T.obj _ _ st5)
    refine wpAny_passesOwn hp (thn (hg _ s5 σ3 H5 x u _ I5' r5 (step x H5 y5)) fun _ s6 ⟨σ6,H6,I6,q6⟩=>?_)
    refine wpAny_passesOwn hp (thn (hb _ s6 σ6 H6 _ I6 q6) fun f s7 q7=>?_)
    have again:∀ {σ7:St} {H7:Hp},Inv X (pins ++ jkU fp s5.heap) σ7 H7 s7 → N σ7 H7 → ∃ m,m < n ∧ ∃ i σ' H',Inv X pins σ' H' s7 ∧ tn i s7.heap ∧ (∀ b ∈ fp,H' b = none) ∧ W i m σ' H':=fun {σ7 H7} I7 n7=>by
      obtain ⟨m',hm,w7⟩:=hN σ7 H7 n7
      refine ⟨m',hm,i + 1,σ7,H7,I7.unpinned,T.keep _ _ _ st5 fun b hb o e=>(I7.pin (b,o) (List.mem_append_right _ (List.mem_append_right _ (jbY hb e)))).1,fun b hb=>?_,w7⟩
      obtain ⟨o,e,d⟩:=T.obj _ _ st5 b hb
      exact (I7.pin (b,o) (List.mem_append_right _ (List.mem_append_right _ (jbY hb e)))).2.1
    cases f with
    | next=>obtain ⟨σ7,H7,I7,n7⟩:=q7; exact again I7 n7
    | cont=>obtain ⟨σ7,H7,I7,n7⟩:=q7; exact again I7 n7
    | brk=>obtain ⟨σ7,H7,I7,q7⟩:=q7; exact ⟨σ7,H7,I7.unpinned,q7⟩
    | ret v=>obtain ⟨x7,σ7,H7,I7,r7,q7⟩:=q7; exact ⟨x7,σ7,H7,I7.unpinned,r7,q7⟩
end
end L2
namespace L2
open PySem PySem.Spec PyProof.Rows
abbrev R2:=V → V → Hp → VK → Prop
def OpR (X:Cx) (f:Value → Value → Sem Value) (r:R2):Prop:=
  ∀ (pins:List (Addr × Obj)) (s:Shared) (σ:St) (H:Hp) (x y:V) (v u:Value) (Q:VK),Inv X pins σ H s → RelV x v → RelV y u → r x y H Q →
    wpAny (model X.prog X.w) X.A (f v u) (EP X pins σ Q) X.xe s
def UnR (X:Cx) (f:Value → Sem Value) (r:V → Hp → VK → Prop):Prop:=
  ∀ (pins:List (Addr × Obj)) (s:Shared) (σ:St) (H:Hp) (x:V) (v:Value) (Q:VK),Inv X pins σ H s → RelV x v → r x H Q →
    wpAny (model X.prog X.w) X.A (f v) (EP X pins σ Q) X.xe s
def CallR (X:Cx) (f:Value) (r:List V → Hp → VK → Prop):Prop:=
  ∀ (pins:List (Addr × Obj)) (s:Shared) (σ:St) (H:Hp) (xs:List V) (us:List Value) (Q:VK),Inv X pins σ H s → Vals xs us → r xs H Q →
    wpAny (model X.prog X.w) X.A (call f us) (EP X pins σ Q) X.xe s
def tOp (r:R2) (ta tb:TE):TE:=fun σ H Q=>ta σ H fun x H1=>tb σ H1 fun y H2=>r x y H2 Q
def tUn (r:V → Hp → VK → Prop) (ta:TE):TE:=fun σ H Q=>ta σ H fun x H1=>r x H1 Q
def rI (C:Int → Int → Prop) (g:Int → Int → V):R2:=fun x y H Q=>∃ i j,x = .int i ∧ y = .int j ∧ C i j ∧ Q (g i j) H
def rI0 (g:Int → Int → V):R2:=fun x y H Q=>∃ i j,x = .int i ∧ y = .int j ∧ Q (g i j) H
def rU (g:Int → V):V → Hp → VK → Prop:=fun x H Q=>∃ i,x = .int i ∧ Q (g i) H
section
variable {X:Cx} {a b c:Expr} {ta tb tc:TE} {pos:Pos}
theorem jvS (ha:PE X a ta) (hb:PE X b tb) {pins:List (Addr × Obj)} {s:Shared} {σ:St} {H:Hp} {R:V → V → Hp → Prop} (I:Inv X pins σ H s)
    (h:ta σ H fun x H1=>tb σ H1 fun y H2=>R x y H2) {Q:Value → Shared → Prop} {f:Value → Value → Sem Value}
    (hf:∀ v u s2 x y H2,Inv X pins σ H2 s2 → RelV x v → RelV y u → R x y H2 → wpAny (model X.prog X.w) X.A (f v u) Q X.xe s2) :
    wpAny (model X.prog X.w) X.A (eval a X.env) (fun v s₁=>wpAny (model X.prog X.w) X.A (eval b X.env) (fun u s₂=>wpAny (model X.prog X.w) X.A (f v u) Q X.xe s₂) X.xe s₁) X.xe s:=by
  refine thn (ha pins s σ H _ I h) fun v s1 ⟨x,H1,I1,r1,q1⟩=>?_
  refine thn (hb pins s1 σ H1 _ I1 q1) fun u s2 ⟨y,H2,I2,r2,q2⟩=>?_
  exact hf v u s2 x y H2 I2 r1 r2 q2
theorem ju8 {op:Operator} {r:R2} (ho:OpR X (binaryOp op) r) (ha:PE X a ta) (hb:PE X b tb):PE X (.BinOp a op b pos) (tOp r ta tb):=by
  intro pins s σ H Q I h
  exact wpAny_BinOp (jvS ha hb I h fun v u s2 x y H2 I2 rx ry q=>ho pins s2 σ H2 x y v u Q I2 rx ry q)
theorem ju7 {op:UnaryOp} {r:V → Hp → VK → Prop} (ho:UnR X (unaryOp op) r) (ha:PE X a ta):PE X (.UnaryOp op a pos) (tUn r ta):=by
  intro pins s σ H Q I h
  exact UnaryOp_ (thn (ha pins s σ H _ I h) fun v s1 ⟨x,H1,I1,r1,q1⟩=>ho pins s1 σ H1 x v Q I1 r1 q1)
theorem opI {f:Value → Value → Sem Value} {C:Int → Int → Prop} {g:Int → Int → Int}
    (rule:∀ (i j:Int) (t u:Tok) (s:Shared) (Q:Value → Shared → Prop) (E:Value → Shared → Prop),C i j → Q (.int (g i j) s.toks) { s with toks:=s.toks + 1 } → wpAny (model X.prog X.w) X.A (f (.int i t) (.int j u)) Q E s) :
    OpR X f (rI C fun i j=>.int (g i j)):=by
  intro pins s σ H x y v u Q I rx ry h
  obtain ⟨i,j,rfl,rfl,hc,q⟩:=h
  obtain ⟨t,rfl⟩:=rx
  obtain ⟨t',rfl⟩:=ry
  exact rule i j t t' s _ _ hc ⟨.int (g i j),H,I.tok _,⟨_,rfl⟩,q⟩
theorem jtg {f:Value → Value → Sem Value} {g:Int → Int → Int}
    (rule:∀ (i j:Int) (t u:Tok) (s:Shared) (Q:Value → Shared → Prop) (E:Value → Shared → Prop),Q (.int (g i j) s.toks) { s with toks:=s.toks + 1 } → wpAny (model X.prog X.w) X.A (f (.int i t) (.int j u)) Q E s) :
    OpR X f (rI0 fun i j=>.int (g i j)):=by
  intro pins s σ H x y v u Q I rx ry h
  obtain ⟨i,j,rfl,rfl,q⟩:=h
  obtain ⟨t,rfl⟩:=rx
  obtain ⟨t',rfl⟩:=ry
  exact rule i j t t' s _ _ ⟨.int (g i j),H,I.tok _,⟨_,rfl⟩,q⟩
theorem jv9 {f:Value → Value → Sem Value} {g:Int → Int → Bool}
    (rule:∀ (i j:Int) (t u:Tok) (s:Shared) (Q:Value → Shared → Prop) (E:Value → Shared → Prop),Q (.bool (g i j)) s → wpAny (model X.prog X.w) X.A (f (.int i t) (.int j u)) Q E s) :
    OpR X f (rI0 fun i j=>.bl (g i j)):=by
  intro pins s σ H x y v u Q I rx ry h
  obtain ⟨i,j,rfl,rfl,q⟩:=h
  obtain ⟨t,rfl⟩:=rx
  obtain ⟨t',rfl⟩:=ry
  exact rule i j t t' s _ _ ⟨.bl (g i j),H,I,rfl,q⟩
def jx0 (i j:Int):Prop:=0 < j ∧ j < 1073741824
def CMul (i j:Int):Prop:=(-(2 ^ 64) < i ∧ i < 2 ^ 64) ∨ (-(2 ^ 64) < j ∧ j < 2 ^ 64)
theorem CMul.ok {i j:Int} (h:CMul i j):IntMulOk i j:=by
  rcases h with ⟨h1,h2⟩ | ⟨h1,h2⟩
  · exact .of_left (intBits_le_64 h1 h2)
  · exact .of_right (intBits_le_64 h1 h2)
theorem jlj (k:Nat):(0:Int) ≤ 2 ^ k:=by
  rw [two_pow_cast]
  exact Int.natCast_nonneg _
theorem jtf:OpR X (binaryOp .Add) (rI0 fun i j=>.int (i + j)):=jtg fun _ _ _ _ _ _ _ q=>add_int q
theorem js9:OpR X (binaryOp .Sub) (rI0 fun i j=>.int (i - j)):=jtg fun _ _ _ _ _ _ _ q=>sub_int q
theorem jq4:OpR X (binaryOp .FloorDiv) (rI jx0 fun i j=>.int (i / j)):=opI fun i j _ _ _ _ _ hc q=>by
  have h1:(0:Int) < j:=hc.1
  have h2:j < 1073741824:=hc.2
  exact floordiv_int (by omega) (by rw [Int.fdiv_eq_ediv_of_nonneg i (by omega)]; exact q) (.inl (PyProof.noPylong_small (by omega)))
theorem jtb:OpR X (binaryOp .Mod) (rI (fun _ j=>0 < j) fun i j=>.int (i % j)):=opI fun i j _ _ _ _ _ hc q=>by
  have h1:(0:Int) < j:=hc
  exact mod_int' (by omega) (by rw [Int.fmod_eq_emod_of_nonneg i (by omega)]; exact q)
theorem jta:OpR X (binaryOp .RShift) (rI (fun _ j=>0 ≤ j) fun i j=>.int (i / 2 ^ j.toNat)):=opI fun i j _ _ _ _ _ hc q=>
  rshift_int hc (by rw [Int.fdiv_eq_ediv_of_nonneg i (jlj _)]; exact q)
theorem jte:OpR X (binaryOp .BitAnd) (rI0 fun i j=>.int (Builtin.bitAnd i j)):=jtg fun _ _ _ _ _ _ _ q=>and_int q
theorem jvd:OpR X (binaryOp .BitOr) (rI0 fun i j=>.int (Builtin.bitOr i j)):=jtg fun _ _ _ _ _ _ _ q=>or_int q
theorem js8:OpR X (binaryOp .BitXor) (rI0 fun i j=>.int (Builtin.bitXor i j)):=jtg fun _ _ _ _ _ _ _ q=>xor_int q
theorem unI {f:Value → Sem Value} {g:Int → Int}
    (rule:∀ (i:Int) (t:Tok) (s:Shared) (Q:Value → Shared → Prop) (E:Value → Shared → Prop),Q (.int (g i) s.toks) { s with toks:=s.toks + 1 } → wpAny (model X.prog X.w) X.A (f (.int i t)) Q E s) :
    UnR X f (rU fun i=>.int (g i)):=by
  intro pins s σ H x v Q I rx h
  obtain ⟨i,rfl,q⟩:=h
  obtain ⟨t,rfl⟩:=rx
  exact rule i t s _ _ ⟨.int (g i),H,I.tok _,⟨_,rfl⟩,q⟩
theorem jsr:UnR X (unaryOp .USub) (rU fun i=>.int (-i)):=unI fun _ _ _ _ _ q=>neg_int q
end
section
variable {X:Cx} {a b c:Expr} {ta tb tc:TE} {pos:Pos}
theorem jtH {pins:List (Addr × Obj)} {σ:St} {H:Hp} {s:Shared} {Q:VK} {k k':Bool} (I:Inv X pins σ H s) (q:Q (.bl k) H) (e:k = k'):EP X pins σ Q (.bool k') s:=by
  subst e
  exact ⟨.bl k,H,I,rfl,q⟩
theorem jve:OpR X (compareOp .Lt) (rI0 fun i j=>.bl (decide (i < j))):=jv9 fun _ _ _ _ _ _ _ q=>lt_int q
theorem jvf:OpR X (compareOp .Gt) (rI0 fun i j=>.bl (decide (j < i))):=jv9 fun _ _ _ _ _ _ _ q=>gt_int q
theorem jtc:OpR X (compareOp .Is) (fun x y H Q=>y = .non ∧ Q (.bl (decide (x = .non))) H):=by
  intro pins s σ H x y v u Q I rx ry h
  obtain ⟨rfl,q⟩:=h
  cases ry
  refine is_none_gen (jtH I q ?_)
  cases x <;> first
    | (cases rx; rfl)
    | (obtain ⟨t,rfl⟩:=rx; rfl)
theorem OpR.or {f:Value → Value → Sem Value} {r r':R2} (h:OpR X f r) (h':OpR X f r'):OpR X f (fun x y H Q=>r x y H Q ∨ r' x y H Q):=by
  intro pins s σ H x y v u Q I rx ry q
  rcases q with q | q
  · exact h pins s σ H x y v u Q I rx ry q
  · exact h' pins s σ H x y v u Q I rx ry q
theorem jaq (b:Expr) {op:CmpOp} (h:op ≠ .In:=by decide) (h2:op ≠ .NotIn:=by decide):behindInMarks op b = false:=by
  have e1:(op == CmpOp.In) = false:=by cases op <;> first | rfl | exact absurd rfl h
  have e2:(op == CmpOp.NotIn) = false:=by cases op <;> first | rfl | exact absurd rfl h2
  cases b <;> simp [behindInMarks,e1,e2]
theorem jq0 {op:CmpOp} {r:R2} (ho:OpR X (compareOp op) r) (ha:PE X a ta) (hb:PE X b tb) (hm:behindInMarks op b = false):PE X (.Compare a [op] [b] pos) (tOp r ta tb):=by
  intro pins s σ H Q I h
  exact wpAny_Compare1 (jvS ha hb I h fun v u s2 x y H2 I2 rx ry q=>ho pins s2 σ H2 x y v u Q I2 rx ry q) hm
def juJ (t:TE):TT:=fun σ H Q=>t σ H fun x H'=>∃ k,x = .bl k ∧ Q k H'
theorem jqS {op:CmpOp} {r:R2} (ho:OpR X (compareOp op) r) (ha:PE X a ta) (hb:PE X b tb) (hm:behindInMarks op b = false):PT X (.Compare a [op] [b] pos) (juJ (tOp r ta tb)):=by
  intro pins s σ H Q I h
  refine wpAny_isTrue_Compare1 (thn (ha pins s σ H _ I h) fun v s1 ⟨x,H1,I1,r1,q1⟩=>thn (hb pins s1 σ H1 _ I1 q1) fun u s2 ⟨y,H2,I2,r2,q2⟩=>
    thn (ho pins s2 σ H2 x y v u _ I2 r1 r2 q2) fun c s3 ⟨z,H3,I3,r3,k,e,q3⟩=>?_) hm
  subst e
  cases r3
  exact wpAny_truthy_bool ⟨H3,I3,q3⟩
theorem jk2:(sizeLine:Nat) < 2 ^ 63:=by rw [sizeLine_eq]; decide
theorem jlt:OpR X (binaryOp .Add) (fun x y H Q=>∃ i j,x = .str i ∧ y = .str j ∧ i.length + j.length ≤ sizeLine ∧ Q (.str (i ++ j)) H):=by
  intro pins s σ H x y v u Q I rx ry h
  obtain ⟨i,j,rfl,rfl,hz,q⟩:=h
  obtain ⟨t,rfl⟩:=rx
  obtain ⟨t',rfl⟩:=ry
  exact add_str (fun t' tk=>⟨.str (i ++ j),H,I.tok _,⟨_,rfl⟩,q⟩) hz
theorem jl2 {x:V} {us:List Value} (r:Vals [x] us):∃ u,us = [u] ∧ RelV x u:=by
  cases r with
  | cons r1 r2=>cases r2; exact ⟨_,rfl,r1⟩
theorem jl1 {x y:V} {us:List Value} (r:Vals [x,y] us):∃ u w',us = [u,w'] ∧ RelV x u ∧ RelV y w':=by
  cases r with
  | cons r1 r2=>
    cases r2 with
    | cons r3 r4=>cases r4; exact ⟨_,_,rfl,r1,r3⟩
theorem jnx (hc:X.calm = true):CallR X (.builtin "max") (fun xs H Q=>∃ i j,xs = [.int i,.int j] ∧ Q (.int (if j > i then j else i)) H):=by
  intro pins s σ H xs us Q I r h
  obtain ⟨i,j,rfl,q⟩:=h
  obtain ⟨u,w',rfl,⟨t,rfl⟩,⟨t',rfl⟩⟩:=jl1 r
  refine max_two_ints (I.ok.hd hc) fun h' tk k=>⟨_,H,I.kept k,?_,q⟩
  by_cases hj:j > i
  · rw [if_pos hj,if_pos hj]; exact ⟨_,rfl⟩
  · rw [if_neg hj,if_neg hj]; exact ⟨_,rfl⟩
theorem jnw (hc:X.calm = true):CallR X (.builtin "min") (fun xs H Q=>∃ i j,xs = [.int i,.int j] ∧ Q (.int (if j < i then j else i)) H):=by
  intro pins s σ H xs us Q I r h
  obtain ⟨i,j,rfl,q⟩:=h
  obtain ⟨u,w',rfl,⟨t,rfl⟩,⟨t',rfl⟩⟩:=jl1 r
  refine min_two_ints (I.ok.hd hc) fun h' tk k=>⟨_,H,I.kept k,?_,q⟩
  by_cases hj:j < i
  · rw [if_pos hj,if_pos hj]; exact ⟨_,rfl⟩
  · rw [if_neg hj,if_neg hj]; exact ⟨_,rfl⟩
theorem jny:CallR X (.type "int") (fun xs H Q=>(∃ i,xs = [.int i] ∧ Q (.int i) H) ∨ ∃ k,xs = [.bl k] ∧ Q (.int (if k then 1 else 0)) H):=by
  intro pins s σ H xs us Q I r h
  rcases h with ⟨i,rfl,q⟩ | ⟨k,rfl,q⟩
  · obtain ⟨u,rfl,t,rfl⟩:=jl2 r
    exact call_int_int ⟨.int i,H,I,⟨_,rfl⟩,q⟩
  · obtain ⟨u,rfl,r1⟩:=jl2 r
    cases r1
    exact call_int_bool ⟨.int (if k then 1 else 0),H,I.tok _,⟨_,rfl⟩,q⟩
def jxZ (K:PySem.W.Frag) (x:V) (H:Hp) (n:Nat):Prop:=
  match x with
  | .str y=>y.length ≤ sizeLine ∧ n = y.length
  | .byt y=>y.size ≤ sizeLine ∧ n = y.size
  | .ref p=>(∃ xs,SqL K H p xs ∧ n = xs.length) ∨ ∃ xs,SqT K H p xs ∧ n = xs.length
  | _=>False
theorem jpq:CallR X (.builtin "len") (fun xs H Q=>∃ x n,xs = [x] ∧ jxZ X.K x H n ∧ Q (.int n) H):=by
  intro pins s σ H xs us Q I r h
  obtain ⟨x,n,rfl,e,q⟩:=h
  obtain ⟨u,rfl,rx⟩:=jl2 r
  have hl:=jk2
  have hs:sizeLine = 16777216:=sizeLine_eq
  cases x with
  | str y=>
    obtain ⟨t,rfl⟩:=rx
    obtain ⟨hy,e'⟩:y.length ≤ sizeLine ∧ n = y.length:=e
    subst e'
    exact len_str (by omega) ⟨.int _,H,I.tok _,⟨_,rfl⟩,q⟩
  | byt y=>
    obtain ⟨t,rfl⟩:=rx
    obtain ⟨hy,e'⟩:y.size ≤ sizeLine ∧ n = y.size:=e
    subst e'
    exact PySem.W.len_bytes (by omega) ⟨.int _,H,I.tok _,⟨_,rfl⟩,q⟩
  | ref p=>
    cases rx
    have e':(∃ xs,SqL X.K H p xs ∧ n = xs.length) ∨ ∃ xs,SqT X.K H p xs ∧ n = xs.length:=e
    rcases e' with ⟨xs,hx,e'⟩ | ⟨xs,hx,e'⟩
    · subst e'
      obtain ⟨its,r',pl,hz⟩:=I.list hx
      have hlen:=r'.length
      exact Calls.call_len_list pl.isList (by simp only [List.size_toArray]; omega) ⟨.int xs.length,H,I.tok _,⟨_,by simp only [List.size_toArray]; rw [hlen]⟩,q⟩
    · subst e'
      obtain ⟨its,r',pl,hz⟩:=I.tuple hx
      have hlen:=r'.length
      exact len_tuple pl (by simp only [List.size_toArray]; omega) ⟨.int xs.length,H,I.tok _,⟨_,by simp only [List.size_toArray]; rw [hlen]⟩,q⟩
  | _=>exact (show False from e).elim
end
end L2
namespace L2
open PySem PySem.Spec PyProof.Rows
structure ObjM (h:Heap) (x dx C:Addr) (mA:Str → Option Value):Prop where
  obj:h.get? x = some (PySem.W.instObj C dx)
  ns:h.Ns1 dx mA
  ne:dx ≠ x
theorem jm4 {h:Heap} {dx:Addr} {mA:Str → Option Value} (n:h.Ns1 dx mA):∃ od,h.get? dx = some od ∧ ∀ name,PySem.W.lookIn name od = some (mA name):=by
  obtain ⟨o,es,ep,ho,hd,hk,_,hm⟩:=n
  refine ⟨o,ho,fun name=>?_⟩
  have e:=hm name
  unfold nsFind findBy at e
  rw [← Array.find?_toList] at e
  unfold PySem.W.lookIn
  rw [hd]
  dsimp only
  split
  · rename_i y q
    rw [q] at e
    exact congrArg some e
  · rename_i q
    rw [q] at e
    have a:es.toList.any (·.refKey) = false:=by
      rw [List.any_eq_false]
      intro y hy
      obtain ⟨z,t,hkey⟩:=hk y (Array.mem_toList_iff.mp hy)
      simp [DictEntry.refKey,hkey]
    have a':¬ es.toList.any (·.refKey) = true:=by rw [a]; exact Bool.false_ne_true
    rw [if_neg a']
    exact congrArg some e
theorem ObjM.look {h:Heap} {x dx C:Addr} {mA:Str → Option Value} (I:ObjM h x dx C mA):∃ od,PySem.W.InstAt h x (PySem.W.instObj C dx) C (some od) ∧ ∀ name,PySem.W.lookIn name od = some (mA name):=
  let ⟨od,ho,hl⟩:=jm4 I.ns
  ⟨od,⟨I.obj,rfl,rfl,ho⟩,hl⟩
section
variable {prog:Program} {w:World} {A:Around} {E:Value → Shared → Prop} {s:Shared} {K:PySem.W.Frag} {x dx C f:Addr} {mA:Str → Option Value} {name:Str} {v:Value}
end
theorem RelO.some_of {v:V} {o:Option Value} (r:RelO (some v) o):∃ u,o = some u ∧ RelV v u:=by
  cases o with
  | none=>exact (show False from r).elim
  | some u=>exact ⟨u,rfl,r⟩
section
variable {P:Program} {w:World} {H H':Hp} {h h':Heap} {a C dx:Addr} {fs fs':List (Str × V)}
theorem jrv (hok:HOk P w H h) (e:H a = some (.ins C dx fs)):∃ mA,ObjM h a dx C mA ∧ (∀ f,RelO (fs.lookup f) (mA f)) ∧ PySem.Within mA (fs.map (·.1)) ∧ fs.length ≤ 1000 ∧ H dx = some (.own a):=by
  obtain ⟨d,z,ne,ob,mA,n,r,q⟩:=(show ObjOk P w H h a (.ins C dx fs) from hok a _ e)
  exact ⟨mA,⟨ob,n,ne⟩,r,q,z,d⟩
end
structure Cls (K:PySem.W.Frag) (C:Addr):Prop where
  pg:PySem.W.plainGet K C Str.empty = true
  hd:PySem.W.hasDictIn K C = true
  po:PySem.W.plainOver K C = true
  sa:PySem.W.findIn K (.ref C) "__setattr__" = some (some (.builtin "object.__setattr__"))
theorem Cls.get {K:PySem.W.Frag} {C:Addr} (c:Cls K C) (f:Str):PySem.W.plainGet K C f = true:=c.pg
structure Con (K:PySem.W.Frag) (C:Addr) (f:Str) (v:V) (u:Value):Prop where
  at_:PySem.W.findIn K (.ref C) f = some (some u)
  rel:RelV v u
  get:PySem.W.specialIn K u "__get__" = some none
  cp:PySem.W.copiedNames.contains f = false
structure Meth (K:PySem.W.Frag) (C:Addr) (m:Str) (f:Addr):Prop where
  at_:PySem.W.findIn K (.ref C) m = some (some (.ref f))
  fn:PySem.W.isFn K (.ref f) = true
  kp:PySem.W.keepIn K (.ref f) = true
section
variable {X:Cx} {pins:List (Addr × Obj)} {σ:St} {H:Hp} {s:Shared} {a C dx:Addr} {fs:List (Str × V)} {f:Str} {v:V} {A:Around} {E:Value → Shared → Prop}
theorem Inv.made (I:Inv X pins σ H s):Inv X pins σ (upd (upd H s.heap.objs.size (.own (s.heap.objs.size + 1))) (s.heap.objs.size + 1) (.ins C s.heap.objs.size []))
    { s with heap:=(s.heap.push PySem.W.emptyDict).push (PySem.W.instObj C s.heap.objs.size) }:=by
  have e1:(s.heap.push PySem.W.emptyDict).get? s.heap.objs.size = some PySem.W.emptyDict:=Heap.get?_push_size s.heap rfl
  have e2:((s.heap.push PySem.W.emptyDict).push (PySem.W.instObj C s.heap.objs.size)).get? (s.heap.objs.size + 1) = some (PySem.W.instObj C s.heap.objs.size):=by
    have:=Heap.get?_push_size (s.heap.push PySem.W.emptyDict) (o:=PySem.W.instObj C s.heap.objs.size) rfl
    rwa [Heap.size_push] at this
  have e3:(s.heap.push PySem.W.emptyDict).Ns s.heap.objs.size (fun _=>none):=⟨PySem.W.emptyDict,#[],_,e1,rfl,(fun e he=>absurd he (by simp)),fun _=>rfl⟩
  have I1:=I.laid (a:=s.heap.objs.size) (o:=.own (s.heap.objs.size + 1)) (h':=s.heap.push PySem.W.emptyDict) (t':=s.toks) (fun b u q=>Heap.get?_push_of_some _ q) (Nat.le_refl _) ⟨_,e1⟩
  refine I1.laid (a:=s.heap.objs.size + 1) (o:=.ins C s.heap.objs.size []) (t':=s.toks) (fun b u q=>Heap.get?_push_of_some _ q) (Nat.le_of_eq (Heap.size_push _ _)) ?_
  have ne:s.heap.objs.size ≠ s.heap.objs.size + 1:=Nat.ne_of_lt (Nat.lt_succ_self _)
  refine ⟨by rw [jaA ne,jaF],Nat.zero_le _,ne,e2,fun _=>none,(Heap.Ns1.of_empty e3).at fun o q=>Heap.get?_push_of_some _ q,fun _=>True.intro,fun y hy=>absurd rfl hy⟩
end
section
variable {X:Cx} {o e value:Expr} {f:Str} {pos pos' tpos:Pos} {ta tv:TE}
end
section
variable {X:Cx} {pins:List (Addr × Obj)} {σ:St} {H:Hp} {s:Shared} {A:Around} {E:Value → Shared → Prop} {Q:Value → Shared → Prop} {c:Value} {b:Bool}
inductive TyOf (K:PySem.W.Frag) (H:Hp):V → Value → Prop where
  | non:TyOf K H .non (.type "NoneType")
  | bl (x:Bool):TyOf K H (.bl x) (.type "bool")
  | int (i:Int):TyOf K H (.int i) (.type "int")
  | str (x:Str):TyOf K H (.str x) (.type "str")
  | flt (x:UInt64):TyOf K H (.flt x) (.type "float")
  | lst {a:Addr} {xs:List V} (e:H a = some (.lst xs)):TyOf K H (.ref a) (.type "list")
  | frz {a:Addr} {o:Obj} {xs:List V} (e:H a = some (.frz o (.lst xs))):TyOf K H (.ref a) (.type "list")
  | tup {a:Addr} {xs:List V} (e:H a = some (.tup xs)):TyOf K H (.ref a) (.type "tuple")
  | dK {a:Addr} {kvs:List (Key × V)} (e:H a = some (.dK kvs)):TyOf K H (.ref a) (.type "dict")
  | dT {a:Addr} {kvs:List (List Key × V)} (e:H a = some (.dT kvs)):TyOf K H (.ref a) (.type "dict")
  | ins {a C dx:Addr} {fs:List (Str × V)} (e:H a = some (.ins C dx fs)) (cl:Cls K C) (ha:PySem.W.findIn K (.ref C) "__class__" = some (some (.builtin "object.__class__")))
      (hn:PySem.W.specialIn K (.builtin "object.__class__") "__get__" = some (some (.builtin "getset_descriptor.__get__"))) (htk:PySem.W.takesIn K (.builtin "object.__class__") = some true)
      (hm:PySem.W.mroIn K C (.type "object") = some true):TyOf K H (.ref a) (.ref C)
theorem jfe {x:V} {u t:Value} (I:Inv X pins σ H s) (rx:RelV x u) (ty:TyOf X.K H x t) (e:PySem.W.kitOne X.K t c = some b) (h:∀ tk,Q (.bool b) { s with toks:=tk }) :
    wpAny (model X.prog X.w) A (call (.builtin "isinstance") [u,c]) Q E s:=by
  cases ty with
  | non=>cases (show u = Value.none from rx); exact PySem.W.kia_one PySem.W.kitx_none I.kIn True.intro e (fun z=>nomatch z) h
  | bl y=>cases (show u = Value.bool y from rx); exact PySem.W.kia_one PySem.W.kitx_bool I.kIn True.intro e (fun z=>nomatch z) h
  | int i=>obtain ⟨t,q⟩:=(show ∃ t,u = Value.int i t from rx); cases q; exact PySem.W.kia_one PySem.W.kitx_int I.kIn True.intro e (fun z=>nomatch z) h
  | str y=>obtain ⟨t,q⟩:=(show ∃ t,u = Value.str y t from rx); cases q; exact PySem.W.kia_one PySem.W.kitx_str I.kIn True.intro e (fun z=>nomatch z) h
  | flt y=>obtain ⟨t,q⟩:=(show ∃ t,u = Value.float y t from rx); cases q; exact PySem.W.kia_one PySem.W.kitx_float I.kIn True.intro e (fun z=>nomatch z) h
  | @lst a xs ea=>
    cases (show u = Value.ref a from rx)
    obtain ⟨_,_,n,_,h1⟩:=(show ObjOk X.prog X.w H s.heap a (.lst xs) from I.hok a _ ea)
    exact PySem.W.kia_one PySem.W.kitx_list I.kIn ⟨_,h1,rfl⟩ e (fun z=>nomatch z) h
  | @frz a ob xs ea=>
    cases (show u = Value.ref a from rx)
    obtain ⟨_,_,_,n,_,h1⟩:=(show ObjOk X.prog X.w H s.heap a (.frz ob (.lst xs)) from I.hok a _ ea)
    exact PySem.W.kia_one PySem.W.kitx_list I.kIn ⟨_,h1,rfl⟩ e (fun z=>nomatch z) h
  | @tup a xs ea=>
    cases (show u = Value.ref a from rx)
    obtain ⟨_,_,_,p⟩:=(show ObjOk X.prog X.w H s.heap a (.tup xs) from I.hok a _ ea)
    obtain ⟨o,h1,h2,_⟩:=p
    exact PySem.W.kia_one PySem.W.kitx_tuple I.kIn ⟨o,h1,h2⟩ e (fun z=>nomatch z) h
  | @dK a kvs ea=>
    cases (show u = Value.ref a from rx)
    obtain ⟨_,_,vs,_,p⟩:=(show ObjOk X.prog X.w H s.heap a (.dK kvs) from I.hok a _ ea)
    obtain ⟨o,es,ep,h1,h2,_⟩:=p
    exact PySem.W.kia_one PySem.W.kitx_dict I.kIn ⟨o,h1,h2.1⟩ e (fun z=>nomatch z) h
  | @dT a kvs ea=>
    cases (show u = Value.ref a from rx)
    obtain ⟨_,_,xs,_,o,es,ep,h1,h2,_⟩:=(show ObjOk X.prog X.w H s.heap a (.dT kvs) from I.hok a _ ea)
    exact PySem.W.kia_one PySem.W.kitx_dict I.kIn ⟨o,h1,h2.1⟩ e (fun z=>nomatch z) h
  | @ins a C dx fs ea cl ha hn htk hm=>
    cases (show u = Value.ref a from rx)
    obtain ⟨mA,O,_⟩:=jrv I.hok ea
    obtain ⟨od,J,_⟩:=O.look
    exact PySem.W.kia_one (PySem.W.kitx_own (cl.get _) cl.hd ha hn htk hm) I.kIn J e (fun z=>nomatch z) h
end
end L2
namespace L2
open PySem PySem.Spec PyProof.Rows
structure Room (k:Nat) (A:Around):Prop where
  hd:A.handled = none
  dp:A.depth + 3 * k + 5 < recursionLimit
  un:A.units + 16 * k + 200 < cLine
theorem Room.mono {j k:Nat} {A:Around} (r:Room k A) (h:j ≤ k):Room j A:=⟨r.hd,by have:=r.dp; omega,by have:=r.un; omega⟩
theorem Room.deeper {k:Nat} {A:Around} (r:Room (k + 1) A) (env:Env):Room k (A.deeper env):=
  ⟨r.hd,by have:=r.dp; show A.depth + 1 + 3 * k + 5 < _; omega,by have:=r.un; show A.units + 3 + 16 * k + 200 < _; omega⟩
theorem Room.in1 {k:Nat} {A:Around} (r:Room (k + 1) A):Room k A.in1:=
  ⟨r.hd,by have:=r.dp; show A.depth + 3 * k + 5 < _; omega,by have:=r.un; show A.units + 1 + 16 * k + 200 < _; omega⟩
theorem Room.depth {k:Nat} {A:Around} (r:Room k A):A.depth < recursionLimit:=by have:=r.dp; omega
theorem Room.units {k:Nat} {A:Around} (r:Room k A):A.units + 64 < cLine:=by have:=r.un; omega
def jwT:TA:=fun _ H Q=>Q [] H
def juO (ta:TE) (tr:TA):TA:=fun σ H Q=>ta σ H fun x H1=>tr σ H1 fun xs H2=>Q (x :: xs) H2
section
variable {X:Cx} {e:Expr} {es:List Expr} {te:TE} {t:TA} {pos:Pos}
theorem jhw:PA X [] jwT:=fun _ _ _ _ H Q I h=>Calls.spliced_nil ⟨[],H,I,.nil,h⟩
theorem jdF (ha:PE X e te) (hr:PA X es t) (hs:starEach (e :: es) X.env = (false,eval e X.env) :: starEach es X.env:=by rfl):PA X (e :: es) (juO te t):=by
  intro pos pins s σ H Q I h
  rw [hs]
  show wpAny _ _ (spliced ((false,eval e X.env) :: backTo pos (starEach es X.env))) _ _ s
  refine Calls.spliced_cons (thn (ha pins s σ H _ I h) fun u s1 ⟨x,H1,I1,r1,q1⟩=>?_)
  exact thn (hr pos pins s1 σ H1 _ I1 q1) fun us s2 ⟨xs,H2,I2,r2,q2⟩=>⟨x :: xs,H2,I2,.cons r1 r2,q2⟩
def jwP (t:TA):TE:=fun σ H Q=>t σ H fun xs H1=>xs.length ≤ sizeLine ∧ ∀ p,H1 p = none → Q (.ref p) (upd H1 p (.tup xs))
def jwU (t:TA):TE:=fun σ H Q=>t σ H fun xs H1=>xs.length ≤ sizeLine ∧ ∀ p,H1 p = none → Q (.ref p) (upd H1 p (.lst xs))
theorem jsY {x1} (h:PA X es t):PE X (.Tuple es x1 pos) (jwP t):=by
  intro pins s σ H Q I hq
  refine wpAny_Tuple_spliced (thn (h pos pins s σ H _ I hq) fun us s1 ⟨xs,H1,I1,r,z,q⟩=>⟨by rw [← r.length]; exact z,?_⟩)
  have hf:H1 s1.heap.objs.size = none:=I1.hok.fresh (Nat.le_refl _)
  refine ⟨.ref s1.heap.objs.size,upd H1 s1.heap.objs.size (.tup xs),I1.laid (t':=s1.toks) (fun b u e=>Heap.get?_push_of_some _ e) (Nat.le_refl _) ?_,rfl,q _ hf⟩
  exact ⟨z,us,r,⟨_,Heap.get?_push_size _ rfl,rfl,_,rfl⟩⟩
theorem jpO (h:PA X es t):PE X (.List es pos) (jwU t):=by
  intro pins s σ H Q I hq
  refine wpAny_List_spliced (thn (h pos pins s σ H _ I hq) fun us s1 ⟨xs,H1,I1,r,z,q⟩=>⟨by rw [← r.length]; exact z,?_⟩)
  have hf:H1 s1.heap.objs.size = none:=I1.hok.fresh (Nat.le_refl _)
  refine ⟨.ref s1.heap.objs.size,upd H1 s1.heap.objs.size (.lst xs),I1.laid (t':=s1.toks) (fun b u e=>Heap.get?_push_of_some _ e) (Nat.le_refl _) ?_,rfl,q _ hf⟩
  exact ⟨z,us,0,r,Heap.get?_push_size _ rfl⟩
end
abbrev Sp:=List V → Hp → VK → XK → Prop
abbrev CXT:=List Env → Hp → Shared → XK → Value → Shared → Prop
structure Env0 (P:Program) (w:World) (K:PySem.W.Frag) (mg:Str → Option Value) (base:Heap) (A:Around) (outer:List Env) (s:Shared) (H:Hp):Prop where
  frames:A.frames = some outer
  mod:Mod K mg base
  bs:∀ b o,base.get? b = some o → s.heap.get? b = some o ∧ H b = none
  bsz:base.objs.size ≤ s.heap.objs.size
  funs:s.heap.FunFrames base outer
  frf:∀ b ∈ frs outer,H b = none
  hok:HOk P w H s.heap
  bare:AllBare s.gens
def CE (outer:List Env) (P:Program) (w:World) (H:Hp) (s:Shared) (Q:VK) (u:Value) (s':Shared):Prop:=
  ∃ v H',s'.os = s.os ∧ AllBare s'.gens ∧ Un (frs outer) [] H H' s.heap s'.heap ∧ HOk P w H' s'.heap ∧ RelV v u ∧ Q v H'
def CR (CX:CXT) (outer:List Env) (P:Program) (w:World) (H:Hp) (s:Shared) (Q:VK) (E:XK) (r:Result) (s':Shared):Prop:=
  match r with
  | .ok (.ret u)=>CE outer P w H s Q u s'
  | .ok _=>False
  | .error e=>CX outer H s E e s'
structure FnOk (P:Program) (w:World) (K:PySem.W.Frag) (mg:Str → Option Value) (base:Heap) (CX:CXT) (k:Nat) (f:Addr) (fd:FuncData) (ps:List Str) (sp:Sp):Prop where
  len:∀ vs H Q E,sp vs H Q E → vs.length = ps.length
  run:∀ (A:Around) (outer:List Env) (s:Shared) (H:Hp) (args:Args) (us:List Value) (vs:List V) (Q:VK) (E:XK),Room k A → Env0 P w K mg base A outer s H → BindsTo s fd args (ps.zip us) → Vals vs us → sp vs H Q E →
    codeAny (model P w) A (.call (.ref f) args) (CR CX outer P w H s Q E) s
theorem FnOk.mono {P:Program} {w:World} {K:PySem.W.Frag} {mg:Str → Option Value} {base:Heap} {CX:CXT} {j k:Nat} {f:Addr} {fd:FuncData} {ps:List Str} {sp:Sp} (F:FnOk P w K mg base CX j f fd ps sp) (h:j ≤ k) :
    FnOk P w K mg base CX k f fd ps sp:=⟨F.len,fun A outer s H args us vs Q E hr=>F.run A outer s H args us vs Q E (hr.mono h)⟩
theorem FnOk.imp {P:Program} {w:World} {K:PySem.W.Frag} {mg:Str → Option Value} {base:Heap} {CX:CXT} {k:Nat} {f:Addr} {fd:FuncData} {ps:List Str} {sp sp':Sp} (F:FnOk P w K mg base CX k f fd ps sp)
    (h:∀ vs H Q E,sp' vs H Q E → sp vs H Q E):FnOk P w K mg base CX k f fd ps sp':=
  ⟨fun vs H Q E q=>F.len vs H Q E (h _ _ _ _ q),fun A outer s H args us vs Q E hr he hb hv hs=>F.run A outer s H args us vs Q E hr he hb hv (h _ _ _ _ hs)⟩
theorem Env0.in1 {P:Program} {w:World} {K:PySem.W.Frag} {mg:Str → Option Value} {base:Heap} {A:Around} {outer:List Env} {s:Shared} {H:Hp} (e:Env0 P w K mg base A outer s H) :
    Env0 P w K mg base A.in1 outer s H:=⟨e.frames,e.mod,e.bs,e.bsz,e.funs,e.frf,e.hok,e.bare⟩
section
variable {X:Cx} {pins:List (Addr × Obj)} {σ:St} {H:Hp} {s s':Shared}
theorem Inv.env0 (I:Inv X pins σ H s):Env0 X.prog X.w X.K X.mg X.base X.A X.stack s H:=
  ⟨I.ok.frames,I.ok.mod,I.bs,Nat.le_trans I.ok.bsz I.sz,I.stack,I.stkFree,I.hok,I.bare⟩
theorem Inv.after {Q:VK} {u:Value} (I:Inv X pins σ H s) (h:CE X.stack X.prog X.w H s Q u s'):EP X pins σ Q u s':=by
  obtain ⟨v,H',os,bare,un,hok,r,q⟩:=h
  obtain ⟨hh,g,d,t,os'⟩:=s'
  obtain rfl:os' = s.os:=os
  exact ⟨v,H',I.call (h':=hh) (g':=g) (d':=d) (t':=t) (ch:=[]) un hok bare (fun b z=>absurd z (by simp)),r,q⟩
end
def juP (sp:Sp) (dvs:List V) (E:XK) (t:TA):TE:=fun σ H Q=>t σ H fun vs H1=>sp (vs ++ dvs) H1 Q E
def Binds (K:PySem.W.Frag) (fd:FuncData) (ps:List Str) (ds:List Value):Prop:=
  ∀ (s:Shared) (us:List Value),K.In s.heap → (us ++ ds).length = ps.length → BindsTo s fd ⟨us,[]⟩ (ps.zip (us ++ ds))
theorem Binds.all {K:PySem.W.Frag} {fd:FuncData} {ps:List Str} (h:∀ us:List Value,us.length = ps.length → bindArgs fd ⟨us,[]⟩ = pure (ps.zip us)):Binds K fd ps []:=fun s us _ hl=>by
  rw [List.append_nil] at hl ⊢
  exact .of_eq (h us hl)
def jle (CX:CXT) (X:Cx) (E:XK):Prop:=∀ (pins:List (Addr × Obj)) (σ:St) (H:Hp) (s:Shared) (e:Value) (s':Shared),Inv X pins σ H s → CX X.stack H s E e s' → X.xe e s'
section
variable {X:Cx} {CX:CXT} {k:Nat} {f C:Addr} {fd:FuncData} {ps:List Str} {sp:Sp} {dvs:List V} {ds:List Value} {E:XK} {x m:Str} {p pos apos:Pos} {e o:Expr} {es:List Expr} {ta:TE} {t:TA}
theorem jsK {pins:List (Addr × Obj)} {σ:St} {H:Hp} {s:Shared} {Q:VK} {us:List Value} {vs:List V} (F:FnOk X.prog X.w X.K X.mg X.base CX k f fd ps sp) (hr:Room k X.A) (hb:Binds X.K fd ps ds) (hd:Vals dvs ds) (hx:jle CX X E)
    (I:Inv X pins σ H s) (r:Vals vs us) (h:sp (vs ++ dvs) H Q E):wpAny (model X.prog X.w) X.A (call (.ref f) us) (EP X pins σ Q) X.xe s:=by
  have r2:Vals (vs ++ dvs) (us ++ ds):=r.append hd
  have hl:(us ++ ds).length = ps.length:=by rw [← r2.length]; exact F.len _ _ _ _ h
  refine wpAny_call (codeAny_mono (F.run X.A X.stack s H ⟨us,[]⟩ (us ++ ds) (vs ++ dvs) Q E hr I.env0 (hb s us I.kIn hl) r2 h) fun r s' hq=>?_)
  cases r with
  | error e=>exact hx pins σ H s e s' I hq
  | ok fl=>
    cases fl with
    | ret u=>exact I.after hq
    | next=>exact False.elim hq
    | brk=>exact False.elim hq
    | cont=>exact False.elim hq
theorem jq1 (F:FnOk X.prog X.w X.K X.mg X.base CX k f fd ps sp) (hr:Room k X.A) (hg:Gl X x) (hm:X.mg x = some (.ref f)) (hk:PySem.W.keepIn X.K (.ref f) = true) (hb:Binds X.K fd ps ds) (hd:Vals dvs ds) (hx:jle CX X E)
    (ha:PA X (e :: es) t) (hdb:(x == ("__debug__":Str)) = false:=by decide) (he:starEach (e :: es) X.env = (false,eval e X.env) :: starEach es X.env:=by rfl) (hpl:(backTo pos (starEach es X.env)).any (·.1) = false:=by rfl) :
    PE X (.Call (.Name x p) (e :: es) [] pos) (juP sp dvs E t):=by
  intro pins s σ H Q I h
  refine wpAny_Call_Name_kw (jfz I hg hm ?_ hdb)
  refine PySem.W.callWith_K (h₀:=X.base) I.ok.mod.kin hk (thn (ha pos pins s σ H _ I h) fun us s1 ⟨vs,H1,I1,r,q⟩=>⟨I1.kIn,?_⟩) he hpl
  exact jsK F hr hb hd hx I1 r q
structure Mk (K:PySem.W.Frag) (C f:Addr):Prop where
  makes:PySem.W.makesIn K C = true
  init:PySem.W.findIn K (.ref C) "__init__" = some (some (.ref f))
  fn:PySem.W.isFn K (.ref f) = true
  kp:PySem.W.keepIn K (.ref C) = true
end
section
variable {X:Cx} {CX:CXT} {k:Nat} {f C:Addr} {fd:FuncData} {ps ks:List Str} {sp:Sp} {E:XK} {x m:Str} {p pos apos kpos:Pos} {e o:Expr} {es:List Expr} {kws:List Keyword} {te ta:TE} {t tk:TA} {nm:Option Str}
structure KBinds (K:PySem.W.Frag) (fd:FuncData) (ps ks:List Str) (g:List Value → List Value → List Value) (gV:List V → List V → List V):Prop where
  to:∀ (s:Shared) (us ws:List Value),K.In s.heap → (g us ws).length = ps.length → BindsTo s fd ⟨us,ks.zip ws⟩ (ps.zip (g us ws))
  rel:∀ {vs:List V} {us:List Value} {zs:List V} {ws:List Value},Vals vs us → Vals zs ws → Vals (gV vs zs) (g us ws)
variable {g:List Value → List Value → List Value} {gV:List V → List V → List V}
end
structure FnScope (N P:List Str) (sc:Scope):Prop where
  kind:sc.kind = .function
  co:sc.isCoroutine = false
  gen:sc.isGenerator = false
  nd:N.Nodup
  pre:N.take P.length = P
  par:∀ x ∈ P,sc.names.lookup x = some .local ∨ sc.names.lookup x = some .cell
  nofree:∀ y ∈ sc.names,y.2 ≠ .free
theorem jjv {kindOf:Str → Option NameKind} {x:Str}:∀ {binds:List (Str × Value)} {m:Str → Option Value},(∀ v,(x,v) ∉ binds) → bindL kindOf binds m x = m x
  | [],_,_=>rfl
  | (n,v) :: r,m,h=>by
    unfold bindL
    rw [jjv fun w hw=>h w (List.mem_cons_of_mem _ hw)]
    split
    · have:x ≠ n:=by rintro rfl; exact h v List.mem_cons_self
      simp [this]
    · rfl
theorem jjx {kindOf:Str → Option NameKind} {x:Str}:∀ {binds:List (Str × Value)} {m:Str → Option Value},(∀ v,(x,v) ∉ binds) → bindC kindOf binds m x = m x
  | [],_,_=>rfl
  | (n,v) :: r,m,h=>by
    unfold bindC
    rw [jjx fun w hw=>h w (List.mem_cons_of_mem _ hw)]
    split
    · rfl
    · have:x ≠ n:=by rintro rfl; exact h v List.mem_cons_self
      simp [this]
theorem jjw {kindOf:Str → Option NameKind} {x:Str} {v:Value}:∀ {P:List Str} {vs:List Value} {i:Nat} {m:Str → Option Value},P.Nodup → P[i]? = some x → vs[i]? = some v → kindOf x = some .local →
    bindL kindOf (P.zip vs) m x = some v
  | [],_,_,_,_,h,_,_=>by simp at h
  | _ :: _,[],_,_,_,_,h,_=>by simp at h
  | p :: P,w :: vs,0,m,nd,h1,h2,hk=>by
    simp at h1 h2; subst h1; subst h2
    show bindL kindOf ((p,w) :: P.zip vs) m p = _
    unfold bindL
    rw [jjv fun v hv=>(List.nodup_cons.mp nd).1 (List.of_mem_zip hv).1,if_pos hk]
    simp
  | p :: P,w :: vs,i + 1,m,nd,h1,h2,hk=>by
    show bindL kindOf ((p,w) :: P.zip vs) m x = _
    unfold bindL
    exact jjw (i:=i) (List.nodup_cons.mp nd).2 (by simpa using h1) (by simpa using h2) hk
theorem jjy {kindOf:Str → Option NameKind} {x:Str} {v:Value}:∀ {P:List Str} {vs:List Value} {i:Nat} {m:Str → Option Value},P.Nodup → P[i]? = some x → vs[i]? = some v → kindOf x ≠ some .local →
    bindC kindOf (P.zip vs) m x = some v
  | [],_,_,_,_,h,_,_=>by simp at h
  | _ :: _,[],_,_,_,_,h,_=>by simp at h
  | p :: P,w :: vs,0,m,nd,h1,h2,hk=>by
    simp at h1 h2; subst h1; subst h2
    show bindC kindOf ((p,w) :: P.zip vs) m p = _
    unfold bindC
    rw [jjx fun v hv=>(List.nodup_cons.mp nd).1 (List.of_mem_zip hv).1,if_neg hk]
    simp
  | p :: P,w :: vs,i + 1,m,nd,h1,h2,hk=>by
    show bindC kindOf ((p,w) :: P.zip vs) m x = _
    unfold bindC
    exact jjy (i:=i) (List.nodup_cons.mp nd).2 (by simpa using h1) (by simpa using h2) hk
def start (N:List Str) (vs:List V):St:=vs.map some ++ List.replicate (N.length - vs.length) none
def jg9 (CX:CXT) (P:Program) (w:World) (K:PySem.W.Frag) (mg:Str → Option Value) (base:Heap) (N:List Str) (qual:Str) (scope:Scope) (f:Addr) (cd:Value) (A:Around) (outer:List Env) (s:Shared) (H:Hp) (E:XK):Cx where
  prog:=P
  w:=w
  K:=K
  mg:=mg
  base:=base
  A:=A.deeper (envOfC qual scope s.heap.objs.size f cd)
  N:=N
  s₀:=s
  H₀:=H
  env:=envOfC qual scope s.heap.objs.size f cd
  outer:=outer
  stack:=envOfC qual scope s.heap.objs.size f cd :: outer
  ex:=[]
  calm:=true
  fn:=fun _=>true
  pn:=[]
  xe:=fun e s'=>wpAny (model P w) (A.deeper (envOfC qual scope s.heap.objs.size f cd)) (leaving (envOfC qual scope s.heap.objs.size f cd) e) (fun _ s''=>CX outer H s E e s'') (fun e' s''=>CX outer H s E e' s'') s'
theorem jlb {sc:Scope} {n:Nat} {x:Str} (h:sc.names.lookup x = some .cell):∃ c,(cellsFrom n sc.names []).lookup x = some c:=by
  have q:=PySem.W.cellsFrom_some sc.names n [] (.inl h)
  exact Option.isSome_iff_exists.mp q
theorem jjk {CX:CXT} {P:Program} {w:World} {K:PySem.W.Frag} {mg:Str → Option Value} {base:Heap} {N ps:List Str} {qual:Str} {scope:Scope} {f:Addr} {cd:Value} {A:Around} {outer:List Env} {s s1:Shared} {H:Hp} {E:XK} {us:List Value} {vs:List V}
    (S:FnScope N ps scope) (hd:A.handled = none) (e0:Env0 P w K mg base A outer s H) (hl:vs.length = ps.length) (r:Vals vs us)
    (x:InCallC s s.heap.objs.size (bindL (envOfC qual scope s.heap.objs.size f cd).kindOf (ps.zip us) fun _=>none) (cellsFrom (s.heap.objs.size + 1) scope.names []) (bindC (envOfC qual scope s.heap.objs.size f cd).kindOf (ps.zip us) fun _=>none) s1) :
    Inv (jg9 CX P w K mg base N qual scope f cd A outer s H E) [] (start N vs) H s1:=by
  have hpl:ps.length ≤ N.length:=by have:=congrArg List.length S.pre; rw [List.length_take] at this; omega
  obtain ⟨h1,tk,rfl,hk⟩:=x.done
  have noA:∀ b:Addr,b ∉ (jg9 CX P w K mg base N qual scope f cd A outer s H E).ex:=fun b z=>absurd (show b ∈ ([]:List Addr) from z) (by simp)
  refine ⟨⟨e0.mod,S.kind,rfl,rfl,Nat.le_refl _,fun y z c h1 h2=>?_,fun y hy=>?_,fun y c _ h=>?_,fun _=>hd,Around.frames_deeper e0.frames,.inr ⟨rfl,rfl⟩,fun b z=>absurd z (noA b),e0.bs,e0.bsz,fun b _ _=>noA b,fun b z=>absurd z (noA b),e0.funs,e0.frf⟩,
    rfl,e0.bare,Un.kept hk,⟨_,x.toInCall.ns,fun i y v h1 h2 h3=>?_⟩,fun y c h=>⟨_,x.cell y c h⟩,e0.hok.fresh (Nat.le_refl _),fun y c h=>?_,fun p hp=>absurd (show p ∈ ([]:List (Addr × Obj)) from hp) (by simp),e0.hok.kept hk,?_⟩
  · exact name_of_addr x.apart (PySem.mem_of_lookup h1) (PySem.mem_of_lookup h2)
  · have hy:scope.names.lookup y = some .cell ∨ scope.names.lookup y = some .free:=hy
    rcases hy with hy | hy
    · exact jlb hy
    · exact absurd rfl (S.nofree _ (PySem.mem_of_lookup hy))
  · exact Nat.le_of_lt (x.above y c (PySem.mem_of_lookup h))
  · have hi:i < vs.length:=by
      unfold start at h2
      by_cases hi:i < vs.length
      · exact hi
      · rw [List.getElem?_append_right (by simpa using hi)] at h2
        rw [List.getElem?_replicate] at h2
        split at h2 <;> cases h2
    have ha:vs[i]? = some v:=by
      unfold start at h2
      rw [List.getElem?_append_left (by simpa using hi),List.getElem?_map] at h2
      cases e:vs[i]? with
      | none=>rw [e] at h2; cases h2
      | some a=>rw [e] at h2; cases h2; rfl
    obtain ⟨u,hu,rv⟩:=r.get ha
    have hp:ps[i]? = some y:=by
      rw [← S.pre,List.getElem?_take_of_lt (by omega)]; exact h1
    have ndP:ps.Nodup:=by rw [← S.pre]; exact S.nd.sublist (List.take_sublist _ _)
    refine ⟨u,rv,?_⟩
    rcases S.par y (List.mem_of_getElem? hp) with k | k
    · exact .inl ⟨k,jjw ndP hp hu k⟩
    · obtain ⟨c,e⟩:=jlb (n:=s.heap.objs.size + 1) k
      refine .inr ⟨.inl k,c,e,?_⟩
      have q:=x.cell y c e
      rw [jjy ndP hp hu (by show scope.names.lookup y ≠ _; rw [k]; decide)] at q
      exact q
  · exact e0.hok.fresh (Nat.le_of_lt (x.above y c (PySem.mem_of_lookup h)))
  · unfold start
    show _ = N.length
    rw [List.length_append,List.length_map,List.length_replicate]
    omega
theorem jrB {CX:CXT} {P:Program} {w:World} {K:PySem.W.Frag} {mg:Str → Option Value} {base:Heap} {k:Nat} {f:Addr} {name qual:Str} {params:Arguments} {body:List Stmt} {scope:Scope} {dV kV doc pm cdv ct oc:Value} {an od:Option Addr}
    {osl:Array (Option Value)} {N ps:List Str} {sp:Sp} (lk:K.lookup f = some ⟨oc,od,.func (PySem.W.fnOf name qual params body scope dV kV doc pm an cdv ct),osl⟩) (hcd:PySem.W.codeIn K cdv qual = true) (S:FnScope N ps scope)
    (len:∀ vs H Q E,sp vs H Q E → vs.length = ps.length)
    (hbody:∀ (A:Around) (outer:List Env) (s:Shared) (H:Hp) (vs:List V) (Q:VK) (E:XK),Room k (A.deeper (envOfC qual scope s.heap.objs.size f cdv)) → sp vs H Q E →
      ∃ t,PSs (jg9 CX P w K mg base N qual scope f cdv A outer s H E) body t ∧ t { nx:=fun _ H'=>Q .non H',rt:=Q } (start N vs) H) :
    FnOk P w K mg base CX (k + 1) f (PySem.W.fnOf name qual params body scope dV kV doc pm an cdv ct) ps sp:=by
  refine ⟨len,fun A outer s H args us vs Q E hr e0 hb r hsp=>?_⟩
  have hl:=len _ _ _ _ hsp
  have KX:K.In s.heap:=e0.mod.kin.keeps fun b o e=>(e0.bs b o e).1
  have lim:s.heap.NoLimit:=e0.mod.nolimit.keeps fun b o e=>(e0.bs b o e).1
  have hkind:∀ y ∈ ps.zip us,scope.names.lookup y.1 = some .local ∨ (scope.names.lookup y.1 = some .cell ∧ ((cellsFrom (s.heap.objs.size + 1) scope.names []).lookup y.1).isSome = true):=fun ⟨n,v⟩ hy=>by
    rcases S.par n (List.of_mem_zip hy).1 with q | q
    · exact .inl q
    · exact .inr ⟨q,PySem.W.cellsFrom_some _ _ _ (.inl q)⟩
  refine codeAny_call_function hr.depth (KX _ _ lk) rfl S.co S.gen rfl (PySem.W.codeRec_of KX hcd) (hb _ _ _ _ ?_)
  refine wpAny_newFunctionEnv_cells S.kind hkind fun env he s1 x=>?_
  subst he
  refine ⟨lim.keeps x.toInCall.keep,codeAny_func ?_⟩
  obtain ⟨t,ht,hq⟩:=hbody A outer s H vs Q E (hr.deeper _) hsp
  have I:Inv (jg9 CX P w K mg base N qual scope f cdv A outer s H E) [] (start N vs) H s1:=jjk S hr.hd e0 hl r x
  refine wpAny_mono (ht [] s1 (start N vs) H _ I hq) (fun fl s' hs=>?_) fun e s' hs=>hs
  have fin:∀ {σ':St} {H':Hp} {v:V} {u:Value},Inv (jg9 CX P w K mg base N qual scope f cdv A outer s H E) [] σ' H' s' → RelV v u → Q v H' → CE outer P w H s Q u s':=
    fun {σ' H' v u} J rv q=>⟨v,H',J.os,J.bare,J.base,J.hok,rv,q⟩
  cases fl with
  | ret u=>
    obtain ⟨v,σ',H',J,rv,q⟩:=hs
    exact fin J rv q
  | next=>
    obtain ⟨σ',H',J,q⟩:=hs
    exact fin (v:=V.non) (u:=Value.none) J rfl q
  | brk=>
    obtain ⟨_,_,_,q⟩:=hs
    exact False.elim q
  | cont=>
    obtain ⟨_,_,_,q⟩:=hs
    exact False.elim q
end L2
namespace L2
open PySem PySem.Spec PyProof.Rows
section
variable {X:Cx} {x:Str} {p pos:Pos} {e:Expr} {es:List Expr} {t:TA} {id T:String} {r:List V → Hp → VK → Prop}
def tCB (r:List V → Hp → VK → Prop) (t:TA):TE:=fun σ H Q=>t σ H fun vs H1=>r vs H1 Q
theorem jgc (hc:CallR X (.builtin id) r) (hg:Gl X x) (hm:X.mg x = none) (hv:bootBuiltins x = some (.builtin id)) (ha:PA X (e :: es) t) (hn:x ≠ "__name__":=by decide) (hdb:(x == ("__debug__":Str)) = false:=by decide)
    (he:starEach (e :: es) X.env = (false,eval e X.env) :: starEach es X.env:=by rfl) (hpl:(backTo pos (starEach es X.env)).any (·.1) = false:=by rfl):PE X (.Call (.Name x p) (e :: es) [] pos) (tCB r t):=by
  intro pins s σ H Q I h
  refine wpAny_Call_Name_kw (jje I hg hm hv ?_ hn hdb)
  exact PyProof.Rows.callWith_builtin1 (thn (ha pos pins s σ H _ I h) fun us s1 ⟨vs,H1,I1,r1,q1⟩=>hc pins s1 σ H1 vs us Q I1 r1 q1) he hpl
theorem jmB (hc:CallR X (.type T) r) (hg:Gl X x) (hm:X.mg x = none) (hv:bootBuiltins x = some (.type T)) (ha:PA X (e :: es) t) (hn:x ≠ "__name__":=by decide) (hdb:(x == ("__debug__":Str)) = false:=by decide)
    (he:starEach (e :: es) X.env = (false,eval e X.env) :: starEach es X.env:=by rfl) (hpl:(backTo pos (starEach es X.env)).any (·.1) = false:=by rfl):PE X (.Call (.Name x p) (e :: es) [] pos) (tCB r t):=by
  intro pins s σ H Q I h
  refine wpAny_Call_Name_kw (jje I hg hm hv ?_ hn hdb)
  exact PyProof.Rows.callWith_type1 (thn (ha pos pins s σ H _ I h) fun us s1 ⟨vs,H1,I1,r1,q1⟩=>hc pins s1 σ H1 vs us Q I1 r1 q1) he hpl
end
end L2
namespace HT
open PySem PyProof.Rows
section
open PySem.SeqAt
open PySem.AutoSeq1 (wpAny_loadPart')
open PySem.MeetsSeq PySem.MeetsSeq2 PySem.MeetsSeq3
end
section
variable {prog:Program} {w:World} {A:Around} {E:Value → Shared → Prop} {s:Shared}
theorem jrO {t b:Addr} {vs ws:List Value} {Q:Value → Shared → Prop} (ht:IsTup s.heap t vs.toArray) (hb:IsTup s.heap b ws.toArray) (hv:vs ≠ [])
    (h1:ws = [] → Q (.ref t) s) (h2:ws ≠ [] → Q (.ref s.heap.objs.size) { s with heap:=s.heap.push { cls:=.type "tuple",data:=.seq (vs ++ ws).toArray } })
    (hsz:vs.length + ws.length ≤ sizeLine):wpAny (model prog w) A (binaryOp .Add (.ref t) (.ref b)) Q E s:=by
  obtain ⟨⟨cls,dd,data,sl⟩,ho,hc,n,hd⟩:=id ht
  obtain ⟨⟨cls2,dd2,data2,sl2⟩,ho2,hc2,n2,hd2⟩:=id hb
  simp only at hc hd hc2 hd2
  subst hc hd hc2 hd2
  have e:vs.toArray ++ ws.toArray = (vs ++ ws).toArray:=by simp
  by_cases hw:ws = []
  · exact concat_meets ⟨_,ho,rfl⟩ ⟨_,ho2,rfl⟩ noFill_tuple_add seq_tuple_add PySem.F.slot_tuple_add PySem.F.entry_tuple_add (PySem.F.args_tuple_add_2 _ _)
      (tuple_addW1 t b vs.toArray ws.toArray n n2 dd dd2 sl sl2 (by simpa using hv) (by simp [hw])) ⟨ho,ho2,h1 hw⟩
  · refine concat_meets ⟨_,ho,rfl⟩ ⟨_,ho2,rfl⟩ noFill_tuple_add seq_tuple_add PySem.F.slot_tuple_add PySem.F.entry_tuple_add (PySem.F.args_tuple_add_2 _ _)
      (tuple_addW2 t b vs.toArray ws.toArray n n2 dd dd2 sl sl2 (by simpa using hv) (by simpa using hw) (by rw [List.size_toArray,List.size_toArray]; exact hsz)) ⟨ho,ho2,?_⟩
    rw [e]
    exact h2 hw
def sIx (n d:Nat):Option Int → Nat
  | none=>d
  | some v=>if v < 0 then (v + (n:Int)).toNat else min v.toNat n
theorem jsJ (n d:Nat) (hd:d ≤ n) (o:Option Int):sIx n d o ≤ n:=by
  cases o with
  | none=>exact hd
  | some v=>
    show (if v < 0 then (v + (n:Int)).toNat else min v.toNat n) ≤ n
    by_cases hv:v < 0
    · rw [if_pos hv]; omega
    · rw [if_neg hv]; exact Nat.min_le_right _ _
theorem jnr (v:Int) (n d:Nat):(if v < 0 then max (v + (n:Int)) 0 else min v (n:Int)) = ((sIx n d (some v):Nat):Int):=by
  show (if v < 0 then max (v + (n:Int)) 0 else min v (n:Int)) = (((if v < 0 then (v + (n:Int)).toNat else min v.toNat n):Nat):Int)
  by_cases hv:v < 0
  · simp only [if_pos hv]; omega
  · simp only [if_neg hv]; omega
theorem jlU (lo hi:Option Int) (n:Nat):Builtin.Slice.sliceAdjust lo hi 1 (n:Int) = (((sIx n 0 lo:Nat):Int),((sIx n n hi:Nat):Int)):=by
  have h1:¬ ((1:Int) < 0):=by omega
  unfold Builtin.Slice.sliceAdjust
  simp only [h1,if_false]
  refine Prod.ext ?_ ?_
  · cases lo with
    | none=>rfl
    | some v=>exact jnr v n 0
  · cases hi with
    | none=>rfl
    | some v=>exact jnr v n n
theorem jlr (i j:Nat):Builtin.Slice.slicePlaces (i:Int) (j:Int) 1 = j - i:=by
  unfold Builtin.Slice.slicePlaces
  have h1:(1:Int) > 0:=by omega
  simp only [h1,if_true,Int.ediv_one]
  split <;> omega
theorem jhv {v:Value} {o:Option Int} {Q:Option Int → Shared → Prop} (p:IsPart v o) (h:Q o s):wpAny (model prog w) A (Builtin.Slice.slicePartIndex v) Q E s:=by
  cases p with
  | none=>exact slicePart_none h
  | int i t=>exact slicePart_int h
theorem jdO {sl:Addr} {vl vu:Value} {lo hi:Option Int} {n:Nat} {Q:Int × Int × Nat → Shared → Prop} (hs:s.heap.IsSliceOf sl vl vu .none) (pl:IsPart vl lo) (pu:IsPart vu hi)
    (h:Q (((sIx n 0 lo:Nat):Int),1,sIx n n hi - sIx n 0 lo) s):wpAny (model prog w) A (Builtin.Slice.sliceApplied (.ref sl) (pure (n:Int))) Q E s:=by
  obtain ⟨os,hos,hcs,hds⟩:=id hs
  unfold Builtin.Slice.sliceApplied Builtin.Slice.sliceFields
  refine wpAny_bind (wpAny_bind (wpAny_field hos hds (x:=vl) rfl (wpAny_bind (wpAny_field hos hds (x:=vu) rfl (wpAny_bind (wpAny_field hos hds (x:=.none) rfl (wpAny_pure ?_)))))))
  refine wpAny_bind (slicePart_none ?_)
  show wpAny _ _ (if ((1:Int) == 0) = true then _ else _) _ _ s
  rw [if_neg (by decide)]
  refine wpAny_bind (jhv pl (wpAny_bind (jhv pu (wpAny_bind (wpAny_pure ?_)))))
  show wpAny _ _ (match Builtin.Slice.sliceAdjust lo hi 1 (n:Int) with | (lo,hi)=>pure (lo,(1:Int),Builtin.Slice.slicePlaces lo hi 1)) _ _ s
  rw [jlU lo hi n]
  show wpAny _ _ (pure (((sIx n 0 lo:Nat):Int),(1:Int),Builtin.Slice.slicePlaces ((sIx n 0 lo:Nat):Int) ((sIx n n hi:Nat):Int) 1)) _ _ s
  rw [jlr]
  exact wpAny_pure h
theorem joz (xs:Array Value) (i k:Nat):((List.range k).filterMap fun (m:Nat)=>xs[((i:Int) + (m:Int) * 1).toNat]?).toArray = ((xs.toList.drop i).take k).toArray:=by
  have e:(fun (m:Nat)=>xs[((i:Int) + (m:Int) * 1).toNat]?) = fun m=>xs[i + m]?:=by
    funext m
    have:((i:Int) + (m:Int) * 1).toNat = i + m:=by omega
    rw [this]
  rw [e]
  have:=pick_run xs i k
  rw [List.filterMap_map] at this
  have e2:((fun x=>xs[x]?) ∘ fun x=>i + x) = fun m=>xs[i + m]?:=rfl
  rw [e2] at this
  rw [this]
theorem jfB {t sl:Addr} {items:Array Value} {vl vu:Value} {lo hi:Option Int} {Q:Value → Shared → Prop} (ht:IsTup s.heap t items) (hs:s.heap.IsSliceOf sl vl vu .none) (pl:IsPart vl lo) (pu:IsPart vu hi)
    (hw:¬ (sIx items.size 0 lo = 0 ∧ sIx items.size items.size hi = items.size))
    (h:Q (.ref s.heap.objs.size) { s with heap:=s.heap.push { cls:=.type "tuple",data:=.seq ((items.toList.drop (sIx items.size 0 lo)).take (sIx items.size items.size hi - sIx items.size 0 lo)).toArray } })
    (hsz:items.size ≤ sizeLine):wpAny (model prog w) A (getItem (.ref t) (.ref sl)) Q E s:=by
  have htake:sizeOk (.seq ((items.toList.drop (sIx items.size 0 lo)).take (sIx items.size items.size hi - sIx items.size 0 lo)).toArray):=by
    show ((items.toList.drop (sIx items.size 0 lo)).take (sIx items.size items.size hi - sIx items.size 0 lo)).toArray.size ≤ sizeLine
    rw [List.size_toArray,List.length_take,List.length_drop,Array.length_toList]
    omega
  have hj:sIx items.size items.size hi ≤ items.size:=jsJ _ _ (Nat.le_refl _) hi
  obtain ⟨os,hos,hcs,hds⟩:=id hs
  have hTs:s.TypeIs (.ref sl) "slice":=⟨os,hos,hcs⟩
  unfold getItem
  try with_reducible refine wpAny_holding ?_
  first | refine wpAny_bind (wpAny_pure ?_) | skip
  refine wpAny_bind (wpAny_sequenceKey ht.typeIs (by decide) ?_)
  refine wpAny_bind (wpAny_callSpecial?_slot (name:=Str.ofString "__getitem__") ht.typeIs PyProof.Rows.slot_tuple_getitem
    (wpAny_call_entry PyProof.Rows.slot_tuple_getitem ht.typeIs entry_tuple_getitem ?_ (args_tuple_getitem _ _)))
  show wpAny _ _ (Builtin.Tuple.tupleItemsOf (.ref t) >>= _) _ _ s
  refine wpAny_bind (tupleItemsOf_ ht ?_)
  refine wpAny_bind (wpAny_typeOf hTs ?_)
  rw [if_pos (by decide)]
  refine wpAny_bind (jdO hs pl pu ?_)
  have hno:¬ ((((sIx items.size 0 lo:Nat):Int) == 0 && (1:Int) == 1 && (sIx items.size items.size hi - sIx items.size 0 lo) == items.size) = true):=by
    intro q
    rw [Bool.and_eq_true,Bool.and_eq_true] at q
    have q1:((sIx items.size 0 lo:Nat):Int) = 0:=eq_of_beq q.1.1
    have q2:sIx items.size items.size hi - sIx items.size 0 lo = items.size:=eq_of_beq q.2
    exact hw ⟨by omega,by omega⟩
  show wpAny _ _ (if (((sIx items.size 0 lo:Nat):Int) == 0 && (1:Int) == 1 && (sIx items.size items.size hi - sIx items.size 0 lo) == items.size) = true then _ else _) _ _ s
  rw [if_neg hno,joz]
  first
    | exact wpAny_bind (m:=Builtin.Tuple.tupleExact _) (wpAny_newObj_type (wpAny_pure ⟨_,rfl,wpAny_pure h⟩) htake)
    | exact wpAny_bind (m:=Builtin.Tuple.tupleExact _) (wpAny_newObj_type (wpAny_bind (wpAny_pure (wpAny_pure ⟨_,rfl,wpAny_pure h⟩))) htake)
    | exact wpAny_bind (wpAny_bind (m:=Builtin.Tuple.tupleExact _) (wpAny_newObj_type (wpAny_pure (wpAny_pure ⟨_,rfl,wpAny_pure h⟩)) htake))
    | exact wpAny_bind (wpAny_bind (m:=Builtin.Tuple.tupleExact _) (wpAny_newObj_type (wpAny_pure ⟨_,rfl,wpAny_pure h⟩) htake))
end
end HT
namespace L2
open PySem PySem.Spec PyProof.Rows
abbrev TO:=St → Hp → (Option Int → Hp → Prop) → Prop
def PO (X:Cx) (e:Option Expr) (t:TO):Prop:=
  ∀ (pins:List (Addr × Obj)) (s:Shared) (σ:St) (H:Hp) (Q:Option Int → Hp → Prop),Inv X pins σ H s → t σ H Q →
    wpAny (model X.prog X.w) X.A (evalPart e X.env) (fun u s'=>∃ o H',Inv X pins σ H' s' ∧ IsPart u o ∧ Q o H') X.xe s
def juK (t:TE):TO:=fun σ H Q=>t σ H fun x H1=>∃ i,x = .int i ∧ Q (some i) H1
section
variable {X:Cx} {e:Expr} {te:TE} {lo hi:Option Expr} {tl th:TO} {pos p2:Pos}
theorem jqW (h:PE X e te):PO X (some e) (juK te):=by
  intro pins s σ H Q I hw
  rw [evalPart_some]
  refine thn (h pins s σ H _ I hw) fun u s1 ⟨x,H1,I1,r1,q1⟩=>?_
  obtain ⟨i,rfl,q⟩:=q1
  obtain ⟨t,rfl⟩:=r1
  exact ⟨some i,H1,I1,.int i t,q⟩
def SlR (X:Cx) (r:V → Option Int → Option Int → Hp → VK → Prop):Prop:=
  ∀ (pins:List (Addr × Obj)) (s:Shared) (σ:St) (H:Hp) (x:V) (v vl vu:Value) (lo hi:Option Int) (sl:Addr) (Q:VK),Inv X pins σ H s → RelV x v → s.heap.IsSliceOf sl vl vu .none → IsPart vl lo → IsPart vu hi → r x lo hi H Q →
    ∃ T id,typeLookup (.type T) "__getitem__" = pure (some (.builtin id)) ∧ s.TypeIs v T ∧ wpAny (model X.prog X.w) X.A (getItem v (.ref sl)) (EP X pins σ Q) X.xe s
theorem SlR.or {r r':V → Option Int → Option Int → Hp → VK → Prop} (h:SlR X r) (h':SlR X r'):SlR X (fun x lo hi H Q=>r x lo hi H Q ∨ r' x lo hi H Q):=by
  intro pins s σ H x v vl vu lo hi sl Q I rx hs pl pu q
  rcases q with q | q
  · exact h pins s σ H x v vl vu lo hi sl Q I rx hs pl pu q
  · exact h' pins s σ H x v vl vu lo hi sl Q I rx hs pl pu q
def tSl (r:V → Option Int → Option Int → Hp → VK → Prop) (te:TE) (tl th:TO):TE:=fun σ H Q=>te σ H fun x H1=>tl σ H1 fun l H2=>th σ H2 fun u H3=>r x l u H3 Q
theorem joA {r:V → Option Int → Option Int → Hp → VK → Prop} (hr:SlR X r) (he:PE X e te) (hl:PO X lo tl) (hu:PO X hi th):PE X (.Subscript e (.Slice lo hi none p2) pos) (tSl r te tl th):=by
  intro pins s σ H Q I h
  refine Subscript_ (thn (he pins s σ H _ I h) fun v s1 ⟨x,H1,I1,r1,q1⟩=>?_)
  refine wpAny_Slice (thn (hl pins s1 σ H1 _ I1 q1) fun vl s2 ⟨l,H2,I2,pl,q2⟩=>thn (hu pins s2 σ H2 _ I2 q2) fun vu s3 ⟨u,H3,I3,pu,q3⟩=>?_)
  rw [evalPart_none]
  refine wpAny_pure ?_
  have I4:Inv X pins σ H3 { s3 with heap:=s3.heap.push { cls:=.type "slice",data:=.fields #[vl,vu,.none] } }:=I3.kept (t':=s3.toks) fun b ob q=>Heap.get?_push_of_some _ q
  obtain ⟨T,id,hT,ht,hg⟩:=hr pins { s3 with heap:=s3.heap.push { cls:=.type "slice",data:=.fields #[vl,vu,.none] } } σ H3 x v vl vu l u s3.heap.objs.size Q I4 r1 (Heap.IsSliceOf.new ..) pl pu q3
  show wpAny (model X.prog X.w) X.A (subscriptTail e (.Slice lo hi none p2) v (.ref s3.heap.objs.size)) (EP X pins σ Q) X.xe { s3 with heap:=s3.heap.push { cls:=.type "slice",data:=.fields #[vl,vu,.none] } }
  exact tail_any (ops:=[.ref s3.heap.objs.size,v]) ht hT hg (by with_unfolding_all rfl)
def jn9 (xs:List V) (lo hi:Option Int):List V:=(xs.drop (HT.sIx xs.length 0 lo)).take (HT.sIx xs.length xs.length hi - HT.sIx xs.length 0 lo)
theorem jgL (xs:List V) (lo hi:Option Int):(jn9 xs lo hi).length ≤ xs.length:=by
  unfold jn9
  rw [List.length_take,List.length_drop]
  omega
def jw8 (K:PySem.W.Frag):V → Option Int → Option Int → Hp → VK → Prop:=fun x lo hi H Q=>∃ a xs,x = .ref a ∧ SqT K H a xs ∧
  ¬ (HT.sIx xs.length 0 lo = 0 ∧ HT.sIx xs.length xs.length hi = xs.length) ∧ ∀ p,H p = none → Q (.ref p) (upd H p (.tup (jn9 xs lo hi)))
theorem sl_tup:SlR X (jw8 X.K):=by
  intro pins s σ H x v vl vu lo hi sl Q I rx hs pl pu h
  obtain ⟨a,xs,rfl,hx,hw,q⟩:=h
  cases rx
  obtain ⟨its,r,ht,hz⟩:=I.tuple hx
  have hlen:its.toArray.size = xs.length:=by rw [List.size_toArray]; exact r.length.symm
  refine ⟨"tuple",_,PyProof.Rows.slot_tuple_getitem.lookup,ht.typeIs,?_⟩
  refine HT.jfB ht hs pl pu (by rw [hlen]; exact hw) ?_ (by rw [hlen]; exact hz)
  rw [hlen]
  refine ⟨.ref s.heap.objs.size,_,I.laid (t':=s.toks) (o:=.tup (jn9 xs lo hi)) (fun b ob q=>Heap.get?_push_of_some _ q) (Nat.le_refl _) ?_,rfl,q _ (I.hok.fresh (Nat.le_refl _))⟩
  exact ⟨Nat.le_trans (jgL xs lo hi) hz,_,(r.drop (HT.sIx xs.length 0 lo)).take (HT.sIx xs.length xs.length hi - HT.sIx xs.length 0 lo),IsTup.new _ _⟩
def ju4 (K:PySem.W.Frag):R2:=fun x y H Q=>∃ a b xs ys,x = .ref a ∧ y = .ref b ∧ SqT K H a xs ∧ SqT K H b ys ∧ xs ≠ [] ∧ xs.length + ys.length ≤ sizeLine ∧
  (ys = [] → Q (.ref a) H) ∧ (ys ≠ [] → ∀ p,H p = none → Q (.ref p) (upd H p (.tup (xs ++ ys))))
theorem Vals.nil_iff {xs:List V} {us:List Value} (r:Vals xs us):us = [] ↔ xs = []:=by
  cases r with
  | nil=>simp
  | cons _ _=>simp
theorem jq5:OpR X (binaryOp .Add) (ju4 X.K):=by
  intro pins s σ H x y v u Q I rx ry h
  obtain ⟨a,b,xs,ys,rfl,rfl,ha,hb,hx,hz,q1,q2⟩:=h
  cases rx
  cases ry
  obtain ⟨its,r1,p1,_⟩:=I.tuple ha
  obtain ⟨its2,r2,p2,_⟩:=I.tuple hb
  refine HT.jrO p1 p2 (fun z=>hx (r1.nil_iff.mp z)) (fun z=>⟨.ref a,H,I,rfl,q1 (r2.nil_iff.mp z)⟩) (fun z=>?_) (by rw [← r1.length,← r2.length]; exact hz)
  refine ⟨.ref s.heap.objs.size,_,I.laid (t':=s.toks) (o:=.tup (xs ++ ys)) (fun b ob q=>Heap.get?_push_of_some _ q) (Nat.le_refl _) ?_,rfl,q2 (fun w=>z (r2.nil_iff.mpr w)) _ (I.hok.fresh (Nat.le_refl _))⟩
  exact ⟨by rw [List.length_append]; exact hz,_,r1.append r2,IsTup.new _ _⟩
end
end L2
namespace L2
open PySem PySem.Spec PyProof.Rows
def ixN (n:Nat) (i:Int):Option Nat:=if 0 ≤ i then (if i < n then some i.toNat else none) else if -(n:Int) ≤ i then some (i + n).toNat else none
def atI {α:Type} (xs:List α) (i:Int):Option α:=(ixN xs.length i).bind fun j=>xs[j]?
theorem jm9 {n:Nat} {i:Int} {j:Nat} (h:ixN n i = some j):seqIndex? i n = some j ∧ j < n ∧ -(n:Int) ≤ i ∧ i < n:=by
  unfold ixN at h
  by_cases h0:0 ≤ i
  · rw [if_pos h0] at h
    by_cases h1:i < n
    · rw [if_pos h1] at h
      have e:i.toNat = j:=Option.some.inj h
      exact ⟨by rw [seqIndex_of h0 h1,e],by omega,by omega,h1⟩
    · rw [if_neg h1] at h; cases h
  · rw [if_neg h0] at h
    by_cases h1:-(n:Int) ≤ i
    · rw [if_pos h1] at h
      have e:(i + n).toNat = j:=Option.some.inj h
      exact ⟨by rw [seqIndex_neg (by omega) h1,e],by omega,h1,by omega⟩
    · rw [if_neg h1] at h; cases h
theorem jnO {α:Type} {xs:List α} {i:Int} {v:α} (h:atI xs i = some v):∃ j,seqIndex? i xs.length = some j ∧ xs[j]? = some v ∧ j < xs.length ∧ -(xs.length:Int) ≤ i ∧ i < xs.length:=by
  unfold atI at h
  cases e:ixN xs.length i with
  | none=>rw [e] at h; cases h
  | some j=>
    rw [e] at h
    obtain ⟨h1,h2,h3,h4⟩:=jm9 e
    exact ⟨j,h1,h,h2,h3,h4⟩
def jnV (b:Expr):Prop:=∀ o i,subscripted b false o i = operate [o,i] (getItem o i)
def IxR (X:Cx) (r:R2):Prop:=
  ∀ (value slice:Expr) (pins:List (Addr × Obj)) (s:Shared) (σ:St) (H:Hp) (x y:V) (v u:Value) (Q:VK),Inv X pins σ H s → RelV x v → RelV y u → r x y H Q →
    subscripted slice false v u = operate [v,u] (getItem v u) → wpAny (model X.prog X.w) X.A (subscriptTail value slice v u) (EP X pins σ Q) X.xe s
def MtR (X:Cx) (id:String) (r:V → List V → Hp → VK → Prop):Prop:=
  ∀ (pins:List (Addr × Obj)) (s:Shared) (σ:St) (H:Hp) (x:V) (xs:List V) (v:Value) (us:List Value) (Q:VK),Inv X pins σ H s → RelV x v → Vals xs us → r x xs H Q →
    wpAny (model X.prog X.w) X.A (call (.builtin id) (v :: us)) (EP X pins σ Q) X.xe s
section
variable {X:Cx} {a b:Expr} {ta tb:TE} {pos:Pos}
theorem IxR.or {r r':R2} (h:IxR X r) (h':IxR X r'):IxR X (fun x y H Q=>r x y H Q ∨ r' x y H Q):=by
  intro value slice pins s σ H x y v u Q I rx ry q hs
  rcases q with q | q
  · exact h value slice pins s σ H x y v u Q I rx ry q hs
  · exact h' value slice pins s σ H x y v u Q I rx ry q hs
theorem MtR.or {id:String} {r r':V → List V → Hp → VK → Prop} (h:MtR X id r) (h':MtR X id r'):MtR X id (fun x xs H Q=>r x xs H Q ∨ r' x xs H Q):=by
  intro pins s σ H x xs v us Q I rx rs q
  rcases q with q | q
  · exact h pins s σ H x xs v us Q I rx rs q
  · exact h' pins s σ H x xs v us Q I rx rs q
theorem ju9 {r:R2} (hr:IxR X r) (ha:PE X a ta) (hb:PE X b tb) (hs:jnV b):PE X (.Subscript a b pos) (tOp r ta tb):=by
  intro pins s σ H Q I h
  exact Subscript_ (jvS ha hb I h fun v u s2 x y H2 I2 rx ry q=>hr a b pins s2 σ H2 x y v u Q I2 rx ry q (hs _ _))
def jxb (K:PySem.W.Frag):R2:=fun x y H Q=>∃ p xs i v,x = .ref p ∧ y = .int i ∧ SqL K H p xs ∧ atI xs i = some v ∧ Q v H
def jxa (K:PySem.W.Frag):R2:=fun x y H Q=>∃ p xs i v,x = .ref p ∧ y = .int i ∧ SqT K H p xs ∧ atI xs i = some v ∧ Q v H
theorem ix_list:IxR X (jxb X.K):=by
  intro value slice pins s σ H x y v u Q I rx ry h hs
  obtain ⟨p,xs,i,z,rfl,rfl,hq,he,q⟩:=h
  cases rx
  obtain ⟨t,rfl⟩:=ry
  obtain ⟨its,r,pl,hz⟩:=I.list hq
  obtain ⟨j,h1,h2,h3,h4,h5⟩:=jnO he
  obtain ⟨w,ew,rw'⟩:=r.get h2
  have hl:=r.length
  have hn:=jk2
  have fin:EP X pins σ Q w s:=⟨z,H,I,rw',q⟩
  by_cases h0:0 ≤ i
  · have hj:i.toNat = j:=by
      rw [seqIndex_of h0 h5] at h1
      exact Option.some.inj h1
    exact item_listR pl.isList h0 (by omega) (by rw [hj]; simpa using ew) fin hs
  · have hj:(i + (its.toArray.size:Int)).toNat = j:=by
      rw [seqIndex_neg (by omega) h4] at h1
      rw [List.size_toArray,← hl]
      exact Option.some.inj h1
    exact subscriptTail_builtinR (x:=w) pl.isList.typeIs slot_list_getitem.lookup
      (wpAny_getItem_list_neg (Q:=fun r s'=>r = w ∧ EP X pins σ Q r s') pl.isList (by omega) (by rw [List.size_toArray] <;> omega) (by omega) (by rw [hj]; simpa using ew) ⟨rfl,fin⟩) hs
theorem jtw:IxR X (jxa X.K):=by
  intro value slice pins s σ H x y v u Q I rx ry h hs
  obtain ⟨p,xs,i,z,rfl,rfl,hq,he,q⟩:=h
  cases rx
  obtain ⟨t,rfl⟩:=ry
  obtain ⟨its,r,pl,hz⟩:=I.tuple hq
  obtain ⟨j,h1,h2,h3,h4,h5⟩:=jnO he
  obtain ⟨w,ew,rw'⟩:=r.get h2
  have hl:=r.length
  have hn:=jk2
  have fin:EP X pins σ Q w s:=⟨z,H,I,rw',q⟩
  exact subscriptTail_builtinR (x:=w) pl.typeIs slot_tuple_getitem.lookup
    (getItem_tuple (j:=j) (Q:=fun r s'=>r = w ∧ EP X pins σ Q r s') pl (by omega) (by omega) (by rw [List.size_toArray,← hl]; exact h1) (by simpa using ew) ⟨rfl,fin⟩) hs
theorem jly (its:List Value) (n j:Nat) (u:Value):Obj.mapSeq (·.setIfInBounds j u) { cls:=.type "list",data:=.seq its.toArray n } = { cls:=.type "list",data:=.seq (its.set j u).toArray n }:=by
  simp [Obj.mapSeq]
theorem Inv.lst {pins:List (Addr × Obj)} {σ:St} {H:Hp} {s:Shared} {p:Addr} {xs:List V} (I:Inv X pins σ H s) (h:H p = some (.lst xs)) :
    ∃ (its:List Value) (n:Nat),Vals xs its ∧ s.heap.get? p = some { cls:=.type "list",data:=.seq its.toArray n } ∧ xs.length ≤ sizeLine:=by
  obtain ⟨z,its,n,r,e⟩:=I.hok p _ h
  exact ⟨its,n,r,e,z⟩
theorem Inv.lstUpd {pins:List (Addr × Obj)} {σ:St} {H:Hp} {s:Shared} {p:Addr} {xs ys:List V} {its its':List Value} {n n':Nat} {f:Obj → Obj} (I:Inv X pins σ H s) (h:H p = some (.lst xs))
    (ho:s.heap.get? p = some { cls:=.type "list",data:=.seq its.toArray n }) (hf:f { cls:=.type "list",data:=.seq its.toArray n } = { cls:=.type "list",data:=.seq its'.toArray n' }) (r:Vals ys its') (hz:ys.length ≤ sizeLine) (t:Nat) :
    Inv X pins σ (upd H p (.lst ys)) { s with heap:=s.heap.update p f,toks:=t }:=by
  have e:(s.heap.update p f).get? p = some { cls:=.type "list",data:=.seq its'.toArray n' }:=by
    rw [Heap.get?_update_self f ho (by rw [hf] <;> rfl),hf]
  refine I.write (x:=p) (e:=p) (by rw [h]; trivial) (.inl rfl) (fun b u hb q=>(Heap.get?_update_other _ _ (Ne.symm hb)).trans q) ⟨_,e⟩ ?_
  exact ⟨hz,its',n',r,e⟩
def ju3:V → V → V → Hp → (Hp → Prop) → Prop:=fun o i v H Q=>∃ p xs k j,o = .ref p ∧ i = .int k ∧ H p = some (.lst xs) ∧ ixN xs.length k = some j ∧ Q (upd H p (.lst (xs.set j v)))
theorem jor:jwr X ju3:=by
  intro pins s σ H o i v ov iv u Q I ro ri rv h
  obtain ⟨p,xs,k,j,rfl,rfl,hp,hj,q⟩:=h
  cases ro
  obtain ⟨t,rfl⟩:=ri
  obtain ⟨its,n,r,ho,hz⟩:=I.lst hp
  obtain ⟨h1,h2,h3,h4⟩:=jm9 hj
  have hl:=r.length
  have hn:=jk2
  have I':Inv X pins σ (upd H p (.lst (xs.set j v))) { s with heap:=s.heap.update p (Obj.mapSeq (·.setIfInBounds j u)) }:=
    I.lstUpd hp ho (jly its n j u) (r.set rv j) (by rw [List.length_set]; exact hz) s.toks
  by_cases h0:0 ≤ k
  · have hk:k.toNat = j:=by
      rw [seqIndex_of h0 h4] at h1
      exact Option.some.inj h1
    exact PySem.W.ki_setAt ho h0 (by omega) (by rw [List.size_toArray,← hl]; exact h4) (by rw [hk]; exact ⟨_,I',q⟩)
  · have hk:(k + (its.toArray.size:Int)).toNat = j:=by
      rw [seqIndex_neg (by omega) h3] at h1
      rw [List.size_toArray,← hl]
      exact Option.some.inj h1
    exact PySem.W.ki_setBack ho (by omega) (by rw [List.size_toArray,← hl]; exact h3) (by omega) (by rw [hk]; exact ⟨_,I',q⟩)
theorem jiW (lo hi:Option Int) (n:Nat):(sliceBounds lo hi none n).1 = ((HT.sIx n 0 lo:Nat):Int) ∧ (sliceBounds lo hi none n).2.1 = ((HT.sIx n n hi:Nat):Int) ∧ (sliceBounds lo hi none n).2.2 = 1:=by
  refine ⟨?_,?_,rfl⟩
  · cases lo with
    | none=>simp [sliceBounds,HT.sIx]
    | some i=>
      simp only [sliceBounds,HT.sIx,Option.getD_none,show (1:Int) > 0 by decide,if_true]
      by_cases h:i < 0
      · simp only [h,if_true] <;> omega
      · simp only [h,if_false] <;> omega
  · cases hi with
    | none=>simp [sliceBounds,HT.sIx]
    | some i=>
      simp only [sliceBounds,HT.sIx,Option.getD_none,show (1:Int) > 0 by decide,if_true]
      by_cases h:i < 0
      · simp only [h,if_true] <;> omega
      · simp only [h,if_false] <;> omega
theorem jhT (its:List Value) (lo hi:Option Int):slicePick its.toArray lo hi none = ((its.drop (HT.sIx its.length 0 lo)).take (HT.sIx its.length its.length hi - HT.sIx its.length 0 lo)).toArray:=by
  obtain ⟨h1,h2,h3⟩:=jiW lo hi its.toArray.size
  unfold slicePick
  rw [h1,h2,h3]
  simp only [sliceRange_one,pick_run,List.size_toArray] <;> rfl
def jw9 (K:PySem.W.Frag):V → Option Int → Option Int → Hp → VK → Prop:=fun x lo hi H Q=>∃ a xs,x = .ref a ∧ SqL K H a xs ∧ ∀ p,H p = none → Q (.ref p) (upd H p (.lst (jn9 xs lo hi)))
theorem sl_list:SlR X (jw9 X.K):=by
  intro pins s σ H x v vl vu lo hi sl Q I rx hs pl pu h
  obtain ⟨a,xs,rfl,hx,q⟩:=h
  cases rx
  obtain ⟨its,r,ht,hz⟩:=I.list hx
  have hlen:=r.length
  refine ⟨"list",_,slot_list_getitem.lookup,ht.isList.typeIs,?_⟩
  refine wpAny_getItem_list_slice ht.isList hs pl pu .none (by simp) ?_ (by rw [List.size_toArray] <;> omega)
  rw [jhT,← hlen]
  refine ⟨.ref s.heap.objs.size,_,I.laid (t':=s.toks) (o:=.lst (jn9 xs lo hi)) (fun b ob q=>Heap.get?_push_of_some _ q) (Nat.le_refl _) ?_,rfl,q _ (I.hok.fresh (Nat.le_refl _))⟩
  exact ⟨Nat.le_trans (jgL xs lo hi) hz,_,0,(r.drop (HT.sIx xs.length 0 lo)).take (HT.sIx xs.length xs.length hi - HT.sIx xs.length 0 lo),Heap.get?_push_size _ rfl⟩
def jhn:V → Bool
  | .non=>true
  | .bl _=>true
  | .int _=>true
  | .str _=>true
  | _=>false
def eqV:V → V → Bool
  | .non,.non=>true
  | .bl a,.bl b=>a == b
  | .bl a,.int b=>(if a then 1 else 0) == b
  | .int a,.bl b=>a == (if b then 1 else 0)
  | .int a,.int b=>a == b
  | .str a,.str b=>a == b
  | _,_=>false
theorem jtM {A:Around} {s:Shared} {y x:V} {u v:Value} (ry:RelV y u) (rx:RelV x v) (fy:jhn y = true) (fx:jhn x = true):SeqAt.EqAt A s u v (eqV y x):=by
  cases y with
  | non=>
    cases ry
    cases x with
    | non=>cases rx; exact SeqAt.EqAt.same _
    | bl b=>cases rx; exact SeqAt.EqAt.none_bool b
    | int b=>obtain ⟨t,rfl⟩:=rx; exact SeqAt.EqAt.none_int b t
    | str b=>obtain ⟨t,rfl⟩:=rx; exact SeqAt.EqAt.none_str b t
    | _=>exact absurd (show false = true from fx) Bool.false_ne_true
  | bl a=>
    cases ry
    cases x with
    | non=>cases rx; exact SeqAt.EqAt.bool_none a
    | bl b=>cases rx; exact SeqAt.EqAt.bool_bool a b
    | int b=>obtain ⟨t,rfl⟩:=rx; exact SeqAt.EqAt.bool_int a b t
    | str b=>obtain ⟨t,rfl⟩:=rx; exact SeqAt.EqAt.bool_str a b t
    | _=>exact absurd (show false = true from fx) Bool.false_ne_true
  | int a=>
    obtain ⟨t',rfl⟩:=ry
    cases x with
    | non=>cases rx; exact SeqAt.EqAt.int_none a t'
    | bl b=>cases rx; exact SeqAt.EqAt.int_bool a t' b
    | int b=>obtain ⟨t,rfl⟩:=rx; exact SeqAt.EqAt.int_int a t' b t
    | str b=>obtain ⟨t,rfl⟩:=rx; exact SeqAt.EqAt.int_str a t' b t
    | _=>exact absurd (show false = true from fx) Bool.false_ne_true
  | str a=>
    obtain ⟨t',rfl⟩:=ry
    cases x with
    | non=>cases rx; exact SeqAt.EqAt.str_none a t'
    | bl b=>cases rx; exact SeqAt.EqAt.str_bool a t' b
    | int b=>obtain ⟨t,rfl⟩:=rx; exact SeqAt.EqAt.str_int a t' b t
    | str b=>obtain ⟨t,rfl⟩:=rx; exact SeqAt.EqAt.str_str a t' b t
    | _=>exact absurd (show false = true from fx) Bool.false_ne_true
  | _=>exact absurd (show false = true from fy) Bool.false_ne_true
def eqU (x:V) (u:Value):Bool:=match u with
  | .none=>eqV .non x
  | .bool b=>eqV (.bl b) x
  | .int i _=>eqV (.int i) x
  | .str z _=>eqV (.str z) x
  | _=>false
theorem jql {x y:V} {u:Value} (r:RelV y u) (f:jhn y = true):eqU x u = eqV y x:=by
  cases y with
  | non=>cases r; rfl
  | bl b=>cases r; rfl
  | int i=>obtain ⟨t,rfl⟩:=r; rfl
  | str z=>obtain ⟨t,rfl⟩:=r; rfl
  | _=>exact absurd (show false = true from f) Bool.false_ne_true
theorem jkz {x:V}:∀ {xs:List V} {us:List Value},Vals xs us → xs.all jhn = true → us.any (eqU x) = xs.any fun y=>eqV y x
  | _,_,.nil,_=>rfl
  | y :: xs,u :: us,.cons r t,f=>by
    rw [List.all_cons,Bool.and_eq_true] at f
    rw [List.any_cons,List.any_cons,jql r f.1,jkz t f.2]
theorem jie {A:Around} {s:Shared} {x:V} {v:Value} (rx:RelV x v) (fx:jhn x = true):∀ {xs:List V} {us:List Value},Vals xs us → xs.all jhn = true → ∀ u ∈ us,SeqAt.EqAt A s u v (eqU x u)
  | _,_,.nil,_=>fun u hu=>by cases hu
  | y :: xs,u :: us,.cons r t,f=>fun u' hu=>by
    rw [List.all_cons,Bool.and_eq_true] at f
    rcases List.mem_cons.mp hu with rfl | hu
    · rw [jql r f.1]; exact jtM r rx f.1 fx
    · exact jie rx fx t f.2 u' hu
def inV (x:V) (xs:List V):Bool:=xs.any fun y=>eqV y x
def rIn (K:PySem.W.Frag) (neg:Bool):R2:=fun x y H Q=>∃ p xs,y = .ref p ∧ (SqL K H p xs ∨ SqT K H p xs) ∧ jhn x = true ∧ xs.all jhn = true ∧ Q (.bl (if neg then !inV x xs else inV x xs)) H
theorem jmJ:OpR X (compareOp .In) (rIn X.K false):=by
  intro pins s σ H x y v u Q I rx ry h
  obtain ⟨p,xs,rfl,hq,fx,fs,q⟩:=h
  cases ry
  rcases hq with hq | hq
  · obtain ⟨its,r,pl,hz⟩:=I.list hq
    refine SeqAt.in_listAt (eqU x) pl.isList (fun w hw=>jie rx fx r fs w (by simpa using hw)) ⟨.bl _,H,I,rfl,?_⟩
    rw [show its.toArray.any (eqU x) = its.any (eqU x) by simp,jkz r fs]
    exact q
  · obtain ⟨its,r,pl,hz⟩:=I.tuple hq
    refine SeqAt.in_tupleAt (eqU x) pl (fun w hw=>jie rx fx r fs w (by simpa using hw)) ⟨.bl _,H,I,rfl,?_⟩
    rw [show its.toArray.any (eqU x) = its.any (eqU x) by simp,jkz r fs]
    exact q
theorem CallR.or {f:Value} {r r':List V → Hp → VK → Prop} (h:CallR X f r) (h':CallR X f r'):CallR X f (fun xs H Q=>r xs H Q ∨ r' xs H Q):=by
  intro pins s σ H xs us Q I rs q
  rcases q with q | q
  · exact h pins s σ H xs us Q I rs q
  · exact h' pins s σ H xs us Q I rs q
theorem jis:CallR X (.type "tuple") (fun xs H Q=>∃ p ys,xs = [.ref p] ∧ ((SqL X.K H p ys ∧ ∀ l,H l = none → Q (.ref l) (upd H l (.tup ys))) ∨ (SqT X.K H p ys ∧ Q (.ref p) H))):=by
  intro pins s σ H xs us Q I r h
  obtain ⟨p,ys,rfl,h⟩:=h
  obtain ⟨u,rfl,rx⟩:=jl2 r
  cases rx
  rcases h with ⟨hq,q⟩ | ⟨hq,q⟩
  · obtain ⟨its,r',pl,hz⟩:=I.list hq
    have hlen:=r'.length
    refine call_tuple_list pl.isList (fun h' kp=>?_) (by simp only [List.size_toArray] <;> omega)
    have I1:Inv X pins σ H { s with heap:=h' }:=I.kept (t':=s.toks) kp
    have I2:Inv X pins σ (upd H h'.objs.size (.tup ys)) { s with heap:=h'.push { cls:=.type "tuple",data:=.seq its.toArray } }:=
      I1.laid (t':=s.toks) (fun b o e=>Heap.get?_push_of_some _ e) (Nat.le_refl _) (show ObjOk X.prog X.w _ _ _ (.tup ys) from ⟨hz,its,r',IsTup.new _ _⟩)
    exact ⟨.ref h'.objs.size,_,I2,rfl,q _ (I1.hok.fresh (Nat.le_refl _))⟩
  · obtain ⟨its,r',pl,hz⟩:=I.tuple hq
    exact call_tuple_same pl ⟨.ref p,H,I,rfl,q⟩
def tyV (K:PySem.W.Frag) (T:String) (x:V) (H:Hp):Prop:=match x with
  | .str _=>T = "str"
  | .int _=>T = "int"
  | .ref p=>(T = "list" ∧ ∃ xs,SqL K H p xs) ∨ (T = "tuple" ∧ ∃ o,K.lookup p = some o ∧ o.cls = .type "tuple" ∧ o.dict = none) ∨
      (T = "dict" ∧ ((∃ kvs,H p = some (.dK kvs)) ∨ ∃ kvs,H p = some (.dT kvs))) ∨ (T = "set" ∧ ∃ S n,H p = some (.set S n))
  | _=>False
theorem jpE {pins:List (Addr × Obj)} {σ:St} {H:Hp} {s:Shared} {T:String} {x:V} {v:Value} (I:Inv X pins σ H s) (r:RelV x v) (ty:tyV X.K T x H) :
    s.TypeIs v T ∧ ∀ a,v = .ref a → ∃ ob,s.heap.get? a = some ob ∧ ob.dict = none:=by
  cases x with
  | str z=>
    obtain ⟨t,rfl⟩:=r
    cases (show T = "str" from ty)
    exact ⟨typeIs_str s z t,fun _ e=>nomatch e⟩
  | int i=>
    obtain ⟨t,rfl⟩:=r
    cases (show T = "int" from ty)
    exact ⟨typeIs_int s i t,fun _ e=>nomatch e⟩
  | ref p=>
    cases r
    rcases ty with ⟨rfl,xs,hq⟩ | ⟨rfl,o,hk,hc,hd⟩ | ⟨rfl,hk⟩ | ⟨rfl,S,n,hk⟩
    · obtain ⟨its,_,pl,_⟩:=I.list hq
      refine ⟨pl.isList.typeIs,fun a e=>?_⟩
      cases e
      obtain ⟨o,n,e,c,hd,_⟩:=pl
      exact ⟨o,e,hd⟩
    · refine ⟨⟨o,I.kIn p o hk,hc⟩,fun a e=>?_⟩
      cases e
      exact ⟨o,I.kIn _ o hk,hd⟩
    · have z:∃ o,s.heap.get? p = some o ∧ o.ExactDict:=by
        rcases hk with ⟨kvs,hk⟩ | ⟨kvs,hk⟩
        · obtain ⟨_,_,_,_,o,_,_,e,ex,_⟩:=I.hok p _ hk
          exact ⟨o,e,ex⟩
        · obtain ⟨_,_,_,_,o,_,_,e,ex,_⟩:=I.hok p _ hk
          exact ⟨o,e,ex⟩
      obtain ⟨o,e,ex⟩:=z
      refine ⟨⟨o,e,ex.1⟩,fun a e2=>?_⟩
      cases e2
      exact ⟨o,e,ex.2.1⟩
    · obtain ⟨o,_,_,_,e,ex,_⟩:=I.hok p _ hk
      refine ⟨⟨o,e,ex.1⟩,fun a e2=>?_⟩
      cases e2
      exact ⟨o,e,ex.2.1⟩
  | _=>exact False.elim ty
def jwX (K:PySem.W.Frag) (T:String) (r:V → List V → Hp → VK → Prop) (to:TE):TE:=fun σ H Q=>to σ H fun x H1=>tyV K T x H1 ∧ r x [] H1 Q
def tBM (K:PySem.W.Frag) (T:String) (r:V → List V → Hp → VK → Prop) (to:TE) (t:TA):TE:=fun σ H Q=>to σ H fun x H1=>tyV K T x H1 ∧ t σ H1 fun xs H2=>r x xs H2 Q
variable {o e:Expr} {es:List Expr} {to:TE} {t:TA} {name:Str} {apos cpos:Pos} {T id:String} {r:V → List V → Hp → VK → Prop}
theorem js4 (pa:PlainAttrs T) (slot:Slot T name id) (hty:typeOf (.builtin id) = pure (.type "method_descriptor")) (hm:MtR X id r) (ho:PE X o to)
    (hbase:attributeBase o name X.env (eval o X.env) = eval o X.env:=by rfl) (hline:(apos.endLine == cpos.line) = true:=by rfl):PE X (.Call (.Attribute o name apos) [] [] cpos) (jwX X.K T r to):=by
  intro pins s σ H Q I h
  refine wpAny_Call_method0_late hbase hline (thn (ho pins s σ H _ I h) fun v s1 ⟨x,H1,I1,r1,ty,q1⟩=>?_)
  obtain ⟨h1,h2⟩:=jpE I1 r1 ty
  exact ⟨T,id,pa,slot,hty,h1,h2,Calls.callWith_builtin rfl (PySem.evalArgs_none (hm pins s1 σ H1 x [] v [] Q I1 r1 .nil q1))⟩
theorem jva (pa:PlainAttrs T) (slot:Slot T name id) (hty:typeOf (.builtin id) = pure (.type "method_descriptor")) (hm:MtR X id r) (ho:PE X o to) (ha:PA X (e :: es) t)
    (hbase:attributeBase o name X.env (eval o X.env) = eval o X.env:=by rfl)
    (hfew:((backTo cpos (starEach (e :: es) X.env)).all (fun x=>!x.1) && (backToKw cpos (keywordEach [] X.env)).all (fun x=>x.1.isSome)
      && decide ((e :: es).length + ([]:List Keyword).length + (if ([]:List Keyword).isEmpty then 0 else 1) < 30)) = true:=by rfl)
    (hline:(apos.endLine == cpos.line) = true:=by rfl) (hs:starEach (e :: es) X.env = (false,eval e X.env) :: starEach es X.env:=by rfl) (hplain:(backTo cpos (starEach es X.env)).any (·.1) = false:=by rfl) :
    PE X (.Call (.Attribute o name apos) (e :: es) [] cpos) (tBM X.K T r to t):=by
  intro pins s σ H Q I h
  refine wpAny_Call_method_late hbase hfew hline rfl (thn (ho pins s σ H _ I h) fun v s1 ⟨x,H1,I1,r1,ty,q1⟩=>?_)
  obtain ⟨h1,h2⟩:=jpE I1 r1 ty
  refine ⟨T,id,pa,slot,hty,h1,h2,?_⟩
  have hA:=ha cpos pins s1 σ H1 _ I1 q1
  rw [hs] at hA ⊢
  refine Calls.callWith_builtin (by show (false || (backTo cpos (starEach es X.env)).any (·.1)) = false; rw [hplain] <;> rfl) (Calls.evalArgs_plain ?_)
  exact thn hA fun us s2 ⟨vs,H2,I2,r2,q2⟩=>hm pins s2 σ H2 x vs v us Q I2 r1 r2 q2
end
end L2
namespace L2
open PySem PySem.Spec PyProof.Rows
def MtM (X:Cx) (id:String) (r:V → List V → Hp → VK → Prop):Prop:=
  ∀ (pins:List (Addr × Obj)) (s:Shared) (σ:St) (H:Hp) (x:V) (xs:List V) (v:Value) (us:List Value) (Q:VK),Inv X pins σ H s → RelV x v → Vals xs us → r x xs H Q →
    wpAny (model X.prog X.w) X.A (call (.builtin id) (v :: us)) (EP X pins σ Q) X.xe s
theorem Vals.one:∀ {x:V} {us:List Value},Vals [x] us → ∃ u,us = [u] ∧ RelV x u
  | _,_,h=>by
    cases h with
    | cons r t=>
      cases t
      exact ⟨_,rfl,r⟩
theorem Vals.two:∀ {x y:V} {us:List Value},Vals [x,y] us → ∃ u v,us = [u,v] ∧ RelV x u ∧ RelV y v
  | _,_,_,h=>by
    cases h with
    | cons r t=>
      cases t with
      | cons q t2=>
        cases t2
        exact ⟨_,_,rfl,r,q⟩
theorem Vals.zero:∀ {us:List Value},Vals [] us → us = []
  | _,.nil=>rfl
theorem Vals.reverse {xs:List V} {us:List Value} (h:Vals xs us):Vals xs.reverse us.reverse:=by
  induction h with
  | nil=>exact .nil
  | cons r t ih=>rw [List.reverse_cons,List.reverse_cons]; exact Vals.append ih (.cons r .nil)
section
variable {X:Cx} {pins:List (Addr × Obj)} {σ:St} {H:Hp} {s:Shared} {l b:Addr} {xs ys zs:List V}
theorem Inv.lset {its its':List Value} {n:Nat} {f:Array Value → Array Value} {t':Nat} (I:Inv X pins σ H s) (hH:H l = some (.lst xs))
    (e:s.heap.get? l = some { cls:=.type "list",data:=.seq its.toArray n }) (hf:f its.toArray = its'.toArray) (hv:Vals ys its') (hz:ys.length ≤ sizeLine) :
    Inv X pins σ (upd H l (.lst ys)) { s with heap:=s.heap.update l (Obj.mapSeq f),toks:=t' }:=by
  have q:=PySem.IsL.update e f
  rw [hf] at q
  refine I.write (x:=l) (e:=l) (by rw [hH]; exact trivial) (.inl rfl) (fun b' u hb hu=>(Heap.get?_update_other s.heap (Obj.mapSeq f) (Ne.symm hb)).trans hu) ⟨_,q⟩ ?_
  exact ⟨hz,its',_,hv,q⟩
theorem Inv.lnew {its:List Value} {t':Nat} (I:Inv X pins σ H s) (hv:Vals ys its) (hz:ys.length ≤ sizeLine) :
    Inv X pins σ (upd H s.heap.objs.size (.lst ys)) { s with heap:=s.heap.push { cls:=.type "list",data:=.seq its.toArray },toks:=t' }:=
  I.laid (fun _ _ q=>Heap.get?_push_of_some _ q) (Nat.le_refl _) ⟨hz,its,0,hv,Heap.get?_push_size _ rfl⟩
theorem Inv.fresh (I:Inv X pins σ H s):H s.heap.objs.size = none:=I.hok.fresh (Nat.le_refl _)
theorem Inv.lstM (I:Inv X pins σ H s) (hH:H l = some (.lst xs)):xs.length ≤ sizeLine ∧ ∃ (its:List Value) (n:Nat),Vals xs its ∧ xs.length = its.length ∧ s.heap.get? l = some { cls:=.type "list",data:=.seq its.toArray n }:=by
  obtain ⟨z,its,n,r,e⟩:=I.hok l _ hH
  exact ⟨z,its,n,r,r.length,e⟩
end
section
variable {X:Cx}
def jqR:V → List V → Hp → VK → Prop:=fun x vs H Q=>∃ l xs y,x = .ref l ∧ vs = [y] ∧ H l = some (.lst xs) ∧ xs.length < sizeLine ∧ Q .non (upd H l (.lst (xs ++ [y])))
theorem jmZ:MtM X "list.append" jqR:=by
  intro pins s σ H x vs v us Q I rx rv h
  obtain ⟨l,xs,y,rfl,rfl,hH,hz,q⟩:=h
  cases rx
  obtain ⟨u,rfl,ru⟩:=rv.one
  obtain ⟨z,its,n,r,hl,e⟩:=I.lstM hH
  refine call_meets F.slot_list_append ⟨_,e,rfl⟩ F.entry_list_append (F.args_list_append_2 _ _) (PySem.list_append l its.toArray n u (by rw [List.size_toArray]; omega)) ⟨e,?_⟩
  refine ⟨.non,_,I.lset (its':=its ++ [u]) hH e (by simp) (r.append (.cons ru .nil)) ?_,rfl,q⟩
  rw [List.length_append,List.length_singleton]
  omega
end
section
variable {prog:Program} {w:World} {A:Around} {E:Value → Shared → Prop} {s:Shared}
end
section
variable {X:Cx}
end
end L2
namespace Att
open PySem PySem.W PySem.Calls PyProof.Rows
theorem jgD {P:Params} {h:Heap}:∀ (ns:List Int) (vs:List Value),WellAll P h vs (ns.map WData.int) → IntsAre vs ns:=by
  intro ns
  induction ns with
  | nil=>
    intro vs w
    rw [List.map_nil] at w
    cases w
    exact .nil
  | cons n ns ih=>
    intro vs w
    rw [List.map_cons] at w
    cases w with
    | cons a b=>
      cases a
      exact .cons _ _ (ih _ b)
theorem jmp {l:OpenLaw} {n:Nat} (hn:l.most = some n) {P:Params} {h:Heap} {args:List WData} {vals:List Value}
    (hpre:l.row.toRowW.claim.pre args = true) (hwl:WellAll P h vals args) :
    ∃ a vs ns,vals = [Value.ref a] ∧ args = [WData.list (ns.map WData.int)] ∧ h.get? a = some { cls:=.type "list",data:=.seq vs.toArray } ∧ IntsAre vs ns ∧ ns.length ≤ n:=by
  have hsh:WShape.hasAll [] args [.list .int] = true:=(pre_splitW hpre).1
  have hc:l.pre.holds [] { args:=args } = true:=(pre_splitW hpre).2
  obtain ⟨d,r,rfl,h1,h2⟩:=hasAllW_cons hsh
  obtain rfl:=hasAllW_nil h2
  obtain ⟨xs,rfl,h3⟩:=hasW_list h1
  obtain ⟨ns,rfl⟩:=items_int h3
  have hlen:ns.length ≤ n:=by
    unfold OpenLaw.pre at hc
    have h4:(WTm.not (.lt (.lit (.int (n:Int))) (.len (.arg 0)))).holds [] { args:=[.list (ns.map .int)] } = true:=by
      have h4:=(holds_andW hc).1
      rw [hn] at h4
      exact h4
    have h5:=condW_of h4 (w_not (w_lt w_lit (w_len_list (w_arg rfl))))
    rw [List.length_map] at h5
    refine Nat.le_of_not_lt fun q=>?_
    have q':(n:Int) < ((ns.length:Nat):Int):=by omega
    first
      | (rw [decide_eq_true q'] at h5; exact absurd h5 (by decide))
      | (simp at h5; omega)
  cases hwl with
  | cons w1 w2=>
    cases w2
    cases w1 with
    | list ho hall=>exact ⟨_,_,ns,rfl,rfl,ho,jgD ns _ hall,hlen⟩
theorem jmx (l:OpenLaw) (args:List WData):l.row.toRowW.claim.post args (.bool true) args = true:=
  postW_of (r:=l.row.toRowW) (X:=(true == true))
    (show WShape.has [] (.bool true) .bool = true by first | rfl | decide | simp [WShape.has,WShape.arms,WShape.armsAll])
    (show (WTm.eq .res (.lit (.bool true))).value [] { args:=args,res:=some (.bool true),after:=args } = some (.bool (true == true)) from w_eq_bool (w_res rfl) w_lit) rfl
theorem jky {l:OpenLaw} {n:Nat} {q:Program} {loose:List Str} {XP:(Str → Option Value) → Heap → Prop} {YP:World → Heap → Prop} {d:DefRec}
    (hn:l.most = some n) (hdf:d.params.defaults = [])
    (call:∀ (w:World) (s₀ s₁:Shared) (mg mb:Str → Option Value) (fa:Addr) (o:Obj) (pm cd doc:Value) (a:Addr) (vs:List Value) (ns:List Int),
      Ground q loose [] XP w s₀ mg mb s₁.heap → YP w s₁.heap →
      s₁.heap.get? fa = some o → o.data = .func (docDef d.name d.params d.body d.scope pm cd doc) → s₁.heap.CodeRec cd d.name → mg d.name = some (.ref fa) →
      s₁.heap.get? a = some { cls:=.type "list",data:=.seq vs.toArray } → IntsAre vs ns → ns.length ≤ n → s₁.gens = #[] →
      codeAny (model l.prog w) callerA (.call (.ref fa) ⟨[.ref a],[]⟩) (fun r s'=>r = .ok (.ret (.bool true)) ∧ OldK s₁.heap s'.heap ∧ s'.os = s₁.os ∧ AllBare s'.gens) s₁) :
    WalkO q loose XP YP l.row.toRowW d [] (fun f vs=>PySem.call f vs):=by
  intro w s₀ s₁ mg mb G Y fa o pm cd doc dV kV ho hd hcd hD hmg hg args vals as hpre hlay hrd hwl hlo
  obtain rfl:dV = .none:=Dflts.none hD hdf
  obtain rfl:kV = .none:=Dflts.noKw hD
  obtain ⟨a,vs,ns,rfl,rfl,hobj,hints,hlen⟩:=jmp hn hpre hwl
  refine enter_call (codeAny_mono (call w s₀ s₁ mg mb fa o pm cd doc a vs ns G Y ho (fd_plain hd) hcd hmg hobj hints hlen hg) fun r s' hq=>?_)
  obtain ⟨rfl,h2,h3,h4⟩:=hq
  exact ⟨.inl ⟨.bool true,.bool true,[],rfl,fun _=>rfl,.bool true,jmx l _,fun _=>⟨List.Pairwise.nil,fun _ hm=>(nomatch hm)⟩⟩,h2,h3,h4⟩
section
variable {prog:Program} {w:World} {A:Around} {E:Value → Shared → Prop} {s:Shared} {K:Frag}
def jwj (h:Heap) (L d:Addr):List (Addr × Obj):=(List.range h.objs.size).filterMap fun a=>if a = L ∨ a = d then none else (h.get? a).map fun o=>(a,o)
end
end Att
namespace L2
open PySem PySem.Spec PyProof.Rows
theorem jeZ:∀ {vs:List Value} {ns:List Int},IntsAre vs ns → Vals (ns.map V.int) vs
  | _,_,.nil=>.nil
  | _,_,.cons n t h=>.cons ⟨t,rfl⟩ (jeZ h)
def jv0 (H:Hp):Prop:=∀ b,H b = none ∨ ∃ o xs,H b = some (.frz o (.lst xs))
theorem joP {P:Program} {w:World} {K:PySem.W.Frag} {mg mb:Str → Option Value} {CX:CXT} {k:Nat} {fa a:Addr} {fd:FuncData} {x:Str} {sp:Sp} {s₁:Shared} {vs:List Value} {ns:List Int}
    (KX:K.In s₁.heap) (hns:s₁.heap.Ns mainGlobals mg) (hb:s₁.heap.Ns builtinsNs mb) (hbb:∀ x:Str,x ≠ "__name__" → mb x = bootBuiltins x) (hlim:s₁.heap.NoLimit) (hg:s₁.gens = #[])
    (ha:s₁.heap.get? a = some { cls:=.type "list",data:=.seq vs.toArray }) (hi:IntsAre vs ns) (hl:ns.length ≤ sizeLine) (hr:Room k callerA)
    (F:∀ base:Heap,K.In base → base.Ns mainGlobals mg → FnOk P w K mg base CX k fa fd [x] sp) (hbind:∀ (s:Shared) (u:Value),BindsTo s fd ⟨[u],[]⟩ [(x,u)])
    (hsp:∀ H:Hp,jv0 H → SqL K H a (ns.map V.int) → sp [.ref a] H (fun v _=>v = .bl true) fun _ _ _=>False)
    (hCX:∀ H e s',CX [] H s₁ (fun _ _ _=>False) e s' → False) :
    codeAny (model P w) callerA (.call (.ref fa) ⟨[.ref a],[]⟩) (fun r s'=>r = .ok (.ret (.bool true)) ∧ OldK s₁.heap s'.heap ∧ s'.os = s₁.os ∧ AllBare s'.gens) s₁:=by
  have rv:=jeZ hi
  have lenV:=hi.length
  have core:∀ H:Hp,jv0 H → SqL K H a (ns.map V.int) → HOk P w H s₁.heap → (∀ b,H b ≠ none → b = a) → (H a ≠ none → K.lookup a = none) →
      codeAny (model P w) callerA (.call (.ref fa) ⟨[.ref a],[]⟩) (fun r s'=>r = .ok (.ret (.bool true)) ∧ OldK s₁.heap s'.heap ∧ s'.os = s₁.os ∧ AllBare s'.gens) s₁:=by
    intro H hO hS hok hA hK
    have base_of:∀ {b:Addr} {o:Obj},s₁.heap.get? b = some o → H b = none → (jpk s₁.heap H).get? b = some o:=fun e n=>jpj e n
    have noA:∀ {b:Addr} {o:Obj} {es:Array DictEntry} {ep:Nat},s₁.heap.get? b = some o → o.data = .dict es ep → H b = none:=fun {b o es ep} e d=>by
      cases q:H b with
      | none=>rfl
      | some u=>
        have e':b = a:=hA b (by rw [q]; simp)
        subst e'
        rw [ha] at e; cases e
        have d':Data.seq vs.toArray _ = Data.dict es ep:=d
        cases d'
    have nsK:∀ {b:Addr} {m:Str → Option Value},s₁.heap.Ns b m → (jpk s₁.heap H).Ns b m:=fun {b m} ⟨o,es,ep,e,d,r⟩=>⟨o,es,ep,base_of e (noA e d),d,r⟩
    have hKb:K.In (jpk s₁.heap H):=fun b o e=>base_of (KX b o e) (by
      cases q:H b with
      | none=>rfl
      | some u=>
        have e':b = a:=hA b (by rw [q]; simp)
        subst e'
        rw [hK (by rw [q]; simp)] at e; cases e)
    have hM:Mod K mg (jpk s₁.heap H):=⟨hKb,nsK hns,⟨mb,nsK hb,hbb⟩,let ⟨mc,h1,h2⟩:=hlim; ⟨mc,nsK h1,h2⟩⟩
    have e0:Env0 P w K mg (jpk s₁.heap H) callerA [] s₁ H:=⟨rfl,hM,fun b o e=>jq9 e,Nat.le_of_eq (jnc _ _),trivial,fun b hb=>absurd (show b ∈ ([]:List Addr) from hb) (by simp),hok,.of_eq hg⟩
    refine codeAny_mono ((F _ hKb (nsK hns)).run callerA [] s₁ H ⟨[.ref a],[]⟩ [.ref a] [.ref a] _ _ hr e0 (hbind s₁ (.ref a)) (.cons rfl .nil) (hsp H hO hS)) fun r s' h=>?_
    cases r with
    | error e=>exact (hCX H e s' h).elim
    | ok fl=>
      cases fl with
      | next=>exact False.elim h
      | brk=>exact False.elim h
      | cont=>exact False.elim h
      | ret u=>
        obtain ⟨v,H',os,bare,un,hok',r',q⟩:=h
        have q':v = .bl true:=q
        subst q'
        obtain rfl:u = Value.bool true:=r'
        refine ⟨rfl,OldK.of_keep fun b o e=>?_,os,bare⟩
        cases q:H b with
        | none=>exact un.keep b o e q (by intro z; exact absurd (show b ∈ ([]:List Addr) from z) (by simp)) (by simp)
        | some u=>
          rcases hO b with z | ⟨ob,xs,z⟩
          · rw [q] at z; cases z
          · have z2:=un.frzs b ob _ z
            obtain ⟨e1,_⟩:=hok b _ z
            obtain ⟨e2,_⟩:=hok' b _ z2
            rw [e] at e1; cases e1
            exact e2
  cases hk:K.lookup a with
  | some o=>
    have e:=KX a o hk
    rw [ha] at e
    cases e
    refine core (fun _=>none) (fun _=>.inl rfl) (.inr ⟨_,vs.toArray,_,hk,rfl,rfl,rfl,by rw [List.size_toArray,lenV]; exact hl,by simpa using rv⟩) (fun b u z=>by have z':(none:Option HO) = some u:=z; cases z') (fun b z=>absurd rfl z) fun z=>absurd rfl z
  | none=>
    refine core (fun b=>if b = a then some (.frz { cls:=.type "list",data:=.seq vs.toArray } (.lst (ns.map V.int))) else none) (fun b=>?_) (.inl (.inr ⟨{ cls:=.type "list",data:=.seq vs.toArray },if_pos rfl⟩)) (fun b u z=>?_) (fun b z=>?_) fun _=>hk
    · by_cases hb:b = a
      · exact .inr ⟨_,_,if_pos hb⟩
      · exact .inl (if_neg hb)
    · by_cases hb:b = a
      · have z':=(if_pos hb).symm.trans z
        cases z'
        subst hb
        exact ⟨ha,by rw [List.length_map]; exact hl,vs,_,rv,ha⟩
      · have z':=(if_neg hb).symm.trans z
        cases z'
    · by_cases hb:b = a
      · exact hb
      · exact absurd (if_neg hb) z
end L2
namespace L2
open PySem PySem.Spec PyProof.Rows
abbrev KOf {K:PySem.W.Frag} {h:Heap} (_:K.In h):PySem.W.Frag:=K
theorem jqw {l:PySem.W.OpenLaw} {n k:Nat} {q:Program} {loose:List Str} {XP:(Str → Option Value) → Heap → Prop} {YP:World → Heap → Prop} {d:DefRec} {K:Params → PySem.W.Frag} {CX:World → CXT} {sp:World → Sp} {x:Str}
    (hn:l.most = some n) (hn2:n ≤ sizeLine) (hdf:d.params.defaults = []) (hr:Room k callerA)
    (hY:∀ (w:World) (h:Heap),YP w h → (K w.params).In h)
    (F:∀ (w:World) (mg:Str → Option Value) (fa:Addr) (h:Heap),(K w.params).In h → h.Ns mainGlobals mg → mg d.name = some (.ref fa) →
      ∃ fd:FuncData,(∀ (s:Shared) (u:Value),BindsTo s fd ⟨[u],[]⟩ [(x,u)]) ∧
        ∀ base:Heap,(K w.params).In base → base.Ns mainGlobals mg → FnOk l.prog w (K w.params) mg base (CX w) k fa fd [x] (sp w))
    (hsp:∀ (w:World) (H:Hp) (a:Addr) (ns:List Int),ns.length ≤ n → jv0 H → SqL (K w.params) H a (ns.map V.int) → sp w [.ref a] H (fun v _=>v = .bl true) fun _ _ _=>False)
    (hCX:∀ (w:World) (H:Hp) (s:Shared) (e:Value) (s':Shared),CX w [] H s (fun _ _ _=>False) e s' → False) :
    PySem.W.WalkO q loose XP YP l.row.toRowW d [] (fun f vs=>PySem.call f vs):=by
  refine Att.jky hn hdf fun w s₀ s₁ mg mb fa o pm cd doc a vs ns G Y ho hd hcd hmg hobj hints hlen hg=>?_
  have KX:=hY w _ Y
  obtain ⟨fd,hb,hF⟩:=F w mg fa _ KX G.T.g hmg
  exact joP KX G.T.g G.T.b G.T.builtins G.T.nolimit hg hobj hints (Nat.le_trans hlen hn2) hr hF hb (fun H hO hS=>hsp w H a ns hlen hO hS) fun H e s'=>hCX w H s₁ e s'
end L2
namespace L2
open PySem PySem.Spec PyProof.Rows
def jbP (s:Stmt):Arguments:=match s with
  | .FunctionDef _ a _ _ _ _ _ _ _ _=>a
  | _=>{ posonlyargs:=[],args:=[],vararg:=none,kwonlyargs:=[],kw_defaults:=[],kwarg:=none,defaults:=[] }
def jbi (s:Stmt):List Stmt:=match s with
  | .FunctionDef _ _ b _ _ _ _ _ _ _=>b
  | _=>[]
def jaf (s:Stmt):Scope:=match s with
  | .FunctionDef _ _ _ _ _ _ sc _ _ _=>sc
  | _=>{ kind:=.function,names:=[],isGenerator:=false,isCoroutine:=false }
abbrev CX0:CXT:=fun _ _ _ _ _ _=>False
abbrev E0:XK:=fun _ _ _=>False
theorem jvc {X:Cx}:jle CX0 X E0:=fun _ _ _ _ _ _ _ h=>h.elim
structure Fun (K:PySem.W.Frag) (x qual:Str) (st:Stmt) (f:Addr) (fd:FuncData):Prop where
  ex:∃ (oc:Value) (od:Option Addr) (kV doc pm:Value) (an:Option Addr) (cdv ct:Value) (osl:Array (Option Value)),
    fd = PySem.W.fnOf x qual (jbP st) (jbi st) (jaf st) .none kV doc pm an cdv ct ∧ K.lookup f = some ⟨oc,od,.func fd,osl⟩ ∧ PySem.W.codeIn K cdv qual = true
  kp:PySem.W.keepIn K (.ref f) = true
section
variable {P:Program} {w:World} {K:PySem.W.Frag} {mg:Str → Option Value} {base:Heap}
theorem Fun.ok {x qual:Str} {st:Stmt} {f:Addr} {fd:FuncData} {N ps:List Str} {k:Nat} {sp:Sp} (F:Fun K x qual st f fd) (S:FnScope N ps (jaf st)) (len:∀ vs H Q E,sp vs H Q E → vs.length = ps.length)
    (hbody:∀ (cdv:Value) (A:Around) (outer:List Env) (s:Shared) (H:Hp) (vs:List V) (Q:VK) (E:XK),Room k (A.deeper (envOfC qual (jaf st) s.heap.objs.size f cdv)) → sp vs H Q E →
      ∃ t,PSs (jg9 CX0 P w K mg base N qual (jaf st) f cdv A outer s H E).nox (jbi st) t ∧ t { nx:=fun _ H'=>Q .non H',rt:=Q } (start N vs) H):FnOk P w K mg base CX0 (k + 1) f fd ps sp:=by
  obtain ⟨oc,od,kV,doc,pm,an,cdv,ct,osl,rfl,lk,hcd⟩:=F.ex
  refine jrB lk hcd S len fun A outer s H vs Q E hr hsp=>?_
  obtain ⟨t,h,q⟩:=hbody cdv A outer s H vs Q E hr hsp
  exact ⟨t,h.nox,q⟩
theorem Fun.binds {x qual:Str} {st:Stmt} {f:Addr} {fd:FuncData} {ps:List Str} (F:Fun K x qual st f fd)
    (h:∀ (kV doc pm:Value) (an:Option Addr) (cdv ct:Value) (us:List Value),us.length = ps.length → bindArgs (PySem.W.fnOf x qual (jbP st) (jbi st) (jaf st) .none kV doc pm an cdv ct) ⟨us,[]⟩ = pure (ps.zip us)):Binds K fd ps []:=by
  obtain ⟨oc,od,kV,doc,pm,an,cdv,ct,osl,rfl,lk,hcd⟩:=F.ex
  exact .all (h kV doc pm an cdv ct)
end
section
variable {X:Cx}
end
def Same (H H':Hp):Prop:=∀ b o,H b = some o → H' b = some o
theorem Same.refl (H:Hp):Same H H:=fun _ _ h=>h
theorem Same.trans {H H1 H2:Hp} (a:Same H H1) (b:Same H1 H2):Same H H2:=fun c o h=>b c o (a c o h)
theorem Same.free {H H':Hp} (e:Same H H') {l:Addr} (h:H' l = Option.none):H l = Option.none:=by
  cases q:H l with
  | none=>rfl
  | some o=>
    rw [e l o q] at h
    cases h
theorem Same.seq {K:PySem.W.Frag} {H H':Hp} {a:Addr} {xs:List V} (e:Same H H') (h:SqL K H a xs):SqL K H' a xs:=by
  rcases h with (h | ⟨o,h⟩) | h
  · exact .inl (.inl (e _ _ h))
  · exact .inl (.inr ⟨o,e _ _ h⟩)
  · exact .inr h
end L2
set_option Elab.async false
set_option linter.all false
set_option maxRecDepth 100000
set_option maxHeartbeats 4000000
namespace VL
open PySem L2
abbrev D:=PyData
inductive Oc where
  | l (ds:List D) | d (es:List (Key × D))
inductive Sl where
  | un | fz (d:D) | own (c:Oc) | fr (ds:List D)
abbrev Sl.ow (ds:List D):Sl:=.own (.l ds)
abbrev Sl.od (es:List (Key × D)):Sl:=.own (.d es)
def jrr:Key → D
  | .inl i=>.int i
  | .inr x=>.str x
def jtP (es:List (Key × Int)):List (D × D):=es.map fun p=>(jrr p.1,.int p.2)
abbrev Dv:=List Sl
inductive Fl where
  | nx | bk | ct | rt (d:D)
abbrev Sf:=Dv → Option (Fl × Dv)
@[simp] def o2 (f1 f2:Dv → Option D) (g:D → D → Option D):Dv → Option D:=fun δ=>(f1 δ).bind fun x=>(f2 δ).bind fun y=>g x y
@[simp] def o1 (f:Dv → Option D) (g:D → Option D):Dv → Option D:=fun δ=>(f δ).bind g
@[simp] def os (f:Dv → Option (List D)) (g:List D → Option D):Dv → Option D:=fun δ=>(f δ).bind g
def asB:D → Option Bool
  | .bool b=>some b
  | _=>none
@[simp] theorem jpz (b:Bool):asB (.bool b) = some b:=rfl
@[simp] def ob (f:Dv → Option D):Dv → Option Bool:=fun δ=>(f δ).bind asB
@[simp] def jx4 (t u:Dv → Option Bool):Dv → Option Bool:=fun δ=>(t δ).bind fun b=>if b = true then u δ else some false
@[simp] def oOr (t u:Dv → Option Bool):Dv → Option Bool:=fun δ=>(t δ).bind fun b=>if b = true then some true else u δ
@[simp] def jhx (t:Dv → Option Bool):Dv → Option Bool:=fun δ=>(t δ).map (!·)
@[simp] def jjb (f1 f2:Dv → Option D):Dv → Option D:=fun δ=>(f1 δ).bind fun x=>(asB x).bind fun b=>if b = true then f2 δ else some (.bool false)
@[simp] def jx2 (f1 f2:Dv → Option D):Dv → Option D:=fun δ=>(f1 δ).bind fun x=>(asB x).bind fun b=>if b = true then some (.bool true) else f2 δ
@[simp] def juf (d:D):Option D:=(asB d).map fun b=>.bool (!b)
@[simp] def oIf (t:Dv → Option Bool) (f1 f2:Dv → Option D):Dv → Option D:=fun δ=>(t δ).bind fun b=>if b = true then f1 δ else f2 δ
def slV:Option Sl → Option D
  | some (.fz d)=>some d
  | some (.fr ds)=>some (.list ds)
  | _=>none
@[simp] theorem jv3 (ds:List D):slV (some (.fr ds)) = some (.list ds):=rfl
@[simp] theorem jv2 (d:D):slV (some (.fz d)) = some d:=rfl
@[simp] def oV (i:Nat):Dv → Option D:=fun δ=>slV δ[i]?
@[simp] def oC (d:D):Dv → Option D:=fun _=>some d
@[simp] def jas:Dv → Option (List D):=fun _=>some []
@[simp] def jac (f:Dv → Option D) (fs:Dv → Option (List D)):Dv → Option (List D):=fun δ=>(f δ).bind fun x=>(fs δ).bind fun xs=>some (x :: xs)
def jdf (ds:List D):Option D:=if ds.length ≤ sizeLine then some (.tuple ds) else none
def jhy (ds:List D):Option D:=if ds.length ≤ sizeLine then some (.list ds) else none
theorem jfq {ds:List D} (h:ds.length ≤ 16777216):jdf ds = some (.tuple ds):=if_pos h
theorem jfy {ds:List D} (h:ds.length ≤ 16777216):jhy ds = some (.list ds):=if_pos h
@[simp] theorem jwG:jdf [] = some (.tuple []):=rfl
@[simp] theorem jwF (a:D):jdf [a] = some (.tuple [a]):=jfq (by simp)
@[simp] theorem jwE (a b:D):jdf [a,b] = some (.tuple [a,b]):=jfq (by simp)
@[simp] theorem jwD (a b c:D):jdf [a,b,c] = some (.tuple [a,b,c]):=jfq (by simp)
@[simp] theorem jwC (a b c d:D):jdf [a,b,c,d] = some (.tuple [a,b,c,d]):=jfq (by simp)
@[simp] theorem jwB (a b c d e:D):jdf [a,b,c,d,e] = some (.tuple [a,b,c,d,e]):=jfq (by simp)
@[simp] theorem jwA (a b c d e f g h:D):jdf [a,b,c,d,e,f,g,h] = some (.tuple [a,b,c,d,e,f,g,h]):=jfq (by simp)
@[simp] theorem jxw:jhy [] = some (.list []):=rfl
@[simp] theorem jxv (a:D):jhy [a] = some (.list [a]):=jfy (by simp)
@[simp] theorem jxu (a b:D):jhy [a,b] = some (.list [a,b]):=jfy (by simp)
@[simp] theorem jxt (a b c:D):jhy [a,b,c] = some (.list [a,b,c]):=jfy (by simp)
@[simp] theorem jxs (a b c d:D):jhy [a,b,c,d] = some (.list [a,b,c,d]):=jfy (by simp)
@[simp] theorem jxr (a b c d e:D):jhy [a,b,c,d,e] = some (.list [a,b,c,d,e]):=jfy (by simp)
instance (i j:Int):Decidable (IntMulOk i j):=by unfold IntMulOk; infer_instance
def iI (g:Int → Int → Int):D → D → Option D
  | .int i,.int j=>some (.int (g i j))
  | _,_=>none
def iC (C:Int → Int → Bool) (g:Int → Int → Int):D → D → Option D
  | .int i,.int j=>if C i j = true then some (.int (g i j)) else none
  | _,_=>none
def iB (g:Int → Int → Bool):D → D → Option D
  | .int i,.int j=>some (.bool (g i j))
  | _,_=>none
@[simp] theorem jwl (g:Int → Int → Int) (i j:Int):iI g (.int i) (.int j) = some (.int (g i j)):=rfl
@[simp] theorem jwm (g:Int → Int → Bool) (i j:Int):iB g (.int i) (.int j) = some (.bool (g i j)):=rfl
theorem jhB {C:Int → Int → Bool} {g:Int → Int → Int} {i j:Int} (h:C i j = true):iC C g (.int i) (.int j) = some (.int (g i j)):=if_pos h
def jxO (i j:Int):Bool:=decide (IntMulOk i j)
def jxQ (i j:Int):Bool:=decide (0 < j ∧ j < 1073741824)
def jxP (i j:Int):Bool:=decide (0 < j)
def jxN (i j:Int):Bool:=decide (0 ≤ j ∧ j ≤ 1000000 ∧ i.natAbs < 2 ^ 64)
def jxM (i j:Int):Bool:=decide (0 ≤ j ∧ (Builtin.Int.intBits i:Int) + j ≤ 2 ^ 27)
def jxL (i j:Int):Bool:=decide (0 ≤ j)
abbrev jdS:=iI fun i j=>i - j
abbrev jkW:=iC jxO fun i j=>i * j
abbrev jhF:=iC jxQ fun i j=>i / j
abbrev jdu:=iC jxP fun i j=>i % j
abbrev jxc:=iC jxN fun i j=>i ^ j.toNat
abbrev jg8:=iC jxM fun i j=>i * 2 ^ j.toNat
abbrev jjJ:=iC jxL fun i j=>i / 2 ^ j.toNat
abbrev jhb:=iI Builtin.bitAnd
abbrev orD:=iI Builtin.bitOr
abbrev jiK:=iI Builtin.bitXor
abbrev ltD:=iB fun i j=>decide (i < j)
abbrev gtD:=iB fun i j=>decide (j < i)
@[simp] theorem jui {i j:Int} (h:IntMulOk i j):jkW (.int i) (.int j) = some (.int (i * j)):=jhB (decide_eq_true h)
@[simp] theorem jux {i j:Int} (h:0 < j) (h2:j < 1073741824):jhF (.int i) (.int j) = some (.int (i / j)):=jhB (decide_eq_true ⟨h,h2⟩)
@[simp] theorem jeq {i j:Int} (h:0 < j):jdu (.int i) (.int j) = some (.int (i % j)):=jhB (decide_eq_true h)
@[simp] theorem jua {i j:Int} (h:0 ≤ j) (h2:j ≤ 1000000) (h3:i.natAbs < 2 ^ 64):jxc (.int i) (.int j) = some (.int (i ^ j.toNat)):=jhB (decide_eq_true ⟨h,h2,h3⟩)
theorem jhU {i j:Int} (h:0 ≤ j) (h2:(Builtin.Int.intBits i:Int) + j ≤ 2 ^ 27):jg8 (.int i) (.int j) = some (.int (i * 2 ^ j.toNat)):=jhB (decide_eq_true ⟨h,h2⟩)
@[simp] theorem jkQ {i j:Int} (h:0 ≤ j):jjJ (.int i) (.int j) = some (.int (i / 2 ^ j.toNat)):=jhB (decide_eq_true h)
def negD:D → Option D
  | .int i=>some (.int (-i))
  | _=>none
@[simp] theorem jug (i:Int):negD (.int i) = some (.int (-i)):=rfl
def jfk:D → D → Option D
  | .int i,.int j=>some (.int (i + j))
  | .str x,.str y=>if x.length + y.length ≤ sizeLine then some (.str (x ++ y)) else none
  | .list xs,.list ys=>if xs.length + ys.length ≤ sizeLine then some (.list (xs ++ ys)) else none
  | .tuple xs,.tuple ys=>if xs.length + ys.length ≤ sizeLine then some (.tuple (xs ++ ys)) else none
  | _,_=>none
@[simp] theorem juz (i j:Int):jfk (.int i) (.int j) = some (.int (i + j)):=rfl
def shp (d:D):Bool:=PySem.SeqAt.shaped d
def eqD:D → D → Option D:=fun a b=>if shp a = true ∧ shp b = true then some (.bool (PyData.eqv a b)) else none
def neD:D → D → Option D:=fun a b=>if shp a = true ∧ shp b = true then some (.bool (!PyData.eqv a b)) else none
@[simp] theorem jrH (i j:Int):eqD (.int i) (.int j) = some (.bool (i == j)):=rfl
@[simp] theorem jvp (i j:Int):neD (.int i) (.int j) = some (.bool (!(i == j))):=rfl
@[simp] theorem juw (i j:Bool):eqD (.bool i) (.bool j) = some (.bool (i == j)):=rfl
@[simp] theorem juh (i j:Bool):neD (.bool i) (.bool j) = some (.bool (!(i == j))):=rfl
def isN (d:D):Bool:=match d with
  | .none=>true
  | _=>false
def isD:D → D → Option D:=fun a b=>match b with
  | .none=>some (.bool (isN a))
  | _=>none
def jvy:D → D → Option D:=fun a b=>match b with
  | .none=>some (.bool (!isN a))
  | _=>none
@[simp] theorem jur (a:D):isD a .none = some (.bool (isN a)):=rfl
@[simp] theorem jsh (a:D):jvy a .none = some (.bool (!isN a)):=rfl
@[simp] theorem juq:isN .none = true:=rfl
@[simp] theorem jvC (i:Int):isN (.int i) = false:=rfl
def ixD:D → D → Option D
  | .list xs,.int i=>atI xs i
  | .tuple xs,.int i=>atI xs i
  | _,_=>none
@[simp] theorem jup (xs:List D) (i:Int):ixD (.list xs) (.int i) = atI xs i:=rfl
@[simp] theorem jty (xs:List D) (i:Int):ixD (.tuple xs) (.int i) = atI xs i:=rfl
theorem jde {α:Type} {xs:List α} {i:Int} {j:Nat} {v:α} (hi:i = j) (h:xs[j]? = some v):atI xs i = some v:=by
  have hl:j < xs.length:=(List.getElem?_eq_some_iff.mp h).1
  subst hi
  unfold atI ixN
  rw [if_pos (by omega),if_pos (by omega)]
  simpa using h
@[simp] theorem at0 {α:Type} (a:α) (r:List α):atI (a :: r) 0 = some a:=jde (j:=0) rfl rfl
@[simp] theorem at1 {α:Type} (a b:α) (r:List α):atI (a :: b :: r) 1 = some b:=jde (j:=1) rfl rfl
@[simp] theorem at2 {α:Type} (a b c:α) (r:List α):atI (a :: b :: c :: r) 2 = some c:=jde (j:=2) rfl rfl
@[simp] theorem at3 {α:Type} (a b c d:α) (r:List α):atI (a :: b :: c :: d :: r) 3 = some d:=jde (j:=3) rfl rfl
@[simp] theorem at4 {α:Type} (a b c d e:α) (r:List α):atI (a :: b :: c :: d :: e :: r) 4 = some e:=jde (j:=4) rfl rfl
@[simp] theorem at5 {α:Type} (a b c d e f:α) (r:List α):atI (a :: b :: c :: d :: e :: f :: r) 5 = some f:=jde (j:=5) rfl rfl
@[simp] theorem at6 {α:Type} (a b c d e f g:α) (r:List α):atI (a :: b :: c :: d :: e :: f :: g :: r) 6 = some g:=jde (j:=6) rfl rfl
@[simp] theorem at7 {α:Type} (a b c d e f g h:α) (r:List α):atI (a :: b :: c :: d :: e :: f :: g :: h :: r) 7 = some h:=jde (j:=7) rfl rfl
def jdT:List D → Option D
  | [.list xs]=>some (.int xs.length)
  | [.tuple xs]=>some (.int xs.length)
  | _=>none
@[simp] theorem jtp (xs:List D):jdT [.list xs] = some (.int xs.length):=rfl
@[simp] theorem jse (xs:List D):jdT [.tuple xs] = some (.int xs.length):=rfl
def juk:List D → Option D
  | [.int i,.int j]=>some (.int (if j < i then j else i))
  | _=>none
def jtm:List D → Option D
  | [.int i,.int j]=>some (.int (if j > i then j else i))
  | _=>none
@[simp] theorem juj (i j:Int):juk [.int i,.int j] = some (.int (if j < i then j else i)):=rfl
@[simp] theorem jkX (i j:Int):jtm [.int i,.int j] = some (.int (if j > i then j else i)):=rfl
def jsj:List D → Option D
  | [.int i]=>some (.int i)
  | [.bool b]=>some (.int (if b then 1 else 0))
  | _=>none
@[simp] theorem jut (i:Int):jsj [.int i] = some (.int i):=rfl
@[simp] theorem jtE (b:Bool):jsj [.bool b] = some (.int (if b then 1 else 0)):=rfl
def jto:List D → Option D
  | [.list xs]=>some (.list xs)
  | [.tuple xs]=>some (.list xs)
  | _=>none
@[simp] theorem jsd (xs:List D):jto [.list xs] = some (.list xs):=rfl
@[simp] theorem jri (xs:List D):jto [.tuple xs] = some (.list xs):=rfl
def jb1:List D → Option D
  | [.list xs]=>some (.tuple xs)
  | [.tuple xs]=>some (.tuple xs)
  | _=>none
@[simp] theorem jqB (xs:List D):jb1 [.list xs] = some (.tuple xs):=rfl
@[simp] theorem jpF (xs:List D):jb1 [.tuple xs] = some (.tuple xs):=rfl
def jko:D → Option D
  | .int i=>some (.int (Builtin.Int.intBits i))
  | _=>none
@[simp] theorem jnF (i:Int):jko (.int i) = some (.int (Builtin.Int.intBits i)):=rfl
def tyN:D → String
  | .none=>"NoneType"
  | .bool _=>"bool"
  | .int _=>"int"
  | .str _=>"str"
  | .list _=>"list"
  | .tuple _=>"tuple"
  | .dict _=>"dict"
def jvz (t T:String):Bool:=t == T || (t == "bool" && T == "int")
def jpi:D → Bool
  | .dict _=>true
  | _=>false
def jhm (T:String) (d:D):Option D:=if jpi d = true then none else if T = "int" ∨ T = "bool" ∨ T = "str" ∨ T = "list" ∨ T = "tuple" then some (.bool (jvz (tyN d) T)) else none
@[simp] theorem jrt (i:Int):jhm "int" (.int i) = some (.bool true):=rfl
@[simp] theorem jqi (i:Int):jhm "bool" (.int i) = some (.bool false):=rfl
@[simp] theorem jqh (i:Bool):jhm "int" (.bool i) = some (.bool true):=rfl
@[simp] theorem jph (i:Bool):jhm "bool" (.bool i) = some (.bool true):=rfl
@[simp] theorem jna (xs:List D):jhm "tuple" (.tuple xs) = some (.bool true):=rfl
@[simp] theorem jpg (xs:List D):jhm "list" (.list xs) = some (.bool true):=rfl
@[simp] def jbk (f:Dv → Option D):Sf:=fun δ=>(f δ).bind fun d=>some (.rt d,δ)
@[simp] def jbl (i:Nat) (f:Dv → Option D):Sf:=fun δ=>(f δ).bind fun d=>some (.nx,δ.set i (.fz d))
@[simp] def jou (f:Dv → Option D):Sf:=fun δ=>(f δ).bind fun _=>some (.nx,δ)
@[simp] def sNx:Sf:=fun δ=>some (.nx,δ)
@[simp] def sBk:Sf:=fun δ=>some (.bk,δ)
@[simp] def sCt:Sf:=fun δ=>some (.ct,δ)
@[simp] def sSeq (s t:Sf):Sf:=fun δ=>(s δ).bind fun r=>match r with
  | (.nx,δ')=>t δ'
  | r=>some r
@[simp] def sIf (t:Dv → Option Bool) (u w:Sf):Sf:=fun δ=>(t δ).bind fun c=>if c = true then u δ else w δ
def dFz (i:Nat) (δ:Dv):Dv:=match δ[i]? with
  | some (.own (.l ds))=>δ.set i (.fz (.list ds))
  | _=>δ
@[simp] def gN (i:Nat):D → Dv → Option Dv:=fun d δ=>some (δ.set i (.fz d))
def loop (g:D → Dv → Option Dv) (b:Sf):List D → Sf
  | [],δ=>some (.nx,δ)
  | d :: ds,δ=>(g d δ).bind fun δ1=>(b δ1).bind fun r=>match r with
    | (.nx,δ2)=>loop g b ds δ2
    | (.ct,δ2)=>loop g b ds δ2
    | (.bk,δ2)=>some (.nx,δ2)
    | (.rt x,δ2)=>some (.rt x,δ2)
@[simp] theorem jum (g:D → Dv → Option Dv) (b:Sf) (δ:Dv):loop g b [] δ = some (.nx,δ):=rfl
@[simp] def jlW (f:Dv → Option (List D)) (g:D → Dv → Option Dv) (b:Sf):Sf:=fun δ=>(f δ).bind fun ds=>loop g b ds δ
def jeY (t:Dv → Option Bool) (b:Sf):Nat → Sf
  | 0,_=>none
  | n + 1,δ=>(t δ).bind fun c=>if c = true then (b δ).bind fun r=>match r with
      | (.nx,δ2)=>jeY t b n δ2
      | (.ct,δ2)=>jeY t b n δ2
      | (.bk,δ2)=>some (.nx,δ2)
      | (.rt x,δ2)=>some (.rt x,δ2)
    else some (.nx,δ)
def jlX (lo:Int) (n:Nat):List D:=(List.range n).map fun k=>.int (lo + (k:Nat))
def jbm:List D → Option (List D)
  | [.int j]=>if j < 2 ^ 62 ∧ -(2 ^ 62) ≤ j then some (jlX 0 j.toNat) else none
  | _=>none
theorem je5 {j:Int} (h:j < 4611686018427387904) (h2:-4611686018427387904 ≤ j):jbm [.int j] = some (jlX 0 j.toNat):=if_pos ⟨h,h2⟩
@[simp] def oL (fs:Dv → Option (List D)) (g:List D → Option (List D)):Dv → Option (List D):=fun δ=>(fs δ).bind g
def jhl:D → Option (List D)
  | .list xs=>some xs
  | .tuple xs=>some xs
  | _=>none
@[simp] theorem jtB (xs:List D):jhl (.list xs) = some xs:=rfl
@[simp] theorem jsg (xs:List D):jhl (.tuple xs) = some xs:=rfl
def jul:D → Option (List D)
  | .list xs=>some xs
  | _=>none
def jwz:D → Option (List D)
  | .tuple xs=>some xs
  | _=>none
@[simp] def oI (f:Dv → Option D) (g:D → Option (List D)):Dv → Option (List D):=fun δ=>(f δ).bind g
def jr8 (lo hi st:Int):Nat:=if lo < hi then ((hi - lo - 1) / st + 1).toNat else 0
@[simp] def oNo:Dv → Option (Option Int):=fun _=>some none
def asI:D → Option (Option Int)
  | .int i=>some (some i)
  | _=>none
@[simp] theorem jvU (i:Int):asI (.int i) = some (some i):=rfl
@[simp] def oP (f:Dv → Option D):Dv → Option (Option Int):=fun δ=>(f δ).bind asI
def jqn (xs:List D) (lo hi:Option Int):List D:=(xs.drop (HT.sIx xs.length 0 lo)).take (HT.sIx xs.length xs.length hi - HT.sIx xs.length 0 lo)
def slD:D → Option Int → Option Int → Option D
  | .list xs,lo,hi=>some (.list (jqn xs lo hi))
  | .tuple xs,lo,hi=>some (.tuple (jqn xs lo hi))
  | _,_,_=>none
@[simp] def oSl (f:Dv → Option D) (l u:Dv → Option (Option Int)):Dv → Option D:=fun δ=>(f δ).bind fun x=>(l δ).bind fun i=>(u δ).bind fun j=>slD x i j
def jal (N:List Str) (as:List D):Dv:=as.map .fz ++ List.replicate (N.length - as.length) .un
def runB (N:List Str) (n:Nat) (b:Sf):List D → Option D:=fun as=>if as.length = n then (b (jal N as)).bind fun r=>match r with
    | (.rt d,_)=>some d
    | (.nx,_)=>some .none
    | _=>none
  else none
theorem jm3 {g:D → Dv → Option Dv} {b:Sf} (I:Dv → Prop):∀ (ds:List D),(∀ d ∈ ds,∀ δ,I δ → ∃ δ1,g d δ = some δ1 ∧ ∃ δ2,b δ1 = some (.nx,δ2) ∧ I δ2) → ∀ δ,I δ → ∃ δ',loop g b ds δ = some (.nx,δ') ∧ I δ'
  | [],_,δ,hI=>⟨δ,rfl,hI⟩
  | d :: ds,h,δ,hI=>by
    obtain ⟨δ1,e1,δ2,e2,h2⟩:=h d List.mem_cons_self δ hI
    obtain ⟨δ',e3,h3⟩:=jm3 I ds (fun d hd=>h d (List.mem_cons_of_mem _ hd)) δ2 h2
    refine ⟨δ',?_,h3⟩
    rw [loop,e1]
    show (b δ1).bind _ = _
    rw [e2]
    exact e3
end VL
set_option Elab.async false
set_option linter.all false
set_option maxRecDepth 100000
set_option maxHeartbeats 4000000
namespace VL
open PySem PySem.Spec PyProof.Rows L2
abbrev Fg:=PySem.W.Frag
abbrev St:=L2.St
def exO (a C:Addr):HO:=.ext fun h=>∃ o,h.get? a = some o ∧ o.cls = .ref C ∧ ∃ vs,o.data = .fields vs ∧ vs[2]? = some .none
theorem Rd.same {H H':Hp} {a:Addr} {u:HO} (h:Rd H a u) (s:Same H H'):Rd H' a u:=by
  rcases h with h | ⟨o,h⟩
  · exact .inl (s _ _ h)
  · exact .inr ⟨o,s _ _ h⟩
inductive Opq (K:Fg) (Z:Hp) (a:Addr):List (D × D) → Prop
  | exc {n:Str} {C:Addr}:PySem.W.nsIn K mainGlobals n = some (some (.ref C)) → Rd Z a (exO a C) → Opq K Z a [(.str "exc",.str n)]
  | fn {n:Str}:PySem.W.nsIn K mainGlobals n = some (some (.ref a)) → Opq K Z a [(.str "fn",.str n)]
  | dct {kvs:List (D × D)} {es:List (Key × Int)}:kvs = jtP es → Z a = some (.dK (es.map fun p=>(p.1,V.int p.2))) → Opq K Z a kvs
theorem jrJ {es:List (Key × Int)} {a:D} {x:Str} {r:List (D × D)} (h:(a,PyData.str x) :: r = jtP es):False:=by
  cases es with
  | nil=>cases h
  | cons e es=>simp [jtP] at h
theorem Opq.same {K:Fg} {Z Z':Hp} {a:Addr} {kvs:List (D × D)} (s:Same Z Z') (h:Opq K Z a kvs):Opq K Z' a kvs:=by
  cases h with
  | exc h1 h2=>exact .exc h1 (Rd.same h2 s)
  | fn h1=>exact .fn h1
  | dct h1 h2=>exact .dct h1 (s _ _ h2)
mutual
inductive Rep (K:Fg) (Z:Hp):V → D → Prop
  | non:Rep K Z .non .none
  | bl (b:Bool):Rep K Z (.bl b) (.bool b)
  | int (i:Int):Rep K Z (.int i) (.int i)
  | str (x:Str):Rep K Z (.str x) (.str x)
  | tup {a:Addr} {xs:List V} {ds:List D}:SqT K Z a xs → Reps K Z xs ds → Rep K Z (.ref a) (.tuple ds)
  | lst {a:Addr} {xs:List V} {ds:List D}:SqL K Z a xs → Reps K Z xs ds → Rep K Z (.ref a) (.list ds)
  | opq {a:Addr} {kvs:List (D × D)}:Opq K Z a kvs → Rep K Z (.ref a) (.dict kvs)
inductive Reps (K:Fg) (Z:Hp):List V → List D → Prop
  | nil:Reps K Z [] []
  | cons {v:V} {d:D} {vs:List V} {ds:List D}:Rep K Z v d → Reps K Z vs ds → Reps K Z (v :: vs) (d :: ds)
end
theorem SqT.same {K:Fg} {H H':Hp} {a:Addr} {xs:List V} (h:SqT K H a xs) (s:Same H H'):SqT K H' a xs:=by
  rcases h with h | h
  · exact .inl (Rd.same h s)
  · exact .inr h
theorem SqL.same {K:Fg} {H H':Hp} {a:Addr} {xs:List V} (h:SqL K H a xs) (s:Same H H'):SqL K H' a xs:=by
  rcases h with h | h
  · exact .inl (Rd.same h s)
  · exact .inr h
mutual
theorem Rep.same {K:Fg} {Z Z':Hp} (s:Same Z Z'):∀ {v:V} {d:D},Rep K Z v d → Rep K Z' v d
  | _,_,.non=>.non
  | _,_,.bl b=>.bl b
  | _,_,.int i=>.int i
  | _,_,.str x=>.str x
  | _,_,.tup h r=>.tup (SqT.same h s) (Reps.same s r)
  | _,_,.lst h r=>.lst (SqL.same h s) (Reps.same s r)
  | _,_,.opq h=>.opq (Opq.same s h)
theorem Reps.same {K:Fg} {Z Z':Hp} (s:Same Z Z'):∀ {vs:List V} {ds:List D},Reps K Z vs ds → Reps K Z' vs ds
  | _,_,.nil=>.nil
  | _,_,.cons h r=>.cons (Rep.same s h) (Reps.same s r)
end
theorem Reps.length {K:Fg} {Z:Hp}:∀ {vs:List V} {ds:List D},Reps K Z vs ds → vs.length = ds.length
  | _,_,.nil=>rfl
  | _,_,.cons _ r=>congrArg (· + 1) (Reps.length r)
theorem Reps.get {K:Fg} {Z:Hp}:∀ {vs:List V} {ds:List D} {i:Nat} {d:D},Reps K Z vs ds → ds[i]? = some d → ∃ v,vs[i]? = some v ∧ Rep K Z v d
  | _,_,_,_,.nil,e=>by simp at e
  | _,_,0,_,.cons r _,e=>by simp at e; subst e; exact ⟨_,rfl,r⟩
  | _,_,i + 1,d,.cons _ t,e=>by
    obtain ⟨u,h1,h2⟩:=Reps.get (i:=i) (d:=d) t (by simpa using e)
    exact ⟨u,by simpa using h1,h2⟩
theorem Reps.set {K:Fg} {Z:Hp} {x:V} {u:D} (r:Rep K Z x u):∀ {xs:List V} {us:List D} (i:Nat),Reps K Z xs us → Reps K Z (xs.set i x) (us.set i u)
  | _,_,_,.nil=>.nil
  | _,_,0,.cons _ t=>.cons r t
  | _,_,i + 1,.cons q t=>.cons q (Reps.set r i t)
theorem Reps.append {K:Fg} {Z:Hp}:∀ {xs ys:List V} {us ws:List D},Reps K Z xs us → Reps K Z ys ws → Reps K Z (xs ++ ys) (us ++ ws)
  | _,_,_,_,.nil,s=>s
  | _,_,_,_,.cons r t,s=>.cons r (Reps.append t s)
theorem Reps.take {K:Fg} {Z:Hp}:∀ {xs:List V} {us:List D} (n:Nat),Reps K Z xs us → Reps K Z (xs.take n) (us.take n)
  | _,_,0,_=>.nil
  | _,_,_ + 1,.nil=>.nil
  | _,_,n + 1,.cons r t=>.cons r (Reps.take n t)
theorem Reps.drop {K:Fg} {Z:Hp}:∀ {xs:List V} {us:List D} (n:Nat),Reps K Z xs us → Reps K Z (xs.drop n) (us.drop n)
  | _,_,0,r=>r
  | _,_,_ + 1,.nil=>.nil
  | _,_,n + 1,.cons _ t=>Reps.drop n t
theorem Rep.int_eq {K:Fg} {Z:Hp} {v:V} {i:Int} (h:Rep K Z v (.int i)):v = .int i:=by cases h; rfl
theorem Rep.bl_eq {K:Fg} {Z:Hp} {v:V} {b:Bool} (h:Rep K Z v (.bool b)):v = .bl b:=by cases h; rfl
theorem Reps.ints {K:Fg} {Z:Hp}:∀ ns:List Int,Reps K Z (ns.map V.int) (ns.map PyData.int)
  | []=>.nil
  | n :: r=>.cons (.int n) (Reps.ints r)
mutual
theorem Rep.reads {X:Cx} {pins:List (Addr × Obj)} {σ:St} {H Z:Hp} {s:Shared} (I:Inv X pins σ H s) (zh:Same Z H):∀ {v:V} {d:D} {u:Value},Rep X.K Z v d → RelV v u → d.canLay0 = true → ∃ as,Reads s.heap u d as
  | _,_,u,.non,r,_=>by cases (show u = Value.none from r); exact ⟨_,.none⟩
  | _,_,u,.bl b,r,_=>by cases (show u = Value.bool b from r); exact ⟨_,.bool b⟩
  | _,_,u,.int i,r,_=>by obtain ⟨t,rfl⟩:=(show ∃ t,u = Value.int i t from r); exact ⟨_,.int i t⟩
  | _,_,u,.str x,r,_=>by obtain ⟨t,rfl⟩:=(show ∃ t,u = Value.str x t from r); exact ⟨_,.str x t⟩
  | _,_,u,.tup (a:=a) h q,r,hc=>by
    cases (show u = Value.ref a from r)
    obtain ⟨its,rv,ht,_⟩:=I.tuple (SqT.same h zh)
    obtain ⟨as,ra⟩:=Reps.reads I zh q rv hc
    obtain ⟨o,e,c,n,dd⟩:=ht
    exact ⟨_,reads_tuple_at e c dd (by simpa using ra)⟩
  | _,_,u,.lst (a:=a) h q,r,hc=>by
    cases (show u = Value.ref a from r)
    obtain ⟨its,rv,ht,_⟩:=I.list (SqL.same h zh)
    obtain ⟨as,ra⟩:=Reps.reads I zh q rv hc
    obtain ⟨o,n,e,c,_,dd⟩:=ht
    exact ⟨_,reads_list_at e c dd (by simpa using ra)⟩
  | _,_,u,.opq h,r,hc=>by cases hc
theorem Reps.reads {X:Cx} {pins:List (Addr × Obj)} {σ:St} {H Z:Hp} {s:Shared} (I:Inv X pins σ H s) (zh:Same Z H):∀ {vs:List V} {ds:List D} {us:List Value},Reps X.K Z vs ds → Vals vs us → PyData.canLayAll0 ds = true → ∃ as,ReadsAll s.heap us ds as
  | _,_,_,.nil,.nil,_=>⟨_,.nil⟩
  | _,_,_,.cons h q,.cons r t,hc=>by
    have hc':=Bool.and_eq_true_iff.mp hc
    obtain ⟨as,ha⟩:=Rep.reads I zh h r hc'.1
    obtain ⟨bs,hb⟩:=Reps.reads I zh q t hc'.2
    exact ⟨_,.cons ha hb⟩
end
structure New (Z H Z' H':Hp):Prop where
  z:Same Z Z'
  h:Same H H'
  zh:Same Z' H'
  o:∀ b,H b ≠ none → Z' b = Z b
theorem New.refl {Z H:Hp} (zh:Same Z H):New Z H Z H:=⟨Same.refl _,Same.refl _,zh,fun _ _=>rfl⟩
theorem New.trans {Z H Z1 H1 Z2 H2:Hp} (a:New Z H Z1 H1) (b:New Z1 H1 Z2 H2):New Z H Z2 H2:=
  ⟨a.z.trans b.z,a.h.trans b.h,b.zh,fun c hc=>by
    have:H1 c ≠ none:=by
      cases e:H c with
      | none=>exact absurd e hc
      | some o=>rw [a.h c o e]; intro z; cases z
    rw [b.o c this,a.o c hc]⟩
theorem jei {H:Hp} {p:Addr} {o:HO} (h:H p = none):Same H (upd H p o):=fun b u e=>by
  rw [jaA (jaJ e h)]; exact e
theorem jkd {Z H:Hp} (zh:Same Z H) {p:Addr} (h:H p = none):Z p = none:=by
  cases e:Z p with
  | none=>rfl
  | some o=>rw [zh p o e] at h; cases h
theorem New.add {Z H:Hp} (zh:Same Z H) {p:Addr} (hp:H p = none) (o:HO):New Z H (upd Z p o) (upd H p o) where
  z:=jei (jkd zh hp)
  h:=jei hp
  zh:=fun b u e=>by
    by_cases hb:b = p
    · subst hb; rw [jaF] at e ⊢; exact e
    · rw [jaA hb] at e ⊢; exact zh b u e
  o:=fun b hb=>by
    have:b ≠ p:=fun z=>hb (z ▸ hp)
    rw [jaA this]
def jwq (K:Fg) (Z:Hp) (kvs:List (Key × V)) (es:List (Key × D)):Prop:=es.map (·.1) = kvs.map (·.1) ∧ Reps K Z (kvs.map (·.2)) (es.map (·.2))
inductive OwR (K:Fg) (Z:Hp):HO → Oc → Prop
  | lst {xs:List V} {ds:List D}:Reps K Z xs ds → OwR K Z (.lst xs) (.l ds)
  | dct {kvs:List (Key × V)} {es:List (Key × D)}:jwq K Z kvs es → OwR K Z (.dK kvs) (.d es)
theorem OwR.same {K:Fg} {Z Z':Hp} {o:HO} {c:Oc} (h:OwR K Z o c) (s:Same Z Z'):OwR K Z' o c:=by
  cases h with
  | lst r=>exact .lst (r.same s)
  | dct r=>exact .dct ⟨r.1,r.2.same s⟩
def FrOk (K:Fg) (H₀ Z₀ Z:Hp) (δ:Dv) (σ:St):Prop:=∀ (i:Nat) ds,δ[i]? = some (.fr ds) → ∃ a xs,σ[i]? = some (some (.ref a)) ∧ H₀ a = none ∧ Z₀ a = none ∧ Z a = some (.lst xs) ∧ Reps K Z xs ds
theorem FrOk.same {K:Fg} {H₀ Z₀ Z Z':Hp} {δ:Dv} {σ:St} (h:FrOk K H₀ Z₀ Z δ σ) (s:Same Z Z'):FrOk K H₀ Z₀ Z' δ σ:=fun i ds e=>
  let ⟨a,xs,h1,h2,h3,h4,h5⟩:=h i ds e; ⟨a,xs,h1,h2,h3,s _ _ h4,h5.same s⟩
theorem FrOk.put {K:Fg} {H₀ Z₀ Z:Hp} {δ:Dv} {σ σ':St} (h:FrOk K H₀ Z₀ Z δ σ) {i:Nat} {x:Sl} (hx:∀ ds,x ≠ Sl.fr ds) (hs:∀ j:Nat,i ≠ j → σ'[j]? = σ[j]?):FrOk K H₀ Z₀ Z (δ.set i x) σ':=fun j ds e=>by
  by_cases hj:i = j
  · subst hj
    have hl:i < δ.length:=by have:=(List.getElem?_eq_some_iff.mp e).1; simpa using this
    rw [List.getElem?_set_self hl] at e
    exact absurd (Option.some.inj e) (hx ds)
  · rw [List.getElem?_set_ne hj] at e
    obtain ⟨a,xs,h1,r⟩:=h j ds e
    exact ⟨a,xs,by rw [hs j hj]; exact h1,r⟩
structure Hold (K:Fg) (H₀ Z₀ Z:Hp) (δ:Dv) (σ:St) (H:Hp):Prop where
  zh:Same Z H
  h0:Same H₀ H
  z0:Same Z₀ Z
  zb:∀ b,H₀ b ≠ none → Z b = Z₀ b
  len:δ.length = σ.length
  fz:∀ (i:Nat) d,δ[i]? = some (.fz d) → ∃ v,σ[i]? = some (some v) ∧ Rep K Z v d
  own:∀ (i:Nat) c,δ[i]? = some (.own c) → ∃ a o,σ[i]? = some (some (.ref a)) ∧ H₀ a = none ∧ Z a = none ∧ H a = some o ∧ OwR K Z o c
  dja:∀ (i j:Nat) c c' a,i ≠ j → δ[i]? = some (.own c) → δ[j]? = some (.own c') → σ[i]? = some (some (.ref a)) → σ[j]? ≠ some (some (V.ref a))
  fr:FrOk K H₀ Z₀ Z δ σ
section
variable {K:Fg} {H₀ Z₀ Z Z' H H':Hp} {δ:Dv} {σ:St}
theorem Hold.ow (h:Hold K H₀ Z₀ Z δ σ H) (i:Nat) (ds:List D) (e:δ[i]? = some (.ow ds)):∃ a xs,σ[i]? = some (some (.ref a)) ∧ H₀ a = none ∧ Z a = none ∧ H a = some (.lst xs) ∧ Reps K Z xs ds:=by
  obtain ⟨a,o,h1,h2,h3,h4,h5⟩:=h.own i _ e
  cases h5 with
  | lst r=>exact ⟨a,_,h1,h2,h3,h4,r⟩
theorem Hold.od (h:Hold K H₀ Z₀ Z δ σ H) (i:Nat) (es:List (Key × D)) (e:δ[i]? = some (.od es)):∃ a kvs,σ[i]? = some (some (.ref a)) ∧ H₀ a = none ∧ Z a = none ∧ H a = some (.dK kvs) ∧ jwq K Z kvs es:=by
  obtain ⟨a,o,h1,h2,h3,h4,h5⟩:=h.own i _ e
  cases h5 with
  | dct r=>exact ⟨a,_,h1,h2,h3,h4,r⟩
theorem Hold.new (h:Hold K H₀ Z₀ Z δ σ H) (n:New Z H Z' H'):Hold K H₀ Z₀ Z' δ σ H' where
  zh:=n.zh
  h0:=h.h0.trans n.h
  z0:=h.z0.trans n.z
  zb:=fun b hb=>by
    have:H b ≠ none:=by
      cases e:H₀ b with
      | none=>exact absurd e hb
      | some o=>rw [h.h0 b o e]; intro z; cases z
    rw [n.o b this,h.zb b hb]
  len:=h.len
  fz:=fun i d e=>let ⟨v,a,r⟩:=h.fz i d e; ⟨v,a,r.same n.z⟩
  own:=fun i ds e=>by
    obtain ⟨a,xs,h1,h2,h3,h4,h5⟩:=h.own i ds e
    exact ⟨a,xs,h1,h2,by rw [n.o a (by rw [h4]; intro z; cases z)]; exact h3,n.h a _ h4,h5.same n.z⟩
  dja:=h.dja
  fr:=h.fr.same n.z
theorem Hold.set (h:Hold K H₀ Z₀ Z δ σ H) {i:Nat} {v:V} {d:D} (r:Rep K Z v d):Hold K H₀ Z₀ Z (δ.set i (.fz d)) (σ.set i (some v)) H where
  zh:=h.zh
  h0:=h.h0
  z0:=h.z0
  zb:=h.zb
  len:=by simp [h.len]
  fz:=fun j e q=>by
    by_cases hj:i = j
    · subst hj
      have hl:i < δ.length:=by
        have:=(List.getElem?_eq_some_iff.mp q).1
        simpa using this
      rw [List.getElem?_set_self hl] at q
      cases q
      exact ⟨v,List.getElem?_set_self (by rw [← h.len]; exact hl),r⟩
    · rw [List.getElem?_set_ne hj] at q
      obtain ⟨u,a,b⟩:=h.fz j e q
      exact ⟨u,by rw [List.getElem?_set_ne hj]; exact a,b⟩
  own:=fun j es q=>by
    by_cases hj:i = j
    · subst hj
      have hl:i < δ.length:=by
        have:=(List.getElem?_eq_some_iff.mp q).1
        simpa using this
      rw [List.getElem?_set_self hl] at q
      cases q
    · rw [List.getElem?_set_ne hj] at q ⊢
      exact h.own j es q
  dja:=fun j k ds es a hjk q1 q2=>by
    by_cases hj:i = j
    · subst hj
      have hl:i < δ.length:=by
        have:=(List.getElem?_eq_some_iff.mp q1).1
        simpa using this
      rw [List.getElem?_set_self hl] at q1
      cases q1
    · by_cases hk:i = k
      · subst hk
        have hl:i < δ.length:=by
          have:=(List.getElem?_eq_some_iff.mp q2).1
          simpa using this
        rw [List.getElem?_set_self hl] at q2
        cases q2
      · rw [List.getElem?_set_ne hj] at q1
        rw [List.getElem?_set_ne hk] at q2
        rw [List.getElem?_set_ne hj,List.getElem?_set_ne hk]
        exact h.dja j k ds es a hjk q1 q2
  fr:=h.fr.put (fun _ z=>nomatch z) fun _ hj=>List.getElem?_set_ne hj
theorem Hold.setW (h:Hold K H₀ Z₀ Z δ σ H) {i:Nat} {p:Addr} {o:HO} {c:Oc} (hp:H p = none) (r:OwR K Z o c):Hold K H₀ Z₀ Z (δ.set i (.own c)) (σ.set i (some (.ref p))) (upd H p o) where
  zh:=h.zh.trans (jei hp)
  h0:=h.h0.trans (jei hp)
  z0:=h.z0
  zb:=h.zb
  len:=by simp [h.len]
  fz:=fun j e q=>by
    by_cases hj:i = j
    · subst hj
      have hl:i < δ.length:=by
        have:=(List.getElem?_eq_some_iff.mp q).1
        simpa using this
      rw [List.getElem?_set_self hl] at q
      cases q
    · rw [List.getElem?_set_ne hj] at q
      obtain ⟨u,a,b⟩:=h.fz j e q
      exact ⟨u,by rw [List.getElem?_set_ne hj]; exact a,b⟩
  own:=fun j es q=>by
    by_cases hj:i = j
    · subst hj
      have hl:i < δ.length:=by
        have:=(List.getElem?_eq_some_iff.mp q).1
        simpa using this
      rw [List.getElem?_set_self hl] at q
      cases q
      exact ⟨p,o,List.getElem?_set_self (by rw [← h.len]; exact hl),jkd h.h0 hp,jkd h.zh hp,jaF,r⟩
    · rw [List.getElem?_set_ne hj] at q ⊢
      obtain ⟨a,ys,h1,h2,h3,h4,h5⟩:=h.own j es q
      exact ⟨a,ys,h1,h2,h3,by rw [jaA (jaJ h4 hp)]; exact h4,h5⟩
  dja:=fun j k ds es a hjk q1 q2=>by
    have old:∀ {m:Nat} {fs:Oc},δ[m]? = some (.own fs) → σ[m]? ≠ some (some (V.ref p)):=fun {m fs} q z=>by
      obtain ⟨b,ys,h1,h2,h3,h4,h5⟩:=h.own m fs q
      rw [h1] at z
      cases z
      rw [hp] at h4
      cases h4
    have hl:∀ {m:Nat} {x:Sl},(δ.set i x)[m]? ≠ none → m < σ.length:=fun {m x} q=>by
      have:m < (δ.set i x).length:=by
        rcases Nat.lt_or_ge m (δ.set i x).length with g | g
        · exact g
        · exact absurd (List.getElem?_eq_none_iff.mpr g) q
      rw [← h.len]; simpa using this
    by_cases hj:i = j
    · subst hj
      have h1:i < σ.length:=hl (by rw [q1]; intro z; cases z)
      rw [List.getElem?_set_self h1]
      intro e
      cases e
      rw [List.getElem?_set_ne hjk] at q2 ⊢
      exact old q2
    · rw [List.getElem?_set_ne hj] at q1 ⊢
      by_cases hk:i = k
      · subst hk
        have h1:i < σ.length:=hl (by rw [q2]; intro z; cases z)
        intro e z
        rw [List.getElem?_set_self h1] at z
        cases z
        exact old q1 e
      · rw [List.getElem?_set_ne hk] at q2 ⊢
        exact h.dja j k ds es a hjk q1 q2
  fr:=h.fr.put (fun _ z=>nomatch z) fun _ hj=>List.getElem?_set_ne hj
theorem Hold.setO (h:Hold K H₀ Z₀ Z δ σ H) {i:Nat} {p:Addr} {xs:List V} {ds:List D} (hp:H p = none) (r:Reps K Z xs ds):Hold K H₀ Z₀ Z (δ.set i (.ow ds)) (σ.set i (some (.ref p))) (upd H p (.lst xs)):=h.setW hp (.lst r)
theorem Hold.chgW (h:Hold K H₀ Z₀ Z δ σ H) {i:Nat} {p:Addr} {o:HO} {ds es:Oc} (e:δ[i]? = some (.own ds)) (ep:σ[i]? = some (some (.ref p))) (r:OwR K Z o es):Hold K H₀ Z₀ Z (δ.set i (.own es)) σ (upd H p o):=by
  obtain ⟨a,zs,h1,h2,h3,h4,h5⟩:=h.own i ds e
  rw [ep] at h1
  cases h1
  have hl:i < δ.length:=(List.getElem?_eq_some_iff.mp e).1
  refine ⟨fun b o' q=>?_,fun b o' q=>?_,h.z0,h.zb,by simp [h.len],fun j d q=>?_,fun j d q=>?_,fun j k d1 d2 a hjk q1 q2=>?_,h.fr.put (fun _ z=>nomatch z) fun _ _=>rfl⟩
  · rw [jaA (jaJ q h3)]; exact h.zh b o' q
  · rw [jaA (jaJ q h2)]; exact h.h0 b o' q
  · by_cases hj:i = j
    · subst hj
      rw [List.getElem?_set_self hl] at q
      cases q
    · rw [List.getElem?_set_ne hj] at q
      exact h.fz j d q
  · by_cases hj:i = j
    · subst hj
      rw [List.getElem?_set_self hl] at q
      cases q
      exact ⟨p,o,ep,h2,h3,jaF,r⟩
    · rw [List.getElem?_set_ne hj] at q
      obtain ⟨b,ws,g1,g2,g3,g4,g5⟩:=h.own j d q
      refine ⟨b,ws,g1,g2,g3,?_,g5⟩
      have:b ≠ p:=fun z=>by subst z; exact h.dja i j ds d b hj e q ep g1
      rw [jaA this]; exact g4
  · have f:∀ {m:Nat} {dm:Oc},(δ.set i (.own es))[m]? = some (.own dm) → ∃ dm',δ[m]? = some (.own dm'):=fun {m dm} q=>by
      by_cases hm:i = m
      · subst hm; exact ⟨ds,e⟩
      · rw [List.getElem?_set_ne hm] at q; exact ⟨dm,q⟩
    obtain ⟨e1,g1⟩:=f q1
    obtain ⟨e2,g2⟩:=f q2
    exact h.dja j k e1 e2 a hjk g1 g2
theorem Hold.chg (h:Hold K H₀ Z₀ Z δ σ H) {i:Nat} {p:Addr} {xs ys:List V} {ds es:List D} (e:δ[i]? = some (.ow ds)) (ep:σ[i]? = some (some (.ref p))) (r:Reps K Z ys es):Hold K H₀ Z₀ Z (δ.set i (.ow es)) σ (upd H p (.lst ys)):=h.chgW e ep (.lst r)
theorem Hold.frz (h:Hold K H₀ Z₀ Z δ σ H) {i:Nat} {ds:List D} (e:δ[i]? = some (.ow ds)):∃ Z',Same Z Z' ∧ Hold K H₀ Z₀ Z' (δ.set i (.fz (.list ds))) σ H:=by
  obtain ⟨a,xs,h1,h2,h3,h4,h5⟩:=h.ow i ds e
  have hl:i < δ.length:=(List.getElem?_eq_some_iff.mp e).1
  have sz:Same Z (upd Z a (.lst xs)):=jei h3
  refine ⟨upd Z a (.lst xs),sz,fun b o q=>?_,h.h0,h.z0.trans sz,fun b hb=>?_,by simp [h.len],fun j d q=>?_,fun j d q=>?_,fun j k d1 d2 b hjk q1 q2=>?_,(h.fr.same sz).put (fun _ z=>nomatch z) fun _ _=>rfl⟩
  · by_cases hb:b = a
    · subst hb; rw [jaF] at q; cases q; exact h4
    · rw [jaA hb] at q; exact h.zh b o q
  · rw [jaA (fun z=>hb (by rw [z]; exact h2))]; exact h.zb b hb
  · by_cases hj:i = j
    · subst hj
      rw [List.getElem?_set_self hl] at q
      cases q
      exact ⟨.ref a,h1,.lst (SqL.of jaF) (h5.same sz)⟩
    · rw [List.getElem?_set_ne hj] at q
      obtain ⟨v,g1,g2⟩:=h.fz j d q
      exact ⟨v,g1,g2.same sz⟩
  · by_cases hj:i = j
    · subst hj
      rw [List.getElem?_set_self hl] at q
      cases q
    · rw [List.getElem?_set_ne hj] at q
      obtain ⟨b,ws,g1,g2,g3,g4,g5⟩:=h.own j d q
      have:b ≠ a:=fun z=>by subst z; exact h.dja i j _ d b hj e q h1 g1
      exact ⟨b,ws,g1,g2,by rw [jaA this]; exact g3,g4,g5.same sz⟩
  · by_cases hj:i = j
    · subst hj
      rw [List.getElem?_set_self hl] at q1
      cases q1
    · by_cases hk:i = k
      · subst hk
        rw [List.getElem?_set_self hl] at q2
        cases q2
      · rw [List.getElem?_set_ne hj] at q1
        rw [List.getElem?_set_ne hk] at q2
        exact h.dja j k d1 d2 b hjk q1 q2
end
def tV (K:Fg) (f:Dv → Option D):TE:=fun σ H Q=>∃ H₀ Z₀ Z δ d,Hold K H₀ Z₀ Z δ σ H ∧ f δ = some d ∧ ∀ v Z' H',Hold K H₀ Z₀ Z' δ σ H' → Same Z Z' → Rep K Z' v d → Q v H'
def tVT (K:Fg) (f:Dv → Option Bool):TT:=fun σ H Q=>∃ H₀ Z₀ Z δ b,Hold K H₀ Z₀ Z δ σ H ∧ f δ = some b ∧ ∀ Z' H',Hold K H₀ Z₀ Z' δ σ H' → Same Z Z' → Q b H'
def tVA (K:Fg) (f:Dv → Option (List D)):TA:=fun σ H Q=>∃ H₀ Z₀ Z δ ds,Hold K H₀ Z₀ Z δ σ H ∧ f δ = some ds ∧ ∀ vs Z' H',Hold K H₀ Z₀ Z' δ σ H' → Same Z Z' → Reps K Z' vs ds → Q vs H'
def Fl.to (K:Fg) (Z:Hp) (D:Ends) (σ:St) (H:Hp):Fl → Prop
  | .nx=>D.nx σ H
  | .bk=>D.bk σ H
  | .ct=>D.ct σ H
  | .rt d=>∀ v,Rep K Z v d → D.rt v H
def tVS (K:Fg) (f:Dv → Option (Fl × Dv)):TS:=fun D σ H=>∃ H₀ Z₀ Z δ r,Hold K H₀ Z₀ Z δ σ H ∧ f δ = some r ∧ ∀ σ' H' Z',Hold K H₀ Z₀ Z' r.2 σ' H' → Same Z Z' → r.1.to K Z' D σ' H'
def EV (X:Cx) (e:Expr) (f:Dv → Option D):Prop:=PE X e (tV X.K f)
def TV (X:Cx) (e:Expr) (f:Dv → Option Bool):Prop:=PT X e (tVT X.K f)
def AV (X:Cx) (es:List Expr) (f:Dv → Option (List D)):Prop:=PA X es (tVA X.K f)
def SV (X:Cx) (st:Stmt) (f:Dv → Option (Fl × Dv)):Prop:=PS X st (tVS X.K f)
def BV (X:Cx) (st:List Stmt) (f:Dv → Option (Fl × Dv)):Prop:=PSs X st (tVS X.K f)
theorem PE.imp {X:Cx} {e:Expr} {t t':TE} (h:PE X e t) (i:∀ σ H Q,t' σ H Q → t σ H Q):PE X e t':=fun pins s σ H Q I hw=>h pins s σ H Q I (i _ _ _ hw)
theorem PT.imp {X:Cx} {e:Expr} {t t':TT} (h:PT X e t) (i:∀ σ H Q,t' σ H Q → t σ H Q):PT X e t':=fun pins s σ H Q I hw=>h pins s σ H Q I (i _ _ _ hw)
theorem PA.imp {X:Cx} {es:List Expr} {t t':TA} (h:PA X es t) (i:∀ σ H Q,t' σ H Q → t σ H Q):PA X es t':=fun pos pins s σ H Q I hw=>h pos pins s σ H Q I (i _ _ _ hw)
theorem PS.imp {X:Cx} {st:Stmt} {t t':TS} (h:PS X st t) (i:∀ D σ H,t' D σ H → t D σ H):PS X st t':=fun pins s σ H D I hw=>h pins s σ H D I (i _ _ _ hw)
theorem PSs.imp {X:Cx} {st:List Stmt} {t t':TS} (h:PSs X st t) (i:∀ D σ H,t' D σ H → t D σ H):PSs X st t':=fun pins s σ H D I hw=>h pins s σ H D I (i _ _ _ hw)
theorem OpR.imp {X:Cx} {f:Value → Value → Sem Value} {r r':R2} (h:OpR X f r) (i:∀ x y H Q,r' x y H Q → r x y H Q):OpR X f r':=fun pins s σ H x y v u Q I rx ry q=>h pins s σ H x y v u Q I rx ry (i _ _ _ _ q)
theorem CallR.imp {X:Cx} {f:Value} {r r':List V → Hp → VK → Prop} (h:CallR X f r) (i:∀ xs H Q,r' xs H Q → r xs H Q):CallR X f r':=fun pins s σ H xs us Q I rx q=>h pins s σ H xs us Q I rx (i _ _ _ q)
def rD (K:Fg) (g:D → D → Option D):R2:=fun x y H Q=>∃ Z a b d,Same Z H ∧ Rep K Z x a ∧ Rep K Z y b ∧ g a b = some d ∧ ∀ v Z' H',New Z H Z' H' → Rep K Z' v d → Q v H'
def rD1 (K:Fg) (g:D → Option D):V → Hp → VK → Prop:=fun x H Q=>∃ Z a d,Same Z H ∧ Rep K Z x a ∧ g a = some d ∧ ∀ v Z' H',New Z H Z' H' → Rep K Z' v d → Q v H'
def rDs (K:Fg) (g:List D → Option D):List V → Hp → VK → Prop:=fun xs H Q=>∃ Z as d,Same Z H ∧ Reps K Z xs as ∧ g as = some d ∧ ∀ v Z' H',New Z H Z' H' → Rep K Z' v d → Q v H'
def spD (K:Fg) (g:List D → Option D):Sp:=fun vs H Q _=>rDs K g vs H Q
section
variable {X:Cx} {a b c e:Expr} {es:List Expr} {pos p:Pos} {f f1 f2 f3:Dv → Option D} {fs:Dv → Option (List D)} {ft fu:Dv → Option Bool}
theorem bind_some {α β:Type} {o:Option α} {k:α → Option β} {r:β} (h:o.bind k = some r):∃ a,o = some a ∧ k a = some r:=by
  cases o with
  | none=>cases h
  | some a=>exact ⟨a,rfl,h⟩
theorem two {K:Fg} {g:D → D → Option D} {σ:St} {H:Hp} {Q:VK} {r:R2} (hr:∀ x y H Q,rD K g x y H Q → r x y H Q) (h:tV K (o2 f1 f2 g) σ H Q):tOp r (tV K f1) (tV K f2) σ H Q:=by
  obtain ⟨H₀,Z₀,Z,δ,d,hh,e,k⟩:=h
  obtain ⟨x,e1,e⟩:=bind_some e
  obtain ⟨y,e2,e⟩:=bind_some e
  refine ⟨H₀,Z₀,Z,δ,x,hh,e1,fun v Z1 H1 hh1 s1 r1=>⟨H₀,Z₀,Z1,δ,y,hh1,e2,fun u Z2 H2 hh2 s2 r2=>hr _ _ _ _ ⟨Z2,x,y,d,hh2.zh,r1.same s2,r2,e,fun w Z3 H3 n r3=>?_⟩⟩⟩
  exact k w Z3 H3 (hh2.new n) ((s1.trans s2).trans n.z) r3
theorem jaj {op:Operator} {g:D → D → Option D} (ho:OpR X (binaryOp op) (rD X.K g)) (ha:EV X a f1) (hb:EV X b f2):EV X (.BinOp a op b pos) (o2 f1 f2 g):=
  PE.imp (ju8 ho ha hb) fun _ _ _ h=>two (fun _ _ _ _ q=>q) h
theorem jin {op:UnaryOp} {g:D → Option D} (ho:UnR X (unaryOp op) (rD1 X.K g)) (ha:EV X a f):EV X (.UnaryOp op a pos) (o1 f g):=
  PE.imp (ju7 ho ha) fun σ H Q h=>by
    obtain ⟨H₀,Z₀,Z,δ,d,hh,e,k⟩:=h
    obtain ⟨x,e1,e⟩:=bind_some e
    exact ⟨H₀,Z₀,Z,δ,x,hh,e1,fun v Z1 H1 hh1 s1 r1=>⟨Z1,x,d,hh1.zh,r1,e,fun w Z3 H3 n r3=>k w Z3 H3 (hh1.new n) (s1.trans n.z) r3⟩⟩
theorem jcE {op:CmpOp} {g:D → D → Option D} (ho:OpR X (compareOp op) (rD X.K g)) (ha:EV X a f1) (hb:EV X b f2) (hm:behindInMarks op b = false):EV X (.Compare a [op] [b] pos) (o2 f1 f2 g):=
  PE.imp (jq0 ho ha hb hm) fun _ _ _ h=>two (fun _ _ _ _ q=>q) h
theorem jnP {d:D} {b:Bool} (h:asB d = some b):d = .bool b:=by
  cases d <;> simp [asB] at h
  subst h; rfl
theorem toB {K:Fg} {σ:St} {H:Hp} {Q:Bool → Hp → Prop} (h:tVT K (ob f) σ H Q):tV K f σ H fun x H1=>∃ c,x = .bl c ∧ Q c H1:=by
  obtain ⟨H₀,Z₀,Z,δ,d,hh,e,k⟩:=h
  obtain ⟨x,e1,e⟩:=bind_some e
  have:=jnP e
  subst this
  exact ⟨H₀,Z₀,Z,δ,_,hh,e1,fun v Z1 H1 hh1 s1 r1=>⟨_,r1.bl_eq,k Z1 H1 hh1 s1⟩⟩
theorem jaz {op:CmpOp} {g:D → D → Option D} (ho:OpR X (compareOp op) (rD X.K g)) (ha:EV X a f1) (hb:EV X b f2) (hm:behindInMarks op b = false):TV X (.Compare a [op] [b] pos) (ob (o2 f1 f2 g)):=
  PT.imp (jqS ho ha hb hm) fun σ H Q h=>by
    have h':=toB h
    exact two (f1:=f1) (f2:=f2) (g:=g) (fun _ _ _ _ q=>q) h'
theorem jbW (ha:EV X a f) (he:∀ whole,isTrue a X.env whole = (do let v ← whole; standAt a.pos; holding [v] (truthy v)):=by intro _; rfl):TV X a (ob f):=
  PT.imp (jsP ha he) fun _ _ _ h=>toB h
def WV (X:Cx) (e:Expr) (f:Dv → Option Bool):Prop:=PW X e (tVT X.K f)
theorem PW.imp {X:Cx} {e:Expr} {t t':TT} (h:PW X e t) (i:∀ σ H Q,t' σ H Q → t σ H Q):PW X e t':=fun whole pins s σ H Q I hw=>h whole pins s σ H Q I (i _ _ _ hw)
theorem jeW (ha:TV X a ft):WV X (.BoolOp .Or [a] pos) ft:=jsO ha
theorem jhc {rest:List Expr} (ha:TV X a ft) (hb:WV X (.BoolOp .Or (b :: rest) pos) fu):WV X (.BoolOp .Or (a :: b :: rest) pos) (oOr ft fu):=
  PW.imp (ju5 ha hb) fun σ H Q h=>by
    obtain ⟨H₀,Z₀,Z,δ,d,hh,e,k⟩:=h
    obtain ⟨x,e1,e⟩:=bind_some e
    refine ⟨H₀,Z₀,Z,δ,x,hh,e1,fun Z1 H1 hh1 s1=>?_⟩
    cases x with
    | true=>cases e; exact k Z1 H1 hh1 s1
    | false=>exact ⟨H₀,Z₀,Z1,δ,d,hh1,e,fun Z2 H2 hh2 s2=>k Z2 H2 hh2 (s1.trans s2)⟩
theorem WV.tv (h:WV X a ft):TV X a ft:=PW.pt h
theorem jcu (ha:TV X a ft):TV X (.UnaryOp .Not a pos) (jhx ft):=
  PT.imp (jsQ ha) fun σ H Q h=>by
    obtain ⟨H₀,Z₀,Z,δ,d,hh,e,k⟩:=h
    cases e1:ft δ with
    | none=>unfold jhx at e; rw [e1] at e; cases e
    | some x=>
      unfold jhx at e
      rw [e1] at e
      cases e
      exact ⟨H₀,Z₀,Z,δ,x,hh,e1,fun Z1 H1 hh1 s1=>k Z1 H1 hh1 s1⟩
theorem jhD {op} (h:EV X a f):EV X (.BoolOp op [a] pos) f:=js0 h
theorem jgJ {rest:List Expr} (ha:EV X a f1) (hb:EV X (.BoolOp .And (b :: rest) pos) f2):EV X (.BoolOp .And (a :: b :: rest) pos) (jjb f1 f2):=
  PE.imp (js5 ha hb) fun σ H Q h=>by
    obtain ⟨H₀,Z₀,Z,δ,d,hh,e,k⟩:=h
    obtain ⟨x,e1,e⟩:=bind_some e
    obtain ⟨c,e2,e⟩:=bind_some e
    have:=jnP e2
    subst this
    refine ⟨H₀,Z₀,Z,δ,_,hh,e1,fun v Z1 H1 hh1 s1 r1=>⟨c,r1.bl_eq,?_⟩⟩
    cases c with
    | true=>exact ⟨H₀,Z₀,Z1,δ,d,hh1,e,fun v Z2 H2 hh2 s2 r2=>k v Z2 H2 hh2 (s1.trans s2) r2⟩
    | false=>cases e; exact k _ Z1 H1 hh1 s1 (.bl false)
theorem jtJ (ha:EV X a f):EV X (.UnaryOp .Not a pos) (o1 f juf):=
  PE.imp (js1 ha) fun σ H Q h=>by
    obtain ⟨H₀,Z₀,Z,δ,d,hh,e,k⟩:=h
    obtain ⟨x,e1,e⟩:=bind_some e
    cases e2:asB x with
    | none=>unfold juf at e; rw [e2] at e; cases e
    | some c=>
      unfold juf at e
      rw [e2] at e
      cases e
      have:=jnP e2
      subst this
      exact ⟨H₀,Z₀,Z,δ,_,hh,e1,fun v Z1 H1 hh1 s1 r1=>⟨c,r1.bl_eq,k _ Z1 H1 hh1 s1 (.bl _)⟩⟩
theorem jeB (hc:TV X c ft) (ha:EV X a f1) (hb:EV X b f2):EV X (.IfExp c a b pos) (oIf ft f1 f2):=
  PE.imp (joB hc ha hb) fun σ H Q h=>by
    obtain ⟨H₀,Z₀,Z,δ,d,hh,e,k⟩:=h
    obtain ⟨x,e1,e⟩:=bind_some e
    refine ⟨H₀,Z₀,Z,δ,x,hh,e1,fun Z1 H1 hh1 s1=>?_⟩
    cases x with
    | true=>exact ⟨H₀,Z₀,Z1,δ,d,hh1,e,fun v Z2 H2 hh2 s2 r2=>k v Z2 H2 hh2 (s1.trans s2) r2⟩
    | false=>exact ⟨H₀,Z₀,Z1,δ,d,hh1,e,fun v Z2 H2 hh2 s2 r2=>k v Z2 H2 hh2 (s1.trans s2) r2⟩
theorem Hold.read {K:Fg} {H₀ Z₀ Z H:Hp} {δ:Dv} {σ:St} (hh:Hold K H₀ Z₀ Z δ σ H) {i:Nat} {d:D} (h:oV i δ = some d):∃ v,σ[i]? = some (some v) ∧ Rep K Z v d:=by
  unfold oV at h
  cases q:δ[i]? with
  | none=>rw [q] at h; cases h
  | some x=>
    rw [q] at h
    cases x with
    | fz e=>cases h; exact hh.fz i _ q
    | un=>cases h
    | own _=>cases h
    | fr ds=>
      cases h
      obtain ⟨a,xs,h1,_,_,h4,h5⟩:=hh.fr i ds q
      exact ⟨.ref a,h1,.lst (SqL.of h4) h5⟩
theorem jaa (i:Nat) {x:Str} (hN:X.N[i]? = some x:=by rfl) (hv:Vis X.env.scope x:=by first | exact Or.inl rfl | exact Or.inr (Or.inl rfl) | exact Or.inr (Or.inr rfl)) (hd:(x == ("__debug__":Str)) = false:=by decide) (hcd:(x == ("__classdict__":Str)) = false:=by decide) :
    EV X (.Name x pos) (oV i):=
  PE.imp (jmz hN hv hd hcd) fun σ H Q h=>by
    obtain ⟨H₀,Z₀,Z,δ,d,hh,e,k⟩:=h
    obtain ⟨v,q,r⟩:=hh.read e
    exact ⟨v,q,k v Z H hh (Same.refl _) r⟩
theorem jtL {d:D} {v:V} (h:PE X e (tC v)) (r:∀ Z,Rep X.K Z v d):EV X e (oC d):=
  PE.imp h fun σ H Q h=>by
    obtain ⟨H₀,Z₀,Z,δ,d',hh,e,k⟩:=h
    cases e
    exact k v Z H hh (Same.refl _) (r Z)
theorem jad {i j}:EV X (.Constant (.int i) j pos) (oC (.int i)):=jtL js3 fun _=>.int i
theorem jeQ {i j}:EV X (.Constant (.bool i) j pos) (oC (.bool i)):=jtL jvb fun _=>.bl i
theorem jjn {j}:EV X (.Constant .none j pos) (oC .none):=jtL js2 fun _=>.non
theorem jbD {i j}:EV X (.Constant (.str i) j pos) (oC (.str i)):=jtL jsZ fun _=>.str i
theorem jae:AV X [] jas:=
  PA.imp jhw fun σ H Q h=>by
    obtain ⟨H₀,Z₀,Z,δ,d,hh,e,k⟩:=h
    cases e
    exact k [] Z H hh (Same.refl _) .nil
theorem jab (ha:EV X e f) (hr:AV X es fs) (hs:starEach (e :: es) X.env = (false,eval e X.env) :: starEach es X.env:=by rfl):AV X (e :: es) (jac f fs):=
  PA.imp (jdF ha hr hs) fun σ H Q h=>by
    obtain ⟨H₀,Z₀,Z,δ,d,hh,e,k⟩:=h
    obtain ⟨x,e1,e⟩:=bind_some e
    obtain ⟨xs,e2,e⟩:=bind_some e
    cases e
    exact ⟨H₀,Z₀,Z,δ,x,hh,e1,fun v Z1 H1 hh1 s1 r1=>⟨H₀,Z₀,Z1,δ,xs,hh1,e2,fun vs Z2 H2 hh2 s2 r2=>k _ Z2 H2 hh2 (s1.trans s2) (.cons (r1.same s2) r2)⟩⟩
theorem jbd {x1} (h:AV X es fs):EV X (.Tuple es x1 pos) (os fs jdf):=
  PE.imp (jsY h) fun σ H Q h=>by
    obtain ⟨H₀,Z₀,Z,δ,d,hh,e,k⟩:=h
    obtain ⟨xs,e1,e⟩:=bind_some e
    refine ⟨H₀,Z₀,Z,δ,xs,hh,e1,fun vs Z1 H1 hh1 s1 r1=>?_⟩
    by_cases hl:xs.length ≤ sizeLine
    · rw [jdf,if_pos hl] at e
      cases e
      refine ⟨by rw [r1.length]; exact hl,fun p hp=>?_⟩
      have n:=New.add hh1.zh hp (.tup vs)
      exact k _ _ _ (hh1.new n) (s1.trans n.z) (.tup (SqT.of jaF) (r1.same n.z))
    · rw [jdf,if_neg hl] at e; cases e
theorem jff (h:AV X es fs):EV X (.List es pos) (os fs jhy):=
  PE.imp (jpO h) fun σ H Q h=>by
    obtain ⟨H₀,Z₀,Z,δ,d,hh,e,k⟩:=h
    obtain ⟨xs,e1,e⟩:=bind_some e
    refine ⟨H₀,Z₀,Z,δ,xs,hh,e1,fun vs Z1 H1 hh1 s1 r1=>?_⟩
    by_cases hl:xs.length ≤ sizeLine
    · rw [jhy,if_pos hl] at e
      cases e
      refine ⟨by rw [r1.length]; exact hl,fun p hp=>?_⟩
      have n:=New.add hh1.zh hp (.lst vs)
      exact k _ _ _ (hh1.new n) (s1.trans n.z) (.lst (SqL.of jaF) (r1.same n.z))
    · rw [jhy,if_neg hl] at e; cases e
theorem args {K:Fg} {g:List D → Option D} {σ:St} {H:Hp} {Q:VK} (h:tV K (os fs g) σ H Q):tVA K fs σ H fun vs H1=>rDs K g vs H1 Q:=by
  obtain ⟨H₀,Z₀,Z,δ,d,hh,e,k⟩:=h
  obtain ⟨xs,e1,e⟩:=bind_some e
  exact ⟨H₀,Z₀,Z,δ,xs,hh,e1,fun vs Z1 H1 hh1 s1 r1=>⟨Z1,xs,d,hh1.zh,r1,e,fun w Z3 H3 n r3=>k w Z3 H3 (hh1.new n) (s1.trans n.z) r3⟩⟩
theorem ja6 {x:Str} {id:String} {g:List D → Option D} (hc:CallR X (.builtin id) (rDs X.K g)) (hg:Gl X x) (hm:X.mg x = none) (hv:bootBuiltins x = some (.builtin id)) (ha:AV X (e :: es) fs) (hn:x ≠ "__name__":=by decide) (hdb:(x == ("__debug__":Str)) = false:=by decide)
    (he:starEach (e :: es) X.env = (false,eval e X.env) :: starEach es X.env:=by rfl) (hpl:(backTo pos (starEach es X.env)).any (·.1) = false:=by rfl):EV X (.Call (.Name x p) (e :: es) [] pos) (os fs g):=
  PE.imp (jgc hc hg hm hv ha hn hdb he hpl) fun _ _ _ h=>args h
theorem jbg {x:Str} {id:String} {g:List D → Option D} (hc:CallR X (.type id) (rDs X.K g)) (hg:Gl X x) (hm:X.mg x = none) (hv:bootBuiltins x = some (.type id)) (ha:AV X (e :: es) fs) (hn:x ≠ "__name__":=by decide) (hdb:(x == ("__debug__":Str)) = false:=by decide)
    (he:starEach (e :: es) X.env = (false,eval e X.env) :: starEach es X.env:=by rfl) (hpl:(backTo pos (starEach es X.env)).any (·.1) = false:=by rfl):EV X (.Call (.Name x p) (e :: es) [] pos) (os fs g):=
  PE.imp (jmB hc hg hm hv ha hn hdb he hpl) fun _ _ _ h=>args h
theorem jrF {k:Nat} {fa:Addr} {fd:FuncData} {ps:List Str} {x:Str} {g:List D → Option D} {dd:List D} {dv:List V} {ds:List Value} (F:FnOk X.prog X.w X.K X.mg X.base CX0 k fa fd ps (spD X.K g)) (hr:Room k X.A) (hg:Gl X x) (hm:X.mg x = some (.ref fa)) (hk:PySem.W.keepIn X.K (.ref fa) = true)
    (hb:Binds X.K fd ps ds) (hd:Vals dv ds) (hdd:∀ Z,Reps X.K Z dv dd) (hx:jle CX0 X E0) (ha:AV X (e :: es) fs) (hdb:(x == ("__debug__":Str)) = false:=by decide) (he:starEach (e :: es) X.env = (false,eval e X.env) :: starEach es X.env:=by rfl) (hpl:(backTo pos (starEach es X.env)).any (·.1) = false:=by rfl) :
    EV X (.Call (.Name x p) (e :: es) [] pos) (os fs fun as=>g (as ++ dd)):=
  PE.imp (jq1 F hr hg hm hk hb hd hx ha hdb he hpl) fun σ H Q h=>by
    obtain ⟨H₀,Z₀,Z,δ,xs,hh,e1,q⟩:=args h
    refine ⟨H₀,Z₀,Z,δ,xs,hh,e1,fun vs Z1 H1 hh1 s1 r1=>?_⟩
    obtain ⟨Z2,as,d,zh,ra,eg,kk⟩:=q vs Z1 H1 hh1 s1 r1
    exact ⟨Z2,as ++ dd,d,zh,ra.append (hdd Z2),eg,kk⟩
theorem IxR.imp {r r':R2} (h:IxR X r) (i:∀ x y H Q,r' x y H Q → r x y H Q):IxR X r':=fun value slice pins s σ H x y v u Q I rx ry q hs=>h value slice pins s σ H x y v u Q I rx ry (i _ _ _ _ q) hs
theorem jak {g:D → D → Option D} (ho:IxR X (rD X.K g)) (ha:EV X a f1) (hb:EV X b f2) (hs:jnV b):EV X (.Subscript a b pos) (o2 f1 f2 g):=
  PE.imp (ju9 ho ha hb hs) fun _ _ _ h=>two (fun _ _ _ _ q=>q) h
end
end VL
set_option Elab.async false
set_option linter.all false
set_option maxRecDepth 100000
set_option maxHeartbeats 4000000
namespace VL
open PySem PySem.Spec PyProof.Rows L2
section
variable {X:Cx} {a b c e tg:Expr} {es:List Expr} {pos p:Pos} {f f1 f2 f3:Dv → Option D} {fs:Dv → Option (List D)} {ft fu:Dv → Option Bool} {st:Stmt} {sts body:List Stmt} {s1 s2:Dv → Option (Fl × Dv)}
theorem joF {F:Value → Value → Sem Value} {g:Int → Int → Int} (h:OpR X F (rI0 fun i j=>.int (g i j))):OpR X F (rD X.K (iI g)):=
  OpR.imp h fun x y H Q q=>by
    obtain ⟨Z,a,b,d,zh,ra,rb,e,k⟩:=q
    cases ra <;> cases rb <;> simp [iI] at e
    subst e
    exact ⟨_,_,rfl,rfl,k _ Z H (New.refl zh) (.int _)⟩
theorem jtd {F:Value → Value → Sem Value} {g:Int → Int → Bool} (h:OpR X F (rI0 fun i j=>.bl (g i j))):OpR X F (rD X.K (iB g)):=
  OpR.imp h fun x y H Q q=>by
    obtain ⟨Z,a,b,d,zh,ra,rb,e,k⟩:=q
    cases ra <;> cases rb <;> simp [iB] at e
    subst e
    exact ⟨_,_,rfl,rfl,k _ Z H (New.refl zh) (.bl _)⟩
theorem jmK {F:Value → Value → Sem Value} {P:Int → Int → Prop} {C:Int → Int → Bool} {g:Int → Int → Int} (h:OpR X F (rI P fun i j=>.int (g i j))) (hc:∀ i j,C i j = true → P i j):OpR X F (rD X.K (iC C g)):=
  OpR.imp h fun x y H Q q=>by
    obtain ⟨Z,a,b,d,zh,ra,rb,e,k⟩:=q
    cases ra with
    | int i=>
      cases rb with
      | int j=>
        by_cases hh:C i j = true
        · simp only [iC,if_pos hh] at e
          cases e
          exact ⟨_,_,rfl,rfl,hc _ _ hh,k _ Z H (New.refl zh) (.int _)⟩
        · simp only [iC,if_neg hh] at e
          cases e
      | _=>simp [iC] at e
    | _=>simp [iC] at e
theorem jcf:OpR X (binaryOp .Sub) (rD X.K jdS):=joF js9
theorem jd5:OpR X (binaryOp .Mult) (rD X.K jkW):=jmK (P:=fun i j=>IntMulOk i j) (opI fun _ _ _ _ _ _ _ hc q=>mul_int q hc) fun i j h=>of_decide_eq_true h
theorem jfC:OpR X (binaryOp .FloorDiv) (rD X.K jhF):=jmK jq4 fun i j h=>(of_decide_eq_true h:0 < j ∧ j < 1073741824)
theorem jcg:OpR X (binaryOp .Mod) (rD X.K jdu):=jmK jtb fun i j h=>of_decide_eq_true h
theorem jgK:OpR X (binaryOp .LShift) (rD X.K jg8):=jmK (P:=fun i j=>0 ≤ j ∧ (Builtin.Int.intBits i:Int) + j ≤ 2 ^ 27) (opI fun _ _ _ _ _ _ _ hc q=>lshift_int hc.1 hc.2 q) fun i j h=>of_decide_eq_true h
theorem jlK:OpR X (binaryOp .RShift) (rD X.K jjJ):=jmK jta fun i j h=>of_decide_eq_true h
theorem jdl:OpR X (binaryOp .BitAnd) (rD X.K jhb):=joF jte
theorem jqm:OpR X (binaryOp .BitOr) (rD X.K orD):=joF jvd
theorem jev:OpR X (binaryOp .BitXor) (rD X.K jiK):=joF js8
theorem jsk:OpR X (compareOp .Lt) (rD X.K ltD):=jtd jve
theorem jxJ:OpR X (compareOp .Gt) (rD X.K gtD):=jtd jvf
theorem jiq:UnR X (unaryOp .USub) (rD1 X.K negD):=by
  intro pins s σ H x v Q I rx q
  obtain ⟨Z,a,d,zh,ra,e,k⟩:=q
  cases ra <;> simp [negD] at e
  subst e
  exact jsr pins s σ H _ v Q I rx ⟨_,rfl,k _ Z H (New.refl zh) (.int _)⟩
theorem Rep.str_eq {K:Fg} {Z:Hp} {v:V} {x:Str} (h:Rep K Z v (.str x)):v = .str x:=by cases h; rfl
theorem Rep.tup_ex {K:Fg} {Z:Hp} {v:V} {ds:List D} (h:Rep K Z v (.tuple ds)):∃ a xs,v = .ref a ∧ SqT K Z a xs ∧ Reps K Z xs ds:=by
  cases h with
  | tup p q=>exact ⟨_,_,rfl,p,q⟩
theorem Rep.lst_ex {K:Fg} {Z:Hp} {v:V} {ds:List D} (h:Rep K Z v (.list ds)):∃ a xs,v = .ref a ∧ SqL K Z a xs ∧ Reps K Z xs ds:=by
  cases h with
  | lst p q=>exact ⟨_,_,rfl,p,q⟩
theorem jfd {p:Prop} [Decidable p] {α:Type} {x y:α} (h:(if p then some x else none) = some y):p ∧ x = y:=by
  by_cases q:p
  · rw [if_pos q] at h; exact ⟨q,Option.some.inj h⟩
  · rw [if_neg q] at h; cases h
theorem jt1 {a b d:D} (h:jfk a b = some d):(∃ i,a = .int i) ∨ (∃ x,a = .str x) ∨ (∃ xs,a = .list xs) ∨ ∃ xs,a = .tuple xs:=by
  cases a with
  | int i=>exact .inl ⟨_,rfl⟩
  | str i=>exact .inr (.inl ⟨_,rfl⟩)
  | list i=>exact .inr (.inr (.inl ⟨_,rfl⟩))
  | tuple i=>exact .inr (.inr (.inr ⟨_,rfl⟩))
  | _=>cases h
theorem jt2 {i:Int} {b d:D} (h:jfk (.int i) b = some d):∃ j,b = .int j ∧ d = .int (i + j):=by
  cases b with
  | int j=>exact ⟨j,rfl,(Option.some.inj h).symm⟩
  | _=>cases h
theorem jtZ {i:Str} {b d:D} (h:jfk (.str i) b = some d):∃ j,b = .str j ∧ i.length + j.length ≤ sizeLine ∧ d = .str (i ++ j):=by
  cases b with
  | str j=>obtain ⟨p,q⟩:=jfd h; exact ⟨j,rfl,p,q.symm⟩
  | _=>cases h
theorem jt0 {i:List D} {b d:D} (h:jfk (.list i) b = some d):∃ j,b = .list j ∧ i.length + j.length ≤ sizeLine ∧ d = .list (i ++ j):=by
  cases b with
  | list j=>obtain ⟨p,q⟩:=jfd h; exact ⟨j,rfl,p,q.symm⟩
  | _=>cases h
theorem jtY {i:List D} {b d:D} (h:jfk (.tuple i) b = some d):∃ j,b = .tuple j ∧ i.length + j.length ≤ sizeLine ∧ d = .tuple (i ++ j):=by
  cases b with
  | tuple j=>obtain ⟨p,q⟩:=jfd h; exact ⟨j,rfl,p,q.symm⟩
  | _=>cases h
theorem jc4:OpR X (binaryOp .Add) (rD X.K jfk):=by
  intro pins s σ H x y v u Q I rx ry q
  obtain ⟨Z,a,b,d,zh,ra,rb,e,k⟩:=q
  rcases jt1 e with ⟨i,rfl⟩ | ⟨i,rfl⟩ | ⟨ds,rfl⟩ | ⟨ds,rfl⟩
  · obtain ⟨j,rfl,rfl⟩:=jt2 e
    cases ra.int_eq
    cases rb.int_eq
    exact jtf pins s σ H _ _ v u Q I rx ry ⟨_,_,rfl,rfl,k _ Z H (New.refl zh) (.int _)⟩
  · obtain ⟨j,rfl,hl,rfl⟩:=jtZ e
    cases ra.str_eq
    cases rb.str_eq
    exact jlt pins s σ H _ _ v u Q I rx ry ⟨_,_,rfl,rfl,hl,k _ Z H (New.refl zh) (.str _)⟩
  · obtain ⟨es,rfl,hl,rfl⟩:=jt0 e
    obtain ⟨a,xs,rfl,h1,q1⟩:=ra.lst_ex
    obtain ⟨b,ys,rfl,h2,q2⟩:=rb.lst_ex
    cases rx
    cases ry
    obtain ⟨its,r1,p1,z1⟩:=I.list (SqL.same h1 zh)
    obtain ⟨its2,r2,p2,z2⟩:=I.list (SqL.same h2 zh)
    obtain ⟨⟨cls,dd,data,sl⟩,n1,ho,hc,hdd,hd⟩:=p1
    obtain ⟨⟨cls2,dd2,data2,sl2⟩,n2,ho2,hc2,hdd2,hd2⟩:=p2
    simp only at hc hd hc2 hd2
    subst hc hd hc2 hd2
    have hl1:=r1.length
    have hl2:=r2.length
    have ql1:=q1.length
    have ql2:=q2.length
    refine concat_meets ⟨_,ho,rfl⟩ ⟨_,ho2,rfl⟩ noFill_list_add seq_list_add PySem.F.slot_list_add PySem.F.entry_list_add (PySem.F.args_list_add_2 _ _) (list_addW a b its.toArray its2.toArray n1 n2 dd dd2 sl sl2 (by simp; omega)) ⟨ho,ho2,?_⟩
    have ea:its.toArray ++ its2.toArray = (its ++ its2).toArray:=by simp
    rw [ea]
    have n:=New.add zh I.fresh (.lst (xs ++ ys))
    exact ⟨.ref _,_,I.lnew (t':=s.toks) (r1.append r2) (by rw [List.length_append]; omega),rfl,k _ _ _ n (.lst (SqL.of jaF) ((q1.append q2).same n.z))⟩
  · obtain ⟨es,rfl,hl,rfl⟩:=jtY e
    obtain ⟨a,xs,rfl,h1,q1⟩:=ra.tup_ex
    obtain ⟨b,ys,rfl,h2,q2⟩:=rb.tup_ex
    by_cases h0:ds.length = 0
    · have hd0:ds = []:=List.eq_nil_of_length_eq_zero h0
      subst hd0
      cases q1
      cases rx
      cases ry
      obtain ⟨its,r1,p1,z1⟩:=I.tuple (SqT.same h1 zh)
      obtain ⟨its2,r2,p2,z2⟩:=I.tuple (SqT.same h2 zh)
      cases r1
      obtain ⟨⟨cls,dd,data,sl⟩,ho,hc,n,hd⟩:=id p1
      obtain ⟨⟨cls2,dd2,data2,sl2⟩,ho2,hc2,n2,hd2⟩:=id p2
      simp only at hc hd hc2 hd2
      subst hc hd hc2 hd2
      exact concat_meets ⟨_,ho,rfl⟩ ⟨_,ho2,rfl⟩ noFill_tuple_add seq_tuple_add PySem.F.slot_tuple_add PySem.F.entry_tuple_add (PySem.F.args_tuple_add_2 _ _)
        (tuple_addW0 a b _ its2.toArray n n2 dd dd2 sl sl2 (by simp)) ⟨ho,ho2,⟨.ref b,H,I,rfl,k _ Z H (New.refl zh) (.tup h2 q2)⟩⟩
    refine jq5 pins s σ H _ _ v u Q I rx ry ⟨a,b,xs,ys,rfl,rfl,SqT.same h1 zh,SqT.same h2 zh,fun z=>h0 (by rw [← q1.length,z]; rfl),by rw [q1.length,q2.length]; exact hl,fun z=>?_,fun z p hp=>?_⟩
    · subst z
      cases q2
      rw [List.append_nil] at k
      exact k _ Z H (New.refl zh) (.tup h1 q1)
    · have n:=New.add zh hp (.tup (xs ++ ys))
      exact k _ _ _ n (.tup (SqT.of jaF) ((q1.append q2).same n.z))
theorem jdY {d:D} (h:shp d = true):d.canLay0 = true:=(Bool.and_eq_true_iff.mp h).1
theorem jdI (hu:X.A.units + 64 < cLine):OpR X (compareOp .Eq) (rD X.K eqD):=by
  intro pins s σ H x y v u Q I rx ry q
  obtain ⟨Z,a,b,d,zh,ra,rb,e,k⟩:=q
  by_cases hs:shp a = true ∧ shp b = true
  · rw [eqD,if_pos hs] at e
    cases e
    obtain ⟨as,r1⟩:=ra.reads I zh rx (jdY hs.1)
    obtain ⟨bs,r2⟩:=rb.reads I zh ry (jdY hs.2)
    exact eq_dataH r1 r2 hs.1 hs.2 hu ⟨.bl _,H,I,rfl,k _ Z H (New.refl zh) (.bl _)⟩
  · rw [eqD,if_neg hs] at e; cases e
theorem jjK (hu:X.A.units + 64 < cLine):OpR X (compareOp .NotEq) (rD X.K neD):=by
  intro pins s σ H x y v u Q I rx ry q
  obtain ⟨Z,a,b,d,zh,ra,rb,e,k⟩:=q
  by_cases hs:shp a = true ∧ shp b = true
  · rw [neD,if_pos hs] at e
    cases e
    obtain ⟨as,r1⟩:=ra.reads I zh rx (jdY hs.1)
    obtain ⟨bs,r2⟩:=rb.reads I zh ry (jdY hs.2)
    exact ne_dataH r1 r2 hs.1 hs.2 hu ⟨.bl _,H,I,rfl,k _ Z H (New.refl zh) (.bl _)⟩
  · rw [neD,if_neg hs] at e; cases e
theorem jtD {K:Fg} {Z:Hp} {v:V} {d:D} (r:Rep K Z v d):decide (v = .non) = isN d:=by cases r <;> rfl
theorem juy:OpR X (compareOp .Is) (rD X.K isD):=
  OpR.imp jtc fun x y H Q q=>by
    obtain ⟨Z,a,b,d,zh,ra,rb,e,k⟩:=q
    cases rb <;> simp [isD] at e
    subst e
    exact ⟨rfl,by rw [jtD ra]; exact k _ Z H (New.refl zh) (.bl _)⟩
theorem Reps.at {K:Fg} {Z:Hp} {vs:List V} {ds:List D} {i:Int} {d:D} (r:Reps K Z vs ds) (h:atI ds i = some d):∃ v,atI vs i = some v ∧ Rep K Z v d:=by
  unfold atI at h ⊢
  rw [r.length]
  obtain ⟨j,e,h⟩:=bind_some h
  obtain ⟨v,q,rr⟩:=r.get h
  exact ⟨v,by rw [e]; exact q,rr⟩
theorem jvx {a b d:D} (h:ixD a b = some d):(∃ xs,a = .list xs) ∨ ∃ xs,a = .tuple xs:=by
  cases a with
  | list i=>exact .inl ⟨_,rfl⟩
  | tuple i=>exact .inr ⟨_,rfl⟩
  | _=>cases h
theorem jtz {xs:List D} {b d:D} (h:ixD (.list xs) b = some d):∃ i,b = .int i ∧ atI xs i = some d:=by
  cases b with
  | int i=>exact ⟨i,rfl,h⟩
  | _=>cases h
theorem jay:IxR X (rD X.K ixD):=
  IxR.imp (ix_list.or jtw) fun x y H Q q=>by
    obtain ⟨Z,a,b,d,zh,ra,rb,e,k⟩:=q
    rcases jvx e with ⟨xs,rfl⟩ | ⟨xs,rfl⟩
    · obtain ⟨i,rfl,e⟩:=jtz e
      obtain ⟨a,vs,rfl,h1,q1⟩:=ra.lst_ex
      cases rb.int_eq
      obtain ⟨v,ev,rv⟩:=q1.at e
      exact .inl ⟨_,_,_,v,rfl,rfl,SqL.same h1 zh,ev,k v Z H (New.refl zh) rv⟩
    · obtain ⟨i,rfl,e⟩:=jtz (xs:=xs) (b:=b) (by cases b <;> exact e)
      obtain ⟨a,vs,rfl,h1,q1⟩:=ra.tup_ex
      cases rb.int_eq
      obtain ⟨v,ev,rv⟩:=q1.at e
      exact .inr ⟨_,_,_,v,rfl,rfl,SqT.same h1 zh,ev,k v Z H (New.refl zh) rv⟩
theorem jew:CallR X (.builtin "len") (rDs X.K jdT):=
  CallR.imp jpq fun xs H Q q=>by
    obtain ⟨Z,as,d,zh,ra,e,k⟩:=q
    cases ra with
    | nil=>cases e
    | cons r1 r2=>
      cases r2 with
      | cons _ _=>cases r1 <;> cases e
      | nil=>
        cases r1 with
        | lst h1 q1=>cases e; exact ⟨_,_,rfl,.inl ⟨_,SqL.same h1 zh,rfl⟩,k _ Z H (New.refl zh) (by rw [q1.length]; exact .int _)⟩
        | tup h1 q1=>cases e; exact ⟨_,_,rfl,.inr ⟨_,SqT.same h1 zh,rfl⟩,k _ Z H (New.refl zh) (by rw [q1.length]; exact .int _)⟩
        | _=>cases e
theorem jkH {K:Fg} {Z:Hp} {xs:List V} {as:List D} {d:D} {g:List D → Option D} {h:Int → Int → Int} (hg:∀ as d,g as = some d → ∃ i j,as = [.int i,.int j] ∧ d = .int (h i j)) (r:Reps K Z xs as) (e:g as = some d) :
    ∃ i j,xs = [.int i,.int j] ∧ d = .int (h i j):=by
  obtain ⟨i,j,rfl,rfl⟩:=hg _ _ e
  cases r with
  | cons r1 r2=>
    cases r2 with
    | cons r3 r4=>
      cases r4
      exact ⟨i,j,by rw [r1.int_eq,r3.int_eq],rfl⟩
theorem jvN (hc:X.calm = true):CallR X (.builtin "min") (rDs X.K juk):=
  CallR.imp (jnw hc) fun xs H Q q=>by
    obtain ⟨Z,as,d,zh,ra,e,k⟩:=q
    obtain ⟨i,j,rfl,rfl⟩:=jkH (h:=fun i j=>if j < i then j else i) (fun as d h=>by unfold juk at h; split at h <;> cases h; exact ⟨_,_,rfl,rfl⟩) ra e
    exact ⟨i,j,rfl,k _ Z H (New.refl zh) (.int _)⟩
theorem jvO (hc:X.calm = true):CallR X (.builtin "max") (rDs X.K jtm):=
  CallR.imp (jnx hc) fun xs H Q q=>by
    obtain ⟨Z,as,d,zh,ra,e,k⟩:=q
    obtain ⟨i,j,rfl,rfl⟩:=jkH (h:=fun i j=>if j > i then j else i) (fun as d h=>by unfold jtm at h; split at h <;> cases h; exact ⟨_,_,rfl,rfl⟩) ra e
    exact ⟨i,j,rfl,k _ Z H (New.refl zh) (.int _)⟩
theorem jrT:CallR X (.type "int") (rDs X.K jsj):=
  CallR.imp jny fun xs H Q q=>by
    obtain ⟨Z,as,d,zh,ra,e,k⟩:=q
    cases ra with
    | nil=>cases e
    | cons r1 r2=>
      cases r2 with
      | cons _ _=>cases r1 <;> cases e
      | nil=>
        cases r1 with
        | int i=>cases e; exact .inl ⟨_,rfl,k _ Z H (New.refl zh) (.int _)⟩
        | bl i=>cases e; exact .inr ⟨_,rfl,k _ Z H (New.refl zh) (.int _)⟩
        | _=>cases e
theorem jcY:CallR X (.type "tuple") (rDs X.K jb1):=
  CallR.imp jis fun xs H Q q=>by
    obtain ⟨Z,as,d,zh,ra,e,k⟩:=q
    cases ra with
    | nil=>cases e
    | cons r1 r2=>
      cases r2 with
      | cons _ _=>cases r1 <;> cases e
      | nil=>
        cases r1 with
        | lst h1 q1=>cases e; exact ⟨_,_,rfl,.inl ⟨SqL.same h1 zh,fun l hl=>let n:=New.add zh hl (.tup _); k _ _ _ n (.tup (SqT.of jaF) (q1.same n.z))⟩⟩
        | tup h1 q1=>cases e; exact ⟨_,_,rfl,.inr ⟨SqT.same h1 zh,k _ Z H (New.refl zh) (.tup h1 q1)⟩⟩
        | _=>cases e
theorem jrd:MtR X "int.bit_length" (fun x xs H Q=>∃ i,x = .int i ∧ xs = [] ∧ Q (.int (Builtin.Int.intBits i)) H):=by
  intro pins s σ H x xs v us Q I rx rs q
  obtain ⟨i,rfl,rfl,q⟩:=q
  obtain ⟨t,rfl⟩:=rx
  cases rs
  exact call_int_bit_length ⟨.int _,H,I.tok _,⟨_,rfl⟩,q⟩
theorem jnn {apos:Pos} (ha:EV X a f) (hbase:attributeBase a "bit_length" X.env (eval a X.env) = eval a X.env:=by rfl) (hline:(apos.endLine == pos.line) = true:=by rfl):EV X (.Call (.Attribute a "bit_length" apos) [] [] pos) (o1 f jko):=
  PE.imp (js4 PySem.F.plainAttrs_int PySem.F.slot_int_bit_length PySem.F.type_int_bit_length jrd ha hbase hline) fun σ H Q h=>by
    obtain ⟨H₀,Z₀,Z,δ,d,hh,e,k⟩:=h
    obtain ⟨x,e1,e⟩:=bind_some e
    refine ⟨H₀,Z₀,Z,δ,x,hh,e1,fun v Z1 H1 hh1 s1 r1=>?_⟩
    cases r1 <;> simp [jko] at e
    subst e
    exact ⟨rfl,_,rfl,rfl,k _ Z1 H1 hh1 s1 (.int _)⟩
theorem jtq (K:Fg) {t T:String} (ht:t = "NoneType" ∨ t = "bool" ∨ t = "int" ∨ t = "str" ∨ t = "list" ∨ t = "tuple") (hT:T = "int" ∨ T = "bool" ∨ T = "str" ∨ T = "list" ∨ T = "tuple"):PySem.W.kitOne K (.type t) (.type T) = some (jvz t T):=by
  rcases ht with rfl | rfl | rfl | rfl | rfl | rfl <;> rcases hT with rfl | rfl | rfl | rfl | rfl <;> rfl
theorem Rep.ty {K:Fg} {Z H:Hp} {v:V} {d:D} (zh:Same Z H) (r:Rep K Z v d) (hD:¬jpi d = true):(tyN d = "NoneType" ∨ tyN d = "bool" ∨ tyN d = "int" ∨ tyN d = "str" ∨ tyN d = "list" ∨ tyN d = "tuple"):=by
  cases r <;> simp [tyN]
  exact absurd rfl hD
theorem jtC {pins:List (Addr × Obj)} {σ:St} {H Z:Hp} {s:Shared} {x:V} {u:Value} {d:D} {T:String} {A:Around} {E:Value → Shared → Prop} {Q:Value → Shared → Prop} (I:Inv X pins σ H s) (zh:Same Z H) (rx:RelV x u) (r:Rep X.K Z x d) (hD:¬jpi d = true)
    (hT:T = "int" ∨ T = "bool" ∨ T = "str" ∨ T = "list" ∨ T = "tuple") (h:∀ tk,Q (.bool (jvz (tyN d) T)) { s with toks:=tk }):wpAny (model X.prog X.w) A (call (.builtin "isinstance") [u,.type T]) Q E s:=by
  have ko:=jtq X.K (Rep.ty zh r hD) hT
  cases r with
  | non=>exact jfe I rx (.non) ko h
  | bl b=>exact jfe I rx (.bl b) ko h
  | int b=>exact jfe I rx (.int b) ko h
  | str b=>exact jfe I rx (.str b) ko h
  | @tup a xs ds h1 q1=>
    cases (show u = Value.ref a from rx)
    obtain ⟨its,_,p,_⟩:=I.tuple (SqT.same h1 zh)
    obtain ⟨o,h1,h2,_⟩:=p
    exact PySem.W.kia_one PySem.W.kitx_tuple I.kIn ⟨o,h1,h2⟩ ko (fun z=>nomatch z) h
  | @lst a xs ds h1 q1=>
    cases (show u = Value.ref a from rx)
    obtain ⟨its,_,p,_⟩:=I.list (SqL.same h1 zh)
    obtain ⟨o,n,h1,h2,_⟩:=p
    exact PySem.W.kia_one PySem.W.kitx_list I.kIn ⟨o,h1,h2⟩ ko (fun z=>nomatch z) h
  | opq h1=>exact absurd rfl hD
theorem jvP (T:String):CallR X (.builtin "isinstance") (fun xs H Q=>∃ x Z d r,xs = [x,.ty T] ∧ Same Z H ∧ Rep X.K Z x d ∧ jhm T d = some r ∧ ∃ b,r = .bool b ∧ Q (.bl b) H):=by
  intro pins s σ H xs us Q I rv h
  obtain ⟨x,Z,d,r,rfl,zh,rr,e,b,rfl,q⟩:=h
  obtain ⟨u,w',rfl,r1,r2⟩:=jl1 rv
  cases (show w' = Value.type T from r2)
  by_cases hD:jpi d = true
  · rw [jhm,if_pos hD] at e; cases e
  by_cases hT:T = "int" ∨ T = "bool" ∨ T = "str" ∨ T = "list" ∨ T = "tuple"
  · rw [jhm,if_neg hD,if_pos hT] at e
    cases e
    exact jtC I zh r1 rr hD hT fun tk=>⟨.bl _,H,I.tok _,rfl,q⟩
  · rw [jhm,if_neg hD,if_neg hT] at e; cases e
theorem jjo {x:Str} {T:String} {p2:Pos} (hg:Gl X "isinstance") (hm:X.mg "isinstance" = none) (hgT:Gl X x) (hmT:X.mg x = none) (hvT:bootBuiltins x = some (.type T)) (hnT:x ≠ "__name__") (hdT:(x == ("__debug__":Str)) = false) (ha:EV X a f)
    (he:starEach (a :: [.Name x p2]) X.env = (false,eval a X.env) :: starEach [.Name x p2] X.env:=by rfl) (he2:starEach ((.Name x p2) :: []) X.env = (false,eval (.Name x p2) X.env) :: starEach [] X.env:=by rfl) (hpl:(backTo pos (starEach [.Name x p2] X.env)).any (·.1) = false:=by rfl) :
    EV X (.Call (.Name "isinstance" p) [a,.Name x p2] [] pos) (o1 f (jhm T)):=
  PE.imp (jgc (jvP T) hg hm PyProof.Rows.boot_isinstance (jdF ha (jdF (jmC (v:=.ty T) hgT hmT hvT rfl hnT hdT) jhw he2) he) (by decide) (by decide) he hpl) fun σ H Q h=>by
    obtain ⟨H₀,Z₀,Z,δ,d,hh,e,k⟩:=h
    obtain ⟨y,e1,e⟩:=bind_some e
    refine ⟨H₀,Z₀,Z,δ,y,hh,e1,fun v Z1 H1 hh1 s1 r1=>⟨v,Z1,y,d,rfl,hh1.zh,r1,e,?_⟩⟩
    have:∃ b,d = .bool b:=by
      unfold jhm at e
      split at e
      · cases e
      · split at e
        · cases e; exact ⟨_,rfl⟩
        · cases e
    obtain ⟨b,rfl⟩:=this
    exact ⟨b,rfl,k _ Z1 H1 hh1 s1 (.bl b)⟩
end
end VL
set_option Elab.async false
set_option linter.all false
set_option maxRecDepth 100000
set_option maxHeartbeats 4000000
namespace VL
open PySem PySem.Spec PyProof.Rows L2
section
variable {X:Cx} {a b c e tg iter:Expr} {es:List Expr} {pos p:Pos} {f f1 f2 f3:Dv → Option D} {fs:Dv → Option (List D)} {ft fu:Dv → Option Bool} {st:Stmt} {sts body orelse:List Stmt} {s1 s2 s3:Sf}
theorem jam (he:EV X e f):SV X (.Return (some e) pos) (jbk f):=
  PS.imp (jsR he) fun D σ H h=>by
    obtain ⟨H₀,Z₀,Z,δ,r,hh,e,k⟩:=h
    obtain ⟨x,e1,e⟩:=bind_some e
    cases e
    exact ⟨H₀,Z₀,Z,δ,x,hh,e1,fun v Z1 H1 hh1 s1 r1=>k σ H1 Z1 hh1 s1 v r1⟩
theorem jan (i:Nat) {x:Str} {pos':Pos} (hN:X.N.Nodup) (he:EV X e f) (hi:X.N[i]? = some x:=by rfl) (hx:Loc X.env.scope x:=by first | exact Or.inl rfl | exact Or.inr rfl) (hs:swapsWith e (some (.Name x pos')) pos.line X.env = pure false:=by rfl)
    (hf:X.fn x = true ∨ X.env.scope.names.lookup x = some .local:=by first | exact .inl rfl | exact .inr rfl | assumption):SV X (.Assign [.Name x pos'] e pos) (jbl i f):=
  PS.imp (jmw hN hi hx he hs hf) fun D σ H h=>by
    obtain ⟨H₀,Z₀,Z,δ,r,hh,e,k⟩:=h
    obtain ⟨x,e1,e⟩:=bind_some e
    cases e
    exact ⟨H₀,Z₀,Z,δ,x,hh,e1,fun v Z1 H1 hh1 s1 r1=>k _ H1 Z1 (hh1.set r1) s1⟩
theorem jmi (he:EV X e f) (hs:swapsWith e none pos.line X.env = pure false:=by rfl):SV X (.Expr e pos) (jou f):=
  PS.imp (jjW he hs) fun D σ H h=>by
    obtain ⟨H₀,Z₀,Z,δ,r,hh,e,k⟩:=h
    obtain ⟨x,e1,e⟩:=bind_some e
    cases e
    exact ⟨H₀,Z₀,Z,δ,x,hh,e1,fun v Z1 H1 hh1 s1 r1=>k σ H1 Z1 hh1 s1⟩
theorem jvi {D:Ends} {σ:St} {H:Hp} {K:Fg} (h:tVS K sNx D σ H):D.nx σ H:=by
  obtain ⟨H₀,Z₀,Z,δ,r,hh,e,k⟩:=h
  cases e
  exact k σ H Z hh (Same.refl _)
theorem jaH:BV X [] sNx:=PSs.imp jqT fun D σ H h=>jvi h
theorem jag (h1:SV X st s1) (h2:BV X sts s2):BV X (st :: sts) (sSeq s1 s2):=
  PSs.imp (jh3 h1 h2) fun D σ H h=>by
    obtain ⟨H₀,Z₀,Z,δ,r,hh,e,k⟩:=h
    obtain ⟨⟨fl,δ'⟩,e1,e⟩:=bind_some e
    refine ⟨H₀,Z₀,Z,δ,(fl,δ'),hh,e1,fun σ' H' Z' hh' s'=>?_⟩
    cases fl with
    | nx=>exact ⟨H₀,Z₀,Z',δ',r,hh',e,fun σ2 H2 Z2 hh2 s2=>by
        have:=k σ2 H2 Z2 hh2 (s'.trans s2)
        obtain ⟨fl,δ2⟩:=r
        cases fl <;> exact this⟩
    | bk=>cases e; exact k σ' H' Z' hh' s'
    | ct=>cases e; exact k σ' H' Z' hh' s'
    | rt d=>cases e; exact k σ' H' Z' hh' s'
theorem jai (h1:SV X st s1):BV X [st] s1:=jmv h1
theorem jbe (hc:TV X c ft) (ha:BV X body s1) (hb:BV X orelse s2):SV X (.If c body orelse pos) (sIf ft s1 s2):=
  PS.imp (jsS hc ha hb) fun D σ H h=>by
    obtain ⟨H₀,Z₀,Z,δ,r,hh,e,k⟩:=h
    obtain ⟨x,e1,e⟩:=bind_some e
    refine ⟨H₀,Z₀,Z,δ,x,hh,e1,fun Z1 H1 hh1 t1=>?_⟩
    cases x with
    | true=>exact ⟨H₀,Z₀,Z1,δ,r,hh1,e,fun σ2 H2 Z2 hh2 t2=>k σ2 H2 Z2 hh2 (t1.trans t2)⟩
    | false=>exact ⟨H₀,Z₀,Z1,δ,r,hh1,e,fun σ2 H2 Z2 hh2 t2=>k σ2 H2 Z2 hh2 (t1.trans t2)⟩
theorem jvI {K:Fg} (i:Nat) {D:Ends} {σ:St} {H:Hp} (h:tVS K (fun δ=>s1 (dFz i δ)) D σ H):tVS K s1 D σ H:=by
  obtain ⟨H₀,Z₀,Z,δ,r,hh,e,k⟩:=h
  have e:s1 (dFz i δ) = some r:=e
  unfold dFz at e
  split at e
  · rename_i ds q
    obtain ⟨Z1,t1,hh1⟩:=hh.frz q
    exact ⟨H₀,Z₀,Z1,_,r,hh1,e,fun σ2 H2 Z2 hh2 t2=>k σ2 H2 Z2 hh2 (t1.trans t2)⟩
  · exact ⟨H₀,Z₀,Z,_,r,hh,e,k⟩
theorem jon (i:Nat) (h:SV X st s1):SV X st (fun δ=>s1 (dFz i δ)):=PS.imp h fun D σ H q=>jvI i q
def tVG (K:Fg) (g:D → Dv → Option Dv):TG:=fun v σ H Q=>∃ H₀ Z₀ Z δ d δ',Hold K H₀ Z₀ Z δ σ H ∧ Rep K Z v d ∧ g d δ = some δ' ∧ ∀ σ' H' Z',Hold K H₀ Z₀ Z' δ' σ' H' → Same Z Z' → Q σ' H'
def GV (X:Cx) (tg:Expr) (g:D → Dv → Option Dv):Prop:=PG X tg (tVG X.K g)
theorem PG.imp {t t':TG} (h:PG X tg t) (i:∀ v σ H Q,t' v σ H Q → t v σ H Q):PG X tg t':=fun pins s σ H x v Q I r q=>h pins s σ H x v Q I r (i _ _ _ _ q)
theorem jcX (i:Nat) {x:Str} (hN:X.N.Nodup) (hi:X.N[i]? = some x:=by rfl) (hx:Loc X.env.scope x:=by first | exact Or.inl rfl | exact Or.inr rfl)
    (hf:X.fn x = true ∨ X.env.scope.names.lookup x = some .local:=by first | exact .inl rfl | exact .inr rfl | assumption):GV X (.Name x pos) (gN i):=
  PG.imp (jbH hN hi hx hf) fun v σ H Q h=>by
    obtain ⟨H₀,Z₀,Z,δ,d,δ',hh,r,e,k⟩:=h
    cases e
    exact k _ H Z (hh.set r) (Same.refl _)
structure ItOk (K:Fg) (Z:Hp) (J:It) (ds:List D):Prop where
  go:∀ (i:Nat) (H:Hp),Same Z H → i < ds.length → J.go i H
  yld:∀ (i:Nat) (H:Hp) x H' d,Same Z H → ds[i]? = some d → J.yld i H x H' → H' = H ∧ Rep K Z x d
  stop:∀ (i:Nat) (H:Hp),Same Z H → ds.length ≤ i → J.stop i H
def tVI (K:Fg) (f:Dv → Option (List D)):TI:=fun σ H R=>∃ H₀ Z₀ Z δ ds,Hold K H₀ Z₀ Z δ σ H ∧ f δ = some ds ∧ ∀ J Z' H',Hold K H₀ Z₀ Z' δ σ H' → Same Z Z' → ItOk K Z' J ds → R J H'
def IV (X:Cx) (tg iter:Expr) (f:Dv → Option (List D)):Prop:=PI X tg iter (tVI X.K f)
theorem PI.imp {t t':TI} (h:PI X tg iter t) (i:∀ σ H R,t' σ H R → t σ H R):PI X tg iter t':=fun pins s σ H R I q=>h pins s σ H R I (i _ _ _ q)
theorem jdX {g:D → Dv → Option Dv} (hp:PassesOwn (model X.prog X.w) X.A X.env X.xe) (hc:X.calm = true) (hi:IV X tg iter fs) (hg:GV X tg g) (hb:BV X body s1)
    (hs:∀ x,foldedSetIterable iter X.env x = pure x:=by intro _; rfl):SV X (.For tg iter body [] pos) (jlW fs g s1):=
  PS.imp (jsT hp hc hi hg hb hs) fun D σ H h=>by
    obtain ⟨H₀,Z₀,Z,δ,r,hh,e,k⟩:=h
    obtain ⟨ds,e1,e⟩:=bind_some e
    refine ⟨H₀,Z₀,Z,δ,ds,hh,e1,fun J Z1 H1 hh1 t1 ok=>?_⟩
    refine ⟨fun i m σ H=>m = ds.length - i ∧ i ≤ ds.length ∧ ∃ Zc δc,Hold X.K H₀ Z₀ Zc δc σ H ∧ Same Z1 Zc ∧ loop g s1 (ds.drop i) δc = some r,⟨ds.length,by simp,Nat.zero_le _,Z1,δ,hh1,Same.refl _,e⟩,?_⟩
    rintro i m σ2 H2 ⟨rfl,hi2,Zc,δc,hhc,tc,ec⟩
    have zh:Same Z1 H2:=tc.trans hhc.zh
    by_cases hlt:i < ds.length
    · refine .inr ⟨ok.go i H2 zh hlt,fun σ3 H3=>∃ Zc δc,Hold X.K H₀ Z₀ Zc δc σ3 H3 ∧ Same Z1 Zc ∧ loop g s1 (ds.drop (i + 1)) δc = some r,fun σ3 H3 q=>⟨ds.length - (i + 1),by omega,rfl,hlt,q⟩,fun x H3 y=>?_⟩
      have ed:ds[i]? = some ds[i]:=by simp [hlt]
      obtain ⟨rfl,rx⟩:=ok.yld i H2 x H3 _ zh ed y
      rw [List.drop_eq_getElem_cons hlt] at ec
      obtain ⟨δ1,g1,ec⟩:=bind_some ec
      obtain ⟨⟨fl,δ2⟩,g2,ec⟩:=bind_some ec
      refine ⟨H₀,Z₀,Zc,δc,_,δ1,hhc,rx.same tc,g1,fun σ4 H4 Z4 hh4 t4=>⟨H₀,Z₀,Z4,δ1,(fl,δ2),hh4,g2,fun σ5 H5 Z5 hh5 t5=>?_⟩⟩
      cases fl with
      | nx=>exact ⟨Z5,δ2,hh5,(tc.trans t4).trans t5,ec⟩
      | ct=>exact ⟨Z5,δ2,hh5,(tc.trans t4).trans t5,ec⟩
      | bk=>cases ec; exact k σ5 H5 Z5 hh5 (((t1.trans tc).trans t4).trans t5)
      | rt d=>cases ec; exact k σ5 H5 Z5 hh5 (((t1.trans tc).trans t4).trans t5)
    · have e2:ds.drop i = []:=List.drop_eq_nil_iff.mpr (by omega)
      rw [e2] at ec
      cases ec
      exact .inl ⟨ok.stop i H2 zh (by omega),k σ2 H2 Zc hhc (t1.trans tc)⟩
theorem jom (n:Dv → Nat) (hp:PassesOwn (model X.prog X.w) X.A X.env X.xe) (hc:TV X c ft) (hb:BV X body s1):SV X (.While c body [] pos) (fun δ=>jeY ft s1 (n δ) δ):=
  PS.imp (jow hp hc hb) fun D σ H h=>by
    obtain ⟨H₀,Z₀,Z,δ,r,hh,e,k⟩:=h
    refine ⟨fun m σ H=>∃ Zc δc,Hold X.K H₀ Z₀ Zc δc σ H ∧ Same Z Zc ∧ jeY ft s1 m δc = some r,⟨n δ,Z,δ,hh,Same.refl _,e⟩,?_⟩
    rintro m σ2 H2 ⟨Zc,δc,hhc,tc,ec⟩
    cases m with
    | zero=>cases ec
    | succ m=>
      obtain ⟨cc,g1,ec⟩:=bind_some ec
      refine ⟨H₀,Z₀,Zc,δc,cc,hhc,g1,fun Z3 H3 hh3 t3=>?_⟩
      cases cc with
      | false=>cases ec; exact k σ2 H3 Z3 hh3 (tc.trans t3)
      | true=>
        obtain ⟨⟨fl,δ2⟩,g2,ec⟩:=bind_some ec
        refine ⟨fun σ4 H4=>∃ Zc δc,Hold X.K H₀ Z₀ Zc δc σ4 H4 ∧ Same Z Zc ∧ jeY ft s1 m δc = some r,fun σ4 H4 q=>⟨m,Nat.lt_succ_self m,q⟩,?_⟩
        refine ⟨H₀,Z₀,Z3,δc,(fl,δ2),hh3,g2,fun σ5 H5 Z5 hh5 t5=>?_⟩
        cases fl with
        | nx=>exact ⟨Z5,δ2,hh5,(tc.trans t3).trans t5,ec⟩
        | ct=>exact ⟨Z5,δ2,hh5,(tc.trans t3).trans t5,ec⟩
        | bk=>cases ec; exact k σ5 H5 Z5 hh5 ((tc.trans t3).trans t5)
        | rt d=>cases ec; exact k σ5 H5 Z5 hh5 ((tc.trans t3).trans t5)
theorem jk4 {K:Fg} {Z:Hp} {lo:Int} {n:Nat}:ItOk K Z (Itr lo n) (jlX lo n) where
  go:=fun i H _ h=>by simpa [jlX,Itr] using h
  yld:=fun i H x H' d _ e y=>by
    obtain ⟨rfl,rfl⟩:=y
    refine ⟨rfl,?_⟩
    unfold jlX at e
    rw [List.getElem?_map] at e
    cases q:(List.range n)[i]? with
    | none=>rw [q] at e; cases e
    | some k=>
      rw [q] at e
      cases e
      have:k = i:=by
        obtain ⟨h,h2⟩:=List.getElem?_eq_some_iff.mp q
        simpa using h2.symm
      subst this
      exact .int _
  stop:=fun i H _ h=>by simpa [jlX,Itr] using h
theorem jbb (hg:Gl X "range") (hm:X.mg "range" = none) (ha:AV X [a] fs) (hs:starEach [a] X.env = [(false,eval a X.env)]:=by rfl):IV X tg (.Call (.Name "range" p) [a] [] pos) (oL fs jbm):=
  PI.imp (jmy hg hm ha hs) fun σ H R h=>by
    obtain ⟨H₀,Z₀,Z,δ,ds,hh,e,k⟩:=h
    obtain ⟨as,e1,e⟩:=bind_some e
    refine ⟨H₀,Z₀,Z,δ,as,hh,e1,fun vs Z1 H1 hh1 t1 r1=>?_⟩
    unfold jbm at e
    split at e
    · rename_i j
      split at e
      · rename_i hj
        cases e
        cases r1 with
        | cons q1 q2=>
          cases q2
          exact ⟨j,by rw [q1.int_eq],hj.2,hj.1,k _ Z1 H1 hh1 t1 jk4⟩
      · cases e
    · cases e
theorem jrs (ha:EV X a f):IV X tg a (oI f jul):=
  PI.imp (jqY ha) fun σ H R h=>by
    obtain ⟨H₀,Z₀,Z,δ,ds,hh,e,k⟩:=h
    obtain ⟨y,e1,e⟩:=bind_some e
    refine ⟨H₀,Z₀,Z,δ,y,hh,e1,fun v Z1 H1 hh1 t1 r1=>?_⟩
    cases r1 with
    | @lst l xs ds' h1 q1=>
      cases e
      refine ⟨l,rfl,⟨xs,SqL.same h1 hh1.zh⟩,k _ Z1 H1 hh1 t1 ⟨fun i H2 z hi=>?_,fun i H2 x H3 d z ed y=>?_,fun i H2 z hi=>⟨xs,SqL.same h1 z,by rw [q1.length]; exact hi⟩⟩⟩
      · have hi':i < xs.length:=by rw [q1.length]; exact hi
        exact ⟨xs,xs[i],SqL.same h1 z,by simp [hi']⟩
      · obtain ⟨rfl,y⟩:=y
        obtain ⟨v,ev,rv⟩:=q1.get ed
        have:=y xs (SqL.same h1 z)
        rw [ev] at this
        cases this
        exact ⟨rfl,rv⟩
    | _=>cases e
theorem jtA (ha:EV X a f):IV X tg a (oI f jwz):=
  PI.imp (jsW ha) fun σ H R h=>by
    obtain ⟨H₀,Z₀,Z,δ,ds,hh,e,k⟩:=h
    obtain ⟨y,e1,e⟩:=bind_some e
    refine ⟨H₀,Z₀,Z,δ,y,hh,e1,fun v Z1 H1 hh1 t1 r1=>?_⟩
    cases r1 with
    | @tup l xs ds' h1 q1=>
      cases e
      refine ⟨l,rfl,⟨xs,SqT.same h1 hh1.zh⟩,k _ Z1 H1 hh1 t1 ⟨fun i H2 z hi=>?_,fun i H2 x H3 d z ed y=>?_,fun i H2 z hi=>⟨xs,SqT.same h1 z,by rw [q1.length]; exact hi⟩⟩⟩
      · have hi':i < xs.length:=by rw [q1.length]; exact hi
        exact ⟨xs,xs[i],SqT.same h1 z,by simp [hi']⟩
      · obtain ⟨rfl,y⟩:=y
        obtain ⟨v,ev,rv⟩:=q1.get ed
        have:=y xs (SqT.same h1 z)
        rw [ev] at this
        cases this
        exact ⟨rfl,rv⟩
    | _=>cases e
end
section
variable {X:Cx} {a b c tg:Expr} {ta:TA} {p pos:Pos} {fs:Dv → Option (List D)}
end
section
variable {X:Cx} {e:Expr} {lo hi:Option Expr} {p2 pos:Pos} {f:Dv → Option D}
def tVO (K:Fg) (f:Dv → Option (Option Int)):TO:=fun σ H Q=>∃ H₀ Z₀ Z δ d,Hold K H₀ Z₀ Z δ σ H ∧ f δ = some d ∧ ∀ Z' H',Hold K H₀ Z₀ Z' δ σ H' → Same Z Z' → Q d H'
def OV (X:Cx) (e:Option Expr) (f:Dv → Option (Option Int)):Prop:=PO X e (tVO X.K f)
theorem PO.imp {eo:Option Expr} {t t':TO} (h:PO X eo t) (i:∀ σ H Q,t' σ H Q → t σ H Q):PO X eo t':=fun pins s σ H Q I q=>h pins s σ H Q I (i _ _ _ q)
theorem jmF (h:EV X e f):OV X (some e) (oP f):=PO.imp (jqW h) fun σ H Q h=>by
  obtain ⟨H₀,Z₀,Z,δ,d,hh,e,k⟩:=h
  obtain ⟨x,e1,e⟩:=bind_some e
  refine ⟨H₀,Z₀,Z,δ,x,hh,e1,fun v Z1 H1 hh1 t1 r1=>?_⟩
  cases r1 <;> simp [asI] at e
  subst e
  exact ⟨_,rfl,k Z1 H1 hh1 t1⟩
theorem Reps.cut {K:Fg} {Z:Hp} {vs:List V} {ds:List D} (r:Reps K Z vs ds) (lo hi:Option Int):Reps K Z (jn9 vs lo hi) (jqn ds lo hi):=by
  unfold jn9 jqn
  rw [r.length]
  exact (r.drop _).take _
theorem jlL {ds:List D} {lo hi:Option Int} (h1:HT.sIx ds.length 0 lo = 0) (h2:HT.sIx ds.length ds.length hi = ds.length):jqn ds lo hi = ds:=by
  unfold jqn
  rw [h1,h2]
  simp
section
variable {prog:Program} {w:World} {A:Around} {E:Value → Shared → Prop} {s:Shared}
theorem jiP {t sl:Addr} {items:Array Value} {vl vu:Value} {lo hi:Option Int} {Q:Value → Shared → Prop} (ht:IsTup s.heap t items) (hs:s.heap.IsSliceOf sl vl vu .none) (pl:IsPart vl lo) (pu:IsPart vu hi)
    (h1:HT.sIx items.size 0 lo = 0) (h2:HT.sIx items.size items.size hi = items.size) (h:Q (.ref t) s):wpAny (model prog w) A (getItem (.ref t) (.ref sl)) Q E s:=by
  obtain ⟨osl,hos,hcs,hds⟩:=id hs
  have ty:s.TypeIs (.ref sl) "slice":=⟨osl,hos,hcs⟩
  unfold getItem
  try with_reducible refine wpAny_holding ?_
  first | refine wpAny_bind (wpAny_pure ?_) | skip
  refine wpAny_bind (wpAny_sequenceKey ht.typeIs (by decide) ?_)
  refine wpAny_bind (wpAny_callSpecial?_slot (name:=Str.ofString "__getitem__") ht.typeIs PyProof.Rows.slot_tuple_getitem
    (wpAny_call_entry PyProof.Rows.slot_tuple_getitem ht.typeIs PyProof.Rows.entry_tuple_getitem ?_ (PyProof.Rows.args_tuple_getitem _ _)))
  show wpAny _ _ (Builtin.Tuple.tupleItemsOf (.ref t) >>= _) _ _ s
  refine wpAny_bind (tupleItemsOf_ ht ?_)
  refine wpAny_bind (wpAny_typeOf ty ?_)
  rw [if_pos (by decide)]
  refine wpAny_bind (HT.jdO hs pl pu ?_)
  have yes:(((((HT.sIx items.size 0 lo:Nat):Int) == 0) && ((1:Int) == 1)) && ((HT.sIx items.size items.size hi - HT.sIx items.size 0 lo) == items.size)) = true:=by
    rw [h1,h2]; simp
  show wpAny _ _ (if (((((HT.sIx items.size 0 lo:Nat):Int) == 0) && ((1:Int) == 1)) && ((HT.sIx items.size items.size hi - HT.sIx items.size 0 lo) == items.size)) = true then _ else _) _ _ s
  rw [if_pos yes]
  unfold Builtin.Tuple.tupleIsExact
  refine wpAny_bind (wpAny_bind (wpAny_typeOf ht.typeIs (wpAny_pure ?_)))
  rw [if_pos (by decide)]
  exact wpAny_bind (wpAny_rule (wpAny_pure ⟨_,rfl,wpAny_pure h⟩))
end
def jw7 (K:PySem.W.Frag):V → Option Int → Option Int → Hp → VK → Prop:=fun x lo hi H Q=>∃ a xs,x = .ref a ∧ SqT K H a xs ∧ HT.sIx xs.length 0 lo = 0 ∧ HT.sIx xs.length xs.length hi = xs.length ∧ Q (.ref a) H
theorem jqM:SlR X (jw7 X.K):=by
  intro pins s σ H x v vl vu lo hi sl Q I rx hs pl pu h
  obtain ⟨a,xs,rfl,hx,w1,w2,q⟩:=h
  cases rx
  obtain ⟨its,r,ht,hz⟩:=I.tuple hx
  have hlen:its.toArray.size = xs.length:=by rw [List.size_toArray]; exact r.length.symm
  refine ⟨"tuple",_,PyProof.Rows.slot_tuple_getitem.lookup,ht.typeIs,?_⟩
  exact jiP ht hs pl pu (by rw [hlen]; exact w1) (by rw [hlen]; exact w2) ⟨.ref a,H,I,rfl,q⟩
theorem jpn {fl fu:Dv → Option (Option Int)} (he:EV X e f) (hl:OV X lo fl) (hu:OV X hi fu):EV X (.Subscript e (.Slice lo hi none p2) pos) (oSl f fl fu):=
  PE.imp (joA (sl_list.or (sl_tup.or jqM)) he hl hu) fun σ H Q h=>by
    obtain ⟨H₀,Z₀,Z,δ,d,hh,e,k⟩:=h
    obtain ⟨x,e1,e⟩:=bind_some e
    obtain ⟨i,e2,e⟩:=bind_some e
    obtain ⟨j,e3,e⟩:=bind_some e
    refine ⟨H₀,Z₀,Z,δ,x,hh,e1,fun v Z1 H1 hh1 t1 r1=>⟨H₀,Z₀,Z1,δ,i,hh1,e2,fun Z2 H2 hh2 t2=>⟨H₀,Z₀,Z2,δ,j,hh2,e3,fun Z3 H3 hh3 t3=>?_⟩⟩⟩
    have r3:=(r1.same t2).same t3
    have tt:=(t1.trans t2).trans t3
    cases r3 with
    | @lst a xs ds h1 q1=>
      cases e
      refine .inl ⟨_,_,rfl,SqL.same h1 hh3.zh,fun p hp=>?_⟩
      have n:=New.add hh3.zh hp (.lst (jn9 xs i j))
      exact k _ _ _ (hh3.new n) (tt.trans n.z) (.lst (SqL.of jaF) ((q1.cut i j).same n.z))
    | @tup a xs ds h1 q1=>
      simp only [slD] at e
      cases e
      by_cases hw:HT.sIx ds.length 0 i = 0 ∧ HT.sIx ds.length ds.length j = ds.length
      · refine .inr (.inr ⟨_,_,rfl,SqT.same h1 hh3.zh,by rw [q1.length]; exact hw.1,by rw [q1.length]; exact hw.2,?_⟩)
        refine k _ _ _ hh3 tt ?_
        rw [jlL hw.1 hw.2]
        exact .tup h1 q1
      · refine .inr (.inl ⟨_,_,rfl,SqT.same h1 hh3.zh,by rw [q1.length]; exact hw,fun p hp=>?_⟩)
        have n:=New.add hh3.zh hp (.tup (jn9 xs i j))
        exact k _ _ _ (hh3.new n) (tt.trans n.z) (.tup (SqT.of jaF) ((q1.cut i j).same n.z))
    | _=>cases e
end
structure FunV (K:PySem.W.Frag) (x qual:Str) (st:Stmt) (f:Addr) (fd:FuncData) (dV:Value):Prop where
  ex:∃ (oc:Value) (od:Option Addr) (kV doc pm:Value) (an:Option Addr) (cdv ct:Value) (osl:Array (Option Value)),
    fd = PySem.W.fnOf x qual (jbP st) (jbi st) (jaf st) dV kV doc pm an cdv ct ∧ K.lookup f = some ⟨oc,od,.func fd,osl⟩ ∧ PySem.W.codeIn K cdv qual = true
  kp:PySem.W.keepIn K (.ref f) = true
section
variable {P:Program} {w:World} {K:PySem.W.Frag} {mg:Str → Option Value} {base:Heap}
theorem jmn {N:List Str} {vs:List V} {as:List D} {Z:Hp} (r:Reps K Z vs as):∀ (i:Nat) d,(jal N as)[i]? = some (.fz d) → ∃ v,(start N vs)[i]? = some (some v) ∧ Rep K Z v d:=by
  intro i d e
  unfold jal at e
  unfold L2.start
  by_cases hi:i < as.length
  · rw [List.getElem?_append_left (by simpa using hi),List.getElem?_map] at e
    cases q:as[i]? with
    | none=>rw [q] at e; cases e
    | some d'=>
      rw [q] at e
      cases e
      obtain ⟨v,ev,rv⟩:=r.get q
      exact ⟨v,by rw [List.getElem?_append_left (by simpa [r.length] using hi),List.getElem?_map,ev]; rfl,rv⟩
  · rw [List.getElem?_append_right (by simpa using hi),List.getElem?_replicate] at e
    split at e <;> cases e
theorem jiV {N:List Str} {as:List D}:∀ (i:Nat) ds,(jal N as)[i]? ≠ some (.own ds):=by
  intro i ds e
  unfold jal at e
  by_cases hi:i < as.length
  · rw [List.getElem?_append_left (by simpa using hi),List.getElem?_map] at e
    cases q:as[i]? with
    | none=>rw [q] at e; cases e
    | some d'=>rw [q] at e; cases e
  · rw [List.getElem?_append_right (by simpa using hi),List.getElem?_replicate] at e
    split at e <;> cases e
theorem jop {N:List Str} {as:List D}:∀ (i:Nat) ds,(jal N as)[i]? ≠ some (.fr ds):=by
  intro i ds e
  unfold jal at e
  by_cases hi:i < as.length
  · rw [List.getElem?_append_left (by simpa using hi),List.getElem?_map] at e
    cases q:as[i]? with
    | none=>rw [q] at e; cases e
    | some d'=>rw [q] at e; cases e
  · rw [List.getElem?_append_right (by simpa using hi),List.getElem?_replicate] at e
    split at e <;> cases e
theorem jfA {N:List Str} {vs:List V} {as:List D} {Z H:Hp} (zh:Same Z H) (r:Reps K Z vs as):Hold K H Z Z (jal N as) (start N vs) H:=
  ⟨zh,Same.refl _,Same.refl _,fun _ _=>rfl,by simp [jal,L2.start,r.length],jmn r,fun i ds e=>absurd e (jiV i ds),fun i j ds es a _ e=>absurd e (jiV i ds),fun i ds e=>absurd e (jop i ds)⟩
theorem jxH {x qual:Str} {st:Stmt} {f:Addr} {fd:FuncData} {dV:Value} {N ps:List Str} {k:Nat} {g:List D → Option D} {b:Sf} (F:FunV K x qual st f fd dV) (S:FnScope N ps (jaf st)) (len:∀ as d,g as = some d → as.length = ps.length)
    (hb:∀ (cdv:Value) (A:Around) (outer:List Env) (s:Shared) (H:Hp) (E:XK),Room k (A.deeper (envOfC qual (jaf st) s.heap.objs.size f cdv)) → BV (jg9 CX0 P w K mg base N qual (jaf st) f cdv A outer s H E).nox (jbi st) b)
    (hg:∀ as d,g as = some d → ∃ δ',b (jal N as) = some (.rt d,δ') ∨ (d = .none ∧ b (jal N as) = some (.nx,δ'))):FnOk P w K mg base CX0 (k + 1) f fd ps (spD K g):=by
  obtain ⟨oc,od,kV,doc,pm,an,cdv,ct,osl,rfl,lk,hcd⟩:=F.ex
  refine jrB lk hcd S (fun vs H Q E h=>?_) fun A outer s H vs Q E hr hsp=>?_
  · obtain ⟨Z,as,d,zh,r,e,_⟩:=h
    rw [r.length]
    exact len as d e
  · refine ⟨_,PSs.nox (hb cdv A outer s H E hr),?_⟩
    obtain ⟨Z,as,d,zh,r,e,kk⟩:=hsp
    have hh:=jfA (N:=N) zh r
    have fin:∀ {σ':St} {H' Z':Hp} {δ':Dv},Hold K H Z Z' δ' σ' H' → Same Z Z' → New Z H Z' H':=fun h' z'=>⟨z',h'.h0,h'.zh,h'.zb⟩
    obtain ⟨δ',e2 | ⟨rfl,e2⟩⟩:=hg as d e
    · exact ⟨H,Z,Z,_,_,hh,e2,fun σ' H' Z' h' z' v rv=>kk v Z' H' (fin h' z') rv⟩
    · exact ⟨H,Z,Z,_,_,hh,e2,fun σ' H' Z' h' z'=>kk _ Z' H' (fin h' z') .non⟩
theorem FunV.binds {x qual:Str} {st:Stmt} {f:Addr} {fd:FuncData} {ps:List Str} (F:FunV K x qual st f fd .none)
    (h:∀ (kV doc pm:Value) (an:Option Addr) (cdv ct:Value) (us:List Value),us.length = ps.length → bindArgs (PySem.W.fnOf x qual (jbP st) (jbi st) (jaf st) .none kV doc pm an cdv ct) ⟨us,[]⟩ = pure (ps.zip us)):Binds K fd ps []:=by
  obtain ⟨oc,od,kV,doc,pm,an,cdv,ct,osl,rfl,lk,hcd⟩:=F.ex
  exact .all (h kV doc pm an cdv ct)
theorem FunV.bindsD {x qual:Str} {st:Stmt} {f T:Addr} {fd:FuncData} {ps:List Str} {o:Obj} {items:Array Value} {n:Nat} {ds:List Value} (F:FunV K x qual st f fd (.ref T)) (ho:K.lookup T = some o) (hs:o.data = .seq items n) (nu:Nat) (hn:nu + ds.length = ps.length)
    (h:∀ (kV doc pm:Value) (an:Option Addr) (cdv ct:Value) (us:List Value),us.length = nu → ∃ kk,bindArgs (PySem.W.fnOf x qual (jbP st) (jbi st) (jaf st) (.ref T) kV doc pm an cdv ct) ⟨us,[]⟩ = seqItems? (.ref T) >>= kk ∧ kk (some items) = pure (ps.zip (us ++ ds))):Binds K fd ps ds:=by
  obtain ⟨oc,od,kV,doc,pm,an,cdv,ct,osl,rfl,lk,hcd⟩:=F.ex
  intro s us KX hl
  obtain ⟨kk,h1,h2⟩:=h kV doc pm an cdv ct us (by rw [List.length_append] at hl; omega)
  exact BindsTo.of_defaults rfl (KX _ _ ho) hs h1 h2
theorem jgG {x qual:Str} {st:Stmt} {f:Addr} {dV oc:Value} {od an:Option Addr} {osl:Array (Option Value)} {kV doc pm cdv ct:Value} (l:K.lookup f = some ⟨oc,od,.func (PySem.W.fnOf x qual (jbP st) (jbi st) (jaf st) dV kV doc pm an cdv ct),osl⟩)
    (c:PySem.W.codeIn K cdv qual = true) (k:PySem.W.keepIn K (.ref f) = true):FunV K x qual st f (PySem.W.fnOf x qual (jbP st) (jbi st) (jaf st) dV kV doc pm an cdv ct) dV:=⟨⟨oc,od,kV,doc,pm,an,cdv,ct,osl,rfl,l,c⟩,k⟩
def joq (K:PySem.W.Frag):Sp:=fun vs H Q _=>∃ (a:Addr) (ns:List Int),vs = [.ref a] ∧ SqL K H a (ns.map V.int) ∧ ns.length ≤ 63 ∧ ∀ H',Q (.bl true) H'
theorem jvv {g:List D → Option D} {k:Nat} {f:Addr} {fd:FuncData} (F:FnOk P w K mg base CX0 k f fd ["script"] (spD K g)) (hg:∀ ns:List Int,ns.length ≤ 63 → g [.list (ns.map .int)] = some (.bool true)):FnOk P w K mg base CX0 k f fd ["script"] (joq K):=
  F.imp fun vs H Q E h=>by
    obtain ⟨a,ns,rfl,hS,hl,q⟩:=h
    exact ⟨H,[.list (ns.map .int)],.bool true,Same.refl _,.cons (.lst hS (Reps.ints ns)) .nil,hg ns hl,fun v Z' H' _ r=>by cases r; exact q H'⟩
end
theorem juE {k:Nat} {l:PySem.W.OpenLaw} {q:Program} {loose:List Str} {XP:(Str → Option Value) → Heap → Prop} {YP:World → Heap → Prop} {d:DefRec} {K:Params → PySem.W.Frag} (hn:l.most = some 63) (hr:Room k callerA) (hdf:d.params.defaults = [])
    (hY:∀ (w:World) (h:Heap),YP w h → (K w.params).In h)
    (F:∀ (w:World) (mg:Str → Option Value) (fa:Addr) (h:Heap),(K w.params).In h → h.Ns mainGlobals mg → mg d.name = some (.ref fa) →
      ∃ fd:FuncData,(∀ (s:Shared) (u:Value),BindsTo s fd ⟨[u],[]⟩ [("script",u)]) ∧ ∀ base:Heap,(K w.params).In base → base.Ns mainGlobals mg → FnOk l.prog w (K w.params) mg base CX0 k fa fd ["script"] (joq (K w.params))) :
    PySem.W.WalkO q loose XP YP l.row.toRowW d [] (fun f vs=>PySem.call f vs):=
  L2.jqw (n:=63) (k:=k) (x:="script") (CX:=fun _=>CX0) (sp:=fun w=>joq (K w.params)) hn (by decide) hdf hr hY F (fun _ _ a ns hl _ hS=>⟨a,ns,rfl,hS,hl,fun _=>rfl⟩) fun _ _ _ _ _ z=>z
section
variable {P:Program} {w:World} {K:PySem.W.Frag} {mg:Str → Option Value} {base:Heap}
theorem jcS {x qual:Str} {st:Stmt} {f:Addr} {fd:FuncData} {dV:Value} {N ps:List Str} {k:Nat} {b:Sf} (F:FunV K x qual st f fd dV) (S:FnScope N ps (jaf st))
    (hb:∀ (cdv:Value) (A:Around) (outer:List Env) (s:Shared) (H:Hp) (E:XK),Room k (A.deeper (envOfC qual (jaf st) s.heap.objs.size f cdv)) → BV (jg9 CX0 P w K mg base N qual (jaf st) f cdv A outer s H E).nox (jbi st) b) :
    FnOk P w K mg base CX0 (k + 1) f fd ps (spD K (runB N ps.length b)):=by
  refine jxH F S (fun as d h=>?_) hb fun as d h=>?_
  · unfold runB at h
    split at h
    · assumption
    · cases h
  · unfold runB at h
    split at h
    · obtain ⟨⟨fl,δ'⟩,e,h⟩:=bind_some h
      cases fl with
      | nx=>cases h; exact ⟨δ',.inr ⟨rfl,e⟩⟩
      | rt d=>cases h; exact ⟨δ',.inl e⟩
      | bk=>cases h
      | ct=>cases h
    · cases h
structure Cal (P:Program) (w:World) (K:PySem.W.Frag) (mg:Str → Option Value) (base:Heap) (x:Str) (k:Nat) (g:List D → Option D) (dd:List D):Prop where
  ex:∃ (fa:Addr) (fd:FuncData) (ps:List Str) (ds:List Value) (dv:List V),FnOk P w K mg base CX0 k fa fd ps (spD K g) ∧ mg x = some (.ref fa) ∧ PySem.W.keepIn K (.ref fa) = true ∧ Binds K fd ps ds ∧ Vals dv ds ∧ ∀ Z,Reps K Z dv dd
theorem Cal.mk0 {x:Str} {k:Nat} {g:List D → Option D} {fa:Addr} {fd:FuncData} {ps:List Str} (F:FnOk P w K mg base CX0 k fa fd ps (spD K g)) (hm:mg x = some (.ref fa)) (hk:PySem.W.keepIn K (.ref fa) = true) (hb:Binds K fd ps []):Cal P w K mg base x k g []:=
  ⟨⟨fa,fd,ps,[],[],F,hm,hk,hb,.nil,fun _=>.nil⟩⟩
end
section
variable {X:Cx} {e:Expr} {es:List Expr} {p pos:Pos} {fs:Dv → Option (List D)}
theorem jtK {k:Nat} {x:Str} {g:List D → Option D} {dd:List D} (C:Cal X.prog X.w X.K X.mg X.base x k g dd) (hr:Room k X.A) (hg:Gl X x) (ha:AV X (e :: es) fs) (hdb:(x == ("__debug__":Str)) = false:=by decide) (he:starEach (e :: es) X.env = (false,eval e X.env) :: starEach es X.env:=by rfl)
    (hpl:(backTo pos (starEach es X.env)).any (·.1) = false:=by rfl):EV X (.Call (.Name x p) (e :: es) [] pos) (os fs fun as=>g (as ++ dd)):=by
  obtain ⟨fa,fd,ps,ds,dv,F,hm,hk,hb,hd,hdd⟩:=C.ex
  exact jrF F hr hg hm hk hb hd hdd jvc ha hdb he hpl
variable {tg a:Expr} {f:Dv → Option D}
theorem jez (ha:EV X a f):IV X tg a (oI f jhl):=by
  intro pins s σ H R I h
  obtain ⟨H₀,Z₀,Z,δ,ds,hh,e,k⟩:=h
  obtain ⟨y,e1,e⟩:=bind_some e
  cases y with
  | list xs=>exact jrs ha pins s σ H R I ⟨H₀,Z₀,Z,δ,ds,hh,by unfold oI; rw [e1]; exact e,k⟩
  | tuple xs=>exact jtA ha pins s σ H R I ⟨H₀,Z₀,Z,δ,ds,hh,by unfold oI; rw [e1]; exact e,k⟩
  | _=>cases e
end
end VL
set_option Elab.async false
set_option linter.all false
set_option maxRecDepth 100000
set_option maxHeartbeats 4000000
namespace VL
open PySem PySem.Spec PyProof.Rows L2
def jkl (env:Env):List (Str × NameKind) → List (Str × Addr) → List (Str × Addr)
  | [],cs=>cs
  | (n,k) :: r,cs=>if k == .free then jkl env r ((n,(env.cells.lookup n).getD 0) :: cs) else jkl env r cs
theorem jhC {env:Env}:∀ (l:List (Str × NameKind)) (cs:List (Str × Addr)),(∀ y ∈ l,y.2 = .free → ∃ c,env.cells.lookup y.1 = some c) →
    (forIn l cs fun (x:Str × NameKind) (r:List (Str × Addr))=>(if (x.2 == NameKind.free) = true then do let c ← cellOf env x.1; pure (ForInStep.yield ((x.1,c) :: r)) else pure (ForInStep.yield r):Sem (ForInStep (List (Str × Addr))))) = pure (jkl env l cs)
  | [],cs,_=>rfl
  | (n,k) :: r,cs,h=>by
    have ih:=fun cs'=>jhC r cs' fun y hy=>h y (List.mem_cons_of_mem _ hy)
    rw [List.forIn_cons]
    cases hk:k == NameKind.free with
    | true=>
      have hk':k = .free:=by simpa using hk
      obtain ⟨c,ec⟩:=h (n,k) List.mem_cons_self hk'
      have e1:cellOf env n = pure c:=by unfold cellOf; rw [ec]
      simp only [hk,if_true,e1,pure_bind,jkl,ec,Option.getD_some]
      exact ih _
    | false=>
      simp only [hk,Bool.false_eq_true,if_false,pure_bind,jkl]
      exact ih _
theorem jcP {scope:Scope} {env:Env} (h:∀ y ∈ scope.names,y.2 = .free → ∃ c,env.cells.lookup y.1 = some c):closureFor scope env = pure (jkl env scope.names []):=by
  simp only [closureFor]
  have:=jhC (env:=env) scope.names [] h
  first
    | (rw [this]; rfl)
    | (simp only [this]; rfl)
    | (unfold closureFor; simp_all)
theorem jbj {env:Env}:∀ (l:List (Str × NameKind)) (cs:List (Str × Addr)) (y:Str) (c:Addr),(∀ z ∈ l,z.2 = .free → ∃ c,env.cells.lookup z.1 = some c) → (jkl env l cs).lookup y = some c → cs.lookup y = some c ∨ env.cells.lookup y = some c
  | [],cs,y,c,_,e=>.inl e
  | (n,k) :: r,cs,y,c,h,e=>by
    unfold jkl at e
    have hr:=fun z hz=>h z (List.mem_cons_of_mem _ hz)
    split at e
    · rename_i hk
      rcases jbj r _ y c hr e with q | q
      · rw [List.lookup_cons] at q
        cases hy:y == n with
        | true=>
          have hy':y = n:=by simpa using hy
          subst hy'
          rw [hy] at q
          obtain ⟨c',ec⟩:=h (y,k) List.mem_cons_self (by simpa using hk)
          simp only [ec,Option.getD_some] at q
          cases q
          exact .inr ec
        | false=>rw [hy] at q; exact .inl q
      · exact .inr q
    · exact jbj r cs y c hr e
theorem jgf {env:Env}:∀ (l:List (Str × NameKind)) (cs:List (Str × Addr)) (y:Str),((y,NameKind.free) ∈ l ∨ (cs.lookup y).isSome = true) → ((jkl env l cs).lookup y).isSome = true
  | [],cs,y,h=>by
    rcases h with h | h
    · cases h
    · exact h
  | (n,k) :: r,cs,y,h=>by
    unfold jkl
    split
    · rename_i hk
      refine jgf r _ y ?_
      rcases h with h | h
      · rcases List.mem_cons.mp h with e | e
        · cases e; exact .inr (by simp [List.lookup_cons])
        · exact .inl e
      · refine .inr ?_
        rw [List.lookup_cons]
        cases hy:y == n with
        | true=>rfl
        | false=>exact h
    · rename_i hk
      refine jgf r cs y ?_
      rcases h with h | h
      · rcases List.mem_cons.mp h with e | e
        · cases e; exact absurd rfl hk
        · exact .inl e
      · exact .inr h
theorem jdi {env:Env} {y:Str}:∀ (l:List (Str × NameKind)),(∀ z ∈ l,z.2 ≠ .cell) →
    (((l.map fun (n,k)=>if (k == NameKind.free && env.scope.kind == .function && env.kindOf n == some .cell) then (n,NameKind.cell) else (n,k)).lookup y = some .cell ∨ (l.map fun (n,k)=>if (k == NameKind.free && env.scope.kind == .function && env.kindOf n == some .cell) then (n,NameKind.cell) else (n,k)).lookup y = some .free) ↔ l.lookup y = some .free)
  | [],_=>by simp
  | (n,k) :: r,h=>by
    have ih:=jdi (env:=env) (y:=y) r fun z hz=>h z (List.mem_cons_of_mem _ hz)
    have hk:k ≠ .cell:=h (n,k) List.mem_cons_self
    rw [List.map_cons]
    cases hy:y == n with
    | true=>
      by_cases hc:(k == NameKind.free && env.scope.kind == .function && env.kindOf n == some .cell) = true
      · have hf:k = .free:=by
          simp only [Bool.and_eq_true] at hc
          simpa using hc.1.1
        simp only [if_pos hc,List.lookup_cons,hy]
        simp [hf]
      · simp only [if_neg hc,List.lookup_cons,hy]
        simp [hk]
    | false=>
      by_cases hc:(k == NameKind.free && env.scope.kind == .function && env.kindOf n == some .cell) = true
      · simp only [if_pos hc,List.lookup_cons,hy]; exact ih
      · simp only [if_neg hc,List.lookup_cons,hy]; exact ih
def blk (X:Cx) (scope:Scope) (N:List Str) (C:Addr) (s₀:Shared) (H₀:Hp) (ex:List Addr):Cx:=
  { X with N:=N,s₀:=s₀,H₀:=H₀,env:=compEnvC scope (jkl X.env scope.names []) C X.env,outer:=X.stack,stack:=X.stack,ex:=ex,fn:=fun _=>false,pn:=[],xe:=fun _ _=>False }
structure BlkOk (on:List (Str × NameKind)) (ON:List Str) (scope:Scope) (vars:List Str) (caps:List (Nat × Str)):Prop where
  kind:scope.kind = .function
  cell:∀ y ∈ scope.names,y.2 ≠ .cell
  names:∀ y ∈ scope.names,y.2 = .local → scope.names.lookup y.1 = some .local
  free:∀ y ∈ scope.names,y.2 = .free → on.lookup y.1 = some .cell ∨ on.lookup y.1 = some .free
  cap:∀ p ∈ caps,ON[p.1]? = some p.2 ∧ scope.names.lookup p.2 = some .free
section
variable {X:Cx} {pins:List (Addr × Obj)} {σ:St} {H H':Hp} {s s':Shared} {scope:Scope} {vars:List Str} {caps:List (Nat × Str)} {fp:List Addr} {C:Addr}
def jha (σ:St) (caps:List (Nat × Str)):St:=caps.map fun p=>(σ[p.1]?).getD none
theorem BlkOk.cells (B:BlkOk X.env.scope.names X.N scope vars caps) (I:Inv X pins σ H s):∀ y ∈ scope.names,y.2 = .free → ∃ c,X.env.cells.lookup y.1 = some c:=fun y hy e=>I.ok.has y.1 (B.free y hy e)
theorem jnC (B:BlkOk X.env.scope.names X.N scope vars caps) (I:Inv X pins σ H s) (hf:∀ b ∈ fp,jjM X pins H b) (hlt:∀ b ∈ fp,b < s.heap.objs.size) (hC:s.heap.objs.size ≤ C):(blk X scope (vars ++ caps.map (·.2)) C s H fp).Ok where
  mod:=I.ok.mod
  kind:=B.kind
  glob:=I.ok.glob
  blt:=I.ok.blt
  above:=hC
  inj:=fun x y c e1 e2=>by
    rcases jbj _ _ _ _ (B.cells I) e1 with q1 | q1
    · cases q1
    · rcases jbj _ _ _ _ (B.cells I) e2 with q2 | q2
      · cases q2
      · exact I.ok.inj x y c q1 q2
  has:=fun x e=>by
    have:scope.names.lookup x = some .free:=(jdi scope.names B.cell).mp e
    have:=jgf (env:=X.env) scope.names [] x (.inl (PySem.mem_of_lookup this))
    exact Option.isSome_iff_exists.mp this
  cab:=fun x c e=>nomatch e
  hd:=I.ok.hd
  frames:=I.ok.frames
  stk:=.inl rfl
  exf:=fun b hb=>⟨Nat.ne_of_lt (Nat.lt_of_lt_of_le (hlt b hb) hC),fun x c e=>by
    rcases jbj _ _ _ _ (B.cells I) e with q | q
    · cases q
    · exact (hf b hb).2.2.2.2.1 x c q⟩
  bs:=I.bs
  bsz:=Nat.le_trans I.ok.bsz I.sz
  noex:=fun b o e hb=>by
    rcases (hf b hb).2.2.2.1 with z | z
    · exact I.ok.noex b o e z
    · exact absurd (Nat.lt_of_lt_of_le (Heap.lt_size e) (Nat.le_trans I.ok.bsz z)) (Nat.lt_irrefl _)
  exfs:=fun b hb z=>by
    rcases List.mem_cons.mp (I.stkSub b z) with q | q
    · exact (hf b hb).2.1 q
    · exact (hf b hb).2.2.1 q
  funs:=I.stack
  frf:=I.stkFree
theorem jnD (B:BlkOk X.env.scope.names X.N scope vars caps) (I:Inv X pins σ H s) (hf:∀ b ∈ fp,jjM X pins H b) (hlt:∀ b ∈ fp,b < s.heap.objs.size) (hC:s.heap.objs.size ≤ C) {h₁:Heap} {m:Str → Option Value} {tk:Nat} (hns:h₁.Ns C m) (old:∀ b o,s.heap.get? b = some o → h₁.get? b = some o) :
    Inv (blk X scope (vars ++ caps.map (·.2)) C s H fp) [] (vars.map (fun _=>none) ++ jha σ caps) H { s with heap:=h₁,toks:=tk }:=by
  refine ⟨jnC B I hf hlt hC,rfl,I.bare,Un.kept old,⟨m,hns,fun i x v e1 e2 e3=>?_⟩,fun x c e=>?_,I.hok.fresh hC,fun x c e=>?_,fun p hp=>absurd (show p ∈ ([]:List (Addr × Obj)) from hp) (by simp),I.hok.kept old,?_⟩
  · have e1:(vars ++ caps.map (·.2))[i]? = some x:=e1
    by_cases hi:i < vars.length
    · rw [List.getElem?_append_left (by simpa using hi),List.getElem?_map] at e2
      cases q:vars[i]? <;> rw [q] at e2 <;> cases e2
    · rw [List.getElem?_append_right (by simpa using hi)] at e1 e2
      simp only [List.length_map] at e2
      unfold jha at e2
      rw [List.getElem?_map] at e1 e2
      cases q:caps[i - vars.length]? with
      | none=>rw [q] at e1; cases e1
      | some p=>
        rw [q] at e1 e2
        cases e1
        have hp:=List.mem_of_getElem? q
        obtain ⟨g1,g2⟩:=B.cap p hp
        have gf:X.env.scope.names.lookup p.2 = some .cell ∨ X.env.scope.names.lookup p.2 = some .free:=B.free (p.2,.free) (PySem.mem_of_lookup g2) rfl
        have ev:σ[p.1]? = some (some v):=by
          have e2:(σ[p.1]?).getD none = some v:=Option.some.inj e2
          cases z:σ[p.1]? with
          | none=>rw [z] at e2; cases e2
          | some w=>rw [z] at e2; rw [show w = some v from e2]
        obtain ⟨m',_,hl⟩:=I.loc
        obtain ⟨u,r,l⟩:=hl p.1 p.2 v g1 ev (gf.elim (fun z=>.inr (.inl z)) fun z=>.inr (.inr z))
        refine ⟨u,r,.inr ⟨?_,?_⟩⟩
        · exact (jdi scope.names B.cell).mpr g2
        · rcases l with ⟨z,_⟩ | ⟨_,c,ec,hc⟩
          · have z:X.env.scope.names.lookup p.2 = some .local:=z
            rcases gf with w | w <;> rw [z] at w <;> cases w
          · obtain ⟨c',q'⟩:=Option.isSome_iff_exists.mp (jgf (env:=X.env) scope.names [] p.2 (.inl (PySem.mem_of_lookup g2)))
            rcases jbj _ _ _ _ (B.cells I) q' with w | w
            · cases w
            · rw [ec] at w
              cases w
              obtain ⟨o,ho,hd⟩:=hc
              exact ⟨c,q',o,old c o ho,hd⟩
  · rcases jbj _ _ _ _ (B.cells I) e with q | q
    · cases q
    · obtain ⟨v,o,ho,hd⟩:=I.cell x c q
      exact ⟨v,o,old c o ho,hd⟩
  · rcases jbj _ _ _ _ (B.cells I) e with q | q
    · cases q
    · exact I.freeC x c q
  · simp [blk,jha]
theorem jnB (I:Inv X pins σ H s) (hf:∀ b ∈ fp,jjM X pins H b) {D:Addr} {s':Shared} {σ':St} {N:List Str} {ys:List V} {its:List Value} (hC:s.heap.objs.size ≤ C) (hD:s.heap.objs.size ≤ D) (hDC:D ≠ C)
    (J:Inv (blk X scope N C s H fp) [] σ' H' s') (hD':H' D = none) (hp:s'.heap.PlainList D its.toArray) (hv:Vals ys its) (hz:ys.length ≤ sizeLine) {h':Heap} (hs:Heap.SameBut C s'.heap h') :
    Inv X pins σ (upd H' D (.lst ys)) { s' with heap:=h' }:=by
  have U:Un (frs X.stack) fp H H' s.heap s'.heap:=J.base
  have neC:∀ b o,s.heap.get? b = some o → b ≠ C:=fun b o e=>Nat.ne_of_lt (Nat.lt_of_lt_of_le (Heap.lt_size e) hC)
  have neD:∀ b o,s.heap.get? b = some o → b ≠ D:=fun b o e=>Nat.ne_of_lt (Nat.lt_of_lt_of_le (Heap.lt_size e) hD)
  have mv:∀ b o,b ≠ C → s'.heap.get? b = some o → h'.get? b = some o:=fun b o hb e=>hs.extBut b o hb e
  have tD:∀ b o,H' b = some o → (upd H' D (.lst ys)) b = some o:=fun b o e=>by rw [jaA (jaJ e hD')]; exact e
  refine I.call' (s':={ s' with heap:=h' }) (ch:=fp) J.os ⟨fun b o e n h1 h2=>mv b o (neC b o e) (U.keep b o e n h1 h2),fun b o e n h1 h2=>?_,fun b o e n h2=>?_,fun b o e h2=>?_,fun b xs e=>tD _ _ (U.tups b xs e),fun b o xs e=>tD _ _ (U.frzs b o xs e),fun b ps e=>?_⟩ (fun b o e=>?_) J.bare
    (fun b hb=>⟨(hf b hb).2.2.2.1,(hf b hb).2.1,(hf b hb).2.2.2.2.1,(hf b hb).2.2.2.2.2⟩)
  · obtain ⟨sl,q⟩:=U.slot b o e n h1 h2
    exact ⟨sl,mv b _ (neC b o e) q⟩
  · rw [jaA (neD b o e)]; exact U.free b o e n h2
  · obtain ⟨o',q⟩:=U.there b o e h2
    exact ⟨o',mv b _ (neC b o e) q⟩
  · obtain ⟨more,q⟩:=U.tbls b ps e
    exact ⟨more,tD _ _ q⟩
  · by_cases hb:b = D
    · subst hb
      rw [jaF] at e
      cases e
      obtain ⟨n,q⟩:=hp
      exact ⟨hz,its,n,hv,mv _ _ hDC q⟩
    · rw [jaA hb] at e
      refine (J.hok b o e).stay (fun c v hc q=>mv c v ?_ q) (fun c q=>tD _ _ q) fun c xs q=>tD _ _ q
      intro z
      have fc:H' C = none:=J.free
      rcases hc with w | w
      · rw [← w,z,fc] at e; cases e
      · rw [z,fc] at w; cases w
theorem jkk (elt target iter:Expr) (scope:Scope) (pos:Pos) (it acc:Value) (env:Env) :
    compTurn (.ListComp elt [⟨target,iter,[],0⟩] scope pos) 0 it acc env = (standAt iter.pos >>= fun _=>pyNext it >>= fun r=>match r with
      | none=>pure (.done .next)
      | some v=>letOwnedTupleGo target it v >>= fun _=>assign target env v >>= fun _=>
        (eval elt env >>= fun x=>call (.builtin "list.append") [acc,x] >>= fun _=>pure ()) >>= fun _=>
          again (.compLoop (.ListComp elt [⟨target,iter,[],0⟩] scope pos) 0 it acc env)):=by rfl
def jpC (σ σ':St):Prop:=σ.length = σ'.length ∧ ∀ (i:Nat) v,σ[i]? = some (some v) → σ'[i]? = some (some v)
def jog (wi:TI) (g:TG) (te:TE) (vars:List Str) (caps:List (Nat × Str)):TE:=fun σ H Q=>wi σ H fun J H1=>∃ W:Nat → Nat → List V → Hp → Prop,(∃ m,W 0 m [] H1) ∧ ∀ i m ys H,W i m ys H →
  (J.stop i H ∧ ys.length ≤ sizeLine ∧ ∀ p,H p = none → Q (.ref p) (upd H p (.lst ys))) ∨
  (J.go i H ∧ ys.length < sizeLine ∧ ∀ x H',J.yld i H x H' → g x (vars.map (fun _=>none) ++ jha σ caps) H' fun σ2 H2=>jpC (vars.map (fun _=>none) ++ jha σ caps) σ2 ∧ te σ2 H2 fun y H3=>∃ m',m' < m ∧ W (i + 1) m' (ys ++ [y]) H3)
theorem Inv.weaken {X:Cx} {pins:List (Addr × Obj)} {σ σ':St} {H:Hp} {s:Shared} (I:Inv X pins σ H s) (hl:σ'.length = σ.length) (w:∀ (i:Nat) v,σ'[i]? = some (some v) → σ[i]? = some (some v)):Inv X pins σ' H s:=I.weak hl w
theorem jgO {prog:Program} {w:World} {A:Around} {R:Result → Shared → Prop} {s:Shared} {elt target iter:Expr} {scope:Scope} {pos:Pos} {it acc:Value} {env:Env} (I:Nat → Shared → Prop)
    (turn:∀ n s,I n s → wpAny (model prog w) A (pyNext it) (fun r s₁=>match r with
      | none=>R (.ok .next) s₁
      | some v=>wpAny (model prog w) A (letOwnedTupleGo target it v) (fun _ s₁=>wpAny (model prog w) A (assign target env v) (fun _ s₂=>wpAny (model prog w) A (eval elt env) (fun x s₃=>
          wpAny (model prog w) A (call (.builtin "list.append") [acc,x]) (fun _ s₄=>∃ m,m < n ∧ I m s₄) (fun _ _=>False) s₃) (fun _ _=>False) s₂) (fun _ _=>False) s₁) (fun _ _=>False) s₁) (fun _ _=>False) s)
    (n:Nat) (h:I n s):codeAny (model prog w) A (.compLoop (.ListComp elt [⟨target,iter,[],0⟩] scope pos) 0 it acc env) R s:=by
  refine codeAny_loop rfl I (fun n s hI=>?_) n h
  show wpAny _ _ ((compTurn (.ListComp elt [⟨target,iter,[],0⟩] scope pos) 0 it acc env).onRaise (fun x=>do noteFrame x env; theTreesLotGoes x)) _ _ s
  refine wpAny_noted ?_
  rw [jkk]
  refine wpAny_bind (wpAny_standAt (wpAny_bind (wpAny_mono (turn n s hI) (fun r s₁ h₁=>?_) fun _ _ h'=>h'.elim)))
  cases r with
  | none=>exact wpAny_pure h₁
  | some v=>
    refine wpAny_bind (wpAny_mono h₁ (fun _ s₁ h₁=>?_) fun _ _ h'=>h'.elim)
    exact wpAny_bind (wpAny_mono h₁ (fun _ s₂ h₂=>wpAny_bind (wpAny_bind (wpAny_mono h₂ (fun x s₃ h₃=>wpAny_bind (wpAny_mono h₃
      (fun _ s₄ h₄=>wpAny_pure (wpAny_pure ⟨rfl,h₄⟩)) fun _ _ h'=>h'.elim)) fun _ _ h'=>h'.elim))) fun _ _ h'=>h'.elim)
end
section
variable {X:Cx} {scope:Scope} {vars:List Str} {caps:List (Nat × Str)} {elt tg iter:Expr} {pos:Pos} {wi:TI} {g:TG} {te:TE}
theorem jhI (B:BlkOk X.env.scope.names X.N scope vars caps) (hc:X.calm = true)
    (hg:∀ C s₀ H₀ ex,PG (blk X scope (vars ++ caps.map (·.2)) C s₀ H₀ ex) tg g) (he:∀ C s₀ H₀ ex,PE (blk X scope (vars ++ caps.map (·.2)) C s₀ H₀ ex) elt te)
    {pins:List (Addr × Obj)} {σ:St} {H2:Hp} {s2:Shared} {Q:VK} {it:Addr} {fp:List Addr} {tn:Nat → Heap → Prop} {J:It} (I2:Inv X pins σ H2 s2) (T:jt3 X.prog X.w X.K tg J fp it tn) (st2:tn 0 s2.heap) (f2:∀ b ∈ fp,jjM X pins H2 b)
    {W:Nat → Nat → List V → Hp → Prop} {m0:Nat} (w0:W 0 m0 [] H2) (turn:∀ i m ys H,W i m ys H →
      (J.stop i H ∧ ys.length ≤ sizeLine ∧ ∀ p,H p = none → Q (.ref p) (upd H p (.lst ys))) ∨
      (J.go i H ∧ ys.length < sizeLine ∧ ∀ x H',J.yld i H x H' → g x (vars.map (fun _=>none) ++ jha σ caps) H' fun σ2 H2=>jpC (vars.map (fun _=>none) ++ jha σ caps) σ2 ∧ te σ2 H2 fun y H3=>∃ m',m' < m ∧ W (i + 1) m' (ys ++ [y]) H3))
    {RR:Value → Addr → Result → Shared → Prop} {E:Value → Shared → Prop}
    (hRR:∀ D C s' m,s'.heap.Ns C m → D ≠ C → s2.heap.objs.size ≤ D → s2.heap.objs.size ≤ C → ∀ H',H' C = none → (∀ h',Heap.SameBut C s'.heap h' → Inv X pins σ H' { s' with heap:=h' }) → Q (.ref D) H' → RR (.ref D) C (.ok .next) s') :
    wpAny (model X.prog X.w) X.A (newList []) (fun acc s₃=>wpAny (model X.prog X.w) X.A (newFunctionEnv scope X.env.globals (jkl X.env scope.names []) [] X.env.qual none .none (some X.env)) (fun cenv s₄=>
      codeAny (model X.prog X.w) X.A (.compStart (.ListComp elt [⟨tg,iter,[],0⟩] scope pos) 0 (.ref it) acc { cenv with scope:=relabel scope X.env }) (RR acc cenv.locals) s₄) E s₃) E s2:=by
  refine wpAny_newObj_type (wpAny_newFunctionEnv B.cell (by intro y hy; simp at hy) (fun h₁ hns₁ hsb₁=>?_) B.kind)
  dsimp only at hns₁ hsb₁ ⊢
  generalize hP:s2.heap.push { cls:=.type "list",dict:=none,data:=.seq ([]:List Value).toArray } = HP at hns₁ hsb₁ ⊢
  have hCs:HP.objs.size = s2.heap.objs.size + 1:=by rw [← hP,Heap.size_push]
  have hDC:s2.heap.objs.size ≠ HP.objs.size:=by rw [hCs]; exact Nat.ne_of_lt (Nat.lt_succ_self _)
  have hCle:s2.heap.objs.size ≤ HP.objs.size:=by rw [hCs]; exact Nat.le_succ _
  have old:∀ b o,s2.heap.get? b = some o → h₁.get? b = some o:=fun b o e=>hsb₁.extBut b o (Nat.ne_of_lt (Nat.lt_of_lt_of_le (Heap.lt_size e) hCle)) (Heap.get?_push_of_some _ (hP ▸ Heap.get?_push_of_some _ e))
  have hacc:h₁.PlainList s2.heap.objs.size #[]:=⟨_,hsb₁.extBut _ _ hDC (Heap.get?_push_of_some _ (hP ▸ Heap.get?_push_size _ rfl))⟩
  have flt:∀ b ∈ fp,b < s2.heap.objs.size:=fun b hb=>by
    obtain ⟨o,e,_⟩:=T.obj _ _ st2 b hb
    exact Heap.lt_size e
  have st1:tn 0 h₁:=T.keep _ _ _ st2 fun b _ o e=>old b o e
  have loop:∀ s3:Shared,s3 = { s2 with heap:=h₁,toks:=s2.toks + ([]:List (Str × Value)).length } →
      codeAny (model X.prog X.w) X.A (.compLoop (.ListComp elt [⟨tg,iter,[],0⟩] scope pos) 0 (.ref it) (.ref s2.heap.objs.size) (compEnvC scope (jkl X.env scope.names []) HP.objs.size X.env))
        (RR (.ref s2.heap.objs.size) HP.objs.size) s3:=by
    rintro s3 rfl
    have X':=blk X scope (vars ++ caps.map (·.2)) HP.objs.size s2 H2 fp
    have fpo:∀ {H':Hp},(∀ b ∈ fp,H' b = none) → ∀ b ∈ fp,jjM (blk X scope (vars ++ caps.map (·.2)) HP.objs.size s2 H2 fp) [] H' b:=fun hn b hb=>by
      have ok:=jnC B I2 f2 flt hCle
      exact ⟨hn b hb,(ok.exf b hb).1,ok.exfs b hb,.inl hb,(ok.exf b hb).2,fun p hp=>absurd (show p ∈ ([]:List (Addr × Obj)) from hp) (by simp)⟩
    refine jgO (fun n s=>∃ i ys H its,Inv (blk X scope (vars ++ caps.map (·.2)) HP.objs.size s2 H2 fp) [] (vars.map (fun _=>none) ++ jha σ caps) H s ∧ tn i s.heap ∧ (∀ b ∈ fp,H b = none) ∧ s.heap.PlainList s2.heap.objs.size (List.toArray its) ∧ H s2.heap.objs.size = none ∧ Vals ys its ∧ W i n ys H) ?_ m0
      ⟨0,[],H2,[],jnD B I2 f2 flt hCle hns₁ old,st1,fun b hb=>(f2 b hb).1,hacc,I2.hok.fresh (Nat.le_refl _),.nil,w0⟩
    rintro n s4 ⟨i,ys,H4,its,I4,st4,fr4,pl4,nD4,v4,w4⟩
    obtain ⟨nn,eD⟩:=id pl4
    have DnL:s2.heap.objs.size ≠ (blk X scope (vars ++ caps.map (·.2)) HP.objs.size s2 H2 fp).env.locals:=hDC
    have Dfs:s2.heap.objs.size ∉ (blk X scope (vars ++ caps.map (·.2)) HP.objs.size s2 H2 fp).fs:=fun z=>by
      rcases List.mem_cons.mp (I2.stkSub _ z) with q | q
      · have:=I2.lt; rw [← q] at this; exact Nat.lt_irrefl _ this
      · exact I2.nofs (Nat.le_refl _) q
    have Dfp:∀ b ∈ fp,s2.heap.objs.size ≠ b:=fun b hb z=>by have:=flt b hb; rw [← z] at this; exact Nat.lt_irrefl _ this
    have DnC:∀ x c,(blk X scope (vars ++ caps.map (·.2)) HP.objs.size s2 H2 fp).env.cells.lookup x = some c → c ≠ s2.heap.objs.size:=fun x c e z=>by
      rcases jbj _ _ _ _ (B.cells I2) e with q | q
      · cases q
      · obtain ⟨v,o,ho,_⟩:=I2.cell x c q
        have:=Heap.lt_size ho
        rw [z] at this
        exact Nat.lt_irrefl _ this
    have pinD:∀ {σ':St} {H':Hp} {s':Shared},Inv (blk X scope (vars ++ caps.map (·.2)) HP.objs.size s2 H2 fp) [(s2.heap.objs.size,{ cls:=.type "list",data:=.seq its.toArray nn })] σ' H' s' → s'.heap.PlainList s2.heap.objs.size its.toArray ∧ H' s2.heap.objs.size = none:=fun {σ' H' s'} I'=>by
      obtain ⟨q1,q2,_⟩:=I'.pin (s2.heap.objs.size,{ cls:=.type "list",data:=.seq its.toArray nn }) (by simp [blk])
      exact ⟨⟨nn,q1⟩,q2⟩
    have I4p:Inv (blk X scope (vars ++ caps.map (·.2)) HP.objs.size s2 H2 fp) [(s2.heap.objs.size,{ cls:=.type "list",data:=.seq its.toArray nn })] (vars.map (fun _=>none) ++ jha σ caps) H4 s4:=
      I4.pins_of fun p hp=>by
        have e:p = (s2.heap.objs.size,{ cls:=.type "list",data:=.seq its.toArray nn }):=by simpa [blk] using hp
        subst e
        exact ⟨eD,nD4,DnL,Dfs,fun v z=>by cases z⟩
    have fpo':∀ {H':Hp},(∀ b ∈ fp,H' b = none) → ∀ b ∈ fp,jjM (blk X scope (vars ++ caps.map (·.2)) HP.objs.size s2 H2 fp) [(s2.heap.objs.size,{ cls:=.type "list",data:=.seq its.toArray nn })] H' b:=fun hn b hb=>by
      obtain ⟨q1,q2,q3,q4,q5,_⟩:=fpo hn b hb
      exact ⟨q1,q2,q3,q4,q5,fun p hp=>by
        have e:p = (s2.heap.objs.size,{ cls:=.type "list",data:=.seq its.toArray nn }):=by simpa [blk] using hp
        subst e
        exact Dfp b hb⟩
    have unp:∀ {pl:List (Addr × Obj)} {σ':St} {H':Hp} {s':Shared},Inv (blk X scope (vars ++ caps.map (·.2)) HP.objs.size s2 H2 fp) pl σ' H' s' → Inv (blk X scope (vars ++ caps.map (·.2)) HP.objs.size s2 H2 fp) [] σ' H' s':=fun {pl σ' H' s'} I'=>
      I'.pins_of fun p hp=>absurd (show p ∈ ([]:List (Addr × Obj)) from hp) (by simp)
    rcases turn i n ys H4 w4 with ⟨stop,hz,qn⟩ | ⟨go,hz,step⟩
    · refine thn (T.done (blk X scope (vars ++ caps.map (·.2)) HP.objs.size s2 H2 fp) rfl rfl rfl hc i _ s4 _ H4 _ I4p (fpo' fr4) st4 stop) fun r s5 ⟨hr,I5⟩=>?_
      subst hr
      obtain ⟨p5,n5⟩:=pinD I5
      obtain ⟨m5,ns5,_⟩:=I5.loc
      refine hRR _ _ s5 m5 ns5 hDC (Nat.le_refl _) hCle _ ?_ (fun h' hs'=>jnB I2 f2 hCle (Nat.le_refl _) hDC (unp I5) n5 p5 v4 hz hs') (qn _ n5)
      rw [jaA hDC.symm]
      exact I5.free
    · refine thn (T.item (blk X scope (vars ++ caps.map (·.2)) HP.objs.size s2 H2 fp) rfl rfl rfl hc i _ s4 _ H4 _ I4p (fpo' fr4) st4 go) fun r s5 ⟨u,hr,h5⟩=>?_
      subst hr
      refine thn h5 fun _ s6 ⟨x,H6,I6,rx,yx,st6,fr6⟩=>?_
      have I6p:=I6.pinned (fpo' fr6) (T.obj _ _ st6)
      refine thn (hg _ _ _ _ _ s6 _ H6 x u _ I6p rx (step x H6 yx)) fun _ s7 ⟨σ7,H7,I7,kp,q7⟩=>?_
      refine thn (he _ _ _ _ _ s7 σ7 H7 _ I7 q7) fun v s8 ⟨y,H8,I8,ry,m',hm,w8⟩=>?_
      obtain ⟨p8,n8⟩:=pinD I8.unpinned
      have st8:tn (i + 1) s8.heap:=T.keep _ _ _ st6 fun b hb o e=>(I8.pin (b,o) (List.mem_append_right _ (List.mem_append_right _ (jbY hb e)))).1
      have fr8:∀ b ∈ fp,H8 b = none:=fun b hb=>by
        obtain ⟨o,e,d⟩:=T.obj _ _ st6 b hb
        exact (I8.pin (b,o) (List.mem_append_right _ (List.mem_append_right _ (jbY hb e)))).2.1
      have hl:=v4.length
      refine wpAny_list_append_plain p8 (fun h9 p9 sb9=>⟨m',hm,i + 1,ys ++ [y],H8,its ++ [v],?_,?_,fr8,by simpa using p9,n8,v4.append (.cons ry .nil),w8⟩) (by simp; omega)
      · have I9:Inv (blk X scope (vars ++ caps.map (·.2)) HP.objs.size s2 H2 fp) [] σ7 H8 { s8 with heap:=h9,toks:=s8.toks }:=
          (unp I8).turned (it:=s2.heap.objs.size) (fun b o hb e=>sb9.extBut b o hb e) n8 DnL (.inr (Nat.le_refl _)) DnC fun p hp=>absurd (show p ∈ ([]:List (Addr × Obj)) from hp) (by simp)
        exact I9.weak kp.1 kp.2
      · exact T.keep _ _ _ st8 fun b hb o e=>sb9.extBut b o (Dfp b hb).symm e
  exact codeAny_compStart_list (loop _ rfl) (T.self _ 0 _ _ _ st1 (loop _ rfl))
theorem jqZ (B:BlkOk X.env.scope.names X.N scope vars caps) (hc:X.calm = true) (hi:PI X tg iter wi)
    (hg:∀ C s₀ H₀ ex,PG (blk X scope (vars ++ caps.map (·.2)) C s₀ H₀ ex) tg g) (he:∀ C s₀ H₀ ex,PE (blk X scope (vars ++ caps.map (·.2)) C s₀ H₀ ex) elt te) (hs:∀ x,foldedSetIterable iter X.env x = pure x:=by intro _; rfl) :
    PE X (.ListComp elt [⟨tg,iter,[],0⟩] scope pos) (jog wi g te vars caps):=by
  intro pins s σ H Q I h
  rw [eval_ListComp]
  refine wpAny_comprehension_free (use:=none) rfl hs (jcP (B.cells I)) B.kind B.names ?_
  show wpAny _ _ (eval iter X.env) _ _ s
  refine thn (hi pins s σ H _ I h) fun v s1 h1=>thn h1 fun itv s2 h2=>?_
  obtain ⟨it,fp,tn,J,H2,e,I2,T,st2,f2,W,⟨m0,w0⟩,turn⟩:=h2
  subst e
  exact jhI B hc hg he I2 T st2 f2 w0 turn (RR:=fun acc C=>compPost (model X.prog X.w) X.A X.xe none (EP X pins σ Q) acc C) fun D C s' m ns _ _ _ H' _ k q=>⟨m,ns,fun h' hs'=>⟨.ref D,H',k h' hs',rfl,q⟩⟩
theorem jqU {i:Nat} {y:Str} {py spos:Pos} (B:BlkOk X.env.scope.names X.N scope vars caps) (hc:X.calm = true) (hi:PI X tg iter wi)
    (hg:∀ C s₀ H₀ ex,PG (blk X scope (vars ++ caps.map (·.2)) C s₀ H₀ ex) tg g) (he:∀ C s₀ H₀ ex,PE (blk X scope (vars ++ caps.map (·.2)) C s₀ H₀ ex) elt te)
    (hN:X.N.Nodup) (hy:X.N[i]? = some y) (hx:Loc X.env.scope y) (hsw:swapsWith (.ListComp elt [⟨tg,iter,[],0⟩] scope pos) (some (.Name y py)) spos.line X.env = pure true)
    (hf:X.fn y = true ∨ X.env.scope.names.lookup y = some .local) (hs:∀ x,foldedSetIterable iter X.env x = pure x:=by intro _; rfl) :
    PS X (.Assign [.Name y py] (.ListComp elt [⟨tg,iter,[],0⟩] scope pos) spos) (fun D σ H=>jog wi g te vars caps σ H fun v H1=>D.nx (σ.set i (some v)) H1):=by
  intro pins s σ H DE I h
  rw [exec_Assign_Name_used _ _ _ _ hsw]
  refine wpAny_bind (wpAny_standAt (wpAny_bind ?_))
  show wpAny _ X.A (do let _ ← comprehension (.ListComp elt [⟨tg,iter,[],0⟩] scope pos) scope X.env _ (newList []) false (eval iter X.env) (some (assign (.Name y py) X.env))) _ _ s
  refine wpAny_bind (wpAny_mono (wpAny_comprehension_free (use:=some (assign (.Name y py) X.env)) (Q:=fun _ s'=>SP X pins DE .next s') rfl hs (jcP (B.cells I)) B.kind B.names
    (thn (hi pins s σ H _ I h) fun v s1 h1=>thn h1 fun itv s2 h2=>?_)) (fun _ s' hq=>wpAny_pure (wpAny_pure hq)) fun _ _ e=>e)
  obtain ⟨it,fp,tn,J,H2,e,I2,T,st2,f2,W,⟨m0,w0⟩,turn⟩:=h2
  subst e
  refine jhI (Q:=fun v H1=>DE.nx (σ.set i (some v)) H1) B hc hg he I2 T st2 f2 w0 turn (RR:=fun acc C=>compPost (model X.prog X.w) X.A X.xe (some (assign (.Name y py) X.env)) (fun _ s'=>SP X pins DE .next s') acc C) ?_
  intro D C s' m ns hDC hD hC H' hHC k q
  obtain ⟨oC,es,ep,eC,dC,rC⟩:=ns
  have I':Inv X pins σ H' s':=k s'.heap (Heap.SameBut.refl ..)
  have nL:C ≠ X.env.locals:=fun z=>by have:=I2.lt; rw [← z] at this; exact absurd (Nat.lt_of_lt_of_le this hC) (Nat.lt_irrefl _)
  have nF:C ∉ X.fs:=I2.nofs hC
  have nCell:∀ x c,X.env.cells.lookup x = some c → c ≠ C:=fun x c e z=>by
    obtain ⟨v,o,ho,_⟩:=I2.cell x c e
    have:=Heap.lt_size ho
    rw [z] at this
    exact absurd (Nat.lt_of_lt_of_le this hC) (Nat.lt_irrefl _)
  have nPin:∀ p ∈ X.pn ++ pins,p.1 ≠ C:=fun p hp z=>by
    have:=Heap.lt_size (I2.pin p hp).1
    rw [z] at this
    exact absurd (Nat.lt_of_lt_of_le this hC) (Nat.lt_irrefl _)
  have Ip:Inv X (pins ++ [(C,oC)]) σ H' s':=I'.pins_of fun p hp=>by
    rcases List.mem_append.mp hp with z | z
    · exact I'.pin p (List.mem_append_right _ z)
    · have e:p = (C,oC):=by simpa using z
      subst e
      exact ⟨eC,hHC,nL,nF,fun v z=>by rw [dC] at z; cases z⟩
  refine thn (jbH (pos:=py) hN hy hx hf _ s' σ H' (.ref D) (.ref D) (fun σ' H''=>σ' = σ.set i (some (.ref D)) ∧ H'' = H' ∧ DE.nx σ' H'') Ip rfl ⟨rfl,rfl,q⟩) fun _ s'' ⟨σ'',H'',I'',e1,e2,q''⟩=>?_
  subst e1 e2
  have eC'':s''.heap.get? C = some oC:=(I''.pin (C,oC) (List.mem_append_right _ (List.mem_append_right _ (by simp)))).1
  refine ⟨m,⟨oC,es,ep,eC'',dC,rC⟩,fun h' hs'=>⟨_,H'',?_,q''⟩⟩
  exact I''.unpinned.turned (t':=s''.toks) (it:=C) (fun b o hb e=>hs'.extBut b o hb e) hHC nL (.inr (Nat.le_trans I2.sz hC)) nCell nPin
end
def slF:Option Sl → Sl
  | some (.fz d)=>.fz d
  | _=>.un
@[simp] theorem jv6 (d:D):slF (some (.fz d)) = .fz d:=rfl
def capS (δ:Dv) (caps:List (Nat × Str)):Dv:=caps.map fun p=>slF δ[p.1]?
def jsc (f:D → Option D):List D → Option (List D)
  | []=>some []
  | d :: ds=>(f d).bind fun e=>(jsc f ds).bind fun es=>some (e :: es)
def jdH (fi:Dv → Option (List D)) (caps:List (Nat × Str)) (bv:D → Option (List D)) (fe:Dv → Option D):Dv → Option D:=fun δ=>(fi δ).bind fun ds=>if ds.length ≤ sizeLine then (jsc (fun d=>(bv d).bind fun vs=>fe (vs.map .fz ++ capS δ caps)) ds).bind fun es=>some (.list es) else none
def bv1:D → Option (List D):=fun d=>some [d]
theorem jeO {f:D → Option D}:∀ {ds es:List D},jsc f ds = some es → es.length = ds.length
  | [],es,h=>by cases h; rfl
  | d :: ds,es,h=>by
    obtain ⟨e,_,h⟩:=bind_some h
    obtain ⟨es',h2,h⟩:=bind_some h
    cases h
    exact congrArg (· + 1) (jeO h2)
theorem jif {f:D → Option D}:∀ {ds es:List D} {i:Nat} {d:D},jsc f ds = some es → ds[i]? = some d → ∃ e,f d = some e ∧ es[i]? = some e
  | [],es,i,d,h,q=>by simp at q
  | d :: ds,es,i,d',h,q=>by
    obtain ⟨e,h1,h⟩:=bind_some h
    obtain ⟨es',h2,h⟩:=bind_some h
    cases h
    cases i with
    | zero=>simp at q; subst q; exact ⟨e,h1,rfl⟩
    | succ i=>simp at q; obtain ⟨e',g1,g2⟩:=jif (i:=i) h2 q; exact ⟨e',g1,by simpa using g2⟩
def jqs (K:Fg) (g:TG) (n:Nat) (bv:D → Option (List D)):Prop:=∀ (x:V) (Z:Hp) (d:D) (vs:List D) (σc:St) (H:Hp) (R:St → Hp → Prop),Rep K Z x d → Same Z H → bv d = some vs → (∀ us,Reps K Z us vs → us.length = n → R (us.map some ++ σc) H) → g x (List.replicate n none ++ σc) H R
theorem jcU {K:Fg}:jqs K (jrA 0) 1 bv1:=fun x Z d vs σc H R r zh e k=>by
  cases e
  exact k [x] (.cons r .nil) rfl
section
variable {X:Cx} {scope:Scope} {vars:List Str} {caps:List (Nat × Str)} {elt tg iter:Expr} {pos:Pos} {g:TG} {fi:Dv → Option (List D)} {fe:Dv → Option D} {bv:D → Option (List D)}
theorem jpp {σ:St} {δ:Dv} {K:Fg} {H₀ Z₀ Z H:Hp} (hh:Hold K H₀ Z₀ Z δ σ H):∀ (j:Nat) d,(capS δ caps)[j]? = some (.fz d) → ∃ v,(jha σ caps)[j]? = some (some v) ∧ Rep K Z v d:=fun j d e=>by
  unfold capS at e
  unfold jha
  rw [List.getElem?_map] at e ⊢
  cases q:caps[j]? with
  | none=>rw [q] at e; cases e
  | some p=>
    rw [q] at e
    have e:slF δ[p.1]? = .fz d:=Option.some.inj e
    cases z:δ[p.1]? with
    | none=>rw [z] at e; cases e
    | some sl=>
      rw [z] at e
      cases sl with
      | fz d'=>
        cases e
        obtain ⟨v,g1,g2⟩:=hh.fz p.1 _ z
        exact ⟨v,by show some ((σ[p.1]?).getD none) = _; rw [g1]; rfl,g2⟩
      | un=>cases e
      | own _=>cases e
      | fr _=>cases e
theorem jrP {δ:Dv}:∀ (j:Nat) ds,(capS δ caps)[j]? ≠ some (.own ds):=fun j ds e=>by
  unfold capS at e
  rw [List.getElem?_map] at e
  cases q:caps[j]? with
  | none=>rw [q] at e; cases e
  | some p=>
    rw [q] at e
    have e:slF δ[p.1]? = .own ds:=Option.some.inj e
    cases z:δ[p.1]? with
    | none=>rw [z] at e; cases e
    | some sl=>rw [z] at e; cases sl <;> cases e
theorem jrQ {δ:Dv}:∀ (j:Nat) ds,(capS δ caps)[j]? ≠ some (.fr ds):=fun j ds e=>by
  unfold capS at e
  rw [List.getElem?_map] at e
  cases q:caps[j]? with
  | none=>rw [q] at e; cases e
  | some p=>
    rw [q] at e
    have e:slF δ[p.1]? = .fr ds:=Option.some.inj e
    cases z:δ[p.1]? with
    | none=>rw [z] at e; cases e
    | some sl=>rw [z] at e; cases sl <;> cases e
theorem jit {σ:St} {δ:Dv} {K:Fg} {H₀ Z₀ Z H:Hp} (hh:Hold K H₀ Z₀ Z δ σ H) {us:List V} {vs:List D} (r:Reps K Z us vs):Hold K H Z Z (vs.map .fz ++ capS δ caps) (us.map some ++ jha σ caps) H:=by
  have hl:=r.length
  refine ⟨hh.zh,Same.refl _,Same.refl _,fun _ _=>rfl,by simp [capS,jha,hl],fun i d e=>?_,fun i ds e=>?_,fun i j ds es a _ e=>?_,fun i ds e=>?_⟩
  · by_cases hi:i < vs.length
    · rw [List.getElem?_append_left (by simpa using hi),List.getElem?_map] at e
      cases q:vs[i]? with
      | none=>rw [q] at e; cases e
      | some d'=>
        rw [q] at e
        cases e
        obtain ⟨v,g1,g2⟩:=r.get q
        exact ⟨v,by rw [List.getElem?_append_left (by simpa [hl] using hi),List.getElem?_map,g1]; rfl,g2⟩
    · rw [List.getElem?_append_right (by simpa using hi)] at e
      obtain ⟨v,g1,g2⟩:=jpp hh _ d e
      refine ⟨v,?_,g2⟩
      rw [List.getElem?_append_right (by simpa [hl] using hi)]
      simp only [List.length_map] at g1 ⊢
      rw [hl]; exact g1
  all_goals
    exfalso
    by_cases hi:i < vs.length
    · rw [List.getElem?_append_left (by simpa using hi),List.getElem?_map] at e
      cases q:vs[i]? <;> rw [q] at e <;> cases e
    · rw [List.getElem?_append_right (by simpa using hi)] at e
      first | exact jrP _ _ e | exact jrQ _ _ e
theorem jnp (tk:jqs X.K g vars.length bv) {σ:St} {H:Hp} {Q:VK} (h:tV X.K (jdH fi caps bv fe) σ H Q):jog (tVI X.K fi) g (tV X.K fe) vars caps σ H Q:=by
  obtain ⟨H₀,Z₀,Z,δ,d,hh,e,k⟩:=h
  obtain ⟨ds,e1,e⟩:=bind_some e
  by_cases hz:ds.length ≤ sizeLine
  · rw [if_pos hz] at e
    obtain ⟨es,e2,e⟩:=bind_some e
    cases e
    have le:=jeO e2
    have hv:vars.map (fun _=>(none:Option V)) = List.replicate vars.length none:=by rw [List.map_const']
    refine ⟨H₀,Z₀,Z,δ,ds,hh,e1,fun J Z1 H1 hh1 t1 ok=>?_⟩
    refine ⟨fun i m ys H=>m = ds.length - i ∧ i ≤ ds.length ∧ ∃ Zc,Hold X.K H₀ Z₀ Zc δ σ H ∧ Same Z1 Zc ∧ Reps X.K Zc ys (es.take i),⟨ds.length,by simp,Nat.zero_le _,Z1,hh1,Same.refl _,by simpa using .nil⟩,?_⟩
    rintro i m ys H2 ⟨rfl,hi2,Zc,hhc,tc,rc⟩
    have zh:Same Z1 H2:=tc.trans hhc.zh
    have ly:=rc.length
    rw [List.length_take] at ly
    by_cases hlt:i < ds.length
    · refine .inr ⟨ok.go i H2 zh hlt,by omega,fun x H3 y=>?_⟩
      have ed:ds[i]? = some ds[i]:=by simp [hlt]
      obtain ⟨rfl,rx⟩:=ok.yld i H2 x H3 _ zh ed y
      obtain ⟨ei,f1,f2⟩:=jif e2 ed
      obtain ⟨vs,f3,f1⟩:=bind_some f1
      rw [hv]
      refine tk x Zc ds[i] vs (jha σ caps) H3 _ (rx.same tc) hhc.zh f3 fun us ru hn=>⟨⟨by simp [hn],fun j v q=>?_⟩,?_⟩
      · by_cases hj:j < vars.length
        · rw [List.getElem?_append_left (by simpa using hj),List.getElem?_replicate] at q
          split at q <;> cases q
        · rw [List.getElem?_append_right (by simpa using hj)] at q
          rw [List.getElem?_append_right (by simpa [hn] using hj)]
          simpa [hn] using q
      · refine ⟨H3,Zc,Zc,_,ei,jit hhc ru,f1,fun v Z4 H4 h4 t4 r4=>⟨ds.length - (i + 1),by omega,rfl,hlt,Z4,hhc.new ⟨t4,h4.h0,h4.zh,h4.zb⟩,tc.trans t4,?_⟩⟩
        have:es.take (i + 1) = es.take i ++ [ei]:=by
          rw [List.take_add_one,f2]; rfl
        rw [this]
        exact (rc.same t4).append (.cons r4 .nil)
    · have hie:i = ds.length:=by omega
      subst hie
      refine .inl ⟨ok.stop _ H2 zh (Nat.le_refl _),by omega,fun p hp=>?_⟩
      rw [← le,List.take_length] at rc
      have n:=New.add hhc.zh hp (.lst ys)
      exact k _ _ _ (hhc.new n) ((t1.trans tc).trans n.z) (.lst (SqL.of jaF) (rc.same n.z))
  · rw [if_neg hz] at e; cases e
theorem jdk (B:BlkOk X.env.scope.names X.N scope vars caps) (hc:X.calm = true) (hi:IV X tg iter fi) (tk:jqs X.K g vars.length bv)
    (hg:∀ C s₀ H₀ ex,PG (blk X scope (vars ++ caps.map (·.2)) C s₀ H₀ ex) tg g) (he:∀ C s₀ H₀ ex,EV (blk X scope (vars ++ caps.map (·.2)) C s₀ H₀ ex) elt fe) (hs:∀ x,foldedSetIterable iter X.env x = pure x:=by intro _; rfl) :
    EV X (.ListComp elt [⟨tg,iter,[],0⟩] scope pos) (jdH fi caps bv fe):=
  PE.imp (jqZ (te:=tV X.K fe) B hc hi hg he hs) fun _ _ _ h=>jnp tk h
end
end VL
set_option Elab.async false
set_option linter.all false
set_option maxRecDepth 100000
set_option maxHeartbeats 4000000
namespace VL
open PySem PySem.Spec PyProof.Rows L2
section
variable {X:Cx} {e:Expr} {es:List Expr} {p pos:Pos} {fs:Dv → Option (List D)}
theorem jah {k:Nat} {x:Str} {g:List D → Option D} (C:Cal X.prog X.w X.K X.mg X.base x k g []) (hr:Room k X.A) (hg:Gl X x) (ha:AV X (e :: es) fs) (hdb:(x == ("__debug__":Str)) = false:=by decide) (he:starEach (e :: es) X.env = (false,eval e X.env) :: starEach es X.env:=by rfl)
    (hpl:(backTo pos (starEach es X.env)).any (·.1) = false:=by rfl):EV X (.Call (.Name x p) (e :: es) [] pos) (os fs g):=by
  have h:=jtK C hr hg ha hdb he hpl (p:=p) (pos:=pos)
  have e:(fun as=>g (as ++ [])) = g:=by funext as; rw [List.append_nil]
  rw [e] at h
  exact h
end
structure TopV (K:Fg) (mg:Str → Option Value) (x:Str) (d:D):Prop where
  ex:∃ v u,mg x = some u ∧ RelV v u ∧ ∀ Z,Rep K Z v d
theorem TopV.tup {K:Fg} {mg:Str → Option Value} {x:Str} {a:Addr} {td:Option Addr} {its:Array Value} {tn:Nat} {ts:Array (Option Value)} {xs:List V} {ds:List D} (hm:mg x = some (.ref a)) (hk:K.lookup a = some ⟨.type "tuple",td,.seq its tn,ts⟩)
    (hz:its.size ≤ sizeLine) (hv:Vals xs its.toList) (hr:∀ Z,Reps K Z xs ds):TopV K mg x (.tuple ds):=⟨.ref a,.ref a,hm,rfl,fun Z=>.tup (.inr ⟨_,its,tn,hk,rfl,rfl,hz,hv⟩) (hr Z)⟩
theorem TopV.int {K:Fg} {mg:Str → Option Value} {x:Str} {i:Int} {t:Tok} (hm:mg x = some (.int i t)):TopV K mg x (.int i):=⟨.int i,.int i t,hm,⟨t,rfl⟩,fun _=>.int i⟩
theorem jnm {X:Cx} {x:Str} {pos:Pos} {d:D} (T:TopV X.K X.mg x d) (hg:Gl X x) (hd:(x == ("__debug__":Str)) = false:=by decide):EV X (.Name x pos) (oC d):=by
  obtain ⟨v,u,hm,r,h⟩:=T.ex
  exact jtL (jmA hg hm r hd) h
def slO:Option Sl → Option (List D)
  | some (.own (.l ds))=>some ds
  | _=>none
@[simp] theorem jv4 (ds:List D):slO (some (.ow ds)) = some ds:=rfl
theorem jmo {o:Option Sl} {ds:List D} (h:slO o = some ds):o = some (.ow ds):=by
  cases o with
  | none=>cases h
  | some x=>
    cases x with
    | own c=>
      cases c with
      | l es=>cases h; rfl
      | d es=>cases h
    | un=>cases h
    | fz d=>cases h
    | fr _=>cases h
@[simp] def jt9 (i:Nat) (fs:Dv → Option (List D)):Sf:=fun δ=>(fs δ).bind fun ds=>if ds.length ≤ sizeLine then some (.nx,δ.set i (.ow ds)) else none
@[simp] def jx3 (i:Nat) (f:Dv → Option D):Dv → Option D:=fun δ=>(slO δ[i]?).bind fun ds=>(f δ).bind fun k=>ixD (.list ds) k
@[simp] def jxe (i:Nat):Dv → Option D:=fun δ=>(slO δ[i]?).bind fun ds=>some (.int ds.length)
def ju6 (ds:List D) (k v:D):Option (List D):=match k with
  | .int j=>(ixN ds.length j).map fun n=>ds.set n v
  | _=>none
@[simp] theorem jh2 (ds:List D) (j:Int) (v:D):ju6 ds (.int j) v = (ixN ds.length j).map fun n=>ds.set n v:=rfl
@[simp] def jv7 (i:Nat) (fk fv:Dv → Option D):Sf:=fun δ=>(fv δ).bind fun v=>(fk δ).bind fun k=>(slO δ[i]?).bind fun ds=>(ju6 ds k v).bind fun ds'=>some (.nx,δ.set i (.ow ds'))
@[simp] def jr7 (i:Nat) (f:Dv → Option D):Sf:=fun δ=>(f δ).bind fun v=>(slO δ[i]?).bind fun ds=>if ds.length < sizeLine then some (.nx,δ.set i (.ow (ds ++ [v]))) else none
section
variable {X:Cx} {e b:Expr} {es:List Expr} {p pos tpos apos:Pos} {fs:Dv → Option (List D)} {f fk fv:Dv → Option D}
theorem jmh (i:Nat) {x:Str} {pos':Pos} (hN:X.N.Nodup) (ha:AV X es fs) (hi:X.N[i]? = some x:=by rfl) (hx:Loc X.env.scope x:=by first | exact Or.inl rfl | exact Or.inr rfl) (hs:swapsWith (.List es p) (some (.Name x pos')) pos.line X.env = pure false:=by rfl)
    (hf:X.fn x = true ∨ X.env.scope.names.lookup x = some .local:=by first | exact .inl rfl | exact .inr rfl | assumption):SV X (.Assign [.Name x pos'] (.List es p) pos) (jt9 i fs):=
  PS.imp (jmw hN hi hx (jpO ha) hs hf) fun D σ H h=>by
    obtain ⟨H₀,Z₀,Z,δ,r,hh,e,k⟩:=h
    obtain ⟨ds,e1,e⟩:=bind_some e
    by_cases hl:ds.length ≤ sizeLine
    · rw [if_pos hl] at e
      cases e
      exact ⟨H₀,Z₀,Z,δ,ds,hh,e1,fun vs Z1 H1 hh1 t1 r1=>⟨by rw [r1.length]; exact hl,fun p hp=>k _ _ Z1 (hh1.setO hp r1) t1⟩⟩
    · rw [if_neg hl] at e; cases e
theorem joE {K:Fg} {H₀ Z₀ Z:Hp} {δ:Dv} {σ:St} {H:Hp} (hh:Hold K H₀ Z₀ Z δ σ H) {i:Nat} {ds:List D} (h:slO δ[i]? = some ds):∃ a xs,σ[i]? = some (some (V.ref a)) ∧ H a = some (.lst xs) ∧ Reps K Z xs ds:=by
  obtain ⟨a,xs,h1,_,_,h4,h5⟩:=hh.ow i ds (jmo h)
  exact ⟨a,xs,h1,h4,h5⟩
theorem jsE (i:Nat) {x:Str} (hb:EV X b fk) (hv':EV X e fv) (hN:X.N[i]? = some x:=by rfl) (hv:Vis X.env.scope x:=by first | exact Or.inl rfl | exact Or.inr (Or.inl rfl) | exact Or.inr (Or.inr rfl)) (hd:(x == ("__debug__":Str)) = false:=by decide) (hcd:(x == ("__classdict__":Str)) = false:=by decide)
    (hs:swapsWithSole [.Subscript (.Name x p) b tpos] e pos.line X.env = pure false:=by rfl) (hw:swappedStores [.Subscript (.Name x p) b tpos] e X.env = pure none:=by rfl)
    (ha:∀ v,assign (.Subscript (.Name x p) b tpos) X.env v = (do
      let ov ← holding [v] (eval (.Name x p) X.env)
      let iv ← holding [v,ov] (eval b X.env)
      standAt tpos
      holding [v,ov,iv] (setItem ov iv v)
      release [v,ov,iv] []):=by intro _; rfl):SV X (.Assign [.Subscript (.Name x p) b tpos] e pos) (jv7 i fk fv):=
  PS.imp (jsU hv' (jsX (jmz hN hv hd hcd) hb jor ha) hs hw) fun D σ H h=>by
    obtain ⟨H₀,Z₀,Z,δ,r,hh,e,k⟩:=h
    obtain ⟨v,e1,e⟩:=bind_some e
    obtain ⟨y,e2,e⟩:=bind_some e
    obtain ⟨ds,e3,e⟩:=bind_some e
    obtain ⟨ds',e4,e⟩:=bind_some e
    cases e
    refine ⟨H₀,Z₀,Z,δ,v,hh,e1,fun w Z1 H1 hh1 t1 r1=>?_⟩
    obtain ⟨a,xs,h1,h4,h5⟩:=joE hh1 e3
    refine ⟨_,h1,H₀,Z₀,Z1,δ,y,hh1,e2,fun u Z2 H2 hh2 t2 r2=>?_⟩
    obtain ⟨a',xs',g1,g4,g5⟩:=joE hh2 e3
    rw [h1] at g1
    cases g1
    cases r2 with
    | int j=>
      rw [jh2] at e4
      cases q:ixN ds.length j with
      | none=>rw [q] at e4; cases e4
      | some n=>
        rw [q] at e4
        cases e4
        refine ⟨a,xs',j,n,rfl,rfl,g4,by rw [g5.length]; exact q,?_⟩
        exact k σ _ Z2 (hh2.chg (xs:=xs') (jmo e3) h1 (g5.set (r1.same t2) n)) (t1.trans t2)
    | _=>cases e4
theorem jiT (i:Nat) {x:Str} {cpos:Pos} (hv':EV X e f) (hN:X.N[i]? = some x:=by rfl) (hv:Vis X.env.scope x:=by first | exact Or.inl rfl | exact Or.inr (Or.inl rfl) | exact Or.inr (Or.inr rfl)) (hd:(x == ("__debug__":Str)) = false:=by decide) (hcd:(x == ("__classdict__":Str)) = false:=by decide)
    (hbase:attributeBase (.Name x p) "append" X.env (eval (.Name x p) X.env) = eval (.Name x p) X.env:=by rfl)
    (hfew:((backTo cpos (starEach [e] X.env)).all (fun x=>!x.1) && (backToKw cpos (keywordEach [] X.env)).all (fun x=>x.1.isSome)
      && decide ([e].length + ([]:List Keyword).length + (if ([]:List Keyword).isEmpty then 0 else 1) < 30)) = true:=by rfl)
    (hline:(apos.endLine == cpos.line) = true:=by rfl) (hs:starEach [e] X.env = (false,eval e X.env) :: starEach [] X.env:=by rfl) (hplain:(backTo cpos (starEach [] X.env)).any (·.1) = false:=by rfl)
    (hsw:swapsWith (.Call (.Attribute (.Name x p) "append" apos) [e] [] cpos) none pos.line X.env = pure false:=by rfl):SV X (.Expr (.Call (.Attribute (.Name x p) "append" apos) [e] [] cpos) pos) (jr7 i f):=
  PS.imp (jjW (jva PySem.F.plainAttrs_list PySem.F.slot_list_append PySem.F.type_list_append jmZ (jmz hN hv hd hcd) (jdF hv' jhw hs) hbase hfew hline hs hplain) hsw) fun D σ H h=>by
    obtain ⟨H₀,Z₀,Z,δ,r,hh,e,k⟩:=h
    obtain ⟨v,e1,e⟩:=bind_some e
    obtain ⟨ds,e2,e⟩:=bind_some e
    by_cases hl:ds.length < sizeLine
    · rw [if_pos hl] at e
      cases e
      obtain ⟨a,xs,h1,h4,h5⟩:=joE hh e2
      refine ⟨_,h1,.inl ⟨rfl,xs,SqL.of h4⟩,H₀,Z₀,Z,δ,v,hh,e1,fun w Z1 H1 hh1 t1 r1=>?_⟩
      obtain ⟨a',xs',g1,g4,g5⟩:=joE hh1 e2
      rw [h1] at g1
      cases g1
      exact ⟨a,xs',w,rfl,rfl,g4,by rw [g5.length]; exact hl,k σ _ Z1 (hh1.chg (xs:=xs') (jmo e2) h1 (g5.append (.cons r1 .nil))) t1⟩
    · rw [if_neg hl] at e; cases e
end
end VL
set_option Elab.async false
set_option linter.all false
set_option maxRecDepth 100000
set_option maxHeartbeats 4000000
namespace VL
open PySem PySem.Spec PyProof.Rows L2
section
def jmf (wi:TI) (g:TG) (tt:TT) (te:TE) (vars:List Str) (caps:List (Nat × Str)):TE:=fun σ H Q=>wi σ H fun J H1=>∃ W:Nat → Nat → List V → Hp → Prop,(∃ m,W 0 m [] H1) ∧ ∀ i m ys H,W i m ys H →
  (J.stop i H ∧ ys.length ≤ sizeLine ∧ ∀ p,H p = none → Q (.ref p) (upd H p (.lst ys))) ∨
  (J.go i H ∧ ys.length < sizeLine ∧ ∀ x H',J.yld i H x H' → g x (vars.map (fun _=>none) ++ jha σ caps) H' fun σ2 H2=>jpC (vars.map (fun _=>none) ++ jha σ caps) σ2 ∧ tt σ2 H2 fun b H3=>if b = true then te σ2 H3 fun y H4=>∃ m',m' < m ∧ W (i + 1) m' (ys ++ [y]) H4 else ∃ m',m' < m ∧ W (i + 1) m' ys H3)
theorem jf2 {prog:Program} {w:World} {A:Around} {R:Result → Shared → Prop} {s:Shared} {elt target iter cnd:Expr} {scope:Scope} {pos:Pos} {it acc:Value} {env:Env} (I:Nat → Shared → Prop)
    (turn:∀ n s,I n s → wpAny (model prog w) A (pyNext it) (fun r s₁=>match r with
      | none=>R (.ok .next) s₁
      | some v=>wpAny (model prog w) A (letOwnedTupleGo target it v) (fun _ s₁=>wpAny (model prog w) A (assign target env v) (fun _ s₂=>wpAny (model prog w) A (isTrue cnd env (eval cnd env)) (fun ok s₂=>if ok = true then wpAny (model prog w) A (eval elt env) (fun x s₃=>
          wpAny (model prog w) A (call (.builtin "list.append") [acc,x]) (fun _ s₄=>∃ m,m < n ∧ I m s₄) (fun _ _=>False) s₃) (fun _ _=>False) s₂ else ∃ m,m < n ∧ I m s₂) (fun _ _=>False) s₂) (fun _ _=>False) s₁) (fun _ _=>False) s₁) (fun _ _=>False) s)
    (n:Nat) (h:I n s):codeAny (model prog w) A (.compLoop (.ListComp elt [⟨target,iter,[cnd],0⟩] scope pos) 0 it acc env) R s:=by
  refine codeAny_loop rfl I (fun n s hI=>?_) n h
  show wpAny _ _ ((compTurn (.ListComp elt [⟨target,iter,[cnd],0⟩] scope pos) 0 it acc env).onRaise (fun x=>do noteFrame x env; theTreesLotGoes x)) _ _ s
  refine wpAny_noted ?_
  rw [compTurn_list]
  refine wpAny_bind (wpAny_standAt (wpAny_bind (wpAny_mono (turn n s hI) (fun r s₁ h₁=>?_) fun _ _ h'=>h'.elim)))
  cases r with
  | none=>exact wpAny_pure h₁
  | some v=>
    refine wpAny_bind (wpAny_mono h₁ (fun _ s₁ h₁=>?_) fun _ _ h'=>h'.elim)
    refine wpAny_bind (wpAny_mono h₁ (fun _ s₂ h₂=>?_) fun _ _ h'=>h'.elim)
    refine wpAny_bind (wpAny_tests_one (wpAny_mono h₂ (fun okb s₃ h₃=>?_) fun _ _ h'=>h'.elim))
    cases okb with
    | false=>exact wpAny_pure ⟨rfl,h₃⟩
    | true=>exact wpAny_bind (wpAny_bind (wpAny_mono h₃ (fun x s₄ h₄=>wpAny_bind (wpAny_mono h₄ (fun _ s₅ h₅=>wpAny_pure (wpAny_pure ⟨rfl,h₅⟩)) fun _ _ h'=>h'.elim)) fun _ _ h'=>h'.elim))
end
section
variable {X:Cx} {scope:Scope} {vars:List Str} {caps:List (Nat × Str)} {elt tg iter cnd:Expr} {pos:Pos} {wi:TI} {g:TG} {tt:TT} {te:TE}
theorem jgM {Cm:Cx → Prop} (B:BlkOk X.env.scope.names X.N scope vars caps)
    (hg:∀ C s₀ H₀ ex,PG (blk X scope (vars ++ caps.map (·.2)) C s₀ H₀ ex) tg g) (hb:∀ C s₀ H₀ ex,PT (blk X scope (vars ++ caps.map (·.2)) C s₀ H₀ ex) cnd tt) (he:∀ C s₀ H₀ ex,PE (blk X scope (vars ++ caps.map (·.2)) C s₀ H₀ ex) elt te)
    {pins:List (Addr × Obj)} {σ:St} {H2:Hp} {s2:Shared} {Q:VK} {it:Addr} {fp:List Addr} {tn:Nat → Heap → Prop} {J:It} (I2:Inv X pins σ H2 s2) (T:TurnG Cm X.prog X.w X.K tg J fp it tn) (st2:tn 0 s2.heap) (f2:∀ b ∈ fp,jjM X pins H2 b) (hc:∀ C,Cm (blk X scope (vars ++ caps.map (·.2)) C s2 H2 fp))
    {W:Nat → Nat → List V → Hp → Prop} {m0:Nat} (w0:W 0 m0 [] H2) (turn:∀ i m ys H,W i m ys H →
      (J.stop i H ∧ ys.length ≤ sizeLine ∧ ∀ p,H p = none → Q (.ref p) (upd H p (.lst ys))) ∨
      (J.go i H ∧ ys.length < sizeLine ∧ ∀ x H',J.yld i H x H' → g x (vars.map (fun _=>none) ++ jha σ caps) H' fun σ2 H2=>jpC (vars.map (fun _=>none) ++ jha σ caps) σ2 ∧ tt σ2 H2 fun b H3=>if b = true then te σ2 H3 fun y H4=>∃ m',m' < m ∧ W (i + 1) m' (ys ++ [y]) H4 else ∃ m',m' < m ∧ W (i + 1) m' ys H3))
    {RR:Value → Addr → Result → Shared → Prop} {E:Value → Shared → Prop}
    (hRR:∀ D C s' m,s'.heap.Ns C m → D ≠ C → s2.heap.objs.size ≤ D → s2.heap.objs.size ≤ C → ∀ H',H' C = none → (∀ h',Heap.SameBut C s'.heap h' → Inv X pins σ H' { s' with heap:=h' }) → Q (.ref D) H' → RR (.ref D) C (.ok .next) s') :
    wpAny (model X.prog X.w) X.A (newList []) (fun acc s₃=>wpAny (model X.prog X.w) X.A (newFunctionEnv scope X.env.globals (jkl X.env scope.names []) [] X.env.qual none .none (some X.env)) (fun cenv s₄=>
      codeAny (model X.prog X.w) X.A (.compStart (.ListComp elt [⟨tg,iter,[cnd],0⟩] scope pos) 0 (.ref it) acc { cenv with scope:=relabel scope X.env }) (RR acc cenv.locals) s₄) E s₃) E s2:=by
  refine wpAny_newObj_type (wpAny_newFunctionEnv B.cell (by intro y hy; simp at hy) (fun h₁ hns₁ hsb₁=>?_) B.kind)
  dsimp only at hns₁ hsb₁ ⊢
  generalize hP:s2.heap.push { cls:=.type "list",dict:=none,data:=.seq ([]:List Value).toArray } = HP at hns₁ hsb₁ ⊢
  have hCs:HP.objs.size = s2.heap.objs.size + 1:=by rw [← hP,Heap.size_push]
  have hDC:s2.heap.objs.size ≠ HP.objs.size:=by rw [hCs]; exact Nat.ne_of_lt (Nat.lt_succ_self _)
  have hCle:s2.heap.objs.size ≤ HP.objs.size:=by rw [hCs]; exact Nat.le_succ _
  have old:∀ b o,s2.heap.get? b = some o → h₁.get? b = some o:=fun b o e=>hsb₁.extBut b o (Nat.ne_of_lt (Nat.lt_of_lt_of_le (Heap.lt_size e) hCle)) (Heap.get?_push_of_some _ (hP ▸ Heap.get?_push_of_some _ e))
  have hacc:h₁.PlainList s2.heap.objs.size #[]:=⟨_,hsb₁.extBut _ _ hDC (Heap.get?_push_of_some _ (hP ▸ Heap.get?_push_size _ rfl))⟩
  have flt:∀ b ∈ fp,b < s2.heap.objs.size:=fun b hb=>by
    obtain ⟨o,e,_⟩:=T.obj _ _ st2 b hb
    exact Heap.lt_size e
  have st1:tn 0 h₁:=T.keep _ _ _ st2 fun b _ o e=>old b o e
  have loop:∀ s3:Shared,s3 = { s2 with heap:=h₁,toks:=s2.toks + ([]:List (Str × Value)).length } →
      codeAny (model X.prog X.w) X.A (.compLoop (.ListComp elt [⟨tg,iter,[cnd],0⟩] scope pos) 0 (.ref it) (.ref s2.heap.objs.size) (compEnvC scope (jkl X.env scope.names []) HP.objs.size X.env))
        (RR (.ref s2.heap.objs.size) HP.objs.size) s3:=by
    rintro s3 rfl
    have X':=blk X scope (vars ++ caps.map (·.2)) HP.objs.size s2 H2 fp
    have fpo:∀ {H':Hp},(∀ b ∈ fp,H' b = none) → ∀ b ∈ fp,jjM (blk X scope (vars ++ caps.map (·.2)) HP.objs.size s2 H2 fp) [] H' b:=fun hn b hb=>by
      have ok:=jnC B I2 f2 flt hCle
      exact ⟨hn b hb,(ok.exf b hb).1,ok.exfs b hb,.inl hb,(ok.exf b hb).2,fun p hp=>absurd (show p ∈ ([]:List (Addr × Obj)) from hp) (by simp)⟩
    refine jf2 (fun n s=>∃ i ys H its,Inv (blk X scope (vars ++ caps.map (·.2)) HP.objs.size s2 H2 fp) [] (vars.map (fun _=>none) ++ jha σ caps) H s ∧ tn i s.heap ∧ (∀ b ∈ fp,H b = none) ∧ s.heap.PlainList s2.heap.objs.size (List.toArray its) ∧ H s2.heap.objs.size = none ∧ Vals ys its ∧ W i n ys H) ?_ m0
      ⟨0,[],H2,[],jnD B I2 f2 flt hCle hns₁ old,st1,fun b hb=>(f2 b hb).1,hacc,I2.hok.fresh (Nat.le_refl _),.nil,w0⟩
    rintro n s4 ⟨i,ys,H4,its,I4,st4,fr4,pl4,nD4,v4,w4⟩
    obtain ⟨nn,eD⟩:=id pl4
    have DnL:s2.heap.objs.size ≠ (blk X scope (vars ++ caps.map (·.2)) HP.objs.size s2 H2 fp).env.locals:=hDC
    have Dfs:s2.heap.objs.size ∉ (blk X scope (vars ++ caps.map (·.2)) HP.objs.size s2 H2 fp).fs:=fun z=>by
      rcases List.mem_cons.mp (I2.stkSub _ z) with q | q
      · have:=I2.lt; rw [← q] at this; exact Nat.lt_irrefl _ this
      · exact I2.nofs (Nat.le_refl _) q
    have Dfp:∀ b ∈ fp,s2.heap.objs.size ≠ b:=fun b hb z=>by have:=flt b hb; rw [← z] at this; exact Nat.lt_irrefl _ this
    have DnC:∀ x c,(blk X scope (vars ++ caps.map (·.2)) HP.objs.size s2 H2 fp).env.cells.lookup x = some c → c ≠ s2.heap.objs.size:=fun x c e z=>by
      rcases jbj _ _ _ _ (B.cells I2) e with q | q
      · cases q
      · obtain ⟨v,o,ho,_⟩:=I2.cell x c q
        have:=Heap.lt_size ho
        rw [z] at this
        exact Nat.lt_irrefl _ this
    have pinD:∀ {σ':St} {H':Hp} {s':Shared},Inv (blk X scope (vars ++ caps.map (·.2)) HP.objs.size s2 H2 fp) [(s2.heap.objs.size,{ cls:=.type "list",data:=.seq its.toArray nn })] σ' H' s' → s'.heap.PlainList s2.heap.objs.size its.toArray ∧ H' s2.heap.objs.size = none:=fun {σ' H' s'} I'=>by
      obtain ⟨q1,q2,_⟩:=I'.pin (s2.heap.objs.size,{ cls:=.type "list",data:=.seq its.toArray nn }) (by simp [blk])
      exact ⟨⟨nn,q1⟩,q2⟩
    have I4p:Inv (blk X scope (vars ++ caps.map (·.2)) HP.objs.size s2 H2 fp) [(s2.heap.objs.size,{ cls:=.type "list",data:=.seq its.toArray nn })] (vars.map (fun _=>none) ++ jha σ caps) H4 s4:=
      I4.pins_of fun p hp=>by
        have e:p = (s2.heap.objs.size,{ cls:=.type "list",data:=.seq its.toArray nn }):=by simpa [blk] using hp
        subst e
        exact ⟨eD,nD4,DnL,Dfs,fun v z=>by cases z⟩
    have fpo':∀ {H':Hp},(∀ b ∈ fp,H' b = none) → ∀ b ∈ fp,jjM (blk X scope (vars ++ caps.map (·.2)) HP.objs.size s2 H2 fp) [(s2.heap.objs.size,{ cls:=.type "list",data:=.seq its.toArray nn })] H' b:=fun hn b hb=>by
      obtain ⟨q1,q2,q3,q4,q5,_⟩:=fpo hn b hb
      exact ⟨q1,q2,q3,q4,q5,fun p hp=>by
        have e:p = (s2.heap.objs.size,{ cls:=.type "list",data:=.seq its.toArray nn }):=by simpa [blk] using hp
        subst e
        exact Dfp b hb⟩
    have unp:∀ {pl:List (Addr × Obj)} {σ':St} {H':Hp} {s':Shared},Inv (blk X scope (vars ++ caps.map (·.2)) HP.objs.size s2 H2 fp) pl σ' H' s' → Inv (blk X scope (vars ++ caps.map (·.2)) HP.objs.size s2 H2 fp) [] σ' H' s':=fun {pl σ' H' s'} I'=>
      I'.pins_of fun p hp=>absurd (show p ∈ ([]:List (Addr × Obj)) from hp) (by simp)
    rcases turn i n ys H4 w4 with ⟨stop,hz,qn⟩ | ⟨go,hz,step⟩
    · refine thn (T.done (blk X scope (vars ++ caps.map (·.2)) HP.objs.size s2 H2 fp) rfl rfl rfl (hc _) i _ s4 _ H4 _ I4p (fpo' fr4) st4 stop) fun r s5 ⟨hr,I5⟩=>?_
      subst hr
      obtain ⟨p5,n5⟩:=pinD I5
      obtain ⟨m5,ns5,_⟩:=I5.loc
      refine hRR _ _ s5 m5 ns5 hDC (Nat.le_refl _) hCle _ ?_ (fun h' hs'=>jnB I2 f2 hCle (Nat.le_refl _) hDC (unp I5) n5 p5 v4 hz hs') (qn _ n5)
      rw [jaA hDC.symm]
      exact I5.free
    · refine thn (T.item (blk X scope (vars ++ caps.map (·.2)) HP.objs.size s2 H2 fp) rfl rfl rfl (hc _) i _ s4 _ H4 _ I4p (fpo' fr4) st4 go) fun r s5 ⟨u,hr,h5⟩=>?_
      subst hr
      refine thn h5 fun _ s6 ⟨x,H6,I6,rx,yx,st6,fr6⟩=>?_
      have I6p:=I6.pinned (fpo' fr6) (T.obj _ _ st6)
      refine thn (hg _ _ _ _ _ s6 _ H6 x u _ I6p rx (step x H6 yx)) fun _ s7 ⟨σ7,H7,I7,kp,q7⟩=>?_
      refine thn (hb _ _ _ _ _ s7 σ7 H7 _ I7 q7) fun okb s7' q7'=>?_
      obtain ⟨H7',I7',q7'⟩:=q7'
      cases okb with
      | false=>
        obtain ⟨m',hm,w8⟩:=q7'
        rw [if_neg (by decide)]
        obtain ⟨p8,n8⟩:=pinD I7'.unpinned
        have st8:tn (i + 1) s7'.heap:=T.keep _ _ _ st6 fun b hb o e=>(I7'.pin (b,o) (List.mem_append_right _ (List.mem_append_right _ (jbY hb e)))).1
        have fr8:∀ b ∈ fp,H7' b = none:=fun b hb=>by
          obtain ⟨o,e,d⟩:=T.obj _ _ st6 b hb
          exact (I7'.pin (b,o) (List.mem_append_right _ (List.mem_append_right _ (jbY hb e)))).2.1
        exact ⟨m',hm,i + 1,ys,H7',its,(unp I7').weak kp.1 kp.2,st8,fr8,p8,n8,v4,w8⟩
      | true=>
      rw [if_pos rfl]
      rw [if_pos rfl] at q7'
      refine thn (he _ _ _ _ _ s7' σ7 H7' _ I7' q7') fun v s8 ⟨y,H8,I8,ry,m',hm,w8⟩=>?_
      obtain ⟨p8,n8⟩:=pinD I8.unpinned
      have st8:tn (i + 1) s8.heap:=T.keep _ _ _ st6 fun b hb o e=>(I8.pin (b,o) (List.mem_append_right _ (List.mem_append_right _ (jbY hb e)))).1
      have fr8:∀ b ∈ fp,H8 b = none:=fun b hb=>by
        obtain ⟨o,e,d⟩:=T.obj _ _ st6 b hb
        exact (I8.pin (b,o) (List.mem_append_right _ (List.mem_append_right _ (jbY hb e)))).2.1
      have hl:=v4.length
      refine wpAny_list_append_plain p8 (fun h9 p9 sb9=>⟨m',hm,i + 1,ys ++ [y],H8,its ++ [v],?_,?_,fr8,by simpa using p9,n8,v4.append (.cons ry .nil),w8⟩) (by simp; omega)
      · have I9:Inv (blk X scope (vars ++ caps.map (·.2)) HP.objs.size s2 H2 fp) [] σ7 H8 { s8 with heap:=h9,toks:=s8.toks }:=
          (unp I8).turned (it:=s2.heap.objs.size) (fun b o hb e=>sb9.extBut b o hb e) n8 DnL (.inr (Nat.le_refl _)) DnC fun p hp=>absurd (show p ∈ ([]:List (Addr × Obj)) from hp) (by simp)
        exact I9.weak kp.1 kp.2
      · exact T.keep _ _ _ st8 fun b hb o e=>sb9.extBut b o (Dfp b hb).symm e
  exact codeAny_compStart_list (loop _ rfl) (T.self _ 0 _ _ _ st1 (loop _ rfl))
theorem joC (B:BlkOk X.env.scope.names X.N scope vars caps) (hc:X.calm = true) (hi:PI X tg iter wi)
    (hg:∀ C s₀ H₀ ex,PG (blk X scope (vars ++ caps.map (·.2)) C s₀ H₀ ex) tg g) (hb:∀ C s₀ H₀ ex,PT (blk X scope (vars ++ caps.map (·.2)) C s₀ H₀ ex) cnd tt) (he:∀ C s₀ H₀ ex,PE (blk X scope (vars ++ caps.map (·.2)) C s₀ H₀ ex) elt te) (hs:∀ x,foldedSetIterable iter X.env x = pure x:=by intro _; rfl) :
    PE X (.ListComp elt [⟨tg,iter,[cnd],0⟩] scope pos) (jmf wi g tt te vars caps):=by
  intro pins s σ H Q I h
  rw [eval_ListComp]
  refine wpAny_comprehension_free (use:=none) rfl hs (jcP (B.cells I)) B.kind B.names ?_
  show wpAny _ _ (eval iter X.env) _ _ s
  refine thn (hi pins s σ H _ I h) fun v s1 h1=>thn h1 fun itv s2 h2=>?_
  obtain ⟨it,fp,tn,J,H2,e,I2,T,st2,f2,W,⟨m0,w0⟩,turn⟩:=h2
  subst e
  exact jgM (Cm:=fun X=>X.calm = true) B hg hb he I2 T st2 f2 (fun _=>hc) w0 turn (RR:=fun acc C=>compPost (model X.prog X.w) X.A X.xe none (EP X pins σ Q) acc C) fun D C s' m ns _ _ _ H' _ k q=>⟨m,ns,fun h' hs'=>⟨.ref D,H',k h' hs',rfl,q⟩⟩
end
def jil (t:D → Option Bool) (f:D → Option D):List D → Option (List D)
  | []=>some []
  | d :: ds=>(t d).bind fun b=>if b = true then (f d).bind fun e=>(jil t f ds).bind fun es=>some (e :: es) else jil t f ds
@[simp] theorem juv {t:D → Option Bool} {f:D → Option D}:jil t f [] = some []:=rfl
def jfb (fi:Dv → Option (List D)) (caps:List (Nat × Str)) (bv:D → Option (List D)) (ft:Dv → Option Bool) (fe:Dv → Option D):Dv → Option D:=fun δ=>(fi δ).bind fun ds=>if ds.length ≤ sizeLine then (jil (fun d=>(bv d).bind fun vs=>ft (vs.map .fz ++ capS δ caps)) (fun d=>(bv d).bind fun vs=>fe (vs.map .fz ++ capS δ caps)) ds).bind fun es=>some (.list es) else none
theorem jgI {t:D → Option Bool} {f:D → Option D}:∀ {ds es:List D} {i:Nat} {d:D},jil t f ds = some es → ds[i]? = some d → ∃ xs,jil t f (ds.take i) = some xs ∧ ∃ b,t d = some b ∧ (b = false → jil t f (ds.take (i + 1)) = some xs) ∧ (b = true → ∃ e,f d = some e ∧ jil t f (ds.take (i + 1)) = some (xs ++ [e]))
  | [],es,i,d,h,q=>by simp at q
  | d :: ds,es,i,d',h,q=>by
    obtain ⟨b,h1,h⟩:=bind_some h
    cases i with
    | zero=>
      simp at q; subst q
      refine ⟨[],rfl,b,h1,fun hb=>?_,fun hb=>?_⟩
      · subst hb; simp [jil,h1]
      · subst hb
        rw [if_pos rfl] at h
        obtain ⟨e,h2,h⟩:=bind_some h
        exact ⟨e,h2,by simp [jil,h1,h2]⟩
    | succ i=>
      simp at q
      cases b with
      | false=>
        rw [if_neg (by decide)] at h
        obtain ⟨xs,g1,b',g2,g3,g4⟩:=jgI (i:=i) h q
        refine ⟨xs,by simp [jil,h1,g1],b',g2,fun hb=>by simpa [jil,h1] using g3 hb,fun hb=>?_⟩
        obtain ⟨e,k1,k2⟩:=g4 hb
        exact ⟨e,k1,by simpa [jil,h1] using k2⟩
      | true=>
        rw [if_pos rfl] at h
        obtain ⟨e0,h2,h⟩:=bind_some h
        obtain ⟨es',h3,h⟩:=bind_some h
        obtain ⟨xs,g1,b',g2,g3,g4⟩:=jgI (i:=i) h3 q
        refine ⟨e0 :: xs,by simp [jil,h1,h2,g1],b',g2,fun hb=>by simp [jil,h1,h2,g3 hb],fun hb=>?_⟩
        obtain ⟨e,k1,k2⟩:=g4 hb
        exact ⟨e,k1,by simp [jil,h1,h2,k2]⟩
theorem jke {t:D → Option Bool} {f:D → Option D}:∀ {ds es:List D},jil t f ds = some es → es.length ≤ ds.length
  | [],es,h=>by cases h; exact Nat.le_refl _
  | d :: ds,es,h=>by
    obtain ⟨b,h1,h⟩:=bind_some h
    cases b with
    | false=>rw [if_neg (by decide)] at h; exact Nat.le_succ_of_le (jke h)
    | true=>
      rw [if_pos rfl] at h
      obtain ⟨e0,h2,h⟩:=bind_some h
      obtain ⟨es',h3,h⟩:=bind_some h
      cases h
      exact Nat.succ_le_succ (jke h3)
section
variable {X:Cx} {scope:Scope} {vars:List Str} {caps:List (Nat × Str)} {elt tg iter cnd:Expr} {pos:Pos} {g:TG} {fi:Dv → Option (List D)} {ft:Dv → Option Bool} {fe:Dv → Option D} {bv:D → Option (List D)}
theorem jhH (tk:jqs X.K g vars.length bv) {σ:St} {H:Hp} {Q:VK} (h:tV X.K (jfb fi caps bv ft fe) σ H Q):jmf (tVI X.K fi) g (tVT X.K ft) (tV X.K fe) vars caps σ H Q:=by
  obtain ⟨H₀,Z₀,Z,δ,d,hh,e,k⟩:=h
  obtain ⟨ds,e1,e⟩:=bind_some e
  by_cases hz:ds.length ≤ sizeLine
  · rw [if_pos hz] at e
    obtain ⟨es,e2,e⟩:=bind_some e
    cases e
    have hv:vars.map (fun _=>(none:Option V)) = List.replicate vars.length none:=by rw [List.map_const']
    refine ⟨H₀,Z₀,Z,δ,ds,hh,e1,fun J Z1 H1 hh1 t1 ok=>?_⟩
    refine ⟨fun i m ys H=>m = ds.length - i ∧ i ≤ ds.length ∧ ∃ Zc xs,Hold X.K H₀ Z₀ Zc δ σ H ∧ Same Z1 Zc ∧ jil (fun d=>(bv d).bind fun vs=>ft (vs.map .fz ++ capS δ caps)) (fun d=>(bv d).bind fun vs=>fe (vs.map .fz ++ capS δ caps)) (ds.take i) = some xs ∧ Reps X.K Zc ys xs,⟨ds.length,by simp,Nat.zero_le _,Z1,[],hh1,Same.refl _,rfl,.nil⟩,?_⟩
    rintro i m ys H2 ⟨rfl,hi2,Zc,xs,hhc,tc,fx,rc⟩
    have zh:Same Z1 H2:=tc.trans hhc.zh
    have ly:=rc.length
    have lx:=jke fx
    rw [List.length_take] at lx
    by_cases hlt:i < ds.length
    · refine .inr ⟨ok.go i H2 zh hlt,by omega,fun x H3 y=>?_⟩
      have ed:ds[i]? = some ds[i]:=by simp [hlt]
      obtain ⟨rfl,rx⟩:=ok.yld i H2 x H3 _ zh ed y
      obtain ⟨xs',f0,b,fb,ff,ftr⟩:=jgI e2 ed
      rw [fx] at f0
      cases f0
      obtain ⟨vs,f3,f1⟩:=bind_some fb
      rw [hv]
      refine tk x Zc ds[i] vs (jha σ caps) H3 _ (rx.same tc) hhc.zh f3 fun us ru hn=>⟨⟨by simp [hn],fun j v q=>?_⟩,?_⟩
      · by_cases hj:j < vars.length
        · rw [List.getElem?_append_left (by simpa using hj),List.getElem?_replicate] at q
          split at q <;> cases q
        · rw [List.getElem?_append_right (by simpa using hj)] at q
          rw [List.getElem?_append_right (by simpa [hn] using hj)]
          simpa [hn] using q
      · refine ⟨H3,Zc,Zc,_,b,jit hhc ru,f1,fun Z3 H3' h3 t3=>?_⟩
        have hh3:=hhc.new ⟨t3,h3.h0,h3.zh,h3.zb⟩
        cases b with
        | false=>
          dsimp only
          rw [if_neg (by decide)]
          exact ⟨ds.length - (i + 1),by omega,rfl,hlt,Z3,xs,hh3,tc.trans t3,ff rfl,rc.same t3⟩
        | true=>
          dsimp only
          rw [if_pos rfl]
          obtain ⟨ei,f2,f4⟩:=ftr rfl
          rw [f3] at f2
          refine ⟨H3,Zc,Z3,_,ei,h3,f2,fun v Z4 H4 h4 t4 r4=>⟨ds.length - (i + 1),by omega,rfl,hlt,Z4,xs ++ [ei],?_,(tc.trans t3).trans t4,f4,((rc.same t3).same t4).append (.cons r4 .nil)⟩⟩
          exact hhc.new ⟨t3.trans t4,h4.h0,h4.zh,h4.zb⟩
    · have hie:i = ds.length:=by omega
      subst hie
      refine .inl ⟨ok.stop _ H2 zh (Nat.le_refl _),by omega,fun p hp=>?_⟩
      rw [List.take_length,e2] at fx
      cases fx
      have n:=New.add hhc.zh hp (.lst ys)
      exact k _ _ _ (hhc.new n) ((t1.trans tc).trans n.z) (.lst (SqL.of jaF) (rc.same n.z))
  · rw [if_neg hz] at e; cases e
theorem jio (B:BlkOk X.env.scope.names X.N scope vars caps) (hc:X.calm = true) (hi:IV X tg iter fi) (tk:jqs X.K g vars.length bv)
    (hg:∀ C s₀ H₀ ex,PG (blk X scope (vars ++ caps.map (·.2)) C s₀ H₀ ex) tg g) (hb:∀ C s₀ H₀ ex,TV (blk X scope (vars ++ caps.map (·.2)) C s₀ H₀ ex) cnd ft) (he:∀ C s₀ H₀ ex,EV (blk X scope (vars ++ caps.map (·.2)) C s₀ H₀ ex) elt fe) (hs:∀ x,foldedSetIterable iter X.env x = pure x:=by intro _; rfl) :
    EV X (.ListComp elt [⟨tg,iter,[cnd],0⟩] scope pos) (jfb fi caps bv ft fe):=
  PE.imp (joC (tt:=tVT X.K ft) (te:=tV X.K fe) B hc hi hg hb he hs) fun _ _ _ h=>jhH tk h
end
end VL
set_option Elab.async false
set_option linter.all false
set_option maxRecDepth 100000
set_option maxHeartbeats 4000000
namespace VL
open PySem PySem.Spec PyProof.Rows L2
section
variable {X:Cx} {a b c:Expr} {pos:Pos} {f1 f2 f3:Dv → Option D}
end
def flD:D → Bool
  | .none=>true
  | .bool _=>true
  | .int _=>true
  | .str _=>true
  | _=>false
def inL (x:D) (ds:List D):Bool:=ds.any fun y=>PyData.eqv y x
def inD (neg:Bool):D → D → Option D:=fun a b=>(jhl b).bind fun ds=>if flD a = true ∧ ds.all flD = true then some (.bool (if neg = true then !inL a ds else inL a ds)) else none
theorem Rep.flat {K:Fg} {Z:Hp} {v:V} {d:D} (r:Rep K Z v d):jhn v = flD d:=by cases r <;> rfl
theorem Rep.eqF {K:Fg} {Z:Hp} {v u:V} {d e:D} (r:Rep K Z v d) (q:Rep K Z u e) (h1:flD d = true) (h2:flD e = true):eqV v u = PyData.eqv d e:=by
  cases r <;> first | (cases q <;> first | rfl | cases h2) | cases h1
theorem Reps.allF {K:Fg} {Z:Hp}:∀ {vs:List V} {ds:List D},Reps K Z vs ds → vs.all jhn = ds.all flD
  | _,_,.nil=>rfl
  | _,_,.cons r t=>by rw [List.all_cons,List.all_cons,r.flat,t.allF]
theorem Reps.inF {K:Fg} {Z:Hp} {x:V} {a:D} (q:Rep K Z x a) (h:flD a = true):∀ {vs:List V} {ds:List D},Reps K Z vs ds → ds.all flD = true → inV x vs = inL a ds
  | _,_,.nil,_=>rfl
  | _,_,.cons r t,f=>by
    rw [List.all_cons,Bool.and_eq_true] at f
    show (eqV _ x || inV x _) = (PyData.eqv _ a || inL a _)
    rw [r.eqF q f.1 h,t.inF q h f.2]
theorem jrw {K:Fg} {neg:Bool} {x y:V} {H:Hp} {Q:VK} (h:rD K (inD neg) x y H Q):rIn K neg x y H Q:=by
  obtain ⟨Z,a,b,d,zh,ra,rb,e,k⟩:=h
  obtain ⟨ds,e1,e⟩:=bind_some e
  by_cases c:flD a = true ∧ ds.all flD = true
  · rw [if_pos c] at e
    cases e
    have go:∀ (xs:List V),Reps K Z xs ds → (∃ p,y = .ref p ∧ (SqL K H p xs ∨ SqT K H p xs)) → rIn K neg x y H Q:=fun xs r ⟨p,ey,hq⟩=>by
      refine ⟨p,xs,ey,hq,by rw [ra.flat]; exact c.1,by rw [r.allF]; exact c.2,?_⟩
      have:=r.inF ra c.1 c.2
      rw [this]
      exact k _ Z H (New.refl zh) (.bl _)
    cases rb with
    | lst h q=>cases e1; exact go _ q ⟨_,rfl,.inl (SqL.same h zh)⟩
    | tup h q=>cases e1; exact go _ q ⟨_,rfl,.inr (SqT.same h zh)⟩
    | _=>cases e1
  · rw [if_neg c] at e; cases e
theorem jwo {X:Cx}:OpR X (compareOp .In) (rD X.K (inD false)):=OpR.imp jmJ fun _ _ _ _ h=>jrw h
def gT:List (D → Dv → Option Dv) → List D → Dv → Option Dv
  | [],[],δ=>some δ
  | g :: gs,d :: ds,δ=>(g d δ).bind fun δ1=>gT gs ds δ1
  | _,_,_=>none
def gTu (gs:List (D → Dv → Option Dv)):D → Dv → Option Dv
  | .tuple ds,δ=>gT gs ds δ
  | _,_=>none
@[simp] theorem jwn (δ:Dv):gT [] [] δ = some δ:=rfl
@[simp] theorem jvH (g:D → Dv → Option Dv) (gs:List (D → Dv → Option Dv)) (d:D) (ds:List D) (δ:Dv):gT (g :: gs) (d :: ds) δ = (g d δ).bind fun δ1=>gT gs ds δ1:=rfl
@[simp] theorem jvG (gs:List (D → Dv → Option Dv)) (ds:List D) (δ:Dv):gTu gs (.tuple ds) δ = gT gs ds δ:=rfl
section
variable {X:Cx} {pos:Pos} {e:Expr} {es:List Expr} {g:D → Dv → Option Dv} {gs:List (D → Dv → Option Dv)}
theorem PGs.imp {t t':TGs} (h:PGs X es t) (i:∀ v σ H Q,t' v σ H Q → t v σ H Q):PGs X es t':=fun pins s σ H x v Q I r q=>h pins s σ H x v Q I r (i _ _ _ _ q)
end
def wN:Nat:=1000000
theorem jfo {t:Dv → Option Bool} {b:Sf}:∀ {n m:Nat} {δ:Dv} {r:Fl × Dv},jeY t b n δ = some r → n ≤ m → jeY t b m δ = some r
  | 0,_,_,_,h,_=>by cases h
  | n + 1,0,_,_,_,hm=>by omega
  | n + 1,m + 1,δ,r,h,hm=>by
    have hm:n ≤ m:=by omega
    obtain ⟨c,h1,h⟩:=bind_some h
    show ((t δ).bind fun c=>_) = _
    rw [h1,Option.bind_some]
    cases c with
    | false=>exact h
    | true=>
      rw [if_pos rfl] at h ⊢
      obtain ⟨⟨fl,δ2⟩,h2,h⟩:=bind_some h
      rw [h2,Option.bind_some]
      cases fl with
      | nx=>exact jfo h hm
      | ct=>exact jfo h hm
      | bk=>exact h
      | rt d=>exact h
theorem jlh {t:Dv → Option Bool} {b:Sf} {δ:Dv} (n:Nat) (h:t δ = some false):jeY t b (n + 1) δ = some (.nx,δ):=by
  show ((t δ).bind fun c=>_) = _
  rw [h]; rfl
theorem joa {t:Dv → Option Bool} {b:Sf} {δ δ2:Dv} {r:Fl × Dv} (n:Nat) (h:t δ = some true) (h2:b δ = some (.nx,δ2)) (h3:jeY t b n δ2 = some r):jeY t b (n + 1) δ = some r:=by
  show ((t δ).bind fun c=>_) = _
  rw [h,Option.bind_some,if_pos rfl,h2,Option.bind_some]
  exact h3
theorem jbo {g:D → Dv → Option Dv} {b:Sf} {d:D} {ds:List D} {δ δ1 δ2:Dv} (h1:g d δ = some δ1) (h2:b δ1 = some (.nx,δ2)):loop g b (d :: ds) δ = loop g b ds δ2:=by
  show ((g d δ).bind fun δ1=>_) = _
  rw [h1,Option.bind_some,h2]; rfl
end VL
set_option Elab.async false
set_option linter.all false
set_option maxRecDepth 100000
set_option maxHeartbeats 4000000
namespace VL
open PySem PySem.Spec PyProof.Rows L2
def tO (K:Fg) (f:Dv → Option (List D)):TE:=fun σ H Q=>∃ H₀ Z₀ Z δ ds,Hold K H₀ Z₀ Z δ σ H ∧ f δ = some ds ∧ ∀ p vs Z' H',Hold K H₀ Z₀ Z' δ σ H' → Same Z Z' → H' p = none → Reps K Z' vs ds → Q (.ref p) (upd H' p (.lst vs))
def oLi (f:Dv → Option D):Dv → Option (List D):=fun δ=>(f δ).bind jul
@[simp] def jqO (i:Nat) (f:Dv → Option (List D)):Sf:=fun δ=>(f δ).bind fun ds=>some (.nx,δ.set i (.ow ds))
section
variable {X:Cx} {e:Expr} {es:List Expr} {p pos:Pos} {f:Dv → Option (List D)} {fs:Dv → Option (List D)}
theorem joD {K:Fg} {D:Ends} {i:Nat} {σ:St} {H:Hp} (h:tVS K (jqO i f) D σ H):tO K f σ H fun v H1=>D.nx (σ.set i (some v)) H1:=by
  obtain ⟨H₀,Z₀,Z,δ,r,hh,e,k⟩:=h
  obtain ⟨ds,e1,e⟩:=bind_some e
  cases e
  exact ⟨H₀,Z₀,Z,δ,ds,hh,e1,fun p vs Z1 H1 hh1 t1 hp r1=>k _ _ Z1 (hh1.setO hp r1) t1⟩
end
section
variable {X:Cx} {scope:Scope} {vars:List Str} {caps:List (Nat × Str)} {elt tg iter cnd:Expr} {pos:Pos} {g:TG} {fi:Dv → Option (List D)} {ft:Dv → Option Bool} {fe:Dv → Option D} {bv:D → Option (List D)}
theorem jlM (tk:jqs X.K g vars.length bv) {σ:St} {H:Hp} {Q:VK} (h:tO X.K (oLi (jdH fi caps bv fe)) σ H Q):jog (tVI X.K fi) g (tV X.K fe) vars caps σ H Q:=by
  obtain ⟨H₀,Z₀,Z,δ,d0,hh,e0,k⟩:=h
  obtain ⟨d,e,e0⟩:=bind_some e0
  obtain ⟨ds,e1,e⟩:=bind_some e
  by_cases hz:ds.length ≤ sizeLine
  · rw [if_pos hz] at e
    obtain ⟨es,e2,e⟩:=bind_some e
    cases e
    obtain rfl:es = d0:=Option.some.inj e0
    have le:=jeO e2
    have hv:vars.map (fun _=>(none:Option V)) = List.replicate vars.length none:=by rw [List.map_const']
    refine ⟨H₀,Z₀,Z,δ,ds,hh,e1,fun J Z1 H1 hh1 t1 ok=>?_⟩
    refine ⟨fun i m ys H=>m = ds.length - i ∧ i ≤ ds.length ∧ ∃ Zc,Hold X.K H₀ Z₀ Zc δ σ H ∧ Same Z1 Zc ∧ Reps X.K Zc ys (es.take i),⟨ds.length,by simp,Nat.zero_le _,Z1,hh1,Same.refl _,by simpa using .nil⟩,?_⟩
    rintro i m ys H2 ⟨rfl,hi2,Zc,hhc,tc,rc⟩
    have zh:Same Z1 H2:=tc.trans hhc.zh
    have ly:=rc.length
    rw [List.length_take] at ly
    by_cases hlt:i < ds.length
    · refine .inr ⟨ok.go i H2 zh hlt,by omega,fun x H3 y=>?_⟩
      have ed:ds[i]? = some ds[i]:=by simp [hlt]
      obtain ⟨rfl,rx⟩:=ok.yld i H2 x H3 _ zh ed y
      obtain ⟨ei,f1,f2⟩:=jif e2 ed
      obtain ⟨vs,f3,f1⟩:=bind_some f1
      rw [hv]
      refine tk x Zc ds[i] vs (jha σ caps) H3 _ (rx.same tc) hhc.zh f3 fun us ru hn=>⟨⟨by simp [hn],fun j v q=>?_⟩,?_⟩
      · by_cases hj:j < vars.length
        · rw [List.getElem?_append_left (by simpa using hj),List.getElem?_replicate] at q
          split at q <;> cases q
        · rw [List.getElem?_append_right (by simpa using hj)] at q
          rw [List.getElem?_append_right (by simpa [hn] using hj)]
          simpa [hn] using q
      · refine ⟨H3,Zc,Zc,_,ei,jit hhc ru,f1,fun v Z4 H4 h4 t4 r4=>⟨ds.length - (i + 1),by omega,rfl,hlt,Z4,hhc.new ⟨t4,h4.h0,h4.zh,h4.zb⟩,tc.trans t4,?_⟩⟩
        have:es.take (i + 1) = es.take i ++ [ei]:=by
          rw [List.take_add_one,f2]; rfl
        rw [this]
        exact (rc.same t4).append (.cons r4 .nil)
    · have hie:i = ds.length:=by omega
      subst hie
      refine .inl ⟨ok.stop _ H2 zh (Nat.le_refl _),by omega,fun p hp=>?_⟩
      rw [← le,List.take_length] at rc
      exact k p ys Zc _ hhc (t1.trans tc) hp rc
  · rw [if_neg hz] at e; cases e
theorem joo (i:Nat) {y:Str} {py spos:Pos} (hN:X.N.Nodup) (B:BlkOk X.env.scope.names X.N scope vars caps) (hc:X.calm = true) (hi:IV X tg iter fi) (tk:jqs X.K g vars.length bv)
    (hg:∀ C s₀ H₀ ex,PG (blk X scope (vars ++ caps.map (·.2)) C s₀ H₀ ex) tg g) (he:∀ C s₀ H₀ ex,EV (blk X scope (vars ++ caps.map (·.2)) C s₀ H₀ ex) elt fe)
    (hy:X.N[i]? = some y:=by rfl) (hx:Loc X.env.scope y:=by first | exact Or.inl rfl | exact Or.inr rfl) (hsw:swapsWith (.ListComp elt [⟨tg,iter,[],0⟩] scope pos) (some (.Name y py)) spos.line X.env = pure true:=by rfl)
    (hf:X.fn y = true ∨ X.env.scope.names.lookup y = some .local:=by first | exact .inl rfl | exact .inr rfl | assumption) (hs:∀ x,foldedSetIterable iter X.env x = pure x:=by intro _; rfl) :
    SV X (.Assign [.Name y py] (.ListComp elt [⟨tg,iter,[],0⟩] scope pos) spos) (jqO i (oLi (jdH fi caps bv fe))):=
  PS.imp (jqU (te:=tV X.K fe) B hc hi hg he hN hy hx hsw hf hs) fun D σ H h=>jlM tk (joD h)
end
def jr5 (t:Sf):Fl × Dv → Option (Fl × Dv)
  | (.nx,δ)=>t δ
  | r=>some r
@[simp] theorem juV (t:Sf) (δ:Dv):jr5 t (.nx,δ) = t δ:=rfl
@[simp] theorem juU (t:Sf) (d:D) (δ:Dv):jr5 t (.rt d,δ) = some (.rt d,δ):=rfl
@[simp] theorem juX (t:Sf) (δ:Dv):jr5 t (.bk,δ) = some (.bk,δ):=rfl
@[simp] theorem juW (t:Sf) (δ:Dv):jr5 t (.ct,δ) = some (.ct,δ):=rfl
def ifK (u w:Sf) (δ:Dv):Bool → Option (Fl × Dv)
  | true=>u δ
  | false=>w δ
@[simp] theorem jxB (u w:Sf) (δ:Dv):ifK u w δ true = u δ:=rfl
@[simp] theorem jxC (u w:Sf) (δ:Dv):ifK u w δ false = w δ:=rfl
theorem jav (s t:Sf) (δ:Dv):sSeq s t δ = (s δ).bind (jr5 t):=by
  unfold sSeq jr5
  congr 1
theorem jaV (t:Dv → Option Bool) (u w:Sf) (δ:Dv):sIf t u w δ = (t δ).bind (ifK u w δ):=by
  unfold sIf
  congr 1
  funext c
  cases c <;> rfl
end VL
set_option Elab.async false
set_option linter.all false
set_option maxRecDepth 100000
set_option maxHeartbeats 4000000
namespace VL
open PySem PySem.Spec PyProof.Rows L2
def jrU:List D → Option (List Bool)
  | []=>some []
  | .bool b :: r=>(jrU r).map (b :: ·)
  | _=>none
def jvV:List D → Option D
  | [.list xs]=>(jrU xs).map fun bs=>.bool (bs.any id)
  | _=>none
def ju2:D → Option D
  | .list xs=>some (.list xs.reverse)
  | _=>none
@[simp] theorem jsa (xs:List D):ju2 (.list xs) = some (.list xs.reverse):=rfl
def jv8:D → Option (List D)
  | .list xs=>some xs.reverse
  | .tuple xs=>some xs.reverse
  | _=>none
@[simp] theorem jsM (xs:List D):jv8 (.list xs) = some xs.reverse:=rfl
@[simp] theorem jsb (xs:List D):jv8 (.tuple xs) = some xs.reverse:=rfl
@[simp] def sNo:Sf:=fun _=>none
@[simp] def jx1 (i:Nat) (f:Dv → Option D):Sf:=fun δ=>(f δ).bind fun v=>(jhl v).bind fun es=>(slO δ[i]?).bind fun ds=>if ds.length + es.length ≤ sizeLine then some (.nx,δ.set i (.ow (ds ++ es))) else none
section
variable {X:Cx} {e:Expr} {es:List Expr} {p pos tpos apos:Pos} {f:Dv → Option D} {st:Stmt}
theorem jnA {K:Fg} {Z:Hp}:∀ {xs:List V} {ds:List D} {bs:List Bool} {its:List Value},Reps K Z xs ds → Vals xs its → jrU ds = some bs → its.length = bs.length ∧ ∀ (i:Nat) (v:Value),its[i]? = some v → ∃ b,bs[i]? = some b ∧ v = .bool b
  | _,_,bs,_,.nil,.nil,h=>by cases h; exact ⟨rfl,fun i v q=>by simp at q⟩
  | _,_,bs,_,.cons r t,.cons q u,h=>by
    cases r with
    | bl b=>
      unfold jrU at h
      cases g:jrU _ with
      | none=>rw [g] at h; cases h
      | some cs=>
        rw [g] at h
        cases h
        obtain ⟨h1,h2⟩:=jnA t u g
        refine ⟨by simp [h1],fun i v e=>?_⟩
        cases i with
        | zero=>simp at e; subst e; exact ⟨b,rfl,q⟩
        | succ i=>simp at e; simpa using h2 i v e
    | _=>cases h
theorem jvQ (hc:X.calm = true):CallR X (.builtin "any") (rDs X.K jvV):=by
  intro pins s σ H xs us Q I rs q
  obtain ⟨Z,as,d,zh,ra,e,k⟩:=q
  cases ra with
  | nil=>cases e
  | cons r1 r2=>
    cases r2 with
    | cons _ _=>cases r1 <;> cases e
    | nil=>
      cases r1 with
      | @lst l ys ds h1 q1=>
        have e:(jrU ds).map (fun bs=>PyData.bool (bs.any id)) = some d:=e
        cases g:jrU ds with
        | none=>rw [g] at e; cases e
        | some bs=>
          rw [g] at e
          cases e
          obtain ⟨u,rfl,ru⟩:=jl2 rs
          cases ru
          obtain ⟨its,rv,pl,hz⟩:=I.list (SqL.same h1 zh)
          obtain ⟨hlen,hget⟩:=jnA q1 rv g
          have hl:=pl.isList
          have hlt:l < s.heap.objs.size:=by obtain ⟨_,e,_⟩:=hl; exact Heap.lt_size e
          refine call_any_walk (wpAny_pyIter_list hl ?_)
          refine ⟨s.heap.objs.size,[s.heap.objs.size,l],[s.heap.objs.size],its.toArray.size,_,_,fun i=>(bs[i]?).getD false,rfl,Walks.list (A:=X.A.in1) (I.ok.hd hc) _ l (Nat.ne_of_lt hlt) its.toArray,
            ⟨⟨_,Heap.get?_push_size _ rfl,rfl,rfl⟩,hl.push _⟩,fun i v s' Q' E' hP hQ=>?_,fun h' tk hk=>?_⟩
          · obtain ⟨b,e,rfl⟩:=hget i v (by simpa using hP)
            simp only [e,Option.getD_some] at hQ
            exact wpAny_truthy_bool hQ
          · have e:((List.range its.toArray.size).any fun i=>(bs[i]?).getD false) = bs.any id:=by
              rw [List.size_toArray,hlen]; exact LSm.range_any bs
            rw [e]
            exact ⟨.bl _,H,I.kept (t':=tk) (LSm.kept_iter hk),rfl,k _ Z H (New.refl zh) (.bl _)⟩
      | _=>cases e
theorem jqK {st:Stmt}:SV X st sNo:=fun pins s σ H D I h=>by
  obtain ⟨_,_,_,_,_,_,e,_⟩:=h
  cases e
end
end VL
set_option Elab.async false
set_option linter.all false
set_option maxRecDepth 100000
set_option maxHeartbeats 4000000
namespace VL
open PySem PySem.Spec PyProof.Rows L2
section
variable {prog:Program} {w:World} {A:Around} {s:Shared} {R:Result → Shared → Prop}
variable {I:Addr} {fp wr:List Addr} {G:Array GenState → Array GenState → Prop} {n:Nat} {P:Nat → Value → Prop} {St:Nat → Shared → Prop}
end
section
variable {prog:Program} {w:World} {A:Around} {E:Value → Shared → Prop} {s:Shared}
variable {I:Addr} {fp wr:List Addr} {G:Array GenState → Array GenState → Prop} {n:Nat} {P:Nat → Value → Prop} {St:Nat → Shared → Prop}
end
section
variable {X:Cx} {e:Expr} {p p2 pos pos2:Pos} {te:TE} {f:Dv → Option D}
end
end VL
set_option Elab.async false
set_option linter.all false
set_option maxRecDepth 100000
set_option maxHeartbeats 4000000
namespace VL
open PySem PySem.Spec PyProof.Rows L2
section
variable {prog:Program} {w:World} {A:Around} {E:Value → Shared → Prop} {s:Shared}
def IsRv (h:Heap) (a l:Addr) (i:Int):Prop:=∃ o,h.get? a = some o ∧ o.cls = .type "reversed" ∧ o.data = .fields #[.ref l,rawInt i]
theorem IsRv.typeIs {a l:Addr} {i:Int} (x:IsRv s.heap a l i):s.TypeIs (.ref a) "reversed":=let ⟨o,ho,hc,_⟩:=x; ⟨o,ho,hc⟩
theorem IsRv.at {h h':Heap} {a l:Addr} {i:Int} (x:IsRv h a l i) (e:∀ o,h.get? a = some o → h'.get? a = some o):IsRv h' a l i:=let ⟨o,ho,r⟩:=x; ⟨o,e _ ho,r⟩
end
def jw6:D → Option (List D)
  | .tuple xs=>some xs.reverse
  | _=>none
@[simp] theorem jr9 (xs:List D):jw6 (.tuple xs) = some xs.reverse:=rfl
section
variable {X:Cx} {tg e:Expr} {p pos:Pos} {te:TE} {f:Dv → Option D}
end
end VL
set_option Elab.async false
set_option linter.all false
set_option maxRecDepth 100000
set_option maxHeartbeats 4000000
namespace VL
open PySem PySem.Spec PyProof.Rows L2
def F2 (h:Heap) (e:Addr):Prop:=∃ oe vs,h.get? e = some oe ∧ oe.data = .fields vs ∧ vs[2]? = some .none
def FlyX (base:Heap) (l:List Env) (e:Addr) (cls a0:Value) (h:Heap):Prop:=Heap.FlyingW base l e cls a0 h ∧ F2 h e
def jt5 (base:Heap) (l:List Env) (e:Addr) (cls a0:Value) (L:Addr) (h:Heap):Prop:=Heap.HeldW base l e cls a0 L h ∧ F2 h e
structure Put (l:List Env) (e T:Addr) (oe:Obj) (fl:Value) (h h':Heap):Prop where
  new:h.get? T = none
  ex:h'.get? e = some (oe.mapFields (·.setIfInBounds 1 (.ref T)))
  tb:∃ oT ts,h'.get? T = some oT ∧ oT.data = .fields ts ∧ ts[3]? = some fl
  keep:∀ b o,b ≠ e → b ∉ frs l → h.get? b = some o → h'.get? b = some o
  slot:∀ b o,b ≠ e → h.get? b = some o → ∃ sl,h'.get? b = some { o with slots:=sl }
section
variable {M:Model} {A:Around} {E:Value → Shared → Prop} {s:Shared}
theorem ji3 {base:Heap} {env:Env} {outer:List Env} {L e:Addr} {oe:Obj} {vs:Array Value} {head:Value} {nx:Bool} {Q:Unit → Shared → Prop}
    (hfr:A.frames = some (env :: outer)) (hl:s.heap.FunFrames base (env :: outer)) (hf:env.frame = some L) (he:s.heap.get? e = some oe) (hd:oe.data = .fields vs) (hsz:1 < vs.size)
    (h:∀ h' T,Put (env :: outer) e T oe (rawInt L) s.heap h' → Q () { s with heap:=h' }) :
    wpAny M A (do let a ← frameOf env; let pl ← entryPlaceOf L nx; let b ← EntryCells.newEntry head a .none (rawInt L) .none pl; setField (.ref e) 1 b) Q E s:=by
  have hene:e ∉ frs (env :: outer):=fun hm=>by
    obtain ⟨_,o,ho,hnf⟩:=hl.mem hm
    rw [he] at ho; cases ho; exact hnf vs hd
  refine wpAny_bind (wpAny_frameOf_fun hfr hl hf fun h₁ hs₁=>wpAny_bind (wpAny_entryPlaceOf fun pl hpl=>?_))
  unfold EntryCells.newEntry newFields
  refine wpAny_bind (wpAny_newObj_type ?_ (hpl.sizeOk5 _ _ _ _ _))
  have he₁:h₁.get? e = some oe:=(hs₁.2.1 e hene).trans he
  have nT:s.heap.get? h₁.objs.size = none:=by
    cases q:s.heap.get? h₁.objs.size with
    | none=>rfl
    | some o=>
      obtain ⟨sl,q2⟩:=hs₁.2.2 _ o q
      exact absurd (Heap.lt_size q2) (Nat.lt_irrefl _)
  refine wpAny_setField (Heap.get?_push_of_some _ he₁) hd hsz (h _ h₁.objs.size ⟨nT,?_,?_,fun b o hb hbf q=>?_,fun b o hb q=>?_⟩)
  · exact Heap.get?_update_self _ (Heap.get?_push_of_some _ he₁) (Obj.isFreed_of_fields (Obj.data_mapFields hd _))
  · refine ⟨_,_,(Heap.get?_update_other _ _ (Nat.ne_of_lt (Heap.lt_size he₁))).trans (Heap.get?_push_size h₁ rfl),rfl,?_⟩
    first | (simp; done) | (rcases hpl with rfl | ⟨_,_,_,_,_,_,_,rfl⟩ <;> simp)
  · rw [Heap.get?_update_other _ _ (Ne.symm hb)]
    exact Heap.get?_push_of_some _ ((hs₁.2.1 b hbf).trans q)
  · obtain ⟨sl,q2⟩:=hs₁.2.2 b o q
    exact ⟨sl,by rw [Heap.get?_update_other _ _ (Ne.symm hb)]; exact Heap.get?_push_of_some _ q2⟩
theorem Put.flies {base h h':Heap} {l:List Env} {e T:Addr} {oe:Obj} {vs:Array Value} {fl a0:Value} (p:Put l e T oe fl h h') (hkb:base.StaysIn h) (hl:h.FunFrames base l) (hen:base.get? e = none) (he:h.get? e = some oe) (hd:oe.data = .fields vs) (h0:vs[0]? = some a0) (h2:vs[2]? = some .none) :
    base.StaysIn h' ∧ h'.FunFrames base l ∧ h'.TracedAtW base e oe.cls a0 fl ∧ F2 h' e ∧ h.UpToSlots h':=by
  have hsz:2 < vs.size:=(Array.getElem?_eq_some_iff.mp h2).1
  have hd3:=Obj.data_mapFields hd (·.setIfInBounds 1 (Value.ref T))
  have hTe:T ≠ e:=fun z=>by subst z; rw [p.new] at he; cases he
  obtain ⟨oT,ts,q1,q2,q3⟩:=p.tb
  have ne:∀ b o,h.get? b = some o → (∀ ws,o.data ≠ .fields ws) → b ≠ e:=fun b o hb hnf z=>by subst z; rw [he] at hb; cases hb; exact hnf _ hd
  have nT:base.get? T = none:=by
    cases q:base.get? T with
    | none=>rfl
    | some o=>have:=hkb _ _ q; rw [p.new] at this; cases this
  refine ⟨fun b o hb=>p.keep b o (fun z=>by subst z; rw [hen] at hb; cases hb) (fun z=>?_) (hkb b o hb),hl.of_keeps fun b o hb hnf=>?_,⟨_,_,T,oT,ts,p.ex,⟨Obj.cls_mapFields _ _,by rw [Array.getElem?_setIfInBounds_ne (by decide)]; exact h0⟩,hd3,by rw [Array.getElem?_setIfInBounds_self,if_pos (by omega)],nT,hTe,q1,q2,q3⟩,⟨_,_,p.ex,hd3,by rw [Array.getElem?_setIfInBounds_ne (by decide)]; exact h2⟩,fun b o hb hnf=>p.slot b o (ne b o hb hnf) hb⟩
  · rw [(hl.mem z).1] at hb; cases hb
  · obtain ⟨sl,q⟩:=p.slot b o (ne b o hb hnf) hb
    exact ⟨_,q,rfl⟩
theorem jjl {base:Heap} {l:List Env} {e:Addr} {cls a0 fl:Value} {Q:Unit → Shared → Prop} (hkb:base.StaysIn s.heap) (hl:s.heap.FunFrames base l) (ht:s.heap.TracedAtW base e cls a0 fl) (h2:F2 s.heap e)
    (h:∀ h',base.StaysIn h' → h'.FunFrames base l → h'.TracedW base e cls a0 → F2 h' e → s.heap.UpToSlots h' → Q () { s with heap:=h' }):wpAny M A (setFlight (.ref e) none) Q E s:=by
  obtain ⟨oe,vs,T,oT,ts,he,hcls,hd,h1,hnT,hTe,hT,hdT,h3⟩:=ht
  have hsz3:3 < ts.size:=(Array.getElem?_eq_some_iff.mp h3).1
  have other:∀ b,b ≠ T → (s.heap.update T (Obj.mapFields (·.setIfInBounds 3 ((none:Option Addr).elim Value.none fun f=>rawInt f)))).get? b = s.heap.get? b:=fun b hb=>Heap.get?_update_other _ _ (Ne.symm hb)
  have noR:∀ b o,s.heap.get? b = some o → (∀ ws,o.data ≠ .fields ws) → b ≠ T:=fun b o hb hnf q=>by
    subst q; rw [hT] at hb; cases hb; exact hnf _ hdT
  unfold setFlight
  refine wpAny_bind (wpAny_field he hd h1 ?_)
  rw [if_pos (show (Value.ref T != Value.none) = true from by simp)]
  refine wpAny_setField hT hdT hsz3 (h _ (fun b o hb=>(other b fun q=>by subst q; rw [hnT] at hb; cases hb).trans (hkb b o hb)) (hl.of_keeps fun b o hb hnf=>⟨o,(other b (noR b o hb hnf)).trans hb,rfl⟩) ?_ ?_ fun b o hb hnf=>⟨o.slots,(other b (noR b o hb hnf)).trans hb⟩)
  · exact ⟨oe,vs,T,_,_,(other e (Ne.symm hTe)).trans he,hcls,hd,h1,hnT,hTe,Heap.get?_update_self _ hT (Obj.isFreed_of_fields (Obj.data_mapFields hdT _)),Obj.data_mapFields hdT _,by simp [hsz3]⟩
  · obtain ⟨o2,v2,q1,q2,q3⟩:=h2
    exact ⟨o2,v2,(other e (Ne.symm hTe)).trans q1,q2,q3⟩
theorem jmX {base:Heap} {env:Env} {outer:List Env} {L e:Addr} {cls a0:Value} {Q:Unit → Shared → Prop} (hfr:A.frames = some (env :: outer)) (hf:env.frame = some L) (hfl:FlyX base (env :: outer) e cls a0 s.heap)
    (hQ:∀ h',jt5 base (env :: outer) e cls a0 L h' → s.heap.UpToSlots h' → Q () { s with heap:=h' }):wpAny M A (noteFrame (.ref e) env) Q E s:=by
  obtain ⟨⟨hkb,hen,hl,oe,vs,T,oT,ts,he,⟨hcls,h0⟩,hd,h1,hnT,hTe,hT,hdT,h3⟩,h2⟩:=hfl
  subst hcls
  have h2:vs[2]? = some .none:=by
    obtain ⟨o2,v2,q1,q2,q3⟩:=h2
    rw [he] at q1; cases q1; rw [hd] at q2; cases q2; exact q3
  have other:∀ b,b ≠ T → (s.heap.update T (Obj.mapFields (·.setIfInBounds 3 Value.none))).get? b = s.heap.get? b:=fun b hb=>Heap.get?_update_other _ _ (Ne.symm hb)
  have noR:∀ b o,s.heap.get? b = some o → (∀ ws,o.data ≠ .fields ws) → b ≠ T:=fun b o hb hnf q=>by
    subst q; rw [hT] at hb; cases hb; exact hnf _ hdT
  unfold noteFrame
  simp only [hf]
  refine wpAny_bind (wpAny_field he hd h1 ?_)
  rw [if_pos (show (Value.ref T != Value.none) = true from by simp)]
  refine wpAny_bind (wpAny_field hT hdT h3 ?_)
  rw [if_neg (show ¬ ((Value.none == rawInt L) = true) from by simp [rawInt])]
  refine wpAny_bind (wpAny_setField hT hdT (Array.getElem?_eq_some_iff.mp h3).1 ?_)
  have hl':(s.heap.update T (Obj.mapFields (·.setIfInBounds 3 Value.none))).FunFrames base (env :: outer):=hl.of_keeps fun b o hb hnf=>⟨o,(other b (noR b o hb hnf)).trans hb,rfl⟩
  have he':=(other e (Ne.symm hTe)).trans he
  refine ji3 hfr hl' hf he' hd (Array.getElem?_eq_some_iff.mp h1).1 fun h' T' p=>?_
  obtain ⟨k1,k2,k3,k4,k5⟩:=p.flies (fun b o hb=>(other b fun q=>by subst q; rw [hnT] at hb; cases hb).trans (hkb b o hb)) hl' hen he' hd h0 h2
  exact hQ h' ⟨⟨k1,hen,k2,k3⟩,k4⟩ fun b o hb hnf=>k5 b o ((other b (noR b o hb hnf)).trans hb) hnf
theorem jkc {base:Heap} {l:List Env} {e L:Addr} {cls a0:Value} {Q:Unit → Shared → Prop} (hh:jt5 base l e cls a0 L s.heap)
    (hQ:∀ h',FlyX base l e cls a0 h' → s.heap.UpToSlots h' → Q () { s with heap:=h' }):wpAny M A (setFlight (.ref e) none) Q E s:=by
  obtain ⟨⟨f1,f2,f3,f4⟩,f5⟩:=hh
  exact jjl f1 f3 f4 f5 fun h' k1 k2 k3 k4 k5=>hQ h' ⟨⟨k1,f2,k2,k3⟩,k4⟩ k5
theorem jii {base:Heap} {l:List Env} {e:Addr} {cls a0:Value} {Q:Unit → Shared → Prop} (hh:FlyX base l e cls a0 s.heap)
    (hQ:∀ h',FlyX base l e cls a0 h' → s.heap.UpToSlots h' → Q () { s with heap:=h' }):wpAny M A (setFlight (.ref e) none) Q E s:=by
  obtain ⟨⟨f1,f2,f3,f4⟩,f5⟩:=hh
  exact jjl f1 f3 f4.at f5 fun h' k1 k2 k3 k4 k5=>hQ h' ⟨⟨k1,f2,k2,k3⟩,k4⟩ k5
theorem FlyX.pop {base h:Heap} {env:Env} {l:List Env} {e:Addr} {cls a0:Value} (x:FlyX base (env :: l) e cls a0 h):FlyX base l e cls a0 h:=
  let ⟨⟨k1,k2,⟨_,_,k3⟩,k4⟩,k5⟩:=x; ⟨⟨k1,k2,k3,k4⟩,k5⟩
theorem jkb {base:Heap} {env:Env} {outer:List Env} {L e:Addr} {cls a0:Value} {Q:Unit → Shared → Prop} (hfr:A.frames = some (env :: outer)) (hf:env.frame = some L) (hfl:FlyX base (env :: outer) e cls a0 s.heap)
    (hQ:∀ h',FlyX base outer e cls a0 h' → s.heap.UpToSlots h' → Q () { s with heap:=h' }):wpAny M A (leaving env (.ref e)) Q E s:=by
  unfold leaving
  refine wpAny_bind (jmX hfr hf hfl fun h1 x1 u1=>?_)
  exact jkc (s:={ s with heap:=h1 }) x1 fun h2 x2 u2=>hQ h2 x2.pop (u1.trans u2)
theorem jih {base h:Heap} {env:Env} {outer:List Env} {L e:Addr} {cls:Value} {args:List Value} {Q:Unit → Shared → Prop}
    (hfr:A.frames = some (env :: outer)) (hf:env.frame = some L) (hkb:base.StaysIn h) (hl:h.FunFrames base (env :: outer)) (hx:Heap.MadeExcOf h s.heap e cls args)
    (hQ:∀ h' t,FlyX base outer e cls (.ref t) h' → s.heap.UpToSlots h' → Q () { s with heap:=h' }):wpAny M A (leaving env (.ref e)) Q E s:=by
  obtain ⟨t,he,htn,ht⟩:=hx.there
  have fresh:∀ b,h.get? b = none → base.get? b = none:=fun b hb=>by
    cases hq:base.get? b with
    | none=>rfl
    | some o'=>have:=hkb b o' hq; rw [hb] at this; cases this
  have hl2:s.heap.FunFrames base (env :: outer):=hl.of_keeps fun b o hb _=>⟨o,hx.keeps b o hb,rfl⟩
  unfold leaving noteFrame
  simp only [hf]
  refine wpAny_bind (wpAny_bind (wpAny_field he rfl (x:=.none) rfl ?_))
  rw [if_neg (by decide)]
  refine ji3 hfr hl2 hf he rfl (by simp) fun h1 T p=>?_
  obtain ⟨k1,k2,k3,k4,k5⟩:=p.flies (a0:=.ref t) (fun b o hb=>hx.keeps b o (hkb b o hb)) hl2 (fresh e hx.new) he rfl rfl rfl
  exact jkc (s:={ s with heap:=h1 }) (L:=L) ⟨⟨k1,fresh e hx.new,k2,k3⟩,k4⟩ fun h2 x2 u2=>hQ h2 t x2.pop (k5.trans u2)
end
end VL
set_option Elab.async false
set_option linter.all false
set_option maxRecDepth 100000
set_option maxHeartbeats 4000000
namespace VL
open PySem PySem.Spec PyProof.Rows L2
def exD (n:Str):D:=.dict [(.str "exc",.str n)]
abbrev Xf:=Dv → Option (Str × Dv)
@[simp] def xNo:Xf:=fun _=>none
@[simp] def jpD (n:Str) (f:Dv → Option D):Xf:=fun δ=>(f δ).bind fun _=>some (n,δ)
@[simp] def xE (f:Dv → Option Str):Xf:=fun δ=>(f δ).bind fun n=>some (n,δ)
@[simp] def xIf (t:Dv → Option Bool) (u w:Xf):Xf:=fun δ=>(t δ).bind fun c=>if c = true then u δ else w δ
@[simp] def jso (s:Sf) (u:Xf):Xf:=fun δ=>(s δ).bind fun r=>match r with
  | (.nx,δ')=>u δ'
  | _=>none
@[simp] def jwu (u1:Xf) (s:Sf) (u:Xf):Xf:=fun δ=>match u1 δ with
  | some r=>some r
  | none=>jso s u δ
def jsL (N:List Str) (m:Nat) (fx:Xf):List D → Option Str:=fun as=>if as.length = m then (fx (jal N as)).bind fun r=>some r.1 else none
@[simp] def osX (fs:Dv → Option (List D)) (g:List D → Option Str):Dv → Option Str:=fun δ=>(fs δ).bind g
def jr6 (i:Nat) (ns:List Str) (b:Sf) (bx:Xf) (bs:Sf):Sf:=fun δ=>match bx δ with
  | some (n,δ')=>if ns.contains n = true then (bs (δ'.set i (.fz (exD n)))).bind fun r=>some (r.1,r.2.set i .un) else none
  | none=>b δ
def jwk (t:List (Str × Bool)) (n:Str):Option D:=(t.lookup n).map .bool
def jk6 (t:List (Str × Bool)):D → Option D
  | .dict [(.str k,.str n)]=>if k = "exc" then jwk t n else none
  | _=>none
theorem jgB {P:Program} {w:World} {H:Hp} {h:Heap} {a:Addr} {o:HO} (x:ObjOk P w H h a o):∃ ob,h.get? a = some ob:=by
  cases o with
  | lst xs=>obtain ⟨_,_,_,_,e⟩:=x; exact ⟨_,e⟩
  | tup xs=>obtain ⟨_,_,_,ob,e,_⟩:=x; exact ⟨_,e⟩
  | dK kvs=>obtain ⟨_,_,_,_,o,_,_,e,_⟩:=x; exact ⟨_,e⟩
  | dT kvs=>obtain ⟨_,_,_,_,o,_,_,e,_⟩:=x; exact ⟨_,e⟩
  | set S n=>obtain ⟨o,_,_,_,e,_⟩:=x; exact ⟨_,e⟩
  | ins C dx fs=>obtain ⟨_,_,_,e,_⟩:=x; exact ⟨_,e⟩
  | own y=>exact x
  | xd fs=>obtain ⟨_,⟨_,_,_,e,_⟩,_⟩:=x; exact ⟨_,e⟩
  | rng lo hi=>obtain ⟨_,_,_,e⟩:=x; exact ⟨_,e⟩
  | frz ob u=>exact ⟨_,x.1⟩
  | tbl ps=>exact ⟨_,x⟩
  | met f y=>exact ⟨_,x⟩
  | ext φ=>exact x.2.1
theorem jqk {P:Program} {w:World} {H:Hp} {h:Heap} {x C:Addr} {o:Obj} (e:h.get? x = some o) (c:o.cls = .ref C) (f:F2 h x):ObjOk P w H h x (exO x C):=
  ⟨⟨o,e,c,by obtain ⟨o',vs,q1,q2⟩:=f; rw [e] at q1; cases q1; exact ⟨vs,q2⟩⟩,⟨o,e⟩,fun h1 h2 ⟨o',e',c'⟩ k=>⟨o',k o' e',c'⟩⟩
theorem FlyX.there {base h:Heap} {l:List Env} {e:Addr} {cls a0:Value} (x:FlyX base l e cls a0 h):∃ ob,h.get? e = some ob ∧ ob.cls = cls:=x.1.there
structure Thrown (P:Program) (w:World) (outer:List Env) (H:Hp) (s:Shared) (x C:Addr) (H':Hp) (s':Shared):Prop where
  os:s'.os = s.os
  bare:AllBare s'.gens
  un:Un (frs outer) [] H H' s.heap s'.heap
  hok:HOk P w H' s'.heap
  sm:Same H H'
  is:H' x = some (exO x C)
  fly:∃ B t,FlyX B outer x (.ref C) t s'.heap ∧ (∀ b o,H' b = some o → b ≠ x → ∃ ob,B.get? b = some ob) ∧ (∀ b o,s.heap.get? b = some o → H b = none → b ∉ frs outer → B.get? b = some o)
def CXX (P:Program) (w:World):CXT:=fun outer H s E e s'=>∃ x C H',e = .ref x ∧ Thrown P w outer H s x C H' s' ∧ E (.ref C) (some x) H'
theorem jnb {P:Program} {w:World} {H2:Hp} {B h2 h':Heap} {l l':List Env} {x C:Addr} {t t':Value} (ok:HOk P w H2 h2) (is:H2 x = some (exO x C)) (k2:B.StaysIn h2) (fl':FlyX B l' x (.ref C) t' h')
    (hB:∀ b o,H2 b = some o → b ≠ x → ∃ ob,B.get? b = some ob):HOk P w H2 h':=fun b o e=>by
  by_cases hb:b = x
  · subst hb
    rw [is] at e; cases e
    obtain ⟨ob,h1,h2⟩:=fl'.there
    exact jqk h1 h2 fl'.2
  · refine (ok b o e).stay (fun c u hc q=>?_) (fun _ q=>q) fun _ _ q=>q
    have:∃ ob,B.get? c = some ob:=by
      rcases hc with rfl | hc
      · exact hB c o e hb
      · refine hB c _ hc fun z=>?_
        subst z; rw [is] at hc; cases hc
    obtain ⟨ob,hob⟩:=this
    have:=k2 c ob hob
    rw [q] at this; cases this
    exact fl'.1.1 c _ hob
section
variable {P:Program} {w:World} {K:PySem.W.Frag} {mg:Str → Option Value} {base:Heap} {N:List Str} {qual:Str} {scope:Scope} {f:Addr} {cd:Value} {A:Around} {outer:List Env} {s:Shared} {H:Hp} {E:XK} {pins:List (Addr × Obj)} {σ:St} {H1 H2:Hp} {s1 s2:Shared} {x C:Addr}
theorem joO (I:Inv (jg9 (CXX P w) P w K mg base N qual scope f cd A outer s H E) pins σ H1 s1) (T:Thrown P w (jg9 (CXX P w) P w K mg base N qual scope f cd A outer s H E).stack H1 s1 x C H2 s2) (hE:E (.ref C) (some x) H2) (h0:Same H H2) :
    (jg9 (CXX P w) P w K mg base N qual scope f cd A outer s H E).xe (.ref x) s2:=by
  obtain ⟨B,t,fl,hB1,hB2⟩:=T.fly
  have hfr:=I.ok.frames
  have loc:∀ b o,s.heap.get? b = some o → b ∉ frs outer → b ∉ frs (jg9 (CXX P w) P w K mg base N qual scope f cd A outer s H E).stack:=fun b o q hb z=>by
    rcases List.mem_cons.mp (I.stkSub b z) with e | e
    · exact absurd (Heap.lt_size q) (by rw [e]; exact Nat.not_lt.mpr I.ok.above)
    · exact hb e
  have keep:∀ b o,s.heap.get? b = some o → H b = none → b ∉ frs outer → B.get? b = some o:=fun b o q n hb=>
    hB2 b o (I.base.keep b o q n hb (fun z=>nomatch z)) (I.base.free b o q n (fun z=>nomatch z)) (loc b o q hb)
  refine jkb hfr rfl fl fun h' fl' sm=>?_
  have slot:∀ b o,s.heap.get? b = some o → H b = none → b ∈ frs outer → ∃ sl,h'.get? b = some { o with slots:=sl }:=fun b o q n hb=>by
    obtain ⟨sl,e1⟩:=I.base.slot b o q n hb (fun z=>nomatch z)
    have hb':b ∈ frs (jg9 (CXX P w) P w K mg base N qual scope f cd A outer s H E).stack:=by
      show b ∈ List.filterMap _ (_ :: outer)
      exact List.mem_filterMap.mpr (by obtain ⟨env,he,hf⟩:=List.mem_filterMap.mp hb; exact ⟨env,List.mem_cons_of_mem _ he,hf⟩)
    obtain ⟨sl2,e2⟩:=T.un.slot b _ e1 (I.base.free b o q n (fun z=>nomatch z)) hb' (fun z=>nomatch z)
    obtain ⟨_,o',ho',hd⟩:=I.ok.funs.mem hb
    have ho2:s.heap.get? b = some o':=ho'
    rw [q] at ho2; cases ho2
    obtain ⟨sl3,e3⟩:=sm b _ e2 hd
    exact ⟨sl3,e3⟩
  refine ⟨x,C,H2,rfl,⟨T.os.trans I.os,T.bare,⟨fun b o q n hb _=>fl'.1.1 b o (keep b o q n hb),fun b o q n hb _=>slot b o q n hb,fun b o q n _=>?_,fun b o q _=>?_,fun b xs e=>T.un.tups b xs (I.base.tups b xs e),fun b o u e=>T.un.frzs b o u (I.base.frzs b o u e),fun b ps e=>?_⟩,jnb (l:=[]) (t:=t) T.hok T.is fl.1.1 fl' hB1,h0,T.is,⟨B,t,fl',hB1,keep⟩⟩,hE⟩
  · obtain ⟨o1,e1⟩:=I.base.there b o q (fun z=>nomatch z)
    exact T.un.free b o1 e1 (I.base.free b o q n (fun z=>nomatch z)) (fun z=>nomatch z)
  · cases q2:H2 b with
    | some ho=>
      by_cases hb:b = x
      · subst hb; obtain ⟨ob,e1,_⟩:=fl'.there; exact ⟨ob,e1⟩
      · obtain ⟨ob,e1⟩:=hB1 b ho q2 hb; exact ⟨ob,fl'.1.1 b ob e1⟩
    | none=>
      have n:H b = none:=by
        cases e:H b with
        | none=>rfl
        | some z=>rw [h0 b z e] at q2; cases q2
      by_cases hb:b ∈ frs outer
      · obtain ⟨sl,e⟩:=slot b o q n hb; exact ⟨_,e⟩
      · exact ⟨o,fl'.1.1 b o (keep b o q n hb)⟩
  · obtain ⟨m1,e1⟩:=I.base.tbls b ps e
    obtain ⟨m2,e2⟩:=T.un.tbls b _ e1
    exact ⟨m1 ++ m2,by rw [e2,Array.append_assoc]⟩
theorem jlA {vs:List Value} (I:Inv (jg9 (CXX P w) P w K mg base N qual scope f cd A outer s H E) pins σ H1 s1) (hs:s2 = { s1 with heap:=s2.heap }) (hx:Heap.MadeExcOf s1.heap s2.heap x (.ref C) vs) (h0:Same H H1) (hE:H1 x = none → E (.ref C) (some x) (upd H1 x (exO x C))) :
    (jg9 (CXX P w) P w K mg base N qual scope f cd A outer s H E).xe (.ref x) s2:=by
  have hfr:=I.ok.frames
  have n1:H1 x = none:=by
    cases e:H1 x with
    | none=>rfl
    | some o=>obtain ⟨ob,h⟩:=jgB (I.hok x o e); rw [hx.new] at h; cases h
  have loc:∀ b o,s.heap.get? b = some o → b ∉ frs outer → b ∉ frs (jg9 (CXX P w) P w K mg base N qual scope f cd A outer s H E).stack:=fun b o q hb z=>by
    rcases List.mem_cons.mp (I.stkSub b z) with e | e
    · exact absurd (Heap.lt_size q) (by rw [e]; exact Nat.not_lt.mpr I.ok.above)
    · exact hb e
  have hin:∀ env ∈ (jg9 (CXX P w) P w K mg base N qual scope f cd A outer s H E).stack,∀ b,env.frame = some b → b ∈ frs (jg9 (CXX P w) P w K mg base N qual scope f cd A outer s H E).stack:=fun env he b hb=>List.mem_filterMap.mpr ⟨env,he,hb⟩
  have keep:∀ b o,s.heap.get? b = some o → H b = none → b ∉ frs outer → (PySem.W.hideAll s1.heap (frs (jg9 (CXX P w) P w K mg base N qual scope f cd A outer s H E).stack)).get? b = some o:=fun b o q n hb=>
    PySem.W.hideAll_get _ (I.base.keep b o q n hb (fun z=>nomatch z)) (loc b o q hb)
  have trk:∀ b o,H1 b = some o → ∃ ob,(PySem.W.hideAll s1.heap (frs (jg9 (CXX P w) P w K mg base N qual scope f cd A outer s H E).stack)).get? b = some ob:=fun b o e=>by
    obtain ⟨ob,h⟩:=jgB (I.hok b o e)
    refine ⟨ob,PySem.W.hideAll_get _ h fun z=>?_⟩
    rw [I.stkFree b z] at e; cases e
  refine jih hfr rfl (fun b o q=>PySem.W.of_hideAll _ q) (PySem.W.funFrames_hide I.stack hin) hx fun h' t fl sm=>?_
  have slot:∀ b o,s.heap.get? b = some o → H b = none → b ∈ frs outer → ∃ sl,h'.get? b = some { o with slots:=sl }:=fun b o q n hb=>by
    obtain ⟨sl,e1⟩:=I.base.slot b o q n hb (fun z=>nomatch z)
    obtain ⟨_,o',ho',hd⟩:=I.ok.funs.mem hb
    have ho2:s.heap.get? b = some o':=ho'
    rw [q] at ho2; cases ho2
    obtain ⟨sl3,e3⟩:=sm b _ (hx.keeps b _ e1) hd
    exact ⟨sl3,e3⟩
  have ne:∀ b o,s1.heap.get? b = some o → b ≠ x:=fun b o q z=>by subst z; rw [hx.new] at q; cases q
  have os2:s2.os = s1.os:=by rw [hs]
  have g2:s2.gens = s1.gens:=by rw [hs]
  have hok2:HOk P w (upd H1 x (exO x C)) h':=fun b o e=>by
    by_cases hb:b = x
    · subst hb; rw [jaF] at e; cases e; obtain ⟨ob,q1,q2⟩:=fl.there; exact jqk q1 q2 fl.2
    · rw [jaA hb] at e
      refine (I.hok b o e).stay (fun c u hc q=>?_) (fun c q=>?_) fun c xs q=>?_
      · have:∃ ho,H1 c = some ho:=by rcases hc with rfl | hc; exact ⟨_,e⟩; exact ⟨_,hc⟩
        obtain ⟨ho,hc⟩:=this
        obtain ⟨ob,hob⟩:=trk c ho hc
        have:=PySem.W.of_hideAll _ hob
        rw [q] at this; cases this
        exact fl.1.1 c _ hob
      · rw [jaA (jaJ q n1)]; exact q
      · rw [jaA (jaJ q n1)]; exact q
  refine ⟨x,C,upd H1 x (exO x C),rfl,⟨os2.trans I.os,by rw [show ({ s2 with heap:=h' }:Shared).gens = s1.gens from g2]; exact I.bare,⟨fun b o q n hb _=>fl.1.1 b o (keep b o q n hb),fun b o q n hb _=>slot b o q n hb,fun b o q n _=>?_,fun b o q _=>?_,fun b xs e=>?_,fun b o u e=>?_,fun b ps e=>?_⟩,hok2,h0.trans (jei n1),jaF,⟨_,_,fl,fun b o e hb=>?_,keep⟩⟩,hE n1⟩
  · obtain ⟨o1,e1⟩:=I.base.there b o q (fun z=>nomatch z)
    rw [jaA (ne b o1 e1)]
    exact I.base.free b o q n (fun z=>nomatch z)
  · obtain ⟨o1,e1⟩:=I.base.there b o q (fun z=>nomatch z)
    cases q2:H1 b with
    | some ho=>obtain ⟨ob,e⟩:=trk b ho q2; exact ⟨ob,fl.1.1 b ob e⟩
    | none=>
      have n:H b = none:=by
        cases e:H b with
        | none=>rfl
        | some z=>rw [h0 b z e] at q2; cases q2
      by_cases hb:b ∈ frs outer
      · obtain ⟨sl,e⟩:=slot b o q n hb; exact ⟨_,e⟩
      · exact ⟨o,fl.1.1 b o (keep b o q n hb)⟩
  · have:=I.base.tups b xs e
    rw [jaA (jaJ this n1)]; exact this
  · have:=I.base.frzs b o u e
    rw [jaA (jaJ this n1)]; exact this
  · obtain ⟨m1,e1⟩:=I.base.tbls b ps e
    exact ⟨m1,by rw [jaA (jaJ e1 n1)]; exact e1⟩
  · rw [jaA hb] at e
    exact trk b o e
end
end VL
set_option Elab.async false
set_option linter.all false
set_option maxRecDepth 100000
set_option maxHeartbeats 4000000
namespace VL
open PySem PySem.Spec PyProof.Rows L2
abbrev jt6:List Value:=[.type "ValueError",.type "Exception",.type "BaseException",.type "object"]
structure ExcC (K:Fg) (n:Str) (C:Addr):Prop where
  nm:PySem.W.nsIn K mainGlobals n = some (some (.ref C))
  ex:PySem.W.excIn K C jt6 "ValueError.__new__" = true
  ga:PySem.W.findIn K (.ref C) "__getattribute__" = some (some (.builtin "BaseException.__getattribute__"))
  gt:PySem.W.findIn K (.ref C) "__getattr__" = some none
  cl:PySem.W.findIn K (.ref C) "__class__" = some (some (.builtin "object.__class__"))
  mo:PySem.W.mroIn K C (.type "object") = some true
  be:PySem.W.mroIn K C (.type "BaseException") = some true
theorem jim {K:Fg} {h:Heap} {C:Addr} {mB:List Value} {newId:String} (kin:K.In h) (q:PySem.W.excIn K C mB newId = true) :
    ∃ mr ns nm qn bs hd sn sub ab col dd a0 a1 a2 a3 a5 mN,h.get? C = some (excClassObj nm qn C ns bs mr hd sn sub ab col dd a0 a1 a2 a3 a5 newId) ∧ h.Ns ns mN ∧ mN "__init__" = none ∧ OwnTail h mB mr:=by
  unfold PySem.W.excIn at q
  split at q
  · rename_i dct cda slo lk
    split at q
    · rename_i C2 mr a0 a1 a2 a3 nw a5 em es
      simp only [Bool.and_eq_true,beq_iff_eq,Bool.not_eq_true'] at q
      obtain ⟨⟨⟨⟨⟨rfl,rfl⟩,nodel⟩,tl⟩,okn⟩,noini⟩:=q
      obtain ⟨nm,bs,mro,ns,qn,hd,sn,sub,ab,col,del⟩:=cda
      dsimp only at em nodel okn noini
      subst em nodel
      have esl:slo = #[a0,a1,a2,a3,some (.builtin nw),a5]:=by
        obtain ⟨ll⟩:=slo
        simp only at es
        rw [es]
      subst esl
      exact ⟨mr,ns,nm,qn,bs,hd,sn,sub,ab,col,dct,a0,a1,a2,a3,a5,_,kin _ _ lk,Heap.Ns.of_isNs (PySem.W.isNs_of_in kin okn),PySem.W.nsMap_none_of_in kin okn noini,PySem.W.tail_of_in kin tl⟩
    · cases q
  · cases q
section
variable {K:Fg} {n:Str} {C x:Addr}
theorem jer {M:Model} {h:Heap} {o:Obj} (e:h.get? x = some o) (c:o.cls = .ref C):PySem.W.Looks M h (typeOf (.ref x)) (.ref C):=c ▸ (PySem.W.Looks.ld e).andThen .now
variable {prog:Program} {w:World} {A:Around} {E:Value → Shared → Prop}
open Builtin Builtin.ObjectAttr Builtin.Getset_descriptor in
theorem jrD {R:Result → Shared → Prop} {tp:Value} {o:Obj} {s:Shared} (F:ExcC K n C) (kin:K.In s.heap) (e:s.heap.get? x = some o) (c:o.cls = .ref C) (h:R (.ok (.ret (.ref C))) s) :
    codeAny (model prog w) A (.call (.builtin "getset_descriptor.__get__") ⟨[.builtin "object.__class__",.ref x,tp],[]⟩) R s:=by
  obtain ⟨hh,g,dr,t,os⟩:=s
  have L0:=jer (M:=model prog w) e c
  have L1:=PySem.W.looks_mroIn (M:=model prog w) kin F.mo
  refine codeAny_call_builtin PySem.W.KF.slot_gs.plain PySem.W.KF.entry_gs (PySem.W.KF.slot_gs.check _ _ _ _ _ _ _ _ PySem.W.KF.type_class (PySem.W.KF.args_gs _ _ _) ?_)
  unfold Builtin.«getset_descriptor.__get__» descrGet
  rw [PySem.W.dga_obj]
  refine wpAny_bind (wpAny_pure ?_)
  unfold descrGetter descrCheckInstance descrNameAndClass isInstance
  simp only [PySem.W.KF.owner_class]
  repeat lk
  refine ⟨Code.quiet_builtin _ (by decide +kernel),codeAny_builtin PySem.W.KF.entry_class ?_⟩
  unfold Builtin.«object.__class__» shownTypeOf
  repeat lk
  exact h
theorem jnk {M:Model} {o:Obj} {s:Shared} {nameV:Value} {Q:Unit → Shared → Prop} (F:ExcC K n C) (kin:K.In s.heap) (e:s.heap.get? x = some o) (c:o.cls = .ref C) (h:Q () s) :
    wpAny M A (checkBuiltinCall "BaseException.__getattribute__" ⟨[.ref x,nameV],[]⟩) Q E s:=by
  obtain ⟨hh,g,dr,t,os⟩:=s
  have L0:=jer (M:=M) e c
  have L1:=PySem.W.looks_mroIn (M:=M) kin F.be
  have kd:builtinKind "BaseException.__getattribute__" = some .slot:=by decide +kernel
  have sp:splitId "BaseException.__getattribute__" = some ("BaseException","__getattribute__"):=by decide +kernel
  have ao:=PySem.F.args_bexc_ga (.ref x) nameV
  simp only [checkBuiltinCall,kd,sp]
  refine wpAny_bind ?_
  unfold isInstance
  refine wpAny_bind (L0.at (L1.at ?_))
  repeat wp_step
  exact h
theorem jni {tk:Tok} {o:Obj} {s:Shared} {Q:Fin → Shared → Prop} (F:ExcC K n C) (kin:K.In s.heap) (e:s.heap.get? x = some o) (c:o.cls = .ref C) (h:Q (.done (.ret (.ref C))) s) :
    wpAny (model prog w) A (Builtin.«object.__getattribute__» ⟨[.ref x,.str "__class__" tk],[]⟩) Q E s:=by
  obtain ⟨hh,g,dr,t,os⟩:=s
  have L0:=jer (M:=model prog w) e c
  have L1:=PySem.W.looks_findIn (M:=model prog w) kin F.cl
  have t5:(⟨hh,g,dr,t,os⟩:Shared).TypeIs (.builtin "object.__class__") "getset_descriptor":=PySem.F.typeOf_object_class
  have f5:=PySem.F.typeOf_object_class
  have f6:=PySem.F.slot_gs_get.lookup
  have f7:=PySem.F.slot_gs_set.lookup
  repeat (any_goals (first | assumption | with_reducible refine L0.at ?_ | with_reducible refine L1.at ?_ | wp_step))
  refine jrD F kin e c ?_
  repeat (any_goals (first | assumption | wp_step))
end
end VL
set_option Elab.async false
set_option linter.all false
set_option maxRecDepth 100000
set_option maxHeartbeats 4000000
namespace VL
open PySem PySem.Spec PyProof.Rows L2
section
variable {K:Fg} {n:Str} {C x:Addr} {prog:Program} {w:World} {A:Around} {E:Value → Shared → Prop}
theorem jnj {o:Obj} {s:Shared} {Q:Option Value → Shared → Prop} (F:ExcC K n C) (kin:K.In s.heap) (e:s.heap.get? x = some o) (c:o.cls = .ref C) (h:Q (some (.ref C)) { s with toks:=s.toks + 1 }) :
    wpAny (model prog w) A (getAttr? (.ref x) "__class__") Q E s:=by
  obtain ⟨hh,g,dr,t,os⟩:=s
  have L0:=jer (M:=model prog w) e c
  have L1:=PySem.W.looks_findIn (M:=model prog w) kin F.ga
  have L2:=PySem.W.looks_findIn (M:=model prog w) kin F.gt
  have b3:=PySem.F.attr_ValueError.ga.bind (.ref x)
  have n2:(Value.builtin "BaseException.__getattribute__" == Value.builtin "object.__getattribute__") = false:=by decide +kernel
  have n1:(onTheHeap (Value.ref C) && Value.builtin "BaseException.__getattribute__" == Value.builtin "object.__getattribute__") = false:=by rw [n2]; rfl
  have go:∀ {tk:Tok} {R:Result → Shared → Prop} {A':Around},R (.ok (.ret (.ref C))) ⟨hh,g,dr,t + 1,os⟩ → codeAny (model prog w) A' (.call (.builtin "BaseException.__getattribute__") ⟨[.ref x,.str "__class__" tk],[]⟩) R ⟨hh,g,dr,t + 1,os⟩:=fun {tk R A'} q=>
    codeAny_call_builtin PySem.F.attr_ValueError.ga.plain PySem.F.entry_bexc_ga (jnk (s:=⟨hh,g,dr,t + 1,os⟩) F kin e c (jni (s:=⟨hh,g,dr,t + 1,os⟩) F kin e c q))
  unfold getAttr? getAttrBy? getAttrBy
  repeat (any_goals (first | assumption | with_reducible refine L0.at ?_ | with_reducible refine L1.at ?_ | with_reducible refine L2.at ?_ | wp_step))
  refine go ?_
  repeat (any_goals (first | assumption | wp_step))
theorem jjd {M:Model} {h:Heap} (F:ExcC K n C) (kin:K.In h):PySem.W.Looks M h (isType (.ref C)) true:=by
  obtain ⟨_,_,_,_,_,_,_,_,_,_,_,_,_,_,_,_,_,hC,_⟩:=jim kin F.ex
  intro A' Q' E' s' k q
  unfold isType loadHead
  exact wpAny_bind (wpAny_loadPart (k _ _ hC) (wpAny_pure q))
theorem jpe (F:ExcC K n C):PySem.W.KitX K (.ref x) (.ref C) (fun h=>∃ o,h.get? x = some o ∧ o.cls = .ref C) where
  ty:=fun M h _ ⟨o,e,c⟩=>jer e c
  it:=fun M h kin _=>jjd F kin
  ne:=fun h tp dd its m sl kin htp=>by
    obtain ⟨_,_,_,_,_,_,_,_,_,_,_,_,_,_,_,_,_,hC,_⟩:=jim kin F.ex
    refine Bool.eq_false_iff.mpr fun q=>?_
    have z:C = tp:=Value.ref.inj (beq_iff_eq.mp q)
    subst z
    rw [htp] at hC
    have z2:=congrArg (fun z:Option Obj=>z.map (·.cls)) hC
    simp [excClassObj] at z2
  ca:=fun {_ _ _ _ _ s} kin ⟨o,e,c⟩ k=>jnj F kin e c k
end
inductive IsX (K:Fg) (D:Str):List (Str × Bool) → Prop
  | nil:IsX K D []
  | cons {n:Str} {b:Bool} {t:List (Str × Bool)} {C dC:Addr}:ExcC K n C → PySem.W.nsIn K mainGlobals D = some (some (.ref dC)) → PySem.W.kitOne K (.ref C) (.ref dC) = some b → IsX K D t → IsX K D ((n,b) :: t)
inductive IsT (K:Fg) (D:String):List (Str × Bool) → Prop
  | nil:IsT K D []
  | cons {n:Str} {b:Bool} {t:List (Str × Bool)} {C:Addr}:ExcC K n C → PySem.W.kitOne K (.ref C) (.type D) = some b → IsT K D t → IsT K D ((n,b) :: t)
theorem jdQ {n m:Str} {b c:Bool} {t:List (Str × Bool)} (h:List.lookup m ((n,b) :: t) = some c):(m = n ∧ c = b) ∨ List.lookup m t = some c:=by
  rw [List.lookup_cons] at h
  split at h
  · rename_i q; cases h; exact .inl ⟨by simpa using q,rfl⟩
  · exact .inr h
theorem IsX.get {K:Fg} {D:Str} {t:List (Str × Bool)} (h:IsX K D t) {n:Str} {b:Bool} (e:t.lookup n = some b):∃ C dC,ExcC K n C ∧ PySem.W.nsIn K mainGlobals D = some (some (.ref dC)) ∧ PySem.W.kitOne K (.ref C) (.ref dC) = some b:=by
  induction h with
  | nil=>cases e
  | cons h1 h2 h3 _ ih=>
    rcases jdQ e with ⟨rfl,rfl⟩ | e
    · exact ⟨_,_,h1,h2,h3⟩
    · exact ih e
theorem IsT.get {K:Fg} {D:String} {t:List (Str × Bool)} (h:IsT K D t) {n:Str} {b:Bool} (e:t.lookup n = some b):∃ C,ExcC K n C ∧ PySem.W.kitOne K (.ref C) (.type D) = some b:=by
  induction h with
  | nil=>cases e
  | cons h1 h3 _ ih=>
    rcases jdQ e with ⟨rfl,rfl⟩ | e
    · exact ⟨_,h1,h3⟩
    · exact ih e
theorem jjh {t:List (Str × Bool)} {d r:D} (h:jk6 t d = some r):∃ n b,d = .dict [(.str "exc",.str n)] ∧ t.lookup n = some b ∧ r = .bool b:=by
  unfold jk6 at h
  split at h
  · rename_i k n
    split at h
    · rename_i hk
      subst hk
      unfold jwk at h
      cases e:List.lookup n t with
      | none=>rw [e] at h; cases h
      | some b=>rw [e] at h; cases h; exact ⟨n,b,rfl,e,rfl⟩
    · cases h
  · cases h
section
variable {X:Cx} {a:Expr} {f:Dv → Option D} {p pos:Pos}
theorem jk5 {pins:List (Addr × Obj)} {σ:St} {H Z:Hp} {s:Shared} {x:Addr} {n:Str} {C:Addr} {c:Value} {b:Bool} {A:Around} {E:Value → Shared → Prop} {Q:Value → Shared → Prop} (I:Inv X pins σ H s) (zh:Same Z H) (r:Rep X.K Z (.ref x) (.dict [(.str "exc",.str n)])) (F:ExcC X.K n C) (ko:PySem.W.kitOne X.K (.ref C) c = some b)
    (h:∀ tk,Q (.bool b) { s with toks:=tk }):wpAny (model X.prog X.w) A (call (.builtin "isinstance") [.ref x,c]) Q E s:=by
  cases r with
  | opq q=>
    cases q with
    | @exc _ C' h1 h2=>
      have:C' = C:=by have:=h1.symm.trans F.nm; simpa using this
      subst this
      have q:ObjOk X.prog X.w H s.heap x (exO x C'):=by
        rcases h2 with h2 | ⟨ob,h2⟩
        · exact I.hok x _ (zh _ _ h2)
        · exact (I.hok x _ (zh _ _ h2)).2
      obtain ⟨o,q1,q2,_⟩:=q.1
      exact PySem.W.kia_one (jpe F) I.kIn ⟨o,q1,q2⟩ ko (fun z=>nomatch z) h
    | dct h1 _=>exact absurd h1 fun z=>jrJ z
theorem jfg {x:Str} {t:List (Str × Bool)} {p2:Pos} (T:IsX X.K x t) (hg:Gl X "isinstance") (hm:X.mg "isinstance" = none) (hgT:Gl X x) (ha:EV X a f) (hdT:(x == ("__debug__":Str)) = false:=by decide)
    (he:starEach (a :: [.Name x p2]) X.env = (false,eval a X.env) :: starEach [.Name x p2] X.env:=by rfl) (he2:starEach ((.Name x p2) :: []) X.env = (false,eval (.Name x p2) X.env) :: starEach [] X.env:=by rfl) (hpl:(backTo pos (starEach [.Name x p2] X.env)).any (·.1) = false:=by rfl) :
    EV X (.Call (.Name "isinstance" p) [a,.Name x p2] [] pos) (o1 f (jk6 t)):=by
  intro pins s σ H Q I h
  obtain ⟨H₀,Z₀,Z,δ,d,hh,e,k⟩:=h
  obtain ⟨y,e1,e⟩:=bind_some e
  obtain ⟨n,b,rfl,e2,rfl⟩:=jjh e
  obtain ⟨C,dC,F,hD,ko⟩:=T.get e2
  have hmT:=PySem.W.mg_of I.ok.mod.kin I.ok.mod.glob hD
  have cr:CallR X (.builtin "isinstance") (fun xs H Q=>∃ z Z,xs = [z,.ref dC] ∧ Same Z H ∧ Rep X.K Z z (.dict [(.str "exc",.str n)]) ∧ Q (.bl b) H):=by
    intro pins s σ H xs us Q I rv h
    obtain ⟨z,Z,rfl,zh,r,q⟩:=h
    obtain ⟨u,w',rfl,r1,r2⟩:=jl1 rv
    cases (show w' = Value.ref dC from r2)
    cases r with
    | @opq a' _ q'=>
      cases (show u = Value.ref a' from r1)
      exact jk5 I zh (.opq q') F ko fun tk=>⟨.bl b,H,I.tok _,rfl,q⟩
  exact jgc cr hg hm PyProof.Rows.boot_isinstance (jdF ha (jdF (jmA (v:=.ref dC) hgT hmT rfl hdT) jhw he2) he) (by decide) (by decide) he hpl pins s σ H Q I
    ⟨H₀,Z₀,Z,δ,_,hh,e1,fun v Z1 H1 hh1 s1 r1=>⟨v,Z1,rfl,hh1.zh,r1,k _ Z1 H1 hh1 s1 (.bl b)⟩⟩
theorem jrE {x:Str} {D:String} {t:List (Str × Bool)} {p2:Pos} (T:IsT X.K D t) (hg:Gl X "isinstance") (hm:X.mg "isinstance" = none) (hgT:Gl X x) (hmT:X.mg x = none) (ha:EV X a f) (hvT:bootBuiltins x = some (.type D):=by decide +kernel) (hnT:x ≠ "__name__":=by decide) (hdT:(x == ("__debug__":Str)) = false:=by decide)
    (he:starEach (a :: [.Name x p2]) X.env = (false,eval a X.env) :: starEach [.Name x p2] X.env:=by rfl) (he2:starEach ((.Name x p2) :: []) X.env = (false,eval (.Name x p2) X.env) :: starEach [] X.env:=by rfl) (hpl:(backTo pos (starEach [.Name x p2] X.env)).any (·.1) = false:=by rfl) :
    EV X (.Call (.Name "isinstance" p) [a,.Name x p2] [] pos) (o1 f (jk6 t)):=by
  intro pins s σ H Q I h
  obtain ⟨H₀,Z₀,Z,δ,d,hh,e,k⟩:=h
  obtain ⟨y,e1,e⟩:=bind_some e
  obtain ⟨n,b,rfl,e2,rfl⟩:=jjh e
  obtain ⟨C,F,ko⟩:=T.get e2
  have cr:CallR X (.builtin "isinstance") (fun xs H Q=>∃ z Z,xs = [z,.ty D] ∧ Same Z H ∧ Rep X.K Z z (.dict [(.str "exc",.str n)]) ∧ Q (.bl b) H):=by
    intro pins s σ H xs us Q I rv h
    obtain ⟨z,Z,rfl,zh,r,q⟩:=h
    obtain ⟨u,w',rfl,r1,r2⟩:=jl1 rv
    cases (show w' = Value.type D from r2)
    cases r with
    | @opq a' _ q'=>
      cases (show u = Value.ref a' from r1)
      exact jk5 I zh (.opq q') F ko fun tk=>⟨.bl b,H,I.tok _,rfl,q⟩
  exact jgc cr hg hm PyProof.Rows.boot_isinstance (jdF ha (jdF (jmC (v:=.ty D) hgT hmT hvT rfl hnT hdT) jhw he2) he) (by decide) (by decide) he hpl pins s σ H Q I
    ⟨H₀,Z₀,Z,δ,_,hh,e1,fun v Z1 H1 hh1 s1 r1=>⟨v,Z1,rfl,hh1.zh,r1,k _ Z1 H1 hh1 s1 (.bl b)⟩⟩
end
end VL
set_option Elab.async false
set_option linter.all false
set_option maxRecDepth 100000
set_option maxHeartbeats 4000000
namespace VL
open PySem PySem.Spec PyProof.Rows L2
theorem jfP {H H':Hp} {b:Addr} (s:Same H H') (h:H' b = none):H b = none:=by
  cases e:H b with
  | none=>rfl
  | some o=>rw [s b o e] at h; cases h
inductive Flung (m:Bool) (X:Cx) (n:Str) (Z H:Hp) (s:Shared) (e:Value) (s':Shared):Prop
  | made {x C:Addr} {vs:List Value}:m = true → PySem.W.nsIn X.K mainGlobals n = some (some (.ref C)) → e = .ref x → s' = { s with heap:=s'.heap } → Heap.MadeExcOf s.heap s'.heap x (.ref C) vs → Flung m X n Z H s e s'
  | thrown {x C:Addr} {H' Z':Hp}:PySem.W.nsIn X.K mainGlobals n = some (some (.ref C)) → e = .ref x → Thrown X.prog X.w X.stack H s x C H' s' → New Z H Z' H' → Z' x = some (exO x C) → H x = none → Flung m X n Z H s e s'
def tVX (m:Bool) (X:Cx) (f:Xf):TS:=fun _ σ H=>∃ H₀ Z₀ Z δ r,Hold X.K H₀ Z₀ Z δ σ H ∧ f δ = some r ∧ ∀ pins σ' H' Z' s e s',Hold X.K H₀ Z₀ Z' r.2 σ' H' → Same Z Z' → Inv X pins σ' H' s → Flung m X r.1 Z' H' s e s' → X.xe e s'
def tEX (m:Bool) (X:Cx) (f:Dv → Option Str):TE:=fun σ H _=>∃ H₀ Z₀ Z δ n,Hold X.K H₀ Z₀ Z δ σ H ∧ f δ = some n ∧ ∀ pins σ' H' Z' s e s',Hold X.K H₀ Z₀ Z' δ σ' H' → Same Z Z' → Inv X pins σ' H' s → Flung m X n Z' H' s e s' → X.xe e s'
def SX (m:Bool) (X:Cx) (st:Stmt) (f:Xf):Prop:=PS X st (tVX m X f)
def BX (m:Bool) (X:Cx) (st:List Stmt) (f:Xf):Prop:=PSs X st (tVX m X f)
def EX (m:Bool) (X:Cx) (e:Expr) (f:Dv → Option Str):Prop:=PE X e (tEX m X f)
section
variable {m:Bool} {X:Cx} {e c:Expr} {es:List Expr} {f:Dv → Option D} {fs:Dv → Option (List D)} {ft:Dv → Option Bool} {fx:Dv → Option Str} {st:Stmt} {sts body orelse:List Stmt} {s1:Sf} {u u1 u2:Xf} {pos p:Pos}
theorem SV.lift (h:SV X.nox st s1):SV X st s1:=fun pins s σ H D I hw=>
  wpAny_mono (h pins s σ H D (I.wish _) hw) (fun _ _ q=>q.unwish) fun _ _ z=>False.elim z
theorem BV.lift (h:BV X.nox sts s1):BV X sts s1:=PSs.nox h
theorem EV.lift (h:EV X.nox e f):EV X e f:=PE.nox h
theorem TV.lift (h:TV X.nox e ft):TV X e ft:=PT.nox h
theorem AV.lift (h:AV X.nox es fs):AV X es fs:=fun pos pins s σ H Q I hw=>
  wpAny_mono (h pos pins s σ H Q (I.wish _) hw) (fun _ _ ⟨vs,H',I',r,q⟩=>⟨vs,H',I'.unwish,r,q⟩) fun _ _ z=>False.elim z
theorem jvR:BX m X sts xNo:=fun _ _ _ _ _ _ ⟨_,_,_,_,_,_,e,_⟩=>nomatch e
theorem jqG (h:EX m X e fx) (hs:swapsWith e none pos.line X.env = pure false:=by rfl):SX m X (.Expr e pos) (xE fx):=
  PS.imp (jjW h hs) fun D σ H q=>by
    obtain ⟨H₀,Z₀,Z,δ,r,hh,e,k⟩:=q
    obtain ⟨n,e1,e⟩:=bind_some e
    cases e
    exact ⟨H₀,Z₀,Z,δ,n,hh,e1,k⟩
theorem jkn (h:SX m X st u):BX m X (st :: sts) u:=
  PSs.imp (jh3 h (u:=fun _ _ _=>False) fun _ _ _ _ _ _ z=>z.elim) fun D σ H q=>q
theorem jkm (h1:SV X st s1) (h2:BX m X sts u):BX m X (st :: sts) (jso s1 u):=
  PSs.imp (jh3 h1 h2) fun D σ H q=>by
    obtain ⟨H₀,Z₀,Z,δ,r,hh,e,k⟩:=q
    obtain ⟨⟨fl,δ'⟩,e1,e⟩:=bind_some e
    cases fl with
    | nx=>exact ⟨H₀,Z₀,Z,δ,(.nx,δ'),hh,e1,fun σ' H' Z' hh' t'=>⟨H₀,Z₀,Z',δ',r,hh',e,fun pins σ2 H2 Z2 s e s' hh2 t2 I fl=>k pins σ2 H2 Z2 s e s' hh2 (t'.trans t2) I fl⟩⟩
    | bk=>cases e
    | ct=>cases e
    | rt d=>cases e
theorem juR (hc:TV X c ft) (ha:BX m X body u1) (hb:BX m X orelse u2):SX m X (.If c body orelse pos) (xIf ft u1 u2):=
  PS.imp (jsS hc ha hb) fun D σ H q=>by
    obtain ⟨H₀,Z₀,Z,δ,r,hh,e,k⟩:=q
    obtain ⟨x,e1,e⟩:=bind_some e
    refine ⟨H₀,Z₀,Z,δ,x,hh,e1,fun Z1 H1 hh1 t1=>?_⟩
    cases x with
    | true=>exact ⟨H₀,Z₀,Z1,δ,r,hh1,e,fun pins σ2 H2 Z2 s e s' hh2 t2 I fl=>k pins σ2 H2 Z2 s e s' hh2 (t1.trans t2) I fl⟩
    | false=>exact ⟨H₀,Z₀,Z1,δ,r,hh1,e,fun pins σ2 H2 Z2 s e s' hh2 t2 I fl=>k pins σ2 H2 Z2 s e s' hh2 (t1.trans t2) I fl⟩
structure ExcX (K:Fg) (n:Str):Prop where
  ex:∃ C,ExcC K n C
theorem joh {x:Str} {np cpos:Pos} (O:ExcX X.K x) (hg:Gl X x) (hc:X.calm = true) (ha:EV X e f) (hdb:(x == ("__debug__":Str)) = false:=by decide)
    (he:starEach (e :: []) X.env = (false,eval e X.env) :: starEach [] X.env:=by rfl) (hpl:(backTo cpos (starEach [] X.env)).any (·.1) = false:=by rfl) :
    SX true X (.Raise (some (.Call (.Name x np) [e] [] cpos)) none pos) (jpD x f):=by
  intro pins s σ H D I h
  obtain ⟨H₀,Z₀,Z,δ,r,hh,e0,k⟩:=h
  obtain ⟨d,e1,e0⟩:=bind_some e0
  cases e0
  obtain ⟨C,F⟩:=O.ex
  obtain ⟨mr,ns,nm,qn,bs,hd,sn,sub,ab,col,dd,a0,a1,a2,a3,a5,mN,hC,hN,hni,TL⟩:=jim I.ok.mod.kin F.ex
  have hm:=PySem.W.mg_of I.ok.mod.kin I.ok.mod.glob F.nm
  refine wpAny_Raise_call_subU (C:=C) (nm:=nm) (q:=qn) (N:=ns) (bs:=bs) (bm:=mr) (hdct:=hd) (sn:=sn) (sub:=sub) (ab:=ab) (col:=col) (dd:=dd) (k0:=a0) (k1:=a1) (k2:=a2) (k3:=a3) (k5:=a5) (bmB:=jt6)
    PySem.F.excBase_ValueError (by decide +kernel) PySem.F.excBase_ValueError (mN:=mN) (TL.hasType (by decide +kernel)) (I.ok.hd hc) (by rw [he]; show (false || (backTo cpos (starEach [] X.env)).any (·.1)) = false; rw [hpl]; rfl) hni (jfz I hg hm ⟨rfl,?_⟩ hdb)
  rw [he]
  have one:wpAny (model X.prog X.w) X.A (spliced (backTo cpos (starEach (e :: []) X.env))) (AP X pins σ fun vs H1=>vs.length = 1 ∧ ∃ Z1,Hold X.K H₀ Z₀ Z1 δ σ H1 ∧ Same Z Z1) X.xe s:=
    (jdF ha jhw he) cpos pins s σ H _ I ⟨H₀,Z₀,Z,δ,d,hh,e1,fun v Z1 H1 hh1 t1 r1=>⟨rfl,Z1,hh1,t1⟩⟩
  rw [he] at one
  refine Calls.evalArgs_plain (wpAny_mono one (fun us s2 z=>?_) fun _ _ y=>y)
  obtain ⟨vs,H1,I1,rv,hl,Z1,hh1,t1⟩:=z
  have lu:us.length = 1:=by rw [← rv.length]; exact hl
  refine ⟨rfl,by show us.length ≤ sizeLine; rw [lu]; decide,I1.bk _ _ hC,hN.keeps I1.bk,TL.keeps I1.bk,fun h' ex hmd=>?_⟩
  exact k pins σ H1 Z1 s2 _ _ hh1 t1 I1 (.made rfl F.nm rfl rfl hmd)
def spX (K:Fg) (g:List D → Option Str):Sp:=fun vs H _ E=>∃ Z as n,Same Z H ∧ Reps K Z vs as ∧ g as = some n ∧ ∀ C x Z' H',PySem.W.nsIn K mainGlobals n = some (some (.ref C)) → New Z H Z' H' → Z' x = some (exO x C) → H x = none → E (.ref C) (some x) H'
structure CalX (P:Program) (w:World) (K:PySem.W.Frag) (mg:Str → Option Value) (base:Heap) (x:Str) (k:Nat) (g:List D → Option Str) (dd:List D):Prop where
  ex:∃ (fa:Addr) (fd:FuncData) (ps:List Str) (ds:List Value) (dv:List V),FnOk P w K mg base (CXX P w) k fa fd ps (spX K g) ∧ mg x = some (.ref fa) ∧ PySem.W.keepIn K (.ref fa) = true ∧ Binds K fd ps ds ∧ Vals dv ds ∧ ∀ Z,Reps K Z dv dd
theorem jtI {k:Nat} {x:Str} {g:List D → Option Str} (Y:CalX X.prog X.w X.K X.mg X.base x k g []) (hr:Room k X.A) (hg:Gl X x) (ha:AV X (e :: es) fs) (hdb:(x == ("__debug__":Str)) = false:=by decide) (he:starEach (e :: es) X.env = (false,eval e X.env) :: starEach es X.env:=by rfl)
    (hpl:(backTo pos (starEach es X.env)).any (·.1) = false:=by rfl):EX m X (.Call (.Name x p) (e :: es) [] pos) (osX fs g):=by
  obtain ⟨fa,fd,ps,ds,dv,F,hm,hk,hb,hd,hdd⟩:=Y.ex
  intro pins s σ H Q I h
  obtain ⟨H₀,Z₀,Z,δ,n,hh,e0,k⟩:=h
  obtain ⟨as,e1,e0⟩:=bind_some e0
  refine wpAny_Call_Name_kw (jfz I hg hm ?_ hdb)
  refine PySem.W.callWith_K (h₀:=X.base) I.ok.mod.kin hk (thn (ha pos pins s σ H (fun vs H1=>∃ Z1,Hold X.K H₀ Z₀ Z1 δ σ H1 ∧ Same Z Z1 ∧ Reps X.K Z1 vs as) I ⟨H₀,Z₀,Z,δ,as,hh,e1,fun vs Z1 H1 hh1 t1 r1=>⟨Z1,hh1,t1,r1⟩⟩) fun us s1 ⟨vs,H1,I1,r,Z1,hh1,t1,r1⟩=>⟨I1.kIn,?_⟩) he hpl
  have r2:Vals (vs ++ dv) (us ++ ds):=r.append hd
  have sp:spX X.K g (vs ++ dv) H1 Q (fun c ox H2=>∃ C xx Z2,c = .ref C ∧ ox = some xx ∧ PySem.W.nsIn X.K mainGlobals n = some (some (.ref C)) ∧ New Z1 H1 Z2 H2 ∧ Z2 xx = some (exO xx C) ∧ H1 xx = none):=⟨Z1,as ++ [],n,hh1.zh,r1.append (hdd Z1),by rw [List.append_nil]; exact e0,fun C xx Z2 H2 hC n2 h2 h3=>⟨C,xx,Z2,rfl,rfl,hC,n2,h2,h3⟩⟩
  have hl:(us ++ ds).length = ps.length:=by rw [← r2.length]; exact F.len _ _ _ _ sp
  refine wpAny_call (codeAny_mono (F.run X.A X.stack s1 H1 ⟨us,[]⟩ (us ++ ds) (vs ++ dv) Q _ hr I1.env0 (hb s1 us I1.kIn hl) r2 sp) fun res s' hq=>?_)
  cases res with
  | error ee=>
    obtain ⟨xx,C',H2,rfl,T,C,xx',Z2,hC',hx',hC,n2,h2,h3⟩:=hq
    cases hx'
    cases hC'
    exact k pins σ H1 Z1 s1 _ s' hh1 t1 I1 (.thrown hC rfl T n2 h2 h3)
  | ok fl=>
    cases fl with
    | ret z=>exact I1.after hq
    | next=>exact False.elim hq
    | brk=>exact False.elim hq
    | cont=>exact False.elim hq
end
section
variable {P:Program} {w:World} {K:PySem.W.Frag} {mg:Str → Option Value} {base:Heap}
theorem jxG {x qual:Str} {st:Stmt} {f:Addr} {fd:FuncData} {dV:Value} {N ps:List Str} {k:Nat} {fx:Xf} (F:FunV K x qual st f fd dV) (S:FnScope N ps (jaf st))
    (hb:∀ (cdv:Value) (A:Around) (outer:List Env) (s:Shared) (H:Hp) (E:XK),Room k (A.deeper (envOfC qual (jaf st) s.heap.objs.size f cdv)) → BX true (jg9 (CXX P w) P w K mg base N qual (jaf st) f cdv A outer s H E) (jbi st) fx) :
    FnOk P w K mg base (CXX P w) (k + 1) f fd ps (spX K (jsL N ps.length fx)):=by
  obtain ⟨oc,od,kV,doc,pm,an,cdv,ct,osl,rfl,lk,hcd⟩:=F.ex
  have some_of:∀ {as:List D} {n:Str},jsL N ps.length fx as = some n → as.length = ps.length ∧ ∃ δ',fx (jal N as) = some (n,δ'):=fun {as n} h=>by
    unfold jsL at h
    split at h
    · rename_i hl
      obtain ⟨⟨n',δ'⟩,e,h⟩:=bind_some h
      cases h
      exact ⟨hl,δ',e⟩
    · cases h
  refine jrB lk hcd S (fun vs H Q E h=>?_) fun A outer s H vs Q E hr hsp=>?_
  · obtain ⟨Z,as,n,zh,r,e,_⟩:=h
    rw [r.length]
    exact (some_of e).1
  · refine ⟨_,hb cdv A outer s H E hr,?_⟩
    obtain ⟨Z,as,n,zh,r,e,kk⟩:=hsp
    obtain ⟨_,δ',e2⟩:=some_of e
    have hh:=jfA (N:=N) zh r
    refine ⟨H,Z,Z,_,(n,δ'),hh,e2,fun pins σ' H' Z' s1 ee s2 h' z' I fl=>?_⟩
    have nw:New Z H Z' H':=⟨z',h'.h0,h'.zh,h'.zb⟩
    cases fl with
    | @made xx C' vs' _ hC' he hs hmd=>
      subst he
      exact jlA I hs hmd h'.h0 fun hn=>kk C' xx (upd Z' xx (exO xx C')) _ hC' (nw.trans (New.add h'.zh hn _)) jaF (jfP h'.h0 hn)
    | @thrown xx C' H2 Z2 hC' he T n2 hx hn=>
      subst he
      exact joO I T (kk C' xx Z2 H2 hC' (nw.trans n2) hx (jfP h'.h0 hn)) (h'.h0.trans n2.h)
end
end VL
set_option Elab.async false
set_option linter.all false
set_option maxRecDepth 100000
set_option maxHeartbeats 4000000
namespace VL
open PySem PySem.Spec PyProof.Rows L2
theorem jnh {K:Fg} {n:Str} {M:Model} {A:Around} {E:Value → Shared → Prop} {s:Shared} {x C W:Addr} {o:Obj} {Q:Bool → Shared → Prop} (kin:K.In s.heap) (F:ExcC K n C) (FW:PySem.W.excIn K W jt6 "ValueError.__new__" = true) (hs:PySem.W.subIn K (.ref C) (.ref W) = some true)
    (e:s.heap.get? x = some o) (c:o.cls = .ref C) (h:Q true s):wpAny M A (excMatches (.ref x) (.ref W)) Q E s:=by
  obtain ⟨mr,ns,nm,qn,bs,hd,sn,sub,ab,col,dd,a0,a1,a2,a3,a5,mN,hW,hN,hni,TL⟩:=jim kin FW
  obtain ⟨hh,g,d,t,os⟩:=s
  have cB:(Value.ref W :: mr).contains (.type "BaseException") = true:=by rw [List.contains_cons,TL.hasType (b:=true) (by decide +kernel),Bool.or_true]
  have L:=PySem.W.looks_subIn (M:=M) kin hs
  have L0:=jer (M:=M) e c
  have nt:=tc_notTuple
  unfold excMatches
  repeat (first | with_reducible refine L0.at ?_ | with_reducible refine L.at ?_ | with_reducible refine wpAny_loadPart_at hW ?_ | (with_reducible refine wpAny_isSubtype_exc hW ?_; rw [cB]) | wp_step)
  exact h
inductive HndL (K:Fg) (W:Addr):List Str → Prop
  | nil:HndL K W []
  | cons {n:Str} {t:List Str} {C:Addr}:ExcC K n C → PySem.W.subIn K (.ref C) (.ref W) = some true → HndL K W t → HndL K W (n :: t)
theorem HndL.get {K:Fg} {W:Addr} {t:List Str} (h:HndL K W t) {n:Str} (e:t.contains n = true):∃ C,ExcC K n C ∧ PySem.W.subIn K (.ref C) (.ref W) = some true:=by
  induction h with
  | nil=>cases e
  | cons h1 h2 _ ih=>
    rw [List.contains_cons,Bool.or_eq_true] at e
    rcases e with e | e
    · have:=eq_of_beq e; subst this; exact ⟨_,h1,h2⟩
    · exact ih e
structure Hnd (K:Fg) (W:Str) (ns:List Str):Prop where
  ex:∃ wC,PySem.W.nsIn K mainGlobals W = some (some (.ref wC)) ∧ PySem.W.excIn K wC jt6 "ValueError.__new__" = true ∧ HndL K wC ns
theorem Thrown.move {P:Program} {w:World} {l:List Env} {H H2:Hp} {s s2:Shared} {x C:Addr} (T:Thrown P w l H s x C H2 s2) (hf:∀ b ∈ frs l,∃ o,s.heap.get? b = some o ∧ ∀ vs,o.data ≠ .fields vs) (hn:∀ b ∈ frs l,H b = none) :
    ∃ B t,FlyX B l x (.ref C) t s2.heap ∧ ∀ h' t',FlyX B l x (.ref C) t' h' → s2.heap.UpToSlots h' → Thrown P w l H s x C H2 { s2 with heap:=h' }:=by
  obtain ⟨B,t,fl,hB1,hB2⟩:=T.fly
  refine ⟨B,t,fl,fun h' t' fl' sm=>?_⟩
  have slot:∀ b o,s.heap.get? b = some o → H b = none → b ∈ frs l → ∃ sl,h'.get? b = some { o with slots:=sl }:=fun b o q n hb=>by
    obtain ⟨sl2,e2⟩:=T.un.slot b o q n hb (fun z=>nomatch z)
    obtain ⟨o',ho',hd⟩:=hf b hb
    rw [q] at ho'; cases ho'
    obtain ⟨sl3,e3⟩:=sm b _ e2 hd
    exact ⟨sl3,e3⟩
  refine ⟨T.os,T.bare,⟨fun b o q n hb _=>fl'.1.1 b o (hB2 b o q n hb),fun b o q n hb _=>slot b o q n hb,fun b o q n z=>T.un.free b o q n z,fun b o q _=>?_,T.un.tups,T.un.frzs,T.un.tbls⟩,jnb (l:=[]) (t:=t) T.hok T.is fl.1.1 fl' hB1,T.sm,T.is,⟨B,t',fl',hB1,hB2⟩⟩
  cases q2:H2 b with
  | some ho=>
    by_cases hb:b = x
    · subst hb; obtain ⟨ob,e1,_⟩:=fl'.there; exact ⟨ob,e1⟩
    · obtain ⟨ob,e1⟩:=hB1 b ho q2 hb; exact ⟨ob,fl'.1.1 b ob e1⟩
  | none=>
    have n:H b = none:=by
      cases e:H b with
      | none=>rfl
      | some z=>rw [T.sm b z e] at q2; cases q2
    by_cases hb:b ∈ frs l
    · obtain ⟨sl,e⟩:=slot b o q n hb; exact ⟨_,e⟩
    · exact ⟨o,fl'.1.1 b o (hB2 b o q n hb)⟩
section
variable {X:Cx} {pins:List (Addr × Obj)} {σ:St} {H:Hp} {s:Shared}
theorem jtO {M:Model} {A:Around} {E:Value → Shared → Prop} {i:Nat} {x:Str} {v:V} {Q:Unit → Shared → Prop} (I:Inv X pins σ H s) (hN:X.N.Nodup) (hi:X.N[i]? = some x) (hk:X.env.scope.names.lookup x = some .local) (hv:σ[i]? = some (some v))
    (h:∀ s',Inv X pins (σ.set i none) H s' → Q () s'):wpAny M A (unbindName X.env x) Q E s:=by
  obtain ⟨m,hn,hl⟩:=id I.loc
  have hcls:(X.env.scope.kind == .class || (X.env.scope.kind == .module && X.env.locals != X.env.globals)) = false:=by rw [I.ok.kind]; rfl
  have hiσ:i < σ.length:=by rw [I.len]; exact (List.getElem?_eq_some_iff.mp hi).1
  have cne:=I.cne
  obtain ⟨u,rv,lk⟩:=hl i x v hi hv (.inl hk)
  have hmx:m x = some u:=by
    rcases lk with ⟨_,q⟩ | ⟨q,_⟩
    · exact q
    · rcases q with q | q
      · rw [show X.env.kindOf x = some .local from hk] at q; cases q
      · rw [show X.env.kindOf x = some .local from hk] at q; cases q
  refine wpAny_unbindName_local hk hn hmx hcls fun h' u' hn' hs=>?_
  obtain ⟨oL,_,_,hoL,_⟩:=id hn
  have tracked:HOk X.prog X.w H h':=fun b ob e=>by
    refine (I.hok b ob e).stay (fun c w' hc q=>(hs.2 c ?_).trans q) (fun _ q=>q) fun _ _ q=>q
    rintro rfl
    rcases hc with z | hc
    · rw [← z,I.free] at e; cases e
    · rw [I.free] at hc; cases hc
  refine h _ ⟨I.ok,I.os,I.bare,⟨fun b o e n hb hx=>?_,fun b o e n hb hx=>?_,I.base.free,fun b o e hx=>?_,I.base.tups,I.base.frzs,I.base.tbls⟩,⟨_,hn',fun j y v' e1 e2 e3=>?_⟩,fun y c e=>?_,I.free,I.freeC,fun p hp=>?_,tracked,by simpa using I.len⟩
  · exact (hs.2 b (Nat.ne_of_lt (Nat.lt_of_lt_of_le (Heap.lt_size e) I.ok.above))).trans (I.base.keep b o e n hb hx)
  · obtain ⟨sl,e1⟩:=I.base.slot b o e n hb hx
    exact ⟨sl,(hs.2 b (Nat.ne_of_lt (Nat.lt_of_lt_of_le (Heap.lt_size e) I.ok.above))).trans e1⟩
  · obtain ⟨o',e1⟩:=I.base.there b o e hx
    exact ⟨o',(hs.2 b (Nat.ne_of_lt (Nat.lt_of_lt_of_le (Heap.lt_size e) I.ok.above))).trans e1⟩
  · by_cases hj:j = i
    · subst hj
      rw [List.getElem?_set_self hiσ] at e2
      cases e2
    · rw [List.getElem?_set_ne (Ne.symm hj)] at e2
      obtain ⟨z',r',q⟩:=hl j y v' e1 e2 e3
      refine ⟨z',r',?_⟩
      rcases q with ⟨k,e⟩ | ⟨k,c,e,z⟩
      · refine .inl ⟨k,?_⟩
        have:y ≠ x:=fun e=>hj (jid hN e1 (e ▸ hi))
        simp [this,e]
      · exact .inr ⟨k,c,e,z.sameBut hs (cne y c e)⟩
  · obtain ⟨w',z⟩:=I.cell y c e
    exact ⟨w',z.sameBut hs (cne y c e)⟩
  · obtain ⟨e,n,ne,nf,d⟩:=I.pin p hp
    exact ⟨(hs.2 p.1 ne).trans e,n,ne,nf,d⟩
theorem jkG {M:Model} {A:Around} {E:Value → Shared → Prop} {i:Nat} {x:Str} {pos:Pos} {Q:Unit → Shared → Prop} (I:Inv X pins σ H s) (hN:X.N.Nodup) (hi:X.N[i]? = some x) (hk:X.env.scope.names.lookup x = some .local)
    (h:∀ s',Inv X pins (σ.set i none) H s' → Q () s'):wpAny M A (do bindName X.env x .none; unbindBehindTheSuite X.env x pos) Q E s:=by
  have hiσ:i < σ.length:=by rw [I.len]; exact (List.getElem?_eq_some_iff.mp hi).1
  refine wpAny_bind (wpAny_bindName (jf8 I hN hi (.inl hk) (v:=.non) (u:=.none) rfl (fun s1 I1=>?_) (.inr hk)))
  unfold unbindBehindTheSuite
  refine wpAny_onRaise ?_
  refine jtO (v:=.non) I1 hN hi hk (List.getElem?_set_self hiσ) fun s2 I2=>?_
  rw [List.set_set] at I2
  exact h s2 I2
end
theorem Hold.unset {K:Fg} {H₀ Z₀ Z H:Hp} {δ:Dv} {σ:St} (h:Hold K H₀ Z₀ Z δ σ H) (i:Nat):Hold K H₀ Z₀ Z (δ.set i .un) (σ.set i none) H where
  zh:=h.zh
  h0:=h.h0
  z0:=h.z0
  zb:=h.zb
  len:=by simp [h.len]
  fz:=fun j e q=>by
    by_cases hj:i = j
    · subst hj
      have hl:i < δ.length:=by have:=(List.getElem?_eq_some_iff.mp q).1; simpa using this
      rw [List.getElem?_set_self hl] at q
      cases q
    · rw [List.getElem?_set_ne hj] at q
      obtain ⟨u,a,b⟩:=h.fz j e q
      exact ⟨u,by rw [List.getElem?_set_ne hj]; exact a,b⟩
  own:=fun j es q=>by
    by_cases hj:i = j
    · subst hj
      have hl:i < δ.length:=by have:=(List.getElem?_eq_some_iff.mp q).1; simpa using this
      rw [List.getElem?_set_self hl] at q
      cases q
    · rw [List.getElem?_set_ne hj] at q ⊢
      exact h.own j es q
  dja:=fun j k ds es a hjk q1 q2=>by
    have f:∀ {m:Nat} {ds:Oc},(δ.set i .un)[m]? = some (.own ds) → i ≠ m ∧ δ[m]? = some (.own ds):=fun {m ds} q=>by
      by_cases hm:i = m
      · subst hm
        have hl:i < δ.length:=by have:=(List.getElem?_eq_some_iff.mp q).1; simpa using this
        rw [List.getElem?_set_self hl] at q
        cases q
      · rw [List.getElem?_set_ne hm] at q; exact ⟨hm,q⟩
    obtain ⟨a1,b1⟩:=f q1
    obtain ⟨a2,b2⟩:=f q2
    rw [List.getElem?_set_ne a1,List.getElem?_set_ne a2]
    exact h.dja j k ds es a hjk b1 b2
  fr:=h.fr.put (fun _ z=>nomatch z) fun _ hj=>List.getElem?_set_ne hj
abbrev cxT (X:Cx) (pn:List (Addr × Obj)) (E:Value → Shared → Prop):Cx:={ X with pn:=pn,xe:=E }
abbrev cxH (X:Cx) (x:Addr):Cx:={ X with A:=X.A.mark (some (.ref x)),calm:=false,xe:=fun _ _=>False }
theorem Inv.toT {X:Cx} {pins:List (Addr × Obj)} {σ:St} {H:Hp} {s:Shared} (I:Inv X pins σ H s) (E:Value → Shared → Prop):Inv (cxT X (X.pn ++ pins) E) [] σ H s:=
  ⟨⟨I.ok.mod,I.ok.kind,I.ok.glob,I.ok.blt,I.ok.above,I.ok.inj,I.ok.has,I.ok.cab,I.ok.hd,I.ok.frames,I.ok.stk,I.ok.exf,I.ok.bs,I.ok.bsz,I.ok.noex,I.ok.exfs,I.ok.funs,I.ok.frf⟩,I.os,I.bare,I.base,I.loc,I.cell,I.free,I.freeC,fun p hp=>I.pin p (by simpa using hp),I.hok,I.len⟩
theorem Inv.ofT {X:Cx} {pins pins':List (Addr × Obj)} {σ:St} {H:Hp} {s:Shared} {E:Value → Shared → Prop} (I:Inv (cxT X (X.pn ++ pins) E) pins' σ H s):Inv X pins σ H s:=
  ⟨⟨I.ok.mod,I.ok.kind,I.ok.glob,I.ok.blt,I.ok.above,I.ok.inj,I.ok.has,I.ok.cab,I.ok.hd,I.ok.frames,I.ok.stk,I.ok.exf,I.ok.bs,I.ok.bsz,I.ok.noex,I.ok.exfs,I.ok.funs,I.ok.frf⟩,I.os,I.bare,I.base,I.loc,I.cell,I.free,I.freeC,fun p hp=>I.pin p (List.mem_append_left _ hp),I.hok,I.len⟩
theorem Inv.toH {X:Cx} {pins:List (Addr × Obj)} {σ:St} {H:Hp} {s:Shared} (I:Inv X pins σ H s) (x:Addr):Inv (cxH X x) pins σ H s:=
  ⟨⟨I.ok.mod,I.ok.kind,I.ok.glob,I.ok.blt,I.ok.above,I.ok.inj,I.ok.has,I.ok.cab,(fun z=>(nomatch z)),I.ok.frames,I.ok.stk,I.ok.exf,I.ok.bs,I.ok.bsz,I.ok.noex,I.ok.exfs,I.ok.funs,I.ok.frf⟩,I.os,I.bare,I.base,I.loc,I.cell,I.free,I.freeC,I.pin,I.hok,I.len⟩
theorem Inv.ofH {X:Cx} {pins:List (Addr × Obj)} {σ:St} {H:Hp} {s:Shared} {x:Addr} (hc:X.A.handled = none) (I:Inv (cxH X x) pins σ H s):Inv X pins σ H s:=
  ⟨⟨I.ok.mod,I.ok.kind,I.ok.glob,I.ok.blt,I.ok.above,I.ok.inj,I.ok.has,I.ok.cab,fun _=>hc,I.ok.frames,I.ok.stk,I.ok.exf,I.ok.bs,I.ok.bsz,I.ok.noex,I.ok.exfs,I.ok.funs,I.ok.frf⟩,I.os,I.bare,I.base,I.loc,I.cell,I.free,I.freeC,I.pin,I.hok,I.len⟩
theorem Inv.still {X:Cx} {pins:List (Addr × Obj)} {σ:St} {H:Hp} {s:Shared} {x C:Addr} {ob:Obj} (I:Inv X pins σ H s) (hx:H x = some (exO x C)) (ho:s.heap.get? x = some ob):Inv X pins σ (upd H x (.frz ob (exO x C))) s:=by
  have ne:∀ {b:Addr},H b = none → b ≠ x:=fun {b} h z=>by subst z; rw [hx] at h; cases h
  have up:∀ {b:Addr},H b = none → upd H x (.frz ob (exO x C)) b = none:=fun {b} h=>by rw [jaA (ne h)]; exact h
  refine ⟨I.ok,I.os,I.bare,⟨I.base.keep,I.base.slot,fun b o e n hb=>up (I.base.free b o e n hb),I.base.there,fun b xs e=>?_,fun b o u e=>?_,fun b ps e=>?_⟩,I.loc,I.cell,up I.free,fun y c e=>up (I.freeC y c e),fun p hp=>?_,fun b o e=>?_,I.len⟩
  · have q:=I.base.tups b xs e
    by_cases hb:b = x
    · subst hb; rw [hx] at q; cases q
    · rw [jaA hb]; exact q
  · have q:=I.base.frzs b o u e
    by_cases hb:b = x
    · subst hb; rw [hx] at q; cases q
    · rw [jaA hb]; exact q
  · obtain ⟨m,q⟩:=I.base.tbls b ps e
    by_cases hb:b = x
    · subst hb; rw [hx] at q; cases q
    · exact ⟨m,by rw [jaA hb]; exact q⟩
  · obtain ⟨e,n,r⟩:=I.pin p hp
    exact ⟨e,up n,r⟩
  · have st:∀ {b':Addr} {o':HO},ObjOk X.prog X.w H s.heap b' o' → ObjOk X.prog X.w (upd H x (.frz ob (exO x C))) s.heap b' o':=fun {b' o'} q=>by
      refine q.stay (fun _ _ _ z=>z) (fun c z=>?_) fun c xs z=>?_
      · by_cases hc:c = x
        · subst hc; rw [hx] at z; cases z
        · rw [jaA hc]; exact z
      · by_cases hc:c = x
        · subst hc; rw [hx] at z; cases z
        · rw [jaA hc]; exact z
    by_cases hb:b = x
    · subst hb
      rw [jaF] at e
      cases e
      exact ⟨ho,st (I.hok b _ hx)⟩
    · rw [jaA hb] at e
      exact st (I.hok b o e)
theorem New.still {Z H Z2 H2:Hp} {x C:Addr} {ob:Obj} (n:New Z H Z2 H2) (zh:Same Z H) (hz:Z2 x = some (exO x C)) (hn:H x = none):New Z H (upd Z2 x (.frz ob (exO x C))) (upd H2 x (.frz ob (exO x C))) where
  z:=fun b o e=>by rw [jaA (jaJ (zh b o e) hn)]; exact n.z b o e
  h:=fun b o e=>by rw [jaA (jaJ e hn)]; exact n.h b o e
  zh:=fun b o e=>by
    by_cases hb:b = x
    · subst hb; rw [jaF] at e ⊢; exact e
    · rw [jaA hb] at e ⊢; exact n.zh b o e
  o:=fun b hb=>by
    have:b ≠ x:=fun z=>hb (by rw [z]; exact hn)
    rw [jaA this]; exact n.o b hb
def tSx (K:Fg) (x:Addr) (ob:Obj) (C:Addr) (f:Sf):TS:=fun D σ H=>∃ H₀ Z₀ Z δ r,Hold K H₀ Z₀ Z δ σ H ∧ Z x = some (.frz ob (exO x C)) ∧ f δ = some r ∧ ∀ σ' H' Z',Hold K H₀ Z₀ Z' r.2 σ' H' → Same Z Z' → r.1.to K Z' D σ' H'
section
variable {X:Cx} {body suite:List Stmt} {b₀:Stmt} {b bs:Sf} {bx:Xf} {np hpos pos:Pos}
theorem jqJ (i:Nat) {n W:Str} {ns:List Str} (O:Hnd X.K W ns) (hgW:Gl X W) (hN:X.N.Nodup) (hi:X.N[i]? = some n) (hloc:X.env.scope.names.lookup n = some .local) (hcalm:X.calm = true) (hstk:X.stack = X.env :: X.outer)
    (hb:BV X.nox body b) (hx:∀ pn E',BX false (cxT X pn E') body bx) (hs:∀ x ob C,(∃ vs,ob.data = .fields vs ∧ vs[2]? = some .none) → PSs (cxH X x) (b₀ :: suite) (tSx X.K x ob C bs)) (hfrm:X.env.frame = some X.env.locals:=by rfl) (hdb:(W == ("__debug__":Str)) = false:=by decide) :
    SV X (.Try body [.ExceptHandler (some (.Name W np)) (some n) (b₀ :: suite) hpos] [] [] pos) (jr6 i ns b bx bs):=by
  intro pins s σ H D I h
  obtain ⟨H₀,Z₀,Z,δ,r,hh,e,k⟩:=h
  unfold jr6 at e
  cases hbx:bx δ with
  | none=>
    rw [hbx] at e
    refine wpAny_Try_except (wpAny_mono (hb pins s σ H D (I.wish _) ⟨H₀,Z₀,Z,δ,r,hh,e,k⟩) (fun f s1 q=>?_) fun _ _ z=>False.elim z)
    have q:=q.unwish
    cases f with
    | next=>exact wpAny_execs_nil q
    | brk=>exact q
    | cont=>exact q
    | ret u=>exact q
  | some pr=>
    obtain ⟨nm,δ'⟩:=pr
    rw [hbx] at e
    dsimp only at e
    split at e
    rotate_left
    · cases e
    rename_i hcn
    obtain ⟨⟨fl,δ2⟩,e2,e⟩:=bind_some e
    cases e
    obtain ⟨wC,hW,FW,L⟩:=O.ex
    obtain ⟨C,F,hsub⟩:=L.get hcn
    have hhd:=I.ok.hd hcalm
    refine wpAny_Try_except (wpAny_mono (hx (X.pn ++ pins) _ [] s σ H ⟨fun _ _=>False,fun _ _=>False,fun _ _=>False,fun _ _=>False⟩ (Inv.toT I _) ⟨H₀,Z₀,Z,δ,(nm,δ'),hh,hbx,?_⟩) (fun f s1 q=>?_) fun _ _ z=>z)
    rotate_left
    · cases f with
      | next=>obtain ⟨_,_,_,q⟩:=q; exact q.elim
      | brk=>obtain ⟨_,_,_,q⟩:=q; exact q.elim
      | cont=>obtain ⟨_,_,_,q⟩:=q; exact q.elim
      | ret u=>obtain ⟨_,_,_,_,_,q⟩:=q; exact q.elim
    intro pins' σ' H' Z' s1 e1 s2 hh' sm I1 fg
    cases fg with
    | made hm _ _ _ _=>cases hm
    | @thrown x C' H2 Z2 hC' he T nw hx2 hxn=>
      subst he
      have:C' = C:=by have:=hC'.symm.trans F.nm; simpa using this
      subst this
      have I1:Inv X pins σ' H' s1:=Inv.ofT I1
      have T:Thrown X.prog X.w X.stack H' s1 x C' H2 s2:=T
      have ff:∀ b ∈ frs X.stack,∃ o,s1.heap.get? b = some o ∧ ∀ vs,o.data ≠ .fields vs:=fun b hb=>(I1.stack.mem hb).2
      obtain ⟨B,t,fl0,mv⟩:=T.move ff I1.stkFree
      have fl1:=fl0
      rw [hstk] at fl1
      refine jmX (by rw [I1.ok.frames,hstk]) hfrm fl1 fun h4 held4 sm4=>?_
      refine jkc held4 fun h5 fl5 sm5=>?_
      have fl5':=fl5
      rw [← hstk] at fl5'
      have T5:=mv h5 t fl5' (sm4.trans sm5)
      have I5:Inv X pins σ' H2 { s2 with heap:=h5 }:=I1.call' T5.os T5.un T5.hok T5.bare (fun _ z=>nomatch z)
      have hmW:=PySem.W.mg_of I.ok.mod.kin I.ok.mod.glob hW
      refine wpAny_handleBy_cons (codeAny_handlers_test (jfz (X:=cxH X x) (Inv.toH I5 x) hgW hmW ?_ hdb)) (by intro q; cases q)
      obtain ⟨oe,hoe,hoec⟩:=fl5.there
      refine jnh I5.kIn F FW hsub hoe hoec (codeAny_handlers_suite_as ?_)
      refine jii fl5 fun h6 fl6 sm6=>?_
      have fl6':=fl6
      rw [← hstk] at fl6'
      have T6:=mv h6 t fl6' ((sm4.trans sm5).trans sm6)
      have I6:Inv X pins σ' H2 { s2 with heap:=h6 }:=I1.call' T6.os T6.un T6.hok T6.bare (fun _ z=>nomatch z)
      obtain ⟨ob,hob,_,hF⟩:=(T6.hok x _ T6.is).1
      have I6':Inv X pins σ' (upd H2 x (.frz ob (exO x C'))) { s2 with heap:=h6 }:=Inv.still I6 T.is hob
      refine jf8 (X:=cxH X x) (v:=.ref x) (u:=.ref x) (Inv.toH I6' x) hN hi (.inl hloc) rfl (fun s7 I7=>?_) (.inr hloc)
      have nw':=nw.still (ob:=ob) hh'.zh hx2 hxn
      have hh7:Hold X.K H₀ Z₀ (upd Z2 x (.frz ob (exO x C'))) (δ'.set i (.fz (exD nm))) (σ'.set i (some (.ref x))) (upd H2 x (.frz ob (exO x C'))):=(hh'.new nw').set (.opq (.exc hC' (.inr ⟨ob,jaF⟩)))
      refine wpAny_mono (hs x ob C' hF pins s7 _ _ ⟨fun σ8 H8=>D.nx (σ8.set i none) H8,D.rt,fun σ8 H8=>D.bk (σ8.set i none) H8,fun σ8 H8=>D.ct (σ8.set i none) H8⟩ I7 ⟨H₀,Z₀,_,_,(fl,δ2),hh7,jaF,e2,fun σ8 H8 Z8 hh8 t8=>?_⟩) (fun f s8 q=>?_) fun _ _ z=>False.elim z
      · have:=k (σ8.set i none) H8 Z8 (hh8.unset i) ((sm.trans nw'.z).trans t8)
        cases fl <;> exact this
      · cases f with
        | next=>
          obtain ⟨σ8,H8,I8,q⟩:=q
          exact jkG (Inv.ofH hhd I8) hN hi hloc fun s9 I9=>⟨_,H8,I9,q⟩
        | brk=>
          obtain ⟨σ8,H8,I8,q⟩:=q
          exact jkG (Inv.ofH hhd I8) hN hi hloc fun s9 I9=>⟨_,H8,I9,q⟩
        | cont=>
          obtain ⟨σ8,H8,I8,q⟩:=q
          exact jkG (Inv.ofH hhd I8) hN hi hloc fun s9 I9=>⟨_,H8,I9,q⟩
        | ret u=>
          obtain ⟨v,σ8,H8,I8,rv,q⟩:=q
          exact jkG (Inv.ofH hhd I8) hN hi hloc fun s9 I9=>⟨v,_,H8,I9,rv,q⟩
end
end VL
set_option Elab.async false
set_option linter.all false
set_option maxRecDepth 100000
set_option maxHeartbeats 4000000
namespace VL
open PySem PySem.Spec PyProof.Rows L2
def jsi:Sl → Bool
  | .own _=>true
  | _=>false
@[simp] theorem jvB (d:D):jsi (.fz d) = false:=rfl
@[simp] theorem jvA:jsi .un = false:=rfl
def jsH:Nat → Dv → Bool
  | _,[]=>true
  | 0,_ :: r=>r.all fun s=>!jsi s
  | n + 1,s :: r=>!jsi s && jsH n r
@[simp] theorem jt7 (n:Nat):jsH n [] = true:=by cases n <;> rfl
@[simp] theorem jsF (s:Sl) (r:Dv):jsH 0 (s :: r) = r.all fun s=>!jsi s:=rfl
@[simp] theorem jsG (n:Nat) (s:Sl) (r:Dv):jsH (n + 1) (s :: r) = (!jsi s && jsH n r):=rfl
end VL
set_option Elab.async false
set_option linter.all false
set_option maxRecDepth 100000
set_option maxHeartbeats 4000000
namespace VL
open PySem PySem.Spec PyProof.Rows L2
@[simp] def jwt (f:Dv → Option D) (u:Dv → Option Str):Dv → Option Str:=fun δ=>(f δ).bind fun _=>u δ
section
variable {X:Cx} {a b:Expr} {f1 f2:Dv → Option D} {pos apos:Pos}
variable {m:Bool} {e:Expr} {es:List Expr} {f:Dv → Option D} {fx:Dv → Option Str} {x1:Nat}
end
end VL
set_option Elab.async false
set_option linter.all false
set_option maxRecDepth 100000
set_option maxHeartbeats 4000000
namespace VL
open PySem PySem.Spec PyProof.Rows L2
@[simp] def jw3 (i:Nat) (f:Dv → Option D):Sf:=fun δ=>(f δ).bind fun v=>(jul v).bind fun es=>(slO δ[i]?).bind fun ds=>if ds.length + es.length ≤ sizeLine then some (.nx,δ.set i (.ow (ds ++ es))) else none
structure CalF (P:Program) (w:World) (K:PySem.W.Frag) (mg:Str → Option Value) (base:Heap) (x:Str) (k:Nat) (g:List D → Option D):Prop where
  ex:∃ (fa:Addr) (fd:FuncData) (ps:List Str),FnOk P w K mg base CX0 k fa fd ps (spD K g) ∧ PySem.W.nsIn K mainGlobals x = some (some (.ref fa)) ∧ mg x = some (.ref fa) ∧ PySem.W.keepIn K (.ref fa) = true ∧ Binds K fd ps []
structure Fnm (K:PySem.W.Frag) (mg:Str → Option Value) (x:Str):Prop where
  ex:∃ fa,PySem.W.nsIn K mainGlobals x = some (some (.ref fa)) ∧ mg x = some (.ref fa)
section
variable {X:Cx} {e:Expr} {es:List Expr} {p pos:Pos} {fs:Dv → Option (List D)}
end
section
variable {X:Cx}
end
section
variable {X:Cx} {e:Expr} {f:Dv → Option D} {p pos apos:Pos}
end
theorem BlkOk.none {on:List (Str × NameKind)} {ON:List Str} {scope:Scope} {vars:List Str} (hk:scope.kind = .function) (hc:∀ y ∈ scope.names,y.2 ≠ .cell) (hn:∀ y ∈ scope.names,y.2 = .local → scope.names.lookup y.1 = some .local) (hf:∀ y ∈ scope.names,y.2 ≠ .free):BlkOk on ON scope vars []:=
  ⟨hk,hc,hn,fun y hy e=>absurd e (hf y hy),fun p hp=>(nomatch hp)⟩
end VL
set_option Elab.async false
set_option linter.all false
set_option maxRecDepth 100000
set_option maxHeartbeats 4000000
namespace VL
open PySem PySem.Spec PyProof.Rows L2
section
variable {X:Cx}
variable {a b:Expr} {pos:Pos} {f1 f2:Dv → Option D}
end
end VL
set_option Elab.async false
set_option linter.all false
set_option maxRecDepth 100000
set_option maxHeartbeats 4000000
namespace VL
open PySem PySem.Spec PyProof.Rows L2
structure BlkOkC (on:List (Str × NameKind)) (ON:List Str) (scope:Scope) (m:Str) (vars:List Str) (caps:List (Nat × Str)):Prop where
  kind:scope.kind = .function
  one:(scope.names.filter fun y=>y.2 == NameKind.cell) = [(m,NameKind.cell)]
  names:∀ y ∈ scope.names,y.2 = .local → scope.names.lookup y.1 = some .local
  free:∀ y ∈ scope.names,y.2 = .free → on.lookup y.1 = some .cell ∨ on.lookup y.1 = some .free
  cap:∀ p ∈ caps,ON[p.1]? = some p.2 ∧ scope.names.lookup p.2 = some .free
  mc:scope.names.lookup m = some .cell
section
variable {X:Cx} {pins:List (Addr × Obj)} {σ:St} {H H':Hp} {s s':Shared} {scope:Scope} {m:Str} {vars:List Str} {caps:List (Nat × Str)} {fp:List Addr} {C:Addr}
theorem BlkOkC.cells (B:BlkOkC X.env.scope.names X.N scope m vars caps) (I:Inv X pins σ H s):∀ y ∈ scope.names,y.2 = .free → ∃ c,X.env.cells.lookup y.1 = some c:=fun y hy e=>I.ok.has y.1 (B.free y hy e)
end
section
variable {X:Cx} {scope:Scope} {m:Str} {vars:List Str} {caps:List (Nat × Str)} {elt tg iter:Expr} {pos:Pos} {wi:TI} {g:TG} {te:TE}
end
section
variable {X:Cx} {scope:Scope} {m:Str} {vars:List Str} {caps:List (Nat × Str)} {elt tg iter:Expr} {pos:Pos} {g:TG} {fi:Dv → Option (List D)} {fe:Dv → Option D} {bv:D → Option (List D)}
end
end VL
set_option Elab.async false
set_option linter.all false
set_option maxRecDepth 100000
set_option maxHeartbeats 4000000
namespace VL
open PySem PySem.Spec PyProof.Rows L2
def spO (K:Fg) (g:List D → Option D):Sp:=fun vs H Q _=>∃ Z as ds,Same Z H ∧ Reps K Z vs as ∧ g as = some (.list ds) ∧ ∀ p us Z' H',New Z H Z' H' → H' p = none → Reps K Z' us ds → Q (.ref p) (upd H' p (.lst us))
section
variable {X:Cx} {e:Expr} {es:List Expr} {p pos:Pos} {st:Stmt} {sts:List Stmt} {f:Dv → Option (List D)} {fs:Dv → Option (List D)} {s:Sf}
end
section
variable {P:Program} {w:World} {K:PySem.W.Frag} {mg:Str → Option Value} {base:Heap}
structure CalO (P:Program) (w:World) (K:PySem.W.Frag) (mg:Str → Option Value) (base:Heap) (x:Str) (k:Nat) (g:List D → Option D) (dd:List D):Prop where
  ex:∃ (fa:Addr) (fd:FuncData) (ps:List Str) (ds:List Value) (dv:List V),FnOk P w K mg base CX0 k fa fd ps (spO K g) ∧ mg x = some (.ref fa) ∧ PySem.W.keepIn K (.ref fa) = true ∧ Binds K fd ps ds ∧ Vals dv ds ∧ ∀ Z,Reps K Z dv dd
end
section
variable {X:Cx} {e:Expr} {es:List Expr} {p pos:Pos} {fs:Dv → Option (List D)}
end
section
variable {X:Cx} {scope:Scope} {m:Str} {vars:List Str} {caps:List (Nat × Str)} {elt tg iter:Expr} {pos:Pos} {g:TG} {fi:Dv → Option (List D)} {fe:Dv → Option D} {bv:D → Option (List D)}
end
theorem jpR {α:Type}:∀ {us:List α},us.length = 1 → ∃ a,us = [a]
  | [a],_=>⟨a,rfl⟩
theorem jfQ {α:Type} {us:List α} (h:us.length = 2):∃ a b,us = [a,b]:=by
  cases us with
  | nil=>cases h
  | cons a r=>
    obtain ⟨b,rfl⟩:=jpR (Nat.succ.inj h)
    exact ⟨a,b,rfl⟩
theorem jk3 {α:Type} {us:List α} (h:us.length = 3):∃ a b c,us = [a,b,c]:=by
  cases us with
  | nil=>cases h
  | cons a r=>
    obtain ⟨b,c,rfl⟩:=jfQ (Nat.succ.inj h)
    exact ⟨a,b,c,rfl⟩
theorem jwi {α:Type} {us:List α} (h:us.length = 4):∃ a b c d,us = [a,b,c,d]:=by
  cases us with
  | nil=>cases h
  | cons a r=>
    obtain ⟨b,c,d,rfl⟩:=jk3 (Nat.succ.inj h)
    exact ⟨a,b,c,d,rfl⟩
theorem jwh {α:Type} {us:List α} (h:us.length = 5):∃ a b c d e,us = [a,b,c,d,e]:=by
  cases us with
  | nil=>cases h
  | cons a r=>
    obtain ⟨b,c,d,e,rfl⟩:=jwi (Nat.succ.inj h)
    exact ⟨a,b,c,d,e,rfl⟩
end VL
set_option Elab.async false
set_option linter.all false
set_option maxRecDepth 100000
set_option maxHeartbeats 4000000
namespace VL
open PySem PySem.Spec PyProof.Rows L2
section
variable {X:Cx} {e:Expr} {es:List Expr} {p p' pos:Pos} {st:Stmt} {sts body:List Stmt} {f f1 f2:Dv → Option (List D)} {s:Sf} {c:Expr} {ft:Dv → Option Bool}
end
theorem SV.sub {X:Cx} {st:Stmt} {f f':Sf} (h:SV X st f) (w:∀ δ r,f' δ = some r → f δ = some r):SV X st f':=PS.imp h fun D σ H q=>by
  obtain ⟨H₀,Z₀,Z,δ,r,hh,e,k⟩:=q
  exact ⟨H₀,Z₀,Z,δ,r,hh,w _ _ e,k⟩
end VL
set_option Elab.async false
set_option linter.all false
set_option maxRecDepth 100000
set_option maxHeartbeats 4000000
namespace VL
open PySem PySem.Spec PyProof.Rows L2
section
variable {X:Cx}
end
end VL
set_option Elab.async false
set_option linter.all false
set_option maxRecDepth 100000
set_option maxHeartbeats 4000000
namespace VL
open PySem PySem.Spec PyProof.Rows L2
def DefIn (K:PySem.W.Frag) (x y:Str) (st:Stmt):Prop:=∃ f fd,PySem.W.nsIn K mainGlobals x = some (some (.ref f)) ∧ FunV K y y st f fd .none ∧ PySem.W.keepIn K (.ref f) = true
def jat (x:Str) (st:Stmt) (ps:List Str):Prop:=∀ (kV doc pm:Value) (an:Option Addr) (cdv ct:Value) (us:List Value),us.length = ps.length → bindArgs (PySem.W.fnOf x x (jbP st) (jbi st) (jaf st) .none kV doc pm an cdv ct) ⟨us,[]⟩ = pure (ps.zip us)
section
variable {P:Program} {w:World} {K:PySem.W.Frag} {mg:Str → Option Value} {base h:Heap} {x y:Str} {st:Stmt} {k:Nat} {ps:List Str}
theorem DefIn.mk {f:Addr} {oc:Value} {od an:Option Addr} {osl:Array (Option Value)} {kV doc pm cdv ct:Value} (a:PySem.W.nsIn K mainGlobals x = some (some (.ref f))) (l:K.lookup f = some ⟨oc,od,.func (PySem.W.fnOf y y (jbP st) (jbi st) (jaf st) .none kV doc pm an cdv ct),osl⟩)
    (c:PySem.W.codeIn K cdv y = true) (k:PySem.W.keepIn K (.ref f) = true):DefIn K x y st:=⟨_,_,a,jgG l c k,k⟩
variable (D:DefIn K x y st) (X:K.In h) (G:h.Ns mainGlobals mg) (b:jat y st ps)
include D X G
include b
theorem DefIn.cal {g:List VL.D → Option VL.D} (ok:∀ f fd,FunV K y y st f fd .none → FnOk P w K mg base CX0 k f fd ps (spD K g)):Cal P w K mg base x k g []:=by
  obtain ⟨f,fd,a,F,hk⟩:=D
  exact Cal.mk0 (ok f fd F) (PySem.W.mg_of X G a) hk (F.binds b)
theorem DefIn.calX {g:List VL.D → Option Str} (ok:∀ f fd,FunV K y y st f fd .none → FnOk P w K mg base (CXX P w) k f fd ps (spX K g)):CalX P w K mg base x k g []:=by
  obtain ⟨f,fd,a,F,hk⟩:=D
  exact ⟨⟨_,_,_,[],[],ok f fd F,PySem.W.mg_of X G a,hk,F.binds b,.nil,fun _=>.nil⟩⟩
end
def bKw (fd:FuncData) (us:List Value):{kk:Option (Array Value) → Sem (List (Str × Value)) // bindArgs fd ⟨us,[]⟩ = seqItems? fd.defaults >>= kk}:=⟨_,rfl⟩
theorem FunV.bindsK {K:PySem.W.Frag} {x qual:Str} {st:Stmt} {f T:Addr} {fd:FuncData} {ps:List Str} {o:Obj} {items:Array Value} {n:Nat} {ds:List Value} (F:FunV K x qual st f fd (.ref T)) (ho:K.lookup T = some o) (hs:o.data = .seq items n) (nu:Nat) (hn:nu + ds.length = ps.length)
    (h:∀ (kV doc pm:Value) (an:Option Addr) (cdv ct:Value) (us:List Value),us.length = nu → (bKw (PySem.W.fnOf x qual (jbP st) (jbi st) (jaf st) (.ref T) kV doc pm an cdv ct) us).1 (some items) = pure (ps.zip (us ++ ds))):Binds K fd ps ds:=
  F.bindsD ho hs nu hn fun kV doc pm an cdv ct us hl=>⟨_,(bKw (PySem.W.fnOf x qual (jbP st) (jbi st) (jaf st) (.ref T) kV doc pm an cdv ct) us).2,h kV doc pm an cdv ct us hl⟩
end VL
set_option Elab.async false
set_option linter.all false
set_option maxRecDepth 100000
set_option maxHeartbeats 4000000
namespace VL
open PySem PySem.Spec PyProof.Rows L2
open AutoSeq1 (wpAny_loadPart')
section
variable {X:Cx}
end
end VL
set_option Elab.async false
set_option linter.all false
set_option maxRecDepth 100000
set_option maxHeartbeats 4000000
namespace VL
open PySem PySem.Spec PyProof.Rows L2
def isB (z:Bool):D → D → Option D
  | .bool a,.bool b=>some (.bool (z != (a == b)))
  | _,_=>none
@[simp] theorem jus (z a b:Bool):isB z (.bool a) (.bool b) = some (.bool (z != (a == b))):=rfl
section
variable {X:Cx}
end
end VL
set_option Elab.async false
set_option linter.all false
set_option maxRecDepth 100000
set_option maxHeartbeats 4000000
namespace VL
open PySem PySem.Spec PyProof.Rows L2
section
variable {m:Bool} {X:Cx} {e c:Expr} {es:List Expr} {f:Dv → Option D} {fs:Dv → Option (List D)} {ft:Dv → Option Bool} {fx:Dv → Option Str} {st:Stmt} {sts body orelse:List Stmt} {s1:Sf} {u u1 u2:Xf} {pos p:Pos}
end
end VL
set_option Elab.async false
set_option linter.all false
set_option maxRecDepth 100000
namespace L2
open PySem PySem.Spec PyProof.Rows
end L2
namespace L2
open PySem PySem.Spec PyProof.Rows
section
variable (P:Program) (w:World)
end
section
variable {P:Program} {w:World} {H H':Hp} {h h':Heap} {a:Addr} {o:HO}
end
section
variable {P:Program} {w:World} {H:Hp} {h h':Heap} {x e:Addr} {o':HO}
end
section
variable {fs fs' ex ex':List Addr} {H H1 H2:Hp} {h h1 h2 h':Heap} {a x e:Addr} {o:HO}
end
end L2
namespace L2
open PySem PySem.Spec PyProof.Rows
section
variable {X:Cx} {pins:List (Addr × Obj)} {σ:List (Option V)} {H H':Hp} {s:Shared} {h':Heap}
end
end L2
namespace L2
open PySem PySem.Spec PyProof.Rows
section
variable {X:Cx}
variable {a b:Expr} {ta tb:TE} {pos:Pos}
variable {tA tB':TT} {rest:List Expr}
end
end L2
namespace L2
open PySem PySem.Spec PyProof.Rows
section
variable {X:Cx} {pins:List (Addr × Obj)} {σ:St} {H:Hp} {s:Shared} {a:Addr} {xs ys:List V}
end
section
variable {X:Cx} {pins:List (Addr × Obj)} {σ:St} {H:Hp} {s:Shared} {E:Value → Shared → Prop}
end
section
variable {X:Cx} {st:Stmt} {rest:List Stmt} {t u:TS} {e:Expr} {te:TE} {pos:Pos}
end
section
variable {X:Cx} {pos:Pos}
end
section
variable {X:Cx} {pos:Pos}
end
end L2
namespace L2
open PySem PySem.Spec PyProof.Rows
section
variable {X:Cx} {tg:Expr}
end
end L2
namespace L2
open PySem PySem.Spec PyProof.Rows
section
variable {X:Cx} {a b c:Expr} {ta tb tc:TE} {pos:Pos}
end
section
variable {X:Cx} {a b c:Expr} {ta tb tc:TE} {pos:Pos}
end
end L2
namespace L2
open PySem PySem.Spec PyProof.Rows
section
variable {prog:Program} {w:World} {A:Around} {E:Value → Shared → Prop} {s:Shared} {K:PySem.W.Frag} {x dx C f:Addr} {mA:Str → Option Value} {name:Str} {v:Value}
end
section
variable {P:Program} {w:World} {H H':Hp} {h h':Heap} {a C dx:Addr} {fs fs':List (Str × V)}
end
section
variable {X:Cx} {pins:List (Addr × Obj)} {σ:St} {H:Hp} {s:Shared} {a C dx:Addr} {fs:List (Str × V)} {f:Str} {v:V} {A:Around} {E:Value → Shared → Prop}
end
section
variable {X:Cx} {o e value:Expr} {f:Str} {pos pos' tpos:Pos} {ta tv:TE}
end
section
variable {X:Cx} {pins:List (Addr × Obj)} {σ:St} {H:Hp} {s:Shared} {A:Around} {E:Value → Shared → Prop} {Q:Value → Shared → Prop} {c:Value} {b:Bool}
end
end L2
namespace L2
open PySem PySem.Spec PyProof.Rows
section
variable {X:Cx} {e:Expr} {es:List Expr} {te:TE} {t:TA} {pos:Pos}
end
section
variable {X:Cx} {pins:List (Addr × Obj)} {σ:St} {H:Hp} {s s':Shared}
end
section
variable {X:Cx} {CX:CXT} {k:Nat} {f C:Addr} {fd:FuncData} {ps:List Str} {sp:Sp} {dvs:List V} {ds:List Value} {E:XK} {x m:Str} {p pos apos:Pos} {e o:Expr} {es:List Expr} {ta:TE} {t:TA}
end
section
variable {X:Cx} {CX:CXT} {k:Nat} {f C:Addr} {fd:FuncData} {ps ks:List Str} {sp:Sp} {E:XK} {x m:Str} {p pos apos kpos:Pos} {e o:Expr} {es:List Expr} {kws:List Keyword} {te ta:TE} {t tk:TA} {nm:Option Str}
variable {g:List Value → List Value → List Value} {gV:List V → List V → List V}
end
end L2
namespace L2
open PySem PySem.Spec PyProof.Rows
section
variable {X:Cx} {x:Str} {p pos:Pos} {e:Expr} {es:List Expr} {t:TA} {id T:String} {r:List V → Hp → VK → Prop}
end
end L2
namespace L2
open PySem PySem.Spec PyProof.Rows
section
variable {κ:Type} [DecidableEq κ]
def jlV (kvs:List (κ × V)) (k:κ):Option V:=(kvs.find? fun kv=>decide (kv.1 = k)).map (·.2)
def jpL (kvs:List (κ × V)) (k:κ) (v:V):List (κ × V):=
  if (kvs.any fun kv=>decide (kv.1 = k)) = true then kvs.map (fun kv=>if kv.1 = k then (kv.1,v) else kv) else kvs ++ [(k,v)]
def jtN (kvs:List (κ × V)) (k:κ):List (κ × V):=kvs.filter fun kv=>decide (kv.1 ≠ k)
theorem jhP {p:κ × V} {r:List (κ × V)} {k:κ} (e:p.1 = k):jlV (p :: r) k = some p.2:=by simp [jlV,List.find?_cons,e]
theorem jhQ {p:κ × V} {r:List (κ × V)} {k:κ} (e:¬ p.1 = k):jlV (p :: r) k = jlV r k:=by simp [jlV,List.find?_cons,e]
theorem jkF (k:κ):∀ kvs:List (κ × V),(kvs.any fun kv=>decide (kv.1 = k)) = (jlV kvs k).isSome
  | []=>rfl
  | p :: r=>by
    rw [List.any_cons]
    by_cases e:p.1 = k
    · simp only [jhP e,decide_eq_true e,Bool.true_or,Option.isSome_some]
    · rw [jhQ e,decide_eq_false e,Bool.false_or]; exact jkF k r
theorem RelO.isSome_eq {o:Option V} {u:Option Value} (r:RelO o u):o.isSome = u.isSome:=by
  cases o with
  | none=>cases u with
    | none=>rfl
    | some _=>exact (show False from r).elim
  | some _=>cases u with
    | none=>exact (show False from r).elim
    | some _=>rfl
theorem RelO.getD {o:Option V} {u:Option Value} {d:V} {d':Value} (r:RelO o u) (rd:RelV d d'):RelV (o.getD d) (u.getD d'):=by
  cases o with
  | none=>cases u with
    | none=>exact rd
    | some _=>exact (show False from r).elim
  | some _=>cases u with
    | none=>exact (show False from r).elim
    | some _=>exact r
theorem KV.val {kvs:List (κ × V)} {vs:List (κ × Value)} (r:KV kvs vs) (k:κ):RelO (jlV kvs k) (valueAt vs k):=by
  unfold KV at r
  induction r with
  | nil=>exact True.intro
  | @cons p q ps qs h t ih=>
    obtain ⟨h1,h2⟩:=h
    by_cases e:p.1 = k
    · have e':q.1 = k:=h1.symm.trans e
      have b:valueAt (q :: qs) k = some q.2:=by simp [valueAt,List.find?_cons,e']
      rw [jhP e,b]; exact h2
    · have e':¬ q.1 = k:=fun z=>e (h1.trans z)
      have b:valueAt (q :: qs) k = valueAt qs k:=by simp [valueAt,List.find?_cons,e']
      rw [jhQ e,b]; exact ih
theorem KV.any {kvs:List (κ × V)} {vs:List (κ × Value)} (r:KV kvs vs) (k:κ):(kvs.any fun kv=>decide (kv.1 = k)) = vs.any fun kv=>decide (kv.1 = k):=by
  unfold KV at r
  induction r with
  | nil=>rfl
  | cons h t ih=>rw [List.any_cons,List.any_cons,ih,h.1]
theorem KV.repl {kvs:List (κ × V)} {vs:List (κ × Value)} (r:KV kvs vs) (k:κ) {y:V} {u:Value} (ry:RelV y u) :
    KV (kvs.map fun kv=>if kv.1 = k then (kv.1,y) else kv) (vs.map fun kv=>if kv.1 = k then (kv.1,u) else kv):=by
  unfold KV at r ⊢
  induction r with
  | nil=>exact .nil
  | @cons p q ps qs h t ih=>
    rw [List.map_cons,List.map_cons]
    refine .cons ?_ ih
    obtain ⟨h1,h2⟩:=h
    by_cases e:p.1 = k
    · rw [if_pos e,if_pos (h1.symm.trans e)]; exact ⟨h1,ry⟩
    · rw [if_neg e,if_neg (fun z=>e (h1.trans z))]; exact ⟨h1,h2⟩
theorem KV.put {kvs:List (κ × V)} {vs:List (κ × Value)} (r:KV kvs vs) (k:κ) {y:V} {u:Value} (ry:RelV y u):KV (jpL kvs k y) (stored vs k u):=by
  unfold jpL stored
  rw [r.any k]
  by_cases e:(vs.any fun kv=>decide (kv.1 = k)) = true
  · rw [if_pos e,if_pos e]; exact r.repl k ry
  · rw [if_neg e,if_neg e]; exact Paired.snoc r ⟨rfl,ry⟩
theorem KV.drop {kvs:List (κ × V)} {vs:List (κ × Value)} (r:KV kvs vs) (k:κ):KV (jtN kvs k) (without vs k):=by
  unfold KV at r ⊢
  unfold jtN without
  induction r with
  | nil=>exact .nil
  | @cons p q ps qs h t ih=>
    obtain ⟨h1,h2⟩:=h
    rw [List.filter_cons,List.filter_cons]
    by_cases e:p.1 = k
    · have a:¬ decide (p.1 ≠ k) = true:=by simp [e]
      have b:¬ decide (q.1 ≠ k) = true:=by simp [h1.symm.trans e]
      rw [if_neg a,if_neg b]; exact ih
    · have e':¬ q.1 = k:=fun z=>e (h1.trans z)
      have a:decide (p.1 ≠ k) = true:=by simp [e]
      have b:decide (q.1 ≠ k) = true:=by simp [e']
      rw [if_pos a,if_pos b]; exact .cons ⟨h1,h2⟩ ih
theorem KV.keys {kvs:List (κ × V)} {vs:List (κ × Value)} (r:KV kvs vs):kvs.map (·.1) = vs.map (·.1):=by
  unfold KV at r
  induction r with
  | nil=>rfl
  | cons h t ih=>rw [List.map_cons,List.map_cons,ih,h.1]
theorem KV.length {kvs:List (κ × V)} {vs:List (κ × Value)} (r:KV kvs vs):kvs.length = vs.length:=Paired.length r
end
theorem jtv {P:Program} {w:World} {k:Key} {u:Value} (r:RelV (kV k) u):(jdj P w).is k u = true:=by
  cases k with
  | inl i=>obtain ⟨t,e⟩:=(show ∃ t,u = Value.int i t from r); subst e; exact jj7 P w i t
  | inr x=>obtain ⟨t,e⟩:=(show ∃ t,u = Value.str x t from r); subst e; exact jj6 P w x t
theorem jjg {P:Program} {w:World}:∀ {ks:List Key} {us:List Value},Vals (ks.map kV) us → ItemsAre (jdj P w) ks us
  | [],_,r=>by rw [List.map_nil] at r; cases r; exact .nil
  | k :: ks,_,r=>by
    rw [List.map_cons] at r
    cases r with
    | cons h t=>exact .cons (jtv h) (jjg t)
abbrev KT (H:Hp):List (List Key × V) → List (List Key × Addr × Value) → Prop:=Paired fun p q=>p.1 = q.1 ∧ H q.2.1 = some (.tup (p.1.map kV)) ∧ RelV p.2 q.2.2
theorem KT.val {H:Hp} {kvs:List (List Key × V)} {xs:List (List Key × Addr × Value)} (r:KT H kvs xs) (k:List Key):RelO (jlV kvs k) ((atKey xs k).map (·.2)):=by
  induction r with
  | nil=>exact True.intro
  | @cons p q ps qs h t ih=>
    obtain ⟨h1,_,h2⟩:=h
    by_cases e:p.1 = k
    · have e':q.1 = k:=h1.symm.trans e
      have b:atKey (q :: qs) k = some q.2:=by simp [atKey,List.find?_cons,e']
      rw [jhP e,b]; exact h2
    · have e':¬ q.1 = k:=fun z=>e (h1.trans z)
      have b:atKey (q :: qs) k = atKey qs k:=by simp [atKey,List.find?_cons,e']
      rw [jhQ e,b]; exact ih
theorem KT.repl {H:Hp} {kvs:List (List Key × V)} {xs:List (List Key × Addr × Value)} (r:KT H kvs xs) (k:List Key) {y:V} {u:Value} (ry:RelV y u) :
    KT H (kvs.map fun kv=>if kv.1 = k then (kv.1,y) else kv) (xs.map (putAt k u)):=by
  induction r with
  | nil=>exact .nil
  | @cons p q ps qs h t ih=>
    rw [List.map_cons,List.map_cons]
    refine .cons ?_ ih
    obtain ⟨h1,h2,h3⟩:=h
    unfold putAt
    by_cases e:p.1 = k
    · rw [if_pos e,if_pos (h1.symm.trans e)]; exact ⟨h1,h2,ry⟩
    · rw [if_neg e,if_neg (fun z=>e (h1.trans z))]; exact ⟨h1,h2,h3⟩
theorem KT.put {H:Hp} {kvs:List (List Key × V)} {xs:List (List Key × Addr × Value)} (r:KT H kvs xs) (k:List Key) {b:Addr} {y:V} {u:Value} (hb:H b = some (.tup (k.map kV))) (ry:RelV y u) :
    KT H (jpL kvs k y) (storedH xs k b u):=by
  have e:(kvs.any fun kv=>decide (kv.1 = k)) = (atKey xs k).isSome:=by
    rw [jkF,(r.val k).isSome_eq,Option.isSome_map]
  unfold jpL storedH
  rw [e]
  by_cases q:(atKey xs k).isSome = true
  · rw [if_pos q,if_pos q]; exact r.repl k ry
  · rw [if_neg q,if_neg q]; exact Paired.snoc r ⟨rfl,hb,ry⟩
theorem KT.keeps {H H':Hp} {kvs:List (List Key × V)} {xs:List (List Key × Addr × Value)} (r:KT H kvs xs) (ht:∀ b ys,H b = some (.tup ys) → H' b = some (.tup ys)):KT H' kvs xs:=
  Paired.mapP r fun _ _ z=>⟨z.1,ht _ _ z.2.1,z.2.2⟩
section
variable {P:Program} {w:World} {H:Hp} {h:Heap} {a:Addr}
theorem jsN {u:HO} (ok:HOk P w H h) (e:Rd H a u):ObjOk P w H h a u:=e.ok ok
theorem jvL {kvs:List (Key × V)} (ok:HOk P w H h) (e:Rd H a (.dK kvs)):kvs.length ≤ sizeLine ∧ (a == sysModules) = false ∧ ∃ vs,KV kvs vs ∧ h.DictOf (jdj P w) a vs:=
  show ObjOk P w H h a (.dK kvs) from jsN ok e
theorem jqg {ks:List Key} (ok:HOk P w H h) (e:H a = some (.tup (ks.map kV))):(tupleKind (jdj P w)).is h ks a:=by
  obtain ⟨_,its,r,o,h1,h2,n,h3⟩:=(show ObjOk P w H h a (.tup (ks.map kV)) from ok a _ e)
  exact ⟨o,its.toArray,n,h1,h2,h3,by simpa using jjg r⟩
theorem jvK {kvs:List (List Key × V)} (ok:HOk P w H h) (e:Rd H a (.dT kvs)):kvs.length ≤ sizeLine ∧ (a == sysModules) = false ∧
    ∃ xs,KT H kvs xs ∧ h.DictOfH (tupleKind (jdj P w)) a xs:=by
  obtain ⟨z,y,xs,r,o,es,ep,h1,h2,h3,h4,h5⟩:=(show ObjOk P w H h a (.dT kvs) from jsN ok e)
  refine ⟨z,y,xs,r,o,es,ep,h1,h2,h3,h4,fun x hx=>?_,h5⟩
  have all:∀ {l:List (List Key × V)} {m:List (List Key × Addr × Value)},KT H l m → ∀ x ∈ m,(tupleKind (jdj P w)).is h x.1 x.2.1:=by
    intro l m q
    induction q with
    | nil=>intro x hx; exact nomatch hx
    | @cons p q ps qs hq t ih=>
      intro x hx
      rcases List.mem_cons.mp hx with e | hx
      · subst e
        exact jqg ok (by rw [← hq.1]; exact hq.2.1)
      · exact ih x hx
  exact all r x hx
end
def DGet (H:Hp) (a:Addr) (y:V) (r:Option V):Prop:=
  (∃ kvs k,Rd H a (.dK kvs) ∧ y = kV k ∧ r = jlV kvs k) ∨ ∃ kvs k b,Rd H a (.dT kvs) ∧ y = .ref b ∧ H b = some (.tup (k.map kV)) ∧ r = jlV kvs k
def DPut (H:Hp) (a:Addr) (y v:V) (H':Hp):Prop:=
  (∃ kvs k,H a = some (.dK kvs) ∧ y = kV k ∧ kvs.length < sizeLine ∧ H' = upd H a (.dK (jpL kvs k v))) ∨
  ∃ kvs k b,H a = some (.dT kvs) ∧ y = .ref b ∧ H b = some (.tup (k.map kV)) ∧ kvs.length < sizeLine ∧ H' = upd H a (.dT (jpL kvs k v))
theorem DGet.k {H:Hp} {a:Addr} {kvs:List (Key × V)} {k:Key} (e:H a = some (.dK kvs)):DGet H a (kV k) (jlV kvs k):=.inl ⟨kvs,k,.inl e,rfl,rfl⟩
theorem DGet.t {H:Hp} {a b:Addr} {kvs:List (List Key × V)} {k:List Key} (e:H a = some (.dT kvs)) (eb:H b = some (.tup (k.map kV))):DGet H a (.ref b) (jlV kvs k):=.inr ⟨kvs,k,b,.inl e,rfl,eb,rfl⟩
theorem DPut.k {H:Hp} {a:Addr} {kvs:List (Key × V)} {k:Key} {v:V} (e:H a = some (.dK kvs)) (hl:kvs.length < sizeLine):DPut H a (kV k) v (upd H a (.dK (jpL kvs k v))):=.inl ⟨kvs,k,e,rfl,hl,rfl⟩
theorem DPut.t {H:Hp} {a b:Addr} {kvs:List (List Key × V)} {k:List Key} {v:V} (e:H a = some (.dT kvs)) (eb:H b = some (.tup (k.map kV))) (hl:kvs.length < sizeLine) :
    DPut H a (.ref b) v (upd H a (.dT (jpL kvs k v))):=.inr ⟨kvs,k,b,e,rfl,eb,hl,rfl⟩
section
variable {X:Cx} {pins:List (Addr × Obj)} {σ:St} {H:Hp} {s:Shared} {a:Addr} {y v:V} {u r:Value} {o:Option V} {A:Around} {E:Value → Shared → Prop}
theorem Inv.big (I:Inv X pins σ H s):sysModules < s.heap.objs.size:=by
  have h:mainGlobals < s.heap.objs.size:=(I.mod.glob.keeps I.bk).lt
  exact Nat.lt_trans (by decide) h
theorem jwo {Q:Value → Shared → Prop} (hu:A.units + 1 < cLine) (I:Inv X pins σ H s) (g:DGet H a y o) (ry:RelV y u) (h:∀ s',Inv X pins σ H s' → Q (.bool o.isSome) s') :
    wpAny (model X.prog X.w) A (compareOp .In u (.ref a)) Q E s:=by
  rcases g with ⟨kvs,k,e,ey,l⟩ | ⟨kvs,k,b,e,ey,eb,l⟩
  · subst ey
    obtain ⟨z,hd,vs,rel,dd⟩:=jvL I.hok e
    refine wpAny_in_of (jtv ry) hd dd.mapOf ?_
    rw [← (rel.val k).isSome_eq,← l]
    exact h _ (I.tok _)
  · subst ey
    cases (show u = Value.ref b from ry)
    obtain ⟨z,hd,xs,rel,dd⟩:=jvK I.hok e
    refine wpAny_in_heap (tupleKind_room_in1 hu) (jqg I.hok eb) hd dd ?_
    have q:=(rel.val k).isSome_eq
    rw [Option.isSome_map] at q
    rw [← q,← l]
    exact h _ (I.tok _)
end
section
variable {X:Cx} {pins:List (Addr × Obj)} {σ:St} {H:Hp} {s:Shared} {a:Addr} {kvs:List (Key × V)} {k:Key} {u:Value} {A:Around} {E:Value → Shared → Prop}
end
section
variable {X:Cx} {o i e value:Expr} {pos pos' tpos:Pos} {td ty tv:TE}
end
section
variable {X:Cx} {pos:Pos}
end
structure M1 (X:Cx) (o:Expr) (m:Str) (apos:Pos) (e:Expr) (cpos:Pos):Prop where
  base:attributeBase o m X.env (eval o X.env) = eval o X.env
  few:((backTo cpos (starEach [e] X.env)).all (fun x=>!x.1) && (backToKw cpos (keywordEach [] X.env)).all (fun x=>x.1.isSome)
    && decide (([e]:List Expr).length + ([]:List Keyword).length + (if ([]:List Keyword).isEmpty then 0 else 1) < 30)) = true
  line:(apos.endLine == cpos.line) = true
  trees:backTo cpos (starEach [e] X.env) = [(false,eval e X.env)]
structure M2 (X:Cx) (o:Expr) (m:Str) (apos:Pos) (e f:Expr) (cpos:Pos):Prop where
  base:attributeBase o m X.env (eval o X.env) = eval o X.env
  few:((backTo cpos (starEach [e,f] X.env)).all (fun x=>!x.1) && (backToKw cpos (keywordEach [] X.env)).all (fun x=>x.1.isSome)
    && decide (([e,f]:List Expr).length + ([]:List Keyword).length + (if ([]:List Keyword).isEmpty then 0 else 1) < 30)) = true
  line:(apos.endLine == cpos.line) = true
  trees:backTo cpos (starEach [e,f] X.env) = [(false,eval e X.env),(false,eval f X.env)]
section
variable {X:Cx} {pins:List (Addr × Obj)} {σ:St} {H:Hp} {s:Shared} {a:Addr} {y d:V} {u r:Value} {o:Option V} {A:Around} {E:Value → Shared → Prop}
end
section
variable {X:Cx} {o e f:Expr} {apos cpos:Pos} {td ty tx:TE}
end
section
variable {X:Cx} {pins:List (Addr × Obj)} {σ:St} {H:Hp} {s:Shared} {a:Addr} {kvs:List (Key × V)} {A:Around} {E:Value → Shared → Prop}
end
section
variable {X:Cx} {pins:List (Addr × Obj)} {σ:St} {H:Hp} {s:Shared} {a:Addr} {y:V} {u:Value} {A:Around} {E:Value → Shared → Prop}
end
end L2
namespace Att
open PySem PySem.W PySem.Calls PyProof.Rows
section
variable {prog:Program} {w:World} {A:Around} {E:Value → Shared → Prop} {s:Shared} {K:Frag}
end
end Att
namespace L2
open PySem PySem.Spec PyProof.Rows
end L2
namespace L2
open PySem PySem.Spec PyProof.Rows
end L2
namespace L2
open PySem PySem.Spec PyProof.Rows
section
variable {P:Program} {w:World} {K:PySem.W.Frag} {mg:Str → Option Value} {base:Heap}
end
section
variable {X:Cx}
end
section
variable {κ:Type} [DecidableEq κ]
end
end L2
set_option Elab.async false
set_option linter.all false
set_option maxRecDepth 100000
set_option maxHeartbeats 4000000
namespace VL
open PySem PySem.Spec PyProof.Rows L2
def juo:D → Option Key
  | .int i=>some (.inl i)
  | .str x=>some (.inr x)
  | _=>none
@[simp] theorem jun (i:Int):juo (.int i) = some (.inl i):=rfl
def slK:Option Sl → Option (List (Key × D))
  | some (.own (.d es))=>some es
  | _=>none
@[simp] theorem jv5 (es:List (Key × D)):slK (some (.od es)) = some es:=rfl
section
variable {X:Cx} {e b c:Expr} {p pos tpos apos cpos:Pos} {f fk fv fx:Dv → Option D}
end
end VL
set_option Elab.async false
set_option linter.all false
set_option maxRecDepth 100000
set_option maxHeartbeats 4000000
namespace VL
open PySem PySem.Spec PyProof.Rows L2
theorem jeZ:∀ {out:List Value} {l:List Int},IntsAre out l → Vals (l.map V.int) out
  | _,_,.nil=>.nil
  | _,_,.cons n t r=>.cons ⟨t,rfl⟩ (jeZ r)
section
variable {X:Cx}
variable {e:Expr} {p p2 pos pos2:Pos} {te:TE} {f:Dv → Option D}
end
end VL
set_option Elab.async false
set_option linter.all false
set_option maxRecDepth 100000
set_option maxHeartbeats 4000000
namespace VL
open PySem PySem.Spec PyProof.Rows L2
section
variable {prog:Program} {w:World} {A:Around} {E:Value → Shared → Prop} {s:Shared}
structure ZG (xs ys:Array Value) (lo:Addr) (h:Heap) (as:List Addr):Prop where
  above:∀ a ∈ as,lo ≤ a
  rise:as.Pairwise (· < ·)
  pairs:∀ (j:Nat) (a:Addr),as[j]? = some a → ∃ x y,xs[j]? = some x ∧ ys[j]? = some y ∧ IsPair h a x y
end
end VL
set_option Elab.async false
set_option linter.all false
set_option maxRecDepth 100000
set_option maxHeartbeats 4000000
namespace VL
open PySem PySem.Spec PyProof.Rows L2
def juB:List D → Option D
  | [.list a,.list b]=>some (.list (List.zipWith (fun x y=>.tuple [x,y]) a b))
  | _=>none
@[simp] def oLD (fs:Dv → Option (List D)) (g:List D → Option D):Dv → Option D:=fun δ=>(fs δ).bind g
@[simp] theorem juA (a b:List D):juB [.list a,.list b] = some (.list (List.zipWith (fun x y=>.tuple [x,y]) a b)):=rfl
section
variable {prog:Program} {w:World} {A:Around} {s:Shared} {R:Result → Shared → Prop} {z TI TO i1 i2 l1 l2 S lo:Addr} {xs ys:Array Value}
end
section
variable {prog:Program} {w:World} {A:Around} {E:Value → Shared → Prop} {s:Shared} {z TI TO i1 i2 l1 l2:Addr} {xs ys:Array Value}
end
section
variable {X:Cx} {e1 e2:Expr} {p p2 pos pos2:Pos} {ta:TA} {fs:Dv → Option (List D)}
theorem New.many {Z H H':Hp} (zh:Same Z H) (ext:∀ b,H b ≠ none → H' b = H b):New Z H (fun b=>if H b = none then H' b else Z b) H' where
  z:=fun b u e=>by
    have:H b = some u:=zh b u e
    show (if H b = none then _ else _) = _
    rw [if_neg (by rw [this]; simp)]; exact e
  h:=fun b u e=>by rw [ext b (by rw [e]; simp),e]
  zh:=fun b u e=>by
    have e:(if H b = none then H' b else Z b) = some u:=e
    split at e
    · exact e
    · rename_i n
      rw [ext b n]; exact zh b u e
  o:=fun b hb=>if_neg hb
end
end VL
set_option Elab.async false
set_option linter.all false
set_option maxRecDepth 100000
set_option maxHeartbeats 4000000
namespace VL
open PySem PySem.Spec PyProof.Rows L2
def jqy:List (D × D) → Option (List (Key × Int))
  | []=>some []
  | (k,.int i) :: r=>(juo k).bind fun k=>(jqy r).bind fun l=>some ((k,i) :: l)
  | _=>none
theorem jlC (k:Key):juo (jrr k) = some k:=by cases k <;> rfl
@[simp] theorem jli:∀ es:List (Key × Int),jqy (jtP es) = some es
  | []=>rfl
  | (k,i) :: r=>by
    show (juo (jrr k)).bind _ = _
    rw [jlC]
    show (jqy (jtP r)).bind _ = _
    rw [jli r]; rfl
section
variable {X:Cx} {st:Stmt} {s1:Sf} {a b:Expr} {f fk:Dv → Option D} {p pos:Pos}
end
end VL
set_option Elab.async false
set_option linter.all false
set_option maxRecDepth 100000
set_option maxHeartbeats 4000000
namespace VL
open PySem PySem.Spec PyProof.Rows L2
def inG (neg:Bool):D → D → Option D
  | a,.list xs=>if shp a = true ∧ PyData.canLayAll0 xs = true then some (.bool (if neg = true then !inL a xs else inL a xs)) else none
  | a,.tuple xs=>if shp a = true ∧ PyData.canLayAll0 xs = true then some (.bool (if neg = true then !inL a xs else inL a xs)) else none
  | _,_=>none
theorem jwx {k:Nat} {A:Around} (r:Room k A):A.units + 65 < cLine:=by have:=r.un; omega
section
variable {X:Cx}
theorem jvM (hu:X.A.units + 65 < cLine):OpR X (compareOp .In) (rD X.K (inG false)):=by
  intro pins s σ H x y v u Q I rx ry q
  obtain ⟨Z,a,b,d,zh,ra,rb,e,k⟩:=q
  cases b with
  | list xs=>
    obtain ⟨hs,e⟩:=jfd e
    cases e
    obtain ⟨as,r1⟩:=ra.reads I zh rx (jdY hs.1)
    obtain ⟨bs,r2⟩:=rb.reads I zh ry hs.2
    exact SeqAt.in_list_reads r2 r1 hs.2 (jdY hs.1) (room_in_shaped hs.1 hu) ⟨.bl _,H,I,rfl,k _ Z H (New.refl zh) (.bl _)⟩
  | tuple xs=>
    obtain ⟨hs,e⟩:=jfd e
    cases e
    obtain ⟨as,r1⟩:=ra.reads I zh rx (jdY hs.1)
    obtain ⟨bs,r2⟩:=rb.reads I zh ry hs.2
    exact SeqAt.in_tuple_reads r2 r1 hs.2 (jdY hs.1) (room_in_shaped hs.1 hu) ⟨.bl _,H,I,rfl,k _ Z H (New.refl zh) (.bl _)⟩
  | _=>cases e
end
section
variable {X:Cx} {e1 e2:Expr} {p p2 pos pos2:Pos} {ta:TA} {f g:Dv → Option D}
end
end VL
set_option Elab.async false
set_option linter.all false
set_option maxRecDepth 100000
set_option maxHeartbeats 4000000
namespace VL
open PySem PySem.Spec PyProof.Rows L2
section
variable {prog:Program} {w:World} {A:Around} {E:Value → Shared → Prop} {s:Shared} {α:Type}
theorem jip:entryFor table "proto.unchain" = some Builtin.«proto.unchain»:=entryFor_of_tree (by kernel_rfl)
theorem jlq {e x:Addr} {oe ox:Obj} {vs us:Array Value} {Q:α → Shared → Prop} (hh:A.handled = some (.ref x)) (ne:x ≠ e) (hx:s.heap.get? x = some ox) (hd:ox.data = .fields vs) (h2:vs[2]? = some .none) (he:s.heap.get? e = some oe) (hde:oe.data = .fields us) (hsz:2 < us.size)
    (h:E (.ref e) { s with heap:=s.heap.update e (Obj.mapFields (·.setIfInBounds 2 (.ref x))) }):wpAny (model prog w) A (raiseNew (.ref e):Sem α) Q E s:=by
  unfold raiseNew
  refine wpAny_bind (wpAny_handled ?_)
  rw [hh]
  have n:(Value.ref x != Value.ref e) = true:=by simp [ne]
  dsimp only
  rw [if_pos n]
  refine wpAny_bind (wpAny_holding (wpAny_runValue (codeAny_builtin jip ?_)))
  unfold Builtin.«proto.unchain»
  dsimp only
  refine wpAny_bind (wpAny_field hx hd h2 ?_)
  rw [if_pos (by decide)]
  unfold ret
  refine wpAny_pure ?_
  dsimp only
  unfold updateField
  refine wpAny_bind (wpAny_bind (wpAny_load he ?_))
  rw [hde]
  dsimp only
  rw [if_pos hsz]
  exact wpAny_update he (wpAny_throw h)
theorem jhg {it x:Addr} {ox:Obj} {vs:Array Value} {y left step:Int} {Q:Option Value → Shared → Prop} (hh:A.handled = some (.ref x)) (hx:s.heap.get? x = some ox) (hd:ox.data = .fields vs) (h2:vs[2]? = some .none) (hit:IsRangeIter s.heap it y left step) (hleft:left ≤ 0)
    (hQ:∀ h',Heap.ExtBut it s.heap h' → Q none { s with heap:=h' }):wpAny (model prog w) A (pyNext (.ref it)) Q E s:=by
  have hT:s.TypeIs (.ref it) "range_iterator":=⟨_,hit,rfl⟩
  unfold pyNext
  refine wpAny_bind (wpAny_attempt (wpAny_callSpecial?_slot (name:=Str.ofString "__next__") hT PySem.F.slot_range_iterator_next (wpAny_call_entry PySem.F.slot_range_iterator_next hT PySem.F.entry_range_iterator_next ?_ (PySem.F.args_range_iterator_next_1 _))))
  show wpAny _ _ (field (.ref it) 0 >>= _) _ _ s
  refine wpAny_bind (wpAny_field hit rfl (x:=rawInt y) rfl ?_)
  show wpAny _ _ (field (.ref it) 1 >>= _) _ _ s
  refine wpAny_bind (wpAny_field hit rfl (x:=rawInt left) rfl ?_)
  show wpAny _ _ (field (.ref it) 2 >>= _) _ _ s
  refine wpAny_bind (wpAny_field hit rfl (x:=rawInt step) rfl ?_)
  show wpAny _ _ (if left ≤ 0 then _ else _) _ _ s
  rw [if_pos hleft]
  refine wpAny_bind (wpAny_rule (wpAny_bind ?_))
  show wpAny _ _ (newExc (.type "StopIteration") [] >>= _) _ _ _
  refine wpAny_bind ?_
  simp only [newExc,newTuple]
  refine wpAny_bind (wpAny_newObj_type ?_ (by size_fits))
  refine wpAny_bind (m:=firstArgMember _ _) (wpAny_of_eq (a:=Value.none) (by first | rfl | (simp only [firstArgMember]; rfl)) ?_)
  refine wpAny_newObj_type ?_ (by size_fits)
  have ltx:=Heap.lt_size hx
  refine jlq (x:=x) (show A.in1.handled = some (.ref x) from hh) ?_ (Heap.get?_push_of_some _ (Heap.get?_push_of_some _ hx)) hd h2 (Heap.get?_push_size _ rfl) rfl (by simp [ownMembersOf]) ?_
  · rw [Heap.size_push]; exact Nat.ne_of_lt (Nat.lt_succ_of_lt ltx)
  · refine wpAny_bind (wpAny_isInstance (T:="StopIteration") (b:=true) ⟨_,Heap.get?_update_self _ (Heap.get?_push_size _ rfl) rfl,rfl⟩ isSubtype_stop ?_)
    refine wpAny_pure (hQ _ fun b o hb e=>?_)
    have hlt:=Heap.lt_size e
    rw [Heap.get?_update_other _ _ (by rw [Heap.size_push]; exact Nat.ne_of_gt (Nat.lt_succ_of_lt hlt))]
    exact Heap.get?_push_of_some _ (Heap.get?_push_of_some _ e)
end
def Soft (X:Cx):Prop:=∃ x ob u vs,X.A.handled = some (.ref x) ∧ X.H₀ x = some (.frz ob u) ∧ ob.data = .fields vs ∧ vs[2]? = some .none
theorem Soft.blk {X:Cx} {pins:List (Addr × Obj)} {σ:St} {H:Hp} {s:Shared} {scope:Scope} {N:List Str} {C:Addr} {ex:List Addr} (I:Inv X pins σ H s) (h:Soft X):Soft (blk X scope N C s H ex):=by
  obtain ⟨x,ob,u,vs,h1,h2,h3,h4⟩:=h
  exact ⟨x,ob,u,vs,h1,I.base.frzs x ob u h2,h3,h4⟩
theorem Soft.at {X:Cx} {pins:List (Addr × Obj)} {σ:St} {H:Hp} {s:Shared} (I:Inv X pins σ H s) (h:Soft X):∃ x ob vs,X.A.handled = some (.ref x) ∧ s.heap.get? x = some ob ∧ ob.data = .fields vs ∧ vs[2]? = some .none:=by
  obtain ⟨x,ob,u,vs,h1,h2,h3,h4⟩:=h
  exact ⟨x,ob,vs,h1,(I.hok x _ (I.base.frzs x ob u h2)).1,h3,h4⟩
theorem jjP {P:Program} {w:World} {K:PySem.W.Frag} {tg:Expr} (it:Addr) (lo:Int) (n:Nat):TurnG Soft P w K tg (Itr lo n) [it] it (fun i h=>IsRangeIter h it (lo + (i:Nat) * 1) ((n:Int) - (i:Nat)) 1) where
  mem:=by simp
  obj:=fun i h st b hb=>by
    have e:b = it:=by simpa using hb
    subst e
    exact ⟨_,st,fun v z=>by
      have z':Data.fields _ = Data.cell v:=z
      cases z'⟩
  keep:=fun i h h' st k=>k it (by simp) _ st
  item:=by
    intro X hP hw hK hc i pins s σ H E I hf st hg
    subst hP hw hK
    obtain ⟨f0,f1,f2,f3,f4,f5⟩:=hf it (by simp)
    have hg:i < n:=hg
    refine wpAny_pyNext_range_item st (by omega) fun h' hit' sb=>?_
    have I1:Inv X pins σ H { s with heap:=h',toks:=s.toks + 1 }:=I.turned (fun b o hb e=>sb.extBut b o hb e) f0 f1 f3 f4 f5
    have e1:lo + ((i + 1:Nat):Int) * 1 = lo + (i:Int) * 1 + 1:=by push_cast; omega
    have e2:(n:Int) - ((i + 1:Nat):Int) = (n:Int) - (i:Int) - 1:=by push_cast; omega
    have st':IsRangeIter h' it (lo + ((i + 1:Nat):Int) * 1) ((n:Int) - ((i + 1:Nat):Int)) 1:=by rw [e1,e2]; exact hit'
    refine ⟨_,rfl,jpl (s:={ s with heap:=h',toks:=s.toks + 1 }) (n:="range_iterator") st' rfl rfl (by decide) ⟨.int (lo + i),H,I1,⟨s.toks,?_⟩,⟨rfl,rfl⟩,st',fun b hb=>(hf b hb).1⟩⟩
    rw [Int.mul_one]
  done:=by
    intro X hP hw hK hc i pins s σ H E I hf st hg
    subst hP hw hK
    obtain ⟨f0,f1,f2,f3,f4,f5⟩:=hf it (by simp)
    obtain ⟨x,ob,vs,h1,h2,h3,h4⟩:=hc.at I
    exact jhg h1 h2 h3 h4 st (by have:n ≤ i:=hg; omega) fun h' eb=>⟨rfl,I.turned (t':=s.toks) (fun b o hb e=>eb b o hb e) f0 f1 f3 f4 f5⟩
  self:=fun _ _ _ _ _ st h=>wpAny_pyIter_rangeiter st h
section
variable {X:Cx} {tg:Expr}
def jws (X:Cx) (pins:List (Addr × Obj)) (σ:St) (tg:Expr) (R:It → Hp → Prop) (itv:Value) (s2:Shared):Prop:=
  ∃ (it:Addr) (fp:List Addr) (tn:Nat → Heap → Prop) (J:It) (H':Hp),itv = .ref it ∧ Inv X pins σ H' s2 ∧ TurnG Soft X.prog X.w X.K tg J fp it tn ∧ tn 0 s2.heap ∧ (∀ b ∈ fp,jjM X pins H' b) ∧ R J H'
def PIS (X:Cx) (tg iter:Expr) (wi:TI):Prop:=
  ∀ (pins:List (Addr × Obj)) (s:Shared) (σ:St) (H:Hp) (R:It → Hp → Prop),Inv X pins σ H s → wi σ H R →
    wpAny (model X.prog X.w) X.A (eval iter X.env) (fun v s1=>wpAny (model X.prog X.w) X.A (pyIter v) (jws X pins σ tg R) X.xe s1) X.xe s
theorem PIS.imp {iter:Expr} {t t':TI} (h:PIS X tg iter t) (i:∀ σ H R,t' σ H R → t σ H R):PIS X tg iter t':=fun pins s σ H R I q=>h pins s σ H R I (i _ _ _ q)
def IVS (X:Cx) (tg iter:Expr) (f:Dv → Option (List D)):Prop:=PIS X tg iter (tVI X.K f)
theorem jmu {pins:List (Addr × Obj)} {σ:St} {H:Hp} {s:Shared} {R:It → Hp → Prop} {E:Value → Shared → Prop} {hi:Int} {t u v:Tok} {tk:Nat} (I:Inv X pins σ H s) (h3:-(2 ^ 62) ≤ hi) (h4:hi < 2 ^ 62)
    (q:R (Itr 0 hi.toNat) H):wpAny (model X.prog X.w) X.A (pyIter (.ref s.heap.objs.size)) (jws X pins σ tg R) E { s with heap:=s.heap.push { cls:=.type "range",data:=.fields #[.int 0 t,.int hi u,.int 1 v] },toks:=tk }:=by
  refine wpAny_pyIter_range (IsRange.new ..) (small_one (by omega) (by omega) h3 h4) ?_
  have I1:Inv X pins σ H { s with heap:=s.heap.push { cls:=.type "range",data:=.fields #[.int 0 t,.int hi u,.int 1 v] },toks:=tk }:=I.kept fun b o e=>Heap.get?_push_of_some _ e
  refine ⟨(s.heap.push { cls:=.type "range",data:=.fields #[.int 0 t,.int hi u,.int 1 v] }).objs.size,[(s.heap.push { cls:=.type "range",data:=.fields #[.int 0 t,.int hi u,.int 1 v] }).objs.size],_,_,H,rfl,
    I1.kept (t':=tk) fun b o e=>Heap.get?_push_of_some _ e,jjP _ 0 hi.toNat,?_,fun b hb=>?_,q⟩
  · have e1:(0:Int) + ((0:Nat):Int) * 1 = 0:=by simp
    have e2:((hi.toNat:Nat):Int) - ((0:Nat):Int) = Builtin.Range.rangeSize 0 hi 1:=by rw [rangeSize_one]; split <;> omega
    show IsRangeIter _ _ ((0:Int) + ((0:Nat):Int) * 1) (((hi.toNat:Nat):Int) - ((0:Nat):Int)) 1
    rw [e1,e2]
    exact Heap.get?_push_size _ rfl
  · have e:b = (s.heap.push { cls:=.type "range",data:=.fields #[.int 0 t,.int hi u,.int 1 v] }).objs.size:=by simpa using hb
    subst e
    exact I1.fpOk (Nat.le_refl _) (I1.hok.fresh (Nat.le_refl _))
theorem jls {a:Expr} {ta:TA} {p pos:Pos} (hg:Gl X "range") (hm:X.mg "range" = none) (ha:PA X [a] ta) (hs:starEach [a] X.env = [(false,eval a X.env)]:=by rfl):PIS X tg (.Call (.Name "range" p) [a] [] pos) (jtF ta):=by
  intro pins s σ H R I h
  refine Call_ (jje I hg hm boot_range (PyProof.Rows.callWith_type1 (thn (ha pos pins s σ H _ I h) fun us s1 ⟨vs,H1,I1,r1,q1⟩=>?_) hs rfl))
  obtain ⟨j,e,q1,q2,q⟩:=q1
  subst e
  cases r1 with
  | cons r rr=>
    cases rr
    obtain ⟨t,rfl⟩:=r
    exact call_range_1 (jmu I1 q1 q2 q)
theorem jlE {a:Expr} {fs:Dv → Option (List D)} {p pos:Pos} (hg:Gl X "range") (hm:X.mg "range" = none) (ha:AV X [a] fs) (hs:starEach [a] X.env = [(false,eval a X.env)]:=by rfl):IVS X tg (.Call (.Name "range" p) [a] [] pos) (oL fs jbm):=
  PIS.imp (jls hg hm ha hs) fun σ H R h=>by
    obtain ⟨H₀,Z₀,Z,δ,ds,hh,e,k⟩:=h
    obtain ⟨as,e1,e⟩:=bind_some e
    refine ⟨H₀,Z₀,Z,δ,as,hh,e1,fun vs Z1 H1 hh1 t1 r1=>?_⟩
    unfold jbm at e
    split at e
    · rename_i j
      split at e
      · rename_i hj
        cases e
        cases r1 with
        | cons q1 q2=>
          cases q2
          exact ⟨j,by rw [q1.int_eq],hj.2,hj.1,k _ Z1 H1 hh1 t1 jk4⟩
      · cases e
    · cases e
end
section
variable {X:Cx} {scope:Scope} {vars:List Str} {caps:List (Nat × Str)} {elt tg iter cnd:Expr} {pos:Pos} {g:TG} {fi:Dv → Option (List D)} {ft:Dv → Option Bool} {fe:Dv → Option D} {bv:D → Option (List D)}
theorem jpo (B:BlkOk X.env.scope.names X.N scope vars caps) (hc:Soft X) (hi:IVS X tg iter fi) (tk:jqs X.K g vars.length bv)
    (hg:∀ C s₀ H₀ ex,PG (blk X scope (vars ++ caps.map (·.2)) C s₀ H₀ ex) tg g) (hb:∀ C s₀ H₀ ex,TV (blk X scope (vars ++ caps.map (·.2)) C s₀ H₀ ex) cnd ft) (he:∀ C s₀ H₀ ex,EV (blk X scope (vars ++ caps.map (·.2)) C s₀ H₀ ex) elt fe) (hs:∀ x,foldedSetIterable iter X.env x = pure x:=by intro _; rfl) :
    EV X (.ListComp elt [⟨tg,iter,[cnd],0⟩] scope pos) (jfb fi caps bv ft fe):=by
  refine PE.imp (t:=jmf (tVI X.K fi) g (tVT X.K ft) (tV X.K fe) vars caps) ?_ fun _ _ _ h=>jhH tk h
  intro pins s σ H Q I h
  rw [eval_ListComp]
  refine wpAny_comprehension_free (use:=none) rfl hs (jcP (B.cells I)) B.kind B.names ?_
  show wpAny _ _ (eval iter X.env) _ _ s
  refine thn (hi pins s σ H _ I h) fun v s1 h1=>thn h1 fun itv s2 h2=>?_
  obtain ⟨it,fp,tn,J,H2,e,I2,T,st2,f2,W,⟨m0,w0⟩,turn⟩:=h2
  subst e
  exact jgM (Cm:=Soft) (tt:=tVT X.K ft) (te:=tV X.K fe) B hg hb he I2 T st2 f2 (fun _=>hc.blk I2) w0 turn (RR:=fun acc C=>compPost (model X.prog X.w) X.A X.xe none (EP X pins σ Q) acc C) fun D C s' m ns _ _ _ H' _ k q=>⟨m,ns,fun h' hs'=>⟨.ref D,H',k h' hs',rfl,q⟩⟩
end
structure RoomS (k:Nat) (A:Around):Prop where
  dp:A.depth + 3 * k + 5 < recursionLimit
  un:A.units + 16 * k + 200 < cLine
theorem jmt {k:Nat} {A:Around} (r:Room k A) (h:Option Value):RoomS k (A.mark h):=⟨r.dp,r.un⟩
theorem RoomS.deeper {k:Nat} {A:Around} (r:RoomS (k + 1) A) (env:Env):RoomS k (A.deeper env):=
  ⟨by have:=r.dp; show A.depth + 1 + 3 * k + 5 < _; omega,by have:=r.un; show A.units + 3 + 16 * k + 200 < _; omega⟩
theorem RoomS.depth {k:Nat} {A:Around} (r:RoomS k A):A.depth < recursionLimit:=by have:=r.dp; omega
theorem RoomS.units {k:Nat} {A:Around} (r:RoomS k A):A.units + 64 < cLine:=by have:=r.un; omega
structure FnS (P:Program) (w:World) (K:PySem.W.Frag) (mg:Str → Option Value) (base:Heap) (k:Nat) (f:Addr) (fd:FuncData) (ps:List Str) (g:List D → Option D):Prop where
  len:∀ as d,g as = some d → as.length = ps.length
  run:∀ (A:Around) (outer:List Env) (s:Shared) (H:Hp) (args:Args) (us:List Value) (vs:List V) (Q:VK) (x:Addr) (ob:Obj) (u:HO) (fl:Array Value),RoomS k A → Env0 P w K mg base A outer s H → A.handled = some (.ref x) → H x = some (.frz ob u) → ob.data = .fields fl → fl[2]? = some .none →
    BindsTo s fd args (ps.zip us) → Vals vs us → rDs K g vs H Q → codeAny (model P w) A (.call (.ref f) args) (fun r s'=>match r with | .ok (.ret u)=>CE outer P w H s Q u s' | _=>False) s
abbrev cxS (P:Program) (w:World) (K:PySem.W.Frag) (mg:Str → Option Value) (base:Heap) (N:List Str) (qual:Str) (scope:Scope) (f:Addr) (cd:Value) (A:Around) (outer:List Env) (s:Shared) (H:Hp):Cx:=
  { jg9 CX0 P w K mg base N qual scope f cd A outer s H (fun _ _ _=>False) with calm:=false,xe:=fun _ _=>False }
section
variable {P:Program} {w:World} {K:PySem.W.Frag} {mg:Str → Option Value} {base:Heap}
theorem jxI {x qual:Str} {st:Stmt} {f:Addr} {fd:FuncData} {dV:Value} {N ps:List Str} {k:Nat} {b:Sf} (F:FunV K x qual st f fd dV) (S:FnScope N ps (jaf st))
    (hb:∀ (cdv:Value) (A:Around) (outer:List Env) (s:Shared) (H:Hp),RoomS k (A.deeper (envOfC qual (jaf st) s.heap.objs.size f cdv)) → Soft (cxS P w K mg base N qual (jaf st) f cdv A outer s H) → BV (cxS P w K mg base N qual (jaf st) f cdv A outer s H) (jbi st) b) :
    FnS P w K mg base (k + 1) f fd ps (runB N ps.length b):=by
  obtain ⟨oc,od,kV,doc,pm,an,cdv,ct,osl,rfl,lk,hcd⟩:=F.ex
  have hlen:∀ as d,runB N ps.length b as = some d → as.length = ps.length:=fun as d h=>by
    unfold runB at h
    split at h
    · assumption
    · cases h
  refine ⟨hlen,fun A outer s H args us vs Q x ob u fl hr e0 ha hx hof hfl hbn r hsp=>?_⟩
  obtain ⟨Z,as,d,zh,rr,e,kk⟩:=hsp
  have hl:vs.length = ps.length:=by rw [rr.length]; exact hlen as d e
  have KX:K.In s.heap:=e0.mod.kin.keeps fun b o e=>(e0.bs b o e).1
  have lim:s.heap.NoLimit:=e0.mod.nolimit.keeps fun b o e=>(e0.bs b o e).1
  have hkind:∀ y ∈ ps.zip us,(jaf st).names.lookup y.1 = some .local ∨ ((jaf st).names.lookup y.1 = some .cell ∧ ((cellsFrom (s.heap.objs.size + 1) (jaf st).names []).lookup y.1).isSome = true):=fun ⟨n,v⟩ hy=>by
    rcases S.par n (List.of_mem_zip hy).1 with q | q
    · exact .inl q
    · exact .inr ⟨q,PySem.W.cellsFrom_some _ _ _ (.inl q)⟩
  refine codeAny_call_function hr.depth (KX _ _ lk) rfl S.co S.gen rfl (PySem.W.codeRec_of KX hcd) (hbn _ _ _ _ ?_)
  refine wpAny_newFunctionEnv_cells S.kind hkind fun env he s1 xx=>?_
  subst he
  refine ⟨lim.keeps xx.toInCall.keep,codeAny_func ?_⟩
  have e0':Env0 P w K mg base { A with handled:=none } outer s H:=⟨e0.frames,e0.mod,e0.bs,e0.bsz,e0.funs,e0.frf,e0.hok,e0.bare⟩
  have I0:=jjk (CX:=CX0) (qual:=qual) (f:=f) (cd:=cdv) (E:=fun _ _ _=>False) S rfl e0' hl r xx
  have I:Inv (cxS P w K mg base N qual (jaf st) f cdv A outer s H) [] (L2.start N vs) H s1:=
    ⟨⟨I0.ok.mod,I0.ok.kind,I0.ok.glob,I0.ok.blt,I0.ok.above,I0.ok.inj,I0.ok.has,I0.ok.cab,(fun z=>nomatch z),Around.frames_deeper e0.frames,I0.ok.stk,I0.ok.exf,I0.ok.bs,I0.ok.bsz,I0.ok.noex,I0.ok.exfs,I0.ok.funs,I0.ok.frf⟩,I0.os,I0.bare,I0.base,I0.loc,I0.cell,I0.free,I0.freeC,I0.pin,I0.hok,I0.len⟩
  have hsf:Soft (cxS P w K mg base N qual (jaf st) f cdv A outer s H):=⟨x,ob,u,fl,ha,hx,hof,hfl⟩
  have hh:=jfA (N:=N) zh rr
  have fin:∀ {σ':St} {H' Z':Hp} {δ':Dv},Hold K H Z Z' δ' σ' H' → Same Z Z' → New Z H Z' H':=fun h' z'=>⟨z',h'.h0,h'.zh,h'.zb⟩
  have hq:tVS K b { nx:=fun _ H'=>Q .non H',rt:=Q } (L2.start N vs) H:=by
    unfold runB at e
    split at e
    · obtain ⟨⟨fl,δ'⟩,e2,e⟩:=bind_some e
      cases fl with
      | nx=>cases e; exact ⟨H,Z,Z,_,_,hh,e2,fun σ' H' Z' h' z'=>kk _ Z' H' (fin h' z') .non⟩
      | rt d=>cases e; exact ⟨H,Z,Z,_,_,hh,e2,fun σ' H' Z' h' z' v rv=>kk v Z' H' (fin h' z') rv⟩
      | bk=>cases e
      | ct=>cases e
    · cases e
  refine wpAny_mono (hb cdv A outer s H (hr.deeper _) hsf [] s1 (L2.start N vs) H _ I hq) (fun fl s' hs=>?_) fun e s' hs=>False.elim hs
  have fin2:∀ {σ':St} {H':Hp} {v:V} {u:Value},Inv (cxS P w K mg base N qual (jaf st) f cdv A outer s H) [] σ' H' s' → RelV v u → Q v H' → CE outer P w H s Q u s':=
    fun {σ' H' v u} J rv q=>⟨v,H',J.os,J.bare,J.base,J.hok,rv,q⟩
  cases fl with
  | ret u=>
    obtain ⟨v,σ',H',J,rv,q⟩:=hs
    exact fin2 J rv q
  | next=>
    obtain ⟨σ',H',J,q⟩:=hs
    exact fin2 (v:=V.non) (u:=Value.none) J rfl q
  | brk=>
    obtain ⟨_,_,_,q⟩:=hs
    exact False.elim q
  | cont=>
    obtain ⟨_,_,_,q⟩:=hs
    exact False.elim q
structure CalS (P:Program) (w:World) (K:PySem.W.Frag) (mg:Str → Option Value) (base:Heap) (x:Str) (k:Nat) (g:List D → Option D):Prop where
  ex:∃ (fa:Addr) (fd:FuncData) (ps:List Str),FnS P w K mg base k fa fd ps g ∧ mg x = some (.ref fa) ∧ PySem.W.keepIn K (.ref fa) = true ∧ Binds K fd ps []
end
section
variable {X:Cx} {body:List Stmt} {b:Sf} {bx:Xf} {np hpos pos:Pos}
theorem jqI (i iy:Nat) {n W y fn:Str} {ns:List Str} {k:Nat} {g:List D → Option D} {yp fp ap cp sp:Pos} (O:Hnd X.K W ns) (Y:CalS X.prog X.w X.K X.mg X.base fn k g) (hr:Room k X.A) (hgW:Gl X W) (hgf:Gl X fn) (hN:X.N.Nodup) (hi:X.N[i]? = some n) (hloc:X.env.scope.names.lookup n = some .local) (hcalm:X.calm = true) (hstk:X.stack = X.env :: X.outer)
    (hb:BV X.nox body b) (hx:∀ pn E',BX false (cxT X pn E') body bx) (hy:X.N[iy]? = some y:=by rfl) (hly:X.env.scope.names.lookup y = some .local:=by rfl) (hfrm:X.env.frame = some X.env.locals:=by rfl) (hdb:(W == ("__debug__":Str)) = false:=by decide) (hdf:(fn == ("__debug__":Str)) = false:=by decide) (hdn:(n == ("__debug__":Str)) = false:=by decide) (hcn:(n == ("__classdict__":Str)) = false:=by decide)
    (he:starEach (.Name n ap :: []) X.env = (false,eval (.Name n ap) X.env) :: starEach [] X.env:=by rfl) (hpl:(backTo cp (starEach [] X.env)).any (·.1) = false:=by rfl) (hs:swapsWith (.Call (.Name fn fp) [.Name n ap] [] cp) (some (.Name y yp)) sp.line X.env = pure false:=by rfl) :
    SV X (.Try body [.ExceptHandler (some (.Name W np)) (some n) [.Assign [.Name y yp] (.Call (.Name fn fp) [.Name n ap] [] cp) sp] hpos] [] [] pos) (jr6 i ns b bx (jbl iy (os (jac (oV i) jas) g))):=by
  refine jqJ i O hgW hN hi hloc hcalm hstk hb hx (fun x ob C hF=>?_) hfrm hdb
  obtain ⟨fl,hfd,hf2⟩:=hF
  obtain ⟨fa,fd,ps,F,hm,hk,hbn⟩:=Y.ex
  have pe:PE (cxH X x) (.Call (.Name fn fp) [.Name n ap] [] cp) (fun σ H Q=>∃ H₀ Z₀ Z δ d,Hold X.K H₀ Z₀ Z δ σ H ∧ Z x = some (.frz ob (exO x C)) ∧ os (jac (oV i) jas) g δ = some d ∧ ∀ v Z' H',Hold X.K H₀ Z₀ Z' δ σ H' → Same Z Z' → Rep X.K Z' v d → Q v H'):=by
    intro pins s σ H Q I h
    obtain ⟨H₀,Z₀,Z,δ,d,hh,hz,e0,kk⟩:=h
    obtain ⟨as,e1,e0⟩:=bind_some e0
    refine wpAny_Call_Name_kw (jfz I hgf hm ?_ hdf)
    refine PySem.W.callWith_K (h₀:=X.base) I.ok.mod.kin hk (thn ((jab (jaa i hi (.inl hloc) hdn hcn) jae he:AV (cxH X x) [.Name n ap] _) cp pins s σ H (fun vs H1=>∃ Z1,Hold X.K H₀ Z₀ Z1 δ σ H1 ∧ Same Z Z1 ∧ Reps X.K Z1 vs as) I ⟨H₀,Z₀,Z,δ,as,hh,e1,fun vs Z1 H1 hh1 t1 r1=>⟨Z1,hh1,t1,r1⟩⟩) fun us s1 ⟨vs,H1,I1,r,Z1,hh1,t1,r1⟩=>⟨I1.kIn,?_⟩) he hpl
    have sp:rDs X.K g vs H1 Q:=⟨Z1,as,d,hh1.zh,r1,e0,fun v Z2 H2 n2 r2=>kk v Z2 H2 (hh1.new n2) (t1.trans n2.z) r2⟩
    have hl:us.length = ps.length:=by rw [← r.length,r1.length]; exact F.len _ _ e0
    refine wpAny_call (codeAny_mono (F.run (cxH X x).A X.stack s1 H1 ⟨us,[]⟩ us vs Q x ob (exO x C) fl (jmt hr _) I1.env0 rfl (hh1.zh _ _ (t1 _ _ hz)) hfd hf2 (by have:=hbn s1 us I1.kIn (by simpa using hl); simpa using this) r sp) fun res s' hq=>?_)
    cases res with
    | error ee=>exact False.elim hq
    | ok fl=>
      cases fl with
      | ret z=>exact I1.after hq
      | next=>exact False.elim hq
      | brk=>exact False.elim hq
      | cont=>exact False.elim hq
  refine jmv (PS.imp (jmw (X:=cxH X x) hN hy (.inl hly) pe hs (.inr hly)) fun D σ H h=>?_)
  obtain ⟨H₀,Z₀,Z,δ,r,hh,hz,e,kk⟩:=h
  obtain ⟨d,e1,e⟩:=bind_some e
  cases e
  exact ⟨H₀,Z₀,Z,δ,d,hh,hz,e1,fun v Z1 H1 hh1 s1 r1=>kk _ H1 Z1 (hh1.set r1) s1⟩
end
section
variable {P:Program} {w:World} {K:PySem.W.Frag} {mg:Str → Option Value} {base h:Heap} {x y:Str} {st:Stmt} {k:Nat} {ps:List Str}
theorem DefIn.calS (D:DefIn K x y st) (X:K.In h) (G:h.Ns mainGlobals mg) (b:jat y st ps) {g:List VL.D → Option VL.D} (ok:∀ f fd,FunV K y y st f fd .none → FnS P w K mg base k f fd ps g):CalS P w K mg base x k g:=by
  obtain ⟨f,fd,a,F,hk⟩:=D
  exact ⟨⟨_,_,_,ok f fd F,PySem.W.mg_of X G a,hk,F.binds b⟩⟩
end
end VL
set_option Elab.async false
set_option linter.all false
set_option maxRecDepth 100000
set_option maxHeartbeats 4000000
namespace VL
open PySem PySem.Spec PyProof.Rows L2
section
variable {K:Fg} {Z:Hp} {a:Addr} {ys:List V} (ha:Z a = some (.lst ys))
include ha
end
section
variable {K:Fg} {H₀ Z₀ Z H:Hp} {δ:Dv} {σ:St}
end
section
variable {X:Cx} {e c:Expr} {st:Stmt} {sts:List Stmt} {s1 s2:Sf} {f:Dv → Option D} {p pos apos:Pos}
end
section
variable {P:Program} {w:World} {K:PySem.W.Frag} {mg:Str → Option Value} {base:Heap}
end
end VL
set_option Elab.async false
set_option linter.all false
set_option maxRecDepth 100000
set_option maxHeartbeats 4000000
namespace MA
open PySem
theorem ji4 (x y:Int):Builtin.bitOr x y = 2 * Builtin.bitOr (x / 2) (y / 2) + (if x % 2 = 0 ∧ y % 2 = 0 then 0 else 1):=by
  unfold Builtin.bitOr Builtin.bitNot
  have h:=PySem.W.kbt_halves (-x - 1) (-y - 1)
  have hx:(-x - 1) / 2 = -(x / 2) - 1:=by omega
  have hy:(-y - 1) / 2 = -(y / 2) - 1:=by omega
  rw [hx,hy] at h
  rw [h]
  by_cases c:x % 2 = 0 ∧ y % 2 = 0
  · rw [if_pos c,if_pos (by omega)]; omega
  · rw [if_neg c,if_neg (by omega)]; omega
theorem jgb (n:Nat):(0:Int) < 2 ^ n:=by
  induction n with
  | zero=>decide
  | succ n ih=>rw [Int.pow_succ]; omega
theorem jd4 (x:Int) (n:Nat):x / 2 ^ (n + 1) = x / 2 / 2 ^ n:=by
  rw [Int.pow_succ,Int.mul_comm,Int.ediv_ediv_of_nonneg (by decide)]
theorem jdc (x:Int) (n:Nat):2 ^ (n + 1) ∣ x ↔ x % 2 = 0 ∧ 2 ^ n ∣ x / 2:=by
  constructor
  · rintro ⟨c,rfl⟩
    rw [Int.pow_succ]
    refine ⟨?_,c,?_⟩
    · rw [Int.mul_comm (2 ^ n) 2,Int.mul_assoc]; omega
    · rw [Int.mul_comm (2 ^ n) 2,Int.mul_assoc,Int.mul_ediv_cancel_left _ (by decide)]
  · rintro ⟨h,c,hc⟩
    refine ⟨c,?_⟩
    rw [Int.pow_succ,Int.mul_comm (2 ^ n) 2,Int.mul_assoc,← hc]
    omega
theorem jmG (n:Nat):∀ x y:Int,(2 ^ n ∣ Builtin.bitOr x y ↔ 2 ^ n ∣ x ∧ 2 ^ n ∣ y) ∧ (2 ^ n ∣ Builtin.bitOr x y → Builtin.bitOr x y / 2 ^ n = Builtin.bitOr (x / 2 ^ n) (y / 2 ^ n)):=by
  induction n with
  | zero=>intro x y; simp
  | succ n ih=>
    intro x y
    have h:=ji4 x y
    have hd:Builtin.bitOr x y / 2 = Builtin.bitOr (x / 2) (y / 2):=by rw [h]; split <;> omega
    have hm:Builtin.bitOr x y % 2 = 0 ↔ x % 2 = 0 ∧ y % 2 = 0:=by
      rw [h]
      by_cases c:x % 2 = 0 ∧ y % 2 = 0
      · rw [if_pos c]; constructor
        · intro _; exact c
        · intro _; omega
      · rw [if_neg c]; constructor
        · intro z; omega
        · intro z; exact absurd z c
    obtain ⟨i1,i2⟩:=ih (x / 2) (y / 2)
    constructor
    · rw [jdc,jdc,jdc,hd,hm,i1]
      constructor
      · rintro ⟨⟨a,b⟩,c,d⟩; exact ⟨⟨a,c⟩,b,d⟩
      · rintro ⟨⟨a,c⟩,b,d⟩; exact ⟨⟨a,b⟩,c,d⟩
    · intro q
      rw [jdc,hd] at q
      rw [jd4,jd4,jd4,hd,i2 q.2]
theorem jpH:∀ (n:Nat) (j:Int),j.natAbs ≤ n → j ≠ 0 → ∃ (t:Nat) (a:Int),j = 2 ^ t * (2 * a + 1)
  | 0,j,h,h0=>by omega
  | n + 1,j,h,h0=>by
    by_cases c:j % 2 = 0
    · obtain ⟨t,a,e⟩:=jpH n (j / 2) (by omega) (by omega)
      refine ⟨t + 1,a,?_⟩
      rw [Int.pow_succ,Int.mul_comm (2 ^ t) 2,Int.mul_assoc,← e]
      omega
    · exact ⟨0,j / 2,by simp; omega⟩
theorem jlc (t:Nat):Builtin.Int.intBits (2 ^ t) = t + 1:=by
  unfold Builtin.Int.intBits
  have h:(2:Int) ^ t ≠ 0:=Int.ne_of_gt (jgb t)
  have e:((2:Int) ^ t).natAbs = 2 ^ t:=by
    have:((2 ^ t:Nat):Int) = (2:Int) ^ t:=by simp
    rw [← this,Int.natAbs_natCast]
  rw [if_neg (by simpa using h),e,Nat.log2_two_pow]
def jqA (j most:Int):Int:=if j = 0 then most else if (Builtin.Int.intBits (Builtin.bitAnd j (-j)):Int) - 1 < most then (Builtin.Int.intBits (Builtin.bitAnd j (-j)):Int) - 1 else most
theorem jl4 (j most:Int) (hm:0 ≤ most):∃ t:Nat,jqA j most = t ∧ (t:Int) ≤ most ∧ 2 ^ t ∣ j ∧ ((t:Int) < most → ¬ j / 2 ^ t % 2 = 0):=by
  unfold jqA
  by_cases h:j = 0
  · subst h
    refine ⟨most.toNat,by rw [if_pos rfl]; omega,by omega,Int.dvd_zero _,fun z=>by omega⟩
  · obtain ⟨t,a,e⟩:=jpH _ j (Nat.le_refl _) h
    have hb:Builtin.Int.intBits (Builtin.bitAnd j (-j)) = t + 1:=by rw [e,PySem.W.kbt_low,jlc]
    rw [if_neg h,hb]
    have q:((t + 1:Nat):Int) - 1 = t:=by omega
    rw [q]
    by_cases c:(t:Int) < most
    · refine ⟨t,by rw [if_pos c],by omega,⟨_,e⟩,fun _=>?_⟩
      rw [e,Int.mul_ediv_cancel_left _ (Int.ne_of_gt (jgb t))]
      omega
    · refine ⟨most.toNat,by rw [if_neg c]; omega,by omega,?_,fun z=>by omega⟩
      refine Int.dvd_trans ?_ ⟨_,e⟩
      have:t = most.toNat + (t - most.toNat):=by omega
      rw [this,Int.pow_add]
      exact Int.dvd_mul_right _ _
theorem jnE {a:Int} {m:Nat} (h:a.natAbs < 2 ^ m):Builtin.Int.intBits a ≤ m:=by
  unfold Builtin.Int.intBits
  split
  · exact Nat.zero_le _
  · rename_i h0
    have h0:a ≠ 0:=by simpa using h0
    have:a.natAbs.log2 < m:=(Nat.log2_lt (by omega)).mpr h
    omega
structure Q4 where
  a:Int
  b:Int
  c:Int
  d:Int
namespace Q4
theorem ext' {x y:Q4} (h1:x.a = y.a) (h2:x.b = y.b) (h3:x.c = y.c) (h4:x.d = y.d):x = y:=by
  cases x; cases y; simp at h1 h2 h3 h4; subst h1 h2 h3 h4; rfl
def add (x y:Q4):Q4:=⟨x.a + y.a,x.b + y.b,x.c + y.c,x.d + y.d⟩
def neg (x:Q4):Q4:=⟨-x.a,-x.b,-x.c,-x.d⟩
def mul (x y:Q4):Q4:=⟨x.a * y.a - x.b * y.d - x.c * y.c - x.d * y.b,x.a * y.b + x.b * y.a - x.c * y.d - x.d * y.c,x.a * y.c + x.b * y.b + x.c * y.a - x.d * y.d,x.a * y.d + x.b * y.c + x.c * y.b + x.d * y.a⟩
def rt (x:Q4):Q4:=⟨x.b - x.d,x.a + x.c,x.b + x.d,x.c - x.a⟩
def dbl (n:Int) (x:Q4):Q4:=⟨x.a * n,x.b * n,x.c * n,x.d * n⟩
def mir (x:Q4):Q4:=⟨x.a,-x.d,-x.c,-x.b⟩
def tn (x:Q4):Q4:=⟨-x.d,x.a,x.b,x.c⟩
def rtn:Nat → Q4 → Q4
  | 0,x=>x
  | n + 1,x=>rtn n (rt x)
theorem rtn_succ (n:Nat) (x:Q4):rtn (n + 1) x = rt (rtn n x):=by
  induction n generalizing x with
  | zero=>rfl
  | succ n ih=>exact ih (rt x)
theorem rtn_add (m n:Nat) (x:Q4):rtn (m + n) x = rtn m (rtn n x):=by
  induction n generalizing x with
  | zero=>rfl
  | succ n ih=>exact ih (rt x)
theorem rt_rt (x:Q4):rt (rt x) = dbl 2 x:=by
  apply ext' <;> simp [rt,dbl] <;> omega
theorem jrK (m n:Int) (x:Q4):dbl m (dbl n x) = dbl (n * m) x:=by
  apply ext' <;> simp [dbl,Int.mul_assoc]
theorem rtn_two (t:Nat) (x:Q4):rtn (2 * t) x = dbl (2 ^ t) x:=by
  induction t generalizing x with
  | zero=>apply ext' <;> simp [rtn,dbl]
  | succ t ih=>
    have e:2 * (t + 1) = 2 * t + 1 + 1:=by omega
    rw [e]
    show rtn (2 * t) (rt (rt x)) = _
    rw [ih,rt_rt,jrK,Int.pow_succ,Int.mul_comm]
theorem rt_inj {x y:Q4} (h:rt x = rt y):x = y:=by
  have h1:=congrArg rt h
  rw [rt_rt,rt_rt] at h1
  have h2:=congrArg Q4.a h1
  have h3:=congrArg Q4.b h1
  have h4:=congrArg Q4.c h1
  have h5:=congrArg Q4.d h1
  simp only [dbl] at h2 h3 h4 h5
  apply ext' <;> omega
theorem rtn_inj {n:Nat} {x y:Q4} (h:rtn n x = rtn n y):x = y:=by
  induction n generalizing x y with
  | zero=>exact h
  | succ n ih=>exact rt_inj (ih h)
theorem rt_add (x y:Q4):rt (add x y) = add (rt x) (rt y):=by apply ext' <;> simp [rt,add] <;> omega
theorem jpK (x:Q4):rt (neg x) = neg (rt x):=by apply ext' <;> simp [rt,neg] <;> omega
theorem rtn_addQ (n:Nat) (x y:Q4):rtn n (add x y) = add (rtn n x) (rtn n y):=by
  induction n generalizing x y with
  | zero=>rfl
  | succ n ih=>show rtn n (rt (add x y)) = _; rw [rt_add,ih]; rfl
theorem rt_mul (x y:Q4):rt (mul x y) = mul (rt x) y:=by apply ext' <;> simp only [rt,mul] <;> grind
theorem jmr (n:Nat) (x y:Q4):rtn n (mul x y) = mul (rtn n x) y:=by
  induction n generalizing x with
  | zero=>rfl
  | succ n ih=>show rtn n (rt (mul x y)) = _; rw [rt_mul,ih]; rfl
theorem mul_comm (x y:Q4):mul x y = mul y x:=by apply ext' <;> simp only [mul] <;> grind
theorem mul_assoc (x y z:Q4):mul (mul x y) z = mul x (mul y z):=by apply ext' <;> simp only [mul] <;> grind
theorem mul_add (x y z:Q4):mul x (add y z) = add (mul x y) (mul x z):=by apply ext' <;> simp only [mul,add] <;> grind
theorem add_comm (x y:Q4):add x y = add y x:=by apply ext' <;> simp only [add] <;> omega
theorem rtn_mul2 (m n:Nat) (x y:Q4):rtn (m + n) (mul x y) = mul (rtn m x) (rtn n y):=by
  rw [rtn_add,mul_comm,jmr,mul_comm,jmr]
theorem tn_mul (x y:Q4):tn (mul x y) = mul x (tn y):=by apply ext' <;> simp only [mul,tn] <;> grind
theorem tn_rt (x:Q4):tn (rt x) = rt (tn x):=by apply ext' <;> simp only [rt,tn] <;> omega
def Odd (x:Q4):Prop:=¬ ((x.a - x.c) % 2 = 0 ∧ (x.b - x.d) % 2 = 0)
theorem jqP (x:Q4):¬ Odd (rt x):=by
  unfold Odd rt
  simp only
  omega
def Least (x:Q4) (k:Int):Prop:=0 ≤ k ∧ (0 < k → Odd x)
theorem Least.one {x y:Q4} {k l m:Nat} (hx:Least x k) (hy:Least y l) (h1:k ≤ m) (h2:l ≤ m) (h:rtn (m - k) x = rtn (m - l) y):x = y ∧ k = l:=by
  have key:∀ {x y:Q4} {k l:Nat},Least y l → k ≤ m → l ≤ m → k < l → rtn (m - k) x = rtn (m - l) y → False:=by
    intro x y k l hy h1 h2 hlt h
    have e:m - k = (m - l) + (l - k):=by omega
    rw [e,rtn_add] at h
    have h3:=rtn_inj h
    obtain ⟨n,hn⟩:∃ n,l - k = n + 1:=⟨l - k - 1,by omega⟩
    rw [hn,rtn_succ] at h3
    have:=hy.2 (by omega)
    rw [← h3] at this
    exact jqP _ this
  rcases Nat.lt_trichotomy k l with q | q | q
  · exact (key hy h1 h2 q h).elim
  · subst q; exact ⟨rtn_inj h,rfl⟩
  · exact (key hx h2 h1 q h.symm).elim
end Q4
theorem jgj (a b c d most:Int) (hm:0 ≤ most):∃ t:Nat,jqA (Builtin.bitOr (Builtin.bitOr (Builtin.bitOr a b) c) d) most = t ∧ (t:Int) ≤ most ∧ a = a / 2 ^ t * 2 ^ t ∧ b = b / 2 ^ t * 2 ^ t ∧ c = c / 2 ^ t * 2 ^ t ∧ d = d / 2 ^ t * 2 ^ t ∧
    ((t:Int) < most → ¬ (a / 2 ^ t % 2 = 0 ∧ b / 2 ^ t % 2 = 0 ∧ c / 2 ^ t % 2 = 0 ∧ d / 2 ^ t % 2 = 0)):=by
  obtain ⟨t,e,h1,h2,h3⟩:=jl4 (Builtin.bitOr (Builtin.bitOr (Builtin.bitOr a b) c) d) most hm
  have o1:=jmG t (Builtin.bitOr (Builtin.bitOr a b) c) d
  have d1:=o1.1.mp h2
  have o2:=jmG t (Builtin.bitOr a b) c
  have d2:=o2.1.mp d1.1
  have o3:=jmG t a b
  have d3:=o3.1.mp d2.1
  refine ⟨t,e,h1,(Int.ediv_mul_cancel d3.1).symm,(Int.ediv_mul_cancel d3.2).symm,(Int.ediv_mul_cancel d2.2).symm,(Int.ediv_mul_cancel d1.2).symm,fun z w=>h3 z ?_⟩
  have ev:∀ x y:Int,x % 2 = 0 → y % 2 = 0 → Builtin.bitOr x y % 2 = 0:=fun x y hx hy=>by
    rw [ji4,if_pos ⟨hx,hy⟩]; omega
  rw [o1.2 h2,o2.2 d1.1,o3.2 d2.1]
  exact ev _ _ (ev _ _ (ev _ _ w.1 w.2.1) w.2.2.1) w.2.2.2
def num (x:Q4) (k:Int):Q4 × Int:=
  let t:=(jqA (Builtin.bitOr (Builtin.bitOr (Builtin.bitOr x.a x.b) x.c) x.d) (k / 2)).toNat
  let y:Q4:=⟨x.a / 2 ^ t,x.b / 2 ^ t,x.c / 2 ^ t,x.d / 2 ^ t⟩
  if k - 2 * t = 0 ∨ (y.a - y.c) % 2 = 1 ∨ (y.b - y.d) % 2 = 1 then (y,k - 2 * t) else (⟨(y.b - y.d) / 2,(y.a + y.c) / 2,(y.b + y.d) / 2,(y.c - y.a) / 2⟩,k - 2 * t - 1)
theorem jnf {p q:Int} (h:(p - q) % 2 = 0):(p + q) / 2 - (q - p) / 2 = p ∧ (p + q) / 2 + (q - p) / 2 = q:=by omega
theorem jne {p q:Int} (h:(p - q) % 2 = 0):(p - q) / 2 + (p + q) / 2 = p ∧ (p + q) / 2 - (p - q) / 2 = q:=by omega
theorem js7 {x y:Int} (h:(x - y) % 2 = 0) (k:y % 2 = 0):x % 2 = 0:=by omega
theorem jq3 {x y:Int} (h:(x - y) % 2 = 0) (k:x % 2 = 0):y % 2 = 0:=by omega
theorem joJ {a b c d:Int} (g1:(a - c) % 2 = 0) (g2:(b - d) % 2 = 0) (h:¬ (a % 2 = 0 ∧ b % 2 = 0 ∧ c % 2 = 0 ∧ d % 2 = 0)):Q4.Odd ⟨(b - d) / 2,(a + c) / 2,(b + d) / 2,(c - a) / 2⟩:=fun z=>by
  have z1:((b - d) / 2 - (b + d) / 2) % 2 = 0:=z.1
  have z2:((a + c) / 2 - (c - a) / 2) % 2 = 0:=z.2
  rw [(jnf g1).1] at z2
  have e:=(jne g2).2
  have z3:d % 2 = 0:=by omega
  exact h ⟨z2,js7 g2 z3,jq3 g1 z2,z3⟩
theorem jep (x:Q4) (k:Int) (hk:0 ≤ k):Q4.Least (num x k).1 (num x k).2 ∧ (num x k).2 ≤ k ∧ Q4.rtn (k - (num x k).2).toNat (num x k).1 = x:=by
  obtain ⟨t,e,h1,ha,hb,hc,hd,h3⟩:=jgj x.a x.b x.c x.d (k / 2) (by omega)
  have l2:2 * (t:Int) ≤ k:=by omega
  unfold num
  simp only [e,Int.toNat_natCast]
  generalize x.a / 2 ^ t = a at *
  generalize x.b / 2 ^ t = b at *
  generalize x.c / 2 ^ t = c at *
  generalize x.d / 2 ^ t = d at *
  have e2:Q4.dbl (2 ^ t) ⟨a,b,c,d⟩ = x:=Q4.ext' ha.symm hb.symm hc.symm hd.symm
  split
  · rename_i h
    refine ⟨⟨Int.sub_nonneg_of_le l2,fun z=>?_⟩,Int.sub_le_self _ (by omega),?_⟩
    · rcases h with h | h | h
      · exact absurd h (Int.ne_of_gt z)
      · exact fun w=>absurd (h.symm.trans w.1) (by decide)
      · exact fun w=>absurd (h.symm.trans w.2) (by decide)
    · have:(k - (k - 2 * (t:Int))).toNat = 2 * t:=by omega
      simp only [this]
      rw [Q4.rtn_two,e2]
  · rename_i h
    have g0:k - 2 * (t:Int) ≠ 0:=fun z=>h (.inl z)
    have g1:(a - c) % 2 = 0:=(Int.emod_two_eq (a - c)).resolve_right fun z=>h (.inr (.inl z))
    have g2:(b - d) % 2 = 0:=(Int.emod_two_eq (b - d)).resolve_right fun z=>h (.inr (.inr z))
    refine ⟨⟨(by omega:0 ≤ k - 2 * (t:Int) - 1),fun z=>joJ g1 g2 (h3 ?_)⟩,(by omega:k - 2 * (t:Int) - 1 ≤ k),?_⟩
    · have z:0 < k - 2 * (t:Int) - 1:=z
      omega
    · have:(k - (k - 2 * (t:Int) - 1)).toNat = 2 * t + 1:=by omega
      simp only [this]
      show Q4.rtn (2 * t) (Q4.rt _) = x
      rw [Q4.rtn_two]
      have e3:Q4.rt ⟨(b - d) / 2,(a + c) / 2,(b + d) / 2,(c - a) / 2⟩ = ⟨a,b,c,d⟩:=Q4.ext' (jnf g1).1 (jne g2).1 (jnf g1).2 (jne g2).2
      rw [e3,e2]
def Q4.Le (M:Nat) (x:Q4):Prop:=x.a.natAbs ≤ M ∧ x.b.natAbs ≤ M ∧ x.c.natAbs ≤ M ∧ x.d.natAbs ≤ M
theorem jla (a:Int) (t:Nat) (h:a = a / 2 ^ t * 2 ^ t):(a / 2 ^ t).natAbs ≤ a.natAbs:=by
  have pw:=jgb t
  have:a.natAbs = (a / 2 ^ t).natAbs * ((2:Int) ^ t).natAbs:=by rw [← Int.natAbs_mul,← h]
  rw [this]
  exact Nat.le_mul_of_pos_right _ (by omega)
theorem jgF {a b:Int} {M:Nat} (ha:a.natAbs ≤ M) (hb:b.natAbs ≤ M):((a + b) / 2).natAbs ≤ M:=by omega
theorem jgE {a b:Int} {M:Nat} (ha:a.natAbs ≤ M) (hb:b.natAbs ≤ M):((a - b) / 2).natAbs ≤ M:=by omega
theorem jpP (x:Q4) (k:Int) (hk:0 ≤ k) (M:Nat) (h:Q4.Le M x):Q4.Le M (num x k).1:=by
  obtain ⟨t,e,h1,ha,hb,hc,hd,h3⟩:=jgj x.a x.b x.c x.d (k / 2) (by omega)
  have la:=Nat.le_trans (jla _ _ ha) h.1
  have lb:=Nat.le_trans (jla _ _ hb) h.2.1
  have lc:=Nat.le_trans (jla _ _ hc) h.2.2.1
  have ld:=Nat.le_trans (jla _ _ hd) h.2.2.2
  unfold num Q4.Le
  simp only [e,Int.toNat_natCast]
  split
  · exact ⟨la,lb,lc,ld⟩
  · exact ⟨jgE lb ld,jgF la lc,jgF lb ld,jgE lc la⟩
theorem jcR {a b:Int} {M N:Nat} (ha:a.natAbs ≤ M) (hb:b.natAbs ≤ N):(a + b).natAbs ≤ M + N:=Nat.le_trans (Int.natAbs_add_le a b) (Nat.add_le_add ha hb)
theorem jht {a b:Int} {M N:Nat} (ha:a.natAbs ≤ M) (hb:b.natAbs ≤ N):(a - b).natAbs ≤ M + N:=Nat.le_trans (Int.natAbs_sub_le a b) (Nat.add_le_add ha hb)
theorem ju0 {x:Q4} {M:Nat} (h:Q4.Le M x):Q4.Le (2 * M) (Q4.rt x):=by
  obtain ⟨g1,g2,g3,g4⟩:=h
  rw [Nat.two_mul]
  unfold Q4.Le Q4.rt
  exact ⟨jht g2 g4,jcR g1 g3,jcR g2 g4,jht g3 g1⟩
theorem jpJ {x:Q4} {M:Nat}:∀ (n:Nat),Q4.Le M x → Q4.Le (2 ^ n * M) (Q4.rtn n x)
  | 0,h=>by simpa [Q4.rtn] using h
  | n + 1,h=>by
    have:=ju0 (jpJ n h)
    rw [Q4.rtn_succ]
    rw [Nat.pow_succ,Nat.mul_comm (2 ^ n) 2,Nat.mul_assoc]
    exact this
theorem Q4.Le.mono {x:Q4} {M N:Nat} (h:Q4.Le M x) (hl:M ≤ N):Q4.Le N x:=⟨Nat.le_trans h.1 hl,Nat.le_trans h.2.1 hl,Nat.le_trans h.2.2.1 hl,Nat.le_trans h.2.2.2 hl⟩
theorem jqr {x y:Q4} {M N:Nat} (h:Q4.Le M x) (h':Q4.Le N y):Q4.Le (M + N) (Q4.add x y):=
  ⟨jcR h.1 h'.1,jcR h.2.1 h'.2.1,jcR h.2.2.1 h'.2.2.1,jcR h.2.2.2 h'.2.2.2⟩
def je6 (x:Q4) (c:Int) (y:Q4) (d:Int):Q4 × Int:=num (Q4.add (Q4.rtn (max c d - c).toNat x) (Q4.rtn (max c d - d).toNat y)) (max c d)
def tnn:Nat → Q4 → Q4
  | 0,x=>x
  | n + 1,x=>Q4.tn (tnn n x)
theorem jiR {x:Q4} {M:Nat}:∀ n:Nat,Q4.Le M x → Q4.Le M (tnn n x)
  | 0,h=>h
  | n + 1,h=>by
    obtain ⟨a,b,c,d⟩:=jiR n h
    exact ⟨by simpa [tnn,Q4.tn] using d,a,b,c⟩
theorem tn_odd {x:Q4}:Q4.Odd (Q4.tn x) ↔ Q4.Odd x:=by
  unfold Q4.Odd Q4.tn
  simp only
  omega
theorem jma {x:Q4}:∀ n:Nat,Q4.Odd (tnn n x) ↔ Q4.Odd x
  | 0=>Iff.rfl
  | n + 1=>tn_odd.trans (jma n)
theorem jmc {x:Q4} {c:Int} (n:Nat) (h:Q4.Least x c):Q4.Least (tnn n x) c:=⟨h.1,fun z=>(jma n).mpr (h.2 z)⟩
def Is (x:Q4) (c:Nat) (u:Q4) (k:Nat):Prop:=Q4.Least x c ∧ Q4.rtn k x = Q4.rtn c u
theorem jb5 (m n:Nat) (x:Q4):Q4.rtn m (Q4.rtn n x) = Q4.rtn n (Q4.rtn m x):=by rw [← Q4.rtn_add,← Q4.rtn_add,Nat.add_comm]
theorem Is.self {x:Q4} {c:Nat} (h:Q4.Least x c):Is x c x c:=⟨h,rfl⟩
theorem Is.one {x y u v:Q4} {c d k l:Nat} (hx:Is x c u k) (hy:Is y d v l) (h:Q4.rtn l u = Q4.rtn k v):x = y ∧ c = d:=by
  have e:Q4.rtn d x = Q4.rtn c y:=by
    refine Q4.rtn_inj (n:=k + l) ?_
    rw [Q4.rtn_add,Q4.rtn_add,jb5 l d x,jb5 k d,jb5 k l,hx.2,jb5 l c u,h,jb5 l c y,hy.2,jb5 k c,jb5 k d v,jb5 d c]
  exact Q4.Least.one (m:=c + d) hx.1 hy.1 (by omega) (by omega) (by rw [show c + d - c = d by omega,show c + d - d = c by omega]; exact e)
theorem jtk (u:Q4) (k:Nat):∃ c:Nat,(num u k).2 = c ∧ c ≤ k ∧ Is (num u k).1 c u k:=by
  obtain ⟨s1,s2,s3⟩:=jep u k (by omega)
  obtain ⟨c,hc⟩:∃ c:Nat,(num u k).2 = c:=⟨(num u k).2.toNat,by have:=s1.1; omega⟩
  rw [hc] at s1 s2 s3
  refine ⟨c,hc,by omega,s1,?_⟩
  have e:((k:Int) - c).toNat = k - c:=by omega
  rw [e] at s3
  conv=>rhs; rw [← s3]
  rw [← Q4.rtn_add]
  congr 1
  omega
theorem Is.trans {x u v:Q4} {c k l:Nat} (h:Is x c u k) (e:Q4.rtn l u = Q4.rtn k v):Is x c v l:=by
  refine ⟨h.1,Q4.rtn_inj (n:=k) ?_⟩
  rw [jb5,h.2,jb5,e,jb5]
theorem jsx (n:Nat) (x:Q4):Q4.tn (Q4.rtn n x) = Q4.rtn n (Q4.tn x):=by
  induction n generalizing x with
  | zero=>rfl
  | succ n ih=>show Q4.tn (Q4.rtn n (Q4.rt x)) = Q4.rtn n (Q4.rt (Q4.tn x)); rw [ih,Q4.tn_rt]
theorem jl9 (m n:Nat) (x:Q4):tnn m (Q4.rtn n x) = Q4.rtn n (tnn m x):=by
  induction m with
  | zero=>rfl
  | succ m ih=>show Q4.tn (tnn m (Q4.rtn n x)) = _; rw [ih,jsx]; rfl
theorem jdW (m n:Nat) (x:Q4):tnn (m + n) x = tnn m (tnn n x):=by
  induction m with
  | zero=>rw [Nat.zero_add]; rfl
  | succ m ih=>rw [Nat.succ_add]; show Q4.tn (tnn (m + n) x) = _; rw [ih]; rfl
theorem jwH (x:Q4):tnn 8 x = x:=by simp [tnn,Q4.tn]
theorem jdV (n:Nat) (x:Q4):tnn (n % 8) x = tnn n x:=by
  conv=>rhs; rw [← Nat.mod_add_div n 8]
  rw [jdW]
  congr 1
  generalize n / 8 = q
  induction q with
  | zero=>rfl
  | succ q ih=>rw [Nat.mul_succ,jdW,jwH]; exact ih
theorem jmb (n:Nat) (x y:Q4):tnn n (Q4.mul x y) = Q4.mul x (tnn n y):=by
  induction n with
  | zero=>rfl
  | succ n ih=>show Q4.tn (tnn n (Q4.mul x y)) = _; rw [ih,Q4.tn_mul]; rfl
theorem jox {x y:Q4} {c d:Nat} {p r:Nat} (hx:Q4.Le (2 ^ p) x) (hy:Q4.Le (2 ^ p) y) (hc:c ≤ r) (hd:d ≤ r):Q4.Le (2 ^ (p + r + 1)) (je6 x c y d).1:=by
  have em:max (c:Int) d = ((max c d:Nat):Int):=by omega
  unfold je6
  refine jpP _ _ (by omega) _ ?_
  have up:∀ (n:Nat) (z:Q4),n ≤ r → Q4.Le (2 ^ p) z → Q4.Le (2 ^ (p + r)) (Q4.rtn n z):=fun n z hn hz=>by
    refine (jpJ n hz).mono ?_
    rw [← Nat.pow_add]
    exact Nat.pow_le_pow_right (by decide) (by omega)
  have:=jqr (up (max (c:Int) d - c).toNat x (by omega) hx) (up (max (c:Int) d - d).toNat y (by omega) hy)
  rw [Nat.pow_succ,Nat.mul_two]
  exact this
structure S2 where
  p:Int
  q:Int
namespace S2
theorem ext' {x y:S2} (h1:x.p = y.p) (h2:x.q = y.q):x = y:=by
  cases x; cases y; simp at h1 h2; subst h1 h2; rfl
def add (x y:S2):S2:=⟨x.p + y.p,x.q + y.q⟩
def mul (x y:S2):S2:=⟨x.p * y.p + 2 * x.q * y.q,x.p * y.q + x.q * y.p⟩
def sc (n:Nat) (x:S2):S2:=⟨x.p * 2 ^ n,x.q * 2 ^ n⟩
theorem ji1 (m n:Nat) (x:S2):sc (m + n) x = sc m (sc n x):=by
  apply ext' <;> simp only [sc,Int.pow_add] <;> rw [Int.mul_assoc,Int.mul_comm (2 ^ n)]
theorem jcV (m n:Nat) (x:S2):sc m (sc n x) = sc n (sc m x):=by rw [← ji1,← ji1,Nat.add_comm]
theorem jkR {n:Nat} {x y:S2} (h:sc n x = sc n y):x = y:=by
  have pw:=jgb n
  have h1:=congrArg S2.p h
  have h2:=congrArg S2.q h
  simp only [sc] at h1 h2
  exact ext' (Int.eq_of_mul_eq_mul_right (by omega) h1) (Int.eq_of_mul_eq_mul_right (by omega) h2)
def Odd (x:S2):Prop:=¬ (x.p % 2 = 0 ∧ x.q % 2 = 0)
theorem jqN (n:Nat) (x:S2):¬ Odd (sc (n + 1) x):=by
  unfold Odd sc
  rw [Int.pow_succ,← Int.mul_assoc,← Int.mul_assoc]
  simp only
  omega
def Least (x:S2) (c:Nat):Prop:=0 < c → Odd x
theorem Least.one {x y:S2} {k l m:Nat} (hx:Least x k) (hy:Least y l) (h1:k ≤ m) (h2:l ≤ m) (h:sc (m - k) x = sc (m - l) y):x = y ∧ k = l:=by
  have key:∀ {x y:S2} {k l:Nat},Least y l → k ≤ m → l ≤ m → k < l → sc (m - k) x = sc (m - l) y → False:=by
    intro x y k l hy h1 h2 hlt h
    have e:m - k = (m - l) + (l - k):=by omega
    rw [e,ji1] at h
    have h3:=jkR h
    obtain ⟨n,hn⟩:∃ n,l - k = n + 1:=⟨l - k - 1,by omega⟩
    rw [hn] at h3
    have:=hy (by omega)
    rw [← h3] at this
    exact jqN _ _ this
  rcases Nat.lt_trichotomy k l with q | q | q
  · exact (key hy h1 h2 q h).elim
  · subst q; exact ⟨jkR h,rfl⟩
  · exact (key hx h2 h1 q h.symm).elim
def Le (M:Nat) (x:S2):Prop:=x.p.natAbs ≤ M ∧ x.q.natAbs ≤ M
theorem Le.mono {x:S2} {M N:Nat} (h:Le M x) (hl:M ≤ N):Le N x:=⟨Nat.le_trans h.1 hl,Nat.le_trans h.2 hl⟩
theorem jqr {x y:S2} {M N:Nat} (h:Le M x) (h':Le N y):Le (M + N) (add x y):=
  ⟨Nat.le_trans (Int.natAbs_add_le _ _) (Nat.add_le_add h.1 h'.1),Nat.le_trans (Int.natAbs_add_le _ _) (Nat.add_le_add h.2 h'.2)⟩
def Is (x:S2) (c:Nat) (u:S2) (k:Nat):Prop:=Least x c ∧ sc k x = sc c u
theorem Is.one {x y u v:S2} {c d k l:Nat} (hx:Is x c u k) (hy:Is y d v l) (h:sc l u = sc k v):x = y ∧ c = d:=by
  have e:sc d x = sc c y:=by
    refine jkR (n:=k + l) ?_
    rw [ji1,ji1,jcV l d x,jcV k d,jcV k l,hx.2,jcV l c u,h,jcV l c y,hy.2,jcV k c,jcV k d v,jcV d c]
  exact Least.one (m:=c + d) hx.1 hy.1 (by omega) (by omega) (by rw [show c + d - c = d by omega,show c + d - d = c by omega]; exact e)
theorem Is.trans {x u v:S2} {c k l:Nat} (h:Is x c u k) (e:sc l u = sc k v):Is x c v l:=by
  refine ⟨h.1,jkR (n:=k) ?_⟩
  rw [jcV,h.2,jcV,e,jcV]
end S2
abbrev Nu:=Q4 × Nat
inductive Row where
  | swing (j:Nat) | turn (j:Nat) (e:Nat) | flip (j:Nat) | tie (i j:Nat) | sign (i j:Nat) | cross (i j:Nat)
def jb6 (u v:Nu):Nu:=((je6 u.1 u.2 v.1 v.2).1,(je6 u.1 u.2 v.1 v.2).2.toNat)
def jcH (u:Nu):Nu:=((num u.1 ((u.2 + 1:Nat):Int)).1,(num u.1 ((u.2 + 1:Nat):Int)).2.toNat)
def jaB (e:Nat) (u:Nu):Nu:=(tnn (e % 8) u.1,u.2)
def wt (n j:Nat):Nat:=2 ^ (n - 1 - j)
def bit (w p:Nat):Nat:=p / w % 2
def flp (w p:Nat):Nat:=if bit w p = 0 then p + w else p - w
def jeP (n:Nat):Row → Nat → Nat
  | .flip j,p=>flp (wt n j) p
  | .tie i j,p=>if bit (wt n i) p = 0 then p else flp (wt n j) p
  | .cross i j,p=>if bit (wt n i) p = bit (wt n j) p then p else flp (wt n j) (flp (wt n i) p)
  | _,p=>p
def jaG (n:Nat) (f:Nat → Nu):Row → Nat → Nu
  | .swing j,p=>if bit (wt n j) p = 0 then jcH (jb6 (f p) (f (p + wt n j))) else jcH (jb6 (f (p - wt n j)) (jaB 4 (f p)))
  | .turn j e,p=>jaB (e * bit (wt n j) p) (f p)
  | .sign i j,p=>jaB (4 * bit (wt n i) p * bit (wt n j) p) (f p)
  | r,p=>f (jeP n r p)
def Row.ok (n:Nat):Row → Prop
  | .swing j=>j < n
  | .turn j e=>j < n ∧ 1 ≤ e ∧ e ≤ 7
  | .flip j=>j < n
  | .tie i j=>i < n ∧ j < n ∧ i ≠ j
  | .sign i j=>i < n ∧ j < n ∧ i ≠ j
  | .cross i j=>i < n ∧ j < n ∧ i ≠ j
theorem ja7 (n j:Nat):0 < wt n j:=Nat.pow_pos (by decide)
theorem jsp {n j:Nat} (h:j < n):2 ^ n = wt n j * 2 ^ (j + 1):=by
  unfold wt
  rw [← Nat.pow_add]; congr 1; omega
theorem juD {n j:Nat} (h:j < n):2 * wt n j ≤ 2 ^ n:=by
  unfold wt
  rw [show 2 * 2 ^ (n - 1 - j) = 2 ^ (n - 1 - j + 1) by rw [Nat.pow_succ,Nat.mul_comm]]
  exact Nat.pow_le_pow_right (by decide) (by omega)
theorem jbq (w p:Nat):bit w p < 2:=Nat.mod_lt _ (by decide)
theorem jfj (w p:Nat) (hw:0 < w):∃ q r,p = (2 * q + bit w p) * w + r ∧ r < w:=by
  refine ⟨p / w / 2,p % w,?_,Nat.mod_lt _ hw⟩
  unfold bit
  rw [Nat.div_add_mod,Nat.div_add_mod']
theorem jnG {w q b r:Nat} (hb:b < 2) (hr:r < w):bit w ((2 * q + b) * w + r) = b:=by
  unfold bit
  rw [Nat.mul_comm,Nat.mul_add_div (by omega),Nat.div_eq_of_lt hr]
  omega
theorem jiu {w p:Nat} (hw:0 < w) (h:bit w p = 1):w ≤ p:=by
  obtain ⟨q,r,e,_⟩:=jfj w p hw
  rw [h] at e
  have:(2 * q + 1) * w = 2 * q * w + w:=by rw [Nat.add_mul,Nat.one_mul]
  omega
theorem jnH {n j p:Nat} (hj:j < n) (hp:p < 2 ^ n) (h:bit (wt n j) p = 0):p + wt n j < 2 ^ n:=by
  obtain ⟨q,r,e,hr⟩:=jfj (wt n j) p (ja7 n j)
  rw [h] at e
  have h2:=jsp hj
  have hq:q < 2 ^ j:=by
    refine Nat.lt_of_not_le fun z=>?_
    have:2 * 2 ^ j * wt n j ≤ 2 * q * wt n j:=Nat.mul_le_mul_right _ (by omega)
    have e2:wt n j * 2 ^ (j + 1) = 2 * 2 ^ j * wt n j:=by rw [Nat.pow_succ,Nat.mul_comm,Nat.mul_comm (2 ^ j) 2]
    rw [Nat.add_zero] at e
    omega
  have:(2 * q + 2) * wt n j ≤ 2 * 2 ^ j * wt n j:=Nat.mul_le_mul_right _ (by omega)
  have e2:wt n j * 2 ^ (j + 1) = 2 * 2 ^ j * wt n j:=by rw [Nat.pow_succ,Nat.mul_comm,Nat.mul_comm (2 ^ j) 2]
  have e3:(2 * q + 2) * wt n j = 2 * q * wt n j + 2 * wt n j:=Nat.add_mul ..
  rw [Nat.add_zero] at e
  omega
theorem jgH {n j p:Nat} (hj:j < n) (hp:p < 2 ^ n):flp (wt n j) p < 2 ^ n:=by
  unfold flp
  split
  · exact jnH hj hp (by assumption)
  · omega
theorem jij {n p:Nat} {r:Row} (hr:r.ok n) (hp:p < 2 ^ n):jeP n r p < 2 ^ n:=by
  cases r with
  | flip j=>exact jgH hr hp
  | tie i j=>show (if _ then _ else _) < _; split; exact hp; exact jgH hr.2.1 hp
  | cross i j=>show (if _ then _ else _) < _; split; exact hp; exact jgH hr.2.1 (jgH hr.1 hp)
  | _=>exact hp
theorem jrC {w p:Nat} (hw:0 < w):flp w p / (2 * w) = p / (2 * w):=by
  obtain ⟨q,r,e,hr⟩:=jfj w p hw
  have h2:=jbq w p
  have e1:(2 * q + bit w p) * w = 2 * w * q + bit w p * w:=by rw [Nat.add_mul,Nat.mul_right_comm]
  have one:∀ x,x < 2 * w → (2 * w * q + x) / (2 * w) = q:=fun x hx=>by rw [Nat.mul_add_div (by omega),Nat.div_eq_of_lt hx,Nat.add_zero]
  unfold flp
  split
  · rename_i h
    rw [h] at e e1
    have a:=one (r + w) (by omega)
    have b:=one r (by omega)
    rw [show p + w = 2 * w * q + (r + w) by omega,a,show p = 2 * w * q + r by omega,b]
  · rename_i h
    have h1:bit w p = 1:=by omega
    rw [h1] at e e1
    have a:=one (r + w) (by omega)
    have b:=one r (by omega)
    rw [show p - w = 2 * w * q + r by omega,b,show p = 2 * w * q + (r + w) by omega,a]
theorem jju (x p m:Nat) (hx:0 < x):bit x (p + 2 * x * m) = bit x p:=by
  unfold bit
  rw [show p + 2 * x * m = p + x * (2 * m) by rw [Nat.mul_comm 2 x,Nat.mul_assoc],Nat.add_mul_div_left _ _ hx]
  omega
theorem jfE {n i j p:Nat} (hi:i < n) (hj:j < n) (hij:i ≠ j):bit (wt n j) (flp (wt n i) p) = bit (wt n j) p:=by
  have hw:=ja7 n i
  by_cases h:j < i
  ·
    have e:wt n j = 2 * wt n i * 2 ^ (i - j - 1):=by
      unfold wt
      rw [show 2 * 2 ^ (n - 1 - i) = 2 ^ (n - 1 - i + 1) by rw [Nat.pow_succ,Nat.mul_comm],← Nat.pow_add]
      congr 1; omega
    unfold bit
    rw [e,← Nat.div_div_eq_div_mul (flp (wt n i) p) (2 * wt n i),← Nat.div_div_eq_div_mul p (2 * wt n i),jrC hw]
  · have e:wt n i = 2 * wt n j * 2 ^ (j - i - 1):=by
      unfold wt
      rw [show 2 * 2 ^ (n - 1 - j) = 2 ^ (n - 1 - j + 1) by rw [Nat.pow_succ,Nat.mul_comm],← Nat.pow_add]
      congr 1; omega
    unfold flp
    split
    · rw [e]; exact jju _ _ _ (ja7 n j)
    · rename_i hb
      have h2:=jbq (wt n i) p
      have:=jiu (w:=wt n i) (p:=p) hw (by omega)
      have:=jju (wt n j) (p - wt n i) (2 ^ (j - i - 1)) (ja7 n j)
      rw [← this,← e,Nat.sub_add_cancel (by assumption)]
theorem jcF {w p:Nat} (hw:0 < w):bit w (flp w p) = 1 - bit w p:=by
  obtain ⟨q,r,e,hr⟩:=jfj w p hw
  have h2:=jbq w p
  unfold flp
  split
  · rename_i h
    rw [h] at e
    rw [h,show p + w = (2 * q + 1) * w + r by rw [Nat.add_mul] at e ⊢; omega]
    exact jnG (by decide) hr
  · rename_i h
    have h1:bit w p = 1:=by omega
    rw [h1] at e
    rw [h1,show p - w = (2 * q + 0) * w + r by rw [Nat.add_mul] at e ⊢; omega]
    exact jnG (by decide) hr
theorem jik {w p:Nat} (hw:0 < w):flp w (flp w p) = p:=by
  have h:=jcF (p:=p) hw
  have h2:=jbq w p
  by_cases c:bit w p = 0
  · have e:flp w p = p + w:=if_pos c
    rw [c] at h
    rw [e] at h ⊢
    unfold flp
    rw [if_neg (by omega)]; omega
  · have c1:bit w p = 1:=by omega
    have e:flp w p = p - w:=if_neg c
    have:=jiu hw c1
    rw [c1] at h
    rw [e] at h ⊢
    unfold flp
    rw [if_pos (by omega)]; omega
theorem jjL (a b:Nat):Builtin.bitAnd (a:Int) (b:Int) = ((a &&& b:Nat):Int):=by
  unfold Builtin.bitAnd
  simp
theorem jl5 {x y z:Nat} (h:x / 2 = y / 2 + z / 2) (m:x % 2 = y % 2 + z % 2):x = y + z:=by omega
theorem jm0 {u v w:Nat} {p q:Prop} (hu:u < 2) (hv:v < 2) (hw:w < 2) (m1:u = 1 ↔ p ∨ q) (m2:v = 1 ↔ ¬ (p ↔ q)) (m3:w = 1 ↔ p ∧ q):u = v + w:=by
  have z:∀ {x:Nat},x < 2 → ¬ x = 1 → x = 0:=fun h k=>by omega
  by_cases a:p <;> by_cases b:q
  · rw [m1.mpr (.inl a),m3.mpr ⟨a,b⟩,z hv fun e=>m2.mp e ⟨fun _=>b,fun _=>a⟩]
  · rw [m1.mpr (.inl a),m2.mpr fun e=>b (e.mp a),z hw fun e=>b (m3.mp e).2]
  · rw [m1.mpr (.inr b),m2.mpr fun e=>a (e.mpr b),z hw fun e=>a (m3.mp e).1]
  · rw [z hu fun e=>(m1.mp e).elim a b,z hv fun e=>m2.mp e ⟨fun c=>absurd c a,fun c=>absurd c b⟩,z hw fun e=>a (m3.mp e).1]
theorem jhK:∀ (k a b:Nat),a < 2 ^ k → b < 2 ^ k → (a ||| b) = (a ^^^ b) + (a &&& b)
  | 0,a,b,ha,hb=>by
    have:a = 0:=by simpa using ha
    have:b = 0:=by simpa using hb
    subst a; subst b; rfl
  | k + 1,a,b,ha,hb=>by
    have ih:=jhK k (a / 2) (b / 2) (by rw [Nat.pow_succ] at ha; omega) (by rw [Nat.pow_succ] at hb; omega)
    have h1:=@Nat.or_div_two a b
    have h2:=@Nat.xor_div_two a b
    have h3:=@Nat.and_div_two a b
    have m1:=@Nat.or_mod_two_eq_one a b
    have m2:=@Nat.xor_mod_two_eq_one a b
    have m3:=@Nat.and_mod_two_eq_one a b
    rw [← h1,← h2,← h3] at ih
    exact jl5 ih (jm0 (Nat.mod_lt _ (by decide)) (Nat.mod_lt _ (by decide)) (Nat.mod_lt _ (by decide)) m1 m2 m3)
theorem bor (a b:Nat):Builtin.bitOr (a:Int) (b:Int) = ((a ||| b:Nat):Int):=by
  have h1:¬ (0:Int) ≤ Builtin.bitNot (a:Int):=by unfold Builtin.bitNot; omega
  have h2:¬ (0:Int) ≤ Builtin.bitNot (b:Int):=by unfold Builtin.bitNot; omega
  have e1:(Builtin.bitNot (Builtin.bitNot (a:Int))).toNat = a:=by unfold Builtin.bitNot; omega
  have e2:(Builtin.bitNot (Builtin.bitNot (b:Int))).toNat = b:=by unfold Builtin.bitNot; omega
  unfold Builtin.bitOr Builtin.bitAnd
  rw [decide_eq_false h1,decide_eq_false h2]
  dsimp only
  rw [e1,e2]
  unfold Builtin.bitNot
  omega
theorem jjs (a b:Nat):Builtin.bitXor (a:Int) (b:Int) = ((a ^^^ b:Nat):Int):=by
  unfold Builtin.bitXor
  rw [bor,jjL]
  have h:∀ n:Nat,n < 2 ^ n:=fun n=>Nat.lt_two_pow_self
  have:=jhK (max a b) a b (Nat.lt_of_lt_of_le (h a) (Nat.pow_le_pow_right (by decide) (by omega))) (Nat.lt_of_lt_of_le (h b) (Nat.pow_le_pow_right (by decide) (by omega)))
  omega
def cnt (n:Nat):Nat:=if n = 0 then 0 else n % 2 + cnt (n / 2)
termination_by n
decreasing_by omega
theorem jes:cnt 0 = 0:=by unfold cnt; simp
theorem jbU (n:Nat):cnt n = n % 2 + cnt (n / 2):=by
  by_cases h:n = 0
  · subst h; simp [jes]
  · rw [cnt,if_neg h]
theorem jqo:∀ (k n:Nat),n < 2 ^ k → cnt n ≤ k
  | 0,n,h=>by
    have:n = 0:=by simpa using h
    subst this; rw [jes]; omega
  | k + 1,n,h=>by
    have:=jqo k (n / 2) (by rw [Nat.pow_succ] at h; omega)
    rw [jbU]; omega
theorem jjr:∀ (k a b:Nat),a < 2 ^ k → b < 2 ^ k → cnt (a ^^^ b) % 2 = (cnt a + cnt b) % 2
  | 0,a,b,ha,hb=>by
    have:a = 0:=by simpa using ha
    have:b = 0:=by simpa using hb
    subst a; subst b; simp [jes]
  | k + 1,a,b,ha,hb=>by
    have ih:=jjr k (a / 2) (b / 2) (by rw [Nat.pow_succ] at ha; omega) (by rw [Nat.pow_succ] at hb; omega)
    have h2:=@Nat.xor_div_two a b
    have m2:=@Nat.xor_mod_two_eq_one a b
    rw [jbU (a ^^^ b),jbU a,jbU b,h2]
    omega
theorem jj8 (a b:Nat):∃ k,a < 2 ^ k ∧ b < 2 ^ k:=by
  have h:∀ n:Nat,n < 2 ^ n:=fun n=>Nat.lt_two_pow_self
  exact ⟨max a b,Nat.lt_of_lt_of_le (h a) (Nat.pow_le_pow_right (by decide) (by omega)),Nat.lt_of_lt_of_le (h b) (Nat.pow_le_pow_right (by decide) (by omega))⟩
theorem jrN (a b:Nat):cnt (a ^^^ b) % 2 = (cnt a + cnt b) % 2:=by
  obtain ⟨k,h1,h2⟩:=jj8 a b
  exact jjr k a b h1 h2
theorem jgP:∀ (k n:Nat),n < 2 ^ k → n ≠ 0 → cnt (n &&& (n - 1)) + 1 = cnt n
  | 0,n,h,h0=>by
    have:n = 0:=by simpa using h
    exact absurd this h0
  | k + 1,n,h,h0=>by
    have h3:=@Nat.and_div_two n (n - 1)
    have m3:=@Nat.and_mod_two_eq_one n (n - 1)
    rw [jbU (n &&& (n - 1)),jbU n,h3]
    by_cases o:n % 2 = 1
    · have e:(n - 1) / 2 = n / 2:=by omega
      rw [e,Nat.and_self]
      omega
    · have ih:=jgP k (n / 2) (by rw [Nat.pow_succ] at h; omega) (by omega)
      have e:(n - 1) / 2 = n / 2 - 1:=by omega
      rw [e]
      omega
def par (n:Nat):Nat:=cnt n % 2
theorem je8 (n:Nat):par n < 2:=Nat.mod_lt _ (by decide)
theorem jmD (a b:Nat):par (a ^^^ b) = (par a + par b) % 2:=by
  unfold par
  rw [jrN]; omega
theorem jcn:par 0 = 0:=by unfold par; rw [jes]
theorem jjY {n:Nat} (h:n < 64):par n = (n % 2 + n / 2 % 2 + n / 4 % 2 + n / 8 % 2 + n / 16 % 2 + n / 32 % 2) % 2:=by
  unfold par
  rw [jbU n,jbU (n / 2),jbU (n / 2 / 2),jbU (n / 2 / 2 / 2),jbU (n / 2 / 2 / 2 / 2),jbU (n / 2 / 2 / 2 / 2 / 2),show n / 2 / 2 / 2 / 2 / 2 / 2 = 0 by omega,jes]
  simp only [Nat.div_div_eq_div_mul]
  omega
structure Wd where
  x:Nat
  z:Nat
  s:Nat
def Wd.ok (n:Nat) (w:Wd):Prop:=w.x < 2 ^ n ∧ w.z < 2 ^ n ∧ w.s < 4
def jba (u v:Wd):Wd:=⟨u.x ^^^ v.x,u.z ^^^ v.z,(u.s + v.s + 2 * par (u.z &&& v.x)) % 4⟩
theorem jcs {n:Nat} {u v:Wd} (hu:u.ok n) (hv:v.ok n):(jba u v).ok n:=⟨Nat.xor_lt_two_pow hu.1 hv.1,Nat.xor_lt_two_pow hu.2.1 hv.2.1,Nat.mod_lt _ (by decide)⟩
def Sh (k:Nat) (d:PyData):Prop:=d.canLay0 = true ∧ d.depth ≤ k
theorem Sh.int (k:Nat) (i:Int):Sh k (.int i):=⟨by simp [PyData.canLay0],by simp [PyData.depth]⟩
theorem Sh.all {k:Nat}:∀ (xs:List PyData),(∀ x ∈ xs,Sh k x) → PyData.canLayAll0 xs = true ∧ PyData.depthAll xs ≤ k
  | [],_=>⟨by simp [PyData.canLayAll0],by simp [PyData.depthAll]⟩
  | x :: xs,h=>by
    obtain ⟨a,b⟩:=Sh.all xs fun y hy=>h y (List.mem_cons_of_mem _ hy)
    obtain ⟨c,d⟩:=h x List.mem_cons_self
    refine ⟨by simp [PyData.canLayAll0,a,c],?_⟩
    simp only [PyData.depthAll]
    omega
theorem Sh.tuple {k:Nat} {xs:List PyData} (h:∀ x ∈ xs,Sh k x):Sh (k + 1) (.tuple xs):=by
  obtain ⟨a,b⟩:=Sh.all xs h
  exact ⟨by simp [PyData.canLay0,a],by simp only [PyData.depth]; omega⟩
theorem Sh.list {k:Nat} {xs:List PyData} (h:∀ x ∈ xs,Sh k x):Sh (k + 1) (.list xs):=by
  obtain ⟨a,b⟩:=Sh.all xs h
  exact ⟨by simp [PyData.canLay0,a],by simp only [PyData.depth]; omega⟩
mutual
theorem jge:∀ d:PyData,d.canLay0 = true → PyData.eqv d d = true
  | .none,_=>by simp [PyData.eqv]
  | .bool _,_=>by simp [PyData.eqv]
  | .int _,_=>by simp [PyData.eqv]
  | .str _,_=>by simp [PyData.eqv]
  | .list xs,h=>by
    simp only [PyData.eqv]
    exact eqvAll_self xs (by simpa [PyData.canLay0] using h)
  | .tuple xs,h=>by
    simp only [PyData.eqv]
    exact eqvAll_self xs (by simpa [PyData.canLay0] using h)
  | .dict _,h=>by simp [PyData.canLay0] at h
theorem eqvAll_self:∀ xs:List PyData,PyData.canLayAll0 xs = true → PyData.eqvAll xs xs = true
  | [],_=>by simp [PyData.eqvAll]
  | x :: xs,h=>by
    have h':x.canLay0 = true ∧ PyData.canLayAll0 xs = true:=by simpa [PyData.canLayAll0] using h
    simp only [PyData.eqvAll,jge x h'.1,eqvAll_self xs h'.2,Bool.and_self]
end
def val (M:Nat) (u:Nu):Q4:=Q4.rtn (M - u.2) u.1
theorem jmV (x:Q4) (k M:Nat) (h:k ≤ M):Q4.rtn (M - (num x k).2.toNat) (num x k).1 = Q4.rtn (M - k) x:=by
  obtain ⟨s1,s2,s3⟩:=jep x k (by omega)
  have h0:=s1.1
  have e:M - (num x (k:Int)).2.toNat = (M - k) + ((k:Int) - (num x (k:Int)).2).toNat:=by omega
  rw [e,Q4.rtn_add,s3]
theorem jf7 (M e:Nat) (u:Nu):val M (jaB e u) = tnn (e % 8) (val M u):=by
  unfold val jaB
  rw [jl9]
theorem jkD {M:Nat} {u v:Nu} (hu:u.2 ≤ M) (hv:v.2 ≤ M):val M (jb6 u v) = Q4.add (val M u) (val M v):=by
  unfold val jb6 je6
  have hk:max (u.2:Int) v.2 = ((max u.2 v.2:Nat):Int):=by omega
  rw [hk]
  simp only
  rw [jmV _ _ M (by omega),Q4.rtn_addQ,← Q4.rtn_add,← Q4.rtn_add]
  congr 2 <;> congr 1 <;> omega
theorem jkE {M:Nat} {u:Nu} (hu:u.2 + 1 ≤ M):Q4.rt (val M (jcH u)) = val M u:=by
  unfold val jcH
  rw [jmV _ _ M hu,← Q4.rtn_succ]
  congr 1
  omega
def jbO (u:Nu):Prop:=Q4.Least u.1 u.2
theorem jl3 {M:Nat} {u v:Nu} (hu:jbO u) (hv:jbO v) (h1:u.2 ≤ M) (h2:v.2 ≤ M) (h:val M u = val M v):u = v:=by
  obtain ⟨a,b⟩:=Q4.Least.one hu hv h1 h2 h
  exact Prod.ext a b
theorem jmW (x:Q4) (k:Nat):jbO ((num x k).1,(num x k).2.toNat):=by
  obtain ⟨s1,s2,s3⟩:=jep x k (by omega)
  show Q4.Least (num x k).1 ((num x k).2.toNat:Int)
  rw [Int.toNat_of_nonneg s1.1]; exact s1
theorem jlG (u:Nu):jbO (jcH u):=jmW _ _
theorem jfp {u:Nu} (e:Nat) (h:jbO u):jbO (jaB e u):=jmc _ h
theorem jdx {f:Nat → Nu} (h:∀ p,jbO (f p)) (n:Nat) (r:Row) (p:Nat):jbO (jaG n f r p):=by
  cases r with
  | swing j=>
    show jbO (if bit (wt n j) p = 0 then _ else _)
    split <;> exact jlG _
  | turn j e=>exact jfp _ (h p)
  | sign i j=>exact jfp _ (h p)
  | flip j=>exact h _
  | tie i j=>exact h _
  | cross i j=>exact h _
def jjS:Nat → (Nat → Int) → Int
  | 0,_=>0
  | n + 1,F=>jjS n F + F n
theorem jdv {F G:Nat → Int}:∀ (n:Nat),(∀ p,p < n → F p = G p) → jjS n F = jjS n G
  | 0,_=>rfl
  | n + 1,h=>by
    show jjS n F + F n = jjS n G + G n
    rw [jdv n fun p hp=>h p (by omega),h n (by omega)]
theorem je0 (F G:Nat → Int):∀ n:Nat,jjS n (fun p=>F p + G p) = jjS n F + jjS n G
  | 0=>rfl
  | n + 1=>by
    show jjS n _ + (F n + G n) = jjS n F + F n + (jjS n G + G n)
    rw [je0 F G n]; omega
theorem juu {w p:Nat} (hw:0 < w):((flp w p:Nat):Int) = (p:Int) + w - 2 * ((w * bit w p:Nat):Int):=by
  have h2:=jbq w p
  unfold flp
  by_cases h:bit w p = 0
  · rw [if_pos h,h]; omega
  · have h1:bit w p = 1:=by omega
    have:=jiu hw h1
    rw [if_neg h,h1]; omega
theorem jpm {n i j p:Nat} (hi:i < n) (hj:j < n) (hij:i ≠ j):flp (wt n j) (flp (wt n i) p) = flp (wt n i) (flp (wt n j) p):=by
  have a:=juu (p:=flp (wt n i) p) (ja7 n j)
  have b:=juu (p:=flp (wt n j) p) (ja7 n i)
  rw [jfE hi hj hij,juu (ja7 n i)] at a
  rw [jfE hj hi (Ne.symm hij),juu (ja7 n j)] at b
  omega
theorem jd0 (u v:Nu):(jb6 u v).2 ≤ max u.2 v.2:=by
  have hk:max (u.2:Int) v.2 = ((max u.2 v.2:Nat):Int):=by omega
  unfold jb6 je6
  rw [hk]
  obtain ⟨s1,s2,s3⟩:=jep (Q4.add (Q4.rtn (((max u.2 v.2:Nat):Int) - u.2).toNat u.1) (Q4.rtn (((max u.2 v.2:Nat):Int) - v.2).toNat v.1)) ((max u.2 v.2:Nat):Int) (by omega)
  show (num _ _).2.toNat ≤ _
  omega
def jkN (N:Nat) (F:Nat → Q4):Q4:=⟨jjS N (fun p=>(F p).a),jjS N (fun p=>(F p).b),jjS N (fun p=>(F p).c),jjS N (fun p=>(F p).d)⟩
theorem jgo (N:Nat) (F:Nat → Q4):jkN (N + 1) F = Q4.add (jkN N F) (F N):=rfl
theorem jft {F G:Nat → Q4} (N:Nat) (h:∀ p,p < N → F p = G p):jkN N F = jkN N G:=by
  apply Q4.ext'
  · exact jdv N fun p hp=>by rw [h p hp]
  · exact jdv N fun p hp=>by rw [h p hp]
  · exact jdv N fun p hp=>by rw [h p hp]
  · exact jdv N fun p hp=>by rw [h p hp]
theorem mul_two (s t s' t':Q4):Q4.add (Q4.mul (Q4.mir (Q4.add s t)) (Q4.add s' t')) (Q4.mul (Q4.mir (Q4.add s (Q4.neg t))) (Q4.add s' (Q4.neg t'))) = Q4.dbl 2 (Q4.add (Q4.mul (Q4.mir s) s') (Q4.mul (Q4.mir t) t')):=by
  apply Q4.ext' <;> simp only [Q4.mul,Q4.mir,Q4.add,Q4.neg,Q4.dbl] <;> grind
theorem jkT:∀ k,Q4.rtn k ⟨0,0,0,0⟩ = ⟨0,0,0,0⟩
  | 0=>rfl
  | k + 1=>by rw [Q4.rtn_succ,jkT k]; rfl
theorem jmj (F:Nat → Q4):∀ N:Nat,Q4.rt (jkN N F) = jkN N (fun p=>Q4.rt (F p))
  | 0=>by apply Q4.ext' <;> rfl
  | N + 1=>by rw [jgo,Q4.rt_add,jmj F N]; rfl
theorem jsy (x y:Q4):Q4.tn (Q4.add x y) = Q4.add (Q4.tn x) (Q4.tn y):=by apply Q4.ext' <;> simp only [Q4.tn,Q4.add] <;> omega
theorem jkJ (e:Nat):∀ (x y:Q4),tnn e (Q4.add x y) = Q4.add (tnn e x) (tnn e y):=by
  induction e with
  | zero=>intro x y; rfl
  | succ e ih=>
    intro x y
    have e1:∀ z,tnn (e + 1) z = tnn e (Q4.tn z):=fun z=>by rw [jdW e 1 z]; rfl
    rw [e1,e1,e1,jsy,ih]
theorem joe (e:Nat):tnn e ⟨0,0,0,0⟩ = ⟨0,0,0,0⟩:=by
  induction e with
  | zero=>rfl
  | succ e ih=>
    have e1:∀ z,tnn (e + 1) z = tnn e (Q4.tn z):=fun z=>by rw [jdW e 1 z]; rfl
    rw [e1]
    exact ih
theorem jhS (e:Nat) (F:Nat → Q4):∀ N:Nat,tnn e (jkN N F) = jkN N (fun p=>tnn e (F p))
  | 0=>joe e
  | N + 1=>by rw [jgo,jkJ,jhS e F N]; rfl
theorem jkM (F G:Nat → Q4) (N:Nat):jkN N (fun p=>Q4.add (F p) (G p)) = Q4.add (jkN N F) (jkN N G):=by
  apply Q4.ext'
  · exact je0 (fun p=>(F p).a) (fun p=>(G p).a) N
  · exact je0 (fun p=>(F p).b) (fun p=>(G p).b) N
  · exact je0 (fun p=>(F p).c) (fun p=>(G p).c) N
  · exact je0 (fun p=>(F p).d) (fun p=>(G p).d) N
theorem jct {n M j:Nat} {f:Nat → Nu} (hf:∀ p,(f p).2 + 1 ≤ M) (x:Nat):Q4.rt (val M (jaG n f (.swing j) x)) = if bit (wt n j) x = 0 then Q4.add (val M (f x)) (val M (f (x + wt n j))) else Q4.add (val M (f (x - wt n j))) (tnn 4 (val M (f x))):=by
  show Q4.rt (val M (if bit (wt n j) x = 0 then jcH (jb6 (f x) (f (x + wt n j))) else jcH (jb6 (f (x - wt n j)) (jaB 4 (f x))))) = _
  split
  · have a:=hf x
    have b:=hf (x + wt n j)
    have l:=jd0 (f x) (f (x + wt n j))
    rw [jkE (by omega),jkD (by omega) (by omega)]
  · have a:=hf x
    have b:=hf (x - wt n j)
    have l:(jb6 (f (x - wt n j)) (jaB 4 (f x))).2 ≤ max (f (x - wt n j)).2 (f x).2:=jd0 _ _
    rw [jkE (by omega),jkD (by omega) (by show (f x).2 ≤ M; omega),jf7]
def Sup (N M K:Nat) (a:Nat → Q4) (c:Nat → Nat → Nu) (g:Nat → Nu):Prop:=∀ x,val N (g x) = jkN K (fun p=>Q4.mul (a p) (val M (c p x)))
theorem Sup.done {n N M K:Nat} {a:Nat → Q4} {c:Nat → Nat → Nu} {g:Nat → Nu} (h:Sup N M K a c g) (hg:∀ p,(g p).2 + 1 ≤ N) (hc:∀ p x,(c p x).2 + 1 ≤ M) (r:Row):Sup N M K a (fun p=>jaG n (c p) r) (jaG n g r):=by
  have tm:∀ (e:Nat) (x:Nat),val N (jaB e (g x)) = jkN K (fun p=>Q4.mul (a p) (val M (jaB e (c p x)))):=fun e x=>by
    rw [jf7,h x,jhS]
    refine jft _ fun p _=>?_
    rw [jmb,jf7]
  intro x
  cases r with
  | swing j=>
    apply Q4.rt_inj
    rw [jct hg x,jmj]
    have e:∀ p,Q4.rt (Q4.mul (a p) (val M (jaG n (c p) (.swing j) x))) = Q4.mul (a p) (if bit (wt n j) x = 0 then Q4.add (val M (c p x)) (val M (c p (x + wt n j))) else Q4.add (val M (c p (x - wt n j))) (tnn 4 (val M (c p x)))):=fun p=>by
      rw [← jct (hc p) x,Q4.mul_comm,Q4.rt_mul,Q4.mul_comm]
    simp only [e]
    split
    · rw [h x,h (x + wt n j),← jkM]
      exact jft _ fun p _=>by rw [Q4.mul_add]
    · rw [h x,h (x - wt n j),jhS,← jkM]
      exact jft _ fun p _=>by rw [Q4.mul_add,jmb]
  | turn j e=>exact tm _ x
  | sign i j=>exact tm _ x
  | flip j=>exact h _
  | tie i j=>exact h _
  | cross i j=>exact h _
def jdR (p:Nat):Nat → Nu:=fun q=>if q = p then (⟨1,0,0,0⟩,0) else (⟨0,0,0,0⟩,0)
theorem jkL {F:Nat → Q4} {x:Nat} (hF:∀ p,p ≠ x → F p = ⟨0,0,0,0⟩):∀ N:Nat,jkN N F = if x < N then F x else ⟨0,0,0,0⟩
  | 0=>by rw [if_neg (by omega)]; apply Q4.ext' <;> rfl
  | N + 1=>by
    rw [jgo,jkL hF N]
    by_cases h:x < N
    · rw [if_pos h,if_pos (by omega),hF N (by omega)]
      apply Q4.ext' <;> simp [Q4.add]
    · by_cases h2:x = N
      · subst h2
        rw [if_neg h,if_pos (by omega)]
        apply Q4.ext' <;> simp [Q4.add]
      · rw [if_neg h,if_neg (by omega),hF N (Ne.symm h2)]
        apply Q4.ext' <;> simp [Q4.add]
theorem jmY (x:Q4):Q4.mul x ⟨0,0,0,0⟩ = ⟨0,0,0,0⟩:=by apply Q4.ext' <;> simp [Q4.mul]
theorem joM (x:Q4):Q4.mul x ⟨1,0,0,0⟩ = x:=by apply Q4.ext' <;> simp [Q4.mul]
theorem jkC (M:Nat):val M (⟨0,0,0,0⟩,0) = ⟨0,0,0,0⟩:=jkT _
theorem Sup.start {n M:Nat} (s:Nat → Nu) (hs:∀ p,(s p).2 ≤ M) (hz:∀ p,2 ^ n ≤ p → s p = (⟨0,0,0,0⟩,0)):Sup (M + M) M (2 ^ n) (fun p=>val M (s p)) jdR s:=by
  intro x
  have hF:∀ p,p ≠ x → Q4.mul (val M (s p)) (val M (jdR p x)) = ⟨0,0,0,0⟩:=fun p hp=>by
    unfold jdR
    rw [if_neg (Ne.symm hp),jkC,jmY]
  rw [jkL hF]
  by_cases h:x < 2 ^ n
  · rw [if_pos h]
    unfold jdR
    rw [if_pos rfl]
    unfold val
    have:=hs x
    show Q4.rtn (M + M - (s x).2) (s x).1 = Q4.mul (Q4.rtn (M - (s x).2) (s x).1) (Q4.rtn (M - 0) ⟨1,0,0,0⟩)
    rw [← Q4.rtn_mul2,joM]
    congr 1
    omega
  · rw [if_neg h,hz x (by omega),jkC]
theorem jmL (p x:Nat):jbO (jdR p x):=by
  unfold jdR
  split
  · exact ⟨Int.le_refl 0,fun z=>absurd z (Int.lt_irrefl 0)⟩
  · exact ⟨Int.le_refl 0,fun z=>absurd z (Int.lt_irrefl 0)⟩
theorem jwL:((List.range 6).all fun k=>(List.range 64).all fun p=>p &&& 2 ^ k == 2 ^ k * bit (2 ^ k) p) = true:=by decide +kernel
theorem jiF {n i a:Nat} (hn:n ≤ 6) (hi:i < n) (ha:a < 2 ^ n):a &&& wt n i = wt n i * bit (wt n i) a:=by
  have h:=jwL
  rw [List.all_eq_true] at h
  have h:=h (n - 1 - i) (List.mem_range.mpr (by omega))
  rw [List.all_eq_true] at h
  have h:=h a (List.mem_range.mpr (Nat.lt_of_lt_of_le ha (Nat.pow_le_pow_right (by decide) hn:2 ^ n ≤ 2 ^ 6)))
  exact beq_iff_eq.mp h
theorem jq2:∀ k,k < 6 → par (2 ^ k) = 1
  | 0,_=>by rw [jjY (by decide)]
  | 1,_=>by rw [jjY (by decide)]
  | 2,_=>by rw [jjY (by decide)]
  | 3,_=>by rw [jjY (by decide)]
  | 4,_=>by rw [jjY (by decide)]
  | 5,_=>by rw [jjY (by decide)]
  | k + 6,h=>by omega
theorem jlY (a b:Nat):∀ k,(a ^^^ b) / 2 ^ k = a / 2 ^ k ^^^ b / 2 ^ k
  | 0=>by simp
  | k + 1=>by
    rw [Nat.pow_succ,← Nat.div_div_eq_div_mul,← Nat.div_div_eq_div_mul,← Nat.div_div_eq_div_mul,jlY a b k,Nat.xor_div_two]
theorem jaw (n i a b:Nat):bit (wt n i) (a ^^^ b) = (bit (wt n i) a + bit (wt n i) b) % 2:=by
  unfold bit wt
  rw [jlY]
  have:=@Nat.xor_mod_two_eq_one (a / 2 ^ (n - 1 - i)) (b / 2 ^ (n - 1 - i))
  omega
theorem jfi (w:Nat):bit w 0 = 0:=by unfold bit; simp
theorem jgR {n i:Nat} (e:Nat) (he:e < 2):bit (wt n i) (wt n i * e) = e:=by
  have:=jnG (w:=wt n i) (q:=0) (b:=e) (r:=0) he (ja7 n i)
  rw [show (2 * 0 + e) * wt n i + 0 = wt n i * e by rw [Nat.mul_zero,Nat.zero_add,Nat.add_zero,Nat.mul_comm]] at this
  exact this
theorem jeC {n i j:Nat} (hi:i < n) (hj:j < n) (hij:i ≠ j) (e:Nat) (he:e < 2):bit (wt n i) (wt n j * e) = 0:=by
  have h:e = 0 ∨ e = 1:=by omega
  rcases h with rfl | rfl
  · rw [Nat.mul_zero,jfi]
  · have:=jfE (p:=0) hj hi (Ne.symm hij)
    rw [show flp (wt n j) 0 = wt n j by unfold flp; rw [if_pos (jfi _),Nat.zero_add],jfi] at this
    rw [Nat.mul_one]; exact this
theorem jb7 {n i z:Nat} (hn:n ≤ 6) (hi:i < n) (hz:z < 2 ^ n) (e:Nat) (he:e < 2):par ((wt n i * e) &&& z) = e * bit (wt n i) z:=by
  have h:e = 0 ∨ e = 1:=by omega
  have hb:=jbq (wt n i) z
  rcases h with rfl | rfl
  · rw [Nat.mul_zero,Nat.zero_and,jcn,Nat.zero_mul]
  · rw [Nat.mul_one,Nat.and_comm,jiF hn hi hz,Nat.one_mul]
    have h2:bit (wt n i) z = 0 ∨ bit (wt n i) z = 1:=by omega
    rcases h2 with h2 | h2
    · rw [h2,Nat.mul_zero,jcn]
    · rw [h2,Nat.mul_one]; exact jq2 _ (by omega)
theorem jfv (a b c:Nat):par ((a ^^^ b) &&& c) = (par (a &&& c) + par (b &&& c)) % 2:=by rw [Nat.and_xor_distrib_right,jmD]
theorem je7 (a b c:Nat):par (a &&& (b ^^^ c)) = (par (a &&& b) + par (a &&& c)) % 2:=by rw [Nat.and_xor_distrib_left,jmD]
theorem jfN {n i z:Nat} (hn:n ≤ 6) (hi:i < n) (hz:z < 2 ^ n) (e:Nat) (he:e < 2):par (z &&& (wt n i * e)) = e * bit (wt n i) z:=by rw [Nat.and_comm]; exact jb7 hn hi hz e he
theorem w_lt {n i:Nat} (hi:i < n) (e:Nat) (he:e < 2):wt n i * e < 2 ^ n:=by
  have h:=juD hi
  have h0:=ja7 n i
  have:e = 0 ∨ e = 1:=by omega
  rcases this with rfl | rfl
  · have:0 < 2 ^ n:=Nat.pow_pos (by decide)
    omega
  · omega
theorem jhd (w a b:Nat) (ha:a < 2) (hb:b < 2):w * ((a + b) % 2) = w * a ^^^ w * b:=by
  have h1:a = 0 ∨ a = 1:=by omega
  have h2:b = 0 ∨ b = 1:=by omega
  rcases h1 with rfl | rfl <;> rcases h2 with rfl | rfl <;> simp
def carry (n:Nat):Row → Wd → Wd
  | .swing j,u=>⟨u.x ^^^ wt n j * ((bit (wt n j) u.x + bit (wt n j) u.z) % 2),u.z ^^^ wt n j * ((bit (wt n j) u.x + bit (wt n j) u.z) % 2),(u.s + 2 * (bit (wt n j) u.x * bit (wt n j) u.z)) % 4⟩
  | .turn j e,u=>⟨u.x,u.z ^^^ wt n j * (bit (wt n j) u.x * (if e % 4 = 2 then 1 else 0)),(u.s + (e / 2) * bit (wt n j) u.x) % 4⟩
  | .flip j,u=>⟨u.x,u.z,(u.s + 2 * bit (wt n j) u.z) % 4⟩
  | .tie i j,u=>⟨u.x ^^^ wt n j * bit (wt n i) u.x,u.z ^^^ wt n i * bit (wt n j) u.z,u.s⟩
  | .sign i j,u=>⟨u.x,u.z ^^^ wt n j * bit (wt n i) u.x ^^^ wt n i * bit (wt n j) u.x,(u.s + 2 * (bit (wt n i) u.x * bit (wt n j) u.x)) % 4⟩
  | .cross i j,u=>⟨u.x ^^^ (wt n i * ((bit (wt n i) u.x + bit (wt n j) u.x) % 2) ^^^ wt n j * ((bit (wt n i) u.x + bit (wt n j) u.x) % 2)),u.z ^^^ (wt n i * ((bit (wt n i) u.z + bit (wt n j) u.z) % 2) ^^^ wt n j * ((bit (wt n i) u.z + bit (wt n j) u.z) % 2)),u.s⟩
def jsl (n:Nat):Row → Wd → Prop
  | .turn j e,u=>e % 2 = 0 ∨ bit (wt n j) u.x = 0
  | _,_=>True
theorem jfh {n:Nat} {r:Row} (hr:r.ok n) {u:Wd} (hu:u.ok n):(carry n r u).ok n:=by
  obtain ⟨h1,h2,h3⟩:=hu
  have m:∀ a:Nat,a % 2 < 2:=fun a=>Nat.mod_lt _ (by decide)
  have m4:∀ a:Nat,a % 4 < 4:=fun a=>Nat.mod_lt _ (by decide)
  have b:∀ w p,bit w p < 2:=jbq
  have bc:∀ w p (c:Nat),c < 2 → bit w p * c < 2:=fun w p c hc=>by
    have h:=b w p
    have h1:bit w p = 0 ∨ bit w p = 1:=by omega
    rcases h1 with h1 | h1 <;> rw [h1] <;> omega
  cases r with
  | swing j=>exact ⟨Nat.xor_lt_two_pow h1 (w_lt hr _ (m _)),Nat.xor_lt_two_pow h2 (w_lt hr _ (m _)),m4 _⟩
  | turn j e=>exact ⟨h1,Nat.xor_lt_two_pow h2 (w_lt hr.1 _ (bc _ _ _ (by split <;> decide))),m4 _⟩
  | flip j=>exact ⟨h1,h2,m4 _⟩
  | tie i j=>exact ⟨Nat.xor_lt_two_pow h1 (w_lt hr.2.1 _ (b _ _)),Nat.xor_lt_two_pow h2 (w_lt hr.1 _ (b _ _)),h3⟩
  | sign i j=>exact ⟨h1,Nat.xor_lt_two_pow (Nat.xor_lt_two_pow h2 (w_lt hr.2.1 _ (b _ _))) (w_lt hr.1 _ (b _ _)),m4 _⟩
  | cross i j=>exact ⟨Nat.xor_lt_two_pow h1 (Nat.xor_lt_two_pow (w_lt hr.1 _ (m _)) (w_lt hr.2.1 _ (m _))),Nat.xor_lt_two_pow h2 (Nat.xor_lt_two_pow (w_lt hr.1 _ (m _)) (w_lt hr.2.1 _ (m _))),h3⟩
theorem jcJ {u v:Wd} (h1:u.x = v.x) (h2:u.z = v.z) (h3:u.s = v.s):u = v:=by
  cases u; cases v; simp_all
theorem jkV {n i z x:Nat} (hn:n ≤ 6) (hi:i < n) (hz:z < 2 ^ n) (hx:x < 2 ^ n) (a c:Nat) (ha:a < 2) (hc:c < 2):par ((z ^^^ wt n i * a) &&& (x ^^^ wt n i * c)) = (par (z &&& x) + c * bit (wt n i) z + a * bit (wt n i) x + a * c) % 2:=by
  rw [jfv,je7,je7,jfN hn hi hz c hc,jb7 hn hi hx a ha,jb7 hn hi (w_lt hi c hc) a ha,jgR c hc]
  omega
theorem je9 {n i j z x:Nat} (hn:n ≤ 6) (hi:i < n) (hj:j < n) (hij:i ≠ j) (hz:z < 2 ^ n) (hx:x < 2 ^ n) (a b c d:Nat) (ha:a < 2) (hb:b < 2) (hc:c < 2) (hd:d < 2):par ((z ^^^ (wt n i * a ^^^ wt n j * b)) &&& (x ^^^ (wt n i * c ^^^ wt n j * d))) = (par (z &&& x) + c * bit (wt n i) z + d * bit (wt n j) z + a * bit (wt n i) x + b * bit (wt n j) x + a * c + b * d) % 2:=by
  rw [jfv,je7,je7 z,jfN hn hi hz c hc,jfN hn hj hz d hd,jfv (wt n i * a),je7 (wt n i * a),je7 (wt n j * b),jb7 hn hi hx a ha,jb7 hn hj hx b hb,je7 (wt n i * a),je7 (wt n j * b),jb7 hn hi (w_lt hi c hc) a ha,jb7 hn hi (w_lt hj d hd) a ha,jb7 hn hj (w_lt hi c hc) b hb,jb7 hn hj (w_lt hj d hd) b hb,jgR c hc,jgR d hd,jeC hi hj hij d hd,jeC hj hi (Ne.symm hij) c hc]
  omega
theorem b01 (w p:Nat):bit w p = 0 ∨ bit w p = 1:=by have:=jbq w p; omega
theorem zero_xor (a:Nat):0 ^^^ a = a:=Nat.zero_xor a
theorem jgQ {n:Nat} (hn:n ≤ 6) {r:Row} (hr:r.ok n) {u v:Wd} (hu:u.ok n) (hv:v.ok n) (lu:jsl n r u) (lv:jsl n r v):carry n r (jba u v) = jba (carry n r u) (carry n r v):=by
  have m:∀ a:Nat,a % 2 < 2:=fun a=>Nat.mod_lt _ (by decide)
  have b:∀ w p,bit w p < 2:=jbq
  cases r with
  | swing j=>
    have e1:wt n j * ((bit (wt n j) (u.x ^^^ v.x) + bit (wt n j) (u.z ^^^ v.z)) % 2) = wt n j * ((bit (wt n j) u.x + bit (wt n j) u.z) % 2) ^^^ wt n j * ((bit (wt n j) v.x + bit (wt n j) v.z) % 2):=by
      rw [← jhd _ _ _ (m _) (m _),jaw,jaw]
      congr 1
      omega
    apply jcJ
    · show (u.x ^^^ v.x) ^^^ wt n j * ((bit (wt n j) (u.x ^^^ v.x) + bit (wt n j) (u.z ^^^ v.z)) % 2) = (u.x ^^^ _) ^^^ (v.x ^^^ _)
      rw [e1]; ac_rfl
    · show (u.z ^^^ v.z) ^^^ wt n j * ((bit (wt n j) (u.x ^^^ v.x) + bit (wt n j) (u.z ^^^ v.z)) % 2) = (u.z ^^^ _) ^^^ (v.z ^^^ _)
      rw [e1]; ac_rfl
    · show ((u.s + v.s + 2 * par (u.z &&& v.x)) % 4 + 2 * (bit (wt n j) (u.x ^^^ v.x) * bit (wt n j) (u.z ^^^ v.z))) % 4 = ((u.s + 2 * (bit (wt n j) u.x * bit (wt n j) u.z)) % 4 + (v.s + 2 * (bit (wt n j) v.x * bit (wt n j) v.z)) % 4 + 2 * par ((u.z ^^^ wt n j * ((bit (wt n j) u.x + bit (wt n j) u.z) % 2)) &&& (v.x ^^^ wt n j * ((bit (wt n j) v.x + bit (wt n j) v.z) % 2)))) % 4
      rw [jkV hn hr hu.2.1 hv.1 _ _ (m _) (m _),jaw,jaw]
      generalize par (u.z &&& v.x) = P
      rcases b01 (wt n j) u.x with h1 | h1 <;> rcases b01 (wt n j) u.z with h2 | h2 <;> rcases b01 (wt n j) v.x with h3 | h3 <;> rcases b01 (wt n j) v.z with h4 | h4 <;> rw [h1,h2,h3,h4] <;> omega
  | turn j e=>
    have k:(if e % 4 = 2 then 1 else 0:Nat) < 2:=by split <;> decide
    have lt:∀ w:Wd,bit (wt n j) w.x * (if e % 4 = 2 then 1 else 0) < 2:=fun w=>by rcases b01 (wt n j) w.x with h | h <;> rw [h] <;> omega
    have e1:wt n j * (bit (wt n j) (u.x ^^^ v.x) * (if e % 4 = 2 then 1 else 0)) = wt n j * (bit (wt n j) u.x * (if e % 4 = 2 then 1 else 0)) ^^^ wt n j * (bit (wt n j) v.x * (if e % 4 = 2 then 1 else 0)):=by
      rw [← jhd _ _ _ (lt u) (lt v),jaw]
      congr 1
      rcases b01 (wt n j) u.x with h1 | h1 <;> rcases b01 (wt n j) v.x with h2 | h2 <;> rw [h1,h2] <;> split <;> rfl
    apply jcJ
    · rfl
    · show (u.z ^^^ v.z) ^^^ wt n j * (bit (wt n j) (u.x ^^^ v.x) * _) = (u.z ^^^ _) ^^^ (v.z ^^^ _)
      rw [e1]; ac_rfl
    · show ((u.s + v.s + 2 * par (u.z &&& v.x)) % 4 + (e / 2) * bit (wt n j) (u.x ^^^ v.x)) % 4 = ((u.s + (e / 2) * bit (wt n j) u.x) % 4 + (v.s + (e / 2) * bit (wt n j) v.x) % 4 + 2 * par ((u.z ^^^ wt n j * (bit (wt n j) u.x * (if e % 4 = 2 then 1 else 0))) &&& v.x)) % 4
      rw [jfv,jb7 hn hr.1 hv.1 _ (lt u),jaw]
      generalize par (u.z &&& v.x) = P
      have lu:e % 2 = 0 ∨ bit (wt n j) u.x = 0:=lu
      have lv:e % 2 = 0 ∨ bit (wt n j) v.x = 0:=lv
      rcases b01 (wt n j) u.x with h1 | h1 <;> rcases b01 (wt n j) v.x with h2 | h2 <;> rw [h1] at lu <;> rw [h2] at lv <;> rw [h1,h2] <;> split <;> omega
  | flip j=>
    apply jcJ
    · rfl
    · rfl
    · show ((u.s + v.s + 2 * par (u.z &&& v.x)) % 4 + 2 * bit (wt n j) (u.z ^^^ v.z)) % 4 = ((u.s + 2 * bit (wt n j) u.z) % 4 + (v.s + 2 * bit (wt n j) v.z) % 4 + 2 * par (u.z &&& v.x)) % 4
      rw [jaw]
      omega
  | tie i j=>
    obtain ⟨hi,hj,hij⟩:=hr
    apply jcJ
    · show (u.x ^^^ v.x) ^^^ wt n j * bit (wt n i) (u.x ^^^ v.x) = (u.x ^^^ _) ^^^ (v.x ^^^ _)
      rw [jaw,jhd _ _ _ (b _ _) (b _ _)]; ac_rfl
    · show (u.z ^^^ v.z) ^^^ wt n i * bit (wt n j) (u.z ^^^ v.z) = (u.z ^^^ _) ^^^ (v.z ^^^ _)
      rw [jaw,jhd _ _ _ (b _ _) (b _ _)]; ac_rfl
    · show (u.s + v.s + 2 * par (u.z &&& v.x)) % 4 = (u.s + v.s + 2 * par ((u.z ^^^ wt n i * bit (wt n j) u.z) &&& (v.x ^^^ wt n j * bit (wt n i) v.x))) % 4
      have:=je9 hn hi hj hij hu.2.1 hv.1 (bit (wt n j) u.z) 0 0 (bit (wt n i) v.x) (b _ _) (by decide) (by decide) (b _ _)
      rw [Nat.mul_zero,Nat.mul_zero,Nat.xor_zero,zero_xor] at this
      rw [this]
      generalize par (u.z &&& v.x) = P
      rcases b01 (wt n j) u.z with h1 | h1 <;> rcases b01 (wt n i) v.x with h2 | h2 <;> rw [h1,h2] <;> omega
  | sign i j=>
    obtain ⟨hi,hj,hij⟩:=hr
    apply jcJ
    · rfl
    · show (u.z ^^^ v.z) ^^^ wt n j * bit (wt n i) (u.x ^^^ v.x) ^^^ wt n i * bit (wt n j) (u.x ^^^ v.x) = (u.z ^^^ _ ^^^ _) ^^^ (v.z ^^^ _ ^^^ _)
      rw [jaw,jaw,jhd _ _ _ (b _ _) (b _ _),jhd _ _ _ (b _ _) (b _ _)]; ac_rfl
    · show ((u.s + v.s + 2 * par (u.z &&& v.x)) % 4 + 2 * (bit (wt n i) (u.x ^^^ v.x) * bit (wt n j) (u.x ^^^ v.x))) % 4 = ((u.s + 2 * (bit (wt n i) u.x * bit (wt n j) u.x)) % 4 + (v.s + 2 * (bit (wt n i) v.x * bit (wt n j) v.x)) % 4 + 2 * par ((u.z ^^^ wt n j * bit (wt n i) u.x ^^^ wt n i * bit (wt n j) u.x) &&& v.x)) % 4
      rw [jfv,jfv,jb7 hn hj hv.1 _ (b _ _),jb7 hn hi hv.1 _ (b _ _),jaw,jaw]
      generalize par (u.z &&& v.x) = P
      rcases b01 (wt n i) u.x with h1 | h1 <;> rcases b01 (wt n j) u.x with h2 | h2 <;> rcases b01 (wt n i) v.x with h3 | h3 <;> rcases b01 (wt n j) v.x with h4 | h4 <;> rw [h1,h2,h3,h4] <;> omega
  | cross i j=>
    obtain ⟨hi,hj,hij⟩:=hr
    have e1:∀ a c w:Nat,w * ((bit (wt n i) (a ^^^ c) + bit (wt n j) (a ^^^ c)) % 2) = w * ((bit (wt n i) a + bit (wt n j) a) % 2) ^^^ w * ((bit (wt n i) c + bit (wt n j) c) % 2):=fun a c w=>by
      rw [← jhd _ _ _ (m _) (m _),jaw,jaw]
      congr 1
      omega
    apply jcJ
    · show (u.x ^^^ v.x) ^^^ (wt n i * ((bit (wt n i) (u.x ^^^ v.x) + bit (wt n j) (u.x ^^^ v.x)) % 2) ^^^ wt n j * ((bit (wt n i) (u.x ^^^ v.x) + bit (wt n j) (u.x ^^^ v.x)) % 2)) = (u.x ^^^ (_ ^^^ _)) ^^^ (v.x ^^^ (_ ^^^ _))
      rw [e1,e1]; ac_rfl
    · show (u.z ^^^ v.z) ^^^ (wt n i * ((bit (wt n i) (u.z ^^^ v.z) + bit (wt n j) (u.z ^^^ v.z)) % 2) ^^^ wt n j * ((bit (wt n i) (u.z ^^^ v.z) + bit (wt n j) (u.z ^^^ v.z)) % 2)) = (u.z ^^^ (_ ^^^ _)) ^^^ (v.z ^^^ (_ ^^^ _))
      rw [e1,e1]; ac_rfl
    · show (u.s + v.s + 2 * par (u.z &&& v.x)) % 4 = (u.s + v.s + 2 * par ((u.z ^^^ (wt n i * ((bit (wt n i) u.z + bit (wt n j) u.z) % 2) ^^^ wt n j * ((bit (wt n i) u.z + bit (wt n j) u.z) % 2))) &&& (v.x ^^^ (wt n i * ((bit (wt n i) v.x + bit (wt n j) v.x) % 2) ^^^ wt n j * ((bit (wt n i) v.x + bit (wt n j) v.x) % 2))))) % 4
      rw [je9 hn hi hj hij hu.2.1 hv.1 _ _ _ _ (m _) (m _) (m _) (m _)]
      generalize par (u.z &&& v.x) = P
      rcases b01 (wt n i) u.z with h1 | h1 <;> rcases b01 (wt n j) u.z with h2 | h2 <;> rcases b01 (wt n i) v.x with h3 | h3 <;> rcases b01 (wt n j) v.x with h4 | h4 <;> rw [h1,h2,h3,h4] <;> omega
def jku:Row → Row
  | .turn j e=>.turn j (8 - e)
  | r=>r
theorem jeI (a b:Nat):a ^^^ b ^^^ b = a:=by rw [Nat.xor_assoc,Nat.xor_self,Nat.xor_zero]
theorem jfD {n:Nat} {r:Row} (hr:r.ok n) {u:Wd} (hu:u.ok n) (lu:jsl n r u):carry n (jku r) (carry n r u) = u:=by
  have m:∀ a:Nat,a % 2 < 2:=fun a=>Nat.mod_lt _ (by decide)
  have b:∀ w p,bit w p < 2:=jbq
  have hs:=hu.2.2
  cases r with
  | swing j=>
    have f1:bit (wt n j) (u.x ^^^ wt n j * ((bit (wt n j) u.x + bit (wt n j) u.z) % 2)) = bit (wt n j) u.z:=by
      rw [jaw,jgR _ (m _)]
      have:=b (wt n j) u.x
      have:=b (wt n j) u.z
      omega
    have f2:bit (wt n j) (u.z ^^^ wt n j * ((bit (wt n j) u.x + bit (wt n j) u.z) % 2)) = bit (wt n j) u.x:=by
      rw [jaw,jgR _ (m _)]
      have:=b (wt n j) u.x
      have:=b (wt n j) u.z
      omega
    apply jcJ
    · show (u.x ^^^ _) ^^^ wt n j * ((bit (wt n j) (u.x ^^^ _) + bit (wt n j) (u.z ^^^ _)) % 2) = u.x
      rw [f1,f2,Nat.add_comm (bit (wt n j) u.z),jeI]
    · show (u.z ^^^ _) ^^^ wt n j * ((bit (wt n j) (u.x ^^^ _) + bit (wt n j) (u.z ^^^ _)) % 2) = u.z
      rw [f1,f2,Nat.add_comm (bit (wt n j) u.z),jeI]
    · show ((u.s + 2 * (bit (wt n j) u.x * bit (wt n j) u.z)) % 4 + 2 * (bit (wt n j) (u.x ^^^ _) * bit (wt n j) (u.z ^^^ _))) % 4 = u.s
      rw [f1,f2]
      rcases b01 (wt n j) u.x with h1 | h1 <;> rcases b01 (wt n j) u.z with h2 | h2 <;> rw [h1,h2] <;> omega
  | turn j e=>
    have k:(if (8 - e) % 4 = 2 then 1 else 0:Nat) = (if e % 4 = 2 then 1 else 0):=by
      have:=hr.2
      by_cases h:e % 4 = 2
      · rw [if_pos h,if_pos (by omega)]
      · rw [if_neg h,if_neg (by omega)]
    apply jcJ
    · rfl
    · show (u.z ^^^ _) ^^^ wt n j * (bit (wt n j) u.x * (if (8 - e) % 4 = 2 then 1 else 0)) = u.z
      rw [k,jeI]
    · show ((u.s + (e / 2) * bit (wt n j) u.x) % 4 + ((8 - e) / 2) * bit (wt n j) u.x) % 4 = u.s
      have lu:e % 2 = 0 ∨ bit (wt n j) u.x = 0:=lu
      have:=hr.2
      rcases b01 (wt n j) u.x with h1 | h1 <;> rw [h1] at lu <;> rw [h1] <;> omega
  | flip j=>
    apply jcJ
    · rfl
    · rfl
    · show ((u.s + 2 * bit (wt n j) u.z) % 4 + 2 * bit (wt n j) u.z) % 4 = u.s
      omega
  | tie i j=>
    obtain ⟨hi,hj,hij⟩:=hr
    apply jcJ
    · show (u.x ^^^ _) ^^^ wt n j * bit (wt n i) (u.x ^^^ wt n j * bit (wt n i) u.x) = u.x
      rw [jaw,jeC hi hj hij _ (b _ _),Nat.add_zero,Nat.mod_eq_of_lt (b _ _),jeI]
    · show (u.z ^^^ _) ^^^ wt n i * bit (wt n j) (u.z ^^^ wt n i * bit (wt n j) u.z) = u.z
      rw [jaw,jeC hj hi (Ne.symm hij) _ (b _ _),Nat.add_zero,Nat.mod_eq_of_lt (b _ _),jeI]
    · rfl
  | sign i j=>
    apply jcJ
    · rfl
    · show (u.z ^^^ wt n j * bit (wt n i) u.x ^^^ wt n i * bit (wt n j) u.x) ^^^ wt n j * bit (wt n i) u.x ^^^ wt n i * bit (wt n j) u.x = u.z
      rw [show (u.z ^^^ wt n j * bit (wt n i) u.x ^^^ wt n i * bit (wt n j) u.x) ^^^ wt n j * bit (wt n i) u.x ^^^ wt n i * bit (wt n j) u.x = u.z ^^^ (wt n j * bit (wt n i) u.x ^^^ wt n j * bit (wt n i) u.x) ^^^ (wt n i * bit (wt n j) u.x ^^^ wt n i * bit (wt n j) u.x) by ac_rfl,Nat.xor_self,Nat.xor_self,Nat.xor_zero,Nat.xor_zero]
    · show ((u.s + 2 * (bit (wt n i) u.x * bit (wt n j) u.x)) % 4 + 2 * (bit (wt n i) u.x * bit (wt n j) u.x)) % 4 = u.s
      omega
  | cross i j=>
    obtain ⟨hi,hj,hij⟩:=hr
    have k:∀ a:Nat,(bit (wt n i) (a ^^^ (wt n i * ((bit (wt n i) a + bit (wt n j) a) % 2) ^^^ wt n j * ((bit (wt n i) a + bit (wt n j) a) % 2))) + bit (wt n j) (a ^^^ (wt n i * ((bit (wt n i) a + bit (wt n j) a) % 2) ^^^ wt n j * ((bit (wt n i) a + bit (wt n j) a) % 2)))) % 2 = (bit (wt n i) a + bit (wt n j) a) % 2:=fun a=>by
      rw [jaw,jaw n j,jaw n i (wt n i * _),jaw n j (wt n i * _),jgR _ (m _),jgR _ (m _),jeC hi hj hij _ (m _),jeC hj hi (Ne.symm hij) _ (m _)]
      omega
    apply jcJ
    · show (u.x ^^^ _) ^^^ (wt n i * ((bit (wt n i) (u.x ^^^ _) + bit (wt n j) (u.x ^^^ _)) % 2) ^^^ wt n j * ((bit (wt n i) (u.x ^^^ _) + bit (wt n j) (u.x ^^^ _)) % 2)) = u.x
      rw [k,jeI]
    · show (u.z ^^^ _) ^^^ (wt n i * ((bit (wt n i) (u.z ^^^ _) + bit (wt n j) (u.z ^^^ _)) % 2) ^^^ wt n j * ((bit (wt n i) (u.z ^^^ _) + bit (wt n j) (u.z ^^^ _)) % 2)) = u.z
      rw [k,jeI]
    · rfl
def wdn (f:Nat → Nu) (w:Wd) (p:Nat):Nu:=jaB (2 * w.s + 4 * par ((p ^^^ w.x) &&& w.z)) (f (p ^^^ w.x))
theorem jwK:((List.range 6).all fun k=>(List.range 64).all fun p=>p ^^^ 2 ^ k == flp (2 ^ k) p) = true:=by decide +kernel
theorem jlI {n i a:Nat} (hn:n ≤ 6) (hi:i < n) (ha:a < 2 ^ n):flp (wt n i) a = a ^^^ wt n i:=by
  have h:=jwK
  rw [List.all_eq_true] at h
  have h:=h (n - 1 - i) (List.mem_range.mpr (by omega))
  rw [List.all_eq_true] at h
  have h:=h a (List.mem_range.mpr (Nat.lt_of_lt_of_le ha (Nat.pow_le_pow_right (by decide) hn:2 ^ n ≤ 2 ^ 6)))
  exact (beq_iff_eq.mp h).symm
theorem jl0 {n i:Nat} (hi:i < n):wt n i < 2 ^ n:=by
  have:=w_lt hi 1 (by decide)
  rwa [Nat.mul_one] at this
theorem jsz {n i j p:Nat} (hn:n ≤ 6) (hj:j < n) (hp:p < 2 ^ n):jeP n (.tie i j) p = p ^^^ wt n j * bit (wt n i) p:=by
  show (if bit (wt n i) p = 0 then p else flp (wt n j) p) = _
  rcases b01 (wt n i) p with h | h <;> rw [h]
  · rw [if_pos rfl,Nat.mul_zero,Nat.xor_zero]
  · rw [if_neg (by decide),Nat.mul_one,jlI hn hj hp]
theorem jir {n i j p:Nat} (hn:n ≤ 6) (hi:i < n) (hj:j < n) (hp:p < 2 ^ n):jeP n (.cross i j) p = p ^^^ (wt n i * ((bit (wt n i) p + bit (wt n j) p) % 2) ^^^ wt n j * ((bit (wt n i) p + bit (wt n j) p) % 2)):=by
  show (if bit (wt n i) p = bit (wt n j) p then p else flp (wt n j) (flp (wt n i) p)) = _
  have hf:flp (wt n j) (flp (wt n i) p) = p ^^^ (wt n i ^^^ wt n j):=by
    rw [jlI hn hi hp,jlI hn hj (Nat.xor_lt_two_pow hp (jl0 hi)),Nat.xor_assoc]
  rw [hf]
  rcases b01 (wt n i) p with h | h <;> rcases b01 (wt n j) p with h2 | h2 <;> rw [h,h2]
  · simp
  · rw [if_neg (by decide),show (0 + 1) % 2 = 1 from rfl,Nat.mul_one,Nat.mul_one]
  · rw [if_neg (by decide),show (1 + 0) % 2 = 1 from rfl,Nat.mul_one,Nat.mul_one]
  · simp
theorem jeh (a b:Nat) (u:Nu):jaB a (jaB b u) = jaB (a + b) u:=by
  unfold jaB
  simp only [jdV]
  rw [← jdW]
theorem jdU {a b:Nat} (h:a % 8 = b % 8) (u:Nu):jaB a u = jaB b u:=by
  unfold jaB; rw [h]
theorem jiS {a b:Nat} (h:a % 8 = b % 8) (x:Q4):tnn a x = tnn b x:=by rw [← jdV a,← jdV b,h]
theorem jmg {n M j:Nat} (hn:n ≤ 6) (hj:j < n) {f:Nat → Nu} (hf:∀ p,(f p).2 + 1 ≤ M) {p:Nat} (hp:p < 2 ^ n):Q4.rt (val M (jaG n f (.swing j) p)) = if bit (wt n j) p = 0 then Q4.add (val M (f p)) (val M (f (p ^^^ wt n j))) else Q4.add (val M (f (p ^^^ wt n j))) (tnn 4 (val M (f p))):=by
  rw [jct hf p]
  have h:=jlI hn hj hp
  unfold flp at h
  by_cases c:bit (wt n j) p = 0
  · rw [if_pos c,if_pos c]
    rw [if_pos c] at h
    rw [h]
  · rw [if_neg c,if_neg c]
    rw [if_neg c] at h
    rw [h]
theorem jiL {f:Nat → Nu} (hf:∀ p,jbO (f p)) (w:Wd) (p:Nat):jbO (wdn f w p):=jfp _ (hf _)
theorem jjO (M:Nat) (f:Nat → Nu) (w:Wd) (p:Nat):val M (wdn f w p) = tnn (2 * w.s + 4 * par ((p ^^^ w.x) &&& w.z)) (val M (f (p ^^^ w.x))):=by
  unfold wdn
  rw [jf7,jdV]
theorem jk8 (u:Nu):(jcH u).2 ≤ u.2 + 1:=by
  obtain ⟨s1,s2,s3⟩:=jep u.1 ((u.2 + 1:Nat):Int) (by omega)
  show (num u.1 ((u.2 + 1:Nat):Int)).2.toNat ≤ _
  omega
theorem jsw (e:Nat) (x:Q4):tnn e (Q4.rt x) = Q4.rt (tnn e x):=jl9 e 1 x
theorem jhG {a b c d:Q4} (h1:a = c) (h2:b = d):Q4.add a b = Q4.add c d:=by rw [h1,h2]
theorem jlN {n:Nat} (hn:n ≤ 6) {r:Row} (hr:r.ok n) {u:Wd} (hu:u.ok n) (lu:jsl n r u) {f:Nat → Nu} (hl:∀ p,jbO (f p)) {M:Nat} (hM:∀ p,(f p).2 + 1 ≤ M) {p:Nat} (hp:p < 2 ^ n):jaG n (wdn f u) r p = wdn (jaG n f r) (carry n r u) p:=by
  have m:∀ a:Nat,a % 2 < 2:=fun a=>Nat.mod_lt _ (by decide)
  have b:∀ w p,bit w p < 2:=jbq
  have hq:p ^^^ u.x < 2 ^ n:=Nat.xor_lt_two_pow hp hu.1
  cases r with
  | flip j=>
    show wdn f u (flp (wt n j) p) = jaB (2 * ((u.s + 2 * bit (wt n j) u.z) % 4) + 4 * par ((p ^^^ u.x) &&& u.z)) (f (flp (wt n j) (p ^^^ u.x)))
    rw [jlI hn hr hp,jlI hn hr hq]
    unfold wdn
    rw [show p ^^^ wt n j ^^^ u.x = p ^^^ u.x ^^^ wt n j by ac_rfl]
    apply jdU
    have e:=jb7 hn hr hu.2.1 1 (by decide)
    rw [Nat.mul_one,Nat.one_mul] at e
    rw [jfv (p ^^^ u.x),e]
    have:=b (wt n j) u.z
    omega
  | turn j e=>
    show jaB (e * bit (wt n j) p) (wdn f u p) = jaB (2 * ((u.s + (e / 2) * bit (wt n j) u.x) % 4) + 4 * par ((p ^^^ u.x) &&& (u.z ^^^ wt n j * (bit (wt n j) u.x * (if e % 4 = 2 then 1 else 0))))) (jaB (e * bit (wt n j) (p ^^^ u.x)) (f (p ^^^ u.x)))
    unfold wdn
    rw [jeh,jeh]
    apply jdU
    have lt:bit (wt n j) u.x * (if e % 4 = 2 then 1 else 0) < 2:=by rcases b01 (wt n j) u.x with h | h <;> rw [h] <;> split <;> decide
    rw [je7,jfN hn hr.1 hq _ lt,jaw]
    generalize par ((p ^^^ u.x) &&& u.z) = P
    have lu:e % 2 = 0 ∨ bit (wt n j) u.x = 0:=lu
    have he:=hr.2
    have h8:e = 1 ∨ e = 2 ∨ e = 3 ∨ e = 4 ∨ e = 5 ∨ e = 6 ∨ e = 7:=by omega
    rcases b01 (wt n j) u.x with h1 | h1 <;> rcases b01 (wt n j) p with h2 | h2 <;> rw [h1] at lu <;> rw [h1,h2] <;> rcases h8 with rfl | rfl | rfl | rfl | rfl | rfl | rfl <;> simp at lu ⊢ <;> omega
  | sign i j=>
    obtain ⟨hi,hj,hij⟩:=hr
    show jaB (4 * bit (wt n i) p * bit (wt n j) p) (wdn f u p) = jaB (2 * ((u.s + 2 * (bit (wt n i) u.x * bit (wt n j) u.x)) % 4) + 4 * par ((p ^^^ u.x) &&& (u.z ^^^ wt n j * bit (wt n i) u.x ^^^ wt n i * bit (wt n j) u.x))) (jaB (4 * bit (wt n i) (p ^^^ u.x) * bit (wt n j) (p ^^^ u.x)) (f (p ^^^ u.x)))
    unfold wdn
    rw [jeh,jeh]
    apply jdU
    rw [je7,je7,jfN hn hj hq _ (b _ _),jfN hn hi hq _ (b _ _),jaw,jaw]
    generalize par ((p ^^^ u.x) &&& u.z) = P
    rcases b01 (wt n i) u.x with h1 | h1 <;> rcases b01 (wt n j) u.x with h2 | h2 <;> rcases b01 (wt n i) p with h3 | h3 <;> rcases b01 (wt n j) p with h4 | h4 <;> rw [h1,h2,h3,h4] <;> omega
  | tie i j=>
    obtain ⟨hi,hj,hij⟩:=hr
    have hx':p ^^^ (u.x ^^^ wt n j * bit (wt n i) u.x) < 2 ^ n:=Nat.xor_lt_two_pow hp (Nat.xor_lt_two_pow hu.1 (w_lt hj _ (b _ _)))
    show wdn f u (jeP n (.tie i j) p) = jaB (2 * u.s + 4 * par ((p ^^^ (u.x ^^^ wt n j * bit (wt n i) u.x)) &&& (u.z ^^^ wt n i * bit (wt n j) u.z))) (f (jeP n (.tie i j) (p ^^^ (u.x ^^^ wt n j * bit (wt n i) u.x))))
    rw [jsz hn hj hp,jsz hn hj hx']
    have e1:bit (wt n i) (p ^^^ (u.x ^^^ wt n j * bit (wt n i) u.x)) = (bit (wt n i) p + bit (wt n i) u.x) % 2:=by
      rw [jaw,jaw n i u.x,jeC hi hj hij _ (b _ _)]
      omega
    have e2:p ^^^ (u.x ^^^ wt n j * bit (wt n i) u.x) ^^^ wt n j * ((bit (wt n i) p + bit (wt n i) u.x) % 2) = p ^^^ wt n j * bit (wt n i) p ^^^ u.x:=by
      rw [jhd _ _ _ (b _ _) (b _ _),show p ^^^ (u.x ^^^ wt n j * bit (wt n i) u.x) ^^^ (wt n j * bit (wt n i) p ^^^ wt n j * bit (wt n i) u.x) = p ^^^ wt n j * bit (wt n i) p ^^^ u.x ^^^ (wt n j * bit (wt n i) u.x ^^^ wt n j * bit (wt n i) u.x) by ac_rfl,Nat.xor_self,Nat.xor_zero]
    rw [e1,e2]
    unfold wdn
    apply jdU
    have e3:=je9 hn hi hj hij hq hu.2.1 0 (bit (wt n i) u.x) (bit (wt n j) u.z) 0 (by decide) (b _ _) (b _ _) (by decide)
    rw [Nat.mul_zero,Nat.mul_zero,zero_xor,Nat.xor_zero,show p ^^^ u.x ^^^ wt n j * bit (wt n i) u.x = p ^^^ (u.x ^^^ wt n j * bit (wt n i) u.x) by ac_rfl] at e3
    rw [e3,show p ^^^ wt n j * bit (wt n i) p ^^^ u.x = p ^^^ u.x ^^^ wt n j * bit (wt n i) p by ac_rfl,jfv (p ^^^ u.x),jb7 hn hj hu.2.1 _ (b _ _),jaw]
    generalize par ((p ^^^ u.x) &&& u.z) = P
    rcases b01 (wt n i) u.x with h1 | h1 <;> rcases b01 (wt n j) u.z with h2 | h2 <;> rcases b01 (wt n i) p with h3 | h3 <;> rw [h1,h2,h3] <;> omega
  | cross i j=>
    obtain ⟨hi,hj,hij⟩:=hr
    have hX:u.x ^^^ (wt n i * ((bit (wt n i) u.x + bit (wt n j) u.x) % 2) ^^^ wt n j * ((bit (wt n i) u.x + bit (wt n j) u.x) % 2)) < 2 ^ n:=Nat.xor_lt_two_pow hu.1 (Nat.xor_lt_two_pow (w_lt hi _ (m _)) (w_lt hj _ (m _)))
    show wdn f u (jeP n (.cross i j) p) = jaB (2 * u.s + 4 * par ((p ^^^ (u.x ^^^ (wt n i * ((bit (wt n i) u.x + bit (wt n j) u.x) % 2) ^^^ wt n j * ((bit (wt n i) u.x + bit (wt n j) u.x) % 2)))) &&& (u.z ^^^ (wt n i * ((bit (wt n i) u.z + bit (wt n j) u.z) % 2) ^^^ wt n j * ((bit (wt n i) u.z + bit (wt n j) u.z) % 2))))) (f (jeP n (.cross i j) (p ^^^ (u.x ^^^ (wt n i * ((bit (wt n i) u.x + bit (wt n j) u.x) % 2) ^^^ wt n j * ((bit (wt n i) u.x + bit (wt n j) u.x) % 2))))))
    rw [jir hn hi hj hp,jir hn hi hj (Nat.xor_lt_two_pow hp hX)]
    have e1:(bit (wt n i) (p ^^^ (u.x ^^^ (wt n i * ((bit (wt n i) u.x + bit (wt n j) u.x) % 2) ^^^ wt n j * ((bit (wt n i) u.x + bit (wt n j) u.x) % 2)))) + bit (wt n j) (p ^^^ (u.x ^^^ (wt n i * ((bit (wt n i) u.x + bit (wt n j) u.x) % 2) ^^^ wt n j * ((bit (wt n i) u.x + bit (wt n j) u.x) % 2))))) % 2 = ((bit (wt n i) p + bit (wt n j) p) % 2 + (bit (wt n i) u.x + bit (wt n j) u.x) % 2) % 2:=by
      rw [jaw,jaw n j p,jaw n i u.x,jaw n j u.x,jaw n i (wt n i * _),jaw n j (wt n i * _),jgR _ (m _),jgR _ (m _),jeC hi hj hij _ (m _),jeC hj hi (Ne.symm hij) _ (m _)]
      omega
    rw [e1,jhd _ _ _ (m _) (m _),jhd _ _ _ (m _) (m _)]
    have e2:∀ A B C E X:Nat,p ^^^ (X ^^^ (A ^^^ B)) ^^^ ((C ^^^ A) ^^^ (E ^^^ B)) = p ^^^ (C ^^^ E) ^^^ X:=fun A B C E X=>by
      rw [show p ^^^ (X ^^^ (A ^^^ B)) ^^^ ((C ^^^ A) ^^^ (E ^^^ B)) = p ^^^ (C ^^^ E) ^^^ X ^^^ ((A ^^^ A) ^^^ (B ^^^ B)) by ac_rfl,Nat.xor_self,Nat.xor_self,Nat.xor_zero,Nat.xor_zero]
    rw [e2]
    unfold wdn
    apply jdU
    have e3:=je9 hn hi hj hij hq hu.2.1 ((bit (wt n i) u.x + bit (wt n j) u.x) % 2) ((bit (wt n i) u.x + bit (wt n j) u.x) % 2) ((bit (wt n i) u.z + bit (wt n j) u.z) % 2) ((bit (wt n i) u.z + bit (wt n j) u.z) % 2) (m _) (m _) (m _) (m _)
    rw [show ∀ A B:Nat,p ^^^ u.x ^^^ (A ^^^ B) = p ^^^ (u.x ^^^ (A ^^^ B)) from fun A B=>by ac_rfl] at e3
    have e4:=je9 hn hi hj hij hq hu.2.1 ((bit (wt n i) p + bit (wt n j) p) % 2) ((bit (wt n i) p + bit (wt n j) p) % 2) 0 0 (m _) (m _) (by decide) (by decide)
    rw [Nat.mul_zero,Nat.mul_zero,Nat.xor_self,Nat.xor_zero] at e4
    rw [e3,show ∀ A B:Nat,p ^^^ (A ^^^ B) ^^^ u.x = p ^^^ u.x ^^^ (A ^^^ B) from fun A B=>by ac_rfl,e4,jaw,jaw]
    generalize par ((p ^^^ u.x) &&& u.z) = P
    rcases b01 (wt n i) u.x with h1 | h1 <;> rcases b01 (wt n j) u.x with h2 | h2 <;> rcases b01 (wt n i) p with h3 | h3 <;> rcases b01 (wt n j) p with h4 | h4 <;> rcases b01 (wt n i) u.z with h5 | h5 <;> rcases b01 (wt n j) u.z with h6 | h6 <;> rw [h1,h2,h3,h4,h5,h6] <;> omega
  | swing j=>
    have hc:(bit (wt n j) u.x + bit (wt n j) u.z) % 2 < 2:=m _
    have hW:=jl0 hr
    have lw:∀ p,(wdn f u p).2 + 1 ≤ M:=fun p=>hM _
    have ld:jbO (jaG n (wdn f u) (.swing j) p):=jdx (jiL hl u) n (.swing j) p
    have lr:jbO (wdn (jaG n f (.swing j)) (carry n (.swing j) u) p):=jiL (jdx hl n (.swing j)) _ p
    have kd:∀ (g:Nat → Nu),(∀ p,(g p).2 + 1 ≤ M) → ∀ p,(jaG n g (.swing j) p).2 ≤ M:=fun g hg p=>by
      show (if bit (wt n j) p = 0 then jcH (jb6 (g p) (g (p + wt n j))) else jcH (jb6 (g (p - wt n j)) (jaB 4 (g p)))).2 ≤ M
      split
      · have a:=jd0 (g p) (g (p + wt n j))
        have c:=jk8 (jb6 (g p) (g (p + wt n j)))
        have:=hg p
        have:=hg (p + wt n j)
        omega
      · have a:(jb6 (g (p - wt n j)) (jaB 4 (g p))).2 ≤ max (g (p - wt n j)).2 (g p).2:=jd0 _ _
        have c:=jk8 (jb6 (g (p - wt n j)) (jaB 4 (g p)))
        have:=hg p
        have:=hg (p - wt n j)
        omega
    refine jl3 (M:=M) ld lr (kd _ lw p) (kd f hM _) ?_
    apply Q4.rt_inj
    have hq':p ^^^ (u.x ^^^ wt n j * ((bit (wt n j) u.x + bit (wt n j) u.z) % 2)) < 2 ^ n:=Nat.xor_lt_two_pow hp (Nat.xor_lt_two_pow hu.1 (w_lt hr _ hc))
    rw [jmg hn hr lw hp,jjO,jjO,jjO,← jsw,show (carry n (.swing j) u).x = u.x ^^^ wt n j * ((bit (wt n j) u.x + bit (wt n j) u.z) % 2) from rfl,jmg hn hr hM hq']
    show _ = tnn (2 * ((u.s + 2 * (bit (wt n j) u.x * bit (wt n j) u.z)) % 4) + 4 * par ((p ^^^ (u.x ^^^ wt n j * ((bit (wt n j) u.x + bit (wt n j) u.z) % 2))) &&& (u.z ^^^ wt n j * ((bit (wt n j) u.x + bit (wt n j) u.z) % 2)))) _
    have e3:=jkV hn hr hq hu.2.1 _ _ hc hc
    rw [show ∀ A:Nat,p ^^^ u.x ^^^ A = p ^^^ (u.x ^^^ A) from fun A=>by ac_rfl] at e3
    have e4:par ((p ^^^ wt n j ^^^ u.x) &&& u.z) = (par ((p ^^^ u.x) &&& u.z) + bit (wt n j) u.z) % 2:=by
      have e:=jb7 hn hr hu.2.1 1 (by decide)
      rw [Nat.mul_one,Nat.one_mul] at e
      rw [show p ^^^ wt n j ^^^ u.x = p ^^^ u.x ^^^ wt n j by ac_rfl,jfv (p ^^^ u.x),e]
    have e5:bit (wt n j) (p ^^^ (u.x ^^^ wt n j * ((bit (wt n j) u.x + bit (wt n j) u.z) % 2))) = (bit (wt n j) p + bit (wt n j) u.z) % 2:=by
      rw [jaw,jaw n j u.x,jgR _ hc]
      omega
    rw [e3,e4,e5,jaw]
    have i1:p ^^^ (u.x ^^^ wt n j * 0) = p ^^^ u.x:=by rw [Nat.mul_zero,Nat.xor_zero]
    have i2:p ^^^ (u.x ^^^ wt n j * 1) = p ^^^ wt n j ^^^ u.x:=by rw [Nat.mul_one]; ac_rfl
    have i3:p ^^^ wt n j ^^^ u.x ^^^ wt n j = p ^^^ u.x:=by rw [show p ^^^ wt n j ^^^ u.x ^^^ wt n j = p ^^^ u.x ^^^ (wt n j ^^^ wt n j) by ac_rfl,Nat.xor_self,Nat.xor_zero]
    have i4:p ^^^ u.x ^^^ wt n j = p ^^^ wt n j ^^^ u.x:=by ac_rfl
    generalize par ((p ^^^ u.x) &&& u.z) = P
    have tt:∀ (a c:Nat) (X:Q4),tnn a (tnn c X) = tnn (a + c) X:=fun a c X=>(jdW a c X).symm
    rcases b01 (wt n j) u.x with h1 | h1 <;> rcases b01 (wt n j) u.z with h2 | h2 <;> rcases b01 (wt n j) p with h3 | h3 <;> rw [h1,h2,h3] <;> simp only [Nat.zero_add,Nat.add_zero,Nat.reduceAdd,Nat.reduceMod,Nat.mul_zero,Nat.mul_one,Nat.zero_mul,Nat.xor_zero,if_true,Nat.one_ne_zero,if_false] <;> (try rw [show p ^^^ (u.x ^^^ wt n j) = p ^^^ wt n j ^^^ u.x by ac_rfl]) <;> (try rw [i3]) <;> (try rw [i4]) <;> rw [jkJ] <;> (try rw [tt]) <;> (try rw [tt])
    all_goals first
      | (apply jhG <;> (apply jiS; omega))
      | (rw [Q4.add_comm]; apply jhG <;> (apply jiS; omega))
def Row.about:Row → Row
  | .turn j e=>.turn j (8 - e)
  | r=>r
theorem Row.about_ok {n:Nat} {r:Row} (h:r.ok n):r.about.ok n:=by
  cases r <;> simp only [Row.about,Row.ok] at h ⊢ <;> omega
theorem jiO (a b:Nat) (h:(a + b) % 8 = 0) (u:Nu):jaB a (jaB b u) = u:=by
  unfold jaB
  have e:tnn (a % 8) (tnn (b % 8) u.1) = u.1:=by
    rw [jdV,jdV,← jdW,← jdV,h]; rfl
  rw [e]
theorem jrW {n j x:Nat} (h:bit (wt n j) x ≠ 0):bit (wt n j) (x - wt n j) = 0 ∧ wt n j ≤ x:=by
  have h2:=jbq (wt n j) x
  have h3:=jiu (ja7 n j) (show bit (wt n j) x = 1 by omega)
  have:=jcF (p:=x) (ja7 n j)
  unfold flp at this
  rw [if_neg h] at this
  exact ⟨by omega,h3⟩
theorem jrX {n j x:Nat} (h:bit (wt n j) x = 0):bit (wt n j) (x + wt n j) = 1:=by
  have:=jcF (p:=x) (ja7 n j)
  unfold flp at this
  rw [if_pos h,h] at this
  exact this
theorem jgd (x:Q4):tnn 4 x = Q4.neg x:=by apply Q4.ext' <;> simp [tnn,Q4.tn,Q4.neg]
theorem jss (a b:Q4):Q4.add (Q4.add a b) (Q4.add a (Q4.neg b)) = Q4.rt (Q4.rt a):=by
  rw [Q4.rt_rt]; apply Q4.ext' <;> simp [Q4.add,Q4.neg,Q4.dbl] <;> omega
theorem jst (a b:Q4):Q4.add (Q4.add a b) (Q4.neg (Q4.add a (Q4.neg b))) = Q4.rt (Q4.rt b):=by
  rw [Q4.rt_rt]; apply Q4.ext' <;> simp [Q4.add,Q4.neg,Q4.dbl] <;> omega
theorem jpK (x:Q4):Q4.rt (Q4.neg x) = Q4.neg (Q4.rt x):=by apply Q4.ext' <;> simp [Q4.rt,Q4.neg] <;> omega
theorem jng (u:Nu):(jcH u).2 ≤ u.2 + 1:=by
  obtain ⟨s1,s2,s3⟩:=jep u.1 ((u.2 + 1:Nat):Int) (by omega)
  show (num u.1 ((u.2 + 1:Nat):Int)).2.toNat ≤ _
  omega
theorem jki (n:Nat) (f:Nat → Nu) (r:Row) (M:Nat) (h:∀ p,(f p).2 ≤ M) (x:Nat):(jaG n f r x).2 ≤ M + 1:=by
  have hp:∀ u v:Nu,u.2 ≤ M → v.2 ≤ M → (jcH (jb6 u v)).2 ≤ M + 1:=fun u v hu hv=>by
    have a:=jd0 u v
    have b:=jng (jb6 u v)
    omega
  cases r with
  | swing j=>
    show (if bit (wt n j) x = 0 then jcH (jb6 (f x) (f (x + wt n j))) else jcH (jb6 (f (x - wt n j)) (jaB 4 (f x)))).2 ≤ _
    split
    · exact hp _ _ (h _) (h _)
    · exact hp _ _ (h _) (h _)
  | turn j e=>exact Nat.le_succ_of_le (h x)
  | sign i j=>exact Nat.le_succ_of_le (h x)
  | flip j=>exact Nat.le_succ_of_le (h _)
  | tie i j=>exact Nat.le_succ_of_le (h _)
  | cross i j=>exact Nat.le_succ_of_le (h _)
theorem jno {n:Nat} {f:Nat → Nu} (hl:∀ p,jbO (f p)) {M:Nat} (hM:∀ p,(f p).2 ≤ M) (r:Row) (hr:r.ok n) (x:Nat):jaG n (jaG n f r) r.about x = f x:=by
  cases r with
  | swing j=>
    have b1:∀ p,(f p).2 + 1 ≤ M + 2:=fun p=>by have:=hM p; omega
    have b2:∀ p,(jaG n f (.swing j) p).2 + 1 ≤ M + 2:=fun p=>by have:=jki n f (.swing j) M hM p; omega
    have b3:=jki n (jaG n f (.swing j)) (.swing j) (M + 1) (jki n f (.swing j) M hM) x
    refine jl3 (M:=M + 2) (jdx (jdx hl n _) n _ x) (hl x) b3 (by have:=hM x; omega) ?_
    apply Q4.rt_inj
    apply Q4.rt_inj
    show Q4.rt (Q4.rt (val (M + 2) (jaG n (jaG n f (.swing j)) (.swing j) x))) = _
    rw [jct b2 x]
    split
    · rename_i c
      have c2:=jrX (n:=n) (j:=j) c
      rw [Q4.rt_add,jct b1 x,jct b1 (x + wt n j),if_pos c,if_neg (by omega),Nat.add_sub_cancel,jgd,jss]
    · rename_i c
      obtain ⟨c2,c3⟩:=jrW (n:=n) (j:=j) c
      rw [Q4.rt_add,jgd,jpK,jct b1 x,jct b1 (x - wt n j),if_pos c2,if_neg c,Nat.sub_add_cancel c3,jgd,jst]
  | turn j e=>
    have h8:e ≤ 7:=hr.2.2
    show jaB ((8 - e) * bit (wt n j) x) (jaB (e * bit (wt n j) x) (f x)) = f x
    refine jiO _ _ ?_ _
    rw [← Nat.add_mul,Nat.sub_add_cancel (by omega)]
    exact Nat.mul_mod_right 8 _
  | sign i j=>
    show jaB (4 * bit (wt n i) x * bit (wt n j) x) (jaB (4 * bit (wt n i) x * bit (wt n j) x) (f x)) = f x
    refine jiO _ _ ?_ _
    rw [show 4 * bit (wt n i) x * bit (wt n j) x + 4 * bit (wt n i) x * bit (wt n j) x = 8 * (bit (wt n i) x * bit (wt n j) x) by rw [Nat.mul_assoc]; omega]
    exact Nat.mul_mod_right 8 _
  | flip j=>show f (flp (wt n j) (flp (wt n j) x)) = _; rw [jik (ja7 n j)]
  | tie i j=>
    obtain ⟨hi,hj,hij⟩:=hr
    show f (jeP n (.tie i j) (jeP n (.tie i j) x)) = _
    congr 1
    show (if bit (wt n i) (if bit (wt n i) x = 0 then x else flp (wt n j) x) = 0 then (if bit (wt n i) x = 0 then x else flp (wt n j) x) else flp (wt n j) (if bit (wt n i) x = 0 then x else flp (wt n j) x)) = x
    by_cases c:bit (wt n i) x = 0
    · simp only [if_pos c]
    · simp only [if_neg c]
      rw [if_neg (by rw [jfE hj hi (Ne.symm hij)]; exact c),jik (ja7 n j)]
  | cross i j=>
    obtain ⟨hi,hj,hij⟩:=hr
    show f (jeP n (.cross i j) (jeP n (.cross i j) x)) = _
    congr 1
    have bi:=jbq (wt n i) x
    have bj:=jbq (wt n j) x
    show (if bit (wt n i) (if bit (wt n i) x = bit (wt n j) x then x else flp (wt n j) (flp (wt n i) x)) = bit (wt n j) (if bit (wt n i) x = bit (wt n j) x then x else flp (wt n j) (flp (wt n i) x)) then (if bit (wt n i) x = bit (wt n j) x then x else flp (wt n j) (flp (wt n i) x)) else flp (wt n j) (flp (wt n i) (if bit (wt n i) x = bit (wt n j) x then x else flp (wt n j) (flp (wt n i) x)))) = x
    by_cases c:bit (wt n i) x = bit (wt n j) x
    · simp only [if_pos c]
    · simp only [if_neg c]
      have e1:bit (wt n i) (flp (wt n j) (flp (wt n i) x)) = 1 - bit (wt n i) x:=by rw [jfE hj hi (Ne.symm hij),jcF (ja7 n i)]
      have e2:bit (wt n j) (flp (wt n j) (flp (wt n i) x)) = 1 - bit (wt n j) x:=by rw [jcF (ja7 n j),jfE hi hj hij]
      rw [if_neg (by omega),jpm hi hj hij,jik (ja7 n j),jik (ja7 n i)]
end MA
namespace GN
open PySem L2 VL
def top (i:Nat):Stmt:=PySem.Challenge.pw_wavewires_k49_tables_behind_looks.main.body.getD i (.Pass ⟨0,0,0,0⟩)
def jeK:List (Str × Bool):=[("OddTurn",false),("Barred",false)]
def jdg:List (Str × Bool):=[("OddTurn",false),("Barred",false)]
def jeJ:List (Str × Bool):=[("OddTurn",false),("Barred",false)]
def jgk:List (Str × Bool):=[("OddTurn",false),("Barred",false)]
def jfr:List (Str × Bool):=[("OddTurn",true),("Barred",false)]
def jgl:List (Str × Bool):=[("OddTurn",false),("Barred",true)]
def jfs:List (Str × Bool):=[("OddTurn",false),("Barred",false)]
def jdh:List (Str × Bool):=[("OddTurn",false),("Barred",false)]
def jgm:List (Str × Bool):=[("OddTurn",false),("Barred",false)]
def jdz:List (Str × Bool):=[("OddTurn",true),("Barred",true)]
def hs_WaveError:List Str:=["OddTurn","Barred"]
abbrev jcK:Stmt:=top 14
abbrev jfl:List Str:=["joined","most"]
def jcQ:Sf:=sSeq (sIf (ob (o2 (oV 0) (oC (.int 0)) eqD)) (jbk (oV 1)) (sNx)) (jbk (os (jac (oV 1) (jac (o2 (o1 (o2 (oV 0) (o1 (oV 0) negD) jhb) jko) (oC (.int 1)) jdS) (jas))) juk))
def ja5:List D → Option D:=runB jfl 2 jcQ
abbrev je3:Stmt:=top 15
abbrev jjH:List Str:=["a","b","c","d"]
def jgZ:Sf:=jbk (os (jac (o2 (oV 1) (oV 3) jdS) (jac (o2 (oV 0) (oV 2) jfk) (jac (o2 (oV 1) (oV 3) jfk) (jac (o2 (oV 2) (oV 0) jdS) (jas))))) jdf)
def jb8:List D → Option D:=runB jjH 4 jgZ
abbrev jek:Stmt:=top 16
abbrev jiJ:List Str:=["a","b","c","d","k","twos","doubled"]
def jgg:Sf:=sSeq (jbl 5 (os (jac (o2 (o2 (o2 (oV 0) (oV 1) orD) (oV 2) orD) (oV 3) orD) (jac (o2 (oV 4) (oC (.int 2)) jhF) (jas))) ja5)) (sSeq (jbl 0 (o2 (oV 0) (oV 5) jjJ)) (sSeq (jbl 1 (o2 (oV 1) (oV 5) jjJ)) (sSeq (jbl 2 (o2 (oV 2) (oV 5) jjJ)) (sSeq (jbl 3 (o2 (oV 3) (oV 5) jjJ)) (sSeq (jbl 4 (o2 (oV 4) (o2 (oC (.int 2)) (oV 5) jkW) jdS)) (sSeq (sIf (oOr (ob (o2 (oV 4) (oC (.int 0)) eqD)) (oOr (ob (o2 (o2 (o2 (oV 0) (oV 2) jdS) (oC (.int 2)) jdu) (oC (.int 1)) eqD)) (ob (o2 (o2 (o2 (oV 1) (oV 3) jdS) (oC (.int 2)) jdu) (oC (.int 1)) eqD)))) (jbk (os (jac (oV 0) (jac (oV 1) (jac (oV 2) (jac (oV 3) (jac (oV 4) (jas)))))) jdf)) (sNx)) (sSeq (jbl 6 (os (jac (oV 0) (jac (oV 1) (jac (oV 2) (jac (oV 3) (jas))))) jb8)) (jbk (os (jac (o2 (o2 (oV 6) (oC (.int 0)) ixD) (oC (.int 2)) jhF) (jac (o2 (o2 (oV 6) (oC (.int 1)) ixD) (oC (.int 2)) jhF) (jac (o2 (o2 (oV 6) (oC (.int 2)) ixD) (oC (.int 2)) jhF) (jac (o2 (o2 (oV 6) (oC (.int 3)) ixD) (oC (.int 2)) jhF) (jac (o2 (oV 4) (oC (.int 1)) jdS) (jas)))))) jdf)))))))))
def jcN:List D → Option D:=runB jiJ 5 jgg
abbrev jc8:Stmt:=top 17
abbrev jfU:List Str:=["x","k","more","twos","a","b","c","d"]
def jdd:Sf:=sSeq (jbl 2 (o2 (oV 1) (o2 (oV 0) (oC (.int 4)) ixD) jdS)) (sSeq (jbl 3 (o2 (oV 2) (oC (.int 2)) jhF)) (sSeq (jbl 4 (o2 (o2 (oV 0) (oC (.int 0)) ixD) (oV 3) jg8)) (sSeq (jbl 5 (o2 (o2 (oV 0) (oC (.int 1)) ixD) (oV 3) jg8)) (sSeq (jbl 6 (o2 (o2 (oV 0) (oC (.int 2)) ixD) (oV 3) jg8)) (sSeq (jbl 7 (o2 (o2 (oV 0) (oC (.int 3)) ixD) (oV 3) jg8)) (sSeq (sIf (ob (o2 (o2 (oV 2) (oC (.int 2)) jdu) (oC (.int 1)) eqD)) (jbk (os (jac (oV 4) (jac (oV 5) (jac (oV 6) (jac (oV 7) (jas))))) jb8)) (sNx)) (jbk (os (jac (oV 4) (jac (oV 5) (jac (oV 6) (jac (oV 7) (jas))))) jdf))))))))
def jbt:List D → Option D:=runB jfU 2 jdd
abbrev jkS:Stmt:=top 18
abbrev jqt:List Str:=["x","y","k","s","t"]
def jnN:Sf:=sSeq (jbl 2 (os (jac (o2 (oV 0) (oC (.int 4)) ixD) (jac (o2 (oV 1) (oC (.int 4)) ixD) (jas))) jtm)) (sSeq (jbl 3 (os (jac (oV 0) (jac (oV 2) (jas))) jbt)) (sSeq (jbl 4 (os (jac (oV 1) (jac (oV 2) (jas))) jbt)) (jbk (os (jac (o2 (o2 (oV 3) (oC (.int 0)) ixD) (o2 (oV 4) (oC (.int 0)) ixD) jfk) (jac (o2 (o2 (oV 3) (oC (.int 1)) ixD) (o2 (oV 4) (oC (.int 1)) ixD) jfk) (jac (o2 (o2 (oV 3) (oC (.int 2)) ixD) (o2 (oV 4) (oC (.int 2)) ixD) jfk) (jac (o2 (o2 (oV 3) (oC (.int 3)) ixD) (o2 (oV 4) (oC (.int 3)) ixD) jfk) (jac (oV 2) (jas)))))) jcN))))
def jeA:List D → Option D:=runB jqt 2 jnN
abbrev je4:Stmt:=top 19
abbrev jjI:List Str:=["x"]
def jg1:Sf:=jbk (os (jac (o1 (o2 (oV 0) (oC (.int 0)) ixD) negD) (jac (o1 (o2 (oV 0) (oC (.int 1)) ixD) negD) (jac (o1 (o2 (oV 0) (oC (.int 2)) ixD) negD) (jac (o1 (o2 (oV 0) (oC (.int 3)) ixD) negD) (jac (o2 (oV 0) (oC (.int 4)) ixD) (jas)))))) jdf)
def jcC:List D → Option D:=runB jjI 1 jg1
abbrev jf9:Stmt:=top 20
abbrev jlf:List Str:=["x","e","around"]
def jiC:Sf:=sSeq (jbl 2 (os (jac (o2 (oV 0) (oC (.int 0)) ixD) (jac (o2 (oV 0) (oC (.int 1)) ixD) (jac (o2 (oV 0) (oC (.int 2)) ixD) (jac (o2 (oV 0) (oC (.int 3)) ixD) (jac (o1 (o2 (oV 0) (oC (.int 0)) ixD) negD) (jac (o1 (o2 (oV 0) (oC (.int 1)) ixD) negD) (jac (o1 (o2 (oV 0) (oC (.int 2)) ixD) negD) (jac (o1 (o2 (oV 0) (oC (.int 3)) ixD) negD) (jas))))))))) jdf)) (jbk (os (jac (o2 (oV 2) (o2 (o2 (oC (.int 0)) (oV 1) jdS) (oC (.int 8)) jdu) ixD) (jac (o2 (oV 2) (o2 (o2 (oC (.int 1)) (oV 1) jdS) (oC (.int 8)) jdu) ixD) (jac (o2 (oV 2) (o2 (o2 (oC (.int 2)) (oV 1) jdS) (oC (.int 8)) jdu) ixD) (jac (o2 (oV 2) (o2 (o2 (oC (.int 3)) (oV 1) jdS) (oC (.int 8)) jdu) ixD) (jac (o2 (oV 0) (oC (.int 4)) ixD) (jas)))))) jdf))
def jbF:List D → Option D:=runB jlf 2 jiC
abbrev jga:Stmt:=top 21
abbrev jlg:List Str:=["x"]
def jiE:Sf:=jbk (os (jac (o2 (oV 0) (oC (.int 0)) ixD) (jac (o2 (oV 0) (oC (.int 1)) ixD) (jac (o2 (oV 0) (oC (.int 2)) ixD) (jac (o2 (oV 0) (oC (.int 3)) ixD) (jac (o2 (o2 (oV 0) (oC (.int 4)) ixD) (oC (.int 1)) jfk) (jas)))))) jcN)
def jcp:List D → Option D:=runB jlg 1 jiE
abbrev jhY:Stmt:=top 23
abbrev jnW:List Str:=["wires","wire"]
def jkv:Sf:=jbk (o2 (oC (.int 1)) (o2 (o2 (oV 0) (oC (.int 1)) jdS) (oV 1) jdS) jg8)
def jbp:List D → Option D:=runB jnW 2 jkv
abbrev jdZ:Stmt:=top 24
abbrev jg6:List Str:=["wires","place"]
def jfw:Dv → Option D:=jdH (oL (jac (oV 0) (jas)) jbm) [(0,"wires"),(1,"place")] bv1 (o2 (o2 (oV 2) (o2 (o2 (oV 1) (oC (.int 1)) jdS) (oV 0) jdS) jjJ) (oC (.int 1)) jhb)
def jg0:Sf:=jbk (os (jac (jfw) (jas)) jb1)
def jcB:List D → Option D:=runB jg6 2 jg0
abbrev jbV:Stmt:=top 25
abbrev jeV:List Str:=["wires","place"]
def jfO:Dv → Option D:=jdH (oL (jac (o2 (oC (.int 1)) (oV 0) jg8) (jas)) jbm) [(1,"place")] bv1 (oIf (ob (o2 (oV 0) (oV 1) eqD)) (oC (.tuple [.int 1,.int 0,.int 0,.int 0,.int 0])) (oC (.tuple [.int 0,.int 0,.int 0,.int 0,.int 0])))
def jeT:Sf:=jbk (os (jac (jfO) (jas)) jb1)
def jbw:List D → Option D:=runB jeV 2 jeT
abbrev jhZ:Stmt:=top 26
abbrev jnX:List Str:=["state","bit","told","p"]
def jdb:Sf:=sIf (ob (o2 (o2 (oV 3) (oV 1) jhb) (oC (.int 0)) eqD)) (jr7 2 (os (jac (os (jac (o2 (oV 0) (oV 3) ixD) (jac (o2 (oV 0) (o2 (oV 3) (oV 1) jiK) ixD) (jas))) jeA) (jas)) jcp)) (jr7 2 (os (jac (os (jac (o2 (oV 0) (o2 (oV 3) (oV 1) jiK) ixD) (jac (os (jac (o2 (oV 0) (oV 3) ixD) (jas)) jcC) (jas))) jeA) (jas)) jcp))
def jkw:Sf:=sSeq (jt9 2 (jas)) (sSeq (jlW (oL (jac (os (jac (oV 0) (jas)) jdT) (jas)) jbm) (gN 3) (jdb)) (fun δ=>(jbk (os (jac (oV 2) (jas)) jb1)) (dFz 2 δ)))
def jd3:List D → Option D:=runB jnX 2 jkw
abbrev jbQ:Stmt:=top 27
abbrev jdr:List Str:=["state","held","e"]
def jd1:Dv → Option D:=jdH (oL (jac (os (jac (oV 0) (jas)) jdT) (jas)) jbm) [(0,"state"),(1,"held"),(2,"e")] bv1 (oIf (ob (o2 (o2 (oV 0) (oV 2) jhb) (oV 2) eqD)) (os (jac (o2 (oV 1) (oV 0) ixD) (jac (oV 3) (jas))) jbF) (o2 (oV 1) (oV 0) ixD))
def jdm:Sf:=jbk (os (jac (jd1) (jas)) jb1)
def jaN:List D → Option D:=runB jdr 3 jdm
abbrev jbG:Stmt:=top 28
abbrev jc3:List Str:=["state","held","bit"]
def jdP:Dv → Option D:=jdH (oL (jac (os (jac (oV 0) (jas)) jdT) (jas)) jbm) [(0,"state"),(1,"held"),(2,"bit")] bv1 (oIf (ob (o2 (o2 (oV 0) (oV 2) jhb) (oV 2) eqD)) (o2 (oV 1) (o2 (oV 0) (oV 3) jiK) ixD) (o2 (oV 1) (oV 0) ixD))
def jc1:Sf:=jbk (os (jac (jdP) (jas)) jb1)
def jaE:List D → Option D:=runB jc3 3 jc1
abbrev jdD:Stmt:=top 29
abbrev jg5:List Str:=["place","both"]
def jdL:Sf:=jbk (oIf (ob (o2 (o2 (oV 0) (oV 1) jhb) (os (jac (oC (.int 0)) (jac (oV 1) (jas))) jdf) (inD false))) (oV 0) (o2 (oV 0) (oV 1) jiK))
def jaR:List D → Option D:=runB jg5 2 jdL
abbrev ji2:Stmt:=top 30
abbrev jnY:List Str:=["state","row","wires","first","second"]
def jjZ:Dv → Option D:=jdH (oL (jac (os (jac (oV 0) (jas)) jdT) (jas)) jbm) [(0,"state"),(3,"first"),(4,"second")] bv1 (o2 (oV 1) (os (jac (oV 0) (jac (o2 (oV 2) (oV 3) orD) (jas))) jaR) ixD)
def jfR:Sf:=sSeq (jbl 2 (o2 (o1 (os (jac (oV 0) (jas)) jdT) jko) (oC (.int 1)) jdS)) (sSeq (jbl 3 (os (jac (oV 2) (jac (o2 (oV 1) (oC (.int 1)) ixD) (jas))) jbp)) (sSeq (sIf (ob (o2 (o2 (oV 1) (oC (.int 0)) ixD) (oC (.str "swing")) eqD)) (jbk (os (jac (oV 0) (jac (oV 3) (jas))) jd3)) (sNx)) (sSeq (sIf (ob (o2 (o2 (oV 1) (oC (.int 0)) ixD) (oC (.str "turn")) eqD)) (jbk (os (jac (oV 0) (jac (oV 3) (jac (o2 (oV 1) (oC (.int 2)) ixD) (jas)))) jaN)) (sNx)) (sSeq (sIf (ob (o2 (o2 (oV 1) (oC (.int 0)) ixD) (oC (.str "flip")) eqD)) (jbk (os (jac (oV 0) (jac (oC (.int 0)) (jac (oV 3) (jas)))) jaE)) (sNx)) (sSeq (jbl 4 (os (jac (oV 2) (jac (o2 (oV 1) (oC (.int 2)) ixD) (jas))) jbp)) (sSeq (sIf (ob (o2 (o2 (oV 1) (oC (.int 0)) ixD) (oC (.str "tie")) eqD)) (jbk (os (jac (oV 0) (jac (oV 3) (jac (oV 4) (jas)))) jaE)) (sNx)) (sSeq (sIf (ob (o2 (o2 (oV 1) (oC (.int 0)) ixD) (oC (.str "sign")) eqD)) (jbk (os (jac (oV 0) (jac (o2 (oV 3) (oV 4) orD) (jac (oC (.int 4)) (jas)))) jaN)) (sNx)) (jbk (os (jac (jjZ) (jas)) jb1)))))))))
def jb9:List D → Option D:=runB jnY 2 jfR
abbrev jej:Stmt:=top 32
abbrev jhL:List Str:=["bitset","bits","shared","value"]
def jca:Dv → Option Bool:=ob (o2 (oV 2) (oC (.int 0)) neD)
def jcW:Sf:=sSeq (jbl 2 (o2 (oV 2) (o2 (oV 2) (oC (.int 1)) jdS) jhb)) (jbl 3 (o2 (oC (.int 1)) (oV 3) jdS))
def jfG:Sf:=sSeq (jbl 2 (o2 (oV 0) (oV 1) jhb)) (sSeq (jbl 3 (oC (.int 0))) (sSeq (fun δ=>jeY (jca) (jcW) wN δ) (jbk (oV 3))))
def jaK:List D → Option D:=runB jhL 2 jfG
abbrev jc7:Stmt:=top 34
abbrev jfT:List Str:=["one","other","s"]
def jd7:Sf:=sSeq (jbl 2 (o2 (o2 (o2 (oV 0) (oC (.int 2)) ixD) (o2 (oV 1) (oC (.int 2)) ixD) jfk) (o2 (oC (.int 2)) (os (jac (o2 (oV 0) (oC (.int 1)) ixD) (jac (o2 (oV 1) (oC (.int 0)) ixD) (jas))) jaK) jkW) jfk)) (jbk (os (jac (o2 (o2 (oV 0) (oC (.int 0)) ixD) (o2 (oV 1) (oC (.int 0)) ixD) jiK) (jac (o2 (o2 (oV 0) (oC (.int 1)) ixD) (o2 (oV 1) (oC (.int 1)) ixD) jiK) (jac (o2 (oV 2) (oC (.int 4)) jdu) (jas)))) jdf))
def jaD:List D → Option D:=runB jfT 2 jd7
abbrev jh1:Stmt:=top 35
abbrev jnZ:List Str:=["one","other"]
def jkx:Sf:=jbk (o2 (os (jac (oV 0) (jac (oV 1) (jas))) jaD) (os (jac (oV 1) (jac (oV 0) (jas))) jaD) eqD)
def jce:List D → Option D:=runB jnZ 2 jkx
abbrev jdA:Stmt:=top 36
abbrev jg2:List Str:=["state","word","told","p","begun"]
def jcz:Sf:=sSeq (jbl 4 (o2 (oV 3) (o2 (oV 1) (oC (.int 0)) ixD) jiK)) (jr7 2 (os (jac (o2 (oV 0) (oV 4) ixD) (jac (o2 (o2 (oC (.int 2)) (o2 (oV 1) (oC (.int 2)) ixD) jkW) (o2 (oC (.int 4)) (os (jac (oV 4) (jac (o2 (oV 1) (oC (.int 1)) ixD) (jas))) jaK) jkW) jfk) (jas))) jbF))
def jeR:Sf:=sSeq (jt9 2 (jas)) (sSeq (jlW (oL (jac (os (jac (oV 0) (jas)) jdT) (jas)) jbm) (gN 3) (jcz)) (fun δ=>(jbk (os (jac (oV 2) (jas)) jb1)) (dFz 2 δ)))
def jbv:List D → Option D:=runB jg2 2 jeR
abbrev jb2:Stmt:=top 37
abbrev jed:List Str:=["word","bit","changed","s"]
def jc0:Sf:=sSeq (jbl 2 (o2 (o2 (o2 (oV 0) (oC (.int 0)) ixD) (o2 (oV 0) (oC (.int 1)) ixD) jiK) (oV 1) jhb)) (sSeq (jbl 3 (o2 (o2 (oV 0) (oC (.int 2)) ixD) (o2 (oC (.int 2)) (os (jac (o2 (o2 (oV 0) (oC (.int 0)) ixD) (o2 (oV 0) (oC (.int 1)) ixD) jhb) (jac (oV 1) (jas))) jaK) jkW) jfk)) (jbk (os (jac (o2 (o2 (oV 0) (oC (.int 0)) ixD) (oV 2) jiK) (jac (o2 (o2 (oV 0) (oC (.int 1)) ixD) (oV 2) jiK) (jac (o2 (oV 3) (oC (.int 4)) jdu) (jas)))) jdf)))
def jbc:List D → Option D:=runB jed 2 jc0
abbrev jci:Stmt:=top 38
abbrev jeD:List Str:=["word","bit","e","z"]
def jbT:Sf:=sSeq (sIf (ob (o2 (o2 (o2 (oV 0) (oC (.int 0)) ixD) (oV 1) jhb) (oC (.int 0)) eqD)) (jbk (oV 0)) (sNx)) (sSeq (sIf (ob (o2 (o2 (oV 2) (oC (.int 2)) jdu) (oC (.int 1)) eqD)) (sNo) (sNx)) (sSeq (jbl 3 (oIf (ob (o2 (o2 (oV 2) (oC (.int 4)) jdu) (oC (.int 2)) eqD)) (o2 (o2 (oV 0) (oC (.int 1)) ixD) (oV 1) jiK) (o2 (oV 0) (oC (.int 1)) ixD))) (jbk (os (jac (o2 (oV 0) (oC (.int 0)) ixD) (jac (oV 3) (jac (o2 (o2 (o2 (oV 0) (oC (.int 2)) ixD) (o2 (oV 2) (oC (.int 2)) jhF) jfk) (oC (.int 4)) jdu) (jas)))) jdf))))
def jaO:List D → Option D:=runB jeD 3 jbT
abbrev jcL:Stmt:=top 39
abbrev jfm:List Str:=["word","first","second","x","z"]
def jbN:Sf:=sSeq (jbl 3 (oIf (ob (o2 (o2 (o2 (oV 0) (oC (.int 0)) ixD) (oV 1) jhb) (oC (.int 0)) neD)) (o2 (o2 (oV 0) (oC (.int 0)) ixD) (oV 2) jiK) (o2 (oV 0) (oC (.int 0)) ixD))) (sSeq (jbl 4 (oIf (ob (o2 (o2 (o2 (oV 0) (oC (.int 1)) ixD) (oV 2) jhb) (oC (.int 0)) neD)) (o2 (o2 (oV 0) (oC (.int 1)) ixD) (oV 1) jiK) (o2 (oV 0) (oC (.int 1)) ixD))) (jbk (os (jac (oV 3) (jac (oV 4) (jac (o2 (oV 0) (oC (.int 2)) ixD) (jas)))) jdf)))
def jaY:List D → Option D:=runB jfm 3 jbN
abbrev jcj:Stmt:=top 40
abbrev jeE:List Str:=["word","first","second","z","both","s"]
def jdn:Sf:=sSeq (jbl 3 (o2 (oV 0) (oC (.int 1)) ixD)) (sSeq (sIf (ob (o2 (o2 (o2 (oV 0) (oC (.int 0)) ixD) (oV 1) jhb) (oC (.int 0)) neD)) (jbl 3 (o2 (oV 3) (oV 2) jiK)) (sNx)) (sSeq (sIf (ob (o2 (o2 (o2 (oV 0) (oC (.int 0)) ixD) (oV 2) jhb) (oC (.int 0)) neD)) (jbl 3 (o2 (oV 3) (oV 1) jiK)) (sNx)) (sSeq (jbl 4 (o2 (oV 1) (oV 2) orD)) (sSeq (jbl 5 (oIf (ob (o2 (o2 (o2 (oV 0) (oC (.int 0)) ixD) (oV 4) jhb) (oV 4) eqD)) (o2 (o2 (oV 0) (oC (.int 2)) ixD) (oC (.int 2)) jfk) (o2 (oV 0) (oC (.int 2)) ixD))) (jbk (os (jac (o2 (oV 0) (oC (.int 0)) ixD) (jac (oV 3) (jac (o2 (oV 5) (oC (.int 4)) jdu) (jas)))) jdf))))))
def jbh:List D → Option D:=runB jeE 3 jdn
abbrev je2:Stmt:=top 41
abbrev jjG:List Str:=["wires","word","row","first","second"]
def jcG:Sf:=sSeq (jbl 3 (os (jac (oV 0) (jac (o2 (oV 2) (oC (.int 1)) ixD) (jas))) jbp)) (sSeq (sIf (ob (o2 (o2 (oV 2) (oC (.int 0)) ixD) (oC (.str "swing")) eqD)) (jbk (os (jac (oV 1) (jac (oV 3) (jas))) jbc)) (sNx)) (sSeq (sIf (ob (o2 (o2 (oV 2) (oC (.int 0)) ixD) (oC (.str "turn")) eqD)) (jbk (os (jac (oV 1) (jac (oV 3) (jac (o2 (oV 2) (oC (.int 2)) ixD) (jas)))) jaO)) (sNx)) (sSeq (sIf (ob (o2 (o2 (oV 2) (oC (.int 0)) ixD) (oC (.str "flip")) eqD)) (jbk (os (jac (o2 (oV 1) (oC (.int 0)) ixD) (jac (o2 (oV 1) (oC (.int 1)) ixD) (jac (o2 (o2 (o2 (oV 1) (oC (.int 2)) ixD) (o2 (oC (.int 2)) (os (jac (o2 (oV 1) (oC (.int 1)) ixD) (jac (oV 3) (jas))) jaK) jkW) jfk) (oC (.int 4)) jdu) (jas)))) jdf)) (sNx)) (sSeq (jbl 4 (os (jac (oV 0) (jac (o2 (oV 2) (oC (.int 2)) ixD) (jas))) jbp)) (sSeq (sIf (ob (o2 (o2 (oV 2) (oC (.int 0)) ixD) (oC (.str "tie")) eqD)) (jbk (os (jac (oV 1) (jac (oV 3) (jac (oV 4) (jas)))) jaY)) (sNx)) (sSeq (sIf (ob (o2 (o2 (oV 2) (oC (.int 0)) ixD) (oC (.str "sign")) eqD)) (jbk (os (jac (oV 1) (jac (oV 3) (jac (oV 4) (jas)))) jbh)) (sNx)) (jbk (os (jac (os (jac (o2 (oV 1) (oC (.int 0)) ixD) (jac (o2 (oV 3) (oV 4) orD) (jas))) jaR) (jac (os (jac (o2 (oV 1) (oC (.int 1)) ixD) (jac (o2 (oV 3) (oV 4) orD) (jas))) jaR) (jac (o2 (oV 1) (oC (.int 2)) ixD) (jas)))) jdf))))))))
def jaW:List D → Option D:=runB jjG 3 jcG
abbrev jbX:Stmt:=top 43
abbrev jeu:List Str:=["wires","place","bits","flips"]
def jeM:Dv → Option D:=jdH (oL (jac (oV 0) (jas)) jbm) [(0,"wires")] bv1 (os (jac (oV 1) (jac (oV 0) (jas))) jbp)
def jeL:Dv → Option D:=jdH (oL (jac (oV 0) (jas)) jbm) [(2,"bits"),(3,"flips")] bv1 (os (jac (os (jac (o2 (oV 2) (oV 0) ixD) (jac (oC (.int 0)) (jac (oC (.int 0)) (jas)))) jdf) (jac (os (jac (oC (.int 0)) (jac (o2 (oV 2) (oV 0) ixD) (jac (o2 (oC (.int 2)) (o2 (oV 1) (oV 0) ixD) jkW) (jas)))) jdf) (jas))) jdf)
def jfH:Sf:=sSeq (jbl 2 (os (jac (oV 0) (jac (oV 1) (jas))) jcB)) (sSeq (jbl 3 (jeM)) (jbk (os (jac (jeL) (jas)) jb1)))
def jbM:List D → Option D:=runB jeu 2 jfH
abbrev jcw:Stmt:=top 44
abbrev jee:List Str:=["rows"]
def jfa:Dv → Option D:=jdH (oI (oV 0) jhl) [] bv1 (jjb (o2 (o2 (oV 0) (oC (.int 0)) ixD) (oC (.str "turn")) eqD) (o2 (o2 (o2 (oV 0) (oC (.int 2)) ixD) (oC (.int 2)) jdu) (oC (.int 1)) eqD))
def jd9:Sf:=sIf (ob (os (jac (jfa) (jas)) jvV)) (sNo) (sNx)
def jbK:List D → Option D:=runB jee 1 jd9
abbrev jcv:Stmt:=top 45
abbrev jec:List Str:=["table","row","wires"]
def jdG:Dv → Option D:=jdH (oI (oV 0) jhl) [(1,"row"),(2,"wires")] bv1 (os (jac (os (jac (oV 2) (jac (o2 (oV 0) (oC (.int 0)) ixD) (jac (oV 1) (jas)))) jaW) (jac (os (jac (oV 2) (jac (o2 (oV 0) (oC (.int 1)) ixD) (jac (oV 1) (jas)))) jaW) (jas))) jdf)
def jd8:Sf:=sSeq (jou (os (jac (os (jac (oV 1) (jas)) jdf) (jas)) jbK)) (sSeq (jbl 2 (os (jac (oV 0) (jas)) jdT)) (jbk (os (jac (jdG) (jas)) jb1)))
def jbs:List D → Option D:=runB jec 2 jd8
abbrev jdB:Stmt:=top 46
abbrev jg3:List Str:=["table","wire","mark"]
def jeS:Sf:=jbk (os (jac (oC (.int 0)) (jac (os (jac (os (jac (oV 0) (jas)) jdT) (jac (oV 1) (jas))) jbp) (jac (o2 (oC (.int 2)) (oV 2) jkW) (jas)))) jdf)
def jaC:List D → Option D:=runB jg3 3 jeS
abbrev jbS:Stmt:=top 47
abbrev jdt:List Str:=["table","word"]
def jd2:Dv → Option D:=jfb (oL (jac (os (jac (oV 0) (jas)) jdT) (jas)) jbm) [(0,"table"),(1,"word")] bv1 (jhx (ob (os (jac (o2 (o2 (oV 1) (oV 0) ixD) (oC (.int 1)) ixD) (jac (oV 2) (jas))) jce))) (oV 0)
def jdo:Sf:=jbk (jd2)
def jax:List D → Option D:=runB jdt 2 jdo
abbrev jb3:Stmt:=top 48
abbrev jdN:List Str:=["table","word"]
def jex:Dv → Option D:=jfb (oL (jac (os (jac (oV 0) (jas)) jdT) (jas)) jbm) [(0,"table"),(1,"word")] bv1 (jhx (ob (os (jac (o2 (o2 (oV 1) (oV 0) ixD) (oC (.int 0)) ixD) (jac (oV 2) (jas))) jce))) (oV 0)
def jdK:Sf:=jbk (jex)
def jbf:List D → Option D:=runB jdN 2 jdK
abbrev jdC:Stmt:=top 49
abbrev jg4:List Str:=["table","wire","word","product","other"]
def jcA:Sf:=jbl 3 (os (jac (oV 3) (jac (o2 (o2 (oV 0) (oV 4) ixD) (oC (.int 1)) ixD) (jas))) jaD)
def jdJ:Sf:=sSeq (jbl 2 (os (jac (oV 0) (jac (oV 1) (jac (oC (.int 0)) (jas)))) jaC)) (sSeq (sIf (ob (o2 (os (jac (oV 0) (jac (oV 2) (jas))) jax) (os (jas) jhy) neD)) (jbk (oC .none)) (sNx)) (sSeq (jbl 3 (os (jac (oC (.int 0)) (jac (oC (.int 0)) (jac (oC (.int 0)) (jas)))) jdf)) (sSeq (jlW (oI (os (jac (oV 0) (jac (oV 2) (jas))) jbf) jhl) (gN 4) (jcA)) (jbk (oIf (ob (o2 (oV 3) (oV 2) eqD)) (oC (.int 0)) (oC (.int 1)))))))
def jar:List D → Option D:=runB jg4 2 jdJ
abbrev jel:Stmt:=top 50
abbrev jhM:List Str:=["word","look","keeper"]
def jfI:Sf:=jbk (oIf (ob (os (jac (oV 0) (jac (oV 1) (jas))) jce)) (oV 0) (os (jac (oV 0) (jac (oV 2) (jas))) jaD))
def jbZ:List D → Option D:=runB jhM 3 jfI
abbrev je1:Stmt:=top 51
abbrev jiI:List Str:=["table","wire","look","keeper","told"]
def jgs:Dv → Option D:=jdH (oI (oV 0) jhl) [(2,"look"),(3,"keeper")] bv1 (os (jac (os (jac (o2 (oV 0) (oC (.int 0)) ixD) (jac (oV 1) (jac (oV 2) (jas)))) jbZ) (jac (os (jac (o2 (oV 0) (oC (.int 1)) ixD) (jac (oV 1) (jac (oV 2) (jas)))) jbZ) (jas))) jdf)
def jiD:Sf:=sSeq (jbl 3 (o2 (o2 (oV 0) (oV 1) ixD) (oC (.int 1)) ixD)) (sSeq (jqO 4 (oLi (jgs))) (sSeq (jv7 4 (oV 1) (os (jac (oV 3) (jac (oV 2) (jas))) jdf)) (fun δ=>(jbk (os (jac (oV 4) (jas)) jb1)) (dFz 4 δ))))
def jco:List D → Option D:=runB jiI 3 jiD
abbrev jbR:Stmt:=top 52
abbrev jds:List Str:=["table","wire","mark","told","look"]
def jcq:Sf:=sSeq (jbl 3 (os (jac (oV 0) (jac (oV 1) (jas))) jar)) (sSeq (jbl 4 (os (jac (oV 0) (jac (oV 1) (jac (oV 2) (jas)))) jaC)) (sSeq (sIf (ob (o2 (oV 3) (oC .none) isD)) (jbk (os (jac (oV 0) (jac (o2 (os (jac (oV 0) (jac (oV 4) (jas))) jax) (oC (.int 0)) ixD) (jac (oV 4) (jas)))) jco)) (sNx)) (sSeq (sIf (ob (o2 (oV 3) (oV 2) neD)) (sNo) (sNx)) (jbk (oV 0)))))
def jap:List D → Option D:=runB jds 3 jcq
def jcZ:Xf:=jso (jbl 3 (os (jac (oV 0) (jac (oV 1) (jas))) jar)) (jso (jbl 4 (os (jac (oV 0) (jac (oV 1) (jac (oV 2) (jas)))) jaC)) (jso (sIf (ob (o2 (oV 3) (oC .none) isD)) (jbk (os (jac (oV 0) (jac (o2 (os (jac (oV 0) (jac (oV 4) (jas))) jax) (oC (.int 0)) ixD) (jac (oV 4) (jas)))) jco)) (sNx)) (xIf (ob (o2 (oV 3) (oV 2) neD)) (jpD "Barred" (oC (.str "the look is sure of the other mark"))) (xNo))))
def jaM:List D → Option Str:=jsL jds 3 jcZ
abbrev jcx:Stmt:=top 54
abbrev jef:List Str:=["e","first","second","told"]
def jh5:Dv → Option D:=jfb (oL (jac (oC (.int 9)) (jas)) jbm) [(3,"told")] bv1 (ob (o2 (oV 1) (oV 0) ixD)) (oV 0)
def jfS:Sf:=sSeq (jbl 1 (os (jac (o1 (oV 0) (jk6 jeK)) (jac (o1 (oV 0) (jk6 jdg)) (jac (o1 (oV 0) (jk6 jeJ)) (jac (o1 (oV 0) (jk6 jgk)) (jas))))) jhy)) (sSeq (jbl 2 (os (jac (o1 (oV 0) (jk6 jfr)) (jac (o1 (oV 0) (jk6 jgl)) (jac (o1 (oV 0) (jk6 jfs)) (jac (o1 (oV 0) (jk6 jdh)) (jas))))) jhy)) (sSeq (jbl 3 (o2 (o2 (oV 1) (oV 2) jfk) (os (jac (o1 (oV 0) (jk6 jgm)) (jas)) jhy) jfk)) (jbk (o2 (jh5) (os (jac (os (jac (o1 (oV 0) (jk6 jdz)) (jas)) jsj) (jas)) jhy) jfk))))
def jb0:List D → Option D:=runB jef 1 jfS
abbrev jcl:Stmt:=top 55
abbrev jeG:List Str:=["script","k"]
def jcr:Sf:=sSeq (sIf (ob (o2 (oV 1) (os (jac (oV 0) (jas)) jdT) ltD)) (jbk (o2 (oV 0) (oV 1) ixD)) (sNx)) (jbk (oC (.int 0)))
def jaQ:List D → Option D:=runB jeG 2 jcr
abbrev jc9:Stmt:=top 56
abbrev jfV:List Str:=["found"]
def jea:Sf:=jbk (jjb (o1 (oV 0) (jhm "int")) (o1 (o1 (oV 0) (jhm "bool")) juf))
def jcD:List D → Option D:=runB jfV 1 jea
abbrev jen:Stmt:=top 57
abbrev jhO:List Str:=["place","odd","bit"]
def jcd:Sf:=jbl 1 (o2 (oV 1) (o2 (o2 (oV 0) (oV 2) jjJ) (oC (.int 1)) jhb) jiK)
def jfJ:Sf:=sSeq (jbl 1 (oC (.int 0))) (sSeq (jlW (oL (jac (oC (.int 6)) (jas)) jbm) (gN 2) (jcd)) (jbk (oV 1)))
def ja9:List D → Option D:=runB jhO 1 jfJ
abbrev jck:Stmt:=top 58
abbrev jeF:List Str:=["found","wires","part"]
def jbI:Sf:=sIf (oOr (jhx (ob (os (jac (oV 2) (jas)) jcD))) (ob (o2 (oV 2) (oC (.int 0)) ltD))) (jbk (oC (.bool false))) (sNx)
def jdp:Sf:=sSeq (sIf (oOr (jhx (ob (o1 (oV 0) (jhm "tuple")))) (ob (o2 (os (jac (oV 0) (jas)) jdT) (oC (.int 3)) neD))) (jbk (oC (.bool false))) (sNx)) (sSeq (jlW (oI (oV 0) jhl) (gN 2) (jbI)) (jbk (jjb (o2 (o2 (oV 0) (oC (.int 0)) ixD) (o2 (oC (.int 1)) (oV 1) jg8) ltD) (jjb (o2 (o2 (oV 0) (oC (.int 1)) ixD) (o2 (oC (.int 1)) (oV 1) jg8) ltD) (o2 (o2 (oV 0) (oC (.int 2)) ixD) (oC (.int 4)) ltD)))))
def jaP:List D → Option D:=runB jeF 2 jdp
abbrev jem:Stmt:=top 59
abbrev jhN:List Str:=["cell","wires","kind","wire"]
def jch:Sf:=sSeq (jbl 2 (o2 (os (jac (oC (.str "swing")) (jac (oC (.str "turn")) (jac (oC (.str "flip")) (jac (oC (.str "tie")) (jac (oC (.str "sign")) (jac (oC (.str "cross")) (jas))))))) jhy) (o2 (oV 0) (oC (.int 6)) jdu) ixD)) (sSeq (sIf (ob (o2 (oV 1) (oC (.int 1)) eqD)) (jbl 2 (o2 (os (jac (oC (.str "swing")) (jac (oC (.str "turn")) (jac (oC (.str "flip")) (jas)))) jhy) (o2 (oV 0) (oC (.int 3)) jdu) ixD)) (sNx)) (sSeq (jbl 3 (o2 (o2 (oV 0) (oC (.int 6)) jhF) (oV 1) jdu)) (sSeq (sIf (ob (o2 (oV 2) (oC (.str "turn")) eqD)) (jbk (os (jac (oC (.str "turn")) (jac (oV 3) (jac (o2 (oC (.int 2)) (o2 (oC (.int 2)) (o2 (o2 (oV 0) (oC (.int 36)) jhF) (oC (.int 3)) jdu) jkW) jfk) (jas)))) jdf)) (sNx)) (sSeq (sIf (oOr (ob (o2 (oV 2) (oC (.str "swing")) eqD)) (ob (o2 (oV 2) (oC (.str "flip")) eqD))) (jbk (os (jac (oV 2) (jac (oV 3) (jas))) jdf)) (sNx)) (jbk (os (jac (oV 2) (jac (oV 3) (jac (o2 (o2 (o2 (oV 3) (oC (.int 1)) jfk) (o2 (o2 (oV 0) (oC (.int 36)) jhF) (o2 (oV 1) (oC (.int 1)) jdS) jdu) jfk) (oV 1) jdu) (jas)))) jdf))))))
def ja0:List D → Option D:=runB jhN 2 jch
abbrev jda:Stmt:=top 60
abbrev jfW:List Str:=["one","other"]
def jeb:Sf:=jbk (o2 (os (jac (o2 (o2 (oV 0) (oC (.int 1)) ixD) (o2 (oV 1) (oC (.int 0)) ixD) jhb) (jas)) ja9) (os (jac (o2 (o2 (oV 0) (oC (.int 0)) ixD) (o2 (oV 1) (oC (.int 1)) ixD) jhb) (jas)) ja9) eqD)
def ja8:List D → Option D:=runB jfW 2 jeb
abbrev jb4:Stmt:=top 61
abbrev jeg:List Str:=["found","wires","pair","i","j"]
def jbC:Sf:=sSeq (sIf (oOr (jhx (ob (o1 (oV 2) (jhm "tuple")))) (ob (o2 (os (jac (oV 2) (jas)) jdT) (oC (.int 2)) neD))) (jbk (oC (.bool false))) (sNx)) (sSeq (sIf (oOr (jhx (ob (os (jac (o2 (oV 2) (oC (.int 0)) ixD) (jac (oV 1) (jas))) jaP))) (jhx (ob (os (jac (o2 (oV 2) (oC (.int 1)) ixD) (jac (oV 1) (jas))) jaP)))) (jbk (oC (.bool false))) (sNx)) (sIf (ob (o2 (o2 (o2 (o2 (o2 (oV 2) (oC (.int 1)) ixD) (oC (.int 2)) ixD) (os (jac (o2 (o2 (o2 (oV 2) (oC (.int 1)) ixD) (oC (.int 0)) ixD) (o2 (o2 (oV 2) (oC (.int 1)) ixD) (oC (.int 1)) ixD) jhb) (jas)) ja9) jfk) (oC (.int 2)) jdu) (oC (.int 1)) eqD)) (jbk (oC (.bool false))) (sNx)))
def jbB:Sf:=sIf (oOr (jhx (ob (os (jac (o2 (o2 (oV 0) (oV 3) ixD) (oC (.int 1)) ixD) (jac (o2 (o2 (oV 0) (oV 4) ixD) (oC (.int 1)) ixD) (jas))) ja8))) (ob (o2 (os (jac (o2 (o2 (oV 0) (oV 3) ixD) (oC (.int 0)) ixD) (jac (o2 (o2 (oV 0) (oV 4) ixD) (oC (.int 1)) ixD) (jas))) ja8) (o2 (oV 3) (oV 4) neD) neD))) (jbk (oC (.bool false))) (sNx)
def jbA:Sf:=jlW (oL (jac (oV 1) (jas)) jbm) (gN 4) (jbB)
def jc2:Sf:=sSeq (sIf (oOr (jhx (ob (o1 (oV 0) (jhm "tuple")))) (ob (o2 (os (jac (oV 0) (jas)) jdT) (oV 1) neD))) (jbk (oC (.bool false))) (sNx)) (sSeq (jlW (oI (oV 0) jhl) (gN 2) (jbC)) (sSeq (jlW (oL (jac (oV 1) (jas)) jbm) (gN 3) (jbA)) (jbk (oC (.bool true)))))
def jaZ:List D → Option D:=runB jeg 2 jc2
abbrev jdE:Stmt:=top 62
abbrev jg7:List Str:=["state","bit","mark","left","place"]
def jbr:Sf:=sIf (ob (o2 (os (jac (o2 (o2 (oV 4) (oV 1) jhb) (oC (.int 0)) neD) (jas)) jsj) (oV 2) eqD)) (jr7 3 (o2 (oV 0) (oV 4) ixD)) (jr7 3 (os (jac (oC (.int 0)) (jac (oC (.int 0)) (jac (oC (.int 0)) (jac (oC (.int 0)) (jac (oC (.int 0)) (jas)))))) jdf))
def jeU:Sf:=sSeq (jt9 3 (jas)) (sSeq (jlW (oL (jac (os (jac (oV 0) (jas)) jdT) (jas)) jbm) (gN 4) (jbr)) (fun δ=>(jbk (os (jac (oV 3) (jas)) jb1)) (dFz 3 δ)))
def jaI:List D → Option D:=runB jg7 3 jeU
abbrev jdw:Stmt:=top 63
abbrev jfM:List Str:=["state"]
def jeN:Dv → Option D:=jfb (oI (oV 0) jhl) [] bv1 (ob (o2 (oV 0) (os (jac (oC (.int 0)) (jac (oC (.int 0)) (jac (oC (.int 0)) (jac (oC (.int 0)) (jac (oC (.int 0)) (jas)))))) jdf) neD)) (oV 0)
def jfK:Sf:=jbk (o2 (os (jac (jeN) (jas)) jdT) (oC (.int 0)) gtD)
def jaL:List D → Option D:=runB jfM 1 jfK
abbrev jcm:Stmt:=top 64
abbrev jeH:List Str:=["table","state","wires","pair"]
def jbJ:Sf:=sIf (ob (o2 (os (jac (oV 1) (jac (o2 (oV 3) (oC (.int 1)) ixD) (jas))) jbv) (oV 1) neD)) (jbk (oC (.bool false))) (sNx)
def jdq:Sf:=sSeq (sIf (oOr (jhx (ob (os (jac (oV 0) (jac (oV 2) (jas))) jaZ))) (jhx (ob (os (jac (oV 1) (jas)) jaL)))) (jbk (oC (.bool false))) (sNx)) (sSeq (jlW (oI (oV 0) jhl) (gN 3) (jbJ)) (jbk (oC (.bool true))))
def jau:List D → Option D:=runB jeH 3 jdq
abbrev jcM:Stmt:=top 65
abbrev jfn:List Str:=["table","wire","mark","kinds","e"]
def jdM:Sf:=sSeq (jbl 3 (os (jas) jhy)) (sSeq (jr6 4 hs_WaveError (jou (os (jac (oV 0) (jac (oV 1) (jac (oV 2) (jas)))) jap)) (xE (osX (jac (oV 0) (jac (oV 1) (jac (oV 2) (jas)))) jaM)) (jbl 3 (os (jac (oV 4) (jas)) jb0))) (jbk (o2 (oV 3) (os (jac (oC (.int 5)) (jac (oC (.int 1)) (jas))) jhy) eqD)))
def jbx:List D → Option D:=runB jfn 3 jdM
abbrev jby:Stmt:=top 66
abbrev jcI:List Str:=["table","state","wire","mark","wires","bit","left","told","found"]
def jcb:Dv → Option D:=jdH (oI (oV 8) jhl) [] bv1 (o2 (oV 0) (oC (.int 1)) ixD)
def jbE:Sf:=sSeq (jbl 5 (o2 (oC (.int 1)) (o2 (o2 (oV 4) (oC (.int 1)) jdS) (oV 2) jdS) jg8)) (sSeq (jbl 6 (os (jac (oV 1) (jac (oV 5) (jac (oV 3) (jas)))) jaI)) (sSeq (jbl 7 (os (jac (oV 0) (jac (oV 2) (jas))) jar)) (sSeq (sIf (jhx (ob (os (jac (oV 6) (jas)) jaL))) (jbk (jjb (o2 (oV 7) (o2 (oC (.int 1)) (oV 3) jdS) eqD) (os (jac (oV 0) (jac (oV 2) (jac (oV 3) (jas)))) jbx))) (sNx)) (sSeq (jbl 8 (os (jac (oV 0) (jac (oV 2) (jac (oV 3) (jas)))) jap)) (sSeq (sIf (jhx (ob (os (jac (oV 8) (jac (oV 6) (jac (oV 4) (jas)))) jau))) (jbk (oC (.bool false))) (sNx)) (sSeq (sIf (jhx (ob (os (jac (os (jac (oV 1) (jac (oV 5) (jac (o2 (oC (.int 1)) (oV 3) jdS) (jas)))) jaI) (jas)) jaL))) (jbk (jjb (o2 (oV 7) (oV 3) eqD) (o2 (oV 8) (oV 0) eqD))) (sNx)) (jbk (jjb (o2 (oV 7) (oC .none) isD) (o2 (os (jac (oC (.int 0)) (jac (oV 5) (jac (o2 (oC (.int 2)) (oV 3) jkW) (jas)))) jdf) (jcb) (inG false))))))))))
def jao:List D → Option D:=runB jcI 5 jbE
abbrev jh0:Stmt:=top 67
abbrev jt4:List Str:=["script","wires","place","table","state","cell","row","wire","mark"]
def jey:Sf:=sSeq (sIf (ob (o2 (o2 (oV 5) (oC (.int 3)) jdu) (oC (.int 2)) ltD)) (sSeq (jbl 6 (os (jac (o2 (oV 5) (oC (.int 3)) jhF) (jac (oV 1) (jas))) ja0)) (sSeq (jbl 3 (os (jac (oV 3) (jac (oV 6) (jas))) jbs)) (jbl 4 (os (jac (oV 4) (jac (oV 6) (jas))) jb9)))) (sSeq (jbl 7 (o2 (o2 (oV 5) (oC (.int 3)) jhF) (oV 1) jdu)) (sSeq (sIf (jhx (ob (os (jac (oV 3) (jac (oV 4) (jac (oV 7) (jac (oC (.int 0)) (jac (oV 1) (jas)))))) jao))) (jbk (oC (.bool false))) (sNx)) (sSeq (sIf (jhx (ob (os (jac (oV 3) (jac (oV 4) (jac (oV 7) (jac (oC (.int 1)) (jac (oV 1) (jas)))))) jao))) (jbk (oC (.bool false))) (sNx)) (sSeq (jbl 8 (os (jac (oV 3) (jac (oV 7) (jas))) jar)) (sSeq (sIf (ob (o2 (oV 8) (oC .none) isD)) (jbl 8 (o2 (o2 (oV 5) (oC (.int 9)) jhF) (oC (.int 2)) jdu)) (sNx)) (sSeq (jbl 3 (os (jac (oV 3) (jac (oV 7) (jac (oV 8) (jas)))) jap)) (jbl 4 (os (jac (oV 4) (jac (o2 (oC (.int 1)) (o2 (o2 (oV 1) (oC (.int 1)) jdS) (oV 7) jdS) jg8) (jac (oV 8) (jas)))) jaI))))))))) (sIf (jhx (ob (os (jac (oV 3) (jac (oV 4) (jac (oV 1) (jas)))) jau))) (jbk (oC (.bool false))) (sNx))
def jpy:Sf:=sSeq (jbl 1 (o2 (oC (.int 1)) (o2 (os (jac (oV 0) (jac (oC (.int 0)) (jas))) jaQ) (oC (.int 3)) jdu) jfk)) (sSeq (jbl 2 (o2 (os (jac (oV 0) (jac (oC (.int 1)) (jas))) jaQ) (o2 (oC (.int 1)) (oV 1) jg8) jdu)) (sSeq (jbl 3 (os (jac (oV 1) (jac (oV 2) (jas))) jbM)) (sSeq (jbl 4 (os (jac (oV 1) (jac (oV 2) (jas))) jbw)) (sSeq (jlW (oI (oSl (oV 0) (oP (oC (.int 2))) (oP (o2 (oC (.int 62)) (o2 (oC (.int 30)) (os (jac (o2 (oV 1) (oC (.int 3)) eqD) (jas)) jsj) jkW) jdS))) jhl) (gN 5) (jey)) (jbk (os (jac (oV 3) (jac (oV 4) (jac (oV 1) (jas)))) jau))))))
def jlH:List D → Option D:=runB jt4 1 jpy
theorem jqz (j m:Int):ja5 [.int j,.int m] = some (.int (MA.jqA j m)):=by
  by_cases h:j = 0
  · subst h
    simp [ja5,runB,jcQ,jal,MA.jqA]
  · simp [ja5,runB,jcQ,jal,MA.jqA,h]
theorem jms (a b c d:Int):jb8 [.int a,.int b,.int c,.int d] = some (.tuple [.int (b - d),.int (a + c),.int (b + d),.int (c - a)]):=by
  simp [jb8,runB,jgZ,jal]
def tup5 (x:MA.Q4) (k:Int):D:=.tuple [.int x.a,.int x.b,.int x.c,.int x.d,.int k]
def jvo:Sf:=jbl 5 (VL.os (jac (o2 (o2 (o2 (oV 0) (oV 1) orD) (oV 2) orD) (oV 3) orD) (jac (o2 (oV 4) (oC (.int 2)) jhF) (jas))) ja5)
def jvn:Sf:=jbl 0 (o2 (oV 0) (oV 5) jjJ)
def jvm:Sf:=jbl 1 (o2 (oV 1) (oV 5) jjJ)
def jvl:Sf:=jbl 2 (o2 (oV 2) (oV 5) jjJ)
def jvk:Sf:=jbl 3 (o2 (oV 3) (oV 5) jjJ)
def jvj:Sf:=jbl 4 (o2 (oV 4) (o2 (oC (.int 2)) (oV 5) jkW) jdS)
def jue:Sf:=sIf (oOr (ob (o2 (oV 4) (oC (.int 0)) eqD)) (oOr (ob (o2 (o2 (o2 (oV 0) (oV 2) jdS) (oC (.int 2)) jdu) (oC (.int 1)) eqD)) (ob (o2 (o2 (o2 (oV 1) (oV 3) jdS) (oC (.int 2)) jdu) (oC (.int 1)) eqD)))) (jbk (VL.os (jac (oV 0) (jac (oV 1) (jac (oV 2) (jac (oV 3) (jac (oV 4) (jas)))))) jdf)) (sNx)
def jud:Sf:=jbl 6 (VL.os (jac (oV 0) (jac (oV 1) (jac (oV 2) (jac (oV 3) (jas))))) jb8)
def juc:Sf:=jbk (VL.os (jac (o2 (o2 (oV 6) (oC (.int 0)) ixD) (oC (.int 2)) jhF) (jac (o2 (o2 (oV 6) (oC (.int 1)) ixD) (oC (.int 2)) jhF) (jac (o2 (o2 (oV 6) (oC (.int 2)) ixD) (oC (.int 2)) jhF) (jac (o2 (o2 (oV 6) (oC (.int 3)) ixD) (oC (.int 2)) jhF) (jac (o2 (oV 4) (oC (.int 1)) jdS) (jas)))))) jdf)
theorem jmT:jgg = sSeq jvo (sSeq jvn (sSeq jvm (sSeq jvl (sSeq jvk (sSeq jvj (sSeq jue (sSeq jud (juc)))))))):=rfl
theorem jpQ {s t:Sf} {δ δ':Dv} (h:s δ = some (.nx,δ')):sSeq s t δ = t δ':=by simp only [sSeq,h,Option.bind_some]
theorem jxh {s t:Sf} {δ δ':Dv} {d:D} (h:s δ = some (.rt d,δ')):sSeq s t δ = some (.rt d,δ'):=by simp only [sSeq,h,Option.bind_some]
theorem jwf {N:List Str} {n:Nat} {b:Sf} {as:List D} {d:D} {δ':Dv} (hl:as.length = n) (h:b (jal N as) = some (.rt d,δ')):runB N n b as = some d:=by unfold runB; rw [if_pos hl,h]; rfl
theorem nu1 {a b c d k t:Int} (h:ja5 [.int (Builtin.bitOr (Builtin.bitOr (Builtin.bitOr a b) c) d),.int (k / 2)] = some (.int t)):jvo [.fz (.int a),.fz (.int b),.fz (.int c),.fz (.int d),.fz (.int k),.un,.un] = some (.nx,[.fz (.int a),.fz (.int b),.fz (.int c),.fz (.int d),.fz (.int k),.fz (.int t),.un]):=by simp [jvo,h]
theorem nu2 (a:Int) (t:Nat) (x1 x2 x3 x4 x6:Sl):jvn [.fz (.int a),x1,x2,x3,x4,.fz (.int t),x6] = some (.nx,[.fz (.int (a / 2 ^ t)),x1,x2,x3,x4,.fz (.int t),x6]):=by simp [jvn]
theorem nu3 (a:Int) (t:Nat) (x1 x2 x3 x4 x6:Sl):jvm [x1,.fz (.int a),x2,x3,x4,.fz (.int t),x6] = some (.nx,[x1,.fz (.int (a / 2 ^ t)),x2,x3,x4,.fz (.int t),x6]):=by simp [jvm]
theorem nu4 (a:Int) (t:Nat) (x1 x2 x3 x4 x6:Sl):jvl [x1,x2,.fz (.int a),x3,x4,.fz (.int t),x6] = some (.nx,[x1,x2,.fz (.int (a / 2 ^ t)),x3,x4,.fz (.int t),x6]):=by simp [jvl]
theorem nu5 (a:Int) (t:Nat) (x1 x2 x3 x4 x6:Sl):jvk [x1,x2,x3,.fz (.int a),x4,.fz (.int t),x6] = some (.nx,[x1,x2,x3,.fz (.int (a / 2 ^ t)),x4,.fz (.int t),x6]):=by simp [jvk]
theorem nu6 (a:Int) (t:Nat) (x1 x2 x3 x4 x6:Sl):jvj [x1,x2,x3,x4,.fz (.int a),.fz (.int t),x6] = some (.nx,[x1,x2,x3,x4,.fz (.int (a - 2 * t)),.fz (.int t),x6]):=by
  have m2:IntMulOk 2 (t:Int):=.of_left (by decide)
  simp [jvj,m2]
theorem jtj {f g:Dv → Option Bool} {δ:Dv} (h:f δ = some true):oOr f g δ = some true:=by unfold oOr; rw [h]; rfl
theorem joK {f g:Dv → Option Bool} {δ:Dv} (h:f δ = some false):oOr f g δ = g δ:=by unfold oOr; rw [h]; rfl
section
variable (a b c d k:Int) (x5 x6:Sl)
theorem jwe:(ob (o2 (oV 4) (oC (.int 0)) eqD)) [.fz (.int a),.fz (.int b),.fz (.int c),.fz (.int d),.fz (.int k),x5,x6] = some (k == 0):=rfl
theorem jwb {f g:Dv → Option D} {δ:Dv} {x y:Int} (hf:f δ = some (.int x)) (hg:g δ = some (.int y)):(ob (o2 (o2 (o2 f g jdS) (oC (.int 2)) jdu) (oC (.int 1)) eqD)) δ = some ((x - y) % 2 == 1):=by
  have s:jdS (.int x) (.int y) = some (.int (x - y)):=rfl
  have m:jdu (.int (x - y)) (.int 2) = some (.int ((x - y) % 2)):=jeq (by decide)
  simp only [ob,o2,oC,hf,hg,Option.bind_some,s,m,jrH,jpz]
theorem jwd:(ob (o2 (o2 (o2 (oV 0) (oV 2) jdS) (oC (.int 2)) jdu) (oC (.int 1)) eqD)) [.fz (.int a),.fz (.int b),.fz (.int c),.fz (.int d),.fz (.int k),x5,x6] = some ((a - c) % 2 == 1):=jwb rfl rfl
theorem jwc:(ob (o2 (o2 (o2 (oV 1) (oV 3) jdS) (oC (.int 2)) jdu) (oC (.int 1)) eqD)) [.fz (.int a),.fz (.int b),.fz (.int c),.fz (.int d),.fz (.int k),x5,x6] = some ((b - d) % 2 == 1):=jwb rfl rfl
end
theorem juY {t:Dv → Option Bool} {u w:Sf} {δ:Dv} (h:t δ = some true):sIf t u w δ = u δ:=by unfold sIf; rw [h]; rfl
theorem juZ {t:Dv → Option Bool} {u w:Sf} {δ:Dv} (h:t δ = some false):sIf t u w δ = w δ:=by unfold sIf; rw [h]; rfl
theorem jxf (a b c d k:Int) (x5 x6:Sl) (h:k = 0 ∨ (a - c) % 2 = 1 ∨ (b - d) % 2 = 1):jue [.fz (.int a),.fz (.int b),.fz (.int c),.fz (.int d),.fz (.int k),x5,x6] = some (.rt (.tuple [.int a,.int b,.int c,.int d,.int k]),[.fz (.int a),.fz (.int b),.fz (.int c),.fz (.int d),.fz (.int k),x5,x6]):=by
  refine (juY ?_).trans rfl
  have t1:=jwe a b c d k x5 x6
  have t2:=jwd a b c d k x5 x6
  have t3:=jwc a b c d k x5 x6
  by_cases q0:k = 0
  · rw [beq_iff_eq.mpr q0] at t1; exact jtj t1
  · rw [beq_eq_false_iff_ne.mpr q0] at t1
    refine (joK t1).trans ?_
    by_cases q1:(a - c) % 2 = 1
    · rw [beq_iff_eq.mpr q1] at t2; exact jtj t2
    · rw [beq_eq_false_iff_ne.mpr q1] at t2
      refine (joK t2).trans ?_
      rcases h with h | h | h
      · exact absurd h q0
      · exact absurd h q1
      · rw [beq_iff_eq.mpr h] at t3; exact t3
theorem jxg (a b c d k:Int) (x5 x6:Sl) (h:¬(k = 0 ∨ (a - c) % 2 = 1 ∨ (b - d) % 2 = 1)):jue [.fz (.int a),.fz (.int b),.fz (.int c),.fz (.int d),.fz (.int k),x5,x6] = some (.nx,[.fz (.int a),.fz (.int b),.fz (.int c),.fz (.int d),.fz (.int k),x5,x6]):=by
  have t1:=jwe a b c d k x5 x6
  have t2:=jwd a b c d k x5 x6
  have t3:=jwc a b c d k x5 x6
  rw [beq_eq_false_iff_ne.mpr fun q=>h (.inl q)] at t1
  rw [beq_eq_false_iff_ne.mpr fun q=>h (.inr (.inl q))] at t2
  rw [beq_eq_false_iff_ne.mpr fun q=>h (.inr (.inr q))] at t3
  exact (juZ ((joK t1).trans ((joK t2).trans t3))).trans rfl
theorem nu8 (a b c d:Int) (x4 x5 x6:Sl):jud [.fz (.int a),.fz (.int b),.fz (.int c),.fz (.int d),x4,x5,x6] = some (.nx,[.fz (.int a),.fz (.int b),.fz (.int c),.fz (.int d),x4,x5,.fz (.tuple [.int (b - d),.int (a + c),.int (b + d),.int (c - a)])]):=by simp [jud,jms]
theorem nu9 (p q r s k:Int) (x0 x1 x2 x3 x5:Sl):juc [x0,x1,x2,x3,.fz (.int k),x5,.fz (.tuple [.int p,.int q,.int r,.int s])] = some (.rt (.tuple [.int (p / 2),.int (q / 2),.int (r / 2),.int (s / 2),.int (k - 1)]),[x0,x1,x2,x3,.fz (.int k),x5,.fz (.tuple [.int p,.int q,.int r,.int s])]):=by simp [juc]
theorem jmU (a b c d k:Int) (hk:0 ≤ k):jcN [.int a,.int b,.int c,.int d,.int k] = some (tup5 (MA.num ⟨a,b,c,d⟩ k).1 (MA.num ⟨a,b,c,d⟩ k).2):=by
  obtain ⟨t,e,h1,_⟩:=MA.jgj a b c d (k / 2) (Int.ediv_nonneg hk (by decide))
  have tw:=jqz (Builtin.bitOr (Builtin.bitOr (Builtin.bitOr a b) c) d) (k / 2)
  rw [e] at tw
  unfold MA.num tup5
  simp only [e,Int.toNat_natCast]
  generalize ha:a / 2 ^ t = A
  generalize hb:b / 2 ^ t = B
  generalize hc:c / 2 ^ t = C
  generalize hd:d / 2 ^ t = E
  have go:jgg (jal jiJ [.int a,.int b,.int c,.int d,.int k]) = (sSeq jue (sSeq jud juc)) [.fz (.int A),.fz (.int B),.fz (.int C),.fz (.int E),.fz (.int (k - 2 * t)),.fz (.int t),.un]:=by
    rw [jmT,← ha,← hb,← hc,← hd]
    exact (jpQ (nu1 tw)).trans ((jpQ (nu2 _ _ _ _ _ _ _)).trans ((jpQ (nu3 _ _ _ _ _ _ _)).trans ((jpQ (nu4 _ _ _ _ _ _ _)).trans ((jpQ (nu5 _ _ _ _ _ _ _)).trans (jpQ (nu6 _ _ _ _ _ _ _))))))
  by_cases q:k - 2 * (t:Int) = 0 ∨ (A - C) % 2 = 1 ∨ (B - E) % 2 = 1
  · rw [if_pos q]
    exact jwf rfl (go.trans (jxh (jxf _ _ _ _ _ _ _ q)))
  · rw [if_neg q]
    exact jwf rfl (go.trans ((jpQ (jxg _ _ _ _ _ _ _ q)).trans ((jpQ (nu8 _ _ _ _ _ _ _)).trans (nu9 _ _ _ _ _ _ _ _ _ _))))
theorem jxo (c f:Int):jtm [.int c,.int f] = some (.int (max c f)):=by
  rw [jkX]
  congr 2
  rw [Int.max_def]
  split <;> split <;> omega
structure Nm (M:Nat) (r:Int) (x:MA.Q4) (c:Int):Prop where
  le:MA.Q4.Le M x
  ls:MA.Q4.Least x c
  c1:c ≤ r
theorem jwa (x:MA.Q4) (k:Int) (hk:0 ≤ k):jcN [.int x.a,.int x.b,.int x.c,.int x.d,.int k] = some (tup5 (MA.num x k).1 (MA.num x k).2):=jmU _ _ _ _ _ hk
def juF (x:MA.Q4):D:=.tuple [.int x.a,.int x.b,.int x.c,.int x.d]
theorem jmE (x:MA.Q4) (c k:Int) (h:MA.Q4.Le (2 ^ 100000) x) (h1:c ≤ k) (h2:k - c ≤ 100000):jbt [tup5 x c,.int k] = some (juF (MA.Q4.rtn (k - c).toNat x)):=by
  obtain ⟨l1,l2,l3,l4⟩:=h
  obtain ⟨t,ht⟩:∃ t:Nat,(k - c) / 2 = t:=⟨((k - c) / 2).toNat,by omega⟩
  have s:∀ i:Int,i.natAbs ≤ 2 ^ 100000 → jg8 (.int i) (.int (t:Int)) = some (.int (i * 2 ^ t)):=fun i hi=>by
    have hb:i.natAbs < 2 ^ 100001:=Nat.lt_of_le_of_lt hi (Nat.pow_lt_pow_right (by decide) (by decide))
    have:=MA.jnE hb
    have q:=jhU (i:=i) (j:=(t:Int)) (by omega) (by omega)
    simpa using q
  have r2:=MA.Q4.rtn_two t x
  unfold tup5 juF
  by_cases o:(k - c) % 2 = 1
  · have e:(k - c).toNat = 2 * t + 1:=by omega
    have m:(2 * (t:Int) + 1) % 2 = 1:=by omega
    rw [e,MA.Q4.rtn_succ,r2]
    simp [jbt,runB,jdd,jal,ht,o,s _ l1,s _ l2,s _ l3,s _ l4,jms,MA.Q4.rt,MA.Q4.dbl]
  · have e:(k - c).toNat = 2 * t:=by omega
    rw [e,r2]
    simp [jbt,runB,jdd,jal,ht,o,s _ l1,s _ l2,s _ l3,s _ l4,MA.Q4.dbl]
theorem jqX (x:MA.Q4) (c:Int) (y:MA.Q4) (d:Int) (hx:MA.Q4.Le (2 ^ 100000) x) (hy:MA.Q4.Le (2 ^ 100000) y) (hc:0 ≤ c) (hd:0 ≤ d) (hc1:c ≤ 100000) (hd1:d ≤ 100000):jeA [tup5 x c,tup5 y d] = some (tup5 (MA.je6 x c y d).1 (MA.je6 x c y d).2):=by
  have hm:=jxo c d
  have k1:c ≤ max c d:=Int.le_max_left ..
  have k2:d ≤ max c d:=Int.le_max_right ..
  have k3:max c d = c ∨ max c d = d:=by omega
  have o1:=jmE x c (max c d) hx k1 (by omega)
  have o2:=jmE y d (max c d) hy k2 (by omega)
  unfold MA.je6
  have nm:=jwa (MA.Q4.add (MA.Q4.rtn (max c d - c).toNat x) (MA.Q4.rtn (max c d - d).toNat y)) (max c d) (by omega)
  generalize max c d = m at *
  generalize MA.Q4.rtn (m - c).toNat x = u at *
  generalize MA.Q4.rtn (m - d).toNat y = v at *
  generalize MA.num (MA.Q4.add u v) m = r at *
  simp only [MA.Q4.add] at nm
  generalize tup5 r.1 r.2 = R at *
  simp only [tup5,juF] at o1 o2 ⊢
  simp [-jkX,jeA,runB,jnN,jal,hm,o1,o2,nm]
theorem jnd (x:MA.Q4) (c:Int) (hc:0 ≤ c):jcp [tup5 x c] = some (tup5 (MA.num x (c + 1)).1 (MA.num x (c + 1)).2):=by
  have nm:=jwa x (c + 1) (by omega)
  generalize tup5 (MA.num x (c + 1)).1 (MA.num x (c + 1)).2 = R at *
  simp only [tup5]
  simp [jcp,runB,jiE,jal,nm]
theorem jiN (x:MA.Q4) (c e:Int):jbF [tup5 x c,.int e] = some (tup5 (MA.tnn (e % 8).toNat x) c):=by
  have w:e % 8 = 0 ∨ e % 8 = 1 ∨ e % 8 = 2 ∨ e % 8 = 3 ∨ e % 8 = 4 ∨ e % 8 = 5 ∨ e % 8 = 6 ∨ e % 8 = 7:=by omega
  have go:∀ (r a0 a1 a2 a3:Int),e % 8 = r → (0 - e) % 8 = a0 → (1 - e) % 8 = a1 → (2 - e) % 8 = a2 → (3 - e) % 8 = a3 → ∀ b0 b1 b2 b3:Int,atI [PyData.int x.a,.int x.b,.int x.c,.int x.d,.int (-x.a),.int (-x.b),.int (-x.c),.int (-x.d)] a0 = some (.int b0) → atI [PyData.int x.a,.int x.b,.int x.c,.int x.d,.int (-x.a),.int (-x.b),.int (-x.c),.int (-x.d)] a1 = some (.int b1) →
      atI [PyData.int x.a,.int x.b,.int x.c,.int x.d,.int (-x.a),.int (-x.b),.int (-x.c),.int (-x.d)] a2 = some (.int b2) → atI [PyData.int x.a,.int x.b,.int x.c,.int x.d,.int (-x.a),.int (-x.b),.int (-x.c),.int (-x.d)] a3 = some (.int b3) → jbF [tup5 x c,.int e] = some (.tuple [.int b0,.int b1,.int b2,.int b3,.int c]):=by
    intro r a0 a1 a2 a3 _ h0 h1 h2 h3 b0 b1 b2 b3 k0 k1 k2 k3
    have h0:-e % 8 = a0:=by omega
    simp only [tup5]
    simp [jbF,runB,jiC,jal,h0,h1,h2,h3,k0,k1,k2,k3]
  rcases w with w | w | w | w | w | w | w | w <;> rw [w]
  · exact go 0 0 1 2 3 w (by omega) (by omega) (by omega) (by omega) _ _ _ _ (by simp; rfl) (by simp; rfl) (by simp; rfl) (by simp; rfl)
  · exact go 1 7 0 1 2 w (by omega) (by omega) (by omega) (by omega) _ _ _ _ (by simp; rfl) (by simp; rfl) (by simp; rfl) (by simp; rfl)
  · exact go 2 6 7 0 1 w (by omega) (by omega) (by omega) (by omega) _ _ _ _ (by simp; rfl) (by simp; rfl) (by simp; rfl) (by simp; rfl)
  · exact go 3 5 6 7 0 w (by omega) (by omega) (by omega) (by omega) _ _ _ _ (by simp; rfl) (by simp; rfl) (by simp; rfl) (by simp; rfl)
  · exact go 4 4 5 6 7 w (by omega) (by omega) (by omega) (by omega) _ _ _ _ (by simp; rfl) (by simp; rfl) (by simp; rfl) (by simp; rfl)
  · have e0:tup5 (MA.tnn (5:Int).toNat x) c = .tuple [.int x.d,.int (-x.a),.int (-x.b),.int (-x.c),.int c]:=by simp [tup5,MA.tnn,MA.Q4.tn]
    rw [e0]
    exact go 5 3 4 5 6 w (by omega) (by omega) (by omega) (by omega) _ _ _ _ (by simp) (by simp) (by simp) (by simp)
  · have e0:tup5 (MA.tnn (6:Int).toNat x) c = .tuple [.int x.c,.int x.d,.int (-x.a),.int (-x.b),.int c]:=by simp [tup5,MA.tnn,MA.Q4.tn]
    rw [e0]
    exact go 6 2 3 4 5 w (by omega) (by omega) (by omega) (by omega) _ _ _ _ (by simp) (by simp) (by simp) (by simp)
  · have e0:tup5 (MA.tnn (7:Int).toNat x) c = .tuple [.int x.b,.int x.c,.int x.d,.int (-x.a),.int c]:=by simp [tup5,MA.tnn,MA.Q4.tn]
    rw [e0]
    exact go 7 1 2 3 4 w (by omega) (by omega) (by omega) (by omega) _ _ _ _ (by simp) (by simp) (by simp) (by simp)
theorem jlT (x:MA.Q4) (c:Int):jcC [tup5 x c] = some (tup5 (MA.Q4.neg x) c):=by
  simp only [tup5]
  simp [jcC,runB,jg1,jal,MA.Q4.neg]
def okS (a:Str):Bool:=shp (.str a)
theorem eqS {a b:Str} (ha:okS a = true) (hb:okS b = true):eqD (.str a) (.str b) = some (.bool (a == b)):=if_pos ⟨ha,hb⟩
theorem jaT:okS "swing" = true:=by decide +kernel
theorem ja1:okS "turn" = true:=by decide +kernel
theorem ja4:okS "flip" = true:=by decide +kernel
theorem jbn:okS "tie" = true:=by decide +kernel
theorem ja2:okS "sign" = true:=by decide +kernel
theorem jaU:okS "cross" = true:=by decide +kernel
theorem ja3:okS "look" = true:=by decide +kernel
theorem jaS:okS "where" = true:=by decide +kernel
@[simp] theorem jn4:eqD (.str "swing") (.str "swing") = some (.bool true):=(eqS jaT jaT).trans (congrArg (fun z=>some (PyData.bool z)) (show (("swing":Str) == ("swing":Str)) = true by decide +kernel))
@[simp] theorem joX:eqD (.str "swing") (.str "turn") = some (.bool false):=(eqS jaT ja1).trans (congrArg (fun z=>some (PyData.bool z)) (show (("swing":Str) == ("turn":Str)) = false by decide +kernel))
@[simp] theorem jo0:eqD (.str "swing") (.str "flip") = some (.bool false):=(eqS jaT ja4).trans (congrArg (fun z=>some (PyData.bool z)) (show (("swing":Str) == ("flip":Str)) = false by decide +kernel))
@[simp] theorem jp1:eqD (.str "swing") (.str "tie") = some (.bool false):=(eqS jaT jbn).trans (congrArg (fun z=>some (PyData.bool z)) (show (("swing":Str) == ("tie":Str)) = false by decide +kernel))
@[simp] theorem joY:eqD (.str "swing") (.str "sign") = some (.bool false):=(eqS jaT ja2).trans (congrArg (fun z=>some (PyData.bool z)) (show (("swing":Str) == ("sign":Str)) = false by decide +kernel))
@[simp] theorem jn5:eqD (.str "swing") (.str "cross") = some (.bool false):=(eqS jaT jaU).trans (congrArg (fun z=>some (PyData.bool z)) (show (("swing":Str) == ("cross":Str)) = false by decide +kernel))
@[simp] theorem joZ:eqD (.str "swing") (.str "look") = some (.bool false):=(eqS jaT ja3).trans (congrArg (fun z=>some (PyData.bool z)) (show (("swing":Str) == ("look":Str)) = false by decide +kernel))
@[simp] theorem jn3:eqD (.str "swing") (.str "where") = some (.bool false):=(eqS jaT jaS).trans (congrArg (fun z=>some (PyData.bool z)) (show (("swing":Str) == ("where":Str)) = false by decide +kernel))
@[simp] theorem joV:eqD (.str "turn") (.str "swing") = some (.bool false):=(eqS ja1 jaT).trans (congrArg (fun z=>some (PyData.bool z)) (show (("turn":Str) == ("swing":Str)) = false by decide +kernel))
@[simp] theorem jpU:eqD (.str "turn") (.str "turn") = some (.bool true):=(eqS ja1 ja1).trans (congrArg (fun z=>some (PyData.bool z)) (show (("turn":Str) == ("turn":Str)) = true by decide +kernel))
@[simp] theorem jpX:eqD (.str "turn") (.str "flip") = some (.bool false):=(eqS ja1 ja4).trans (congrArg (fun z=>some (PyData.bool z)) (show (("turn":Str) == ("flip":Str)) = false by decide +kernel))
@[simp] theorem jrj:eqD (.str "turn") (.str "tie") = some (.bool false):=(eqS ja1 jbn).trans (congrArg (fun z=>some (PyData.bool z)) (show (("turn":Str) == ("tie":Str)) = false by decide +kernel))
@[simp] theorem jpV:eqD (.str "turn") (.str "sign") = some (.bool false):=(eqS ja1 ja2).trans (congrArg (fun z=>some (PyData.bool z)) (show (("turn":Str) == ("sign":Str)) = false by decide +kernel))
@[simp] theorem joW:eqD (.str "turn") (.str "cross") = some (.bool false):=(eqS ja1 jaU).trans (congrArg (fun z=>some (PyData.bool z)) (show (("turn":Str) == ("cross":Str)) = false by decide +kernel))
@[simp] theorem jpW:eqD (.str "turn") (.str "look") = some (.bool false):=(eqS ja1 ja3).trans (congrArg (fun z=>some (PyData.bool z)) (show (("turn":Str) == ("look":Str)) = false by decide +kernel))
@[simp] theorem joU:eqD (.str "turn") (.str "where") = some (.bool false):=(eqS ja1 jaS).trans (congrArg (fun z=>some (PyData.bool z)) (show (("turn":Str) == ("where":Str)) = false by decide +kernel))
@[simp] theorem jo8:eqD (.str "flip") (.str "swing") = some (.bool false):=(eqS ja4 jaT).trans (congrArg (fun z=>some (PyData.bool z)) (show (("flip":Str) == ("swing":Str)) = false by decide +kernel))
@[simp] theorem jqa:eqD (.str "flip") (.str "turn") = some (.bool false):=(eqS ja4 ja1).trans (congrArg (fun z=>some (PyData.bool z)) (show (("flip":Str) == ("turn":Str)) = false by decide +kernel))
@[simp] theorem jqd:eqD (.str "flip") (.str "flip") = some (.bool true):=(eqS ja4 ja4).trans (congrArg (fun z=>some (PyData.bool z)) (show (("flip":Str) == ("flip":Str)) = true by decide +kernel))
@[simp] theorem jrq:eqD (.str "flip") (.str "tie") = some (.bool false):=(eqS ja4 jbn).trans (congrArg (fun z=>some (PyData.bool z)) (show (("flip":Str) == ("tie":Str)) = false by decide +kernel))
@[simp] theorem jqb:eqD (.str "flip") (.str "sign") = some (.bool false):=(eqS ja4 ja2).trans (congrArg (fun z=>some (PyData.bool z)) (show (("flip":Str) == ("sign":Str)) = false by decide +kernel))
@[simp] theorem jo9:eqD (.str "flip") (.str "cross") = some (.bool false):=(eqS ja4 jaU).trans (congrArg (fun z=>some (PyData.bool z)) (show (("flip":Str) == ("cross":Str)) = false by decide +kernel))
@[simp] theorem jqc:eqD (.str "flip") (.str "look") = some (.bool false):=(eqS ja4 ja3).trans (congrArg (fun z=>some (PyData.bool z)) (show (("flip":Str) == ("look":Str)) = false by decide +kernel))
@[simp] theorem jo7:eqD (.str "flip") (.str "where") = some (.bool false):=(eqS ja4 jaS).trans (congrArg (fun z=>some (PyData.bool z)) (show (("flip":Str) == ("where":Str)) = false by decide +kernel))
@[simp] theorem jpZ:eqD (.str "tie") (.str "swing") = some (.bool false):=(eqS jbn jaT).trans (congrArg (fun z=>some (PyData.bool z)) (show (("tie":Str) == ("swing":Str)) = false by decide +kernel))
@[simp] theorem jrk:eqD (.str "tie") (.str "turn") = some (.bool false):=(eqS jbn ja1).trans (congrArg (fun z=>some (PyData.bool z)) (show (("tie":Str) == ("turn":Str)) = false by decide +kernel))
@[simp] theorem jrn:eqD (.str "tie") (.str "flip") = some (.bool false):=(eqS jbn ja4).trans (congrArg (fun z=>some (PyData.bool z)) (show (("tie":Str) == ("flip":Str)) = false by decide +kernel))
@[simp] theorem jsf:eqD (.str "tie") (.str "tie") = some (.bool true):=(eqS jbn jbn).trans (congrArg (fun z=>some (PyData.bool z)) (show (("tie":Str) == ("tie":Str)) = true by decide +kernel))
@[simp] theorem jrl:eqD (.str "tie") (.str "sign") = some (.bool false):=(eqS jbn ja2).trans (congrArg (fun z=>some (PyData.bool z)) (show (("tie":Str) == ("sign":Str)) = false by decide +kernel))
@[simp] theorem jp0:eqD (.str "tie") (.str "cross") = some (.bool false):=(eqS jbn jaU).trans (congrArg (fun z=>some (PyData.bool z)) (show (("tie":Str) == ("cross":Str)) = false by decide +kernel))
@[simp] theorem jrm:eqD (.str "tie") (.str "look") = some (.bool false):=(eqS jbn ja3).trans (congrArg (fun z=>some (PyData.bool z)) (show (("tie":Str) == ("look":Str)) = false by decide +kernel))
@[simp] theorem jpY:eqD (.str "tie") (.str "where") = some (.bool false):=(eqS jbn jaS).trans (congrArg (fun z=>some (PyData.bool z)) (show (("tie":Str) == ("where":Str)) = false by decide +kernel))
@[simp] theorem jo2:eqD (.str "sign") (.str "swing") = some (.bool false):=(eqS ja2 jaT).trans (congrArg (fun z=>some (PyData.bool z)) (show (("sign":Str) == ("swing":Str)) = false by decide +kernel))
@[simp] theorem jp2:eqD (.str "sign") (.str "turn") = some (.bool false):=(eqS ja2 ja1).trans (congrArg (fun z=>some (PyData.bool z)) (show (("sign":Str) == ("turn":Str)) = false by decide +kernel))
@[simp] theorem jp5:eqD (.str "sign") (.str "flip") = some (.bool false):=(eqS ja2 ja4).trans (congrArg (fun z=>some (PyData.bool z)) (show (("sign":Str) == ("flip":Str)) = false by decide +kernel))
@[simp] theorem jro:eqD (.str "sign") (.str "tie") = some (.bool false):=(eqS ja2 jbn).trans (congrArg (fun z=>some (PyData.bool z)) (show (("sign":Str) == ("tie":Str)) = false by decide +kernel))
@[simp] theorem jp3:eqD (.str "sign") (.str "sign") = some (.bool true):=(eqS ja2 ja2).trans (congrArg (fun z=>some (PyData.bool z)) (show (("sign":Str) == ("sign":Str)) = true by decide +kernel))
@[simp] theorem jo3:eqD (.str "sign") (.str "cross") = some (.bool false):=(eqS ja2 jaU).trans (congrArg (fun z=>some (PyData.bool z)) (show (("sign":Str) == ("cross":Str)) = false by decide +kernel))
@[simp] theorem jp4:eqD (.str "sign") (.str "look") = some (.bool false):=(eqS ja2 ja3).trans (congrArg (fun z=>some (PyData.bool z)) (show (("sign":Str) == ("look":Str)) = false by decide +kernel))
@[simp] theorem jo1:eqD (.str "sign") (.str "where") = some (.bool false):=(eqS ja2 jaS).trans (congrArg (fun z=>some (PyData.bool z)) (show (("sign":Str) == ("where":Str)) = false by decide +kernel))
@[simp] theorem jn7:eqD (.str "cross") (.str "swing") = some (.bool false):=(eqS jaU jaT).trans (congrArg (fun z=>some (PyData.bool z)) (show (("cross":Str) == ("swing":Str)) = false by decide +kernel))
@[simp] theorem jpa:eqD (.str "cross") (.str "turn") = some (.bool false):=(eqS jaU ja1).trans (congrArg (fun z=>some (PyData.bool z)) (show (("cross":Str) == ("turn":Str)) = false by decide +kernel))
@[simp] theorem jpd:eqD (.str "cross") (.str "flip") = some (.bool false):=(eqS jaU ja4).trans (congrArg (fun z=>some (PyData.bool z)) (show (("cross":Str) == ("flip":Str)) = false by decide +kernel))
@[simp] theorem jqe:eqD (.str "cross") (.str "tie") = some (.bool false):=(eqS jaU jbn).trans (congrArg (fun z=>some (PyData.bool z)) (show (("cross":Str) == ("tie":Str)) = false by decide +kernel))
@[simp] theorem jpb:eqD (.str "cross") (.str "sign") = some (.bool false):=(eqS jaU ja2).trans (congrArg (fun z=>some (PyData.bool z)) (show (("cross":Str) == ("sign":Str)) = false by decide +kernel))
@[simp] theorem jn8:eqD (.str "cross") (.str "cross") = some (.bool true):=(eqS jaU jaU).trans (congrArg (fun z=>some (PyData.bool z)) (show (("cross":Str) == ("cross":Str)) = true by decide +kernel))
@[simp] theorem jpc:eqD (.str "cross") (.str "look") = some (.bool false):=(eqS jaU ja3).trans (congrArg (fun z=>some (PyData.bool z)) (show (("cross":Str) == ("look":Str)) = false by decide +kernel))
@[simp] theorem jn6:eqD (.str "cross") (.str "where") = some (.bool false):=(eqS jaU jaS).trans (congrArg (fun z=>some (PyData.bool z)) (show (("cross":Str) == ("where":Str)) = false by decide +kernel))
@[simp] theorem jo5:eqD (.str "look") (.str "swing") = some (.bool false):=(eqS ja3 jaT).trans (congrArg (fun z=>some (PyData.bool z)) (show (("look":Str) == ("swing":Str)) = false by decide +kernel))
@[simp] theorem jp6:eqD (.str "look") (.str "turn") = some (.bool false):=(eqS ja3 ja1).trans (congrArg (fun z=>some (PyData.bool z)) (show (("look":Str) == ("turn":Str)) = false by decide +kernel))
@[simp] theorem jp9:eqD (.str "look") (.str "flip") = some (.bool false):=(eqS ja3 ja4).trans (congrArg (fun z=>some (PyData.bool z)) (show (("look":Str) == ("flip":Str)) = false by decide +kernel))
@[simp] theorem jrp:eqD (.str "look") (.str "tie") = some (.bool false):=(eqS ja3 jbn).trans (congrArg (fun z=>some (PyData.bool z)) (show (("look":Str) == ("tie":Str)) = false by decide +kernel))
@[simp] theorem jp7:eqD (.str "look") (.str "sign") = some (.bool false):=(eqS ja3 ja2).trans (congrArg (fun z=>some (PyData.bool z)) (show (("look":Str) == ("sign":Str)) = false by decide +kernel))
@[simp] theorem jo6:eqD (.str "look") (.str "cross") = some (.bool false):=(eqS ja3 jaU).trans (congrArg (fun z=>some (PyData.bool z)) (show (("look":Str) == ("cross":Str)) = false by decide +kernel))
@[simp] theorem jp8:eqD (.str "look") (.str "look") = some (.bool true):=(eqS ja3 ja3).trans (congrArg (fun z=>some (PyData.bool z)) (show (("look":Str) == ("look":Str)) = true by decide +kernel))
@[simp] theorem jo4:eqD (.str "look") (.str "where") = some (.bool false):=(eqS ja3 jaS).trans (congrArg (fun z=>some (PyData.bool z)) (show (("look":Str) == ("where":Str)) = false by decide +kernel))
@[simp] theorem jn1:eqD (.str "where") (.str "swing") = some (.bool false):=(eqS jaS jaT).trans (congrArg (fun z=>some (PyData.bool z)) (show (("where":Str) == ("swing":Str)) = false by decide +kernel))
@[simp] theorem joQ:eqD (.str "where") (.str "turn") = some (.bool false):=(eqS jaS ja1).trans (congrArg (fun z=>some (PyData.bool z)) (show (("where":Str) == ("turn":Str)) = false by decide +kernel))
@[simp] theorem joT:eqD (.str "where") (.str "flip") = some (.bool false):=(eqS jaS ja4).trans (congrArg (fun z=>some (PyData.bool z)) (show (("where":Str) == ("flip":Str)) = false by decide +kernel))
@[simp] theorem jpT:eqD (.str "where") (.str "tie") = some (.bool false):=(eqS jaS jbn).trans (congrArg (fun z=>some (PyData.bool z)) (show (("where":Str) == ("tie":Str)) = false by decide +kernel))
@[simp] theorem joR:eqD (.str "where") (.str "sign") = some (.bool false):=(eqS jaS ja2).trans (congrArg (fun z=>some (PyData.bool z)) (show (("where":Str) == ("sign":Str)) = false by decide +kernel))
@[simp] theorem jn2:eqD (.str "where") (.str "cross") = some (.bool false):=(eqS jaS jaU).trans (congrArg (fun z=>some (PyData.bool z)) (show (("where":Str) == ("cross":Str)) = false by decide +kernel))
@[simp] theorem joS:eqD (.str "where") (.str "look") = some (.bool false):=(eqS jaS ja3).trans (congrArg (fun z=>some (PyData.bool z)) (show (("where":Str) == ("look":Str)) = false by decide +kernel))
@[simp] theorem jn0:eqD (.str "where") (.str "where") = some (.bool true):=(eqS jaS jaS).trans (congrArg (fun z=>some (PyData.bool z)) (show (("where":Str) == ("where":Str)) = true by decide +kernel))
@[simp] theorem jvE (u w:Sf) (δ:Dv) (a b:Int):ifK u w δ (a == b) = if a = b then u δ else w δ:=by
  by_cases h:a = b
  · subst h; simp
  · have:(a == b) = false:=by simpa using h
    rw [this,if_neg h]; rfl
theorem jkY {α:Type} {f:D → Option D} {h k:α → D}:∀ (xs:List α),(∀ x ∈ xs,f (h x) = some (k x)) → jsc f (xs.map h) = some (xs.map k)
  | [],_=>rfl
  | x :: xs,H=>by
    show ((f (h x)).bind fun y=>_) = _
    rw [H x List.mem_cons_self]
    show ((jsc f (xs.map h)).bind fun ys=>_) = _
    rw [jkY xs fun y hy=>H y (List.mem_cons_of_mem _ hy)]
    rfl
theorem jk9 {α:Type} {t:D → Option Bool} {f:D → Option D} {h k:α → D} {b:α → Bool}:∀ (xs:List α),(∀ x ∈ xs,t (h x) = some (b x)) → (∀ x ∈ xs,b x = true → f (h x) = some (k x)) → jil t f (xs.map h) = some ((xs.filter b).map k)
  | [],_,_=>rfl
  | x :: xs,H,G=>by
    have ih:=jk9 (k:=k) xs (fun y hy=>H y (List.mem_cons_of_mem _ hy)) (fun y hy=>G y (List.mem_cons_of_mem _ hy))
    show ((t (h x)).bind fun c=>_) = _
    rw [H x List.mem_cons_self,Option.bind_some]
    cases e:b x with
    | false=>simp [e,ih]
    | true=>simp [e,ih,G x List.mem_cons_self e]
theorem jcO {α:Type} {fi:Dv → Option (List D)} {caps:List (Nat × Str)} {fe:Dv → Option D} {δ:Dv} {h k:α → D} {xs:List α} (e:fi δ = some (xs.map h)) (hl:xs.length ≤ 16777216) (H:∀ x ∈ xs,fe (.fz (h x) :: capS δ caps) = some (k x)):jdH fi caps bv1 fe δ = some (.list (xs.map k)):=by
  unfold jdH
  rw [e,Option.bind_some,if_pos (by rw [List.length_map]; exact hl),jkY xs (k:=k) fun x hx=>by
    show fe _ = _
    exact H x hx]
  rfl
theorem jgN {α:Type} {fi:Dv → Option (List D)} {caps:List (Nat × Str)} {ft:Dv → Option Bool} {fe:Dv → Option D} {δ:Dv} {h k:α → D} {b:α → Bool} {xs:List α} (e:fi δ = some (xs.map h)) (hl:xs.length ≤ 16777216) (H:∀ x ∈ xs,ft (.fz (h x) :: capS δ caps) = some (b x)) (G:∀ x ∈ xs,b x = true → fe (.fz (h x) :: capS δ caps) = some (k x)):jfb fi caps bv1 ft fe δ = some (.list ((xs.filter b).map k)):=by
  unfold jfb
  rw [e,Option.bind_some,if_pos (by rw [List.length_map]; exact hl),jk9 xs (b:=b) (k:=k) (fun x hx=>by
    show ft _ = _
    exact H x hx) (fun x hx hb=>by
    show fe _ = _
    exact G x hx hb)]
  rfl
@[simp] theorem jvD (u w:Sf) (δ:Dv) (a b:Int):ifK u w δ (!(a == b)) = if a = b then w δ else u δ:=by
  by_cases h:a = b
  · subst h; simp
  · have:(a == b) = false:=by simpa using h
    rw [this,if_neg h]; rfl
@[simp] theorem jwg (a b c d e f:D):jhy [a,b,c,d,e,f] = some (.list [a,b,c,d,e,f]):=jfy (by simp)
open MA (Nu Row wt bit flp jeP jaG)
def jcc (u:Nu):D:=tup5 u.1 u.2
def stD (n:Nat) (f:Nat → Nu):D:=.tuple ((List.range (2 ^ n)).map fun p=>jcc (f p))
def rowD:Row → D
  | .swing j=>.tuple [.str "swing",.int j]
  | .turn j e=>.tuple [.str "turn",.int j,.int e]
  | .flip j=>.tuple [.str "flip",.int j]
  | .tie i j=>.tuple [.str "tie",.int i,.int j]
  | .sign i j=>.tuple [.str "sign",.int i,.int j]
  | .cross i j=>.tuple [.str "cross",.int i,.int j]
theorem jjT {n:Nat} {f:Nat → Nu} {i:Int} (p:Nat) (hi:i = p) (hp:p < 2 ^ n):ixD (stD n f) (.int i) = some (jcc (f p)):=by
  show atI _ _ = _
  exact jde (j:=p) hi (by simp [hp])
theorem jhz (n:Nat) (f:Nat → Nu):jdT [stD n f] = some (.int ((2 ^ n:Nat):Int)):=by
  show some (PyData.int (((List.range (2 ^ n)).map fun p=>jcc (f p)).length:Nat)) = _
  rw [List.length_map,List.length_range]
theorem jfc {b:Sf} {k:Nat} (I:Nat → Dv → Prop) (n:Nat) (h:∀ i,i < n → ∀ δ,I i δ → ∃ δ2,b (δ.set k (.fz (.int i))) = some (.nx,δ2) ∧ I (i + 1) δ2):∀ δ,I 0 δ → ∃ δ',loop (gN k) b (jlX 0 n) δ = some (.nx,δ') ∧ I n δ':=by
  have go:∀ (m i:Nat),i + m = n → ∀ δ,I i δ → ∃ δ',loop (gN k) b ((List.range' i m).map fun (k:Nat)=>PyData.int (0 + (k:Int))) δ = some (.nx,δ') ∧ I n δ':=by
    intro m
    induction m with
    | zero=>intro i e δ h; exact ⟨δ,rfl,by rw [← e]; exact h⟩
    | succ m ih=>
      intro i e δ hi
      obtain ⟨δ2,e2,h2⟩:=h i (by omega) δ hi
      obtain ⟨δ',e3,h3⟩:=ih (i + 1) (by omega) δ2 h2
      refine ⟨δ',?_,h3⟩
      rw [← e3,List.range'_succ,List.map_cons]
      exact jbo (δ1:=δ.set k (.fz (.int i))) (by simp) e2
  intro δ h0
  have:=go n 0 (by omega) δ h0
  rw [← List.range_eq_range'] at this
  exact this
theorem jub (x:MA.Q4) (k:Nat):∃ c:Nat,(MA.num x k).2 = c ∧ c ≤ k:=by
  obtain ⟨c,e,h,_⟩:=MA.jtk x k
  exact ⟨c,e,h⟩
theorem joy (u v:Nu):(MA.jb6 u v).2 ≤ max u.2 v.2:=by
  obtain ⟨c,e2,h⟩:=jub (MA.Q4.add (MA.Q4.rtn (max (u.2:Int) v.2 - u.2).toNat u.1) (MA.Q4.rtn (max (u.2:Int) v.2 - v.2).toNat v.1)) (max u.2 v.2)
  have e3:((max u.2 v.2:Nat):Int) = max (u.2:Int) v.2:=by omega
  rw [e3] at e2
  show (MA.je6 u.1 u.2 v.1 v.2).2.toNat ≤ _
  unfold MA.je6
  rw [e2]; exact h
theorem jfu (n:Nat) (hn:n ≤ 6):jbm [.int ((2 ^ n:Nat):Int)] = some ((List.range (2 ^ n)).map fun k:Nat=>PyData.int (0 + (k:Int))):=by
  have sq:(2 ^ n:Nat) ≤ 64:=(Nat.pow_le_pow_right (by decide) hn:2 ^ n ≤ 2 ^ 6)
  generalize (2 ^ n:Nat) = N at sq ⊢
  exact je5 (j:=(N:Int)) (by omega) (by omega)
theorem jrM {fi:Dv → Option (List D)} {caps:List (Nat × Str)} {fe:Dv → Option D} {δ:Dv} {N:Nat} {y:Nat → D} (e:fi δ = some ((List.range N).map fun k:Nat=>PyData.int (0 + (k:Int)))) (hl:N ≤ 16777216) (H:∀ p:Nat,p < N → fe (.fz (.int p) :: capS δ caps) = some (y p)):jdH fi caps bv1 fe δ = some (.list ((List.range N).map y)):=by
  refine jcO e (by rw [List.length_range]; exact hl) fun p hp=>?_
  rw [Int.zero_add]
  exact H p (List.mem_range.mp hp)
def Bd (k p:Nat) (f:Nat → Nu):Prop:=∀ x,(f x).2 ≤ k ∧ MA.Q4.Le (2 ^ p) (f x).1
theorem jry (u:Nu):(MA.jcH u).2 ≤ u.2 + 1:=by
  obtain ⟨c,e,h⟩:=jub u.1 (u.2 + 1)
  show (MA.num u.1 ((u.2 + 1:Nat):Int)).2.toNat ≤ _
  rw [e]; exact h
theorem jrz {u:Nu} {M:Nat} (h:MA.Q4.Le M u.1):MA.Q4.Le M (MA.jcH u).1:=MA.jpP _ _ (by omega) _ h
theorem Bd.done {k p:Nat} {f:Nat → Nu} (h:Bd k p f) (n:Nat) (r:Row):Bd (k + 1) (p + k + 1) (jaG n f r):=fun x=>by
  have mono:∀ y,(f y).2 ≤ k + 1 ∧ MA.Q4.Le (2 ^ (p + k + 1)) (f y).1:=fun y=>⟨by have:=(h y).1; omega,(h y).2.mono (Nat.pow_le_pow_right (by decide) (by omega))⟩
  have pl:∀ (u v:Nu),u.2 ≤ k → v.2 ≤ k → MA.Q4.Le (2 ^ p) u.1 → MA.Q4.Le (2 ^ p) v.1 → (MA.jcH (MA.jb6 u v)).2 ≤ k + 1 ∧ MA.Q4.Le (2 ^ (p + k + 1)) (MA.jcH (MA.jb6 u v)).1:=fun u v h1 h2 h3 h4=>by
    refine ⟨?_,jrz ?_⟩
    · have:=jry (MA.jb6 u v)
      have:=joy u v
      omega
    · exact MA.jox h3 h4 h1 h2
  cases r with
  | swing j=>
    show (if bit (wt n j) x = 0 then _ else _:Nu).2 ≤ _ ∧ MA.Q4.Le _ (if bit (wt n j) x = 0 then _ else _:Nu).1
    split
    · exact pl _ _ (h _).1 (h _).1 (h _).2 (h _).2
    · exact pl _ _ (h _).1 (h _).1 (h _).2 (MA.jiR _ (h _).2)
  | turn j e=>exact ⟨(mono x).1,MA.jiR _ (mono x).2⟩
  | sign i j=>exact ⟨(mono x).1,MA.jiR _ (mono x).2⟩
  | flip j=>exact mono _
  | tie i j=>exact mono _
  | cross i j=>exact mono _
theorem Bd.mono {k p k' p':Nat} {f:Nat → Nu} (h:Bd k p f) (h1:k ≤ k') (h2:p ≤ p'):Bd k' p' f:=fun x=>⟨Nat.le_trans (h x).1 h1,(h x).2.mono (Nat.pow_le_pow_right (by decide) h2)⟩
theorem jwN:((List.range 6).all fun k=>(List.range 64).all fun p=>(p &&& 2 ^ k == 2 ^ k * bit (2 ^ k) p) && (p ^^^ 2 ^ k == flp (2 ^ k) p)) = true:=by decide +kernel
theorem jwM:((List.range 6).all fun k=>(List.range 6).all fun l=>(List.range 64).all fun p=>(k == l) || ((2 ^ k ||| 2 ^ l == 2 ^ k + 2 ^ l) && (p &&& (2 ^ k + 2 ^ l) == 2 ^ k * bit (2 ^ k) p + 2 ^ l * bit (2 ^ l) p) && (p ^^^ (2 ^ k + 2 ^ l) == flp (2 ^ l) (flp (2 ^ k) p)))) = true:=by decide +kernel
section
variable {n:Nat} (hn:n ≤ 6)
include hn
theorem jh4:2 ^ n ≤ 64:=(Nat.pow_le_pow_right (by decide) hn:2 ^ n ≤ 2 ^ 6)
theorem jjF {j p:Nat} (hj:j < n) (hp:p < 2 ^ n):p &&& wt n j = wt n j * bit (wt n j) p ∧ p ^^^ wt n j = flp (wt n j) p:=by
  have h:=jwN
  rw [List.all_eq_true] at h
  have h:=h (n - 1 - j) (List.mem_range.mpr (by omega))
  rw [List.all_eq_true] at h
  have h:=h p (List.mem_range.mpr (Nat.lt_of_lt_of_le hp (jh4 hn)))
  rw [Bool.and_eq_true,beq_iff_eq,beq_iff_eq] at h
  exact h
theorem jfL {i j p:Nat} (hi:i < n) (hj:j < n) (hij:i ≠ j) (hp:p < 2 ^ n):wt n i ||| wt n j = wt n i + wt n j ∧ p &&& (wt n i + wt n j) = wt n i * bit (wt n i) p + wt n j * bit (wt n j) p ∧ p ^^^ (wt n i + wt n j) = flp (wt n j) (flp (wt n i) p):=by
  have h:=jwM
  rw [List.all_eq_true] at h
  have h:=h (n - 1 - i) (List.mem_range.mpr (by omega))
  rw [List.all_eq_true] at h
  have h:=h (n - 1 - j) (List.mem_range.mpr (by omega))
  rw [List.all_eq_true] at h
  have h:=h p (List.mem_range.mpr (Nat.lt_of_lt_of_le hp (jh4 hn)))
  rw [Bool.or_eq_true,Bool.and_eq_true,Bool.and_eq_true,beq_iff_eq,beq_iff_eq,beq_iff_eq,beq_iff_eq] at h
  rcases h with h | h
  · exact absurd h (by omega)
  · exact ⟨h.1.1,h.1.2,h.2⟩
theorem jaX {j:Nat} (hj:j < n):jbp [.int n,.int j] = some (.int (wt n j:Nat)):=by
  have hb:Builtin.Int.intBits 1 = 1:=by decide +kernel
  have e:=jhU (i:=1) (j:=(n:Int) - 1 - (j:Int)) (by omega) (by omega)
  have e2:(1:Int) * 2 ^ ((n:Int) - 1 - (j:Int)).toNat = ((wt n j:Nat):Int):=by
    unfold MA.wt
    rw [show ((n:Int) - 1 - (j:Int)).toNat = n - 1 - j by omega]
    push_cast
    omega
  rw [e2] at e
  simp [jbp,runB,jkv,jal,e]
theorem job (f:Nat → Nu):jko (.int ((2 ^ n:Nat):Int)) = some (.int ((n:Int) + 1)):=by
  have e:((2 ^ n:Nat):Int) = 2 ^ n:=by push_cast; rfl
  have:=MA.jlc n
  rw [jnF,e,this]
  rfl
theorem jpN (u v:Nu) (hu:MA.Q4.Le (2 ^ 100000) u.1) (hv:MA.Q4.Le (2 ^ 100000) v.1) (hc:u.2 ≤ 50000) (hd:v.2 ≤ 50000):jeA [jcc u,jcc v] = some (jcc (MA.jb6 u v)):=by
  have e:=jqX u.1 u.2 v.1 v.2 hu hv (by omega) (by omega) (by omega) (by omega)
  unfold jcc MA.jb6
  rw [e]
  obtain ⟨c,e2,h⟩:=jub (MA.Q4.add (MA.Q4.rtn (max (u.2:Int) v.2 - u.2).toNat u.1) (MA.Q4.rtn (max (u.2:Int) v.2 - v.2).toNat v.1)) (max u.2 v.2)
  have e3:((max u.2 v.2:Nat):Int) = max (u.2:Int) v.2:=by omega
  rw [e3] at e2
  show some (tup5 _ (MA.je6 u.1 u.2 v.1 v.2).2) = some (tup5 _ ((MA.je6 u.1 u.2 v.1 v.2).2.toNat:Int))
  unfold MA.je6
  rw [e2]; rfl
theorem jk7 (u:Nu):jcp [jcc u] = some (jcc (MA.jcH u)):=by
  have e:=jnd u.1 u.2 (by omega)
  obtain ⟨c,e2,h⟩:=jub u.1 (u.2 + 1)
  have e3:((u.2 + 1:Nat):Int) = (u.2:Int) + 1:=by omega
  unfold jcc MA.jcH
  rw [e,e3]
  rw [e3] at e2
  rw [e2]; rfl
theorem jnS (u:Nu):jcC [jcc u] = some (jcc (MA.jaB 4 u)):=by
  have e:=jlT u.1 u.2
  unfold jcc MA.jaB
  rw [e]
  have:MA.tnn (4 % 8) u.1 = MA.Q4.neg u.1:=by
    show MA.Q4.tn (MA.Q4.tn (MA.Q4.tn (MA.Q4.tn u.1))) = _
    unfold MA.Q4.tn MA.Q4.neg
    rfl
  rw [this]
theorem jkI (u:Nu) (e:Nat):jbF [jcc u,.int e] = some (jcc (MA.jaB e u)):=by
  have h:=jiN u.1 u.2 e
  unfold jcc MA.jaB
  rw [h,show ((e:Int) % 8).toNat = e % 8 by omega]
end
section
variable {n:Nat} (hn:n ≤ 6) (f:Nat → Nu) (hf:∀ p,(f p).2 ≤ 40000) (hL:∀ p,MA.Q4.Le (2 ^ 100000) (f p).1)
include hn
theorem joj (X x y a b:D) (p w q:Int) (ds:List D) (hs:ds.length < sizeLine) (h1:Builtin.bitAnd p w = 0) (h2:Builtin.bitXor p w = q) (a0:ixD X (.int p) = some x) (a1:ixD X (.int q) = some y) (e1:jeA [x,y] = some a) (e2:jcp [a] = some b) :
    jdb [.fz X,.fz (.int w),.ow ds,.fz (.int p)] = some (.nx,[.fz X,.fz (.int w),.ow (ds ++ [b]),.fz (.int p)]):=by
  simp [-sSeq,-sIf,jav,jaV,jdb,h1,h2,a0,a1,e1,e2,hs]
theorem joi (X x y z a b:D) (p w q m:Int) (ds:List D) (hs:ds.length < sizeLine) (h1:Builtin.bitAnd p w = m) (hm:m ≠ 0) (h2:Builtin.bitXor p w = q) (a0:ixD X (.int p) = some x) (a1:ixD X (.int q) = some y) (e0:jcC [x] = some z) (e1:jeA [y,z] = some a) (e2:jcp [a] = some b) :
    jdb [.fz X,.fz (.int w),.ow ds,.fz (.int p)] = some (.nx,[.fz X,.fz (.int w),.ow (ds ++ [b]),.fz (.int p)]):=by
  have hm':(m == 0) = false:=by simpa using hm
  simp [-sSeq,-sIf,jav,jaV,jdb,h1,hm',h2,a0,a1,e0,e1,e2,hs]
include hf hL
theorem jol {j:Nat} (hj:j < n) (p:Nat) (hp:p < 2 ^ n) (ds:List D) (hl:ds.length < 1000) :
    jdb [.fz (stD n f),.fz (.int (wt n j:Nat)),.ow ds,.fz (.int p)] = some (.nx,[.fz (stD n f),.fz (.int (wt n j:Nat)),.ow (ds ++ [jcc (jaG n f (.swing j) p)]),.fz (.int p)]):=by
  have hs:ds.length < sizeLine:=by show _ < 16777216; omega
  have ha:=jjF hn hj hp
  have b1:=MA.jjL p (wt n j)
  have b2:=MA.jjs p (wt n j)
  rw [ha.1] at b1
  rw [ha.2] at b2
  have hw:=MA.ja7 n j
  have q:=MA.jgH hj hp
  have a0:ixD (stD n f) (.int (p:Int)) = some (jcc (f p)):=jjT p rfl hp
  have a1:ixD (stD n f) (.int ((flp (wt n j) p:Nat):Int)) = some (jcc (f (flp (wt n j) p))):=jjT _ rfl q
  by_cases h:bit (wt n j) p = 0
  · rw [h,Nat.mul_zero] at b1
    have e:jaG n f (.swing j) p = MA.jcH (MA.jb6 (f p) (f (p + wt n j))):=if_pos h
    have ef:flp (wt n j) p = p + wt n j:=if_pos h
    rw [ef] at a1 b2
    rw [e]
    exact joj hn _ _ _ _ _ _ _ _ _ hs b1 b2 a0 a1 (jpN hn _ _ (hL _) (hL _) (by have:=hf p; omega) (by have:=hf (p + wt n j); omega)) (jk7 hn _)
  · have h1:bit (wt n j) p = 1:=by have:=MA.jbq (wt n j) p; omega
    rw [h1,Nat.mul_one] at b1
    have e:jaG n f (.swing j) p = MA.jcH (MA.jb6 (f (p - wt n j)) (MA.jaB 4 (f p))):=if_neg h
    have ef:flp (wt n j) p = p - wt n j:=if_neg h
    rw [ef] at a1 b2
    rw [e]
    exact joi hn _ _ _ _ _ _ _ _ _ _ _ hs b1 (by omega) b2 a0 a1 (jnS hn _) (jpN hn _ _ (hL _) (MA.jiR _ (hL p)) (by have:=hf (p - wt n j); omega) (by show (f p).2 ≤ _; have:=hf p; omega)) (jk7 hn _)
omit hf hL hn in
theorem jqH (X Y:D) (w S:Int) (RL L:List D) (y:Sl) (ln:jdT [X] = some (.int S)) (hN:jbm [.int S] = some RL) (e:loop (gN 3) jdb RL [.fz X,.fz (.int w),.ow [],.un] = some (.nx,[.fz X,.fz (.int w),.ow L,y])) (tp:jb1 [.list L] = some Y):jd3 [X,.int w] = some Y:=by
  simp [-sSeq,-sIf,jav,jaV,jd3,runB,jkw,jal,ln,hN,e,dFz,tp]
theorem jok {j:Nat} (hj:j < n):jd3 [stD n f,.int (wt n j:Nat)] = some (stD n (jaG n f (.swing j))):=by
  have sq:=jh4 hn
  have hN:jbm [.int ((2 ^ n:Nat):Int)] = some (jlX 0 (2 ^ n)):=jfu n hn
  obtain ⟨δ',e,y3,rfl⟩:=jfc (b:=jdb) (k:=3) (fun i δ=>∃ y3,δ = [.fz (stD n f),.fz (.int (wt n j:Nat)),.ow ((List.range i).map fun p=>jcc (jaG n f (.swing j) p)),y3]) (2 ^ n) (by
      rintro i hi δ ⟨y3,rfl⟩
      have e:=jol hn f hf hL hj i hi ((List.range i).map fun p=>jcc (jaG n f (.swing j) p)) (by simp; omega)
      refine ⟨[.fz (stD n f),.fz (.int (wt n j:Nat)),.ow ((List.range (i + 1)).map fun p=>jcc (jaG n f (.swing j) p)),.fz (.int i)],?_,_,rfl⟩
      rw [List.range_succ,List.map_append]
      exact e) [.fz (stD n f),.fz (.int (wt n j:Nat)),.ow [],.un] ⟨_,rfl⟩
  have ln:=jhz n f
  have tp:jb1 [.list ((List.range (2 ^ n)).map fun p=>jcc (jaG n f (.swing j) p))] = some (stD n (jaG n f (.swing j))):=rfl
  exact jqH _ _ _ _ _ _ _ ln hN e tp
omit hf hL
omit hn in
theorem jnq {fi:Dv → Option (List D)} {caps:List (Nat × Str)} {fe:Dv → Option D} {δ:Dv} {N:Nat} {y:Nat → D} (e:fi δ = some ((List.range N).map fun k:Nat=>PyData.int (0 + (k:Int)))) (hl:N ≤ 16777216) (H:∀ p:Nat,p < N → fe (.fz (.int p) :: capS δ caps) = some (y p)):jdH fi caps bv1 fe δ = some (.list ((List.range N).map y)):=by
  refine jcO e (by rw [List.length_range]; exact hl) fun p hp=>?_
  rw [Int.zero_add]
  exact H p (List.mem_range.mp hp)
omit hn in
theorem jwy (X:D) (h e S:Int) (N:Nat) (x y:Nat → D) (ln:jdT [X] = some (.int S)) (hN:jbm [.int S] = some ((List.range N).map fun k:Nat=>PyData.int (0 + (k:Int)))) (hl:N ≤ 16777216) (a:∀ p:Nat,p < N → ixD X (.int p) = some (x p))
    (t:∀ p:Nat,p < N → Builtin.bitAnd p h = h → jbF [x p,.int e] = some (y p)) (u:∀ p:Nat,p < N → Builtin.bitAnd p h ≠ h → y p = x p):jaN [X,.int h,.int e] = some (.tuple ((List.range N).map y)):=by
  have c:jd1 [.fz X,.fz (.int h),.fz (.int e)] = some (.list ((List.range N).map y)):=jnq (by simp [ln,hN]) hl fun p hp=>by
    have a0:=a p hp
    by_cases q:Builtin.bitAnd p h = h
    · have t:=t p hp q
      simp [capS,a0,q,t]
    · have t:=u p hp q
      rw [t]
      simp [capS,a0,q]
  simp [jaN,runB,jdm,jal,c]
omit hn in
theorem jxF (X:D) (h w S:Int) (N:Nat) (x y:Nat → D) (ln:jdT [X] = some (.int S)) (hN:jbm [.int S] = some ((List.range N).map fun k:Nat=>PyData.int (0 + (k:Int)))) (hl:N ≤ 16777216) (a:∀ p:Nat,p < N → ixD X (.int p) = some (x p))
    (t:∀ p:Nat,p < N → Builtin.bitAnd p h = h → ∃ q:Nat,q < N ∧ Builtin.bitXor p w = q ∧ y p = x q) (u:∀ p:Nat,p < N → Builtin.bitAnd p h ≠ h → y p = x p):jaE [X,.int h,.int w] = some (.tuple ((List.range N).map y)):=by
  have c:jdP [.fz X,.fz (.int h),.fz (.int w)] = some (.list ((List.range N).map y)):=jnq (by simp [ln,hN]) hl fun p hp=>by
    have a0:=a p hp
    by_cases q:Builtin.bitAnd p h = h
    · obtain ⟨q',hq,e1,e2⟩:=t p hp q
      have a1:=a q' hq
      rw [e2]
      simp [capS,e1,q,a1]
    · have t:=u p hp q
      rw [t]
      simp [capS,a0,q]
  simp [jaE,runB,jc1,jal,c]
theorem jsu (h e:Int) (g:Nat → Nu) (H:∀ p:Nat,p < 2 ^ n → (Builtin.bitAnd p h = h → jbF [jcc (f p),.int e] = some (jcc (g p))) ∧ (Builtin.bitAnd p h ≠ h → g p = f p)):jaN [stD n f,.int h,.int e] = some (stD n g):=
  jwy (stD n f) h e _ (2 ^ n) (fun p=>jcc (f p)) (fun p=>jcc (g p)) (jhz n f) (jfu n hn) (Nat.le_trans (jh4 hn) (by decide)) (fun p hp=>jjT p rfl hp) (fun p hp q=>(H p hp).1 q) (fun p hp q=>congrArg jcc ((H p hp).2 q))
theorem jtG (h w:Int) (g:Nat → Nu) (H:∀ p:Nat,p < 2 ^ n → (Builtin.bitAnd p h = h → ∃ q:Nat,q < 2 ^ n ∧ Builtin.bitXor p w = q ∧ g p = f q) ∧ (Builtin.bitAnd p h ≠ h → g p = f p)):jaE [stD n f,.int h,.int w] = some (stD n g):=
  jxF (stD n f) h w _ (2 ^ n) (fun p=>jcc (f p)) (fun p=>jcc (g p)) (jhz n f) (jfu n hn) (Nat.le_trans (jh4 hn) (by decide)) (fun p hp=>jjT p rfl hp) (fun p hp q=>let ⟨q',h1,h2,h3⟩:=(H p hp).1 q; ⟨q',h1,h2,congrArg jcc h3⟩) (fun p hp q=>congrArg jcc ((H p hp).2 q))
omit hn in
theorem jqj (p W m q r:Int) (c:Bool) {b:Bool} (h1:Builtin.bitAnd p W = m) (h2:Builtin.bitXor p W = q) (h3:inD false (.int m) (.tuple [.int 0,.int W]) = some (.bool b)) (hb:b = c) (hr:(if c = true then p else q) = r):jaR [.int p,.int W] = some (.int r):=by
  subst hb
  cases b
  · simp at hr; subst hr; simp [jaR,runB,jdL,jal,h1,h2,h3]
  · simp at hr; subst hr; simp [jaR,runB,jdL,jal,h1,h2,h3]
theorem jkf {i j:Nat} (hi:i < n) (hj:j < n) (hij:i ≠ j) {p:Nat} (hp:p < 2 ^ n):jaR [.int p,.int ((wt n i + wt n j:Nat):Int)] = some (.int (jeP n (.cross i j) p:Nat)):=by
  have ha:=jfL hn hi hj hij hp
  have b1:=MA.jjL p (wt n i + wt n j)
  have b2:=MA.jjs p (wt n i + wt n j)
  rw [ha.2.1] at b1
  rw [ha.2.2] at b2
  have hwi:=MA.ja7 n i
  have hwj:=MA.ja7 n j
  have l1:=MA.jbq (wt n i) p
  have l2:=MA.jbq (wt n j) p
  have inT:∀ a b:Int,inD false (.int a) (.tuple [.int 0,.int b]) = some (.bool (0 == a || b == a)):=fun a b=>by
    show some (PyData.bool (PyData.eqv (.int 0) (.int a) || (PyData.eqv (.int b) (.int a) || false))) = _
    rw [Bool.or_false]
    rfl
  have ef:jeP n (.cross i j) p = if bit (wt n i) p = bit (wt n j) p then p else flp (wt n j) (flp (wt n i) p):=rfl
  rw [ef]
  by_cases h:bit (wt n i) p = bit (wt n j) p
  · rw [if_pos h]
    have hb:bit (wt n i) p = 0 ∨ bit (wt n i) p = 1:=by omega
    refine jqj _ _ _ _ _ true b1 b2 (inT _ _) ?_ rfl
    rcases hb with hb | hb
    · rw [← h,hb]; simp
    · rw [← h,hb]; simp
  · rw [if_neg h]
    refine jqj _ _ _ _ _ false b1 b2 (inT _ _) ?_ rfl
    have hb:(bit (wt n i) p = 0 ∧ bit (wt n j) p = 1) ∨ (bit (wt n i) p = 1 ∧ bit (wt n j) p = 0):=by omega
    rcases hb with ⟨hb,hc⟩ | ⟨hb,hc⟩
    · rw [hb,hc,Nat.mul_zero,Nat.mul_one,Nat.zero_add,Bool.or_eq_false_iff,beq_eq_false_iff_ne,beq_eq_false_iff_ne]
      omega
    · rw [hb,hc,Nat.mul_zero,Nat.mul_one,Nat.add_zero,Bool.or_eq_false_iff,beq_eq_false_iff_ne,beq_eq_false_iff_ne]
      omega
omit hn in
theorem jxK (X:D) (S W1 W2 W:Int) (N:Nat) (x y:Nat → D) (R w0:Sl) (ho:Builtin.bitOr W1 W2 = W) (ln:jdT [X] = some (.int S)) (hN:jbm [.int S] = some ((List.range N).map fun k:Nat=>PyData.int (0 + (k:Int)))) (hl:N ≤ 16777216) (a:∀ p:Nat,p < N → ixD X (.int p) = some (x p))
    (t:∀ p:Nat,p < N → ∃ q:Nat,q < N ∧ jaR [.int p,.int W] = some (.int q) ∧ y p = x q):jjZ [.fz X,R,w0,.fz (.int W1),.fz (.int W2)] = some (.list ((List.range N).map y)):=
  jnq (by simp [ln,hN]) hl fun p hp=>by
    obtain ⟨q,hq,e1,e2⟩:=t p hp
    have a1:=a q hq
    rw [e2]
    simp [capS,ho,e1,a1]
section
omit hn
variable (X R Y:D) (S N w1 w2:Int) (i j:Int) (ln:jdT [X] = some (.int S)) (bl:jko (.int S) = some (.int (N + 1))) (r1:ixD R (.int 1) = some (.int i)) (v1:jbp [.int N,.int i] = some (.int w1))
include ln bl r1 v1
theorem jjp (r0:ixD R (.int 0) = some (.str "swing")) (h:jd3 [X,.int w1] = some Y):jb9 [X,R] = some Y:=by
  simp [-sSeq,-sIf,jav,jaV,jb9,runB,jfR,jal,ln,bl,r0,r1,v1,h]
theorem jkg (r0:ixD R (.int 0) = some (.str "turn")) (r2:ixD R (.int 2) = some (.int j)) (h:jaN [X,.int w1,.int j] = some Y):jb9 [X,R] = some Y:=by
  simp [-sSeq,-sIf,jav,jaV,jb9,runB,jfR,jal,ln,bl,r0,r1,r2,v1,h]
theorem jkj (r0:ixD R (.int 0) = some (.str "flip")) (h:jaE [X,.int 0,.int w1] = some Y):jb9 [X,R] = some Y:=by
  simp [-sSeq,-sIf,jav,jaV,jb9,runB,jfR,jal,ln,bl,r0,r1,v1,h]
variable (r2:ixD R (.int 2) = some (.int j)) (v2:jbp [.int N,.int j] = some (.int w2))
include r2 v2
theorem jlJ (r0:ixD R (.int 0) = some (.str "tie")) (h:jaE [X,.int w1,.int w2] = some Y):jb9 [X,R] = some Y:=by
  simp [-sSeq,-sIf,jav,jaV,jb9,runB,jfR,jal,ln,bl,r0,r1,r2,v1,v2,h]
theorem jkh (W:Int) (ho:Builtin.bitOr w1 w2 = W) (r0:ixD R (.int 0) = some (.str "sign")) (h:jaN [X,.int W,.int 4] = some Y):jb9 [X,R] = some Y:=by
  simp [-sSeq,-sIf,jav,jaV,jb9,runB,jfR,jal,ln,bl,r0,r1,r2,v1,v2,ho,h]
theorem jjq (L:D) (r0:ixD R (.int 0) = some (.str "cross")) (h:jjZ [.fz X,.fz R,.fz (.int N),.fz (.int w1),.fz (.int w2)] = some L) (t:jb1 [L] = some Y):jb9 [X,R] = some Y:=by
  simp [-sSeq,-sIf,jav,jaV,jb9,runB,jfR,jal,ln,bl,r0,r1,r2,v1,v2,h,t]
end
include hf hL
theorem jrI (r:Row) (hr:r.ok n):jb9 [stD n f,rowD r] = some (stD n (jaG n f r)):=by
  have ln:=jhz n f
  have bl:=job hn f
  have sq:=jh4 hn
  cases r with
  | swing j=>exact jjp _ _ _ _ _ _ _ ln bl rfl (jaX hn hr) rfl (jok hn f hf hL hr)
  | turn j e=>
    refine jkg _ _ _ _ _ _ _ _ ln bl rfl (jaX hn hr.1) rfl rfl (jsu hn f _ _ _ fun p hp=>?_)
    have ha:=(jjF hn hr.1 hp).1
    have b1:=MA.jjL p (wt n j)
    rw [ha] at b1
    have hw:=MA.ja7 n j
    have hb:bit (wt n j) p = 0 ∨ bit (wt n j) p = 1:=by have:=MA.jbq (wt n j) p; omega
    have e1:jaG n f (.turn j e) p = MA.jaB (e * bit (wt n j) p) (f p):=rfl
    rw [e1,b1]
    rcases hb with hb | hb
    · rw [hb,Nat.mul_zero,Nat.mul_zero]
      exact ⟨fun q=>absurd q (by omega),fun _=>rfl⟩
    · rw [hb,Nat.mul_one,Nat.mul_one]
      exact ⟨fun _=>jkI hn _ _,fun q=>absurd rfl q⟩
  | flip j=>
    refine jkj _ _ _ _ _ _ _ ln bl rfl (jaX hn hr) rfl (jtG hn f _ _ _ fun p hp=>?_)
    have b2:=MA.jjs p (wt n j)
    rw [(jjF hn hr hp).2] at b2
    have b0:=MA.jjL p 0
    rw [Nat.and_zero] at b0
    exact ⟨fun _=>⟨_,MA.jgH hr hp,b2,rfl⟩,fun q=>absurd b0 q⟩
  | tie i j=>
    refine jlJ _ _ _ _ _ _ _ _ _ ln bl rfl (jaX hn hr.1) rfl (jaX hn hr.2.1) rfl (jtG hn f _ _ _ fun p hp=>?_)
    have b2:=MA.jjs p (wt n j)
    rw [(jjF hn hr.2.1 hp).2] at b2
    have b1:=MA.jjL p (wt n i)
    rw [(jjF hn hr.1 hp).1] at b1
    have hw:=MA.ja7 n i
    have hb:bit (wt n i) p = 0 ∨ bit (wt n i) p = 1:=by have:=MA.jbq (wt n i) p; omega
    have e1:jaG n f (.tie i j) p = f (if bit (wt n i) p = 0 then p else flp (wt n j) p):=rfl
    rw [e1,b1]
    rcases hb with hb | hb
    · rw [hb,Nat.mul_zero]
      exact ⟨fun q=>absurd q (by omega),fun _=>rfl⟩
    · rw [hb,Nat.mul_one,if_neg (by decide)]
      exact ⟨fun _=>⟨_,MA.jgH hr.2.1 hp,b2,rfl⟩,fun q=>absurd rfl q⟩
  | sign i j=>
    have ho:=MA.bor (wt n i) (wt n j)
    rw [(jfL hn hr.1 hr.2.1 hr.2.2 (p:=0) (Nat.pow_pos (by decide))).1] at ho
    refine jkh _ _ _ _ _ _ _ _ _ ln bl rfl (jaX hn hr.1) rfl (jaX hn hr.2.1) _ ho rfl (jsu hn f _ _ _ fun p hp=>?_)
    have b1:=MA.jjL p (wt n i + wt n j)
    rw [(jfL hn hr.1 hr.2.1 hr.2.2 hp).2.1] at b1
    have hw:=MA.ja7 n i
    have hw2:=MA.ja7 n j
    have hb:bit (wt n i) p = 0 ∨ bit (wt n i) p = 1:=by have:=MA.jbq (wt n i) p; omega
    have hc:bit (wt n j) p = 0 ∨ bit (wt n j) p = 1:=by have:=MA.jbq (wt n j) p; omega
    have e1:jaG n f (.sign i j) p = MA.jaB (4 * bit (wt n i) p * bit (wt n j) p) (f p):=rfl
    rw [e1,b1]
    rcases hb with hb | hb
    · rw [hb,Nat.mul_zero,Nat.mul_zero,Nat.zero_mul]
      refine ⟨fun q=>absurd q ?_,fun _=>rfl⟩
      rcases hc with hc | hc <;> rw [hc] <;> omega
    · rcases hc with hc | hc
      · rw [hb,hc,Nat.mul_one,Nat.mul_zero,Nat.mul_zero]
        exact ⟨fun q=>absurd q (by omega),fun _=>rfl⟩
      · rw [hb,hc,Nat.mul_one,Nat.mul_one,Nat.mul_one,Nat.mul_one]
        exact ⟨fun _=>jkI hn _ 4,fun q=>absurd rfl q⟩
  | cross i j=>
    have ho:=MA.bor (wt n i) (wt n j)
    rw [(jfL hn hr.1 hr.2.1 hr.2.2 (p:=0) (Nat.pow_pos (by decide))).1] at ho
    refine jjq _ _ _ _ _ _ _ _ _ ln bl rfl (jaX hn hr.1) rfl (jaX hn hr.2.1) _ rfl (jxK (stD n f) _ _ _ _ (2 ^ n) (fun p=>jcc (f p)) (fun p=>jcc (jaG n f (.cross i j) p)) _ _ ho ln (jfu n hn) (by omega) (fun p hp=>jjT p rfl hp) fun p hp=>?_) rfl
    exact ⟨_,MA.jij (r:=.cross i j) hr hp,jkf hn hr.1 hr.2.1 hr.2.2 hp,rfl⟩
end
open MA (Wd par jba)
def wdD (w:Wd):D:=.tuple [.int w.x,.int w.z,.int w.s]
theorem jhs (A B:Sl):∀ (c n:Nat) (v:Nat),MA.cnt n = c → v < 2 → jeY jca jcW (c + 1) [A,B,.fz (.int n),.fz (.int v)] = some (.nx,[A,B,.fz (.int 0),.fz (.int ((v + c) % 2:Nat))])
  | 0,n,v,hc,hv=>by
    have:n = 0:=by
      refine Classical.byContradiction fun h=>?_
      have:=MA.jgP n n Nat.lt_two_pow_self h
      omega
    subst this
    rw [jlh _ (by simp [jca])]
    rw [show (v + 0) % 2 = v by omega]
    rfl
  | c + 1,n,v,hc,hv=>by
    have h0:n ≠ 0:=fun z=>by subst z; rw [MA.jes] at hc; omega
    have hcl:=MA.jgP n n Nat.lt_two_pow_self h0
    have ih:=jhs A B c (n &&& (n - 1)) (1 - v) (by omega) (by omega)
    have e1:Builtin.bitAnd (n:Int) ((n:Int) - 1) = ((n &&& (n - 1):Nat):Int):=by
      rw [show (n:Int) - 1 = ((n - 1:Nat):Int) by omega]
      exact MA.jjL _ _
    have e2:(1:Int) - (v:Int) = ((1 - v:Nat):Int):=by omega
    have e3:(1 - v + c) % 2 = (v + (c + 1)) % 2:=by omega
    rw [e3] at ih
    exact joa _ (by simp [jca,h0]) (by simp [jcW,e1,e2]) ih
theorem jqx (a b n P:Int) {r:Sl} (e1:Builtin.bitAnd a b = n) (e:jeY jca jcW wN [.fz (.int a),.fz (.int b),.fz (.int n),.fz (.int 0)] = some (.nx,[.fz (.int a),.fz (.int b),r,.fz (.int P)])):jaK [.int a,.int b] = some (.int P):=by
  simp [-sSeq,-sIf,jav,jaV,jaK,runB,jfG,jal,e1,e]
theorem jf6 (a b:Nat) (h:a < 2 ^ 100000):jaK [.int a,.int b] = some (.int (par (a &&& b):Nat)):=by
  have hc:MA.cnt (a &&& b) ≤ 100000:=MA.jqo _ _ (Nat.lt_of_le_of_lt Nat.and_le_left h)
  have e:=jfo (jhs (.fz (.int a)) (.fz (.int b)) (MA.cnt (a &&& b)) (a &&& b) 0 rfl (by decide)) (m:=wN) (by show _ ≤ 1000000; omega)
  have e1:=MA.jjL a b
  rw [show (0 + MA.cnt (a &&& b)) % 2 = par (a &&& b) by unfold par; omega] at e
  have e':jeY jca jcW wN [.fz (.int a),.fz (.int b),.fz (.int ((a &&& b:Nat):Int)),.fz (.int 0)] = _:=e
  exact jqx _ _ _ _ e1 e'
theorem jqD (a b c x y z v p q r:Int) (hv:jaK [.int b,.int x] = some (.int v)) (h1:Builtin.bitXor a x = p) (h2:Builtin.bitXor b y = q) (h3:(c + z + 2 * v) % 4 = r) (hm:IntMulOk 2 v):jaD [.tuple [.int a,.int b,.int c],.tuple [.int x,.int y,.int z]] = some (.tuple [.int p,.int q,.int r]):=by
  simp [-sSeq,-sIf,jav,jaV,jaD,runB,jd7,jal,hv,h1,h2,h3,hm]
theorem jeX (u v:Wd) {n:Nat} (hn:n ≤ 6) (hu:u.ok n) (hv:v.ok n):jaD [wdD u,wdD v] = some (wdD (jba u v)):=by
  have h:u.z < 2 ^ 100000:=Nat.lt_of_lt_of_le hu.2.1 (Nat.pow_le_pow_right (by decide) (by omega))
  refine jqD _ _ _ _ _ _ _ _ _ _ (jf6 u.z v.x h) (MA.jjs _ _) (MA.jjs _ _) ?_ (.of_left (by decide))
  show _ = (((u.s + v.s + 2 * par (u.z &&& v.x)) % 4:Nat):Int)
  omega
theorem jl8 (a b c x y z:Int):eqD (.tuple [.int a,.int b,.int c]) (.tuple [.int x,.int y,.int z]) = some (.bool (a == x && (b == y && c == z))):=by
  show (if _ then _ else _) = _
  rw [if_pos ⟨rfl,rfl⟩]
  simp [PyData.eqv,PyData.eqvAll]
theorem juC (a b:Nat) (ha:a < 2) (hb:b < 2):Builtin.bitXor (a:Int) (b:Int) = ((a + b) % 2:Nat):=by
  rw [MA.jjs]
  have:a = 0 ∨ a = 1:=by omega
  have:b = 0 ∨ b = 1:=by omega
  rcases ‹a = 0 ∨ a = 1› with rfl | rfl <;> rcases ‹b = 0 ∨ b = 1› with rfl | rfl <;> rfl
theorem jwp (a:Nat):Builtin.bitAnd (a:Int) 1 = ((a % 2:Nat):Int):=by
  have:=MA.jjL a 1
  rw [show ((1:Nat):Int) = 1 from rfl] at this
  rw [this,Nat.and_one_is_mod]
theorem jvh (p i o b s r:Int) (h0:jjJ (.int p) (.int i) = some (.int s)) (h1:Builtin.bitAnd s 1 = b) (h2:Builtin.bitXor o b = r):jcd [.fz (.int p),.fz (.int o),.fz (.int i)] = some (.nx,[.fz (.int p),.fz (.int r),.fz (.int i)]):=by
  simp [jcd,h0,h1,h2]
theorem jeo (p i o:Nat) (ho:o < 2):jcd [.fz (.int p),.fz (.int o),.fz (.int i)] = some (.nx,[.fz (.int p),.fz (.int ((o + p / 2 ^ i % 2) % 2:Nat)),.fz (.int i)]):=by
  have e0:jjJ (.int (p:Int)) (.int (i:Int)) = some (.int ((p / 2 ^ i:Nat):Int)):=by
    rw [jkQ (by omega),Int.toNat_natCast]
    congr 2
  exact jvh _ _ _ _ _ _ e0 (jwp (p / 2 ^ i)) (juC o (p / 2 ^ i % 2) ho (Nat.mod_lt _ (by decide)))
theorem jvg (p P:Int) (L:List D) (z:Sl) (e:jbm [.int 6] = some L) (lp:loop (gN 2) jcd L [.fz (.int p),.fz (.int 0),.un] = some (.nx,[.fz (.int p),.fz (.int P),z])):ja9 [.int p] = some (.int P):=by
  simp [ja9,runB,jfJ,jal,e,lp]
theorem jmR (p:Nat) (h:p < 64):ja9 [.int p] = some (.int (par p:Nat)):=by
  have e:jbm [.int 6] = some [.int 0,.int 1,.int 2,.int 3,.int 4,.int 5]:=rfl
  have s0:=jeo p 0 0 (by decide)
  have s1:=jeo p 1 ((0 + p / 2 ^ 0 % 2) % 2) (by omega)
  have s2:=jeo p 2 (((0 + p / 2 ^ 0 % 2) % 2 + p / 2 ^ 1 % 2) % 2) (by omega)
  have s3:=jeo p 3 ((((0 + p / 2 ^ 0 % 2) % 2 + p / 2 ^ 1 % 2) % 2 + p / 2 ^ 2 % 2) % 2) (by omega)
  have s4:=jeo p 4 (((((0 + p / 2 ^ 0 % 2) % 2 + p / 2 ^ 1 % 2) % 2 + p / 2 ^ 2 % 2) % 2 + p / 2 ^ 3 % 2) % 2) (by omega)
  have s5:=jeo p 5 ((((((0 + p / 2 ^ 0 % 2) % 2 + p / 2 ^ 1 % 2) % 2 + p / 2 ^ 2 % 2) % 2 + p / 2 ^ 3 % 2) % 2 + p / 2 ^ 4 % 2) % 2) (by omega)
  have hp:=MA.jjY h
  have ef:((((((0 + p / 2 ^ 0 % 2) % 2 + p / 2 ^ 1 % 2) % 2 + p / 2 ^ 2 % 2) % 2 + p / 2 ^ 3 % 2) % 2 + p / 2 ^ 4 % 2) % 2 + p / 2 ^ 5 % 2) % 2 = par p:=by
    rw [hp]
    simp only [show (2:Nat) ^ 0 = 1 from rfl,show (2:Nat) ^ 1 = 2 from rfl,show (2:Nat) ^ 2 = 4 from rfl,show (2:Nat) ^ 3 = 8 from rfl,show (2:Nat) ^ 4 = 16 from rfl,show (2:Nat) ^ 5 = 32 from rfl,Nat.div_one]
    omega
  rw [ef] at s5
  have lp:loop (gN 2) jcd [.int 0,.int 1,.int 2,.int 3,.int 4,.int 5] [.fz (.int p),.fz (.int 0),.un] = some (.nx,[.fz (.int p),.fz (.int (par p:Nat)),.fz (.int 5)]):=by
    rw [jbo (by rfl) s0,jbo (by rfl) s1,jbo (by rfl) s2,jbo (by rfl) s3,jbo (by rfl) s4,jbo (by rfl) s5]
    rfl
  exact jvg _ _ _ _ e lp
theorem jns (ns:List Int) (k:Int) (hk:0 ≤ k):∃ c,jaQ [.list (ns.map .int),.int k] = some (.int c):=by
  by_cases h:k < ns.length
  · have hk':k.toNat < ns.length:=by omega
    refine ⟨ns[k.toNat],?_⟩
    have e:atI (ns.map PyData.int) k = some (.int ns[k.toNat]):=jde (j:=k.toNat) (by omega) (by simp [hk'])
    simp [jaQ,runB,jcr,jal,h,e]
  · exact ⟨0,by simp [jaQ,runB,jcr,jal,h]⟩
theorem jt8 (w:Nat) (h:w ≤ 100):jg8 (.int 1) (.int (w:Int)) = some (.int ((2 ^ w:Nat):Int)):=by
  have hb:Builtin.Int.intBits 1 = 1:=by decide +kernel
  have e:=jhU (i:=1) (j:=(w:Int)) (by omega) (by omega)
  rw [e]
  simp
theorem jvJ (c:Int) (m:Nat) (hm:0 < m):∃ x:Nat,x < m ∧ c % (m:Int) = x ∧ jdu (.int c) (.int (m:Int)) = some (.int (x:Int)):=by
  have h1:=Int.emod_nonneg c (show (m:Int) ≠ 0 by omega)
  have h2:=Int.emod_lt_of_pos c (show (0:Int) < m by omega)
  have h3:=jeq (i:=c) (show (0:Int) < m by omega)
  refine ⟨(c % (m:Int)).toNat,by omega,by omega,?_⟩
  rw [h3,Int.toNat_of_nonneg h1]
open MA (Wd par jba)
def jod (f:Nat → Nu) (w:Wd) (p:Nat):Nu:=MA.jaB (2 * w.s + 4 * par ((p ^^^ w.x) &&& w.z)) (f (p ^^^ w.x))
theorem jl6 (u:Nu) (e:Nat):jbF [jcc u,.int e] = some (jcc (MA.jaB e u)):=by
  have h:=jiN u.1 u.2 e
  unfold jcc MA.jaB
  rw [h,show ((e:Int) % 8).toNat = e % 8 by omega]
theorem jww (X W a b:D) (p x z s q v e:Int) (ds:List D) (z4:Sl) (hs:ds.length < sizeLine) (w0:ixD W (.int 0) = some (.int x)) (w1:ixD W (.int 1) = some (.int z)) (w2:ixD W (.int 2) = some (.int s)) (h1:Builtin.bitXor p x = q) (a0:ixD X (.int q) = some a) (hv:jaK [.int q,.int z] = some (.int v)) (m1:IntMulOk 2 s) (m2:IntMulOk 4 v) (he:2 * s + 4 * v = e) (ht:jbF [a,.int e] = some b) :
    jcz [.fz X,.fz W,.ow ds,.fz (.int p),z4] = some (.nx,[.fz X,.fz W,.ow (ds ++ [b]),.fz (.int p),.fz (.int q)]):=by
  simp [-sSeq,-sIf,jav,jaV,jcz,w0,w1,w2,h1,a0,hv,m1,m2,he,ht,hs]
theorem jwv (X W Y:D) (S:Int) (RL L:List D) (y z:Sl) (ln:jdT [X] = some (.int S)) (hN:jbm [.int S] = some RL) (e:loop (gN 3) jcz RL [.fz X,.fz W,.ow [],.un,.un] = some (.nx,[.fz X,.fz W,.ow L,y,z])) (tp:jb1 [.list L] = some Y):jbv [X,W] = some Y:=by
  simp [-sSeq,-sIf,jav,jaV,jbv,runB,jeR,jal,ln,hN,e,dFz,tp]
theorem joc {n:Nat} (hn:n ≤ 6) (f:Nat → Nu) (w:Wd) (hw:w.ok n):jbv [stD n f,wdD w] = some (stD n (jod f w)):=by
  have sq:2 ^ n ≤ 64:=(Nat.pow_le_pow_right (by decide) hn:2 ^ n ≤ 2 ^ 6)
  obtain ⟨δ',e,y3,y4,rfl⟩:=jfc (b:=jcz) (k:=3) (fun i δ=>∃ y3 y4,δ = [.fz (stD n f),.fz (wdD w),.ow ((List.range i).map fun p=>jcc (jod f w p)),y3,y4]) (2 ^ n) (by
      rintro i hi δ ⟨y3,y4,rfl⟩
      have hq:i ^^^ w.x < 2 ^ n:=Nat.xor_lt_two_pow hi hw.1
      have he:2 * (w.s:Int) + 4 * ((par ((i ^^^ w.x) &&& w.z):Nat):Int) = ((2 * w.s + 4 * par ((i ^^^ w.x) &&& w.z):Nat):Int):=by omega
      have e:=jww (stD n f) (wdD w) (jcc (f (i ^^^ w.x))) (jcc (jod f w i)) i w.x w.z w.s _ _ _ ((List.range i).map fun p=>jcc (jod f w p)) y4 (by rw [List.length_map,List.length_range]; show _ < 16777216; omega) rfl rfl rfl (MA.jjs _ _) (jjT _ rfl hq)
        (jf6 _ _ (Nat.lt_of_lt_of_le hq (Nat.pow_le_pow_right (by decide) (by omega)))) (.of_left (by decide +kernel)) (.of_left (by decide +kernel)) he (jl6 _ _)
      refine ⟨_,e,.fz (.int i),.fz (.int ((i ^^^ w.x:Nat):Int)),?_⟩
      rw [List.range_succ,List.map_append]
      rfl) [.fz (stD n f),.fz (wdD w),.ow [],.un,.un] ⟨_,_,rfl⟩
  exact jwv _ _ _ _ _ _ _ _ (jhz n f) (jfu n hn) e rfl
theorem jjQ (a b:Nat) (u:Nu):MA.jaB a (MA.jaB b u) = MA.jaB (a + b) u:=by
  unfold MA.jaB
  simp only [MA.jdV]
  rw [← MA.jdW]
theorem jdy {a b:Nat} (h:a % 8 = b % 8) (u:Nu):MA.jaB a u = MA.jaB b u:=by
  unfold MA.jaB; rw [h]
theorem jrG {d:D} {k:Nat} (h:MA.Sh k d) (hk:k ≤ 64):eqD d d = some (.bool true):=by
  have hs:shp d = true:=by
    show (d.canLay0 && decide (d.depth ≤ 64)) = true
    rw [h.1,decide_eq_true (Nat.le_trans h.2 hk)]; rfl
  unfold eqD
  rw [if_pos ⟨hs,hs⟩,MA.jge d h.1]
theorem jrb {d:D} {k:Nat} (h:MA.Sh k d) (hk:k ≤ 64):neD d d = some (.bool false):=by
  have hs:shp d = true:=by
    show (d.canLay0 && decide (d.depth ≤ 64)) = true
    rw [h.1,decide_eq_true (Nat.le_trans h.2 hk)]; rfl
  unfold neD
  rw [if_pos ⟨hs,hs⟩,MA.jge d h.1]
  rfl
theorem jjE (a b:Nat) {c:Nat} (h:a &&& b = c):Builtin.bitAnd (a:Int) (b:Int) = (c:Int):=by rw [MA.jjL,h]
theorem jwY (U:D) (W x z s y c a v e x' z' s':Int) (u0:ixD U (.int 0) = some (.int x)) (u1:ixD U (.int 1) = some (.int z)) (u2:ixD U (.int 2) = some (.int s)) (h1:Builtin.bitXor x z = y) (h2:Builtin.bitAnd y W = c) (h3:Builtin.bitAnd x z = a) (h4:jaK [.int a,.int W] = some (.int v)) (m:IntMulOk 2 v) (h5:Builtin.bitXor x c = x') (h6:Builtin.bitXor z c = z') (h7:(s + 2 * v) % 4 = s'):jbc [U,.int W] = some (.tuple [.int x',.int z',.int s']):=by
  simp [-sSeq,-sIf,jav,jaV,jbc,runB,jc0,jal,u0,u1,u2,h1,h2,h3,h4,m,h5,h6,h7]
theorem juH (U:D) (W x e:Int) (u0:ixD U (.int 0) = some (.int x)) (h1:Builtin.bitAnd x W = 0):jaO [U,.int W,.int e] = some U:=by
  simp [-sSeq,-sIf,jav,jaV,jaO,runB,jbT,jal,u0,h1]
theorem juG (U:D) (W x z s e a z' zz s':Int) (u0:ixD U (.int 0) = some (.int x)) (u1:ixD U (.int 1) = some (.int z)) (u2:ixD U (.int 2) = some (.int s)) (h1:Builtin.bitAnd x W = a) (ha:¬ a = 0) (he:¬ e % 2 = 1) (h2:Builtin.bitXor z W = zz) (hz:(if e % 4 = 2 then zz else z) = z') (h3:(s + e / 2) % 4 = s'):jaO [U,.int W,.int e] = some (.tuple [.int x,.int z',.int s']):=by
  by_cases q:e % 4 = 2
  · rw [if_pos q] at hz; subst hz
    simp [-sSeq,-sIf,jav,jaV,jaO,runB,jbT,jal,u0,u1,u2,h1,ha,he,h2,q,h3]
  · rw [if_neg q] at hz; subst hz
    simp [-sSeq,-sIf,jav,jaV,jaO,runB,jbT,jal,u0,u1,u2,h1,ha,he,h2,q,h3]
theorem jwI (U:D) (W V x z s a b xx zz x' z':Int) (u0:ixD U (.int 0) = some (.int x)) (u1:ixD U (.int 1) = some (.int z)) (u2:ixD U (.int 2) = some (.int s)) (h1:Builtin.bitAnd x W = a) (h2:Builtin.bitAnd z V = b) (h3:Builtin.bitXor x V = xx) (h4:Builtin.bitXor z W = zz) (hx:(if a = 0 then x else xx) = x') (hz:(if b = 0 then z else zz) = z'):jaY [U,.int W,.int V] = some (.tuple [.int x',.int z',.int s]):=by
  by_cases p:a = 0 <;> by_cases q:b = 0
  · rw [if_pos p] at hx; rw [if_pos q] at hz; subst hx hz
    simp [-sSeq,-sIf,jav,jaV,jaY,runB,jbN,jal,u0,u1,u2,h1,h2,h3,h4,p,q]
  · rw [if_pos p] at hx; rw [if_neg q] at hz; subst hx hz
    simp [-sSeq,-sIf,jav,jaV,jaY,runB,jbN,jal,u0,u1,u2,h1,h2,h3,h4,p,q]
  · rw [if_neg p] at hx; rw [if_pos q] at hz; subst hx hz
    simp [-sSeq,-sIf,jav,jaV,jaY,runB,jbN,jal,u0,u1,u2,h1,h2,h3,h4,p,q]
  · rw [if_neg p] at hx; rw [if_neg q] at hz; subst hx hz
    simp [-sSeq,-sIf,jav,jaV,jaY,runB,jbN,jal,u0,u1,u2,h1,h2,h3,h4,p,q]
theorem jw2 (U:D) (W V x z s a b c B zz z' s2 s':Int) (u0:ixD U (.int 0) = some (.int x)) (u1:ixD U (.int 1) = some (.int z)) (u2:ixD U (.int 2) = some (.int s)) (h1:Builtin.bitAnd x W = a) (h2:Builtin.bitAnd x V = b) (hB:Builtin.bitOr W V = B) (h3:Builtin.bitAnd x B = c) (h4:Builtin.bitXor z V = zz) (hz:(if a = 0 then (if b = 0 then z else Builtin.bitXor z W) else (if b = 0 then zz else Builtin.bitXor zz W)) = z') (hs:(if c = B then s + 2 else s) = s2) (h5:s2 % 4 = s'):jbh [U,.int W,.int V] = some (.tuple [.int x,.int z',.int s']):=by
  have k:∀ a:Int,¬ a = 0 → (!(a == 0)) = true:=fun a h=>by simpa using h
  by_cases p:a = 0 <;> by_cases q:b = 0 <;> by_cases r:c = B
  all_goals
    simp only [p,q,r,if_true,if_false] at hz hs
    subst hz hs h5
    simp [-sSeq,-sIf,jav,jaV,jbh,runB,jdn,jal,u0,u1,u2,h1,h2,hB,h3,h4,p,q,r]
section
variable (N:Int) (U R:D) (i j W V:Int) (r1:ixD R (.int 1) = some (.int i)) (v1:jbp [.int N,.int i] = some (.int W))
include r1 v1
theorem jpr (Y:D) (r0:ixD R (.int 0) = some (.str "swing")) (h:jbc [U,.int W] = some Y):jaW [.int N,U,R] = some Y:=by
  simp [-sSeq,-sIf,jav,jaV,jaW,runB,jcG,jal,r0,r1,v1,h]
theorem jnz (Y:D) (e:Int) (r0:ixD R (.int 0) = some (.str "turn")) (r2:ixD R (.int 2) = some (.int e)) (h:jaO [U,.int W,.int e] = some Y):jaW [.int N,U,R] = some Y:=by
  simp [-sSeq,-sIf,jav,jaV,jaW,runB,jcG,jal,r0,r1,r2,v1,h]
theorem jrS (x z s v s':Int) (r0:ixD R (.int 0) = some (.str "flip")) (u0:ixD U (.int 0) = some (.int x)) (u1:ixD U (.int 1) = some (.int z)) (u2:ixD U (.int 2) = some (.int s)) (h:jaK [.int z,.int W] = some (.int v)) (m:IntMulOk 2 v) (hs:(s + 2 * v) % 4 = s'):jaW [.int N,U,R] = some (.tuple [.int x,.int z,.int s']):=by
  simp [-sSeq,-sIf,jav,jaV,jaW,runB,jcG,jal,r0,r1,v1,u0,u1,u2,h,m,hs]
variable (r2:ixD R (.int 2) = some (.int j)) (v2:jbp [.int N,.int j] = some (.int V))
include r2 v2
theorem jtQ (Y:D) (r0:ixD R (.int 0) = some (.str "tie")) (h:jaY [U,.int W,.int V] = some Y):jaW [.int N,U,R] = some Y:=by
  simp [-sSeq,-sIf,jav,jaV,jaW,runB,jcG,jal,r0,r1,r2,v1,v2,h]
theorem jrR (Y:D) (r0:ixD R (.int 0) = some (.str "sign")) (h:jbh [U,.int W,.int V] = some Y):jaW [.int N,U,R] = some Y:=by
  simp [-sSeq,-sIf,jav,jaV,jaW,runB,jcG,jal,r0,r1,r2,v1,v2,h]
theorem jps (x z s B x' z':Int) (r0:ixD R (.int 0) = some (.str "cross")) (u0:ixD U (.int 0) = some (.int x)) (u1:ixD U (.int 1) = some (.int z)) (u2:ixD U (.int 2) = some (.int s)) (hB:Builtin.bitOr W V = B) (h1:jaR [.int x,.int B] = some (.int x')) (h2:jaR [.int z,.int B] = some (.int z')):jaW [.int N,U,R] = some (.tuple [.int x',.int z',.int s]):=by
  simp [-sSeq,-sIf,jav,jaV,jaW,runB,jcG,jal,r0,r1,r2,v1,v2,u0,u1,u2,hB,h1,h2]
end
theorem jhJ {n:Nat} (hn:n ≤ 6) {r:Row} (hr:r.ok n) {u:Wd} (hu:u.ok n) (lu:MA.jsl n r u):jaW [.int n,wdD u,rowD r] = some (wdD (MA.carry n r u)):=by
  have big:∀ a:Nat,a < 2 ^ n → a < 2 ^ 100000:=fun a h=>Nat.lt_of_lt_of_le h (Nat.pow_le_pow_right (by decide) (by omega))
  cases r with
  | swing j=>
    have hx:u.x ^^^ u.z < 2 ^ n:=Nat.xor_lt_two_pow hu.1 hu.2.1
    have ha:u.x &&& u.z < 2 ^ n:=Nat.lt_of_le_of_lt Nat.and_le_left hu.1
    have ec:(u.x ^^^ u.z) &&& wt n j = wt n j * ((bit (wt n j) u.x + bit (wt n j) u.z) % 2):=by rw [MA.jiF hn hr hx,MA.jaw]
    have ev:=jf6 (u.x &&& u.z) (wt n j) (big _ ha)
    have e2:par ((u.x &&& u.z) &&& wt n j) = bit (wt n j) u.x * bit (wt n j) u.z:=by
      have:=MA.jfN hn hr hu.1 (bit (wt n j) u.z) (MA.jbq _ _)
      rw [Nat.and_assoc,MA.jiF hn hr hu.2.1,this,Nat.mul_comm]
    rw [e2] at ev
    exact jpr n (wdD u) _ j _ rfl (jaX hn hr) _ rfl (jwY (wdD u) _ _ _ _ _ _ _ _ 0 _ _ _ rfl rfl rfl (MA.jjs _ _) (jjE _ _ ec) (MA.jjL _ _) ev (.of_left (by decide +kernel)) (MA.jjs _ _) (MA.jjs _ _) (by show _ = (((u.s + 2 * (bit (wt n j) u.x * bit (wt n j) u.z)) % 4:Nat):Int); omega))
  | turn j e=>
    have ha:=MA.jiF hn hr.1 hu.1
    have lu:e % 2 = 0 ∨ bit (wt n j) u.x = 0:=lu
    have hw:=MA.ja7 n j
    rcases MA.b01 (wt n j) u.x with h | h
    · have e0:MA.carry n (.turn j e) u = u:=by
        apply MA.jcJ
        · rfl
        · show u.z ^^^ wt n j * (bit (wt n j) u.x * _) = u.z
          rw [h,Nat.zero_mul,Nat.mul_zero,Nat.xor_zero]
        · show (u.s + (e / 2) * bit (wt n j) u.x) % 4 = u.s
          rw [h]; have:=hu.2.2; omega
      rw [e0]
      refine jnz n (wdD u) _ j _ rfl (jaX hn hr.1) _ e rfl rfl (juH (wdD u) _ _ _ rfl (jjE _ _ (c:=0) ?_))
      rw [ha,h,Nat.mul_zero]
    · refine jnz n (wdD u) _ j _ rfl (jaX hn hr.1) _ e rfl rfl (juG (wdD u) (wt n j:Nat) u.x u.z u.s e ((wt n j:Nat):Int) _ ((u.z ^^^ wt n j:Nat):Int) _ rfl rfl rfl (jjE _ _ (c:=wt n j) ?_) (by omega) (by omega) (MA.jjs _ _) ?_ ?_)
      · rw [ha,h,Nat.mul_one]
      · show _ = ((u.z ^^^ wt n j * (bit (wt n j) u.x * (if e % 4 = 2 then 1 else 0)):Nat):Int)
        rw [h,Nat.one_mul]
        by_cases q:e % 4 = 2
        · rw [if_pos (by omega),if_pos q,Nat.mul_one]
        · rw [if_neg (by omega),if_neg q,Nat.mul_zero,Nat.xor_zero]
      · show _ = (((u.s + (e / 2) * bit (wt n j) u.x) % 4:Nat):Int)
        rw [h,Nat.mul_one]; omega
  | flip j=>
    have ev:=jf6 u.z (wt n j) (big _ hu.2.1)
    have e2:par (u.z &&& wt n j) = bit (wt n j) u.z:=by
      have:=MA.jfN hn hr hu.2.1 1 (by decide)
      rw [Nat.mul_one,Nat.one_mul] at this
      exact this
    rw [e2] at ev
    exact jrS n (wdD u) _ j _ rfl (jaX hn hr) _ _ u.s _ _ rfl rfl rfl rfl ev (.of_left (by decide +kernel)) (by show _ = (((u.s + 2 * bit (wt n j) u.z) % 4:Nat):Int); omega)
  | tie i j=>
    obtain ⟨hi,hj,hij⟩:=hr
    have a1:=MA.jiF hn hi hu.1
    have a2:=MA.jiF hn hj hu.2.1
    have w1:=MA.ja7 n i
    have w2:=MA.ja7 n j
    refine jtQ n (wdD u) _ i j _ _ rfl (jaX hn hi) rfl (jaX hn hj) _ rfl (jwI (wdD u) _ _ u.x u.z u.s _ _ _ _ _ _ rfl rfl rfl (jjE _ _ a1) (jjE _ _ a2) (MA.jjs _ _) (MA.jjs _ _) ?_ ?_)
    · show _ = ((u.x ^^^ wt n j * bit (wt n i) u.x:Nat):Int)
      rcases MA.b01 (wt n i) u.x with h | h <;> rw [h]
      · rw [Nat.mul_zero,if_pos (show ((0:Nat):Int) = 0 from rfl),Nat.mul_zero,Nat.xor_zero]
      · simp only [Nat.mul_one]
        rw [if_neg (by omega)]
    · show _ = ((u.z ^^^ wt n i * bit (wt n j) u.z:Nat):Int)
      rcases MA.b01 (wt n j) u.z with h | h <;> rw [h]
      · rw [Nat.mul_zero,if_pos (show ((0:Nat):Int) = 0 from rfl),Nat.mul_zero,Nat.xor_zero]
      · simp only [Nat.mul_one]
        rw [if_neg (by omega)]
  | sign i j=>
    obtain ⟨hi,hj,hij⟩:=hr
    have a1:=MA.jiF hn hi hu.1
    have a2:=MA.jiF hn hj hu.1
    have w1:=MA.ja7 n i
    have w2:=MA.ja7 n j
    have hB:=MA.bor (wt n i) (wt n j)
    have t2:=jfL hn hi hj hij hu.1
    rw [t2.1] at hB
    refine jrR n (wdD u) _ i j _ _ rfl (jaX hn hi) rfl (jaX hn hj) _ rfl (jw2 (wdD u) _ _ u.x u.z u.s _ _ _ _ _ _ _ _ rfl rfl rfl (jjE _ _ a1) (jjE _ _ a2) hB (jjE _ _ t2.2.1) (MA.jjs _ _) ?_ rfl ?_)
    · show _ = ((u.z ^^^ wt n j * bit (wt n i) u.x ^^^ wt n i * bit (wt n j) u.x:Nat):Int)
      rw [MA.jjs,MA.jjs]
      rcases MA.b01 (wt n i) u.x with h | h <;> rcases MA.b01 (wt n j) u.x with h2 | h2 <;> rw [h,h2]
      · simp
      · rw [Nat.mul_zero,Nat.mul_one,if_pos (show ((0:Nat):Int) = 0 from rfl),if_neg (by omega),Nat.mul_zero,Nat.mul_one,Nat.xor_zero]
      · rw [Nat.mul_zero,Nat.mul_one,if_neg (by omega),if_pos (show ((0:Nat):Int) = 0 from rfl),Nat.mul_zero,Nat.mul_one,Nat.xor_zero]
      · simp only [Nat.mul_one]
        rw [if_neg (by omega),if_neg (by omega)]
    · show _ = (((u.s + 2 * (bit (wt n i) u.x * bit (wt n j) u.x)) % 4:Nat):Int)
      rcases MA.b01 (wt n i) u.x with h | h <;> rcases MA.b01 (wt n j) u.x with h2 | h2 <;> rw [h,h2]
      · rw [if_neg (by omega)]; omega
      · rw [if_neg (by omega)]; omega
      · rw [if_neg (by omega)]; omega
      · rw [if_pos (by omega)]; omega
  | cross i j=>
    obtain ⟨hi,hj,hij⟩:=hr
    have hB:=MA.bor (wt n i) (wt n j)
    rw [(jfL hn hi hj hij hu.1).1] at hB
    have e1:=jkf hn hi hj hij hu.1
    have e2:=jkf hn hi hj hij hu.2.1
    rw [MA.jir hn hi hj hu.1] at e1
    rw [MA.jir hn hi hj hu.2.1] at e2
    exact jps n (wdD u) _ i j _ _ rfl (jaX hn hi) rfl (jaX hn hj) _ _ _ _ _ _ rfl rfl rfl rfl hB e1 e2
theorem jpf (U:D) (n M x z s:Int) (L:List D) (q:Sl) (f1:jhm "tuple" U = some (.bool true)) (f2:jdT [U] = some (.int 3)) (f3:jhl U = some L) (f4:ixD U (.int 0) = some (.int x)) (f5:ixD U (.int 1) = some (.int z)) (f6:ixD U (.int 2) = some (.int s)) (lp:loop (gN 2) jbI L [.fz U,.fz (.int n),.un] = some (.nx,[.fz U,.fz (.int n),q])) (hs:jg8 (.int 1) (.int n) = some (.int M)) (a:x < M) (b:z < M) (c:s < 4):jaP [U,.int n] = some (.bool true):=by
  simp [-sSeq,-sIf,jav,jaV,jaP,runB,jdp,jal,f1,f2,f3,f4,f5,f6,lp,hs,a,b,c]
theorem jji (u:Wd) (n:Nat) (hn:n ≤ 6) (hu:u.ok n):jaP [wdD u,.int n] = some (.bool true):=by
  have hs:=jt8 n (by omega)
  have a:(u.x:Int) < ((2 ^ n:Nat):Int):=by have:=hu.1; omega
  have b:(u.z:Int) < ((2 ^ n:Nat):Int):=by have:=hu.2.1; omega
  have c:(u.s:Int) < 4:=by have:=hu.2.2; omega
  have st:∀ (i:Nat) (z:Sl),jbI [.fz (wdD u),.fz (.int n),.fz (.int i)] = some (.nx,[.fz (wdD u),.fz (.int n),.fz (.int i)]):=fun i z=>by
    have:¬ ((i:Int) < 0):=by omega
    simp [-sSeq,-sIf,jav,jaV,jbI,jcD,runB,jea,jal,this]
  have lp:loop (gN 2) jbI [.int u.x,.int u.z,.int u.s] [.fz (wdD u),.fz (.int n),.un] = some (.nx,[.fz (wdD u),.fz (.int n),.fz (.int u.s)]):=by
    rw [jbo (by rfl) (st u.x .un),jbo (by rfl) (st u.z .un),jbo (by rfl) (st u.s .un)]
    rfl
  have f1:jhm "tuple" (wdD u) = some (.bool true):=rfl
  have f2:jdT [wdD u] = some (.int 3):=rfl
  have f3:jhl (wdD u) = some [.int u.x,.int u.z,.int u.s]:=rfl
  have f4:ixD (wdD u) (.int 0) = some (.int u.x):=rfl
  have f5:ixD (wdD u) (.int 1) = some (.int u.z):=rfl
  have f6:ixD (wdD u) (.int 2) = some (.int u.s):=rfl
  exact jpf _ _ _ _ _ _ _ _ f1 f2 f3 f4 f5 f6 lp hs a b c
theorem jhE {n:Nat} {f g:Nat → Nu} (h:∀ p,p < 2 ^ n → f p = g p) {r:Row} (hr:r.ok n) {p:Nat} (hp:p < 2 ^ n):jaG n f r p = jaG n g r p:=by
  cases r with
  | swing j=>
    show (if bit (wt n j) p = 0 then _ else _) = (if bit (wt n j) p = 0 then _ else _)
    by_cases c:bit (wt n j) p = 0
    · rw [if_pos c,if_pos c,h p hp,h _ (MA.jnH hr hp c)]
    · rw [if_neg c,if_neg c,h p hp,h (p - wt n j) (by omega)]
  | turn j e=>show MA.jaB _ (f p) = MA.jaB _ (g p); rw [h p hp]
  | sign i j=>show MA.jaB _ (f p) = MA.jaB _ (g p); rw [h p hp]
  | flip j=>exact h _ (MA.jij (r:=.flip j) hr hp)
  | tie i j=>exact h _ (MA.jij (r:=.tie i j) hr hp)
  | cross i j=>exact h _ (MA.jij (r:=.cross i j) hr hp)
theorem jkP {n:Nat} {f g:Nat → Nu} (h:∀ p,p < 2 ^ n → f p = g p):stD n f = stD n g:=by
  unfold stD
  congr 1
  apply List.map_congr_left
  intro p hp
  rw [h p (List.mem_range.mp hp)]
theorem jiM {n:Nat} {f g:Nat → Nu} (h:∀ p,p < 2 ^ n → f p = g p) {u:Wd} (hu:u.ok n):∀ p,p < 2 ^ n → MA.wdn f u p = MA.wdn g u p:=fun p hp=>by
  unfold MA.wdn
  rw [h _ (Nat.xor_lt_two_pow hp hu.1)]
theorem jsq {n:Nat} (hn:n ≤ 6) (f:Nat → Nu) (w:Wd) (hw:w.ok n):jbv [stD n f,wdD w] = some (stD n (MA.wdn f w)):=joc hn f w hw
theorem jq6 (p q:Nat):(if (q:Int) = (p:Int) then some (PyData.tuple [.int 1,.int 0,.int 0,.int 0,.int 0]) else some (PyData.tuple [.int 0,.int 0,.int 0,.int 0,.int 0])) = some (jcc (MA.jdR p q)):=by
  unfold MA.jdR
  by_cases h:q = p
  · rw [if_pos h,if_pos (by omega)]; rfl
  · rw [if_neg h,if_neg (by omega)]; rfl
theorem jvT (w M:Int) (N:Nat) (p:Nat) (hl:N ≤ 16777216) (hs:jg8 (.int 1) (.int w) = some (.int M)) (hN:jbm [.int M] = some ((List.range N).map fun k:Nat=>PyData.int (0 + (k:Int)))):jbw [.int w,.int p] = some (.tuple ((List.range N).map fun q=>jcc (MA.jdR p q))):=by
  have c:jfO [.fz (.int w),.fz (.int p)] = some (.list ((List.range N).map fun q=>jcc (MA.jdR p q))):=jrM (by simp [hs,hN]) hl fun q hq=>by
    have:=jq6 p q
    simp [-Int.natCast_inj,capS,this]
  simp [jbw,runB,jeT,jal,c]
theorem jpt {n:Nat} (hn:n ≤ 6) (p:Nat):jbw [.int n,.int p] = some (stD n (MA.jdR p)):=
  jvT _ _ (2 ^ n) p (Nat.le_trans (Nat.pow_le_pow_right (by decide) hn:2 ^ n ≤ 2 ^ 6) (by decide)) (jt8 n (by omega)) (jfu n hn)
theorem jth (p:Nat):Bd 0 0 (MA.jdR p):=fun x=>by
  unfold MA.jdR
  split
  · exact ⟨Nat.le_refl _,by decide,by decide,by decide,by decide⟩
  · exact ⟨Nat.le_refl _,by decide,by decide,by decide,by decide⟩
def agB (u v:Wd):Bool:=decide (par (u.z &&& v.x) = par (u.x &&& v.z))
def jhu (u:Wd):Bool:=decide ((u.s + par (u.x &&& u.z)) % 2 = 0)
def jjm:Row → Prop
  | .turn _ e=>e % 2 = 0
  | _=>True
theorem jbz {n:Nat} {r:Row} (h:jjm r) (u:Wd):MA.jsl n r u:=by
  cases r <;> first | exact trivial | exact .inl h
theorem jqq {n:Nat} {u v:Wd} (hu:u.ok n) (hv:v.ok n):agB u v = true ↔ jba u v = jba v u:=by
  have p1:=MA.je8 (u.z &&& v.x)
  have p2:=MA.je8 (v.z &&& u.x)
  have e:par (u.x &&& v.z) = par (v.z &&& u.x):=by rw [Nat.and_comm]
  unfold agB
  rw [decide_eq_true_iff,e]
  constructor
  · intro h
    refine MA.jcJ (Nat.xor_comm _ _) (Nat.xor_comm _ _) ?_
    show (u.s + v.s + 2 * par (u.z &&& v.x)) % 4 = (v.s + u.s + 2 * par (v.z &&& u.x)) % 4
    rw [h,Nat.add_comm u.s v.s]
  · intro h
    have h:(u.s + v.s + 2 * par (u.z &&& v.x)) % 4 = (v.s + u.s + 2 * par (v.z &&& u.x)) % 4:=congrArg Wd.s h
    omega
theorem str_iff {u:Wd}:jhu u = true ↔ jba u u = ⟨0,0,0⟩:=by
  have p1:=MA.je8 (u.z &&& u.x)
  have e:par (u.x &&& u.z) = par (u.z &&& u.x):=by rw [Nat.and_comm]
  unfold jhu
  rw [decide_eq_true_iff,e]
  constructor
  · intro h
    refine MA.jcJ (Nat.xor_self _) (Nat.xor_self _) ?_
    show (u.s + u.s + 2 * par (u.z &&& u.x)) % 4 = 0
    omega
  · intro h
    have h:(u.s + u.s + 2 * par (u.z &&& u.x)) % 4 = 0:=congrArg Wd.s h
    omega
theorem jnt (n:Nat) (r:Row):MA.carry n r ⟨0,0,0⟩ = ⟨0,0,0⟩:=by
  cases r <;> simp [MA.carry,MA.jfi]
section
variable {n:Nat} (hn:n ≤ 6) {r:Row} (hr:r.ok n) (he:jjm r)
include hn hr he
theorem jnv {u v:Wd} (hu:u.ok n) (hv:v.ok n) (h:MA.carry n r u = MA.carry n r v):u = v:=by
  rw [← MA.jfD hr hu (jbz he u),← MA.jfD hr hv (jbz he v),h]
theorem jgh {u v:Wd} (hu:u.ok n) (hv:v.ok n):agB (MA.carry n r u) (MA.carry n r v) = agB u v:=by
  rw [Bool.eq_iff_iff,jqq (MA.jfh hr hu) (MA.jfh hr hv),jqq hu hv,← MA.jgQ hn hr hu hv (jbz he u) (jbz he v),← MA.jgQ hn hr hv hu (jbz he v) (jbz he u)]
  exact ⟨fun h=>jnv hn hr he (MA.jcs hu hv) (MA.jcs hv hu) h,fun h=>by rw [h]⟩
theorem jml {u:Wd} (hu:u.ok n) (h:jhu u = true):jhu (MA.carry n r u) = true:=by
  rw [str_iff,← MA.jgQ hn hr hu hu (jbz he u) (jbz he u),str_iff.mp h,jnt]
end
def prD (p:Wd × Wd):D:=.tuple [wdD p.1,wdD p.2]
def jc6 (T:List (Wd × Wd)):D:=.tuple (T.map prD)
structure Good (n:Nat) (T:List (Wd × Wd)):Prop where
  len:T.length = n
  ok:∀ p ∈ T,p.1.ok n ∧ p.2.ok n ∧ jhu p.2 = true
  ag:∀ (i j:Nat) (p q:Wd × Wd),T[i]? = some p → T[j]? = some q → agB p.2 q.2 = true ∧ agB p.1 q.2 = !decide (i = j)
def cT (n:Nat) (r:Row) (p:Wd × Wd):Wd × Wd:=(MA.carry n r p.1,MA.carry n r p.2)
theorem Good.carry {n:Nat} (hn:n ≤ 6) {r:Row} (hr:r.ok n) (he:jjm r) {T:List (Wd × Wd)} (g:Good n T):Good n (T.map (cT n r)):=by
  refine ⟨by rw [List.length_map,g.len],fun p hp=>?_,fun i j p q hp hq=>?_⟩
  · obtain ⟨q,hq,rfl⟩:=List.mem_map.mp hp
    obtain ⟨a,b,c⟩:=g.ok q hq
    exact ⟨MA.jfh hr a,MA.jfh hr b,jml hn hr he b c⟩
  · rw [List.getElem?_map] at hp hq
    obtain ⟨p',hp',rfl⟩:=Option.map_eq_some_iff.mp hp
    obtain ⟨q',hq',rfl⟩:=Option.map_eq_some_iff.mp hq
    obtain ⟨a1,a2,_⟩:=g.ok p' (List.mem_of_getElem? hp')
    obtain ⟨b1,b2,_⟩:=g.ok q' (List.mem_of_getElem? hq')
    obtain ⟨c1,c2⟩:=g.ag i j p' q' hp' hq'
    exact ⟨(jgh hn hr he a2 b2).trans c1,(jgh hn hr he a1 b2).trans c2⟩
theorem jr1 {n a b:Nat} (hn:n ≤ 6) (ha:a < 2 ^ n):a &&& b < 64:=Nat.lt_of_le_of_lt Nat.and_le_left (Nat.lt_of_lt_of_le ha (jh4 hn))
theorem jvw (U V:D) (x z x' z' a b p q:Int) (u0:ixD U (.int 0) = some (.int x)) (u1:ixD U (.int 1) = some (.int z)) (v0:ixD V (.int 0) = some (.int x')) (v1:ixD V (.int 1) = some (.int z')) (h1:Builtin.bitAnd z x' = a) (h2:Builtin.bitAnd x z' = b) (o1:ja9 [.int a] = some (.int p)) (o2':ja9 [.int b] = some (.int q)):ja8 [U,V] = some (.bool (p == q)):=by
  simp [ja8,runB,jeb,jal,u0,u1,v0,v1,h1,h2,o1,o2']
theorem wd0 (u:Wd):ixD (wdD u) (.int 0) = some (.int u.x):=rfl
theorem wd1 (u:Wd):ixD (wdD u) (.int 1) = some (.int u.z):=rfl
theorem wd2 (u:Wd):ixD (wdD u) (.int 2) = some (.int u.s):=rfl
theorem pr0 (p:Wd × Wd):ixD (prD p) (.int 0) = some (wdD p.1):=rfl
theorem pr1 (p:Wd × Wd):ixD (prD p) (.int 1) = some (wdD p.2):=rfl
theorem jpS {n:Nat} (hn:n ≤ 6) {u v:Wd} (hu:u.ok n):ja8 [wdD u,wdD v] = some (.bool (agB u v)):=by
  have e:=jvw _ _ _ _ _ _ _ _ _ _ (wd0 u) (wd1 u) (wd0 v) (wd1 v) (MA.jjL u.z v.x) (MA.jjL u.x v.z) (jmR _ (jr1 hn hu.2.1)) (jmR _ (jr1 hn hu.1))
  rw [e]
  congr 2
  unfold agB
  by_cases h:par (u.z &&& v.x) = par (u.x &&& v.z)
  · rw [h]; simp
  · rw [decide_eq_false h]; simp; omega
theorem jvt (z0 z3 z4:Sl) (n x z s a q:Int) (P U V:D) (t:jhm "tuple" P = some (.bool true)) (ln:jdT [P] = some (.int 2)) (p0:ixD P (.int 0) = some U) (p1:ixD P (.int 1) = some V) (w0:jaP [U,.int n] = some (.bool true)) (w1:jaP [V,.int n] = some (.bool true)) (v0:ixD V (.int 0) = some (.int x)) (v1:ixD V (.int 1) = some (.int z)) (v2:ixD V (.int 2) = some (.int s)) (ba:Builtin.bitAnd x z = a) (o:ja9 [.int a] = some (.int q)) (h:¬ (s + q) % 2 = 1):jbC [z0,.fz (.int n),.fz P,z3,z4] = some (.nx,[z0,.fz (.int n),.fz P,z3,z4]):=by
  simp [-sSeq,-sIf,jav,jaV,jbC,t,ln,p0,p1,w0,w1,v0,v1,v2,ba,o,h]
theorem jk0 {n:Nat} (hn:n ≤ 6) (z0 z3 z4:Sl):∀ (T:List (Wd × Wd)),(∀ p ∈ T,p.1.ok n ∧ p.2.ok n ∧ jhu p.2 = true) → ∀ z2,∃ y2,loop (gN 2) jbC (T.map prD) [z0,.fz (.int n),z2,z3,z4] = some (.nx,[z0,.fz (.int n),y2,z3,z4])
  | [],_,z2=>⟨z2,rfl⟩
  | p :: T,h,z2=>by
    obtain ⟨a,b,c⟩:=h p List.mem_cons_self
    have c:(p.2.s + par (p.2.x &&& p.2.z)) % 2 = 0:=by unfold jhu at c; exact of_decide_eq_true c
    obtain ⟨y2,e⟩:=jk0 hn z0 z3 z4 T (fun q hq=>h q (List.mem_cons_of_mem _ hq)) (.fz (prD p))
    refine ⟨y2,?_⟩
    rw [List.map_cons,jbo (δ1:=[z0,.fz (.int n),.fz (prD p),z3,z4]) (by simp) (jvt z0 z3 z4 n _ _ _ _ _ (prD p) _ _ rfl rfl (pr0 p) (pr1 p) (jji p.1 n hn a) (jji p.2 n hn b) (wd0 _) (wd1 _) (wd2 _) (MA.jjL _ _) (jmR _ (jr1 hn b.1)) (by omega)),e]
theorem nb (b:Bool):neD (.bool b) (.bool b) = some (.bool false):=by cases b <;> rfl
theorem jvs (F P Q U V V':D) (z1 z2:Sl) (i j:Int) (b:Bool) (fi:ixD F (.int i) = some P) (fj:ixD F (.int j) = some Q) (p0:ixD P (.int 0) = some U) (p1:ixD P (.int 1) = some V) (q1:ixD Q (.int 1) = some V') (a1:ja8 [V,V'] = some (.bool true)) (a2:ja8 [U,V'] = some (.bool b)) (hb:neD (.int i) (.int j) = some (.bool b)):jbB [.fz F,z1,z2,.fz (.int i),.fz (.int j)] = some (.nx,[.fz F,z1,z2,.fz (.int i),.fz (.int j)]):=by
  have:=nb b
  simp [-sSeq,-sIf,jav,jaV,jbB,fi,fj,p0,p1,q1,a1,a2,hb,this]
theorem jvr (z0 z2 z3 z4:Sl) (n:Int) (L:List D) (δ:Dv) (hN:jbm [.int n] = some L) (lp:loop (gN 4) jbB L [z0,.fz (.int n),z2,z3,z4] = some (.nx,δ)):jbA [z0,.fz (.int n),z2,z3,z4] = some (.nx,δ):=by
  simp [-sSeq,-sIf,jav,jaV,jbA,hN,lp]
theorem jxq (F:D) (n:Int) (L N:List D) (y2:Sl) (δ:Dv) (t:jhm "tuple" F = some (.bool true)) (ln:jdT [F] = some (.int n)) (it:jhl F = some L) (l1:loop (gN 2) jbC L [.fz F,.fz (.int n),.un,.un,.un] = some (.nx,[.fz F,.fz (.int n),y2,.un,.un])) (hN:jbm [.int n] = some N) (l2:loop (gN 3) jbA N [.fz F,.fz (.int n),y2,.un,.un] = some (.nx,δ)):jaZ [F,.int n] = some (.bool true):=by
  simp [-sSeq,-sIf,jav,jaV,jaZ,runB,jc2,jal,t,ln,it,l1,hN,l2]
theorem jxi (i j:Nat):neD (.int (i:Int)) (.int (j:Int)) = some (.bool (!decide (i = j))):=by
  have:neD (.int (i:Int)) (.int (j:Int)) = some (.bool (!((i:Int) == (j:Int)))):=rfl
  rw [this]
  by_cases h:i = j
  · subst h; simp
  · have h':¬ (i:Int) = j:=by omega
    simp [h,h']
theorem jlF {n:Nat} (hn:n ≤ 6) {T:List (Wd × Wd)} (g:Good n T):jaZ [jc6 T,.int n] = some (.bool true):=by
  have hN:jbm [.int n] = some (jlX 0 n):=je5 (j:=(n:Int)) (by omega) (by omega)
  have at':∀ i,i < n → ∃ p,T[i]? = some p ∧ ixD (jc6 T) (.int i) = some (prD p):=fun i hi=>by
    have hi':i < T.length:=by rw [g.len]; exact hi
    exact ⟨T[i],List.getElem?_eq_getElem hi',jde (j:=i) rfl (by simp [hi'])⟩
  obtain ⟨y2,l1⟩:=jk0 hn (.fz (jc6 T)) .un .un T g.ok .un
  obtain ⟨δ',l2,_⟩:=jfc (b:=jbA) (k:=3) (fun i δ=>∃ z3 z4,δ = [.fz (jc6 T),.fz (.int n),y2,z3,z4]) n (by
    rintro i hi δ ⟨z3,z4,rfl⟩
    obtain ⟨p,hp,fi⟩:=at' i hi
    obtain ⟨δ2,l,z4',rfl⟩:=jfc (b:=jbB) (k:=4) (fun j δ=>∃ z4,δ = [.fz (jc6 T),.fz (.int n),y2,.fz (.int i),z4]) n (by
      rintro j hj δ ⟨z4,rfl⟩
      obtain ⟨q,hq,fj⟩:=at' j hj
      obtain ⟨a1,a2⟩:=g.ag i j p q hp hq
      obtain ⟨o1,o2,_⟩:=g.ok p (List.mem_of_getElem? hp)
      have e1:=jpS hn (v:=q.2) o2
      have e2:=jpS hn (v:=q.2) o1
      rw [a1] at e1
      rw [a2] at e2
      exact ⟨_,jvs _ _ _ _ _ _ _ _ i j _ fi fj (pr0 p) (pr1 p) (pr1 q) e1 e2 (jxi i j),_,rfl⟩) [.fz (jc6 T),.fz (.int n),y2,.fz (.int i),z4] ⟨_,rfl⟩
    exact ⟨_,jvr _ _ _ _ n _ _ hN l,_,_,rfl⟩) [.fz (jc6 T),.fz (.int n),y2,.un,.un] ⟨_,_,rfl⟩
  exact jxq (jc6 T) n _ _ y2 δ' rfl (by show some (PyData.int _) = _; rw [List.length_map,g.len]) rfl l1 hN l2
def jjj:Row → Bool
  | .turn _ e=>e % 2 == 1
  | _=>false
theorem jnl {r:Row} (h:jjj r = false):jjm r:=by
  cases r <;> first | exact trivial | (rename_i j e; have h:(e % 2 == 1) = false:=h; have:¬ e % 2 = 1:=(by simpa using h); show e % 2 = 0; omega)
theorem em2 (e:Nat):((e:Int) % 2 == 1) = (e % 2 == 1):=by
  rcases Nat.mod_two_eq_zero_or_one e with h | h
  · have:(e:Int) % 2 = 0:=by omega
    rw [h,this]; rfl
  · have:(e:Int) % 2 = 1:=by omega
    rw [h,this]; rfl
theorem jw4 (r:Row):jfa [.fz (.tuple [rowD r])] = some (.list [.bool (jjj r)]):=by
  refine jcO (h:=rowD) (k:=fun r=>PyData.bool (jjj r)) (xs:=[r]) (by simp) (by simp) fun q _=>?_
  cases q <;> simp [capS,rowD,jjj,em2]
theorem jxU (b:Bool):jvV [.list [.bool b]] = some (.bool b):=by cases b <;> rfl
theorem ju1 {r:Row} (h:jjj r = false):jbK [.tuple [rowD r]] = some .none:=by
  have p:=jw4 r
  rw [h] at p
  have a:=jxU false
  simp [-sSeq,-sIf,jav,jaV,jbK,runB,jd9,jal,p,a]
theorem jwJ (F R G:D) (n:Int) (L:List D) (ro:jbK [.tuple [R]] = some .none) (ln:jdT [F] = some (.int n)) (p:jdG [.fz F,.fz R,.fz (.int n)] = some (.list L)) (tp:jb1 [.list L] = some G):jbs [F,R] = some G:=by
  simp [-sSeq,-sIf,jav,jaV,jbs,runB,jd8,jal,ro,ln,p,tp]
theorem juI {n:Nat} (hn:n ≤ 6) {r:Row} (hr:r.ok n) (ho:jjj r = false) {T:List (Wd × Wd)} (g:Good n T):jbs [jc6 T,rowD r] = some (jc6 (T.map (cT n r))):=by
  have he:=jnl ho
  have p:jdG [.fz (jc6 T),.fz (rowD r),.fz (.int n)] = some (.list (T.map fun p=>prD (cT n r p))):=jcO (h:=prD) (k:=fun p=>prD (cT n r p)) (xs:=T) (by simp [jc6]) (by rw [g.len]; omega) fun p hp=>by
    obtain ⟨a,b,_⟩:=g.ok p hp
    have c1:=jhJ hn hr a (jbz he _)
    have c2:=jhJ hn hr b (jbz he _)
    simp [capS,pr0,pr1,c1,c2,prD,cT]
  refine jwJ _ _ _ n _ (ju1 ho) (by show some (PyData.int _) = _; rw [List.length_map,g.len]) p ?_
  unfold jc6
  rw [List.map_map]
  rfl
def jpG (n p:Nat):List (Wd × Wd):=(List.range n).map fun i=>(⟨wt n i,0,0⟩,⟨0,wt n i,2 * bit (wt n i) p⟩)
theorem js6 {n i j:Nat} (hn:n ≤ 6) (hi:i < n) (hj:j < n):par (wt n i &&& wt n j) = if i = j then 1 else 0:=by
  have h:=MA.jb7 (e:=1) hn hi (MA.jl0 hj) (by decide)
  rw [Nat.mul_one,Nat.one_mul] at h
  rw [h]
  by_cases e:i = j
  · subst e
    rw [if_pos rfl]
    have:=MA.jgR (n:=n) (i:=i) 1 (by decide)
    rwa [Nat.mul_one] at this
  · rw [if_neg e]
    have:=MA.jeC hi hj e 1 (by decide)
    rwa [Nat.mul_one] at this
theorem jhR {n p i:Nat} {x:Wd × Wd} (h:(jpG n p)[i]? = some x):i < n ∧ x = (⟨wt n i,0,0⟩,⟨0,wt n i,2 * bit (wt n i) p⟩):=by
  unfold jpG at h
  rw [List.getElem?_map] at h
  obtain ⟨k,hk,rfl⟩:=Option.map_eq_some_iff.mp h
  have hi:i < n:=by
    have:=(List.getElem?_eq_some_iff.mp hk).1
    simpa using this
  rw [List.getElem?_range hi] at hk
  cases hk
  exact ⟨hi,rfl⟩
theorem jme {n:Nat} (hn:n ≤ 6) (p:Nat):Good n (jpG n p):=by
  refine ⟨by simp [jpG],fun x hx=>?_,fun i j x y hx hy=>?_⟩
  · obtain ⟨i,hi⟩:=List.mem_iff_getElem?.mp hx
    obtain ⟨h,rfl⟩:=jhR hi
    have b:=MA.jbq (wt n i) p
    have w:=MA.jl0 h
    refine ⟨⟨w,Nat.pow_pos (by decide),(by show 0 < 4; decide)⟩,⟨Nat.pow_pos (by decide),w,by show 2 * _ < 4; omega⟩,?_⟩
    unfold jhu
    rw [decide_eq_true_iff]
    show (2 * bit (wt n i) p + par (0 &&& wt n i)) % 2 = 0
    rw [Nat.zero_and,MA.jcn]
    omega
  · obtain ⟨h1,rfl⟩:=jhR hx
    obtain ⟨h2,rfl⟩:=jhR hy
    constructor
    · unfold agB
      rw [decide_eq_true_iff]
      show par (wt n i &&& 0) = par (0 &&& wt n j)
      rw [Nat.zero_and,Nat.and_zero]
    · unfold agB
      show decide (par (0 &&& 0) = par (wt n i &&& wt n j)) = _
      rw [Nat.zero_and,MA.jcn,js6 hn h1 h2]
      by_cases e:i = j <;> simp [e]
theorem jqQ (n:Nat):jlX 0 n = (List.range n).map fun (k:Nat)=>PyData.int (k:Int):=by
  unfold jlX
  refine List.map_congr_left fun k _=>?_
  rw [Int.zero_add]
theorem jtS (n p i:Nat) (hi:i < n):jjJ (.int (p:Int)) (.int ((n:Int) - 1 - (i:Int))) = some (.int ((p / wt n i:Nat):Int)):=by
  rw [jkQ (by omega),show ((n:Int) - 1 - (i:Int)).toNat = n - 1 - i by omega]
  congr 2
theorem jtT (n p:Int) (xs:List Nat) (f:Nat → Nat) (hN:jbm [.int n] = some (xs.map fun (k:Nat)=>PyData.int (k:Int))) (hl:xs.length ≤ 1000) (H:∀ i ∈ xs,∃ q:Int,jjJ (.int p) (.int (n - 1 - (i:Int))) = some (.int q) ∧ Builtin.bitAnd q 1 = (f i:Int)):jfw [.fz (.int n),.fz (.int p)] = some (.list (xs.map fun i=>.int (f i:Nat))):=
  jcO (h:=fun (k:Nat)=>PyData.int (k:Int)) (k:=fun i=>PyData.int (f i:Nat)) (xs:=xs) (by simp [hN]) (by omega) fun i hi=>by
    obtain ⟨q,s,a⟩:=H i hi
    simp [capS,s,a]
theorem jtR (n p:Int) (L:List D) (e:jfw [.fz (.int n),.fz (.int p)] = some (.list L)):jcB [.int n,.int p] = some (.tuple L):=by
  simp [jcB,runB,jg0,jal,e]
theorem jr8 (n:Nat) (hn:n ≤ 6):jbm [.int (n:Int)] = some ((List.range n).map fun (k:Nat)=>PyData.int (k:Int)):=by
  rw [← jqQ]
  exact je5 (j:=(n:Int)) (by omega) (by omega)
theorem jrV (n p:Nat) (hn:n ≤ 6):jcB [.int n,.int p] = some (.tuple ((List.range n).map fun i=>.int (bit (wt n i) p:Nat))):=
  jtR _ _ _ (jtT n p (List.range n) (fun i=>bit (wt n i) p) (jr8 n hn) (by rw [List.length_range]; omega) fun i hi=>⟨_,jtS n p i (List.mem_range.mp hi),jwp _⟩)
theorem jqE (n p:Int) (B:D) (F L:List D) (b:jcB [.int n,.int p] = some B) (p1:∀ z3,jeM [.fz (.int n),.fz (.int p),.fz B,z3] = some (.list F)) (p2:jeL [.fz (.int n),.fz (.int p),.fz B,.fz (.list F)] = some (.list L)):jbM [.int n,.int p] = some (.tuple L):=by
  simp [-sSeq,-sIf,jav,jaV,jbM,runB,jfH,jal,b,p1,p2]
theorem atr {n i:Nat} (hi:i < n) (f:Nat → D):atI ((List.range n).map f) (i:Int) = some (f i):=jde (j:=i) rfl (by simp [hi])
theorem jsC (n p:Int) (B:D) (z3:Sl) (xs:List Nat) (f:Nat → Nat) (hN:jbm [.int n] = some (xs.map fun (k:Nat)=>PyData.int (k:Int))) (hl:xs.length ≤ 1000) (H:∀ i ∈ xs,jbp [.int n,.int (i:Nat)] = some (.int (f i:Nat))):jeM [.fz (.int n),.fz (.int p),.fz B,z3] = some (.list (xs.map fun i=>.int (f i:Nat))):=
  jcO (h:=fun (k:Nat)=>PyData.int (k:Int)) (k:=fun i=>PyData.int (f i:Nat)) (xs:=xs) (by simp [hN]) (by omega) fun i hi=>by
    have s:=H i hi
    simp [capS,s]
theorem jsB (n p:Int) (B F:D) (xs:List Nat) (f g:Nat → Nat) (hN:jbm [.int n] = some (xs.map fun (k:Nat)=>PyData.int (k:Int))) (hl:xs.length ≤ 1000) (hB:∀ i ∈ xs,ixD B (.int (i:Nat)) = some (.int (g i:Nat))) (hF:∀ i ∈ xs,ixD F (.int (i:Nat)) = some (.int (f i:Nat))):jeL [.fz (.int n),.fz (.int p),.fz B,.fz F] = some (.list (xs.map fun i=>prD (⟨f i,0,0⟩,⟨0,f i,2 * g i⟩))):=
  jcO (h:=fun (k:Nat)=>PyData.int (k:Int)) (k:=fun i=>prD (⟨f i,0,0⟩,⟨0,f i,2 * g i⟩)) (xs:=xs) (by simp [hN]) (by omega) fun i hi=>by
    have a:=hB i hi
    have b:=hF i hi
    have m:IntMulOk 2 ((g i:Nat):Int):=.of_left (Nat.le_trans (MA.jnE (m:=2) (by omega)) (by decide))
    simp [capS,a,b,m,prD,wdD]
theorem jof {n:Nat} (hn:n ≤ 6) (p:Nat):jbM [.int n,.int p] = some (jc6 (jpG n p)):=by
  have hl:(List.range n).length ≤ 1000:=by rw [List.length_range]; omega
  have e2:=jsB n p (.tuple ((List.range n).map fun i=>.int (bit (wt n i) p:Nat))) (.list ((List.range n).map fun i=>.int (wt n i:Nat))) (List.range n) (fun i=>wt n i) (fun i=>bit (wt n i) p) (jr8 n hn) hl (fun i hi=>atr (List.mem_range.mp hi) fun i=>PyData.int (bit (wt n i) p:Nat)) (fun i hi=>atr (List.mem_range.mp hi) fun i=>PyData.int (wt n i:Nat))
  have:=jqE n p _ _ _ (jrV n p hn) (fun z3=>jsC n p _ z3 (List.range n) (fun i=>wt n i) (jr8 n hn) hl fun i hi=>jaX hn (List.mem_range.mp hi)) e2
  rw [this]
  unfold jc6 jpG
  rw [List.map_map]
  rfl
theorem sh3 (a b c:Int):MA.Sh 1 (.tuple [.int a,.int b,.int c]):=MA.Sh.tuple fun y hy=>by
  simp only [List.mem_cons,List.not_mem_nil,or_false] at hy
  rcases hy with rfl | rfl | rfl <;> exact MA.Sh.int 0 _
theorem jbL (u v:Wd):agB u v = agB v u:=by
  unfold agB
  rw [Nat.and_comm u.z v.x,Nat.and_comm u.x v.z]
  by_cases h:par (v.x &&& u.z) = par (v.z &&& u.x) <;> simp [h,eq_comm]
theorem jkA (u:Wd):agB u u = true:=by
  unfold agB
  rw [Nat.and_comm u.z u.x]
  simp
theorem jnU (u v w:Wd):agB (jba u v) w = (agB u w == agB v w):=by
  unfold agB
  show decide (par ((u.z ^^^ v.z) &&& w.x) = par ((u.x ^^^ v.x) &&& w.z)) = _
  rw [MA.jfv,MA.jfv]
  have a1:=MA.je8 (u.z &&& w.x)
  have a2:=MA.je8 (v.z &&& w.x)
  have a3:=MA.je8 (u.x &&& w.z)
  have a4:=MA.je8 (v.x &&& w.z)
  generalize par (u.z &&& w.x) = a at *
  generalize par (v.z &&& w.x) = b at *
  generalize par (u.x &&& w.z) = c at *
  generalize par (v.x &&& w.z) = d at *
  by_cases h1:a = c <;> by_cases h2:b = d <;> simp [h1,h2] <;> omega
theorem jet (u v w:Wd):agB w (jba u v) = (agB w u == agB w v):=by rw [jbL,jnU,jbL u,jbL v]
theorem jmk {u v:Wd} (hu:jhu u = true) (hv:jhu v = true) (h:agB u v = true):jhu (jba u v) = true:=by
  unfold jhu at *
  unfold agB at h
  rw [decide_eq_true_iff] at *
  show ((u.s + v.s + 2 * par (u.z &&& v.x)) % 4 + par ((u.x ^^^ v.x) &&& (u.z ^^^ v.z))) % 2 = 0
  rw [MA.jfv,MA.je7,MA.je7,Nat.and_comm v.x u.z]
  omega
structure Tb (n:Nat) (T:List (Wd × Wd)):Prop where
  good:Good n T
  inj:∀ w:Wd,w.ok n → (∀ p ∈ T,agB p.1 w = true ∧ agB p.2 w = true) → w.x = 0 ∧ w.z = 0
theorem jra:((List.range 7).all fun n=>(List.range (2 ^ n)).all fun p=>(p == 0) || (List.range n).any fun i=>bit (wt n i) p != 0) = true:=by decide +kernel
theorem jjt {n p:Nat} (hn:n ≤ 6) (hp:p < 2 ^ n) (h:∀ i,i < n → bit (wt n i) p = 0):p = 0:=by
  have q:=jra
  rw [List.all_eq_true] at q
  have q:=q n (List.mem_range.mpr (by omega))
  rw [List.all_eq_true] at q
  have q:=q p (List.mem_range.mpr hp)
  rw [Bool.or_eq_true] at q
  rcases q with q | q
  · simpa using q
  · obtain ⟨i,hi,hb⟩:=List.any_eq_true.mp q
    have:=h i (List.mem_range.mp hi)
    rw [this] at hb
    cases hb
theorem jvX {n i:Nat} (hn:n ≤ 6) (hi:i < n) {w:Wd} (hw:w.ok n) (s:Nat):agB ⟨0,wt n i,s⟩ w = decide (bit (wt n i) w.x = 0):=by
  unfold agB
  show decide (par (wt n i &&& w.x) = par (0 &&& w.z)) = _
  have:=MA.jb7 hn hi hw.1 1 (by decide)
  rw [Nat.mul_one,Nat.one_mul] at this
  rw [this,Nat.zero_and,MA.jcn]
theorem jxV {n i:Nat} (hn:n ≤ 6) (hi:i < n) {w:Wd} (hw:w.ok n) (s:Nat):agB ⟨wt n i,0,s⟩ w = decide (bit (wt n i) w.z = 0):=by
  unfold agB
  show decide (par (0 &&& w.x) = par (wt n i &&& w.z)) = _
  have:=MA.jb7 hn hi hw.2.1 1 (by decide)
  rw [Nat.mul_one,Nat.one_mul] at this
  rw [this,Nat.zero_and,MA.jcn]
  by_cases h:bit (wt n i) w.z = 0 <;> simp [h,eq_comm]
theorem jqF {n:Nat} (hn:n ≤ 6) (p:Nat):Tb n (jpG n p):=by
  refine ⟨jme hn p,fun w hw h=>?_⟩
  have at':∀ i,i < n → bit (wt n i) w.z = 0 ∧ bit (wt n i) w.x = 0:=fun i hi=>by
    obtain ⟨h1,h2⟩:=h (⟨wt n i,0,0⟩,⟨0,wt n i,2 * bit (wt n i) p⟩) (List.mem_map.mpr ⟨i,List.mem_range.mpr hi,rfl⟩)
    have h1:agB ⟨wt n i,0,0⟩ w = true:=h1
    have h2:agB ⟨0,wt n i,2 * bit (wt n i) p⟩ w = true:=h2
    rw [jxV hn hi hw] at h1
    rw [jvX hn hi hw] at h2
    exact ⟨of_decide_eq_true h1,of_decide_eq_true h2⟩
  exact ⟨jjt hn hw.1 fun i hi=>(at' i hi).2,jjt hn hw.2.1 fun i hi=>(at' i hi).1⟩
theorem jr0 {n:Nat} {r:Row} (hr:r.ok n):(MA.jku r).ok n:=by
  cases r with
  | turn j e=>exact ⟨hr.1,by have:=hr.2; omega,by have:=hr.2; omega⟩
  | _=>exact hr
theorem jnL {n:Nat} {r:Row} (hr:r.ok n) (he:jjm r):jjm (MA.jku r):=by
  cases r with
  | turn j e=>show (8 - e) % 2 = 0; have:=hr.2; have he:e % 2 = 0:=he; omega
  | _=>exact he
theorem jnM {n:Nat} {r:Row} (hr:r.ok n):MA.jku (MA.jku r) = r:=by
  cases r with
  | turn j e=>show Row.turn j (8 - (8 - e)) = _; have:=hr.2; rw [show 8 - (8 - e) = e by omega]
  | _=>rfl
theorem jnu (n:Nat) (r:Row) (w:Wd) (h1:w.x = 0) (h2:w.z = 0):(MA.carry n r w).x = 0 ∧ (MA.carry n r w).z = 0:=by
  obtain ⟨x,z,s⟩:=w
  dsimp only at h1 h2
  subst h1 h2
  cases r <;> simp [MA.carry,MA.jfi]
theorem Tb.carry {n:Nat} (hn:n ≤ 6) {r:Row} (hr:r.ok n) (he:jjm r) {T:List (Wd × Wd)} (t:Tb n T):Tb n (T.map (cT n r)):=by
  refine ⟨t.good.carry hn hr he,fun w hw h=>?_⟩
  have hb:=jr0 hr
  have hw':=MA.jfh hb hw
  have e:MA.carry n r (MA.carry n (MA.jku r) w) = w:=by
    have:=MA.jfD hb hw (jbz (jnL hr he) w)
    rwa [jnM hr] at this
  obtain ⟨a,b⟩:=t.inj (MA.carry n (MA.jku r) w) hw' fun p hp=>by
    obtain ⟨o1,o2,_⟩:=t.good.ok p hp
    obtain ⟨g1,g2⟩:=h (cT n r p) (List.mem_map.mpr ⟨p,hp,rfl⟩)
    rw [← e] at g1 g2
    exact ⟨(jgh hn hr he o1 hw').symm.trans g1,(jgh hn hr he o2 hw').symm.trans g2⟩
  have:=jnu n r _ a b
  rwa [e] at this
def agr (L K w:Wd):Wd:=if agB w L = true then w else jba w K
def agP (L K:Wd) (p:Wd × Wd):Wd × Wd:=(agr L K p.1,agr L K p.2)
theorem jnR {n:Nat} {L K w:Wd} (hw:w.ok n) (hK:K.ok n):(agr L K w).ok n:=by
  unfold agr
  split
  · exact hw
  · exact MA.jcs hw hK
theorem jpB {L K w:Wd} (h:agB K L = false):agB (agr L K w) L = true:=by
  unfold agr
  split
  · assumption
  · rename_i h2
    rw [jnU,h,Bool.eq_false_iff.mpr h2]
    rfl
theorem jlS {L K w v:Wd} (h:agB K v = true):agB (agr L K w) v = agB w v:=by
  unfold agr
  split
  · rfl
  · rw [jnU,h]
    cases agB w v <;> rfl
theorem jnQ {L K w v:Wd} (hw:agB K w = true) (hv:agB K v = true):agB (agr L K w) (agr L K v) = agB w v:=by
  have h1:agB K (agr L K v) = true:=by rw [jbL,jlS (jkA K),jbL]; exact hv
  rw [jlS h1,jbL,jlS hw,jbL]
theorem jr3 {L K w:Wd} (hw:jhu w = true) (hK:jhu K = true) (h:agB w K = true):jhu (agr L K w) = true:=by
  unfold agr
  split
  · exact hw
  · exact jmk hw hK h
theorem jiX {α β:Type} {T:List α} {f:α → β} {k i:Nat} {x q:β} (h:((T.map f).set k x)[i]? = some q):(i = k ∧ q = x) ∨ (i ≠ k ∧ ∃ p,T[i]? = some p ∧ q = f p):=by
  by_cases hi:k = i
  · subst hi
    rw [List.getElem?_set] at h
    simp only [if_true] at h
    split at h
    · cases h; exact .inl ⟨rfl,rfl⟩
    · cases h
  · rw [List.getElem?_set_ne hi,List.getElem?_map] at h
    obtain ⟨p,hp,rfl⟩:=Option.map_eq_some_iff.mp h
    exact .inr ⟨fun z=>hi z.symm,p,hp,rfl⟩
theorem jvY {u v w:Wd} (h1:u.x = v.x) (h2:u.z = v.z):agB u w = agB v w:=by
  unfold agB
  rw [h1,h2]
theorem jc5 {a b:Nat} (h:a ^^^ b = 0):a = b:=by
  have:(a ^^^ b) ^^^ b = b:=by rw [h,Nat.zero_xor]
  rwa [Nat.xor_assoc,Nat.xor_self,Nat.xor_zero] at this
theorem Tb.opened {n:Nat} {T:List (Wd × Wd)} (t:Tb n T) {k:Nat} {p:Wd × Wd} (hk:T[k]? = some p) {L:Wd} (hL:L.ok n) (sL:jhu L = true) (hA:agB p.2 L = false):Tb n ((T.map (agP L p.2)).set k (p.2,L)):=by
  have okp:=t.good.ok p (List.mem_of_getElem? hk)
  have hklt:k < T.length:=(List.getElem?_eq_some_iff.mp hk).1
  have sK:∀ (i:Nat) (q:Wd × Wd),T[i]? = some q → agB p.2 q.2 = true:=fun i q hq=>(t.good.ag k i p q hk hq).1
  have dK:∀ (i:Nat) (q:Wd × Wd),i ≠ k → T[i]? = some q → agB p.2 q.1 = true:=fun i q hi hq=>by
    have:=(t.good.ag i k q p hq hk).2
    rw [jbL,this]
    simp [hi]
  refine ⟨⟨by rw [List.length_set,List.length_map]; exact t.good.len,fun q hq=>?_,fun i j q r hq hr=>?_⟩,fun w hw h=>?_⟩
  · obtain ⟨i,hi⟩:=List.mem_iff_getElem?.mp hq
    rcases jiX hi with ⟨_,rfl⟩ | ⟨_,q',hq',rfl⟩
    · exact ⟨okp.2.1,hL,sL⟩
    · have o:=t.good.ok q' (List.mem_of_getElem? hq')
      exact ⟨jnR o.1 okp.2.1,jnR o.2.1 okp.2.1,jr3 o.2.2 okp.2.2 (by rw [jbL]; exact sK i q' hq')⟩
  · rcases jiX hq with ⟨rfl,rfl⟩ | ⟨hi,q',hq',rfl⟩
    · rcases jiX hr with ⟨rfl,rfl⟩ | ⟨hj,r',hr',rfl⟩
      · exact ⟨jkA L,by show agB p.2 L = _; rw [hA]; simp⟩
      · refine ⟨by show agB L (agr L p.2 r'.2) = true; rw [jbL]; exact jpB hA,?_⟩
        show agB p.2 (agr L p.2 r'.2) = _
        rw [jbL,jlS (jkA _),jbL,sK j r' hr']
        simp [Ne.symm hj]
    · rcases jiX hr with ⟨rfl,rfl⟩ | ⟨hj,r',hr',rfl⟩
      · exact ⟨jpB hA,by show agB (agr L p.2 q'.1) L = _; rw [jpB hA]; simp [hi]⟩
      · have g:=t.good.ag i j q' r' hq' hr'
        exact ⟨(jnQ (sK i q' hq') (sK j r' hr')).trans g.1,(jnQ (dK i q' hi hq') (sK j r' hr')).trans g.2⟩
  · have hself:=h (p.2,L) (List.mem_iff_getElem?.mpr ⟨k,by rw [List.getElem?_set,if_pos rfl,if_pos (by simpa using hklt)]⟩)
    have hK:agB p.2 w = true:=hself.1
    have hLw:agB L w = true:=hself.2
    have oth:∀ (i:Nat) (q:Wd × Wd),i ≠ k → T[i]? = some q → agB q.1 w = true ∧ agB q.2 w = true:=fun i q hi hq=>by
      obtain ⟨g1,g2⟩:=h (agP L p.2 q) (List.mem_iff_getElem?.mpr ⟨i,by rw [List.getElem?_set_ne (Ne.symm hi),List.getElem?_map,hq]; rfl⟩)
      exact ⟨(jlS hK).symm.trans g1,(jlS hK).symm.trans g2⟩
    have all2:∀ q ∈ T,agB q.2 w = true:=fun q hq=>by
      obtain ⟨i,hi⟩:=List.mem_iff_getElem?.mp hq
      by_cases hik:i = k
      · subst hik; rw [hk] at hi; cases hi; exact hK
      · exact (oth i q hik hi).2
    cases hb:agB p.1 w with
    | true=>
      refine t.inj w hw fun q hq=>⟨?_,all2 q hq⟩
      obtain ⟨i,hi⟩:=List.mem_iff_getElem?.mp hq
      by_cases hik:i = k
      · subst hik; rw [hk] at hi; cases hi; exact hb
      · exact (oth i q hik hi).1
    | false=>
      exfalso
      obtain ⟨v1,v2⟩:=t.inj (jba w p.2) (MA.jcs hw okp.2.1) fun q hq=>by
        obtain ⟨i,hi⟩:=List.mem_iff_getElem?.mp hq
        have e2:agB q.2 (jba w p.2) = true:=by
          rw [jet,all2 q hq,jbL,sK i q hi]
          rfl
        refine ⟨?_,e2⟩
        rw [jet,(t.good.ag i k q p hi hk).2]
        by_cases hik:i = k
        · subst hik; rw [hk] at hi; cases hi; rw [hb]; simp
        · rw [(oth i q hik hi).1]; simp [hik]
      have:=jvY (w:=L) (jc5 v1) (jc5 v2)
      rw [hA,jbL,hLw] at this
      cases this
def sx (T:List (Wd × Wd)) (i:Nat):Wd:=(T[i]?.getD (⟨0,0,0⟩,⟨0,0,0⟩)).2
def dx (T:List (Wd × Wd)) (i:Nat):Wd:=(T[i]?.getD (⟨0,0,0⟩,⟨0,0,0⟩)).1
theorem jjR {T:List (Wd × Wd)} {i:Nat} {p:Wd × Wd} (h:T[i]? = some p):sx T i = p.2 ∧ dx T i = p.1:=by
  unfold sx dx
  rw [h]
  exact ⟨rfl,rfl⟩
def prI (T:List (Wd × Wd)) (I:List Nat):Wd:=I.foldl (fun a i=>jba a (sx T i)) ⟨0,0,0⟩
def kpI (T:List (Wd × Wd)) (w:Wd) (m:Nat):List Nat:=(List.range m).filter fun i=>!agB (dx T i) w
theorem jqV (T:List (Wd × Wd)) (I:List Nat) (i:Nat):prI T (I ++ [i]) = jba (prI T I) (sx T i):=by
  unfold prI
  rw [List.foldl_append]
  rfl
theorem jjN (n:Nat):(⟨0,0,0⟩:Wd).ok n:=⟨Nat.pow_pos (by decide),Nat.pow_pos (by decide),by decide⟩
theorem jnT (u:Wd):agB u ⟨0,0,0⟩ = true:=by unfold agB; simp
theorem jjX {n:Nat} {T:List (Wd × Wd)} (t:Tb n T) (w:Wd):∀ m,m ≤ n → (prI T (kpI T w m)).ok n ∧ jhu (prI T (kpI T w m)) = true ∧ (∀ p ∈ T,agB p.2 (prI T (kpI T w m)) = true) ∧ ∀ (j:Nat) (p:Wd × Wd),T[j]? = some p → agB p.1 (prI T (kpI T w m)) = (agB p.1 w || !decide (j < m))
  | 0,_=>⟨jjN n,(str_iff.mpr (by show jba ⟨0,0,0⟩ ⟨0,0,0⟩ = _; unfold jba; simp [MA.jcn])),fun p _=>jnT _,fun j p _=>by
      show agB p.1 ⟨0,0,0⟩ = _
      rw [jnT]; simp⟩
  | m + 1,hm=>by
    obtain ⟨h1,h2,h3,h4⟩:=jjX t w m (by omega)
    have hlt:m < T.length:=by rw [t.good.len]; omega
    have hq:T[m]? = some T[m]:=by simp [hlt]
    obtain ⟨e1,e2⟩:=jjR hq
    have oq:=t.good.ok T[m] (List.getElem_mem hlt)
    cases hc:agB (dx T m) w with
    | true=>
      have e:kpI T w (m + 1) = kpI T w m:=by
        unfold kpI
        rw [List.range_succ,List.filter_append]
        simp [hc]
      rw [e]
      refine ⟨h1,h2,h3,fun j p hp=>?_⟩
      rw [h4 j p hp]
      by_cases hj:j = m
      · subst hj; rw [hq] at hp; cases hp; rw [e2] at hc; rw [hc]; rfl
      · have:(j < m + 1) = (j < m):=by simp; omega
        simp [this]
    | false=>
      have e:kpI T w (m + 1) = kpI T w m ++ [m]:=by
        unfold kpI
        rw [List.range_succ,List.filter_append]
        simp [hc]
      rw [e,jqV,e1]
      refine ⟨MA.jcs h1 oq.2.1,jmk h2 oq.2.2 (by rw [jbL]; exact h3 T[m] (List.getElem_mem hlt)),fun p hp=>?_,fun j p hp=>?_⟩
      · obtain ⟨i,hi⟩:=List.mem_iff_getElem?.mp hp
        rw [jet,h3 p hp,(t.good.ag i m p T[m] hi hq).1]; rfl
      · rw [jet,h4 j p hp,(t.good.ag j m p T[m] hp hq).2]
        by_cases hj:j = m
        · subst hj
          rw [hq] at hp; cases hp
          rw [e2] at hc
          rw [hc]
          simp
        · have:(j < m + 1) = (j < m):=by simp; omega
          simp [this,hj]
theorem jsV {n:Nat} {T:List (Wd × Wd)} (t:Tb n T) {w:Wd} (hw:w.ok n) (hA:∀ p ∈ T,agB p.2 w = true):(prI T (kpI T w n)).x = w.x ∧ (prI T (kpI T w n)).z = w.z:=by
  obtain ⟨h1,h2,h3,h4⟩:=jjX t w n (Nat.le_refl _)
  obtain ⟨a,b⟩:=t.inj (jba (prI T (kpI T w n)) w) (MA.jcs h1 hw) fun p hp=>by
    obtain ⟨i,hi⟩:=List.mem_iff_getElem?.mp hp
    have hil:i < n:=by rw [← t.good.len]; exact (List.getElem?_eq_some_iff.mp hi).1
    refine ⟨?_,by rw [jet,h3 p hp,hA p hp]; rfl⟩
    rw [jet,h4 i p hi]
    simp [hil]
  exact ⟨jc5 a,jc5 b⟩
def lkW (n j m:Nat):Wd:=⟨0,wt n j,2 * m⟩
theorem jj9 {n j m:Nat} (hj:j < n) (hm:m < 2):(lkW n j m).ok n:=⟨Nat.pow_pos (by decide),MA.jl0 hj,by show 2 * m < 4; omega⟩
theorem jtn (n j m:Nat):jhu (lkW n j m) = true:=by
  unfold jhu
  rw [decide_eq_true_iff]
  show (2 * m + par (0 &&& wt n j)) % 2 = 0
  rw [Nat.zero_and,MA.jcn]; omega
theorem jsv {n:Nat} {T:List (Wd × Wd)} (t:Tb n T) {j:Nat} (hj:j < n) (hA:∀ p ∈ T,agB p.2 (lkW n j 0) = true):∃ m,m < 2 ∧ prI T (kpI T (lkW n j 0) n) = lkW n j m:=by
  obtain ⟨e1,e2⟩:=jsV t (jj9 hj (m:=0) (by decide)) hA
  obtain ⟨h1,h2,_,_⟩:=jjX t (lkW n j 0) n (Nat.le_refl _)
  have e1:(prI T (kpI T (lkW n j 0) n)).x = 0:=e1
  have e2:(prI T (kpI T (lkW n j 0) n)).z = wt n j:=e2
  unfold jhu at h2
  rw [decide_eq_true_iff,e1,Nat.zero_and,MA.jcn] at h2
  have h3:=h1.2.2
  refine ⟨(prI T (kpI T (lkW n j 0) n)).s / 2,by omega,MA.jcJ e1 e2 ?_⟩
  show (prI T (kpI T (lkW n j 0) n)).s = 2 * ((prI T (kpI T (lkW n j 0) n)).s / 2)
  omega
theorem jiG (u v:Wd) {n:Nat} (hn:n ≤ 6) (hu:u.ok n) (hv:v.ok n):jce [wdD u,wdD v] = some (.bool (agB u v)):=by
  have e1:=jeX u v hn hu hv
  have e2:=jeX v u hn hv hu
  have e3:eqD (wdD (jba u v)) (wdD (jba v u)) = some (.bool (agB u v)):=by
    unfold wdD
    rw [jl8]
    have a1:=MA.je8 (u.z &&& v.x)
    have a2:=MA.je8 (v.z &&& u.x)
    unfold jba agB
    rw [Nat.xor_comm v.x u.x,Nat.xor_comm v.z u.z,Nat.and_comm u.x v.z]
    simp only [beq_self_eq_true,Bool.true_and]
    congr 2
    rw [Bool.eq_iff_iff]
    simp only [beq_iff_eq,decide_eq_true_iff]
    omega
  simp [jce,runB,jkx,jal,e1,e2,e3]
theorem jka {n:Nat} {T:List (Wd × Wd)} (g:Good n T):jdT [jc6 T] = some (.int (n:Int)):=by
  show some (PyData.int _) = _; rw [List.length_map,g.len]
theorem jxp (F:D) (n j m w q:Int) (ln:jdT [F] = some (.int n)) (h:jbp [.int n,.int j] = some (.int w)) (hm:IntMulOk 2 m) (hq:2 * m = q):jaC [F,.int j,.int m] = some (.tuple [.int 0,.int w,.int q]):=by
  simp [jaC,runB,jeS,jal,ln,h,hm,hq]
theorem jlz {n:Nat} (hn:n ≤ 6) {T:List (Wd × Wd)} (g:Good n T) {j m:Nat} (hj:j < n) (hm:m < 2):jaC [jc6 T,.int j,.int m] = some (wdD (lkW n j m)):=
  jxp _ n j m _ _ (jka g) (jaX hn hj) (.of_left (by decide +kernel)) (by show 2 * (m:Int) = ((2 * m:Nat):Int); push_cast; rfl)
theorem jkK {T:List (Wd × Wd)} {i:Nat} (hi:i < T.length):ixD (jc6 T) (.int (i:Int)) = some (prD T[i]):=jde (j:=i) rfl (by simp [hi])
def agI (T:List (Wd × Wd)) (w:Wd) (n:Nat):List Nat:=(List.range n).filter fun i=>!agB (sx T i) w
theorem jxW (F W:D) (n:Int) (N:Nat) (hN:N ≤ 1000) (b:Nat → Bool) (ln:jdT [F] = some (.int n)) (rg:jbm [.int n] = some ((List.range N).map fun (k:Nat)=>PyData.int (k:Int))) (H:∀ i,i < N → ∃ P U:D,ixD F (.int (i:Nat)) = some P ∧ ixD P (.int 1) = some U ∧ jce [U,W] = some (.bool (b i))):jax [F,W] = some (.list (((List.range N).filter fun i=>!b i).map fun (k:Nat)=>PyData.int (k:Int))):=by
  have p:jd2 [.fz F,.fz W] = some (.list (((List.range N).filter fun i=>!b i).map fun (k:Nat)=>PyData.int (k:Int))):=jgN (h:=fun (k:Nat)=>PyData.int (k:Int)) (k:=fun (k:Nat)=>PyData.int (k:Int)) (b:=fun i=>!b i) (xs:=List.range N) (by simp [ln,rg]) (by rw [List.length_range]; omega) (fun i hi=>by
    obtain ⟨P,U,h1,h2,h3⟩:=H i (List.mem_range.mp hi)
    simp [capS,h1,h2,h3]) (fun i hi _=>by simp)
  simp [jax,runB,jdo,jal,p]
theorem jxz (F W:D) (n:Int) (N:Nat) (hN:N ≤ 1000) (b:Nat → Bool) (ln:jdT [F] = some (.int n)) (rg:jbm [.int n] = some ((List.range N).map fun (k:Nat)=>PyData.int (k:Int))) (H:∀ i,i < N → ∃ P U:D,ixD F (.int (i:Nat)) = some P ∧ ixD P (.int 0) = some U ∧ jce [U,W] = some (.bool (b i))):jbf [F,W] = some (.list (((List.range N).filter fun i=>!b i).map fun (k:Nat)=>PyData.int (k:Int))):=by
  have p:jex [.fz F,.fz W] = some (.list (((List.range N).filter fun i=>!b i).map fun (k:Nat)=>PyData.int (k:Int))):=jgN (h:=fun (k:Nat)=>PyData.int (k:Int)) (k:=fun (k:Nat)=>PyData.int (k:Int)) (b:=fun i=>!b i) (xs:=List.range N) (by simp [ln,rg]) (by rw [List.length_range]; omega) (fun i hi=>by
    obtain ⟨P,U,h1,h2,h3⟩:=H i (List.mem_range.mp hi)
    simp [capS,h1,h2,h3]) (fun i hi _=>by simp)
  simp [jbf,runB,jdK,jal,p]
theorem jiH {n:Nat} (hn:n ≤ 6) {T:List (Wd × Wd)} (g:Good n T) {w:Wd} (hw:w.ok n):jax [jc6 T,wdD w] = some (.list ((agI T w n).map fun (k:Nat)=>PyData.int (k:Int))):=by
  refine jxW _ _ n n (by omega) (fun i=>agB (sx T i) w) (jka g) (jr8 n hn) fun i hi=>?_
  have hi':i < T.length:=by rw [g.len]; exact hi
  refine ⟨_,_,jkK hi',pr1 _,?_⟩
  rw [(jjR (List.getElem?_eq_getElem hi')).1]
  exact jiG _ _ hn (g.ok _ (List.getElem_mem hi')).2.1 hw
theorem jlD {n:Nat} (hn:n ≤ 6) {T:List (Wd × Wd)} (g:Good n T) {w:Wd} (hw:w.ok n):jbf [jc6 T,wdD w] = some (.list ((kpI T w n).map fun (k:Nat)=>PyData.int (k:Int))):=by
  refine jxz _ _ n n (by omega) (fun i=>agB (dx T i) w) (jka g) (jr8 n hn) fun i hi=>?_
  have hi':i < T.length:=by rw [g.len]; exact hi
  refine ⟨_,_,jkK hi',pr0 _,?_⟩
  rw [(jjR (List.getElem?_eq_getElem hi')).2]
  exact jiG _ _ hn (g.ok _ (List.getElem_mem hi')).1 hw
theorem jr4 {n:Nat} {T:List (Wd × Wd)} (g:Good n T) {w:Wd} (h:agI T w n = []):∀ p ∈ T,agB p.2 w = true:=fun p hp=>by
  obtain ⟨i,hi⟩:=List.mem_iff_getElem?.mp hp
  have hil:i < n:=by rw [← g.len]; exact (List.getElem?_eq_some_iff.mp hi).1
  cases e:agB p.2 w with
  | true=>rfl
  | false=>
    have:i ∈ agI T w n:=List.mem_filter.mpr ⟨List.mem_range.mpr hil,by rw [(jjR hi).1,e]; rfl⟩
    rw [h] at this
    cases this
theorem jld {n:Nat} {T:List (Wd × Wd)} (g:Good n T) {w:Wd} {k:Nat} {I:List Nat} (h:agI T w n = k :: I):∃ p,T[k]? = some p ∧ agB p.2 w = false ∧ k < n:=by
  have hk:k ∈ agI T w n:=by rw [h]; exact List.mem_cons_self
  obtain ⟨h1,h2⟩:=List.mem_filter.mp hk
  have h1:=List.mem_range.mp h1
  have hl:k < T.length:=by rw [g.len]; exact h1
  refine ⟨T[k],List.getElem?_eq_getElem hl,?_,h1⟩
  rw [(jjR (List.getElem?_eq_getElem hl)).1] at h2
  simpa using h2
theorem jru (I:List Nat):MA.Sh 1 (.list (I.map fun (k:Nat)=>PyData.int (k:Int))):=MA.Sh.list fun x hx=>by
  obtain ⟨i,_,rfl⟩:=List.mem_map.mp hx
  exact .int _ _
theorem jpI {d:D} {k:Nat} (h:MA.Sh k d) (hk:k ≤ 64):shp d = true:=by
  show (d.canLay0 && decide (d.depth ≤ 64)) = true
  rw [h.1,decide_eq_true (Nat.le_trans h.2 hk)]; rfl
theorem jrc (k:Nat) (I:List Nat):neD (.list ((k :: I).map fun (k:Nat)=>PyData.int (k:Int))) (.list []) = some (.bool true):=by
  unfold neD
  rw [if_pos ⟨jpI (jru _) (by decide),by rfl⟩]
  rfl
theorem jtl:neD (.list ([].map fun (k:Nat)=>PyData.int (k:Int))) (.list []) = some (.bool false):=by rfl
theorem jrf (F W A:D) (j:Int) (h1:jaC [F,.int j,.int 0] = some W) (h2:jax [F,W] = some A) (ne:neD A (.list []) = some (.bool true)):jar [F,.int j] = some .none:=by
  simp [-sSeq,-sIf,jav,jaV,jar,runB,jdJ,jal,h1,h2,ne]
theorem jvq (F P V A B:D) (z1 z2:Sl) (k:Int) (h1:ixD F (.int k) = some P) (h2:ixD P (.int 1) = some V) (h3:jaD [A,V] = some B):jcA [.fz F,z1,z2,.fz A,.fz (.int k)] = some (.nx,[.fz F,z1,z2,.fz B,.fz (.int k)]):=by
  simp [jcA,h1,h2,h3]
theorem jkZ {n:Nat} (hn:n ≤ 6) {T:List (Wd × Wd)} (g:Good n T) (z1 z2:Sl):∀ (I:List Nat),(∀ i ∈ I,i < n) → ∀ (a:Wd),a.ok n → ∀ z4,∃ y4,loop (gN 4) jcA (I.map fun (k:Nat)=>PyData.int (k:Int)) [.fz (jc6 T),z1,z2,.fz (wdD a),z4] = some (.nx,[.fz (jc6 T),z1,z2,.fz (wdD (I.foldl (fun a i=>jba a (sx T i)) a)),y4])
  | [],_,a,_,z4=>⟨z4,rfl⟩
  | i :: I,hI,a,ha,z4=>by
    have hi:i < T.length:=by rw [g.len]; exact hI i List.mem_cons_self
    have e1:=(jjR (List.getElem?_eq_getElem hi)).1
    have ok:=(g.ok _ (List.getElem_mem hi)).2.1
    obtain ⟨y4,e⟩:=jkZ hn g z1 z2 I (fun j hj=>hI j (List.mem_cons_of_mem _ hj)) (jba a (sx T i)) (by rw [e1]; exact MA.jcs ha ok) (.fz (.int i))
    refine ⟨y4,?_⟩
    rw [List.map_cons,jbo (δ1:=[.fz (jc6 T),z1,z2,.fz (wdD a),.fz (.int i)]) (by simp) (jvq _ _ _ _ _ z1 z2 i (jkK hi) (pr1 _) (jeX a T[i].2 hn ha ok)),← e1,e]
    rfl
theorem jre (F W A P:D) (j:Int) (L:List D) (y4:Sl) (b:Bool) (h1:jaC [F,.int j,.int 0] = some W) (h2:jax [F,W] = some A) (ne:neD A (.list []) = some (.bool false)) (h3:jbf [F,W] = some (.list L)) (lp:loop (gN 4) jcA L [.fz F,.fz (.int j),.fz W,.fz (.tuple [.int 0,.int 0,.int 0]),.un] = some (.nx,[.fz F,.fz (.int j),.fz W,.fz P,y4])) (q:eqD P W = some (.bool b)):jar [F,.int j] = some (.int (if b = true then 0 else 1)):=by
  cases b <;> simp [-sSeq,-sIf,jav,jaV,jar,runB,jdJ,jal,h1,h2,ne,h3,lp,q]
theorem jqf {T:List (Wd × Wd)} {w:Wd} {n i:Nat} (h:i ∈ kpI T w n):i < n:=List.mem_range.mp (List.mem_filter.mp h).1
theorem jgn {n:Nat} (hn:n ≤ 6) {T:List (Wd × Wd)} (g:Good n T) {j k:Nat} (hj:j < n) {I:List Nat} (h:agI T (lkW n j 0) n = k :: I):jar [jc6 T,.int j] = some .none:=
  jrf _ _ _ j (jlz hn g hj (m:=0) (by decide)) (jiH hn g (jj9 hj (by decide))) (by rw [h]; exact jrc k I)
theorem jiQ {n:Nat} (hn:n ≤ 6) {T:List (Wd × Wd)} (t:Tb n T) {j:Nat} (hj:j < n) (h:agI T (lkW n j 0) n = []):∃ m,m < 2 ∧ prI T (kpI T (lkW n j 0) n) = lkW n j m ∧ jar [jc6 T,.int j] = some (.int (m:Nat)):=by
  obtain ⟨m,hm,e⟩:=jsv t hj (jr4 t.good h)
  refine ⟨m,hm,e,?_⟩
  obtain ⟨y4,lp⟩:=jkZ hn t.good (.fz (.int j)) (.fz (wdD (lkW n j 0))) (kpI T (lkW n j 0) n) (fun i hi=>jqf hi) ⟨0,0,0⟩ (jjN n) .un
  have e2:(kpI T (lkW n j 0) n).foldl (fun a i=>jba a (sx T i)) ⟨0,0,0⟩ = lkW n j m:=e
  rw [e2] at lp
  have q:eqD (wdD (lkW n j m)) (wdD (lkW n j 0)) = some (.bool (decide (m = 0))):=by
    unfold wdD
    rw [jl8]
    have:(((2 * m:Nat):Int) == ((2 * 0:Nat):Int)) = decide (m = 0):=by
      rw [Bool.eq_iff_iff,beq_iff_eq,decide_eq_true_iff]; omega
    show some (PyData.bool ((0:Int) == 0 && ((wt n j:Int) == (wt n j:Int) && (((2 * m:Nat):Int) == ((2 * 0:Nat):Int))))) = _
    rw [this]; simp
  have:=jre _ _ _ _ j _ y4 _ (jlz hn t.good hj (m:=0) (by decide)) (jiH hn t.good (jj9 hj (by decide))) (by rw [h]; exact jtl) (jlD hn t.good (jj9 hj (by decide))) lp q
  rw [this]
  have hm2:m = 0 ∨ m = 1:=by omega
  rcases hm2 with rfl | rfl <;> rfl
theorem jvW (U L K V:D) (b:Bool) (h1:jce [U,L] = some (.bool b)) (h2:jaD [U,K] = some V):jbZ [U,L,K] = some (if b = true then U else V):=by
  cases b <;> simp [jbZ,runB,jfI,jal,h1,h2]
theorem jqp {n:Nat} (hn:n ≤ 6) {w L K:Wd} (hw:w.ok n) (hL:L.ok n) (hK:K.ok n):jbZ [wdD w,wdD L,wdD K] = some (wdD (agr L K w)):=by
  rw [jvW _ _ _ _ _ (jiG w L hn hw hL) (jeX w K hn hw hK)]
  unfold agr
  split <;> rfl
theorem jxd (F L K P:D) (k:Int) (N N':List D) (hk:ixD F (.int k) = some P) (h1:ixD P (.int 1) = some K) (hp:∀ z4,jgs [.fz F,.fz (.int k),.fz L,.fz K,z4] = some (.list N)) (pt:ju6 N (.int k) (.tuple [K,L]) = some N'):jco [F,.int k,L] = some (.tuple N'):=by
  rw [jh2] at pt
  simp [-sSeq,-sIf,jav,jaV,jco,runB,jiD,jal,hk,h1,hp,pt,oLi,jul,dFz]
theorem jtx {N i:Nat} (h:i < N):ixN N (i:Int) = some i:=by
  unfold ixN
  simp
  omega
theorem jmH {n:Nat} (hn:n ≤ 6) {T:List (Wd × Wd)} (g:Good n T) {k:Nat} {p:Wd × Wd} (hk:T[k]? = some p) {L:Wd} (hL:L.ok n):jco [jc6 T,.int k,wdD L] = some (jc6 ((T.map (agP L p.2)).set k (p.2,L))):=by
  have hkl:k < T.length:=(List.getElem?_eq_some_iff.mp hk).1
  have ep:T[k] = p:=by rw [List.getElem?_eq_getElem hkl] at hk; exact Option.some.inj hk
  have okp:=(g.ok p (List.mem_of_getElem? hk)).2.1
  have hp:∀ z4,jgs [.fz (jc6 T),.fz (.int k),.fz (wdD L),.fz (wdD p.2),z4] = some (.list (T.map fun q=>prD (agP L p.2 q))):=fun z4=>jcO (h:=prD) (k:=fun q=>prD (agP L p.2 q)) (xs:=T) (by simp [jc6]) (by rw [g.len]; omega) fun q hq=>by
    obtain ⟨a,b,_⟩:=g.ok q hq
    have c1:=jqp hn a hL okp
    have c2:=jqp hn b hL okp
    simp [capS,pr0,pr1,c1,c2,prD,agP]
  have t1:=jkK (T:=T) hkl
  rw [ep] at t1
  have:=jxd _ (wdD L) _ _ k _ ((T.map fun q=>prD (agP L p.2 q)).set k (prD (p.2,L))) t1 (pr1 p) hp (by
    rw [jh2,List.length_map,jtx hkl]; rfl)
  rw [this]
  unfold jc6
  rw [List.map_set,List.map_map]
  rfl
theorem jqC (F W A G:D) (j m k:Int) (h0:jar [F,.int j] = some .none) (h1:jaC [F,.int j,.int m] = some W) (h2:jax [F,W] = some A) (h3:ixD A (.int 0) = some (.int k)) (h4:jco [F,.int k,W] = some G):jap [F,.int j,.int m] = some G:=by
  simp [-sSeq,-sIf,jav,jaV,jap,runB,jcq,jal,h0,h1,h2,h3,h4,isD]
theorem jmd (F W:D) (j m:Int) (h0:jar [F,.int j] = some (.int m)) (h1:jaC [F,.int j,.int m] = some W):jap [F,.int j,.int m] = some F:=by
  simp [-sSeq,-sIf,jav,jaV,jap,runB,jcq,jal,h0,h1,isD]
theorem jgC {n:Nat} (hn:n ≤ 6) {T:List (Wd × Wd)} (g:Good n T) {j m k:Nat} (hj:j < n) (hm:m < 2) {I:List Nat} (h:agI T (lkW n j 0) n = k :: I) {p:Wd × Wd} (hk:T[k]? = some p):jap [jc6 T,.int j,.int m] = some (jc6 ((T.map (agP (lkW n j m) p.2)).set k (p.2,lkW n j m))):=by
  have ha:=jiH hn g (jj9 (m:=m) hj hm)
  have e:agI T (lkW n j m) n = k :: I:=h
  rw [e] at ha
  exact jqC _ _ _ _ j m k (jgn hn g hj h) (jlz hn g hj hm) ha (jde (j:=0) rfl rfl) (jmH hn g hk (jj9 hj hm))
section
variable (c w j t s:Int) (hj:jdu (.int (c / 6)) (.int w) = some (.int j))
include hj
theorem jm2 (hk:(if w = 1 then atI [PyData.str "swing",.str "turn",.str "flip"] (c % 3) else atI [PyData.str "swing",.str "turn",.str "flip",.str "tie",.str "sign",.str "cross"] (c % 6)) = some (.str "turn")) (k0:∃ d,atI [PyData.str "swing",.str "turn",.str "flip",.str "tie",.str "sign",.str "cross"] (c % 6) = some d):ja0 [.int c,.int w] = some (.tuple [.str "turn",.int j,.int (2 + 2 * (c / 36 % 3))]):=by
  have im:IntMulOk 2 (c / 36 % 3):=.of_left (by decide +kernel)
  obtain ⟨d,k0⟩:=k0
  by_cases q:w = 1
  · rw [if_pos q] at hk
    subst q
    simp [-sSeq,-sIf,jav,jaV,ja0,runB,jch,jal,k0,hk,hj,im]
  · rw [if_neg q] at hk
    simp [-sSeq,-sIf,jav,jaV,ja0,runB,jch,jal,hk,q,hj,im]
theorem jk1 (x:Str) (hx:x = "swing" ∨ x = "flip") (hk:(if w = 1 then atI [PyData.str "swing",.str "turn",.str "flip"] (c % 3) else atI [PyData.str "swing",.str "turn",.str "flip",.str "tie",.str "sign",.str "cross"] (c % 6)) = some (.str x)) (k0:∃ d,atI [PyData.str "swing",.str "turn",.str "flip",.str "tie",.str "sign",.str "cross"] (c % 6) = some d):ja0 [.int c,.int w] = some (.tuple [.str x,.int j]):=by
  obtain ⟨d,k0⟩:=k0
  by_cases q:w = 1
  · rw [if_pos q] at hk
    subst q
    rcases hx with rfl | rfl <;> simp [-sSeq,-sIf,jav,jaV,ja0,runB,jch,jal,k0,hk,hj]
  · rw [if_neg q] at hk
    rcases hx with rfl | rfl <;> simp [-sSeq,-sIf,jav,jaV,ja0,runB,jch,jal,hk,q,hj]
theorem jm1 (q:¬ w = 1) (x:Str) (hx:x = "tie" ∨ x = "sign" ∨ x = "cross") (hk:atI [PyData.str "swing",.str "turn",.str "flip",.str "tie",.str "sign",.str "cross"] (c % 6) = some (.str x)) (ht:jdu (.int (c / 36)) (.int (w - 1)) = some (.int t)) (hs:jdu (.int (j + 1 + t)) (.int w) = some (.int s)):ja0 [.int c,.int w] = some (.tuple [.str x,.int j,.int s]):=by
  rcases hx with rfl | rfl | rfl <;> simp [-sSeq,-sIf,jav,jaV,ja0,runB,jch,jal,hk,q,hj,ht,hs]
end
theorem jrg (c:Int) (w:Nat) (hw:1 ≤ w):∃ r:Row,r.ok w ∧ jjj r = false ∧ ja0 [.int c,.int w] = some (rowD r):=by
  have hw0:(0:Int) < w:=by omega
  have a1:=Int.emod_nonneg (c / 6) (show (w:Int) ≠ 0 by omega)
  have a2:=Int.emod_lt_of_pos (c / 6) hw0
  obtain ⟨j,hj⟩:∃ j:Nat,c / 6 % w = j:=⟨(c / 6 % w).toNat,by omega⟩
  have ej:=jeq (i:=c / 6) hw0
  rw [hj] at ej a1 a2
  obtain ⟨e,he⟩:∃ e:Nat,2 + 2 * (c / 36 % 3) = (e:Int):=⟨(2 + 2 * (c / 36 % 3)).toNat,by omega⟩
  have e20:e % 2 = 0:=by omega
  have eo:jjj (.turn j e) = false:=by
    show (e % 2 == 1) = false
    rw [e20]; rfl
  have c6:c % 6 = 0 ∨ c % 6 = 1 ∨ c % 6 = 2 ∨ c % 6 = 3 ∨ c % 6 = 4 ∨ c % 6 = 5:=by omega
  have k0:∃ d,atI [PyData.str "swing",.str "turn",.str "flip",.str "tie",.str "sign",.str "cross"] (c % 6) = some d:=by
    rcases c6 with h | h | h | h | h | h <;> rw [h]
    · exact ⟨_,at0 _ _⟩
    · exact ⟨_,at1 _ _ _⟩
    · exact ⟨_,at2 _ _ _ _⟩
    · exact ⟨_,at3 _ _ _ _ _⟩
    · exact ⟨_,at4 _ _ _ _ _ _⟩
    · exact ⟨_,at5 _ _ _ _ _ _ _⟩
  have ok1:j < w:=by omega
  have okT:j < w ∧ 1 ≤ e ∧ e ≤ 7:=by omega
  by_cases q:w = 1
  · have q':(w:Int) = 1:=by omega
    have:c % 3 = 0 ∨ c % 3 = 1 ∨ c % 3 = 2:=by omega
    rcases this with h | h | h
    · exact ⟨.swing j,ok1,rfl,jk1 c w j ej "swing" (.inl rfl) (by rw [if_pos q',h]; exact at0 _ _) k0⟩
    · have:=jm2 c w j ej (by rw [if_pos q',h]; exact at1 _ _ _) k0
      rw [he] at this
      exact ⟨.turn j e,okT,eo,this⟩
    · exact ⟨.flip j,ok1,rfl,jk1 c w j ej "flip" (.inr rfl) (by rw [if_pos q',h]; exact at2 _ _ _ _) k0⟩
  · have q':¬ (w:Int) = 1:=by omega
    have b1:=Int.emod_nonneg (c / 36) (show (w:Int) - 1 ≠ 0 by omega)
    have b2:=Int.emod_lt_of_pos (c / 36) (show 0 < (w:Int) - 1 by omega)
    have et:=jeq (i:=c / 36) (show 0 < (w:Int) - 1 by omega)
    generalize c / 36 % ((w:Int) - 1) = t at *
    have c1:=Int.emod_nonneg ((j:Int) + 1 + t) (show (w:Int) ≠ 0 by omega)
    have c2:=Int.emod_lt_of_pos ((j:Int) + 1 + t) hw0
    have ei:=jeq (i:=(j:Int) + 1 + t) hw0
    obtain ⟨i,hi⟩:∃ i:Nat,((j:Int) + 1 + t) % w = i:=⟨(((j:Int) + 1 + t) % w).toNat,by omega⟩
    have hij:j ≠ i:=fun z=>by
      by_cases hh:(j:Int) + 1 + t < w
      · rw [Int.emod_eq_of_lt (by omega) hh] at hi; omega
      · have:((j:Int) + 1 + t) % w = (j:Int) + 1 + t - w:=by
          rw [← Int.sub_emod_right,Int.emod_eq_of_lt (by omega) (by omega)]
        omega
    rw [hi] at ei c1 c2
    have k:j < w ∧ i < w ∧ j ≠ i:=⟨by omega,by omega,hij⟩
    rcases c6 with h | h | h | h | h | h
    · exact ⟨.swing j,ok1,rfl,jk1 c w j ej "swing" (.inl rfl) (by rw [if_neg q',h]; exact at0 _ _) k0⟩
    · have:=jm2 c w j ej (by rw [if_neg q',h]; exact at1 _ _ _) k0
      rw [he] at this
      exact ⟨.turn j e,okT,eo,this⟩
    · exact ⟨.flip j,ok1,rfl,jk1 c w j ej "flip" (.inr rfl) (by rw [if_neg q',h]; exact at2 _ _ _ _) k0⟩
    · exact ⟨.tie j i,k,rfl,jm1 c w j t i ej q' "tie" (.inl rfl) (by rw [h]; exact at3 _ _ _ _ _) et ei⟩
    · exact ⟨.sign j i,k,rfl,jm1 c w j t i ej q' "sign" (.inr (.inl rfl)) (by rw [h]; exact at4 _ _ _ _ _ _) et ei⟩
    · exact ⟨.cross j i,k,rfl,jm1 c w j t i ej q' "cross" (.inr (.inr rfl)) (by rw [h]; exact at5 _ _ _ _ _ _ _) et ei⟩
def zN:Nu:=(⟨0,0,0,0⟩,0)
theorem jgi (e:Nat):MA.jaB e zN = zN:=by
  have h:e % 8 = 0 ∨ e % 8 = 1 ∨ e % 8 = 2 ∨ e % 8 = 3 ∨ e % 8 = 4 ∨ e % 8 = 5 ∨ e % 8 = 6 ∨ e % 8 = 7:=by omega
  unfold MA.jaB
  rcases h with h | h | h | h | h | h | h | h <;> rw [h] <;> rfl
theorem jsm:MA.jcH (MA.jb6 zN zN) = zN:=by rfl
theorem jsn (n:Nat) (r:Row) (p:Nat):jaG n (fun _=>zN) r p = zN:=by
  cases r with
  | swing j=>
    show (if bit (wt n j) p = 0 then MA.jcH (MA.jb6 zN zN) else MA.jcH (MA.jb6 zN (MA.jaB 4 zN))) = zN
    rw [jgi,jsm]
    split <;> rfl
  | turn j e=>exact jgi _
  | sign i j=>exact jgi _
  | flip j=>rfl
  | tie i j=>rfl
  | cross i j=>rfl
theorem jqu:MA.jbO zN:=⟨by decide,fun h=>absurd h (by decide)⟩
theorem joL {u:Nu} (hl:MA.jbO u) (h:MA.jaB 4 u = u):u = zN:=by
  obtain ⟨⟨a,b,c,d⟩,k⟩:=u
  have h1:MA.tnn 4 ⟨a,b,c,d⟩ = ⟨a,b,c,d⟩:=congrArg Prod.fst h
  rw [MA.jgd] at h1
  have e1:-a = a:=congrArg MA.Q4.a h1
  have e2:-b = b:=congrArg MA.Q4.b h1
  have e3:-c = c:=congrArg MA.Q4.c h1
  have e4:-d = d:=congrArg MA.Q4.d h1
  have a0:a = 0:=by omega
  have b0:b = 0:=by omega
  have c0:c = 0:=by omega
  have d0:d = 0:=by omega
  subst a0 b0 c0 d0
  have hk:k = 0:=by
    cases k with
    | zero=>rfl
    | succ k=>exact absurd (hl.2 (by show (0:Int) < ((k + 1:Nat):Int); omega)) (by show ¬ MA.Q4.Odd ⟨0,0,0,0⟩; unfold MA.Q4.Odd; decide)
  subst hk
  rfl
theorem jqv (f:Nat → Nu) (u v:Wd) (p:Nat):MA.wdn (MA.wdn f u) v p = MA.wdn f (jba v u) p:=by
  unfold MA.wdn
  rw [jjQ]
  show MA.jaB _ (f (p ^^^ v.x ^^^ u.x)) = MA.jaB (2 * ((v.s + u.s + 2 * par (v.z &&& u.x)) % 4) + 4 * par ((p ^^^ (v.x ^^^ u.x)) &&& (v.z ^^^ u.z))) (f (p ^^^ (v.x ^^^ u.x)))
  rw [Nat.xor_assoc]
  apply jdy
  have e:par ((p ^^^ (v.x ^^^ u.x)) &&& (v.z ^^^ u.z)) = (par ((p ^^^ v.x) &&& v.z) + par (u.x &&& v.z) + par ((p ^^^ v.x ^^^ u.x) &&& u.z)) % 2:=by
    rw [MA.je7,← Nat.xor_assoc,MA.jfv (p ^^^ v.x) u.x v.z]
    omega
  rw [e,Nat.and_comm v.z u.x,← Nat.xor_assoc]
  omega
structure Bel (n:Nat) (T:List (Wd × Wd)) (f:Nat → Nu):Prop where
  tb:Tb n T
  ls:∀ p,MA.jbO (f p)
  nz:∃ p,p < 2 ^ n ∧ f p ≠ zN
  st:∀ q ∈ T,∀ p,p < 2 ^ n → MA.wdn f q.2 p = f p
theorem Bel.row {n:Nat} (hn:n ≤ 6) {r:Row} (hr:r.ok n) (he:jjm r) {T:List (Wd × Wd)} {f:Nat → Nu} (b:Bel n T f) {M:Nat} (hM:∀ p,(f p).2 ≤ M):Bel n (T.map (cT n r)) (jaG n f r):=by
  refine ⟨b.tb.carry hn hr he,MA.jdx b.ls n r,?_,fun q hq p hp=>?_⟩
  · by_cases h:∃ p,p < 2 ^ n ∧ jaG n f r p ≠ zN
    · exact h
    · exfalso
      obtain ⟨p,hp,hne⟩:=b.nz
      have z:∀ x,x < 2 ^ n → jaG n f r x = (fun _=>zN) x:=fun x hx=>by
        by_cases e:jaG n f r x = zN
        · exact e
        · exact absurd ⟨x,hx,e⟩ h
      have u:=MA.jno b.ls hM r hr p
      rw [jhE z (MA.Row.about_ok hr) hp,jsn] at u
      exact hne u.symm
  · obtain ⟨q',hq',rfl⟩:=List.mem_map.mp hq
    have ok:=(b.tb.good.ok q' hq').2.1
    have:=MA.jlN hn hr ok (jbz he q'.2) b.ls (M:=M + 1) (fun p=>Nat.succ_le_succ (hM p)) hp
    show MA.wdn (jaG n f r) (MA.carry n r q'.2) p = _
    rw [← this]
    exact jhE (fun x hx=>b.st q' hq' x hx) hr hp
def jcy (n j m:Nat) (f:Nat → Nu) (p:Nat):Nu:=if bit (wt n j) p = m then f p else zN
theorem jhA {f:Nat → Nu} (h:∀ p,MA.jbO (f p)) (n j m p:Nat):MA.jbO (jcy n j m f p):=by
  unfold jcy
  split
  · exact h p
  · exact jqu
theorem jm5 {n:Nat} (hn:n ≤ 6) {j:Nat} (hj:j < n) (m:Nat) (f:Nat → Nu) {p:Nat} (hp:p < 2 ^ n):MA.wdn f (lkW n j m) p = MA.jaB (4 * (m + bit (wt n j) p)) (f p):=by
  unfold MA.wdn
  show MA.jaB (2 * (2 * m) + 4 * par ((p ^^^ 0) &&& wt n j)) (f (p ^^^ 0)) = _
  rw [Nat.xor_zero,Nat.and_comm]
  have:=MA.jb7 hn hj hp 1 (by decide)
  rw [Nat.mul_one,Nat.one_mul] at this
  rw [this]
  congr 1
  omega
theorem jrh {n:Nat} (hn:n ≤ 6) {j:Nat} (hj:j < n) {m:Nat} (f:Nat → Nu) {p:Nat} (hp:p < 2 ^ n):MA.wdn (jcy n j m f) (lkW n j m) p = jcy n j m f p:=by
  rw [jm5 hn hj m _ hp]
  unfold jcy
  split
  · rename_i h
    rw [h,jdy (b:=0) (by omega)]
    rfl
  · exact jgi _
theorem joN {n:Nat} (hn:n ≤ 6) {j:Nat} (hj:j < n) (m:Nat) (f:Nat → Nu) {u:Wd} (hu:u.ok n) (ha:agB u (lkW n j m) = true) (p:Nat):MA.wdn (jcy n j m f) u p = jcy n j m (MA.wdn f u) p:=by
  have hb:bit (wt n j) u.x = 0:=by
    rw [jbL,show lkW n j m = ⟨0,wt n j,2 * m⟩ from rfl,jvX hn hj hu] at ha
    exact of_decide_eq_true ha
  have e:bit (wt n j) (p ^^^ u.x) = bit (wt n j) p:=by
    rw [MA.jaw,hb]
    have:=MA.jbq (wt n j) p
    omega
  unfold MA.wdn jcy
  rw [e]
  split
  · rfl
  · exact jgi _
theorem jkB {n:Nat} {f:Nat → Nu} {u v:Wd} (hv:v.ok n) (h1:∀ p,p < 2 ^ n → MA.wdn f u p = f p) (h2:∀ p,p < 2 ^ n → MA.wdn f v p = f p) {p:Nat} (hp:p < 2 ^ n):MA.wdn f (jba v u) p = f p:=by
  rw [← jqv,jiM h1 hv p hp,h2 p hp]
theorem jpM {n:Nat} {T:List (Wd × Wd)} {f:Nat → Nu} (b:Bel n T f):∀ (I:List Nat),(∀ i ∈ I,i < n) → ∀ a:Wd,a.ok n → (∀ p,p < 2 ^ n → MA.wdn f a p = f p) → ∀ p,p < 2 ^ n → MA.wdn f (I.foldl (fun a i=>jba a (sx T i)) a) p = f p
  | [],_,a,_,h=>h
  | i :: I,hI,a,ha,h=>by
    have hi:i < T.length:=by rw [b.tb.good.len]; exact hI i List.mem_cons_self
    have e1:=(jjR (List.getElem?_eq_getElem hi)).1
    have mem:T[i] ∈ T:=List.getElem_mem hi
    refine jpM b I (fun j hj=>hI j (List.mem_cons_of_mem _ hj)) (jba a (sx T i)) (by rw [e1]; exact MA.jcs ha (b.tb.good.ok _ mem).2.1) fun p hp=>?_
    exact jkB ha (by rw [e1]; exact b.st _ mem) h hp
theorem jiU {n:Nat} (hn:n ≤ 6) {T:List (Wd × Wd)} {f:Nat → Nu} (b:Bel n T f) {j m:Nat} (hj:j < n) (hm:m < 2) (e:prI T (kpI T (lkW n j 0) n) = lkW n j m) {p:Nat} (hp:p < 2 ^ n):jcy n j m f p = f p ∧ jcy n j (1 - m) f p = zN:=by
  have st:=jpM b (kpI T (lkW n j 0) n) (fun i hi=>jqf hi) ⟨0,0,0⟩ (jjN n) (fun p _=>by
    show MA.jaB (2 * 0 + 4 * par ((p ^^^ 0) &&& 0)) (f (p ^^^ 0)) = f p
    rw [Nat.and_zero,MA.jcn,Nat.xor_zero]
    rfl) p hp
  have e2:(kpI T (lkW n j 0) n).foldl (fun a i=>jba a (sx T i)) ⟨0,0,0⟩ = lkW n j m:=e
  rw [e2,jm5 hn hj m f hp] at st
  have hb:=MA.jbq (wt n j) p
  unfold jcy
  by_cases h:bit (wt n j) p = m
  · rw [if_pos h,if_neg (by omega)]
    exact ⟨rfl,rfl⟩
  · rw [if_neg h]
    have z:f p = zN:=by
      refine joL (b.ls p) ?_
      rw [jdy (b:=4) (by omega)] at st
      exact st
    rw [z]
    exact ⟨rfl,by split <;> rfl⟩
theorem jmI {n:Nat} (hn:n ≤ 6) {T:List (Wd × Wd)} {f:Nat → Nu} (b:Bel n T f) {j k m:Nat} (hj:j < n) (hm:m < 2) {q:Wd × Wd} (hk:T[k]? = some q) (hA:agB q.2 (lkW n j 0) = false):∃ p,p < 2 ^ n ∧ jcy n j m f p ≠ zN:=by
  have mem:=List.mem_of_getElem? hk
  have ok:=(b.tb.good.ok q mem).2.1
  have hb:bit (wt n j) q.2.x = 1:=by
    rw [jbL,show lkW n j 0 = ⟨0,wt n j,2 * 0⟩ from rfl,jvX hn hj ok] at hA
    have:=of_decide_eq_false hA
    have:=MA.jbq (wt n j) q.2.x
    omega
  obtain ⟨x,hx,hne⟩:=b.nz
  have hy:x ^^^ q.2.x < 2 ^ n:=Nat.xor_lt_two_pow hx ok.1
  have e:=b.st q mem x hx
  have ne2:f (x ^^^ q.2.x) ≠ zN:=fun z=>hne (by rw [← e]; unfold MA.wdn; rw [z,jgi])
  have b2:bit (wt n j) (x ^^^ q.2.x) = (bit (wt n j) x + 1) % 2:=by rw [MA.jaw,hb]
  have h0:=MA.jbq (wt n j) x
  by_cases h:bit (wt n j) x = m
  · exact ⟨x,hx,by unfold jcy; rw [if_pos h]; exact hne⟩
  · exact ⟨_,hy,by unfold jcy; rw [if_pos (by rw [b2]; omega)]; exact ne2⟩
theorem Bel.open {n:Nat} (hn:n ≤ 6) {T:List (Wd × Wd)} {f:Nat → Nu} (b:Bel n T f) {j k m:Nat} (hj:j < n) (hm:m < 2) {q:Wd × Wd} (hk:T[k]? = some q) (hA:agB q.2 (lkW n j 0) = false):Bel n ((T.map (agP (lkW n j m) q.2)).set k (q.2,lkW n j m)) (jcy n j m f):=by
  have hA':agB q.2 (lkW n j m) = false:=hA
  have mem:=List.mem_of_getElem? hk
  have ok:=(b.tb.good.ok q mem).2.1
  refine ⟨b.tb.opened hk (jj9 hj hm) (jtn n j m) hA',jhA b.ls n j m,jmI hn b hj hm hk hA,fun r hr p hp=>?_⟩
  obtain ⟨i,hi⟩:=List.mem_iff_getElem?.mp hr
  rcases jiX hi with ⟨_,rfl⟩ | ⟨_,r',hr',rfl⟩
  · exact jrh hn hj f hp
  · have mem':=List.mem_of_getElem? hr'
    have ok':=(b.tb.good.ok r' mem').2.1
    have s:∀ x,x < 2 ^ n → MA.wdn f (agr (lkW n j m) q.2 r'.2) x = f x:=fun x hx=>by
      unfold agr
      split
      · exact b.st r' mem' x hx
      · exact jkB ok' (b.st q mem) (b.st r' mem') hx
    show MA.wdn (jcy n j m f) (agr (lkW n j m) q.2 r'.2) p = _
    rw [joN hn hj m f (jnR ok' ok) (jpB hA')]
    unfold jcy
    split
    · exact s p hp
    · rfl
theorem Bel.same {n:Nat} {T:List (Wd × Wd)} {f g:Nat → Nu} (b:Bel n T f) (hl:∀ p,MA.jbO (g p)) (h:∀ p,p < 2 ^ n → g p = f p):Bel n T g:=by
  obtain ⟨p,hp,hne⟩:=b.nz
  refine ⟨b.tb,hl,⟨p,hp,by rw [h p hp]; exact hne⟩,fun q hq x hx=>?_⟩
  rw [jiM h (b.tb.good.ok q hq).2.1 x hx,h x hx]
  exact b.st q hq x hx
theorem jsI (u:Nu):MA.Sh 1 (jcc u):=MA.Sh.tuple fun x hx=>by
  simp [tup5] at hx
  rcases hx with rfl | rfl | rfl | rfl | rfl <;> exact .int _ _
theorem juT (n:Nat) (f:Nat → Nu):MA.Sh 2 (stD n f):=MA.Sh.tuple fun x hx=>by
  obtain ⟨p,_,rfl⟩:=List.mem_map.mp hx
  exact jsI _
def nzB (u:Nu):Bool:=!(u.1.a == 0 && (u.1.b == 0 && (u.1.c == 0 && (u.1.d == 0 && u.2 == 0))))
theorem jmS (u:Nu):nzB u = true ↔ u ≠ zN:=by
  obtain ⟨⟨a,b,c,d⟩,k⟩:=u
  unfold nzB zN
  simp only [Bool.not_eq_true',ne_eq,Prod.mk.injEq,MA.Q4.mk.injEq]
  rw [Bool.eq_false_iff]
  simp only [ne_eq,Bool.and_eq_true,beq_iff_eq]
  constructor
  · intro h z; exact h ⟨z.1.1,z.1.2.1,z.1.2.2.1,z.1.2.2.2,z.2⟩
  · intro h z; exact h ⟨⟨z.1,z.2.1,z.2.2.1,z.2.2.2.1⟩,z.2.2.2.2⟩
theorem jxj (u:Nu):neD (jcc u) (.tuple [.int 0,.int 0,.int 0,.int 0,.int 0]) = some (.bool (nzB u)):=by
  have:((u.2:Int) == 0) = (u.2 == 0):=by rw [Bool.eq_iff_iff,beq_iff_eq,beq_iff_eq]; omega
  show (if _ then _ else _) = _
  rw [if_pos ⟨rfl,rfl⟩]
  unfold nzB
  rw [← this]
  simp [jcc,tup5,PyData.eqv,PyData.eqvAll]
theorem jtU (X:D) (L M:List D) (m:Int) (it:jhl X = some L) (p:jeN [.fz X] = some (.list M)) (ln:(M.length:Int) = m):jaL [X] = some (.bool (decide (m > 0))):=by
  simp [jaL,runB,jfK,jal,p,ln]
theorem jtV {n:Nat} (hn:n ≤ 6) (f:Nat → Nu):jeN [.fz (stD n f)] = some (.list (((List.range (2 ^ n)).filter fun p=>nzB (f p)).map fun p=>jcc (f p))):=
  jgN (h:=fun p=>jcc (f p)) (k:=fun p=>jcc (f p)) (b:=fun p=>nzB (f p)) (xs:=List.range (2 ^ n)) (by simp [stD]) (by rw [List.length_range]; exact Nat.le_trans (jh4 hn) (by decide)) (fun p _=>by
    have:=jxj (f p)
    simp [capS,this]) (fun p _ _=>by simp [capS])
theorem jpA {n:Nat} (hn:n ≤ 6) {f:Nat → Nu} (h:∃ p,p < 2 ^ n ∧ f p ≠ zN):jaL [stD n f] = some (.bool true):=by
  obtain ⟨p,hp,hne⟩:=h
  rw [jtU _ _ _ _ rfl (jtV hn f) rfl]
  have:p ∈ (List.range (2 ^ n)).filter fun p=>nzB (f p):=List.mem_filter.mpr ⟨List.mem_range.mpr hp,(jmS _).mpr hne⟩
  have:=List.length_pos_of_mem this
  rw [List.length_map,decide_eq_true (by omega)]
theorem jtW {n:Nat} (hn:n ≤ 6) {f:Nat → Nu} (h:∀ p,p < 2 ^ n → f p = zN):jaL [stD n f] = some (.bool false):=by
  rw [jtU _ _ _ _ rfl (jtV hn f) rfl]
  have:((List.range (2 ^ n)).filter fun p=>nzB (f p)) = []:=List.filter_eq_nil_iff.mpr fun p hp z=>(jmS _).mp z (h p (List.mem_range.mp hp))
  rw [this]
  rfl
theorem jxy (X u:D) (w m p a:Int) (c:Bool) (ds:List D) (hs:ds.length < sizeLine) (ha:Builtin.bitAnd p w = a) (hc:((if ¬ a = 0 then (1:Int) else 0) == m) = c) (hx:ixD X (.int p) = some u):jbr [.fz X,.fz (.int w),.fz (.int m),.ow ds,.fz (.int p)] = some (.nx,[.fz X,.fz (.int w),.fz (.int m),.ow (ds ++ [if c = true then u else .tuple [.int 0,.int 0,.int 0,.int 0,.int 0]]),.fz (.int p)]):=by
  by_cases h:a = 0
  · rw [if_neg (by simpa using h)] at hc
    cases c with
    | true=>
      have hm:m = 0:=by have:=beq_iff_eq.mp hc; omega
      subst hm
      simp [jbr,ha,h,hx,hs]
    | false=>
      have hm:¬ (0:Int) = m:=fun z=>by rw [z] at hc; simp at hc
      simp [jbr,ha,h,hx,hs,hm]
  · rw [if_pos h] at hc
    cases c with
    | true=>
      have hm:m = 1:=by have:=beq_iff_eq.mp hc; omega
      subst hm
      simp [jbr,ha,h,hx,hs]
    | false=>
      have hm:¬ (1:Int) = m:=fun z=>by rw [z] at hc; simp at hc
      simp [jbr,ha,h,hx,hs,hm]
theorem jxx (X:D) (w m S:Int) (RL L:List D) (y:Sl) (ln:jdT [X] = some (.int S)) (hN:jbm [.int S] = some RL) (lp:loop (gN 4) jbr RL [.fz X,.fz (.int w),.fz (.int m),.ow [],.un] = some (.nx,[.fz X,.fz (.int w),.fz (.int m),.ow L,y])):jaI [X,.int w,.int m] = some (.tuple L):=by
  simp [-sSeq,-sIf,jav,jaV,jaI,runB,jeU,jal,ln,hN,lp,dFz]
theorem jw5 (N:Nat) (h:N ≤ 64):jbm [.int (N:Int)] = some (jlX 0 N):=je5 (j:=(N:Int)) (by omega) (by omega)
theorem jig {n:Nat} (hn:n ≤ 6) (f:Nat → Nu) {j m:Nat} (hj:j < n) (hm:m < 2):jaI [stD n f,.int (wt n j:Nat),.int (m:Nat)] = some (stD n (jcy n j m f)):=by
  have h64:=jh4 hn
  obtain ⟨δ',lp,y,rfl⟩:=jfc (b:=jbr) (k:=4) (fun i δ=>∃ z,δ = [.fz (stD n f),.fz (.int (wt n j:Nat)),.fz (.int (m:Nat)),.ow ((List.range i).map fun p=>jcc (jcy n j m f p)),z]) (2 ^ n) (by
    rintro i hi δ ⟨z,rfl⟩
    have ha:=MA.jjL i (wt n j)
    rw [MA.jiF hn hj hi] at ha
    have hw:=MA.ja7 n j
    have hb:=MA.b01 (wt n j) i
    have:=jxy (stD n f) (jcc (f i)) (wt n j:Nat) (m:Nat) i _ (decide (bit (wt n j) i = m)) ((List.range i).map fun p=>jcc (jcy n j m f p)) (by rw [List.length_map,List.length_range]; exact Nat.lt_of_lt_of_le hi (Nat.le_trans h64 (by decide))) ha (by
      rw [Bool.eq_iff_iff,beq_iff_eq,decide_eq_true_iff]
      rcases hb with h | h
      · rw [h,Nat.mul_zero,if_neg (by simp)]; omega
      · rw [h,Nat.mul_one,if_pos (by omega)]; omega) (jjT i rfl hi)
    have e:(if decide (bit (wt n j) i = m) = true then jcc (f i) else PyData.tuple [.int 0,.int 0,.int 0,.int 0,.int 0]) = jcc (jcy n j m f i):=by
      unfold jcy
      by_cases h:bit (wt n j) i = m
      · rw [if_pos h,decide_eq_true h]; rfl
      · rw [if_neg h,decide_eq_false h]; rfl
    rw [e] at this
    refine ⟨_,this,.fz (.int i),?_⟩
    rw [List.range_succ,List.map_append]
    rfl) [.fz (stD n f),.fz (.int (wt n j:Nat)),.fz (.int (m:Nat)),.ow [],.un] ⟨_,rfl⟩
  exact jxx _ _ _ _ _ _ y (jhz n f) (jw5 _ h64) lp
theorem jxT (F X P U:D) (n:Int) (h1:ixD P (.int 1) = some U) (h2:jbv [X,U] = some X) (h3:neD X X = some (.bool false)):jbJ [.fz F,.fz X,.fz (.int n),.fz P] = some (.nx,[.fz F,.fz X,.fz (.int n),.fz P]):=by
  simp [jbJ,h1,h2,h3]
theorem jxS (F X:D) (n:Int) (L:List D) (δ:Dv) (h1:jaZ [F,.int n] = some (.bool true)) (h2:jaL [X] = some (.bool true)) (it:jhl F = some L) (lp:loop (gN 3) jbJ L [.fz F,.fz X,.fz (.int n),.un] = some (.nx,δ)):jau [F,X,.int n] = some (.bool true):=by
  simp [-sSeq,-sIf,jav,jaV,jau,runB,jdq,jal,h1,h2,it,lp]
theorem jcT {n:Nat} (hn:n ≤ 6) {T:List (Wd × Wd)} {f:Nat → Nu} (b:Bel n T f):jau [jc6 T,stD n f,.int n] = some (.bool true):=by
  obtain ⟨δ,lp,_⟩:=jm3 (g:=gN 3) (b:=jbJ) (fun δ=>∃ z,δ = [.fz (jc6 T),.fz (stD n f),.fz (.int n),z]) (T.map prD) (fun d hd δ hδ=>by
    obtain ⟨z,rfl⟩:=hδ
    obtain ⟨q,hq,rfl⟩:=List.mem_map.mp hd
    have w:=jsq hn f q.2 (b.tb.good.ok q hq).2.1
    rw [jkP (b.st q hq)] at w
    exact ⟨_,rfl,_,jxT _ _ _ _ n (pr1 q) w (jrb (juT n f) (by decide)),_,rfl⟩) [.fz (jc6 T),.fz (stD n f),.fz (.int n),.un] ⟨_,rfl⟩
  exact jxS _ _ n _ δ (jlF hn b.tb.good) (jpA hn b.nz) rfl lp
theorem jjf:jb0 [exD "Barred"] = some (.list [.int 5,.int 1]):=by rfl
theorem jlZ (F W:D) (j m t:Int) (h0:jar [F,.int j] = some (.int t)) (h1:jaC [F,.int j,.int m] = some W) (ne:¬ t = m):jaM [F,.int j,.int m] = some ("Barred":Str):=by
  simp [jaM,jsL,jcZ,jal,h0,h1,ne,isD]
theorem jlm (F:D) (j m:Int) (hx:jaM [F,.int j,.int m] = some ("Barred":Str)):jr6 4 hs_WaveError (jou (os (jac (oV 0) (jac (oV 1) (jac (oV 2) (jas)))) jap)) (xE (osX (jac (oV 0) (jac (oV 1) (jac (oV 2) (jas)))) jaM)) (jbl 3 (os (jac (oV 4) (jas)) jb0)) [.fz F,.fz (.int j),.fz (.int m),.fz (.list []),.un] = some (.nx,[.fz F,.fz (.int j),.fz (.int m),.fz (.list [.int 5,.int 1]),.un]):=by
  have hh:hs_WaveError.contains ("Barred":Str) = true:=by decide +kernel
  have e1:(xE (osX (jac (oV 0) (jac (oV 1) (jac (oV 2) (jas)))) jaM)) [.fz F,.fz (.int j),.fz (.int m),.fz (.list []),.un] = some (("Barred":Str),[.fz F,.fz (.int j),.fz (.int m),.fz (.list []),.un]):=by simp [hx]
  unfold jr6
  rw [e1]
  dsimp only
  rw [if_pos hh]
  simp [jjf]
theorem jpx (F:D) (j m:Int) (hx:jaM [F,.int j,.int m] = some ("Barred":Str)):jbx [F,.int j,.int m] = some (.bool true):=by
  have ek:eqD (.list [.int 5,.int 1]) (.list [.int 5,.int 1]) = some (.bool true):=by rfl
  have ht:=jlm F j m hx
  simp [-sSeq,-sIf,jav,jaV,jbx,runB,jdM,jal,ht,ek]
section
variable (F X Y:D) (j m n w:Int) (hs:jg8 (.int 1) (.int (n - 1 - j)) = some (.int w)) (hl:jaI [X,.int w,.int m] = some Y)
include hs hl
theorem jxn (t:Int) (ht:jar [F,.int j] = some (.int t)) (ha:jaL [Y] = some (.bool false)) (e:t = 1 - m) (hb:jbx [F,.int j,.int m] = some (.bool true)):jao [F,X,.int j,.int m,.int n] = some (.bool true):=by
  subst e
  simp [-sSeq,-sIf,jav,jaV,jao,runB,jbE,jal,hs,hl,ht,ha,hb]
theorem jxm (Y2:D) (ht:jar [F,.int j] = some (.int m)) (ha:jaL [Y] = some (.bool true)) (hk:jap [F,.int j,.int m] = some F) (be:jau [F,Y,.int n] = some (.bool true)) (hl2:jaI [X,.int w,.int (1 - m)] = some Y2) (ha2:jaL [Y2] = some (.bool false)) (eF:eqD F F = some (.bool true)):jao [F,X,.int j,.int m,.int n] = some (.bool true):=by
  simp [-sSeq,-sIf,jav,jaV,jao,runB,jbE,jal,hs,hl,ht,ha,hk,be,hl2,ha2,eF]
theorem jxl (Y2 G:D) (q:Int) (L:List D) (ht:jar [F,.int j] = some .none) (ha:jaL [Y] = some (.bool true)) (hk:jap [F,.int j,.int m] = some G) (be:jau [G,Y,.int n] = some (.bool true)) (hl2:jaI [X,.int w,.int (1 - m)] = some Y2) (ha2:jaL [Y2] = some (.bool true)) (im:IntMulOk 2 m) (hq:2 * m = q) (p1:∀ z0 z1 z2 z3 z4 z5 z6 z7:Sl,jcb [z0,z1,z2,z3,z4,z5,z6,z7,.fz G] = some (.list L)) (hin:inG false (.tuple [.int 0,.int w,.int q]) (.list L) = some (.bool true)):jao [F,X,.int j,.int m,.int n] = some (.bool true):=by
  simp [-sSeq,-sIf,jav,jaV,jao,runB,jbE,jal,hs,hl,ht,ha,hk,be,hl2,ha2,im,hq,p1,hin,isD]
end
theorem juS {n j:Nat} (hj:j < n) (hn:n ≤ 6):jg8 (.int 1) (.int ((n:Int) - 1 - (j:Int))) = some (.int (wt n j:Nat)):=by
  have:=jt8 (n - 1 - j) (by omega)
  rw [show ((n - 1 - j:Nat):Int) = (n:Int) - 1 - (j:Int) by omega] at this
  exact this
theorem jsA (T:List (Wd × Wd)):MA.Sh 3 (jc6 T):=MA.Sh.tuple fun x hx=>by
  obtain ⟨q,_,rfl⟩:=List.mem_map.mp hx
  exact MA.Sh.tuple fun y hy=>by
    simp only [List.mem_cons,List.not_mem_nil,or_false] at hy
    rcases hy with rfl | rfl <;> exact sh3 _ _ _
theorem jrx (T:List (Wd × Wd)) (w:Wd) (h:w ∈ T.map (·.2)):inG false (wdD w) (.list (T.map fun q=>wdD q.2)) = some (.bool true):=by
  have s1:shp (wdD w) = true:=jpI (sh3 _ _ _) (by decide)
  have s2:PyData.canLayAll0 (T.map fun q=>wdD q.2) = true:=(MA.Sh.all (k:=1) _ fun x hx=>by
    obtain ⟨q,_,rfl⟩:=List.mem_map.mp hx
    exact sh3 _ _ _).1
  show (if _ then _ else _) = _
  rw [if_pos ⟨s1,s2⟩]
  have:inL (wdD w) (T.map fun q=>wdD q.2) = true:=by
    obtain ⟨q,hq,rfl⟩:=List.mem_map.mp h
    exact List.any_eq_true.mpr ⟨wdD q.2,List.mem_map.mpr ⟨q,hq,rfl⟩,MA.jge _ (sh3 _ _ _).1⟩
  rw [this]
  rfl
theorem jxk (T:List (Wd × Wd)) (hl:T.length ≤ 1000) (z0 z1 z2 z3 z4 z5 z6 z7:Sl):jcb [z0,z1,z2,z3,z4,z5,z6,z7,.fz (jc6 T)] = some (.list (T.map fun q=>wdD q.2)):=
  jcO (h:=prD) (k:=fun q=>wdD q.2) (xs:=T) (by simp [jc6]) (by omega) fun q _=>by simp [capS,pr1]
theorem jjc {n:Nat} (hn:n ≤ 6) {T:List (Wd × Wd)} {f:Nat → Nu} (b:Bel n T f) {j m:Nat} (hj:j < n) (hm:m < 2):jao [jc6 T,stD n f,.int j,.int m,.int n] = some (.bool true):=by
  have hs:=juS hj hn
  have hl:=jig hn f hj hm
  have hl2:=jig hn f hj (m:=1 - m) (by omega)
  rw [show ((1 - m:Nat):Int) = 1 - (m:Int) by omega] at hl2
  cases h:agI T (lkW n j 0) n with
  | nil=>
    obtain ⟨t,ht,e,told⟩:=jiQ hn b.tb hj h
    have sl:=fun p (hp:p < 2 ^ n)=>jiU hn b hj ht e hp
    by_cases hmt:m = t
    · subst hmt
      have e1:stD n (jcy n j m f) = stD n f:=jkP fun p hp=>(sl p hp).1
      rw [e1] at hl
      exact jxm _ _ _ j m n _ hs hl _ told (jpA hn b.nz) (jmd _ _ _ _ told (jlz hn b.tb.good hj hm)) (jcT hn b) hl2 (jtW hn fun p hp=>(sl p hp).2) (jrG (jsA T) (by decide))
    · have e2:m = 1 - t:=by omega
      refine jxn _ _ _ j m n _ hs hl t told (jtW hn fun p hp=>?_) (by omega) (jpx _ _ _ (jlZ _ _ _ _ _ told (jlz hn b.tb.good hj hm) (by omega)))
      rw [e2]
      exact (sl p hp).2
  | cons k I=>
    obtain ⟨q,hk,hA,_⟩:=jld b.tb.good h
    have bo:=b.open hn hj hm hk hA
    refine jxl _ _ _ j m n _ hs hl _ _ _ _ (jgn hn b.tb.good hj h) (jpA hn bo.nz) (jgC hn b.tb.good hj hm h hk) (jcT hn bo) hl2 (jpA hn (jmI hn b hj (m:=1 - m) (by omega) hk hA)) (.of_left (by decide +kernel)) rfl (fun z0 z1 z2 z3 z4 z5 z6 z7=>jxk _ (by rw [bo.tb.good.len]; omega) z0 z1 z2 z3 z4 z5 z6 z7) ?_
    have hkl:k < T.length:=(List.getElem?_eq_some_iff.mp hk).1
    have:=jrx ((T.map (agP (lkW n j m) q.2)).set k (q.2,lkW n j m)) (lkW n j m) (List.mem_map.mpr ⟨_,List.mem_iff_getElem?.mpr ⟨k,by rw [List.getElem?_set,if_pos rfl,if_pos (by simpa using hkl)]⟩,rfl⟩)
    exact this
section
variable (z0 z2 z6 z7 z8:Sl) (F X F' X':D) (n c:Int)
theorem jw1 (R:D) (hc:c % 3 < 2) (h1:ja0 [.int (c / 3),.int n] = some R) (h2:jbs [F,R] = some F') (h3:jb9 [X,R] = some X') (be:jau [F',X',.int n] = some (.bool true)):jey [z0,.fz (.int n),z2,.fz F,.fz X,.fz (.int c),z6,z7,z8] = some (.nx,[z0,.fz (.int n),z2,.fz F',.fz X',.fz (.int c),.fz R,z7,z8]):=by
  simp [-sSeq,-sIf,jav,jaV,jey,hc,h1,h2,h3,be]
theorem jw0 (j t w:Int) (hc:¬ c % 3 < 2) (hj:jdu (.int (c / 3)) (.int n) = some (.int j)) (m0:jao [F,X,.int j,.int 0,.int n] = some (.bool true)) (m1:jao [F,X,.int j,.int 1,.int n] = some (.bool true)) (ht:jar [F,.int j] = some (.int t)) (h2:jap [F,.int j,.int t] = some F') (hs:jg8 (.int 1) (.int (n - 1 - j)) = some (.int w)) (h3:jaI [X,.int w,.int t] = some X') (be:jau [F',X',.int n] = some (.bool true)):jey [z0,.fz (.int n),z2,.fz F,.fz X,.fz (.int c),z6,z7,z8] = some (.nx,[z0,.fz (.int n),z2,.fz F',.fz X',.fz (.int c),z6,.fz (.int j),.fz (.int t)]):=by
  simp [-sSeq,-sIf,jav,jaV,jey,hc,hj,m0,m1,ht,h2,hs,h3,be,isD]
theorem jwZ (j t w:Int) (hc:¬ c % 3 < 2) (hj:jdu (.int (c / 3)) (.int n) = some (.int j)) (m0:jao [F,X,.int j,.int 0,.int n] = some (.bool true)) (m1:jao [F,X,.int j,.int 1,.int n] = some (.bool true)) (ht:jar [F,.int j] = some .none) (hm:c / 9 % 2 = t) (h2:jap [F,.int j,.int t] = some F') (hs:jg8 (.int 1) (.int (n - 1 - j)) = some (.int w)) (h3:jaI [X,.int w,.int t] = some X') (be:jau [F',X',.int n] = some (.bool true)):jey [z0,.fz (.int n),z2,.fz F,.fz X,.fz (.int c),z6,z7,z8] = some (.nx,[z0,.fz (.int n),z2,.fz F',.fz X',.fz (.int c),z6,.fz (.int j),.fz (.int t)]):=by
  simp [-sSeq,-sIf,jav,jaV,jey,hc,hj,m0,m1,ht,hm,h2,hs,h3,be,isD]
end
theorem jm6 {k p:Nat} {f:Nat → Nu} (h:Bd k p f) (n j m:Nat):Bd k p (jcy n j m f):=fun x=>by
  unfold jcy
  split
  · exact h x
  · exact ⟨Nat.zero_le _,Nat.zero_le _,Nat.zero_le _,Nat.zero_le _,Nat.zero_le _⟩
theorem jqL {n:Nat} (h1:1 ≤ n) (hn:n ≤ 6) (z0 z2:Sl) (c:Int) {T:List (Wd × Wd)} {f:Nat → Nu} (b:Bel n T f) {K P:Nat} (hB:Bd K P f) (hK:K ≤ 300) (hP:P ≤ 90000) (z6 z7 z8:Sl):∃ T' f' y6 y7 y8,Bel n T' f' ∧ Bd (K + 1) (P + K + 1) f' ∧ jey [z0,.fz (.int n),z2,.fz (jc6 T),.fz (stD n f),.fz (.int c),z6,z7,z8] = some (.nx,[z0,.fz (.int n),z2,.fz (jc6 T'),.fz (stD n f'),.fz (.int c),y6,y7,y8]):=by
  by_cases hc:c % 3 < 2
  · obtain ⟨r,hr,ho,er⟩:=jrg (c / 3) n h1
    have he:=jnl ho
    have bo:=b.row hn hr he (M:=K) fun p=>(hB p).1
    exact ⟨_,_,_,_,_,bo,hB.done n r,jw1 z0 z2 z6 z7 z8 _ _ _ _ n c _ hc er (juI hn hr ho b.tb.good) (jrI hn f (fun p=>Nat.le_trans (hB p).1 (by omega)) (fun p=>(hB p).2.mono (Nat.pow_le_pow_right (by decide) (by omega))) r hr) (jcT hn bo)⟩
  · have hw0:(0:Int) < n:=by omega
    have a1:=Int.emod_nonneg (c / 3) (show (n:Int) ≠ 0 by omega)
    have a2:=Int.emod_lt_of_pos (c / 3) hw0
    obtain ⟨j,hj⟩:∃ j:Nat,c / 3 % n = j:=⟨(c / 3 % n).toNat,by omega⟩
    have ej:=jeq (i:=c / 3) hw0
    rw [hj] at ej a1 a2
    have hjn:j < n:=by omega
    have m0:=jjc hn b hjn (m:=0) (by decide)
    have m1:=jjc hn b hjn (m:=1) (by decide)
    cases h:agI T (lkW n j 0) n with
    | nil=>
      obtain ⟨t,ht,e,told⟩:=jiQ hn b.tb hjn h
      have bo:Bel n T (jcy n j t f):=b.same (jhA b.ls n j t) fun p hp=>(jiU hn b hjn ht e hp).1
      exact ⟨_,_,_,_,_,bo,(jm6 hB n j t).mono (by omega) (by omega),jw0 z0 z2 z6 z7 z8 _ _ _ _ n c j t _ hc ej m0 m1 told (jmd _ _ _ _ told (jlz hn b.tb.good hjn ht)) (juS hjn hn) (jig hn f hjn ht) (jcT hn bo)⟩
    | cons k I=>
      obtain ⟨q,hk,hA,_⟩:=jld b.tb.good h
      obtain ⟨t,et⟩:∃ t:Nat,c / 9 % 2 = (t:Int):=⟨(c / 9 % 2).toNat,by omega⟩
      have ht:t < 2:=by omega
      have bo:=b.open hn hjn ht hk hA
      exact ⟨_,_,_,_,_,bo,(jm6 hB n j t).mono (by omega) (by omega),jwZ z0 z2 z6 z7 z8 _ _ _ _ n c j t _ hc ej m0 m1 (jgn hn b.tb.good hjn h) et (jgC hn b.tb.good hjn ht h hk) (juS hjn hn) (jig hn f hjn ht) (jcT hn bo)⟩
theorem jkO {n:Nat} (h1:1 ≤ n) (hn:n ≤ 6) (z0 z2:Sl):∀ (cs:List Int) {T:List (Wd × Wd)} {f:Nat → Nu},Bel n T f → ∀ {K P:Nat},Bd K P f → K + cs.length ≤ 300 → P + 301 * cs.length ≤ 90000 → ∀ z5 z6 z7 z8:Sl,∃ T' f' y5 y6 y7 y8,Bel n T' f' ∧ loop (gN 5) jey (cs.map .int) [z0,.fz (.int n),z2,.fz (jc6 T),.fz (stD n f),z5,z6,z7,z8] = some (.nx,[z0,.fz (.int n),z2,.fz (jc6 T'),.fz (stD n f'),y5,y6,y7,y8])
  | [],T,f,b,K,P,_,_,_,z5,z6,z7,z8=>⟨T,f,z5,z6,z7,z8,b,rfl⟩
  | c :: cs,T,f,b,K,P,hB,hK,hP,z5,z6,z7,z8=>by
    rw [List.length_cons] at hK hP
    obtain ⟨T1,f1,y6,y7,y8,b1,B1,e1⟩:=jqL h1 hn z0 z2 c b hB (by omega) (by omega) z6 z7 z8
    obtain ⟨T2,f2,x5,x6,x7,x8,b2,e2⟩:=jkO h1 hn z0 z2 cs b1 B1 (by omega) (by omega) (.fz (.int c)) y6 y7 y8
    exact ⟨T2,f2,x5,x6,x7,x8,b2,by rw [List.map_cons,jbo (δ1:=[z0,.fz (.int n),z2,.fz (jc6 T),.fz (stD n f),.fz (.int c),z6,z7,z8]) (by simp) e1,e2]⟩
theorem jvu (S B T X T' X':D) (c c1 n M p h:Int) (L:List D) (y5 y6 y7 y8:Sl) (h0:jaQ [S,.int 0] = some (.int c)) (hw:1 + c % 3 = n) (h1:jaQ [S,.int 1] = some (.int c1)) (hs:jg8 (.int 1) (.int n) = some (.int M)) (hp:jdu (.int c1) (.int M) = some (.int p)) (tb:jbM [.int n,.int p] = some T) (bg:jbw [.int n,.int p] = some X) (hh:(if n = 3 then 32 else 62) = h) (sl:slD S (some 2) (some h) = some B) (it:jhl B = some L) (lp:loop (gN 5) jey L [.fz S,.fz (.int n),.fz (.int p),.fz T,.fz X,.un,.un,.un,.un] = some (.nx,[.fz S,.fz (.int n),.fz (.int p),.fz T',.fz X',y5,y6,y7,y8])) (be:jau [T',X',.int n] = some (.bool true)):jlH [S] = some (.bool true):=by
  have i0:IntMulOk 30 0:=.of_left (by decide +kernel)
  have i1:IntMulOk 30 1:=.of_left (by decide +kernel)
  by_cases q:n = 3
  · rw [if_pos q] at hh
    subst hh
    have e3:eqD (.int n) (.int 3) = some (.bool true):=by rw [q]; rfl
    simp [-sSeq,-sIf,jav,jaV,jlH,runB,jpy,jal,h0,hw,h1,hs,hp,tb,bg,e3,i1,sl,it,lp,be]
  · rw [if_neg q] at hh
    subst hh
    have e3:eqD (.int n) (.int 3) = some (.bool false):=by simp [q]
    simp [-sSeq,-sIf,jav,jaV,jlH,runB,jpy,jal,h0,hw,h1,hs,hp,tb,bg,e3,i0,sl,it,lp,be]
theorem jrL (ns:List Int) (lo hi:Option Int):∃ cs:List Int,cs.length ≤ ns.length ∧ slD (.list (ns.map .int)) lo hi = some (.list (cs.map .int)):=by
  refine ⟨(ns.drop (HT.sIx ns.length 0 lo)).take (HT.sIx ns.length ns.length hi - HT.sIx ns.length 0 lo),?_,?_⟩
  · rw [List.length_take,List.length_drop]; omega
  · show some (PyData.list (jqn _ _ _)) = _
    unfold jqn
    rw [List.length_map,← List.map_drop,← List.map_take]
theorem jxR {n:Nat} (hn:n ≤ 6) {p:Nat} (hp:p < 2 ^ n):Bel n (jpG n p) (MA.jdR p):=by
  refine ⟨jqF hn p,MA.jmL p,⟨p,hp,?_⟩,fun q hq x hx=>?_⟩
  · unfold MA.jdR
    rw [if_pos rfl]
    intro h
    exact absurd (congrArg (fun u:Nu=>u.1.a) h) (by decide)
  · obtain ⟨i,hi⟩:=List.mem_iff_getElem?.mp hq
    obtain ⟨h,rfl⟩:=jhR hi
    show MA.wdn (MA.jdR p) (lkW n i (bit (wt n i) p)) x = _
    rw [jm5 hn h _ _ hx]
    by_cases e:x = p
    · subst e
      rw [jdy (b:=0) (by omega)]
      rfl
    · have:MA.jdR p x = zN:=by unfold MA.jdR; rw [if_neg e]; rfl
      rw [this,jgi]
theorem law_true (ns:List Int) (hl:ns.length ≤ 63):jlH [.list (ns.map .int)] = some (.bool true):=by
  obtain ⟨c,hc⟩:=jns ns 0 (by decide)
  obtain ⟨c1,hc1⟩:=jns ns 1 (by decide)
  obtain ⟨n,hw⟩:∃ w:Nat,1 + c % 3 = (w:Int):=⟨(1 + c % 3).toNat,by omega⟩
  have h1:1 ≤ n:=by omega
  have h6:n ≤ 6:=by omega
  obtain ⟨p,hpl,_,hp⟩:=jvJ c1 (2 ^ n) (Nat.pow_pos (by decide))
  obtain ⟨cs,hcl,hsl⟩:=jrL ns (some 2) (some (if (n:Int) = 3 then 32 else 62))
  obtain ⟨T',f',y5,y6,y7,y8,b,lp⟩:=jkO h1 h6 (.fz (.list (ns.map .int))) (.fz (.int p)) cs (jxR h6 hpl) (jth p) (by omega) (by omega) .un .un .un .un
  exact jvu _ _ _ _ _ _ c c1 n _ p _ _ y5 y6 y7 y8 hc hw hc1 (jt8 n (by omega)) hp (jof h6 p) (jpt h6 p) rfl hsl rfl lp (jcT h6 b)
end GN
namespace GN
open PySem PySem.Spec PyProof.Rows L2 VL
structure Txt (mg:Str → Option Value):Prop where
  min:mg "min" = none
  max:mg "max" = none
  tuple:mg "tuple" = none
  range:mg "range" = none
  len:mg "len" = none
  any:mg "any" = none
  isinstance:mg "isinstance" = none
  int:mg "int" = none
  ValueError:mg "ValueError" = none
  bool:mg "bool" = none
section
variable {P:Program} {w:World} {K:PySem.W.Frag} {mg:Str → Option Value} {base:Heap}
theorem jhe:FnScope jfl ["joined","most"] (jaf jcK):=⟨rfl,rfl,rfl,by decide +kernel,rfl,by decide +kernel,by decide +kernel⟩
theorem jhh {f:Addr} {fd:FuncData} {dV:Value} (F:FunV K "twos_shared" "twos_shared" jcK f fd dV) (T:Txt mg):FnOk P w K mg base CX0 1 f fd ["joined","most"] (spD K ja5):=
  jcS (k:=0) (b:=jcQ) F jhe fun cdv A outer s H E hr=>(jag (jbe (jaz (jdI hr.units) (jaa 0) jad (jaq _)) (jai (jam (jaa 1))) jaH) (jai (jam (ja6 (jvN rfl) rfl T.min (by decide +kernel) (jab (jaa 1) (jab (jaj jcf (jnn (jaj jdl (jaa 0) (jin jiq (jaa 0)))) jad) jae))))))
theorem jln:FnScope jjH ["a","b","c","d"] (jaf je3):=⟨rfl,rfl,rfl,by decide +kernel,rfl,by decide +kernel,by decide +kernel⟩
theorem jlv {f:Addr} {fd:FuncData} {dV:Value} (F:FunV K "by_root" "by_root" je3 f fd dV) (T:Txt mg):FnOk P w K mg base CX0 1 f fd ["a","b","c","d"] (spD K jb8):=
  jcS (k:=0) (b:=jgZ) F jln fun cdv A outer s H E hr=>(jai (jam (jbd (jab (jaj jcf (jaa 1) (jaa 3)) (jab (jaj jc4 (jaa 0) (jaa 2)) (jab (jaj jc4 (jaa 1) (jaa 3)) (jab (jaj jcf (jaa 2) (jaa 0)) jae)))))))
theorem sc_number:FnScope jiJ ["a","b","c","d","k"] (jaf jek):=⟨rfl,rfl,rfl,by decide +kernel,rfl,by decide +kernel,by decide +kernel⟩
theorem jmO {f:Addr} {fd:FuncData} {dV:Value} (F:FunV K "number" "number" jek f fd dV) (T:Txt mg) (C_twos_shared:Cal P w K mg base "twos_shared" 1 ja5 []) (C_by_root:Cal P w K mg base "by_root" 1 jb8 []):FnOk P w K mg base CX0 2 f fd ["a","b","c","d","k"] (spD K jcN):=
  jcS (k:=1) (b:=jgg) F sc_number fun cdv A outer s H E hr=>(jag (jan 5 sc_number.nd (jah C_twos_shared (hr.mono (by decide)) rfl (jab (jaj jqm (jaj jqm (jaj jqm (jaa 0) (jaa 1)) (jaa 2)) (jaa 3)) (jab (jaj jfC (jaa 4) jad) jae)))) (jag (jan 0 sc_number.nd (jaj jlK (jaa 0) (jaa 5))) (jag (jan 1 sc_number.nd (jaj jlK (jaa 1) (jaa 5))) (jag (jan 2 sc_number.nd (jaj jlK (jaa 2) (jaa 5))) (jag (jan 3 sc_number.nd (jaj jlK (jaa 3) (jaa 5))) (jag (jan 4 sc_number.nd (jaj jcf (jaa 4) (jaj jd5 jad (jaa 5)))) (jag (jbe (WV.tv (jhc (jaz (jdI hr.units) (jaa 4) jad (jaq _)) (jhc (jaz (jdI hr.units) (jaj jcg (jaj jcf (jaa 0) (jaa 2)) jad) jad (jaq _)) (jeW (jaz (jdI hr.units) (jaj jcg (jaj jcf (jaa 1) (jaa 3)) jad) jad (jaq _)))))) (jai (jam (jbd (jab (jaa 0) (jab (jaa 1) (jab (jaa 2) (jab (jaa 3) (jab (jaa 4) jae)))))))) jaH) (jag (jan 6 sc_number.nd (jah C_by_root (hr.mono (by decide)) rfl (jab (jaa 0) (jab (jaa 1) (jab (jaa 2) (jab (jaa 3) jae)))))) (jai (jam (jbd (jab (jaj jfC (jak jay (jaa 6) jad (fun _ _=>rfl)) jad) (jab (jaj jfC (jak jay (jaa 6) jad (fun _ _=>rfl)) jad) (jab (jaj jfC (jak jay (jaa 6) jad (fun _ _=>rfl)) jad) (jab (jaj jfC (jak jay (jaa 6) jad (fun _ _=>rfl)) jad) (jab (jaj jcf (jaa 4) jad) jae))))))))))))))))
theorem sc_parts_over:FnScope jfU ["x","k"] (jaf jc8):=⟨rfl,rfl,rfl,by decide +kernel,rfl,by decide +kernel,by decide +kernel⟩
theorem jh9 {f:Addr} {fd:FuncData} {dV:Value} (F:FunV K "parts_over" "parts_over" jc8 f fd dV) (T:Txt mg) (C_by_root:Cal P w K mg base "by_root" 1 jb8 []):FnOk P w K mg base CX0 2 f fd ["x","k"] (spD K jbt):=
  jcS (k:=1) (b:=jdd) F sc_parts_over fun cdv A outer s H E hr=>(jag (jan 2 sc_parts_over.nd (jaj jcf (jaa 1) (jak jay (jaa 0) jad (fun _ _=>rfl)))) (jag (jan 3 sc_parts_over.nd (jaj jfC (jaa 2) jad)) (jag (jan 4 sc_parts_over.nd (jaj jgK (jak jay (jaa 0) jad (fun _ _=>rfl)) (jaa 3))) (jag (jan 5 sc_parts_over.nd (jaj jgK (jak jay (jaa 0) jad (fun _ _=>rfl)) (jaa 3))) (jag (jan 6 sc_parts_over.nd (jaj jgK (jak jay (jaa 0) jad (fun _ _=>rfl)) (jaa 3))) (jag (jan 7 sc_parts_over.nd (jaj jgK (jak jay (jaa 0) jad (fun _ _=>rfl)) (jaa 3))) (jag (jbe (jaz (jdI hr.units) (jaj jcg (jaa 2) jad) jad (jaq _)) (jai (jam (jah C_by_root (hr.mono (by decide)) rfl (jab (jaa 4) (jab (jaa 5) (jab (jaa 6) (jab (jaa 7) jae))))))) jaH) (jai (jam (jbd (jab (jaa 4) (jab (jaa 5) (jab (jaa 6) (jab (jaa 7) jae))))))))))))))
theorem sc_plus:FnScope jqt ["x","y"] (jaf jkS):=⟨rfl,rfl,rfl,by decide +kernel,rfl,by decide +kernel,by decide +kernel⟩
theorem jq7 {f:Addr} {fd:FuncData} {dV:Value} (F:FunV K "plus" "plus" jkS f fd dV) (T:Txt mg) (C_parts_over:Cal P w K mg base "parts_over" 2 jbt []) (C_number:Cal P w K mg base "number" 2 jcN []):FnOk P w K mg base CX0 3 f fd ["x","y"] (spD K jeA):=
  jcS (k:=2) (b:=jnN) F sc_plus fun cdv A outer s H E hr=>(jag (jan 2 sc_plus.nd (ja6 (jvO rfl) rfl T.max (by decide +kernel) (jab (jak jay (jaa 0) jad (fun _ _=>rfl)) (jab (jak jay (jaa 1) jad (fun _ _=>rfl)) jae)))) (jag (jan 3 sc_plus.nd (jah C_parts_over (hr.mono (by decide)) rfl (jab (jaa 0) (jab (jaa 2) jae)))) (jag (jan 4 sc_plus.nd (jah C_parts_over (hr.mono (by decide)) rfl (jab (jaa 1) (jab (jaa 2) jae)))) (jai (jam (jah C_number (hr.mono (by decide)) rfl (jab (jaj jc4 (jak jay (jaa 3) jad (fun _ _=>rfl)) (jak jay (jaa 4) jad (fun _ _=>rfl))) (jab (jaj jc4 (jak jay (jaa 3) jad (fun _ _=>rfl)) (jak jay (jaa 4) jad (fun _ _=>rfl))) (jab (jaj jc4 (jak jay (jaa 3) jad (fun _ _=>rfl)) (jak jay (jaa 4) jad (fun _ _=>rfl))) (jab (jaj jc4 (jak jay (jaa 3) jad (fun _ _=>rfl)) (jak jay (jaa 4) jad (fun _ _=>rfl))) (jab (jaa 2) jae)))))))))))
theorem jlp:FnScope jjI ["x"] (jaf je4):=⟨rfl,rfl,rfl,by decide +kernel,rfl,by decide +kernel,by decide +kernel⟩
theorem jlx {f:Addr} {fd:FuncData} {dV:Value} (F:FunV K "against" "against" je4 f fd dV) (T:Txt mg):FnOk P w K mg base CX0 1 f fd ["x"] (spD K jcC):=
  jcS (k:=0) (b:=jg1) F jlp fun cdv A outer s H E hr=>(jai (jam (jbd (jab (jin jiq (jak jay (jaa 0) jad (fun _ _=>rfl))) (jab (jin jiq (jak jay (jaa 0) jad (fun _ _=>rfl))) (jab (jin jiq (jak jay (jaa 0) jad (fun _ _=>rfl))) (jab (jin jiq (jak jay (jaa 0) jad (fun _ _=>rfl))) (jab (jak jay (jaa 0) jad (fun _ _=>rfl)) jae))))))))
theorem sc_turned:FnScope jlf ["x","e"] (jaf jf9):=⟨rfl,rfl,rfl,by decide +kernel,rfl,by decide +kernel,by decide +kernel⟩
theorem jmM {f:Addr} {fd:FuncData} {dV:Value} (F:FunV K "turned" "turned" jf9 f fd dV) (T:Txt mg):FnOk P w K mg base CX0 1 f fd ["x","e"] (spD K jbF):=
  jcS (k:=0) (b:=jiC) F sc_turned fun cdv A outer s H E hr=>(jag (jan 2 sc_turned.nd (jbd (jab (jak jay (jaa 0) jad (fun _ _=>rfl)) (jab (jak jay (jaa 0) jad (fun _ _=>rfl)) (jab (jak jay (jaa 0) jad (fun _ _=>rfl)) (jab (jak jay (jaa 0) jad (fun _ _=>rfl)) (jab (jin jiq (jak jay (jaa 0) jad (fun _ _=>rfl))) (jab (jin jiq (jak jay (jaa 0) jad (fun _ _=>rfl))) (jab (jin jiq (jak jay (jaa 0) jad (fun _ _=>rfl))) (jab (jin jiq (jak jay (jaa 0) jad (fun _ _=>rfl))) jae)))))))))) (jai (jam (jbd (jab (jak jay (jaa 2) (jaj jcg (jaj jcf jad (jaa 1)) jad) (fun _ _=>rfl)) (jab (jak jay (jaa 2) (jaj jcg (jaj jcf jad (jaa 1)) jad) (fun _ _=>rfl)) (jab (jak jay (jaa 2) (jaj jcg (jaj jcf jad (jaa 1)) jad) (fun _ _=>rfl)) (jab (jak jay (jaa 2) (jaj jcg (jaj jcf jad (jaa 1)) jad) (fun _ _=>rfl)) (jab (jak jay (jaa 0) jad (fun _ _=>rfl)) jae)))))))))
theorem jmq:FnScope jlg ["x"] (jaf jga):=⟨rfl,rfl,rfl,by decide +kernel,rfl,by decide +kernel,by decide +kernel⟩
theorem jmP {f:Addr} {fd:FuncData} {dV:Value} (F:FunV K "halved" "halved" jga f fd dV) (T:Txt mg) (C_number:Cal P w K mg base "number" 2 jcN []):FnOk P w K mg base CX0 3 f fd ["x"] (spD K jcp):=
  jcS (k:=2) (b:=jiE) F jmq fun cdv A outer s H E hr=>(jai (jam (jah C_number (hr.mono (by decide)) rfl (jab (jak jay (jaa 0) jad (fun _ _=>rfl)) (jab (jak jay (jaa 0) jad (fun _ _=>rfl)) (jab (jak jay (jaa 0) jad (fun _ _=>rfl)) (jab (jak jay (jaa 0) jad (fun _ _=>rfl)) (jab (jaj jc4 (jak jay (jaa 0) jad (fun _ _=>rfl)) jad) jae))))))))
theorem jos:FnScope jnW ["wires","wire"] (jaf jhY):=⟨rfl,rfl,rfl,by decide +kernel,rfl,by decide +kernel,by decide +kernel⟩
theorem joG {f:Addr} {fd:FuncData} {dV:Value} (F:FunV K "worth" "worth" jhY f fd dV) (T:Txt mg):FnOk P w K mg base CX0 1 f fd ["wires","wire"] (spD K jbp):=
  jcS (k:=0) (b:=jkv) F jos fun cdv A outer s H E hr=>(jai (jam (jaj jgK jad (jaj jcf (jaj jcf (jaa 0) jad) (jaa 1)))))
theorem jlo:FnScope jg6 ["wires","place"] (jaf jdZ):=⟨rfl,rfl,rfl,by decide +kernel,rfl,by decide +kernel,by decide +kernel⟩
theorem jlw {f:Addr} {fd:FuncData} {dV:Value} (F:FunV K "bits_of" "bits_of" jdZ f fd dV) (T:Txt mg):FnOk P w K mg base CX0 1 f fd ["wires","place"] (spD K jcB):=
  jcS (k:=0) (b:=jg0) F jlo fun cdv A outer s H E hr=>(jai (jam (jbg jcY rfl T.tuple (by decide +kernel) (jab (jdk (vars:=["wire"]) (caps:=[(0,"wires"),(1,"place")]) (by change BlkOk (jaf jdZ).names jg6 _ _ _; exact ⟨rfl,by decide +kernel,by decide +kernel,by decide +kernel,by decide +kernel⟩) rfl (jbb rfl T.range (jab (jaa 0) jae)) jcU (fun _ _ _ _=>jbH (i:=0) (show (["wire","wires","place"]:List Str).Nodup by decide +kernel) rfl (Or.inl rfl) (.inr rfl)) (fun _ _ _ _=>(jaj jdl (jaj jlK (jaa 2) (jaj jcf (jaj jcf (jaa 1) jad) (jaa 0))) jad))) jae))))
theorem ji0:FnScope jeV ["wires","place"] (jaf jbV):=⟨rfl,rfl,rfl,by decide +kernel,rfl,by decide +kernel,by decide +kernel⟩
theorem ji9 {f:Addr} {fd:FuncData} {dV:Value} (F:FunV K "beginning" "beginning" jbV f fd dV) (T:Txt mg) (T_NOUGHT:TopV K mg "NOUGHT" (.tuple [.int 0,.int 0,.int 0,.int 0,.int 0])) (T_ONE:TopV K mg "ONE" (.tuple [.int 1,.int 0,.int 0,.int 0,.int 0])):FnOk P w K mg base CX0 1 f fd ["wires","place"] (spD K jbw):=
  jcS (k:=0) (b:=jeT) F ji0 fun cdv A outer s H E hr=>(jai (jam (jbg jcY rfl T.tuple (by decide +kernel) (jab (jdk (vars:=["p"]) (caps:=[(1,"place")]) (by change BlkOk (jaf jbV).names jeV _ _ _; exact ⟨rfl,by decide +kernel,by decide +kernel,by decide +kernel,by decide +kernel⟩) rfl (jbb rfl T.range (jab (jaj jgK jad (jaa 0)) jae)) jcU (fun _ _ _ _=>jbH (i:=0) (show (["p","place"]:List Str).Nodup by decide +kernel) rfl (Or.inl rfl) (.inr rfl)) (fun _ _ _ _=>(jeB (jaz (jdI hr.units) (jaa 0) (jaa 1) (jaq _)) (jnm T_ONE rfl) (jnm T_NOUGHT rfl)))) jae))))
theorem sc_swung:FnScope jnX ["state","bit"] (jaf jhZ):=⟨rfl,rfl,rfl,by decide +kernel,rfl,by decide +kernel,by decide +kernel⟩
theorem joH {f:Addr} {fd:FuncData} {dV:Value} (F:FunV K "swung" "swung" jhZ f fd dV) (T:Txt mg) (C_halved:Cal P w K mg base "halved" 3 jcp []) (C_plus:Cal P w K mg base "plus" 3 jeA []) (C_against:Cal P w K mg base "against" 1 jcC []):FnOk P w K mg base CX0 4 f fd ["state","bit"] (spD K jd3):=
  jcS (k:=3) (b:=jkw) F sc_swung fun cdv A outer s H E hr=>(jag (jmh 2 sc_swung.nd jae) (jag (jdX PassesOwn.never rfl (jbb rfl T.range (jab (ja6 jew rfl T.len (by decide +kernel) (jab (jaa 0) jae)) jae)) (jcX 3 sc_swung.nd) (jai (jbe (jaz (jdI hr.units) (jaj jdl (jaa 3) (jaa 1)) jad (jaq _)) (jai (jiT 2 (jah C_halved (hr.mono (by decide)) rfl (jab (jah C_plus (hr.mono (by decide)) rfl (jab (jak jay (jaa 0) (jaa 3) (fun _ _=>rfl)) (jab (jak jay (jaa 0) (jaj jev (jaa 3) (jaa 1)) (fun _ _=>rfl)) jae))) jae)))) (jai (jiT 2 (jah C_halved (hr.mono (by decide)) rfl (jab (jah C_plus (hr.mono (by decide)) rfl (jab (jak jay (jaa 0) (jaj jev (jaa 3) (jaa 1)) (fun _ _=>rfl)) (jab (jah C_against (hr.mono (by decide)) rfl (jab (jak jay (jaa 0) (jaa 3) (fun _ _=>rfl)) jae)) jae))) jae))))))) (jai (jon 2 (jam (jbg jcY rfl T.tuple (by decide +kernel) (jab (jaa 2) jae)))))))
theorem jgp:FnScope jdr ["state","held","e"] (jaf jbQ):=⟨rfl,rfl,rfl,by decide +kernel,rfl,by decide +kernel,by decide +kernel⟩
theorem jgt {f:Addr} {fd:FuncData} {dV:Value} (F:FunV K "turned_where" "turned_where" jbQ f fd dV) (T:Txt mg) (C_turned:Cal P w K mg base "turned" 1 jbF []):FnOk P w K mg base CX0 2 f fd ["state","held","e"] (spD K jaN):=
  jcS (k:=1) (b:=jdm) F jgp fun cdv A outer s H E hr=>(jai (jam (jbg jcY rfl T.tuple (by decide +kernel) (jab (jdk (vars:=["p"]) (caps:=[(0,"state"),(1,"held"),(2,"e")]) (by change BlkOk (jaf jbQ).names jdr _ _ _; exact ⟨rfl,by decide +kernel,by decide +kernel,by decide +kernel,by decide +kernel⟩) rfl (jbb rfl T.range (jab (ja6 jew rfl T.len (by decide +kernel) (jab (jaa 0) jae)) jae)) jcU (fun _ _ _ _=>jbH (i:=0) (show (["p","state","held","e"]:List Str).Nodup by decide +kernel) rfl (Or.inl rfl) (.inr rfl)) (fun _ _ _ _=>(jeB (jaz (jdI hr.units) (jaj jdl (jaa 0) (jaa 2)) (jaa 2) (jaq _)) (jah C_turned (hr.mono (by decide)) rfl (jab (jak jay (jaa 1) (jaa 0) (fun _ _=>rfl)) (jab (jaa 3) jae))) (jak jay (jaa 1) (jaa 0) (fun _ _=>rfl))))) jae))))
theorem jfX:FnScope jc3 ["state","held","bit"] (jaf jbG):=⟨rfl,rfl,rfl,by decide +kernel,rfl,by decide +kernel,by decide +kernel⟩
theorem jf0 {f:Addr} {fd:FuncData} {dV:Value} (F:FunV K "flipped_where" "flipped_where" jbG f fd dV) (T:Txt mg):FnOk P w K mg base CX0 1 f fd ["state","held","bit"] (spD K jaE):=
  jcS (k:=0) (b:=jc1) F jfX fun cdv A outer s H E hr=>(jai (jam (jbg jcY rfl T.tuple (by decide +kernel) (jab (jdk (vars:=["p"]) (caps:=[(0,"state"),(1,"held"),(2,"bit")]) (by change BlkOk (jaf jbG).names jc3 _ _ _; exact ⟨rfl,by decide +kernel,by decide +kernel,by decide +kernel,by decide +kernel⟩) rfl (jbb rfl T.range (jab (ja6 jew rfl T.len (by decide +kernel) (jab (jaa 0) jae)) jae)) jcU (fun _ _ _ _=>jbH (i:=0) (show (["p","state","held","bit"]:List Str).Nodup by decide +kernel) rfl (Or.inl rfl) (.inr rfl)) (fun _ _ _ _=>(jeB (jaz (jdI hr.units) (jaj jdl (jaa 0) (jaa 2)) (jaa 2) (jaq _)) (jak jay (jaa 1) (jaj jev (jaa 0) (jaa 3)) (fun _ _=>rfl)) (jak jay (jaa 1) (jaa 0) (fun _ _=>rfl))))) jae))))
theorem jiZ:FnScope jg5 ["place","both"] (jaf jdD):=⟨rfl,rfl,rfl,by decide +kernel,rfl,by decide +kernel,by decide +kernel⟩
theorem ji8 {f:Addr} {fd:FuncData} {dV:Value} (F:FunV K "exchanged" "exchanged" jdD f fd dV) (T:Txt mg):FnOk P w K mg base CX0 1 f fd ["place","both"] (spD K jaR):=
  jcS (k:=0) (b:=jdL) F jiZ fun cdv A outer s H E hr=>(jai (jam (jeB (jaz jwo (jaj jdl (jaa 0) (jaa 1)) (jbd (jab jad (jab (jaa 1) jae))) (by with_unfolding_all rfl)) (jaa 0) (jaj jev (jaa 0) (jaa 1)))))
theorem sc_done:FnScope jnY ["state","row"] (jaf ji2):=⟨rfl,rfl,rfl,by decide +kernel,rfl,by decide +kernel,by decide +kernel⟩
theorem jq8 {f:Addr} {fd:FuncData} {dV:Value} (F:FunV K "done" "done" ji2 f fd dV) (T:Txt mg) (C_worth:Cal P w K mg base "worth" 1 jbp []) (C_swung:Cal P w K mg base "swung" 4 jd3 []) (C_turned_where:Cal P w K mg base "turned_where" 2 jaN []) (C_flipped_where:Cal P w K mg base "flipped_where" 1 jaE []) (C_exchanged:Cal P w K mg base "exchanged" 1 jaR []):FnOk P w K mg base CX0 5 f fd ["state","row"] (spD K jb9):=
  jcS (k:=4) (b:=jfR) F sc_done fun cdv A outer s H E hr=>(jag (jan 2 sc_done.nd (jaj jcf (jnn (ja6 jew rfl T.len (by decide +kernel) (jab (jaa 0) jae))) jad)) (jag (jan 3 sc_done.nd (jah C_worth (hr.mono (by decide)) rfl (jab (jaa 2) (jab (jak jay (jaa 1) jad (fun _ _=>rfl)) jae)))) (jag (jbe (jaz (jdI hr.units) (jak jay (jaa 1) jad (fun _ _=>rfl)) jbD (jaq _)) (jai (jam (jah C_swung (hr.mono (by decide)) rfl (jab (jaa 0) (jab (jaa 3) jae))))) jaH) (jag (jbe (jaz (jdI hr.units) (jak jay (jaa 1) jad (fun _ _=>rfl)) jbD (jaq _)) (jai (jam (jah C_turned_where (hr.mono (by decide)) rfl (jab (jaa 0) (jab (jaa 3) (jab (jak jay (jaa 1) jad (fun _ _=>rfl)) jae)))))) jaH) (jag (jbe (jaz (jdI hr.units) (jak jay (jaa 1) jad (fun _ _=>rfl)) jbD (jaq _)) (jai (jam (jah C_flipped_where (hr.mono (by decide)) rfl (jab (jaa 0) (jab jad (jab (jaa 3) jae)))))) jaH) (jag (jan 4 sc_done.nd (jah C_worth (hr.mono (by decide)) rfl (jab (jaa 2) (jab (jak jay (jaa 1) jad (fun _ _=>rfl)) jae)))) (jag (jbe (jaz (jdI hr.units) (jak jay (jaa 1) jad (fun _ _=>rfl)) jbD (jaq _)) (jai (jam (jah C_flipped_where (hr.mono (by decide)) rfl (jab (jaa 0) (jab (jaa 3) (jab (jaa 4) jae)))))) jaH) (jag (jbe (jaz (jdI hr.units) (jak jay (jaa 1) jad (fun _ _=>rfl)) jbD (jaq _)) (jai (jam (jah C_turned_where (hr.mono (by decide)) rfl (jab (jaa 0) (jab (jaj jqm (jaa 3) (jaa 4)) (jab jad jae)))))) jaH) (jai (jam (jbg jcY rfl T.tuple (by decide +kernel) (jab (jdk (vars:=["p"]) (caps:=[(0,"state"),(3,"first"),(4,"second")]) (by change BlkOk (jaf ji2).names jnY _ _ _; exact ⟨rfl,by decide +kernel,by decide +kernel,by decide +kernel,by decide +kernel⟩) rfl (jbb rfl T.range (jab (ja6 jew rfl T.len (by decide +kernel) (jab (jaa 0) jae)) jae)) jcU (fun _ _ _ _=>jbH (i:=0) (show (["p","state","first","second"]:List Str).Nodup by decide +kernel) rfl (Or.inl rfl) (.inr rfl)) (fun _ _ _ _=>(jak jay (jaa 1) (jah C_exchanged (hr.mono (by decide)) rfl (jab (jaa 0) (jab (jaj jqm (jaa 2) (jaa 3)) jae))) (fun _ _=>rfl)))) jae))))))))))))
theorem sc_value_of:FnScope jhL ["bitset","bits"] (jaf jej):=⟨rfl,rfl,rfl,by decide +kernel,rfl,by decide +kernel,by decide +kernel⟩
theorem jj0 {f:Addr} {fd:FuncData} {dV:Value} (F:FunV K "value_of" "value_of" jej f fd dV) (T:Txt mg):FnOk P w K mg base CX0 1 f fd ["bitset","bits"] (spD K jaK):=
  jcS (k:=0) (b:=jfG) F sc_value_of fun cdv A outer s H E hr=>(jag (jan 2 sc_value_of.nd (jaj jdl (jaa 0) (jaa 1))) (jag (jan 3 sc_value_of.nd jad) (jag (jom (fun _=>wN) PassesOwn.never (jaz (jjK hr.units) (jaa 2) jad (jaq _)) (jag (jan 2 sc_value_of.nd (jaj jdl (jaa 2) (jaj jcf (jaa 2) jad))) (jai (jan 3 sc_value_of.nd (jaj jcf jad (jaa 3)))))) (jai (jam (jaa 3))))))
theorem sc_word_times:FnScope jfT ["one","other"] (jaf jc7):=⟨rfl,rfl,rfl,by decide +kernel,rfl,by decide +kernel,by decide +kernel⟩
theorem jh6 {f:Addr} {fd:FuncData} {dV:Value} (F:FunV K "word_times" "word_times" jc7 f fd dV) (T:Txt mg) (C_value_of:Cal P w K mg base "value_of" 1 jaK []):FnOk P w K mg base CX0 2 f fd ["one","other"] (spD K jaD):=
  jcS (k:=1) (b:=jd7) F sc_word_times fun cdv A outer s H E hr=>(jag (jan 2 sc_word_times.nd (jaj jc4 (jaj jc4 (jak jay (jaa 0) jad (fun _ _=>rfl)) (jak jay (jaa 1) jad (fun _ _=>rfl))) (jaj jd5 jad (jah C_value_of (hr.mono (by decide)) rfl (jab (jak jay (jaa 0) jad (fun _ _=>rfl)) (jab (jak jay (jaa 1) jad (fun _ _=>rfl)) jae)))))) (jai (jam (jbd (jab (jaj jev (jak jay (jaa 0) jad (fun _ _=>rfl)) (jak jay (jaa 1) jad (fun _ _=>rfl))) (jab (jaj jev (jak jay (jaa 0) jad (fun _ _=>rfl)) (jak jay (jaa 1) jad (fun _ _=>rfl))) (jab (jaj jcg (jaa 2) jad) jae)))))))
theorem jot:FnScope jnZ ["one","other"] (jaf jh1):=⟨rfl,rfl,rfl,by decide +kernel,rfl,by decide +kernel,by decide +kernel⟩
theorem joI {f:Addr} {fd:FuncData} {dV:Value} (F:FunV K "agree" "agree" jh1 f fd dV) (T:Txt mg) (C_word_times:Cal P w K mg base "word_times" 2 jaD []):FnOk P w K mg base CX0 3 f fd ["one","other"] (spD K jce):=
  jcS (k:=2) (b:=jkx) F jot fun cdv A outer s H E hr=>(jai (jam (jcE (jdI hr.units) (jah C_word_times (hr.mono (by decide)) rfl (jab (jaa 0) (jab (jaa 1) jae))) (jah C_word_times (hr.mono (by decide)) rfl (jab (jaa 1) (jab (jaa 0) jae))) (jaq _))))
theorem sc_word_done:FnScope jg2 ["state","word"] (jaf jdA):=⟨rfl,rfl,rfl,by decide +kernel,rfl,by decide +kernel,by decide +kernel⟩
theorem ji5 {f:Addr} {fd:FuncData} {dV:Value} (F:FunV K "word_done" "word_done" jdA f fd dV) (T:Txt mg) (C_turned:Cal P w K mg base "turned" 1 jbF []) (C_value_of:Cal P w K mg base "value_of" 1 jaK []):FnOk P w K mg base CX0 2 f fd ["state","word"] (spD K jbv):=
  jcS (k:=1) (b:=jeR) F sc_word_done fun cdv A outer s H E hr=>(jag (jmh 2 sc_word_done.nd jae) (jag (jdX PassesOwn.never rfl (jbb rfl T.range (jab (ja6 jew rfl T.len (by decide +kernel) (jab (jaa 0) jae)) jae)) (jcX 3 sc_word_done.nd) (jag (jan 4 sc_word_done.nd (jaj jev (jaa 3) (jak jay (jaa 1) jad (fun _ _=>rfl)))) (jai (jiT 2 (jah C_turned (hr.mono (by decide)) rfl (jab (jak jay (jaa 0) (jaa 4) (fun _ _=>rfl)) (jab (jaj jc4 (jaj jd5 jad (jak jay (jaa 1) jad (fun _ _=>rfl))) (jaj jd5 jad (jah C_value_of (hr.mono (by decide)) rfl (jab (jaa 4) (jab (jak jay (jaa 1) jad (fun _ _=>rfl)) jae))))) jae))))))) (jai (jon 2 (jam (jbg jcY rfl T.tuple (by decide +kernel) (jab (jaa 2) jae)))))))
theorem sc_swing_carried:FnScope jed ["word","bit"] (jaf jb2):=⟨rfl,rfl,rfl,by decide +kernel,rfl,by decide +kernel,by decide +kernel⟩
theorem jfZ {f:Addr} {fd:FuncData} {dV:Value} (F:FunV K "swing_carried" "swing_carried" jb2 f fd dV) (T:Txt mg) (C_value_of:Cal P w K mg base "value_of" 1 jaK []):FnOk P w K mg base CX0 2 f fd ["word","bit"] (spD K jbc):=
  jcS (k:=1) (b:=jc0) F sc_swing_carried fun cdv A outer s H E hr=>(jag (jan 2 sc_swing_carried.nd (jaj jdl (jaj jev (jak jay (jaa 0) jad (fun _ _=>rfl)) (jak jay (jaa 0) jad (fun _ _=>rfl))) (jaa 1))) (jag (jan 3 sc_swing_carried.nd (jaj jc4 (jak jay (jaa 0) jad (fun _ _=>rfl)) (jaj jd5 jad (jah C_value_of (hr.mono (by decide)) rfl (jab (jaj jdl (jak jay (jaa 0) jad (fun _ _=>rfl)) (jak jay (jaa 0) jad (fun _ _=>rfl))) (jab (jaa 1) jae)))))) (jai (jam (jbd (jab (jaj jev (jak jay (jaa 0) jad (fun _ _=>rfl)) (jaa 2)) (jab (jaj jev (jak jay (jaa 0) jad (fun _ _=>rfl)) (jaa 2)) (jab (jaj jcg (jaa 3) jad) jae))))))))
theorem sc_turn_carried:FnScope jeD ["word","bit","e"] (jaf jci):=⟨rfl,rfl,rfl,by decide +kernel,rfl,by decide +kernel,by decide +kernel⟩
theorem jgu {f:Addr} {fd:FuncData} {dV:Value} (F:FunV K "turn_carried" "turn_carried" jci f fd dV) (T:Txt mg):FnOk P w K mg base CX0 1 f fd ["word","bit","e"] (spD K jaO):=
  jcS (k:=0) (b:=jbT) F sc_turn_carried fun cdv A outer s H E hr=>(jag (jbe (jaz (jdI hr.units) (jaj jdl (jak jay (jaa 0) jad (fun _ _=>rfl)) (jaa 1)) jad (jaq _)) (jai (jam (jaa 0))) jaH) (jag (jbe (jaz (jdI hr.units) (jaj jcg (jaa 2) jad) jad (jaq _)) (jai jqK) jaH) (jag (jan 3 sc_turn_carried.nd (jeB (jaz (jdI hr.units) (jaj jcg (jaa 2) jad) jad (jaq _)) (jaj jev (jak jay (jaa 0) jad (fun _ _=>rfl)) (jaa 1)) (jak jay (jaa 0) jad (fun _ _=>rfl)))) (jai (jam (jbd (jab (jak jay (jaa 0) jad (fun _ _=>rfl)) (jab (jaa 3) (jab (jaj jcg (jaj jc4 (jak jay (jaa 0) jad (fun _ _=>rfl)) (jaj jfC (jaa 2) jad)) jad) jae)))))))))
theorem sc_tie_carried:FnScope jfm ["word","first","second"] (jaf jcL):=⟨rfl,rfl,rfl,by decide +kernel,rfl,by decide +kernel,by decide +kernel⟩
theorem jhi {f:Addr} {fd:FuncData} {dV:Value} (F:FunV K "tie_carried" "tie_carried" jcL f fd dV) (T:Txt mg):FnOk P w K mg base CX0 1 f fd ["word","first","second"] (spD K jaY):=
  jcS (k:=0) (b:=jbN) F sc_tie_carried fun cdv A outer s H E hr=>(jag (jan 3 sc_tie_carried.nd (jeB (jaz (jjK hr.units) (jaj jdl (jak jay (jaa 0) jad (fun _ _=>rfl)) (jaa 1)) jad (jaq _)) (jaj jev (jak jay (jaa 0) jad (fun _ _=>rfl)) (jaa 2)) (jak jay (jaa 0) jad (fun _ _=>rfl)))) (jag (jan 4 sc_tie_carried.nd (jeB (jaz (jjK hr.units) (jaj jdl (jak jay (jaa 0) jad (fun _ _=>rfl)) (jaa 2)) jad (jaq _)) (jaj jev (jak jay (jaa 0) jad (fun _ _=>rfl)) (jaa 1)) (jak jay (jaa 0) jad (fun _ _=>rfl)))) (jai (jam (jbd (jab (jaa 3) (jab (jaa 4) (jab (jak jay (jaa 0) jad (fun _ _=>rfl)) jae))))))))
theorem sc_sign_carried:FnScope jeE ["word","first","second"] (jaf jcj):=⟨rfl,rfl,rfl,by decide +kernel,rfl,by decide +kernel,by decide +kernel⟩
theorem jgw {f:Addr} {fd:FuncData} {dV:Value} (F:FunV K "sign_carried" "sign_carried" jcj f fd dV) (T:Txt mg):FnOk P w K mg base CX0 1 f fd ["word","first","second"] (spD K jbh):=
  jcS (k:=0) (b:=jdn) F sc_sign_carried fun cdv A outer s H E hr=>(jag (jan 3 sc_sign_carried.nd (jak jay (jaa 0) jad (fun _ _=>rfl))) (jag (jbe (jaz (jjK hr.units) (jaj jdl (jak jay (jaa 0) jad (fun _ _=>rfl)) (jaa 1)) jad (jaq _)) (jai (jan 3 sc_sign_carried.nd (jaj jev (jaa 3) (jaa 2)))) jaH) (jag (jbe (jaz (jjK hr.units) (jaj jdl (jak jay (jaa 0) jad (fun _ _=>rfl)) (jaa 2)) jad (jaq _)) (jai (jan 3 sc_sign_carried.nd (jaj jev (jaa 3) (jaa 1)))) jaH) (jag (jan 4 sc_sign_carried.nd (jaj jqm (jaa 1) (jaa 2))) (jag (jan 5 sc_sign_carried.nd (jeB (jaz (jdI hr.units) (jaj jdl (jak jay (jaa 0) jad (fun _ _=>rfl)) (jaa 4)) (jaa 4) (jaq _)) (jaj jc4 (jak jay (jaa 0) jad (fun _ _=>rfl)) jad) (jak jay (jaa 0) jad (fun _ _=>rfl)))) (jai (jam (jbd (jab (jak jay (jaa 0) jad (fun _ _=>rfl)) (jab (jaa 3) (jab (jaj jcg (jaa 5) jad) jae)))))))))))
theorem sc_carried:FnScope jjG ["wires","word","row"] (jaf je2):=⟨rfl,rfl,rfl,by decide +kernel,rfl,by decide +kernel,by decide +kernel⟩
theorem jlu {f:Addr} {fd:FuncData} {dV:Value} (F:FunV K "carried" "carried" je2 f fd dV) (T:Txt mg) (C_worth:Cal P w K mg base "worth" 1 jbp []) (C_swing_carried:Cal P w K mg base "swing_carried" 2 jbc []) (C_turn_carried:Cal P w K mg base "turn_carried" 1 jaO []) (C_tie_carried:Cal P w K mg base "tie_carried" 1 jaY []) (C_sign_carried:Cal P w K mg base "sign_carried" 1 jbh []) (C_exchanged:Cal P w K mg base "exchanged" 1 jaR []) (C_value_of:Cal P w K mg base "value_of" 1 jaK []):FnOk P w K mg base CX0 3 f fd ["wires","word","row"] (spD K jaW):=
  jcS (k:=2) (b:=jcG) F sc_carried fun cdv A outer s H E hr=>(jag (jan 3 sc_carried.nd (jah C_worth (hr.mono (by decide)) rfl (jab (jaa 0) (jab (jak jay (jaa 2) jad (fun _ _=>rfl)) jae)))) (jag (jbe (jaz (jdI hr.units) (jak jay (jaa 2) jad (fun _ _=>rfl)) jbD (jaq _)) (jai (jam (jah C_swing_carried (hr.mono (by decide)) rfl (jab (jaa 1) (jab (jaa 3) jae))))) jaH) (jag (jbe (jaz (jdI hr.units) (jak jay (jaa 2) jad (fun _ _=>rfl)) jbD (jaq _)) (jai (jam (jah C_turn_carried (hr.mono (by decide)) rfl (jab (jaa 1) (jab (jaa 3) (jab (jak jay (jaa 2) jad (fun _ _=>rfl)) jae)))))) jaH) (jag (jbe (jaz (jdI hr.units) (jak jay (jaa 2) jad (fun _ _=>rfl)) jbD (jaq _)) (jai (jam (jbd (jab (jak jay (jaa 1) jad (fun _ _=>rfl)) (jab (jak jay (jaa 1) jad (fun _ _=>rfl)) (jab (jaj jcg (jaj jc4 (jak jay (jaa 1) jad (fun _ _=>rfl)) (jaj jd5 jad (jah C_value_of (hr.mono (by decide)) rfl (jab (jak jay (jaa 1) jad (fun _ _=>rfl)) (jab (jaa 3) jae))))) jad) jae)))))) jaH) (jag (jan 4 sc_carried.nd (jah C_worth (hr.mono (by decide)) rfl (jab (jaa 0) (jab (jak jay (jaa 2) jad (fun _ _=>rfl)) jae)))) (jag (jbe (jaz (jdI hr.units) (jak jay (jaa 2) jad (fun _ _=>rfl)) jbD (jaq _)) (jai (jam (jah C_tie_carried (hr.mono (by decide)) rfl (jab (jaa 1) (jab (jaa 3) (jab (jaa 4) jae)))))) jaH) (jag (jbe (jaz (jdI hr.units) (jak jay (jaa 2) jad (fun _ _=>rfl)) jbD (jaq _)) (jai (jam (jah C_sign_carried (hr.mono (by decide)) rfl (jab (jaa 1) (jab (jaa 3) (jab (jaa 4) jae)))))) jaH) (jai (jam (jbd (jab (jah C_exchanged (hr.mono (by decide)) rfl (jab (jak jay (jaa 1) jad (fun _ _=>rfl)) (jab (jaj jqm (jaa 3) (jaa 4)) jae))) (jab (jah C_exchanged (hr.mono (by decide)) rfl (jab (jak jay (jaa 1) jad (fun _ _=>rfl)) (jab (jaj jqm (jaa 3) (jaa 4)) jae))) (jab (jak jay (jaa 1) jad (fun _ _=>rfl)) jae)))))))))))))
theorem sc_table_of:FnScope jeu ["wires","place"] (jaf jbX):=⟨rfl,rfl,rfl,by decide +kernel,rfl,by decide +kernel,by decide +kernel⟩
theorem jj1 {f:Addr} {fd:FuncData} {dV:Value} (F:FunV K "table_of" "table_of" jbX f fd dV) (T:Txt mg) (C_bits_of:Cal P w K mg base "bits_of" 1 jcB []) (C_worth:Cal P w K mg base "worth" 1 jbp []):FnOk P w K mg base CX0 2 f fd ["wires","place"] (spD K jbM):=
  jcS (k:=1) (b:=jfH) F sc_table_of fun cdv A outer s H E hr=>(jag (jan 2 sc_table_of.nd (jah C_bits_of (hr.mono (by decide)) rfl (jab (jaa 0) (jab (jaa 1) jae)))) (jag (jan 3 sc_table_of.nd (jdk (vars:=["wire"]) (caps:=[(0,"wires")]) (by change BlkOk (jaf jbX).names jeu _ _ _; exact ⟨rfl,by decide +kernel,by decide +kernel,by decide +kernel,by decide +kernel⟩) rfl (jbb rfl T.range (jab (jaa 0) jae)) jcU (fun _ _ _ _=>jbH (i:=0) (show (["wire","wires"]:List Str).Nodup by decide +kernel) rfl (Or.inl rfl) (.inr rfl)) (fun _ _ _ _=>(jah C_worth (hr.mono (by decide)) rfl (jab (jaa 1) (jab (jaa 0) jae)))))) (jai (jam (jbg jcY rfl T.tuple (by decide +kernel) (jab (jdk (vars:=["wire"]) (caps:=[(2,"bits"),(3,"flips")]) (by change BlkOk (jaf jbX).names jeu _ _ _; exact ⟨rfl,by decide +kernel,by decide +kernel,by decide +kernel,by decide +kernel⟩) rfl (jbb rfl T.range (jab (jaa 0) jae)) jcU (fun _ _ _ _=>jbH (i:=0) (show (["wire","bits","flips"]:List Str).Nodup by decide +kernel) rfl (Or.inl rfl) (.inr rfl)) (fun _ _ _ _=>(jbd (jab (jbd (jab (jak jay (jaa 2) (jaa 0) (fun _ _=>rfl)) (jab jad (jab jad jae)))) (jab (jbd (jab jad (jab (jak jay (jaa 2) (jaa 0) (fun _ _=>rfl)) (jab (jaj jd5 jad (jak jay (jaa 1) (jaa 0) (fun _ _=>rfl))) jae)))) jae))))) jae))))))
theorem jhV:FnScope jee ["rows"] (jaf jcw):=⟨rfl,rfl,rfl,by decide +kernel,rfl,by decide +kernel,by decide +kernel⟩
theorem jh8 {f:Addr} {fd:FuncData} {dV:Value} (F:FunV K "refuse_odd" "refuse_odd" jcw f fd dV) (T:Txt mg):FnOk P w K mg base CX0 1 f fd ["rows"] (spD K jbK):=
  jcS (k:=0) (b:=jd9) F jhV fun cdv A outer s H E hr=>(jai (jbe (jbW (ja6 (jvQ rfl) rfl T.any (by decide +kernel) (jab (jdk (vars:=["row"]) (caps:=[]) (by change BlkOk (jaf jcw).names jee _ _ _; exact ⟨rfl,by decide +kernel,by decide +kernel,by decide +kernel,by decide +kernel⟩) rfl (jez (jaa 0)) jcU (fun _ _ _ _=>jbH (i:=0) (show (["row"]:List Str).Nodup by decide +kernel) rfl (Or.inl rfl) (.inr rfl)) (fun _ _ _ _=>(jgJ (jcE (jdI hr.units) (jak jay (jaa 0) jad (fun _ _=>rfl)) jbD (jaq _)) (jhD (jcE (jdI hr.units) (jaj jcg (jak jay (jaa 0) jad (fun _ _=>rfl)) jad) jad (jaq _)))))) jae))) (jai jqK) jaH))
theorem sc_table_done:FnScope jec ["table","row"] (jaf jcv):=⟨rfl,rfl,rfl,by decide +kernel,rfl,by decide +kernel,by decide +kernel⟩
theorem jh7 {f:Addr} {fd:FuncData} {dV:Value} (F:FunV K "table_done" "table_done" jcv f fd dV) (T:Txt mg) (C_refuse_odd:Cal P w K mg base "refuse_odd" 1 jbK []) (C_carried:Cal P w K mg base "carried" 3 jaW []):FnOk P w K mg base CX0 4 f fd ["table","row"] (spD K jbs):=
  jcS (k:=3) (b:=jd8) F sc_table_done fun cdv A outer s H E hr=>(jag (jmi (jah C_refuse_odd (hr.mono (by decide)) rfl (jab (jbd (jab (jaa 1) jae)) jae))) (jag (jan 2 sc_table_done.nd (ja6 jew rfl T.len (by decide +kernel) (jab (jaa 0) jae))) (jai (jam (jbg jcY rfl T.tuple (by decide +kernel) (jab (jdk (vars:=["pair"]) (caps:=[(1,"row"),(2,"wires")]) (by change BlkOk (jaf jcv).names jec _ _ _; exact ⟨rfl,by decide +kernel,by decide +kernel,by decide +kernel,by decide +kernel⟩) rfl (jez (jaa 0)) jcU (fun _ _ _ _=>jbH (i:=0) (show (["pair","row","wires"]:List Str).Nodup by decide +kernel) rfl (Or.inl rfl) (.inr rfl)) (fun _ _ _ _=>(jbd (jab (jah C_carried (hr.mono (by decide)) rfl (jab (jaa 2) (jab (jak jay (jaa 0) jad (fun _ _=>rfl)) (jab (jaa 1) jae)))) (jab (jah C_carried (hr.mono (by decide)) rfl (jab (jaa 2) (jab (jak jay (jaa 0) jad (fun _ _=>rfl)) (jab (jaa 1) jae)))) jae))))) jae))))))
theorem jiY:FnScope jg3 ["table","wire","mark"] (jaf jdB):=⟨rfl,rfl,rfl,by decide +kernel,rfl,by decide +kernel,by decide +kernel⟩
theorem ji6 {f:Addr} {fd:FuncData} {dV:Value} (F:FunV K "look_word" "look_word" jdB f fd dV) (T:Txt mg) (C_worth:Cal P w K mg base "worth" 1 jbp []):FnOk P w K mg base CX0 2 f fd ["table","wire","mark"] (spD K jaC):=
  jcS (k:=1) (b:=jeS) F jiY fun cdv A outer s H E hr=>(jai (jam (jbd (jab jad (jab (jah C_worth (hr.mono (by decide)) rfl (jab (ja6 jew rfl T.len (by decide +kernel) (jab (jaa 0) jae)) (jab (jaa 1) jae))) (jab (jaj jd5 jad (jaa 2)) jae))))))
theorem jgq:FnScope jdt ["table","word"] (jaf jbS):=⟨rfl,rfl,rfl,by decide +kernel,rfl,by decide +kernel,by decide +kernel⟩
theorem jgx {f:Addr} {fd:FuncData} {dV:Value} (F:FunV K "against_look" "against_look" jbS f fd dV) (T:Txt mg) (C_agree:Cal P w K mg base "agree" 3 jce []):FnOk P w K mg base CX0 4 f fd ["table","word"] (spD K jax):=
  jcS (k:=3) (b:=jdo) F jgq fun cdv A outer s H E hr=>(jai (jam (jio (vars:=["wire"]) (caps:=[(0,"table"),(1,"word")]) (by change BlkOk (jaf jbS).names jdt _ _ _; exact ⟨rfl,by decide +kernel,by decide +kernel,by decide +kernel,by decide +kernel⟩) rfl (jbb rfl T.range (jab (ja6 jew rfl T.len (by decide +kernel) (jab (jaa 0) jae)) jae)) jcU (fun _ _ _ _=>jbH (i:=0) (show (["wire","table","word"]:List Str).Nodup by decide +kernel) rfl (Or.inl rfl) (.inr rfl)) (fun _ _ _ _=>(jcu (jbW (jah C_agree (hr.mono (by decide)) rfl (jab (jak jay (jak jay (jaa 1) (jaa 0) (fun _ _=>rfl)) jad (fun _ _=>rfl)) (jab (jaa 2) jae)))))) (fun _ _ _ _=>(jaa 0)))))
theorem jhf:FnScope jdN ["table","word"] (jaf jb3):=⟨rfl,rfl,rfl,by decide +kernel,rfl,by decide +kernel,by decide +kernel⟩
theorem jhj {f:Addr} {fd:FuncData} {dV:Value} (F:FunV K "keepers_for" "keepers_for" jb3 f fd dV) (T:Txt mg) (C_agree:Cal P w K mg base "agree" 3 jce []):FnOk P w K mg base CX0 4 f fd ["table","word"] (spD K jbf):=
  jcS (k:=3) (b:=jdK) F jhf fun cdv A outer s H E hr=>(jai (jam (jio (vars:=["wire"]) (caps:=[(0,"table"),(1,"word")]) (by change BlkOk (jaf jb3).names jdN _ _ _; exact ⟨rfl,by decide +kernel,by decide +kernel,by decide +kernel,by decide +kernel⟩) rfl (jbb rfl T.range (jab (ja6 jew rfl T.len (by decide +kernel) (jab (jaa 0) jae)) jae)) jcU (fun _ _ _ _=>jbH (i:=0) (show (["wire","table","word"]:List Str).Nodup by decide +kernel) rfl (Or.inl rfl) (.inr rfl)) (fun _ _ _ _=>(jcu (jbW (jah C_agree (hr.mono (by decide)) rfl (jab (jak jay (jak jay (jaa 1) (jaa 0) (fun _ _=>rfl)) jad (fun _ _=>rfl)) (jab (jaa 2) jae)))))) (fun _ _ _ _=>(jaa 0)))))
theorem sc_look_told:FnScope jg4 ["table","wire"] (jaf jdC):=⟨rfl,rfl,rfl,by decide +kernel,rfl,by decide +kernel,by decide +kernel⟩
theorem ji7 {f:Addr} {fd:FuncData} {dV:Value} (F:FunV K "look_told" "look_told" jdC f fd dV) (T:Txt mg) (C_look_word:Cal P w K mg base "look_word" 2 jaC []) (C_keepers_for:Cal P w K mg base "keepers_for" 4 jbf []) (C_against_look:Cal P w K mg base "against_look" 4 jax []) (C_word_times:Cal P w K mg base "word_times" 2 jaD []):FnOk P w K mg base CX0 5 f fd ["table","wire"] (spD K jar):=
  jcS (k:=4) (b:=jdJ) F sc_look_told fun cdv A outer s H E hr=>(jag (jan 2 sc_look_told.nd (jah C_look_word (hr.mono (by decide)) rfl (jab (jaa 0) (jab (jaa 1) (jab jad jae))))) (jag (jbe (jaz (jjK hr.units) (jah C_against_look (hr.mono (by decide)) rfl (jab (jaa 0) (jab (jaa 2) jae))) (jff jae) (jaq _)) (jai (jam jjn)) jaH) (jag (jan 3 sc_look_told.nd (jbd (jab jad (jab jad (jab jad jae))))) (jag (jdX PassesOwn.never rfl (jez (jah C_keepers_for (hr.mono (by decide)) rfl (jab (jaa 0) (jab (jaa 2) jae)))) (jcX 4 sc_look_told.nd) (jai (jan 3 sc_look_told.nd (jah C_word_times (hr.mono (by decide)) rfl (jab (jaa 3) (jab (jak jay (jak jay (jaa 0) (jaa 4) (fun _ _=>rfl)) jad (fun _ _=>rfl)) jae)))))) (jai (jam (jeB (jaz (jdI hr.units) (jaa 3) (jaa 2) (jaq _)) jad jad)))))))
theorem jjU:FnScope jhM ["word","look","keeper"] (jaf jel):=⟨rfl,rfl,rfl,by decide +kernel,rfl,by decide +kernel,by decide +kernel⟩
theorem jj2 {f:Addr} {fd:FuncData} {dV:Value} (F:FunV K "agreeing" "agreeing" jel f fd dV) (T:Txt mg) (C_agree:Cal P w K mg base "agree" 3 jce []) (C_word_times:Cal P w K mg base "word_times" 2 jaD []):FnOk P w K mg base CX0 4 f fd ["word","look","keeper"] (spD K jbZ):=
  jcS (k:=3) (b:=jfI) F jjU fun cdv A outer s H E hr=>(jai (jam (jeB (jbW (jah C_agree (hr.mono (by decide)) rfl (jab (jaa 0) (jab (jaa 1) jae)))) (jaa 0) (jah C_word_times (hr.mono (by decide)) rfl (jab (jaa 0) (jab (jaa 2) jae))))))
theorem sc_opened:FnScope jiI ["table","wire","look"] (jaf je1):=⟨rfl,rfl,rfl,by decide +kernel,rfl,by decide +kernel,by decide +kernel⟩
theorem jmN {f:Addr} {fd:FuncData} {dV:Value} (F:FunV K "opened" "opened" je1 f fd dV) (T:Txt mg) (C_agreeing:Cal P w K mg base "agreeing" 4 jbZ []):FnOk P w K mg base CX0 5 f fd ["table","wire","look"] (spD K jco):=
  jcS (k:=4) (b:=jiD) F sc_opened fun cdv A outer s H E hr=>(jag (jan 3 sc_opened.nd (jak jay (jak jay (jaa 0) (jaa 1) (fun _ _=>rfl)) jad (fun _ _=>rfl))) (jag (joo 4 sc_opened.nd (vars:=["pair"]) (caps:=[(2,"look"),(3,"keeper")]) (by change BlkOk (jaf je1).names jiI _ _ _; exact ⟨rfl,by decide +kernel,by decide +kernel,by decide +kernel,by decide +kernel⟩) rfl (jez (jaa 0)) jcU (fun _ _ _ _=>jbH (i:=0) (show (["pair","look","keeper"]:List Str).Nodup by decide +kernel) rfl (Or.inl rfl) (.inr rfl)) (fun _ _ _ _=>(jbd (jab (jah C_agreeing (hr.mono (by decide)) rfl (jab (jak jay (jaa 0) jad (fun _ _=>rfl)) (jab (jaa 1) (jab (jaa 2) jae)))) (jab (jah C_agreeing (hr.mono (by decide)) rfl (jab (jak jay (jaa 0) jad (fun _ _=>rfl)) (jab (jaa 1) (jab (jaa 2) jae)))) jae))))) (jag (jsE 4 (jaa 1) (jbd (jab (jaa 3) (jab (jaa 2) jae)))) (jai (jon 4 (jam (jbg jcY rfl T.tuple (by decide +kernel) (jab (jaa 4) jae))))))))
theorem sc_table_looked:FnScope jds ["table","wire","mark"] (jaf jbR):=⟨rfl,rfl,rfl,by decide +kernel,rfl,by decide +kernel,by decide +kernel⟩
theorem jfY {f:Addr} {fd:FuncData} {dV:Value} (F:FunV K "table_looked" "table_looked" jbR f fd dV) (T:Txt mg) (C_look_told:Cal P w K mg base "look_told" 5 jar []) (C_look_word:Cal P w K mg base "look_word" 2 jaC []) (C_opened:Cal P w K mg base "opened" 5 jco []) (C_against_look:Cal P w K mg base "against_look" 4 jax []) (E_Barred:ExcX K "Barred"):FnOk P w K mg base (CXX P w) 6 f fd ["table","wire","mark"] (spX K jaM):=
  jxG (k:=5) (fx:=jcZ) F sc_table_looked fun cdv A outer s H E hr=>(jkm (SV.lift (jan 3 sc_table_looked.nd (jah C_look_told (hr.mono (by decide)) rfl (jab (jaa 0) (jab (jaa 1) jae))))) (jkm (SV.lift (jan 4 sc_table_looked.nd (jah C_look_word (hr.mono (by decide)) rfl (jab (jaa 0) (jab (jaa 1) (jab (jaa 2) jae)))))) (jkm (SV.lift (jbe (jaz juy (jaa 3) jjn (jaq _)) (jai (jam (jah C_opened (hr.mono (by decide)) rfl (jab (jaa 0) (jab (jak jay (jah C_against_look (hr.mono (by decide)) rfl (jab (jaa 0) (jab (jaa 4) jae))) jad (fun _ _=>rfl)) (jab (jaa 4) jae)))))) jaH)) (jkn (juR (TV.lift (jaz (jjK hr.units) (jaa 3) (jaa 2) (jaq _))) (jkn (joh E_Barred rfl rfl (EV.lift jbD))) jvR)))))
theorem jgv {f:Addr} {fd:FuncData} {dV:Value} (F:FunV K "table_looked" "table_looked" jbR f fd dV) (T:Txt mg) (C_look_told:Cal P w K mg base "look_told" 5 jar []) (C_look_word:Cal P w K mg base "look_word" 2 jaC []) (C_opened:Cal P w K mg base "opened" 5 jco []) (C_against_look:Cal P w K mg base "against_look" 4 jax []):FnOk P w K mg base CX0 6 f fd ["table","wire","mark"] (spD K jap):=
  jcS (k:=5) (b:=jcq) F sc_table_looked fun cdv A outer s H E hr=>(jag (jan 3 sc_table_looked.nd (jah C_look_told (hr.mono (by decide)) rfl (jab (jaa 0) (jab (jaa 1) jae)))) (jag (jan 4 sc_table_looked.nd (jah C_look_word (hr.mono (by decide)) rfl (jab (jaa 0) (jab (jaa 1) (jab (jaa 2) jae))))) (jag (jbe (jaz juy (jaa 3) jjn (jaq _)) (jai (jam (jah C_opened (hr.mono (by decide)) rfl (jab (jaa 0) (jab (jak jay (jah C_against_look (hr.mono (by decide)) rfl (jab (jaa 0) (jab (jaa 4) jae))) jad (fun _ _=>rfl)) (jab (jaa 4) jae)))))) jaH) (jag (jbe (jaz (jjK hr.units) (jaa 3) (jaa 2) (jaq _)) (jai jqK) jaH) (jai (jam (jaa 0)))))))
theorem sc__law_kinds:FnScope jef ["e"] (jaf jcx):=⟨rfl,rfl,rfl,by decide +kernel,rfl,by decide +kernel,by decide +kernel⟩
theorem jib {f:Addr} {fd:FuncData} {dV:Value} (F:FunV K "_law_kinds" "_law_kinds" jcx f fd dV) (T:Txt mg) (I_NoStep:IsX K "NoStep" jgk) (I_TooGreat:IsX K "TooGreat" jeJ) (I_UnlikeWires:IsX K "UnlikeWires" jdg) (I_HasLooks:IsX K "HasLooks" jeK) (I_StillHidden:IsX K "StillHidden" jdh) (I_NoPaper:IsX K "NoPaper" jfs) (I_Barred:IsX K "Barred" jgl) (I_OddTurn:IsX K "OddTurn" jfr) (I_BadRow:IsX K "BadRow" jgm) (I_ValueError:IsT K "ValueError" jdz):FnS P w K mg base 1 f fd ["e"] jb0:=
  jxI (k:=0) (b:=jfS) F sc__law_kinds fun cdv A outer s H hr hsf=>(jag (jan 1 sc__law_kinds.nd (jff (jab (jfg I_HasLooks rfl T.isinstance rfl (jaa 0)) (jab (jfg I_UnlikeWires rfl T.isinstance rfl (jaa 0)) (jab (jfg I_TooGreat rfl T.isinstance rfl (jaa 0)) (jab (jfg I_NoStep rfl T.isinstance rfl (jaa 0)) jae)))))) (jag (jan 2 sc__law_kinds.nd (jff (jab (jfg I_OddTurn rfl T.isinstance rfl (jaa 0)) (jab (jfg I_Barred rfl T.isinstance rfl (jaa 0)) (jab (jfg I_NoPaper rfl T.isinstance rfl (jaa 0)) (jab (jfg I_StillHidden rfl T.isinstance rfl (jaa 0)) jae)))))) (jag (jan 3 sc__law_kinds.nd (jaj jc4 (jaj jc4 (jaa 1) (jaa 2)) (jff (jab (jfg I_BadRow rfl T.isinstance rfl (jaa 0)) jae)))) (jai (jam (jaj jc4 (jpo (vars:=["k"]) (caps:=[(3,"told")]) (by change BlkOk (jaf jcx).names jef _ _ _; exact ⟨rfl,by decide +kernel,by decide +kernel,by decide +kernel,by decide +kernel⟩) hsf (jlE rfl T.range (jab jad jae)) jcU (fun _ _ _ _=>jbH (i:=0) (show (["k","told"]:List Str).Nodup by decide +kernel) rfl (Or.inl rfl) (.inr rfl)) (fun _ _ _ _=>(jbW (jak jay (jaa 1) (jaa 0) (fun _ _=>rfl)))) (fun _ _ _ _=>(jaa 0))) (jff (jab (jbg jrT rfl T.int (by decide +kernel) (jab (jrE I_ValueError rfl T.isinstance rfl T.ValueError (jaa 0)) jae)) jae))))))))
theorem jgr:FnScope jeG ["script","k"] (jaf jcl):=⟨rfl,rfl,rfl,by decide +kernel,rfl,by decide +kernel,by decide +kernel⟩
theorem jgz {f:Addr} {fd:FuncData} {dV:Value} (F:FunV K "_law_cell_at" "_law_cell_at" jcl f fd dV) (T:Txt mg):FnOk P w K mg base CX0 1 f fd ["script","k"] (spD K jaQ):=
  jcS (k:=0) (b:=jcr) F jgr fun cdv A outer s H E hr=>(jag (jbe (jaz jsk (jaa 1) (ja6 jew rfl T.len (by decide +kernel) (jab (jaa 0) jae)) (jaq _)) (jai (jam (jak jay (jaa 0) (jaa 1) (fun _ _=>rfl)))) jaH) (jai (jam jad)))
theorem jhW:FnScope jfV ["found"] (jaf jc9):=⟨rfl,rfl,rfl,by decide +kernel,rfl,by decide +kernel,by decide +kernel⟩
theorem jia {f:Addr} {fd:FuncData} {dV:Value} (F:FunV K "_law_whole" "_law_whole" jc9 f fd dV) (T:Txt mg):FnOk P w K mg base CX0 1 f fd ["found"] (spD K jcD):=
  jcS (k:=0) (b:=jea) F jhW fun cdv A outer s H E hr=>(jai (jam (jgJ (jjo (T:="int") rfl T.isinstance rfl T.int (by decide +kernel) (by decide) (by decide) (jaa 0)) (jhD (jtJ (jjo (T:="bool") rfl T.isinstance rfl T.bool (by decide +kernel) (by decide) (by decide) (jaa 0)))))))
theorem sc__law_odd:FnScope jhO ["place"] (jaf jen):=⟨rfl,rfl,rfl,by decide +kernel,rfl,by decide +kernel,by decide +kernel⟩
theorem jj4 {f:Addr} {fd:FuncData} {dV:Value} (F:FunV K "_law_odd" "_law_odd" jen f fd dV) (T:Txt mg):FnOk P w K mg base CX0 1 f fd ["place"] (spD K ja9):=
  jcS (k:=0) (b:=jfJ) F sc__law_odd fun cdv A outer s H E hr=>(jag (jan 1 sc__law_odd.nd jad) (jag (jdX PassesOwn.never rfl (jbb rfl T.range (jab jad jae)) (jcX 2 sc__law_odd.nd) (jai (jan 1 sc__law_odd.nd (jaj jev (jaa 1) (jaj jdl (jaj jlK (jaa 0) (jaa 2)) jad))))) (jai (jam (jaa 1)))))
theorem sc__law_is_word:FnScope jeF ["found","wires"] (jaf jck):=⟨rfl,rfl,rfl,by decide +kernel,rfl,by decide +kernel,by decide +kernel⟩
theorem jgy {f:Addr} {fd:FuncData} {dV:Value} (F:FunV K "_law_is_word" "_law_is_word" jck f fd dV) (T:Txt mg) (C__law_whole:Cal P w K mg base "_law_whole" 1 jcD []):FnOk P w K mg base CX0 2 f fd ["found","wires"] (spD K jaP):=
  jcS (k:=1) (b:=jdp) F sc__law_is_word fun cdv A outer s H E hr=>(jag (jbe (WV.tv (jhc (jcu (jbW (jjo (T:="tuple") rfl T.isinstance rfl T.tuple (by decide +kernel) (by decide) (by decide) (jaa 0)))) (jeW (jaz (jjK hr.units) (ja6 jew rfl T.len (by decide +kernel) (jab (jaa 0) jae)) jad (jaq _))))) (jai (jam jeQ)) jaH) (jag (jdX PassesOwn.never rfl (jez (jaa 0)) (jcX 2 sc__law_is_word.nd) (jai (jbe (WV.tv (jhc (jcu (jbW (jah C__law_whole (hr.mono (by decide)) rfl (jab (jaa 2) jae)))) (jeW (jaz jsk (jaa 2) jad (jaq _))))) (jai (jam jeQ)) jaH))) (jai (jam (jgJ (jcE jsk (jak jay (jaa 0) jad (fun _ _=>rfl)) (jaj jgK jad (jaa 1)) (jaq _)) (jgJ (jcE jsk (jak jay (jaa 0) jad (fun _ _=>rfl)) (jaj jgK jad (jaa 1)) (jaq _)) (jhD (jcE jsk (jak jay (jaa 0) jad (fun _ _=>rfl)) jad (jaq _)))))))))
theorem sc__law_row:FnScope jhN ["cell","wires"] (jaf jem):=⟨rfl,rfl,rfl,by decide +kernel,rfl,by decide +kernel,by decide +kernel⟩
theorem jj3 {f:Addr} {fd:FuncData} {dV:Value} (F:FunV K "_law_row" "_law_row" jem f fd dV) (T:Txt mg):FnOk P w K mg base CX0 1 f fd ["cell","wires"] (spD K ja0):=
  jcS (k:=0) (b:=jch) F sc__law_row fun cdv A outer s H E hr=>(jag (jan 2 sc__law_row.nd (jak jay (jff (jab jbD (jab jbD (jab jbD (jab jbD (jab jbD (jab jbD jae))))))) (jaj jcg (jaa 0) jad) (fun _ _=>rfl))) (jag (jbe (jaz (jdI hr.units) (jaa 1) jad (jaq _)) (jai (jan 2 sc__law_row.nd (jak jay (jff (jab jbD (jab jbD (jab jbD jae)))) (jaj jcg (jaa 0) jad) (fun _ _=>rfl)))) jaH) (jag (jan 3 sc__law_row.nd (jaj jcg (jaj jfC (jaa 0) jad) (jaa 1))) (jag (jbe (jaz (jdI hr.units) (jaa 2) jbD (jaq _)) (jai (jam (jbd (jab jbD (jab (jaa 3) (jab (jaj jc4 jad (jaj jd5 jad (jaj jcg (jaj jfC (jaa 0) jad) jad))) jae)))))) jaH) (jag (jbe (WV.tv (jhc (jaz (jdI hr.units) (jaa 2) jbD (jaq _)) (jeW (jaz (jdI hr.units) (jaa 2) jbD (jaq _))))) (jai (jam (jbd (jab (jaa 2) (jab (jaa 3) jae))))) jaH) (jai (jam (jbd (jab (jaa 2) (jab (jaa 3) (jab (jaj jcg (jaj jc4 (jaj jc4 (jaa 3) jad) (jaj jcg (jaj jfC (jaa 0) jad) (jaj jcf (jaa 1) jad))) (jaa 1)) jae)))))))))))
theorem jhX:FnScope jfW ["one","other"] (jaf jda):=⟨rfl,rfl,rfl,by decide +kernel,rfl,by decide +kernel,by decide +kernel⟩
theorem jic {f:Addr} {fd:FuncData} {dV:Value} (F:FunV K "_law_agree" "_law_agree" jda f fd dV) (T:Txt mg) (C__law_odd:Cal P w K mg base "_law_odd" 1 ja9 []):FnOk P w K mg base CX0 2 f fd ["one","other"] (spD K ja8):=
  jcS (k:=1) (b:=jeb) F jhX fun cdv A outer s H E hr=>(jai (jam (jcE (jdI hr.units) (jah C__law_odd (hr.mono (by decide)) rfl (jab (jaj jdl (jak jay (jaa 0) jad (fun _ _=>rfl)) (jak jay (jaa 1) jad (fun _ _=>rfl))) jae)) (jah C__law_odd (hr.mono (by decide)) rfl (jab (jaj jdl (jak jay (jaa 0) jad (fun _ _=>rfl)) (jak jay (jaa 1) jad (fun _ _=>rfl))) jae)) (jaq _))))
theorem sc__law_is_table:FnScope jeg ["found","wires"] (jaf jb4):=⟨rfl,rfl,rfl,by decide +kernel,rfl,by decide +kernel,by decide +kernel⟩
theorem jf1 {f:Addr} {fd:FuncData} {dV:Value} (F:FunV K "_law_is_table" "_law_is_table" jb4 f fd dV) (T:Txt mg) (C__law_is_word:Cal P w K mg base "_law_is_word" 2 jaP []) (C__law_odd:Cal P w K mg base "_law_odd" 1 ja9 []) (C__law_agree:Cal P w K mg base "_law_agree" 2 ja8 []):FnOk P w K mg base CX0 3 f fd ["found","wires"] (spD K jaZ):=
  jcS (k:=2) (b:=jc2) F sc__law_is_table fun cdv A outer s H E hr=>(jag (jbe (WV.tv (jhc (jcu (jbW (jjo (T:="tuple") rfl T.isinstance rfl T.tuple (by decide +kernel) (by decide) (by decide) (jaa 0)))) (jeW (jaz (jjK hr.units) (ja6 jew rfl T.len (by decide +kernel) (jab (jaa 0) jae)) (jaa 1) (jaq _))))) (jai (jam jeQ)) jaH) (jag (jdX PassesOwn.never rfl (jez (jaa 0)) (jcX 2 sc__law_is_table.nd) (jag (jbe (WV.tv (jhc (jcu (jbW (jjo (T:="tuple") rfl T.isinstance rfl T.tuple (by decide +kernel) (by decide) (by decide) (jaa 2)))) (jeW (jaz (jjK hr.units) (ja6 jew rfl T.len (by decide +kernel) (jab (jaa 2) jae)) jad (jaq _))))) (jai (jam jeQ)) jaH) (jag (jbe (WV.tv (jhc (jcu (jbW (jah C__law_is_word (hr.mono (by decide)) rfl (jab (jak jay (jaa 2) jad (fun _ _=>rfl)) (jab (jaa 1) jae))))) (jeW (jcu (jbW (jah C__law_is_word (hr.mono (by decide)) rfl (jab (jak jay (jaa 2) jad (fun _ _=>rfl)) (jab (jaa 1) jae)))))))) (jai (jam jeQ)) jaH) (jai (jbe (jaz (jdI hr.units) (jaj jcg (jaj jc4 (jak jay (jak jay (jaa 2) jad (fun _ _=>rfl)) jad (fun _ _=>rfl)) (jah C__law_odd (hr.mono (by decide)) rfl (jab (jaj jdl (jak jay (jak jay (jaa 2) jad (fun _ _=>rfl)) jad (fun _ _=>rfl)) (jak jay (jak jay (jaa 2) jad (fun _ _=>rfl)) jad (fun _ _=>rfl))) jae))) jad) jad (jaq _)) (jai (jam jeQ)) jaH))))) (jag (jdX PassesOwn.never rfl (jbb rfl T.range (jab (jaa 1) jae)) (jcX 3 sc__law_is_table.nd) (jai (jdX PassesOwn.never rfl (jbb rfl T.range (jab (jaa 1) jae)) (jcX 4 sc__law_is_table.nd) (jai (jbe (WV.tv (jhc (jcu (jbW (jah C__law_agree (hr.mono (by decide)) rfl (jab (jak jay (jak jay (jaa 0) (jaa 3) (fun _ _=>rfl)) jad (fun _ _=>rfl)) (jab (jak jay (jak jay (jaa 0) (jaa 4) (fun _ _=>rfl)) jad (fun _ _=>rfl)) jae))))) (jeW (jaz (jjK hr.units) (jah C__law_agree (hr.mono (by decide)) rfl (jab (jak jay (jak jay (jaa 0) (jaa 3) (fun _ _=>rfl)) jad (fun _ _=>rfl)) (jab (jak jay (jak jay (jaa 0) (jaa 4) (fun _ _=>rfl)) jad (fun _ _=>rfl)) jae))) (jcE (jjK hr.units) (jaa 3) (jaa 4) (jaq _)) (jaq _))))) (jai (jam jeQ)) jaH))))) (jai (jam jeQ)))))
theorem sc__law_left:FnScope jg7 ["state","bit","mark"] (jaf jdE):=⟨rfl,rfl,rfl,by decide +kernel,rfl,by decide +kernel,by decide +kernel⟩
theorem jja {f:Addr} {fd:FuncData} {dV:Value} (F:FunV K "_law_left" "_law_left" jdE f fd dV) (T:Txt mg):FnOk P w K mg base CX0 1 f fd ["state","bit","mark"] (spD K jaI):=
  jcS (k:=0) (b:=jeU) F sc__law_left fun cdv A outer s H E hr=>(jag (jmh 3 sc__law_left.nd jae) (jag (jdX PassesOwn.never rfl (jbb rfl T.range (jab (ja6 jew rfl T.len (by decide +kernel) (jab (jaa 0) jae)) jae)) (jcX 4 sc__law_left.nd) (jai (jbe (jaz (jdI hr.units) (jbg jrT rfl T.int (by decide +kernel) (jab (jcE (jjK hr.units) (jaj jdl (jaa 4) (jaa 1)) jad (jaq _)) jae)) (jaa 2) (jaq _)) (jai (jiT 3 (jak jay (jaa 0) (jaa 4) (fun _ _=>rfl)))) (jai (jiT 3 (jbd (jab jad (jab jad (jab jad (jab jad (jab jad jae))))))))))) (jai (jon 3 (jam (jbg jcY rfl T.tuple (by decide +kernel) (jab (jaa 3) jae)))))))
theorem jjV:FnScope jfM ["state"] (jaf jdw):=⟨rfl,rfl,rfl,by decide +kernel,rfl,by decide +kernel,by decide +kernel⟩
theorem jj5 {f:Addr} {fd:FuncData} {dV:Value} (F:FunV K "_law_any" "_law_any" jdw f fd dV) (T:Txt mg):FnOk P w K mg base CX0 1 f fd ["state"] (spD K jaL):=
  jcS (k:=0) (b:=jfK) F jjV fun cdv A outer s H E hr=>(jai (jam (jcE jxJ (ja6 jew rfl T.len (by decide +kernel) (jab (jio (vars:=["one"]) (caps:=[]) (by change BlkOk (jaf jdw).names jfM _ _ _; exact ⟨rfl,by decide +kernel,by decide +kernel,by decide +kernel,by decide +kernel⟩) rfl (jez (jaa 0)) jcU (fun _ _ _ _=>jbH (i:=0) (show (["one"]:List Str).Nodup by decide +kernel) rfl (Or.inl rfl) (.inr rfl)) (fun _ _ _ _=>(jaz (jjK hr.units) (jaa 0) (jbd (jab jad (jab jad (jab jad (jab jad (jab jad jae)))))) (jaq _))) (fun _ _ _ _=>(jaa 0))) jae)) jad (jaq _))))
theorem sc__law_belongs:FnScope jeH ["table","state","wires"] (jaf jcm):=⟨rfl,rfl,rfl,by decide +kernel,rfl,by decide +kernel,by decide +kernel⟩
theorem jgA {f:Addr} {fd:FuncData} {dV:Value} (F:FunV K "_law_belongs" "_law_belongs" jcm f fd dV) (T:Txt mg) (C__law_is_table:Cal P w K mg base "_law_is_table" 3 jaZ []) (C__law_any:Cal P w K mg base "_law_any" 1 jaL []) (C_word_done:Cal P w K mg base "word_done" 2 jbv []):FnOk P w K mg base CX0 4 f fd ["table","state","wires"] (spD K jau):=
  jcS (k:=3) (b:=jdq) F sc__law_belongs fun cdv A outer s H E hr=>(jag (jbe (WV.tv (jhc (jcu (jbW (jah C__law_is_table (hr.mono (by decide)) rfl (jab (jaa 0) (jab (jaa 2) jae))))) (jeW (jcu (jbW (jah C__law_any (hr.mono (by decide)) rfl (jab (jaa 1) jae))))))) (jai (jam jeQ)) jaH) (jag (jdX PassesOwn.never rfl (jez (jaa 0)) (jcX 3 sc__law_belongs.nd) (jai (jbe (jaz (jjK hr.units) (jah C_word_done (hr.mono (by decide)) rfl (jab (jaa 1) (jab (jak jay (jaa 3) jad (fun _ _=>rfl)) jae))) (jaa 1) (jaq _)) (jai (jam jeQ)) jaH))) (jai (jam jeQ))))
theorem sc__law_barred:FnScope jfn ["table","wire","mark"] (jaf jcM):=⟨rfl,rfl,rfl,by decide +kernel,rfl,by decide +kernel,by decide +kernel⟩
theorem jhk {f:Addr} {fd:FuncData} {dV:Value} (F:FunV K "_law_barred" "_law_barred" jcM f fd dV) (T:Txt mg) (C_table_looked:Cal P w K mg base "table_looked" 6 jap []) (C__law_kinds:CalS P w K mg base "_law_kinds" 1 jb0) (Y_table_looked:CalX P w K mg base "table_looked" 6 jaM []) (H_WaveError:Hnd K "WaveError" hs_WaveError):FnOk P w K mg base CX0 7 f fd ["table","wire","mark"] (spD K jbx):=
  jcS (k:=6) (b:=jdM) F sc__law_barred fun cdv A outer s H E hr=>(jag (jan 3 sc__law_barred.nd (jff jae)) (jag (jqI 4 3 H_WaveError C__law_kinds (hr.mono (by decide)) rfl rfl sc__law_barred.nd rfl rfl rfl rfl (jai (jmi (jah C_table_looked (hr.mono (by decide)) rfl (jab (jaa 0) (jab (jaa 1) (jab (jaa 2) jae)))))) (fun _ _=>(jkn (jqG (jtI Y_table_looked (hr.mono (by decide)) rfl (AV.lift (jab (jaa 0) (jab (jaa 1) (jab (jaa 2) jae))))))))) (jai (jam (jcE (jdI hr.units) (jaa 3) (jff (jab jad (jab jad jae))) (jaq _))))))
theorem sc__law_mark_good:FnScope jcI ["table","state","wire","mark","wires"] (jaf jby):=⟨rfl,rfl,rfl,by decide +kernel,rfl,by decide +kernel,by decide +kernel⟩
theorem jfx {f:Addr} {fd:FuncData} {dV:Value} (F:FunV K "_law_mark_good" "_law_mark_good" jby f fd dV) (T:Txt mg) (C__law_left:Cal P w K mg base "_law_left" 1 jaI []) (C_look_told:Cal P w K mg base "look_told" 5 jar []) (C_table_looked:Cal P w K mg base "table_looked" 6 jap []) (C__law_any:Cal P w K mg base "_law_any" 1 jaL []) (C__law_belongs:Cal P w K mg base "_law_belongs" 4 jau []) (C__law_barred:Cal P w K mg base "_law_barred" 7 jbx []):FnOk P w K mg base CX0 8 f fd ["table","state","wire","mark","wires"] (spD K jao):=
  jcS (k:=7) (b:=jbE) F sc__law_mark_good fun cdv A outer s H E hr=>(jag (jan 5 sc__law_mark_good.nd (jaj jgK jad (jaj jcf (jaj jcf (jaa 4) jad) (jaa 2)))) (jag (jan 6 sc__law_mark_good.nd (jah C__law_left (hr.mono (by decide)) rfl (jab (jaa 1) (jab (jaa 5) (jab (jaa 3) jae))))) (jag (jan 7 sc__law_mark_good.nd (jah C_look_told (hr.mono (by decide)) rfl (jab (jaa 0) (jab (jaa 2) jae)))) (jag (jbe (jcu (jbW (jah C__law_any (hr.mono (by decide)) rfl (jab (jaa 6) jae)))) (jai (jam (jgJ (jcE (jdI hr.units) (jaa 7) (jaj jcf jad (jaa 3)) (jaq _)) (jhD (jah C__law_barred (hr.mono (by decide)) rfl (jab (jaa 0) (jab (jaa 2) (jab (jaa 3) jae)))))))) jaH) (jag (jan 8 sc__law_mark_good.nd (jah C_table_looked (hr.mono (by decide)) rfl (jab (jaa 0) (jab (jaa 2) (jab (jaa 3) jae))))) (jag (jbe (jcu (jbW (jah C__law_belongs (hr.mono (by decide)) rfl (jab (jaa 8) (jab (jaa 6) (jab (jaa 4) jae)))))) (jai (jam jeQ)) jaH) (jag (jbe (jcu (jbW (jah C__law_any (hr.mono (by decide)) rfl (jab (jah C__law_left (hr.mono (by decide)) rfl (jab (jaa 1) (jab (jaa 5) (jab (jaj jcf jad (jaa 3)) jae)))) jae)))) (jai (jam (jgJ (jcE (jdI hr.units) (jaa 7) (jaa 3) (jaq _)) (jhD (jcE (jdI hr.units) (jaa 8) (jaa 0) (jaq _)))))) jaH) (jai (jam (jgJ (jcE juy (jaa 7) jjn (jaq _)) (jhD (jcE (jvM (jwx hr)) (jbd (jab jad (jab (jaa 5) (jab (jaj jd5 jad (jaa 3)) jae)))) (jdk (vars:=["pair"]) (caps:=[]) (by change BlkOk (jaf jby).names jcI _ _ _; exact ⟨rfl,by decide +kernel,by decide +kernel,by decide +kernel,by decide +kernel⟩) rfl (jez (jaa 8)) jcU (fun _ _ _ _=>jbH (i:=0) (show (["pair"]:List Str).Nodup by decide +kernel) rfl (Or.inl rfl) (.inr rfl)) (fun _ _ _ _=>(jak jay (jaa 0) jad (fun _ _=>rfl)))) (by with_unfolding_all rfl)))))))))))))
theorem sc_law:FnScope jt4 ["script"] (jaf jh0):=⟨rfl,rfl,rfl,by decide +kernel,rfl,by decide +kernel,by decide +kernel⟩
theorem jti {f:Addr} {fd:FuncData} {dV:Value} (F:FunV K "law" "law" jh0 f fd dV) (T:Txt mg) (C_table_of:Cal P w K mg base "table_of" 2 jbM []) (C_beginning:Cal P w K mg base "beginning" 1 jbw []) (C__law_belongs:Cal P w K mg base "_law_belongs" 4 jau []) (C__law_cell_at:Cal P w K mg base "_law_cell_at" 1 jaQ []) (C__law_row:Cal P w K mg base "_law_row" 1 ja0 []) (C_table_done:Cal P w K mg base "table_done" 4 jbs []) (C_done:Cal P w K mg base "done" 5 jb9 []) (C_look_told:Cal P w K mg base "look_told" 5 jar []) (C_table_looked:Cal P w K mg base "table_looked" 6 jap []) (C__law_left:Cal P w K mg base "_law_left" 1 jaI []) (C__law_mark_good:Cal P w K mg base "_law_mark_good" 8 jao []):FnOk P w K mg base CX0 9 f fd ["script"] (spD K jlH):=
  jcS (k:=8) (b:=jpy) F sc_law fun cdv A outer s H E hr=>(jag (jan 1 sc_law.nd (jaj jc4 jad (jaj jcg (jah C__law_cell_at (hr.mono (by decide)) rfl (jab (jaa 0) (jab jad jae))) jad))) (jag (jan 2 sc_law.nd (jaj jcg (jah C__law_cell_at (hr.mono (by decide)) rfl (jab (jaa 0) (jab jad jae))) (jaj jgK jad (jaa 1)))) (jag (jan 3 sc_law.nd (jah C_table_of (hr.mono (by decide)) rfl (jab (jaa 1) (jab (jaa 2) jae)))) (jag (jan 4 sc_law.nd (jah C_beginning (hr.mono (by decide)) rfl (jab (jaa 1) (jab (jaa 2) jae)))) (jag (jdX PassesOwn.never rfl (jez (jpn (jaa 0) (jmF jad) (jmF (jaj jcf jad (jaj jd5 jad (jbg jrT rfl T.int (by decide +kernel) (jab (jcE (jdI hr.units) (jaa 1) jad (jaq _)) jae))))))) (jcX 5 sc_law.nd) (jag (jbe (jaz jsk (jaj jcg (jaa 5) jad) jad (jaq _)) (jag (jan 6 sc_law.nd (jah C__law_row (hr.mono (by decide)) rfl (jab (jaj jfC (jaa 5) jad) (jab (jaa 1) jae)))) (jag (jan 3 sc_law.nd (jah C_table_done (hr.mono (by decide)) rfl (jab (jaa 3) (jab (jaa 6) jae)))) (jai (jan 4 sc_law.nd (jah C_done (hr.mono (by decide)) rfl (jab (jaa 4) (jab (jaa 6) jae))))))) (jag (jan 7 sc_law.nd (jaj jcg (jaj jfC (jaa 5) jad) (jaa 1))) (jag (jbe (jcu (jbW (jah C__law_mark_good (hr.mono (by decide)) rfl (jab (jaa 3) (jab (jaa 4) (jab (jaa 7) (jab jad (jab (jaa 1) jae)))))))) (jai (jam jeQ)) jaH) (jag (jbe (jcu (jbW (jah C__law_mark_good (hr.mono (by decide)) rfl (jab (jaa 3) (jab (jaa 4) (jab (jaa 7) (jab jad (jab (jaa 1) jae)))))))) (jai (jam jeQ)) jaH) (jag (jan 8 sc_law.nd (jah C_look_told (hr.mono (by decide)) rfl (jab (jaa 3) (jab (jaa 7) jae)))) (jag (jbe (jaz juy (jaa 8) jjn (jaq _)) (jai (jan 8 sc_law.nd (jaj jcg (jaj jfC (jaa 5) jad) jad))) jaH) (jag (jan 3 sc_law.nd (jah C_table_looked (hr.mono (by decide)) rfl (jab (jaa 3) (jab (jaa 7) (jab (jaa 8) jae))))) (jai (jan 4 sc_law.nd (jah C__law_left (hr.mono (by decide)) rfl (jab (jaa 4) (jab (jaj jgK jad (jaj jcf (jaj jcf (jaa 1) jad) (jaa 7))) (jab (jaa 8) jae))))))))))))) (jai (jbe (jcu (jbW (jah C__law_belongs (hr.mono (by decide)) rfl (jab (jaa 3) (jab (jaa 4) (jab (jaa 1) jae)))))) (jai (jam jeQ)) jaH)))) (jai (jam (jah C__law_belongs (hr.mono (by decide)) rfl (jab (jaa 3) (jab (jaa 4) (jab (jaa 1) jae)))))))))))
end
theorem jho:jat "twos_shared" jcK ["joined","most"]:=fun _ _ _ _ _ _ us hl=>by obtain ⟨_,_,rfl⟩:=jfQ hl; exact rfl
theorem jlP:jat "by_root" je3 ["a","b","c","d"]:=fun _ _ _ _ _ _ us hl=>by obtain ⟨_,_,_,_,rfl⟩:=jwi hl; exact rfl
theorem jiy:jat "parts_over" jc8 ["x","k"]:=fun _ _ _ _ _ _ us hl=>by obtain ⟨_,_,rfl⟩:=jfQ hl; exact rfl
theorem jrY:jat "plus" jkS ["x","y"]:=fun _ _ _ _ _ _ us hl=>by obtain ⟨_,_,rfl⟩:=jfQ hl; exact rfl
theorem jlR:jat "against" je4 ["x"]:=fun _ _ _ _ _ _ us hl=>by obtain ⟨_,rfl⟩:=jpR hl; exact rfl
theorem jnI:jat "turned" jf9 ["x","e"]:=fun _ _ _ _ _ _ us hl=>by obtain ⟨_,_,rfl⟩:=jfQ hl; exact rfl
theorem jnK:jat "halved" jga ["x"]:=fun _ _ _ _ _ _ us hl=>by obtain ⟨_,rfl⟩:=jpR hl; exact rfl
theorem jpu:jat "worth" jhY ["wires","wire"]:=fun _ _ _ _ _ _ us hl=>by obtain ⟨_,_,rfl⟩:=jfQ hl; exact rfl
theorem jlQ:jat "bits_of" jdZ ["wires","place"]:=fun _ _ _ _ _ _ us hl=>by obtain ⟨_,_,rfl⟩:=jfQ hl; exact rfl
theorem jpv:jat "swung" jhZ ["state","bit"]:=fun _ _ _ _ _ _ us hl=>by obtain ⟨_,_,rfl⟩:=jfQ hl; exact rfl
theorem jgS:jat "turned_where" jbQ ["state","held","e"]:=fun _ _ _ _ _ _ us hl=>by obtain ⟨_,_,_,rfl⟩:=jk3 hl; exact rfl
theorem jf4:jat "flipped_where" jbG ["state","held","bit"]:=fun _ _ _ _ _ _ us hl=>by obtain ⟨_,_,_,rfl⟩:=jk3 hl; exact rfl
theorem jjC:jat "exchanged" jdD ["place","both"]:=fun _ _ _ _ _ _ us hl=>by obtain ⟨_,_,rfl⟩:=jfQ hl; exact rfl
theorem jrZ:jat "done" ji2 ["state","row"]:=fun _ _ _ _ _ _ us hl=>by obtain ⟨_,_,rfl⟩:=jfQ hl; exact rfl
theorem jkp:jat "value_of" jej ["bitset","bits"]:=fun _ _ _ _ _ _ us hl=>by obtain ⟨_,_,rfl⟩:=jfQ hl; exact rfl
theorem jiv:jat "word_times" jc7 ["one","other"]:=fun _ _ _ _ _ _ us hl=>by obtain ⟨_,_,rfl⟩:=jfQ hl; exact rfl
theorem jpw:jat "agree" jh1 ["one","other"]:=fun _ _ _ _ _ _ us hl=>by obtain ⟨_,_,rfl⟩:=jfQ hl; exact rfl
theorem jjz:jat "word_done" jdA ["state","word"]:=fun _ _ _ _ _ _ us hl=>by obtain ⟨_,_,rfl⟩:=jfQ hl; exact rfl
theorem jf3:jat "swing_carried" jb2 ["word","bit"]:=fun _ _ _ _ _ _ us hl=>by obtain ⟨_,_,rfl⟩:=jfQ hl; exact rfl
theorem jgT:jat "turn_carried" jci ["word","bit","e"]:=fun _ _ _ _ _ _ us hl=>by obtain ⟨_,_,_,rfl⟩:=jk3 hl; exact rfl
theorem jhp:jat "tie_carried" jcL ["word","first","second"]:=fun _ _ _ _ _ _ us hl=>by obtain ⟨_,_,_,rfl⟩:=jk3 hl; exact rfl
theorem jgU:jat "sign_carried" jcj ["word","first","second"]:=fun _ _ _ _ _ _ us hl=>by obtain ⟨_,_,_,rfl⟩:=jk3 hl; exact rfl
theorem jlO:jat "carried" je2 ["wires","word","row"]:=fun _ _ _ _ _ _ us hl=>by obtain ⟨_,_,_,rfl⟩:=jk3 hl; exact rfl
theorem jix:jat "refuse_odd" jcw ["rows"]:=fun _ _ _ _ _ _ us hl=>by obtain ⟨_,rfl⟩:=jpR hl; exact rfl
theorem jiw:jat "table_done" jcv ["table","row"]:=fun _ _ _ _ _ _ us hl=>by obtain ⟨_,_,rfl⟩:=jfQ hl; exact rfl
theorem jjA:jat "look_word" jdB ["table","wire","mark"]:=fun _ _ _ _ _ _ us hl=>by obtain ⟨_,_,_,rfl⟩:=jk3 hl; exact rfl
theorem jgV:jat "against_look" jbS ["table","word"]:=fun _ _ _ _ _ _ us hl=>by obtain ⟨_,_,rfl⟩:=jfQ hl; exact rfl
theorem jhq:jat "keepers_for" jb3 ["table","word"]:=fun _ _ _ _ _ _ us hl=>by obtain ⟨_,_,rfl⟩:=jfQ hl; exact rfl
theorem jjB:jat "look_told" jdC ["table","wire"]:=fun _ _ _ _ _ _ us hl=>by obtain ⟨_,_,rfl⟩:=jfQ hl; exact rfl
theorem jkq:jat "agreeing" jel ["word","look","keeper"]:=fun _ _ _ _ _ _ us hl=>by obtain ⟨_,_,_,rfl⟩:=jk3 hl; exact rfl
theorem jnJ:jat "opened" je1 ["table","wire","look"]:=fun _ _ _ _ _ _ us hl=>by obtain ⟨_,_,_,rfl⟩:=jk3 hl; exact rfl
theorem jd6:jat "table_looked" jbR ["table","wire","mark"]:=fun _ _ _ _ _ _ us hl=>by obtain ⟨_,_,_,rfl⟩:=jk3 hl; exact rfl
theorem jiA:jat "_law_kinds" jcx ["e"]:=fun _ _ _ _ _ _ us hl=>by obtain ⟨_,rfl⟩:=jpR hl; exact rfl
theorem jgX:jat "_law_cell_at" jcl ["script","k"]:=fun _ _ _ _ _ _ us hl=>by obtain ⟨_,_,rfl⟩:=jfQ hl; exact rfl
theorem jiz:jat "_law_whole" jc9 ["found"]:=fun _ _ _ _ _ _ us hl=>by obtain ⟨_,rfl⟩:=jpR hl; exact rfl
theorem jks:jat "_law_odd" jen ["place"]:=fun _ _ _ _ _ _ us hl=>by obtain ⟨_,rfl⟩:=jpR hl; exact rfl
theorem jgW:jat "_law_is_word" jck ["found","wires"]:=fun _ _ _ _ _ _ us hl=>by obtain ⟨_,_,rfl⟩:=jfQ hl; exact rfl
theorem jkr:jat "_law_row" jem ["cell","wires"]:=fun _ _ _ _ _ _ us hl=>by obtain ⟨_,_,rfl⟩:=jfQ hl; exact rfl
theorem jiB:jat "_law_agree" jda ["one","other"]:=fun _ _ _ _ _ _ us hl=>by obtain ⟨_,_,rfl⟩:=jfQ hl; exact rfl
theorem jf5:jat "_law_is_table" jb4 ["found","wires"]:=fun _ _ _ _ _ _ us hl=>by obtain ⟨_,_,rfl⟩:=jfQ hl; exact rfl
theorem jjD:jat "_law_left" jdE ["state","bit","mark"]:=fun _ _ _ _ _ _ us hl=>by obtain ⟨_,_,_,rfl⟩:=jk3 hl; exact rfl
theorem jkt:jat "_law_any" jdw ["state"]:=fun _ _ _ _ _ _ us hl=>by obtain ⟨_,rfl⟩:=jpR hl; exact rfl
theorem jgY:jat "_law_belongs" jcm ["table","state","wires"]:=fun _ _ _ _ _ _ us hl=>by obtain ⟨_,_,_,rfl⟩:=jk3 hl; exact rfl
theorem jhr:jat "_law_barred" jcM ["table","wire","mark"]:=fun _ _ _ _ _ _ us hl=>by obtain ⟨_,_,_,rfl⟩:=jk3 hl; exact rfl
theorem jfF:jat "_law_mark_good" jby ["table","state","wire","mark","wires"]:=fun _ _ _ _ _ _ us hl=>by obtain ⟨_,_,_,_,_,rfl⟩:=jwh hl; exact rfl
theorem jtX {l:PySem.W.OpenLaw} {w:World} {K:PySem.W.Frag} {h:Heap} {mg:Str → Option Value} {fa f2 f10 f25 f48 t2 t10 t25 xc_NoStep xc_TooGreat xc_UnlikeWires xc_HasLooks xc_StillHidden xc_NoPaper xc_Barred xc_OddTurn xc_BadRow xc_WaveError f_NOUGHT f_ONE:Addr} {od2 an2 od10 an10 od25 an25 od48 an48 td2 td10 td25 td_NOUGHT td_ONE:Option Addr} {sl2 sl10 sl25 sl48 ts2 ts10 ts25 ts_NOUGHT ts_ONE:Array (Option Value)} {oc2 kV2 dc2 pm2 cd2 ct2 oc10 kV10 dc10 pm10 cd10 ct10 oc25 kV25 dc25 pm25 cd25 ct25 oc48 kV48 dc48 pm48 cd48 ct48 tc2 tc10 tc25:Value} {tn2 tn10 tn25 tn_NOUGHT tn_ONE:Nat} {tk2_0 tk10_0 tk25_0 tk_NOUGHT_0 tk_NOUGHT_1 tk_NOUGHT_2 tk_NOUGHT_3 tk_NOUGHT_4 tk_ONE_0 tk_ONE_1 tk_ONE_2 tk_ONE_3 tk_ONE_4:Tok} (X:K.In h) (G:h.Ns mainGlobals mg) (hfa:mg "law" = some (.ref fa))
    (D0:DefIn K "twos_shared" "twos_shared" jcK)
    (D1:DefIn K "by_root" "by_root" je3)
    (a2:PySem.W.nsIn K mainGlobals "number" = some (some (.ref f2))) (l2:K.lookup f2 = some ⟨oc2,od2,.func (PySem.W.fnOf "number" "number" (jbP jek) (jbi jek) (jaf jek) (.ref t2) kV2 dc2 pm2 an2 cd2 ct2),sl2⟩) (c2:PySem.W.codeIn K cd2 "number" = true) (k2:PySem.W.keepIn K (.ref f2) = true)
    (d2:K.lookup t2 = some ⟨tc2,td2,.seq #[.int 0 tk2_0] tn2,ts2⟩)
    (D3:DefIn K "parts_over" "parts_over" jc8)
    (D4:DefIn K "plus" "plus" jkS)
    (D5:DefIn K "against" "against" je4)
    (D6:DefIn K "turned" "turned" jf9)
    (D7:DefIn K "halved" "halved" jga)
    (D8:DefIn K "worth" "worth" jhY)
    (D9:DefIn K "bits_of" "bits_of" jdZ)
    (a10:PySem.W.nsIn K mainGlobals "beginning" = some (some (.ref f10))) (l10:K.lookup f10 = some ⟨oc10,od10,.func (PySem.W.fnOf "beginning" "beginning" (jbP jbV) (jbi jbV) (jaf jbV) (.ref t10) kV10 dc10 pm10 an10 cd10 ct10),sl10⟩) (c10:PySem.W.codeIn K cd10 "beginning" = true) (k10:PySem.W.keepIn K (.ref f10) = true)
    (d10:K.lookup t10 = some ⟨tc10,td10,.seq #[.int 0 tk10_0] tn10,ts10⟩)
    (D11:DefIn K "swung" "swung" jhZ)
    (D12:DefIn K "turned_where" "turned_where" jbQ)
    (D13:DefIn K "flipped_where" "flipped_where" jbG)
    (D14:DefIn K "exchanged" "exchanged" jdD)
    (D15:DefIn K "done" "done" ji2)
    (D16:DefIn K "value_of" "value_of" jej)
    (D17:DefIn K "word_times" "word_times" jc7)
    (D18:DefIn K "agree" "agree" jh1)
    (D19:DefIn K "word_done" "word_done" jdA)
    (D20:DefIn K "swing_carried" "swing_carried" jb2)
    (D21:DefIn K "turn_carried" "turn_carried" jci)
    (D22:DefIn K "tie_carried" "tie_carried" jcL)
    (D23:DefIn K "sign_carried" "sign_carried" jcj)
    (D24:DefIn K "carried" "carried" je2)
    (a25:PySem.W.nsIn K mainGlobals "table_of" = some (some (.ref f25))) (l25:K.lookup f25 = some ⟨oc25,od25,.func (PySem.W.fnOf "table_of" "table_of" (jbP jbX) (jbi jbX) (jaf jbX) (.ref t25) kV25 dc25 pm25 an25 cd25 ct25),sl25⟩) (c25:PySem.W.codeIn K cd25 "table_of" = true) (k25:PySem.W.keepIn K (.ref f25) = true)
    (d25:K.lookup t25 = some ⟨tc25,td25,.seq #[.int 0 tk25_0] tn25,ts25⟩)
    (D26:DefIn K "refuse_odd" "refuse_odd" jcw)
    (D27:DefIn K "table_done" "table_done" jcv)
    (D28:DefIn K "look_word" "look_word" jdB)
    (D29:DefIn K "against_look" "against_look" jbS)
    (D30:DefIn K "keepers_for" "keepers_for" jb3)
    (D31:DefIn K "look_told" "look_told" jdC)
    (D32:DefIn K "agreeing" "agreeing" jel)
    (D33:DefIn K "opened" "opened" je1)
    (D34:DefIn K "table_looked" "table_looked" jbR)
    (D35:DefIn K "_law_kinds" "_law_kinds" jcx)
    (D36:DefIn K "_law_cell_at" "_law_cell_at" jcl)
    (D37:DefIn K "_law_whole" "_law_whole" jc9)
    (D38:DefIn K "_law_odd" "_law_odd" jen)
    (D39:DefIn K "_law_is_word" "_law_is_word" jck)
    (D40:DefIn K "_law_row" "_law_row" jem)
    (D41:DefIn K "_law_agree" "_law_agree" jda)
    (D42:DefIn K "_law_is_table" "_law_is_table" jb4)
    (D43:DefIn K "_law_left" "_law_left" jdE)
    (D44:DefIn K "_law_any" "_law_any" jdw)
    (D45:DefIn K "_law_belongs" "_law_belongs" jcm)
    (D46:DefIn K "_law_barred" "_law_barred" jcM)
    (D47:DefIn K "_law_mark_good" "_law_mark_good" jby)
    (a48:PySem.W.nsIn K mainGlobals "law" = some (some (.ref f48))) (l48:K.lookup f48 = some ⟨oc48,od48,.func (PySem.W.fnOf "law" "law" (jbP jh0) (jbi jh0) (jaf jh0) .none kV48 dc48 pm48 an48 cd48 ct48),sl48⟩) (c48:PySem.W.codeIn K cd48 "law" = true) (k48:PySem.W.keepIn K (.ref f48) = true)
    (z_min:PySem.W.nsIn K mainGlobals "min" = some none)
    (z_max:PySem.W.nsIn K mainGlobals "max" = some none)
    (z_tuple:PySem.W.nsIn K mainGlobals "tuple" = some none)
    (z_range:PySem.W.nsIn K mainGlobals "range" = some none)
    (z_len:PySem.W.nsIn K mainGlobals "len" = some none)
    (z_any:PySem.W.nsIn K mainGlobals "any" = some none)
    (z_isinstance:PySem.W.nsIn K mainGlobals "isinstance" = some none)
    (z_int:PySem.W.nsIn K mainGlobals "int" = some none)
    (z_ValueError:PySem.W.nsIn K mainGlobals "ValueError" = some none)
    (z_bool:PySem.W.nsIn K mainGlobals "bool" = some none)
    (a_NOUGHT:PySem.W.nsIn K mainGlobals "NOUGHT" = some (some (.ref f_NOUGHT))) (d_NOUGHT:K.lookup f_NOUGHT = some ⟨.type "tuple",td_NOUGHT,.seq #[.int 0 tk_NOUGHT_0,.int 0 tk_NOUGHT_1,.int 0 tk_NOUGHT_2,.int 0 tk_NOUGHT_3,.int 0 tk_NOUGHT_4] tn_NOUGHT,ts_NOUGHT⟩)
    (a_ONE:PySem.W.nsIn K mainGlobals "ONE" = some (some (.ref f_ONE))) (d_ONE:K.lookup f_ONE = some ⟨.type "tuple",td_ONE,.seq #[.int 1 tk_ONE_0,.int 0 tk_ONE_1,.int 0 tk_ONE_2,.int 0 tk_ONE_3,.int 0 tk_ONE_4] tn_ONE,ts_ONE⟩)
    (xn_NoStep:PySem.W.nsIn K mainGlobals "NoStep" = some (some (.ref xc_NoStep)))
    (xn_TooGreat:PySem.W.nsIn K mainGlobals "TooGreat" = some (some (.ref xc_TooGreat)))
    (xn_UnlikeWires:PySem.W.nsIn K mainGlobals "UnlikeWires" = some (some (.ref xc_UnlikeWires)))
    (xn_HasLooks:PySem.W.nsIn K mainGlobals "HasLooks" = some (some (.ref xc_HasLooks)))
    (xn_StillHidden:PySem.W.nsIn K mainGlobals "StillHidden" = some (some (.ref xc_StillHidden)))
    (xn_NoPaper:PySem.W.nsIn K mainGlobals "NoPaper" = some (some (.ref xc_NoPaper)))
    (xn_Barred:PySem.W.nsIn K mainGlobals "Barred" = some (some (.ref xc_Barred)))
    (xn_OddTurn:PySem.W.nsIn K mainGlobals "OddTurn" = some (some (.ref xc_OddTurn)))
    (xn_BadRow:PySem.W.nsIn K mainGlobals "BadRow" = some (some (.ref xc_BadRow)))
    (xn_WaveError:PySem.W.nsIn K mainGlobals "WaveError" = some (some (.ref xc_WaveError)))
    (xe_Barred:PySem.W.excIn K xc_Barred [.type "ValueError",.type "Exception",.type "BaseException",.type "object"] "ValueError.__new__" = true)
    (xe_OddTurn:PySem.W.excIn K xc_OddTurn [.type "ValueError",.type "Exception",.type "BaseException",.type "object"] "ValueError.__new__" = true)
    (xe_WaveError:PySem.W.excIn K xc_WaveError [.type "ValueError",.type "Exception",.type "BaseException",.type "object"] "ValueError.__new__" = true)
    (xga_OddTurn:PySem.W.findIn K (.ref xc_OddTurn) "__getattribute__" = some (some (.builtin "BaseException.__getattribute__")))
    (xgt_OddTurn:PySem.W.findIn K (.ref xc_OddTurn) "__getattr__" = some none)
    (xcl_OddTurn:PySem.W.findIn K (.ref xc_OddTurn) "__class__" = some (some (.builtin "object.__class__")))
    (xmo_OddTurn:PySem.W.mroIn K xc_OddTurn (.type "object") = some true)
    (xbe_OddTurn:PySem.W.mroIn K xc_OddTurn (.type "BaseException") = some true)
    (xga_Barred:PySem.W.findIn K (.ref xc_Barred) "__getattribute__" = some (some (.builtin "BaseException.__getattribute__")))
    (xgt_Barred:PySem.W.findIn K (.ref xc_Barred) "__getattr__" = some none)
    (xcl_Barred:PySem.W.findIn K (.ref xc_Barred) "__class__" = some (some (.builtin "object.__class__")))
    (xmo_Barred:PySem.W.mroIn K xc_Barred (.type "object") = some true)
    (xbe_Barred:PySem.W.mroIn K xc_Barred (.type "BaseException") = some true)
    (xk_OddTurn_NoStep:PySem.W.kitOne K (.ref xc_OddTurn) (.ref xc_NoStep) = some false)
    (xk_Barred_NoStep:PySem.W.kitOne K (.ref xc_Barred) (.ref xc_NoStep) = some false)
    (xk_OddTurn_TooGreat:PySem.W.kitOne K (.ref xc_OddTurn) (.ref xc_TooGreat) = some false)
    (xk_Barred_TooGreat:PySem.W.kitOne K (.ref xc_Barred) (.ref xc_TooGreat) = some false)
    (xk_OddTurn_UnlikeWires:PySem.W.kitOne K (.ref xc_OddTurn) (.ref xc_UnlikeWires) = some false)
    (xk_Barred_UnlikeWires:PySem.W.kitOne K (.ref xc_Barred) (.ref xc_UnlikeWires) = some false)
    (xk_OddTurn_HasLooks:PySem.W.kitOne K (.ref xc_OddTurn) (.ref xc_HasLooks) = some false)
    (xk_Barred_HasLooks:PySem.W.kitOne K (.ref xc_Barred) (.ref xc_HasLooks) = some false)
    (xk_OddTurn_StillHidden:PySem.W.kitOne K (.ref xc_OddTurn) (.ref xc_StillHidden) = some false)
    (xk_Barred_StillHidden:PySem.W.kitOne K (.ref xc_Barred) (.ref xc_StillHidden) = some false)
    (xk_OddTurn_NoPaper:PySem.W.kitOne K (.ref xc_OddTurn) (.ref xc_NoPaper) = some false)
    (xk_Barred_NoPaper:PySem.W.kitOne K (.ref xc_Barred) (.ref xc_NoPaper) = some false)
    (xk_OddTurn_Barred:PySem.W.kitOne K (.ref xc_OddTurn) (.ref xc_Barred) = some false)
    (xk_Barred_Barred:PySem.W.kitOne K (.ref xc_Barred) (.ref xc_Barred) = some true)
    (xk_OddTurn_OddTurn:PySem.W.kitOne K (.ref xc_OddTurn) (.ref xc_OddTurn) = some true)
    (xk_Barred_OddTurn:PySem.W.kitOne K (.ref xc_Barred) (.ref xc_OddTurn) = some false)
    (xk_OddTurn_BadRow:PySem.W.kitOne K (.ref xc_OddTurn) (.ref xc_BadRow) = some false)
    (xk_Barred_BadRow:PySem.W.kitOne K (.ref xc_Barred) (.ref xc_BadRow) = some false)
    (xk_OddTurn_ValueError:PySem.W.kitOne K (.ref xc_OddTurn) (.type "ValueError") = some true)
    (xk_Barred_ValueError:PySem.W.kitOne K (.ref xc_Barred) (.type "ValueError") = some true)
    (xs_OddTurn_WaveError:PySem.W.subIn K (.ref xc_OddTurn) (.ref xc_WaveError) = some true)
    (xs_Barred_WaveError:PySem.W.subIn K (.ref xc_Barred) (.ref xc_WaveError) = some true)
   :∃ fd:FuncData,(∀ (s:Shared) (v:Value),BindsTo s fd ⟨[v],[]⟩ [("script",v)]) ∧ ∀ base:Heap,K.In base → base.Ns mainGlobals mg → FnOk l.prog w K mg base CX0 9 fa fd ["script"] (joq K):=by
  have e:=hfa.symm.trans (PySem.W.mg_of X G a48)
  cases e
  have T:Txt mg:=⟨PySem.W.mg_none_of X G z_min,PySem.W.mg_none_of X G z_max,PySem.W.mg_none_of X G z_tuple,PySem.W.mg_none_of X G z_range,PySem.W.mg_none_of X G z_len,PySem.W.mg_none_of X G z_any,PySem.W.mg_none_of X G z_isinstance,PySem.W.mg_none_of X G z_int,PySem.W.mg_none_of X G z_ValueError,PySem.W.mg_none_of X G z_bool⟩
  have T_NOUGHT:TopV K mg "NOUGHT" (.tuple [.int 0,.int 0,.int 0,.int 0,.int 0]):=TopV.tup (xs:=[.int 0,.int 0,.int 0,.int 0,.int 0]) (PySem.W.mg_of X G a_NOUGHT) d_NOUGHT (by simp [sizeLine]) (.cons ⟨_,rfl⟩ (.cons ⟨_,rfl⟩ (.cons ⟨_,rfl⟩ (.cons ⟨_,rfl⟩ (.cons ⟨_,rfl⟩ (.nil)))))) fun _=>.cons (.int _) (.cons (.int _) (.cons (.int _) (.cons (.int _) (.cons (.int _) (.nil)))))
  have T_ONE:TopV K mg "ONE" (.tuple [.int 1,.int 0,.int 0,.int 0,.int 0]):=TopV.tup (xs:=[.int 1,.int 0,.int 0,.int 0,.int 0]) (PySem.W.mg_of X G a_ONE) d_ONE (by simp [sizeLine]) (.cons ⟨_,rfl⟩ (.cons ⟨_,rfl⟩ (.cons ⟨_,rfl⟩ (.cons ⟨_,rfl⟩ (.cons ⟨_,rfl⟩ (.nil)))))) fun _=>.cons (.int _) (.cons (.int _) (.cons (.int _) (.cons (.int _) (.cons (.int _) (.nil)))))
  have F2:=jgG (st:=jek) l2 c2 k2
  have F10:=jgG (st:=jbV) l10 c10 k10
  have F25:=jgG (st:=jbX) l25 c25 k25
  have F48:=jgG (st:=jh0) l48 c48 k48
  have F_OddTurn:ExcC K "OddTurn" xc_OddTurn:=⟨xn_OddTurn,xe_OddTurn,xga_OddTurn,xgt_OddTurn,xcl_OddTurn,xmo_OddTurn,xbe_OddTurn⟩
  have E_OddTurn:ExcX K "OddTurn":=⟨⟨_,F_OddTurn⟩⟩
  have F_Barred:ExcC K "Barred" xc_Barred:=⟨xn_Barred,xe_Barred,xga_Barred,xgt_Barred,xcl_Barred,xmo_Barred,xbe_Barred⟩
  have E_Barred:ExcX K "Barred":=⟨⟨_,F_Barred⟩⟩
  have I_NoStep:IsX K "NoStep" jgk:=(.cons F_OddTurn xn_NoStep xk_OddTurn_NoStep (.cons F_Barred xn_NoStep xk_Barred_NoStep .nil))
  have I_TooGreat:IsX K "TooGreat" jeJ:=(.cons F_OddTurn xn_TooGreat xk_OddTurn_TooGreat (.cons F_Barred xn_TooGreat xk_Barred_TooGreat .nil))
  have I_UnlikeWires:IsX K "UnlikeWires" jdg:=(.cons F_OddTurn xn_UnlikeWires xk_OddTurn_UnlikeWires (.cons F_Barred xn_UnlikeWires xk_Barred_UnlikeWires .nil))
  have I_HasLooks:IsX K "HasLooks" jeK:=(.cons F_OddTurn xn_HasLooks xk_OddTurn_HasLooks (.cons F_Barred xn_HasLooks xk_Barred_HasLooks .nil))
  have I_StillHidden:IsX K "StillHidden" jdh:=(.cons F_OddTurn xn_StillHidden xk_OddTurn_StillHidden (.cons F_Barred xn_StillHidden xk_Barred_StillHidden .nil))
  have I_NoPaper:IsX K "NoPaper" jfs:=(.cons F_OddTurn xn_NoPaper xk_OddTurn_NoPaper (.cons F_Barred xn_NoPaper xk_Barred_NoPaper .nil))
  have I_Barred:IsX K "Barred" jgl:=(.cons F_OddTurn xn_Barred xk_OddTurn_Barred (.cons F_Barred xn_Barred xk_Barred_Barred .nil))
  have I_OddTurn:IsX K "OddTurn" jfr:=(.cons F_OddTurn xn_OddTurn xk_OddTurn_OddTurn (.cons F_Barred xn_OddTurn xk_Barred_OddTurn .nil))
  have I_BadRow:IsX K "BadRow" jgm:=(.cons F_OddTurn xn_BadRow xk_OddTurn_BadRow (.cons F_Barred xn_BadRow xk_Barred_BadRow .nil))
  have I_ValueError:IsT K "ValueError" jdz:=(.cons F_OddTurn xk_OddTurn_ValueError (.cons F_Barred xk_Barred_ValueError .nil))
  have H_WaveError:Hnd K "WaveError" hs_WaveError:=⟨⟨_,xn_WaveError,xe_WaveError,(.cons F_OddTurn xs_OddTurn_WaveError (.cons F_Barred xs_Barred_WaveError .nil))⟩⟩
  refine ⟨PySem.W.fnOf "law" "law" (jbP jh0) (jbi jh0) (jaf jh0) .none kV48 dc48 pm48 an48 cd48 ct48,fun s v=>.of_eq rfl,fun base _ _=>?_⟩
  have C_twos_shared:Cal l.prog w K mg base "twos_shared" 1 ja5 []:=D0.cal X G jho fun _ _ F=>jhh F T
  have C_by_root:Cal l.prog w K mg base "by_root" 1 jb8 []:=D1.cal X G jlP fun _ _ F=>jlv F T
  have O2:FnOk l.prog w K mg base CX0 2 _ _ _ (spD K jcN):=jmO F2 T C_twos_shared C_by_root
  have C_number:Cal l.prog w K mg base "number" 2 jcN []:=⟨⟨_,_,_,[],[],O2,PySem.W.mg_of X G a2,k2,F2.bindsK d2 rfl (ps:=["a","b","c","d","k"]) 5 rfl (fun _ _ _ _ _ _ us hl=>by obtain ⟨_,_,_,_,_,rfl⟩:=jwh hl; exact rfl),.nil,fun _=>.nil⟩⟩
  have C_parts_over:Cal l.prog w K mg base "parts_over" 2 jbt []:=D3.cal X G jiy fun _ _ F=>jh9 F T C_by_root
  have C_plus:Cal l.prog w K mg base "plus" 3 jeA []:=D4.cal X G jrY fun _ _ F=>jq7 F T C_parts_over C_number
  have C_against:Cal l.prog w K mg base "against" 1 jcC []:=D5.cal X G jlR fun _ _ F=>jlx F T
  have C_turned:Cal l.prog w K mg base "turned" 1 jbF []:=D6.cal X G jnI fun _ _ F=>jmM F T
  have C_halved:Cal l.prog w K mg base "halved" 3 jcp []:=D7.cal X G jnK fun _ _ F=>jmP F T C_number
  have C_worth:Cal l.prog w K mg base "worth" 1 jbp []:=D8.cal X G jpu fun _ _ F=>joG F T
  have C_bits_of:Cal l.prog w K mg base "bits_of" 1 jcB []:=D9.cal X G jlQ fun _ _ F=>jlw F T
  have O10:FnOk l.prog w K mg base CX0 1 _ _ _ (spD K jbw):=ji9 F10 T T_NOUGHT T_ONE
  have C_beginning:Cal l.prog w K mg base "beginning" 1 jbw []:=⟨⟨_,_,_,[],[],O10,PySem.W.mg_of X G a10,k10,F10.bindsK d10 rfl (ps:=["wires","place"]) 2 rfl (fun _ _ _ _ _ _ us hl=>by obtain ⟨_,_,rfl⟩:=jfQ hl; exact rfl),.nil,fun _=>.nil⟩⟩
  have C_swung:Cal l.prog w K mg base "swung" 4 jd3 []:=D11.cal X G jpv fun _ _ F=>joH F T C_halved C_plus C_against
  have C_turned_where:Cal l.prog w K mg base "turned_where" 2 jaN []:=D12.cal X G jgS fun _ _ F=>jgt F T C_turned
  have C_flipped_where:Cal l.prog w K mg base "flipped_where" 1 jaE []:=D13.cal X G jf4 fun _ _ F=>jf0 F T
  have C_exchanged:Cal l.prog w K mg base "exchanged" 1 jaR []:=D14.cal X G jjC fun _ _ F=>ji8 F T
  have C_done:Cal l.prog w K mg base "done" 5 jb9 []:=D15.cal X G jrZ fun _ _ F=>jq8 F T C_worth C_swung C_turned_where C_flipped_where C_exchanged
  have C_value_of:Cal l.prog w K mg base "value_of" 1 jaK []:=D16.cal X G jkp fun _ _ F=>jj0 F T
  have C_word_times:Cal l.prog w K mg base "word_times" 2 jaD []:=D17.cal X G jiv fun _ _ F=>jh6 F T C_value_of
  have C_agree:Cal l.prog w K mg base "agree" 3 jce []:=D18.cal X G jpw fun _ _ F=>joI F T C_word_times
  have C_word_done:Cal l.prog w K mg base "word_done" 2 jbv []:=D19.cal X G jjz fun _ _ F=>ji5 F T C_turned C_value_of
  have C_swing_carried:Cal l.prog w K mg base "swing_carried" 2 jbc []:=D20.cal X G jf3 fun _ _ F=>jfZ F T C_value_of
  have C_turn_carried:Cal l.prog w K mg base "turn_carried" 1 jaO []:=D21.cal X G jgT fun _ _ F=>jgu F T
  have C_tie_carried:Cal l.prog w K mg base "tie_carried" 1 jaY []:=D22.cal X G jhp fun _ _ F=>jhi F T
  have C_sign_carried:Cal l.prog w K mg base "sign_carried" 1 jbh []:=D23.cal X G jgU fun _ _ F=>jgw F T
  have C_carried:Cal l.prog w K mg base "carried" 3 jaW []:=D24.cal X G jlO fun _ _ F=>jlu F T C_worth C_swing_carried C_turn_carried C_tie_carried C_sign_carried C_exchanged C_value_of
  have O25:FnOk l.prog w K mg base CX0 2 _ _ _ (spD K jbM):=jj1 F25 T C_bits_of C_worth
  have C_table_of:Cal l.prog w K mg base "table_of" 2 jbM []:=⟨⟨_,_,_,[],[],O25,PySem.W.mg_of X G a25,k25,F25.bindsK d25 rfl (ps:=["wires","place"]) 2 rfl (fun _ _ _ _ _ _ us hl=>by obtain ⟨_,_,rfl⟩:=jfQ hl; exact rfl),.nil,fun _=>.nil⟩⟩
  have C_refuse_odd:Cal l.prog w K mg base "refuse_odd" 1 jbK []:=D26.cal X G jix fun _ _ F=>jh8 F T
  have C_table_done:Cal l.prog w K mg base "table_done" 4 jbs []:=D27.cal X G jiw fun _ _ F=>jh7 F T C_refuse_odd C_carried
  have C_look_word:Cal l.prog w K mg base "look_word" 2 jaC []:=D28.cal X G jjA fun _ _ F=>ji6 F T C_worth
  have C_against_look:Cal l.prog w K mg base "against_look" 4 jax []:=D29.cal X G jgV fun _ _ F=>jgx F T C_agree
  have C_keepers_for:Cal l.prog w K mg base "keepers_for" 4 jbf []:=D30.cal X G jhq fun _ _ F=>jhj F T C_agree
  have C_look_told:Cal l.prog w K mg base "look_told" 5 jar []:=D31.cal X G jjB fun _ _ F=>ji7 F T C_look_word C_keepers_for C_against_look C_word_times
  have C_agreeing:Cal l.prog w K mg base "agreeing" 4 jbZ []:=D32.cal X G jkq fun _ _ F=>jj2 F T C_agree C_word_times
  have C_opened:Cal l.prog w K mg base "opened" 5 jco []:=D33.cal X G jnJ fun _ _ F=>jmN F T C_agreeing
  have Y_table_looked:CalX l.prog w K mg base "table_looked" 6 jaM []:=D34.calX X G jd6 fun _ _ F=>jfY F T C_look_told C_look_word C_opened C_against_look E_Barred
  have C_table_looked:Cal l.prog w K mg base "table_looked" 6 jap []:=D34.cal X G jd6 fun _ _ F=>jgv F T C_look_told C_look_word C_opened C_against_look
  have C__law_kinds:CalS l.prog w K mg base "_law_kinds" 1 jb0:=D35.calS X G jiA fun _ _ F=>jib F T I_NoStep I_TooGreat I_UnlikeWires I_HasLooks I_StillHidden I_NoPaper I_Barred I_OddTurn I_BadRow I_ValueError
  have C__law_cell_at:Cal l.prog w K mg base "_law_cell_at" 1 jaQ []:=D36.cal X G jgX fun _ _ F=>jgz F T
  have C__law_whole:Cal l.prog w K mg base "_law_whole" 1 jcD []:=D37.cal X G jiz fun _ _ F=>jia F T
  have C__law_odd:Cal l.prog w K mg base "_law_odd" 1 ja9 []:=D38.cal X G jks fun _ _ F=>jj4 F T
  have C__law_is_word:Cal l.prog w K mg base "_law_is_word" 2 jaP []:=D39.cal X G jgW fun _ _ F=>jgy F T C__law_whole
  have C__law_row:Cal l.prog w K mg base "_law_row" 1 ja0 []:=D40.cal X G jkr fun _ _ F=>jj3 F T
  have C__law_agree:Cal l.prog w K mg base "_law_agree" 2 ja8 []:=D41.cal X G jiB fun _ _ F=>jic F T C__law_odd
  have C__law_is_table:Cal l.prog w K mg base "_law_is_table" 3 jaZ []:=D42.cal X G jf5 fun _ _ F=>jf1 F T C__law_is_word C__law_odd C__law_agree
  have C__law_left:Cal l.prog w K mg base "_law_left" 1 jaI []:=D43.cal X G jjD fun _ _ F=>jja F T
  have C__law_any:Cal l.prog w K mg base "_law_any" 1 jaL []:=D44.cal X G jkt fun _ _ F=>jj5 F T
  have C__law_belongs:Cal l.prog w K mg base "_law_belongs" 4 jau []:=D45.cal X G jgY fun _ _ F=>jgA F T C__law_is_table C__law_any C_word_done
  have C__law_barred:Cal l.prog w K mg base "_law_barred" 7 jbx []:=D46.cal X G jhr fun _ _ F=>jhk F T C_table_looked C__law_kinds Y_table_looked H_WaveError
  have C__law_mark_good:Cal l.prog w K mg base "_law_mark_good" 8 jao []:=D47.cal X G jfF fun _ _ F=>jfx F T C__law_left C_look_told C_table_looked C__law_any C__law_belongs C__law_barred
  have O48:FnOk l.prog w K mg base CX0 9 _ _ _ (spD K jlH):=jti F48 T C_table_of C_beginning C__law_belongs C__law_cell_at C__law_row C_table_done C_done C_look_told C_table_looked C__law_left C__law_mark_good
  exact jvv O48 fun ns hl=>law_true ns hl
end GN
open PySem PySem.W PyProof.Rows
set_option maxRecDepth 1000000 in
set_option maxHeartbeats 0 in
theorem PySem.Challenge.cw_wavewires_k49_tables_behind_looks_holds : PySem.Challenge.rw_wavewires_k49_tables_behind_looks.Holds := by
  refine topT ?_
  k_fill
  refine VL.juE (k := 9) (l := PySem.Challenge.rw_wavewires_k49_tables_behind_looks) rfl ⟨rfl, by decide, by decide⟩ rfl (fun w h Y => PySem.W.kIn_of Y) ?F
  case F =>
    intro w mg fa h KX G hmg
    refine' GN.jtX KX G hmg (VL.DefIn.mk ?a0 ?l0 ?c0 ?k0) (VL.DefIn.mk ?a1 ?l1 ?c1 ?k1) ?a2 ?l2 ?c2 ?k2 ?d2 (VL.DefIn.mk ?a3 ?l3 ?c3 ?k3) (VL.DefIn.mk ?a4 ?l4 ?c4 ?k4) (VL.DefIn.mk ?a5 ?l5 ?c5 ?k5) (VL.DefIn.mk ?a6 ?l6 ?c6 ?k6) (VL.DefIn.mk ?a7 ?l7 ?c7 ?k7) (VL.DefIn.mk ?a8 ?l8 ?c8 ?k8) (VL.DefIn.mk ?a9 ?l9 ?c9 ?k9) ?a10 ?l10 ?c10 ?k10 ?d10 (VL.DefIn.mk ?a11 ?l11 ?c11 ?k11) (VL.DefIn.mk ?a12 ?l12 ?c12 ?k12) (VL.DefIn.mk ?a13 ?l13 ?c13 ?k13) (VL.DefIn.mk ?a14 ?l14 ?c14 ?k14) (VL.DefIn.mk ?a15 ?l15 ?c15 ?k15) (VL.DefIn.mk ?a16 ?l16 ?c16 ?k16) (VL.DefIn.mk ?a17 ?l17 ?c17 ?k17) (VL.DefIn.mk ?a18 ?l18 ?c18 ?k18) (VL.DefIn.mk ?a19 ?l19 ?c19 ?k19) (VL.DefIn.mk ?a20 ?l20 ?c20 ?k20) (VL.DefIn.mk ?a21 ?l21 ?c21 ?k21) (VL.DefIn.mk ?a22 ?l22 ?c22 ?k22) (VL.DefIn.mk ?a23 ?l23 ?c23 ?k23) (VL.DefIn.mk ?a24 ?l24 ?c24 ?k24) ?a25 ?l25 ?c25 ?k25 ?d25 (VL.DefIn.mk ?a26 ?l26 ?c26 ?k26) (VL.DefIn.mk ?a27 ?l27 ?c27 ?k27) (VL.DefIn.mk ?a28 ?l28 ?c28 ?k28) (VL.DefIn.mk ?a29 ?l29 ?c29 ?k29) (VL.DefIn.mk ?a30 ?l30 ?c30 ?k30) (VL.DefIn.mk ?a31 ?l31 ?c31 ?k31) (VL.DefIn.mk ?a32 ?l32 ?c32 ?k32) (VL.DefIn.mk ?a33 ?l33 ?c33 ?k33) (VL.DefIn.mk ?a34 ?l34 ?c34 ?k34) (VL.DefIn.mk ?a35 ?l35 ?c35 ?k35) (VL.DefIn.mk ?a36 ?l36 ?c36 ?k36) (VL.DefIn.mk ?a37 ?l37 ?c37 ?k37) (VL.DefIn.mk ?a38 ?l38 ?c38 ?k38) (VL.DefIn.mk ?a39 ?l39 ?c39 ?k39) (VL.DefIn.mk ?a40 ?l40 ?c40 ?k40) (VL.DefIn.mk ?a41 ?l41 ?c41 ?k41) (VL.DefIn.mk ?a42 ?l42 ?c42 ?k42) (VL.DefIn.mk ?a43 ?l43 ?c43 ?k43) (VL.DefIn.mk ?a44 ?l44 ?c44 ?k44) (VL.DefIn.mk ?a45 ?l45 ?c45 ?k45) (VL.DefIn.mk ?a46 ?l46 ?c46 ?k46) (VL.DefIn.mk ?a47 ?l47 ?c47 ?k47) ?a48 ?l48 ?c48 ?k48 ?z_min ?z_max ?z_tuple ?z_range ?z_len ?z_any ?z_isinstance ?z_int ?z_ValueError ?z_bool ?a_NOUGHT ?d_NOUGHT ?a_ONE ?d_ONE ?xn_NoStep ?xn_TooGreat ?xn_UnlikeWires ?xn_HasLooks ?xn_StillHidden ?xn_NoPaper ?xn_Barred ?xn_OddTurn ?xn_BadRow ?xn_WaveError ?xe_Barred ?xe_OddTurn ?xe_WaveError ?xga_OddTurn ?xgt_OddTurn ?xcl_OddTurn ?xmo_OddTurn ?xbe_OddTurn ?xga_Barred ?xgt_Barred ?xcl_Barred ?xmo_Barred ?xbe_Barred ?xk_OddTurn_NoStep ?xk_Barred_NoStep ?xk_OddTurn_TooGreat ?xk_Barred_TooGreat ?xk_OddTurn_UnlikeWires ?xk_Barred_UnlikeWires ?xk_OddTurn_HasLooks ?xk_Barred_HasLooks ?xk_OddTurn_StillHidden ?xk_Barred_StillHidden ?xk_OddTurn_NoPaper ?xk_Barred_NoPaper ?xk_OddTurn_Barred ?xk_Barred_Barred ?xk_OddTurn_OddTurn ?xk_Barred_OddTurn ?xk_OddTurn_BadRow ?xk_Barred_BadRow ?xk_OddTurn_ValueError ?xk_Barred_ValueError ?xs_OddTurn_WaveError ?xs_Barred_WaveError
    (case a0 => k_is)
    (case l0 => k_is)
    (case c0 => k_is)
    (case k0 => k_is)
    (case a1 => k_is)
    (case l1 => k_is)
    (case c1 => k_is)
    (case k1 => k_is)
    (case a2 => k_is)
    (case l2 => k_is)
    (case c2 => k_is)
    (case k2 => k_is)
    (case d2 => k_is)
    (case a3 => k_is)
    (case l3 => k_is)
    (case c3 => k_is)
    (case k3 => k_is)
    (case a4 => k_is)
    (case l4 => k_is)
    (case c4 => k_is)
    (case k4 => k_is)
    (case a5 => k_is)
    (case l5 => k_is)
    (case c5 => k_is)
    (case k5 => k_is)
    (case a6 => k_is)
    (case l6 => k_is)
    (case c6 => k_is)
    (case k6 => k_is)
    (case a7 => k_is)
    (case l7 => k_is)
    (case c7 => k_is)
    (case k7 => k_is)
    (case a8 => k_is)
    (case l8 => k_is)
    (case c8 => k_is)
    (case k8 => k_is)
    (case a9 => k_is)
    (case l9 => k_is)
    (case c9 => k_is)
    (case k9 => k_is)
    (case a10 => k_is)
    (case l10 => k_is)
    (case c10 => k_is)
    (case k10 => k_is)
    (case d10 => k_is)
    (case a11 => k_is)
    (case l11 => k_is)
    (case c11 => k_is)
    (case k11 => k_is)
    (case a12 => k_is)
    (case l12 => k_is)
    (case c12 => k_is)
    (case k12 => k_is)
    (case a13 => k_is)
    (case l13 => k_is)
    (case c13 => k_is)
    (case k13 => k_is)
    (case a14 => k_is)
    (case l14 => k_is)
    (case c14 => k_is)
    (case k14 => k_is)
    (case a15 => k_is)
    (case l15 => k_is)
    (case c15 => k_is)
    (case k15 => k_is)
    (case a16 => k_is)
    (case l16 => k_is)
    (case c16 => k_is)
    (case k16 => k_is)
    (case a17 => k_is)
    (case l17 => k_is)
    (case c17 => k_is)
    (case k17 => k_is)
    (case a18 => k_is)
    (case l18 => k_is)
    (case c18 => k_is)
    (case k18 => k_is)
    (case a19 => k_is)
    (case l19 => k_is)
    (case c19 => k_is)
    (case k19 => k_is)
    (case a20 => k_is)
    (case l20 => k_is)
    (case c20 => k_is)
    (case k20 => k_is)
    (case a21 => k_is)
    (case l21 => k_is)
    (case c21 => k_is)
    (case k21 => k_is)
    (case a22 => k_is)
    (case l22 => k_is)
    (case c22 => k_is)
    (case k22 => k_is)
    (case a23 => k_is)
    (case l23 => k_is)
    (case c23 => k_is)
    (case k23 => k_is)
    (case a24 => k_is)
    (case l24 => k_is)
    (case c24 => k_is)
    (case k24 => k_is)
    (case a25 => k_is)
    (case l25 => k_is)
    (case c25 => k_is)
    (case k25 => k_is)
    (case d25 => k_is)
    (case a26 => k_is)
    (case l26 => k_is)
    (case c26 => k_is)
    (case k26 => k_is)
    (case a27 => k_is)
    (case l27 => k_is)
    (case c27 => k_is)
    (case k27 => k_is)
    (case a28 => k_is)
    (case l28 => k_is)
    (case c28 => k_is)
    (case k28 => k_is)
    (case a29 => k_is)
    (case l29 => k_is)
    (case c29 => k_is)
    (case k29 => k_is)
    (case a30 => k_is)
    (case l30 => k_is)
    (case c30 => k_is)
    (case k30 => k_is)
    (case a31 => k_is)
    (case l31 => k_is)
    (case c31 => k_is)
    (case k31 => k_is)
    (case a32 => k_is)
    (case l32 => k_is)
    (case c32 => k_is)
    (case k32 => k_is)
    (case a33 => k_is)
    (case l33 => k_is)
    (case c33 => k_is)
    (case k33 => k_is)
    (case a34 => k_is)
    (case l34 => k_is)
    (case c34 => k_is)
    (case k34 => k_is)
    (case a35 => k_is)
    (case l35 => k_is)
    (case c35 => k_is)
    (case k35 => k_is)
    (case a36 => k_is)
    (case l36 => k_is)
    (case c36 => k_is)
    (case k36 => k_is)
    (case a37 => k_is)
    (case l37 => k_is)
    (case c37 => k_is)
    (case k37 => k_is)
    (case a38 => k_is)
    (case l38 => k_is)
    (case c38 => k_is)
    (case k38 => k_is)
    (case a39 => k_is)
    (case l39 => k_is)
    (case c39 => k_is)
    (case k39 => k_is)
    (case a40 => k_is)
    (case l40 => k_is)
    (case c40 => k_is)
    (case k40 => k_is)
    (case a41 => k_is)
    (case l41 => k_is)
    (case c41 => k_is)
    (case k41 => k_is)
    (case a42 => k_is)
    (case l42 => k_is)
    (case c42 => k_is)
    (case k42 => k_is)
    (case a43 => k_is)
    (case l43 => k_is)
    (case c43 => k_is)
    (case k43 => k_is)
    (case a44 => k_is)
    (case l44 => k_is)
    (case c44 => k_is)
    (case k44 => k_is)
    (case a45 => k_is)
    (case l45 => k_is)
    (case c45 => k_is)
    (case k45 => k_is)
    (case a46 => k_is)
    (case l46 => k_is)
    (case c46 => k_is)
    (case k46 => k_is)
    (case a47 => k_is)
    (case l47 => k_is)
    (case c47 => k_is)
    (case k47 => k_is)
    (case a48 => k_is)
    (case l48 => k_is)
    (case c48 => k_is)
    (case k48 => k_is)
    (case z_min => k_is)
    (case z_max => k_is)
    (case z_tuple => k_is)
    (case z_range => k_is)
    (case z_len => k_is)
    (case z_any => k_is)
    (case z_isinstance => k_is)
    (case z_int => k_is)
    (case z_ValueError => k_is)
    (case z_bool => k_is)
    (case a_NOUGHT => k_is)
    (case d_NOUGHT => k_is)
    (case a_ONE => k_is)
    (case d_ONE => k_is)
    (case xn_NoStep => k_is)
    (case xn_TooGreat => k_is)
    (case xn_UnlikeWires => k_is)
    (case xn_HasLooks => k_is)
    (case xn_StillHidden => k_is)
    (case xn_NoPaper => k_is)
    (case xn_Barred => k_is)
    (case xn_OddTurn => k_is)
    (case xn_BadRow => k_is)
    (case xn_WaveError => k_is)
    (case xe_Barred => k_exc)
    (case xe_OddTurn => k_exc)
    (case xe_WaveError => k_exc)
    (case xga_OddTurn => k_is)
    (case xgt_OddTurn => k_is)
    (case xcl_OddTurn => k_is)
    (case xmo_OddTurn => k_is)
    (case xbe_OddTurn => k_is)
    (case xga_Barred => k_is)
    (case xgt_Barred => k_is)
    (case xcl_Barred => k_is)
    (case xmo_Barred => k_is)
    (case xbe_Barred => k_is)
    (case xk_OddTurn_NoStep => kit_is)
    (case xk_Barred_NoStep => kit_is)
    (case xk_OddTurn_TooGreat => kit_is)
    (case xk_Barred_TooGreat => kit_is)
    (case xk_OddTurn_UnlikeWires => kit_is)
    (case xk_Barred_UnlikeWires => kit_is)
    (case xk_OddTurn_HasLooks => kit_is)
    (case xk_Barred_HasLooks => kit_is)
    (case xk_OddTurn_StillHidden => kit_is)
    (case xk_Barred_StillHidden => kit_is)
    (case xk_OddTurn_NoPaper => kit_is)
    (case xk_Barred_NoPaper => kit_is)
    (case xk_OddTurn_Barred => kit_is)
    (case xk_Barred_Barred => kit_is)
    (case xk_OddTurn_OddTurn => kit_is)
    (case xk_Barred_OddTurn => kit_is)
    (case xk_OddTurn_BadRow => kit_is)
    (case xk_Barred_BadRow => kit_is)
    (case xk_OddTurn_ValueError => kit_is)
    (case xk_Barred_ValueError => kit_is)
    (case xs_OddTurn_WaveError => k_is)
    (case xs_Barred_WaveError => k_is)
