import PyProof.Rows.All
import Wide.All
import OpenK.AllK
import Wide.FinOn
import Lean
import PyProof.EqAt
import PyProof.EqKinds
import PyProof.TupleCall
import PySem.Challenge.RW_wavewires_k58_papers_judged
section TopS
set_option Elab.async false
set_option linter.all false
open PySem PySem.W PyProof.Rows
def viewQ : Program := view PySem.Challenge.rw_wavewires_k58_papers_judged.prog [1, 2, 3, 4, 5, 7, 8, 9, 10, 12, 13, 14, 15, 16, 17, 19, 20, 22, 23, 24, 25, 26, 27, 28, 29, 31, 33, 35, 36, 37, 38, 39, 40, 41, 43, 44, 45, 46, 47, 48, 49, 50, 51, 52, 53, 54, 55, 56, 57, 58, 59, 60, 61]
local macro_rules
  | `(tactic| o_head $H) => do
    let hw := Lean.mkIdent `hw
    let hc := Lean.mkIdent `hc
    `(tactic| refine holds_open (q := viewQ) (loose := ["number", "beginning"]) (Xt := fun s => xlAt viewQ [] s && recOk (RowW.records (OpenRow.toRowW PySem.Challenge.rw_wavewires_k58_papers_judged.row)) s) (XP := XL viewQ []) (Yf := Hook.obs $H) (Ya := Hook.val $H) (YP := Hook.says $H) (N := 6000) (fun w => by (unfold openEnds fencedOpening topFrom; rw [Fast.te10274390034422433532, Fast.te14082659384304107361, Fast.te1435165496053646825, Fast.te14289696077712309145, Fast.te14364793385576792824, Fast.te4187177175401517315, Fast.te5923862056798008813]; kernel_rfl)) (Hook.of $H) (Hook.keeps $H) (fun s e => xl_of s (Bool.and_eq_true_iff.mp e).1) XL.keeps (by rfl) (by rfl) (by rfl) (fun s e => recFacts_of (Bool.and_eq_true_iff.mp e).2) (by rfl) (by first | assumption | decide +kernel) (by decide +kernel) ⟨rfl, rfl, rfl, rfl, rfl, by decide +kernel⟩ ?$hw ?$hc)
set_option maxRecDepth 1000000 in
set_option maxHeartbeats 0 in
open_top topT for PySem.Challenge.rw_wavewires_k58_papers_judged
end TopS
set_option Elab.async false
set_option linter.all false
set_option maxRecDepth 100000
namespace L2
open PySem PySem.Spec PyProof.Rows
abbrev Key:=Sum Int Str
def jvz:Key → Value → Bool
  | .inl k,v=>Value.isInt k v
  | .inr x,v=>Value.isStrOf x v
def jAV (w:World):Key → Int
  | .inl k=>hashInt k
  | .inr x=>hashStr w x
theorem jbO:∀ {k:Key} {v:Value},jvz k v = true → (∃ i t,k = Sum.inl i ∧ v = Value.int i t) ∨ (∃ x t,k = Sum.inr x ∧ v = Value.str x t)
  | .inl i,v,h=>by
    obtain ⟨t,e⟩:=Value.isInt_shape (k:=i) (v:=v) h
    exact .inl ⟨i,t,rfl,e⟩
  | .inr x,v,h=>by
    obtain ⟨t,e⟩:=Value.isStrOf_shape (x:=x) (v:=v) h
    exact .inr ⟨x,t,rfl,e⟩
theorem jvy (a b:Int):decide ((Sum.inl a:Key) = Sum.inl b) = (a == b):=by
  by_cases e:a = b
  · subst e; simp
  · have h:¬ (Sum.inl a:Key) = Sum.inl b:=fun q=>e (Sum.inl.inj q)
    rw [decide_eq_false h]
    exact (beq_eq_false_iff_ne.mpr e).symm
theorem jvv (a b:Str):decide ((Sum.inr a:Key) = Sum.inr b) = decide (a = b):=by
  by_cases e:a = b
  · subst e; simp
  · have h:¬ (Sum.inr a:Key) = Sum.inr b:=fun q=>e (Sum.inr.inj q)
    rw [decide_eq_false h,decide_eq_false e]
theorem jvx (a:Int) (b:Str):decide ((Sum.inl a:Key) = Sum.inr b) = false:=decide_eq_false (fun q=>nomatch q)
theorem jvw (a:Str) (b:Int):decide ((Sum.inr a:Key) = Sum.inl b) = false:=decide_eq_false (fun q=>nomatch q)
def jnB (prog:Program) (w:World):PySem.KeyKind prog w Key where
  is:=jvz
  hash:=jAV w
  inj:=fun v a b ha hb=>by
    rcases jbO ha with ⟨i,t,rfl,rfl⟩ | ⟨x,t,rfl,rfl⟩
    · rcases jbO hb with ⟨j,u,rfl,e⟩ | ⟨y,u,rfl,e⟩
      · injection e with e1 _; rw [e1]
      · exact nomatch e
    · rcases jbO hb with ⟨j,u,rfl,e⟩ | ⟨y,u,rfl,e⟩
      · exact nomatch e
      · injection e with e1 _; rw [e1]
  byValue:=fun k v h=>by
    rcases jbO h with ⟨i,t,rfl,rfl⟩ | ⟨x,t,rfl,rfl⟩ <;> rfl
  pyHash:=fun hv h=>by
    rcases jbO hv with ⟨i,t,rfl,rfl⟩ | ⟨x,t,rfl,rfl⟩
    · exact wpAny_pyHash_int h
    · exact wpAny_pyHash_str h
  eqBool:=fun hu hv h=>by
    rcases jbO hu with ⟨i,t,rfl,rfl⟩ | ⟨x,t,rfl,rfl⟩
    · rcases jbO hv with ⟨j,u,rfl,rfl⟩ | ⟨y,u,rfl,rfl⟩
      · rw [jvy] at h; exact wpAny_eqBool_int h
      · rw [jvx] at h; exact SeqAt.EqAt.int_str i t y u _ _ _ _ h
    · rcases jbO hv with ⟨j,u,rfl,rfl⟩ | ⟨y,u,rfl,rfl⟩
      · rw [jvw] at h; exact SeqAt.EqAt.str_int x t j u _ _ _ _ h
      · rw [jvv] at h; exact wpAny_eqBool_str h
  «strs»:=fun k x t v h=>by
    rcases jbO h with ⟨i,u,rfl,e⟩ | ⟨y,u,rfl,e⟩
    · exact nomatch e
    · injection e with e1 _
      subst e1
      cases v <;> rfl
end L2
namespace L2
open PySem PySem.Spec PyProof.Rows
inductive V where
  | non | bl (b:Bool) | int (i:Int) | str (x:Str) | byt (b:Array UInt8) | flt (b:UInt64) | ref (a:Addr) | ty (n:String)
  deriving DecidableEq
def RelV:V → Value → Prop
  | .non,u=>u = Value.none
  | .bl b,u=>u = Value.bool b
  | .int i,u=>∃ t,u = Value.int i t
  | .str x,u=>∃ t,u = Value.str x t
  | .byt b,u=>∃ t,u = Value.bytes b t
  | .flt b,u=>∃ t,u = Value.float b t
  | .ref a,u=>u = Value.ref a
  | .ty n,u=>u = Value.type n
abbrev Vals:List V → List Value → Prop:=Paired RelV
theorem Vals.length {xs:List V} {us:List Value} (r:Vals xs us):xs.length = us.length:=Paired.length r
theorem Vals.get:∀ {xs:List V} {us:List Value} {i:Nat} {x:V},Vals xs us → xs[i]? = some x → ∃ u,us[i]? = some u ∧ RelV x u
  | _,_,_,_,.nil,e=>by simp at e
  | _,_,0,_,.cons r _,e=>by simp at e; subst e; exact ⟨_,rfl,r⟩
  | _,_,i + 1,x,.cons _ t,e=>by
    obtain ⟨u,h1,h2⟩:=Vals.get (i:=i) (x:=x) t (by simpa using e)
    exact ⟨u,by simpa using h1,h2⟩
theorem Vals.set {x:V} {u:Value} (r:RelV x u):∀ {xs:List V} {us:List Value} (i:Nat),Vals xs us → Vals (xs.set i x) (us.set i u)
  | _,_,_,.nil=>.nil
  | _,_,0,.cons _ t=>.cons r t
  | _,_,i + 1,.cons q t=>.cons q (Vals.set r i t)
theorem Vals.append:∀ {xs ys:List V} {us ws:List Value},Vals xs us → Vals ys ws → Vals (xs ++ ys) (us ++ ws)
  | _,_,_,_,.nil,s=>s
  | _,_,_,_,.cons r t,s=>.cons r (Vals.append t s)
theorem Vals.take:∀ {xs:List V} {us:List Value} (n:Nat),Vals xs us → Vals (xs.take n) (us.take n)
  | _,_,0,_=>.nil
  | _,_,_ + 1,.nil=>.nil
  | _,_,n + 1,.cons r t=>.cons r (Vals.take n t)
theorem Vals.drop:∀ {xs:List V} {us:List Value} (n:Nat),Vals xs us → Vals (xs.drop n) (us.drop n)
  | _,_,0,r=>r
  | _,_,_ + 1,.nil=>.nil
  | _,_,n + 1,.cons _ t=>Vals.drop n t
def RelO:Option V → Option Value → Prop
  | some v,some u=>RelV v u
  | none,none=>True
  | _,_=>False
def KV {κ:Type}:List (κ × V) → List (κ × Value) → Prop:=Paired fun (p:κ × V) (q:κ × Value)=>p.1 = q.1 ∧ RelV p.2 q.2
def kV:Key → V
  | .inl i=>.int i
  | .inr x=>.str x
inductive HO where
  | lst (xs:List V)
  | tup (xs:List V)
  | dK (kvs:List (Key × V)) | dT (kvs:List (List Key × V))
  | set (S:Int → Bool) (n:Nat)
  | ins (C dx:Addr) (fs:List (Str × V))
  | own (x:Addr)
  | xd (fs:List (Str × V))
  | met (f x:Addr)
  | rng (lo hi:Int)
  | frz (o:Obj) (u:HO)
  | tbl (ps:Array Value)
  | ext (φ:Heap → Prop)
abbrev Hp:=Addr → Option HO
def upd (H:Hp) (a:Addr) (o:HO):Hp:=fun b=>if b = a then some o else H b
theorem jaV {H:Hp} {a:Addr} {o:HO}:upd H a o a = some o:=by unfold upd; rw [if_pos rfl]
theorem ja4 {H:Hp} {a b:Addr} {o:HO} (h:b ≠ a):upd H a o b = H b:=by unfold upd; rw [if_neg h]
theorem ja8 {H:Hp} {a b:Addr} {o:HO} (h:H a = some o) (h':H b = none):a ≠ b:=by
  intro e; subst e; rw [h] at h'; cases h'
section
variable (P:Program) (w:World)
def ObjOk (H:Hp) (h:Heap) (a:Addr):HO → Prop
  | .lst xs=>xs.length ≤ sizeLine ∧ ∃ (its:List Value) (n:Nat),Vals xs its ∧ h.get? a = some { cls:=.type "list",data:=.seq its.toArray n }
  | .tup xs=>xs.length ≤ sizeLine ∧ ∃ its:List Value,Vals xs its ∧ IsTup h a its.toArray
  | .dK kvs=>kvs.length ≤ sizeLine ∧ (a == sysModules) = false ∧ ∃ vs,KV kvs vs ∧ h.DictOf (jnB P w) a vs
  | .dT kvs=>kvs.length ≤ sizeLine ∧ (a == sysModules) = false ∧ ∃ xs:List (List Key × Addr × Value),
      Paired (fun (p:List Key × V) (q:List Key × Addr × Value)=>p.1 = q.1 ∧ H q.2.1 = some (.tup (p.1.map kV)) ∧ RelV p.2 q.2.2) kvs xs ∧
      ∃ o es ep,h.get? a = some o ∧ o.ExactDict ∧ o.data = .dict es ep ∧ es.toList = xs.map (entryOfKey (tupleKind (jnB P w))) ∧ (xs.map (·.1)).Nodup
  | .set S n=>h.SetOf (intKind P w) a S n
  | .ins C dx fs=>H dx = some (.own a) ∧ fs.length ≤ 1000 ∧ dx ≠ a ∧ h.get? a = some (PySem.W.instObj C dx) ∧
      ∃ mA,h.Ns1 dx mA ∧ (∀ f,RelO (fs.lookup f) (mA f)) ∧ PySem.Within mA (fs.map (·.1))
  | .own _=>∃ o,h.get? a = some o
  | .xd fs=>∃ mA,h.Ns1 a mA ∧ ∀ f,RelO (fs.lookup f) (mA f)
  | .rng lo hi=>∃ t u v,h.get? a = some { cls:=.type "range",data:=.fields #[.int lo t,.int hi u,.int 1 v] }
  | .frz o u=>h.get? a = some o ∧ ObjOk H h a u
  | .tbl ps=>h.get? a = some { cls:=.none,data:=.fields ps }
  | .met f x=>h.get? a = some (PySem.W.methodObj (.ref f) (.ref x))
  | .ext φ=>φ h ∧ (∃ o,h.get? a = some o) ∧ ∀ h1 h2:Heap,φ h1 → (∀ o,h1.get? a = some o → h2.get? a = some o) → φ h2
def HOk (H:Hp) (h:Heap):Prop:=∀ a o,H a = some o → ObjOk P w H h a o
end
section
variable {P:Program} {w:World} {H H':Hp} {h h':Heap} {a:Addr} {o:HO}
theorem ObjOk.lt (x:ObjOk P w H h a o):a < h.objs.size:=by
  cases o with
  | lst xs=>obtain ⟨_,_,_,_,e⟩:=x; exact Heap.lt_size e
  | tup xs=>obtain ⟨_,_,_,p⟩:=x; exact p.lt
  | dK kvs=>obtain ⟨_,_,_,_,o,_,_,e,_⟩:=x; exact Heap.lt_size e
  | dT kvs=>obtain ⟨_,_,_,_,o,_,_,e,_⟩:=x; exact Heap.lt_size e
  | set S n=>obtain ⟨o,_,_,_,e,_⟩:=x; exact Heap.lt_size e
  | ins C dx fs=>obtain ⟨_,_,_,e,_⟩:=x; exact Heap.lt_size e
  | own y=>obtain ⟨_,e⟩:=x; exact Heap.lt_size e
  | xd fs=>obtain ⟨_,⟨_,_,_,e,_⟩,_⟩:=x; exact Heap.lt_size e
  | rng lo hi=>obtain ⟨_,_,_,e⟩:=x; exact Heap.lt_size e
  | frz ob u=>obtain ⟨e,_⟩:=x; exact Heap.lt_size e
  | tbl ps=>exact Heap.lt_size (show h.get? a = some _ from x)
  | met f y=>exact Heap.lt_size (show h.get? a = some _ from x)
  | ext φ=>obtain ⟨_,⟨_,e⟩,_⟩:=x; exact Heap.lt_size e
theorem Paired.mapP {α β:Type} {F G:α → β → Prop}:∀ {l₁:List α} {l₂:List β},Paired F l₁ l₂ → (∀ a b,F a b → G a b) → Paired G l₁ l₂
  | _,_,.nil,_=>.nil
  | _,_,.cons r t,f=>.cons (f _ _ r) (Paired.mapP t f)
theorem ObjOk.stay (x:ObjOk P w H h a o) (k:∀ b u,(b = a ∨ H b = some (.own a)) → h.get? b = some u → h'.get? b = some u)
    (ho:∀ b,H b = some (.own a) → H' b = some (.own a)) (ht:∀ b xs,H b = some (.tup xs) → H' b = some (.tup xs)):ObjOk P w H' h' a o:=by
  induction o with
  | lst xs=>obtain ⟨z,its,n,r,e⟩:=x; exact ⟨z,its,n,r,k _ _ (.inl rfl) e⟩
  | tup xs=>obtain ⟨z,its,r,ob,e,c⟩:=x; exact ⟨z,its,r,ob,k _ _ (.inl rfl) e,c⟩
  | dK kvs=>obtain ⟨z,y,vs,r,ob,es,ep,e,c⟩:=x; exact ⟨z,y,vs,r,ob,es,ep,k _ _ (.inl rfl) e,c⟩
  | dT kvs=>
    obtain ⟨z,y,xs,r,ob,es,ep,e,c⟩:=x
    exact ⟨z,y,xs,Paired.mapP r fun p q z=>⟨z.1,ht _ _ z.2.1,z.2.2⟩,ob,es,ep,k _ _ (.inl rfl) e,c⟩
  | set S n=>obtain ⟨ob,es,ep,t,e,c⟩:=x; exact ⟨ob,es,ep,t,k _ _ (.inl rfl) e,c⟩
  | ins C dx fs=>
    obtain ⟨d,z,ne,e,mA,⟨od,es,ep,e2,c⟩,r⟩:=x
    exact ⟨ho _ d,z,ne,k _ _ (.inl rfl) e,mA,⟨od,es,ep,k _ _ (.inr d) e2,c⟩,r⟩
  | own y=>obtain ⟨ob,e⟩:=x; exact ⟨ob,k _ _ (.inl rfl) e⟩
  | xd fs=>obtain ⟨mA,⟨od,es,ep,e,c⟩,r⟩:=x; exact ⟨mA,⟨od,es,ep,k _ _ (.inl rfl) e,c⟩,r⟩
  | rng lo hi=>obtain ⟨t,u,v,e⟩:=x; exact ⟨t,u,v,k _ _ (.inl rfl) e⟩
  | frz ob u ih=>obtain ⟨e,q⟩:=x; exact ⟨k _ _ (.inl rfl) e,ih q⟩
  | tbl ps=>
    have e:h.get? a = some { cls:=.none,data:=.fields ps }:=x
    show h'.get? a = some { cls:=.none,data:=.fields ps }
    exact k a _ (.inl rfl) e
  | met f y=>
    have e:h.get? a = some (PySem.W.methodObj (.ref f) (.ref y)):=x
    show h'.get? a = some (PySem.W.methodObj (.ref f) (.ref y))
    exact k a _ (.inl rfl) e
  | ext φ=>obtain ⟨p,⟨o,e⟩,st⟩:=x; exact ⟨st _ _ p fun o q=>k _ _ (.inl rfl) q,⟨o,k _ _ (.inl rfl) e⟩,st⟩
theorem HOk.lt (x:HOk P w H h) (e:H a = some o):a < h.objs.size:=(x a o e).lt
theorem HOk.fresh (x:HOk P w H h) (e:h.objs.size ≤ a):H a = none:=by
  cases q:H a with
  | none=>rfl
  | some u=>exact absurd (Nat.lt_of_lt_of_le (x.lt q) e) (Nat.lt_irrefl _)
theorem HOk.kept (x:HOk P w H h) (k:∀ b u,h.get? b = some u → h'.get? b = some u):HOk P w H h':=fun a o e=>
  (x a o e).stay (fun b u _ q=>k b u q) (fun _ q=>q) fun _ _ q=>q
theorem HOk.laid (x:HOk P w H h) (k:∀ b u,h.get? b = some u → h'.get? b = some u) (hp:h.objs.size ≤ a) (new:ObjOk P w (upd H a o) h' a o):HOk P w (upd H a o) h':=fun b u e=>by
  have hn:=x.fresh hp
  by_cases hb:b = a
  · subst hb; rw [jaV] at e; cases e; exact new
  · rw [ja4 hb] at e
    exact (x b u e).stay (fun c v _ q=>k c v q) (fun c q=>by rw [ja4 (ja8 q hn)]; exact q) fun c xs q=>by rw [ja4 (ja8 q hn)]; exact q
end
def Rd (H:Hp) (a:Addr) (u:HO):Prop:=H a = some u ∨ ∃ o,H a = some (.frz o u)
theorem Rd.of {H:Hp} {a:Addr} {u:HO} (h:H a = some u):Rd H a u:=.inl h
theorem Rd.ok {P:Program} {w:World} {H:Hp} {h:Heap} {a:Addr} {u:HO} (r:Rd H a u) (x:HOk P w H h):ObjOk P w H h a u:=by
  rcases r with r | ⟨o,r⟩
  · exact x a u r
  · obtain ⟨_,q⟩:=x a _ r
    exact q
def Mut:Option HO → Prop
  | some (.lst _)=>True
  | some (.dK _)=>True
  | some (.dT _)=>True
  | some (.set _ _)=>True
  | some (.ins _ _ _)=>True
  | some (.ext _)=>True
  | _=>False
section
variable {P:Program} {w:World} {H:Hp} {h h':Heap} {x e:Addr} {o':HO}
theorem HOk.write (ok:HOk P w H h) (mu:Mut (H x)) (he:e = x ∨ H e = some (.own x)) (k:∀ b u,b ≠ e → h.get? b = some u → h'.get? b = some u) (heo:∃ u,h'.get? e = some u)
    (new:ObjOk P w (upd H x o') h' x o'):HOk P w (upd H x o') h':=fun b u q=>by
  have nown:∀ c y,H c = some (.own y) → c ≠ x:=fun c y r z=>by subst z; rw [r] at mu; exact mu
  have ntup:∀ c xs,H c = some (.tup xs) → c ≠ x:=fun c xs r z=>by subst z; rw [r] at mu; exact mu
  by_cases hb:b = x
  · subst hb; rw [jaV] at q; cases q; exact new
  · rw [ja4 hb] at q
    by_cases hbe:b = e
    · have q':H b = some (.own x):=by
        rcases he with z | z
        · exact absurd (hbe.trans z) hb
        · rw [hbe]; exact z
      rw [q] at q'; cases q'
      obtain ⟨v,hv⟩:=heo
      exact ⟨v,by rw [hbe]; exact hv⟩
    · refine (ok b u q).stay (fun c v hc r=>k c v ?_ r) (fun c r=>by rw [ja4 (nown c b r)]; exact r) fun c xs r=>by rw [ja4 (ntup c xs r)]; exact r
      rcases hc with rfl | hc
      · exact hbe
      · rintro rfl
        rcases he with z | z
        · exact nown c b hc z
        · rw [hc] at z; cases z; exact hb rfl
end
structure Un (fs ex:List Addr) (H H':Hp) (h h':Heap):Prop where
  keep:∀ b o,h.get? b = some o → H b = none → b ∉ fs → b ∉ ex → h'.get? b = some o
  slot:∀ b o,h.get? b = some o → H b = none → b ∈ fs → b ∉ ex → ∃ sl,h'.get? b = some { o with slots:=sl }
  free:∀ b o,h.get? b = some o → H b = none → b ∉ ex → H' b = none
  there:∀ b o,h.get? b = some o → b ∉ ex → ∃ o',h'.get? b = some o'
  tups:∀ b xs,H b = some (.tup xs) → H' b = some (.tup xs)
  frzs:∀ b o u,H b = some (.frz o u) → H' b = some (.frz o u)
  tbls:∀ b ps,H b = some (.tbl ps) → ∃ more,H' b = some (.tbl (ps ++ more))
section
variable {fs fs' ex ex':List Addr} {H H1 H2:Hp} {h h1 h2 h':Heap} {a x e:Addr} {o:HO}
theorem Un.any (u:Un fs ex H H1 h h1) {b:Addr} {ob:Obj} (q:h.get? b = some ob) (n:H b = none) (hx:b ∉ ex):∃ sl,h1.get? b = some { ob with slots:=sl }:=by
  by_cases hb:b ∈ fs
  · exact u.slot b ob q n hb hx
  · exact ⟨ob.slots,u.keep b ob q n hb hx⟩
theorem Un.trans (a:Un fs ex H H1 h h1) (b:Un fs ex H1 H2 h1 h2):Un fs ex H H2 h h2 where
  keep:=fun c ob q n hc hx=>b.keep c ob (a.keep c ob q n hc hx) (a.free c ob q n hx) hc hx
  slot:=fun c ob q n hc hx=>by
    obtain ⟨sl,e1⟩:=a.slot c ob q n hc hx
    obtain ⟨sl',e2⟩:=b.slot c _ e1 (a.free c ob q n hx) hc hx
    exact ⟨sl',e2⟩
  free:=fun c ob q n hx=>by
    obtain ⟨o',e1⟩:=a.there c ob q hx
    exact b.free c o' e1 (a.free c ob q n hx) hx
  there:=fun c ob q hx=>by
    obtain ⟨o',e1⟩:=a.there c ob q hx
    exact b.there c o' e1 hx
  tups:=fun c xs q=>b.tups c xs (a.tups c xs q)
  frzs:=fun c ob xs q=>b.frzs c ob xs (a.frzs c ob xs q)
  tbls:=fun c ps q=>by
    obtain ⟨m1,e1⟩:=a.tbls c ps q
    obtain ⟨m2,e2⟩:=b.tbls c _ e1
    exact ⟨m1 ++ m2,by rw [e2,Array.append_assoc]⟩
theorem Un.kept (k:∀ b u,h.get? b = some u → h'.get? b = some u):Un fs ex H H h h':=
  ⟨fun b ob q _ _ _=>k b ob q,fun b ob q _ _ _=>⟨ob.slots,k b ob q⟩,fun _ _ _ n _=>n,fun b ob q _=>⟨ob,k b ob q⟩,fun _ _ q=>q,fun _ _ _ q=>q,fun _ ps q=>⟨#[],by rw [q]; simp⟩⟩
theorem Un.refl:Un fs ex H H h h:=Un.kept fun _ _ q=>q
theorem Un.laid (k:∀ b u,h.get? b = some u → h'.get? b = some u) (hp:h.objs.size ≤ a) (hn:H a = none):Un fs ex H (upd H a o) h h' where
  keep:=fun b u q _ _ _=>k b u q
  slot:=fun b u q _ _ _=>⟨u.slots,k b u q⟩
  free:=fun b u q n _=>by rw [ja4 (Nat.ne_of_lt (Nat.lt_of_lt_of_le (Heap.lt_size q) hp))]; exact n
  there:=fun b u q _=>⟨u,k b u q⟩
  tups:=fun b xs q=>by rw [ja4 (ja8 q hn)]; exact q
  frzs:=fun b u xs q=>by rw [ja4 (ja8 q hn)]; exact q
  tbls:=fun b ps q=>⟨#[],by rw [ja4 (ja8 q hn),q]; simp⟩
theorem Un.write (mu:Mut (H x)) (he:e = x ∨ H e = some (.own x)) (k:∀ b u,b ≠ e → h.get? b = some u → h'.get? b = some u) (heo:∃ u,h'.get? e = some u):Un fs ex H (upd H x o) h h':=by
  have hx:∀ b,H b = none → b ≠ x:=fun b n z=>by subst z; rw [n] at mu; exact mu
  have hb:∀ b,H b = none → b ≠ e:=fun b n z=>by
    subst z
    rcases he with r | r
    · exact hx b n r
    · rw [n] at r; cases r
  have hm:∀ b u,H b = some u → ¬ Mut (some u) → b ≠ x:=fun b u q nm z=>by subst z; rw [q] at mu; exact nm mu
  refine ⟨fun b u q n _ _=>k b u (hb b n) q,fun b u q n _ _=>⟨u.slots,k b u (hb b n) q⟩,fun b u q n _=>by rw [ja4 (hx b n)]; exact n,fun b u q _=>?_,
    fun b xs q=>by rw [ja4 (hm b _ q fun z=>z)]; exact q,fun b u xs q=>by rw [ja4 (hm b _ q fun z=>z)]; exact q,fun b ps q=>⟨#[],by rw [ja4 (hm b _ q fun z=>z),q]; simp⟩⟩
  by_cases hbe:b = e
  · subst hbe; exact heo
  · exact ⟨u,k b u hbe q⟩
theorem Un.mono (u:Un fs ex H H1 h h1) (hs:∀ b ∈ fs,b ∈ fs') (hx:∀ b ∈ ex,b ∈ ex'):Un fs' ex' H H1 h h1:=
  ⟨fun b ob q n hb he=>u.keep b ob q n (fun z=>hb (hs b z)) fun z=>he (hx b z),fun _ _ q n _ he=>u.any q n fun z=>he (hx _ z),fun b ob q n he=>u.free b ob q n fun z=>he (hx b z),fun b ob q he=>u.there b ob q fun z=>he (hx b z),u.tups,u.frzs,u.tbls⟩
end
def trk (h:Heap) (H:Hp):List Addr:=(List.range h.objs.size).filter fun a=>(H a).isSome
def jqs (h:Heap) (H:Hp):Heap:=PySem.W.hideAll h (trk h H)
theorem jnU (h:Heap) (H:Hp):(jqs h H).objs.size = h.objs.size:=PySem.W.hideAll_size _ _
theorem jqr {h:Heap} {H:Hp} {b:Addr} {o:Obj} (e:h.get? b = some o) (n:H b = none):(jqs h H).get? b = some o:=
  PySem.W.hideAll_get _ e fun hm=>by
    have q:(H b).isSome = true:=(List.mem_filter.mp hm).2
    rw [n] at q; simp at q
theorem jsx {h:Heap} {H:Hp} {b:Addr} {o:Obj} (e:(jqs h H).get? b = some o):h.get? b = some o ∧ H b = none:=by
  have e':h.get? b = some o:=PySem.W.of_hideAll (trk h H) e
  refine ⟨e',?_⟩
  cases q:H b with
  | none=>rfl
  | some x=>
    have hm:b ∈ trk h H:=List.mem_filter.mpr ⟨List.mem_range.mpr (Heap.lt_size e'),by simp [q]⟩
    have z:(jqs h H).get? b = none:=PySem.W.hideAll_none (trk h H) hm
    rw [z] at e; cases e
def jty (g h:Heap) (L:Addr):List (Addr × Obj):=(List.range h.objs.size).filterMap fun a=>if a = L ∨ (g.get? a).isSome = true then none else (h.get? a).map fun o=>(a,o)
def rest (g h:Heap) (L d:Addr):List (Addr × Obj):=(jty g h L).filter fun p=>decide (p.1 ≠ d)
end L2
namespace L2
open PySem PySem.Spec PyProof.Rows
structure Mod (K:PySem.W.Frag) (mg:Str → Option Value) (base:Heap):Prop where
  kin:K.In base
  glob:base.Ns mainGlobals mg
  blt:∃ mb,base.Ns builtinsNs mb ∧ ∀ x:Str,x ≠ "__name__" → mb x = bootBuiltins x
  nolimit:base.NoLimit
structure Cx where
  prog:Program
  w:World
  K:PySem.W.Frag
  mg:Str → Option Value
  base:Heap
  A:Around
  N:List Str
  s₀:Shared
  H₀:Hp
  env:Env
  outer:List Env
  stack:List Env
  ex:List Addr
  fn:Str → Bool
  calm:Bool
  pn:List (Addr × Obj)
  xe:Value → Shared → Prop
def frs (l:List Env):List Addr:=l.filterMap (·.frame)
abbrev Cx.fs (X:Cx):List Addr:=frs X.outer
def Vis (sc:Scope) (x:Str):Prop:=sc.names.lookup x = some .local ∨ sc.names.lookup x = some .cell ∨ sc.names.lookup x = some .free
def Loc (sc:Scope) (x:Str):Prop:=sc.names.lookup x = some .local ∨ sc.names.lookup x = some .cell
def jBm (env:Env) (h:Heap) (m:Str → Option Value) (x:Str) (u:Value):Prop:=
  (env.kindOf x = some .local ∧ m x = some u) ∨ ((env.kindOf x = some .cell ∨ env.kindOf x = some .free) ∧ ∃ c,env.cells.lookup x = some c ∧ h.IsCell c (some u))
structure Cx.Ok (X:Cx):Prop where
  mod:Mod X.K X.mg X.base
  kind:X.env.scope.kind = .function
  glob:X.env.globals = mainGlobals
  blt:X.env.builtins = builtinsNs
  above:X.s₀.heap.objs.size ≤ X.env.locals
  inj:∀ x y c,X.env.cells.lookup x = some c → X.env.cells.lookup y = some c → x = y
  has:∀ x,(X.env.kindOf x = some .cell ∨ X.env.kindOf x = some .free) → ∃ c,X.env.cells.lookup x = some c
  cab:∀ x c,X.fn x = true → X.env.cells.lookup x = some c → X.s₀.heap.objs.size ≤ c
  hd:X.calm = true → X.A.handled = none
  frames:X.A.frames = some X.stack
  stk:X.stack = X.outer ∨ (X.stack = X.env :: X.outer ∧ X.env.frame = some X.env.locals)
  exf:∀ b ∈ X.ex,b ≠ X.env.locals ∧ ∀ x c,X.env.cells.lookup x = some c → c ≠ b
  bs:∀ b o,X.base.get? b = some o → X.s₀.heap.get? b = some o ∧ X.H₀ b = none
  bsz:X.base.objs.size ≤ X.s₀.heap.objs.size
  noex:∀ b o,X.base.get? b = some o → b ∉ X.ex
  exfs:∀ b ∈ X.ex,b ∉ X.fs
  funs:X.s₀.heap.FunFrames X.base X.outer
  frf:∀ b ∈ X.fs,X.H₀ b = none
structure Inv (X:Cx) (pins:List (Addr × Obj)) (σ:List (Option V)) (H:Hp) (s:Shared):Prop where
  ok:X.Ok
  os:s.os = X.s₀.os
  bare:AllBare s.gens
  base:Un X.fs X.ex X.H₀ H X.s₀.heap s.heap
  loc:∃ m,s.heap.Ns X.env.locals m ∧ ∀ (i:Nat) (x:Str) (v:V),X.N[i]? = some x → σ[i]? = some (some v) → Vis X.env.scope x → ∃ u,RelV v u ∧ jBm X.env s.heap m x u
  cell:∀ x c,X.env.cells.lookup x = some c → ∃ v,s.heap.IsCell c v
  free:H X.env.locals = none
  freeC:∀ x c,X.env.cells.lookup x = some c → H c = none
  pin:∀ p ∈ X.pn ++ pins,s.heap.get? p.1 = some p.2 ∧ H p.1 = none ∧ p.1 ≠ X.env.locals ∧ p.1 ∉ X.fs ∧ ∀ v,p.2.data ≠ .cell v
  hok:HOk X.prog X.w H s.heap
  len:σ.length = X.N.length
section
variable {X:Cx} {pins:List (Addr × Obj)} {σ:List (Option V)} {H H':Hp} {s:Shared} {h':Heap}
theorem Cx.Ok.nofr (ok:X.Ok) {b:Addr} {o:Obj} (e:X.base.get? b = some o):b ∉ X.fs:=fun hb=>by
  have:=(ok.funs.mem hb).1
  rw [e] at this; cases this
theorem Inv.bs (I:Inv X pins σ H s):∀ b o,X.base.get? b = some o → s.heap.get? b = some o ∧ H b = none:=fun b o e=>
  ⟨I.base.keep b o (I.ok.bs b o e).1 (I.ok.bs b o e).2 (I.ok.nofr e) (I.ok.noex b o e),I.base.free b o (I.ok.bs b o e).1 (I.ok.bs b o e).2 (I.ok.noex b o e)⟩
theorem Inv.bk (I:Inv X pins σ H s):∀ b o,X.base.get? b = some o → s.heap.get? b = some o:=fun b o e=>(I.bs b o e).1
theorem Inv.mod (I:Inv X pins σ H s):Mod X.K X.mg X.base:=I.ok.mod
theorem Inv.kIn (I:Inv X pins σ H s):X.K.In s.heap:=I.ok.mod.kin.keeps I.bk
theorem Inv.nolimit (I:Inv X pins σ H s):s.heap.NoLimit:=I.ok.mod.nolimit.keeps I.bk
theorem Inv.lt (I:Inv X pins σ H s):X.env.locals < s.heap.objs.size:=let ⟨_,hn,_⟩:=I.loc; hn.lt
theorem Inv.sz (I:Inv X pins σ H s):X.s₀.heap.objs.size ≤ s.heap.objs.size:=Nat.le_trans I.ok.above (Nat.le_of_lt I.lt)
theorem Inv.nofs (I:Inv X pins σ H s) {a:Addr} (h:s.heap.objs.size ≤ a):a ∉ X.fs:=fun hb=>by
  obtain ⟨_,o,ho,_⟩:=I.ok.funs.mem hb
  exact absurd (Nat.lt_of_lt_of_le (Heap.lt_size ho) (Nat.le_trans I.sz h)) (Nat.lt_irrefl _)
theorem Inv.cne (I:Inv X pins σ H s):∀ x c,X.env.cells.lookup x = some c → c ≠ X.env.locals:=fun x c e z=>by
  obtain ⟨v,o,ho,hd⟩:=I.cell x c e
  obtain ⟨m,⟨o',es,ep,ho',hd',_⟩,_⟩:=I.loc
  rw [z,ho'] at ho; cases ho; rw [hd'] at hd; cases hd
theorem Inv.funs (I:Inv X pins σ H s):s.heap.FunFrames X.base X.outer:=by
  have all:∀ (l:List Env),(∀ b ∈ frs l,b ∈ X.fs) → X.s₀.heap.FunFrames X.base l → s.heap.FunFrames X.base l:=by
    intro l
    induction l with
    | nil=>intro _ _; trivial
    | cons env r ih=>
      intro hs hl
      obtain ⟨hk,⟨L,o,hf,hn,ho,hd⟩,hr⟩:=hl
      have hL:L ∈ X.fs:=hs L (by unfold frs; rw [List.filterMap_cons,hf]; exact List.mem_cons_self)
      obtain ⟨sl,e⟩:=I.base.slot L o ho (I.ok.frf L hL) hL fun z=>I.ok.exfs L z hL
      exact ⟨hk,⟨L,_,hf,hn,e,hd⟩,ih (fun b hb=>hs b (by unfold frs; rw [List.filterMap_cons,hf]; exact List.mem_cons_of_mem _ hb)) hr⟩
  exact all X.outer (fun _ hb=>hb) I.ok.funs
theorem Inv.stack (I:Inv X pins σ H s):s.heap.FunFrames X.base X.stack:=by
  rcases I.ok.stk with e | ⟨e,hf⟩
  · rw [e]; exact I.funs
  · rw [e]
    obtain ⟨m,hn,_⟩:=I.loc
    refine .cons (by rw [I.ok.kind]; decide) hf hn ?_ I.funs
    exact Heap.get?_none_of_le (Nat.le_trans I.ok.bsz I.ok.above)
theorem Inv.stkSub (I:Inv X pins σ H s):∀ b ∈ frs X.stack,b ∈ X.env.locals :: X.fs:=fun b hb=>by
  rcases I.ok.stk with e | ⟨e,hf⟩
  · rw [e] at hb; exact List.mem_cons_of_mem _ hb
  · rw [e] at hb
    unfold frs at hb
    rw [List.filterMap_cons,hf] at hb
    exact hb
theorem Inv.stkFree (I:Inv X pins σ H s):∀ b ∈ frs X.stack,H b = none:=fun b hb=>by
  rcases List.mem_cons.mp (I.stkSub b hb) with e | hb
  · rw [e]; exact I.free
  · obtain ⟨_,o,ho,_⟩:=I.ok.funs.mem hb
    exact I.base.free b o ho (I.ok.frf b hb) fun z=>I.ok.exfs b z hb
theorem Inv.step {g':Array GenState} {t':Nat} {d':Drawn} {ch:List Addr} (I:Inv X pins σ H s)
    (hch:∀ b ∈ ch,(b ∈ X.ex ∨ X.s₀.heap.objs.size ≤ b) ∧ b ≠ X.env.locals ∧ (∀ x c,X.env.cells.lookup x = some c → c ≠ b) ∧ ∀ p ∈ X.pn ++ pins,p.1 ≠ b)
    (keep:∀ b o,b ≠ X.env.locals → b ∉ X.fs → b ∉ ch → s.heap.get? b = some o → H b = none → h'.get? b = some o)
    (slot:∀ b o,b ≠ X.env.locals → b ∈ X.fs → b ∉ ch → s.heap.get? b = some o → H b = none → ∃ sl,h'.get? b = some { o with slots:=sl }) (free:∀ b o,b ∉ ch → s.heap.get? b = some o → H b = none → H' b = none)
    (there:∀ b o,b ∉ ch → s.heap.get? b = some o → ∃ o',h'.get? b = some o')
    (tups:∀ b xs,H b = some (.tup xs) → H' b = some (.tup xs)) (frzs:∀ b o u,H b = some (.frz o u) → H' b = some (.frz o u)) (tbls:∀ b ps,H b = some (.tbl ps) → ∃ more,H' b = some (.tbl (ps ++ more)))
    (ns:∀ m,s.heap.Ns X.env.locals m → h'.Ns X.env.locals m) (hok:HOk X.prog X.w H' h') (hg:AllBare g') :
    Inv X pins σ H' { s with heap:=h',gens:=g',drawn:=d',toks:=t' }:=by
  have neL:∀ b o,X.s₀.heap.get? b = some o → b ≠ X.env.locals:=fun b o e=>Nat.ne_of_lt (Nat.lt_of_lt_of_le (Heap.lt_size e) I.ok.above)
  have neC:∀ b o,X.s₀.heap.get? b = some o → b ∉ X.ex → b ∉ ch:=fun b o e hx hb=>by
    rcases (hch b hb).1 with z | z
    · exact hx z
    · exact absurd (Nat.lt_of_lt_of_le (Heap.lt_size e) z) (Nat.lt_irrefl _)
  have cellK:∀ x c,X.env.cells.lookup x = some c → ∀ v,s.heap.IsCell c v → h'.IsCell c v:=fun x c e v ⟨o,ho,hd⟩=>by
    have nch:c ∉ ch:=fun z=>(hch c z).2.2.1 x c e rfl
    by_cases hc:c ∈ X.fs
    · obtain ⟨sl,q⟩:=slot c o (I.cne x c e) hc nch ho (I.freeC x c e)
      exact ⟨_,q,hd⟩
    · exact ⟨o,keep c o (I.cne x c e) hc nch ho (I.freeC x c e),hd⟩
  refine ⟨I.ok,I.os,hg,⟨fun b o e n hb hx=>?_,fun b o e n hb hx=>?_,fun b o e n hx=>?_,fun b o e hx=>?_,fun b xs e=>tups b xs (I.base.tups b xs e),fun b o xs e=>frzs b o xs (I.base.frzs b o xs e),fun b ps e=>?_⟩,?_,fun x c e=>?_,?_,fun x c e=>?_,fun p hp=>?_,hok,I.len⟩
  · exact keep b o (neL b o e) hb (neC b o e hx) (I.base.keep b o e n hb hx) (I.base.free b o e n hx)
  · obtain ⟨sl,e1⟩:=I.base.slot b o e n hb hx
    obtain ⟨sl',e2⟩:=slot b _ (neL b o e) hb (neC b o e hx) e1 (I.base.free b o e n hx)
    exact ⟨sl',e2⟩
  · obtain ⟨o',e1⟩:=I.base.there b o e hx
    exact free b o' (neC b o e hx) e1 (I.base.free b o e n hx)
  · obtain ⟨o',e1⟩:=I.base.there b o e hx
    exact there b o' (neC b o e hx) e1
  · obtain ⟨m1,e1⟩:=I.base.tbls b ps e
    obtain ⟨m2,e2⟩:=tbls b _ e1
    exact ⟨m1 ++ m2,by rw [e2,Array.append_assoc]⟩
  · obtain ⟨m,hn,hl⟩:=I.loc
    refine ⟨m,ns m hn,fun i x v e1 e2 e3=>?_⟩
    obtain ⟨u,r,l⟩:=hl i x v e1 e2 e3
    refine ⟨u,r,?_⟩
    rcases l with l | ⟨k,c,e,z⟩
    · exact .inl l
    · exact .inr ⟨k,c,e,cellK x c e _ z⟩
  · obtain ⟨v,z⟩:=I.cell x c e
    exact ⟨v,cellK x c e v z⟩
  · obtain ⟨m,⟨o,_,_,ho,_⟩,_⟩:=I.loc
    exact free _ o (fun z=>(hch _ z).2.1 rfl) ho I.free
  · obtain ⟨v,o,ho,hd⟩:=I.cell x c e
    exact free c o (fun z=>(hch c z).2.2.1 x c e rfl) ho (I.freeC x c e)
  · obtain ⟨e,n,ne,nf,d⟩:=I.pin p hp
    have nch:p.1 ∉ ch:=fun z=>(hch p.1 z).2.2.2 p hp rfl
    exact ⟨keep p.1 p.2 ne nf nch e n,free p.1 p.2 nch e n,ne,nf,d⟩
theorem Inv.un {t':Nat} (I:Inv X pins σ H s) (u:Un X.fs [] H H' s.heap h') (hok:HOk X.prog X.w H' h'):Inv X pins σ H' { s with heap:=h',toks:=t' }:=by
  obtain ⟨m,⟨o,es,ep,ho,r⟩,_⟩:=id I.loc
  obtain ⟨sl,hL⟩:=u.any ho I.free (by simp)
  exact I.step (g':=s.gens) (d':=s.drawn) (ch:=[]) (fun _ z=>nomatch z) (fun b o _ hb _ e n=>u.keep b o e n hb (by simp)) (fun b o _ hb _ e n=>u.slot b o e n hb (by simp)) (fun b o _ e n=>u.free b o e n (by simp)) (fun b o _ e=>u.there b o e (by simp)) u.tups u.frzs u.tbls (fun m' hm=>by
    obtain ⟨o',es',ep',ho',r'⟩:=hm
    rw [ho] at ho'; cases ho'
    exact ⟨_,es',ep',hL,r'⟩) hok I.bare
theorem Inv.call {g':Array GenState} {t':Nat} {d':Drawn} {ch:List Addr} (I:Inv X pins σ H s) (u:Un (frs X.stack) ch H H' s.heap h') (hok:HOk X.prog X.w H' h') (hg:AllBare g')
    (hch:∀ b ∈ ch,(b ∈ X.ex ∨ X.s₀.heap.objs.size ≤ b) ∧ b ≠ X.env.locals ∧ (∀ x c,X.env.cells.lookup x = some c → c ≠ b) ∧ ∀ p ∈ X.pn ++ pins,p.1 ≠ b) :
    Inv X pins σ H' { s with heap:=h',gens:=g',drawn:=d',toks:=t' }:=by
  obtain ⟨m,⟨o,es,ep,ho,r⟩,_⟩:=id I.loc
  obtain ⟨sl,hL⟩:=u.any ho I.free fun z=>(hch _ z).2.1 rfl
  exact I.step (ch:=ch) hch (fun b o hL hb hc e n=>u.keep b o e n (fun z=>(List.mem_cons.mp (I.stkSub b z)).elim hL hb) hc) (fun b o _ _ hc e n=>u.any e n hc) (fun b o hc e n=>u.free b o e n hc) (fun b o hc e=>u.there b o e hc) u.tups u.frzs u.tbls (fun m' hm=>by
    obtain ⟨o',es',ep',ho',r'⟩:=hm
    rw [ho] at ho'; cases ho'
    exact ⟨_,es',ep',hL,r'⟩) hok hg
theorem Inv.turned {t':Nat} {it:Addr} (I:Inv X pins σ H s) (k:∀ b o,b ≠ it → s.heap.get? b = some o → h'.get? b = some o) (hn:H it = none) (hL:it ≠ X.env.locals)
    (h1:it ∈ X.ex ∨ X.s₀.heap.objs.size ≤ it) (h2:∀ x c,X.env.cells.lookup x = some c → c ≠ it) (h3:∀ p ∈ X.pn ++ pins,p.1 ≠ it):Inv X pins σ H { s with heap:=h',toks:=t' }:=by
  have nit:∀ b u,H b = some u → b ≠ it:=fun b u e z=>by rw [z,hn] at e; cases e
  refine I.step (g':=s.gens) (d':=s.drawn) (ch:=[it]) (fun b hb=>?_) (fun b o _ _ hc e _=>k b o (fun z=>hc (by simp [z])) e) (fun b o _ _ hc e _=>⟨o.slots,k b o (fun z=>hc (by simp [z])) e⟩) (fun _ _ _ _ n=>n)
    (fun b o hc e=>⟨o,k b o (fun z=>hc (by simp [z])) e⟩) (fun _ _ e=>e) (fun _ _ _ e=>e) (fun b ps e=>⟨#[],by rw [e]; simp⟩) (fun m hm=>?_) (fun b u e=>?_) I.bare
  · have e:b = it:=by simpa using hb
    subst e
    exact ⟨h1,hL,h2,h3⟩
  · obtain ⟨o,es,ep,ho,r⟩:=hm
    exact ⟨o,es,ep,k _ o (Ne.symm hL) ho,r⟩
  · refine (I.hok b u e).stay (fun c v hc q=>k c v ?_ q) (fun _ q=>q) fun _ _ q=>q
    rcases hc with z | z
    · rw [z]; exact nit b u e
    · exact nit c _ z
theorem Inv.tok (I:Inv X pins σ H s) (t:Nat):Inv X pins σ H { s with toks:=t }:=I.un (h':=s.heap) (t':=t) Un.refl I.hok
theorem Inv.kept {t':Nat} (I:Inv X pins σ H s) (k:∀ b u,s.heap.get? b = some u → h'.get? b = some u):Inv X pins σ H { s with heap:=h',toks:=t' }:=I.un (Un.kept k) (I.hok.kept k)
theorem Inv.laid {a:Addr} {o:HO} {t':Nat} (I:Inv X pins σ H s) (k:∀ b u,s.heap.get? b = some u → h'.get? b = some u) (hp:s.heap.objs.size ≤ a) (new:ObjOk X.prog X.w (upd H a o) h' a o) :
    Inv X pins σ (upd H a o) { s with heap:=h',toks:=t' }:=I.un (Un.laid k hp (I.hok.fresh hp)) (I.hok.laid k hp new)
theorem Inv.write {x e:Addr} {o:HO} {t':Nat} (I:Inv X pins σ H s) (mu:Mut (H x)) (he:e = x ∨ H e = some (.own x)) (k:∀ b u,b ≠ e → s.heap.get? b = some u → h'.get? b = some u) (heo:∃ u,h'.get? e = some u)
    (new:ObjOk X.prog X.w (upd H x o) h' x o):Inv X pins σ (upd H x o) { s with heap:=h',toks:=t' }:=I.un (Un.write mu he k heo) (I.hok.write mu he k heo new)
theorem Inv.weak {σ':List (Option V)} (I:Inv X pins σ H s) (hl:σ'.length = σ.length) (w:∀ (i:Nat) v,σ'[i]? = some (some v) → σ[i]? = some (some v)):Inv X pins σ' H s:=
  ⟨I.ok,I.os,I.bare,I.base,let ⟨m,hn,hl'⟩:=I.loc; ⟨m,hn,fun i x v e1 e2 e3=>hl' i x v e1 (w i v e2) e3⟩,I.cell,I.free,I.freeC,I.pin,I.hok,hl.trans I.len⟩
theorem Inv.pins_of {pins':List (Addr × Obj)} (I:Inv X pins σ H s) (h:∀ p ∈ pins',s.heap.get? p.1 = some p.2 ∧ H p.1 = none ∧ p.1 ≠ X.env.locals ∧ p.1 ∉ X.fs ∧ ∀ v,p.2.data ≠ .cell v):Inv X pins' σ H s:=
  ⟨I.ok,I.os,I.bare,I.base,I.loc,I.cell,I.free,I.freeC,fun p hp=>(List.mem_append.mp hp).elim (fun z=>I.pin p (List.mem_append_left _ z)) (h p),I.hok,I.len⟩
theorem jiS {N:List Str} (hN:N.Nodup) {i j:Nat} {x:Str} (a:N[i]? = some x) (b:N[j]? = some x):i = j:=by
  obtain ⟨h1,e1⟩:=List.getElem?_eq_some_iff.mp a
  obtain ⟨h2,e2⟩:=List.getElem?_eq_some_iff.mp b
  exact (List.getElem_inj hN).mp (e1.trans e2.symm)
theorem jmX {M:Model} {A:Around} {E:Value → Shared → Prop} {i:Nat} {x:Str} {v:V} {u:Value} {Q:Unit → Shared → Prop} (I:Inv X pins σ H s) (hN:X.N.Nodup) (hi:X.N[i]? = some x) (hx:Loc X.env.scope x) (r:RelV v u)
    (h:∀ s',Inv X pins (σ.set i (some v)) H s' → (∃ a,Heap.SameBut a s.heap s'.heap ∧ (a = X.env.locals ∨ X.env.cells.lookup x = some a)) → Q () s') (hf:X.fn x = true ∨ X.env.scope.names.lookup x = some .local:=by first | exact .inl rfl | exact .inr rfl | assumption):wpAny M A (storeName X.env x u) Q E s:=by
  obtain ⟨m,hn,hl⟩:=id I.loc
  have hcls:(X.env.scope.kind == .class || (X.env.scope.kind == .module && X.env.locals != X.env.globals)) = false:=by rw [I.ok.kind]; rfl
  have hiσ:i < σ.length:=by rw [I.len]; exact (List.getElem?_eq_some_iff.mp hi).1
  have cne:=I.cne
  have tracked:∀ {a:Addr} {h':Heap},(∃ o,s.heap.get? a = some o ∧ H a = none) → Heap.SameBut a s.heap h' → HOk X.prog X.w H h':=fun {a h'} ha hs b ob e=>by
    obtain ⟨_,_,hfree⟩:=ha
    refine (I.hok b ob e).stay (fun c w' hc q=>(hs.2 c ?_).trans q) (fun _ q=>q) fun _ _ q=>q
    rintro rfl
    rcases hc with rfl | hc
    · rw [hfree] at e; cases e
    · rw [hfree] at hc; cases hc
  rcases hx with hk | hk
  · refine wpAny_storeName_local hk hn (fun h' hn' hs=>?_) hcls
    obtain ⟨oL,_,_,hoL,_⟩:=id hn
    refine h _ ⟨I.ok,I.os,I.bare,⟨fun b o e n hb hx=>?_,fun b o e n hb hx=>?_,I.base.free,fun b o e hx=>?_,I.base.tups,I.base.frzs,I.base.tbls⟩,⟨_,hn',fun j y v' e1 e2 e3=>?_⟩,fun y c e=>?_,I.free,I.freeC,fun p hp=>?_,tracked ⟨oL,hoL,I.free⟩ hs,by simpa using I.len⟩ ⟨_,hs,.inl rfl⟩
    · exact (hs.2 b (Nat.ne_of_lt (Nat.lt_of_lt_of_le (Heap.lt_size e) I.ok.above))).trans (I.base.keep b o e n hb hx)
    · obtain ⟨sl,e1⟩:=I.base.slot b o e n hb hx
      exact ⟨sl,(hs.2 b (Nat.ne_of_lt (Nat.lt_of_lt_of_le (Heap.lt_size e) I.ok.above))).trans e1⟩
    · obtain ⟨o',e1⟩:=I.base.there b o e hx
      exact ⟨o',(hs.2 b (Nat.ne_of_lt (Nat.lt_of_lt_of_le (Heap.lt_size e) I.ok.above))).trans e1⟩
    · by_cases hj:j = i
      · subst hj
        rw [hi] at e1; cases e1
        rw [List.getElem?_set_self hiσ] at e2
        cases e2
        exact ⟨u,r,.inl ⟨hk,by simp⟩⟩
      · rw [List.getElem?_set_ne (Ne.symm hj)] at e2
        obtain ⟨u',r',q⟩:=hl j y v' e1 e2 e3
        refine ⟨u',r',?_⟩
        rcases q with ⟨k,e⟩ | ⟨k,c,e,z⟩
        · refine .inl ⟨k,?_⟩
          have:y ≠ x:=fun e=>hj (jiS hN e1 (e ▸ hi))
          simp [this,e]
        · exact .inr ⟨k,c,e,z.sameBut hs (cne y c e)⟩
    · obtain ⟨w',z⟩:=I.cell y c e
      exact ⟨w',z.sameBut hs (cne y c e)⟩
    · obtain ⟨e,n,ne,nf,d⟩:=I.pin p hp
      exact ⟨(hs.2 p.1 ne).trans e,n,ne,nf,d⟩
  · have hfn:X.fn x = true:=by
      rcases hf with z | z
      · exact z
      · rw [z] at hk; cases hk
    obtain ⟨c,hc⟩:=I.ok.has x (.inl hk)
    obtain ⟨w',z⟩:=I.cell x c hc
    refine wpAny_storeName_cell I.ok.kind hk hc z (fun h' hc' hs=>?_)
    obtain ⟨oc,hoc,hocd⟩:=id z
    refine h { s with heap:=h' } ⟨I.ok,I.os,I.bare,⟨fun b o e n hb hx=>?_,fun b o e n hb hx=>?_,I.base.free,fun b o e hx=>?_,I.base.tups,I.base.frzs,I.base.tbls⟩,⟨m,hn.sameBut hs (Ne.symm (cne x c hc)),fun j y v' e1 e2 e3=>?_⟩,fun y c' e=>?_,I.free,I.freeC,fun p hp=>?_,tracked ⟨oc,hoc,I.freeC x c hc⟩ hs,by simpa using I.len⟩ ⟨c,hs,.inr hc⟩
    · exact (hs.2 b (Nat.ne_of_lt (Nat.lt_of_lt_of_le (Heap.lt_size e) (I.ok.cab x c hfn hc)))).trans (I.base.keep b o e n hb hx)
    · obtain ⟨sl,e1⟩:=I.base.slot b o e n hb hx
      exact ⟨sl,(hs.2 b (Nat.ne_of_lt (Nat.lt_of_lt_of_le (Heap.lt_size e) (I.ok.cab x c hfn hc)))).trans e1⟩
    · obtain ⟨o',e1⟩:=I.base.there b o e hx
      exact ⟨o',(hs.2 b (Nat.ne_of_lt (Nat.lt_of_lt_of_le (Heap.lt_size e) (I.ok.cab x c hfn hc)))).trans e1⟩
    · by_cases hj:j = i
      · subst hj
        rw [hi] at e1; cases e1
        rw [List.getElem?_set_self hiσ] at e2
        cases e2
        exact ⟨u,r,.inr ⟨.inl hk,c,hc,hc'⟩⟩
      · rw [List.getElem?_set_ne (Ne.symm hj)] at e2
        obtain ⟨u',r',q⟩:=hl j y v' e1 e2 e3
        refine ⟨u',r',?_⟩
        rcases q with q | ⟨k,c',e,z'⟩
        · exact .inl q
        · refine .inr ⟨k,c',e,z'.sameBut hs ?_⟩
          rintro rfl
          exact hj (jiS hN e1 (I.ok.inj _ _ _ e hc ▸ hi))
    · by_cases hcc:c' = c
      · subst hcc; exact ⟨_,hc'⟩
      · obtain ⟨w2,z2⟩:=I.cell y c' e
        exact ⟨w2,z2.sameBut hs hcc⟩
    · obtain ⟨e,n,ne,nf,d⟩:=I.pin p hp
      refine ⟨(hs.2 p.1 ?_).trans e,n,ne,nf,d⟩
      intro q
      rw [q,hoc] at e
      have q':oc = p.2:=Option.some.inj e
      exact d w' (by rw [← q']; exact hocd)
theorem jgH {M:Model} {A:Around} {E:Value → Shared → Prop} {i:Nat} {x:Str} {v:V} {u:Value} {Q:Unit → Shared → Prop} (I:Inv X pins σ H s) (hN:X.N.Nodup) (hi:X.N[i]? = some x) (hx:Loc X.env.scope x) (r:RelV v u)
    (h:∀ s',Inv X pins (σ.set i (some v)) H s' → Q () s') (hf:X.fn x = true ∨ X.env.scope.names.lookup x = some .local:=by first | exact .inl rfl | exact .inr rfl | assumption):wpAny M A (storeName X.env x u) Q E s:=
  jmX I hN hi hx r (fun s' I' _=>h s' I') hf
theorem Inv.call' {s':Shared} {ch:List Addr} (I:Inv X pins σ H s) (ho:s'.os = s.os) (u:Un (frs X.stack) ch H H' s.heap s'.heap) (hok:HOk X.prog X.w H' s'.heap) (hg:AllBare s'.gens)
    (hch:∀ b ∈ ch,(b ∈ X.ex ∨ X.s₀.heap.objs.size ≤ b) ∧ b ≠ X.env.locals ∧ (∀ x c,X.env.cells.lookup x = some c → c ≠ b) ∧ ∀ p ∈ X.pn ++ pins,p.1 ≠ b):Inv X pins σ H' s':=by
  obtain ⟨h',g',d',t',o'⟩:=s'
  have e:o' = s.os:=ho
  subst e
  exact I.call (g':=g') (t':=t') (d':=d') u hok hg hch
end
abbrev XK:=Value → Option Addr → Hp → Prop
abbrev St:=List (Option V)
abbrev VK:=V → Hp → Prop
abbrev TE:=St → Hp → VK → Prop
abbrev TT:=St → Hp → (Bool → Hp → Prop) → Prop
abbrev TA:=St → Hp → (List V → Hp → Prop) → Prop
structure Ends where
  nx:St → Hp → Prop
  rt:VK
  bk:St → Hp → Prop:=fun _ _=>False
  ct:St → Hp → Prop:=fun _ _=>False
abbrev TS:=Ends → St → Hp → Prop
def EP (X:Cx) (pins:List (Addr × Obj)) (σ:St) (Q:VK) (u:Value) (s':Shared):Prop:=∃ v H',Inv X pins σ H' s' ∧ RelV v u ∧ Q v H'
def TP (X:Cx) (pins:List (Addr × Obj)) (σ:St) (Q:Bool → Hp → Prop) (b:Bool) (s':Shared):Prop:=∃ H',Inv X pins σ H' s' ∧ Q b H'
def AP (X:Cx) (pins:List (Addr × Obj)) (σ:St) (Q:List V → Hp → Prop) (us:List Value) (s':Shared):Prop:=∃ vs H',Inv X pins σ H' s' ∧ Vals vs us ∧ Q vs H'
def SP (X:Cx) (pins:List (Addr × Obj)) (D:Ends) (f:Flow) (s':Shared):Prop:=
  match f with
  | .next=>∃ σ' H',Inv X pins σ' H' s' ∧ D.nx σ' H'
  | .brk=>∃ σ' H',Inv X pins σ' H' s' ∧ D.bk σ' H'
  | .cont=>∃ σ' H',Inv X pins σ' H' s' ∧ D.ct σ' H'
  | .ret u=>∃ v σ' H',Inv X pins σ' H' s' ∧ RelV v u ∧ D.rt v H'
def PE (X:Cx) (e:Expr) (t:TE):Prop:=
  ∀ (pins:List (Addr × Obj)) (s:Shared) (σ:St) (H:Hp) (Q:VK),Inv X pins σ H s → t σ H Q → wpAny (model X.prog X.w) X.A (eval e X.env) (EP X pins σ Q) X.xe s
def PT (X:Cx) (e:Expr) (t:TT):Prop:=
  ∀ (pins:List (Addr × Obj)) (s:Shared) (σ:St) (H:Hp) (Q:Bool → Hp → Prop),Inv X pins σ H s → t σ H Q → wpAny (model X.prog X.w) X.A (isTrue e X.env (eval e X.env)) (TP X pins σ Q) X.xe s
def PW (X:Cx) (e:Expr) (t:TT):Prop:=
  ∀ (whole:Sem Value) (pins:List (Addr × Obj)) (s:Shared) (σ:St) (H:Hp) (Q:Bool → Hp → Prop),Inv X pins σ H s → t σ H Q → wpAny (model X.prog X.w) X.A (isTrue e X.env whole) (TP X pins σ Q) X.xe s
theorem PW.pt {X:Cx} {e:Expr} {t:TT} (h:PW X e t):PT X e t:=h _
def PA (X:Cx) (es:List Expr) (t:TA):Prop:=
  ∀ (pos:Pos) (pins:List (Addr × Obj)) (s:Shared) (σ:St) (H:Hp) (Q:List V → Hp → Prop),Inv X pins σ H s → t σ H Q → wpAny (model X.prog X.w) X.A (spliced (backTo pos (starEach es X.env))) (AP X pins σ Q) X.xe s
def PS (X:Cx) (st:Stmt) (t:TS):Prop:=
  ∀ (pins:List (Addr × Obj)) (s:Shared) (σ:St) (H:Hp) (D:Ends),Inv X pins σ H s → t D σ H → wpAny (model X.prog X.w) X.A (exec st X.env) (SP X pins D) X.xe s
def PSs (X:Cx) (st:List Stmt) (t:TS):Prop:=
  ∀ (pins:List (Addr × Obj)) (s:Shared) (σ:St) (H:Hp) (D:Ends),Inv X pins σ H s → t D σ H → wpAny (model X.prog X.w) X.A (execs st X.env) (SP X pins D) X.xe s
theorem thn {α:Type} {t:Sem α} {Q Q':α → Shared → Prop} {M:Model} {A:Around} {E:Value → Shared → Prop} {s:Shared} (h:wpAny M A t Q E s) (hQ:∀ a s,Q a s → Q' a s):wpAny M A t Q' E s:=wpAny_mono h hQ fun _ _ x=>x
end L2
namespace L2
open PySem PySem.Spec PyProof.Rows
section
variable {X:Cx}
def jAc (i:Nat):TE:=fun σ H Q=>∃ v,σ[i]? = some (some v) ∧ Q v H
def tC (v:V):TE:=fun _ H Q=>Q v H
theorem jjC {i:Nat} {x:Str} {pos:Pos} (hN:X.N[i]? = some x) (hv:Vis X.env.scope x) (hd:(x == ("__debug__":Str)) = false:=by decide) (hcd:(x == ("__classdict__":Str)) = false:=by decide):PE X (.Name x pos) (jAc i):=by
  intro pins s σ H Q I h
  obtain ⟨v,e,h⟩:=h
  obtain ⟨m,hn,hl⟩:=I.loc
  obtain ⟨u,r,l⟩:=hl i x v hN e hv
  have fin:EP X pins σ Q u s:=⟨v,H,I,r,h⟩
  rcases l with ⟨hk,hm⟩ | ⟨hk,c,hc,hcell⟩
  · exact wpAny_Name (wpAny_loadName_local I.ok.kind hk hn hm fin) hd
  · rcases hk with hk | hk
    · exact wpAny_Name (wpAny_loadName_cell I.ok.kind hk hc hcell fin) hd
    · exact wpAny_Name (wpAny_loadName_free I.ok.kind hk hc hcell fin hcd) hd
theorem juP {i j pos}:PE X (.Constant (.int i) j pos) (tC (.int i)):=fun _ _ _ H _ I h=>wpAny_Constant_int ⟨.int i,H,I.tok _,⟨_,rfl⟩,h⟩
theorem jyd {b j pos}:PE X (.Constant (.bool b) j pos) (tC (.bl b)):=fun _ _ _ H _ I h=>Constant_bool ⟨.bl b,H,I,rfl,h⟩
theorem juN {j pos}:PE X (.Constant .none j pos) (tC .non):=fun _ _ _ H _ I h=>Constant_none ⟨.non,H,I,rfl,h⟩
theorem juK {x j pos}:PE X (.Constant (.str x) j pos) (tC (.str x)):=fun _ _ _ H _ I h=>Calls.Constant_str ⟨.str x,H,I.tok _,⟨_,rfl⟩,h⟩
def Gl (X:Cx) (x:Str):Prop:=X.env.kindOf x = some .globalImplicit
theorem jhp {E:Value → Shared → Prop} {pins:List (Addr × Obj)} {s:Shared} {σ:St} {H:Hp} {x:Str} {u:Value} {pos:Pos} {Q:Value → Shared → Prop} (I:Inv X pins σ H s) (hg:Gl X x) (hm:X.mg x = some u) (h:Q u s)
    (hd:(x == ("__debug__":Str)) = false:=by decide):wpAny (model X.prog X.w) X.A (eval (.Name x pos) X.env) Q E s:=
  Calls.Name_function_global I.ok.kind hg (Calls.loadGlobal_global (by rw [I.ok.glob]; exact I.mod.glob.keeps I.bk) hm h) hd
theorem jlu {E:Value → Shared → Prop} {pins:List (Addr × Obj)} {s:Shared} {σ:St} {H:Hp} {x:Str} {u:Value} {pos:Pos} {Q:Value → Shared → Prop} (I:Inv X pins σ H s) (hg:Gl X x) (hm:X.mg x = none) (hv:bootBuiltins x = some u) (h:Q u s)
    (hn:x ≠ "__name__":=by decide) (hd:(x == ("__debug__":Str)) = false:=by decide):wpAny (model X.prog X.w) X.A (eval (.Name x pos) X.env) Q E s:=by
  obtain ⟨mb,h1,h2⟩:=I.mod.blt
  exact Calls.Name_function_global I.ok.kind hg (Calls.loadGlobal_builtin (by rw [I.ok.glob]; exact I.mod.glob.keeps I.bk) hm (by rw [I.ok.blt]; exact h1.keeps I.bk) ((h2 x hn).trans hv) h) hd
theorem jnd {x:Str} {v:V} {u:Value} {pos:Pos} (hg:Gl X x) (hm:X.mg x = some u) (r:RelV v u) (hd:(x == ("__debug__":Str)) = false:=by decide):PE X (.Name x pos) (tC v):=
  fun _ _ _ H _ I h=>jhp I hg hm ⟨v,H,I,r,h⟩ hd
theorem jne {x:Str} {v:V} {u:Value} {pos:Pos} (hg:Gl X x) (hm:X.mg x = none) (hv:bootBuiltins x = some u) (r:RelV v u) (hn:x ≠ "__name__":=by decide) (hd:(x == ("__debug__":Str)) = false:=by decide):PE X (.Name x pos) (tC v):=
  fun _ _ _ H _ I h=>jlu I hg hm hv ⟨v,H,I,r,h⟩ hn hd
variable {a b:Expr} {ta tb:TE} {pos:Pos}
def tB (t:TE):TT:=fun σ H Q=>t σ H fun x H1=>∃ c,x = .bl c ∧ Q c H1
theorem juC {e:Expr} {t:TE} (h:PE X e t) (he:∀ whole,isTrue e X.env whole = (do let v ← whole; standAt e.pos; holding [v] (truthy v)):=by intro _; rfl):PT X e (tB t):=by
  intro pins s σ H Q I hw
  refine isTrue_plain (thn (h pins s σ H _ I hw) fun v s1 ⟨x,H1,I1,r1,q1⟩=>?_) (he _)
  obtain ⟨d,rfl,q⟩:=q1
  cases r1
  exact wpAny_truthy_bool ⟨H1,I1,q⟩
variable {tA tB':TT} {rest:List Expr}
def jAm (t u:TT):TT:=fun σ H Q=>t σ H fun c H1=>if c = true then u σ H1 Q else Q false H1
def tOr (t u:TT):TT:=fun σ H Q=>t σ H fun c H1=>if c = true then Q true H1 else u σ H1 Q
def jAg (t:TT):TT:=fun σ H Q=>t σ H fun c H1=>Q (!c) H1
theorem jse (ha:PT X a tA):PW X (.BoolOp .And [a] pos) tA:=by
  intro wh pins s σ H Q I h
  refine isTrue_and (thn (ha pins s σ H Q I h) fun c s1 e=>?_)
  cases c with
  | true=>exact isTrue_and_nil e
  | false=>exact e
theorem juA (ha:PT X a tA):PW X (.BoolOp .Or [a] pos) tA:=by
  intro wh pins s σ H Q I h
  refine isTrue_or (thn (ha pins s σ H Q I h) fun c s1 e=>?_)
  cases c with
  | false=>exact isTrue_or_nil e
  | true=>exact e
theorem juB (ha:PT X a tA) (hb:PW X (.BoolOp .And (b :: rest) pos) tB'):PW X (.BoolOp .And (a :: b :: rest) pos) (jAm tA tB'):=by
  intro wh pins s σ H Q I h
  refine isTrue_and (thn (ha pins s σ H _ I h) fun c s1 ⟨H1,I1,q1⟩=>?_)
  cases c with
  | true=>exact hb wh pins s1 σ H1 Q I1 q1
  | false=>exact ⟨H1,I1,q1⟩
theorem jx4 (ha:PT X a tA) (hb:PW X (.BoolOp .Or (b :: rest) pos) tB'):PW X (.BoolOp .Or (a :: b :: rest) pos) (tOr tA tB'):=by
  intro wh pins s σ H Q I h
  refine isTrue_or (thn (ha pins s σ H _ I h) fun c s1 ⟨H1,I1,q1⟩=>?_)
  cases c with
  | true=>exact ⟨H1,I1,q1⟩
  | false=>exact hb wh pins s1 σ H1 Q I1 q1
theorem juD (ha:PT X a tA):PT X (.UnaryOp .Not a pos) (jAg tA):=by
  intro pins s σ H Q I h
  exact isTrue_not (ha pins s σ H (fun c H1=>Q (!c) H1) I h)
def jxz (ta tb:TE):TE:=fun σ H Q=>ta σ H fun x H1=>∃ c,x = .bl c ∧ if c = true then tb σ H1 Q else Q (.bl false) H1
theorem juM {op} {t:TE} (h:PE X a t):PE X (.BoolOp op [a] pos) t:=fun pins s σ H Q I hw=>BoolOp_one (h pins s σ H Q I hw)
theorem juR (ha:PE X a ta) (hb:PE X (.BoolOp .And (b :: rest) pos) tb):PE X (.BoolOp .And (a :: b :: rest) pos) (jxz ta tb):=by
  intro pins s σ H Q I h
  refine BoolOp_and (thn (ha pins s σ H _ I h) fun v s1 ⟨x,H1,I1,r1,q1⟩=>?_)
  obtain ⟨c,rfl,q1⟩:=q1
  cases r1
  refine wpAny_truthy_bool ?_
  cases c with
  | true=>exact hb pins s1 σ H1 Q I1 q1
  | false=>exact ⟨.bl false,H1,I1,rfl,q1⟩
def tIf (t:TT) (ta tb:TE):TE:=fun σ H Q=>t σ H fun c H1=>if c = true then ta σ H1 Q else tb σ H1 Q
theorem jpr {c:Expr} (hc:PT X c tA) (ha:PE X a ta) (hb:PE X b tb):PE X (.IfExp c a b pos) (tIf tA ta tb):=by
  intro pins s σ H Q I h
  refine wpAny_IfExp (thn (hc pins s σ H _ I h) fun d s1 ⟨H1,I1,q1⟩=>?_)
  cases d with
  | true=>exact ha pins s1 σ H1 Q I1 q1
  | false=>exact hb pins s1 σ H1 Q I1 q1
end
end L2
namespace L2
open PySem PySem.Spec PyProof.Rows
def SqL (K:PySem.W.Frag) (H:Hp) (a:Addr) (xs:List V):Prop:=
  Rd H a (.lst xs) ∨
    ∃ (o:Obj) (its:Array Value) (n:Nat),K.lookup a = some o ∧ o.cls = .type "list" ∧ o.dict = none ∧ o.data = .seq its n ∧ its.size ≤ sizeLine ∧ Vals xs its.toList
def SqT (K:PySem.W.Frag) (H:Hp) (a:Addr) (xs:List V):Prop:=
  Rd H a (.tup xs) ∨
    ∃ (o:Obj) (its:Array Value) (n:Nat),K.lookup a = some o ∧ o.cls = .type "tuple" ∧ o.data = .seq its n ∧ its.size ≤ sizeLine ∧ Vals xs its.toList
def jBj:Value → Option V
  | .none=>some .non
  | .bool b=>some (.bl b)
  | .int i _=>some (.int i)
  | .str x _=>some (.str x)
  | .bytes b _=>some (.byt b)
  | .float b _=>some (.flt b)
  | .ref a=>some (.ref a)
  | .type n=>some (.ty n)
  | _=>none
theorem RelV.abs {x:V} {u:Value} (r:RelV x u):jBj u = some x:=by
  cases x with
  | non=>cases r; rfl
  | bl _=>cases r; rfl
  | int _=>obtain ⟨t,rfl⟩:=r; rfl
  | str _=>obtain ⟨t,rfl⟩:=r; rfl
  | byt _=>obtain ⟨t,rfl⟩:=r; rfl
  | flt _=>obtain ⟨t,rfl⟩:=r; rfl
  | ref _=>cases r; rfl
  | ty _=>cases r; rfl
theorem RelV.inj {x y:V} {u:Value} (r:RelV x u) (q:RelV y u):x = y:=Option.some.inj (r.abs.symm.trans q.abs)
theorem Vals.inj:∀ {xs ys:List V} {us:List Value},Vals xs us → Vals ys us → xs = ys
  | _,_,_,.nil,.nil=>rfl
  | _,_,_,.cons r t,.cons r' t'=>by rw [r.inj r',Vals.inj t t']
section
variable {X:Cx} {pins:List (Addr × Obj)} {σ:St} {H:Hp} {s:Shared} {a:Addr} {xs ys:List V}
theorem SqL.of {K:PySem.W.Frag} (h:H a = some (.lst xs)):SqL K H a xs:=.inl (.inl h)
theorem SqT.of {K:PySem.W.Frag} (h:H a = some (.tup xs)):SqT K H a xs:=.inl (.inl h)
theorem Inv.list (I:Inv X pins σ H s) (h:SqL X.K H a xs):∃ its:List Value,Vals xs its ∧ PlainL s.heap a its.toArray ∧ xs.length ≤ sizeLine:=by
  rcases h with h | ⟨o,its,n,hk,hc,hd,hs,hz,r⟩
  · obtain ⟨z,its,n,r,e⟩:=h.ok I.hok
    exact ⟨its,r,⟨_,n,e,rfl,rfl,rfl⟩,z⟩
  · refine ⟨its.toList,r,⟨o,n,I.kIn a o hk,hc,hd,by simpa using hs⟩,?_⟩
    have e:=r.length
    simp only [Array.length_toList] at e
    omega
theorem Inv.tuple (I:Inv X pins σ H s) (h:SqT X.K H a xs):∃ its:List Value,Vals xs its ∧ IsTup s.heap a its.toArray ∧ xs.length ≤ sizeLine:=by
  rcases h with h | ⟨o,its,n,hk,hc,hs,hz,r⟩
  · obtain ⟨z,its,r,p⟩:=h.ok I.hok
    exact ⟨its,r,p,z⟩
  · refine ⟨its.toList,r,⟨o,I.kIn a o hk,hc,n,by simpa using hs⟩,?_⟩
    have e:=r.length
    simp only [Array.length_toList] at e
    omega
theorem Inv.list_inj (I:Inv X pins σ H s) (h:SqL X.K H a xs) (h':SqL X.K H a ys):xs = ys:=by
  obtain ⟨its,r,⟨o,n,e,_,_,d⟩,_⟩:=I.list h
  obtain ⟨its',r',⟨o',n',e',_,_,d'⟩,_⟩:=I.list h'
  rw [e] at e'; cases e'
  rw [d] at d'
  injection d' with d1 _
  have:its = its':=by simpa using congrArg Array.toList d1
  subst this
  exact r.inj r'
theorem Inv.tuple_inj (I:Inv X pins σ H s) (h:SqT X.K H a xs) (h':SqT X.K H a ys):xs = ys:=by
  obtain ⟨its,r,⟨o,e,_,n,d⟩,_⟩:=I.tuple h
  obtain ⟨its',r',⟨o',e',_,n',d'⟩,_⟩:=I.tuple h'
  rw [e] at e'; cases e'
  rw [d] at d'
  injection d' with d1 _
  have:its = its':=by simpa using congrArg Array.toList d1
  subst this
  exact r.inj r'
end
abbrev Cx.wish (X:Cx) (E:Value → Shared → Prop):Cx:={ X with xe:=E }
abbrev Cx.nox (X:Cx):Cx:=X.wish fun _ _=>False
theorem Cx.Ok.wish {X:Cx} (ok:X.Ok) (E:Value → Shared → Prop):(X.wish E).Ok:=
  ⟨ok.mod,ok.kind,ok.glob,ok.blt,ok.above,ok.inj,ok.has,ok.cab,ok.hd,ok.frames,ok.stk,ok.exf,ok.bs,ok.bsz,ok.noex,ok.exfs,ok.funs,ok.frf⟩
theorem Cx.Ok.unwish {X:Cx} {E:Value → Shared → Prop} (ok:(X.wish E).Ok):X.Ok:=
  ⟨ok.mod,ok.kind,ok.glob,ok.blt,ok.above,ok.inj,ok.has,ok.cab,ok.hd,ok.frames,ok.stk,ok.exf,ok.bs,ok.bsz,ok.noex,ok.exfs,ok.funs,ok.frf⟩
section
variable {X:Cx} {pins:List (Addr × Obj)} {σ:St} {H:Hp} {s:Shared} {E:Value → Shared → Prop}
theorem Inv.wish (I:Inv X pins σ H s) (E:Value → Shared → Prop):Inv (X.wish E) pins σ H s:=⟨I.ok.wish E,I.os,I.bare,I.base,I.loc,I.cell,I.free,I.freeC,I.pin,I.hok,I.len⟩
theorem Inv.unwish (I:Inv (X.wish E) pins σ H s):Inv X pins σ H s:=⟨I.ok.unwish,I.os,I.bare,I.base,I.loc,I.cell,I.free,I.freeC,I.pin,I.hok,I.len⟩
theorem SP.unwish {D:Ends} {f:Flow} {s':Shared} (h:SP (X.wish E) pins D f s'):SP X pins D f s':=by
  cases f with
  | next=>obtain ⟨σ',H',I,q⟩:=h; exact ⟨σ',H',I.unwish,q⟩
  | brk=>obtain ⟨σ',H',I,q⟩:=h; exact ⟨σ',H',I.unwish,q⟩
  | cont=>obtain ⟨σ',H',I,q⟩:=h; exact ⟨σ',H',I.unwish,q⟩
  | ret u=>obtain ⟨v,σ',H',I,r,q⟩:=h; exact ⟨v,σ',H',I.unwish,r,q⟩
theorem PE.nox {e:Expr} {t:TE} (h:PE X.nox e t):PE X e t:=fun pins s σ H Q I hw=>
  wpAny_mono (h pins s σ H Q (I.wish _) hw) (fun _ _ ⟨v,H',I',r,q⟩=>⟨v,H',I'.unwish,r,q⟩) fun _ _ z=>False.elim z
theorem PT.nox {e:Expr} {t:TT} (h:PT X.nox e t):PT X e t:=fun pins s σ H Q I hw=>
  wpAny_mono (h pins s σ H Q (I.wish _) hw) (fun _ _ ⟨H',I',q⟩=>⟨H',I'.unwish,q⟩) fun _ _ z=>False.elim z
theorem PSs.nox {st:List Stmt} {t:TS} (h:PSs X.nox st t):PSs X st t:=fun pins s σ H D I hw=>
  wpAny_mono (h pins s σ H D (I.wish _) hw) (fun _ _ q=>q.unwish) fun _ _ z=>False.elim z
end
section
variable {X:Cx} {st:Stmt} {rest:List Stmt} {t u:TS} {e:Expr} {te:TE} {pos:Pos}
def jxv:TS:=fun D σ H=>D.nx σ H
def jAe (t u:TS):TS:=fun D σ H=>t { D with nx:=u D } σ H
theorem jsh:PSs X [] jxv:=fun _ _ σ H _ I h=>wpAny_execs_nil ⟨σ,H,I,h⟩
theorem jiJ (h1:PS X st t) (h2:PSs X rest u):PSs X (st :: rest) (jAe t u):=by
  intro pins s σ H D I h
  refine wpAny_execs_cons (thn (h1 pins s σ H { D with nx:=u D } I h) fun f s1 q=>?_)
  cases f with
  | next=>
    obtain ⟨σ',H',I',q⟩:=q
    exact h2 pins s1 σ' H' D I' q
  | ret v=>exact q
  | brk=>exact q
  | cont=>exact q
theorem jsg (h1:PS X st t):PSs X [st] t:=by
  intro pins s σ H D I h
  refine wpAny_execs_cons (thn (h1 pins s σ H D I h) fun f s1 q=>?_)
  cases f with
  | next=>exact wpAny_execs_nil q
  | ret v=>exact q
  | brk=>exact q
  | cont=>exact q
theorem Inv.quiet {pins:List (Addr × Obj)} {σ:St} {H:Hp} {s:Shared} (I:Inv X pins σ H s):interactive X.env = false:=by simp [interactive,I.ok.kind]
def jxw (te:TE):TS:=fun D σ H=>te σ H fun _ H1=>D.nx σ H1
theorem jkm (he:PE X e te) (hs:swapsWith e none pos.line X.env = pure false:=by rfl):PS X (.Expr e pos) (jxw te):=by
  intro pins s σ H D I h
  exact wpAny_Expr_any (thn (he pins s σ H _ I h) fun v s1 ⟨x,H1,I1,r1,q1⟩=>⟨σ,H1,I1,q1⟩) I.quiet hs
def jAf (te:TE):TS:=fun D σ H=>te σ H D.rt
theorem jq4 (he:PE X e te):PS X (.Return (some e) pos) (jAf te):=by
  intro pins s σ H D I h
  exact wpAny_Return_some (thn (he pins s σ H _ I h) fun v s1 ⟨x,H1,I1,r1,q1⟩=>⟨x,σ,H1,I1,r1,q1⟩)
def jAj (c:TT) (t u:TS):TS:=fun D σ H=>c σ H fun b H1=>if b = true then t D σ H1 else u D σ H1
theorem juE {c:Expr} {a b:List Stmt} {tc:TT} (hc:PT X c tc) (ha:PSs X a t) (hb:PSs X b u):PS X (.If c a b pos) (jAj tc t u):=by
  intro pins s σ H D I h
  refine wpAny_If (thn (hc pins s σ H _ I h) fun d s1 ⟨H1,I1,q1⟩=>?_)
  cases d with
  | true=>exact ha pins s1 σ H1 D I1 q1
  | false=>exact hb pins s1 σ H1 D I1 q1
end
abbrev TG:=V → St → Hp → (St → Hp → Prop) → Prop
abbrev TGs:=List V → St → Hp → (St → Hp → Prop) → Prop
def PG (X:Cx) (target:Expr) (t:TG):Prop:=
  ∀ (pins:List (Addr × Obj)) (s:Shared) (σ:St) (H:Hp) (v:V) (u:Value) (Q:St → Hp → Prop),Inv X pins σ H s → RelV v u → t v σ H Q →
    wpAny (model X.prog X.w) X.A (assign target X.env u) (fun _ s'=>∃ σ' H',Inv X pins σ' H' s' ∧ Q σ' H') X.xe s
def PGs (X:Cx) (ts:List Expr) (t:TGs):Prop:=
  ∀ (pins:List (Addr × Obj)) (s:Shared) (σ:St) (H:Hp) (vs:List V) (us:List Value) (Q:St → Hp → Prop),Inv X pins σ H s → Vals vs us → t vs σ H Q →
    wpAny (model X.prog X.w) X.A (assignInOrder ((assignEach ts X.env).map (·.2)) us) (fun _ s'=>∃ σ' H',Inv X pins σ' H' s' ∧ Q σ' H') X.xe s
abbrev jzu:=V → V → V → Hp → (Hp → Prop) → Prop
def jzR (X:Cx) (t:jzu):Prop:=
  ∀ (pins:List (Addr × Obj)) (s:Shared) (σ:St) (H:Hp) (o i v:V) (ov iv u:Value) (Q:Hp → Prop),Inv X pins σ H s → RelV o ov → RelV i iv → RelV v u → t o i v H Q →
    wpAny (model X.prog X.w) X.A (setItem ov iv u) (fun _ s'=>∃ H',Inv X pins σ H' s' ∧ Q H') X.xe s
section
variable {X:Cx} {pos:Pos}
def js9 (i:Nat):TG:=fun v σ H Q=>Q (σ.set i (some v)) H
theorem jbC {i:Nat} {x:Str} (hN:X.N.Nodup) (hi:X.N[i]? = some x) (hx:Loc X.env.scope x) (hf:X.fn x = true ∨ X.env.scope.names.lookup x = some .local:=by first | exact .inl rfl | exact .inr rfl | assumption):PG X (.Name x pos) (js9 i):=by
  intro pins s σ H v u Q I r h
  exact wpAny_assign_Name (jgH I hN hi hx r (fun s' I'=>⟨_,H,I',h⟩) hf)
def jA0 (to ti:TE) (t:jzu):TG:=fun v σ H Q=>to σ H fun o H1=>ti σ H1 fun i H2=>t o i v H2 fun H3=>Q σ H3
theorem juI {o i:Expr} {to ti:TE} {t:jzu} (ho:PE X o to) (hi:PE X i ti) (hs:jzR X t)
    (ha:∀ v,assign (.Subscript o i pos) X.env v = (do
      let ov ← holding [v] (eval o X.env)
      let iv ← holding [v,ov] (eval i X.env)
      standAt pos
      holding [v,ov,iv] (setItem ov iv v)
      release [v,ov,iv] []):=by intro _; rfl):PG X (.Subscript o i pos) (jA0 to ti t):=by
  intro pins s σ H v u Q I r h
  rw [ha]
  refine wpAny_bind (wpAny_holding (thn (ho pins s σ H _ I h) fun ov s1 ⟨x,H1,I1,r1,q1⟩=>?_))
  refine wpAny_bind (wpAny_holding (thn (hi pins s1 σ H1 _ I1 q1) fun iv s2 ⟨y,H2,I2,r2,q2⟩=>?_))
  refine wpAny_bind (wpAny_standAt (wpAny_bind (wpAny_holding (thn (hs pins s2 σ H2 x y v ov iv u _ I2 r1 r2 r q2) fun _ s3 ⟨H3,I3,q3⟩=>?_))))
  exact wpAny_release ⟨σ,H3,I3,q3⟩
def jzA (te:TE) (g:TG):TS:=fun D σ H=>te σ H fun x H1=>g x σ H1 D.nx
theorem juG {tg e:Expr} {te:TE} {g:TG} (he:PE X e te) (hg:PG X tg g) (hs:swapsWithSole [tg] e pos.line X.env = pure false:=by rfl) (hw:swappedStores [tg] e X.env = pure none:=by rfl)
    (h1:(assignEach [tg] X.env).map (·.2) = [assign tg X.env]:=by rfl):PS X (.Assign [tg] e pos) (jzA te g):=by
  intro pins s σ H D I h
  refine wpAny_Assign_stores (thn (he pins s σ H _ I h) fun v s1 ⟨x,H1,I1,r1,q1⟩=>?_) hs hw
  rw [h1]
  exact thn (hg pins s1 σ H1 x v _ I1 r1 q1) fun _ s2 q=>q
theorem jll {i:Nat} {x:Str} {e:Expr} {te:TE} {pos':Pos} (hN:X.N.Nodup) (hi:X.N[i]? = some x) (hx:Loc X.env.scope x) (he:PE X e te) (hs:swapsWith e (some (.Name x pos')) pos.line X.env = pure false:=by rfl) (hf:X.fn x = true ∨ X.env.scope.names.lookup x = some .local:=by first | exact .inl rfl | exact .inr rfl | assumption) :
    PS X (.Assign [.Name x pos'] e pos) (jzA te (js9 i)):=by
  intro pins s σ H D I h
  refine wpAny_Assign_Name (thn (he pins s σ H _ I h) fun v s1 ⟨y,H1,I1,r1,q1⟩=>?_) hs
  exact jgH I1 hN hi hx r1 (fun s2 I2=>⟨_,H1,I2,q1⟩) hf
end
section
variable {X:Cx} {pos:Pos}
end
structure It where
  go:Nat → Hp → Prop
  yld:Nat → Hp → V → Hp → Prop
  stop:Nat → Hp → Prop
def jkZ (X:Cx) (pins:List (Addr × Obj)) (H:Hp) (b:Addr):Prop:=
  H b = none ∧ b ≠ X.env.locals ∧ b ∉ X.fs ∧ (b ∈ X.ex ∨ X.s₀.heap.objs.size ≤ b) ∧ (∀ x c,X.env.cells.lookup x = some c → c ≠ b) ∧ ∀ p ∈ X.pn ++ pins,p.1 ≠ b
theorem Inv.fpOk {X:Cx} {pins:List (Addr × Obj)} {σ:St} {H H':Hp} {s:Shared} {b:Addr} (I:Inv X pins σ H s) (hb:s.heap.objs.size ≤ b) (hn:H' b = none):jkZ X pins H' b:=by
  refine ⟨hn,Nat.ne_of_gt (Nat.lt_of_lt_of_le I.lt hb),I.nofs hb,.inr (Nat.le_trans I.sz hb),fun x c e z=>?_,fun p hp z=>?_⟩
  · obtain ⟨v,q⟩:=I.cell x c e
    exact absurd (Nat.lt_of_lt_of_le q.lt (by rw [z]; exact hb)) (Nat.lt_irrefl _)
  · exact absurd (Nat.lt_of_lt_of_le (Heap.lt_size (I.pin p hp).1) (by rw [z]; exact hb)) (Nat.lt_irrefl _)
structure Turn (P:Program) (w:World) (K:PySem.W.Frag) (tg:Expr) (J:It) (fp:List Addr) (it:Addr) (tn:Nat → Heap → Prop):Prop where
  mem:it ∈ fp
  obj:∀ i h,tn i h → ∀ b ∈ fp,∃ o,h.get? b = some o ∧ ∀ v,o.data ≠ .cell v
  keep:∀ i h h',tn i h → (∀ b ∈ fp,∀ o,h.get? b = some o → h'.get? b = some o) → tn i h'
  item:∀ (X:Cx),X.prog = P → X.w = w → X.K = K → X.calm = true → ∀ (i:Nat) (pins:List (Addr × Obj)) (s:Shared) (σ:St) (H:Hp) (E:Value → Shared → Prop),Inv X pins σ H s → (∀ b ∈ fp,jkZ X pins H b) → tn i s.heap → J.go i H →
    wpAny (model P w) X.A (pyNext (.ref it)) (fun r s1=>∃ u,r = some u ∧
      wpAny (model P w) X.A (letOwnedTupleGo tg (.ref it) u) (fun _ s2=>∃ x H',Inv X pins σ H' s2 ∧ RelV x u ∧ J.yld i H x H' ∧ tn (i + 1) s2.heap ∧ ∀ b ∈ fp,H' b = none) E s1) E s
  done:∀ (X:Cx),X.prog = P → X.w = w → X.K = K → X.calm = true → ∀ (i:Nat) (pins:List (Addr × Obj)) (s:Shared) (σ:St) (H:Hp) (E:Value → Shared → Prop),Inv X pins σ H s → (∀ b ∈ fp,jkZ X pins H b) → tn i s.heap → J.stop i H →
    wpAny (model P w) X.A (pyNext (.ref it)) (fun r s1=>r = none ∧ Inv X pins σ H s1) E s
  self:∀ (A:Around) (i:Nat) (s:Shared) (Q:Value → Shared → Prop) (E:Value → Shared → Prop),tn i s.heap → Q (.ref it) s → wpAny (model P w) A (pyIter (.ref it)) Q E s
abbrev TI:=St → Hp → (It → Hp → Prop) → Prop
def PIE (X:Cx) (pins:List (Addr × Obj)) (σ:St) (tg:Expr) (R:It → Hp → Prop) (itv:Value) (s2:Shared):Prop:=
  ∃ (it:Addr) (fp:List Addr) (tn:Nat → Heap → Prop) (J:It) (H':Hp),itv = .ref it ∧ Inv X pins σ H' s2 ∧ Turn X.prog X.w X.K tg J fp it tn ∧ tn 0 s2.heap ∧ (∀ b ∈ fp,jkZ X pins H' b) ∧ R J H'
def PI (X:Cx) (tg iter:Expr) (wi:TI):Prop:=
  ∀ (pins:List (Addr × Obj)) (s:Shared) (σ:St) (H:Hp) (R:It → Hp → Prop),Inv X pins σ H s → wi σ H R →
    wpAny (model X.prog X.w) X.A (eval iter X.env) (fun v s1=>wpAny (model X.prog X.w) X.A (pyIter v) (PIE X pins σ tg R) X.xe s1) X.xe s
theorem js7 {M:Model} {A:Around} {E:Value → Shared → Prop} {s:Shared} {tg:Expr} {it:Addr} {u:Value} {o:Obj} {n:String} {vs:Array Value} {Q:Unit → Shared → Prop} (ho:s.heap.get? it = some o) (hc:o.cls = .type n) (hd:o.data = .fields vs)
    (hn:["enumerate","zip","dict_itemiterator","dict_reverseitemiterator","odict_iterator","itertools.zip_longest","itertools.pairwise"].contains n = false) (hQ:Q () s):wpAny M A (letOwnedTupleGo tg (.ref it) u) Q E s:=by
  unfold letOwnedTupleGo
  cases tg <;> first
    | exact wpAny_pure hQ
    | (cases u <;> first
        | exact wpAny_pure hQ
        | (refine wpAny_bind (wpAny_load ho ?_)
           rw [hc,hd]
           show wpAny M A (if (["enumerate","zip","dict_itemiterator","dict_reverseitemiterator","odict_iterator","itertools.zip_longest","itertools.pairwise"].contains n && vs[0]? == some (rawInt _)) = true then _ else _) Q E s
           rw [if_neg (by intro h; rw [hn,Bool.false_and] at h; cases h)]
           exact wpAny_pure hQ))
def Itl (K:PySem.W.Frag) (a:Addr):It:=
  ⟨fun i H=>∃ xs x,SqL K H a xs ∧ xs[i]? = some x,fun i H x H'=>H' = H ∧ ∀ xs,SqL K H a xs → xs[i]? = some x,fun i H=>∃ xs,SqL K H a xs ∧ xs.length ≤ i⟩
def Itt (K:PySem.W.Frag) (a:Addr):It:=
  ⟨fun i H=>∃ xs x,SqT K H a xs ∧ xs[i]? = some x,fun i H x H'=>H' = H ∧ ∀ xs,SqT K H a xs → xs[i]? = some x,fun i H=>∃ xs,SqT K H a xs ∧ xs.length ≤ i⟩
def Itr (lo:Int) (n:Nat):It:=⟨fun i _=>i < n,fun i H x H'=>H' = H ∧ x = .int (lo + i),fun i _=>n ≤ i⟩
theorem jmM {P:Program} {w:World} {K:PySem.W.Frag} {tg:Expr} (a it:Addr):Turn P w K tg (Itl K a) [it] it (fun i h=>h.IsListIter it a i) where
  mem:=by simp
  obj:=fun i h st b hb=>by
    have e:b = it:=by simpa using hb
    subst e
    obtain ⟨o,e,c,d⟩:=st
    exact ⟨o,e,fun v z=>by rw [d] at z; cases z⟩
  keep:=fun i h h' st k=>st.at fun o e=>k it (by simp) o e
  item:=by
    intro X hP hw hK hc i pins s σ H E I hf st hg
    subst hP hw hK
    obtain ⟨xs,x,hq,hx⟩:=hg
    obtain ⟨its,rv,p,hz⟩:=I.list hq
    obtain ⟨u,hu,ru⟩:=rv.get hx
    obtain ⟨f0,f1,f2,f3,f4,f5⟩:=hf it (by simp)
    refine wpAny_pyNext_list_item st p.isList (x:=u) (by simpa using hu) fun h' st' sb=>?_
    have I1:Inv X pins σ H { s with heap:=h' }:=I.turned (t':=s.toks) (fun b o hb e=>(sb.2 b hb).trans e) f0 f1 f3 f4 f5
    obtain ⟨o,e,c,d⟩:=id st'
    exact ⟨u,rfl,js7 (s:={ s with heap:=h' }) e c d (by decide) ⟨x,H,I1,ru,⟨rfl,fun ys hy=>by rw [I.list_inj hy hq]; exact hx⟩,st',fun b hb=>(hf b hb).1⟩⟩
  done:=by
    intro X hP hw hK hc i pins s σ H E I hf st hg
    subst hP hw hK
    obtain ⟨xs,hq,hx⟩:=hg
    obtain ⟨its,rv,p,hz⟩:=I.list hq
    obtain ⟨f0,f1,f2,f3,f4,f5⟩:=hf it (by simp)
    have hl:=rv.length
    exact wpAny_pyNext_list_end (I.ok.hd hc) st p.isList (by simp; omega) fun h' eb=>⟨rfl,I.turned (t':=s.toks) (fun b o hb e=>eb b o hb e) f0 f1 f3 f4 f5⟩
  self:=fun _ _ _ _ _ st h=>wpAny_pyIter_listiter st h
theorem jlT {P:Program} {w:World} {K:PySem.W.Frag} {tg:Expr} (a it:Addr):Turn P w K tg (Itt K a) [it] it (fun i h=>h.IsTupleIter it a i) where
  mem:=by simp
  obj:=fun i h st b hb=>by
    have e:b = it:=by simpa using hb
    subst e
    obtain ⟨o,e,c,d⟩:=st
    exact ⟨o,e,fun v z=>by rw [d] at z; cases z⟩
  keep:=fun i h h' st k=>st.at fun o e=>k it (by simp) o e
  item:=by
    intro X hP hw hK hc i pins s σ H E I hf st hg
    subst hP hw hK
    obtain ⟨xs,x,hq,hx⟩:=hg
    obtain ⟨its,rv,p,hz⟩:=I.tuple hq
    obtain ⟨u,hu,ru⟩:=rv.get hx
    obtain ⟨f0,f1,f2,f3,f4,f5⟩:=hf it (by simp)
    refine wpAny_pyNext_tuple_item st (show s.heap.IsTuple a its.toArray from p) (x:=u) (by simpa using hu) fun h' st' sb=>?_
    have I1:Inv X pins σ H { s with heap:=h' }:=I.turned (t':=s.toks) (fun b o hb e=>(sb.2 b hb).trans e) f0 f1 f3 f4 f5
    obtain ⟨o,e,c,d⟩:=id st'
    exact ⟨u,rfl,js7 (s:={ s with heap:=h' }) e c d (by decide) ⟨x,H,I1,ru,⟨rfl,fun ys hy=>by rw [I.tuple_inj hy hq]; exact hx⟩,st',fun b hb=>(hf b hb).1⟩⟩
  done:=by
    intro X hP hw hK hc i pins s σ H E I hf st hg
    subst hP hw hK
    obtain ⟨xs,hq,hx⟩:=hg
    obtain ⟨its,rv,p,hz⟩:=I.tuple hq
    obtain ⟨f0,f1,f2,f3,f4,f5⟩:=hf it (by simp)
    have hl:=rv.length
    exact wpAny_pyNext_tuple_end (I.ok.hd hc) st (show s.heap.IsTuple a its.toArray from p) (by simp; omega) fun h' eb=>⟨rfl,I.turned (t':=s.toks) (fun b o hb e=>eb b o hb e) f0 f1 f3 f4 f5⟩
  self:=fun _ _ _ _ _ st h=>wpAny_pyIter_tupleiter st h
theorem jlU {P:Program} {w:World} {K:PySem.W.Frag} {tg:Expr} (it:Addr) (lo:Int) (n:Nat):Turn P w K tg (Itr lo n) [it] it (fun i h=>IsRangeIter h it (lo + (i:Nat) * 1) ((n:Int) - (i:Nat)) 1) where
  mem:=by simp
  obj:=fun i h st b hb=>by
    have e:b = it:=by simpa using hb
    subst e
    exact ⟨_,st,fun v z=>by
      have z':Data.fields _ = Data.cell v:=z
      cases z'⟩
  keep:=fun i h h' st k=>k it (by simp) _ st
  item:=by
    intro X hP hw hK hc i pins s σ H E I hf st hg
    subst hP hw hK
    obtain ⟨f0,f1,f2,f3,f4,f5⟩:=hf it (by simp)
    have W:=Walks.range (prog:=X.prog) (w:=X.w) (I.ok.hd hc) it lo 1 n
    refine W.item i s _ _ hg st fun v h' tk hv st' kk=>?_
    obtain ⟨t,rfl⟩:=hv
    have I1:Inv X pins σ H { s with heap:=h',toks:=tk }:=I.turned (fun b o hb e=>kk b o (by simpa using hb) e) f0 f1 f3 f4 f5
    refine ⟨_,rfl,js7 (s:={ s with heap:=h',toks:=tk }) (n:="range_iterator") st' rfl rfl (by decide) ⟨.int (lo + i),H,I1,⟨t,?_⟩,⟨rfl,rfl⟩,st',fun b hb=>(hf b hb).1⟩⟩
    rw [Int.mul_one]
  done:=by
    intro X hP hw hK hc i pins s σ H E I hf st hg
    subst hP hw hK
    obtain ⟨f0,f1,f2,f3,f4,f5⟩:=hf it (by simp)
    exact wpAny_pyNext_range_end (I.ok.hd hc) st (by have:n ≤ i:=hg; omega) fun h' eb=>⟨rfl,I.turned (t':=s.toks) (fun b o hb e=>eb b o hb e) f0 f1 f3 f4 f5⟩
  self:=fun _ _ _ _ _ st h=>wpAny_pyIter_rangeiter st h
end L2
namespace L2
open PySem PySem.Spec PyProof.Rows
section
variable {X:Cx} {tg:Expr}
def jy5 (K:PySem.W.Frag) (tl:TE):TI:=fun σ H R=>tl σ H fun x H1=>∃ a,x = .ref a ∧ (∃ xs,SqL K H1 a xs) ∧ R (Itl K a) H1
def jAZ (K:PySem.W.Frag) (tl:TE):TI:=fun σ H R=>tl σ H fun x H1=>∃ a,x = .ref a ∧ (∃ xs,SqT K H1 a xs) ∧ R (Itt K a) H1
theorem jsl {l:Expr} {tl:TE} (hl:PE X l tl):PI X tg l (jy5 X.K tl):=by
  intro pins s σ H R I h
  refine thn (hl pins s σ H _ I h) fun v s1 ⟨x,H1,I1,r1,q1⟩=>?_
  obtain ⟨a,e,⟨xs,hq⟩,q⟩:=q1
  subst e
  cases r1
  obtain ⟨its,rv,p,hz⟩:=I1.list hq
  refine wpAny_pyIter_list p.isList ?_
  refine ⟨s1.heap.objs.size,[s1.heap.objs.size],_,_,H1,rfl,I1.kept (t':=s1.toks) fun b o e=>Heap.get?_push_of_some _ e,jmM a _,⟨_,Heap.get?_push_size _ rfl,rfl,rfl⟩,fun b hb=>?_,q⟩
  have e:b = s1.heap.objs.size:=by simpa using hb
  subst e
  exact I1.fpOk (Nat.le_refl _) (I1.hok.fresh (Nat.le_refl _))
theorem juH {l:Expr} {tl:TE} (hl:PE X l tl):PI X tg l (jAZ X.K tl):=by
  intro pins s σ H R I h
  refine thn (hl pins s σ H _ I h) fun v s1 ⟨x,H1,I1,r1,q1⟩=>?_
  obtain ⟨a,e,⟨xs,hq⟩,q⟩:=q1
  subst e
  cases r1
  obtain ⟨its,rv,p,hz⟩:=I1.tuple hq
  refine wpAny_pyIter_tuple (show s1.heap.IsTuple a its.toArray from p) ?_
  refine ⟨s1.heap.objs.size,[s1.heap.objs.size],_,_,H1,rfl,I1.kept (t':=s1.toks) fun b o e=>Heap.get?_push_of_some _ e,jlT a _,⟨_,Heap.get?_push_size _ rfl,rfl,rfl⟩,fun b hb=>?_,q⟩
  have e:b = s1.heap.objs.size:=by simpa using hb
  subst e
  exact I1.fpOk (Nat.le_refl _) (I1.hok.fresh (Nat.le_refl _))
theorem jpj {pins:List (Addr × Obj)} {σ:St} {H:Hp} {s:Shared} {R:It → Hp → Prop} {E:Value → Shared → Prop} {lo hi:Int} {t u v:Tok} {tk:Nat} (I:Inv X pins σ H s) (h1:-(2 ^ 62) ≤ lo) (h2:lo < 2 ^ 62) (h3:-(2 ^ 62) ≤ hi) (h4:hi < 2 ^ 62)
    (q:R (Itr lo (hi - lo).toNat) H):wpAny (model X.prog X.w) X.A (pyIter (.ref s.heap.objs.size)) (PIE X pins σ tg R) E { s with heap:=s.heap.push { cls:=.type "range",data:=.fields #[.int lo t,.int hi u,.int 1 v] },toks:=tk }:=by
  refine wpAny_pyIter_range (IsRange.new ..) (small_one h1 h2 h3 h4) ?_
  have I1:Inv X pins σ H { s with heap:=s.heap.push { cls:=.type "range",data:=.fields #[.int lo t,.int hi u,.int 1 v] },toks:=tk }:=I.kept fun b o e=>Heap.get?_push_of_some _ e
  refine ⟨(s.heap.push { cls:=.type "range",data:=.fields #[.int lo t,.int hi u,.int 1 v] }).objs.size,[(s.heap.push { cls:=.type "range",data:=.fields #[.int lo t,.int hi u,.int 1 v] }).objs.size],_,_,H,rfl,
    I1.kept (t':=tk) fun b o e=>Heap.get?_push_of_some _ e,jlU _ lo (hi - lo).toNat,?_,fun b hb=>?_,q⟩
  · have e1:lo + ((0:Nat):Int) * 1 = lo:=by simp
    have e2:(((hi - lo).toNat:Nat):Int) - ((0:Nat):Int) = Builtin.Range.rangeSize lo hi 1:=by rw [rangeSize_one]; split <;> omega
    show IsRangeIter _ _ (lo + ((0:Nat):Int) * 1) ((((hi - lo).toNat:Nat):Int) - ((0:Nat):Int)) 1
    rw [e1,e2]
    exact Heap.get?_push_size _ rfl
  · have e:b = (s.heap.push { cls:=.type "range",data:=.fields #[.int lo t,.int hi u,.int 1 v] }).objs.size:=by simpa using hb
    subst e
    exact I1.fpOk (Nat.le_refl _) (I1.hok.fresh (Nat.le_refl _))
def jy4 (ta:TA):TI:=fun σ H R=>ta σ H fun vs H1=>∃ j:Int,vs = [.int j] ∧ -(2 ^ 62) ≤ j ∧ j < 2 ^ 62 ∧ R (Itr 0 j.toNat) H1
theorem jnc {a:Expr} {ta:TA} {p pos:Pos} (hg:Gl X "range") (hm:X.mg "range" = none) (ha:PA X [a] ta) (hs:starEach [a] X.env = [(false,eval a X.env)]:=by rfl):PI X tg (.Call (.Name "range" p) [a] [] pos) (jy4 ta):=by
  intro pins s σ H R I h
  refine Call_ (jlu I hg hm boot_range (PyProof.Rows.callWith_type1 (thn (ha pos pins s σ H _ I h) fun us s1 ⟨vs,H1,I1,r1,q1⟩=>?_) hs rfl))
  obtain ⟨j,e,q1,q2,q⟩:=q1
  subst e
  cases r1 with
  | cons r rr=>
    cases rr
    obtain ⟨t,rfl⟩:=r
    exact call_range_1 (jpj I1 (by omega) (by omega) q1 q2 (by simpa using q))
def jAk (wi:TI) (g:TG) (tb:TS):TS:=fun D σ H=>wi σ H fun J H1=>∃ W:Nat → Nat → St → Hp → Prop,(∃ m,W 0 m σ H1) ∧ ∀ i m σ H,W i m σ H →
  (J.stop i H ∧ D.nx σ H) ∨ (J.go i H ∧ ∃ N:St → Hp → Prop,(∀ σ' H',N σ' H' → ∃ m',m' < m ∧ W (i + 1) m' σ' H') ∧ ∀ x H',J.yld i H x H' → g x σ H' fun σ2 H2=>tb { D with nx:=N,ct:=N,bk:=D.nx } σ2 H2)
def jlm (fp:List Addr) (h:Heap):List (Addr × Obj):=fp.filterMap fun b=>(h.get? b).map fun o=>(b,o)
theorem jcx {fp:List Addr} {h:Heap} {b:Addr} {o:Obj} (hb:b ∈ fp) (e:h.get? b = some o):(b,o) ∈ jlm fp h:=List.mem_filterMap.mpr ⟨b,hb,by rw [e]; rfl⟩
theorem jno {fp:List Addr} {h:Heap} {p:Addr × Obj} (hp:p ∈ jlm fp h):p.1 ∈ fp ∧ h.get? p.1 = some p.2:=by
  obtain ⟨b,hb,e⟩:=List.mem_filterMap.mp hp
  cases q:h.get? b with
  | none=>rw [q] at e; cases e
  | some o=>
    rw [q] at e
    have e':(b,o) = p:=Option.some.inj e
    subst e'
    exact ⟨hb,q⟩
theorem Inv.pinned {pins:List (Addr × Obj)} {σ:St} {H:Hp} {s:Shared} {fp:List Addr} (I:Inv X pins σ H s) (hf:∀ b ∈ fp,jkZ X pins H b) (ho:∀ b ∈ fp,∃ o,s.heap.get? b = some o ∧ ∀ v,o.data ≠ .cell v):Inv X (pins ++ jlm fp s.heap) σ H s:=
  I.pins_of fun p hp=>(List.mem_append.mp hp).elim (fun z=>I.pin p (List.mem_append_right _ z)) fun z=>by
    obtain ⟨hb,e⟩:=jno z
    obtain ⟨f0,f1,f2,_⟩:=hf p.1 hb
    obtain ⟨o,e',d⟩:=ho p.1 hb
    rw [e] at e'; cases e'
    exact ⟨e,f0,f1,f2,d⟩
theorem Inv.unpinned {pins pl:List (Addr × Obj)} {σ:St} {H:Hp} {s:Shared} (I:Inv X (pins ++ pl) σ H s):Inv X pins σ H s:=I.pins_of fun p hp=>I.pin p (List.mem_append_right _ (List.mem_append_left _ hp))
theorem juF {iter:Expr} {body:List Stmt} {wi:TI} {g:TG} {tb:TS} {pos:Pos} (hp:PassesOwn (model X.prog X.w) X.A X.env X.xe) (hc:X.calm = true) (hi:PI X tg iter wi) (hg:PG X tg g) (hb:PSs X body tb)
    (hs:∀ x,foldedSetIterable iter X.env x = pure x:=by intro _; rfl):PS X (.For tg iter body [] pos) (jAk wi g tb):=by
  intro pins s σ H D I h
  refine wpAny_For (thn (hi pins s σ H _ I h) fun v s1 h1=>thn h1 fun itv s2 h2=>?_) hs
  obtain ⟨it,fp,tn,J,H2,e,I2,T,st2,f2,W,⟨m0,w0⟩,turn⟩:=h2
  subst e
  have stat:∀ {H':Hp},(∀ b ∈ fp,H' b = none) → ∀ b ∈ fp,jkZ X pins H' b:=fun hn b hb=>⟨hn b hb,(f2 b hb).2⟩
  refine codeAny_forLoop_any (fun n s'=>∃ i σ' H',Inv X pins σ' H' s' ∧ tn i s'.heap ∧ (∀ b ∈ fp,H' b = none) ∧ W i n σ' H') ?_ m0 ⟨0,σ,H2,I2,st2,fun b hb=>(f2 b hb).1,w0⟩
  rintro n s3 ⟨i,σ3,H3,I3,st3,fr3,w3⟩
  rcases turn i n σ3 H3 w3 with ⟨stop,qn⟩ | ⟨go,N,hN,step⟩
  · refine wpAny_passesOwn hp (thn (T.done X rfl rfl rfl hc i pins s3 σ3 H3 X.xe I3 (stat fr3) st3 stop) fun r s4 ⟨hr,I4⟩=>?_)
    subst hr
    exact wpAny_execs_nil ⟨σ3,H3,I4,qn⟩
  · refine wpAny_passesOwn hp (thn (T.item X rfl rfl rfl hc i pins s3 σ3 H3 X.xe I3 (stat fr3) st3 go) fun r s4 ⟨u,hr,h4⟩=>?_)
    subst hr
    refine wpAny_passesOwn hp (thn h4 fun _ s5 ⟨x,H5,I5,r5,y5,st5,fr5⟩=>?_)
    have I5':=I5.pinned (stat fr5) (T.obj _ _ st5)
    refine wpAny_passesOwn hp (thn (hg _ s5 σ3 H5 x u _ I5' r5 (step x H5 y5)) fun _ s6 ⟨σ6,H6,I6,q6⟩=>?_)
    refine wpAny_passesOwn hp (thn (hb _ s6 σ6 H6 _ I6 q6) fun f s7 q7=>?_)
    have again:∀ {σ7:St} {H7:Hp},Inv X (pins ++ jlm fp s5.heap) σ7 H7 s7 → N σ7 H7 → ∃ m,m < n ∧ ∃ i σ' H',Inv X pins σ' H' s7 ∧ tn i s7.heap ∧ (∀ b ∈ fp,H' b = none) ∧ W i m σ' H':=fun {σ7 H7} I7 n7=>by
      obtain ⟨m',hm,w7⟩:=hN σ7 H7 n7
      refine ⟨m',hm,i + 1,σ7,H7,I7.unpinned,T.keep _ _ _ st5 fun b hb o e=>(I7.pin (b,o) (List.mem_append_right _ (List.mem_append_right _ (jcx hb e)))).1,fun b hb=>?_,w7⟩
      obtain ⟨o,e,d⟩:=T.obj _ _ st5 b hb
      exact (I7.pin (b,o) (List.mem_append_right _ (List.mem_append_right _ (jcx hb e)))).2.1
    cases f with
    | next=>obtain ⟨σ7,H7,I7,n7⟩:=q7; exact again I7 n7
    | cont=>obtain ⟨σ7,H7,I7,n7⟩:=q7; exact again I7 n7
    | brk=>obtain ⟨σ7,H7,I7,q7⟩:=q7; exact ⟨σ7,H7,I7.unpinned,q7⟩
    | ret v=>obtain ⟨x7,σ7,H7,I7,r7,q7⟩:=q7; exact ⟨x7,σ7,H7,I7.unpinned,r7,q7⟩
end
end L2
namespace L2
open PySem PySem.Spec PyProof.Rows
abbrev R2:=V → V → Hp → VK → Prop
def OpR (X:Cx) (f:Value → Value → Sem Value) (r:R2):Prop:=
  ∀ (pins:List (Addr × Obj)) (s:Shared) (σ:St) (H:Hp) (x y:V) (v u:Value) (Q:VK),Inv X pins σ H s → RelV x v → RelV y u → r x y H Q →
    wpAny (model X.prog X.w) X.A (f v u) (EP X pins σ Q) X.xe s
def UnR (X:Cx) (f:Value → Sem Value) (r:V → Hp → VK → Prop):Prop:=
  ∀ (pins:List (Addr × Obj)) (s:Shared) (σ:St) (H:Hp) (x:V) (v:Value) (Q:VK),Inv X pins σ H s → RelV x v → r x H Q →
    wpAny (model X.prog X.w) X.A (f v) (EP X pins σ Q) X.xe s
def CallR (X:Cx) (f:Value) (r:List V → Hp → VK → Prop):Prop:=
  ∀ (pins:List (Addr × Obj)) (s:Shared) (σ:St) (H:Hp) (xs:List V) (us:List Value) (Q:VK),Inv X pins σ H s → Vals xs us → r xs H Q →
    wpAny (model X.prog X.w) X.A (call f us) (EP X pins σ Q) X.xe s
def tOp (r:R2) (ta tb:TE):TE:=fun σ H Q=>ta σ H fun x H1=>tb σ H1 fun y H2=>r x y H2 Q
def tUn (r:V → Hp → VK → Prop) (ta:TE):TE:=fun σ H Q=>ta σ H fun x H1=>r x H1 Q
def rI (C:Int → Int → Prop) (g:Int → Int → V):R2:=fun x y H Q=>∃ i j,x = .int i ∧ y = .int j ∧ C i j ∧ Q (g i j) H
def rI0 (g:Int → Int → V):R2:=fun x y H Q=>∃ i j,x = .int i ∧ y = .int j ∧ Q (g i j) H
def rU (g:Int → V):V → Hp → VK → Prop:=fun x H Q=>∃ i,x = .int i ∧ Q (g i) H
section
variable {X:Cx} {a b c:Expr} {ta tb tc:TE} {pos:Pos}
theorem jzp (ha:PE X a ta) (hb:PE X b tb) {pins:List (Addr × Obj)} {s:Shared} {σ:St} {H:Hp} {R:V → V → Hp → Prop} (I:Inv X pins σ H s)
    (h:ta σ H fun x H1=>tb σ H1 fun y H2=>R x y H2) {Q:Value → Shared → Prop} {f:Value → Value → Sem Value}
    (hf:∀ v u s2 x y H2,Inv X pins σ H2 s2 → RelV x v → RelV y u → R x y H2 → wpAny (model X.prog X.w) X.A (f v u) Q X.xe s2) :
    wpAny (model X.prog X.w) X.A (eval a X.env) (fun v s₁=>wpAny (model X.prog X.w) X.A (eval b X.env) (fun u s₂=>wpAny (model X.prog X.w) X.A (f v u) Q X.xe s₂) X.xe s₁) X.xe s:=by
  refine thn (ha pins s σ H _ I h) fun v s1 ⟨x,H1,I1,r1,q1⟩=>?_
  refine thn (hb pins s1 σ H1 _ I1 q1) fun u s2 ⟨y,H2,I2,r2,q2⟩=>?_
  exact hf v u s2 x y H2 I2 r1 r2 q2
theorem juL {op:Operator} {r:R2} (ho:OpR X (binaryOp op) r) (ha:PE X a ta) (hb:PE X b tb):PE X (.BinOp a op b pos) (tOp r ta tb):=by
  intro pins s σ H Q I h
  exact wpAny_BinOp (jzp ha hb I h fun v u s2 x y H2 I2 rx ry q=>ho pins s2 σ H2 x y v u Q I2 rx ry q)
theorem jyc {op:UnaryOp} {r:V → Hp → VK → Prop} (ho:UnR X (unaryOp op) r) (ha:PE X a ta):PE X (.UnaryOp op a pos) (tUn r ta):=by
  intro pins s σ H Q I h
  exact UnaryOp_ (thn (ha pins s σ H _ I h) fun v s1 ⟨x,H1,I1,r1,q1⟩=>ho pins s1 σ H1 x v Q I1 r1 q1)
theorem opI {f:Value → Value → Sem Value} {C:Int → Int → Prop} {g:Int → Int → Int}
    (rule:∀ (i j:Int) (t u:Tok) (s:Shared) (Q:Value → Shared → Prop) (E:Value → Shared → Prop),C i j → Q (.int (g i j) s.toks) { s with toks:=s.toks + 1 } → wpAny (model X.prog X.w) X.A (f (.int i t) (.int j u)) Q E s) :
    OpR X f (rI C fun i j=>.int (g i j)):=by
  intro pins s σ H x y v u Q I rx ry h
  obtain ⟨i,j,rfl,rfl,hc,q⟩:=h
  obtain ⟨t,rfl⟩:=rx
  obtain ⟨t',rfl⟩:=ry
  exact rule i j t t' s _ _ hc ⟨.int (g i j),H,I.tok _,⟨_,rfl⟩,q⟩
theorem ju2 {f:Value → Value → Sem Value} {g:Int → Int → Int}
    (rule:∀ (i j:Int) (t u:Tok) (s:Shared) (Q:Value → Shared → Prop) (E:Value → Shared → Prop),Q (.int (g i j) s.toks) { s with toks:=s.toks + 1 } → wpAny (model X.prog X.w) X.A (f (.int i t) (.int j u)) Q E s) :
    OpR X f (rI0 fun i j=>.int (g i j)):=by
  intro pins s σ H x y v u Q I rx ry h
  obtain ⟨i,j,rfl,rfl,q⟩:=h
  obtain ⟨t,rfl⟩:=rx
  obtain ⟨t',rfl⟩:=ry
  exact rule i j t t' s _ _ ⟨.int (g i j),H,I.tok _,⟨_,rfl⟩,q⟩
theorem jwx {f:Value → Value → Sem Value} {g:Int → Int → Bool}
    (rule:∀ (i j:Int) (t u:Tok) (s:Shared) (Q:Value → Shared → Prop) (E:Value → Shared → Prop),Q (.bool (g i j)) s → wpAny (model X.prog X.w) X.A (f (.int i t) (.int j u)) Q E s) :
    OpR X f (rI0 fun i j=>.bl (g i j)):=by
  intro pins s σ H x y v u Q I rx ry h
  obtain ⟨i,j,rfl,rfl,q⟩:=h
  obtain ⟨t,rfl⟩:=rx
  obtain ⟨t',rfl⟩:=ry
  exact rule i j t t' s _ _ ⟨.bl (g i j),H,I,rfl,q⟩
def jBp (i j:Int):Prop:=0 < j ∧ j < 1073741824
def jBo (i j:Int):Prop:=0 ≤ j ∧ j ≤ 1000000 ∧ i.natAbs < 2 ^ 64
def CMul (i j:Int):Prop:=(-(2 ^ 64) < i ∧ i < 2 ^ 64) ∨ (-(2 ^ 64) < j ∧ j < 2 ^ 64)
theorem CMul.ok {i j:Int} (h:CMul i j):IntMulOk i j:=by
  rcases h with ⟨h1,h2⟩ | ⟨h1,h2⟩
  · exact .of_left (intBits_le_64 h1 h2)
  · exact .of_right (intBits_le_64 h1 h2)
theorem jlS (k:Nat):(0:Int) ≤ 2 ^ k:=by
  rw [two_pow_cast]
  exact Int.natCast_nonneg _
theorem ju1:OpR X (binaryOp .Add) (rI0 fun i j=>.int (i + j)):=ju2 fun _ _ _ _ _ _ _ q=>add_int q
theorem juV:OpR X (binaryOp .Sub) (rI0 fun i j=>.int (i - j)):=ju2 fun _ _ _ _ _ _ _ q=>sub_int q
theorem jss:OpR X (binaryOp .FloorDiv) (rI jBp fun i j=>.int (i / j)):=opI fun i j _ _ _ _ _ hc q=>by
  have h1:(0:Int) < j:=hc.1
  have h2:j < 1073741824:=hc.2
  exact floordiv_int (by omega) (by rw [Int.fdiv_eq_ediv_of_nonneg i (by omega)]; exact q) (.inl (PyProof.noPylong_small (by omega)))
theorem juY:OpR X (binaryOp .Mod) (rI (fun _ j=>0 < j) fun i j=>.int (i % j)):=opI fun i j _ _ _ _ _ hc q=>by
  have h1:(0:Int) < j:=hc
  exact mod_int' (by omega) (by rw [Int.fmod_eq_emod_of_nonneg i (by omega)]; exact q)
theorem juX:OpR X (binaryOp .Pow) (rI jBo fun i j=>.int (i ^ j.toNat)):=opI fun _ _ _ _ _ _ _ hc q=>pow_int_small hc.1 hc.2.1 hc.2.2 q
theorem juW:OpR X (binaryOp .RShift) (rI (fun _ j=>0 ≤ j) fun i j=>.int (i / 2 ^ j.toNat)):=opI fun i j _ _ _ _ _ hc q=>
  rshift_int hc (by rw [Int.fdiv_eq_ediv_of_nonneg i (jlS _)]; exact q)
theorem ju0:OpR X (binaryOp .BitAnd) (rI0 fun i j=>.int (Builtin.bitAnd i j)):=ju2 fun _ _ _ _ _ _ _ q=>and_int q
theorem jyg:OpR X (binaryOp .BitOr) (rI0 fun i j=>.int (Builtin.bitOr i j)):=ju2 fun _ _ _ _ _ _ _ q=>or_int q
theorem juU:OpR X (binaryOp .BitXor) (rI0 fun i j=>.int (Builtin.bitXor i j)):=ju2 fun _ _ _ _ _ _ _ q=>xor_int q
theorem unI {f:Value → Sem Value} {g:Int → Int}
    (rule:∀ (i:Int) (t:Tok) (s:Shared) (Q:Value → Shared → Prop) (E:Value → Shared → Prop),Q (.int (g i) s.toks) { s with toks:=s.toks + 1 } → wpAny (model X.prog X.w) X.A (f (.int i t)) Q E s) :
    UnR X f (rU fun i=>.int (g i)):=by
  intro pins s σ H x v Q I rx h
  obtain ⟨i,rfl,q⟩:=h
  obtain ⟨t,rfl⟩:=rx
  exact rule i t s _ _ ⟨.int (g i),H,I.tok _,⟨_,rfl⟩,q⟩
theorem jt6:UnR X (unaryOp .USub) (rU fun i=>.int (-i)):=unI fun _ _ _ _ _ q=>neg_int q
end
section
variable {X:Cx} {a b c:Expr} {ta tb tc:TE} {pos:Pos}
theorem jrE {pins:List (Addr × Obj)} {σ:St} {H:Hp} {s:Shared} {Q:VK} {k k':Bool} (I:Inv X pins σ H s) (q:Q (.bl k) H) (e:k = k'):EP X pins σ Q (.bool k') s:=by
  subst e
  exact ⟨.bl k,H,I,rfl,q⟩
theorem jyh:OpR X (compareOp .Lt) (rI0 fun i j=>.bl (decide (i < j))):=jwx fun _ _ _ _ _ _ _ q=>lt_int q
theorem jyi:OpR X (compareOp .LtE) (rI0 fun i j=>.bl (decide (i ≤ j))):=jwx fun _ _ _ _ _ _ _ q=>le_int q
theorem jyj:OpR X (compareOp .Gt) (rI0 fun i j=>.bl (decide (j < i))):=jwx fun _ _ _ _ _ _ _ q=>gt_int q
theorem jyk:OpR X (compareOp .GtE) (rI0 fun i j=>.bl (decide (j ≤ i))):=jwx fun _ _ _ _ _ _ _ q=>ge_int q
theorem juZ:OpR X (compareOp .Is) (fun x y H Q=>y = .non ∧ Q (.bl (decide (x = .non))) H):=by
  intro pins s σ H x y v u Q I rx ry h
  obtain ⟨rfl,q⟩:=h
  cases ry
  refine is_none_gen (jrE I q ?_)
  cases x <;> first
    | (cases rx; rfl)
    | (obtain ⟨t,rfl⟩:=rx; rfl)
theorem jsr:OpR X (compareOp .IsNot) (fun x y H Q=>y = .non ∧ Q (.bl (!decide (x = .non))) H):=by
  intro pins s σ H x y v u Q I rx ry h
  obtain ⟨rfl,q⟩:=h
  cases ry
  refine isnot_none_gen (jrE I q ?_)
  cases x <;> first
    | (cases rx; rfl)
    | (obtain ⟨t,rfl⟩:=rx; rfl)
theorem OpR.or {f:Value → Value → Sem Value} {r r':R2} (h:OpR X f r) (h':OpR X f r'):OpR X f (fun x y H Q=>r x y H Q ∨ r' x y H Q):=by
  intro pins s σ H x y v u Q I rx ry q
  rcases q with q | q
  · exact h pins s σ H x y v u Q I rx ry q
  · exact h' pins s σ H x y v u Q I rx ry q
theorem jar (b:Expr) {op:CmpOp} (h:op ≠ .In:=by decide) (h2:op ≠ .NotIn:=by decide):behindInMarks op b = false:=by
  have e1:(op == CmpOp.In) = false:=by cases op <;> first | rfl | exact absurd rfl h
  have e2:(op == CmpOp.NotIn) = false:=by cases op <;> first | rfl | exact absurd rfl h2
  cases b <;> simp [behindInMarks,e1,e2]
theorem jsn {op:CmpOp} {r:R2} (ho:OpR X (compareOp op) r) (ha:PE X a ta) (hb:PE X b tb) (hm:behindInMarks op b = false):PE X (.Compare a [op] [b] pos) (tOp r ta tb):=by
  intro pins s σ H Q I h
  exact wpAny_Compare1 (jzp ha hb I h fun v u s2 x y H2 I2 rx ry q=>ho pins s2 σ H2 x y v u Q I2 rx ry q) hm
def jxt (t:TE):TT:=fun σ H Q=>t σ H fun x H'=>∃ k,x = .bl k ∧ Q k H'
theorem jsf {op:CmpOp} {r:R2} (ho:OpR X (compareOp op) r) (ha:PE X a ta) (hb:PE X b tb) (hm:behindInMarks op b = false):PT X (.Compare a [op] [b] pos) (jxt (tOp r ta tb)):=by
  intro pins s σ H Q I h
  refine wpAny_isTrue_Compare1 (thn (ha pins s σ H _ I h) fun v s1 ⟨x,H1,I1,r1,q1⟩=>thn (hb pins s1 σ H1 _ I1 q1) fun u s2 ⟨y,H2,I2,r2,q2⟩=>
    thn (ho pins s2 σ H2 x y v u _ I2 r1 r2 q2) fun c s3 ⟨z,H3,I3,r3,k,e,q3⟩=>?_) hm
  subst e
  cases r3
  exact wpAny_truthy_bool ⟨H3,I3,q3⟩
def jqT (r r':R2) (ta tb tc:TE):TE:=fun σ H Q=>ta σ H fun x H1=>tb σ H1 fun y H2=>r x y H2 fun z H3=>∃ k,z = .bl k ∧
  (if k = true then tc σ H3 fun w' H4=>r' y w' H4 Q else Q (.bl false) H3)
theorem jpt {op op':CmpOp} {r r':R2} (ho:OpR X (compareOp op) r) (ho':OpR X (compareOp op') r') (ha:PE X a ta) (hb:PE X b tb) (hc:PE X c tc)
    (hm:lastMarks [op,op'] [b,c] = false:=by with_unfolding_all rfl):PE X (.Compare a [op,op'] [b,c] pos) (jqT r r' ta tb tc):=by
  intro pins s σ H Q I h
  refine Compare_chain (thn (ha pins s σ H _ I h) fun v s1 ⟨x,H1,I1,r1,q1⟩=>chain_link (thn (hb pins s1 σ H1 _ I1 q1) fun u s2 ⟨y,H2,I2,r2,q2⟩=>
    thn (ho pins s2 σ H2 x y v u _ I2 r1 r2 q2) fun d s3 ⟨z,H3,I3,r3,k,e,q3⟩=>?_)) hm
  subst e
  cases r3
  refine wpAny_truthy_bool ?_
  cases k with
  | false=>exact ite_ff ⟨.bl false,H3,I3,rfl,q3⟩
  | true=>exact ite_tt (chain_last (thn (hc pins s3 σ H3 _ I3 q3) fun w' s4 ⟨z',H4,I4,r4,q4⟩=>ho' pins s4 σ H4 y z' u w' Q I4 r2 r4 q4))
theorem jlt:(sizeLine:Nat) < 2 ^ 63:=by rw [sizeLine_eq]; decide
theorem jl6:OpR X (binaryOp .Add) (fun x y H Q=>∃ i j,x = .str i ∧ y = .str j ∧ i.length + j.length ≤ sizeLine ∧ Q (.str (i ++ j)) H):=by
  intro pins s σ H x y v u Q I rx ry h
  obtain ⟨i,j,rfl,rfl,hz,q⟩:=h
  obtain ⟨t,rfl⟩:=rx
  obtain ⟨t',rfl⟩:=ry
  exact add_str (fun t' tk=>⟨.str (i ++ j),H,I.tok _,⟨_,rfl⟩,q⟩) hz
theorem jjm {x:V} {us:List Value} (r:Vals [x] us):∃ u,us = [u] ∧ RelV x u:=by
  cases r with
  | cons r1 r2=>cases r2; exact ⟨_,rfl,r1⟩
theorem jmE {x y:V} {us:List Value} (r:Vals [x,y] us):∃ u w',us = [u,w'] ∧ RelV x u ∧ RelV y w':=by
  cases r with
  | cons r1 r2=>
    cases r2 with
    | cons r3 r4=>cases r4; exact ⟨_,_,rfl,r1,r3⟩
theorem jok (hc:X.calm = true):CallR X (.builtin "max") (fun xs H Q=>∃ i j,xs = [.int i,.int j] ∧ Q (.int (if j > i then j else i)) H):=by
  intro pins s σ H xs us Q I r h
  obtain ⟨i,j,rfl,q⟩:=h
  obtain ⟨u,w',rfl,⟨t,rfl⟩,⟨t',rfl⟩⟩:=jmE r
  refine max_two_ints (I.ok.hd hc) fun h' tk k=>⟨_,H,I.kept k,?_,q⟩
  by_cases hj:j > i
  · rw [if_pos hj,if_pos hj]; exact ⟨_,rfl⟩
  · rw [if_neg hj,if_neg hj]; exact ⟨_,rfl⟩
theorem joj (hc:X.calm = true):CallR X (.builtin "min") (fun xs H Q=>∃ i j,xs = [.int i,.int j] ∧ Q (.int (if j < i then j else i)) H):=by
  intro pins s σ H xs us Q I r h
  obtain ⟨i,j,rfl,q⟩:=h
  obtain ⟨u,w',rfl,⟨t,rfl⟩,⟨t',rfl⟩⟩:=jmE r
  refine min_two_ints (I.ok.hd hc) fun h' tk k=>⟨_,H,I.kept k,?_,q⟩
  by_cases hj:j < i
  · rw [if_pos hj,if_pos hj]; exact ⟨_,rfl⟩
  · rw [if_neg hj,if_neg hj]; exact ⟨_,rfl⟩
def jBn (K:PySem.W.Frag) (x:V) (H:Hp) (n:Nat):Prop:=
  match x with
  | .str y=>y.length ≤ sizeLine ∧ n = y.length
  | .byt y=>y.size ≤ sizeLine ∧ n = y.size
  | .ref p=>(∃ xs,SqL K H p xs ∧ n = xs.length) ∨ ∃ xs,SqT K H p xs ∧ n = xs.length
  | _=>False
theorem jlL:CallR X (.builtin "len") (fun xs H Q=>∃ x n,xs = [x] ∧ jBn X.K x H n ∧ Q (.int n) H):=by
  intro pins s σ H xs us Q I r h
  obtain ⟨x,n,rfl,e,q⟩:=h
  obtain ⟨u,rfl,rx⟩:=jjm r
  have hl:=jlt
  have hs:sizeLine = 16777216:=sizeLine_eq
  cases x with
  | str y=>
    obtain ⟨t,rfl⟩:=rx
    obtain ⟨hy,e'⟩:y.length ≤ sizeLine ∧ n = y.length:=e
    subst e'
    exact len_str (by omega) ⟨.int _,H,I.tok _,⟨_,rfl⟩,q⟩
  | byt y=>
    obtain ⟨t,rfl⟩:=rx
    obtain ⟨hy,e'⟩:y.size ≤ sizeLine ∧ n = y.size:=e
    subst e'
    exact PySem.W.len_bytes (by omega) ⟨.int _,H,I.tok _,⟨_,rfl⟩,q⟩
  | ref p=>
    cases rx
    have e':(∃ xs,SqL X.K H p xs ∧ n = xs.length) ∨ ∃ xs,SqT X.K H p xs ∧ n = xs.length:=e
    rcases e' with ⟨xs,hx,e'⟩ | ⟨xs,hx,e'⟩
    · subst e'
      obtain ⟨its,r',pl,hz⟩:=I.list hx
      have hlen:=r'.length
      exact Calls.call_len_list pl.isList (by simp only [List.size_toArray]; omega) ⟨.int xs.length,H,I.tok _,⟨_,by simp only [List.size_toArray]; rw [hlen]⟩,q⟩
    · subst e'
      obtain ⟨its,r',pl,hz⟩:=I.tuple hx
      have hlen:=r'.length
      exact len_tuple pl (by simp only [List.size_toArray]; omega) ⟨.int xs.length,H,I.tok _,⟨_,by simp only [List.size_toArray]; rw [hlen]⟩,q⟩
  | _=>exact (show False from e).elim
end
end L2
namespace L2
open PySem PySem.Spec PyProof.Rows
structure ObjM (h:Heap) (x dx C:Addr) (mA:Str → Option Value):Prop where
  obj:h.get? x = some (PySem.W.instObj C dx)
  ns:h.Ns1 dx mA
  ne:dx ≠ x
theorem jnH {h:Heap} {dx:Addr} {mA:Str → Option Value} (n:h.Ns1 dx mA):∃ od,h.get? dx = some od ∧ ∀ name,PySem.W.lookIn name od = some (mA name):=by
  obtain ⟨o,es,ep,ho,hd,hk,_,hm⟩:=n
  refine ⟨o,ho,fun name=>?_⟩
  have e:=hm name
  unfold nsFind findBy at e
  rw [← Array.find?_toList] at e
  unfold PySem.W.lookIn
  rw [hd]
  dsimp only
  split
  · rename_i y q
    rw [q] at e
    exact congrArg some e
  · rename_i q
    rw [q] at e
    have a:es.toList.any (·.refKey) = false:=by
      rw [List.any_eq_false]
      intro y hy
      obtain ⟨z,t,hkey⟩:=hk y (Array.mem_toList_iff.mp hy)
      simp [DictEntry.refKey,hkey]
    have a':¬ es.toList.any (·.refKey) = true:=by rw [a]; exact Bool.false_ne_true
    rw [if_neg a']
    exact congrArg some e
theorem ObjM.look {h:Heap} {x dx C:Addr} {mA:Str → Option Value} (I:ObjM h x dx C mA):∃ od,PySem.W.InstAt h x (PySem.W.instObj C dx) C (some od) ∧ ∀ name,PySem.W.lookIn name od = some (mA name):=
  let ⟨od,ho,hl⟩:=jnH I.ns
  ⟨od,⟨I.obj,rfl,rfl,ho⟩,hl⟩
section
variable {prog:Program} {w:World} {A:Around} {E:Value → Shared → Prop} {s:Shared} {K:PySem.W.Frag} {x dx C f:Addr} {mA:Str → Option Value} {name:Str} {v:Value}
end
theorem RelO.some_of {v:V} {o:Option Value} (r:RelO (some v) o):∃ u,o = some u ∧ RelV v u:=by
  cases o with
  | none=>exact (show False from r).elim
  | some u=>exact ⟨u,rfl,r⟩
section
variable {P:Program} {w:World} {H H':Hp} {h h':Heap} {a C dx:Addr} {fs fs':List (Str × V)}
theorem js3 (hok:HOk P w H h) (e:H a = some (.ins C dx fs)):∃ mA,ObjM h a dx C mA ∧ (∀ f,RelO (fs.lookup f) (mA f)) ∧ PySem.Within mA (fs.map (·.1)) ∧ fs.length ≤ 1000 ∧ H dx = some (.own a):=by
  obtain ⟨d,z,ne,ob,mA,n,r,q⟩:=(show ObjOk P w H h a (.ins C dx fs) from hok a _ e)
  exact ⟨mA,⟨ob,n,ne⟩,r,q,z,d⟩
end
structure Cls (K:PySem.W.Frag) (C:Addr):Prop where
  pg:PySem.W.plainGet K C Str.empty = true
  hd:PySem.W.hasDictIn K C = true
  po:PySem.W.plainOver K C = true
  sa:PySem.W.findIn K (.ref C) "__setattr__" = some (some (.builtin "object.__setattr__"))
theorem Cls.get {K:PySem.W.Frag} {C:Addr} (c:Cls K C) (f:Str):PySem.W.plainGet K C f = true:=c.pg
structure Con (K:PySem.W.Frag) (C:Addr) (f:Str) (v:V) (u:Value):Prop where
  at_:PySem.W.findIn K (.ref C) f = some (some u)
  rel:RelV v u
  get:PySem.W.specialIn K u "__get__" = some none
  cp:PySem.W.copiedNames.contains f = false
structure Meth (K:PySem.W.Frag) (C:Addr) (m:Str) (f:Addr):Prop where
  at_:PySem.W.findIn K (.ref C) m = some (some (.ref f))
  fn:PySem.W.isFn K (.ref f) = true
  kp:PySem.W.keepIn K (.ref f) = true
section
variable {X:Cx} {pins:List (Addr × Obj)} {σ:St} {H:Hp} {s:Shared} {a C dx:Addr} {fs:List (Str × V)} {f:Str} {v:V} {A:Around} {E:Value → Shared → Prop}
theorem Inv.made (I:Inv X pins σ H s):Inv X pins σ (upd (upd H s.heap.objs.size (.own (s.heap.objs.size + 1))) (s.heap.objs.size + 1) (.ins C s.heap.objs.size []))
    { s with heap:=(s.heap.push PySem.W.emptyDict).push (PySem.W.instObj C s.heap.objs.size) }:=by
  have e1:(s.heap.push PySem.W.emptyDict).get? s.heap.objs.size = some PySem.W.emptyDict:=Heap.get?_push_size s.heap rfl
  have e2:((s.heap.push PySem.W.emptyDict).push (PySem.W.instObj C s.heap.objs.size)).get? (s.heap.objs.size + 1) = some (PySem.W.instObj C s.heap.objs.size):=by
    have:=Heap.get?_push_size (s.heap.push PySem.W.emptyDict) (o:=PySem.W.instObj C s.heap.objs.size) rfl
    rwa [Heap.size_push] at this
  have e3:(s.heap.push PySem.W.emptyDict).Ns s.heap.objs.size (fun _=>none):=⟨PySem.W.emptyDict,#[],_,e1,rfl,(fun e he=>absurd he (by simp)),fun _=>rfl⟩
  have I1:=I.laid (a:=s.heap.objs.size) (o:=.own (s.heap.objs.size + 1)) (h':=s.heap.push PySem.W.emptyDict) (t':=s.toks) (fun b u q=>Heap.get?_push_of_some _ q) (Nat.le_refl _) ⟨_,e1⟩
  refine I1.laid (a:=s.heap.objs.size + 1) (o:=.ins C s.heap.objs.size []) (t':=s.toks) (fun b u q=>Heap.get?_push_of_some _ q) (Nat.le_of_eq (Heap.size_push _ _)) ?_
  have ne:s.heap.objs.size ≠ s.heap.objs.size + 1:=Nat.ne_of_lt (Nat.lt_succ_self _)
  refine ⟨by rw [ja4 ne,jaV],Nat.zero_le _,ne,e2,fun _=>none,(Heap.Ns1.of_empty e3).at fun o q=>Heap.get?_push_of_some _ q,fun _=>True.intro,fun y hy=>absurd rfl hy⟩
end
section
variable {X:Cx} {o e value:Expr} {f:Str} {pos pos' tpos:Pos} {ta tv:TE}
end
section
variable {X:Cx} {pins:List (Addr × Obj)} {σ:St} {H:Hp} {s:Shared} {A:Around} {E:Value → Shared → Prop} {Q:Value → Shared → Prop} {c:Value} {b:Bool}
inductive TyOf (K:PySem.W.Frag) (H:Hp):V → Value → Prop where
  | non:TyOf K H .non (.type "NoneType")
  | bl (x:Bool):TyOf K H (.bl x) (.type "bool")
  | int (i:Int):TyOf K H (.int i) (.type "int")
  | str (x:Str):TyOf K H (.str x) (.type "str")
  | flt (x:UInt64):TyOf K H (.flt x) (.type "float")
  | lst {a:Addr} {xs:List V} (e:H a = some (.lst xs)):TyOf K H (.ref a) (.type "list")
  | frz {a:Addr} {o:Obj} {xs:List V} (e:H a = some (.frz o (.lst xs))):TyOf K H (.ref a) (.type "list")
  | tup {a:Addr} {xs:List V} (e:H a = some (.tup xs)):TyOf K H (.ref a) (.type "tuple")
  | dK {a:Addr} {kvs:List (Key × V)} (e:H a = some (.dK kvs)):TyOf K H (.ref a) (.type "dict")
  | dT {a:Addr} {kvs:List (List Key × V)} (e:H a = some (.dT kvs)):TyOf K H (.ref a) (.type "dict")
  | ins {a C dx:Addr} {fs:List (Str × V)} (e:H a = some (.ins C dx fs)) (cl:Cls K C) (ha:PySem.W.findIn K (.ref C) "__class__" = some (some (.builtin "object.__class__")))
      (hn:PySem.W.specialIn K (.builtin "object.__class__") "__get__" = some (some (.builtin "getset_descriptor.__get__"))) (htk:PySem.W.takesIn K (.builtin "object.__class__") = some true)
      (hm:PySem.W.mroIn K C (.type "object") = some true):TyOf K H (.ref a) (.ref C)
theorem jfL {x:V} {u t:Value} (I:Inv X pins σ H s) (rx:RelV x u) (ty:TyOf X.K H x t) (e:PySem.W.kitOne X.K t c = some b) (h:∀ tk,Q (.bool b) { s with toks:=tk }) :
    wpAny (model X.prog X.w) A (call (.builtin "isinstance") [u,c]) Q E s:=by
  cases ty with
  | non=>cases (show u = Value.none from rx); exact PySem.W.kia_one PySem.W.kitx_none I.kIn True.intro e (fun z=>nomatch z) h
  | bl y=>cases (show u = Value.bool y from rx); exact PySem.W.kia_one PySem.W.kitx_bool I.kIn True.intro e (fun z=>nomatch z) h
  | int i=>obtain ⟨t,q⟩:=(show ∃ t,u = Value.int i t from rx); cases q; exact PySem.W.kia_one PySem.W.kitx_int I.kIn True.intro e (fun z=>nomatch z) h
  | str y=>obtain ⟨t,q⟩:=(show ∃ t,u = Value.str y t from rx); cases q; exact PySem.W.kia_one PySem.W.kitx_str I.kIn True.intro e (fun z=>nomatch z) h
  | flt y=>obtain ⟨t,q⟩:=(show ∃ t,u = Value.float y t from rx); cases q; exact PySem.W.kia_one PySem.W.kitx_float I.kIn True.intro e (fun z=>nomatch z) h
  | @lst a xs ea=>
    cases (show u = Value.ref a from rx)
    obtain ⟨_,_,n,_,h1⟩:=(show ObjOk X.prog X.w H s.heap a (.lst xs) from I.hok a _ ea)
    exact PySem.W.kia_one PySem.W.kitx_list I.kIn ⟨_,h1,rfl⟩ e (fun z=>nomatch z) h
  | @frz a ob xs ea=>
    cases (show u = Value.ref a from rx)
    obtain ⟨_,_,_,n,_,h1⟩:=(show ObjOk X.prog X.w H s.heap a (.frz ob (.lst xs)) from I.hok a _ ea)
    exact PySem.W.kia_one PySem.W.kitx_list I.kIn ⟨_,h1,rfl⟩ e (fun z=>nomatch z) h
  | @tup a xs ea=>
    cases (show u = Value.ref a from rx)
    obtain ⟨_,_,_,p⟩:=(show ObjOk X.prog X.w H s.heap a (.tup xs) from I.hok a _ ea)
    obtain ⟨o,h1,h2,_⟩:=p
    exact PySem.W.kia_one PySem.W.kitx_tuple I.kIn ⟨o,h1,h2⟩ e (fun z=>nomatch z) h
  | @dK a kvs ea=>
    cases (show u = Value.ref a from rx)
    obtain ⟨_,_,vs,_,p⟩:=(show ObjOk X.prog X.w H s.heap a (.dK kvs) from I.hok a _ ea)
    obtain ⟨o,es,ep,h1,h2,_⟩:=p
    exact PySem.W.kia_one PySem.W.kitx_dict I.kIn ⟨o,h1,h2.1⟩ e (fun z=>nomatch z) h
  | @dT a kvs ea=>
    cases (show u = Value.ref a from rx)
    obtain ⟨_,_,xs,_,o,es,ep,h1,h2,_⟩:=(show ObjOk X.prog X.w H s.heap a (.dT kvs) from I.hok a _ ea)
    exact PySem.W.kia_one PySem.W.kitx_dict I.kIn ⟨o,h1,h2.1⟩ e (fun z=>nomatch z) h
  | @ins a C dx fs ea cl ha hn htk hm=>
    cases (show u = Value.ref a from rx)
    obtain ⟨mA,O,_⟩:=js3 I.hok ea
    obtain ⟨od,J,_⟩:=O.look
    exact PySem.W.kia_one (PySem.W.kitx_own (cl.get _) cl.hd ha hn htk hm) I.kIn J e (fun z=>nomatch z) h
end
end L2
namespace L2
open PySem PySem.Spec PyProof.Rows
structure Room (k:Nat) (A:Around):Prop where
  hd:A.handled = none
  dp:A.depth + 3 * k + 5 < recursionLimit
  un:A.units + 16 * k + 200 < cLine
theorem Room.mono {j k:Nat} {A:Around} (r:Room k A) (h:j ≤ k):Room j A:=⟨r.hd,by have:=r.dp; omega,by have:=r.un; omega⟩
theorem Room.deeper {k:Nat} {A:Around} (r:Room (k + 1) A) (env:Env):Room k (A.deeper env):=
  ⟨r.hd,by have:=r.dp; show A.depth + 1 + 3 * k + 5 < _; omega,by have:=r.un; show A.units + 3 + 16 * k + 200 < _; omega⟩
theorem Room.in1 {k:Nat} {A:Around} (r:Room (k + 1) A):Room k A.in1:=
  ⟨r.hd,by have:=r.dp; show A.depth + 3 * k + 5 < _; omega,by have:=r.un; show A.units + 1 + 16 * k + 200 < _; omega⟩
theorem Room.depth {k:Nat} {A:Around} (r:Room k A):A.depth < recursionLimit:=by have:=r.dp; omega
theorem Room.units {k:Nat} {A:Around} (r:Room k A):A.units + 64 < cLine:=by have:=r.un; omega
def jAh:TA:=fun _ H Q=>Q [] H
def jxx (ta:TE) (tr:TA):TA:=fun σ H Q=>ta σ H fun x H1=>tr σ H1 fun xs H2=>Q (x :: xs) H2
section
variable {X:Cx} {e:Expr} {es:List Expr} {te:TE} {t:TA} {pos:Pos}
theorem jfD:PA X [] jAh:=fun _ _ _ _ H Q I h=>Calls.spliced_nil ⟨[],H,I,.nil,h⟩
theorem jdh (ha:PE X e te) (hr:PA X es t) (hs:starEach (e :: es) X.env = (false,eval e X.env) :: starEach es X.env:=by rfl):PA X (e :: es) (jxx te t):=by
  intro pos pins s σ H Q I h
  rw [hs]
  show wpAny _ _ (spliced ((false,eval e X.env) :: backTo pos (starEach es X.env))) _ _ s
  refine Calls.spliced_cons (thn (ha pins s σ H _ I h) fun u s1 ⟨x,H1,I1,r1,q1⟩=>?_)
  exact thn (hr pos pins s1 σ H1 _ I1 q1) fun us s2 ⟨xs,H2,I2,r2,q2⟩=>⟨x :: xs,H2,I2,.cons r1 r2,q2⟩
def jAd (t:TA):TE:=fun σ H Q=>t σ H fun xs H1=>xs.length ≤ sizeLine ∧ ∀ p,H1 p = none → Q (.ref p) (upd H1 p (.tup xs))
def jAi (t:TA):TE:=fun σ H Q=>t σ H fun xs H1=>xs.length ≤ sizeLine ∧ ∀ p,H1 p = none → Q (.ref p) (upd H1 p (.lst xs))
theorem juJ {x1} (h:PA X es t):PE X (.Tuple es x1 pos) (jAd t):=by
  intro pins s σ H Q I hq
  refine wpAny_Tuple_spliced (thn (h pos pins s σ H _ I hq) fun us s1 ⟨xs,H1,I1,r,z,q⟩=>⟨by rw [← r.length]; exact z,?_⟩)
  have hf:H1 s1.heap.objs.size = none:=I1.hok.fresh (Nat.le_refl _)
  refine ⟨.ref s1.heap.objs.size,upd H1 s1.heap.objs.size (.tup xs),I1.laid (t':=s1.toks) (fun b u e=>Heap.get?_push_of_some _ e) (Nat.le_refl _) ?_,rfl,q _ hf⟩
  exact ⟨z,us,r,⟨_,Heap.get?_push_size _ rfl,rfl,_,rfl⟩⟩
theorem jq6 (h:PA X es t):PE X (.List es pos) (jAi t):=by
  intro pins s σ H Q I hq
  refine wpAny_List_spliced (thn (h pos pins s σ H _ I hq) fun us s1 ⟨xs,H1,I1,r,z,q⟩=>⟨by rw [← r.length]; exact z,?_⟩)
  have hf:H1 s1.heap.objs.size = none:=I1.hok.fresh (Nat.le_refl _)
  refine ⟨.ref s1.heap.objs.size,upd H1 s1.heap.objs.size (.lst xs),I1.laid (t':=s1.toks) (fun b u e=>Heap.get?_push_of_some _ e) (Nat.le_refl _) ?_,rfl,q _ hf⟩
  exact ⟨z,us,0,r,Heap.get?_push_size _ rfl⟩
end
abbrev Sp:=List V → Hp → VK → XK → Prop
abbrev CXT:=List Env → Hp → Shared → XK → Value → Shared → Prop
structure Env0 (P:Program) (w:World) (K:PySem.W.Frag) (mg:Str → Option Value) (base:Heap) (A:Around) (outer:List Env) (s:Shared) (H:Hp):Prop where
  frames:A.frames = some outer
  mod:Mod K mg base
  bs:∀ b o,base.get? b = some o → s.heap.get? b = some o ∧ H b = none
  bsz:base.objs.size ≤ s.heap.objs.size
  funs:s.heap.FunFrames base outer
  frf:∀ b ∈ frs outer,H b = none
  hok:HOk P w H s.heap
  bare:AllBare s.gens
def CE (outer:List Env) (P:Program) (w:World) (H:Hp) (s:Shared) (Q:VK) (u:Value) (s':Shared):Prop:=
  ∃ v H',s'.os = s.os ∧ AllBare s'.gens ∧ Un (frs outer) [] H H' s.heap s'.heap ∧ HOk P w H' s'.heap ∧ RelV v u ∧ Q v H'
def CR (CX:CXT) (outer:List Env) (P:Program) (w:World) (H:Hp) (s:Shared) (Q:VK) (E:XK) (r:Result) (s':Shared):Prop:=
  match r with
  | .ok (.ret u)=>CE outer P w H s Q u s'
  | .ok _=>False
  | .error e=>CX outer H s E e s'
structure FnOk (P:Program) (w:World) (K:PySem.W.Frag) (mg:Str → Option Value) (base:Heap) (CX:CXT) (k:Nat) (f:Addr) (fd:FuncData) (ps:List Str) (sp:Sp):Prop where
  len:∀ vs H Q E,sp vs H Q E → vs.length = ps.length
  run:∀ (A:Around) (outer:List Env) (s:Shared) (H:Hp) (args:Args) (us:List Value) (vs:List V) (Q:VK) (E:XK),Room k A → Env0 P w K mg base A outer s H → BindsTo s fd args (ps.zip us) → Vals vs us → sp vs H Q E →
    codeAny (model P w) A (.call (.ref f) args) (CR CX outer P w H s Q E) s
theorem FnOk.mono {P:Program} {w:World} {K:PySem.W.Frag} {mg:Str → Option Value} {base:Heap} {CX:CXT} {j k:Nat} {f:Addr} {fd:FuncData} {ps:List Str} {sp:Sp} (F:FnOk P w K mg base CX j f fd ps sp) (h:j ≤ k) :
    FnOk P w K mg base CX k f fd ps sp:=⟨F.len,fun A outer s H args us vs Q E hr=>F.run A outer s H args us vs Q E (hr.mono h)⟩
theorem FnOk.imp {P:Program} {w:World} {K:PySem.W.Frag} {mg:Str → Option Value} {base:Heap} {CX:CXT} {k:Nat} {f:Addr} {fd:FuncData} {ps:List Str} {sp sp':Sp} (F:FnOk P w K mg base CX k f fd ps sp)
    (h:∀ vs H Q E,sp' vs H Q E → sp vs H Q E):FnOk P w K mg base CX k f fd ps sp':=
  ⟨fun vs H Q E q=>F.len vs H Q E (h _ _ _ _ q),fun A outer s H args us vs Q E hr he hb hv hs=>F.run A outer s H args us vs Q E hr he hb hv (h _ _ _ _ hs)⟩
theorem Env0.in1 {P:Program} {w:World} {K:PySem.W.Frag} {mg:Str → Option Value} {base:Heap} {A:Around} {outer:List Env} {s:Shared} {H:Hp} (e:Env0 P w K mg base A outer s H) :
    Env0 P w K mg base A.in1 outer s H:=⟨e.frames,e.mod,e.bs,e.bsz,e.funs,e.frf,e.hok,e.bare⟩
section
variable {X:Cx} {pins:List (Addr × Obj)} {σ:St} {H:Hp} {s s':Shared}
theorem Inv.env0 (I:Inv X pins σ H s):Env0 X.prog X.w X.K X.mg X.base X.A X.stack s H:=
  ⟨I.ok.frames,I.ok.mod,I.bs,Nat.le_trans I.ok.bsz I.sz,I.stack,I.stkFree,I.hok,I.bare⟩
theorem Inv.after {Q:VK} {u:Value} (I:Inv X pins σ H s) (h:CE X.stack X.prog X.w H s Q u s'):EP X pins σ Q u s':=by
  obtain ⟨v,H',os,bare,un,hok,r,q⟩:=h
  obtain ⟨hh,g,d,t,os'⟩:=s'
  obtain rfl:os' = s.os:=os
  exact ⟨v,H',I.call (h':=hh) (g':=g) (d':=d) (t':=t) (ch:=[]) un hok bare (fun b z=>absurd z (by simp)),r,q⟩
end
def jxy (sp:Sp) (dvs:List V) (E:XK) (t:TA):TE:=fun σ H Q=>t σ H fun vs H1=>sp (vs ++ dvs) H1 Q E
def Binds (K:PySem.W.Frag) (fd:FuncData) (ps:List Str) (ds:List Value):Prop:=
  ∀ (s:Shared) (us:List Value),K.In s.heap → (us ++ ds).length = ps.length → BindsTo s fd ⟨us,[]⟩ (ps.zip (us ++ ds))
theorem Binds.all {K:PySem.W.Frag} {fd:FuncData} {ps:List Str} (h:∀ us:List Value,us.length = ps.length → bindArgs fd ⟨us,[]⟩ = pure (ps.zip us)):Binds K fd ps []:=fun s us _ hl=>by
  rw [List.append_nil] at hl ⊢
  exact .of_eq (h us hl)
def jlO (CX:CXT) (X:Cx) (E:XK):Prop:=∀ (pins:List (Addr × Obj)) (σ:St) (H:Hp) (s:Shared) (e:Value) (s':Shared),Inv X pins σ H s → CX X.stack H s E e s' → X.xe e s'
section
variable {X:Cx} {CX:CXT} {k:Nat} {f C:Addr} {fd:FuncData} {ps:List Str} {sp:Sp} {dvs:List V} {ds:List Value} {E:XK} {x m:Str} {p pos apos:Pos} {e o:Expr} {es:List Expr} {ta:TE} {t:TA}
theorem juo {pins:List (Addr × Obj)} {σ:St} {H:Hp} {s:Shared} {Q:VK} {us:List Value} {vs:List V} (F:FnOk X.prog X.w X.K X.mg X.base CX k f fd ps sp) (hr:Room k X.A) (hb:Binds X.K fd ps ds) (hd:Vals dvs ds) (hx:jlO CX X E)
    (I:Inv X pins σ H s) (r:Vals vs us) (h:sp (vs ++ dvs) H Q E):wpAny (model X.prog X.w) X.A (call (.ref f) us) (EP X pins σ Q) X.xe s:=by
  have r2:Vals (vs ++ dvs) (us ++ ds):=r.append hd
  have hl:(us ++ ds).length = ps.length:=by rw [← r2.length]; exact F.len _ _ _ _ h
  refine wpAny_call (codeAny_mono (F.run X.A X.stack s H ⟨us,[]⟩ (us ++ ds) (vs ++ dvs) Q E hr I.env0 (hb s us I.kIn hl) r2 h) fun r s' hq=>?_)
  cases r with
  | error e=>exact hx pins σ H s e s' I hq
  | ok fl=>
    cases fl with
    | ret u=>exact I.after hq
    | next=>exact False.elim hq
    | brk=>exact False.elim hq
    | cont=>exact False.elim hq
theorem jso (F:FnOk X.prog X.w X.K X.mg X.base CX k f fd ps sp) (hr:Room k X.A) (hg:Gl X x) (hm:X.mg x = some (.ref f)) (hk:PySem.W.keepIn X.K (.ref f) = true) (hb:Binds X.K fd ps ds) (hd:Vals dvs ds) (hx:jlO CX X E)
    (ha:PA X (e :: es) t) (hdb:(x == ("__debug__":Str)) = false:=by decide) (he:starEach (e :: es) X.env = (false,eval e X.env) :: starEach es X.env:=by rfl) (hpl:(backTo pos (starEach es X.env)).any (·.1) = false:=by rfl) :
    PE X (.Call (.Name x p) (e :: es) [] pos) (jxy sp dvs E t):=by
  intro pins s σ H Q I h
  refine wpAny_Call_Name_kw (jhp I hg hm ?_ hdb)
  refine PySem.W.callWith_K (h₀:=X.base) I.ok.mod.kin hk (thn (ha pos pins s σ H _ I h) fun us s1 ⟨vs,H1,I1,r,q⟩=>⟨I1.kIn,?_⟩) he hpl
  exact juo F hr hb hd hx I1 r q
structure Mk (K:PySem.W.Frag) (C f:Addr):Prop where
  makes:PySem.W.makesIn K C = true
  init:PySem.W.findIn K (.ref C) "__init__" = some (some (.ref f))
  fn:PySem.W.isFn K (.ref f) = true
  kp:PySem.W.keepIn K (.ref C) = true
end
section
variable {X:Cx} {CX:CXT} {k:Nat} {f C:Addr} {fd:FuncData} {ps ks:List Str} {sp:Sp} {E:XK} {x m:Str} {p pos apos kpos:Pos} {e o:Expr} {es:List Expr} {kws:List Keyword} {te ta:TE} {t tk:TA} {nm:Option Str}
structure KBinds (K:PySem.W.Frag) (fd:FuncData) (ps ks:List Str) (g:List Value → List Value → List Value) (gV:List V → List V → List V):Prop where
  to:∀ (s:Shared) (us ws:List Value),K.In s.heap → (g us ws).length = ps.length → BindsTo s fd ⟨us,ks.zip ws⟩ (ps.zip (g us ws))
  rel:∀ {vs:List V} {us:List Value} {zs:List V} {ws:List Value},Vals vs us → Vals zs ws → Vals (gV vs zs) (g us ws)
variable {g:List Value → List Value → List Value} {gV:List V → List V → List V}
end
structure FnScope (N P:List Str) (sc:Scope):Prop where
  kind:sc.kind = .function
  co:sc.isCoroutine = false
  gen:sc.isGenerator = false
  nd:N.Nodup
  pre:N.take P.length = P
  par:∀ x ∈ P,sc.names.lookup x = some .local ∨ sc.names.lookup x = some .cell
  nofree:∀ y ∈ sc.names,y.2 ≠ .free
theorem jj2 {kindOf:Str → Option NameKind} {x:Str}:∀ {binds:List (Str × Value)} {m:Str → Option Value},(∀ v,(x,v) ∉ binds) → bindL kindOf binds m x = m x
  | [],_,_=>rfl
  | (n,v) :: r,m,h=>by
    unfold bindL
    rw [jj2 fun w hw=>h w (List.mem_cons_of_mem _ hw)]
    split
    · have:x ≠ n:=by rintro rfl; exact h v List.mem_cons_self
      simp [this]
    · rfl
theorem jj4 {kindOf:Str → Option NameKind} {x:Str}:∀ {binds:List (Str × Value)} {m:Str → Option Value},(∀ v,(x,v) ∉ binds) → bindC kindOf binds m x = m x
  | [],_,_=>rfl
  | (n,v) :: r,m,h=>by
    unfold bindC
    rw [jj4 fun w hw=>h w (List.mem_cons_of_mem _ hw)]
    split
    · rfl
    · have:x ≠ n:=by rintro rfl; exact h v List.mem_cons_self
      simp [this]
theorem jj3 {kindOf:Str → Option NameKind} {x:Str} {v:Value}:∀ {P:List Str} {vs:List Value} {i:Nat} {m:Str → Option Value},P.Nodup → P[i]? = some x → vs[i]? = some v → kindOf x = some .local →
    bindL kindOf (P.zip vs) m x = some v
  | [],_,_,_,_,h,_,_=>by simp at h
  | _ :: _,[],_,_,_,_,h,_=>by simp at h
  | p :: P,w :: vs,0,m,nd,h1,h2,hk=>by
    simp at h1 h2; subst h1; subst h2
    show bindL kindOf ((p,w) :: P.zip vs) m p = _
    unfold bindL
    rw [jj2 fun v hv=>(List.nodup_cons.mp nd).1 (List.of_mem_zip hv).1,if_pos hk]
    simp
  | p :: P,w :: vs,i + 1,m,nd,h1,h2,hk=>by
    show bindL kindOf ((p,w) :: P.zip vs) m x = _
    unfold bindL
    exact jj3 (i:=i) (List.nodup_cons.mp nd).2 (by simpa using h1) (by simpa using h2) hk
theorem jj5 {kindOf:Str → Option NameKind} {x:Str} {v:Value}:∀ {P:List Str} {vs:List Value} {i:Nat} {m:Str → Option Value},P.Nodup → P[i]? = some x → vs[i]? = some v → kindOf x ≠ some .local →
    bindC kindOf (P.zip vs) m x = some v
  | [],_,_,_,_,h,_,_=>by simp at h
  | _ :: _,[],_,_,_,_,h,_=>by simp at h
  | p :: P,w :: vs,0,m,nd,h1,h2,hk=>by
    simp at h1 h2; subst h1; subst h2
    show bindC kindOf ((p,w) :: P.zip vs) m p = _
    unfold bindC
    rw [jj4 fun v hv=>(List.nodup_cons.mp nd).1 (List.of_mem_zip hv).1,if_neg hk]
    simp
  | p :: P,w :: vs,i + 1,m,nd,h1,h2,hk=>by
    show bindC kindOf ((p,w) :: P.zip vs) m x = _
    unfold bindC
    exact jj5 (i:=i) (List.nodup_cons.mp nd).2 (by simpa using h1) (by simpa using h2) hk
def start (N:List Str) (vs:List V):St:=vs.map some ++ List.replicate (N.length - vs.length) none
def jhX (CX:CXT) (P:Program) (w:World) (K:PySem.W.Frag) (mg:Str → Option Value) (base:Heap) (N:List Str) (qual:Str) (scope:Scope) (f:Addr) (cd:Value) (A:Around) (outer:List Env) (s:Shared) (H:Hp) (E:XK):Cx where
  prog:=P
  w:=w
  K:=K
  mg:=mg
  base:=base
  A:=A.deeper (envOfC qual scope s.heap.objs.size f cd)
  N:=N
  s₀:=s
  H₀:=H
  env:=envOfC qual scope s.heap.objs.size f cd
  outer:=outer
  stack:=envOfC qual scope s.heap.objs.size f cd :: outer
  ex:=[]
  calm:=true
  fn:=fun _=>true
  pn:=[]
  xe:=fun e s'=>wpAny (model P w) (A.deeper (envOfC qual scope s.heap.objs.size f cd)) (leaving (envOfC qual scope s.heap.objs.size f cd) e) (fun _ s''=>CX outer H s E e s'') (fun e' s''=>CX outer H s E e' s'') s'
theorem jlK {sc:Scope} {n:Nat} {x:Str} (h:sc.names.lookup x = some .cell):∃ c,(cellsFrom n sc.names []).lookup x = some c:=by
  have q:=PySem.W.cellsFrom_some sc.names n [] (.inl h)
  exact Option.isSome_iff_exists.mp q
theorem jnS {CX:CXT} {P:Program} {w:World} {K:PySem.W.Frag} {mg:Str → Option Value} {base:Heap} {N ps:List Str} {qual:Str} {scope:Scope} {f:Addr} {cd:Value} {A:Around} {outer:List Env} {s s1:Shared} {H:Hp} {E:XK} {us:List Value} {vs:List V}
    (S:FnScope N ps scope) (hd:A.handled = none) (e0:Env0 P w K mg base A outer s H) (hl:vs.length = ps.length) (r:Vals vs us)
    (x:InCallC s s.heap.objs.size (bindL (envOfC qual scope s.heap.objs.size f cd).kindOf (ps.zip us) fun _=>none) (cellsFrom (s.heap.objs.size + 1) scope.names []) (bindC (envOfC qual scope s.heap.objs.size f cd).kindOf (ps.zip us) fun _=>none) s1) :
    Inv (jhX CX P w K mg base N qual scope f cd A outer s H E) [] (start N vs) H s1:=by
  have hpl:ps.length ≤ N.length:=by have:=congrArg List.length S.pre; rw [List.length_take] at this; omega
  obtain ⟨h1,tk,rfl,hk⟩:=x.done
  have noA:∀ b:Addr,b ∉ (jhX CX P w K mg base N qual scope f cd A outer s H E).ex:=fun b z=>absurd (show b ∈ ([]:List Addr) from z) (by simp)
  refine ⟨⟨e0.mod,S.kind,rfl,rfl,Nat.le_refl _,fun y z c h1 h2=>?_,fun y hy=>?_,fun y c _ h=>?_,fun _=>hd,Around.frames_deeper e0.frames,.inr ⟨rfl,rfl⟩,fun b z=>absurd z (noA b),e0.bs,e0.bsz,fun b _ _=>noA b,fun b z=>absurd z (noA b),e0.funs,e0.frf⟩,
    rfl,e0.bare,Un.kept hk,⟨_,x.toInCall.ns,fun i y v h1 h2 h3=>?_⟩,fun y c h=>⟨_,x.cell y c h⟩,e0.hok.fresh (Nat.le_refl _),fun y c h=>?_,fun p hp=>absurd (show p ∈ ([]:List (Addr × Obj)) from hp) (by simp),e0.hok.kept hk,?_⟩
  · exact name_of_addr x.apart (PySem.mem_of_lookup h1) (PySem.mem_of_lookup h2)
  · have hy:scope.names.lookup y = some .cell ∨ scope.names.lookup y = some .free:=hy
    rcases hy with hy | hy
    · exact jlK hy
    · exact absurd rfl (S.nofree _ (PySem.mem_of_lookup hy))
  · exact Nat.le_of_lt (x.above y c (PySem.mem_of_lookup h))
  · have hi:i < vs.length:=by
      unfold start at h2
      by_cases hi:i < vs.length
      · exact hi
      · rw [List.getElem?_append_right (by simpa using hi)] at h2
        rw [List.getElem?_replicate] at h2
        split at h2 <;> cases h2
    have ha:vs[i]? = some v:=by
      unfold start at h2
      rw [List.getElem?_append_left (by simpa using hi),List.getElem?_map] at h2
      cases e:vs[i]? with
      | none=>rw [e] at h2; cases h2
      | some a=>rw [e] at h2; cases h2; rfl
    obtain ⟨u,hu,rv⟩:=r.get ha
    have hp:ps[i]? = some y:=by
      rw [← S.pre,List.getElem?_take_of_lt (by omega)]; exact h1
    have ndP:ps.Nodup:=by rw [← S.pre]; exact S.nd.sublist (List.take_sublist _ _)
    refine ⟨u,rv,?_⟩
    rcases S.par y (List.mem_of_getElem? hp) with k | k
    · exact .inl ⟨k,jj3 ndP hp hu k⟩
    · obtain ⟨c,e⟩:=jlK (n:=s.heap.objs.size + 1) k
      refine .inr ⟨.inl k,c,e,?_⟩
      have q:=x.cell y c e
      rw [jj5 ndP hp hu (by show scope.names.lookup y ≠ _; rw [k]; decide)] at q
      exact q
  · exact e0.hok.fresh (Nat.le_of_lt (x.above y c (PySem.mem_of_lookup h)))
  · unfold start
    show _ = N.length
    rw [List.length_append,List.length_map,List.length_replicate]
    omega
theorem jta {CX:CXT} {P:Program} {w:World} {K:PySem.W.Frag} {mg:Str → Option Value} {base:Heap} {k:Nat} {f:Addr} {name qual:Str} {params:Arguments} {body:List Stmt} {scope:Scope} {dV kV doc pm cdv ct oc:Value} {an od:Option Addr}
    {osl:Array (Option Value)} {N ps:List Str} {sp:Sp} (lk:K.lookup f = some ⟨oc,od,.func (PySem.W.fnOf name qual params body scope dV kV doc pm an cdv ct),osl⟩) (hcd:PySem.W.codeIn K cdv qual = true) (S:FnScope N ps scope)
    (len:∀ vs H Q E,sp vs H Q E → vs.length = ps.length)
    (hbody:∀ (A:Around) (outer:List Env) (s:Shared) (H:Hp) (vs:List V) (Q:VK) (E:XK),Room k (A.deeper (envOfC qual scope s.heap.objs.size f cdv)) → sp vs H Q E →
      ∃ t,PSs (jhX CX P w K mg base N qual scope f cdv A outer s H E) body t ∧ t { nx:=fun _ H'=>Q .non H',rt:=Q } (start N vs) H) :
    FnOk P w K mg base CX (k + 1) f (PySem.W.fnOf name qual params body scope dV kV doc pm an cdv ct) ps sp:=by
  refine ⟨len,fun A outer s H args us vs Q E hr e0 hb r hsp=>?_⟩
  have hl:=len _ _ _ _ hsp
  have KX:K.In s.heap:=e0.mod.kin.keeps fun b o e=>(e0.bs b o e).1
  have lim:s.heap.NoLimit:=e0.mod.nolimit.keeps fun b o e=>(e0.bs b o e).1
  have hkind:∀ y ∈ ps.zip us,scope.names.lookup y.1 = some .local ∨ (scope.names.lookup y.1 = some .cell ∧ ((cellsFrom (s.heap.objs.size + 1) scope.names []).lookup y.1).isSome = true):=fun ⟨n,v⟩ hy=>by
    rcases S.par n (List.of_mem_zip hy).1 with q | q
    · exact .inl q
    · exact .inr ⟨q,PySem.W.cellsFrom_some _ _ _ (.inl q)⟩
  refine codeAny_call_function hr.depth (KX _ _ lk) rfl S.co S.gen rfl (PySem.W.codeRec_of KX hcd) (hb _ _ _ _ ?_)
  refine wpAny_newFunctionEnv_cells S.kind hkind fun env he s1 x=>?_
  subst he
  refine ⟨lim.keeps x.toInCall.keep,codeAny_func ?_⟩
  obtain ⟨t,ht,hq⟩:=hbody A outer s H vs Q E (hr.deeper _) hsp
  have I:Inv (jhX CX P w K mg base N qual scope f cdv A outer s H E) [] (start N vs) H s1:=jnS S hr.hd e0 hl r x
  refine wpAny_mono (ht [] s1 (start N vs) H _ I hq) (fun fl s' hs=>?_) fun e s' hs=>hs
  have fin:∀ {σ':St} {H':Hp} {v:V} {u:Value},Inv (jhX CX P w K mg base N qual scope f cdv A outer s H E) [] σ' H' s' → RelV v u → Q v H' → CE outer P w H s Q u s':=
    fun {σ' H' v u} J rv q=>⟨v,H',J.os,J.bare,J.base,J.hok,rv,q⟩
  cases fl with
  | ret u=>
    obtain ⟨v,σ',H',J,rv,q⟩:=hs
    exact fin J rv q
  | next=>
    obtain ⟨σ',H',J,q⟩:=hs
    exact fin (v:=V.non) (u:=Value.none) J rfl q
  | brk=>
    obtain ⟨_,_,_,q⟩:=hs
    exact False.elim q
  | cont=>
    obtain ⟨_,_,_,q⟩:=hs
    exact False.elim q
end L2
namespace L2
open PySem PySem.Spec PyProof.Rows
section
variable {X:Cx} {x:Str} {p pos:Pos} {e:Expr} {es:List Expr} {t:TA} {id T:String} {r:List V → Hp → VK → Prop}
def tCB (r:List V → Hp → VK → Prop) (t:TA):TE:=fun σ H Q=>t σ H fun vs H1=>r vs H1 Q
theorem jfC (hc:CallR X (.builtin id) r) (hg:Gl X x) (hm:X.mg x = none) (hv:bootBuiltins x = some (.builtin id)) (ha:PA X (e :: es) t) (hn:x ≠ "__name__":=by decide) (hdb:(x == ("__debug__":Str)) = false:=by decide)
    (he:starEach (e :: es) X.env = (false,eval e X.env) :: starEach es X.env:=by rfl) (hpl:(backTo pos (starEach es X.env)).any (·.1) = false:=by rfl):PE X (.Call (.Name x p) (e :: es) [] pos) (tCB r t):=by
  intro pins s σ H Q I h
  refine wpAny_Call_Name_kw (jlu I hg hm hv ?_ hn hdb)
  exact PyProof.Rows.callWith_builtin1 (thn (ha pos pins s σ H _ I h) fun us s1 ⟨vs,H1,I1,r1,q1⟩=>hc pins s1 σ H1 vs us Q I1 r1 q1) he hpl
theorem jjD (hc:CallR X (.type T) r) (hg:Gl X x) (hm:X.mg x = none) (hv:bootBuiltins x = some (.type T)) (ha:PA X (e :: es) t) (hn:x ≠ "__name__":=by decide) (hdb:(x == ("__debug__":Str)) = false:=by decide)
    (he:starEach (e :: es) X.env = (false,eval e X.env) :: starEach es X.env:=by rfl) (hpl:(backTo pos (starEach es X.env)).any (·.1) = false:=by rfl):PE X (.Call (.Name x p) (e :: es) [] pos) (tCB r t):=by
  intro pins s σ H Q I h
  refine wpAny_Call_Name_kw (jlu I hg hm hv ?_ hn hdb)
  exact PyProof.Rows.callWith_type1 (thn (ha pos pins s σ H _ I h) fun us s1 ⟨vs,H1,I1,r1,q1⟩=>hc pins s1 σ H1 vs us Q I1 r1 q1) he hpl
end
end L2
namespace HT
open PySem PyProof.Rows
section
open PySem.SeqAt
open PySem.AutoSeq1 (wpAny_loadPart')
open PySem.MeetsSeq PySem.MeetsSeq2 PySem.MeetsSeq3
end
section
variable {prog:Program} {w:World} {A:Around} {E:Value → Shared → Prop} {s:Shared}
theorem jtm {t b:Addr} {vs ws:List Value} {Q:Value → Shared → Prop} (ht:IsTup s.heap t vs.toArray) (hb:IsTup s.heap b ws.toArray) (hv:vs ≠ [])
    (h1:ws = [] → Q (.ref t) s) (h2:ws ≠ [] → Q (.ref s.heap.objs.size) { s with heap:=s.heap.push { cls:=.type "tuple",data:=.seq (vs ++ ws).toArray } })
    (hsz:vs.length + ws.length ≤ sizeLine):wpAny (model prog w) A (binaryOp .Add (.ref t) (.ref b)) Q E s:=by
  obtain ⟨⟨cls,dd,data,sl⟩,ho,hc,n,hd⟩:=id ht
  obtain ⟨⟨cls2,dd2,data2,sl2⟩,ho2,hc2,n2,hd2⟩:=id hb
  simp only at hc hd hc2 hd2
  subst hc hd hc2 hd2
  have e:vs.toArray ++ ws.toArray = (vs ++ ws).toArray:=by simp
  by_cases hw:ws = []
  · exact concat_meets ⟨_,ho,rfl⟩ ⟨_,ho2,rfl⟩ noFill_tuple_add seq_tuple_add PySem.F.slot_tuple_add PySem.F.entry_tuple_add (PySem.F.args_tuple_add_2 _ _)
      (tuple_addW1 t b vs.toArray ws.toArray n n2 dd dd2 sl sl2 (by simpa using hv) (by simp [hw])) ⟨ho,ho2,h1 hw⟩
  · refine concat_meets ⟨_,ho,rfl⟩ ⟨_,ho2,rfl⟩ noFill_tuple_add seq_tuple_add PySem.F.slot_tuple_add PySem.F.entry_tuple_add (PySem.F.args_tuple_add_2 _ _)
      (tuple_addW2 t b vs.toArray ws.toArray n n2 dd dd2 sl sl2 (by simpa using hv) (by simpa using hw) (by rw [List.size_toArray,List.size_toArray]; exact hsz)) ⟨ho,ho2,?_⟩
    rw [e]
    exact h2 hw
def sIx (n d:Nat):Option Int → Nat
  | none=>d
  | some v=>if v < 0 then (v + (n:Int)).toNat else min v.toNat n
theorem jun (n d:Nat) (hd:d ≤ n) (o:Option Int):sIx n d o ≤ n:=by
  cases o with
  | none=>exact hd
  | some v=>
    show (if v < 0 then (v + (n:Int)).toNat else min v.toNat n) ≤ n
    by_cases hv:v < 0
    · rw [if_pos hv]; omega
    · rw [if_neg hv]; exact Nat.min_le_right _ _
theorem joi (v:Int) (n d:Nat):(if v < 0 then max (v + (n:Int)) 0 else min v (n:Int)) = ((sIx n d (some v):Nat):Int):=by
  show (if v < 0 then max (v + (n:Int)) 0 else min v (n:Int)) = (((if v < 0 then (v + (n:Int)).toNat else min v.toNat n):Nat):Int)
  by_cases hv:v < 0
  · simp only [if_pos hv]; omega
  · simp only [if_neg hv]; omega
theorem jmy (lo hi:Option Int) (n:Nat):Builtin.Slice.sliceAdjust lo hi 1 (n:Int) = (((sIx n 0 lo:Nat):Int),((sIx n n hi:Nat):Int)):=by
  have h1:¬ ((1:Int) < 0):=by omega
  unfold Builtin.Slice.sliceAdjust
  simp only [h1,if_false]
  refine Prod.ext ?_ ?_
  · cases lo with
    | none=>rfl
    | some v=>exact joi v n 0
  · cases hi with
    | none=>rfl
    | some v=>exact joi v n n
theorem jl4 (i j:Nat):Builtin.Slice.slicePlaces (i:Int) (j:Int) 1 = j - i:=by
  unfold Builtin.Slice.slicePlaces
  have h1:(1:Int) > 0:=by omega
  simp only [h1,if_true,Int.ediv_one]
  split <;> omega
theorem jh6 {v:Value} {o:Option Int} {Q:Option Int → Shared → Prop} (p:IsPart v o) (h:Q o s):wpAny (model prog w) A (Builtin.Slice.slicePartIndex v) Q E s:=by
  cases p with
  | none=>exact slicePart_none h
  | int i t=>exact slicePart_int h
theorem jey {sl:Addr} {vl vu:Value} {lo hi:Option Int} {n:Nat} {Q:Int × Int × Nat → Shared → Prop} (hs:s.heap.IsSliceOf sl vl vu .none) (pl:IsPart vl lo) (pu:IsPart vu hi)
    (h:Q (((sIx n 0 lo:Nat):Int),1,sIx n n hi - sIx n 0 lo) s):wpAny (model prog w) A (Builtin.Slice.sliceApplied (.ref sl) (pure (n:Int))) Q E s:=by
  obtain ⟨os,hos,hcs,hds⟩:=id hs
  unfold Builtin.Slice.sliceApplied Builtin.Slice.sliceFields
  refine wpAny_bind (wpAny_bind (wpAny_field hos hds (x:=vl) rfl (wpAny_bind (wpAny_field hos hds (x:=vu) rfl (wpAny_bind (wpAny_field hos hds (x:=.none) rfl (wpAny_pure ?_)))))))
  refine wpAny_bind (slicePart_none ?_)
  show wpAny _ _ (if ((1:Int) == 0) = true then _ else _) _ _ s
  rw [if_neg (by decide)]
  refine wpAny_bind (jh6 pl (wpAny_bind (jh6 pu (wpAny_bind (wpAny_pure ?_)))))
  show wpAny _ _ (match Builtin.Slice.sliceAdjust lo hi 1 (n:Int) with | (lo,hi)=>pure (lo,(1:Int),Builtin.Slice.slicePlaces lo hi 1)) _ _ s
  rw [jmy lo hi n]
  show wpAny _ _ (pure (((sIx n 0 lo:Nat):Int),(1:Int),Builtin.Slice.slicePlaces ((sIx n 0 lo:Nat):Int) ((sIx n n hi:Nat):Int) 1)) _ _ s
  rw [jl4]
  exact wpAny_pure h
theorem jpp (xs:Array Value) (i k:Nat):((List.range k).filterMap fun (m:Nat)=>xs[((i:Int) + (m:Int) * 1).toNat]?).toArray = ((xs.toList.drop i).take k).toArray:=by
  have e:(fun (m:Nat)=>xs[((i:Int) + (m:Int) * 1).toNat]?) = fun m=>xs[i + m]?:=by
    funext m
    have:((i:Int) + (m:Int) * 1).toNat = i + m:=by omega
    rw [this]
  rw [e]
  have:=pick_run xs i k
  rw [List.filterMap_map] at this
  have e2:((fun x=>xs[x]?) ∘ fun x=>i + x) = fun m=>xs[i + m]?:=rfl
  rw [e2] at this
  rw [this]
theorem jf5 {t sl:Addr} {items:Array Value} {vl vu:Value} {lo hi:Option Int} {Q:Value → Shared → Prop} (ht:IsTup s.heap t items) (hs:s.heap.IsSliceOf sl vl vu .none) (pl:IsPart vl lo) (pu:IsPart vu hi)
    (hw:¬ (sIx items.size 0 lo = 0 ∧ sIx items.size items.size hi = items.size))
    (h:Q (.ref s.heap.objs.size) { s with heap:=s.heap.push { cls:=.type "tuple",data:=.seq ((items.toList.drop (sIx items.size 0 lo)).take (sIx items.size items.size hi - sIx items.size 0 lo)).toArray } })
    (hsz:items.size ≤ sizeLine):wpAny (model prog w) A (getItem (.ref t) (.ref sl)) Q E s:=by
  have htake:sizeOk (.seq ((items.toList.drop (sIx items.size 0 lo)).take (sIx items.size items.size hi - sIx items.size 0 lo)).toArray):=by
    show ((items.toList.drop (sIx items.size 0 lo)).take (sIx items.size items.size hi - sIx items.size 0 lo)).toArray.size ≤ sizeLine
    rw [List.size_toArray,List.length_take,List.length_drop,Array.length_toList]
    omega
  have hj:sIx items.size items.size hi ≤ items.size:=jun _ _ (Nat.le_refl _) hi
  obtain ⟨os,hos,hcs,hds⟩:=id hs
  have hTs:s.TypeIs (.ref sl) "slice":=⟨os,hos,hcs⟩
  unfold getItem
  try with_reducible refine wpAny_holding ?_
  first | refine wpAny_bind (wpAny_pure ?_) | skip
  refine wpAny_bind (wpAny_sequenceKey ht.typeIs (by decide) ?_)
  refine wpAny_bind (wpAny_callSpecial?_slot (name:=Str.ofString "__getitem__") ht.typeIs PyProof.Rows.slot_tuple_getitem
    (wpAny_call_entry PyProof.Rows.slot_tuple_getitem ht.typeIs entry_tuple_getitem ?_ (args_tuple_getitem _ _)))
  show wpAny _ _ (Builtin.Tuple.tupleItemsOf (.ref t) >>= _) _ _ s
  refine wpAny_bind (tupleItemsOf_ ht ?_)
  refine wpAny_bind (wpAny_typeOf hTs ?_)
  rw [if_pos (by decide)]
  refine wpAny_bind (jey hs pl pu ?_)
  have hno:¬ ((((sIx items.size 0 lo:Nat):Int) == 0 && (1:Int) == 1 && (sIx items.size items.size hi - sIx items.size 0 lo) == items.size) = true):=by
    intro q
    rw [Bool.and_eq_true,Bool.and_eq_true] at q
    have q1:((sIx items.size 0 lo:Nat):Int) = 0:=eq_of_beq q.1.1
    have q2:sIx items.size items.size hi - sIx items.size 0 lo = items.size:=eq_of_beq q.2
    exact hw ⟨by omega,by omega⟩
  show wpAny _ _ (if (((sIx items.size 0 lo:Nat):Int) == 0 && (1:Int) == 1 && (sIx items.size items.size hi - sIx items.size 0 lo) == items.size) = true then _ else _) _ _ s
  rw [if_neg hno,jpp]
  first
    | exact wpAny_bind (m:=Builtin.Tuple.tupleExact _) (wpAny_newObj_type (wpAny_pure ⟨_,rfl,wpAny_pure h⟩) htake)
    | exact wpAny_bind (m:=Builtin.Tuple.tupleExact _) (wpAny_newObj_type (wpAny_bind (wpAny_pure (wpAny_pure ⟨_,rfl,wpAny_pure h⟩))) htake)
    | exact wpAny_bind (wpAny_bind (m:=Builtin.Tuple.tupleExact _) (wpAny_newObj_type (wpAny_pure (wpAny_pure ⟨_,rfl,wpAny_pure h⟩)) htake))
    | exact wpAny_bind (wpAny_bind (m:=Builtin.Tuple.tupleExact _) (wpAny_newObj_type (wpAny_pure ⟨_,rfl,wpAny_pure h⟩) htake))
end
end HT
namespace L2
open PySem PySem.Spec PyProof.Rows
abbrev TO:=St → Hp → (Option Int → Hp → Prop) → Prop
def PO (X:Cx) (e:Option Expr) (t:TO):Prop:=
  ∀ (pins:List (Addr × Obj)) (s:Shared) (σ:St) (H:Hp) (Q:Option Int → Hp → Prop),Inv X pins σ H s → t σ H Q →
    wpAny (model X.prog X.w) X.A (evalPart e X.env) (fun u s'=>∃ o H',Inv X pins σ H' s' ∧ IsPart u o ∧ Q o H') X.xe s
def jr0:TO:=fun _ H Q=>Q none H
def jxu (t:TE):TO:=fun σ H Q=>t σ H fun x H1=>∃ i,x = .int i ∧ Q (some i) H1
section
variable {X:Cx} {e:Expr} {te:TE} {lo hi:Option Expr} {tl th:TO} {pos p2:Pos}
theorem jsj:PO X none jr0:=by
  intro pins s σ H Q I h
  rw [evalPart_none]
  exact wpAny_pure ⟨none,H,I,.none,h⟩
theorem jsi (h:PE X e te):PO X (some e) (jxu te):=by
  intro pins s σ H Q I hw
  rw [evalPart_some]
  refine thn (h pins s σ H _ I hw) fun u s1 ⟨x,H1,I1,r1,q1⟩=>?_
  obtain ⟨i,rfl,q⟩:=q1
  obtain ⟨t,rfl⟩:=r1
  exact ⟨some i,H1,I1,.int i t,q⟩
def SlR (X:Cx) (r:V → Option Int → Option Int → Hp → VK → Prop):Prop:=
  ∀ (pins:List (Addr × Obj)) (s:Shared) (σ:St) (H:Hp) (x:V) (v vl vu:Value) (lo hi:Option Int) (sl:Addr) (Q:VK),Inv X pins σ H s → RelV x v → s.heap.IsSliceOf sl vl vu .none → IsPart vl lo → IsPart vu hi → r x lo hi H Q →
    ∃ T id,typeLookup (.type T) "__getitem__" = pure (some (.builtin id)) ∧ s.TypeIs v T ∧ wpAny (model X.prog X.w) X.A (getItem v (.ref sl)) (EP X pins σ Q) X.xe s
theorem SlR.or {r r':V → Option Int → Option Int → Hp → VK → Prop} (h:SlR X r) (h':SlR X r'):SlR X (fun x lo hi H Q=>r x lo hi H Q ∨ r' x lo hi H Q):=by
  intro pins s σ H x v vl vu lo hi sl Q I rx hs pl pu q
  rcases q with q | q
  · exact h pins s σ H x v vl vu lo hi sl Q I rx hs pl pu q
  · exact h' pins s σ H x v vl vu lo hi sl Q I rx hs pl pu q
def tSl (r:V → Option Int → Option Int → Hp → VK → Prop) (te:TE) (tl th:TO):TE:=fun σ H Q=>te σ H fun x H1=>tl σ H1 fun l H2=>th σ H2 fun u H3=>r x l u H3 Q
theorem jpq {r:V → Option Int → Option Int → Hp → VK → Prop} (hr:SlR X r) (he:PE X e te) (hl:PO X lo tl) (hu:PO X hi th):PE X (.Subscript e (.Slice lo hi none p2) pos) (tSl r te tl th):=by
  intro pins s σ H Q I h
  refine Subscript_ (thn (he pins s σ H _ I h) fun v s1 ⟨x,H1,I1,r1,q1⟩=>?_)
  refine wpAny_Slice (thn (hl pins s1 σ H1 _ I1 q1) fun vl s2 ⟨l,H2,I2,pl,q2⟩=>thn (hu pins s2 σ H2 _ I2 q2) fun vu s3 ⟨u,H3,I3,pu,q3⟩=>?_)
  rw [evalPart_none]
  refine wpAny_pure ?_
  have I4:Inv X pins σ H3 { s3 with heap:=s3.heap.push { cls:=.type "slice",data:=.fields #[vl,vu,.none] } }:=I3.kept (t':=s3.toks) fun b ob q=>Heap.get?_push_of_some _ q
  obtain ⟨T,id,hT,ht,hg⟩:=hr pins { s3 with heap:=s3.heap.push { cls:=.type "slice",data:=.fields #[vl,vu,.none] } } σ H3 x v vl vu l u s3.heap.objs.size Q I4 r1 (Heap.IsSliceOf.new ..) pl pu q3
  show wpAny (model X.prog X.w) X.A (subscriptTail e (.Slice lo hi none p2) v (.ref s3.heap.objs.size)) (EP X pins σ Q) X.xe { s3 with heap:=s3.heap.push { cls:=.type "slice",data:=.fields #[vl,vu,.none] } }
  exact tail_any (ops:=[.ref s3.heap.objs.size,v]) ht hT hg (by with_unfolding_all rfl)
def joU (xs:List V) (lo hi:Option Int):List V:=(xs.drop (HT.sIx xs.length 0 lo)).take (HT.sIx xs.length xs.length hi - HT.sIx xs.length 0 lo)
theorem jhw (xs:List V) (lo hi:Option Int):(joU xs lo hi).length ≤ xs.length:=by
  unfold joU
  rw [List.length_take,List.length_drop]
  omega
def jAs (K:PySem.W.Frag):V → Option Int → Option Int → Hp → VK → Prop:=fun x lo hi H Q=>∃ a xs,x = .ref a ∧ SqT K H a xs ∧
  ¬ (HT.sIx xs.length 0 lo = 0 ∧ HT.sIx xs.length xs.length hi = xs.length) ∧ ∀ p,H p = none → Q (.ref p) (upd H p (.tup (joU xs lo hi)))
theorem sl_tup:SlR X (jAs X.K):=by
  intro pins s σ H x v vl vu lo hi sl Q I rx hs pl pu h
  obtain ⟨a,xs,rfl,hx,hw,q⟩:=h
  cases rx
  obtain ⟨its,r,ht,hz⟩:=I.tuple hx
  have hlen:its.toArray.size = xs.length:=by rw [List.size_toArray]; exact r.length.symm
  refine ⟨"tuple",_,PyProof.Rows.slot_tuple_getitem.lookup,ht.typeIs,?_⟩
  refine HT.jf5 ht hs pl pu (by rw [hlen]; exact hw) ?_ (by rw [hlen]; exact hz)
  rw [hlen]
  refine ⟨.ref s.heap.objs.size,_,I.laid (t':=s.toks) (o:=.tup (joU xs lo hi)) (fun b ob q=>Heap.get?_push_of_some _ q) (Nat.le_refl _) ?_,rfl,q _ (I.hok.fresh (Nat.le_refl _))⟩
  exact ⟨Nat.le_trans (jhw xs lo hi) hz,_,(r.drop (HT.sIx xs.length 0 lo)).take (HT.sIx xs.length xs.length hi - HT.sIx xs.length 0 lo),IsTup.new _ _⟩
def jx3 (K:PySem.W.Frag):R2:=fun x y H Q=>∃ a b xs ys,x = .ref a ∧ y = .ref b ∧ SqT K H a xs ∧ SqT K H b ys ∧ xs ≠ [] ∧ xs.length + ys.length ≤ sizeLine ∧
  (ys = [] → Q (.ref a) H) ∧ (ys ≠ [] → ∀ p,H p = none → Q (.ref p) (upd H p (.tup (xs ++ ys))))
theorem Vals.nil_iff {xs:List V} {us:List Value} (r:Vals xs us):us = [] ↔ xs = []:=by
  cases r with
  | nil=>simp
  | cons _ _=>simp
theorem jst:OpR X (binaryOp .Add) (jx3 X.K):=by
  intro pins s σ H x y v u Q I rx ry h
  obtain ⟨a,b,xs,ys,rfl,rfl,ha,hb,hx,hz,q1,q2⟩:=h
  cases rx
  cases ry
  obtain ⟨its,r1,p1,_⟩:=I.tuple ha
  obtain ⟨its2,r2,p2,_⟩:=I.tuple hb
  refine HT.jtm p1 p2 (fun z=>hx (r1.nil_iff.mp z)) (fun z=>⟨.ref a,H,I,rfl,q1 (r2.nil_iff.mp z)⟩) (fun z=>?_) (by rw [← r1.length,← r2.length]; exact hz)
  refine ⟨.ref s.heap.objs.size,_,I.laid (t':=s.toks) (o:=.tup (xs ++ ys)) (fun b ob q=>Heap.get?_push_of_some _ q) (Nat.le_refl _) ?_,rfl,q2 (fun w=>z (r2.nil_iff.mpr w)) _ (I.hok.fresh (Nat.le_refl _))⟩
  exact ⟨by rw [List.length_append]; exact hz,_,r1.append r2,IsTup.new _ _⟩
end
end L2
namespace L2
open PySem PySem.Spec PyProof.Rows
def ixN (n:Nat) (i:Int):Option Nat:=if 0 ≤ i then (if i < n then some i.toNat else none) else if -(n:Int) ≤ i then some (i + n).toNat else none
def atI {α:Type} (xs:List α) (i:Int):Option α:=(ixN xs.length i).bind fun j=>xs[j]?
theorem jnO {n:Nat} {i:Int} {j:Nat} (h:ixN n i = some j):seqIndex? i n = some j ∧ j < n ∧ -(n:Int) ≤ i ∧ i < n:=by
  unfold ixN at h
  by_cases h0:0 ≤ i
  · rw [if_pos h0] at h
    by_cases h1:i < n
    · rw [if_pos h1] at h
      have e:i.toNat = j:=Option.some.inj h
      exact ⟨by rw [seqIndex_of h0 h1,e],by omega,by omega,h1⟩
    · rw [if_neg h1] at h; cases h
  · rw [if_neg h0] at h
    by_cases h1:-(n:Int) ≤ i
    · rw [if_pos h1] at h
      have e:(i + n).toNat = j:=Option.some.inj h
      exact ⟨by rw [seqIndex_neg (by omega) h1,e],by omega,h1,by omega⟩
    · rw [if_neg h1] at h; cases h
theorem jow {α:Type} {xs:List α} {i:Int} {v:α} (h:atI xs i = some v):∃ j,seqIndex? i xs.length = some j ∧ xs[j]? = some v ∧ j < xs.length ∧ -(xs.length:Int) ≤ i ∧ i < xs.length:=by
  unfold atI at h
  cases e:ixN xs.length i with
  | none=>rw [e] at h; cases h
  | some j=>
    rw [e] at h
    obtain ⟨h1,h2,h3,h4⟩:=jnO e
    exact ⟨j,h1,h,h2,h3,h4⟩
def jkX (b:Expr):Prop:=∀ o i,subscripted b false o i = operate [o,i] (getItem o i)
def IxR (X:Cx) (r:R2):Prop:=
  ∀ (value slice:Expr) (pins:List (Addr × Obj)) (s:Shared) (σ:St) (H:Hp) (x y:V) (v u:Value) (Q:VK),Inv X pins σ H s → RelV x v → RelV y u → r x y H Q →
    subscripted slice false v u = operate [v,u] (getItem v u) → wpAny (model X.prog X.w) X.A (subscriptTail value slice v u) (EP X pins σ Q) X.xe s
def MtR (X:Cx) (id:String) (r:V → List V → Hp → VK → Prop):Prop:=
  ∀ (pins:List (Addr × Obj)) (s:Shared) (σ:St) (H:Hp) (x:V) (xs:List V) (v:Value) (us:List Value) (Q:VK),Inv X pins σ H s → RelV x v → Vals xs us → r x xs H Q →
    wpAny (model X.prog X.w) X.A (call (.builtin id) (v :: us)) (EP X pins σ Q) X.xe s
section
variable {X:Cx} {a b:Expr} {ta tb:TE} {pos:Pos}
theorem IxR.or {r r':R2} (h:IxR X r) (h':IxR X r'):IxR X (fun x y H Q=>r x y H Q ∨ r' x y H Q):=by
  intro value slice pins s σ H x y v u Q I rx ry q hs
  rcases q with q | q
  · exact h value slice pins s σ H x y v u Q I rx ry q hs
  · exact h' value slice pins s σ H x y v u Q I rx ry q hs
theorem MtR.or {id:String} {r r':V → List V → Hp → VK → Prop} (h:MtR X id r) (h':MtR X id r'):MtR X id (fun x xs H Q=>r x xs H Q ∨ r' x xs H Q):=by
  intro pins s σ H x xs v us Q I rx rs q
  rcases q with q | q
  · exact h pins s σ H x xs v us Q I rx rs q
  · exact h' pins s σ H x xs v us Q I rx rs q
theorem juO {r:R2} (hr:IxR X r) (ha:PE X a ta) (hb:PE X b tb) (hs:jkX b):PE X (.Subscript a b pos) (tOp r ta tb):=by
  intro pins s σ H Q I h
  exact Subscript_ (jzp ha hb I h fun v u s2 x y H2 I2 rx ry q=>hr a b pins s2 σ H2 x y v u Q I2 rx ry q (hs _ _))
def jAv (K:PySem.W.Frag):R2:=fun x y H Q=>∃ p xs i v,x = .ref p ∧ y = .int i ∧ SqL K H p xs ∧ atI xs i = some v ∧ Q v H
def jAu (K:PySem.W.Frag):R2:=fun x y H Q=>∃ p xs i v,x = .ref p ∧ y = .int i ∧ SqT K H p xs ∧ atI xs i = some v ∧ Q v H
theorem ix_list:IxR X (jAv X.K):=by
  intro value slice pins s σ H x y v u Q I rx ry h hs
  obtain ⟨p,xs,i,z,rfl,rfl,hq,he,q⟩:=h
  cases rx
  obtain ⟨t,rfl⟩:=ry
  obtain ⟨its,r,pl,hz⟩:=I.list hq
  obtain ⟨j,h1,h2,h3,h4,h5⟩:=jow he
  obtain ⟨w,ew,rw'⟩:=r.get h2
  have hl:=r.length
  have hn:=jlt
  have fin:EP X pins σ Q w s:=⟨z,H,I,rw',q⟩
  by_cases h0:0 ≤ i
  · have hj:i.toNat = j:=by
      rw [seqIndex_of h0 h5] at h1
      exact Option.some.inj h1
    exact item_listR pl.isList h0 (by omega) (by rw [hj]; simpa using ew) fin hs
  · have hj:(i + (its.toArray.size:Int)).toNat = j:=by
      rw [seqIndex_neg (by omega) h4] at h1
      rw [List.size_toArray,← hl]
      exact Option.some.inj h1
    exact subscriptTail_builtinR (x:=w) pl.isList.typeIs slot_list_getitem.lookup
      (wpAny_getItem_list_neg (Q:=fun r s'=>r = w ∧ EP X pins σ Q r s') pl.isList (by omega) (by rw [List.size_toArray] <;> omega) (by omega) (by rw [hj]; simpa using ew) ⟨rfl,fin⟩) hs
theorem jvA:IxR X (jAu X.K):=by
  intro value slice pins s σ H x y v u Q I rx ry h hs
  obtain ⟨p,xs,i,z,rfl,rfl,hq,he,q⟩:=h
  cases rx
  obtain ⟨t,rfl⟩:=ry
  obtain ⟨its,r,pl,hz⟩:=I.tuple hq
  obtain ⟨j,h1,h2,h3,h4,h5⟩:=jow he
  obtain ⟨w,ew,rw'⟩:=r.get h2
  have hl:=r.length
  have hn:=jlt
  have fin:EP X pins σ Q w s:=⟨z,H,I,rw',q⟩
  exact subscriptTail_builtinR (x:=w) pl.typeIs slot_tuple_getitem.lookup
    (getItem_tuple (j:=j) (Q:=fun r s'=>r = w ∧ EP X pins σ Q r s') pl (by omega) (by omega) (by rw [List.size_toArray,← hl]; exact h1) (by simpa using ew) ⟨rfl,fin⟩) hs
theorem jmf (its:List Value) (n j:Nat) (u:Value):Obj.mapSeq (·.setIfInBounds j u) { cls:=.type "list",data:=.seq its.toArray n } = { cls:=.type "list",data:=.seq (its.set j u).toArray n }:=by
  simp [Obj.mapSeq]
theorem Inv.lst {pins:List (Addr × Obj)} {σ:St} {H:Hp} {s:Shared} {p:Addr} {xs:List V} (I:Inv X pins σ H s) (h:H p = some (.lst xs)) :
    ∃ (its:List Value) (n:Nat),Vals xs its ∧ s.heap.get? p = some { cls:=.type "list",data:=.seq its.toArray n } ∧ xs.length ≤ sizeLine:=by
  obtain ⟨z,its,n,r,e⟩:=I.hok p _ h
  exact ⟨its,n,r,e,z⟩
theorem Inv.lstUpd {pins:List (Addr × Obj)} {σ:St} {H:Hp} {s:Shared} {p:Addr} {xs ys:List V} {its its':List Value} {n n':Nat} {f:Obj → Obj} (I:Inv X pins σ H s) (h:H p = some (.lst xs))
    (ho:s.heap.get? p = some { cls:=.type "list",data:=.seq its.toArray n }) (hf:f { cls:=.type "list",data:=.seq its.toArray n } = { cls:=.type "list",data:=.seq its'.toArray n' }) (r:Vals ys its') (hz:ys.length ≤ sizeLine) (t:Nat) :
    Inv X pins σ (upd H p (.lst ys)) { s with heap:=s.heap.update p f,toks:=t }:=by
  have e:(s.heap.update p f).get? p = some { cls:=.type "list",data:=.seq its'.toArray n' }:=by
    rw [Heap.get?_update_self f ho (by rw [hf] <;> rfl),hf]
  refine I.write (x:=p) (e:=p) (by rw [h]; trivial) (.inl rfl) (fun b u hb q=>(Heap.get?_update_other _ _ (Ne.symm hb)).trans q) ⟨_,e⟩ ?_
  exact ⟨hz,its',n',r,e⟩
def jx2:V → V → V → Hp → (Hp → Prop) → Prop:=fun o i v H Q=>∃ p xs k j,o = .ref p ∧ i = .int k ∧ H p = some (.lst xs) ∧ ixN xs.length k = some j ∧ Q (upd H p (.lst (xs.set j v)))
theorem jpg:jzR X jx2:=by
  intro pins s σ H o i v ov iv u Q I ro ri rv h
  obtain ⟨p,xs,k,j,rfl,rfl,hp,hj,q⟩:=h
  cases ro
  obtain ⟨t,rfl⟩:=ri
  obtain ⟨its,n,r,ho,hz⟩:=I.lst hp
  obtain ⟨h1,h2,h3,h4⟩:=jnO hj
  have hl:=r.length
  have hn:=jlt
  have I':Inv X pins σ (upd H p (.lst (xs.set j v))) { s with heap:=s.heap.update p (Obj.mapSeq (·.setIfInBounds j u)) }:=
    I.lstUpd hp ho (jmf its n j u) (r.set rv j) (by rw [List.length_set]; exact hz) s.toks
  by_cases h0:0 ≤ k
  · have hk:k.toNat = j:=by
      rw [seqIndex_of h0 h4] at h1
      exact Option.some.inj h1
    exact PySem.W.ki_setAt ho h0 (by omega) (by rw [List.size_toArray,← hl]; exact h4) (by rw [hk]; exact ⟨_,I',q⟩)
  · have hk:(k + (its.toArray.size:Int)).toNat = j:=by
      rw [seqIndex_neg (by omega) h3] at h1
      rw [List.size_toArray,← hl]
      exact Option.some.inj h1
    exact PySem.W.ki_setBack ho (by omega) (by rw [List.size_toArray,← hl]; exact h3) (by omega) (by rw [hk]; exact ⟨_,I',q⟩)
theorem jjs (lo hi:Option Int) (n:Nat):(sliceBounds lo hi none n).1 = ((HT.sIx n 0 lo:Nat):Int) ∧ (sliceBounds lo hi none n).2.1 = ((HT.sIx n n hi:Nat):Int) ∧ (sliceBounds lo hi none n).2.2 = 1:=by
  refine ⟨?_,?_,rfl⟩
  · cases lo with
    | none=>simp [sliceBounds,HT.sIx]
    | some i=>
      simp only [sliceBounds,HT.sIx,Option.getD_none,show (1:Int) > 0 by decide,if_true]
      by_cases h:i < 0
      · simp only [h,if_true] <;> omega
      · simp only [h,if_false] <;> omega
  · cases hi with
    | none=>simp [sliceBounds,HT.sIx]
    | some i=>
      simp only [sliceBounds,HT.sIx,Option.getD_none,show (1:Int) > 0 by decide,if_true]
      by_cases h:i < 0
      · simp only [h,if_true] <;> omega
      · simp only [h,if_false] <;> omega
theorem jiC (its:List Value) (lo hi:Option Int):slicePick its.toArray lo hi none = ((its.drop (HT.sIx its.length 0 lo)).take (HT.sIx its.length its.length hi - HT.sIx its.length 0 lo)).toArray:=by
  obtain ⟨h1,h2,h3⟩:=jjs lo hi its.toArray.size
  unfold slicePick
  rw [h1,h2,h3]
  simp only [sliceRange_one,pick_run,List.size_toArray] <;> rfl
def jAt (K:PySem.W.Frag):V → Option Int → Option Int → Hp → VK → Prop:=fun x lo hi H Q=>∃ a xs,x = .ref a ∧ SqL K H a xs ∧ ∀ p,H p = none → Q (.ref p) (upd H p (.lst (joU xs lo hi)))
theorem sl_list:SlR X (jAt X.K):=by
  intro pins s σ H x v vl vu lo hi sl Q I rx hs pl pu h
  obtain ⟨a,xs,rfl,hx,q⟩:=h
  cases rx
  obtain ⟨its,r,ht,hz⟩:=I.list hx
  have hlen:=r.length
  refine ⟨"list",_,slot_list_getitem.lookup,ht.isList.typeIs,?_⟩
  refine wpAny_getItem_list_slice ht.isList hs pl pu .none (by simp) ?_ (by rw [List.size_toArray] <;> omega)
  rw [jiC,← hlen]
  refine ⟨.ref s.heap.objs.size,_,I.laid (t':=s.toks) (o:=.lst (joU xs lo hi)) (fun b ob q=>Heap.get?_push_of_some _ q) (Nat.le_refl _) ?_,rfl,q _ (I.hok.fresh (Nat.le_refl _))⟩
  exact ⟨Nat.le_trans (jhw xs lo hi) hz,_,0,(r.drop (HT.sIx xs.length 0 lo)).take (HT.sIx xs.length xs.length hi - HT.sIx xs.length 0 lo),Heap.get?_push_size _ rfl⟩
def jfa:V → Bool
  | .non=>true
  | .bl _=>true
  | .int _=>true
  | .str _=>true
  | _=>false
def eqV:V → V → Bool
  | .non,.non=>true
  | .bl a,.bl b=>a == b
  | .bl a,.int b=>(if a then 1 else 0) == b
  | .int a,.bl b=>a == (if b then 1 else 0)
  | .int a,.int b=>a == b
  | .str a,.str b=>a == b
  | _,_=>false
theorem jv0 {A:Around} {s:Shared} {y x:V} {u v:Value} (ry:RelV y u) (rx:RelV x v) (fy:jfa y = true) (fx:jfa x = true):SeqAt.EqAt A s u v (eqV y x):=by
  cases y with
  | non=>
    cases ry
    cases x with
    | non=>cases rx; exact SeqAt.EqAt.same _
    | bl b=>cases rx; exact SeqAt.EqAt.none_bool b
    | int b=>obtain ⟨t,rfl⟩:=rx; exact SeqAt.EqAt.none_int b t
    | str b=>obtain ⟨t,rfl⟩:=rx; exact SeqAt.EqAt.none_str b t
    | _=>exact absurd (show false = true from fx) Bool.false_ne_true
  | bl a=>
    cases ry
    cases x with
    | non=>cases rx; exact SeqAt.EqAt.bool_none a
    | bl b=>cases rx; exact SeqAt.EqAt.bool_bool a b
    | int b=>obtain ⟨t,rfl⟩:=rx; exact SeqAt.EqAt.bool_int a b t
    | str b=>obtain ⟨t,rfl⟩:=rx; exact SeqAt.EqAt.bool_str a b t
    | _=>exact absurd (show false = true from fx) Bool.false_ne_true
  | int a=>
    obtain ⟨t',rfl⟩:=ry
    cases x with
    | non=>cases rx; exact SeqAt.EqAt.int_none a t'
    | bl b=>cases rx; exact SeqAt.EqAt.int_bool a t' b
    | int b=>obtain ⟨t,rfl⟩:=rx; exact SeqAt.EqAt.int_int a t' b t
    | str b=>obtain ⟨t,rfl⟩:=rx; exact SeqAt.EqAt.int_str a t' b t
    | _=>exact absurd (show false = true from fx) Bool.false_ne_true
  | str a=>
    obtain ⟨t',rfl⟩:=ry
    cases x with
    | non=>cases rx; exact SeqAt.EqAt.str_none a t'
    | bl b=>cases rx; exact SeqAt.EqAt.str_bool a t' b
    | int b=>obtain ⟨t,rfl⟩:=rx; exact SeqAt.EqAt.str_int a t' b t
    | str b=>obtain ⟨t,rfl⟩:=rx; exact SeqAt.EqAt.str_str a t' b t
    | _=>exact absurd (show false = true from fx) Bool.false_ne_true
  | _=>exact absurd (show false = true from fy) Bool.false_ne_true
def eqU (x:V) (u:Value):Bool:=match u with
  | .none=>eqV .non x
  | .bool b=>eqV (.bl b) x
  | .int i _=>eqV (.int i) x
  | .str z _=>eqV (.str z) x
  | _=>false
theorem jlE {x y:V} {u:Value} (r:RelV y u) (f:jfa y = true):eqU x u = eqV y x:=by
  cases y with
  | non=>cases r; rfl
  | bl b=>cases r; rfl
  | int i=>obtain ⟨t,rfl⟩:=r; rfl
  | str z=>obtain ⟨t,rfl⟩:=r; rfl
  | _=>exact absurd (show false = true from f) Bool.false_ne_true
theorem jkW {x:V}:∀ {xs:List V} {us:List Value},Vals xs us → xs.all jfa = true → us.any (eqU x) = xs.any fun y=>eqV y x
  | _,_,.nil,_=>rfl
  | y :: xs,u :: us,.cons r t,f=>by
    rw [List.all_cons,Bool.and_eq_true] at f
    rw [List.any_cons,List.any_cons,jlE r f.1,jkW t f.2]
theorem jfI {A:Around} {s:Shared} {x:V} {v:Value} (rx:RelV x v) (fx:jfa x = true):∀ {xs:List V} {us:List Value},Vals xs us → xs.all jfa = true → ∀ u ∈ us,SeqAt.EqAt A s u v (eqU x u)
  | _,_,.nil,_=>fun u hu=>by cases hu
  | y :: xs,u :: us,.cons r t,f=>fun u' hu=>by
    rw [List.all_cons,Bool.and_eq_true] at f
    rcases List.mem_cons.mp hu with rfl | hu
    · rw [jlE r f.1]; exact jv0 r rx f.1 fx
    · exact jfI rx fx t f.2 u' hu
def inV (x:V) (xs:List V):Bool:=xs.any fun y=>eqV y x
def rIn (K:PySem.W.Frag) (neg:Bool):R2:=fun x y H Q=>∃ p xs,y = .ref p ∧ (SqL K H p xs ∨ SqT K H p xs) ∧ jfa x = true ∧ xs.all jfa = true ∧ Q (.bl (if neg then !inV x xs else inV x xs)) H
theorem jnj:OpR X (compareOp .In) (rIn X.K false):=by
  intro pins s σ H x y v u Q I rx ry h
  obtain ⟨p,xs,rfl,hq,fx,fs,q⟩:=h
  cases ry
  rcases hq with hq | hq
  · obtain ⟨its,r,pl,hz⟩:=I.list hq
    refine SeqAt.in_listAt (eqU x) pl.isList (fun w hw=>jfI rx fx r fs w (by simpa using hw)) ⟨.bl _,H,I,rfl,?_⟩
    rw [show its.toArray.any (eqU x) = its.any (eqU x) by simp,jkW r fs]
    exact q
  · obtain ⟨its,r,pl,hz⟩:=I.tuple hq
    refine SeqAt.in_tupleAt (eqU x) pl (fun w hw=>jfI rx fx r fs w (by simpa using hw)) ⟨.bl _,H,I,rfl,?_⟩
    rw [show its.toArray.any (eqU x) = its.any (eqU x) by simp,jkW r fs]
    exact q
theorem CallR.or {f:Value} {r r':List V → Hp → VK → Prop} (h:CallR X f r) (h':CallR X f r'):CallR X f (fun xs H Q=>r xs H Q ∨ r' xs H Q):=by
  intro pins s σ H xs us Q I rs q
  rcases q with q | q
  · exact h pins s σ H xs us Q I rs q
  · exact h' pins s σ H xs us Q I rs q
theorem jgm:CallR X (.type "list") (fun xs H Q=>∃ p ys,xs = [.ref p] ∧ (SqL X.K H p ys ∨ SqT X.K H p ys) ∧ ∀ l,H l = none → Q (.ref l) (upd H l (.lst ys))):=by
  intro pins s σ H xs us Q I r h
  obtain ⟨p,ys,rfl,hq,q⟩:=h
  obtain ⟨u,rfl,rx⟩:=jjm r
  cases rx
  have fin:∀ (its:List Value),Vals ys its → ys.length ≤ sizeLine → ∀ (h':Heap) (c':Nat),(∀ b o',s.heap.get? b = some o' → h'.get? b = some o') →
      h'.get? s.heap.objs.size = some { cls:=.type "list",dict:=none,data:=.seq its.toArray c',slots:=#[] } → EP X pins σ Q (.ref s.heap.objs.size) { s with heap:=h' }:=fun its r' hz h' c' kp e=>
    ⟨.ref s.heap.objs.size,_,I.laid (t':=s.toks) kp (Nat.le_refl _) (show ObjOk X.prog X.w _ h' _ (.lst ys) from ⟨hz,its,c',r',e⟩),rfl,q _ (I.hok.fresh (Nat.le_refl _))⟩
  rcases hq with hq | hq
  · obtain ⟨its,r',pl,hz⟩:=I.list hq
    have hlen:=r'.length
    obtain ⟨o,ho,hc,n,hd⟩:=pl.isList
    exact call_list_seq p (.inl rfl) ho hc hd (fun h' c' kp e=>fin its r' hz h' c' kp e) (by simp only [List.size_toArray] <;> omega)
  · obtain ⟨its,r',pl,hz⟩:=I.tuple hq
    have hlen:=r'.length
    obtain ⟨o,ho,hc,n,hd⟩:=pl
    exact call_list_seq p (.inr rfl) ho hc hd (fun h' c' kp e=>fin its r' hz h' c' kp e) (by simp only [List.size_toArray] <;> omega)
theorem ji3:CallR X (.type "tuple") (fun xs H Q=>∃ p ys,xs = [.ref p] ∧ ((SqL X.K H p ys ∧ ∀ l,H l = none → Q (.ref l) (upd H l (.tup ys))) ∨ (SqT X.K H p ys ∧ Q (.ref p) H))):=by
  intro pins s σ H xs us Q I r h
  obtain ⟨p,ys,rfl,h⟩:=h
  obtain ⟨u,rfl,rx⟩:=jjm r
  cases rx
  rcases h with ⟨hq,q⟩ | ⟨hq,q⟩
  · obtain ⟨its,r',pl,hz⟩:=I.list hq
    have hlen:=r'.length
    refine call_tuple_list pl.isList (fun h' kp=>?_) (by simp only [List.size_toArray] <;> omega)
    have I1:Inv X pins σ H { s with heap:=h' }:=I.kept (t':=s.toks) kp
    have I2:Inv X pins σ (upd H h'.objs.size (.tup ys)) { s with heap:=h'.push { cls:=.type "tuple",data:=.seq its.toArray } }:=
      I1.laid (t':=s.toks) (fun b o e=>Heap.get?_push_of_some _ e) (Nat.le_refl _) (show ObjOk X.prog X.w _ _ _ (.tup ys) from ⟨hz,its,r',IsTup.new _ _⟩)
    exact ⟨.ref h'.objs.size,_,I2,rfl,q _ (I1.hok.fresh (Nat.le_refl _))⟩
  · obtain ⟨its,r',pl,hz⟩:=I.tuple hq
    exact call_tuple_same pl ⟨.ref p,H,I,rfl,q⟩
def tyV (K:PySem.W.Frag) (T:String) (x:V) (H:Hp):Prop:=match x with
  | .str _=>T = "str"
  | .int _=>T = "int"
  | .ref p=>(T = "list" ∧ ∃ xs,SqL K H p xs) ∨ (T = "tuple" ∧ ∃ o,K.lookup p = some o ∧ o.cls = .type "tuple" ∧ o.dict = none) ∨
      (T = "dict" ∧ ((∃ kvs,H p = some (.dK kvs)) ∨ ∃ kvs,H p = some (.dT kvs))) ∨ (T = "set" ∧ ∃ S n,H p = some (.set S n))
  | _=>False
theorem jqQ {pins:List (Addr × Obj)} {σ:St} {H:Hp} {s:Shared} {T:String} {x:V} {v:Value} (I:Inv X pins σ H s) (r:RelV x v) (ty:tyV X.K T x H) :
    s.TypeIs v T ∧ ∀ a,v = .ref a → ∃ ob,s.heap.get? a = some ob ∧ ob.dict = none:=by
  cases x with
  | str z=>
    obtain ⟨t,rfl⟩:=r
    cases (show T = "str" from ty)
    exact ⟨typeIs_str s z t,fun _ e=>nomatch e⟩
  | int i=>
    obtain ⟨t,rfl⟩:=r
    cases (show T = "int" from ty)
    exact ⟨typeIs_int s i t,fun _ e=>nomatch e⟩
  | ref p=>
    cases r
    rcases ty with ⟨rfl,xs,hq⟩ | ⟨rfl,o,hk,hc,hd⟩ | ⟨rfl,hk⟩ | ⟨rfl,S,n,hk⟩
    · obtain ⟨its,_,pl,_⟩:=I.list hq
      refine ⟨pl.isList.typeIs,fun a e=>?_⟩
      cases e
      obtain ⟨o,n,e,c,hd,_⟩:=pl
      exact ⟨o,e,hd⟩
    · refine ⟨⟨o,I.kIn p o hk,hc⟩,fun a e=>?_⟩
      cases e
      exact ⟨o,I.kIn _ o hk,hd⟩
    · have z:∃ o,s.heap.get? p = some o ∧ o.ExactDict:=by
        rcases hk with ⟨kvs,hk⟩ | ⟨kvs,hk⟩
        · obtain ⟨_,_,_,_,o,_,_,e,ex,_⟩:=I.hok p _ hk
          exact ⟨o,e,ex⟩
        · obtain ⟨_,_,_,_,o,_,_,e,ex,_⟩:=I.hok p _ hk
          exact ⟨o,e,ex⟩
      obtain ⟨o,e,ex⟩:=z
      refine ⟨⟨o,e,ex.1⟩,fun a e2=>?_⟩
      cases e2
      exact ⟨o,e,ex.2.1⟩
    · obtain ⟨o,_,_,_,e,ex,_⟩:=I.hok p _ hk
      refine ⟨⟨o,e,ex.1⟩,fun a e2=>?_⟩
      cases e2
      exact ⟨o,e,ex.2.1⟩
  | _=>exact False.elim ty
def jAl (K:PySem.W.Frag) (T:String) (r:V → List V → Hp → VK → Prop) (to:TE):TE:=fun σ H Q=>to σ H fun x H1=>tyV K T x H1 ∧ r x [] H1 Q
def tBM (K:PySem.W.Frag) (T:String) (r:V → List V → Hp → VK → Prop) (to:TE) (t:TA):TE:=fun σ H Q=>to σ H fun x H1=>tyV K T x H1 ∧ t σ H1 fun xs H2=>r x xs H2 Q
variable {o e:Expr} {es:List Expr} {to:TE} {t:TA} {name:Str} {apos cpos:Pos} {T id:String} {r:V → List V → Hp → VK → Prop}
theorem juQ (pa:PlainAttrs T) (slot:Slot T name id) (hty:typeOf (.builtin id) = pure (.type "method_descriptor")) (hm:MtR X id r) (ho:PE X o to)
    (hbase:attributeBase o name X.env (eval o X.env) = eval o X.env:=by rfl) (hline:(apos.endLine == cpos.line) = true:=by rfl):PE X (.Call (.Attribute o name apos) [] [] cpos) (jAl X.K T r to):=by
  intro pins s σ H Q I h
  refine wpAny_Call_method0_late hbase hline (thn (ho pins s σ H _ I h) fun v s1 ⟨x,H1,I1,r1,ty,q1⟩=>?_)
  obtain ⟨h1,h2⟩:=jqQ I1 r1 ty
  exact ⟨T,id,pa,slot,hty,h1,h2,Calls.callWith_builtin rfl (PySem.evalArgs_none (hm pins s1 σ H1 x [] v [] Q I1 r1 .nil q1))⟩
theorem jsp (pa:PlainAttrs T) (slot:Slot T name id) (hty:typeOf (.builtin id) = pure (.type "method_descriptor")) (hm:MtR X id r) (ho:PE X o to) (ha:PA X (e :: es) t)
    (hbase:attributeBase o name X.env (eval o X.env) = eval o X.env:=by rfl)
    (hfew:((backTo cpos (starEach (e :: es) X.env)).all (fun x=>!x.1) && (backToKw cpos (keywordEach [] X.env)).all (fun x=>x.1.isSome)
      && decide ((e :: es).length + ([]:List Keyword).length + (if ([]:List Keyword).isEmpty then 0 else 1) < 30)) = true:=by rfl)
    (hline:(apos.endLine == cpos.line) = true:=by rfl) (hs:starEach (e :: es) X.env = (false,eval e X.env) :: starEach es X.env:=by rfl) (hplain:(backTo cpos (starEach es X.env)).any (·.1) = false:=by rfl) :
    PE X (.Call (.Attribute o name apos) (e :: es) [] cpos) (tBM X.K T r to t):=by
  intro pins s σ H Q I h
  refine wpAny_Call_method_late hbase hfew hline rfl (thn (ho pins s σ H _ I h) fun v s1 ⟨x,H1,I1,r1,ty,q1⟩=>?_)
  obtain ⟨h1,h2⟩:=jqQ I1 r1 ty
  refine ⟨T,id,pa,slot,hty,h1,h2,?_⟩
  have hA:=ha cpos pins s1 σ H1 _ I1 q1
  rw [hs] at hA ⊢
  refine Calls.callWith_builtin (by show (false || (backTo cpos (starEach es X.env)).any (·.1)) = false; rw [hplain] <;> rfl) (Calls.evalArgs_plain ?_)
  exact thn hA fun us s2 ⟨vs,H2,I2,r2,q2⟩=>hm pins s2 σ H2 x vs v us Q I2 r1 r2 q2
end
end L2
namespace L2
open PySem PySem.Spec PyProof.Rows
def MtM (X:Cx) (id:String) (r:V → List V → Hp → VK → Prop):Prop:=
  ∀ (pins:List (Addr × Obj)) (s:Shared) (σ:St) (H:Hp) (x:V) (xs:List V) (v:Value) (us:List Value) (Q:VK),Inv X pins σ H s → RelV x v → Vals xs us → r x xs H Q →
    wpAny (model X.prog X.w) X.A (call (.builtin id) (v :: us)) (EP X pins σ Q) X.xe s
theorem Vals.one:∀ {x:V} {us:List Value},Vals [x] us → ∃ u,us = [u] ∧ RelV x u
  | _,_,h=>by
    cases h with
    | cons r t=>
      cases t
      exact ⟨_,rfl,r⟩
theorem Vals.two:∀ {x y:V} {us:List Value},Vals [x,y] us → ∃ u v,us = [u,v] ∧ RelV x u ∧ RelV y v
  | _,_,_,h=>by
    cases h with
    | cons r t=>
      cases t with
      | cons q t2=>
        cases t2
        exact ⟨_,_,rfl,r,q⟩
theorem Vals.zero:∀ {us:List Value},Vals [] us → us = []
  | _,.nil=>rfl
theorem Vals.reverse {xs:List V} {us:List Value} (h:Vals xs us):Vals xs.reverse us.reverse:=by
  induction h with
  | nil=>exact .nil
  | cons r t ih=>rw [List.reverse_cons,List.reverse_cons]; exact Vals.append ih (.cons r .nil)
theorem Vals.rep {xs:List V} {us:List Value} (h:Vals xs us):∀ k:Nat,Vals (List.replicate k xs).flatten (List.replicate k us).flatten
  | 0=>.nil
  | k + 1=>by
    rw [List.replicate_succ,List.replicate_succ,List.flatten_cons,List.flatten_cons]
    exact Vals.append h (Vals.rep h k)
theorem jjU (its:List Value):∀ (k:Nat) (acc:List Value),
    List.foldl (fun x1 x2=>x1 ++ x2) acc.toArray (List.replicate k its.toArray) = (acc ++ (List.replicate k its).flatten).toArray
  | 0,acc=>by simp
  | k + 1,acc=>by
    have e:acc.toArray ++ its.toArray = (acc ++ its).toArray:=by simp
    have e2:(acc ++ its) ++ (List.replicate k its).flatten = acc ++ (List.replicate (k + 1) its).flatten:=by
      rw [List.replicate_succ,List.flatten_cons,List.append_assoc]
    rw [← e2,← jjU its k (acc ++ its),← e,List.replicate_succ,List.foldl_cons]
section
variable {X:Cx} {pins:List (Addr × Obj)} {σ:St} {H:Hp} {s:Shared} {l b:Addr} {xs ys zs:List V}
theorem Inv.lset {its its':List Value} {n:Nat} {f:Array Value → Array Value} {t':Nat} (I:Inv X pins σ H s) (hH:H l = some (.lst xs))
    (e:s.heap.get? l = some { cls:=.type "list",data:=.seq its.toArray n }) (hf:f its.toArray = its'.toArray) (hv:Vals ys its') (hz:ys.length ≤ sizeLine) :
    Inv X pins σ (upd H l (.lst ys)) { s with heap:=s.heap.update l (Obj.mapSeq f),toks:=t' }:=by
  have q:=PySem.IsL.update e f
  rw [hf] at q
  refine I.write (x:=l) (e:=l) (by rw [hH]; exact trivial) (.inl rfl) (fun b' u hb hu=>(Heap.get?_update_other s.heap (Obj.mapSeq f) (Ne.symm hb)).trans hu) ⟨_,q⟩ ?_
  exact ⟨hz,its',_,hv,q⟩
theorem Inv.lnew {its:List Value} {t':Nat} (I:Inv X pins σ H s) (hv:Vals ys its) (hz:ys.length ≤ sizeLine) :
    Inv X pins σ (upd H s.heap.objs.size (.lst ys)) { s with heap:=s.heap.push { cls:=.type "list",data:=.seq its.toArray },toks:=t' }:=
  I.laid (fun _ _ q=>Heap.get?_push_of_some _ q) (Nat.le_refl _) ⟨hz,its,0,hv,Heap.get?_push_size _ rfl⟩
theorem Inv.fresh (I:Inv X pins σ H s):H s.heap.objs.size = none:=I.hok.fresh (Nat.le_refl _)
theorem Inv.lstM (I:Inv X pins σ H s) (hH:H l = some (.lst xs)):xs.length ≤ sizeLine ∧ ∃ (its:List Value) (n:Nat),Vals xs its ∧ xs.length = its.length ∧ s.heap.get? l = some { cls:=.type "list",data:=.seq its.toArray n }:=by
  obtain ⟨z,its,n,r,e⟩:=I.hok l _ hH
  exact ⟨z,its,n,r,r.length,e⟩
theorem jpE {n:Nat} (h:n ≤ sizeLine):Builtin.List.listTooLong n = false:=by
  unfold Builtin.List.listTooLong
  exact decide_eq_false (by omega)
end
section
variable {X:Cx}
def jsd:V → List V → Hp → VK → Prop:=fun x vs H Q=>∃ l xs y,x = .ref l ∧ vs = [y] ∧ H l = some (.lst xs) ∧ xs.length < sizeLine ∧ Q .non (upd H l (.lst (xs ++ [y])))
theorem jny:MtM X "list.append" jsd:=by
  intro pins s σ H x vs v us Q I rx rv h
  obtain ⟨l,xs,y,rfl,rfl,hH,hz,q⟩:=h
  cases rx
  obtain ⟨u,rfl,ru⟩:=rv.one
  obtain ⟨z,its,n,r,hl,e⟩:=I.lstM hH
  refine call_meets F.slot_list_append ⟨_,e,rfl⟩ F.entry_list_append (F.args_list_append_2 _ _) (PySem.list_append l its.toArray n u (by rw [List.size_toArray]; omega)) ⟨e,?_⟩
  refine ⟨.non,_,I.lset (its':=its ++ [u]) hH e (by simp) (r.append (.cons ru .nil)) ?_,rfl,q⟩
  rw [List.length_append,List.length_singleton]
  omega
theorem jsP {α:Type} (xs:List α) (k:Nat):(List.replicate k xs).flatten.length = k * xs.length:=by
  induction k with
  | zero=>simp
  | succ k ih=>rw [List.replicate_succ,List.flatten_cons,List.length_append,ih,Nat.succ_mul,Nat.add_comm]
end
section
variable {prog:Program} {w:World} {A:Around} {E:Value → Shared → Prop} {s:Shared}
end
section
variable {X:Cx}
end
end L2
namespace Att
open PySem PySem.W PySem.Calls PyProof.Rows
theorem jhq {P:Params} {h:Heap}:∀ (ns:List Int) (vs:List Value),WellAll P h vs (ns.map WData.int) → IntsAre vs ns:=by
  intro ns
  induction ns with
  | nil=>
    intro vs w
    rw [List.map_nil] at w
    cases w
    exact .nil
  | cons n ns ih=>
    intro vs w
    rw [List.map_cons] at w
    cases w with
    | cons a b=>
      cases a
      exact .cons _ _ (ih _ b)
theorem jm4 {l:OpenLaw} {n:Nat} (hn:l.most = some n) {P:Params} {h:Heap} {args:List WData} {vals:List Value}
    (hpre:l.row.toRowW.claim.pre args = true) (hwl:WellAll P h vals args) :
    ∃ a vs ns,vals = [Value.ref a] ∧ args = [WData.list (ns.map WData.int)] ∧ h.get? a = some { cls:=.type "list",data:=.seq vs.toArray } ∧ IntsAre vs ns ∧ ns.length ≤ n:=by
  have hsh:WShape.hasAll [] args [.list .int] = true:=(pre_splitW hpre).1
  have hc:l.pre.holds [] { args:=args } = true:=(pre_splitW hpre).2
  obtain ⟨d,r,rfl,h1,h2⟩:=hasAllW_cons hsh
  obtain rfl:=hasAllW_nil h2
  obtain ⟨xs,rfl,h3⟩:=hasW_list h1
  obtain ⟨ns,rfl⟩:=items_int h3
  have hlen:ns.length ≤ n:=by
    unfold OpenLaw.pre at hc
    have h4:(WTm.not (.lt (.lit (.int (n:Int))) (.len (.arg 0)))).holds [] { args:=[.list (ns.map .int)] } = true:=by
      have h4:=(holds_andW hc).1
      rw [hn] at h4
      exact h4
    have h5:=condW_of h4 (w_not (w_lt w_lit (w_len_list (w_arg rfl))))
    rw [List.length_map] at h5
    refine Nat.le_of_not_lt fun q=>?_
    have q':(n:Int) < ((ns.length:Nat):Int):=by omega
    first
      | (rw [decide_eq_true q'] at h5; exact absurd h5 (by decide))
      | (simp at h5; omega)
  cases hwl with
  | cons w1 w2=>
    cases w2
    cases w1 with
    | list ho hall=>exact ⟨_,_,ns,rfl,rfl,ho,jhq ns _ hall,hlen⟩
theorem jnb (l:OpenLaw) (args:List WData):l.row.toRowW.claim.post args (.bool true) args = true:=
  postW_of (r:=l.row.toRowW) (X:=(true == true))
    (show WShape.has [] (.bool true) .bool = true by first | rfl | decide | simp [WShape.has,WShape.arms,WShape.armsAll])
    (show (WTm.eq .res (.lit (.bool true))).value [] { args:=args,res:=some (.bool true),after:=args } = some (.bool (true == true)) from w_eq_bool (w_res rfl) w_lit) rfl
theorem jkV {l:OpenLaw} {n:Nat} {q:Program} {loose:List Str} {XP:(Str → Option Value) → Heap → Prop} {YP:World → Heap → Prop} {d:DefRec}
    (hn:l.most = some n) (hdf:d.params.defaults = [])
    (call:∀ (w:World) (s₀ s₁:Shared) (mg mb:Str → Option Value) (fa:Addr) (o:Obj) (pm cd doc:Value) (a:Addr) (vs:List Value) (ns:List Int),
      Ground q loose [] XP w s₀ mg mb s₁.heap → YP w s₁.heap →
      s₁.heap.get? fa = some o → o.data = .func (docDef d.name d.params d.body d.scope pm cd doc) → s₁.heap.CodeRec cd d.name → mg d.name = some (.ref fa) →
      s₁.heap.get? a = some { cls:=.type "list",data:=.seq vs.toArray } → IntsAre vs ns → ns.length ≤ n → s₁.gens = #[] →
      codeAny (model l.prog w) callerA (.call (.ref fa) ⟨[.ref a],[]⟩) (fun r s'=>r = .ok (.ret (.bool true)) ∧ OldK s₁.heap s'.heap ∧ s'.os = s₁.os ∧ AllBare s'.gens) s₁) :
    WalkO q loose XP YP l.row.toRowW d [] (fun f vs=>PySem.call f vs):=by
  intro w s₀ s₁ mg mb G Y fa o pm cd doc dV kV ho hd hcd hD hmg hg args vals as hpre hlay hrd hwl hlo
  obtain rfl:dV = .none:=Dflts.none hD hdf
  obtain rfl:kV = .none:=Dflts.noKw hD
  obtain ⟨a,vs,ns,rfl,rfl,hobj,hints,hlen⟩:=jm4 hn hpre hwl
  refine enter_call (codeAny_mono (call w s₀ s₁ mg mb fa o pm cd doc a vs ns G Y ho (fd_plain hd) hcd hmg hobj hints hlen hg) fun r s' hq=>?_)
  obtain ⟨rfl,h2,h3,h4⟩:=hq
  exact ⟨.inl ⟨.bool true,.bool true,[],rfl,fun _=>rfl,.bool true,jnb l _,fun _=>⟨List.Pairwise.nil,fun _ hm=>(nomatch hm)⟩⟩,h2,h3,h4⟩
section
variable {prog:Program} {w:World} {A:Around} {E:Value → Shared → Prop} {s:Shared} {K:Frag}
def jzJ (h:Heap) (L d:Addr):List (Addr × Obj):=(List.range h.objs.size).filterMap fun a=>if a = L ∨ a = d then none else (h.get? a).map fun o=>(a,o)
end
end Att
namespace L2
open PySem PySem.Spec PyProof.Rows
theorem jjl:∀ {vs:List Value} {ns:List Int},IntsAre vs ns → Vals (ns.map V.int) vs
  | _,_,.nil=>.nil
  | _,_,.cons n t h=>.cons ⟨t,rfl⟩ (jjl h)
def jzw (H:Hp):Prop:=∀ b,H b = none ∨ ∃ o xs,H b = some (.frz o (.lst xs))
theorem jpW {P:Program} {w:World} {K:PySem.W.Frag} {mg mb:Str → Option Value} {CX:CXT} {k:Nat} {fa a:Addr} {fd:FuncData} {x:Str} {sp:Sp} {s₁:Shared} {vs:List Value} {ns:List Int}
    (KX:K.In s₁.heap) (hns:s₁.heap.Ns mainGlobals mg) (hb:s₁.heap.Ns builtinsNs mb) (hbb:∀ x:Str,x ≠ "__name__" → mb x = bootBuiltins x) (hlim:s₁.heap.NoLimit) (hg:s₁.gens = #[])
    (ha:s₁.heap.get? a = some { cls:=.type "list",data:=.seq vs.toArray }) (hi:IntsAre vs ns) (hl:ns.length ≤ sizeLine) (hr:Room k callerA)
    (F:∀ base:Heap,K.In base → base.Ns mainGlobals mg → FnOk P w K mg base CX k fa fd [x] sp) (hbind:∀ (s:Shared) (u:Value),BindsTo s fd ⟨[u],[]⟩ [(x,u)])
    (hsp:∀ H:Hp,jzw H → SqL K H a (ns.map V.int) → sp [.ref a] H (fun v _=>v = .bl true) fun _ _ _=>False)
    (hCX:∀ H e s',CX [] H s₁ (fun _ _ _=>False) e s' → False) :
    codeAny (model P w) callerA (.call (.ref fa) ⟨[.ref a],[]⟩) (fun r s'=>r = .ok (.ret (.bool true)) ∧ OldK s₁.heap s'.heap ∧ s'.os = s₁.os ∧ AllBare s'.gens) s₁:=by
  have rv:=jjl hi
  have lenV:=hi.length
  have core:∀ H:Hp,jzw H → SqL K H a (ns.map V.int) → HOk P w H s₁.heap → (∀ b,H b ≠ none → b = a) → (H a ≠ none → K.lookup a = none) →
      codeAny (model P w) callerA (.call (.ref fa) ⟨[.ref a],[]⟩) (fun r s'=>r = .ok (.ret (.bool true)) ∧ OldK s₁.heap s'.heap ∧ s'.os = s₁.os ∧ AllBare s'.gens) s₁:=by
    intro H hO hS hok hA hK
    have base_of:∀ {b:Addr} {o:Obj},s₁.heap.get? b = some o → H b = none → (jqs s₁.heap H).get? b = some o:=fun e n=>jqr e n
    have noA:∀ {b:Addr} {o:Obj} {es:Array DictEntry} {ep:Nat},s₁.heap.get? b = some o → o.data = .dict es ep → H b = none:=fun {b o es ep} e d=>by
      cases q:H b with
      | none=>rfl
      | some u=>
        have e':b = a:=hA b (by rw [q]; simp)
        subst e'
        rw [ha] at e; cases e
        have d':Data.seq vs.toArray _ = Data.dict es ep:=d
        cases d'
    have nsK:∀ {b:Addr} {m:Str → Option Value},s₁.heap.Ns b m → (jqs s₁.heap H).Ns b m:=fun {b m} ⟨o,es,ep,e,d,r⟩=>⟨o,es,ep,base_of e (noA e d),d,r⟩
    have hKb:K.In (jqs s₁.heap H):=fun b o e=>base_of (KX b o e) (by
      cases q:H b with
      | none=>rfl
      | some u=>
        have e':b = a:=hA b (by rw [q]; simp)
        subst e'
        rw [hK (by rw [q]; simp)] at e; cases e)
    have hM:Mod K mg (jqs s₁.heap H):=⟨hKb,nsK hns,⟨mb,nsK hb,hbb⟩,let ⟨mc,h1,h2⟩:=hlim; ⟨mc,nsK h1,h2⟩⟩
    have e0:Env0 P w K mg (jqs s₁.heap H) callerA [] s₁ H:=⟨rfl,hM,fun b o e=>jsx e,Nat.le_of_eq (jnU _ _),trivial,fun b hb=>absurd (show b ∈ ([]:List Addr) from hb) (by simp),hok,.of_eq hg⟩
    refine codeAny_mono ((F _ hKb (nsK hns)).run callerA [] s₁ H ⟨[.ref a],[]⟩ [.ref a] [.ref a] _ _ hr e0 (hbind s₁ (.ref a)) (.cons rfl .nil) (hsp H hO hS)) fun r s' h=>?_
    cases r with
    | error e=>exact (hCX H e s' h).elim
    | ok fl=>
      cases fl with
      | next=>exact False.elim h
      | brk=>exact False.elim h
      | cont=>exact False.elim h
      | ret u=>
        obtain ⟨v,H',os,bare,un,hok',r',q⟩:=h
        have q':v = .bl true:=q
        subst q'
        obtain rfl:u = Value.bool true:=r'
        refine ⟨rfl,OldK.of_keep fun b o e=>?_,os,bare⟩
        cases q:H b with
        | none=>exact un.keep b o e q (by intro z; exact absurd (show b ∈ ([]:List Addr) from z) (by simp)) (by simp)
        | some u=>
          rcases hO b with z | ⟨ob,xs,z⟩
          · rw [q] at z; cases z
          · have z2:=un.frzs b ob _ z
            obtain ⟨e1,_⟩:=hok b _ z
            obtain ⟨e2,_⟩:=hok' b _ z2
            rw [e] at e1; cases e1
            exact e2
  cases hk:K.lookup a with
  | some o=>
    have e:=KX a o hk
    rw [ha] at e
    cases e
    refine core (fun _=>none) (fun _=>.inl rfl) (.inr ⟨_,vs.toArray,_,hk,rfl,rfl,rfl,by rw [List.size_toArray,lenV]; exact hl,by simpa using rv⟩) (fun b u z=>by have z':(none:Option HO) = some u:=z; cases z') (fun b z=>absurd rfl z) fun z=>absurd rfl z
  | none=>
    refine core (fun b=>if b = a then some (.frz { cls:=.type "list",data:=.seq vs.toArray } (.lst (ns.map V.int))) else none) (fun b=>?_) (.inl (.inr ⟨{ cls:=.type "list",data:=.seq vs.toArray },if_pos rfl⟩)) (fun b u z=>?_) (fun b z=>?_) fun _=>hk
    · by_cases hb:b = a
      · exact .inr ⟨_,_,if_pos hb⟩
      · exact .inl (if_neg hb)
    · by_cases hb:b = a
      · have z':=(if_pos hb).symm.trans z
        cases z'
        subst hb
        exact ⟨ha,by rw [List.length_map]; exact hl,vs,_,rv,ha⟩
      · have z':=(if_neg hb).symm.trans z
        cases z'
    · by_cases hb:b = a
      · exact hb
      · exact absurd (if_neg hb) z
end L2
namespace L2
open PySem PySem.Spec PyProof.Rows
abbrev KOf {K:PySem.W.Frag} {h:Heap} (_:K.In h):PySem.W.Frag:=K
theorem jrT {l:PySem.W.OpenLaw} {n k:Nat} {q:Program} {loose:List Str} {XP:(Str → Option Value) → Heap → Prop} {YP:World → Heap → Prop} {d:DefRec} {K:Params → PySem.W.Frag} {CX:World → CXT} {sp:World → Sp} {x:Str}
    (hn:l.most = some n) (hn2:n ≤ sizeLine) (hdf:d.params.defaults = []) (hr:Room k callerA)
    (hY:∀ (w:World) (h:Heap),YP w h → (K w.params).In h)
    (F:∀ (w:World) (mg:Str → Option Value) (fa:Addr) (h:Heap),(K w.params).In h → h.Ns mainGlobals mg → mg d.name = some (.ref fa) →
      ∃ fd:FuncData,(∀ (s:Shared) (u:Value),BindsTo s fd ⟨[u],[]⟩ [(x,u)]) ∧
        ∀ base:Heap,(K w.params).In base → base.Ns mainGlobals mg → FnOk l.prog w (K w.params) mg base (CX w) k fa fd [x] (sp w))
    (hsp:∀ (w:World) (H:Hp) (a:Addr) (ns:List Int),ns.length ≤ n → jzw H → SqL (K w.params) H a (ns.map V.int) → sp w [.ref a] H (fun v _=>v = .bl true) fun _ _ _=>False)
    (hCX:∀ (w:World) (H:Hp) (s:Shared) (e:Value) (s':Shared),CX w [] H s (fun _ _ _=>False) e s' → False) :
    PySem.W.WalkO q loose XP YP l.row.toRowW d [] (fun f vs=>PySem.call f vs):=by
  refine Att.jkV hn hdf fun w s₀ s₁ mg mb fa o pm cd doc a vs ns G Y ho hd hcd hmg hobj hints hlen hg=>?_
  have KX:=hY w _ Y
  obtain ⟨fd,hb,hF⟩:=F w mg fa _ KX G.T.g hmg
  exact jpW KX G.T.g G.T.b G.T.builtins G.T.nolimit hg hobj hints (Nat.le_trans hlen hn2) hr hF hb (fun H hO hS=>hsp w H a ns hlen hO hS) fun H e s'=>hCX w H s₁ e s'
end L2
namespace L2
open PySem PySem.Spec PyProof.Rows
def jcu (s:Stmt):Arguments:=match s with
  | .FunctionDef _ a _ _ _ _ _ _ _ _=>a
  | _=>{ posonlyargs:=[],args:=[],vararg:=none,kwonlyargs:=[],kw_defaults:=[],kwarg:=none,defaults:=[] }
def jbQ (s:Stmt):List Stmt:=match s with
  | .FunctionDef _ _ b _ _ _ _ _ _ _=>b
  | _=>[]
def jah (s:Stmt):Scope:=match s with
  | .FunctionDef _ _ _ _ _ _ sc _ _ _=>sc
  | _=>{ kind:=.function,names:=[],isGenerator:=false,isCoroutine:=false }
abbrev CX0:CXT:=fun _ _ _ _ _ _=>False
abbrev E0:XK:=fun _ _ _=>False
theorem jye {X:Cx}:jlO CX0 X E0:=fun _ _ _ _ _ _ _ h=>h.elim
structure Fun (K:PySem.W.Frag) (x qual:Str) (st:Stmt) (f:Addr) (fd:FuncData):Prop where
  ex:∃ (oc:Value) (od:Option Addr) (kV doc pm:Value) (an:Option Addr) (cdv ct:Value) (osl:Array (Option Value)),
    fd = PySem.W.fnOf x qual (jcu st) (jbQ st) (jah st) .none kV doc pm an cdv ct ∧ K.lookup f = some ⟨oc,od,.func fd,osl⟩ ∧ PySem.W.codeIn K cdv qual = true
  kp:PySem.W.keepIn K (.ref f) = true
section
variable {P:Program} {w:World} {K:PySem.W.Frag} {mg:Str → Option Value} {base:Heap}
theorem Fun.ok {x qual:Str} {st:Stmt} {f:Addr} {fd:FuncData} {N ps:List Str} {k:Nat} {sp:Sp} (F:Fun K x qual st f fd) (S:FnScope N ps (jah st)) (len:∀ vs H Q E,sp vs H Q E → vs.length = ps.length)
    (hbody:∀ (cdv:Value) (A:Around) (outer:List Env) (s:Shared) (H:Hp) (vs:List V) (Q:VK) (E:XK),Room k (A.deeper (envOfC qual (jah st) s.heap.objs.size f cdv)) → sp vs H Q E →
      ∃ t,PSs (jhX CX0 P w K mg base N qual (jah st) f cdv A outer s H E).nox (jbQ st) t ∧ t { nx:=fun _ H'=>Q .non H',rt:=Q } (start N vs) H):FnOk P w K mg base CX0 (k + 1) f fd ps sp:=by
  obtain ⟨oc,od,kV,doc,pm,an,cdv,ct,osl,rfl,lk,hcd⟩:=F.ex
  refine jta lk hcd S len fun A outer s H vs Q E hr hsp=>?_
  obtain ⟨t,h,q⟩:=hbody cdv A outer s H vs Q E hr hsp
  exact ⟨t,h.nox,q⟩
theorem Fun.binds {x qual:Str} {st:Stmt} {f:Addr} {fd:FuncData} {ps:List Str} (F:Fun K x qual st f fd)
    (h:∀ (kV doc pm:Value) (an:Option Addr) (cdv ct:Value) (us:List Value),us.length = ps.length → bindArgs (PySem.W.fnOf x qual (jcu st) (jbQ st) (jah st) .none kV doc pm an cdv ct) ⟨us,[]⟩ = pure (ps.zip us)):Binds K fd ps []:=by
  obtain ⟨oc,od,kV,doc,pm,an,cdv,ct,osl,rfl,lk,hcd⟩:=F.ex
  exact .all (h kV doc pm an cdv ct)
end
section
variable {X:Cx}
end
def Same (H H':Hp):Prop:=∀ b o,H b = some o → H' b = some o
theorem Same.refl (H:Hp):Same H H:=fun _ _ h=>h
theorem Same.trans {H H1 H2:Hp} (a:Same H H1) (b:Same H1 H2):Same H H2:=fun c o h=>b c o (a c o h)
theorem Same.free {H H':Hp} (e:Same H H') {l:Addr} (h:H' l = Option.none):H l = Option.none:=by
  cases q:H l with
  | none=>rfl
  | some o=>
    rw [e l o q] at h
    cases h
theorem Same.seq {K:PySem.W.Frag} {H H':Hp} {a:Addr} {xs:List V} (e:Same H H') (h:SqL K H a xs):SqL K H' a xs:=by
  rcases h with (h | ⟨o,h⟩) | h
  · exact .inl (.inl (e _ _ h))
  · exact .inl (.inr ⟨o,e _ _ h⟩)
  · exact .inr h
end L2
set_option Elab.async false
set_option linter.all false
set_option maxRecDepth 100000
set_option maxHeartbeats 4000000
namespace VL
open PySem L2
abbrev D:=PyData
inductive Sl where
  | un | fz (d:D) | ow (ds:List D)
abbrev Dv:=List Sl
inductive Fl where
  | nx | bk | ct | rt (d:D)
abbrev Sf:=Dv → Option (Fl × Dv)
@[simp] def o2 (f1 f2:Dv → Option D) (g:D → D → Option D):Dv → Option D:=fun δ=>(f1 δ).bind fun x=>(f2 δ).bind fun y=>g x y
@[simp] def o1 (f:Dv → Option D) (g:D → Option D):Dv → Option D:=fun δ=>(f δ).bind g
@[simp] def os (f:Dv → Option (List D)) (g:List D → Option D):Dv → Option D:=fun δ=>(f δ).bind g
def asB:D → Option Bool
  | .bool b=>some b
  | _=>none
@[simp] theorem jqH (b:Bool):asB (.bool b) = some b:=rfl
@[simp] def ob (f:Dv → Option D):Dv → Option Bool:=fun δ=>(f δ).bind asB
@[simp] def jnp (t u:Dv → Option Bool):Dv → Option Bool:=fun δ=>(t δ).bind fun b=>if b = true then u δ else some false
@[simp] def oOr (t u:Dv → Option Bool):Dv → Option Bool:=fun δ=>(t δ).bind fun b=>if b = true then some true else u δ
@[simp] def jlq (t:Dv → Option Bool):Dv → Option Bool:=fun δ=>(t δ).map (!·)
@[simp] def jmc (f1 f2:Dv → Option D):Dv → Option D:=fun δ=>(f1 δ).bind fun x=>(asB x).bind fun b=>if b = true then f2 δ else some (.bool false)
@[simp] def jBr (f1 f2:Dv → Option D):Dv → Option D:=fun δ=>(f1 δ).bind fun x=>(asB x).bind fun b=>if b = true then some (.bool true) else f2 δ
@[simp] def jBs (d:D):Option D:=(asB d).map fun b=>.bool (!b)
@[simp] def oIf (t:Dv → Option Bool) (f1 f2:Dv → Option D):Dv → Option D:=fun δ=>(t δ).bind fun b=>if b = true then f1 δ else f2 δ
def slV:Option Sl → Option D
  | some (.fz d)=>some d
  | _=>none
@[simp] theorem jzB (d:D):slV (some (.fz d)) = some d:=rfl
@[simp] def oV (i:Nat):Dv → Option D:=fun δ=>slV δ[i]?
@[simp] def oC (d:D):Dv → Option D:=fun _=>some d
@[simp] def jal:Dv → Option (List D):=fun _=>some []
@[simp] def jac (f:Dv → Option D) (fs:Dv → Option (List D)):Dv → Option (List D):=fun δ=>(f δ).bind fun x=>(fs δ).bind fun xs=>some (x :: xs)
def jbm (ds:List D):Option D:=if ds.length ≤ sizeLine then some (.tuple ds) else none
def jdG (ds:List D):Option D:=if ds.length ≤ sizeLine then some (.list ds) else none
theorem jfX {ds:List D} (h:ds.length ≤ 16777216):jbm ds = some (.tuple ds):=if_pos h
theorem jf4 {ds:List D} (h:ds.length ≤ 16777216):jdG ds = some (.list ds):=if_pos h
@[simp] theorem jz3:jbm [] = some (.tuple []):=rfl
@[simp] theorem jz2 (a:D):jbm [a] = some (.tuple [a]):=jfX (by simp)
@[simp] theorem jz1 (a b:D):jbm [a,b] = some (.tuple [a,b]):=jfX (by simp)
@[simp] theorem jz0 (a b c:D):jbm [a,b,c] = some (.tuple [a,b,c]):=jfX (by simp)
@[simp] theorem jzZ (a b c d:D):jbm [a,b,c,d] = some (.tuple [a,b,c,d]):=jfX (by simp)
@[simp] theorem jzY (a b c d e:D):jbm [a,b,c,d,e] = some (.tuple [a,b,c,d,e]):=jfX (by simp)
@[simp] theorem jzX (a b c d e f g h:D):jbm [a,b,c,d,e,f,g,h] = some (.tuple [a,b,c,d,e,f,g,h]):=jfX (by simp)
@[simp] theorem jAR:jdG [] = some (.list []):=rfl
@[simp] theorem jAQ (a:D):jdG [a] = some (.list [a]):=jf4 (by simp)
@[simp] theorem jAP (a b:D):jdG [a,b] = some (.list [a,b]):=jf4 (by simp)
@[simp] theorem jAO (a b c:D):jdG [a,b,c] = some (.list [a,b,c]):=jf4 (by simp)
@[simp] theorem jAN (a b c d:D):jdG [a,b,c,d] = some (.list [a,b,c,d]):=jf4 (by simp)
@[simp] theorem jAM (a b c d e:D):jdG [a,b,c,d,e] = some (.list [a,b,c,d,e]):=jf4 (by simp)
instance (i j:Int):Decidable (IntMulOk i j):=by unfold IntMulOk; infer_instance
def iI (g:Int → Int → Int):D → D → Option D
  | .int i,.int j=>some (.int (g i j))
  | _,_=>none
def iC (C:Int → Int → Bool) (g:Int → Int → Int):D → D → Option D
  | .int i,.int j=>if C i j = true then some (.int (g i j)) else none
  | _,_=>none
def iB (g:Int → Int → Bool):D → D → Option D
  | .int i,.int j=>some (.bool (g i j))
  | _,_=>none
@[simp] theorem jzN (g:Int → Int → Int) (i j:Int):iI g (.int i) (.int j) = some (.int (g i j)):=rfl
@[simp] theorem jzO (g:Int → Int → Bool) (i j:Int):iB g (.int i) (.int j) = some (.bool (g i j)):=rfl
theorem jid {C:Int → Int → Bool} {g:Int → Int → Int} {i j:Int} (h:C i j = true):iC C g (.int i) (.int j) = some (.int (g i j)):=if_pos h
def jBe (i j:Int):Bool:=decide (IntMulOk i j)
def jBg (i j:Int):Bool:=decide (0 < j ∧ j < 1073741824)
def jBf (i j:Int):Bool:=decide (0 < j)
def jBd (i j:Int):Bool:=decide (0 ≤ j ∧ j ≤ 1000000 ∧ i.natAbs < 2 ^ 64)
def jBc (i j:Int):Bool:=decide (0 ≤ j ∧ (Builtin.Int.intBits i:Int) + j ≤ 2 ^ 27)
def jBb (i j:Int):Bool:=decide (0 ≤ j)
abbrev jcf:=iI fun i j=>i - j
abbrev jeA:=iC jBe fun i j=>i * j
abbrev jcB:=iC jBg fun i j=>i / j
abbrev jbu:=iC jBf fun i j=>i % j
abbrev jl2:=iC jBd fun i j=>i ^ j.toNat
abbrev jeC:=iC jBc fun i j=>i * 2 ^ j.toNat
abbrev joG:=iC jBb fun i j=>i / 2 ^ j.toNat
abbrev jmw:=iI Builtin.bitAnd
abbrev orD:=iI Builtin.bitOr
abbrev joV:=iI Builtin.bitXor
abbrev ltD:=iB fun i j=>decide (i < j)
abbrev leD:=iB fun i j=>decide (i ≤ j)
abbrev gtD:=iB fun i j=>decide (j < i)
abbrev geD:=iB fun i j=>decide (j ≤ i)
@[simp] theorem jgO {i j:Int} (h:IntMulOk i j):jeA (.int i) (.int j) = some (.int (i * j)):=jid (decide_eq_true h)
@[simp] theorem jqu {i j:Int} (h:0 < j) (h2:j < 1073741824):jcB (.int i) (.int j) = some (.int (i / j)):=jid (decide_eq_true ⟨h,h2⟩)
@[simp] theorem jfH {i j:Int} (h:0 < j):jbu (.int i) (.int j) = some (.int (i % j)):=jid (decide_eq_true h)
@[simp] theorem jiK {i j:Int} (h:0 ≤ j) (h2:j ≤ 1000000) (h3:i.natAbs < 2 ^ 64):jl2 (.int i) (.int j) = some (.int (i ^ j.toNat)):=jid (decide_eq_true ⟨h,h2,h3⟩)
theorem jgI {i j:Int} (h:0 ≤ j) (h2:(Builtin.Int.intBits i:Int) + j ≤ 2 ^ 27):jeC (.int i) (.int j) = some (.int (i * 2 ^ j.toNat)):=jid (decide_eq_true ⟨h,h2⟩)
@[simp] theorem jwu {i j:Int} (h:0 ≤ j):joG (.int i) (.int j) = some (.int (i / 2 ^ j.toNat)):=jid (decide_eq_true h)
def negD:D → Option D
  | .int i=>some (.int (-i))
  | _=>none
@[simp] theorem jwC (i:Int):negD (.int i) = some (.int (-i)):=rfl
def ja6:D → D → Option D
  | .int i,.int j=>some (.int (i + j))
  | .str x,.str y=>if x.length + y.length ≤ sizeLine then some (.str (x ++ y)) else none
  | .list xs,.list ys=>if xs.length + ys.length ≤ sizeLine then some (.list (xs ++ ys)) else none
  | .tuple xs,.tuple ys=>if xs.length + ys.length ≤ sizeLine then some (.tuple (xs ++ ys)) else none
  | _,_=>none
@[simp] theorem jqL (i j:Int):ja6 (.int i) (.int j) = some (.int (i + j)):=rfl
def shp (d:D):Bool:=PySem.SeqAt.shaped d
def eqD:D → D → Option D:=fun a b=>if shp a = true ∧ shp b = true then some (.bool (PyData.eqv a b)) else none
def neD:D → D → Option D:=fun a b=>if shp a = true ∧ shp b = true then some (.bool (!PyData.eqv a b)) else none
@[simp] theorem jth (i j:Int):eqD (.int i) (.int j) = some (.bool (i == j)):=rfl
@[simp] theorem jyu (i j:Int):neD (.int i) (.int j) = some (.bool (!(i == j))):=rfl
@[simp] theorem jwY (i j:Bool):eqD (.bool i) (.bool j) = some (.bool (i == j)):=rfl
@[simp] theorem jwD (i j:Bool):neD (.bool i) (.bool j) = some (.bool (!(i == j))):=rfl
def isN (d:D):Bool:=match d with
  | .none=>true
  | _=>false
def isD:D → D → Option D:=fun a b=>match b with
  | .none=>some (.bool (isN a))
  | _=>none
def jnQ:D → D → Option D:=fun a b=>match b with
  | .none=>some (.bool (!isN a))
  | _=>none
@[simp] theorem jwL (a:D):isD a .none = some (.bool (isN a)):=rfl
@[simp] theorem jtW (a:D):jnQ a .none = some (.bool (!isN a)):=rfl
@[simp] theorem jwK:isN .none = true:=rfl
@[simp] theorem jyU (i:Int):isN (.int i) = false:=rfl
def ixD:D → D → Option D
  | .list xs,.int i=>atI xs i
  | .tuple xs,.int i=>atI xs i
  | _,_=>none
@[simp] theorem jqm (xs:List D) (i:Int):ixD (.list xs) (.int i) = atI xs i:=rfl
@[simp] theorem jvB (xs:List D) (i:Int):ixD (.tuple xs) (.int i) = atI xs i:=rfl
theorem jdl {α:Type} {xs:List α} {i:Int} {j:Nat} {v:α} (hi:i = j) (h:xs[j]? = some v):atI xs i = some v:=by
  have hl:j < xs.length:=(List.getElem?_eq_some_iff.mp h).1
  subst hi
  unfold atI ixN
  rw [if_pos (by omega),if_pos (by omega)]
  simpa using h
@[simp] theorem at0 {α:Type} (a:α) (r:List α):atI (a :: r) 0 = some a:=jdl (j:=0) rfl rfl
@[simp] theorem at1 {α:Type} (a b:α) (r:List α):atI (a :: b :: r) 1 = some b:=jdl (j:=1) rfl rfl
@[simp] theorem at2 {α:Type} (a b c:α) (r:List α):atI (a :: b :: c :: r) 2 = some c:=jdl (j:=2) rfl rfl
@[simp] theorem at3 {α:Type} (a b c d:α) (r:List α):atI (a :: b :: c :: d :: r) 3 = some d:=jdl (j:=3) rfl rfl
@[simp] theorem at4 {α:Type} (a b c d e:α) (r:List α):atI (a :: b :: c :: d :: e :: r) 4 = some e:=jdl (j:=4) rfl rfl
@[simp] theorem at5 {α:Type} (a b c d e f:α) (r:List α):atI (a :: b :: c :: d :: e :: f :: r) 5 = some f:=jdl (j:=5) rfl rfl
@[simp] theorem at6 {α:Type} (a b c d e f g:α) (r:List α):atI (a :: b :: c :: d :: e :: f :: g :: r) 6 = some g:=jdl (j:=6) rfl rfl
@[simp] theorem at7 {α:Type} (a b c d e f g h:α) (r:List α):atI (a :: b :: c :: d :: e :: f :: g :: h :: r) 7 = some h:=jdl (j:=7) rfl rfl
def jcq:List D → Option D
  | [.list xs]=>some (.int xs.length)
  | [.tuple xs]=>some (.int xs.length)
  | _=>none
@[simp] theorem jvs (xs:List D):jcq [.list xs] = some (.int xs.length):=rfl
@[simp] theorem jtR (xs:List D):jcq [.tuple xs] = some (.int xs.length):=rfl
def jwF:List D → Option D
  | [.int i,.int j]=>some (.int (if j < i then j else i))
  | _=>none
def jnC:List D → Option D
  | [.int i,.int j]=>some (.int (if j > i then j else i))
  | _=>none
@[simp] theorem jwE (i j:Int):jwF [.int i,.int j] = some (.int (if j < i then j else i)):=rfl
@[simp] theorem jgP (i j:Int):jnC [.int i,.int j] = some (.int (if j > i then j else i)):=rfl
def jzL:List D → Option D
  | [.int i]=>some (.int i)
  | [.bool b]=>some (.int (if b then 1 else 0))
  | _=>none
@[simp] theorem jwR (i:Int):jzL [.int i] = some (.int i):=rfl
@[simp] theorem jvJ (b:Bool):jzL [.bool b] = some (.int (if b then 1 else 0)):=rfl
def jmg:List D → Option D
  | [.list xs]=>some (.list xs)
  | [.tuple xs]=>some (.list xs)
  | _=>none
@[simp] theorem jtQ (xs:List D):jmg [.list xs] = some (.list xs):=rfl
@[simp] theorem jsO (xs:List D):jmg [.tuple xs] = some (.list xs):=rfl
def jc7:List D → Option D
  | [.list xs]=>some (.tuple xs)
  | [.tuple xs]=>some (.tuple xs)
  | _=>none
@[simp] theorem jrX (xs:List D):jc7 [.list xs] = some (.tuple xs):=rfl
@[simp] theorem jqR (xs:List D):jc7 [.tuple xs] = some (.tuple xs):=rfl
def jkK:D → Option D
  | .int i=>some (.int (Builtin.Int.intBits i))
  | _=>none
@[simp] theorem jop (i:Int):jkK (.int i) = some (.int (Builtin.Int.intBits i)):=rfl
def tyN:D → String
  | .none=>"NoneType"
  | .bool _=>"bool"
  | .int _=>"int"
  | .str _=>"str"
  | .list _=>"list"
  | .tuple _=>"tuple"
  | .dict _=>"dict"
def jyR (t T:String):Bool:=t == T || (t == "bool" && T == "int")
def jqq:D → Bool
  | .dict _=>true
  | _=>false
def jmj (T:String) (d:D):Option D:=if jqq d = true then none else if T = "int" ∨ T = "bool" ∨ T = "str" ∨ T = "list" ∨ T = "tuple" then some (.bool (jyR (tyN d) T)) else none
@[simp] theorem js2 (i:Int):jmj "int" (.int i) = some (.bool true):=rfl
@[simp] theorem jrC (i:Int):jmj "bool" (.int i) = some (.bool false):=rfl
@[simp] theorem jrB (i:Bool):jmj "int" (.bool i) = some (.bool true):=rfl
@[simp] theorem jqp (i:Bool):jmj "bool" (.bool i) = some (.bool true):=rfl
@[simp] theorem jnR (xs:List D):jmj "tuple" (.tuple xs) = some (.bool true):=rfl
@[simp] theorem jqo (xs:List D):jmj "list" (.list xs) = some (.bool true):=rfl
@[simp] def jbx (f:Dv → Option D):Sf:=fun δ=>(f δ).bind fun d=>some (.rt d,δ)
@[simp] def jaF (i:Nat) (f:Dv → Option D):Sf:=fun δ=>(f δ).bind fun d=>some (.nx,δ.set i (.fz d))
@[simp] def jjz (f:Dv → Option D):Sf:=fun δ=>(f δ).bind fun _=>some (.nx,δ)
@[simp] def sNx:Sf:=fun δ=>some (.nx,δ)
@[simp] def sBk:Sf:=fun δ=>some (.bk,δ)
@[simp] def sCt:Sf:=fun δ=>some (.ct,δ)
@[simp] def jam (s t:Sf):Sf:=fun δ=>(s δ).bind fun r=>match r with
  | (.nx,δ')=>t δ'
  | r=>some r
@[simp] def sIf (t:Dv → Option Bool) (u w:Sf):Sf:=fun δ=>(t δ).bind fun c=>if c = true then u δ else w δ
def dFz (i:Nat) (δ:Dv):Dv:=match δ[i]? with
  | some (.ow ds)=>δ.set i (.fz (.list ds))
  | _=>δ
@[simp] def gN (i:Nat):D → Dv → Option Dv:=fun d δ=>some (δ.set i (.fz d))
def loop (g:D → Dv → Option Dv) (b:Sf):List D → Sf
  | [],δ=>some (.nx,δ)
  | d :: ds,δ=>(g d δ).bind fun δ1=>(b δ1).bind fun r=>match r with
    | (.nx,δ2)=>loop g b ds δ2
    | (.ct,δ2)=>loop g b ds δ2
    | (.bk,δ2)=>some (.nx,δ2)
    | (.rt x,δ2)=>some (.rt x,δ2)
@[simp] theorem jwG (g:D → Dv → Option Dv) (b:Sf) (δ:Dv):loop g b [] δ = some (.nx,δ):=rfl
@[simp] def jg7 (f:Dv → Option (List D)) (g:D → Dv → Option Dv) (b:Sf):Sf:=fun δ=>(f δ).bind fun ds=>loop g b ds δ
def jke (lo:Int) (n:Nat):List D:=(List.range n).map fun k=>.int (lo + (k:Nat))
def jbz:List D → Option (List D)
  | [.int j]=>if j < 2 ^ 62 ∧ -(2 ^ 62) ≤ j then some (jke 0 j.toNat) else none
  | _=>none
theorem jg8 {j:Int} (h:j < 4611686018427387904) (h2:-4611686018427387904 ≤ j):jbz [.int j] = some (jke 0 j.toNat):=if_pos ⟨h,h2⟩
@[simp] def oL (fs:Dv → Option (List D)) (g:List D → Option (List D)):Dv → Option (List D):=fun δ=>(fs δ).bind g
def je6:D → Option (List D)
  | .list xs=>some xs
  | .tuple xs=>some xs
  | _=>none
@[simp] theorem jvE (xs:List D):je6 (.list xs) = some xs:=rfl
@[simp] theorem jmi (xs:List D):je6 (.tuple xs) = some xs:=rfl
def jtN:D → Option (List D)
  | .list xs=>some xs
  | _=>none
def jzW:D → Option (List D)
  | .tuple xs=>some xs
  | _=>none
@[simp] def oI (f:Dv → Option D) (g:D → Option (List D)):Dv → Option (List D):=fun δ=>(f δ).bind g
@[simp] def oNo:Dv → Option (Option Int):=fun _=>some none
def asI:D → Option (Option Int)
  | .int i=>some (some i)
  | _=>none
@[simp] theorem jzr (i:Int):asI (.int i) = some (some i):=rfl
@[simp] def oP (f:Dv → Option D):Dv → Option (Option Int):=fun δ=>(f δ).bind asI
def jkg (xs:List D) (lo hi:Option Int):List D:=(xs.drop (HT.sIx xs.length 0 lo)).take (HT.sIx xs.length xs.length hi - HT.sIx xs.length 0 lo)
def slD:D → Option Int → Option Int → Option D
  | .list xs,lo,hi=>some (.list (jkg xs lo hi))
  | .tuple xs,lo,hi=>some (.tuple (jkg xs lo hi))
  | _,_,_=>none
@[simp] def oSl (f:Dv → Option D) (l u:Dv → Option (Option Int)):Dv → Option D:=fun δ=>(f δ).bind fun x=>(l δ).bind fun i=>(u δ).bind fun j=>slD x i j
def jan (N:List Str) (as:List D):Dv:=as.map .fz ++ List.replicate (N.length - as.length) .un
def runB (N:List Str) (n:Nat) (b:Sf):List D → Option D:=fun as=>if as.length = n then (b (jan N as)).bind fun r=>match r with
    | (.rt d,_)=>some d
    | (.nx,_)=>some .none
    | _=>none
  else none
end VL
set_option Elab.async false
set_option linter.all false
set_option maxRecDepth 100000
set_option maxHeartbeats 4000000
namespace VL
open PySem PySem.Spec PyProof.Rows L2
abbrev Fg:=PySem.W.Frag
abbrev St:=L2.St
def exO (a C:Addr):HO:=.ext fun h=>∃ o,h.get? a = some o ∧ o.cls = .ref C
inductive Opq (K:Fg) (Z:Hp) (a:Addr):List (D × D) → Prop
  | exc {n:Str} {C:Addr}:PySem.W.nsIn K mainGlobals n = some (some (.ref C)) → Z a = some (exO a C) → Opq K Z a [(.str "exc",.str n)]
  | fn {n:Str}:PySem.W.nsIn K mainGlobals n = some (some (.ref a)) → Opq K Z a [(.str "fn",.str n)]
theorem Opq.same {K:Fg} {Z Z':Hp} {a:Addr} {kvs:List (D × D)} (s:Same Z Z') (h:Opq K Z a kvs):Opq K Z' a kvs:=by
  cases h with
  | exc h1 h2=>exact .exc h1 (s _ _ h2)
  | fn h1=>exact .fn h1
mutual
inductive Rep (K:Fg) (Z:Hp):V → D → Prop
  | non:Rep K Z .non .none
  | bl (b:Bool):Rep K Z (.bl b) (.bool b)
  | int (i:Int):Rep K Z (.int i) (.int i)
  | str (x:Str):Rep K Z (.str x) (.str x)
  | tup {a:Addr} {xs:List V} {ds:List D}:SqT K Z a xs → Reps K Z xs ds → Rep K Z (.ref a) (.tuple ds)
  | lst {a:Addr} {xs:List V} {ds:List D}:SqL K Z a xs → Reps K Z xs ds → Rep K Z (.ref a) (.list ds)
  | opq {a:Addr} {kvs:List (D × D)}:Opq K Z a kvs → Rep K Z (.ref a) (.dict kvs)
inductive Reps (K:Fg) (Z:Hp):List V → List D → Prop
  | nil:Reps K Z [] []
  | cons {v:V} {d:D} {vs:List V} {ds:List D}:Rep K Z v d → Reps K Z vs ds → Reps K Z (v :: vs) (d :: ds)
end
theorem Rd.same {H H':Hp} {a:Addr} {u:HO} (h:Rd H a u) (s:Same H H'):Rd H' a u:=by
  rcases h with h | ⟨o,h⟩
  · exact .inl (s _ _ h)
  · exact .inr ⟨o,s _ _ h⟩
theorem SqT.same {K:Fg} {H H':Hp} {a:Addr} {xs:List V} (h:SqT K H a xs) (s:Same H H'):SqT K H' a xs:=by
  rcases h with h | h
  · exact .inl (Rd.same h s)
  · exact .inr h
theorem SqL.same {K:Fg} {H H':Hp} {a:Addr} {xs:List V} (h:SqL K H a xs) (s:Same H H'):SqL K H' a xs:=by
  rcases h with h | h
  · exact .inl (Rd.same h s)
  · exact .inr h
mutual
theorem Rep.same {K:Fg} {Z Z':Hp} (s:Same Z Z'):∀ {v:V} {d:D},Rep K Z v d → Rep K Z' v d
  | _,_,.non=>.non
  | _,_,.bl b=>.bl b
  | _,_,.int i=>.int i
  | _,_,.str x=>.str x
  | _,_,.tup h r=>.tup (SqT.same h s) (Reps.same s r)
  | _,_,.lst h r=>.lst (SqL.same h s) (Reps.same s r)
  | _,_,.opq h=>.opq (Opq.same s h)
theorem Reps.same {K:Fg} {Z Z':Hp} (s:Same Z Z'):∀ {vs:List V} {ds:List D},Reps K Z vs ds → Reps K Z' vs ds
  | _,_,.nil=>.nil
  | _,_,.cons h r=>.cons (Rep.same s h) (Reps.same s r)
end
theorem Reps.length {K:Fg} {Z:Hp}:∀ {vs:List V} {ds:List D},Reps K Z vs ds → vs.length = ds.length
  | _,_,.nil=>rfl
  | _,_,.cons _ r=>congrArg (· + 1) (Reps.length r)
theorem Reps.get {K:Fg} {Z:Hp}:∀ {vs:List V} {ds:List D} {i:Nat} {d:D},Reps K Z vs ds → ds[i]? = some d → ∃ v,vs[i]? = some v ∧ Rep K Z v d
  | _,_,_,_,.nil,e=>by simp at e
  | _,_,0,_,.cons r _,e=>by simp at e; subst e; exact ⟨_,rfl,r⟩
  | _,_,i + 1,d,.cons _ t,e=>by
    obtain ⟨u,h1,h2⟩:=Reps.get (i:=i) (d:=d) t (by simpa using e)
    exact ⟨u,by simpa using h1,h2⟩
theorem Reps.set {K:Fg} {Z:Hp} {x:V} {u:D} (r:Rep K Z x u):∀ {xs:List V} {us:List D} (i:Nat),Reps K Z xs us → Reps K Z (xs.set i x) (us.set i u)
  | _,_,_,.nil=>.nil
  | _,_,0,.cons _ t=>.cons r t
  | _,_,i + 1,.cons q t=>.cons q (Reps.set r i t)
theorem Reps.append {K:Fg} {Z:Hp}:∀ {xs ys:List V} {us ws:List D},Reps K Z xs us → Reps K Z ys ws → Reps K Z (xs ++ ys) (us ++ ws)
  | _,_,_,_,.nil,s=>s
  | _,_,_,_,.cons r t,s=>.cons r (Reps.append t s)
theorem Reps.take {K:Fg} {Z:Hp}:∀ {xs:List V} {us:List D} (n:Nat),Reps K Z xs us → Reps K Z (xs.take n) (us.take n)
  | _,_,0,_=>.nil
  | _,_,_ + 1,.nil=>.nil
  | _,_,n + 1,.cons r t=>.cons r (Reps.take n t)
theorem Reps.drop {K:Fg} {Z:Hp}:∀ {xs:List V} {us:List D} (n:Nat),Reps K Z xs us → Reps K Z (xs.drop n) (us.drop n)
  | _,_,0,r=>r
  | _,_,_ + 1,.nil=>.nil
  | _,_,n + 1,.cons _ t=>Reps.drop n t
theorem Rep.int_eq {K:Fg} {Z:Hp} {v:V} {i:Int} (h:Rep K Z v (.int i)):v = .int i:=by cases h; rfl
theorem Rep.bl_eq {K:Fg} {Z:Hp} {v:V} {b:Bool} (h:Rep K Z v (.bool b)):v = .bl b:=by cases h; rfl
theorem Reps.ints {K:Fg} {Z:Hp}:∀ ns:List Int,Reps K Z (ns.map V.int) (ns.map PyData.int)
  | []=>.nil
  | n :: r=>.cons (.int n) (Reps.ints r)
mutual
theorem Rep.reads {X:Cx} {pins:List (Addr × Obj)} {σ:St} {H Z:Hp} {s:Shared} (I:Inv X pins σ H s) (zh:Same Z H):∀ {v:V} {d:D} {u:Value},Rep X.K Z v d → RelV v u → d.canLay0 = true → ∃ as,Reads s.heap u d as
  | _,_,u,.non,r,_=>by cases (show u = Value.none from r); exact ⟨_,.none⟩
  | _,_,u,.bl b,r,_=>by cases (show u = Value.bool b from r); exact ⟨_,.bool b⟩
  | _,_,u,.int i,r,_=>by obtain ⟨t,rfl⟩:=(show ∃ t,u = Value.int i t from r); exact ⟨_,.int i t⟩
  | _,_,u,.str x,r,_=>by obtain ⟨t,rfl⟩:=(show ∃ t,u = Value.str x t from r); exact ⟨_,.str x t⟩
  | _,_,u,.tup (a:=a) h q,r,hc=>by
    cases (show u = Value.ref a from r)
    obtain ⟨its,rv,ht,_⟩:=I.tuple (SqT.same h zh)
    obtain ⟨as,ra⟩:=Reps.reads I zh q rv hc
    obtain ⟨o,e,c,n,dd⟩:=ht
    exact ⟨_,reads_tuple_at e c dd (by simpa using ra)⟩
  | _,_,u,.lst (a:=a) h q,r,hc=>by
    cases (show u = Value.ref a from r)
    obtain ⟨its,rv,ht,_⟩:=I.list (SqL.same h zh)
    obtain ⟨as,ra⟩:=Reps.reads I zh q rv hc
    obtain ⟨o,n,e,c,_,dd⟩:=ht
    exact ⟨_,reads_list_at e c dd (by simpa using ra)⟩
  | _,_,u,.opq h,r,hc=>by cases hc
theorem Reps.reads {X:Cx} {pins:List (Addr × Obj)} {σ:St} {H Z:Hp} {s:Shared} (I:Inv X pins σ H s) (zh:Same Z H):∀ {vs:List V} {ds:List D} {us:List Value},Reps X.K Z vs ds → Vals vs us → PyData.canLayAll0 ds = true → ∃ as,ReadsAll s.heap us ds as
  | _,_,_,.nil,.nil,_=>⟨_,.nil⟩
  | _,_,_,.cons h q,.cons r t,hc=>by
    have hc':=Bool.and_eq_true_iff.mp hc
    obtain ⟨as,ha⟩:=Rep.reads I zh h r hc'.1
    obtain ⟨bs,hb⟩:=Reps.reads I zh q t hc'.2
    exact ⟨_,.cons ha hb⟩
end
structure New (Z H Z' H':Hp):Prop where
  z:Same Z Z'
  h:Same H H'
  zh:Same Z' H'
  o:∀ b,H b ≠ none → Z' b = Z b
theorem New.refl {Z H:Hp} (zh:Same Z H):New Z H Z H:=⟨Same.refl _,Same.refl _,zh,fun _ _=>rfl⟩
theorem New.trans {Z H Z1 H1 Z2 H2:Hp} (a:New Z H Z1 H1) (b:New Z1 H1 Z2 H2):New Z H Z2 H2:=
  ⟨a.z.trans b.z,a.h.trans b.h,b.zh,fun c hc=>by
    have:H1 c ≠ none:=by
      cases e:H c with
      | none=>exact absurd e hc
      | some o=>rw [a.h c o e]; intro z; cases z
    rw [b.o c this,a.o c hc]⟩
theorem jeY {H:Hp} {p:Addr} {o:HO} (h:H p = none):Same H (upd H p o):=fun b u e=>by
  rw [ja4 (ja8 e h)]; exact e
theorem jkz {Z H:Hp} (zh:Same Z H) {p:Addr} (h:H p = none):Z p = none:=by
  cases e:Z p with
  | none=>rfl
  | some o=>rw [zh p o e] at h; cases h
theorem New.add {Z H:Hp} (zh:Same Z H) {p:Addr} (hp:H p = none) (o:HO):New Z H (upd Z p o) (upd H p o) where
  z:=jeY (jkz zh hp)
  h:=jeY hp
  zh:=fun b u e=>by
    by_cases hb:b = p
    · subst hb; rw [jaV] at e ⊢; exact e
    · rw [ja4 hb] at e ⊢; exact zh b u e
  o:=fun b hb=>by
    have:b ≠ p:=fun z=>hb (z ▸ hp)
    rw [ja4 this]
structure Hold (K:Fg) (H₀ Z₀ Z:Hp) (δ:Dv) (σ:St) (H:Hp):Prop where
  zh:Same Z H
  h0:Same H₀ H
  z0:Same Z₀ Z
  zb:∀ b,H₀ b ≠ none → Z b = Z₀ b
  len:δ.length = σ.length
  fz:∀ (i:Nat) d,δ[i]? = some (.fz d) → ∃ v,σ[i]? = some (some v) ∧ Rep K Z v d
  ow:∀ (i:Nat) ds,δ[i]? = some (.ow ds) → ∃ a xs,σ[i]? = some (some (.ref a)) ∧ H₀ a = none ∧ Z a = none ∧ H a = some (.lst xs) ∧ Reps K Z xs ds
  dj:∀ (i j:Nat) ds es a,i ≠ j → δ[i]? = some (.ow ds) → δ[j]? = some (.ow es) → σ[i]? = some (some (.ref a)) → σ[j]? ≠ some (some (V.ref a))
section
variable {K:Fg} {H₀ Z₀ Z Z' H H':Hp} {δ:Dv} {σ:St}
theorem Hold.new (h:Hold K H₀ Z₀ Z δ σ H) (n:New Z H Z' H'):Hold K H₀ Z₀ Z' δ σ H' where
  zh:=n.zh
  h0:=h.h0.trans n.h
  z0:=h.z0.trans n.z
  zb:=fun b hb=>by
    have:H b ≠ none:=by
      cases e:H₀ b with
      | none=>exact absurd e hb
      | some o=>rw [h.h0 b o e]; intro z; cases z
    rw [n.o b this,h.zb b hb]
  len:=h.len
  fz:=fun i d e=>let ⟨v,a,r⟩:=h.fz i d e; ⟨v,a,r.same n.z⟩
  ow:=fun i ds e=>by
    obtain ⟨a,xs,h1,h2,h3,h4,h5⟩:=h.ow i ds e
    exact ⟨a,xs,h1,h2,by rw [n.o a (by rw [h4]; intro z; cases z)]; exact h3,n.h a _ h4,h5.same n.z⟩
  dj:=h.dj
theorem Hold.set (h:Hold K H₀ Z₀ Z δ σ H) {i:Nat} {v:V} {d:D} (r:Rep K Z v d):Hold K H₀ Z₀ Z (δ.set i (.fz d)) (σ.set i (some v)) H where
  zh:=h.zh
  h0:=h.h0
  z0:=h.z0
  zb:=h.zb
  len:=by simp [h.len]
  fz:=fun j e q=>by
    by_cases hj:i = j
    · subst hj
      have hl:i < δ.length:=by
        have:=(List.getElem?_eq_some_iff.mp q).1
        simpa using this
      rw [List.getElem?_set_self hl] at q
      cases q
      exact ⟨v,List.getElem?_set_self (by rw [← h.len]; exact hl),r⟩
    · rw [List.getElem?_set_ne hj] at q
      obtain ⟨u,a,b⟩:=h.fz j e q
      exact ⟨u,by rw [List.getElem?_set_ne hj]; exact a,b⟩
  ow:=fun j es q=>by
    by_cases hj:i = j
    · subst hj
      have hl:i < δ.length:=by
        have:=(List.getElem?_eq_some_iff.mp q).1
        simpa using this
      rw [List.getElem?_set_self hl] at q
      cases q
    · rw [List.getElem?_set_ne hj] at q ⊢
      exact h.ow j es q
  dj:=fun j k ds es a hjk q1 q2=>by
    by_cases hj:i = j
    · subst hj
      have hl:i < δ.length:=by
        have:=(List.getElem?_eq_some_iff.mp q1).1
        simpa using this
      rw [List.getElem?_set_self hl] at q1
      cases q1
    · by_cases hk:i = k
      · subst hk
        have hl:i < δ.length:=by
          have:=(List.getElem?_eq_some_iff.mp q2).1
          simpa using this
        rw [List.getElem?_set_self hl] at q2
        cases q2
      · rw [List.getElem?_set_ne hj] at q1
        rw [List.getElem?_set_ne hk] at q2
        rw [List.getElem?_set_ne hj,List.getElem?_set_ne hk]
        exact h.dj j k ds es a hjk q1 q2
theorem Hold.setO (h:Hold K H₀ Z₀ Z δ σ H) {i:Nat} {p:Addr} {xs:List V} {ds:List D} (hp:H p = none) (r:Reps K Z xs ds):Hold K H₀ Z₀ Z (δ.set i (.ow ds)) (σ.set i (some (.ref p))) (upd H p (.lst xs)) where
  zh:=h.zh.trans (jeY hp)
  h0:=h.h0.trans (jeY hp)
  z0:=h.z0
  zb:=h.zb
  len:=by simp [h.len]
  fz:=fun j e q=>by
    by_cases hj:i = j
    · subst hj
      have hl:i < δ.length:=by
        have:=(List.getElem?_eq_some_iff.mp q).1
        simpa using this
      rw [List.getElem?_set_self hl] at q
      cases q
    · rw [List.getElem?_set_ne hj] at q
      obtain ⟨u,a,b⟩:=h.fz j e q
      exact ⟨u,by rw [List.getElem?_set_ne hj]; exact a,b⟩
  ow:=fun j es q=>by
    by_cases hj:i = j
    · subst hj
      have hl:i < δ.length:=by
        have:=(List.getElem?_eq_some_iff.mp q).1
        simpa using this
      rw [List.getElem?_set_self hl] at q
      cases q
      exact ⟨p,xs,List.getElem?_set_self (by rw [← h.len]; exact hl),jkz h.h0 hp,jkz h.zh hp,jaV,r⟩
    · rw [List.getElem?_set_ne hj] at q ⊢
      obtain ⟨a,ys,h1,h2,h3,h4,h5⟩:=h.ow j es q
      exact ⟨a,ys,h1,h2,h3,by rw [ja4 (ja8 h4 hp)]; exact h4,h5⟩
  dj:=fun j k ds es a hjk q1 q2=>by
    have old:∀ {m:Nat} {fs:List D},δ[m]? = some (.ow fs) → σ[m]? ≠ some (some (V.ref p)):=fun {m fs} q z=>by
      obtain ⟨b,ys,h1,h2,h3,h4,h5⟩:=h.ow m fs q
      rw [h1] at z
      cases z
      rw [hp] at h4
      cases h4
    have hl:∀ {m:Nat} {x:Sl},(δ.set i x)[m]? ≠ none → m < σ.length:=fun {m x} q=>by
      have:m < (δ.set i x).length:=by
        rcases Nat.lt_or_ge m (δ.set i x).length with g | g
        · exact g
        · exact absurd (List.getElem?_eq_none_iff.mpr g) q
      rw [← h.len]; simpa using this
    by_cases hj:i = j
    · subst hj
      have h1:i < σ.length:=hl (by rw [q1]; intro z; cases z)
      rw [List.getElem?_set_self h1]
      intro e
      cases e
      rw [List.getElem?_set_ne hjk] at q2 ⊢
      exact old q2
    · rw [List.getElem?_set_ne hj] at q1 ⊢
      by_cases hk:i = k
      · subst hk
        have h1:i < σ.length:=hl (by rw [q2]; intro z; cases z)
        intro e z
        rw [List.getElem?_set_self h1] at z
        cases z
        exact old q1 e
      · rw [List.getElem?_set_ne hk] at q2 ⊢
        exact h.dj j k ds es a hjk q1 q2
theorem Hold.chg (h:Hold K H₀ Z₀ Z δ σ H) {i:Nat} {p:Addr} {xs ys:List V} {ds es:List D} (e:δ[i]? = some (.ow ds)) (ep:σ[i]? = some (some (.ref p))) (r:Reps K Z ys es):Hold K H₀ Z₀ Z (δ.set i (.ow es)) σ (upd H p (.lst ys)):=by
  obtain ⟨a,zs,h1,h2,h3,h4,h5⟩:=h.ow i ds e
  rw [ep] at h1
  cases h1
  have hl:i < δ.length:=(List.getElem?_eq_some_iff.mp e).1
  refine ⟨fun b o q=>?_,fun b o q=>?_,h.z0,h.zb,by simp [h.len],fun j d q=>?_,fun j d q=>?_,fun j k d1 d2 a hjk q1 q2=>?_⟩
  · rw [ja4 (ja8 q h3)]; exact h.zh b o q
  · rw [ja4 (ja8 q h2)]; exact h.h0 b o q
  · by_cases hj:i = j
    · subst hj
      rw [List.getElem?_set_self hl] at q
      cases q
    · rw [List.getElem?_set_ne hj] at q
      exact h.fz j d q
  · by_cases hj:i = j
    · subst hj
      rw [List.getElem?_set_self hl] at q
      cases q
      exact ⟨p,ys,ep,h2,h3,jaV,r⟩
    · rw [List.getElem?_set_ne hj] at q
      obtain ⟨b,ws,g1,g2,g3,g4,g5⟩:=h.ow j d q
      refine ⟨b,ws,g1,g2,g3,?_,g5⟩
      have:b ≠ p:=fun z=>by subst z; exact h.dj i j ds d b hj e q ep g1
      rw [ja4 this]; exact g4
  · have f:∀ {m:Nat} {dm:List D},(δ.set i (.ow es))[m]? = some (.ow dm) → ∃ dm',δ[m]? = some (.ow dm'):=fun {m dm} q=>by
      by_cases hm:i = m
      · subst hm; exact ⟨ds,e⟩
      · rw [List.getElem?_set_ne hm] at q; exact ⟨dm,q⟩
    obtain ⟨e1,g1⟩:=f q1
    obtain ⟨e2,g2⟩:=f q2
    exact h.dj j k e1 e2 a hjk g1 g2
theorem Hold.frz (h:Hold K H₀ Z₀ Z δ σ H) {i:Nat} {ds:List D} (e:δ[i]? = some (.ow ds)):∃ Z',Same Z Z' ∧ Hold K H₀ Z₀ Z' (δ.set i (.fz (.list ds))) σ H:=by
  obtain ⟨a,xs,h1,h2,h3,h4,h5⟩:=h.ow i ds e
  have hl:i < δ.length:=(List.getElem?_eq_some_iff.mp e).1
  have sz:Same Z (upd Z a (.lst xs)):=jeY h3
  refine ⟨upd Z a (.lst xs),sz,fun b o q=>?_,h.h0,h.z0.trans sz,fun b hb=>?_,by simp [h.len],fun j d q=>?_,fun j d q=>?_,fun j k d1 d2 b hjk q1 q2=>?_⟩
  · by_cases hb:b = a
    · subst hb; rw [jaV] at q; cases q; exact h4
    · rw [ja4 hb] at q; exact h.zh b o q
  · rw [ja4 (fun z=>hb (by rw [z]; exact h2))]; exact h.zb b hb
  · by_cases hj:i = j
    · subst hj
      rw [List.getElem?_set_self hl] at q
      cases q
      exact ⟨.ref a,h1,.lst (SqL.of jaV) (h5.same sz)⟩
    · rw [List.getElem?_set_ne hj] at q
      obtain ⟨v,g1,g2⟩:=h.fz j d q
      exact ⟨v,g1,g2.same sz⟩
  · by_cases hj:i = j
    · subst hj
      rw [List.getElem?_set_self hl] at q
      cases q
    · rw [List.getElem?_set_ne hj] at q
      obtain ⟨b,ws,g1,g2,g3,g4,g5⟩:=h.ow j d q
      have:b ≠ a:=fun z=>by subst z; exact h.dj i j ds d b hj e q h1 g1
      exact ⟨b,ws,g1,g2,by rw [ja4 this]; exact g3,g4,g5.same sz⟩
  · by_cases hj:i = j
    · subst hj
      rw [List.getElem?_set_self hl] at q1
      cases q1
    · by_cases hk:i = k
      · subst hk
        rw [List.getElem?_set_self hl] at q2
        cases q2
      · rw [List.getElem?_set_ne hj] at q1
        rw [List.getElem?_set_ne hk] at q2
        exact h.dj j k d1 d2 b hjk q1 q2
end
def tV (K:Fg) (f:Dv → Option D):TE:=fun σ H Q=>∃ H₀ Z₀ Z δ d,Hold K H₀ Z₀ Z δ σ H ∧ f δ = some d ∧ ∀ v Z' H',Hold K H₀ Z₀ Z' δ σ H' → Same Z Z' → Rep K Z' v d → Q v H'
def tVT (K:Fg) (f:Dv → Option Bool):TT:=fun σ H Q=>∃ H₀ Z₀ Z δ b,Hold K H₀ Z₀ Z δ σ H ∧ f δ = some b ∧ ∀ Z' H',Hold K H₀ Z₀ Z' δ σ H' → Same Z Z' → Q b H'
def tVA (K:Fg) (f:Dv → Option (List D)):TA:=fun σ H Q=>∃ H₀ Z₀ Z δ ds,Hold K H₀ Z₀ Z δ σ H ∧ f δ = some ds ∧ ∀ vs Z' H',Hold K H₀ Z₀ Z' δ σ H' → Same Z Z' → Reps K Z' vs ds → Q vs H'
def Fl.to (K:Fg) (Z:Hp) (D:Ends) (σ:St) (H:Hp):Fl → Prop
  | .nx=>D.nx σ H
  | .bk=>D.bk σ H
  | .ct=>D.ct σ H
  | .rt d=>∀ v,Rep K Z v d → D.rt v H
def tVS (K:Fg) (f:Dv → Option (Fl × Dv)):TS:=fun D σ H=>∃ H₀ Z₀ Z δ r,Hold K H₀ Z₀ Z δ σ H ∧ f δ = some r ∧ ∀ σ' H' Z',Hold K H₀ Z₀ Z' r.2 σ' H' → Same Z Z' → r.1.to K Z' D σ' H'
def EV (X:Cx) (e:Expr) (f:Dv → Option D):Prop:=PE X e (tV X.K f)
def TV (X:Cx) (e:Expr) (f:Dv → Option Bool):Prop:=PT X e (tVT X.K f)
def AV (X:Cx) (es:List Expr) (f:Dv → Option (List D)):Prop:=PA X es (tVA X.K f)
def SV (X:Cx) (st:Stmt) (f:Dv → Option (Fl × Dv)):Prop:=PS X st (tVS X.K f)
def BV (X:Cx) (st:List Stmt) (f:Dv → Option (Fl × Dv)):Prop:=PSs X st (tVS X.K f)
theorem PE.imp {X:Cx} {e:Expr} {t t':TE} (h:PE X e t) (i:∀ σ H Q,t' σ H Q → t σ H Q):PE X e t':=fun pins s σ H Q I hw=>h pins s σ H Q I (i _ _ _ hw)
theorem PT.imp {X:Cx} {e:Expr} {t t':TT} (h:PT X e t) (i:∀ σ H Q,t' σ H Q → t σ H Q):PT X e t':=fun pins s σ H Q I hw=>h pins s σ H Q I (i _ _ _ hw)
theorem PA.imp {X:Cx} {es:List Expr} {t t':TA} (h:PA X es t) (i:∀ σ H Q,t' σ H Q → t σ H Q):PA X es t':=fun pos pins s σ H Q I hw=>h pos pins s σ H Q I (i _ _ _ hw)
theorem PS.imp {X:Cx} {st:Stmt} {t t':TS} (h:PS X st t) (i:∀ D σ H,t' D σ H → t D σ H):PS X st t':=fun pins s σ H D I hw=>h pins s σ H D I (i _ _ _ hw)
theorem PSs.imp {X:Cx} {st:List Stmt} {t t':TS} (h:PSs X st t) (i:∀ D σ H,t' D σ H → t D σ H):PSs X st t':=fun pins s σ H D I hw=>h pins s σ H D I (i _ _ _ hw)
theorem OpR.imp {X:Cx} {f:Value → Value → Sem Value} {r r':R2} (h:OpR X f r) (i:∀ x y H Q,r' x y H Q → r x y H Q):OpR X f r':=fun pins s σ H x y v u Q I rx ry q=>h pins s σ H x y v u Q I rx ry (i _ _ _ _ q)
theorem CallR.imp {X:Cx} {f:Value} {r r':List V → Hp → VK → Prop} (h:CallR X f r) (i:∀ xs H Q,r' xs H Q → r xs H Q):CallR X f r':=fun pins s σ H xs us Q I rx q=>h pins s σ H xs us Q I rx (i _ _ _ q)
def rD (K:Fg) (g:D → D → Option D):R2:=fun x y H Q=>∃ Z a b d,Same Z H ∧ Rep K Z x a ∧ Rep K Z y b ∧ g a b = some d ∧ ∀ v Z' H',New Z H Z' H' → Rep K Z' v d → Q v H'
def rD1 (K:Fg) (g:D → Option D):V → Hp → VK → Prop:=fun x H Q=>∃ Z a d,Same Z H ∧ Rep K Z x a ∧ g a = some d ∧ ∀ v Z' H',New Z H Z' H' → Rep K Z' v d → Q v H'
def rDs (K:Fg) (g:List D → Option D):List V → Hp → VK → Prop:=fun xs H Q=>∃ Z as d,Same Z H ∧ Reps K Z xs as ∧ g as = some d ∧ ∀ v Z' H',New Z H Z' H' → Rep K Z' v d → Q v H'
def spD (K:Fg) (g:List D → Option D):Sp:=fun vs H Q _=>rDs K g vs H Q
section
variable {X:Cx} {a b c e:Expr} {es:List Expr} {pos p:Pos} {f f1 f2 f3:Dv → Option D} {fs:Dv → Option (List D)} {ft fu:Dv → Option Bool}
theorem bind_some {α β:Type} {o:Option α} {k:α → Option β} {r:β} (h:o.bind k = some r):∃ a,o = some a ∧ k a = some r:=by
  cases o with
  | none=>cases h
  | some a=>exact ⟨a,rfl,h⟩
theorem two {K:Fg} {g:D → D → Option D} {σ:St} {H:Hp} {Q:VK} {r:R2} (hr:∀ x y H Q,rD K g x y H Q → r x y H Q) (h:tV K (o2 f1 f2 g) σ H Q):tOp r (tV K f1) (tV K f2) σ H Q:=by
  obtain ⟨H₀,Z₀,Z,δ,d,hh,e,k⟩:=h
  obtain ⟨x,e1,e⟩:=bind_some e
  obtain ⟨y,e2,e⟩:=bind_some e
  refine ⟨H₀,Z₀,Z,δ,x,hh,e1,fun v Z1 H1 hh1 s1 r1=>⟨H₀,Z₀,Z1,δ,y,hh1,e2,fun u Z2 H2 hh2 s2 r2=>hr _ _ _ _ ⟨Z2,x,y,d,hh2.zh,r1.same s2,r2,e,fun w Z3 H3 n r3=>?_⟩⟩⟩
  exact k w Z3 H3 (hh2.new n) ((s1.trans s2).trans n.z) r3
theorem jag {op:Operator} {g:D → D → Option D} (ho:OpR X (binaryOp op) (rD X.K g)) (ha:EV X a f1) (hb:EV X b f2):EV X (.BinOp a op b pos) (o2 f1 f2 g):=
  PE.imp (juL ho ha hb) fun _ _ _ h=>two (fun _ _ _ _ q=>q) h
theorem jf6 {op:UnaryOp} {g:D → Option D} (ho:UnR X (unaryOp op) (rD1 X.K g)) (ha:EV X a f):EV X (.UnaryOp op a pos) (o1 f g):=
  PE.imp (jyc ho ha) fun σ H Q h=>by
    obtain ⟨H₀,Z₀,Z,δ,d,hh,e,k⟩:=h
    obtain ⟨x,e1,e⟩:=bind_some e
    exact ⟨H₀,Z₀,Z,δ,x,hh,e1,fun v Z1 H1 hh1 s1 r1=>⟨Z1,x,d,hh1.zh,r1,e,fun w Z3 H3 n r3=>k w Z3 H3 (hh1.new n) (s1.trans n.z) r3⟩⟩
theorem jgl {op:CmpOp} {g:D → D → Option D} (ho:OpR X (compareOp op) (rD X.K g)) (ha:EV X a f1) (hb:EV X b f2) (hm:behindInMarks op b = false):EV X (.Compare a [op] [b] pos) (o2 f1 f2 g):=
  PE.imp (jsn ho ha hb hm) fun _ _ _ h=>two (fun _ _ _ _ q=>q) h
theorem jox {d:D} {b:Bool} (h:asB d = some b):d = .bool b:=by
  cases d <;> simp [asB] at h
  subst h; rfl
theorem toB {K:Fg} {σ:St} {H:Hp} {Q:Bool → Hp → Prop} (h:tVT K (ob f) σ H Q):tV K f σ H fun x H1=>∃ c,x = .bl c ∧ Q c H1:=by
  obtain ⟨H₀,Z₀,Z,δ,d,hh,e,k⟩:=h
  obtain ⟨x,e1,e⟩:=bind_some e
  have:=jox e
  subst this
  exact ⟨H₀,Z₀,Z,δ,_,hh,e1,fun v Z1 H1 hh1 s1 r1=>⟨_,r1.bl_eq,k Z1 H1 hh1 s1⟩⟩
theorem jau {op:CmpOp} {g:D → D → Option D} (ho:OpR X (compareOp op) (rD X.K g)) (ha:EV X a f1) (hb:EV X b f2) (hm:behindInMarks op b = false):TV X (.Compare a [op] [b] pos) (ob (o2 f1 f2 g)):=
  PT.imp (jsf ho ha hb hm) fun σ H Q h=>by
    have h':=toB h
    exact two (f1:=f1) (f2:=f2) (g:=g) (fun _ _ _ _ q=>q) h'
theorem jfc (ha:EV X a f) (he:∀ whole,isTrue a X.env whole = (do let v ← whole; standAt a.pos; holding [v] (truthy v)):=by intro _; rfl):TV X a (ob f):=
  PT.imp (juC ha he) fun _ _ _ h=>toB h
def WV (X:Cx) (e:Expr) (f:Dv → Option Bool):Prop:=PW X e (tVT X.K f)
theorem PW.imp {X:Cx} {e:Expr} {t t':TT} (h:PW X e t) (i:∀ σ H Q,t' σ H Q → t σ H Q):PW X e t':=fun whole pins s σ H Q I hw=>h whole pins s σ H Q I (i _ _ _ hw)
theorem jfV (ha:TV X a ft):WV X (.BoolOp .And [a] pos) ft:=jse ha
theorem jgf (ha:TV X a ft):WV X (.BoolOp .Or [a] pos) ft:=juA ha
theorem jgW {rest:List Expr} (ha:TV X a ft) (hb:WV X (.BoolOp .And (b :: rest) pos) fu):WV X (.BoolOp .And (a :: b :: rest) pos) (jnp ft fu):=
  PW.imp (juB ha hb) fun σ H Q h=>by
    obtain ⟨H₀,Z₀,Z,δ,d,hh,e,k⟩:=h
    obtain ⟨x,e1,e⟩:=bind_some e
    refine ⟨H₀,Z₀,Z,δ,x,hh,e1,fun Z1 H1 hh1 s1=>?_⟩
    cases x with
    | true=>exact ⟨H₀,Z₀,Z1,δ,d,hh1,e,fun Z2 H2 hh2 s2=>k Z2 H2 hh2 (s1.trans s2)⟩
    | false=>cases e; exact k Z1 H1 hh1 s1
theorem jir {rest:List Expr} (ha:TV X a ft) (hb:WV X (.BoolOp .Or (b :: rest) pos) fu):WV X (.BoolOp .Or (a :: b :: rest) pos) (oOr ft fu):=
  PW.imp (jx4 ha hb) fun σ H Q h=>by
    obtain ⟨H₀,Z₀,Z,δ,d,hh,e,k⟩:=h
    obtain ⟨x,e1,e⟩:=bind_some e
    refine ⟨H₀,Z₀,Z,δ,x,hh,e1,fun Z1 H1 hh1 s1=>?_⟩
    cases x with
    | true=>cases e; exact k Z1 H1 hh1 s1
    | false=>exact ⟨H₀,Z₀,Z1,δ,d,hh1,e,fun Z2 H2 hh2 s2=>k Z2 H2 hh2 (s1.trans s2)⟩
theorem WV.tv (h:WV X a ft):TV X a ft:=PW.pt h
theorem jfd (ha:TV X a ft):TV X (.UnaryOp .Not a pos) (jlq ft):=
  PT.imp (juD ha) fun σ H Q h=>by
    obtain ⟨H₀,Z₀,Z,δ,d,hh,e,k⟩:=h
    cases e1:ft δ with
    | none=>unfold jlq at e; rw [e1] at e; cases e
    | some x=>
      unfold jlq at e
      rw [e1] at e
      cases e
      exact ⟨H₀,Z₀,Z,δ,x,hh,e1,fun Z1 H1 hh1 s1=>k Z1 H1 hh1 s1⟩
theorem jrH {op} (h:EV X a f):EV X (.BoolOp op [a] pos) f:=juM h
theorem jn4 {rest:List Expr} (ha:EV X a f1) (hb:EV X (.BoolOp .And (b :: rest) pos) f2):EV X (.BoolOp .And (a :: b :: rest) pos) (jmc f1 f2):=
  PE.imp (juR ha hb) fun σ H Q h=>by
    obtain ⟨H₀,Z₀,Z,δ,d,hh,e,k⟩:=h
    obtain ⟨x,e1,e⟩:=bind_some e
    obtain ⟨c,e2,e⟩:=bind_some e
    have:=jox e2
    subst this
    refine ⟨H₀,Z₀,Z,δ,_,hh,e1,fun v Z1 H1 hh1 s1 r1=>⟨c,r1.bl_eq,?_⟩⟩
    cases c with
    | true=>exact ⟨H₀,Z₀,Z1,δ,d,hh1,e,fun v Z2 H2 hh2 s2 r2=>k v Z2 H2 hh2 (s1.trans s2) r2⟩
    | false=>cases e; exact k _ Z1 H1 hh1 s1 (.bl false)
theorem jlC (hc:TV X c ft) (ha:EV X a f1) (hb:EV X b f2):EV X (.IfExp c a b pos) (oIf ft f1 f2):=
  PE.imp (jpr hc ha hb) fun σ H Q h=>by
    obtain ⟨H₀,Z₀,Z,δ,d,hh,e,k⟩:=h
    obtain ⟨x,e1,e⟩:=bind_some e
    refine ⟨H₀,Z₀,Z,δ,x,hh,e1,fun Z1 H1 hh1 s1=>?_⟩
    cases x with
    | true=>exact ⟨H₀,Z₀,Z1,δ,d,hh1,e,fun v Z2 H2 hh2 s2 r2=>k v Z2 H2 hh2 (s1.trans s2) r2⟩
    | false=>exact ⟨H₀,Z₀,Z1,δ,d,hh1,e,fun v Z2 H2 hh2 s2 r2=>k v Z2 H2 hh2 (s1.trans s2) r2⟩
theorem jyl {i:Nat} {δ:Dv} {d:D} (h:oV i δ = some d):δ[i]? = some (.fz d):=by
  unfold oV at h
  cases q:δ[i]? with
  | none=>rw [q] at h; cases h
  | some x=>
    rw [q] at h
    cases x with
    | fz e=>cases h; rfl
    | un=>cases h
    | ow _=>cases h
theorem jaa (i:Nat) {x:Str} (hN:X.N[i]? = some x:=by rfl) (hv:Vis X.env.scope x:=by first | exact Or.inl rfl | exact Or.inr (Or.inl rfl) | exact Or.inr (Or.inr rfl)) (hd:(x == ("__debug__":Str)) = false:=by decide) (hcd:(x == ("__classdict__":Str)) = false:=by decide) :
    EV X (.Name x pos) (oV i):=
  PE.imp (jjC hN hv hd hcd) fun σ H Q h=>by
    obtain ⟨H₀,Z₀,Z,δ,d,hh,e,k⟩:=h
    obtain ⟨v,q,r⟩:=hh.fz i d (jyl e)
    exact ⟨v,q,k v Z H hh (Same.refl _) r⟩
theorem jvX {d:D} {v:V} (h:PE X e (tC v)) (r:∀ Z,Rep X.K Z v d):EV X e (oC d):=
  PE.imp h fun σ H Q h=>by
    obtain ⟨H₀,Z₀,Z,δ,d',hh,e,k⟩:=h
    cases e
    exact k v Z H hh (Same.refl _) (r Z)
theorem jad {i j}:EV X (.Constant (.int i) j pos) (oC (.int i)):=jvX juP fun _=>.int i
theorem ji1 {i j}:EV X (.Constant (.bool i) j pos) (oC (.bool i)):=jvX jyd fun _=>.bl i
theorem jgk {j}:EV X (.Constant .none j pos) (oC .none):=jvX juN fun _=>.non
theorem jaw {i j}:EV X (.Constant (.str i) j pos) (oC (.str i)):=jvX juK fun _=>.str i
theorem jae:AV X [] jal:=
  PA.imp jfD fun σ H Q h=>by
    obtain ⟨H₀,Z₀,Z,δ,d,hh,e,k⟩:=h
    cases e
    exact k [] Z H hh (Same.refl _) .nil
theorem jab (ha:EV X e f) (hr:AV X es fs) (hs:starEach (e :: es) X.env = (false,eval e X.env) :: starEach es X.env:=by rfl):AV X (e :: es) (jac f fs):=
  PA.imp (jdh ha hr hs) fun σ H Q h=>by
    obtain ⟨H₀,Z₀,Z,δ,d,hh,e,k⟩:=h
    obtain ⟨x,e1,e⟩:=bind_some e
    obtain ⟨xs,e2,e⟩:=bind_some e
    cases e
    exact ⟨H₀,Z₀,Z,δ,x,hh,e1,fun v Z1 H1 hh1 s1 r1=>⟨H₀,Z₀,Z1,δ,xs,hh1,e2,fun vs Z2 H2 hh2 s2 r2=>k _ Z2 H2 hh2 (s1.trans s2) (.cons (r1.same s2) r2)⟩⟩
theorem jaA {x1} (h:AV X es fs):EV X (.Tuple es x1 pos) (os fs jbm):=
  PE.imp (juJ h) fun σ H Q h=>by
    obtain ⟨H₀,Z₀,Z,δ,d,hh,e,k⟩:=h
    obtain ⟨xs,e1,e⟩:=bind_some e
    refine ⟨H₀,Z₀,Z,δ,xs,hh,e1,fun vs Z1 H1 hh1 s1 r1=>?_⟩
    by_cases hl:xs.length ≤ sizeLine
    · rw [jbm,if_pos hl] at e
      cases e
      refine ⟨by rw [r1.length]; exact hl,fun p hp=>?_⟩
      have n:=New.add hh1.zh hp (.tup vs)
      exact k _ _ _ (hh1.new n) (s1.trans n.z) (.tup (SqT.of jaV) (r1.same n.z))
    · rw [jbm,if_neg hl] at e; cases e
theorem jcz (h:AV X es fs):EV X (.List es pos) (os fs jdG):=
  PE.imp (jq6 h) fun σ H Q h=>by
    obtain ⟨H₀,Z₀,Z,δ,d,hh,e,k⟩:=h
    obtain ⟨xs,e1,e⟩:=bind_some e
    refine ⟨H₀,Z₀,Z,δ,xs,hh,e1,fun vs Z1 H1 hh1 s1 r1=>?_⟩
    by_cases hl:xs.length ≤ sizeLine
    · rw [jdG,if_pos hl] at e
      cases e
      refine ⟨by rw [r1.length]; exact hl,fun p hp=>?_⟩
      have n:=New.add hh1.zh hp (.lst vs)
      exact k _ _ _ (hh1.new n) (s1.trans n.z) (.lst (SqL.of jaV) (r1.same n.z))
    · rw [jdG,if_neg hl] at e; cases e
theorem args {K:Fg} {g:List D → Option D} {σ:St} {H:Hp} {Q:VK} (h:tV K (os fs g) σ H Q):tVA K fs σ H fun vs H1=>rDs K g vs H1 Q:=by
  obtain ⟨H₀,Z₀,Z,δ,d,hh,e,k⟩:=h
  obtain ⟨xs,e1,e⟩:=bind_some e
  exact ⟨H₀,Z₀,Z,δ,xs,hh,e1,fun vs Z1 H1 hh1 s1 r1=>⟨Z1,xs,d,hh1.zh,r1,e,fun w Z3 H3 n r3=>k w Z3 H3 (hh1.new n) (s1.trans n.z) r3⟩⟩
theorem jaI {x:Str} {id:String} {g:List D → Option D} (hc:CallR X (.builtin id) (rDs X.K g)) (hg:Gl X x) (hm:X.mg x = none) (hv:bootBuiltins x = some (.builtin id)) (ha:AV X (e :: es) fs) (hn:x ≠ "__name__":=by decide) (hdb:(x == ("__debug__":Str)) = false:=by decide)
    (he:starEach (e :: es) X.env = (false,eval e X.env) :: starEach es X.env:=by rfl) (hpl:(backTo pos (starEach es X.env)).any (·.1) = false:=by rfl):EV X (.Call (.Name x p) (e :: es) [] pos) (os fs g):=
  PE.imp (jfC hc hg hm hv ha hn hdb he hpl) fun _ _ _ h=>args h
theorem jb7 {x:Str} {id:String} {g:List D → Option D} (hc:CallR X (.type id) (rDs X.K g)) (hg:Gl X x) (hm:X.mg x = none) (hv:bootBuiltins x = some (.type id)) (ha:AV X (e :: es) fs) (hn:x ≠ "__name__":=by decide) (hdb:(x == ("__debug__":Str)) = false:=by decide)
    (he:starEach (e :: es) X.env = (false,eval e X.env) :: starEach es X.env:=by rfl) (hpl:(backTo pos (starEach es X.env)).any (·.1) = false:=by rfl):EV X (.Call (.Name x p) (e :: es) [] pos) (os fs g):=
  PE.imp (jjD hc hg hm hv ha hn hdb he hpl) fun _ _ _ h=>args h
theorem jtg {k:Nat} {fa:Addr} {fd:FuncData} {ps:List Str} {x:Str} {g:List D → Option D} {dd:List D} {dv:List V} {ds:List Value} (F:FnOk X.prog X.w X.K X.mg X.base CX0 k fa fd ps (spD X.K g)) (hr:Room k X.A) (hg:Gl X x) (hm:X.mg x = some (.ref fa)) (hk:PySem.W.keepIn X.K (.ref fa) = true)
    (hb:Binds X.K fd ps ds) (hd:Vals dv ds) (hdd:∀ Z,Reps X.K Z dv dd) (hx:jlO CX0 X E0) (ha:AV X (e :: es) fs) (hdb:(x == ("__debug__":Str)) = false:=by decide) (he:starEach (e :: es) X.env = (false,eval e X.env) :: starEach es X.env:=by rfl) (hpl:(backTo pos (starEach es X.env)).any (·.1) = false:=by rfl) :
    EV X (.Call (.Name x p) (e :: es) [] pos) (os fs fun as=>g (as ++ dd)):=
  PE.imp (jso F hr hg hm hk hb hd hx ha hdb he hpl) fun σ H Q h=>by
    obtain ⟨H₀,Z₀,Z,δ,xs,hh,e1,q⟩:=args h
    refine ⟨H₀,Z₀,Z,δ,xs,hh,e1,fun vs Z1 H1 hh1 s1 r1=>?_⟩
    obtain ⟨Z2,as,d,zh,ra,eg,kk⟩:=q vs Z1 H1 hh1 s1 r1
    exact ⟨Z2,as ++ dd,d,zh,ra.append (hdd Z2),eg,kk⟩
theorem IxR.imp {r r':R2} (h:IxR X r) (i:∀ x y H Q,r' x y H Q → r x y H Q):IxR X r':=fun value slice pins s σ H x y v u Q I rx ry q hs=>h value slice pins s σ H x y v u Q I rx ry (i _ _ _ _ q) hs
theorem jai {g:D → D → Option D} (ho:IxR X (rD X.K g)) (ha:EV X a f1) (hb:EV X b f2) (hs:jkX b):EV X (.Subscript a b pos) (o2 f1 f2 g):=
  PE.imp (juO ho ha hb hs) fun _ _ _ h=>two (fun _ _ _ _ q=>q) h
end
end VL
set_option Elab.async false
set_option linter.all false
set_option maxRecDepth 100000
set_option maxHeartbeats 4000000
namespace VL
open PySem PySem.Spec PyProof.Rows L2
section
variable {X:Cx} {a b c e tg:Expr} {es:List Expr} {pos p:Pos} {f f1 f2 f3:Dv → Option D} {fs:Dv → Option (List D)} {ft fu:Dv → Option Bool} {st:Stmt} {sts body:List Stmt} {s1 s2:Dv → Option (Fl × Dv)}
theorem jpw {F:Value → Value → Sem Value} {g:Int → Int → Int} (h:OpR X F (rI0 fun i j=>.int (g i j))):OpR X F (rD X.K (iI g)):=
  OpR.imp h fun x y H Q q=>by
    obtain ⟨Z,a,b,d,zh,ra,rb,e,k⟩:=q
    cases ra <;> cases rb <;> simp [iI] at e
    subst e
    exact ⟨_,_,rfl,rfl,k _ Z H (New.refl zh) (.int _)⟩
theorem jpx {F:Value → Value → Sem Value} {g:Int → Int → Bool} (h:OpR X F (rI0 fun i j=>.bl (g i j))):OpR X F (rD X.K (iB g)):=
  OpR.imp h fun x y H Q q=>by
    obtain ⟨Z,a,b,d,zh,ra,rb,e,k⟩:=q
    cases ra <;> cases rb <;> simp [iB] at e
    subst e
    exact ⟨_,_,rfl,rfl,k _ Z H (New.refl zh) (.bl _)⟩
theorem jl5 {F:Value → Value → Sem Value} {P:Int → Int → Prop} {C:Int → Int → Bool} {g:Int → Int → Int} (h:OpR X F (rI P fun i j=>.int (g i j))) (hc:∀ i j,C i j = true → P i j):OpR X F (rD X.K (iC C g)):=
  OpR.imp h fun x y H Q q=>by
    obtain ⟨Z,a,b,d,zh,ra,rb,e,k⟩:=q
    cases ra with
    | int i=>
      cases rb with
      | int j=>
        by_cases hh:C i j = true
        · simp only [iC,if_pos hh] at e
          cases e
          exact ⟨_,_,rfl,rfl,hc _ _ hh,k _ Z H (New.refl zh) (.int _)⟩
        · simp only [iC,if_neg hh] at e
          cases e
      | _=>simp [iC] at e
    | _=>simp [iC] at e
theorem jbp:OpR X (binaryOp .Sub) (rD X.K jcf):=jpw juV
theorem jbR:OpR X (binaryOp .Mult) (rD X.K jeA):=jl5 (P:=fun i j=>IntMulOk i j) (opI fun _ _ _ _ _ _ _ hc q=>mul_int q hc) fun i j h=>of_decide_eq_true h
theorem jcv:OpR X (binaryOp .FloorDiv) (rD X.K jcB):=jl5 jss fun i j h=>(of_decide_eq_true h:0 < j ∧ j < 1073741824)
theorem jbF:OpR X (binaryOp .Mod) (rD X.K jbu):=jl5 juY fun i j h=>of_decide_eq_true h
theorem jqw:OpR X (binaryOp .Pow) (rD X.K jl2):=jl5 juX fun i j h=>(of_decide_eq_true h:0 ≤ j ∧ j ≤ 1000000 ∧ i.natAbs < 2 ^ 64)
theorem jfb:OpR X (binaryOp .LShift) (rD X.K jeC):=jl5 (P:=fun i j=>0 ≤ j ∧ (Builtin.Int.intBits i:Int) + j ≤ 2 ^ 27) (opI fun _ _ _ _ _ _ _ hc q=>lshift_int hc.1 hc.2 q) fun i j h=>of_decide_eq_true h
theorem jqv:OpR X (binaryOp .RShift) (rD X.K joG):=jl5 juW fun i j h=>of_decide_eq_true h
theorem jgA:OpR X (binaryOp .BitAnd) (rD X.K jmw):=jpw ju0
theorem jtY:OpR X (binaryOp .BitOr) (rD X.K orD):=jpw jyg
theorem jjY:OpR X (binaryOp .BitXor) (rD X.K joV):=jpw juU
theorem jv6:OpR X (compareOp .Lt) (rD X.K ltD):=jpx jyh
theorem jzQ:OpR X (compareOp .LtE) (rD X.K leD):=jpx jyi
theorem job:OpR X (compareOp .Gt) (rD X.K gtD):=jpx jyj
theorem jA3:OpR X (compareOp .GtE) (rD X.K geD):=jpx jyk
theorem jf8:UnR X (unaryOp .USub) (rD1 X.K negD):=by
  intro pins s σ H x v Q I rx q
  obtain ⟨Z,a,d,zh,ra,e,k⟩:=q
  cases ra <;> simp [negD] at e
  subst e
  exact jt6 pins s σ H _ v Q I rx ⟨_,rfl,k _ Z H (New.refl zh) (.int _)⟩
theorem Rep.str_eq {K:Fg} {Z:Hp} {v:V} {x:Str} (h:Rep K Z v (.str x)):v = .str x:=by cases h; rfl
theorem Rep.tup_ex {K:Fg} {Z:Hp} {v:V} {ds:List D} (h:Rep K Z v (.tuple ds)):∃ a xs,v = .ref a ∧ SqT K Z a xs ∧ Reps K Z xs ds:=by
  cases h with
  | tup p q=>exact ⟨_,_,rfl,p,q⟩
theorem Rep.lst_ex {K:Fg} {Z:Hp} {v:V} {ds:List D} (h:Rep K Z v (.list ds)):∃ a xs,v = .ref a ∧ SqL K Z a xs ∧ Reps K Z xs ds:=by
  cases h with
  | lst p q=>exact ⟨_,_,rfl,p,q⟩
theorem jgR {p:Prop} [Decidable p] {α:Type} {x y:α} (h:(if p then some x else none) = some y):p ∧ x = y:=by
  by_cases q:p
  · rw [if_pos q] at h; exact ⟨q,Option.some.inj h⟩
  · rw [if_neg q] at h; cases h
theorem jwm {a b d:D} (h:ja6 a b = some d):(∃ i,a = .int i) ∨ (∃ x,a = .str x) ∨ (∃ xs,a = .list xs) ∨ ∃ xs,a = .tuple xs:=by
  cases a with
  | int i=>exact .inl ⟨_,rfl⟩
  | str i=>exact .inr (.inl ⟨_,rfl⟩)
  | list i=>exact .inr (.inr (.inl ⟨_,rfl⟩))
  | tuple i=>exact .inr (.inr (.inr ⟨_,rfl⟩))
  | _=>cases h
theorem jwn {i:Int} {b d:D} (h:ja6 (.int i) b = some d):∃ j,b = .int j ∧ d = .int (i + j):=by
  cases b with
  | int j=>exact ⟨j,rfl,(Option.some.inj h).symm⟩
  | _=>cases h
theorem jwk {i:Str} {b d:D} (h:ja6 (.str i) b = some d):∃ j,b = .str j ∧ i.length + j.length ≤ sizeLine ∧ d = .str (i ++ j):=by
  cases b with
  | str j=>obtain ⟨p,q⟩:=jgR h; exact ⟨j,rfl,p,q.symm⟩
  | _=>cases h
theorem jwl {i:List D} {b d:D} (h:ja6 (.list i) b = some d):∃ j,b = .list j ∧ i.length + j.length ≤ sizeLine ∧ d = .list (i ++ j):=by
  cases b with
  | list j=>obtain ⟨p,q⟩:=jgR h; exact ⟨j,rfl,p,q.symm⟩
  | _=>cases h
theorem jwj {i:List D} {b d:D} (h:ja6 (.tuple i) b = some d):∃ j,b = .tuple j ∧ i.length + j.length ≤ sizeLine ∧ d = .tuple (i ++ j):=by
  cases b with
  | tuple j=>obtain ⟨p,q⟩:=jgR h; exact ⟨j,rfl,p,q.symm⟩
  | _=>cases h
theorem jaZ:OpR X (binaryOp .Add) (rD X.K ja6):=by
  intro pins s σ H x y v u Q I rx ry q
  obtain ⟨Z,a,b,d,zh,ra,rb,e,k⟩:=q
  rcases jwm e with ⟨i,rfl⟩ | ⟨i,rfl⟩ | ⟨ds,rfl⟩ | ⟨ds,rfl⟩
  · obtain ⟨j,rfl,rfl⟩:=jwn e
    cases ra.int_eq
    cases rb.int_eq
    exact ju1 pins s σ H _ _ v u Q I rx ry ⟨_,_,rfl,rfl,k _ Z H (New.refl zh) (.int _)⟩
  · obtain ⟨j,rfl,hl,rfl⟩:=jwk e
    cases ra.str_eq
    cases rb.str_eq
    exact jl6 pins s σ H _ _ v u Q I rx ry ⟨_,_,rfl,rfl,hl,k _ Z H (New.refl zh) (.str _)⟩
  · obtain ⟨es,rfl,hl,rfl⟩:=jwl e
    obtain ⟨a,xs,rfl,h1,q1⟩:=ra.lst_ex
    obtain ⟨b,ys,rfl,h2,q2⟩:=rb.lst_ex
    cases rx
    cases ry
    obtain ⟨its,r1,p1,z1⟩:=I.list (SqL.same h1 zh)
    obtain ⟨its2,r2,p2,z2⟩:=I.list (SqL.same h2 zh)
    obtain ⟨⟨cls,dd,data,sl⟩,n1,ho,hc,hdd,hd⟩:=p1
    obtain ⟨⟨cls2,dd2,data2,sl2⟩,n2,ho2,hc2,hdd2,hd2⟩:=p2
    simp only at hc hd hc2 hd2
    subst hc hd hc2 hd2
    have hl1:=r1.length
    have hl2:=r2.length
    have ql1:=q1.length
    have ql2:=q2.length
    refine concat_meets ⟨_,ho,rfl⟩ ⟨_,ho2,rfl⟩ noFill_list_add seq_list_add PySem.F.slot_list_add PySem.F.entry_list_add (PySem.F.args_list_add_2 _ _) (list_addW a b its.toArray its2.toArray n1 n2 dd dd2 sl sl2 (by simp; omega)) ⟨ho,ho2,?_⟩
    have ea:its.toArray ++ its2.toArray = (its ++ its2).toArray:=by simp
    rw [ea]
    have n:=New.add zh I.fresh (.lst (xs ++ ys))
    exact ⟨.ref _,_,I.lnew (t':=s.toks) (r1.append r2) (by rw [List.length_append]; omega),rfl,k _ _ _ n (.lst (SqL.of jaV) ((q1.append q2).same n.z))⟩
  · obtain ⟨es,rfl,hl,rfl⟩:=jwj e
    obtain ⟨a,xs,rfl,h1,q1⟩:=ra.tup_ex
    obtain ⟨b,ys,rfl,h2,q2⟩:=rb.tup_ex
    by_cases h0:ds.length = 0
    · have hd0:ds = []:=List.eq_nil_of_length_eq_zero h0
      subst hd0
      cases q1
      cases rx
      cases ry
      obtain ⟨its,r1,p1,z1⟩:=I.tuple (SqT.same h1 zh)
      obtain ⟨its2,r2,p2,z2⟩:=I.tuple (SqT.same h2 zh)
      cases r1
      obtain ⟨⟨cls,dd,data,sl⟩,ho,hc,n,hd⟩:=id p1
      obtain ⟨⟨cls2,dd2,data2,sl2⟩,ho2,hc2,n2,hd2⟩:=id p2
      simp only at hc hd hc2 hd2
      subst hc hd hc2 hd2
      exact concat_meets ⟨_,ho,rfl⟩ ⟨_,ho2,rfl⟩ noFill_tuple_add seq_tuple_add PySem.F.slot_tuple_add PySem.F.entry_tuple_add (PySem.F.args_tuple_add_2 _ _)
        (tuple_addW0 a b _ its2.toArray n n2 dd dd2 sl sl2 (by simp)) ⟨ho,ho2,⟨.ref b,H,I,rfl,k _ Z H (New.refl zh) (.tup h2 q2)⟩⟩
    refine jst pins s σ H _ _ v u Q I rx ry ⟨a,b,xs,ys,rfl,rfl,SqT.same h1 zh,SqT.same h2 zh,fun z=>h0 (by rw [← q1.length,z]; rfl),by rw [q1.length,q2.length]; exact hl,fun z=>?_,fun z p hp=>?_⟩
    · subst z
      cases q2
      rw [List.append_nil] at k
      exact k _ Z H (New.refl zh) (.tup h1 q1)
    · have n:=New.add zh hp (.tup (xs ++ ys))
      exact k _ _ _ n (.tup (SqT.of jaV) ((q1.append q2).same n.z))
theorem jiD {d:D} (h:shp d = true):d.canLay0 = true:=(Bool.and_eq_true_iff.mp h).1
theorem jed (hu:X.A.units + 64 < cLine):OpR X (compareOp .Eq) (rD X.K eqD):=by
  intro pins s σ H x y v u Q I rx ry q
  obtain ⟨Z,a,b,d,zh,ra,rb,e,k⟩:=q
  by_cases hs:shp a = true ∧ shp b = true
  · rw [eqD,if_pos hs] at e
    cases e
    obtain ⟨as,r1⟩:=ra.reads I zh rx (jiD hs.1)
    obtain ⟨bs,r2⟩:=rb.reads I zh ry (jiD hs.2)
    exact eq_dataH r1 r2 hs.1 hs.2 hu ⟨.bl _,H,I,rfl,k _ Z H (New.refl zh) (.bl _)⟩
  · rw [eqD,if_neg hs] at e; cases e
theorem joa (hu:X.A.units + 64 < cLine):OpR X (compareOp .NotEq) (rD X.K neD):=by
  intro pins s σ H x y v u Q I rx ry q
  obtain ⟨Z,a,b,d,zh,ra,rb,e,k⟩:=q
  by_cases hs:shp a = true ∧ shp b = true
  · rw [neD,if_pos hs] at e
    cases e
    obtain ⟨as,r1⟩:=ra.reads I zh rx (jiD hs.1)
    obtain ⟨bs,r2⟩:=rb.reads I zh ry (jiD hs.2)
    exact ne_dataH r1 r2 hs.1 hs.2 hu ⟨.bl _,H,I,rfl,k _ Z H (New.refl zh) (.bl _)⟩
  · rw [neD,if_neg hs] at e; cases e
theorem jrD {K:Fg} {Z:Hp} {v:V} {d:D} (r:Rep K Z v d):decide (v = .non) = isN d:=by cases r <;> rfl
theorem jzg:OpR X (compareOp .Is) (rD X.K isD):=
  OpR.imp juZ fun x y H Q q=>by
    obtain ⟨Z,a,b,d,zh,ra,rb,e,k⟩:=q
    cases rb <;> simp [isD] at e
    subst e
    exact ⟨rfl,by rw [jrD ra]; exact k _ Z H (New.refl zh) (.bl _)⟩
theorem jrJ:OpR X (compareOp .IsNot) (rD X.K jnQ):=
  OpR.imp jsr fun x y H Q q=>by
    obtain ⟨Z,a,b,d,zh,ra,rb,e,k⟩:=q
    cases rb <;> simp [jnQ] at e
    subst e
    exact ⟨rfl,by rw [jrD ra]; exact k _ Z H (New.refl zh) (.bl _)⟩
theorem Reps.at {K:Fg} {Z:Hp} {vs:List V} {ds:List D} {i:Int} {d:D} (r:Reps K Z vs ds) (h:atI ds i = some d):∃ v,atI vs i = some v ∧ Rep K Z v d:=by
  unfold atI at h ⊢
  rw [r.length]
  obtain ⟨j,e,h⟩:=bind_some h
  obtain ⟨v,q,rr⟩:=r.get h
  exact ⟨v,by rw [e]; exact q,rr⟩
theorem jyQ {a b d:D} (h:ixD a b = some d):(∃ xs,a = .list xs) ∨ ∃ xs,a = .tuple xs:=by
  cases a with
  | list i=>exact .inl ⟨_,rfl⟩
  | tuple i=>exact .inr ⟨_,rfl⟩
  | _=>cases h
theorem jvC {xs:List D} {b d:D} (h:ixD (.list xs) b = some d):∃ i,b = .int i ∧ atI xs i = some d:=by
  cases b with
  | int i=>exact ⟨i,rfl,h⟩
  | _=>cases h
theorem jas:IxR X (rD X.K ixD):=
  IxR.imp (ix_list.or jvA) fun x y H Q q=>by
    obtain ⟨Z,a,b,d,zh,ra,rb,e,k⟩:=q
    rcases jyQ e with ⟨xs,rfl⟩ | ⟨xs,rfl⟩
    · obtain ⟨i,rfl,e⟩:=jvC e
      obtain ⟨a,vs,rfl,h1,q1⟩:=ra.lst_ex
      cases rb.int_eq
      obtain ⟨v,ev,rv⟩:=q1.at e
      exact .inl ⟨_,_,_,v,rfl,rfl,SqL.same h1 zh,ev,k v Z H (New.refl zh) rv⟩
    · obtain ⟨i,rfl,e⟩:=jvC (xs:=xs) (b:=b) (by cases b <;> exact e)
      obtain ⟨a,vs,rfl,h1,q1⟩:=ra.tup_ex
      cases rb.int_eq
      obtain ⟨v,ev,rv⟩:=q1.at e
      exact .inr ⟨_,_,_,v,rfl,rfl,SqT.same h1 zh,ev,k v Z H (New.refl zh) rv⟩
theorem jee:CallR X (.builtin "len") (rDs X.K jcq):=
  CallR.imp jlL fun xs H Q q=>by
    obtain ⟨Z,as,d,zh,ra,e,k⟩:=q
    cases ra with
    | nil=>cases e
    | cons r1 r2=>
      cases r2 with
      | cons _ _=>cases r1 <;> cases e
      | nil=>
        cases r1 with
        | lst h1 q1=>cases e; exact ⟨_,_,rfl,.inl ⟨_,SqL.same h1 zh,rfl⟩,k _ Z H (New.refl zh) (by rw [q1.length]; exact .int _)⟩
        | tup h1 q1=>cases e; exact ⟨_,_,rfl,.inr ⟨_,SqT.same h1 zh,rfl⟩,k _ Z H (New.refl zh) (by rw [q1.length]; exact .int _)⟩
        | _=>cases e
theorem jk5 {K:Fg} {Z:Hp} {xs:List V} {as:List D} {d:D} {g:List D → Option D} {h:Int → Int → Int} (hg:∀ as d,g as = some d → ∃ i j,as = [.int i,.int j] ∧ d = .int (h i j)) (r:Reps K Z xs as) (e:g as = some d) :
    ∃ i j,xs = [.int i,.int j] ∧ d = .int (h i j):=by
  obtain ⟨i,j,rfl,rfl⟩:=hg _ _ e
  cases r with
  | cons r1 r2=>
    cases r2 with
    | cons r3 r4=>
      cases r4
      exact ⟨i,j,by rw [r1.int_eq,r3.int_eq],rfl⟩
theorem jzk (hc:X.calm = true):CallR X (.builtin "min") (rDs X.K jwF):=
  CallR.imp (joj hc) fun xs H Q q=>by
    obtain ⟨Z,as,d,zh,ra,e,k⟩:=q
    obtain ⟨i,j,rfl,rfl⟩:=jk5 (h:=fun i j=>if j < i then j else i) (fun as d h=>by unfold jwF at h; split at h <;> cases h; exact ⟨_,_,rfl,rfl⟩) ra e
    exact ⟨i,j,rfl,k _ Z H (New.refl zh) (.int _)⟩
theorem jto (hc:X.calm = true):CallR X (.builtin "max") (rDs X.K jnC):=
  CallR.imp (jok hc) fun xs H Q q=>by
    obtain ⟨Z,as,d,zh,ra,e,k⟩:=q
    obtain ⟨i,j,rfl,rfl⟩:=jk5 (h:=fun i j=>if j > i then j else i) (fun as d h=>by unfold jnC at h; split at h <;> cases h; exact ⟨_,_,rfl,rfl⟩) ra e
    exact ⟨i,j,rfl,k _ Z H (New.refl zh) (.int _)⟩
theorem jrL:CallR X (.type "list") (rDs X.K jmg):=
  CallR.imp jgm fun xs H Q q=>by
    obtain ⟨Z,as,d,zh,ra,e,k⟩:=q
    cases ra with
    | nil=>cases e
    | cons r1 r2=>
      cases r2 with
      | cons _ _=>cases r1 <;> cases e
      | nil=>
        cases r1 with
        | lst h1 q1=>cases e; exact ⟨_,_,rfl,.inl (SqL.same h1 zh),fun l hl=>let n:=New.add zh hl (.lst _); k _ _ _ n (.lst (SqL.of jaV) (q1.same n.z))⟩
        | tup h1 q1=>cases e; exact ⟨_,_,rfl,.inr (SqT.same h1 zh),fun l hl=>let n:=New.add zh hl (.lst _); k _ _ _ n (.lst (SqL.of jaV) (q1.same n.z))⟩
        | _=>cases e
theorem jen:CallR X (.type "tuple") (rDs X.K jc7):=
  CallR.imp ji3 fun xs H Q q=>by
    obtain ⟨Z,as,d,zh,ra,e,k⟩:=q
    cases ra with
    | nil=>cases e
    | cons r1 r2=>
      cases r2 with
      | cons _ _=>cases r1 <;> cases e
      | nil=>
        cases r1 with
        | lst h1 q1=>cases e; exact ⟨_,_,rfl,.inl ⟨SqL.same h1 zh,fun l hl=>let n:=New.add zh hl (.tup _); k _ _ _ n (.tup (SqT.of jaV) (q1.same n.z))⟩⟩
        | tup h1 q1=>cases e; exact ⟨_,_,rfl,.inr ⟨SqT.same h1 zh,k _ Z H (New.refl zh) (.tup h1 q1)⟩⟩
        | _=>cases e
theorem jsJ:MtR X "int.bit_length" (fun x xs H Q=>∃ i,x = .int i ∧ xs = [] ∧ Q (.int (Builtin.Int.intBits i)) H):=by
  intro pins s σ H x xs v us Q I rx rs q
  obtain ⟨i,rfl,rfl,q⟩:=q
  obtain ⟨t,rfl⟩:=rx
  cases rs
  exact call_int_bit_length ⟨.int _,H,I.tok _,⟨_,rfl⟩,q⟩
theorem jn3 {apos:Pos} (ha:EV X a f) (hbase:attributeBase a "bit_length" X.env (eval a X.env) = eval a X.env:=by rfl) (hline:(apos.endLine == pos.line) = true:=by rfl):EV X (.Call (.Attribute a "bit_length" apos) [] [] pos) (o1 f jkK):=
  PE.imp (juQ PySem.F.plainAttrs_int PySem.F.slot_int_bit_length PySem.F.type_int_bit_length jsJ ha hbase hline) fun σ H Q h=>by
    obtain ⟨H₀,Z₀,Z,δ,d,hh,e,k⟩:=h
    obtain ⟨x,e1,e⟩:=bind_some e
    refine ⟨H₀,Z₀,Z,δ,x,hh,e1,fun v Z1 H1 hh1 s1 r1=>?_⟩
    cases r1 <;> simp [jkK] at e
    subst e
    exact ⟨rfl,_,rfl,rfl,k _ Z1 H1 hh1 s1 (.int _)⟩
theorem jvu (K:Fg) {t T:String} (ht:t = "NoneType" ∨ t = "bool" ∨ t = "int" ∨ t = "str" ∨ t = "list" ∨ t = "tuple") (hT:T = "int" ∨ T = "bool" ∨ T = "str" ∨ T = "list" ∨ T = "tuple"):PySem.W.kitOne K (.type t) (.type T) = some (jyR t T):=by
  rcases ht with rfl | rfl | rfl | rfl | rfl | rfl <;> rcases hT with rfl | rfl | rfl | rfl | rfl <;> rfl
theorem Rep.ty {K:Fg} {Z H:Hp} {v:V} {d:D} (zh:Same Z H) (r:Rep K Z v d) (hD:¬jqq d = true):(tyN d = "NoneType" ∨ tyN d = "bool" ∨ tyN d = "int" ∨ tyN d = "str" ∨ tyN d = "list" ∨ tyN d = "tuple"):=by
  cases r <;> simp [tyN]
  exact absurd rfl hD
theorem jvF {pins:List (Addr × Obj)} {σ:St} {H Z:Hp} {s:Shared} {x:V} {u:Value} {d:D} {T:String} {A:Around} {E:Value → Shared → Prop} {Q:Value → Shared → Prop} (I:Inv X pins σ H s) (zh:Same Z H) (rx:RelV x u) (r:Rep X.K Z x d) (hD:¬jqq d = true)
    (hT:T = "int" ∨ T = "bool" ∨ T = "str" ∨ T = "list" ∨ T = "tuple") (h:∀ tk,Q (.bool (jyR (tyN d) T)) { s with toks:=tk }):wpAny (model X.prog X.w) A (call (.builtin "isinstance") [u,.type T]) Q E s:=by
  have ko:=jvu X.K (Rep.ty zh r hD) hT
  cases r with
  | non=>exact jfL I rx (.non) ko h
  | bl b=>exact jfL I rx (.bl b) ko h
  | int b=>exact jfL I rx (.int b) ko h
  | str b=>exact jfL I rx (.str b) ko h
  | @tup a xs ds h1 q1=>
    cases (show u = Value.ref a from rx)
    obtain ⟨its,_,p,_⟩:=I.tuple (SqT.same h1 zh)
    obtain ⟨o,h1,h2,_⟩:=p
    exact PySem.W.kia_one PySem.W.kitx_tuple I.kIn ⟨o,h1,h2⟩ ko (fun z=>nomatch z) h
  | @lst a xs ds h1 q1=>
    cases (show u = Value.ref a from rx)
    obtain ⟨its,_,p,_⟩:=I.list (SqL.same h1 zh)
    obtain ⟨o,n,h1,h2,_⟩:=p
    exact PySem.W.kia_one PySem.W.kitx_list I.kIn ⟨o,h1,h2⟩ ko (fun z=>nomatch z) h
  | opq h1=>exact absurd rfl hD
theorem jzl (T:String):CallR X (.builtin "isinstance") (fun xs H Q=>∃ x Z d r,xs = [x,.ty T] ∧ Same Z H ∧ Rep X.K Z x d ∧ jmj T d = some r ∧ ∃ b,r = .bool b ∧ Q (.bl b) H):=by
  intro pins s σ H xs us Q I rv h
  obtain ⟨x,Z,d,r,rfl,zh,rr,e,b,rfl,q⟩:=h
  obtain ⟨u,w',rfl,r1,r2⟩:=jmE rv
  cases (show w' = Value.type T from r2)
  by_cases hD:jqq d = true
  · rw [jmj,if_pos hD] at e; cases e
  by_cases hT:T = "int" ∨ T = "bool" ∨ T = "str" ∨ T = "list" ∨ T = "tuple"
  · rw [jmj,if_neg hD,if_pos hT] at e
    cases e
    exact jvF I zh r1 rr hD hT fun tk=>⟨.bl _,H,I.tok _,rfl,q⟩
  · rw [jmj,if_neg hD,if_neg hT] at e; cases e
theorem jvT {x:Str} {T:String} {p2:Pos} (hg:Gl X "isinstance") (hm:X.mg "isinstance" = none) (hgT:Gl X x) (hmT:X.mg x = none) (hvT:bootBuiltins x = some (.type T)) (hnT:x ≠ "__name__") (hdT:(x == ("__debug__":Str)) = false) (ha:EV X a f)
    (he:starEach (a :: [.Name x p2]) X.env = (false,eval a X.env) :: starEach [.Name x p2] X.env:=by rfl) (he2:starEach ((.Name x p2) :: []) X.env = (false,eval (.Name x p2) X.env) :: starEach [] X.env:=by rfl) (hpl:(backTo pos (starEach [.Name x p2] X.env)).any (·.1) = false:=by rfl) :
    EV X (.Call (.Name "isinstance" p) [a,.Name x p2] [] pos) (o1 f (jmj T)):=
  PE.imp (jfC (jzl T) hg hm PyProof.Rows.boot_isinstance (jdh ha (jdh (jne (v:=.ty T) hgT hmT hvT rfl hnT hdT) jfD he2) he) (by decide) (by decide) he hpl) fun σ H Q h=>by
    obtain ⟨H₀,Z₀,Z,δ,d,hh,e,k⟩:=h
    obtain ⟨y,e1,e⟩:=bind_some e
    refine ⟨H₀,Z₀,Z,δ,y,hh,e1,fun v Z1 H1 hh1 s1 r1=>⟨v,Z1,y,d,rfl,hh1.zh,r1,e,?_⟩⟩
    have:∃ b,d = .bool b:=by
      unfold jmj at e
      split at e
      · cases e
      · split at e
        · cases e; exact ⟨_,rfl⟩
        · cases e
    obtain ⟨b,rfl⟩:=this
    exact ⟨b,rfl,k _ Z1 H1 hh1 s1 (.bl b)⟩
end
end VL
set_option Elab.async false
set_option linter.all false
set_option maxRecDepth 100000
set_option maxHeartbeats 4000000
namespace VL
open PySem PySem.Spec PyProof.Rows L2
section
variable {X:Cx} {a b c e tg iter:Expr} {es:List Expr} {pos p:Pos} {f f1 f2 f3:Dv → Option D} {fs:Dv → Option (List D)} {ft fu:Dv → Option Bool} {st:Stmt} {sts body orelse:List Stmt} {s1 s2 s3:Sf}
theorem jaq (he:EV X e f):SV X (.Return (some e) pos) (jbx f):=
  PS.imp (jq4 he) fun D σ H h=>by
    obtain ⟨H₀,Z₀,Z,δ,r,hh,e,k⟩:=h
    obtain ⟨x,e1,e⟩:=bind_some e
    cases e
    exact ⟨H₀,Z₀,Z,δ,x,hh,e1,fun v Z1 H1 hh1 s1 r1=>k σ H1 Z1 hh1 s1 v r1⟩
theorem jap (i:Nat) {x:Str} {pos':Pos} (hN:X.N.Nodup) (he:EV X e f) (hi:X.N[i]? = some x:=by rfl) (hx:Loc X.env.scope x:=by first | exact Or.inl rfl | exact Or.inr rfl) (hs:swapsWith e (some (.Name x pos')) pos.line X.env = pure false:=by rfl)
    (hf:X.fn x = true ∨ X.env.scope.names.lookup x = some .local:=by first | exact .inl rfl | exact .inr rfl | assumption):SV X (.Assign [.Name x pos'] e pos) (jaF i f):=
  PS.imp (jll hN hi hx he hs hf) fun D σ H h=>by
    obtain ⟨H₀,Z₀,Z,δ,r,hh,e,k⟩:=h
    obtain ⟨x,e1,e⟩:=bind_some e
    cases e
    exact ⟨H₀,Z₀,Z,δ,x,hh,e1,fun v Z1 H1 hh1 s1 r1=>k _ H1 Z1 (hh1.set r1) s1⟩
theorem jg2 (he:EV X e f) (hs:swapsWith e none pos.line X.env = pure false:=by rfl):SV X (.Expr e pos) (jjz f):=
  PS.imp (jkm he hs) fun D σ H h=>by
    obtain ⟨H₀,Z₀,Z,δ,r,hh,e,k⟩:=h
    obtain ⟨x,e1,e⟩:=bind_some e
    cases e
    exact ⟨H₀,Z₀,Z,δ,x,hh,e1,fun v Z1 H1 hh1 s1 r1=>k σ H1 Z1 hh1 s1⟩
theorem jym {D:Ends} {σ:St} {H:Hp} {K:Fg} (h:tVS K sNx D σ H):D.nx σ H:=by
  obtain ⟨H₀,Z₀,Z,δ,r,hh,e,k⟩:=h
  cases e
  exact k σ H Z hh (Same.refl _)
theorem jaJ:BV X [] sNx:=PSs.imp jsh fun D σ H h=>jym h
theorem jaf (h1:SV X st s1) (h2:BV X sts s2):BV X (st :: sts) (jam s1 s2):=
  PSs.imp (jiJ h1 h2) fun D σ H h=>by
    obtain ⟨H₀,Z₀,Z,δ,r,hh,e,k⟩:=h
    obtain ⟨⟨fl,δ'⟩,e1,e⟩:=bind_some e
    refine ⟨H₀,Z₀,Z,δ,(fl,δ'),hh,e1,fun σ' H' Z' hh' s'=>?_⟩
    cases fl with
    | nx=>exact ⟨H₀,Z₀,Z',δ',r,hh',e,fun σ2 H2 Z2 hh2 s2=>by
        have:=k σ2 H2 Z2 hh2 (s'.trans s2)
        obtain ⟨fl,δ2⟩:=r
        cases fl <;> exact this⟩
    | bk=>cases e; exact k σ' H' Z' hh' s'
    | ct=>cases e; exact k σ' H' Z' hh' s'
    | rt d=>cases e; exact k σ' H' Z' hh' s'
theorem jaj (h1:SV X st s1):BV X [st] s1:=jsg h1
theorem jbg (hc:TV X c ft) (ha:BV X body s1) (hb:BV X orelse s2):SV X (.If c body orelse pos) (sIf ft s1 s2):=
  PS.imp (juE hc ha hb) fun D σ H h=>by
    obtain ⟨H₀,Z₀,Z,δ,r,hh,e,k⟩:=h
    obtain ⟨x,e1,e⟩:=bind_some e
    refine ⟨H₀,Z₀,Z,δ,x,hh,e1,fun Z1 H1 hh1 t1=>?_⟩
    cases x with
    | true=>exact ⟨H₀,Z₀,Z1,δ,r,hh1,e,fun σ2 H2 Z2 hh2 t2=>k σ2 H2 Z2 hh2 (t1.trans t2)⟩
    | false=>exact ⟨H₀,Z₀,Z1,δ,r,hh1,e,fun σ2 H2 Z2 hh2 t2=>k σ2 H2 Z2 hh2 (t1.trans t2)⟩
theorem jy9 {K:Fg} (i:Nat) {D:Ends} {σ:St} {H:Hp} (h:tVS K (fun δ=>s1 (dFz i δ)) D σ H):tVS K s1 D σ H:=by
  obtain ⟨H₀,Z₀,Z,δ,r,hh,e,k⟩:=h
  have e:s1 (dFz i δ) = some r:=e
  unfold dFz at e
  split at e
  · rename_i ds q
    obtain ⟨Z1,t1,hh1⟩:=hh.frz q
    exact ⟨H₀,Z₀,Z1,_,r,hh1,e,fun σ2 H2 Z2 hh2 t2=>k σ2 H2 Z2 hh2 (t1.trans t2)⟩
  · exact ⟨H₀,Z₀,Z,_,r,hh,e,k⟩
theorem jlV (i:Nat) (h:SV X st s1):SV X st (fun δ=>s1 (dFz i δ)):=PS.imp h fun D σ H q=>jy9 i q
def tVG (K:Fg) (g:D → Dv → Option Dv):TG:=fun v σ H Q=>∃ H₀ Z₀ Z δ d δ',Hold K H₀ Z₀ Z δ σ H ∧ Rep K Z v d ∧ g d δ = some δ' ∧ ∀ σ' H' Z',Hold K H₀ Z₀ Z' δ' σ' H' → Same Z Z' → Q σ' H'
def GV (X:Cx) (tg:Expr) (g:D → Dv → Option Dv):Prop:=PG X tg (tVG X.K g)
theorem PG.imp {t t':TG} (h:PG X tg t) (i:∀ v σ H Q,t' v σ H Q → t v σ H Q):PG X tg t':=fun pins s σ H x v Q I r q=>h pins s σ H x v Q I r (i _ _ _ _ q)
theorem jbW (i:Nat) {x:Str} (hN:X.N.Nodup) (hi:X.N[i]? = some x:=by rfl) (hx:Loc X.env.scope x:=by first | exact Or.inl rfl | exact Or.inr rfl)
    (hf:X.fn x = true ∨ X.env.scope.names.lookup x = some .local:=by first | exact .inl rfl | exact .inr rfl | assumption):GV X (.Name x pos) (gN i):=
  PG.imp (jbC hN hi hx hf) fun v σ H Q h=>by
    obtain ⟨H₀,Z₀,Z,δ,d,δ',hh,r,e,k⟩:=h
    cases e
    exact k _ H Z (hh.set r) (Same.refl _)
structure ItOk (K:Fg) (Z:Hp) (J:It) (ds:List D):Prop where
  go:∀ (i:Nat) (H:Hp),Same Z H → i < ds.length → J.go i H
  yld:∀ (i:Nat) (H:Hp) x H' d,Same Z H → ds[i]? = some d → J.yld i H x H' → H' = H ∧ Rep K Z x d
  stop:∀ (i:Nat) (H:Hp),Same Z H → ds.length ≤ i → J.stop i H
def tVI (K:Fg) (f:Dv → Option (List D)):TI:=fun σ H R=>∃ H₀ Z₀ Z δ ds,Hold K H₀ Z₀ Z δ σ H ∧ f δ = some ds ∧ ∀ J Z' H',Hold K H₀ Z₀ Z' δ σ H' → Same Z Z' → ItOk K Z' J ds → R J H'
def IV (X:Cx) (tg iter:Expr) (f:Dv → Option (List D)):Prop:=PI X tg iter (tVI X.K f)
theorem PI.imp {t t':TI} (h:PI X tg iter t) (i:∀ σ H R,t' σ H R → t σ H R):PI X tg iter t':=fun pins s σ H R I q=>h pins s σ H R I (i _ _ _ q)
theorem jcN {g:D → Dv → Option Dv} (hp:PassesOwn (model X.prog X.w) X.A X.env X.xe) (hc:X.calm = true) (hi:IV X tg iter fs) (hg:GV X tg g) (hb:BV X body s1)
    (hs:∀ x,foldedSetIterable iter X.env x = pure x:=by intro _; rfl):SV X (.For tg iter body [] pos) (jg7 fs g s1):=
  PS.imp (juF hp hc hi hg hb hs) fun D σ H h=>by
    obtain ⟨H₀,Z₀,Z,δ,r,hh,e,k⟩:=h
    obtain ⟨ds,e1,e⟩:=bind_some e
    refine ⟨H₀,Z₀,Z,δ,ds,hh,e1,fun J Z1 H1 hh1 t1 ok=>?_⟩
    refine ⟨fun i m σ H=>m = ds.length - i ∧ i ≤ ds.length ∧ ∃ Zc δc,Hold X.K H₀ Z₀ Zc δc σ H ∧ Same Z1 Zc ∧ loop g s1 (ds.drop i) δc = some r,⟨ds.length,by simp,Nat.zero_le _,Z1,δ,hh1,Same.refl _,e⟩,?_⟩
    rintro i m σ2 H2 ⟨rfl,hi2,Zc,δc,hhc,tc,ec⟩
    have zh:Same Z1 H2:=tc.trans hhc.zh
    by_cases hlt:i < ds.length
    · refine .inr ⟨ok.go i H2 zh hlt,fun σ3 H3=>∃ Zc δc,Hold X.K H₀ Z₀ Zc δc σ3 H3 ∧ Same Z1 Zc ∧ loop g s1 (ds.drop (i + 1)) δc = some r,fun σ3 H3 q=>⟨ds.length - (i + 1),by omega,rfl,hlt,q⟩,fun x H3 y=>?_⟩
      have ed:ds[i]? = some ds[i]:=by simp [hlt]
      obtain ⟨rfl,rx⟩:=ok.yld i H2 x H3 _ zh ed y
      rw [List.drop_eq_getElem_cons hlt] at ec
      obtain ⟨δ1,g1,ec⟩:=bind_some ec
      obtain ⟨⟨fl,δ2⟩,g2,ec⟩:=bind_some ec
      refine ⟨H₀,Z₀,Zc,δc,_,δ1,hhc,rx.same tc,g1,fun σ4 H4 Z4 hh4 t4=>⟨H₀,Z₀,Z4,δ1,(fl,δ2),hh4,g2,fun σ5 H5 Z5 hh5 t5=>?_⟩⟩
      cases fl with
      | nx=>exact ⟨Z5,δ2,hh5,(tc.trans t4).trans t5,ec⟩
      | ct=>exact ⟨Z5,δ2,hh5,(tc.trans t4).trans t5,ec⟩
      | bk=>cases ec; exact k σ5 H5 Z5 hh5 (((t1.trans tc).trans t4).trans t5)
      | rt d=>cases ec; exact k σ5 H5 Z5 hh5 (((t1.trans tc).trans t4).trans t5)
    · have e2:ds.drop i = []:=List.drop_eq_nil_iff.mpr (by omega)
      rw [e2] at ec
      cases ec
      exact .inl ⟨ok.stop i H2 zh (by omega),k σ2 H2 Zc hhc (t1.trans tc)⟩
theorem jqn {K:Fg} {Z:Hp} {lo:Int} {n:Nat}:ItOk K Z (Itr lo n) (jke lo n) where
  go:=fun i H _ h=>by simpa [jke,Itr] using h
  yld:=fun i H x H' d _ e y=>by
    obtain ⟨rfl,rfl⟩:=y
    refine ⟨rfl,?_⟩
    unfold jke at e
    rw [List.getElem?_map] at e
    cases q:(List.range n)[i]? with
    | none=>rw [q] at e; cases e
    | some k=>
      rw [q] at e
      cases e
      have:k = i:=by
        obtain ⟨h,h2⟩:=List.getElem?_eq_some_iff.mp q
        simpa using h2.symm
      subst this
      exact .int _
  stop:=fun i H _ h=>by simpa [jke,Itr] using h
theorem jaW (hg:Gl X "range") (hm:X.mg "range" = none) (ha:AV X [a] fs) (hs:starEach [a] X.env = [(false,eval a X.env)]:=by rfl):IV X tg (.Call (.Name "range" p) [a] [] pos) (oL fs jbz):=
  PI.imp (jnc hg hm ha hs) fun σ H R h=>by
    obtain ⟨H₀,Z₀,Z,δ,ds,hh,e,k⟩:=h
    obtain ⟨as,e1,e⟩:=bind_some e
    refine ⟨H₀,Z₀,Z,δ,as,hh,e1,fun vs Z1 H1 hh1 t1 r1=>?_⟩
    unfold jbz at e
    split at e
    · rename_i j
      split at e
      · rename_i hj
        cases e
        cases r1 with
        | cons q1 q2=>
          cases q2
          exact ⟨j,by rw [q1.int_eq],hj.2,hj.1,k _ Z1 H1 hh1 t1 jqn⟩
      · cases e
    · cases e
theorem js0 (ha:EV X a f):IV X tg a (oI f jtN):=
  PI.imp (jsl ha) fun σ H R h=>by
    obtain ⟨H₀,Z₀,Z,δ,ds,hh,e,k⟩:=h
    obtain ⟨y,e1,e⟩:=bind_some e
    refine ⟨H₀,Z₀,Z,δ,y,hh,e1,fun v Z1 H1 hh1 t1 r1=>?_⟩
    cases r1 with
    | @lst l xs ds' h1 q1=>
      cases e
      refine ⟨l,rfl,⟨xs,SqL.same h1 hh1.zh⟩,k _ Z1 H1 hh1 t1 ⟨fun i H2 z hi=>?_,fun i H2 x H3 d z ed y=>?_,fun i H2 z hi=>⟨xs,SqL.same h1 z,by rw [q1.length]; exact hi⟩⟩⟩
      · have hi':i < xs.length:=by rw [q1.length]; exact hi
        exact ⟨xs,xs[i],SqL.same h1 z,by simp [hi']⟩
      · obtain ⟨rfl,y⟩:=y
        obtain ⟨v,ev,rv⟩:=q1.get ed
        have:=y xs (SqL.same h1 z)
        rw [ev] at this
        cases this
        exact ⟨rfl,rv⟩
    | _=>cases e
theorem jvD (ha:EV X a f):IV X tg a (oI f jzW):=
  PI.imp (juH ha) fun σ H R h=>by
    obtain ⟨H₀,Z₀,Z,δ,ds,hh,e,k⟩:=h
    obtain ⟨y,e1,e⟩:=bind_some e
    refine ⟨H₀,Z₀,Z,δ,y,hh,e1,fun v Z1 H1 hh1 t1 r1=>?_⟩
    cases r1 with
    | @tup l xs ds' h1 q1=>
      cases e
      refine ⟨l,rfl,⟨xs,SqT.same h1 hh1.zh⟩,k _ Z1 H1 hh1 t1 ⟨fun i H2 z hi=>?_,fun i H2 x H3 d z ed y=>?_,fun i H2 z hi=>⟨xs,SqT.same h1 z,by rw [q1.length]; exact hi⟩⟩⟩
      · have hi':i < xs.length:=by rw [q1.length]; exact hi
        exact ⟨xs,xs[i],SqT.same h1 z,by simp [hi']⟩
      · obtain ⟨rfl,y⟩:=y
        obtain ⟨v,ev,rv⟩:=q1.get ed
        have:=y xs (SqT.same h1 z)
        rw [ev] at this
        cases this
        exact ⟨rfl,rv⟩
    | _=>cases e
end
section
variable {X:Cx} {a b c tg:Expr} {ta:TA} {p pos:Pos} {fs:Dv → Option (List D)}
end
section
variable {X:Cx} {e:Expr} {lo hi:Option Expr} {p2 pos:Pos} {f:Dv → Option D}
def tVO (K:Fg) (f:Dv → Option (Option Int)):TO:=fun σ H Q=>∃ H₀ Z₀ Z δ d,Hold K H₀ Z₀ Z δ σ H ∧ f δ = some d ∧ ∀ Z' H',Hold K H₀ Z₀ Z' δ σ H' → Same Z Z' → Q d H'
def OV (X:Cx) (e:Option Expr) (f:Dv → Option (Option Int)):Prop:=PO X e (tVO X.K f)
theorem PO.imp {eo:Option Expr} {t t':TO} (h:PO X eo t) (i:∀ σ H Q,t' σ H Q → t σ H Q):PO X eo t':=fun pins s σ H Q I q=>h pins s σ H Q I (i _ _ _ q)
theorem jei:OV X none oNo:=PO.imp jsj fun σ H Q h=>by
  obtain ⟨H₀,Z₀,Z,δ,d,hh,e,k⟩:=h
  cases e
  exact k Z H hh (Same.refl _)
theorem jb3 (h:EV X e f):OV X (some e) (oP f):=PO.imp (jsi h) fun σ H Q h=>by
  obtain ⟨H₀,Z₀,Z,δ,d,hh,e,k⟩:=h
  obtain ⟨x,e1,e⟩:=bind_some e
  refine ⟨H₀,Z₀,Z,δ,x,hh,e1,fun v Z1 H1 hh1 t1 r1=>?_⟩
  cases r1 <;> simp [asI] at e
  subst e
  exact ⟨_,rfl,k Z1 H1 hh1 t1⟩
theorem Reps.cut {K:Fg} {Z:Hp} {vs:List V} {ds:List D} (r:Reps K Z vs ds) (lo hi:Option Int):Reps K Z (joU vs lo hi) (jkg ds lo hi):=by
  unfold joU jkg
  rw [r.length]
  exact (r.drop _).take _
theorem jmn {ds:List D} {lo hi:Option Int} (h1:HT.sIx ds.length 0 lo = 0) (h2:HT.sIx ds.length ds.length hi = ds.length):jkg ds lo hi = ds:=by
  unfold jkg
  rw [h1,h2]
  simp
section
variable {prog:Program} {w:World} {A:Around} {E:Value → Shared → Prop} {s:Shared}
theorem jjo {t sl:Addr} {items:Array Value} {vl vu:Value} {lo hi:Option Int} {Q:Value → Shared → Prop} (ht:IsTup s.heap t items) (hs:s.heap.IsSliceOf sl vl vu .none) (pl:IsPart vl lo) (pu:IsPart vu hi)
    (h1:HT.sIx items.size 0 lo = 0) (h2:HT.sIx items.size items.size hi = items.size) (h:Q (.ref t) s):wpAny (model prog w) A (getItem (.ref t) (.ref sl)) Q E s:=by
  obtain ⟨osl,hos,hcs,hds⟩:=id hs
  have ty:s.TypeIs (.ref sl) "slice":=⟨osl,hos,hcs⟩
  unfold getItem
  try with_reducible refine wpAny_holding ?_
  first | refine wpAny_bind (wpAny_pure ?_) | skip
  refine wpAny_bind (wpAny_sequenceKey ht.typeIs (by decide) ?_)
  refine wpAny_bind (wpAny_callSpecial?_slot (name:=Str.ofString "__getitem__") ht.typeIs PyProof.Rows.slot_tuple_getitem
    (wpAny_call_entry PyProof.Rows.slot_tuple_getitem ht.typeIs PyProof.Rows.entry_tuple_getitem ?_ (PyProof.Rows.args_tuple_getitem _ _)))
  show wpAny _ _ (Builtin.Tuple.tupleItemsOf (.ref t) >>= _) _ _ s
  refine wpAny_bind (tupleItemsOf_ ht ?_)
  refine wpAny_bind (wpAny_typeOf ty ?_)
  rw [if_pos (by decide)]
  refine wpAny_bind (HT.jey hs pl pu ?_)
  have yes:(((((HT.sIx items.size 0 lo:Nat):Int) == 0) && ((1:Int) == 1)) && ((HT.sIx items.size items.size hi - HT.sIx items.size 0 lo) == items.size)) = true:=by
    rw [h1,h2]; simp
  show wpAny _ _ (if (((((HT.sIx items.size 0 lo:Nat):Int) == 0) && ((1:Int) == 1)) && ((HT.sIx items.size items.size hi - HT.sIx items.size 0 lo) == items.size)) = true then _ else _) _ _ s
  rw [if_pos yes]
  unfold Builtin.Tuple.tupleIsExact
  refine wpAny_bind (wpAny_bind (wpAny_typeOf ht.typeIs (wpAny_pure ?_)))
  rw [if_pos (by decide)]
  exact wpAny_bind (wpAny_rule (wpAny_pure ⟨_,rfl,wpAny_pure h⟩))
end
def jAr (K:PySem.W.Frag):V → Option Int → Option Int → Hp → VK → Prop:=fun x lo hi H Q=>∃ a xs,x = .ref a ∧ SqT K H a xs ∧ HT.sIx xs.length 0 lo = 0 ∧ HT.sIx xs.length xs.length hi = xs.length ∧ Q (.ref a) H
theorem jr4:SlR X (jAr X.K):=by
  intro pins s σ H x v vl vu lo hi sl Q I rx hs pl pu h
  obtain ⟨a,xs,rfl,hx,w1,w2,q⟩:=h
  cases rx
  obtain ⟨its,r,ht,hz⟩:=I.tuple hx
  have hlen:its.toArray.size = xs.length:=by rw [List.size_toArray]; exact r.length.symm
  refine ⟨"tuple",_,PyProof.Rows.slot_tuple_getitem.lookup,ht.typeIs,?_⟩
  exact jjo ht hs pl pu (by rw [hlen]; exact w1) (by rw [hlen]; exact w2) ⟨.ref a,H,I,rfl,q⟩
theorem jcc {fl fu:Dv → Option (Option Int)} (he:EV X e f) (hl:OV X lo fl) (hu:OV X hi fu):EV X (.Subscript e (.Slice lo hi none p2) pos) (oSl f fl fu):=
  PE.imp (jpq (sl_list.or (sl_tup.or jr4)) he hl hu) fun σ H Q h=>by
    obtain ⟨H₀,Z₀,Z,δ,d,hh,e,k⟩:=h
    obtain ⟨x,e1,e⟩:=bind_some e
    obtain ⟨i,e2,e⟩:=bind_some e
    obtain ⟨j,e3,e⟩:=bind_some e
    refine ⟨H₀,Z₀,Z,δ,x,hh,e1,fun v Z1 H1 hh1 t1 r1=>⟨H₀,Z₀,Z1,δ,i,hh1,e2,fun Z2 H2 hh2 t2=>⟨H₀,Z₀,Z2,δ,j,hh2,e3,fun Z3 H3 hh3 t3=>?_⟩⟩⟩
    have r3:=(r1.same t2).same t3
    have tt:=(t1.trans t2).trans t3
    cases r3 with
    | @lst a xs ds h1 q1=>
      cases e
      refine .inl ⟨_,_,rfl,SqL.same h1 hh3.zh,fun p hp=>?_⟩
      have n:=New.add hh3.zh hp (.lst (joU xs i j))
      exact k _ _ _ (hh3.new n) (tt.trans n.z) (.lst (SqL.of jaV) ((q1.cut i j).same n.z))
    | @tup a xs ds h1 q1=>
      simp only [slD] at e
      cases e
      by_cases hw:HT.sIx ds.length 0 i = 0 ∧ HT.sIx ds.length ds.length j = ds.length
      · refine .inr (.inr ⟨_,_,rfl,SqT.same h1 hh3.zh,by rw [q1.length]; exact hw.1,by rw [q1.length]; exact hw.2,?_⟩)
        refine k _ _ _ hh3 tt ?_
        rw [jmn hw.1 hw.2]
        exact .tup h1 q1
      · refine .inr (.inl ⟨_,_,rfl,SqT.same h1 hh3.zh,by rw [q1.length]; exact hw,fun p hp=>?_⟩)
        have n:=New.add hh3.zh hp (.tup (joU xs i j))
        exact k _ _ _ (hh3.new n) (tt.trans n.z) (.tup (SqT.of jaV) ((q1.cut i j).same n.z))
    | _=>cases e
end
structure FunV (K:PySem.W.Frag) (x qual:Str) (st:Stmt) (f:Addr) (fd:FuncData) (dV:Value):Prop where
  ex:∃ (oc:Value) (od:Option Addr) (kV doc pm:Value) (an:Option Addr) (cdv ct:Value) (osl:Array (Option Value)),
    fd = PySem.W.fnOf x qual (jcu st) (jbQ st) (jah st) dV kV doc pm an cdv ct ∧ K.lookup f = some ⟨oc,od,.func fd,osl⟩ ∧ PySem.W.codeIn K cdv qual = true
  kp:PySem.W.keepIn K (.ref f) = true
section
variable {P:Program} {w:World} {K:PySem.W.Frag} {mg:Str → Option Value} {base:Heap}
theorem jmY {N:List Str} {vs:List V} {as:List D} {Z:Hp} (r:Reps K Z vs as):∀ (i:Nat) d,(jan N as)[i]? = some (.fz d) → ∃ v,(start N vs)[i]? = some (some v) ∧ Rep K Z v d:=by
  intro i d e
  unfold jan at e
  unfold L2.start
  by_cases hi:i < as.length
  · rw [List.getElem?_append_left (by simpa using hi),List.getElem?_map] at e
    cases q:as[i]? with
    | none=>rw [q] at e; cases e
    | some d'=>
      rw [q] at e
      cases e
      obtain ⟨v,ev,rv⟩:=r.get q
      exact ⟨v,by rw [List.getElem?_append_left (by simpa [r.length] using hi),List.getElem?_map,ev]; rfl,rv⟩
  · rw [List.getElem?_append_right (by simpa using hi),List.getElem?_replicate] at e
    split at e <;> cases e
theorem jjr {N:List Str} {as:List D}:∀ (i:Nat) ds,(jan N as)[i]? ≠ some (.ow ds):=by
  intro i ds e
  unfold jan at e
  by_cases hi:i < as.length
  · rw [List.getElem?_append_left (by simpa using hi),List.getElem?_map] at e
    cases q:as[i]? with
    | none=>rw [q] at e; cases e
    | some d'=>rw [q] at e; cases e
  · rw [List.getElem?_append_right (by simpa using hi),List.getElem?_replicate] at e
    split at e <;> cases e
theorem jie {N:List Str} {vs:List V} {as:List D} {Z H:Hp} (zh:Same Z H) (r:Reps K Z vs as):Hold K H Z Z (jan N as) (start N vs) H:=
  ⟨zh,Same.refl _,Same.refl _,fun _ _=>rfl,by simp [jan,L2.start,r.length],jmY r,fun i ds e=>absurd e (jjr i ds),fun i j ds es a _ e=>absurd e (jjr i ds)⟩
theorem jA2 {x qual:Str} {st:Stmt} {f:Addr} {fd:FuncData} {dV:Value} {N ps:List Str} {k:Nat} {g:List D → Option D} {b:Sf} (F:FunV K x qual st f fd dV) (S:FnScope N ps (jah st)) (len:∀ as d,g as = some d → as.length = ps.length)
    (hb:∀ (cdv:Value) (A:Around) (outer:List Env) (s:Shared) (H:Hp) (E:XK),Room k (A.deeper (envOfC qual (jah st) s.heap.objs.size f cdv)) → BV (jhX CX0 P w K mg base N qual (jah st) f cdv A outer s H E).nox (jbQ st) b)
    (hg:∀ as d,g as = some d → ∃ δ',b (jan N as) = some (.rt d,δ') ∨ (d = .none ∧ b (jan N as) = some (.nx,δ'))):FnOk P w K mg base CX0 (k + 1) f fd ps (spD K g):=by
  obtain ⟨oc,od,kV,doc,pm,an,cdv,ct,osl,rfl,lk,hcd⟩:=F.ex
  refine jta lk hcd S (fun vs H Q E h=>?_) fun A outer s H vs Q E hr hsp=>?_
  · obtain ⟨Z,as,d,zh,r,e,_⟩:=h
    rw [r.length]
    exact len as d e
  · refine ⟨_,PSs.nox (hb cdv A outer s H E hr),?_⟩
    obtain ⟨Z,as,d,zh,r,e,kk⟩:=hsp
    have hh:=jie (N:=N) zh r
    have fin:∀ {σ':St} {H' Z':Hp} {δ':Dv},Hold K H Z Z' δ' σ' H' → Same Z Z' → New Z H Z' H':=fun h' z'=>⟨z',h'.h0,h'.zh,h'.zb⟩
    obtain ⟨δ',e2 | ⟨rfl,e2⟩⟩:=hg as d e
    · exact ⟨H,Z,Z,_,_,hh,e2,fun σ' H' Z' h' z' v rv=>kk v Z' H' (fin h' z') rv⟩
    · exact ⟨H,Z,Z,_,_,hh,e2,fun σ' H' Z' h' z'=>kk _ Z' H' (fin h' z') .non⟩
theorem FunV.binds {x qual:Str} {st:Stmt} {f:Addr} {fd:FuncData} {ps:List Str} (F:FunV K x qual st f fd .none)
    (h:∀ (kV doc pm:Value) (an:Option Addr) (cdv ct:Value) (us:List Value),us.length = ps.length → bindArgs (PySem.W.fnOf x qual (jcu st) (jbQ st) (jah st) .none kV doc pm an cdv ct) ⟨us,[]⟩ = pure (ps.zip us)):Binds K fd ps []:=by
  obtain ⟨oc,od,kV,doc,pm,an,cdv,ct,osl,rfl,lk,hcd⟩:=F.ex
  exact .all (h kV doc pm an cdv ct)
theorem FunV.bindsD {x qual:Str} {st:Stmt} {f T:Addr} {fd:FuncData} {ps:List Str} {o:Obj} {items:Array Value} {n:Nat} {ds:List Value} (F:FunV K x qual st f fd (.ref T)) (ho:K.lookup T = some o) (hs:o.data = .seq items n) (nu:Nat) (hn:nu + ds.length = ps.length)
    (h:∀ (kV doc pm:Value) (an:Option Addr) (cdv ct:Value) (us:List Value),us.length = nu → ∃ kk,bindArgs (PySem.W.fnOf x qual (jcu st) (jbQ st) (jah st) (.ref T) kV doc pm an cdv ct) ⟨us,[]⟩ = seqItems? (.ref T) >>= kk ∧ kk (some items) = pure (ps.zip (us ++ ds))):Binds K fd ps ds:=by
  obtain ⟨oc,od,kV,doc,pm,an,cdv,ct,osl,rfl,lk,hcd⟩:=F.ex
  intro s us KX hl
  obtain ⟨kk,h1,h2⟩:=h kV doc pm an cdv ct us (by rw [List.length_append] at hl; omega)
  exact BindsTo.of_defaults rfl (KX _ _ ho) hs h1 h2
theorem jiW {x qual:Str} {st:Stmt} {f:Addr} {dV oc:Value} {od an:Option Addr} {osl:Array (Option Value)} {kV doc pm cdv ct:Value} (l:K.lookup f = some ⟨oc,od,.func (PySem.W.fnOf x qual (jcu st) (jbQ st) (jah st) dV kV doc pm an cdv ct),osl⟩)
    (c:PySem.W.codeIn K cdv qual = true) (k:PySem.W.keepIn K (.ref f) = true):FunV K x qual st f (PySem.W.fnOf x qual (jcu st) (jbQ st) (jah st) dV kV doc pm an cdv ct) dV:=⟨⟨oc,od,kV,doc,pm,an,cdv,ct,osl,rfl,l,c⟩,k⟩
def jpe (K:PySem.W.Frag):Sp:=fun vs H Q _=>∃ (a:Addr) (ns:List Int),vs = [.ref a] ∧ SqL K H a (ns.map V.int) ∧ ns.length ≤ 63 ∧ ∀ H',Q (.bl true) H'
theorem jyP {g:List D → Option D} {k:Nat} {f:Addr} {fd:FuncData} (F:FnOk P w K mg base CX0 k f fd ["script"] (spD K g)) (hg:∀ ns:List Int,ns.length ≤ 63 → g [.list (ns.map .int)] = some (.bool true)):FnOk P w K mg base CX0 k f fd ["script"] (jpe K):=
  F.imp fun vs H Q E h=>by
    obtain ⟨a,ns,rfl,hS,hl,q⟩:=h
    exact ⟨H,[.list (ns.map .int)],.bool true,Same.refl _,.cons (.lst hS (Reps.ints ns)) .nil,hg ns hl,fun v Z' H' _ r=>by cases r; exact q H'⟩
end
theorem jxi {k:Nat} {l:PySem.W.OpenLaw} {q:Program} {loose:List Str} {XP:(Str → Option Value) → Heap → Prop} {YP:World → Heap → Prop} {d:DefRec} {K:Params → PySem.W.Frag} (hn:l.most = some 63) (hr:Room k callerA) (hdf:d.params.defaults = [])
    (hY:∀ (w:World) (h:Heap),YP w h → (K w.params).In h)
    (F:∀ (w:World) (mg:Str → Option Value) (fa:Addr) (h:Heap),(K w.params).In h → h.Ns mainGlobals mg → mg d.name = some (.ref fa) →
      ∃ fd:FuncData,(∀ (s:Shared) (u:Value),BindsTo s fd ⟨[u],[]⟩ [("script",u)]) ∧ ∀ base:Heap,(K w.params).In base → base.Ns mainGlobals mg → FnOk l.prog w (K w.params) mg base CX0 k fa fd ["script"] (jpe (K w.params))) :
    PySem.W.WalkO q loose XP YP l.row.toRowW d [] (fun f vs=>PySem.call f vs):=
  L2.jrT (n:=63) (k:=k) (x:="script") (CX:=fun _=>CX0) (sp:=fun w=>jpe (K w.params)) hn (by decide) hdf hr hY F (fun _ _ a ns hl _ hS=>⟨a,ns,rfl,hS,hl,fun _=>rfl⟩) fun _ _ _ _ _ z=>z
section
variable {P:Program} {w:World} {K:PySem.W.Frag} {mg:Str → Option Value} {base:Heap}
theorem jdH {x qual:Str} {st:Stmt} {f:Addr} {fd:FuncData} {dV:Value} {N ps:List Str} {k:Nat} {b:Sf} (F:FunV K x qual st f fd dV) (S:FnScope N ps (jah st))
    (hb:∀ (cdv:Value) (A:Around) (outer:List Env) (s:Shared) (H:Hp) (E:XK),Room k (A.deeper (envOfC qual (jah st) s.heap.objs.size f cdv)) → BV (jhX CX0 P w K mg base N qual (jah st) f cdv A outer s H E).nox (jbQ st) b) :
    FnOk P w K mg base CX0 (k + 1) f fd ps (spD K (runB N ps.length b)):=by
  refine jA2 F S (fun as d h=>?_) hb fun as d h=>?_
  · unfold runB at h
    split at h
    · assumption
    · cases h
  · unfold runB at h
    split at h
    · obtain ⟨⟨fl,δ'⟩,e,h⟩:=bind_some h
      cases fl with
      | nx=>cases h; exact ⟨δ',.inr ⟨rfl,e⟩⟩
      | rt d=>cases h; exact ⟨δ',.inl e⟩
      | bk=>cases h
      | ct=>cases h
    · cases h
structure Cal (P:Program) (w:World) (K:PySem.W.Frag) (mg:Str → Option Value) (base:Heap) (x:Str) (k:Nat) (g:List D → Option D) (dd:List D):Prop where
  ex:∃ (fa:Addr) (fd:FuncData) (ps:List Str) (ds:List Value) (dv:List V),FnOk P w K mg base CX0 k fa fd ps (spD K g) ∧ mg x = some (.ref fa) ∧ PySem.W.keepIn K (.ref fa) = true ∧ Binds K fd ps ds ∧ Vals dv ds ∧ ∀ Z,Reps K Z dv dd
theorem Cal.mk0 {x:Str} {k:Nat} {g:List D → Option D} {fa:Addr} {fd:FuncData} {ps:List Str} (F:FnOk P w K mg base CX0 k fa fd ps (spD K g)) (hm:mg x = some (.ref fa)) (hk:PySem.W.keepIn K (.ref fa) = true) (hb:Binds K fd ps []):Cal P w K mg base x k g []:=
  ⟨⟨fa,fd,ps,[],[],F,hm,hk,hb,.nil,fun _=>.nil⟩⟩
end
section
variable {X:Cx} {e:Expr} {es:List Expr} {p pos:Pos} {fs:Dv → Option (List D)}
theorem jvV {k:Nat} {x:Str} {g:List D → Option D} {dd:List D} (C:Cal X.prog X.w X.K X.mg X.base x k g dd) (hr:Room k X.A) (hg:Gl X x) (ha:AV X (e :: es) fs) (hdb:(x == ("__debug__":Str)) = false:=by decide) (he:starEach (e :: es) X.env = (false,eval e X.env) :: starEach es X.env:=by rfl)
    (hpl:(backTo pos (starEach es X.env)).any (·.1) = false:=by rfl):EV X (.Call (.Name x p) (e :: es) [] pos) (os fs fun as=>g (as ++ dd)):=by
  obtain ⟨fa,fd,ps,ds,dv,F,hm,hk,hb,hd,hdd⟩:=C.ex
  exact jtg F hr hg hm hk hb hd hdd jye ha hdb he hpl
variable {tg a:Expr} {f:Dv → Option D}
theorem jdb (ha:EV X a f):IV X tg a (oI f je6):=by
  intro pins s σ H R I h
  obtain ⟨H₀,Z₀,Z,δ,ds,hh,e,k⟩:=h
  obtain ⟨y,e1,e⟩:=bind_some e
  cases y with
  | list xs=>exact js0 ha pins s σ H R I ⟨H₀,Z₀,Z,δ,ds,hh,by unfold oI; rw [e1]; exact e,k⟩
  | tuple xs=>exact jvD ha pins s σ H R I ⟨H₀,Z₀,Z,δ,ds,hh,by unfold oI; rw [e1]; exact e,k⟩
  | _=>cases e
end
end VL
set_option Elab.async false
set_option linter.all false
set_option maxRecDepth 100000
set_option maxHeartbeats 4000000
namespace VL
open PySem PySem.Spec PyProof.Rows L2
def jkH (env:Env):List (Str × NameKind) → List (Str × Addr) → List (Str × Addr)
  | [],cs=>cs
  | (n,k) :: r,cs=>if k == .free then jkH env r ((n,(env.cells.lookup n).getD 0) :: cs) else jkH env r cs
theorem jif {env:Env}:∀ (l:List (Str × NameKind)) (cs:List (Str × Addr)),(∀ y ∈ l,y.2 = .free → ∃ c,env.cells.lookup y.1 = some c) →
    (forIn l cs fun (x:Str × NameKind) (r:List (Str × Addr))=>(if (x.2 == NameKind.free) = true then do let c ← cellOf env x.1; pure (ForInStep.yield ((x.1,c) :: r)) else pure (ForInStep.yield r):Sem (ForInStep (List (Str × Addr))))) = pure (jkH env l cs)
  | [],cs,_=>rfl
  | (n,k) :: r,cs,h=>by
    have ih:=fun cs'=>jif r cs' fun y hy=>h y (List.mem_cons_of_mem _ hy)
    rw [List.forIn_cons]
    cases hk:k == NameKind.free with
    | true=>
      have hk':k = .free:=by simpa using hk
      obtain ⟨c,ec⟩:=h (n,k) List.mem_cons_self hk'
      have e1:cellOf env n = pure c:=by unfold cellOf; rw [ec]
      simp only [hk,if_true,e1,pure_bind,jkH,ec,Option.getD_some]
      exact ih _
    | false=>
      simp only [hk,Bool.false_eq_true,if_false,pure_bind,jkH]
      exact ih _
theorem jdw {scope:Scope} {env:Env} (h:∀ y ∈ scope.names,y.2 = .free → ∃ c,env.cells.lookup y.1 = some c):closureFor scope env = pure (jkH env scope.names []):=by
  simp only [closureFor]
  have:=jif (env:=env) scope.names [] h
  first
    | (rw [this]; rfl)
    | (simp only [this]; rfl)
    | (unfold closureFor; simp_all)
theorem jbG {env:Env}:∀ (l:List (Str × NameKind)) (cs:List (Str × Addr)) (y:Str) (c:Addr),(∀ z ∈ l,z.2 = .free → ∃ c,env.cells.lookup z.1 = some c) → (jkH env l cs).lookup y = some c → cs.lookup y = some c ∨ env.cells.lookup y = some c
  | [],cs,y,c,_,e=>.inl e
  | (n,k) :: r,cs,y,c,h,e=>by
    unfold jkH at e
    have hr:=fun z hz=>h z (List.mem_cons_of_mem _ hz)
    split at e
    · rename_i hk
      rcases jbG r _ y c hr e with q | q
      · rw [List.lookup_cons] at q
        cases hy:y == n with
        | true=>
          have hy':y = n:=by simpa using hy
          subst hy'
          rw [hy] at q
          obtain ⟨c',ec⟩:=h (y,k) List.mem_cons_self (by simpa using hk)
          simp only [ec,Option.getD_some] at q
          cases q
          exact .inr ec
        | false=>rw [hy] at q; exact .inl q
      · exact .inr q
    · exact jbG r cs y c hr e
theorem jgS {env:Env}:∀ (l:List (Str × NameKind)) (cs:List (Str × Addr)) (y:Str),((y,NameKind.free) ∈ l ∨ (cs.lookup y).isSome = true) → ((jkH env l cs).lookup y).isSome = true
  | [],cs,y,h=>by
    rcases h with h | h
    · cases h
    · exact h
  | (n,k) :: r,cs,y,h=>by
    unfold jkH
    split
    · rename_i hk
      refine jgS r _ y ?_
      rcases h with h | h
      · rcases List.mem_cons.mp h with e | e
        · cases e; exact .inr (by simp [List.lookup_cons])
        · exact .inl e
      · refine .inr ?_
        rw [List.lookup_cons]
        cases hy:y == n with
        | true=>rfl
        | false=>exact h
    · rename_i hk
      refine jgS r cs y ?_
      rcases h with h | h
      · rcases List.mem_cons.mp h with e | e
        · cases e; exact absurd rfl hk
        · exact .inl e
      · exact .inr h
theorem jd4 {env:Env} {y:Str}:∀ (l:List (Str × NameKind)),(∀ z ∈ l,z.2 ≠ .cell) →
    (((l.map fun (n,k)=>if (k == NameKind.free && env.scope.kind == .function && env.kindOf n == some .cell) then (n,NameKind.cell) else (n,k)).lookup y = some .cell ∨ (l.map fun (n,k)=>if (k == NameKind.free && env.scope.kind == .function && env.kindOf n == some .cell) then (n,NameKind.cell) else (n,k)).lookup y = some .free) ↔ l.lookup y = some .free)
  | [],_=>by simp
  | (n,k) :: r,h=>by
    have ih:=jd4 (env:=env) (y:=y) r fun z hz=>h z (List.mem_cons_of_mem _ hz)
    have hk:k ≠ .cell:=h (n,k) List.mem_cons_self
    rw [List.map_cons]
    cases hy:y == n with
    | true=>
      by_cases hc:(k == NameKind.free && env.scope.kind == .function && env.kindOf n == some .cell) = true
      · have hf:k = .free:=by
          simp only [Bool.and_eq_true] at hc
          simpa using hc.1.1
        simp only [if_pos hc,List.lookup_cons,hy]
        simp [hf]
      · simp only [if_neg hc,List.lookup_cons,hy]
        simp [hk]
    | false=>
      by_cases hc:(k == NameKind.free && env.scope.kind == .function && env.kindOf n == some .cell) = true
      · simp only [if_pos hc,List.lookup_cons,hy]; exact ih
      · simp only [if_neg hc,List.lookup_cons,hy]; exact ih
def blk (X:Cx) (scope:Scope) (N:List Str) (C:Addr) (s₀:Shared) (H₀:Hp) (ex:List Addr):Cx:=
  { X with N:=N,s₀:=s₀,H₀:=H₀,env:=compEnvC scope (jkH X.env scope.names []) C X.env,outer:=X.stack,stack:=X.stack,ex:=ex,fn:=fun _=>false,pn:=[],xe:=fun _ _=>False }
structure BlkOk (on:List (Str × NameKind)) (ON:List Str) (scope:Scope) (vars:List Str) (caps:List (Nat × Str)):Prop where
  kind:scope.kind = .function
  cell:∀ y ∈ scope.names,y.2 ≠ .cell
  names:∀ y ∈ scope.names,y.2 = .local → scope.names.lookup y.1 = some .local
  free:∀ y ∈ scope.names,y.2 = .free → on.lookup y.1 = some .cell ∨ on.lookup y.1 = some .free
  cap:∀ p ∈ caps,ON[p.1]? = some p.2 ∧ scope.names.lookup p.2 = some .free
section
variable {X:Cx} {pins:List (Addr × Obj)} {σ:St} {H H':Hp} {s s':Shared} {scope:Scope} {vars:List Str} {caps:List (Nat × Str)} {fp:List Addr} {C:Addr}
def jhO (σ:St) (caps:List (Nat × Str)):St:=caps.map fun p=>(σ[p.1]?).getD none
theorem BlkOk.cells (B:BlkOk X.env.scope.names X.N scope vars caps) (I:Inv X pins σ H s):∀ y ∈ scope.names,y.2 = .free → ∃ c,X.env.cells.lookup y.1 = some c:=fun y hy e=>I.ok.has y.1 (B.free y hy e)
theorem jon (B:BlkOk X.env.scope.names X.N scope vars caps) (I:Inv X pins σ H s) (hf:∀ b ∈ fp,jkZ X pins H b) (hlt:∀ b ∈ fp,b < s.heap.objs.size) (hC:s.heap.objs.size ≤ C):(blk X scope (vars ++ caps.map (·.2)) C s H fp).Ok where
  mod:=I.ok.mod
  kind:=B.kind
  glob:=I.ok.glob
  blt:=I.ok.blt
  above:=hC
  inj:=fun x y c e1 e2=>by
    rcases jbG _ _ _ _ (B.cells I) e1 with q1 | q1
    · cases q1
    · rcases jbG _ _ _ _ (B.cells I) e2 with q2 | q2
      · cases q2
      · exact I.ok.inj x y c q1 q2
  has:=fun x e=>by
    have:scope.names.lookup x = some .free:=(jd4 scope.names B.cell).mp e
    have:=jgS (env:=X.env) scope.names [] x (.inl (PySem.mem_of_lookup this))
    exact Option.isSome_iff_exists.mp this
  cab:=fun x c e=>nomatch e
  hd:=I.ok.hd
  frames:=I.ok.frames
  stk:=.inl rfl
  exf:=fun b hb=>⟨Nat.ne_of_lt (Nat.lt_of_lt_of_le (hlt b hb) hC),fun x c e=>by
    rcases jbG _ _ _ _ (B.cells I) e with q | q
    · cases q
    · exact (hf b hb).2.2.2.2.1 x c q⟩
  bs:=I.bs
  bsz:=Nat.le_trans I.ok.bsz I.sz
  noex:=fun b o e hb=>by
    rcases (hf b hb).2.2.2.1 with z | z
    · exact I.ok.noex b o e z
    · exact absurd (Nat.lt_of_lt_of_le (Heap.lt_size e) (Nat.le_trans I.ok.bsz z)) (Nat.lt_irrefl _)
  exfs:=fun b hb z=>by
    rcases List.mem_cons.mp (I.stkSub b z) with q | q
    · exact (hf b hb).2.1 q
    · exact (hf b hb).2.2.1 q
  funs:=I.stack
  frf:=I.stkFree
theorem joo (B:BlkOk X.env.scope.names X.N scope vars caps) (I:Inv X pins σ H s) (hf:∀ b ∈ fp,jkZ X pins H b) (hlt:∀ b ∈ fp,b < s.heap.objs.size) (hC:s.heap.objs.size ≤ C) {h₁:Heap} {m:Str → Option Value} {tk:Nat} (hns:h₁.Ns C m) (old:∀ b o,s.heap.get? b = some o → h₁.get? b = some o) :
    Inv (blk X scope (vars ++ caps.map (·.2)) C s H fp) [] (vars.map (fun _=>none) ++ jhO σ caps) H { s with heap:=h₁,toks:=tk }:=by
  refine ⟨jon B I hf hlt hC,rfl,I.bare,Un.kept old,⟨m,hns,fun i x v e1 e2 e3=>?_⟩,fun x c e=>?_,I.hok.fresh hC,fun x c e=>?_,fun p hp=>absurd (show p ∈ ([]:List (Addr × Obj)) from hp) (by simp),I.hok.kept old,?_⟩
  · have e1:(vars ++ caps.map (·.2))[i]? = some x:=e1
    by_cases hi:i < vars.length
    · rw [List.getElem?_append_left (by simpa using hi),List.getElem?_map] at e2
      cases q:vars[i]? <;> rw [q] at e2 <;> cases e2
    · rw [List.getElem?_append_right (by simpa using hi)] at e1 e2
      simp only [List.length_map] at e2
      unfold jhO at e2
      rw [List.getElem?_map] at e1 e2
      cases q:caps[i - vars.length]? with
      | none=>rw [q] at e1; cases e1
      | some p=>
        rw [q] at e1 e2
        cases e1
        have hp:=List.mem_of_getElem? q
        obtain ⟨g1,g2⟩:=B.cap p hp
        have gf:X.env.scope.names.lookup p.2 = some .cell ∨ X.env.scope.names.lookup p.2 = some .free:=B.free (p.2,.free) (PySem.mem_of_lookup g2) rfl
        have ev:σ[p.1]? = some (some v):=by
          have e2:(σ[p.1]?).getD none = some v:=Option.some.inj e2
          cases z:σ[p.1]? with
          | none=>rw [z] at e2; cases e2
          | some w=>rw [z] at e2; rw [show w = some v from e2]
        obtain ⟨m',_,hl⟩:=I.loc
        obtain ⟨u,r,l⟩:=hl p.1 p.2 v g1 ev (gf.elim (fun z=>.inr (.inl z)) fun z=>.inr (.inr z))
        refine ⟨u,r,.inr ⟨?_,?_⟩⟩
        · exact (jd4 scope.names B.cell).mpr g2
        · rcases l with ⟨z,_⟩ | ⟨_,c,ec,hc⟩
          · have z:X.env.scope.names.lookup p.2 = some .local:=z
            rcases gf with w | w <;> rw [z] at w <;> cases w
          · obtain ⟨c',q'⟩:=Option.isSome_iff_exists.mp (jgS (env:=X.env) scope.names [] p.2 (.inl (PySem.mem_of_lookup g2)))
            rcases jbG _ _ _ _ (B.cells I) q' with w | w
            · cases w
            · rw [ec] at w
              cases w
              obtain ⟨o,ho,hd⟩:=hc
              exact ⟨c,q',o,old c o ho,hd⟩
  · rcases jbG _ _ _ _ (B.cells I) e with q | q
    · cases q
    · obtain ⟨v,o,ho,hd⟩:=I.cell x c q
      exact ⟨v,o,old c o ho,hd⟩
  · rcases jbG _ _ _ _ (B.cells I) e with q | q
    · cases q
    · exact I.freeC x c q
  · simp [blk,jhO]
theorem jom (I:Inv X pins σ H s) (hf:∀ b ∈ fp,jkZ X pins H b) {D:Addr} {s':Shared} {σ':St} {N:List Str} {ys:List V} {its:List Value} (hC:s.heap.objs.size ≤ C) (hD:s.heap.objs.size ≤ D) (hDC:D ≠ C)
    (J:Inv (blk X scope N C s H fp) [] σ' H' s') (hD':H' D = none) (hp:s'.heap.PlainList D its.toArray) (hv:Vals ys its) (hz:ys.length ≤ sizeLine) {h':Heap} (hs:Heap.SameBut C s'.heap h') :
    Inv X pins σ (upd H' D (.lst ys)) { s' with heap:=h' }:=by
  have U:Un (frs X.stack) fp H H' s.heap s'.heap:=J.base
  have neC:∀ b o,s.heap.get? b = some o → b ≠ C:=fun b o e=>Nat.ne_of_lt (Nat.lt_of_lt_of_le (Heap.lt_size e) hC)
  have neD:∀ b o,s.heap.get? b = some o → b ≠ D:=fun b o e=>Nat.ne_of_lt (Nat.lt_of_lt_of_le (Heap.lt_size e) hD)
  have mv:∀ b o,b ≠ C → s'.heap.get? b = some o → h'.get? b = some o:=fun b o hb e=>hs.extBut b o hb e
  have tD:∀ b o,H' b = some o → (upd H' D (.lst ys)) b = some o:=fun b o e=>by rw [ja4 (ja8 e hD')]; exact e
  refine I.call' (s':={ s' with heap:=h' }) (ch:=fp) J.os ⟨fun b o e n h1 h2=>mv b o (neC b o e) (U.keep b o e n h1 h2),fun b o e n h1 h2=>?_,fun b o e n h2=>?_,fun b o e h2=>?_,fun b xs e=>tD _ _ (U.tups b xs e),fun b o xs e=>tD _ _ (U.frzs b o xs e),fun b ps e=>?_⟩ (fun b o e=>?_) J.bare
    (fun b hb=>⟨(hf b hb).2.2.2.1,(hf b hb).2.1,(hf b hb).2.2.2.2.1,(hf b hb).2.2.2.2.2⟩)
  · obtain ⟨sl,q⟩:=U.slot b o e n h1 h2
    exact ⟨sl,mv b _ (neC b o e) q⟩
  · rw [ja4 (neD b o e)]; exact U.free b o e n h2
  · obtain ⟨o',q⟩:=U.there b o e h2
    exact ⟨o',mv b _ (neC b o e) q⟩
  · obtain ⟨more,q⟩:=U.tbls b ps e
    exact ⟨more,tD _ _ q⟩
  · by_cases hb:b = D
    · subst hb
      rw [jaV] at e
      cases e
      obtain ⟨n,q⟩:=hp
      exact ⟨hz,its,n,hv,mv _ _ hDC q⟩
    · rw [ja4 hb] at e
      refine (J.hok b o e).stay (fun c v hc q=>mv c v ?_ q) (fun c q=>tD _ _ q) fun c xs q=>tD _ _ q
      intro z
      have fc:H' C = none:=J.free
      rcases hc with w | w
      · rw [← w,z,fc] at e; cases e
      · rw [z,fc] at w; cases w
theorem jkG (elt target iter:Expr) (scope:Scope) (pos:Pos) (it acc:Value) (env:Env) :
    compTurn (.ListComp elt [⟨target,iter,[],0⟩] scope pos) 0 it acc env = (standAt iter.pos >>= fun _=>pyNext it >>= fun r=>match r with
      | none=>pure (.done .next)
      | some v=>letOwnedTupleGo target it v >>= fun _=>assign target env v >>= fun _=>
        (eval elt env >>= fun x=>call (.builtin "list.append") [acc,x] >>= fun _=>pure ()) >>= fun _=>
          again (.compLoop (.ListComp elt [⟨target,iter,[],0⟩] scope pos) 0 it acc env)):=by rfl
def jqN (σ σ':St):Prop:=σ.length = σ'.length ∧ ∀ (i:Nat) v,σ[i]? = some (some v) → σ'[i]? = some (some v)
def jo3 (wi:TI) (g:TG) (te:TE) (vars:List Str) (caps:List (Nat × Str)):TE:=fun σ H Q=>wi σ H fun J H1=>∃ W:Nat → Nat → List V → Hp → Prop,(∃ m,W 0 m [] H1) ∧ ∀ i m ys H,W i m ys H →
  (J.stop i H ∧ ys.length ≤ sizeLine ∧ ∀ p,H p = none → Q (.ref p) (upd H p (.lst ys))) ∨
  (J.go i H ∧ ys.length < sizeLine ∧ ∀ x H',J.yld i H x H' → g x (vars.map (fun _=>none) ++ jhO σ caps) H' fun σ2 H2=>jqN (vars.map (fun _=>none) ++ jhO σ caps) σ2 ∧ te σ2 H2 fun y H3=>∃ m',m' < m ∧ W (i + 1) m' (ys ++ [y]) H3)
theorem Inv.weaken {X:Cx} {pins:List (Addr × Obj)} {σ σ':St} {H:Hp} {s:Shared} (I:Inv X pins σ H s) (hl:σ'.length = σ.length) (w:∀ (i:Nat) v,σ'[i]? = some (some v) → σ[i]? = some (some v)):Inv X pins σ' H s:=I.weak hl w
theorem jhy {prog:Program} {w:World} {A:Around} {R:Result → Shared → Prop} {s:Shared} {elt target iter:Expr} {scope:Scope} {pos:Pos} {it acc:Value} {env:Env} (I:Nat → Shared → Prop)
    (turn:∀ n s,I n s → wpAny (model prog w) A (pyNext it) (fun r s₁=>match r with
      | none=>R (.ok .next) s₁
      | some v=>wpAny (model prog w) A (letOwnedTupleGo target it v) (fun _ s₁=>wpAny (model prog w) A (assign target env v) (fun _ s₂=>wpAny (model prog w) A (eval elt env) (fun x s₃=>
          wpAny (model prog w) A (call (.builtin "list.append") [acc,x]) (fun _ s₄=>∃ m,m < n ∧ I m s₄) (fun _ _=>False) s₃) (fun _ _=>False) s₂) (fun _ _=>False) s₁) (fun _ _=>False) s₁) (fun _ _=>False) s)
    (n:Nat) (h:I n s):codeAny (model prog w) A (.compLoop (.ListComp elt [⟨target,iter,[],0⟩] scope pos) 0 it acc env) R s:=by
  refine codeAny_loop rfl I (fun n s hI=>?_) n h
  show wpAny _ _ ((compTurn (.ListComp elt [⟨target,iter,[],0⟩] scope pos) 0 it acc env).onRaise (fun x=>do noteFrame x env; theTreesLotGoes x)) _ _ s
  refine wpAny_noted ?_
  rw [jkG]
  refine wpAny_bind (wpAny_standAt (wpAny_bind (wpAny_mono (turn n s hI) (fun r s₁ h₁=>?_) fun _ _ h'=>h'.elim)))
  cases r with
  | none=>exact wpAny_pure h₁
  | some v=>
    refine wpAny_bind (wpAny_mono h₁ (fun _ s₁ h₁=>?_) fun _ _ h'=>h'.elim)
    exact wpAny_bind (wpAny_mono h₁ (fun _ s₂ h₂=>wpAny_bind (wpAny_bind (wpAny_mono h₂ (fun x s₃ h₃=>wpAny_bind (wpAny_mono h₃
      (fun _ s₄ h₄=>wpAny_pure (wpAny_pure ⟨rfl,h₄⟩)) fun _ _ h'=>h'.elim)) fun _ _ h'=>h'.elim))) fun _ _ h'=>h'.elim)
end
section
variable {X:Cx} {scope:Scope} {vars:List Str} {caps:List (Nat × Str)} {elt tg iter:Expr} {pos:Pos} {wi:TI} {g:TG} {te:TE}
theorem jij (B:BlkOk X.env.scope.names X.N scope vars caps) (hc:X.calm = true)
    (hg:∀ C s₀ H₀ ex,PG (blk X scope (vars ++ caps.map (·.2)) C s₀ H₀ ex) tg g) (he:∀ C s₀ H₀ ex,PE (blk X scope (vars ++ caps.map (·.2)) C s₀ H₀ ex) elt te)
    {pins:List (Addr × Obj)} {σ:St} {H2:Hp} {s2:Shared} {Q:VK} {it:Addr} {fp:List Addr} {tn:Nat → Heap → Prop} {J:It} (I2:Inv X pins σ H2 s2) (T:Turn X.prog X.w X.K tg J fp it tn) (st2:tn 0 s2.heap) (f2:∀ b ∈ fp,jkZ X pins H2 b)
    {W:Nat → Nat → List V → Hp → Prop} {m0:Nat} (w0:W 0 m0 [] H2) (turn:∀ i m ys H,W i m ys H →
      (J.stop i H ∧ ys.length ≤ sizeLine ∧ ∀ p,H p = none → Q (.ref p) (upd H p (.lst ys))) ∨
      (J.go i H ∧ ys.length < sizeLine ∧ ∀ x H',J.yld i H x H' → g x (vars.map (fun _=>none) ++ jhO σ caps) H' fun σ2 H2=>jqN (vars.map (fun _=>none) ++ jhO σ caps) σ2 ∧ te σ2 H2 fun y H3=>∃ m',m' < m ∧ W (i + 1) m' (ys ++ [y]) H3))
    {RR:Value → Addr → Result → Shared → Prop} {E:Value → Shared → Prop}
    (hRR:∀ D C s' m,s'.heap.Ns C m → D ≠ C → s2.heap.objs.size ≤ D → s2.heap.objs.size ≤ C → ∀ H',H' C = none → (∀ h',Heap.SameBut C s'.heap h' → Inv X pins σ H' { s' with heap:=h' }) → Q (.ref D) H' → RR (.ref D) C (.ok .next) s') :
    wpAny (model X.prog X.w) X.A (newList []) (fun acc s₃=>wpAny (model X.prog X.w) X.A (newFunctionEnv scope X.env.globals (jkH X.env scope.names []) [] X.env.qual none .none (some X.env)) (fun cenv s₄=>
      codeAny (model X.prog X.w) X.A (.compStart (.ListComp elt [⟨tg,iter,[],0⟩] scope pos) 0 (.ref it) acc { cenv with scope:=relabel scope X.env }) (RR acc cenv.locals) s₄) E s₃) E s2:=by
  refine wpAny_newObj_type (wpAny_newFunctionEnv B.cell (by intro y hy; simp at hy) (fun h₁ hns₁ hsb₁=>?_) B.kind)
  dsimp only at hns₁ hsb₁ ⊢
  generalize hP:s2.heap.push { cls:=.type "list",dict:=none,data:=.seq ([]:List Value).toArray } = HP at hns₁ hsb₁ ⊢
  have hCs:HP.objs.size = s2.heap.objs.size + 1:=by rw [← hP,Heap.size_push]
  have hDC:s2.heap.objs.size ≠ HP.objs.size:=by rw [hCs]; exact Nat.ne_of_lt (Nat.lt_succ_self _)
  have hCle:s2.heap.objs.size ≤ HP.objs.size:=by rw [hCs]; exact Nat.le_succ _
  have old:∀ b o,s2.heap.get? b = some o → h₁.get? b = some o:=fun b o e=>hsb₁.extBut b o (Nat.ne_of_lt (Nat.lt_of_lt_of_le (Heap.lt_size e) hCle)) (Heap.get?_push_of_some _ (hP ▸ Heap.get?_push_of_some _ e))
  have hacc:h₁.PlainList s2.heap.objs.size #[]:=⟨_,hsb₁.extBut _ _ hDC (Heap.get?_push_of_some _ (hP ▸ Heap.get?_push_size _ rfl))⟩
  have flt:∀ b ∈ fp,b < s2.heap.objs.size:=fun b hb=>by
    obtain ⟨o,e,_⟩:=T.obj _ _ st2 b hb
    exact Heap.lt_size e
  have st1:tn 0 h₁:=T.keep _ _ _ st2 fun b _ o e=>old b o e
  have loop:∀ s3:Shared,s3 = { s2 with heap:=h₁,toks:=s2.toks + ([]:List (Str × Value)).length } →
      codeAny (model X.prog X.w) X.A (.compLoop (.ListComp elt [⟨tg,iter,[],0⟩] scope pos) 0 (.ref it) (.ref s2.heap.objs.size) (compEnvC scope (jkH X.env scope.names []) HP.objs.size X.env))
        (RR (.ref s2.heap.objs.size) HP.objs.size) s3:=by
    rintro s3 rfl
    have X':=blk X scope (vars ++ caps.map (·.2)) HP.objs.size s2 H2 fp
    have fpo:∀ {H':Hp},(∀ b ∈ fp,H' b = none) → ∀ b ∈ fp,jkZ (blk X scope (vars ++ caps.map (·.2)) HP.objs.size s2 H2 fp) [] H' b:=fun hn b hb=>by
      have ok:=jon B I2 f2 flt hCle
      exact ⟨hn b hb,(ok.exf b hb).1,ok.exfs b hb,.inl hb,(ok.exf b hb).2,fun p hp=>absurd (show p ∈ ([]:List (Addr × Obj)) from hp) (by simp)⟩
    refine jhy (fun n s=>∃ i ys H its,Inv (blk X scope (vars ++ caps.map (·.2)) HP.objs.size s2 H2 fp) [] (vars.map (fun _=>none) ++ jhO σ caps) H s ∧ tn i s.heap ∧ (∀ b ∈ fp,H b = none) ∧ s.heap.PlainList s2.heap.objs.size (List.toArray its) ∧ H s2.heap.objs.size = none ∧ Vals ys its ∧ W i n ys H) ?_ m0
      ⟨0,[],H2,[],joo B I2 f2 flt hCle hns₁ old,st1,fun b hb=>(f2 b hb).1,hacc,I2.hok.fresh (Nat.le_refl _),.nil,w0⟩
    rintro n s4 ⟨i,ys,H4,its,I4,st4,fr4,pl4,nD4,v4,w4⟩
    obtain ⟨nn,eD⟩:=id pl4
    have DnL:s2.heap.objs.size ≠ (blk X scope (vars ++ caps.map (·.2)) HP.objs.size s2 H2 fp).env.locals:=hDC
    have Dfs:s2.heap.objs.size ∉ (blk X scope (vars ++ caps.map (·.2)) HP.objs.size s2 H2 fp).fs:=fun z=>by
      rcases List.mem_cons.mp (I2.stkSub _ z) with q | q
      · have:=I2.lt; rw [← q] at this; exact Nat.lt_irrefl _ this
      · exact I2.nofs (Nat.le_refl _) q
    have Dfp:∀ b ∈ fp,s2.heap.objs.size ≠ b:=fun b hb z=>by have:=flt b hb; rw [← z] at this; exact Nat.lt_irrefl _ this
    have DnC:∀ x c,(blk X scope (vars ++ caps.map (·.2)) HP.objs.size s2 H2 fp).env.cells.lookup x = some c → c ≠ s2.heap.objs.size:=fun x c e z=>by
      rcases jbG _ _ _ _ (B.cells I2) e with q | q
      · cases q
      · obtain ⟨v,o,ho,_⟩:=I2.cell x c q
        have:=Heap.lt_size ho
        rw [z] at this
        exact Nat.lt_irrefl _ this
    have pinD:∀ {σ':St} {H':Hp} {s':Shared},Inv (blk X scope (vars ++ caps.map (·.2)) HP.objs.size s2 H2 fp) [(s2.heap.objs.size,{ cls:=.type "list",data:=.seq its.toArray nn })] σ' H' s' → s'.heap.PlainList s2.heap.objs.size its.toArray ∧ H' s2.heap.objs.size = none:=fun {σ' H' s'} I'=>by
      obtain ⟨q1,q2,_⟩:=I'.pin (s2.heap.objs.size,{ cls:=.type "list",data:=.seq its.toArray nn }) (by simp [blk])
      exact ⟨⟨nn,q1⟩,q2⟩
    have I4p:Inv (blk X scope (vars ++ caps.map (·.2)) HP.objs.size s2 H2 fp) [(s2.heap.objs.size,{ cls:=.type "list",data:=.seq its.toArray nn })] (vars.map (fun _=>none) ++ jhO σ caps) H4 s4:=
      I4.pins_of fun p hp=>by
        have e:p = (s2.heap.objs.size,{ cls:=.type "list",data:=.seq its.toArray nn }):=by simpa [blk] using hp
        subst e
        exact ⟨eD,nD4,DnL,Dfs,fun v z=>by cases z⟩
    have fpo':∀ {H':Hp},(∀ b ∈ fp,H' b = none) → ∀ b ∈ fp,jkZ (blk X scope (vars ++ caps.map (·.2)) HP.objs.size s2 H2 fp) [(s2.heap.objs.size,{ cls:=.type "list",data:=.seq its.toArray nn })] H' b:=fun hn b hb=>by
      obtain ⟨q1,q2,q3,q4,q5,_⟩:=fpo hn b hb
      exact ⟨q1,q2,q3,q4,q5,fun p hp=>by
        have e:p = (s2.heap.objs.size,{ cls:=.type "list",data:=.seq its.toArray nn }):=by simpa [blk] using hp
        subst e
        exact Dfp b hb⟩
    have unp:∀ {pl:List (Addr × Obj)} {σ':St} {H':Hp} {s':Shared},Inv (blk X scope (vars ++ caps.map (·.2)) HP.objs.size s2 H2 fp) pl σ' H' s' → Inv (blk X scope (vars ++ caps.map (·.2)) HP.objs.size s2 H2 fp) [] σ' H' s':=fun {pl σ' H' s'} I'=>
      I'.pins_of fun p hp=>absurd (show p ∈ ([]:List (Addr × Obj)) from hp) (by simp)
    rcases turn i n ys H4 w4 with ⟨stop,hz,qn⟩ | ⟨go,hz,step⟩
    · refine thn (T.done (blk X scope (vars ++ caps.map (·.2)) HP.objs.size s2 H2 fp) rfl rfl rfl hc i _ s4 _ H4 _ I4p (fpo' fr4) st4 stop) fun r s5 ⟨hr,I5⟩=>?_
      subst hr
      obtain ⟨p5,n5⟩:=pinD I5
      obtain ⟨m5,ns5,_⟩:=I5.loc
      refine hRR _ _ s5 m5 ns5 hDC (Nat.le_refl _) hCle _ ?_ (fun h' hs'=>jom I2 f2 hCle (Nat.le_refl _) hDC (unp I5) n5 p5 v4 hz hs') (qn _ n5)
      rw [ja4 hDC.symm]
      exact I5.free
    · refine thn (T.item (blk X scope (vars ++ caps.map (·.2)) HP.objs.size s2 H2 fp) rfl rfl rfl hc i _ s4 _ H4 _ I4p (fpo' fr4) st4 go) fun r s5 ⟨u,hr,h5⟩=>?_
      subst hr
      refine thn h5 fun _ s6 ⟨x,H6,I6,rx,yx,st6,fr6⟩=>?_
      have I6p:=I6.pinned (fpo' fr6) (T.obj _ _ st6)
      refine thn (hg _ _ _ _ _ s6 _ H6 x u _ I6p rx (step x H6 yx)) fun _ s7 ⟨σ7,H7,I7,kp,q7⟩=>?_
      refine thn (he _ _ _ _ _ s7 σ7 H7 _ I7 q7) fun v s8 ⟨y,H8,I8,ry,m',hm,w8⟩=>?_
      obtain ⟨p8,n8⟩:=pinD I8.unpinned
      have st8:tn (i + 1) s8.heap:=T.keep _ _ _ st6 fun b hb o e=>(I8.pin (b,o) (List.mem_append_right _ (List.mem_append_right _ (jcx hb e)))).1
      have fr8:∀ b ∈ fp,H8 b = none:=fun b hb=>by
        obtain ⟨o,e,d⟩:=T.obj _ _ st6 b hb
        exact (I8.pin (b,o) (List.mem_append_right _ (List.mem_append_right _ (jcx hb e)))).2.1
      have hl:=v4.length
      refine wpAny_list_append_plain p8 (fun h9 p9 sb9=>⟨m',hm,i + 1,ys ++ [y],H8,its ++ [v],?_,?_,fr8,by simpa using p9,n8,v4.append (.cons ry .nil),w8⟩) (by simp; omega)
      · have I9:Inv (blk X scope (vars ++ caps.map (·.2)) HP.objs.size s2 H2 fp) [] σ7 H8 { s8 with heap:=h9,toks:=s8.toks }:=
          (unp I8).turned (it:=s2.heap.objs.size) (fun b o hb e=>sb9.extBut b o hb e) n8 DnL (.inr (Nat.le_refl _)) DnC fun p hp=>absurd (show p ∈ ([]:List (Addr × Obj)) from hp) (by simp)
        exact I9.weak kp.1 kp.2
      · exact T.keep _ _ _ st8 fun b hb o e=>sb9.extBut b o (Dfp b hb).symm e
  exact codeAny_compStart_list (loop _ rfl) (T.self _ 0 _ _ _ st1 (loop _ rfl))
theorem jsm (B:BlkOk X.env.scope.names X.N scope vars caps) (hc:X.calm = true) (hi:PI X tg iter wi)
    (hg:∀ C s₀ H₀ ex,PG (blk X scope (vars ++ caps.map (·.2)) C s₀ H₀ ex) tg g) (he:∀ C s₀ H₀ ex,PE (blk X scope (vars ++ caps.map (·.2)) C s₀ H₀ ex) elt te) (hs:∀ x,foldedSetIterable iter X.env x = pure x:=by intro _; rfl) :
    PE X (.ListComp elt [⟨tg,iter,[],0⟩] scope pos) (jo3 wi g te vars caps):=by
  intro pins s σ H Q I h
  rw [eval_ListComp]
  refine wpAny_comprehension_free (use:=none) rfl hs (jdw (B.cells I)) B.kind B.names ?_
  show wpAny _ _ (eval iter X.env) _ _ s
  refine thn (hi pins s σ H _ I h) fun v s1 h1=>thn h1 fun itv s2 h2=>?_
  obtain ⟨it,fp,tn,J,H2,e,I2,T,st2,f2,W,⟨m0,w0⟩,turn⟩:=h2
  subst e
  exact jij B hc hg he I2 T st2 f2 w0 turn (RR:=fun acc C=>compPost (model X.prog X.w) X.A X.xe none (EP X pins σ Q) acc C) fun D C s' m ns _ _ _ H' _ k q=>⟨m,ns,fun h' hs'=>⟨.ref D,H',k h' hs',rfl,q⟩⟩
theorem jna {i:Nat} {y:Str} {py spos:Pos} (B:BlkOk X.env.scope.names X.N scope vars caps) (hc:X.calm = true) (hi:PI X tg iter wi)
    (hg:∀ C s₀ H₀ ex,PG (blk X scope (vars ++ caps.map (·.2)) C s₀ H₀ ex) tg g) (he:∀ C s₀ H₀ ex,PE (blk X scope (vars ++ caps.map (·.2)) C s₀ H₀ ex) elt te)
    (hN:X.N.Nodup) (hy:X.N[i]? = some y) (hx:Loc X.env.scope y) (hsw:swapsWith (.ListComp elt [⟨tg,iter,[],0⟩] scope pos) (some (.Name y py)) spos.line X.env = pure true)
    (hf:X.fn y = true ∨ X.env.scope.names.lookup y = some .local) (hs:∀ x,foldedSetIterable iter X.env x = pure x:=by intro _; rfl) :
    PS X (.Assign [.Name y py] (.ListComp elt [⟨tg,iter,[],0⟩] scope pos) spos) (fun D σ H=>jo3 wi g te vars caps σ H fun v H1=>D.nx (σ.set i (some v)) H1):=by
  intro pins s σ H DE I h
  rw [exec_Assign_Name_used _ _ _ _ hsw]
  refine wpAny_bind (wpAny_standAt (wpAny_bind ?_))
  show wpAny _ X.A (do let _ ← comprehension (.ListComp elt [⟨tg,iter,[],0⟩] scope pos) scope X.env _ (newList []) false (eval iter X.env) (some (assign (.Name y py) X.env))) _ _ s
  refine wpAny_bind (wpAny_mono (wpAny_comprehension_free (use:=some (assign (.Name y py) X.env)) (Q:=fun _ s'=>SP X pins DE .next s') rfl hs (jdw (B.cells I)) B.kind B.names
    (thn (hi pins s σ H _ I h) fun v s1 h1=>thn h1 fun itv s2 h2=>?_)) (fun _ s' hq=>wpAny_pure (wpAny_pure hq)) fun _ _ e=>e)
  obtain ⟨it,fp,tn,J,H2,e,I2,T,st2,f2,W,⟨m0,w0⟩,turn⟩:=h2
  subst e
  refine jij (Q:=fun v H1=>DE.nx (σ.set i (some v)) H1) B hc hg he I2 T st2 f2 w0 turn (RR:=fun acc C=>compPost (model X.prog X.w) X.A X.xe (some (assign (.Name y py) X.env)) (fun _ s'=>SP X pins DE .next s') acc C) ?_
  intro D C s' m ns hDC hD hC H' hHC k q
  obtain ⟨oC,es,ep,eC,dC,rC⟩:=ns
  have I':Inv X pins σ H' s':=k s'.heap (Heap.SameBut.refl ..)
  have nL:C ≠ X.env.locals:=fun z=>by have:=I2.lt; rw [← z] at this; exact absurd (Nat.lt_of_lt_of_le this hC) (Nat.lt_irrefl _)
  have nF:C ∉ X.fs:=I2.nofs hC
  have nCell:∀ x c,X.env.cells.lookup x = some c → c ≠ C:=fun x c e z=>by
    obtain ⟨v,o,ho,_⟩:=I2.cell x c e
    have:=Heap.lt_size ho
    rw [z] at this
    exact absurd (Nat.lt_of_lt_of_le this hC) (Nat.lt_irrefl _)
  have nPin:∀ p ∈ X.pn ++ pins,p.1 ≠ C:=fun p hp z=>by
    have:=Heap.lt_size (I2.pin p hp).1
    rw [z] at this
    exact absurd (Nat.lt_of_lt_of_le this hC) (Nat.lt_irrefl _)
  have Ip:Inv X (pins ++ [(C,oC)]) σ H' s':=I'.pins_of fun p hp=>by
    rcases List.mem_append.mp hp with z | z
    · exact I'.pin p (List.mem_append_right _ z)
    · have e:p = (C,oC):=by simpa using z
      subst e
      exact ⟨eC,hHC,nL,nF,fun v z=>by rw [dC] at z; cases z⟩
  refine thn (jbC (pos:=py) hN hy hx hf _ s' σ H' (.ref D) (.ref D) (fun σ' H''=>σ' = σ.set i (some (.ref D)) ∧ H'' = H' ∧ DE.nx σ' H'') Ip rfl ⟨rfl,rfl,q⟩) fun _ s'' ⟨σ'',H'',I'',e1,e2,q''⟩=>?_
  subst e1 e2
  have eC'':s''.heap.get? C = some oC:=(I''.pin (C,oC) (List.mem_append_right _ (List.mem_append_right _ (by simp)))).1
  refine ⟨m,⟨oC,es,ep,eC'',dC,rC⟩,fun h' hs'=>⟨_,H'',?_,q''⟩⟩
  exact I''.unpinned.turned (t':=s''.toks) (it:=C) (fun b o hb e=>hs'.extBut b o hb e) hHC nL (.inr (Nat.le_trans I2.sz hC)) nCell nPin
end
def slF:Option Sl → Sl
  | some (.fz d)=>.fz d
  | _=>.un
@[simp] theorem jzC (d:D):slF (some (.fz d)) = .fz d:=rfl
def jga (δ:Dv) (caps:List (Nat × Str)):Dv:=caps.map fun p=>slF δ[p.1]?
def jtM (f:D → Option D):List D → Option (List D)
  | []=>some []
  | d :: ds=>(f d).bind fun e=>(jtM f ds).bind fun es=>some (e :: es)
def jdv (fi:Dv → Option (List D)) (caps:List (Nat × Str)) (bv:D → Option (List D)) (fe:Dv → Option D):Dv → Option D:=fun δ=>(fi δ).bind fun ds=>if ds.length ≤ sizeLine then (jtM (fun d=>(bv d).bind fun vs=>fe (vs.map .fz ++ jga δ caps)) ds).bind fun es=>some (.list es) else none
def bv1:D → Option (List D):=fun d=>some [d]
theorem jfm {f:D → Option D}:∀ {ds es:List D},jtM f ds = some es → es.length = ds.length
  | [],es,h=>by cases h; rfl
  | d :: ds,es,h=>by
    obtain ⟨e,_,h⟩:=bind_some h
    obtain ⟨es',h2,h⟩:=bind_some h
    cases h
    exact congrArg (· + 1) (jfm h2)
theorem jiT {f:D → Option D}:∀ {ds es:List D} {i:Nat} {d:D},jtM f ds = some es → ds[i]? = some d → ∃ e,f d = some e ∧ es[i]? = some e
  | [],es,i,d,h,q=>by simp at q
  | d :: ds,es,i,d',h,q=>by
    obtain ⟨e,h1,h⟩:=bind_some h
    obtain ⟨es',h2,h⟩:=bind_some h
    cases h
    cases i with
    | zero=>simp at q; subst q; exact ⟨e,h1,rfl⟩
    | succ i=>simp at q; obtain ⟨e',g1,g2⟩:=jiT (i:=i) h2 q; exact ⟨e',g1,by simpa using g2⟩
def jqM (K:Fg) (g:TG) (n:Nat) (bv:D → Option (List D)):Prop:=∀ (x:V) (Z:Hp) (d:D) (vs:List D) (σc:St) (H:Hp) (R:St → Hp → Prop),Rep K Z x d → Same Z H → bv d = some vs → (∀ us,Reps K Z us vs → us.length = n → R (us.map some ++ σc) H) → g x (List.replicate n none ++ σc) H R
theorem jcM {K:Fg}:jqM K (js9 0) 1 bv1:=fun x Z d vs σc H R r zh e k=>by
  cases e
  exact k [x] (.cons r .nil) rfl
section
variable {X:Cx} {scope:Scope} {vars:List Str} {caps:List (Nat × Str)} {elt tg iter:Expr} {pos:Pos} {g:TG} {fi:Dv → Option (List D)} {fe:Dv → Option D} {bv:D → Option (List D)}
theorem jqz {σ:St} {δ:Dv} {K:Fg} {H₀ Z₀ Z H:Hp} (hh:Hold K H₀ Z₀ Z δ σ H):∀ (j:Nat) d,(jga δ caps)[j]? = some (.fz d) → ∃ v,(jhO σ caps)[j]? = some (some v) ∧ Rep K Z v d:=fun j d e=>by
  unfold jga at e
  unfold jhO
  rw [List.getElem?_map] at e ⊢
  cases q:caps[j]? with
  | none=>rw [q] at e; cases e
  | some p=>
    rw [q] at e
    have e:slF δ[p.1]? = .fz d:=Option.some.inj e
    cases z:δ[p.1]? with
    | none=>rw [z] at e; cases e
    | some sl=>
      rw [z] at e
      cases sl with
      | fz d'=>
        cases e
        obtain ⟨v,g1,g2⟩:=hh.fz p.1 _ z
        exact ⟨v,by show some ((σ[p.1]?).getD none) = _; rw [g1]; rfl,g2⟩
      | un=>cases e
      | ow _=>cases e
theorem jtn {δ:Dv}:∀ (j:Nat) ds,(jga δ caps)[j]? ≠ some (.ow ds):=fun j ds e=>by
  unfold jga at e
  rw [List.getElem?_map] at e
  cases q:caps[j]? with
  | none=>rw [q] at e; cases e
  | some p=>
    rw [q] at e
    have e:slF δ[p.1]? = .ow ds:=Option.some.inj e
    cases z:δ[p.1]? with
    | none=>rw [z] at e; cases e
    | some sl=>rw [z] at e; cases sl <;> cases e
theorem ji4 {σ:St} {δ:Dv} {K:Fg} {H₀ Z₀ Z H:Hp} (hh:Hold K H₀ Z₀ Z δ σ H) {us:List V} {vs:List D} (r:Reps K Z us vs):Hold K H Z Z (vs.map .fz ++ jga δ caps) (us.map some ++ jhO σ caps) H:=by
  have hl:=r.length
  refine ⟨hh.zh,Same.refl _,Same.refl _,fun _ _=>rfl,by simp [jga,jhO,hl],fun i d e=>?_,fun i ds e=>?_,fun i j ds es a _ e=>?_⟩
  · by_cases hi:i < vs.length
    · rw [List.getElem?_append_left (by simpa using hi),List.getElem?_map] at e
      cases q:vs[i]? with
      | none=>rw [q] at e; cases e
      | some d'=>
        rw [q] at e
        cases e
        obtain ⟨v,g1,g2⟩:=r.get q
        exact ⟨v,by rw [List.getElem?_append_left (by simpa [hl] using hi),List.getElem?_map,g1]; rfl,g2⟩
    · rw [List.getElem?_append_right (by simpa using hi)] at e
      obtain ⟨v,g1,g2⟩:=jqz hh _ d e
      refine ⟨v,?_,g2⟩
      rw [List.getElem?_append_right (by simpa [hl] using hi)]
      simp only [List.length_map] at g1 ⊢
      rw [hl]; exact g1
  all_goals
    exfalso
    by_cases hi:i < vs.length
    · rw [List.getElem?_append_left (by simpa using hi),List.getElem?_map] at e
      cases q:vs[i]? <;> rw [q] at e <;> cases e
    · rw [List.getElem?_append_right (by simpa using hi)] at e
      exact jtn _ _ e
theorem jjZ (tk:jqM X.K g vars.length bv) {σ:St} {H:Hp} {Q:VK} (h:tV X.K (jdv fi caps bv fe) σ H Q):jo3 (tVI X.K fi) g (tV X.K fe) vars caps σ H Q:=by
  obtain ⟨H₀,Z₀,Z,δ,d,hh,e,k⟩:=h
  obtain ⟨ds,e1,e⟩:=bind_some e
  by_cases hz:ds.length ≤ sizeLine
  · rw [if_pos hz] at e
    obtain ⟨es,e2,e⟩:=bind_some e
    cases e
    have le:=jfm e2
    have hv:vars.map (fun _=>(none:Option V)) = List.replicate vars.length none:=by rw [List.map_const']
    refine ⟨H₀,Z₀,Z,δ,ds,hh,e1,fun J Z1 H1 hh1 t1 ok=>?_⟩
    refine ⟨fun i m ys H=>m = ds.length - i ∧ i ≤ ds.length ∧ ∃ Zc,Hold X.K H₀ Z₀ Zc δ σ H ∧ Same Z1 Zc ∧ Reps X.K Zc ys (es.take i),⟨ds.length,by simp,Nat.zero_le _,Z1,hh1,Same.refl _,by simpa using .nil⟩,?_⟩
    rintro i m ys H2 ⟨rfl,hi2,Zc,hhc,tc,rc⟩
    have zh:Same Z1 H2:=tc.trans hhc.zh
    have ly:=rc.length
    rw [List.length_take] at ly
    by_cases hlt:i < ds.length
    · refine .inr ⟨ok.go i H2 zh hlt,by omega,fun x H3 y=>?_⟩
      have ed:ds[i]? = some ds[i]:=by simp [hlt]
      obtain ⟨rfl,rx⟩:=ok.yld i H2 x H3 _ zh ed y
      obtain ⟨ei,f1,f2⟩:=jiT e2 ed
      obtain ⟨vs,f3,f1⟩:=bind_some f1
      rw [hv]
      refine tk x Zc ds[i] vs (jhO σ caps) H3 _ (rx.same tc) hhc.zh f3 fun us ru hn=>⟨⟨by simp [hn],fun j v q=>?_⟩,?_⟩
      · by_cases hj:j < vars.length
        · rw [List.getElem?_append_left (by simpa using hj),List.getElem?_replicate] at q
          split at q <;> cases q
        · rw [List.getElem?_append_right (by simpa using hj)] at q
          rw [List.getElem?_append_right (by simpa [hn] using hj)]
          simpa [hn] using q
      · refine ⟨H3,Zc,Zc,_,ei,ji4 hhc ru,f1,fun v Z4 H4 h4 t4 r4=>⟨ds.length - (i + 1),by omega,rfl,hlt,Z4,hhc.new ⟨t4,h4.h0,h4.zh,h4.zb⟩,tc.trans t4,?_⟩⟩
        have:es.take (i + 1) = es.take i ++ [ei]:=by
          rw [List.take_add_one,f2]; rfl
        rw [this]
        exact (rc.same t4).append (.cons r4 .nil)
    · have hie:i = ds.length:=by omega
      subst hie
      refine .inl ⟨ok.stop _ H2 zh (Nat.le_refl _),by omega,fun p hp=>?_⟩
      rw [← le,List.take_length] at rc
      have n:=New.add hhc.zh hp (.lst ys)
      exact k _ _ _ (hhc.new n) ((t1.trans tc).trans n.z) (.lst (SqL.of jaV) (rc.same n.z))
  · rw [if_neg hz] at e; cases e
theorem jel (B:BlkOk X.env.scope.names X.N scope vars caps) (hc:X.calm = true) (hi:IV X tg iter fi) (tk:jqM X.K g vars.length bv)
    (hg:∀ C s₀ H₀ ex,PG (blk X scope (vars ++ caps.map (·.2)) C s₀ H₀ ex) tg g) (he:∀ C s₀ H₀ ex,EV (blk X scope (vars ++ caps.map (·.2)) C s₀ H₀ ex) elt fe) (hs:∀ x,foldedSetIterable iter X.env x = pure x:=by intro _; rfl) :
    EV X (.ListComp elt [⟨tg,iter,[],0⟩] scope pos) (jdv fi caps bv fe):=
  PE.imp (jsm (te:=tV X.K fe) B hc hi hg he hs) fun _ _ _ h=>jjZ tk h
theorem jiy (i:Nat) {y:Str} {py spos:Pos} (hN:X.N.Nodup) (B:BlkOk X.env.scope.names X.N scope vars caps) (hc:X.calm = true) (hi:IV X tg iter fi) (tk:jqM X.K g vars.length bv)
    (hg:∀ C s₀ H₀ ex,PG (blk X scope (vars ++ caps.map (·.2)) C s₀ H₀ ex) tg g) (he:∀ C s₀ H₀ ex,EV (blk X scope (vars ++ caps.map (·.2)) C s₀ H₀ ex) elt fe)
    (hy:X.N[i]? = some y:=by rfl) (hx:Loc X.env.scope y:=by first | exact Or.inl rfl | exact Or.inr rfl) (hsw:swapsWith (.ListComp elt [⟨tg,iter,[],0⟩] scope pos) (some (.Name y py)) spos.line X.env = pure true:=by rfl)
    (hf:X.fn y = true ∨ X.env.scope.names.lookup y = some .local:=by first | exact .inl rfl | exact .inr rfl | assumption) (hs:∀ x,foldedSetIterable iter X.env x = pure x:=by intro _; rfl) :
    SV X (.Assign [.Name y py] (.ListComp elt [⟨tg,iter,[],0⟩] scope pos) spos) (jaF i (jdv fi caps bv fe)):=
  PS.imp (jna (te:=tV X.K fe) B hc hi hg he hN hy hx hsw hf hs) fun D σ H h=>by
    obtain ⟨H₀,Z₀,Z,δ,r,hh,e,k⟩:=h
    obtain ⟨x,e1,e⟩:=bind_some e
    cases e
    exact jjZ tk ⟨H₀,Z₀,Z,δ,x,hh,e1,fun v Z1 H1 hh1 s1 r1=>k _ H1 Z1 (hh1.set r1) s1⟩
end
end VL
set_option Elab.async false
set_option linter.all false
set_option maxRecDepth 100000
set_option maxHeartbeats 4000000
namespace VL
open PySem PySem.Spec PyProof.Rows L2
section
variable {X:Cx} {e:Expr} {es:List Expr} {p pos:Pos} {fs:Dv → Option (List D)}
theorem jak {k:Nat} {x:Str} {g:List D → Option D} (C:Cal X.prog X.w X.K X.mg X.base x k g []) (hr:Room k X.A) (hg:Gl X x) (ha:AV X (e :: es) fs) (hdb:(x == ("__debug__":Str)) = false:=by decide) (he:starEach (e :: es) X.env = (false,eval e X.env) :: starEach es X.env:=by rfl)
    (hpl:(backTo pos (starEach es X.env)).any (·.1) = false:=by rfl):EV X (.Call (.Name x p) (e :: es) [] pos) (os fs g):=by
  have h:=jvV C hr hg ha hdb he hpl (p:=p) (pos:=pos)
  have e:(fun as=>g (as ++ [])) = g:=by funext as; rw [List.append_nil]
  rw [e] at h
  exact h
end
structure TopV (K:Fg) (mg:Str → Option Value) (x:Str) (d:D):Prop where
  ex:∃ v u,mg x = some u ∧ RelV v u ∧ ∀ Z,Rep K Z v d
theorem TopV.tup {K:Fg} {mg:Str → Option Value} {x:Str} {a:Addr} {td:Option Addr} {its:Array Value} {tn:Nat} {ts:Array (Option Value)} {xs:List V} {ds:List D} (hm:mg x = some (.ref a)) (hk:K.lookup a = some ⟨.type "tuple",td,.seq its tn,ts⟩)
    (hz:its.size ≤ sizeLine) (hv:Vals xs its.toList) (hr:∀ Z,Reps K Z xs ds):TopV K mg x (.tuple ds):=⟨.ref a,.ref a,hm,rfl,fun Z=>.tup (.inr ⟨_,its,tn,hk,rfl,rfl,hz,hv⟩) (hr Z)⟩
theorem TopV.int {K:Fg} {mg:Str → Option Value} {x:Str} {i:Int} {t:Tok} (hm:mg x = some (.int i t)):TopV K mg x (.int i):=⟨.int i,.int i t,hm,⟨t,rfl⟩,fun _=>.int i⟩
theorem jiZ {X:Cx} {x:Str} {pos:Pos} {d:D} (T:TopV X.K X.mg x d) (hg:Gl X x) (hd:(x == ("__debug__":Str)) = false:=by decide):EV X (.Name x pos) (oC d):=by
  obtain ⟨v,u,hm,r,h⟩:=T.ex
  exact jvX (jnd hg hm r hd) h
def slO:Option Sl → Option (List D)
  | some (.ow ds)=>some ds
  | _=>none
@[simp] theorem jul (ds:List D):slO (some (.ow ds)) = some ds:=rfl
theorem jm3 {o:Option Sl} {ds:List D} (h:slO o = some ds):o = some (.ow ds):=by
  cases o with
  | none=>cases h
  | some s=>cases s <;> cases h; rfl
@[simp] def joH (i:Nat) (fs:Dv → Option (List D)):Sf:=fun δ=>(fs δ).bind fun ds=>if ds.length ≤ sizeLine then some (.nx,δ.set i (.ow ds)) else none
@[simp] def jfT (i:Nat) (f:Dv → Option D):Dv → Option D:=fun δ=>(slO δ[i]?).bind fun ds=>(f δ).bind fun k=>ixD (.list ds) k
@[simp] def jsy (i:Nat):Dv → Option D:=fun δ=>(slO δ[i]?).bind fun ds=>some (.int ds.length)
def jmz (ds:List D) (k v:D):Option (List D):=match k with
  | .int j=>(ixN ds.length j).map fun n=>ds.set n v
  | _=>none
@[simp] theorem jdu (ds:List D) (j:Int) (v:D):jmz ds (.int j) v = (ixN ds.length j).map fun n=>ds.set n v:=rfl
@[simp] def jlZ (i:Nat) (fk fv:Dv → Option D):Sf:=fun δ=>(fv δ).bind fun v=>(fk δ).bind fun k=>(slO δ[i]?).bind fun ds=>(jmz ds k v).bind fun ds'=>some (.nx,δ.set i (.ow ds'))
@[simp] def joI (i:Nat) (f:Dv → Option D):Sf:=fun δ=>(f δ).bind fun v=>(slO δ[i]?).bind fun ds=>if ds.length < sizeLine then some (.nx,δ.set i (.ow (ds ++ [v]))) else none
section
variable {X:Cx} {e b:Expr} {es:List Expr} {p pos tpos apos:Pos} {fs:Dv → Option (List D)} {f fk fv:Dv → Option D}
theorem jh4 (i:Nat) {x:Str} {pos':Pos} (hN:X.N.Nodup) (ha:AV X es fs) (hi:X.N[i]? = some x:=by rfl) (hx:Loc X.env.scope x:=by first | exact Or.inl rfl | exact Or.inr rfl) (hs:swapsWith (.List es p) (some (.Name x pos')) pos.line X.env = pure false:=by rfl)
    (hf:X.fn x = true ∨ X.env.scope.names.lookup x = some .local:=by first | exact .inl rfl | exact .inr rfl | assumption):SV X (.Assign [.Name x pos'] (.List es p) pos) (joH i fs):=
  PS.imp (jll hN hi hx (jq6 ha) hs hf) fun D σ H h=>by
    obtain ⟨H₀,Z₀,Z,δ,r,hh,e,k⟩:=h
    obtain ⟨ds,e1,e⟩:=bind_some e
    by_cases hl:ds.length ≤ sizeLine
    · rw [if_pos hl] at e
      cases e
      exact ⟨H₀,Z₀,Z,δ,ds,hh,e1,fun vs Z1 H1 hh1 t1 r1=>⟨by rw [r1.length]; exact hl,fun p hp=>k _ _ Z1 (hh1.setO hp r1) t1⟩⟩
    · rw [if_neg hl] at e; cases e
theorem jko {K:Fg} {H₀ Z₀ Z:Hp} {δ:Dv} {σ:St} {H:Hp} (hh:Hold K H₀ Z₀ Z δ σ H) {i:Nat} {ds:List D} (h:slO δ[i]? = some ds):∃ a xs,σ[i]? = some (some (V.ref a)) ∧ H a = some (.lst xs) ∧ Reps K Z xs ds:=by
  obtain ⟨a,xs,h1,_,_,h4,h5⟩:=hh.ow i ds (jm3 h)
  exact ⟨a,xs,h1,h4,h5⟩
theorem jde (i:Nat) {x:Str} (hb:EV X b f) (hs:jkX b) (hN:X.N[i]? = some x:=by rfl) (hv:Vis X.env.scope x:=by first | exact Or.inl rfl | exact Or.inr (Or.inl rfl) | exact Or.inr (Or.inr rfl)) (hd:(x == ("__debug__":Str)) = false:=by decide) (hcd:(x == ("__classdict__":Str)) = false:=by decide) :
    EV X (.Subscript (.Name x p) b pos) (jfT i f):=
  PE.imp (juO ix_list (jjC hN hv hd hcd) hb hs) fun σ H Q h=>by
    obtain ⟨H₀,Z₀,Z,δ,d,hh,e,k⟩:=h
    obtain ⟨ds,e1,e⟩:=bind_some e
    obtain ⟨y,e2,e⟩:=bind_some e
    obtain ⟨a,xs,h1,h4,h5⟩:=jko hh e1
    refine ⟨_,h1,H₀,Z₀,Z,δ,y,hh,e2,fun v Z1 H1 hh1 t1 r1=>?_⟩
    obtain ⟨a',xs',g1,g4,g5⟩:=jko hh1 e1
    rw [h1] at g1
    cases g1
    cases r1 with
    | int j=>
      obtain ⟨w,ew,rw'⟩:=g5.at e
      exact ⟨_,_,_,w,rfl,rfl,SqL.of g4,ew,k w Z1 H1 hh1 t1 rw'⟩
    | _=>cases e
theorem jte (i:Nat) {x:Str} {p2:Pos} (hg:Gl X "len") (hm:X.mg "len" = none) (hN:X.N[i]? = some x:=by rfl) (hv:Vis X.env.scope x:=by first | exact Or.inl rfl | exact Or.inr (Or.inl rfl) | exact Or.inr (Or.inr rfl)) (hd:(x == ("__debug__":Str)) = false:=by decide) (hcd:(x == ("__classdict__":Str)) = false:=by decide)
    (he:starEach [.Name x p2] X.env = (false,eval (.Name x p2) X.env) :: starEach [] X.env:=by rfl) (hpl:(backTo pos (starEach [] X.env)).any (·.1) = false:=by rfl):EV X (.Call (.Name "len" p) [.Name x p2] [] pos) (jsy i):=
  PE.imp (jfC jlL hg hm PySem.boot_len (jdh (jjC hN hv hd hcd) jfD he) (by decide) (by decide) he hpl) fun σ H Q h=>by
    obtain ⟨H₀,Z₀,Z,δ,d,hh,e,k⟩:=h
    obtain ⟨ds,e1,e⟩:=bind_some e
    cases e
    obtain ⟨a,xs,h1,h4,h5⟩:=jko hh e1
    exact ⟨_,h1,_,_,rfl,.inl ⟨xs,SqL.of h4,rfl⟩,k _ Z H hh (Same.refl _) (by rw [h5.length]; exact .int _)⟩
theorem jfu (i:Nat) {x:Str} (hb:EV X b fk) (hv':EV X e fv) (hN:X.N[i]? = some x:=by rfl) (hv:Vis X.env.scope x:=by first | exact Or.inl rfl | exact Or.inr (Or.inl rfl) | exact Or.inr (Or.inr rfl)) (hd:(x == ("__debug__":Str)) = false:=by decide) (hcd:(x == ("__classdict__":Str)) = false:=by decide)
    (hs:swapsWithSole [.Subscript (.Name x p) b tpos] e pos.line X.env = pure false:=by rfl) (hw:swappedStores [.Subscript (.Name x p) b tpos] e X.env = pure none:=by rfl)
    (ha:∀ v,assign (.Subscript (.Name x p) b tpos) X.env v = (do
      let ov ← holding [v] (eval (.Name x p) X.env)
      let iv ← holding [v,ov] (eval b X.env)
      standAt tpos
      holding [v,ov,iv] (setItem ov iv v)
      release [v,ov,iv] []):=by intro _; rfl):SV X (.Assign [.Subscript (.Name x p) b tpos] e pos) (jlZ i fk fv):=
  PS.imp (juG hv' (juI (jjC hN hv hd hcd) hb jpg ha) hs hw) fun D σ H h=>by
    obtain ⟨H₀,Z₀,Z,δ,r,hh,e,k⟩:=h
    obtain ⟨v,e1,e⟩:=bind_some e
    obtain ⟨y,e2,e⟩:=bind_some e
    obtain ⟨ds,e3,e⟩:=bind_some e
    obtain ⟨ds',e4,e⟩:=bind_some e
    cases e
    refine ⟨H₀,Z₀,Z,δ,v,hh,e1,fun w Z1 H1 hh1 t1 r1=>?_⟩
    obtain ⟨a,xs,h1,h4,h5⟩:=jko hh1 e3
    refine ⟨_,h1,H₀,Z₀,Z1,δ,y,hh1,e2,fun u Z2 H2 hh2 t2 r2=>?_⟩
    obtain ⟨a',xs',g1,g4,g5⟩:=jko hh2 e3
    rw [h1] at g1
    cases g1
    cases r2 with
    | int j=>
      rw [jdu] at e4
      cases q:ixN ds.length j with
      | none=>rw [q] at e4; cases e4
      | some n=>
        rw [q] at e4
        cases e4
        refine ⟨a,xs',j,n,rfl,rfl,g4,by rw [g5.length]; exact q,?_⟩
        exact k σ _ Z2 (hh2.chg (xs:=xs') (jm3 e3) h1 (g5.set (r1.same t2) n)) (t1.trans t2)
    | _=>cases e4
theorem jh5 (i:Nat) {x:Str} {cpos:Pos} (hv':EV X e f) (hN:X.N[i]? = some x:=by rfl) (hv:Vis X.env.scope x:=by first | exact Or.inl rfl | exact Or.inr (Or.inl rfl) | exact Or.inr (Or.inr rfl)) (hd:(x == ("__debug__":Str)) = false:=by decide) (hcd:(x == ("__classdict__":Str)) = false:=by decide)
    (hbase:attributeBase (.Name x p) "append" X.env (eval (.Name x p) X.env) = eval (.Name x p) X.env:=by rfl)
    (hfew:((backTo cpos (starEach [e] X.env)).all (fun x=>!x.1) && (backToKw cpos (keywordEach [] X.env)).all (fun x=>x.1.isSome)
      && decide ([e].length + ([]:List Keyword).length + (if ([]:List Keyword).isEmpty then 0 else 1) < 30)) = true:=by rfl)
    (hline:(apos.endLine == cpos.line) = true:=by rfl) (hs:starEach [e] X.env = (false,eval e X.env) :: starEach [] X.env:=by rfl) (hplain:(backTo cpos (starEach [] X.env)).any (·.1) = false:=by rfl)
    (hsw:swapsWith (.Call (.Attribute (.Name x p) "append" apos) [e] [] cpos) none pos.line X.env = pure false:=by rfl):SV X (.Expr (.Call (.Attribute (.Name x p) "append" apos) [e] [] cpos) pos) (joI i f):=
  PS.imp (jkm (jsp PySem.F.plainAttrs_list PySem.F.slot_list_append PySem.F.type_list_append jny (jjC hN hv hd hcd) (jdh hv' jfD hs) hbase hfew hline hs hplain) hsw) fun D σ H h=>by
    obtain ⟨H₀,Z₀,Z,δ,r,hh,e,k⟩:=h
    obtain ⟨v,e1,e⟩:=bind_some e
    obtain ⟨ds,e2,e⟩:=bind_some e
    by_cases hl:ds.length < sizeLine
    · rw [if_pos hl] at e
      cases e
      obtain ⟨a,xs,h1,h4,h5⟩:=jko hh e2
      refine ⟨_,h1,.inl ⟨rfl,xs,SqL.of h4⟩,H₀,Z₀,Z,δ,v,hh,e1,fun w Z1 H1 hh1 t1 r1=>?_⟩
      obtain ⟨a',xs',g1,g4,g5⟩:=jko hh1 e2
      rw [h1] at g1
      cases g1
      exact ⟨a,xs',w,rfl,rfl,g4,by rw [g5.length]; exact hl,k σ _ Z1 (hh1.chg (xs:=xs') (jm3 e2) h1 (g5.append (.cons r1 .nil))) t1⟩
    · rw [if_neg hl] at e; cases e
end
end VL
set_option Elab.async false
set_option linter.all false
set_option maxRecDepth 100000
set_option maxHeartbeats 4000000
namespace VL
open PySem PySem.Spec PyProof.Rows L2
section
def jmR (wi:TI) (g:TG) (tt:TT) (te:TE) (vars:List Str) (caps:List (Nat × Str)):TE:=fun σ H Q=>wi σ H fun J H1=>∃ W:Nat → Nat → List V → Hp → Prop,(∃ m,W 0 m [] H1) ∧ ∀ i m ys H,W i m ys H →
  (J.stop i H ∧ ys.length ≤ sizeLine ∧ ∀ p,H p = none → Q (.ref p) (upd H p (.lst ys))) ∨
  (J.go i H ∧ ys.length < sizeLine ∧ ∀ x H',J.yld i H x H' → g x (vars.map (fun _=>none) ++ jhO σ caps) H' fun σ2 H2=>jqN (vars.map (fun _=>none) ++ jhO σ caps) σ2 ∧ tt σ2 H2 fun b H3=>if b = true then te σ2 H3 fun y H4=>∃ m',m' < m ∧ W (i + 1) m' (ys ++ [y]) H4 else ∃ m',m' < m ∧ W (i + 1) m' ys H3)
theorem jgB {prog:Program} {w:World} {A:Around} {R:Result → Shared → Prop} {s:Shared} {elt target iter cnd:Expr} {scope:Scope} {pos:Pos} {it acc:Value} {env:Env} (I:Nat → Shared → Prop)
    (turn:∀ n s,I n s → wpAny (model prog w) A (pyNext it) (fun r s₁=>match r with
      | none=>R (.ok .next) s₁
      | some v=>wpAny (model prog w) A (letOwnedTupleGo target it v) (fun _ s₁=>wpAny (model prog w) A (assign target env v) (fun _ s₂=>wpAny (model prog w) A (isTrue cnd env (eval cnd env)) (fun ok s₂=>if ok = true then wpAny (model prog w) A (eval elt env) (fun x s₃=>
          wpAny (model prog w) A (call (.builtin "list.append") [acc,x]) (fun _ s₄=>∃ m,m < n ∧ I m s₄) (fun _ _=>False) s₃) (fun _ _=>False) s₂ else ∃ m,m < n ∧ I m s₂) (fun _ _=>False) s₂) (fun _ _=>False) s₁) (fun _ _=>False) s₁) (fun _ _=>False) s)
    (n:Nat) (h:I n s):codeAny (model prog w) A (.compLoop (.ListComp elt [⟨target,iter,[cnd],0⟩] scope pos) 0 it acc env) R s:=by
  refine codeAny_loop rfl I (fun n s hI=>?_) n h
  show wpAny _ _ ((compTurn (.ListComp elt [⟨target,iter,[cnd],0⟩] scope pos) 0 it acc env).onRaise (fun x=>do noteFrame x env; theTreesLotGoes x)) _ _ s
  refine wpAny_noted ?_
  rw [compTurn_list]
  refine wpAny_bind (wpAny_standAt (wpAny_bind (wpAny_mono (turn n s hI) (fun r s₁ h₁=>?_) fun _ _ h'=>h'.elim)))
  cases r with
  | none=>exact wpAny_pure h₁
  | some v=>
    refine wpAny_bind (wpAny_mono h₁ (fun _ s₁ h₁=>?_) fun _ _ h'=>h'.elim)
    refine wpAny_bind (wpAny_mono h₁ (fun _ s₂ h₂=>?_) fun _ _ h'=>h'.elim)
    refine wpAny_bind (wpAny_tests_one (wpAny_mono h₂ (fun okb s₃ h₃=>?_) fun _ _ h'=>h'.elim))
    cases okb with
    | false=>exact wpAny_pure ⟨rfl,h₃⟩
    | true=>exact wpAny_bind (wpAny_bind (wpAny_mono h₃ (fun x s₄ h₄=>wpAny_bind (wpAny_mono h₄ (fun _ s₅ h₅=>wpAny_pure (wpAny_pure ⟨rfl,h₅⟩)) fun _ _ h'=>h'.elim)) fun _ _ h'=>h'.elim))
end
section
variable {X:Cx} {scope:Scope} {vars:List Str} {caps:List (Nat × Str)} {elt tg iter cnd:Expr} {pos:Pos} {wi:TI} {g:TG} {tt:TT} {te:TE}
theorem jhx (B:BlkOk X.env.scope.names X.N scope vars caps) (hc:X.calm = true)
    (hg:∀ C s₀ H₀ ex,PG (blk X scope (vars ++ caps.map (·.2)) C s₀ H₀ ex) tg g) (hb:∀ C s₀ H₀ ex,PT (blk X scope (vars ++ caps.map (·.2)) C s₀ H₀ ex) cnd tt) (he:∀ C s₀ H₀ ex,PE (blk X scope (vars ++ caps.map (·.2)) C s₀ H₀ ex) elt te)
    {pins:List (Addr × Obj)} {σ:St} {H2:Hp} {s2:Shared} {Q:VK} {it:Addr} {fp:List Addr} {tn:Nat → Heap → Prop} {J:It} (I2:Inv X pins σ H2 s2) (T:Turn X.prog X.w X.K tg J fp it tn) (st2:tn 0 s2.heap) (f2:∀ b ∈ fp,jkZ X pins H2 b)
    {W:Nat → Nat → List V → Hp → Prop} {m0:Nat} (w0:W 0 m0 [] H2) (turn:∀ i m ys H,W i m ys H →
      (J.stop i H ∧ ys.length ≤ sizeLine ∧ ∀ p,H p = none → Q (.ref p) (upd H p (.lst ys))) ∨
      (J.go i H ∧ ys.length < sizeLine ∧ ∀ x H',J.yld i H x H' → g x (vars.map (fun _=>none) ++ jhO σ caps) H' fun σ2 H2=>jqN (vars.map (fun _=>none) ++ jhO σ caps) σ2 ∧ tt σ2 H2 fun b H3=>if b = true then te σ2 H3 fun y H4=>∃ m',m' < m ∧ W (i + 1) m' (ys ++ [y]) H4 else ∃ m',m' < m ∧ W (i + 1) m' ys H3))
    {RR:Value → Addr → Result → Shared → Prop} {E:Value → Shared → Prop}
    (hRR:∀ D C s' m,s'.heap.Ns C m → D ≠ C → s2.heap.objs.size ≤ D → s2.heap.objs.size ≤ C → ∀ H',H' C = none → (∀ h',Heap.SameBut C s'.heap h' → Inv X pins σ H' { s' with heap:=h' }) → Q (.ref D) H' → RR (.ref D) C (.ok .next) s') :
    wpAny (model X.prog X.w) X.A (newList []) (fun acc s₃=>wpAny (model X.prog X.w) X.A (newFunctionEnv scope X.env.globals (jkH X.env scope.names []) [] X.env.qual none .none (some X.env)) (fun cenv s₄=>
      codeAny (model X.prog X.w) X.A (.compStart (.ListComp elt [⟨tg,iter,[cnd],0⟩] scope pos) 0 (.ref it) acc { cenv with scope:=relabel scope X.env }) (RR acc cenv.locals) s₄) E s₃) E s2:=by
  refine wpAny_newObj_type (wpAny_newFunctionEnv B.cell (by intro y hy; simp at hy) (fun h₁ hns₁ hsb₁=>?_) B.kind)
  dsimp only at hns₁ hsb₁ ⊢
  generalize hP:s2.heap.push { cls:=.type "list",dict:=none,data:=.seq ([]:List Value).toArray } = HP at hns₁ hsb₁ ⊢
  have hCs:HP.objs.size = s2.heap.objs.size + 1:=by rw [← hP,Heap.size_push]
  have hDC:s2.heap.objs.size ≠ HP.objs.size:=by rw [hCs]; exact Nat.ne_of_lt (Nat.lt_succ_self _)
  have hCle:s2.heap.objs.size ≤ HP.objs.size:=by rw [hCs]; exact Nat.le_succ _
  have old:∀ b o,s2.heap.get? b = some o → h₁.get? b = some o:=fun b o e=>hsb₁.extBut b o (Nat.ne_of_lt (Nat.lt_of_lt_of_le (Heap.lt_size e) hCle)) (Heap.get?_push_of_some _ (hP ▸ Heap.get?_push_of_some _ e))
  have hacc:h₁.PlainList s2.heap.objs.size #[]:=⟨_,hsb₁.extBut _ _ hDC (Heap.get?_push_of_some _ (hP ▸ Heap.get?_push_size _ rfl))⟩
  have flt:∀ b ∈ fp,b < s2.heap.objs.size:=fun b hb=>by
    obtain ⟨o,e,_⟩:=T.obj _ _ st2 b hb
    exact Heap.lt_size e
  have st1:tn 0 h₁:=T.keep _ _ _ st2 fun b _ o e=>old b o e
  have loop:∀ s3:Shared,s3 = { s2 with heap:=h₁,toks:=s2.toks + ([]:List (Str × Value)).length } →
      codeAny (model X.prog X.w) X.A (.compLoop (.ListComp elt [⟨tg,iter,[cnd],0⟩] scope pos) 0 (.ref it) (.ref s2.heap.objs.size) (compEnvC scope (jkH X.env scope.names []) HP.objs.size X.env))
        (RR (.ref s2.heap.objs.size) HP.objs.size) s3:=by
    rintro s3 rfl
    have X':=blk X scope (vars ++ caps.map (·.2)) HP.objs.size s2 H2 fp
    have fpo:∀ {H':Hp},(∀ b ∈ fp,H' b = none) → ∀ b ∈ fp,jkZ (blk X scope (vars ++ caps.map (·.2)) HP.objs.size s2 H2 fp) [] H' b:=fun hn b hb=>by
      have ok:=jon B I2 f2 flt hCle
      exact ⟨hn b hb,(ok.exf b hb).1,ok.exfs b hb,.inl hb,(ok.exf b hb).2,fun p hp=>absurd (show p ∈ ([]:List (Addr × Obj)) from hp) (by simp)⟩
    refine jgB (fun n s=>∃ i ys H its,Inv (blk X scope (vars ++ caps.map (·.2)) HP.objs.size s2 H2 fp) [] (vars.map (fun _=>none) ++ jhO σ caps) H s ∧ tn i s.heap ∧ (∀ b ∈ fp,H b = none) ∧ s.heap.PlainList s2.heap.objs.size (List.toArray its) ∧ H s2.heap.objs.size = none ∧ Vals ys its ∧ W i n ys H) ?_ m0
      ⟨0,[],H2,[],joo B I2 f2 flt hCle hns₁ old,st1,fun b hb=>(f2 b hb).1,hacc,I2.hok.fresh (Nat.le_refl _),.nil,w0⟩
    rintro n s4 ⟨i,ys,H4,its,I4,st4,fr4,pl4,nD4,v4,w4⟩
    obtain ⟨nn,eD⟩:=id pl4
    have DnL:s2.heap.objs.size ≠ (blk X scope (vars ++ caps.map (·.2)) HP.objs.size s2 H2 fp).env.locals:=hDC
    have Dfs:s2.heap.objs.size ∉ (blk X scope (vars ++ caps.map (·.2)) HP.objs.size s2 H2 fp).fs:=fun z=>by
      rcases List.mem_cons.mp (I2.stkSub _ z) with q | q
      · have:=I2.lt; rw [← q] at this; exact Nat.lt_irrefl _ this
      · exact I2.nofs (Nat.le_refl _) q
    have Dfp:∀ b ∈ fp,s2.heap.objs.size ≠ b:=fun b hb z=>by have:=flt b hb; rw [← z] at this; exact Nat.lt_irrefl _ this
    have DnC:∀ x c,(blk X scope (vars ++ caps.map (·.2)) HP.objs.size s2 H2 fp).env.cells.lookup x = some c → c ≠ s2.heap.objs.size:=fun x c e z=>by
      rcases jbG _ _ _ _ (B.cells I2) e with q | q
      · cases q
      · obtain ⟨v,o,ho,_⟩:=I2.cell x c q
        have:=Heap.lt_size ho
        rw [z] at this
        exact Nat.lt_irrefl _ this
    have pinD:∀ {σ':St} {H':Hp} {s':Shared},Inv (blk X scope (vars ++ caps.map (·.2)) HP.objs.size s2 H2 fp) [(s2.heap.objs.size,{ cls:=.type "list",data:=.seq its.toArray nn })] σ' H' s' → s'.heap.PlainList s2.heap.objs.size its.toArray ∧ H' s2.heap.objs.size = none:=fun {σ' H' s'} I'=>by
      obtain ⟨q1,q2,_⟩:=I'.pin (s2.heap.objs.size,{ cls:=.type "list",data:=.seq its.toArray nn }) (by simp [blk])
      exact ⟨⟨nn,q1⟩,q2⟩
    have I4p:Inv (blk X scope (vars ++ caps.map (·.2)) HP.objs.size s2 H2 fp) [(s2.heap.objs.size,{ cls:=.type "list",data:=.seq its.toArray nn })] (vars.map (fun _=>none) ++ jhO σ caps) H4 s4:=
      I4.pins_of fun p hp=>by
        have e:p = (s2.heap.objs.size,{ cls:=.type "list",data:=.seq its.toArray nn }):=by simpa [blk] using hp
        subst e
        exact ⟨eD,nD4,DnL,Dfs,fun v z=>by cases z⟩
    have fpo':∀ {H':Hp},(∀ b ∈ fp,H' b = none) → ∀ b ∈ fp,jkZ (blk X scope (vars ++ caps.map (·.2)) HP.objs.size s2 H2 fp) [(s2.heap.objs.size,{ cls:=.type "list",data:=.seq its.toArray nn })] H' b:=fun hn b hb=>by
      obtain ⟨q1,q2,q3,q4,q5,_⟩:=fpo hn b hb
      exact ⟨q1,q2,q3,q4,q5,fun p hp=>by
        have e:p = (s2.heap.objs.size,{ cls:=.type "list",data:=.seq its.toArray nn }):=by simpa [blk] using hp
        subst e
        exact Dfp b hb⟩
    have unp:∀ {pl:List (Addr × Obj)} {σ':St} {H':Hp} {s':Shared},Inv (blk X scope (vars ++ caps.map (·.2)) HP.objs.size s2 H2 fp) pl σ' H' s' → Inv (blk X scope (vars ++ caps.map (·.2)) HP.objs.size s2 H2 fp) [] σ' H' s':=fun {pl σ' H' s'} I'=>
      I'.pins_of fun p hp=>absurd (show p ∈ ([]:List (Addr × Obj)) from hp) (by simp)
    rcases turn i n ys H4 w4 with ⟨stop,hz,qn⟩ | ⟨go,hz,step⟩
    · refine thn (T.done (blk X scope (vars ++ caps.map (·.2)) HP.objs.size s2 H2 fp) rfl rfl rfl hc i _ s4 _ H4 _ I4p (fpo' fr4) st4 stop) fun r s5 ⟨hr,I5⟩=>?_
      subst hr
      obtain ⟨p5,n5⟩:=pinD I5
      obtain ⟨m5,ns5,_⟩:=I5.loc
      refine hRR _ _ s5 m5 ns5 hDC (Nat.le_refl _) hCle _ ?_ (fun h' hs'=>jom I2 f2 hCle (Nat.le_refl _) hDC (unp I5) n5 p5 v4 hz hs') (qn _ n5)
      rw [ja4 hDC.symm]
      exact I5.free
    · refine thn (T.item (blk X scope (vars ++ caps.map (·.2)) HP.objs.size s2 H2 fp) rfl rfl rfl hc i _ s4 _ H4 _ I4p (fpo' fr4) st4 go) fun r s5 ⟨u,hr,h5⟩=>?_
      subst hr
      refine thn h5 fun _ s6 ⟨x,H6,I6,rx,yx,st6,fr6⟩=>?_
      have I6p:=I6.pinned (fpo' fr6) (T.obj _ _ st6)
      refine thn (hg _ _ _ _ _ s6 _ H6 x u _ I6p rx (step x H6 yx)) fun _ s7 ⟨σ7,H7,I7,kp,q7⟩=>?_
      refine thn (hb _ _ _ _ _ s7 σ7 H7 _ I7 q7) fun okb s7' q7'=>?_
      obtain ⟨H7',I7',q7'⟩:=q7'
      cases okb with
      | false=>
        obtain ⟨m',hm,w8⟩:=q7'
        rw [if_neg (by decide)]
        obtain ⟨p8,n8⟩:=pinD I7'.unpinned
        have st8:tn (i + 1) s7'.heap:=T.keep _ _ _ st6 fun b hb o e=>(I7'.pin (b,o) (List.mem_append_right _ (List.mem_append_right _ (jcx hb e)))).1
        have fr8:∀ b ∈ fp,H7' b = none:=fun b hb=>by
          obtain ⟨o,e,d⟩:=T.obj _ _ st6 b hb
          exact (I7'.pin (b,o) (List.mem_append_right _ (List.mem_append_right _ (jcx hb e)))).2.1
        exact ⟨m',hm,i + 1,ys,H7',its,(unp I7').weak kp.1 kp.2,st8,fr8,p8,n8,v4,w8⟩
      | true=>
      rw [if_pos rfl]
      rw [if_pos rfl] at q7'
      refine thn (he _ _ _ _ _ s7' σ7 H7' _ I7' q7') fun v s8 ⟨y,H8,I8,ry,m',hm,w8⟩=>?_
      obtain ⟨p8,n8⟩:=pinD I8.unpinned
      have st8:tn (i + 1) s8.heap:=T.keep _ _ _ st6 fun b hb o e=>(I8.pin (b,o) (List.mem_append_right _ (List.mem_append_right _ (jcx hb e)))).1
      have fr8:∀ b ∈ fp,H8 b = none:=fun b hb=>by
        obtain ⟨o,e,d⟩:=T.obj _ _ st6 b hb
        exact (I8.pin (b,o) (List.mem_append_right _ (List.mem_append_right _ (jcx hb e)))).2.1
      have hl:=v4.length
      refine wpAny_list_append_plain p8 (fun h9 p9 sb9=>⟨m',hm,i + 1,ys ++ [y],H8,its ++ [v],?_,?_,fr8,by simpa using p9,n8,v4.append (.cons ry .nil),w8⟩) (by simp; omega)
      · have I9:Inv (blk X scope (vars ++ caps.map (·.2)) HP.objs.size s2 H2 fp) [] σ7 H8 { s8 with heap:=h9,toks:=s8.toks }:=
          (unp I8).turned (it:=s2.heap.objs.size) (fun b o hb e=>sb9.extBut b o hb e) n8 DnL (.inr (Nat.le_refl _)) DnC fun p hp=>absurd (show p ∈ ([]:List (Addr × Obj)) from hp) (by simp)
        exact I9.weak kp.1 kp.2
      · exact T.keep _ _ _ st8 fun b hb o e=>sb9.extBut b o (Dfp b hb).symm e
  exact codeAny_compStart_list (loop _ rfl) (T.self _ 0 _ _ _ st1 (loop _ rfl))
theorem jps (B:BlkOk X.env.scope.names X.N scope vars caps) (hc:X.calm = true) (hi:PI X tg iter wi)
    (hg:∀ C s₀ H₀ ex,PG (blk X scope (vars ++ caps.map (·.2)) C s₀ H₀ ex) tg g) (hb:∀ C s₀ H₀ ex,PT (blk X scope (vars ++ caps.map (·.2)) C s₀ H₀ ex) cnd tt) (he:∀ C s₀ H₀ ex,PE (blk X scope (vars ++ caps.map (·.2)) C s₀ H₀ ex) elt te) (hs:∀ x,foldedSetIterable iter X.env x = pure x:=by intro _; rfl) :
    PE X (.ListComp elt [⟨tg,iter,[cnd],0⟩] scope pos) (jmR wi g tt te vars caps):=by
  intro pins s σ H Q I h
  rw [eval_ListComp]
  refine wpAny_comprehension_free (use:=none) rfl hs (jdw (B.cells I)) B.kind B.names ?_
  show wpAny _ _ (eval iter X.env) _ _ s
  refine thn (hi pins s σ H _ I h) fun v s1 h1=>thn h1 fun itv s2 h2=>?_
  obtain ⟨it,fp,tn,J,H2,e,I2,T,st2,f2,W,⟨m0,w0⟩,turn⟩:=h2
  subst e
  exact jhx B hc hg hb he I2 T st2 f2 w0 turn (RR:=fun acc C=>compPost (model X.prog X.w) X.A X.xe none (EP X pins σ Q) acc C) fun D C s' m ns _ _ _ H' _ k q=>⟨m,ns,fun h' hs'=>⟨.ref D,H',k h' hs',rfl,q⟩⟩
theorem jpk {i:Nat} {y:Str} {py spos:Pos} (B:BlkOk X.env.scope.names X.N scope vars caps) (hc:X.calm = true) (hi:PI X tg iter wi)
    (hg:∀ C s₀ H₀ ex,PG (blk X scope (vars ++ caps.map (·.2)) C s₀ H₀ ex) tg g) (hb:∀ C s₀ H₀ ex,PT (blk X scope (vars ++ caps.map (·.2)) C s₀ H₀ ex) cnd tt) (he:∀ C s₀ H₀ ex,PE (blk X scope (vars ++ caps.map (·.2)) C s₀ H₀ ex) elt te)
    (hN:X.N.Nodup) (hy:X.N[i]? = some y) (hx:Loc X.env.scope y) (hsw:swapsWith (.ListComp elt [⟨tg,iter,[cnd],0⟩] scope pos) (some (.Name y py)) spos.line X.env = pure true)
    (hf:X.fn y = true ∨ X.env.scope.names.lookup y = some .local) (hs:∀ x,foldedSetIterable iter X.env x = pure x:=by intro _; rfl) :
    PS X (.Assign [.Name y py] (.ListComp elt [⟨tg,iter,[cnd],0⟩] scope pos) spos) (fun D σ H=>jmR wi g tt te vars caps σ H fun v H1=>D.nx (σ.set i (some v)) H1):=by
  intro pins s σ H DE I h
  rw [exec_Assign_Name_used _ _ _ _ hsw]
  refine wpAny_bind (wpAny_standAt (wpAny_bind ?_))
  show wpAny _ X.A (do let _ ← comprehension (.ListComp elt [⟨tg,iter,[cnd],0⟩] scope pos) scope X.env _ (newList []) false (eval iter X.env) (some (assign (.Name y py) X.env))) _ _ s
  refine wpAny_bind (wpAny_mono (wpAny_comprehension_free (use:=some (assign (.Name y py) X.env)) (Q:=fun _ s'=>SP X pins DE .next s') rfl hs (jdw (B.cells I)) B.kind B.names
    (thn (hi pins s σ H _ I h) fun v s1 h1=>thn h1 fun itv s2 h2=>?_)) (fun _ s' hq=>wpAny_pure (wpAny_pure hq)) fun _ _ e=>e)
  obtain ⟨it,fp,tn,J,H2,e,I2,T,st2,f2,W,⟨m0,w0⟩,turn⟩:=h2
  subst e
  refine jhx (Q:=fun v H1=>DE.nx (σ.set i (some v)) H1) B hc hg hb he I2 T st2 f2 w0 turn (RR:=fun acc C=>compPost (model X.prog X.w) X.A X.xe (some (assign (.Name y py) X.env)) (fun _ s'=>SP X pins DE .next s') acc C) ?_
  intro D C s' m ns hDC hD hC H' hHC k q
  obtain ⟨oC,es,ep,eC,dC,rC⟩:=ns
  have I':Inv X pins σ H' s':=k s'.heap (Heap.SameBut.refl ..)
  have nL:C ≠ X.env.locals:=fun z=>by have:=I2.lt; rw [← z] at this; exact absurd (Nat.lt_of_lt_of_le this hC) (Nat.lt_irrefl _)
  have nF:C ∉ X.fs:=I2.nofs hC
  have nCell:∀ x c,X.env.cells.lookup x = some c → c ≠ C:=fun x c e z=>by
    obtain ⟨v,o,ho,_⟩:=I2.cell x c e
    have:=Heap.lt_size ho
    rw [z] at this
    exact absurd (Nat.lt_of_lt_of_le this hC) (Nat.lt_irrefl _)
  have nPin:∀ p ∈ X.pn ++ pins,p.1 ≠ C:=fun p hp z=>by
    have:=Heap.lt_size (I2.pin p hp).1
    rw [z] at this
    exact absurd (Nat.lt_of_lt_of_le this hC) (Nat.lt_irrefl _)
  have Ip:Inv X (pins ++ [(C,oC)]) σ H' s':=I'.pins_of fun p hp=>by
    rcases List.mem_append.mp hp with z | z
    · exact I'.pin p (List.mem_append_right _ z)
    · have e:p = (C,oC):=by simpa using z
      subst e
      exact ⟨eC,hHC,nL,nF,fun v z=>by rw [dC] at z; cases z⟩
  refine thn (jbC (pos:=py) hN hy hx hf _ s' σ H' (.ref D) (.ref D) (fun σ' H''=>σ' = σ.set i (some (.ref D)) ∧ H'' = H' ∧ DE.nx σ' H'') Ip rfl ⟨rfl,rfl,q⟩) fun _ s'' ⟨σ'',H'',I'',e1,e2,q''⟩=>?_
  subst e1 e2
  have eC'':s''.heap.get? C = some oC:=(I''.pin (C,oC) (List.mem_append_right _ (List.mem_append_right _ (by simp)))).1
  refine ⟨m,⟨oC,es,ep,eC'',dC,rC⟩,fun h' hs'=>⟨_,H'',?_,q''⟩⟩
  exact I''.unpinned.turned (t':=s''.toks) (it:=C) (fun b o hb e=>hs'.extBut b o hb e) hHC nL (.inr (Nat.le_trans I2.sz hC)) nCell nPin
end
def jiX (t:D → Option Bool) (f:D → Option D):List D → Option (List D)
  | []=>some []
  | d :: ds=>(t d).bind fun b=>if b = true then (f d).bind fun e=>(jiX t f ds).bind fun es=>some (e :: es) else jiX t f ds
@[simp] theorem jwX {t:D → Option Bool} {f:D → Option D}:jiX t f [] = some []:=rfl
def jfF (fi:Dv → Option (List D)) (caps:List (Nat × Str)) (bv:D → Option (List D)) (ft:Dv → Option Bool) (fe:Dv → Option D):Dv → Option D:=fun δ=>(fi δ).bind fun ds=>if ds.length ≤ sizeLine then (jiX (fun d=>(bv d).bind fun vs=>ft (vs.map .fz ++ jga δ caps)) (fun d=>(bv d).bind fun vs=>fe (vs.map .fz ++ jga δ caps)) ds).bind fun es=>some (.list es) else none
theorem jhu {t:D → Option Bool} {f:D → Option D}:∀ {ds es:List D} {i:Nat} {d:D},jiX t f ds = some es → ds[i]? = some d → ∃ xs,jiX t f (ds.take i) = some xs ∧ ∃ b,t d = some b ∧ (b = false → jiX t f (ds.take (i + 1)) = some xs) ∧ (b = true → ∃ e,f d = some e ∧ jiX t f (ds.take (i + 1)) = some (xs ++ [e]))
  | [],es,i,d,h,q=>by simp at q
  | d :: ds,es,i,d',h,q=>by
    obtain ⟨b,h1,h⟩:=bind_some h
    cases i with
    | zero=>
      simp at q; subst q
      refine ⟨[],rfl,b,h1,fun hb=>?_,fun hb=>?_⟩
      · subst hb; simp [jiX,h1]
      · subst hb
        rw [if_pos rfl] at h
        obtain ⟨e,h2,h⟩:=bind_some h
        exact ⟨e,h2,by simp [jiX,h1,h2]⟩
    | succ i=>
      simp at q
      cases b with
      | false=>
        rw [if_neg (by decide)] at h
        obtain ⟨xs,g1,b',g2,g3,g4⟩:=jhu (i:=i) h q
        refine ⟨xs,by simp [jiX,h1,g1],b',g2,fun hb=>by simpa [jiX,h1] using g3 hb,fun hb=>?_⟩
        obtain ⟨e,k1,k2⟩:=g4 hb
        exact ⟨e,k1,by simpa [jiX,h1] using k2⟩
      | true=>
        rw [if_pos rfl] at h
        obtain ⟨e0,h2,h⟩:=bind_some h
        obtain ⟨es',h3,h⟩:=bind_some h
        obtain ⟨xs,g1,b',g2,g3,g4⟩:=jhu (i:=i) h3 q
        refine ⟨e0 :: xs,by simp [jiX,h1,h2,g1],b',g2,fun hb=>by simp [jiX,h1,h2,g3 hb],fun hb=>?_⟩
        obtain ⟨e,k1,k2⟩:=g4 hb
        exact ⟨e,k1,by simp [jiX,h1,h2,k2]⟩
theorem jkB {t:D → Option Bool} {f:D → Option D}:∀ {ds es:List D},jiX t f ds = some es → es.length ≤ ds.length
  | [],es,h=>by cases h; exact Nat.le_refl _
  | d :: ds,es,h=>by
    obtain ⟨b,h1,h⟩:=bind_some h
    cases b with
    | false=>rw [if_neg (by decide)] at h; exact Nat.le_succ_of_le (jkB h)
    | true=>
      rw [if_pos rfl] at h
      obtain ⟨e0,h2,h⟩:=bind_some h
      obtain ⟨es',h3,h⟩:=bind_some h
      cases h
      exact Nat.succ_le_succ (jkB h3)
section
variable {X:Cx} {scope:Scope} {vars:List Str} {caps:List (Nat × Str)} {elt tg iter cnd:Expr} {pos:Pos} {g:TG} {fi:Dv → Option (List D)} {ft:Dv → Option Bool} {fe:Dv → Option D} {bv:D → Option (List D)}
theorem jii (tk:jqM X.K g vars.length bv) {σ:St} {H:Hp} {Q:VK} (h:tV X.K (jfF fi caps bv ft fe) σ H Q):jmR (tVI X.K fi) g (tVT X.K ft) (tV X.K fe) vars caps σ H Q:=by
  obtain ⟨H₀,Z₀,Z,δ,d,hh,e,k⟩:=h
  obtain ⟨ds,e1,e⟩:=bind_some e
  by_cases hz:ds.length ≤ sizeLine
  · rw [if_pos hz] at e
    obtain ⟨es,e2,e⟩:=bind_some e
    cases e
    have hv:vars.map (fun _=>(none:Option V)) = List.replicate vars.length none:=by rw [List.map_const']
    refine ⟨H₀,Z₀,Z,δ,ds,hh,e1,fun J Z1 H1 hh1 t1 ok=>?_⟩
    refine ⟨fun i m ys H=>m = ds.length - i ∧ i ≤ ds.length ∧ ∃ Zc xs,Hold X.K H₀ Z₀ Zc δ σ H ∧ Same Z1 Zc ∧ jiX (fun d=>(bv d).bind fun vs=>ft (vs.map .fz ++ jga δ caps)) (fun d=>(bv d).bind fun vs=>fe (vs.map .fz ++ jga δ caps)) (ds.take i) = some xs ∧ Reps X.K Zc ys xs,⟨ds.length,by simp,Nat.zero_le _,Z1,[],hh1,Same.refl _,rfl,.nil⟩,?_⟩
    rintro i m ys H2 ⟨rfl,hi2,Zc,xs,hhc,tc,fx,rc⟩
    have zh:Same Z1 H2:=tc.trans hhc.zh
    have ly:=rc.length
    have lx:=jkB fx
    rw [List.length_take] at lx
    by_cases hlt:i < ds.length
    · refine .inr ⟨ok.go i H2 zh hlt,by omega,fun x H3 y=>?_⟩
      have ed:ds[i]? = some ds[i]:=by simp [hlt]
      obtain ⟨rfl,rx⟩:=ok.yld i H2 x H3 _ zh ed y
      obtain ⟨xs',f0,b,fb,ff,ftr⟩:=jhu e2 ed
      rw [fx] at f0
      cases f0
      obtain ⟨vs,f3,f1⟩:=bind_some fb
      rw [hv]
      refine tk x Zc ds[i] vs (jhO σ caps) H3 _ (rx.same tc) hhc.zh f3 fun us ru hn=>⟨⟨by simp [hn],fun j v q=>?_⟩,?_⟩
      · by_cases hj:j < vars.length
        · rw [List.getElem?_append_left (by simpa using hj),List.getElem?_replicate] at q
          split at q <;> cases q
        · rw [List.getElem?_append_right (by simpa using hj)] at q
          rw [List.getElem?_append_right (by simpa [hn] using hj)]
          simpa [hn] using q
      · refine ⟨H3,Zc,Zc,_,b,ji4 hhc ru,f1,fun Z3 H3' h3 t3=>?_⟩
        have hh3:=hhc.new ⟨t3,h3.h0,h3.zh,h3.zb⟩
        cases b with
        | false=>
          dsimp only
          rw [if_neg (by decide)]
          exact ⟨ds.length - (i + 1),by omega,rfl,hlt,Z3,xs,hh3,tc.trans t3,ff rfl,rc.same t3⟩
        | true=>
          dsimp only
          rw [if_pos rfl]
          obtain ⟨ei,f2,f4⟩:=ftr rfl
          rw [f3] at f2
          refine ⟨H3,Zc,Z3,_,ei,h3,f2,fun v Z4 H4 h4 t4 r4=>⟨ds.length - (i + 1),by omega,rfl,hlt,Z4,xs ++ [ei],?_,(tc.trans t3).trans t4,f4,((rc.same t3).same t4).append (.cons r4 .nil)⟩⟩
          exact hhc.new ⟨t3.trans t4,h4.h0,h4.zh,h4.zb⟩
    · have hie:i = ds.length:=by omega
      subst hie
      refine .inl ⟨ok.stop _ H2 zh (Nat.le_refl _),by omega,fun p hp=>?_⟩
      rw [List.take_length,e2] at fx
      cases fx
      have n:=New.add hhc.zh hp (.lst ys)
      exact k _ _ _ (hhc.new n) ((t1.trans tc).trans n.z) (.lst (SqL.of jaV) (rc.same n.z))
  · rw [if_neg hz] at e; cases e
theorem ji0 (B:BlkOk X.env.scope.names X.N scope vars caps) (hc:X.calm = true) (hi:IV X tg iter fi) (tk:jqM X.K g vars.length bv)
    (hg:∀ C s₀ H₀ ex,PG (blk X scope (vars ++ caps.map (·.2)) C s₀ H₀ ex) tg g) (hb:∀ C s₀ H₀ ex,TV (blk X scope (vars ++ caps.map (·.2)) C s₀ H₀ ex) cnd ft) (he:∀ C s₀ H₀ ex,EV (blk X scope (vars ++ caps.map (·.2)) C s₀ H₀ ex) elt fe) (hs:∀ x,foldedSetIterable iter X.env x = pure x:=by intro _; rfl) :
    EV X (.ListComp elt [⟨tg,iter,[cnd],0⟩] scope pos) (jfF fi caps bv ft fe):=
  PE.imp (jps (tt:=tVT X.K ft) (te:=tV X.K fe) B hc hi hg hb he hs) fun _ _ _ h=>jii tk h
theorem jpb (i:Nat) {y:Str} {py spos:Pos} (hN:X.N.Nodup) (B:BlkOk X.env.scope.names X.N scope vars caps) (hc:X.calm = true) (hi:IV X tg iter fi) (tk:jqM X.K g vars.length bv)
    (hg:∀ C s₀ H₀ ex,PG (blk X scope (vars ++ caps.map (·.2)) C s₀ H₀ ex) tg g) (hb:∀ C s₀ H₀ ex,TV (blk X scope (vars ++ caps.map (·.2)) C s₀ H₀ ex) cnd ft) (he:∀ C s₀ H₀ ex,EV (blk X scope (vars ++ caps.map (·.2)) C s₀ H₀ ex) elt fe)
    (hy:X.N[i]? = some y:=by rfl) (hx:Loc X.env.scope y:=by first | exact Or.inl rfl | exact Or.inr rfl) (hsw:swapsWith (.ListComp elt [⟨tg,iter,[cnd],0⟩] scope pos) (some (.Name y py)) spos.line X.env = pure true:=by rfl)
    (hf:X.fn y = true ∨ X.env.scope.names.lookup y = some .local:=by first | exact .inl rfl | exact .inr rfl | assumption) (hs:∀ x,foldedSetIterable iter X.env x = pure x:=by intro _; rfl) :
    SV X (.Assign [.Name y py] (.ListComp elt [⟨tg,iter,[cnd],0⟩] scope pos) spos) (jaF i (jfF fi caps bv ft fe)):=
  PS.imp (jpk (tt:=tVT X.K ft) (te:=tV X.K fe) B hc hi hg hb he hN hy hx hsw hf hs) fun D σ H h=>by
    obtain ⟨H₀,Z₀,Z,δ,r,hh,e,k⟩:=h
    obtain ⟨x,e1,e⟩:=bind_some e
    cases e
    exact jii tk ⟨H₀,Z₀,Z,δ,x,hh,e1,fun v Z1 H1 hh1 s1 r1=>k _ H1 Z1 (hh1.set r1) s1⟩
end
end VL
set_option Elab.async false
set_option linter.all false
set_option maxRecDepth 100000
set_option maxHeartbeats 4000000
namespace VL
open PySem PySem.Spec PyProof.Rows L2
def oCh (f1 f2 f3:Dv → Option D) (g g':D → D → Option D):Dv → Option D:=fun δ=>(f1 δ).bind fun a=>(f2 δ).bind fun b=>(g a b).bind fun r=>(asB r).bind fun k=>if k = true then (f3 δ).bind fun c=>g' b c else some (.bool false)
section
variable {X:Cx} {a b c:Expr} {pos:Pos} {f1 f2 f3:Dv → Option D}
theorem jmr {K:Fg} {g g':D → D → Option D} {σ:St} {H:Hp} {Q:VK} (h:tV K (oCh f1 f2 f3 g g') σ H Q):jqT (rD K g) (rD K g') (tV K f1) (tV K f2) (tV K f3) σ H Q:=by
  obtain ⟨H₀,Z₀,Z,δ,d,hh,e,k⟩:=h
  obtain ⟨x,e1,ea⟩:=bind_some e
  obtain ⟨y,e2,eb⟩:=bind_some ea
  obtain ⟨r,e3,ec⟩:=bind_some eb
  obtain ⟨kk,e4,ed⟩:=bind_some ec
  clear e ea eb ec
  have er:=jox e4
  subst er
  refine ⟨H₀,Z₀,Z,δ,x,hh,e1,fun v1 Z1 H1 hh1 s1 r1=>⟨H₀,Z₀,Z1,δ,y,hh1,e2,fun v2 Z2 H2 hh2 s2 r2=>?_⟩⟩
  refine ⟨Z2,x,y,_,hh2.zh,r1.same s2,r2,e3,fun v3 Z3 H3 n r3=>⟨kk,r3.bl_eq,?_⟩⟩
  cases kk with
  | true=>
    rw [if_pos rfl] at ed ⊢
    obtain ⟨z,e5,e⟩:=bind_some ed
    refine ⟨H₀,Z₀,Z3,δ,z,hh2.new n,e5,fun v4 Z4 H4 hh4 s4 r4=>⟨Z4,y,z,d,hh4.zh,(r2.same n.z).same s4,r4,e,fun v5 Z5 H5 n5 r5=>?_⟩⟩
    exact k v5 Z5 H5 (hh4.new n5) ((((s1.trans s2).trans n.z).trans s4).trans n5.z) r5
  | false=>
    rw [if_neg (by decide)] at ed ⊢
    cases ed
    exact k _ Z3 H3 (hh2.new n) ((s1.trans s2).trans n.z) (.bl _)
theorem jqt {op op':CmpOp} {g g':D → D → Option D} (ho:OpR X (compareOp op) (rD X.K g)) (ho':OpR X (compareOp op') (rD X.K g')) (ha:EV X a f1) (hb:EV X b f2) (hc:EV X c f3)
    (hm:lastMarks [op,op'] [b,c] = false:=by with_unfolding_all rfl):EV X (.Compare a [op,op'] [b,c] pos) (oCh f1 f2 f3 g g'):=
  PE.imp (jpt ho ho' ha hb hc hm) fun _ _ _ h=>jmr h
end
def flD:D → Bool
  | .none=>true
  | .bool _=>true
  | .int _=>true
  | .str _=>true
  | _=>false
def inL (x:D) (ds:List D):Bool:=ds.any fun y=>PyData.eqv y x
def inD (neg:Bool):D → D → Option D:=fun a b=>(je6 b).bind fun ds=>if flD a = true ∧ ds.all flD = true then some (.bool (if neg = true then !inL a ds else inL a ds)) else none
theorem Rep.flat {K:Fg} {Z:Hp} {v:V} {d:D} (r:Rep K Z v d):jfa v = flD d:=by cases r <;> rfl
theorem Rep.eqF {K:Fg} {Z:Hp} {v u:V} {d e:D} (r:Rep K Z v d) (q:Rep K Z u e) (h1:flD d = true) (h2:flD e = true):eqV v u = PyData.eqv d e:=by
  cases r <;> first | (cases q <;> first | rfl | cases h2) | cases h1
theorem Reps.allF {K:Fg} {Z:Hp}:∀ {vs:List V} {ds:List D},Reps K Z vs ds → vs.all jfa = ds.all flD
  | _,_,.nil=>rfl
  | _,_,.cons r t=>by rw [List.all_cons,List.all_cons,r.flat,t.allF]
theorem Reps.inF {K:Fg} {Z:Hp} {x:V} {a:D} (q:Rep K Z x a) (h:flD a = true):∀ {vs:List V} {ds:List D},Reps K Z vs ds → ds.all flD = true → inV x vs = inL a ds
  | _,_,.nil,_=>rfl
  | _,_,.cons r t,f=>by
    rw [List.all_cons,Bool.and_eq_true] at f
    show (eqV _ x || inV x _) = (PyData.eqv _ a || inL a _)
    rw [r.eqF q f.1 h,t.inF q h f.2]
theorem js4 {K:Fg} {neg:Bool} {x y:V} {H:Hp} {Q:VK} (h:rD K (inD neg) x y H Q):rIn K neg x y H Q:=by
  obtain ⟨Z,a,b,d,zh,ra,rb,e,k⟩:=h
  obtain ⟨ds,e1,e⟩:=bind_some e
  by_cases c:flD a = true ∧ ds.all flD = true
  · rw [if_pos c] at e
    cases e
    have go:∀ (xs:List V),Reps K Z xs ds → (∃ p,y = .ref p ∧ (SqL K H p xs ∨ SqT K H p xs)) → rIn K neg x y H Q:=fun xs r ⟨p,ey,hq⟩=>by
      refine ⟨p,xs,ey,hq,by rw [ra.flat]; exact c.1,by rw [r.allF]; exact c.2,?_⟩
      have:=r.inF ra c.1 c.2
      rw [this]
      exact k _ Z H (New.refl zh) (.bl _)
    cases rb with
    | lst h q=>cases e1; exact go _ q ⟨_,rfl,.inl (SqL.same h zh)⟩
    | tup h q=>cases e1; exact go _ q ⟨_,rfl,.inr (SqT.same h zh)⟩
    | _=>cases e1
  · rw [if_neg c] at e; cases e
theorem jwZ {X:Cx}:OpR X (compareOp .In) (rD X.K (inD false)):=OpR.imp jnj fun _ _ _ _ h=>js4 h
def gT:List (D → Dv → Option Dv) → List D → Dv → Option Dv
  | [],[],δ=>some δ
  | g :: gs,d :: ds,δ=>(g d δ).bind fun δ1=>gT gs ds δ1
  | _,_,_=>none
def gTu (gs:List (D → Dv → Option Dv)):D → Dv → Option Dv
  | .tuple ds,δ=>gT gs ds δ
  | _,_=>none
@[simp] theorem jzP (δ:Dv):gT [] [] δ = some δ:=rfl
@[simp] theorem jy8 (g:D → Dv → Option Dv) (gs:List (D → Dv → Option Dv)) (d:D) (ds:List D) (δ:Dv):gT (g :: gs) (d :: ds) δ = (g d δ).bind fun δ1=>gT gs ds δ1:=rfl
@[simp] theorem jy7 (gs:List (D → Dv → Option Dv)) (ds:List D) (δ:Dv):gTu gs (.tuple ds) δ = gT gs ds δ:=rfl
section
variable {X:Cx} {pos:Pos} {e:Expr} {es:List Expr} {g:D → Dv → Option Dv} {gs:List (D → Dv → Option Dv)}
theorem PGs.imp {t t':TGs} (h:PGs X es t) (i:∀ v σ H Q,t' v σ H Q → t v σ H Q):PGs X es t':=fun pins s σ H x v Q I r q=>h pins s σ H x v Q I r (i _ _ _ _ q)
end
theorem jbl {g:D → Dv → Option Dv} {b:Sf} {d:D} {ds:List D} {δ δ1 δ2:Dv} (h1:g d δ = some δ1) (h2:b δ1 = some (.nx,δ2)):loop g b (d :: ds) δ = loop g b ds δ2:=by
  show ((g d δ).bind fun δ1=>_) = _
  rw [h1,Option.bind_some,h2]; rfl
theorem jgQ {g:D → Dv → Option Dv} {b:Sf} {d x:D} {ds:List D} {δ δ1 δ2:Dv} (h1:g d δ = some δ1) (h2:b δ1 = some (.rt x,δ2)):loop g b (d :: ds) δ = some (.rt x,δ2):=by
  show ((g d δ).bind fun δ1=>_) = _
  rw [h1,Option.bind_some,h2]; rfl
end VL
set_option Elab.async false
set_option linter.all false
set_option maxRecDepth 100000
set_option maxHeartbeats 4000000
namespace VL
open PySem PySem.Spec PyProof.Rows L2
def tO (K:Fg) (f:Dv → Option (List D)):TE:=fun σ H Q=>∃ H₀ Z₀ Z δ ds,Hold K H₀ Z₀ Z δ σ H ∧ f δ = some ds ∧ ∀ p vs Z' H',Hold K H₀ Z₀ Z' δ σ H' → Same Z Z' → H' p = none → Reps K Z' vs ds → Q (.ref p) (upd H' p (.lst vs))
def EO (X:Cx) (e:Expr) (f:Dv → Option (List D)):Prop:=PE X e (tO X.K f)
def oLi (f:Dv → Option D):Dv → Option (List D):=fun δ=>(f δ).bind jtN
@[simp] def jjy (i:Nat) (f:Dv → Option (List D)):Sf:=fun δ=>(f δ).bind fun ds=>some (.nx,δ.set i (.ow ds))
section
variable {X:Cx} {e:Expr} {es:List Expr} {p pos:Pos} {f:Dv → Option (List D)} {fs:Dv → Option (List D)}
theorem jln {K:Fg} {D:Ends} {i:Nat} {σ:St} {H:Hp} (h:tVS K (jjy i f) D σ H):tO K f σ H fun v H1=>D.nx (σ.set i (some v)) H1:=by
  obtain ⟨H₀,Z₀,Z,δ,r,hh,e,k⟩:=h
  obtain ⟨ds,e1,e⟩:=bind_some e
  cases e
  exact ⟨H₀,Z₀,Z,δ,ds,hh,e1,fun p vs Z1 H1 hh1 t1 hp r1=>k _ _ Z1 (hh1.setO hp r1) t1⟩
theorem jmT (i:Nat) {x:Str} {pos':Pos} (hN:X.N.Nodup) (ha:EO X e f) (hi:X.N[i]? = some x:=by rfl) (hx:Loc X.env.scope x:=by first | exact Or.inl rfl | exact Or.inr rfl) (hs:swapsWith e (some (.Name x pos')) pos.line X.env = pure false:=by rfl)
    (hf:X.fn x = true ∨ X.env.scope.names.lookup x = some .local:=by first | exact .inl rfl | exact .inr rfl | assumption):SV X (.Assign [.Name x pos'] e pos) (jjy i f):=
  PS.imp (jll hN hi hx ha hs hf) fun D σ H h=>jln h
def oLs (fs:Dv → Option (List D)):Dv → Option (List D):=fun δ=>(fs δ).bind fun as=>match as with
  | [d]=>je6 d
  | _=>none
theorem jti (hg:Gl X "list") (hm:X.mg "list" = none) (ha:AV X (e :: es) fs) (he:starEach (e :: es) X.env = (false,eval e X.env) :: starEach es X.env:=by rfl) (hpl:(backTo pos (starEach es X.env)).any (·.1) = false:=by rfl):EO X (.Call (.Name "list" p) (e :: es) [] pos) (oLs fs):=
  PE.imp (jjD jgm hg hm (by decide +kernel) ha (by decide) (by decide) he hpl) fun σ H Q h=>by
    obtain ⟨H₀,Z₀,Z,δ,ds,hh,e,k⟩:=h
    obtain ⟨as,e1,e⟩:=bind_some e
    refine ⟨H₀,Z₀,Z,δ,as,hh,e1,fun vs Z1 H1 hh1 t1 r1=>?_⟩
    cases r1 with
    | nil=>cases e
    | cons r1 r2=>
      cases r2 with
      | cons _ _=>cases e
      | nil=>
        cases r1 with
        | lst h1 q1=>cases e; exact ⟨_,_,rfl,.inl (SqL.same h1 hh1.zh),fun l hl=>k l _ Z1 H1 hh1 t1 hl q1⟩
        | tup h1 q1=>cases e; exact ⟨_,_,rfl,.inr (SqT.same h1 hh1.zh),fun l hl=>k l _ Z1 H1 hh1 t1 hl q1⟩
        | _=>cases e
end
section
variable {X:Cx} {scope:Scope} {vars:List Str} {caps:List (Nat × Str)} {elt tg iter cnd:Expr} {pos:Pos} {g:TG} {fi:Dv → Option (List D)} {ft:Dv → Option Bool} {fe:Dv → Option D} {bv:D → Option (List D)}
theorem jmo (tk:jqM X.K g vars.length bv) {σ:St} {H:Hp} {Q:VK} (h:tO X.K (oLi (jdv fi caps bv fe)) σ H Q):jo3 (tVI X.K fi) g (tV X.K fe) vars caps σ H Q:=by
  obtain ⟨H₀,Z₀,Z,δ,d0,hh,e0,k⟩:=h
  obtain ⟨d,e,e0⟩:=bind_some e0
  obtain ⟨ds,e1,e⟩:=bind_some e
  by_cases hz:ds.length ≤ sizeLine
  · rw [if_pos hz] at e
    obtain ⟨es,e2,e⟩:=bind_some e
    cases e
    obtain rfl:es = d0:=Option.some.inj e0
    have le:=jfm e2
    have hv:vars.map (fun _=>(none:Option V)) = List.replicate vars.length none:=by rw [List.map_const']
    refine ⟨H₀,Z₀,Z,δ,ds,hh,e1,fun J Z1 H1 hh1 t1 ok=>?_⟩
    refine ⟨fun i m ys H=>m = ds.length - i ∧ i ≤ ds.length ∧ ∃ Zc,Hold X.K H₀ Z₀ Zc δ σ H ∧ Same Z1 Zc ∧ Reps X.K Zc ys (es.take i),⟨ds.length,by simp,Nat.zero_le _,Z1,hh1,Same.refl _,by simpa using .nil⟩,?_⟩
    rintro i m ys H2 ⟨rfl,hi2,Zc,hhc,tc,rc⟩
    have zh:Same Z1 H2:=tc.trans hhc.zh
    have ly:=rc.length
    rw [List.length_take] at ly
    by_cases hlt:i < ds.length
    · refine .inr ⟨ok.go i H2 zh hlt,by omega,fun x H3 y=>?_⟩
      have ed:ds[i]? = some ds[i]:=by simp [hlt]
      obtain ⟨rfl,rx⟩:=ok.yld i H2 x H3 _ zh ed y
      obtain ⟨ei,f1,f2⟩:=jiT e2 ed
      obtain ⟨vs,f3,f1⟩:=bind_some f1
      rw [hv]
      refine tk x Zc ds[i] vs (jhO σ caps) H3 _ (rx.same tc) hhc.zh f3 fun us ru hn=>⟨⟨by simp [hn],fun j v q=>?_⟩,?_⟩
      · by_cases hj:j < vars.length
        · rw [List.getElem?_append_left (by simpa using hj),List.getElem?_replicate] at q
          split at q <;> cases q
        · rw [List.getElem?_append_right (by simpa using hj)] at q
          rw [List.getElem?_append_right (by simpa [hn] using hj)]
          simpa [hn] using q
      · refine ⟨H3,Zc,Zc,_,ei,ji4 hhc ru,f1,fun v Z4 H4 h4 t4 r4=>⟨ds.length - (i + 1),by omega,rfl,hlt,Z4,hhc.new ⟨t4,h4.h0,h4.zh,h4.zb⟩,tc.trans t4,?_⟩⟩
        have:es.take (i + 1) = es.take i ++ [ei]:=by
          rw [List.take_add_one,f2]; rfl
        rw [this]
        exact (rc.same t4).append (.cons r4 .nil)
    · have hie:i = ds.length:=by omega
      subst hie
      refine .inl ⟨ok.stop _ H2 zh (Nat.le_refl _),by omega,fun p hp=>?_⟩
      rw [← le,List.take_length] at rc
      exact k p ys Zc _ hhc (t1.trans tc) hp rc
  · rw [if_neg hz] at e; cases e
theorem jpa (i:Nat) {y:Str} {py spos:Pos} (hN:X.N.Nodup) (B:BlkOk X.env.scope.names X.N scope vars caps) (hc:X.calm = true) (hi:IV X tg iter fi) (tk:jqM X.K g vars.length bv)
    (hg:∀ C s₀ H₀ ex,PG (blk X scope (vars ++ caps.map (·.2)) C s₀ H₀ ex) tg g) (he:∀ C s₀ H₀ ex,EV (blk X scope (vars ++ caps.map (·.2)) C s₀ H₀ ex) elt fe)
    (hy:X.N[i]? = some y:=by rfl) (hx:Loc X.env.scope y:=by first | exact Or.inl rfl | exact Or.inr rfl) (hsw:swapsWith (.ListComp elt [⟨tg,iter,[],0⟩] scope pos) (some (.Name y py)) spos.line X.env = pure true:=by rfl)
    (hf:X.fn y = true ∨ X.env.scope.names.lookup y = some .local:=by first | exact .inl rfl | exact .inr rfl | assumption) (hs:∀ x,foldedSetIterable iter X.env x = pure x:=by intro _; rfl) :
    SV X (.Assign [.Name y py] (.ListComp elt [⟨tg,iter,[],0⟩] scope pos) spos) (jjy i (oLi (jdv fi caps bv fe))):=
  PS.imp (jna (te:=tV X.K fe) B hc hi hg he hN hy hx hsw hf hs) fun D σ H h=>jmo tk (jln h)
end
def jtE (t:Sf):Fl × Dv → Option (Fl × Dv)
  | (.nx,δ)=>t δ
  | r=>some r
@[simp] theorem jxL (t:Sf) (δ:Dv):jtE t (.nx,δ) = t δ:=rfl
@[simp] theorem jxK (t:Sf) (d:D) (δ:Dv):jtE t (.rt d,δ) = some (.rt d,δ):=rfl
@[simp] theorem jxN (t:Sf) (δ:Dv):jtE t (.bk,δ) = some (.bk,δ):=rfl
@[simp] theorem jxM (t:Sf) (δ:Dv):jtE t (.ct,δ) = some (.ct,δ):=rfl
def ifK (u w:Sf) (δ:Dv):Bool → Option (Fl × Dv)
  | true=>u δ
  | false=>w δ
@[simp] theorem jAW (u w:Sf) (δ:Dv):ifK u w δ true = u δ:=rfl
@[simp] theorem jAX (u w:Sf) (δ:Dv):ifK u w δ false = w δ:=rfl
theorem jbY (s t:Sf) (δ:Dv):jam s t δ = (s δ).bind (jtE t):=by
  unfold jam jtE
  congr 1
theorem jdt (t:Dv → Option Bool) (u w:Sf) (δ:Dv):sIf t u w δ = (t δ).bind (ifK u w δ):=by
  unfold sIf
  congr 1
  funext c
  cases c <;> rfl
end VL
set_option Elab.async false
set_option linter.all false
set_option maxRecDepth 100000
set_option maxHeartbeats 4000000
namespace VL
open PySem PySem.Spec PyProof.Rows L2
def jqA:List D → Option (List Bool)
  | []=>some []
  | .bool b :: r=>(jqA r).map (b :: ·)
  | _=>none
def jwg:List D → Option D
  | [.list xs]=>(jqA xs).map fun bs=>.bool (bs.all id)
  | _=>none
def jjQ:List D → Option (List Int)
  | []=>some []
  | .int b :: r=>(jjQ r).map (b :: ·)
  | _=>none
theorem jlM {α:Type} (f:α → Bool):∀ xs:List α,jqA (xs.map fun a=>.bool (f a)) = some (xs.map f)
  | []=>rfl
  | a :: r=>by simp [jqA,jlM f r]
theorem jjg {α:Type} (f:α → Bool) (xs:List α):jwg [.list (xs.map fun a=>.bool (f a))] = some (.bool (xs.all f)):=by
  simp [jwg,jlM,List.all_map]
def jx0:D → Option D
  | .list xs=>some (.list xs.reverse)
  | _=>none
@[simp] theorem jtH (xs:List D):jx0 (.list xs) = some (.list xs.reverse):=rfl
def jzD:D → Option (List D)
  | .list xs=>some xs.reverse
  | .tuple xs=>some xs.reverse
  | _=>none
@[simp] theorem jux (xs:List D):jzD (.list xs) = some xs.reverse:=rfl
@[simp] theorem jtI (xs:List D):jzD (.tuple xs) = some xs.reverse:=rfl
@[simp] def sNo:Sf:=fun _=>none
@[simp] def jBq (i:Nat) (f:Dv → Option D):Sf:=fun δ=>(f δ).bind fun v=>(je6 v).bind fun es=>(slO δ[i]?).bind fun ds=>if ds.length + es.length ≤ sizeLine then some (.nx,δ.set i (.ow (ds ++ es))) else none
section
variable {X:Cx} {e:Expr} {es:List Expr} {p pos tpos apos:Pos} {f:Dv → Option D} {st:Stmt}
theorem jol {K:Fg} {Z:Hp}:∀ {xs:List V} {ds:List D} {bs:List Bool} {its:List Value},Reps K Z xs ds → Vals xs its → jqA ds = some bs → its.length = bs.length ∧ ∀ (i:Nat) (v:Value),its[i]? = some v → ∃ b,bs[i]? = some b ∧ v = .bool b
  | _,_,bs,_,.nil,.nil,h=>by cases h; exact ⟨rfl,fun i v q=>by simp at q⟩
  | _,_,bs,_,.cons r t,.cons q u,h=>by
    cases r with
    | bl b=>
      unfold jqA at h
      cases g:jqA _ with
      | none=>rw [g] at h; cases h
      | some cs=>
        rw [g] at h
        cases h
        obtain ⟨h1,h2⟩:=jol t u g
        refine ⟨by simp [h1],fun i v e=>?_⟩
        cases i with
        | zero=>simp at e; subst e; exact ⟨b,rfl,q⟩
        | succ i=>simp at e; simpa using h2 i v e
    | _=>cases h
theorem jiV {K:Fg} {Z:Hp}:∀ {xs:List V} {ds:List D} {bs:List Int} {its:List Value},Reps K Z xs ds → Vals xs its → jjQ ds = some bs → IntsAre its bs
  | _,_,bs,_,.nil,.nil,h=>by cases h; exact .nil
  | _,_,bs,_,.cons r t,.cons q u,h=>by
    cases r with
    | int b=>
      unfold jjQ at h
      cases g:jjQ _ with
      | none=>rw [g] at h; cases h
      | some cs=>
        rw [g] at h
        cases h
        obtain ⟨tk,rfl⟩:=q
        exact .cons _ _ (jiV t u g)
    | _=>cases h
theorem jv9 (hc:X.calm = true):CallR X (.builtin "all") (rDs X.K jwg):=by
  intro pins s σ H xs us Q I rs q
  obtain ⟨Z,as,d,zh,ra,e,k⟩:=q
  cases ra with
  | nil=>cases e
  | cons r1 r2=>
    cases r2 with
    | cons _ _=>cases r1 <;> cases e
    | nil=>
      cases r1 with
      | @lst l ys ds h1 q1=>
        have e:(jqA ds).map (fun bs=>PyData.bool (bs.all id)) = some d:=e
        cases g:jqA ds with
        | none=>rw [g] at e; cases e
        | some bs=>
          rw [g] at e
          cases e
          obtain ⟨u,rfl,ru⟩:=jjm rs
          cases ru
          obtain ⟨its,rv,pl,hz⟩:=I.list (SqL.same h1 zh)
          obtain ⟨hlen,hget⟩:=jol q1 rv g
          have hl:=pl.isList
          have hlt:l < s.heap.objs.size:=by obtain ⟨_,e,_⟩:=hl; exact Heap.lt_size e
          refine call_all_walk (wpAny_pyIter_list hl ?_)
          refine ⟨s.heap.objs.size,[s.heap.objs.size,l],[s.heap.objs.size],its.toArray.size,_,_,fun i=>(bs[i]?).getD true,rfl,Walks.list (A:=X.A.in1) (I.ok.hd hc) _ l (Nat.ne_of_lt hlt) its.toArray,
            ⟨⟨_,Heap.get?_push_size _ rfl,rfl,rfl⟩,hl.push _⟩,fun i v s' Q' E' hP hQ=>?_,fun h' tk hk=>?_⟩
          · obtain ⟨b,e,rfl⟩:=hget i v (by simpa using hP)
            simp only [e,Option.getD_some] at hQ
            exact wpAny_truthy_bool hQ
          · have e:((List.range its.toArray.size).all fun i=>(bs[i]?).getD true) = bs.all id:=by
              rw [List.size_toArray,hlen]; exact LSm.range_all bs
            rw [e]
            exact ⟨.bl _,H,I.kept (t':=tk) (LSm.kept_iter hk),rfl,k _ Z H (New.refl zh) (.bl _)⟩
      | _=>cases e
theorem jo9 {st:Stmt}:SV X st sNo:=fun pins s σ H D I h=>by
  obtain ⟨_,_,_,_,_,_,e,_⟩:=h
  cases e
end
end VL
set_option Elab.async false
set_option linter.all false
set_option maxRecDepth 100000
set_option maxHeartbeats 4000000
namespace VL
open PySem PySem.Spec PyProof.Rows L2
section
variable {prog:Program} {w:World} {A:Around} {s:Shared} {R:Result → Shared → Prop}
variable {I:Addr} {fp wr:List Addr} {G:Array GenState → Array GenState → Prop} {n:Nat} {P:Nat → Value → Prop} {St:Nat → Shared → Prop}
end
section
variable {prog:Program} {w:World} {A:Around} {E:Value → Shared → Prop} {s:Shared}
variable {I:Addr} {fp wr:List Addr} {G:Array GenState → Array GenState → Prop} {n:Nat} {P:Nat → Value → Prop} {St:Nat → Shared → Prop}
end
section
variable {X:Cx} {e:Expr} {p p2 pos pos2:Pos} {te:TE} {f:Dv → Option D}
end
end VL
set_option Elab.async false
set_option linter.all false
set_option maxRecDepth 100000
set_option maxHeartbeats 4000000
namespace VL
open PySem PySem.Spec PyProof.Rows L2
section
variable {prog:Program} {w:World} {A:Around} {E:Value → Shared → Prop} {s:Shared}
def IsRv (h:Heap) (a l:Addr) (i:Int):Prop:=∃ o,h.get? a = some o ∧ o.cls = .type "reversed" ∧ o.data = .fields #[.ref l,rawInt i]
theorem IsRv.typeIs {a l:Addr} {i:Int} (x:IsRv s.heap a l i):s.TypeIs (.ref a) "reversed":=let ⟨o,ho,hc,_⟩:=x; ⟨o,ho,hc⟩
theorem IsRv.at {h h':Heap} {a l:Addr} {i:Int} (x:IsRv h a l i) (e:∀ o,h.get? a = some o → h'.get? a = some o):IsRv h' a l i:=let ⟨o,ho,r⟩:=x; ⟨o,e _ ho,r⟩
end
def jAq:D → Option (List D)
  | .tuple xs=>some xs.reverse
  | _=>none
@[simp] theorem jtG (xs:List D):jAq (.tuple xs) = some xs.reverse:=rfl
section
variable {X:Cx} {tg e:Expr} {p pos:Pos} {te:TE} {f:Dv → Option D}
end
end VL
set_option Elab.async false
set_option linter.all false
set_option maxRecDepth 100000
set_option maxHeartbeats 4000000
namespace VL
open PySem PySem.Spec PyProof.Rows L2
def exD (n:Str):D:=.dict [(.str "exc",.str n)]
abbrev Xf:=Dv → Option (Str × Dv)
@[simp] def xNo:Xf:=fun _=>none
@[simp] def jk0 (n:Str) (f:Dv → Option D):Xf:=fun δ=>(f δ).bind fun _=>some (n,δ)
@[simp] def xE (f:Dv → Option Str):Xf:=fun δ=>(f δ).bind fun n=>some (n,δ)
@[simp] def xIf (t:Dv → Option Bool) (u w:Xf):Xf:=fun δ=>(t δ).bind fun c=>if c = true then u δ else w δ
@[simp] def jt2 (s:Sf) (u:Xf):Xf:=fun δ=>(s δ).bind fun r=>match r with
  | (.nx,δ')=>u δ'
  | _=>none
@[simp] def joW (u1:Xf) (s:Sf) (u:Xf):Xf:=fun δ=>match u1 δ with
  | some r=>some r
  | none=>jt2 s u δ
def jiI (N:List Str) (m:Nat) (fx:Xf):List D → Option Str:=fun as=>if as.length = m then (fx (jan N as)).bind fun r=>some r.1 else none
@[simp] def osX (fs:Dv → Option (List D)) (g:List D → Option Str):Dv → Option Str:=fun δ=>(fs δ).bind g
def jq1 (i:Nat) (ns:List Str) (b:Sf) (bx:Xf) (bs:Sf):Sf:=fun δ=>match bx δ with
  | some (n,δ')=>if ns.contains n = true then (bs (δ'.set i (.fz (exD n)))).bind fun r=>some (r.1,r.2.set i .un) else none
  | none=>b δ
def jwJ (t:List (Str × Bool)) (n:Str):Option D:=(t.lookup n).map .bool
def jfU (t:List (Str × Bool)):D → Option D
  | .dict [(.str k,.str n)]=>if k = "exc" then jwJ t n else none
  | _=>none
theorem js1 (t:List (Str × Bool)) (n:Str):jfU t (exD n) = jwJ t n:=by simp [jfU,exD]
theorem jhl {P:Program} {w:World} {H:Hp} {h:Heap} {a:Addr} {o:HO} (x:ObjOk P w H h a o):∃ ob,h.get? a = some ob:=by
  cases o with
  | lst xs=>obtain ⟨_,_,_,_,e⟩:=x; exact ⟨_,e⟩
  | tup xs=>obtain ⟨_,_,_,ob,e,_⟩:=x; exact ⟨_,e⟩
  | dK kvs=>obtain ⟨_,_,_,_,o,_,_,e,_⟩:=x; exact ⟨_,e⟩
  | dT kvs=>obtain ⟨_,_,_,_,o,_,_,e,_⟩:=x; exact ⟨_,e⟩
  | set S n=>obtain ⟨o,_,_,_,e,_⟩:=x; exact ⟨_,e⟩
  | ins C dx fs=>obtain ⟨_,_,_,e,_⟩:=x; exact ⟨_,e⟩
  | own y=>exact x
  | xd fs=>obtain ⟨_,⟨_,_,_,e,_⟩,_⟩:=x; exact ⟨_,e⟩
  | rng lo hi=>obtain ⟨_,_,_,e⟩:=x; exact ⟨_,e⟩
  | frz ob u=>exact ⟨_,x.1⟩
  | tbl ps=>exact ⟨_,x⟩
  | met f y=>exact ⟨_,x⟩
  | ext φ=>exact x.2.1
theorem jrG {P:Program} {w:World} {H:Hp} {h:Heap} {x C:Addr} {o:Obj} (e:h.get? x = some o) (c:o.cls = .ref C):ObjOk P w H h x (exO x C):=
  ⟨⟨o,e,c⟩,⟨o,e⟩,fun h1 h2 ⟨o',e',c'⟩ k=>⟨o',k o' e',c'⟩⟩
structure Thrown (P:Program) (w:World) (outer:List Env) (H:Hp) (s:Shared) (x C:Addr) (H':Hp) (s':Shared):Prop where
  os:s'.os = s.os
  bare:AllBare s'.gens
  un:Un (frs outer) [] H H' s.heap s'.heap
  hok:HOk P w H' s'.heap
  sm:Same H H'
  is:H' x = some (exO x C)
  fly:∃ B t,Heap.FlyingW B outer x (.ref C) t s'.heap ∧ (∀ b o,H' b = some o → b ≠ x → ∃ ob,B.get? b = some ob) ∧ (∀ b o,s.heap.get? b = some o → H b = none → b ∉ frs outer → B.get? b = some o)
def CXX (P:Program) (w:World):CXT:=fun outer H s E e s'=>∃ x C H',e = .ref x ∧ Thrown P w outer H s x C H' s' ∧ E (.ref C) (some x) H'
theorem jnT {P:Program} {w:World} {H2:Hp} {B h2 h':Heap} {l l':List Env} {x C:Addr} {t t':Value} (ok:HOk P w H2 h2) (is:H2 x = some (exO x C)) (k2:B.StaysIn h2) (fl':Heap.FlyingW B l' x (.ref C) t' h')
    (hB:∀ b o,H2 b = some o → b ≠ x → ∃ ob,B.get? b = some ob):HOk P w H2 h':=fun b o e=>by
  by_cases hb:b = x
  · subst hb
    rw [is] at e; cases e
    obtain ⟨ob,h1,h2⟩:=fl'.there
    exact jrG h1 h2
  · refine (ok b o e).stay (fun c u hc q=>?_) (fun _ q=>q) fun _ _ q=>q
    have:∃ ob,B.get? c = some ob:=by
      rcases hc with rfl | hc
      · exact hB c o e hb
      · refine hB c _ hc fun z=>?_
        subst z; rw [is] at hc; cases hc
    obtain ⟨ob,hob⟩:=this
    have:=k2 c ob hob
    rw [q] at this; cases this
    exact fl'.1 c _ hob
section
variable {P:Program} {w:World} {K:PySem.W.Frag} {mg:Str → Option Value} {base:Heap} {N:List Str} {qual:Str} {scope:Scope} {f:Addr} {cd:Value} {A:Around} {outer:List Env} {s:Shared} {H:Hp} {E:XK} {pins:List (Addr × Obj)} {σ:St} {H1 H2:Hp} {s1 s2:Shared} {x C:Addr}
theorem jpT (I:Inv (jhX (CXX P w) P w K mg base N qual scope f cd A outer s H E) pins σ H1 s1) (T:Thrown P w (jhX (CXX P w) P w K mg base N qual scope f cd A outer s H E).stack H1 s1 x C H2 s2) (hE:E (.ref C) (some x) H2) (h0:Same H H2) :
    (jhX (CXX P w) P w K mg base N qual scope f cd A outer s H E).xe (.ref x) s2:=by
  obtain ⟨B,t,fl,hB1,hB2⟩:=T.fly
  have hfr:=I.ok.frames
  have loc:∀ b o,s.heap.get? b = some o → b ∉ frs outer → b ∉ frs (jhX (CXX P w) P w K mg base N qual scope f cd A outer s H E).stack:=fun b o q hb z=>by
    rcases List.mem_cons.mp (I.stkSub b z) with e | e
    · exact absurd (Heap.lt_size q) (by rw [e]; exact Nat.not_lt.mpr I.ok.above)
    · exact hb e
  have keep:∀ b o,s.heap.get? b = some o → H b = none → b ∉ frs outer → B.get? b = some o:=fun b o q n hb=>
    hB2 b o (I.base.keep b o q n hb (fun z=>nomatch z)) (I.base.free b o q n (fun z=>nomatch z)) (loc b o q hb)
  refine wpAny_leaves_onW hfr rfl fl fun h' fl' sm=>?_
  have slot:∀ b o,s.heap.get? b = some o → H b = none → b ∈ frs outer → ∃ sl,h'.get? b = some { o with slots:=sl }:=fun b o q n hb=>by
    obtain ⟨sl,e1⟩:=I.base.slot b o q n hb (fun z=>nomatch z)
    have hb':b ∈ frs (jhX (CXX P w) P w K mg base N qual scope f cd A outer s H E).stack:=by
      show b ∈ List.filterMap _ (_ :: outer)
      exact List.mem_filterMap.mpr (by obtain ⟨env,he,hf⟩:=List.mem_filterMap.mp hb; exact ⟨env,List.mem_cons_of_mem _ he,hf⟩)
    obtain ⟨sl2,e2⟩:=T.un.slot b _ e1 (I.base.free b o q n (fun z=>nomatch z)) hb' (fun z=>nomatch z)
    obtain ⟨_,o',ho',hd⟩:=I.ok.funs.mem hb
    have ho2:s.heap.get? b = some o':=ho'
    rw [q] at ho2; cases ho2
    obtain ⟨sl3,e3⟩:=sm b _ e2 hd
    exact ⟨sl3,e3⟩
  refine ⟨x,C,H2,rfl,⟨T.os.trans I.os,T.bare,⟨fun b o q n hb _=>fl'.1 b o (keep b o q n hb),fun b o q n hb _=>slot b o q n hb,fun b o q n _=>?_,fun b o q _=>?_,fun b xs e=>T.un.tups b xs (I.base.tups b xs e),fun b o u e=>T.un.frzs b o u (I.base.frzs b o u e),fun b ps e=>?_⟩,jnT (l:=[]) (t:=t) T.hok T.is fl.1 fl' hB1,h0,T.is,⟨B,t,fl',hB1,keep⟩⟩,hE⟩
  · obtain ⟨o1,e1⟩:=I.base.there b o q (fun z=>nomatch z)
    exact T.un.free b o1 e1 (I.base.free b o q n (fun z=>nomatch z)) (fun z=>nomatch z)
  · cases q2:H2 b with
    | some ho=>
      by_cases hb:b = x
      · subst hb; obtain ⟨ob,e1,_⟩:=fl'.there; exact ⟨ob,e1⟩
      · obtain ⟨ob,e1⟩:=hB1 b ho q2 hb; exact ⟨ob,fl'.1 b ob e1⟩
    | none=>
      have n:H b = none:=by
        cases e:H b with
        | none=>rfl
        | some z=>rw [h0 b z e] at q2; cases q2
      by_cases hb:b ∈ frs outer
      · obtain ⟨sl,e⟩:=slot b o q n hb; exact ⟨_,e⟩
      · exact ⟨o,fl'.1 b o (keep b o q n hb)⟩
  · obtain ⟨m1,e1⟩:=I.base.tbls b ps e
    obtain ⟨m2,e2⟩:=T.un.tbls b _ e1
    exact ⟨m1 ++ m2,by rw [e2,Array.append_assoc]⟩
theorem jmh {vs:List Value} (I:Inv (jhX (CXX P w) P w K mg base N qual scope f cd A outer s H E) pins σ H1 s1) (hs:s2 = { s1 with heap:=s2.heap }) (hx:Heap.MadeExcOf s1.heap s2.heap x (.ref C) vs) (h0:Same H H1) (hE:H1 x = none → E (.ref C) (some x) (upd H1 x (exO x C))) :
    (jhX (CXX P w) P w K mg base N qual scope f cd A outer s H E).xe (.ref x) s2:=by
  have hfr:=I.ok.frames
  have n1:H1 x = none:=by
    cases e:H1 x with
    | none=>rfl
    | some o=>obtain ⟨ob,h⟩:=jhl (I.hok x o e); rw [hx.new] at h; cases h
  have loc:∀ b o,s.heap.get? b = some o → b ∉ frs outer → b ∉ frs (jhX (CXX P w) P w K mg base N qual scope f cd A outer s H E).stack:=fun b o q hb z=>by
    rcases List.mem_cons.mp (I.stkSub b z) with e | e
    · exact absurd (Heap.lt_size q) (by rw [e]; exact Nat.not_lt.mpr I.ok.above)
    · exact hb e
  have hin:∀ env ∈ (jhX (CXX P w) P w K mg base N qual scope f cd A outer s H E).stack,∀ b,env.frame = some b → b ∈ frs (jhX (CXX P w) P w K mg base N qual scope f cd A outer s H E).stack:=fun env he b hb=>List.mem_filterMap.mpr ⟨env,he,hb⟩
  have keep:∀ b o,s.heap.get? b = some o → H b = none → b ∉ frs outer → (PySem.W.hideAll s1.heap (frs (jhX (CXX P w) P w K mg base N qual scope f cd A outer s H E).stack)).get? b = some o:=fun b o q n hb=>
    PySem.W.hideAll_get _ (I.base.keep b o q n hb (fun z=>nomatch z)) (loc b o q hb)
  have trk:∀ b o,H1 b = some o → ∃ ob,(PySem.W.hideAll s1.heap (frs (jhX (CXX P w) P w K mg base N qual scope f cd A outer s H E).stack)).get? b = some ob:=fun b o e=>by
    obtain ⟨ob,h⟩:=jhl (I.hok b o e)
    refine ⟨ob,PySem.W.hideAll_get _ h fun z=>?_⟩
    rw [I.stkFree b z] at e; cases e
  refine wpAny_leaves_madeW hfr rfl (fun b o q=>PySem.W.of_hideAll _ q) (PySem.W.funFrames_hide I.stack hin) hx fun h' t fl _ _ sm=>?_
  have slot:∀ b o,s.heap.get? b = some o → H b = none → b ∈ frs outer → ∃ sl,h'.get? b = some { o with slots:=sl }:=fun b o q n hb=>by
    obtain ⟨sl,e1⟩:=I.base.slot b o q n hb (fun z=>nomatch z)
    obtain ⟨_,o',ho',hd⟩:=I.ok.funs.mem hb
    have ho2:s.heap.get? b = some o':=ho'
    rw [q] at ho2; cases ho2
    obtain ⟨sl3,e3⟩:=sm b _ (hx.keeps b _ e1) hd
    exact ⟨sl3,e3⟩
  have ne:∀ b o,s1.heap.get? b = some o → b ≠ x:=fun b o q z=>by subst z; rw [hx.new] at q; cases q
  have os2:s2.os = s1.os:=by rw [hs]
  have g2:s2.gens = s1.gens:=by rw [hs]
  have hok2:HOk P w (upd H1 x (exO x C)) h':=fun b o e=>by
    by_cases hb:b = x
    · subst hb; rw [jaV] at e; cases e; obtain ⟨ob,q1,q2⟩:=fl.there; exact jrG q1 q2
    · rw [ja4 hb] at e
      refine (I.hok b o e).stay (fun c u hc q=>?_) (fun c q=>?_) fun c xs q=>?_
      · have:∃ ho,H1 c = some ho:=by rcases hc with rfl | hc; exact ⟨_,e⟩; exact ⟨_,hc⟩
        obtain ⟨ho,hc⟩:=this
        obtain ⟨ob,hob⟩:=trk c ho hc
        have:=PySem.W.of_hideAll _ hob
        rw [q] at this; cases this
        exact fl.1 c _ hob
      · rw [ja4 (ja8 q n1)]; exact q
      · rw [ja4 (ja8 q n1)]; exact q
  refine ⟨x,C,upd H1 x (exO x C),rfl,⟨os2.trans I.os,by rw [show ({ s2 with heap:=h' }:Shared).gens = s1.gens from g2]; exact I.bare,⟨fun b o q n hb _=>fl.1 b o (keep b o q n hb),fun b o q n hb _=>slot b o q n hb,fun b o q n _=>?_,fun b o q _=>?_,fun b xs e=>?_,fun b o u e=>?_,fun b ps e=>?_⟩,hok2,h0.trans (jeY n1),jaV,⟨_,_,fl,fun b o e hb=>?_,keep⟩⟩,hE n1⟩
  · obtain ⟨o1,e1⟩:=I.base.there b o q (fun z=>nomatch z)
    rw [ja4 (ne b o1 e1)]
    exact I.base.free b o q n (fun z=>nomatch z)
  · obtain ⟨o1,e1⟩:=I.base.there b o q (fun z=>nomatch z)
    cases q2:H1 b with
    | some ho=>obtain ⟨ob,e⟩:=trk b ho q2; exact ⟨ob,fl.1 b ob e⟩
    | none=>
      have n:H b = none:=by
        cases e:H b with
        | none=>rfl
        | some z=>rw [h0 b z e] at q2; cases q2
      by_cases hb:b ∈ frs outer
      · obtain ⟨sl,e⟩:=slot b o q n hb; exact ⟨_,e⟩
      · exact ⟨o,fl.1 b o (keep b o q n hb)⟩
  · have:=I.base.tups b xs e
    rw [ja4 (ja8 this n1)]; exact this
  · have:=I.base.frzs b o u e
    rw [ja4 (ja8 this n1)]; exact this
  · obtain ⟨m1,e1⟩:=I.base.tbls b ps e
    exact ⟨m1,by rw [ja4 (ja8 e1 n1)]; exact e1⟩
  · rw [ja4 hb] at e
    exact trk b o e
end
end VL
set_option Elab.async false
set_option linter.all false
set_option maxRecDepth 100000
set_option maxHeartbeats 4000000
namespace VL
open PySem PySem.Spec PyProof.Rows L2
abbrev jwr:List Value:=[.type "ValueError",.type "Exception",.type "BaseException",.type "object"]
structure ExcC (K:Fg) (n:Str) (C:Addr):Prop where
  nm:PySem.W.nsIn K mainGlobals n = some (some (.ref C))
  ex:PySem.W.excIn K C jwr "ValueError.__new__" = true
  ga:PySem.W.findIn K (.ref C) "__getattribute__" = some (some (.builtin "BaseException.__getattribute__"))
  gt:PySem.W.findIn K (.ref C) "__getattr__" = some none
  cl:PySem.W.findIn K (.ref C) "__class__" = some (some (.builtin "object.__class__"))
  mo:PySem.W.mroIn K C (.type "object") = some true
  be:PySem.W.mroIn K C (.type "BaseException") = some true
theorem jiY {K:Fg} {h:Heap} {C:Addr} {mB:List Value} {newId:String} (kin:K.In h) (q:PySem.W.excIn K C mB newId = true) :
    ∃ mr ns nm qn bs hd sn sub ab col dd a0 a1 a2 a3 a5 mN,h.get? C = some (excClassObj nm qn C ns bs mr hd sn sub ab col dd a0 a1 a2 a3 a5 newId) ∧ h.Ns ns mN ∧ mN "__init__" = none ∧ OwnTail h mB mr:=by
  unfold PySem.W.excIn at q
  split at q
  · rename_i dct cda slo lk
    split at q
    · rename_i C2 mr a0 a1 a2 a3 nw a5 em es
      simp only [Bool.and_eq_true,beq_iff_eq,Bool.not_eq_true'] at q
      obtain ⟨⟨⟨⟨⟨rfl,rfl⟩,nodel⟩,tl⟩,okn⟩,noini⟩:=q
      obtain ⟨nm,bs,mro,ns,qn,hd,sn,sub,ab,col,del⟩:=cda
      dsimp only at em nodel okn noini
      subst em nodel
      have esl:slo = #[a0,a1,a2,a3,some (.builtin nw),a5]:=by
        obtain ⟨ll⟩:=slo
        simp only at es
        rw [es]
      subst esl
      exact ⟨mr,ns,nm,qn,bs,hd,sn,sub,ab,col,dct,a0,a1,a2,a3,a5,_,kin _ _ lk,Heap.Ns.of_isNs (PySem.W.isNs_of_in kin okn),PySem.W.nsMap_none_of_in kin okn noini,PySem.W.tail_of_in kin tl⟩
    · cases q
  · cases q
section
variable {K:Fg} {n:Str} {C x:Addr}
theorem je4 {M:Model} {h:Heap} {o:Obj} (e:h.get? x = some o) (c:o.cls = .ref C):PySem.W.Looks M h (typeOf (.ref x)) (.ref C):=c ▸ (PySem.W.Looks.ld e).andThen .now
variable {prog:Program} {w:World} {A:Around} {E:Value → Shared → Prop}
open Builtin Builtin.ObjectAttr Builtin.Getset_descriptor in
theorem jtd {R:Result → Shared → Prop} {tp:Value} {o:Obj} {s:Shared} (F:ExcC K n C) (kin:K.In s.heap) (e:s.heap.get? x = some o) (c:o.cls = .ref C) (h:R (.ok (.ret (.ref C))) s) :
    codeAny (model prog w) A (.call (.builtin "getset_descriptor.__get__") ⟨[.builtin "object.__class__",.ref x,tp],[]⟩) R s:=by
  obtain ⟨hh,g,dr,t,os⟩:=s
  have L0:=je4 (M:=model prog w) e c
  have L1:=PySem.W.looks_mroIn (M:=model prog w) kin F.mo
  refine codeAny_call_builtin PySem.W.KF.slot_gs.plain PySem.W.KF.entry_gs (PySem.W.KF.slot_gs.check _ _ _ _ _ _ _ _ PySem.W.KF.type_class (PySem.W.KF.args_gs _ _ _) ?_)
  unfold Builtin.«getset_descriptor.__get__» descrGet
  rw [PySem.W.dga_obj]
  refine wpAny_bind (wpAny_pure ?_)
  unfold descrGetter descrCheckInstance descrNameAndClass isInstance
  simp only [PySem.W.KF.owner_class]
  repeat lk
  refine ⟨Code.quiet_builtin _ (by decide +kernel),codeAny_builtin PySem.W.KF.entry_class ?_⟩
  unfold Builtin.«object.__class__» shownTypeOf
  repeat lk
  exact h
theorem jn2 {M:Model} {o:Obj} {s:Shared} {nameV:Value} {Q:Unit → Shared → Prop} (F:ExcC K n C) (kin:K.In s.heap) (e:s.heap.get? x = some o) (c:o.cls = .ref C) (h:Q () s) :
    wpAny M A (checkBuiltinCall "BaseException.__getattribute__" ⟨[.ref x,nameV],[]⟩) Q E s:=by
  obtain ⟨hh,g,dr,t,os⟩:=s
  have L0:=je4 (M:=M) e c
  have L1:=PySem.W.looks_mroIn (M:=M) kin F.be
  have kd:builtinKind "BaseException.__getattribute__" = some .slot:=by decide +kernel
  have sp:splitId "BaseException.__getattribute__" = some ("BaseException","__getattribute__"):=by decide +kernel
  have ao:=PySem.F.args_bexc_ga (.ref x) nameV
  simp only [checkBuiltinCall,kd,sp]
  refine wpAny_bind ?_
  unfold isInstance
  refine wpAny_bind (L0.at (L1.at ?_))
  repeat wp_step
  exact h
theorem jn0 {tk:Tok} {o:Obj} {s:Shared} {Q:Fin → Shared → Prop} (F:ExcC K n C) (kin:K.In s.heap) (e:s.heap.get? x = some o) (c:o.cls = .ref C) (h:Q (.done (.ret (.ref C))) s) :
    wpAny (model prog w) A (Builtin.«object.__getattribute__» ⟨[.ref x,.str "__class__" tk],[]⟩) Q E s:=by
  obtain ⟨hh,g,dr,t,os⟩:=s
  have L0:=je4 (M:=model prog w) e c
  have L1:=PySem.W.looks_findIn (M:=model prog w) kin F.cl
  have t5:(⟨hh,g,dr,t,os⟩:Shared).TypeIs (.builtin "object.__class__") "getset_descriptor":=PySem.F.typeOf_object_class
  have f5:=PySem.F.typeOf_object_class
  have f6:=PySem.F.slot_gs_get.lookup
  have f7:=PySem.F.slot_gs_set.lookup
  repeat (any_goals (first | assumption | with_reducible refine L0.at ?_ | with_reducible refine L1.at ?_ | wp_step))
  refine jtd F kin e c ?_
  repeat (any_goals (first | assumption | wp_step))
end
end VL
set_option Elab.async false
set_option linter.all false
set_option maxRecDepth 100000
set_option maxHeartbeats 4000000
namespace VL
open PySem PySem.Spec PyProof.Rows L2
section
variable {K:Fg} {n:Str} {C x:Addr} {prog:Program} {w:World} {A:Around} {E:Value → Shared → Prop}
theorem jn1 {o:Obj} {s:Shared} {Q:Option Value → Shared → Prop} (F:ExcC K n C) (kin:K.In s.heap) (e:s.heap.get? x = some o) (c:o.cls = .ref C) (h:Q (some (.ref C)) { s with toks:=s.toks + 1 }) :
    wpAny (model prog w) A (getAttr? (.ref x) "__class__") Q E s:=by
  obtain ⟨hh,g,dr,t,os⟩:=s
  have L0:=je4 (M:=model prog w) e c
  have L1:=PySem.W.looks_findIn (M:=model prog w) kin F.ga
  have L2:=PySem.W.looks_findIn (M:=model prog w) kin F.gt
  have b3:=PySem.F.attr_ValueError.ga.bind (.ref x)
  have n2:(Value.builtin "BaseException.__getattribute__" == Value.builtin "object.__getattribute__") = false:=by decide +kernel
  have n1:(onTheHeap (Value.ref C) && Value.builtin "BaseException.__getattribute__" == Value.builtin "object.__getattribute__") = false:=by rw [n2]; rfl
  have go:∀ {tk:Tok} {R:Result → Shared → Prop} {A':Around},R (.ok (.ret (.ref C))) ⟨hh,g,dr,t + 1,os⟩ → codeAny (model prog w) A' (.call (.builtin "BaseException.__getattribute__") ⟨[.ref x,.str "__class__" tk],[]⟩) R ⟨hh,g,dr,t + 1,os⟩:=fun {tk R A'} q=>
    codeAny_call_builtin PySem.F.attr_ValueError.ga.plain PySem.F.entry_bexc_ga (jn2 (s:=⟨hh,g,dr,t + 1,os⟩) F kin e c (jn0 (s:=⟨hh,g,dr,t + 1,os⟩) F kin e c q))
  unfold getAttr? getAttrBy? getAttrBy
  repeat (any_goals (first | assumption | with_reducible refine L0.at ?_ | with_reducible refine L1.at ?_ | with_reducible refine L2.at ?_ | wp_step))
  refine go ?_
  repeat (any_goals (first | assumption | wp_step))
theorem jjN {M:Model} {h:Heap} (F:ExcC K n C) (kin:K.In h):PySem.W.Looks M h (isType (.ref C)) true:=by
  obtain ⟨_,_,_,_,_,_,_,_,_,_,_,_,_,_,_,_,_,hC,_⟩:=jiY kin F.ex
  intro A' Q' E' s' k q
  unfold isType loadHead
  exact wpAny_bind (wpAny_loadPart (k _ _ hC) (wpAny_pure q))
theorem jql (F:ExcC K n C):PySem.W.KitX K (.ref x) (.ref C) (fun h=>∃ o,h.get? x = some o ∧ o.cls = .ref C) where
  ty:=fun M h _ ⟨o,e,c⟩=>je4 e c
  it:=fun M h kin _=>jjN F kin
  ne:=fun h tp dd its m sl kin htp=>by
    obtain ⟨_,_,_,_,_,_,_,_,_,_,_,_,_,_,_,_,_,hC,_⟩:=jiY kin F.ex
    refine Bool.eq_false_iff.mpr fun q=>?_
    have z:C = tp:=Value.ref.inj (beq_iff_eq.mp q)
    subst z
    rw [htp] at hC
    have z2:=congrArg (fun z:Option Obj=>z.map (·.cls)) hC
    simp [excClassObj] at z2
  ca:=fun {_ _ _ _ _ s} kin ⟨o,e,c⟩ k=>jn1 F kin e c k
end
inductive IsX (K:Fg) (D:Str):List (Str × Bool) → Prop
  | nil:IsX K D []
  | cons {n:Str} {b:Bool} {t:List (Str × Bool)} {C dC:Addr}:ExcC K n C → PySem.W.nsIn K mainGlobals D = some (some (.ref dC)) → PySem.W.kitOne K (.ref C) (.ref dC) = some b → IsX K D t → IsX K D ((n,b) :: t)
inductive IsT (K:Fg) (D:String):List (Str × Bool) → Prop
  | nil:IsT K D []
  | cons {n:Str} {b:Bool} {t:List (Str × Bool)} {C:Addr}:ExcC K n C → PySem.W.kitOne K (.ref C) (.type D) = some b → IsT K D t → IsT K D ((n,b) :: t)
theorem jeB {n m:Str} {b c:Bool} {t:List (Str × Bool)} (h:List.lookup m ((n,b) :: t) = some c):(m = n ∧ c = b) ∨ List.lookup m t = some c:=by
  rw [List.lookup_cons] at h
  split at h
  · rename_i q; cases h; exact .inl ⟨by simpa using q,rfl⟩
  · exact .inr h
theorem IsX.get {K:Fg} {D:Str} {t:List (Str × Bool)} (h:IsX K D t) {n:Str} {b:Bool} (e:t.lookup n = some b):∃ C dC,ExcC K n C ∧ PySem.W.nsIn K mainGlobals D = some (some (.ref dC)) ∧ PySem.W.kitOne K (.ref C) (.ref dC) = some b:=by
  induction h with
  | nil=>cases e
  | cons h1 h2 h3 _ ih=>
    rcases jeB e with ⟨rfl,rfl⟩ | e
    · exact ⟨_,_,h1,h2,h3⟩
    · exact ih e
theorem IsT.get {K:Fg} {D:String} {t:List (Str × Bool)} (h:IsT K D t) {n:Str} {b:Bool} (e:t.lookup n = some b):∃ C,ExcC K n C ∧ PySem.W.kitOne K (.ref C) (.type D) = some b:=by
  induction h with
  | nil=>cases e
  | cons h1 h3 _ ih=>
    rcases jeB e with ⟨rfl,rfl⟩ | e
    · exact ⟨_,h1,h3⟩
    · exact ih e
theorem jjP {t:List (Str × Bool)} {d r:D} (h:jfU t d = some r):∃ n b,d = .dict [(.str "exc",.str n)] ∧ t.lookup n = some b ∧ r = .bool b:=by
  unfold jfU at h
  split at h
  · rename_i k n
    split at h
    · rename_i hk
      subst hk
      unfold jwJ at h
      cases e:List.lookup n t with
      | none=>rw [e] at h; cases h
      | some b=>rw [e] at h; cases h; exact ⟨n,b,rfl,e,rfl⟩
    · cases h
  · cases h
section
variable {X:Cx} {a:Expr} {f:Dv → Option D} {p pos:Pos}
theorem jly {pins:List (Addr × Obj)} {σ:St} {H Z:Hp} {s:Shared} {x:Addr} {n:Str} {C:Addr} {c:Value} {b:Bool} {A:Around} {E:Value → Shared → Prop} {Q:Value → Shared → Prop} (I:Inv X pins σ H s) (zh:Same Z H) (r:Rep X.K Z (.ref x) (.dict [(.str "exc",.str n)])) (F:ExcC X.K n C) (ko:PySem.W.kitOne X.K (.ref C) c = some b)
    (h:∀ tk,Q (.bool b) { s with toks:=tk }):wpAny (model X.prog X.w) A (call (.builtin "isinstance") [.ref x,c]) Q E s:=by
  cases r with
  | opq q=>
    cases q with
    | @exc _ C' h1 h2=>
      have:C' = C:=by have:=h1.symm.trans F.nm; simpa using this
      subst this
      exact PySem.W.kia_one (jql F) I.kIn (I.hok x _ (zh _ _ h2)).1 ko (fun z=>nomatch z) h
theorem jlB {x:Str} {t:List (Str × Bool)} {p2:Pos} (T:IsX X.K x t) (hg:Gl X "isinstance") (hm:X.mg "isinstance" = none) (hgT:Gl X x) (ha:EV X a f) (hdT:(x == ("__debug__":Str)) = false:=by decide)
    (he:starEach (a :: [.Name x p2]) X.env = (false,eval a X.env) :: starEach [.Name x p2] X.env:=by rfl) (he2:starEach ((.Name x p2) :: []) X.env = (false,eval (.Name x p2) X.env) :: starEach [] X.env:=by rfl) (hpl:(backTo pos (starEach [.Name x p2] X.env)).any (·.1) = false:=by rfl) :
    EV X (.Call (.Name "isinstance" p) [a,.Name x p2] [] pos) (o1 f (jfU t)):=by
  intro pins s σ H Q I h
  obtain ⟨H₀,Z₀,Z,δ,d,hh,e,k⟩:=h
  obtain ⟨y,e1,e⟩:=bind_some e
  obtain ⟨n,b,rfl,e2,rfl⟩:=jjP e
  obtain ⟨C,dC,F,hD,ko⟩:=T.get e2
  have hmT:=PySem.W.mg_of I.ok.mod.kin I.ok.mod.glob hD
  have cr:CallR X (.builtin "isinstance") (fun xs H Q=>∃ z Z,xs = [z,.ref dC] ∧ Same Z H ∧ Rep X.K Z z (.dict [(.str "exc",.str n)]) ∧ Q (.bl b) H):=by
    intro pins s σ H xs us Q I rv h
    obtain ⟨z,Z,rfl,zh,r,q⟩:=h
    obtain ⟨u,w',rfl,r1,r2⟩:=jmE rv
    cases (show w' = Value.ref dC from r2)
    cases r with
    | @opq a' _ q'=>
      cases (show u = Value.ref a' from r1)
      exact jly I zh (.opq q') F ko fun tk=>⟨.bl b,H,I.tok _,rfl,q⟩
  exact jfC cr hg hm PyProof.Rows.boot_isinstance (jdh ha (jdh (jnd (v:=.ref dC) hgT hmT rfl hdT) jfD he2) he) (by decide) (by decide) he hpl pins s σ H Q I
    ⟨H₀,Z₀,Z,δ,_,hh,e1,fun v Z1 H1 hh1 s1 r1=>⟨v,Z1,rfl,hh1.zh,r1,k _ Z1 H1 hh1 s1 (.bl b)⟩⟩
theorem jtf {x:Str} {D:String} {t:List (Str × Bool)} {p2:Pos} (T:IsT X.K D t) (hg:Gl X "isinstance") (hm:X.mg "isinstance" = none) (hgT:Gl X x) (hmT:X.mg x = none) (ha:EV X a f) (hvT:bootBuiltins x = some (.type D):=by decide +kernel) (hnT:x ≠ "__name__":=by decide) (hdT:(x == ("__debug__":Str)) = false:=by decide)
    (he:starEach (a :: [.Name x p2]) X.env = (false,eval a X.env) :: starEach [.Name x p2] X.env:=by rfl) (he2:starEach ((.Name x p2) :: []) X.env = (false,eval (.Name x p2) X.env) :: starEach [] X.env:=by rfl) (hpl:(backTo pos (starEach [.Name x p2] X.env)).any (·.1) = false:=by rfl) :
    EV X (.Call (.Name "isinstance" p) [a,.Name x p2] [] pos) (o1 f (jfU t)):=by
  intro pins s σ H Q I h
  obtain ⟨H₀,Z₀,Z,δ,d,hh,e,k⟩:=h
  obtain ⟨y,e1,e⟩:=bind_some e
  obtain ⟨n,b,rfl,e2,rfl⟩:=jjP e
  obtain ⟨C,F,ko⟩:=T.get e2
  have cr:CallR X (.builtin "isinstance") (fun xs H Q=>∃ z Z,xs = [z,.ty D] ∧ Same Z H ∧ Rep X.K Z z (.dict [(.str "exc",.str n)]) ∧ Q (.bl b) H):=by
    intro pins s σ H xs us Q I rv h
    obtain ⟨z,Z,rfl,zh,r,q⟩:=h
    obtain ⟨u,w',rfl,r1,r2⟩:=jmE rv
    cases (show w' = Value.type D from r2)
    cases r with
    | @opq a' _ q'=>
      cases (show u = Value.ref a' from r1)
      exact jly I zh (.opq q') F ko fun tk=>⟨.bl b,H,I.tok _,rfl,q⟩
  exact jfC cr hg hm PyProof.Rows.boot_isinstance (jdh ha (jdh (jne (v:=.ty D) hgT hmT hvT rfl hnT hdT) jfD he2) he) (by decide) (by decide) he hpl pins s σ H Q I
    ⟨H₀,Z₀,Z,δ,_,hh,e1,fun v Z1 H1 hh1 s1 r1=>⟨v,Z1,rfl,hh1.zh,r1,k _ Z1 H1 hh1 s1 (.bl b)⟩⟩
end
end VL
set_option Elab.async false
set_option linter.all false
set_option maxRecDepth 100000
set_option maxHeartbeats 4000000
namespace VL
open PySem PySem.Spec PyProof.Rows L2
inductive Flung (m:Bool) (X:Cx) (n:Str) (Z H:Hp) (s:Shared) (e:Value) (s':Shared):Prop
  | made {x C:Addr} {vs:List Value}:m = true → PySem.W.nsIn X.K mainGlobals n = some (some (.ref C)) → e = .ref x → s' = { s with heap:=s'.heap } → Heap.MadeExcOf s.heap s'.heap x (.ref C) vs → Flung m X n Z H s e s'
  | thrown {x C:Addr} {H' Z':Hp}:PySem.W.nsIn X.K mainGlobals n = some (some (.ref C)) → e = .ref x → Thrown X.prog X.w X.stack H s x C H' s' → New Z H Z' H' → Z' x = some (exO x C) → Flung m X n Z H s e s'
def tVX (m:Bool) (X:Cx) (f:Xf):TS:=fun _ σ H=>∃ H₀ Z₀ Z δ r,Hold X.K H₀ Z₀ Z δ σ H ∧ f δ = some r ∧ ∀ pins σ' H' Z' s e s',Hold X.K H₀ Z₀ Z' r.2 σ' H' → Same Z Z' → Inv X pins σ' H' s → Flung m X r.1 Z' H' s e s' → X.xe e s'
def tEX (m:Bool) (X:Cx) (f:Dv → Option Str):TE:=fun σ H _=>∃ H₀ Z₀ Z δ n,Hold X.K H₀ Z₀ Z δ σ H ∧ f δ = some n ∧ ∀ pins σ' H' Z' s e s',Hold X.K H₀ Z₀ Z' δ σ' H' → Same Z Z' → Inv X pins σ' H' s → Flung m X n Z' H' s e s' → X.xe e s'
def SX (m:Bool) (X:Cx) (st:Stmt) (f:Xf):Prop:=PS X st (tVX m X f)
def BX (m:Bool) (X:Cx) (st:List Stmt) (f:Xf):Prop:=PSs X st (tVX m X f)
def EX (m:Bool) (X:Cx) (e:Expr) (f:Dv → Option Str):Prop:=PE X e (tEX m X f)
section
variable {m:Bool} {X:Cx} {e c:Expr} {es:List Expr} {f:Dv → Option D} {fs:Dv → Option (List D)} {ft:Dv → Option Bool} {fx:Dv → Option Str} {st:Stmt} {sts body orelse:List Stmt} {s1:Sf} {u u1 u2:Xf} {pos p:Pos}
theorem SV.lift (h:SV X.nox st s1):SV X st s1:=fun pins s σ H D I hw=>
  wpAny_mono (h pins s σ H D (I.wish _) hw) (fun _ _ q=>q.unwish) fun _ _ z=>False.elim z
theorem BV.lift (h:BV X.nox sts s1):BV X sts s1:=PSs.nox h
theorem EV.lift (h:EV X.nox e f):EV X e f:=PE.nox h
theorem TV.lift (h:TV X.nox e ft):TV X e ft:=PT.nox h
theorem AV.lift (h:AV X.nox es fs):AV X es fs:=fun pos pins s σ H Q I hw=>
  wpAny_mono (h pos pins s σ H Q (I.wish _) hw) (fun _ _ ⟨vs,H',I',r,q⟩=>⟨vs,H',I'.unwish,r,q⟩) fun _ _ z=>False.elim z
theorem jtq:BX m X sts xNo:=fun _ _ _ _ _ _ ⟨_,_,_,_,_,_,e,_⟩=>nomatch e
theorem juc (h:EX m X e fx):SX m X (.Return (some e) pos) (xE fx):=
  PS.imp (jq4 h) fun D σ H q=>by
    obtain ⟨H₀,Z₀,Z,δ,r,hh,e,k⟩:=q
    obtain ⟨n,e1,e⟩:=bind_some e
    cases e
    exact ⟨H₀,Z₀,Z,δ,n,hh,e1,k⟩
theorem jiw (h:EX m X e fx) (hs:swapsWith e none pos.line X.env = pure false:=by rfl):SX m X (.Expr e pos) (xE fx):=
  PS.imp (jkm h hs) fun D σ H q=>by
    obtain ⟨H₀,Z₀,Z,δ,r,hh,e,k⟩:=q
    obtain ⟨n,e1,e⟩:=bind_some e
    cases e
    exact ⟨H₀,Z₀,Z,δ,n,hh,e1,k⟩
theorem jqU (i:Nat) {x:Str} {pos':Pos} (hN:X.N.Nodup) (he:EX m X e fx) (hi:X.N[i]? = some x:=by rfl) (hx:Loc X.env.scope x:=by first | exact Or.inl rfl | exact Or.inr rfl) (hs:swapsWith e (some (.Name x pos')) pos.line X.env = pure false:=by rfl)
    (hf:X.fn x = true ∨ X.env.scope.names.lookup x = some .local:=by first | exact .inl rfl | exact .inr rfl | assumption):SX m X (.Assign [.Name x pos'] e pos) (xE fx):=
  PS.imp (jll hN hi hx he hs hf) fun D σ H q=>by
    obtain ⟨H₀,Z₀,Z,δ,r,hh,e,k⟩:=q
    obtain ⟨n,e1,e⟩:=bind_some e
    cases e
    exact ⟨H₀,Z₀,Z,δ,n,hh,e1,k⟩
theorem jdj (h:SX m X st u):BX m X (st :: sts) u:=
  PSs.imp (jiJ h (u:=fun _ _ _=>False) fun _ _ _ _ _ _ z=>z.elim) fun D σ H q=>q
theorem jkI (h1:SV X st s1) (h2:BX m X sts u):BX m X (st :: sts) (jt2 s1 u):=
  PSs.imp (jiJ h1 h2) fun D σ H q=>by
    obtain ⟨H₀,Z₀,Z,δ,r,hh,e,k⟩:=q
    obtain ⟨⟨fl,δ'⟩,e1,e⟩:=bind_some e
    cases fl with
    | nx=>exact ⟨H₀,Z₀,Z,δ,(.nx,δ'),hh,e1,fun σ' H' Z' hh' t'=>⟨H₀,Z₀,Z',δ',r,hh',e,fun pins σ2 H2 Z2 s e s' hh2 t2 I fl=>k pins σ2 H2 Z2 s e s' hh2 (t'.trans t2) I fl⟩⟩
    | bk=>cases e
    | ct=>cases e
    | rt d=>cases e
theorem jkJ (h:SX m X st u1) (h1:SV X st s1) (h2:BX m X sts u2):BX m X (st :: sts) (joW u1 s1 u2):=fun pins s σ H D I q=>by
  obtain ⟨H₀,Z₀,Z,δ,r,hh,e,k⟩:=q
  have e:(match u1 δ with | some r=>some r | none=>jt2 s1 u2 δ) = some r:=e
  cases q1:u1 δ with
  | some r1=>rw [q1] at e; cases e; exact jdj h pins s σ H D I ⟨H₀,Z₀,Z,δ,r,hh,q1,k⟩
  | none=>rw [q1] at e; exact jkI h1 h2 pins s σ H D I ⟨H₀,Z₀,Z,δ,r,hh,e,k⟩
theorem jo4 (hc:TV X c ft) (ha:BX m X body u1) (hb:BX m X orelse u2):SX m X (.If c body orelse pos) (xIf ft u1 u2):=
  PS.imp (juE hc ha hb) fun D σ H q=>by
    obtain ⟨H₀,Z₀,Z,δ,r,hh,e,k⟩:=q
    obtain ⟨x,e1,e⟩:=bind_some e
    refine ⟨H₀,Z₀,Z,δ,x,hh,e1,fun Z1 H1 hh1 t1=>?_⟩
    cases x with
    | true=>exact ⟨H₀,Z₀,Z1,δ,r,hh1,e,fun pins σ2 H2 Z2 s e s' hh2 t2 I fl=>k pins σ2 H2 Z2 s e s' hh2 (t1.trans t2) I fl⟩
    | false=>exact ⟨H₀,Z₀,Z1,δ,r,hh1,e,fun pins σ2 H2 Z2 s e s' hh2 t2 I fl=>k pins σ2 H2 Z2 s e s' hh2 (t1.trans t2) I fl⟩
structure ExcX (K:Fg) (n:Str):Prop where
  ex:∃ C,ExcC K n C
theorem jiv {x:Str} {np cpos:Pos} (O:ExcX X.K x) (hg:Gl X x) (hc:X.calm = true) (ha:EV X e f) (hdb:(x == ("__debug__":Str)) = false:=by decide)
    (he:starEach (e :: []) X.env = (false,eval e X.env) :: starEach [] X.env:=by rfl) (hpl:(backTo cpos (starEach [] X.env)).any (·.1) = false:=by rfl) :
    SX true X (.Raise (some (.Call (.Name x np) [e] [] cpos)) none pos) (jk0 x f):=by
  intro pins s σ H D I h
  obtain ⟨H₀,Z₀,Z,δ,r,hh,e0,k⟩:=h
  obtain ⟨d,e1,e0⟩:=bind_some e0
  cases e0
  obtain ⟨C,F⟩:=O.ex
  obtain ⟨mr,ns,nm,qn,bs,hd,sn,sub,ab,col,dd,a0,a1,a2,a3,a5,mN,hC,hN,hni,TL⟩:=jiY I.ok.mod.kin F.ex
  have hm:=PySem.W.mg_of I.ok.mod.kin I.ok.mod.glob F.nm
  refine wpAny_Raise_call_subU (C:=C) (nm:=nm) (q:=qn) (N:=ns) (bs:=bs) (bm:=mr) (hdct:=hd) (sn:=sn) (sub:=sub) (ab:=ab) (col:=col) (dd:=dd) (k0:=a0) (k1:=a1) (k2:=a2) (k3:=a3) (k5:=a5) (bmB:=jwr)
    PySem.F.excBase_ValueError (by decide +kernel) PySem.F.excBase_ValueError (mN:=mN) (TL.hasType (by decide +kernel)) (I.ok.hd hc) (by rw [he]; show (false || (backTo cpos (starEach [] X.env)).any (·.1)) = false; rw [hpl]; rfl) hni (jhp I hg hm ⟨rfl,?_⟩ hdb)
  rw [he]
  have one:wpAny (model X.prog X.w) X.A (spliced (backTo cpos (starEach (e :: []) X.env))) (AP X pins σ fun vs H1=>vs.length = 1 ∧ ∃ Z1,Hold X.K H₀ Z₀ Z1 δ σ H1 ∧ Same Z Z1) X.xe s:=
    (jdh ha jfD he) cpos pins s σ H _ I ⟨H₀,Z₀,Z,δ,d,hh,e1,fun v Z1 H1 hh1 t1 r1=>⟨rfl,Z1,hh1,t1⟩⟩
  rw [he] at one
  refine Calls.evalArgs_plain (wpAny_mono one (fun us s2 z=>?_) fun _ _ y=>y)
  obtain ⟨vs,H1,I1,rv,hl,Z1,hh1,t1⟩:=z
  have lu:us.length = 1:=by rw [← rv.length]; exact hl
  refine ⟨rfl,by show us.length ≤ sizeLine; rw [lu]; decide,I1.bk _ _ hC,hN.keeps I1.bk,TL.keeps I1.bk,fun h' ex hmd=>?_⟩
  exact k pins σ H1 Z1 s2 _ _ hh1 t1 I1 (.made rfl F.nm rfl rfl hmd)
def spX (K:Fg) (g:List D → Option Str):Sp:=fun vs H _ E=>∃ Z as n,Same Z H ∧ Reps K Z vs as ∧ g as = some n ∧ ∀ C x Z' H',PySem.W.nsIn K mainGlobals n = some (some (.ref C)) → New Z H Z' H' → Z' x = some (exO x C) → E (.ref C) (some x) H'
structure CalX (P:Program) (w:World) (K:PySem.W.Frag) (mg:Str → Option Value) (base:Heap) (x:Str) (k:Nat) (g:List D → Option Str) (dd:List D):Prop where
  ex:∃ (fa:Addr) (fd:FuncData) (ps:List Str) (ds:List Value) (dv:List V),FnOk P w K mg base (CXX P w) k fa fd ps (spX K g) ∧ mg x = some (.ref fa) ∧ PySem.W.keepIn K (.ref fa) = true ∧ Binds K fd ps ds ∧ Vals dv ds ∧ ∀ Z,Reps K Z dv dd
theorem jhv {k:Nat} {x:Str} {g:List D → Option Str} (Y:CalX X.prog X.w X.K X.mg X.base x k g []) (hr:Room k X.A) (hg:Gl X x) (ha:AV X (e :: es) fs) (hdb:(x == ("__debug__":Str)) = false:=by decide) (he:starEach (e :: es) X.env = (false,eval e X.env) :: starEach es X.env:=by rfl)
    (hpl:(backTo pos (starEach es X.env)).any (·.1) = false:=by rfl):EX m X (.Call (.Name x p) (e :: es) [] pos) (osX fs g):=by
  obtain ⟨fa,fd,ps,ds,dv,F,hm,hk,hb,hd,hdd⟩:=Y.ex
  intro pins s σ H Q I h
  obtain ⟨H₀,Z₀,Z,δ,n,hh,e0,k⟩:=h
  obtain ⟨as,e1,e0⟩:=bind_some e0
  refine wpAny_Call_Name_kw (jhp I hg hm ?_ hdb)
  refine PySem.W.callWith_K (h₀:=X.base) I.ok.mod.kin hk (thn (ha pos pins s σ H (fun vs H1=>∃ Z1,Hold X.K H₀ Z₀ Z1 δ σ H1 ∧ Same Z Z1 ∧ Reps X.K Z1 vs as) I ⟨H₀,Z₀,Z,δ,as,hh,e1,fun vs Z1 H1 hh1 t1 r1=>⟨Z1,hh1,t1,r1⟩⟩) fun us s1 ⟨vs,H1,I1,r,Z1,hh1,t1,r1⟩=>⟨I1.kIn,?_⟩) he hpl
  have r2:Vals (vs ++ dv) (us ++ ds):=r.append hd
  have sp:spX X.K g (vs ++ dv) H1 Q (fun c ox H2=>∃ C xx Z2,c = .ref C ∧ ox = some xx ∧ PySem.W.nsIn X.K mainGlobals n = some (some (.ref C)) ∧ New Z1 H1 Z2 H2 ∧ Z2 xx = some (exO xx C)):=⟨Z1,as ++ [],n,hh1.zh,r1.append (hdd Z1),by rw [List.append_nil]; exact e0,fun C xx Z2 H2 hC n2 h2=>⟨C,xx,Z2,rfl,rfl,hC,n2,h2⟩⟩
  have hl:(us ++ ds).length = ps.length:=by rw [← r2.length]; exact F.len _ _ _ _ sp
  refine wpAny_call (codeAny_mono (F.run X.A X.stack s1 H1 ⟨us,[]⟩ (us ++ ds) (vs ++ dv) Q _ hr I1.env0 (hb s1 us I1.kIn hl) r2 sp) fun res s' hq=>?_)
  cases res with
  | error ee=>
    obtain ⟨xx,C',H2,rfl,T,C,xx',Z2,hC',hx',hC,n2,h2⟩:=hq
    cases hx'
    cases hC'
    exact k pins σ H1 Z1 s1 _ s' hh1 t1 I1 (.thrown hC rfl T n2 h2)
  | ok fl=>
    cases fl with
    | ret z=>exact I1.after hq
    | next=>exact False.elim hq
    | brk=>exact False.elim hq
    | cont=>exact False.elim hq
end
section
variable {P:Program} {w:World} {K:PySem.W.Frag} {mg:Str → Option Value} {base:Heap}
theorem jvQ {x qual:Str} {st:Stmt} {f:Addr} {fd:FuncData} {dV:Value} {N ps:List Str} {k:Nat} {fx:Xf} (F:FunV K x qual st f fd dV) (S:FnScope N ps (jah st))
    (hb:∀ (cdv:Value) (A:Around) (outer:List Env) (s:Shared) (H:Hp) (E:XK),Room k (A.deeper (envOfC qual (jah st) s.heap.objs.size f cdv)) → BX true (jhX (CXX P w) P w K mg base N qual (jah st) f cdv A outer s H E) (jbQ st) fx) :
    FnOk P w K mg base (CXX P w) (k + 1) f fd ps (spX K (jiI N ps.length fx)):=by
  obtain ⟨oc,od,kV,doc,pm,an,cdv,ct,osl,rfl,lk,hcd⟩:=F.ex
  have some_of:∀ {as:List D} {n:Str},jiI N ps.length fx as = some n → as.length = ps.length ∧ ∃ δ',fx (jan N as) = some (n,δ'):=fun {as n} h=>by
    unfold jiI at h
    split at h
    · rename_i hl
      obtain ⟨⟨n',δ'⟩,e,h⟩:=bind_some h
      cases h
      exact ⟨hl,δ',e⟩
    · cases h
  refine jta lk hcd S (fun vs H Q E h=>?_) fun A outer s H vs Q E hr hsp=>?_
  · obtain ⟨Z,as,n,zh,r,e,_⟩:=h
    rw [r.length]
    exact (some_of e).1
  · refine ⟨_,hb cdv A outer s H E hr,?_⟩
    obtain ⟨Z,as,n,zh,r,e,kk⟩:=hsp
    obtain ⟨_,δ',e2⟩:=some_of e
    have hh:=jie (N:=N) zh r
    refine ⟨H,Z,Z,_,(n,δ'),hh,e2,fun pins σ' H' Z' s1 ee s2 h' z' I fl=>?_⟩
    have nw:New Z H Z' H':=⟨z',h'.h0,h'.zh,h'.zb⟩
    cases fl with
    | @made xx C' vs' _ hC' he hs hmd=>
      subst he
      exact jmh I hs hmd h'.h0 fun hn=>kk C' xx (upd Z' xx (exO xx C')) _ hC' (nw.trans (New.add h'.zh hn _)) jaV
    | @thrown xx C' H2 Z2 hC' he T n2 hx=>
      subst he
      exact jpT I T (kk C' xx Z2 H2 hC' (nw.trans n2) hx) (h'.h0.trans n2.h)
end
end VL
set_option Elab.async false
set_option linter.all false
set_option maxRecDepth 100000
set_option maxHeartbeats 4000000
namespace VL
open PySem PySem.Spec PyProof.Rows L2
theorem jnZ {K:Fg} {n:Str} {M:Model} {A:Around} {E:Value → Shared → Prop} {s:Shared} {x C W:Addr} {o:Obj} {Q:Bool → Shared → Prop} (kin:K.In s.heap) (F:ExcC K n C) (FW:PySem.W.excIn K W jwr "ValueError.__new__" = true) (hs:PySem.W.subIn K (.ref C) (.ref W) = some true)
    (e:s.heap.get? x = some o) (c:o.cls = .ref C) (h:Q true s):wpAny M A (excMatches (.ref x) (.ref W)) Q E s:=by
  obtain ⟨mr,ns,nm,qn,bs,hd,sn,sub,ab,col,dd,a0,a1,a2,a3,a5,mN,hW,hN,hni,TL⟩:=jiY kin FW
  obtain ⟨hh,g,d,t,os⟩:=s
  have cB:(Value.ref W :: mr).contains (.type "BaseException") = true:=by rw [List.contains_cons,TL.hasType (b:=true) (by decide +kernel),Bool.or_true]
  have L:=PySem.W.looks_subIn (M:=M) kin hs
  have L0:=je4 (M:=M) e c
  have nt:=tc_notTuple
  unfold excMatches
  repeat (first | with_reducible refine L0.at ?_ | with_reducible refine L.at ?_ | with_reducible refine wpAny_loadPart_at hW ?_ | (with_reducible refine wpAny_isSubtype_exc hW ?_; rw [cB]) | wp_step)
  exact h
inductive HndL (K:Fg) (W:Addr):List Str → Prop
  | nil:HndL K W []
  | cons {n:Str} {t:List Str} {C:Addr}:ExcC K n C → PySem.W.subIn K (.ref C) (.ref W) = some true → HndL K W t → HndL K W (n :: t)
theorem HndL.get {K:Fg} {W:Addr} {t:List Str} (h:HndL K W t) {n:Str} (e:t.contains n = true):∃ C,ExcC K n C ∧ PySem.W.subIn K (.ref C) (.ref W) = some true:=by
  induction h with
  | nil=>cases e
  | cons h1 h2 _ ih=>
    rw [List.contains_cons,Bool.or_eq_true] at e
    rcases e with e | e
    · have:=eq_of_beq e; subst this; exact ⟨_,h1,h2⟩
    · exact ih e
structure Hnd (K:Fg) (W:Str) (ns:List Str):Prop where
  ex:∃ wC,PySem.W.nsIn K mainGlobals W = some (some (.ref wC)) ∧ PySem.W.excIn K wC jwr "ValueError.__new__" = true ∧ HndL K wC ns
theorem Thrown.move {P:Program} {w:World} {l:List Env} {H H2:Hp} {s s2:Shared} {x C:Addr} (T:Thrown P w l H s x C H2 s2) (hf:∀ b ∈ frs l,∃ o,s.heap.get? b = some o ∧ ∀ vs,o.data ≠ .fields vs) (hn:∀ b ∈ frs l,H b = none) :
    ∃ B t,Heap.FlyingW B l x (.ref C) t s2.heap ∧ ∀ h' t',Heap.FlyingW B l x (.ref C) t' h' → s2.heap.UpToSlots h' → Thrown P w l H s x C H2 { s2 with heap:=h' }:=by
  obtain ⟨B,t,fl,hB1,hB2⟩:=T.fly
  refine ⟨B,t,fl,fun h' t' fl' sm=>?_⟩
  have slot:∀ b o,s.heap.get? b = some o → H b = none → b ∈ frs l → ∃ sl,h'.get? b = some { o with slots:=sl }:=fun b o q n hb=>by
    obtain ⟨sl2,e2⟩:=T.un.slot b o q n hb (fun z=>nomatch z)
    obtain ⟨o',ho',hd⟩:=hf b hb
    rw [q] at ho'; cases ho'
    obtain ⟨sl3,e3⟩:=sm b _ e2 hd
    exact ⟨sl3,e3⟩
  refine ⟨T.os,T.bare,⟨fun b o q n hb _=>fl'.1 b o (hB2 b o q n hb),fun b o q n hb _=>slot b o q n hb,fun b o q n z=>T.un.free b o q n z,fun b o q _=>?_,T.un.tups,T.un.frzs,T.un.tbls⟩,jnT (l:=[]) (t:=t) T.hok T.is fl.1 fl' hB1,T.sm,T.is,⟨B,t',fl',hB1,hB2⟩⟩
  cases q2:H2 b with
  | some ho=>
    by_cases hb:b = x
    · subst hb; obtain ⟨ob,e1,_⟩:=fl'.there; exact ⟨ob,e1⟩
    · obtain ⟨ob,e1⟩:=hB1 b ho q2 hb; exact ⟨ob,fl'.1 b ob e1⟩
  | none=>
    have n:H b = none:=by
      cases e:H b with
      | none=>rfl
      | some z=>rw [T.sm b z e] at q2; cases q2
    by_cases hb:b ∈ frs l
    · obtain ⟨sl,e⟩:=slot b o q n hb; exact ⟨_,e⟩
    · exact ⟨o,fl'.1 b o (hB2 b o q n hb)⟩
section
variable {X:Cx} {pins:List (Addr × Obj)} {σ:St} {H:Hp} {s:Shared}
theorem jv4 {M:Model} {A:Around} {E:Value → Shared → Prop} {i:Nat} {x:Str} {v:V} {Q:Unit → Shared → Prop} (I:Inv X pins σ H s) (hN:X.N.Nodup) (hi:X.N[i]? = some x) (hk:X.env.scope.names.lookup x = some .local) (hv:σ[i]? = some (some v))
    (h:∀ s',Inv X pins (σ.set i none) H s' → Q () s'):wpAny M A (unbindName X.env x) Q E s:=by
  obtain ⟨m,hn,hl⟩:=id I.loc
  have hcls:(X.env.scope.kind == .class || (X.env.scope.kind == .module && X.env.locals != X.env.globals)) = false:=by rw [I.ok.kind]; rfl
  have hiσ:i < σ.length:=by rw [I.len]; exact (List.getElem?_eq_some_iff.mp hi).1
  have cne:=I.cne
  obtain ⟨u,rv,lk⟩:=hl i x v hi hv (.inl hk)
  have hmx:m x = some u:=by
    rcases lk with ⟨_,q⟩ | ⟨q,_⟩
    · exact q
    · rcases q with q | q
      · rw [show X.env.kindOf x = some .local from hk] at q; cases q
      · rw [show X.env.kindOf x = some .local from hk] at q; cases q
  refine wpAny_unbindName_local hk hn hmx hcls fun h' u' hn' hs=>?_
  obtain ⟨oL,_,_,hoL,_⟩:=id hn
  have tracked:HOk X.prog X.w H h':=fun b ob e=>by
    refine (I.hok b ob e).stay (fun c w' hc q=>(hs.2 c ?_).trans q) (fun _ q=>q) fun _ _ q=>q
    rintro rfl
    rcases hc with z | hc
    · rw [← z,I.free] at e; cases e
    · rw [I.free] at hc; cases hc
  refine h _ ⟨I.ok,I.os,I.bare,⟨fun b o e n hb hx=>?_,fun b o e n hb hx=>?_,I.base.free,fun b o e hx=>?_,I.base.tups,I.base.frzs,I.base.tbls⟩,⟨_,hn',fun j y v' e1 e2 e3=>?_⟩,fun y c e=>?_,I.free,I.freeC,fun p hp=>?_,tracked,by simpa using I.len⟩
  · exact (hs.2 b (Nat.ne_of_lt (Nat.lt_of_lt_of_le (Heap.lt_size e) I.ok.above))).trans (I.base.keep b o e n hb hx)
  · obtain ⟨sl,e1⟩:=I.base.slot b o e n hb hx
    exact ⟨sl,(hs.2 b (Nat.ne_of_lt (Nat.lt_of_lt_of_le (Heap.lt_size e) I.ok.above))).trans e1⟩
  · obtain ⟨o',e1⟩:=I.base.there b o e hx
    exact ⟨o',(hs.2 b (Nat.ne_of_lt (Nat.lt_of_lt_of_le (Heap.lt_size e) I.ok.above))).trans e1⟩
  · by_cases hj:j = i
    · subst hj
      rw [List.getElem?_set_self hiσ] at e2
      cases e2
    · rw [List.getElem?_set_ne (Ne.symm hj)] at e2
      obtain ⟨z',r',q⟩:=hl j y v' e1 e2 e3
      refine ⟨z',r',?_⟩
      rcases q with ⟨k,e⟩ | ⟨k,c,e,z⟩
      · refine .inl ⟨k,?_⟩
        have:y ≠ x:=fun e=>hj (jiS hN e1 (e ▸ hi))
        simp [this,e]
      · exact .inr ⟨k,c,e,z.sameBut hs (cne y c e)⟩
  · obtain ⟨w',z⟩:=I.cell y c e
    exact ⟨w',z.sameBut hs (cne y c e)⟩
  · obtain ⟨e,n,ne,nf,d⟩:=I.pin p hp
    exact ⟨(hs.2 p.1 ne).trans e,n,ne,nf,d⟩
theorem jk4 {M:Model} {A:Around} {E:Value → Shared → Prop} {i:Nat} {x:Str} {pos:Pos} {Q:Unit → Shared → Prop} (I:Inv X pins σ H s) (hN:X.N.Nodup) (hi:X.N[i]? = some x) (hk:X.env.scope.names.lookup x = some .local)
    (h:∀ s',Inv X pins (σ.set i none) H s' → Q () s'):wpAny M A (do bindName X.env x .none; unbindBehindTheSuite X.env x pos) Q E s:=by
  have hiσ:i < σ.length:=by rw [I.len]; exact (List.getElem?_eq_some_iff.mp hi).1
  refine wpAny_bind (wpAny_bindName (jgH I hN hi (.inl hk) (v:=.non) (u:=.none) rfl (fun s1 I1=>?_) (.inr hk)))
  unfold unbindBehindTheSuite
  refine wpAny_onRaise ?_
  refine jv4 (v:=.non) I1 hN hi hk (List.getElem?_set_self hiσ) fun s2 I2=>?_
  rw [List.set_set] at I2
  exact h s2 I2
end
theorem Hold.unset {K:Fg} {H₀ Z₀ Z H:Hp} {δ:Dv} {σ:St} (h:Hold K H₀ Z₀ Z δ σ H) (i:Nat):Hold K H₀ Z₀ Z (δ.set i .un) (σ.set i none) H where
  zh:=h.zh
  h0:=h.h0
  z0:=h.z0
  zb:=h.zb
  len:=by simp [h.len]
  fz:=fun j e q=>by
    by_cases hj:i = j
    · subst hj
      have hl:i < δ.length:=by have:=(List.getElem?_eq_some_iff.mp q).1; simpa using this
      rw [List.getElem?_set_self hl] at q
      cases q
    · rw [List.getElem?_set_ne hj] at q
      obtain ⟨u,a,b⟩:=h.fz j e q
      exact ⟨u,by rw [List.getElem?_set_ne hj]; exact a,b⟩
  ow:=fun j es q=>by
    by_cases hj:i = j
    · subst hj
      have hl:i < δ.length:=by have:=(List.getElem?_eq_some_iff.mp q).1; simpa using this
      rw [List.getElem?_set_self hl] at q
      cases q
    · rw [List.getElem?_set_ne hj] at q ⊢
      exact h.ow j es q
  dj:=fun j k ds es a hjk q1 q2=>by
    have f:∀ {m:Nat} {ds:List D},(δ.set i .un)[m]? = some (.ow ds) → i ≠ m ∧ δ[m]? = some (.ow ds):=fun {m ds} q=>by
      by_cases hm:i = m
      · subst hm
        have hl:i < δ.length:=by have:=(List.getElem?_eq_some_iff.mp q).1; simpa using this
        rw [List.getElem?_set_self hl] at q
        cases q
      · rw [List.getElem?_set_ne hm] at q; exact ⟨hm,q⟩
    obtain ⟨a1,b1⟩:=f q1
    obtain ⟨a2,b2⟩:=f q2
    rw [List.getElem?_set_ne a1,List.getElem?_set_ne a2]
    exact h.dj j k ds es a hjk b1 b2
abbrev cxT (X:Cx) (pn:List (Addr × Obj)) (E:Value → Shared → Prop):Cx:={ X with pn:=pn,xe:=E }
abbrev cxH (X:Cx) (x:Addr):Cx:={ X with A:=X.A.mark (some (.ref x)),calm:=false,xe:=fun _ _=>False }
theorem Inv.toT {X:Cx} {pins:List (Addr × Obj)} {σ:St} {H:Hp} {s:Shared} (I:Inv X pins σ H s) (E:Value → Shared → Prop):Inv (cxT X (X.pn ++ pins) E) [] σ H s:=
  ⟨⟨I.ok.mod,I.ok.kind,I.ok.glob,I.ok.blt,I.ok.above,I.ok.inj,I.ok.has,I.ok.cab,I.ok.hd,I.ok.frames,I.ok.stk,I.ok.exf,I.ok.bs,I.ok.bsz,I.ok.noex,I.ok.exfs,I.ok.funs,I.ok.frf⟩,I.os,I.bare,I.base,I.loc,I.cell,I.free,I.freeC,fun p hp=>I.pin p (by simpa using hp),I.hok,I.len⟩
theorem Inv.ofT {X:Cx} {pins pins':List (Addr × Obj)} {σ:St} {H:Hp} {s:Shared} {E:Value → Shared → Prop} (I:Inv (cxT X (X.pn ++ pins) E) pins' σ H s):Inv X pins σ H s:=
  ⟨⟨I.ok.mod,I.ok.kind,I.ok.glob,I.ok.blt,I.ok.above,I.ok.inj,I.ok.has,I.ok.cab,I.ok.hd,I.ok.frames,I.ok.stk,I.ok.exf,I.ok.bs,I.ok.bsz,I.ok.noex,I.ok.exfs,I.ok.funs,I.ok.frf⟩,I.os,I.bare,I.base,I.loc,I.cell,I.free,I.freeC,fun p hp=>I.pin p (List.mem_append_left _ hp),I.hok,I.len⟩
theorem Inv.toH {X:Cx} {pins:List (Addr × Obj)} {σ:St} {H:Hp} {s:Shared} (I:Inv X pins σ H s) (x:Addr):Inv (cxH X x) pins σ H s:=
  ⟨⟨I.ok.mod,I.ok.kind,I.ok.glob,I.ok.blt,I.ok.above,I.ok.inj,I.ok.has,I.ok.cab,(fun z=>(nomatch z)),I.ok.frames,I.ok.stk,I.ok.exf,I.ok.bs,I.ok.bsz,I.ok.noex,I.ok.exfs,I.ok.funs,I.ok.frf⟩,I.os,I.bare,I.base,I.loc,I.cell,I.free,I.freeC,I.pin,I.hok,I.len⟩
theorem Inv.ofH {X:Cx} {pins:List (Addr × Obj)} {σ:St} {H:Hp} {s:Shared} {x:Addr} (hc:X.A.handled = none) (I:Inv (cxH X x) pins σ H s):Inv X pins σ H s:=
  ⟨⟨I.ok.mod,I.ok.kind,I.ok.glob,I.ok.blt,I.ok.above,I.ok.inj,I.ok.has,I.ok.cab,fun _=>hc,I.ok.frames,I.ok.stk,I.ok.exf,I.ok.bs,I.ok.bsz,I.ok.noex,I.ok.exfs,I.ok.funs,I.ok.frf⟩,I.os,I.bare,I.base,I.loc,I.cell,I.free,I.freeC,I.pin,I.hok,I.len⟩
section
variable {X:Cx} {body suite:List Stmt} {b₀:Stmt} {b bs:Sf} {bx:Xf} {np hpos pos:Pos}
theorem jue (i:Nat) {n W:Str} {ns:List Str} (O:Hnd X.K W ns) (hgW:Gl X W) (hN:X.N.Nodup) (hi:X.N[i]? = some n) (hloc:X.env.scope.names.lookup n = some .local) (hcalm:X.calm = true) (hstk:X.stack = X.env :: X.outer)
    (hb:BV X.nox body b) (hx:∀ pn E',BX false (cxT X pn E') body bx) (hs:∀ x,BV (cxH X x) (b₀ :: suite) bs) (hfrm:X.env.frame = some X.env.locals:=by rfl) (hdb:(W == ("__debug__":Str)) = false:=by decide) :
    SV X (.Try body [.ExceptHandler (some (.Name W np)) (some n) (b₀ :: suite) hpos] [] [] pos) (jq1 i ns b bx bs):=by
  intro pins s σ H D I h
  obtain ⟨H₀,Z₀,Z,δ,r,hh,e,k⟩:=h
  unfold jq1 at e
  cases hbx:bx δ with
  | none=>
    rw [hbx] at e
    refine wpAny_Try_except (wpAny_mono (hb pins s σ H D (I.wish _) ⟨H₀,Z₀,Z,δ,r,hh,e,k⟩) (fun f s1 q=>?_) fun _ _ z=>False.elim z)
    have q:=q.unwish
    cases f with
    | next=>exact wpAny_execs_nil q
    | brk=>exact q
    | cont=>exact q
    | ret u=>exact q
  | some pr=>
    obtain ⟨nm,δ'⟩:=pr
    rw [hbx] at e
    dsimp only at e
    split at e
    rotate_left
    · cases e
    rename_i hcn
    obtain ⟨⟨fl,δ2⟩,e2,e⟩:=bind_some e
    cases e
    obtain ⟨wC,hW,FW,L⟩:=O.ex
    obtain ⟨C,F,hsub⟩:=L.get hcn
    have hhd:=I.ok.hd hcalm
    refine wpAny_Try_except (wpAny_mono (hx (X.pn ++ pins) _ [] s σ H ⟨fun _ _=>False,fun _ _=>False,fun _ _=>False,fun _ _=>False⟩ (Inv.toT I _) ⟨H₀,Z₀,Z,δ,(nm,δ'),hh,hbx,?_⟩) (fun f s1 q=>?_) fun _ _ z=>z)
    rotate_left
    · cases f with
      | next=>obtain ⟨_,_,_,q⟩:=q; exact q.elim
      | brk=>obtain ⟨_,_,_,q⟩:=q; exact q.elim
      | cont=>obtain ⟨_,_,_,q⟩:=q; exact q.elim
      | ret u=>obtain ⟨_,_,_,_,_,q⟩:=q; exact q.elim
    intro pins' σ' H' Z' s1 e1 s2 hh' sm I1 fg
    cases fg with
    | made hm _ _ _ _=>cases hm
    | @thrown x C' H2 Z2 hC' he T nw hx2=>
      subst he
      have:C' = C:=by have:=hC'.symm.trans F.nm; simpa using this
      subst this
      have I1:Inv X pins σ' H' s1:=Inv.ofT I1
      have T:Thrown X.prog X.w X.stack H' s1 x C' H2 s2:=T
      have ff:∀ b ∈ frs X.stack,∃ o,s1.heap.get? b = some o ∧ ∀ vs,o.data ≠ .fields vs:=fun b hb=>(I1.stack.mem hb).2
      obtain ⟨B,t,fl0,mv⟩:=T.move ff I1.stkFree
      have fl1:=fl0
      rw [hstk] at fl1
      refine wpAny_looks_onW (by rw [I1.ok.frames,hstk]) hfrm fl1 fun h4 held4 sm4=>?_
      refine wpAny_landsW held4 fun h5 fl5 sm5=>?_
      have fl5':=fl5
      rw [← hstk] at fl5'
      have T5:=mv h5 t fl5' (sm4.trans sm5)
      have I5:Inv X pins σ' H2 { s2 with heap:=h5 }:=I1.call' T5.os T5.un T5.hok T5.bare (fun _ z=>nomatch z)
      have hmW:=PySem.W.mg_of I.ok.mod.kin I.ok.mod.glob hW
      refine wpAny_handleBy_cons (codeAny_handlers_test (jhp (X:=cxH X x) (Inv.toH I5 x) hgW hmW ?_ hdb)) (by intro q; cases q)
      obtain ⟨oe,hoe,hoec⟩:=fl5.there
      refine jnZ I5.kIn F FW hsub hoe hoec (codeAny_handlers_suite_as ?_)
      refine lands_againW fl5 fun h6 fl6 sm6=>?_
      have fl6':=fl6
      rw [← hstk] at fl6'
      have T6:=mv h6 t fl6' ((sm4.trans sm5).trans sm6)
      have I6:Inv X pins σ' H2 { s2 with heap:=h6 }:=I1.call' T6.os T6.un T6.hok T6.bare (fun _ z=>nomatch z)
      refine jgH (X:=cxH X x) (v:=.ref x) (u:=.ref x) (Inv.toH I6 x) hN hi (.inl hloc) rfl (fun s7 I7=>?_) (.inr hloc)
      have hh7:Hold X.K H₀ Z₀ Z2 (δ'.set i (.fz (exD nm))) (σ'.set i (some (.ref x))) H2:=(hh'.new nw).set (.opq (.exc hC' hx2))
      refine wpAny_mono (hs x pins s7 _ H2 ⟨fun σ8 H8=>D.nx (σ8.set i none) H8,D.rt,fun σ8 H8=>D.bk (σ8.set i none) H8,fun σ8 H8=>D.ct (σ8.set i none) H8⟩ I7 ⟨H₀,Z₀,Z2,_,(fl,δ2),hh7,e2,fun σ8 H8 Z8 hh8 t8=>?_⟩) (fun f s8 q=>?_) fun _ _ z=>False.elim z
      · have:=k (σ8.set i none) H8 Z8 (hh8.unset i) ((sm.trans nw.z).trans t8)
        cases fl <;> exact this
      · cases f with
        | next=>
          obtain ⟨σ8,H8,I8,q⟩:=q
          exact jk4 (Inv.ofH hhd I8) hN hi hloc fun s9 I9=>⟨_,H8,I9,q⟩
        | brk=>
          obtain ⟨σ8,H8,I8,q⟩:=q
          exact jk4 (Inv.ofH hhd I8) hN hi hloc fun s9 I9=>⟨_,H8,I9,q⟩
        | cont=>
          obtain ⟨σ8,H8,I8,q⟩:=q
          exact jk4 (Inv.ofH hhd I8) hN hi hloc fun s9 I9=>⟨_,H8,I9,q⟩
        | ret u=>
          obtain ⟨v,σ8,H8,I8,rv,q⟩:=q
          exact jk4 (Inv.ofH hhd I8) hN hi hloc fun s9 I9=>⟨v,_,H8,I9,rv,q⟩
end
end VL
set_option Elab.async false
set_option linter.all false
set_option maxRecDepth 100000
set_option maxHeartbeats 4000000
namespace VL
open PySem PySem.Spec PyProof.Rows L2
def jtX:Sl → Bool
  | .ow _=>true
  | _=>false
@[simp] theorem jyT (d:D):jtX (.fz d) = false:=rfl
@[simp] theorem jyS:jtX .un = false:=rfl
def juk:Nat → Dv → Bool
  | _,[]=>true
  | 0,_ :: r=>r.all fun s=>!jtX s
  | n + 1,s :: r=>!jtX s && juk n r
@[simp] theorem jwt (n:Nat):juk n [] = true:=by cases n <;> rfl
@[simp] theorem jui (s:Sl) (r:Dv):juk 0 (s :: r) = r.all fun s=>!jtX s:=rfl
@[simp] theorem juj (n:Nat) (s:Sl) (r:Dv):juk (n + 1) (s :: r) = (!jtX s && juk n r):=rfl
end VL
set_option Elab.async false
set_option linter.all false
set_option maxRecDepth 100000
set_option maxHeartbeats 4000000
namespace VL
open PySem PySem.Spec PyProof.Rows L2
def jw0:D → D → Option D
  | .list ds,x=>if flD x = true ∧ ds.all flD = true then some (.int ((ds.countP fun y=>PyData.eqv y x:Nat):Int)) else none
  | _,_=>none
def jvO:D → D → Option D
  | .list ds,x=>if flD x = true ∧ ds.all flD = true then (ds.findIdx? fun y=>PyData.eqv y x).map fun j:Nat=>PyData.int (j:Int) else none
  | _,_=>none
@[simp] def jzS (f:Dv → Option D) (u:Dv → Option Str):Dv → Option Str:=fun δ=>(f δ).bind fun _=>u δ
theorem joh {x:V}:∀ {xs:List V} {us:List Value},Vals xs us → xs.all jfa = true → us.countP (eqU x) = xs.countP fun y=>eqV y x
  | _,_,.nil,_=>rfl
  | y :: xs,u :: us,.cons r t,f=>by
    rw [List.all_cons,Bool.and_eq_true] at f
    rw [List.countP_cons,List.countP_cons,jlE r f.1,joh t f.2]
theorem Reps.cntF {K:Fg} {Z:Hp} {x:V} {a:D} (q:Rep K Z x a) (h:flD a = true):∀ {vs:List V} {ds:List D},Reps K Z vs ds → ds.all flD = true → (vs.countP fun y=>eqV y x) = ds.countP fun y=>PyData.eqv y a
  | _,_,.nil,_=>rfl
  | _,_,.cons r t,f=>by
    rw [List.all_cons,Bool.and_eq_true] at f
    rw [List.countP_cons,List.countP_cons,r.eqF q f.1 h,t.cntF q h f.2]
section
variable {X:Cx} {a b:Expr} {f1 f2:Dv → Option D} {pos apos:Pos}
theorem jpQ:MtR X "list.count" (fun x xs H Q=>∃ p ys y,x = .ref p ∧ xs = [y] ∧ SqL X.K H p ys ∧ jfa y = true ∧ ys.all jfa = true ∧ Q (.int ((ys.countP fun z=>eqV z y:Nat):Int)) H):=by
  intro pins s σ H x xs v us Q I rx rs h
  obtain ⟨p,ys,y,rfl,rfl,hq,fy,fs,q⟩:=h
  cases rx
  obtain ⟨u,rfl,ru⟩:=jjm rs
  obtain ⟨its,r,⟨⟨cls,dd,data,sl⟩,n,ho,hc,hd,hdt⟩,hz⟩:=I.list hq
  simp only at hc hd hdt
  subst hc hdt
  refine call_meets F.slot_list_count ⟨_,ho,rfl⟩ F.entry_list_count (F.args_list_count_2 _ _) (SeqAt.list_countAt p its.toArray n dd sl u (eqU y)) ⟨ho,fun w hw=>jfI ru fy r fs w (by simpa using hw),⟨.int _,H,I.tok _,⟨_,rfl⟩,?_⟩⟩
  have e:its.toArray.toList.countP (eqU y) = ys.countP fun z=>eqV z y:=by simpa using joh r fs
  rw [e]
  exact q
theorem jvW (ha:EV X a f1) (hb:EV X b f2) (hbase:attributeBase a "count" X.env (eval a X.env) = eval a X.env:=by rfl)
    (hfew:((backTo pos (starEach (b :: []) X.env)).all (fun x=>!x.1) && (backToKw pos (keywordEach [] X.env)).all (fun x=>x.1.isSome)
      && decide ((b :: []).length + ([]:List Keyword).length + (if ([]:List Keyword).isEmpty then 0 else 1) < 30)) = true:=by rfl)
    (hline:(apos.endLine == pos.line) = true:=by rfl) (hs:starEach (b :: []) X.env = (false,eval b X.env) :: starEach [] X.env:=by rfl) (hplain:(backTo pos (starEach [] X.env)).any (·.1) = false:=by rfl) :
    EV X (.Call (.Attribute a "count" apos) [b] [] pos) (o2 f1 f2 jw0):=
  PE.imp (jsp PySem.F.plainAttrs_list PySem.F.slot_list_count PySem.F.type_list_count jpQ ha (jdh hb jfD hs) hbase hfew hline hs hplain) fun σ H Q h=>by
    obtain ⟨H₀,Z₀,Z,δ,d,hh,e,k⟩:=h
    obtain ⟨x,e1,e⟩:=bind_some e
    obtain ⟨y,e2,e⟩:=bind_some e
    refine ⟨H₀,Z₀,Z,δ,x,hh,e1,fun v Z1 H1 hh1 t1 r1=>?_⟩
    cases r1 with
    | @lst p xs ds h1 q1=>
      refine ⟨.inl ⟨rfl,_,SqL.same h1 hh1.zh⟩,H₀,Z₀,Z1,δ,y,hh1,e2,fun w Z2 H2 hh2 t2 r2=>?_⟩
      have e:(if flD y = true ∧ ds.all flD = true then some (.int ((ds.countP fun z=>PyData.eqv z y:Nat):Int)) else none) = some d:=e
      by_cases c:flD y = true ∧ ds.all flD = true
      · rw [if_pos c] at e
        cases e
        have q2:=q1.same t2
        refine ⟨p,xs,w,rfl,rfl,SqL.same h1 (t2.trans hh2.zh),by rw [r2.flat]; exact c.1,by rw [q2.allF]; exact c.2,?_⟩
        have:=q2.cntF r2 c.1 c.2
        rw [this]
        exact k _ Z2 H2 hh2 (t1.trans t2) (.int _)
      · rw [if_neg c] at e; cases e
    | _=>cases e
theorem jn7 {x:V} {xs:List V} {us:List Value} (r:Vals xs us) (f:xs.all jfa = true) {m:Nat} (h1:m < xs.length) (h2:m < us.length):eqU x us[m] = eqV xs[m] x:=by
  obtain ⟨u,hu,rv⟩:=r.get (i:=m) (x:=xs[m]) (by simp [h1])
  have:us[m] = u:=by rw [List.getElem?_eq_getElem h2] at hu; exact Option.some.inj hu
  rw [this]
  exact jlE rv (List.all_eq_true.mp f _ (List.getElem_mem h1))
theorem jpP:MtR X "list.index" (fun x xs H Q=>∃ p ys y j,x = .ref p ∧ xs = [y] ∧ SqL X.K H p ys ∧ jfa y = true ∧ ys.all jfa = true ∧ (ys.findIdx? fun z=>eqV z y) = some j ∧ Q (.int (j:Nat)) H):=by
  intro pins s σ H x xs v us Q I rx rs h
  obtain ⟨p,ys,y,j,rfl,rfl,hq,fy,fs,hj,q⟩:=h
  cases rx
  obtain ⟨u,rfl,ru⟩:=jjm rs
  obtain ⟨its,r,⟨⟨cls,dd,data,sl⟩,n,ho,hc,hd,hdt⟩,hz⟩:=I.list hq
  simp only at hc hd hdt
  subst hc hdt
  obtain ⟨h1,h2,h3⟩:=List.findIdx?_eq_some_iff_getElem.mp hj
  have hl:ys.length = its.length:=r.length
  have h1':j < its.toArray.size:=by rw [List.size_toArray]; omega
  have hz':ys.length ≤ 16777216:=hz
  refine call_meets F.slot_list_index ⟨_,ho,rfl⟩ F.entry_list_index (F.args_list_index_2 _ _) (SeqAt.list_indexAt p its.toArray n dd sl u (eqU y) j h1' (by omega) ?_ (fun m hm hmj=>?_)) ⟨ho,fun w hw=>jfI ru fy r fs w (by simpa using hw),⟨.int _,H,I.tok _,⟨_,rfl⟩,q⟩⟩
  · have:=jn7 (x:=y) r fs h1 (by omega)
    simpa [this] using h2
  · have hm':m < ys.length:=by omega
    have:=jn7 (x:=y) r fs hm' (by omega)
    have h4:=h3 m hmj
    simp only [Bool.not_eq_true] at h4
    simpa [this] using h4
theorem Reps.idxF {K:Fg} {Z:Hp} {x:V} {a:D} (q:Rep K Z x a) (h:flD a = true):∀ {vs:List V} {ds:List D},Reps K Z vs ds → ds.all flD = true → (vs.findIdx? fun y=>eqV y x) = ds.findIdx? fun y=>PyData.eqv y a
  | _,_,.nil,_=>rfl
  | _,_,.cons r t,f=>by
    rw [List.all_cons,Bool.and_eq_true] at f
    rw [List.findIdx?_cons,List.findIdx?_cons,r.eqF q f.1 h,t.idxF q h f.2]
theorem jvU (ha:EV X a f1) (hb:EV X b f2) (hbase:attributeBase a "index" X.env (eval a X.env) = eval a X.env:=by rfl)
    (hfew:((backTo pos (starEach (b :: []) X.env)).all (fun x=>!x.1) && (backToKw pos (keywordEach [] X.env)).all (fun x=>x.1.isSome)
      && decide ((b :: []).length + ([]:List Keyword).length + (if ([]:List Keyword).isEmpty then 0 else 1) < 30)) = true:=by rfl)
    (hline:(apos.endLine == pos.line) = true:=by rfl) (hs:starEach (b :: []) X.env = (false,eval b X.env) :: starEach [] X.env:=by rfl) (hplain:(backTo pos (starEach [] X.env)).any (·.1) = false:=by rfl) :
    EV X (.Call (.Attribute a "index" apos) [b] [] pos) (o2 f1 f2 jvO):=
  PE.imp (jsp PySem.F.plainAttrs_list PySem.F.slot_list_index PySem.F.type_list_index jpP ha (jdh hb jfD hs) hbase hfew hline hs hplain) fun σ H Q h=>by
    obtain ⟨H₀,Z₀,Z,δ,d,hh,e,k⟩:=h
    obtain ⟨x,e1,e⟩:=bind_some e
    obtain ⟨y,e2,e⟩:=bind_some e
    refine ⟨H₀,Z₀,Z,δ,x,hh,e1,fun v Z1 H1 hh1 t1 r1=>?_⟩
    cases r1 with
    | @lst p xs ds h1 q1=>
      refine ⟨.inl ⟨rfl,_,SqL.same h1 hh1.zh⟩,H₀,Z₀,Z1,δ,y,hh1,e2,fun w Z2 H2 hh2 t2 r2=>?_⟩
      have e:(if flD y = true ∧ ds.all flD = true then (ds.findIdx? fun z=>PyData.eqv z y).map fun j:Nat=>PyData.int (j:Int) else none) = some d:=e
      by_cases c:flD y = true ∧ ds.all flD = true
      · rw [if_pos c] at e
        obtain ⟨j,hj,rfl⟩:=Option.map_eq_some_iff.mp e
        have q2:=q1.same t2
        refine ⟨p,xs,w,j,rfl,rfl,SqL.same h1 (t2.trans hh2.zh),by rw [r2.flat]; exact c.1,by rw [q2.allF]; exact c.2,?_,?_⟩
        · rw [q2.idxF r2 c.1 c.2]; exact hj
        · exact k _ Z2 H2 hh2 (t1.trans t2) (.int _)
      · rw [if_neg c] at e; cases e
    | _=>cases e
variable {m:Bool} {e:Expr} {es:List Expr} {f:Dv → Option D} {fx:Dv → Option Str} {x1:Nat}
end
end VL
set_option Elab.async false
set_option linter.all false
set_option maxRecDepth 100000
set_option maxHeartbeats 4000000
namespace VL
open PySem PySem.Spec PyProof.Rows L2
@[simp] def jAo (i:Nat) (f:Dv → Option D):Sf:=fun δ=>(f δ).bind fun v=>(jtN v).bind fun es=>(slO δ[i]?).bind fun ds=>if ds.length + es.length ≤ sizeLine then some (.nx,δ.set i (.ow (ds ++ es))) else none
structure CalF (P:Program) (w:World) (K:PySem.W.Frag) (mg:Str → Option Value) (base:Heap) (x:Str) (k:Nat) (g:List D → Option D):Prop where
  ex:∃ (fa:Addr) (fd:FuncData) (ps:List Str),FnOk P w K mg base CX0 k fa fd ps (spD K g) ∧ PySem.W.nsIn K mainGlobals x = some (some (.ref fa)) ∧ mg x = some (.ref fa) ∧ PySem.W.keepIn K (.ref fa) = true ∧ Binds K fd ps []
structure Fnm (K:PySem.W.Frag) (mg:Str → Option Value) (x:Str):Prop where
  ex:∃ fa,PySem.W.nsIn K mainGlobals x = some (some (.ref fa)) ∧ mg x = some (.ref fa)
section
variable {X:Cx} {e:Expr} {es:List Expr} {p pos:Pos} {fs:Dv → Option (List D)}
end
section
variable {X:Cx}
end
section
variable {X:Cx} {e:Expr} {f:Dv → Option D} {p pos apos:Pos}
end
theorem BlkOk.none {on:List (Str × NameKind)} {ON:List Str} {scope:Scope} {vars:List Str} (hk:scope.kind = .function) (hc:∀ y ∈ scope.names,y.2 ≠ .cell) (hn:∀ y ∈ scope.names,y.2 = .local → scope.names.lookup y.1 = some .local) (hf:∀ y ∈ scope.names,y.2 ≠ .free):BlkOk on ON scope vars []:=
  ⟨hk,hc,hn,fun y hy e=>absurd e (hf y hy),fun p hp=>(nomatch hp)⟩
end VL
set_option Elab.async false
set_option linter.all false
set_option maxRecDepth 100000
set_option maxHeartbeats 4000000
namespace VL
open PySem PySem.Spec PyProof.Rows L2
def jpO:D → D → Option D
  | .list xs,.int k=>if -(2 ^ 63) ≤ k ∧ k < 2 ^ 63 ∧ xs.length * k.toNat ≤ 16777216 then some (.list (List.replicate k.toNat xs).flatten) else none
  | _,_=>none
theorem jsI {xs:List D} {k:Int} (h1:-9223372036854775808 ≤ k) (h2:k < 9223372036854775808) (h3:xs.length * k.toNat ≤ 16777216):jpO (.list xs) (.int k) = some (.list (List.replicate k.toNat xs).flatten):=if_pos ⟨h1,h2,h3⟩
theorem Reps.rep {K:Fg} {Z:Hp} {xs:List V} {us:List D} (h:Reps K Z xs us):∀ k:Nat,Reps K Z (List.replicate k xs).flatten (List.replicate k us).flatten
  | 0=>.nil
  | k + 1=>by
    rw [List.replicate_succ,List.replicate_succ,List.flatten_cons,List.flatten_cons]
    exact h.append (Reps.rep h k)
theorem jAI (l:Addr) (items:Array Value) (n:Nat) (sl:Array (Option Value)) (x:Int) (u:Tok) (hc0:¬(!Builtin.List.listFitsIndex x) = true) (hc1:¬items.size * x.toNat > (2 ^ 63 - 1) / 8) (hc2:¬Builtin.List.listTooLong (items.size * x.toNat) = true) :
    Meets (Builtin.«list.__mul__» ⟨[.ref l,.int x u],[]⟩) (fun _ R s=>s.heap.get? l = some { cls:=.type "list",dict:=none,data:=.seq items n,slots:=sl } ∧ R (.ok (.ret (Value.ref s.heap.objs.size))) { s with heap:=s.heap.push { cls:=Value.type "list",data:=Data.seq (List.foldl (fun x1 x2=>x1 ++ x2) #[] (List.replicate (if items.isEmpty = true then 0 else x.toNat) items)) },toks:=s.toks }):=
  .of_wp fun prog w A R s h=>by
    obtain ⟨hp,g,d,tk,os⟩:=s; obtain ⟨hl,h⟩:=h
    have hsz:=AutoListH.joined_fits hc2
    wp_walk; refine wpAny_ite_false (decide_eq_false (Nat.not_lt.mpr hsz)) ?_; wp_walk; exact ⟨_,rfl,h⟩
theorem jxU (a:Int) (t:Tok) (l:Addr) (items:Array Value) (n:Nat) (sl:Array (Option Value)) :
    Meets (Builtin.«int.__rmul__» ⟨[.int a t,.ref l],[]⟩) (fun _ R s=>s.heap.get? l = some { cls:=.type "list",dict:=none,data:=.seq items n,slots:=sl } ∧ R (.ok (.ret Value.notImplemented)) s):=
  .of_wp fun prog w A R s h=>by obtain ⟨hp,g,d,tk,os⟩:=s; obtain ⟨hl,h⟩:=h; wp_walk; exact ⟨_,rfl,h⟩
section
variable {X:Cx}
def rO (K:Fg) (g:D → D → Option D):R2:=fun x y H Q=>∃ Z a b ds,Same Z H ∧ Rep K Z x a ∧ Rep K Z y b ∧ g a b = some (.list ds) ∧ ∀ p vs,H p = none → Reps K Z vs ds → Q (.ref p) (upd H p (.lst vs))
theorem jsH {a b:D} {es:List D} (h:jpO a b = some (.list es)):∃ ds k,a = .list ds ∧ b = .int k ∧ (-(2 ^ 63) ≤ k ∧ k < 2 ^ 63 ∧ ds.length * k.toNat ≤ 16777216) ∧ (List.replicate k.toNat ds).flatten = es:=by
  cases a with
  | list xs=>
    cases b with
    | int i=>obtain ⟨p,q⟩:=jgR h; exact ⟨_,_,rfl,rfl,p,PyData.list.inj q⟩
    | _=>cases h
  | _=>cases h
theorem jv5:OpR X (binaryOp .Mult) (rO X.K jpO):=by
  intro pins s σ H x y v u Q I rx ry q
  obtain ⟨Z,a,b,d,zh,ra,rb,e,kk⟩:=q
  obtain ⟨ds,k,rfl,rfl,hl,rfl⟩:=jsH e
  obtain ⟨a,xs,rfl,h1,q1⟩:=ra.lst_ex
  cases rb.int_eq
  obtain ⟨h63,h63',hz⟩:=hl
  cases rx
  obtain ⟨t,rfl⟩:=ry
  obtain ⟨its,r1,p1,z1⟩:=I.list (SqL.same h1 zh)
  obtain ⟨⟨cls,dd,data,sl⟩,n1,ho,hc,hdd,hd⟩:=p1
  simp only at hc hd hdd
  subst hc hd hdd
  have hl1:=r1.length
  have ql1:=q1.length
  have hlen:its.toArray.size * k.toNat ≤ sizeLine:=by rw [List.size_toArray,← hl1,ql1]; exact hz
  have hcap:¬ its.toArray.size * k.toNat > (2 ^ 63 - 1) / 8:=by
    have:(sizeLine:Nat) ≤ (2 ^ 63 - 1) / 8:=by decide
    omega
  have hfit:¬ (!Builtin.List.listFitsIndex k) = true:=by
    rw [fitsIndex_both h63 h63']
    exact Bool.false_ne_true
  have hlong:¬ Builtin.List.listTooLong (its.toArray.size * k.toNat) = true:=by
    rw [jpE hlen]
    exact Bool.false_ne_true
  have hnew:List.foldl (fun x1 x2=>x1 ++ x2) #[] (List.replicate (if its.toArray.isEmpty = true then 0 else k.toNat) its.toArray) = (List.replicate k.toNat its).flatten.toArray:=by
    have f0:∀ m:Nat,List.foldl (fun x1 x2=>x1 ++ x2) #[] (List.replicate m its.toArray) = (List.replicate m its).flatten.toArray:=fun m=>by
      have:=jjU its m []
      rw [List.nil_append] at this
      exact this
    rw [f0]
    cases its with
    | nil=>simp
    | cons a r'=>rw [if_neg (by simp)]
  refine wpAny_binaryOp_repeat_ref (T:="list") (U:="int") (by decide) ⟨_,ho,rfl⟩ (fun s'=>typeIs_int s' k t) noFill_list_mul F.fills_int_mul F.slot_int_rmul repeat_list F.slot_int_index.lookup
    (call_meets F.slot_int_rmul (typeIs_int s k t) F.entry_int_rmul (F.args_int_rmul_2 _ _) (jxU k t a its.toArray n1 sl)
      ⟨ho,rfl,⟨_,ho,rfl⟩,call_meets F.slot_list_mul ⟨_,ho,rfl⟩ F.entry_list_mul (F.args_list_mul_2 _ _) (jAI a its.toArray n1 sl k t hfit hcap hlong) ⟨ho,?_⟩⟩)
  rw [hnew]
  exact ⟨.ref _,_,I.lnew (t':=s.toks) (r1.rep k.toNat) (by rw [jsP,Nat.mul_comm,ql1]; exact hz),rfl,kk _ _ I.fresh (Reps.rep q1 k.toNat)⟩
theorem jpN {a b d:D} (h:jpO a b = some d):∃ ds,d = .list ds:=by
  unfold jpO at h
  split at h
  · split at h
    · cases h; exact ⟨_,rfl⟩
    · cases h
  · cases h
variable {a b:Expr} {pos:Pos} {f1 f2:Dv → Option D}
theorem jv1 (ha:EV X a f1) (hb:EV X b f2):EO X (.BinOp a .Mult b pos) (oLi (o2 f1 f2 jpO)):=
  PE.imp (juL jv5 ha hb) fun σ H Q h=>by
    obtain ⟨H₀,Z₀,Z,δ,ds,hh,e,k⟩:=h
    obtain ⟨d,e,e3⟩:=bind_some e
    obtain ⟨x,e1,e⟩:=bind_some e
    obtain ⟨y,e2,e⟩:=bind_some e
    obtain ⟨es,rfl⟩:=jpN e
    cases e3
    exact ⟨H₀,Z₀,Z,δ,x,hh,e1,fun v Z1 H1 hh1 s1 r1=>⟨H₀,Z₀,Z1,δ,y,hh1,e2,fun u Z2 H2 hh2 s2 r2=>⟨Z2,x,y,_,hh2.zh,r1.same s2,r2,e,fun p vs hp r=>k p vs Z2 H2 hh2 (s1.trans s2) hp r⟩⟩⟩
end
end VL
set_option Elab.async false
set_option linter.all false
set_option maxRecDepth 100000
set_option maxHeartbeats 4000000
namespace VL
open PySem PySem.Spec PyProof.Rows L2
structure BlkOkC (on:List (Str × NameKind)) (ON:List Str) (scope:Scope) (m:Str) (vars:List Str) (caps:List (Nat × Str)):Prop where
  kind:scope.kind = .function
  one:(scope.names.filter fun y=>y.2 == NameKind.cell) = [(m,NameKind.cell)]
  names:∀ y ∈ scope.names,y.2 = .local → scope.names.lookup y.1 = some .local
  free:∀ y ∈ scope.names,y.2 = .free → on.lookup y.1 = some .cell ∨ on.lookup y.1 = some .free
  cap:∀ p ∈ caps,ON[p.1]? = some p.2 ∧ scope.names.lookup p.2 = some .free
  mc:scope.names.lookup m = some .cell
section
variable {X:Cx} {pins:List (Addr × Obj)} {σ:St} {H H':Hp} {s s':Shared} {scope:Scope} {m:Str} {vars:List Str} {caps:List (Nat × Str)} {fp:List Addr} {C:Addr}
theorem BlkOkC.cells (B:BlkOkC X.env.scope.names X.N scope m vars caps) (I:Inv X pins σ H s):∀ y ∈ scope.names,y.2 = .free → ∃ c,X.env.cells.lookup y.1 = some c:=fun y hy e=>I.ok.has y.1 (B.free y hy e)
end
section
variable {X:Cx} {scope:Scope} {m:Str} {vars:List Str} {caps:List (Nat × Str)} {elt tg iter:Expr} {pos:Pos} {wi:TI} {g:TG} {te:TE}
end
section
variable {X:Cx} {scope:Scope} {m:Str} {vars:List Str} {caps:List (Nat × Str)} {elt tg iter:Expr} {pos:Pos} {g:TG} {fi:Dv → Option (List D)} {fe:Dv → Option D} {bv:D → Option (List D)}
end
end VL
set_option Elab.async false
set_option linter.all false
set_option maxRecDepth 100000
set_option maxHeartbeats 4000000
namespace VL
open PySem PySem.Spec PyProof.Rows L2
def spO (K:Fg) (g:List D → Option D):Sp:=fun vs H Q _=>∃ Z as ds,Same Z H ∧ Reps K Z vs as ∧ g as = some (.list ds) ∧ ∀ p us Z' H',New Z H Z' H' → H' p = none → Reps K Z' us ds → Q (.ref p) (upd H' p (.lst us))
section
variable {X:Cx} {e:Expr} {es:List Expr} {p pos:Pos} {st:Stmt} {sts:List Stmt} {f:Dv → Option (List D)} {fs:Dv → Option (List D)} {s:Sf}
end
section
variable {P:Program} {w:World} {K:PySem.W.Frag} {mg:Str → Option Value} {base:Heap}
structure CalO (P:Program) (w:World) (K:PySem.W.Frag) (mg:Str → Option Value) (base:Heap) (x:Str) (k:Nat) (g:List D → Option D) (dd:List D):Prop where
  ex:∃ (fa:Addr) (fd:FuncData) (ps:List Str) (ds:List Value) (dv:List V),FnOk P w K mg base CX0 k fa fd ps (spO K g) ∧ mg x = some (.ref fa) ∧ PySem.W.keepIn K (.ref fa) = true ∧ Binds K fd ps ds ∧ Vals dv ds ∧ ∀ Z,Reps K Z dv dd
end
section
variable {X:Cx} {e:Expr} {es:List Expr} {p pos:Pos} {fs:Dv → Option (List D)}
end
section
variable {X:Cx} {scope:Scope} {m:Str} {vars:List Str} {caps:List (Nat × Str)} {elt tg iter:Expr} {pos:Pos} {g:TG} {fi:Dv → Option (List D)} {fe:Dv → Option D} {bv:D → Option (List D)}
end
theorem jrd {α:Type}:∀ {us:List α},us.length = 1 → ∃ a,us = [a]
  | [a],_=>⟨a,rfl⟩
theorem jgi {α:Type} {us:List α} (h:us.length = 2):∃ a b,us = [a,b]:=by
  cases us with
  | nil=>cases h
  | cons a r=>
    obtain ⟨b,rfl⟩:=jrd (Nat.succ.inj h)
    exact ⟨a,b,rfl⟩
theorem joK {α:Type} {us:List α} (h:us.length = 3):∃ a b c,us = [a,b,c]:=by
  cases us with
  | nil=>cases h
  | cons a r=>
    obtain ⟨b,c,rfl⟩:=jgi (Nat.succ.inj h)
    exact ⟨a,b,c,rfl⟩
theorem jyJ {α:Type} {us:List α} (h:us.length = 4):∃ a b c d,us = [a,b,c,d]:=by
  cases us with
  | nil=>cases h
  | cons a r=>
    obtain ⟨b,c,d,rfl⟩:=joK (Nat.succ.inj h)
    exact ⟨a,b,c,d,rfl⟩
theorem jyI {α:Type} {us:List α} (h:us.length = 5):∃ a b c d e,us = [a,b,c,d,e]:=by
  cases us with
  | nil=>cases h
  | cons a r=>
    obtain ⟨b,c,d,e,rfl⟩:=jyJ (Nat.succ.inj h)
    exact ⟨a,b,c,d,e,rfl⟩
end VL
set_option Elab.async false
set_option linter.all false
set_option maxRecDepth 100000
set_option maxHeartbeats 4000000
namespace VL
open PySem PySem.Spec PyProof.Rows L2
section
variable {X:Cx} {e:Expr} {es:List Expr} {p p' pos:Pos} {st:Stmt} {sts body:List Stmt} {f f1 f2:Dv → Option (List D)} {s:Sf} {c:Expr} {ft:Dv → Option Bool}
end
theorem SV.sub {X:Cx} {st:Stmt} {f f':Sf} (h:SV X st f) (w:∀ δ r,f' δ = some r → f δ = some r):SV X st f':=PS.imp h fun D σ H q=>by
  obtain ⟨H₀,Z₀,Z,δ,r,hh,e,k⟩:=q
  exact ⟨H₀,Z₀,Z,δ,r,hh,w _ _ e,k⟩
end VL
set_option Elab.async false
set_option linter.all false
set_option maxRecDepth 100000
set_option maxHeartbeats 4000000
namespace VL
open PySem PySem.Spec PyProof.Rows L2
def jzz:List Int → Option Int
  | []=>none
  | b :: bs=>some (bs.foldl (fun m x=>if x > m then x else m) b)
def jsK:List D → Option D
  | [.list xs]=>(jjQ xs).bind fun bs=>(jzz bs).map .int
  | [.tuple xs]=>(jjQ xs).bind fun bs=>(jzz bs).map .int
  | _=>none
theorem jk6 {M:Int}:∀ (bs:List Int) (b:Int),(M = b ∨ M ∈ bs) → b ≤ M → (∀ a ∈ bs,a ≤ M) → bs.foldl (fun m x=>if x > m then x else m) b = M
  | [],b,h,hb,_=>by
    rcases h with h | h
    · exact h.symm
    · cases h
  | c :: bs,b,h,hb,hl=>by
    have hc:=hl c List.mem_cons_self
    have hr:=fun a ha=>hl a (List.mem_cons_of_mem _ ha)
    show bs.foldl _ (if c > b then c else b) = M
    by_cases q:c > b
    · rw [if_pos q]
      refine jk6 bs c ?_ hc hr
      rcases h with h | h
      · exact .inl (by omega)
      · rcases List.mem_cons.mp h with h | h
        · exact .inl h
        · exact .inr h
    · rw [if_neg q]
      refine jk6 bs b ?_ hb hr
      rcases h with h | h
      · exact .inl h
      · rcases List.mem_cons.mp h with h | h
        · exact .inl (by omega)
        · exact .inr h
theorem jme {prog:Program} {w:World} {A:Around} {E:Value → Shared → Prop} {s:Shared} {l:Addr} {xs:Array (Int × Tok)} {Q:Value → Shared → Prop} (hh:A.handled = none) (hl:s.heap.IsTuple l (intItems xs)) (hne:0 < xs.size)
    (h:∀ v h' tk,(intItems xs)[argBest (fun i j=>decide (numAt xs i > numAt xs j)) (xs.size - 1)]? = some v → (∀ b o,s.heap.get? b = some o → h'.get? b = some o) → Q v { s with heap:=h',toks:=tk }):wpAny (model prog w) A (call (.builtin "max") [.ref l]) Q E s:=by
  have hlt:l < s.heap.objs.size:=by obtain ⟨_,e,_⟩:=hl; exact Heap.lt_size e
  refine call_max_walk (wpAny_pyIter_tuple hl ?_)
  refine ⟨_,[s.heap.objs.size,l],[s.heap.objs.size],_,_,_,_,rfl,Walks.tuple (A:=A.in1) hh _ l (Nat.ne_of_lt hlt) (intItems xs),⟨⟨_,Heap.get?_push_size _ rfl,rfl,rfl⟩,hl.push _⟩,fun b hb=>?_,by simpa [intItems] using hne,CmpOf.ints_gt (numAt xs) (fun _ _=>intItems_at),fun v h' tk hP hk=>?_⟩
  · show b < (s.heap.push _).objs.size
    rw [Heap.size_push]
    rcases List.mem_cons.mp hb with rfl | hb
    · exact Nat.lt_succ_self _
    · rcases List.mem_cons.mp hb with rfl | hb
      · exact Nat.lt_succ_of_lt hlt
      · cases hb
  · refine h v h' tk (by simpa [intItems] using hP) fun b o e=>hk b o (fun hm=>?_) (Heap.get?_push_of_some _ e)
    rcases List.mem_cons.mp hm with e1 | hm
    · exact absurd (e1 ▸ Heap.lt_size e) (Nat.lt_irrefl _)
    · cases hm
section
variable {X:Cx}
theorem jv8 (hc:X.calm = true):CallR X (.builtin "max") (rDs X.K jsK):=by
  intro pins s σ H xs us Q I rs q
  obtain ⟨Z,as,d,zh,ra,e,k⟩:=q
  cases ra with
  | nil=>cases e
  | cons r1 r2=>
    cases r2 with
    | cons _ _=>cases r1 <;> cases e
    | nil=>
      cases r1 with
      | @lst l ys ds h1 q1=>
        obtain ⟨bs,g,e⟩:=bind_some (show (jjQ ds).bind _ = some d from e)
        cases bs with
        | nil=>cases e
        | cons b bs=>
          cases e
          obtain ⟨u,rfl,ru⟩:=jjm rs
          cases ru
          obtain ⟨its,rv,pl,hz⟩:=I.list (SqL.same h1 zh)
          have hi:=jiV q1 rv g
          obtain ⟨zs,hx⟩:=hi.allInts.items
          have hl':s.heap.IsList l (intItems zs):=hx ▸ pl.isList
          have e1:b :: bs = zs.toList.map (·.1):=by
            rw [← nums_intItems,← hx]
            exact (show numsOf its.toArray.toList = b :: bs from hi.numsOf).symm
          have hsz:0 < zs.size:=by
            have q:bs.length + 1 = zs.toList.length:=by
              have q:=congrArg List.length e1
              rw [List.length_map] at q
              exact q
            have z:zs.toList.length = zs.size:=Array.length_toList
            omega
          refine max_intList (I.ok.hd hc) hl' hsz fun v h' tk hv hk=>?_
          obtain ⟨t,rfl⟩:=intItems_at hv
          obtain ⟨m1,m2⟩:=argBest_gt (numAt zs) (zs.size - 1)
          have hM:numAt zs (argBest (fun i j=>decide (numAt zs i > numAt zs j)) (zs.size - 1)) ∈ b :: bs:=by
            rw [e1,numAt_eq]; exact getD_mem (by rw [List.length_map,Array.length_toList]; omega)
          have hA:∀ a ∈ b :: bs,a ≤ numAt zs (argBest (fun i j=>decide (numAt zs i > numAt zs j)) (zs.size - 1)):=fun a ha=>by
            rw [e1] at ha
            obtain ⟨j,hj,rfl⟩:=mem_getD ha
            rw [List.length_map,Array.length_toList] at hj
            rw [← numAt_eq]; exact m2 j (by omega)
          have:=jk6 bs b (List.mem_cons.mp hM) (hA b List.mem_cons_self) fun a ha=>hA a (List.mem_cons_of_mem _ ha)
          exact ⟨.int _,H,I.kept (t':=tk) hk,⟨t,rfl⟩,k _ Z H (New.refl zh) (by rw [this]; exact .int _)⟩
      | @tup l ys ds h1 q1=>
        obtain ⟨bs,g,e⟩:=bind_some (show (jjQ ds).bind _ = some d from e)
        cases bs with
        | nil=>cases e
        | cons b bs=>
          cases e
          obtain ⟨u,rfl,ru⟩:=jjm rs
          cases ru
          obtain ⟨its,rv,pl,hz⟩:=I.tuple (SqT.same h1 zh)
          have hi:=jiV q1 rv g
          obtain ⟨zs,hx⟩:=hi.allInts.items
          have hl':s.heap.IsTuple l (intItems zs):=hx ▸ pl
          have e1:b :: bs = zs.toList.map (·.1):=by
            rw [← nums_intItems,← hx]
            exact (show numsOf its.toArray.toList = b :: bs from hi.numsOf).symm
          have hsz:0 < zs.size:=by
            have q:bs.length + 1 = zs.toList.length:=by
              have q:=congrArg List.length e1
              rw [List.length_map] at q
              exact q
            have z:zs.toList.length = zs.size:=Array.length_toList
            omega
          refine jme (I.ok.hd hc) hl' hsz fun v h' tk hv hk=>?_
          obtain ⟨t,rfl⟩:=intItems_at hv
          obtain ⟨m1,m2⟩:=argBest_gt (numAt zs) (zs.size - 1)
          have hM:numAt zs (argBest (fun i j=>decide (numAt zs i > numAt zs j)) (zs.size - 1)) ∈ b :: bs:=by
            rw [e1,numAt_eq]; exact getD_mem (by rw [List.length_map,Array.length_toList]; omega)
          have hA:∀ a ∈ b :: bs,a ≤ numAt zs (argBest (fun i j=>decide (numAt zs i > numAt zs j)) (zs.size - 1)):=fun a ha=>by
            rw [e1] at ha
            obtain ⟨j,hj,rfl⟩:=mem_getD ha
            rw [List.length_map,Array.length_toList] at hj
            rw [← numAt_eq]; exact m2 j (by omega)
          have:=jk6 bs b (List.mem_cons.mp hM) (hA b List.mem_cons_self) fun a ha=>hA a (List.mem_cons_of_mem _ ha)
          exact ⟨.int _,H,I.kept (t':=tk) hk,⟨t,rfl⟩,k _ Z H (New.refl zh) (by rw [this]; exact .int _)⟩
      | _=>cases e
end
end VL
set_option Elab.async false
set_option linter.all false
set_option maxRecDepth 100000
set_option maxHeartbeats 4000000
namespace VL
open PySem PySem.Spec PyProof.Rows L2
def DefIn (K:PySem.W.Frag) (x y:Str) (st:Stmt):Prop:=∃ f fd,PySem.W.nsIn K mainGlobals x = some (some (.ref f)) ∧ FunV K y y st f fd .none ∧ PySem.W.keepIn K (.ref f) = true
def jay (x:Str) (st:Stmt) (ps:List Str):Prop:=∀ (kV doc pm:Value) (an:Option Addr) (cdv ct:Value) (us:List Value),us.length = ps.length → bindArgs (PySem.W.fnOf x x (jcu st) (jbQ st) (jah st) .none kV doc pm an cdv ct) ⟨us,[]⟩ = pure (ps.zip us)
section
variable {P:Program} {w:World} {K:PySem.W.Frag} {mg:Str → Option Value} {base h:Heap} {x y:Str} {st:Stmt} {k:Nat} {ps:List Str}
theorem DefIn.mk {f:Addr} {oc:Value} {od an:Option Addr} {osl:Array (Option Value)} {kV doc pm cdv ct:Value} (a:PySem.W.nsIn K mainGlobals x = some (some (.ref f))) (l:K.lookup f = some ⟨oc,od,.func (PySem.W.fnOf y y (jcu st) (jbQ st) (jah st) .none kV doc pm an cdv ct),osl⟩)
    (c:PySem.W.codeIn K cdv y = true) (k:PySem.W.keepIn K (.ref f) = true):DefIn K x y st:=⟨_,_,a,jiW l c k,k⟩
variable (D:DefIn K x y st) (X:K.In h) (G:h.Ns mainGlobals mg) (b:jay y st ps)
include D X G
include b
theorem DefIn.cal {g:List VL.D → Option VL.D} (ok:∀ f fd,FunV K y y st f fd .none → FnOk P w K mg base CX0 k f fd ps (spD K g)):Cal P w K mg base x k g []:=by
  obtain ⟨f,fd,a,F,hk⟩:=D
  exact Cal.mk0 (ok f fd F) (PySem.W.mg_of X G a) hk (F.binds b)
theorem DefIn.calX {g:List VL.D → Option Str} (ok:∀ f fd,FunV K y y st f fd .none → FnOk P w K mg base (CXX P w) k f fd ps (spX K g)):CalX P w K mg base x k g []:=by
  obtain ⟨f,fd,a,F,hk⟩:=D
  exact ⟨⟨_,_,_,[],[],ok f fd F,PySem.W.mg_of X G a,hk,F.binds b,.nil,fun _=>.nil⟩⟩
end
def bKw (fd:FuncData) (us:List Value):{kk:Option (Array Value) → Sem (List (Str × Value)) // bindArgs fd ⟨us,[]⟩ = seqItems? fd.defaults >>= kk}:=⟨_,rfl⟩
theorem FunV.bindsK {K:PySem.W.Frag} {x qual:Str} {st:Stmt} {f T:Addr} {fd:FuncData} {ps:List Str} {o:Obj} {items:Array Value} {n:Nat} {ds:List Value} (F:FunV K x qual st f fd (.ref T)) (ho:K.lookup T = some o) (hs:o.data = .seq items n) (nu:Nat) (hn:nu + ds.length = ps.length)
    (h:∀ (kV doc pm:Value) (an:Option Addr) (cdv ct:Value) (us:List Value),us.length = nu → (bKw (PySem.W.fnOf x qual (jcu st) (jbQ st) (jah st) (.ref T) kV doc pm an cdv ct) us).1 (some items) = pure (ps.zip (us ++ ds))):Binds K fd ps ds:=
  F.bindsD ho hs nu hn fun kV doc pm an cdv ct us hl=>⟨_,(bKw (PySem.W.fnOf x qual (jcu st) (jbQ st) (jah st) (.ref T) kV doc pm an cdv ct) us).2,h kV doc pm an cdv ct us hl⟩
end VL
set_option Elab.async false
set_option linter.all false
set_option maxRecDepth 100000
set_option maxHeartbeats 4000000
namespace VL
open PySem PySem.Spec PyProof.Rows L2
open AutoSeq1 (wpAny_loadPart')
section
variable {X:Cx}
end
end VL
set_option Elab.async false
set_option linter.all false
set_option maxRecDepth 100000
set_option maxHeartbeats 4000000
namespace VL
open PySem PySem.Spec PyProof.Rows L2
def isB (z:Bool):D → D → Option D
  | .bool a,.bool b=>some (.bool (z != (a == b)))
  | _,_=>none
@[simp] theorem jwM (z a b:Bool):isB z (.bool a) (.bool b) = some (.bool (z != (a == b))):=rfl
section
variable {X:Cx}
end
end VL
set_option Elab.async false
set_option linter.all false
set_option maxRecDepth 100000
set_option maxHeartbeats 4000000
namespace MA
open PySem
theorem jjE (x y:Int):Builtin.bitOr x y = 2 * Builtin.bitOr (x / 2) (y / 2) + (if x % 2 = 0 ∧ y % 2 = 0 then 0 else 1):=by
  unfold Builtin.bitOr Builtin.bitNot
  have h:=PySem.W.kbt_halves (-x - 1) (-y - 1)
  have hx:(-x - 1) / 2 = -(x / 2) - 1:=by omega
  have hy:(-y - 1) / 2 = -(y / 2) - 1:=by omega
  rw [hx,hy] at h
  rw [h]
  by_cases c:x % 2 = 0 ∧ y % 2 = 0
  · rw [if_pos c,if_pos (by omega)]; omega
  · rw [if_neg c,if_neg (by omega)]; omega
theorem jgM (n:Nat):(0:Int) < 2 ^ n:=by
  induction n with
  | zero=>decide
  | succ n ih=>rw [Int.pow_succ]; omega
theorem jeL (x:Int) (n:Nat):x / 2 ^ (n + 1) = x / 2 / 2 ^ n:=by
  rw [Int.pow_succ,Int.mul_comm,Int.ediv_ediv_of_nonneg (by decide)]
theorem jdY (x:Int) (n:Nat):2 ^ (n + 1) ∣ x ↔ x % 2 = 0 ∧ 2 ^ n ∣ x / 2:=by
  constructor
  · rintro ⟨c,rfl⟩
    rw [Int.pow_succ]
    refine ⟨?_,c,?_⟩
    · rw [Int.mul_comm (2 ^ n) 2,Int.mul_assoc]; omega
    · rw [Int.mul_comm (2 ^ n) 2,Int.mul_assoc,Int.mul_ediv_cancel_left _ (by decide)]
  · rintro ⟨h,c,hc⟩
    refine ⟨c,?_⟩
    rw [Int.pow_succ,Int.mul_comm (2 ^ n) 2,Int.mul_assoc,← hc]
    omega
theorem jni (n:Nat):∀ x y:Int,(2 ^ n ∣ Builtin.bitOr x y ↔ 2 ^ n ∣ x ∧ 2 ^ n ∣ y) ∧ (2 ^ n ∣ Builtin.bitOr x y → Builtin.bitOr x y / 2 ^ n = Builtin.bitOr (x / 2 ^ n) (y / 2 ^ n)):=by
  induction n with
  | zero=>intro x y; simp
  | succ n ih=>
    intro x y
    have h:=jjE x y
    have hd:Builtin.bitOr x y / 2 = Builtin.bitOr (x / 2) (y / 2):=by rw [h]; split <;> omega
    have hm:Builtin.bitOr x y % 2 = 0 ↔ x % 2 = 0 ∧ y % 2 = 0:=by
      rw [h]
      by_cases c:x % 2 = 0 ∧ y % 2 = 0
      · rw [if_pos c]; constructor
        · intro _; exact c
        · intro _; omega
      · rw [if_neg c]; constructor
        · intro z; omega
        · intro z; exact absurd z c
    obtain ⟨i1,i2⟩:=ih (x / 2) (y / 2)
    constructor
    · rw [jdY,jdY,jdY,hd,hm,i1]
      constructor
      · rintro ⟨⟨a,b⟩,c,d⟩; exact ⟨⟨a,c⟩,b,d⟩
      · rintro ⟨⟨a,c⟩,b,d⟩; exact ⟨⟨a,b⟩,c,d⟩
    · intro q
      rw [jdY,hd] at q
      rw [jeL,jeL,jeL,hd,i2 q.2]
theorem jqX:∀ (n:Nat) (j:Int),j.natAbs ≤ n → j ≠ 0 → ∃ (t:Nat) (a:Int),j = 2 ^ t * (2 * a + 1)
  | 0,j,h,h0=>by omega
  | n + 1,j,h,h0=>by
    by_cases c:j % 2 = 0
    · obtain ⟨t,a,e⟩:=jqX n (j / 2) (by omega) (by omega)
      refine ⟨t + 1,a,?_⟩
      rw [Int.pow_succ,Int.mul_comm (2 ^ t) 2,Int.mul_assoc,← e]
      omega
    · exact ⟨0,j / 2,by simp; omega⟩
theorem jlN (t:Nat):Builtin.Int.intBits (2 ^ t) = t + 1:=by
  unfold Builtin.Int.intBits
  have h:(2:Int) ^ t ≠ 0:=Int.ne_of_gt (jgM t)
  have e:((2:Int) ^ t).natAbs = 2 ^ t:=by
    have:((2 ^ t:Nat):Int) = (2:Int) ^ t:=by simp
    rw [← this,Int.natAbs_natCast]
  rw [if_neg (by simpa using h),e,Nat.log2_two_pow]
def jrW (j most:Int):Int:=if j = 0 then most else if (Builtin.Int.intBits (Builtin.bitAnd j (-j)):Int) - 1 < most then (Builtin.Int.intBits (Builtin.bitAnd j (-j)):Int) - 1 else most
theorem jmJ (j most:Int) (hm:0 ≤ most):∃ t:Nat,jrW j most = t ∧ (t:Int) ≤ most ∧ 2 ^ t ∣ j ∧ ((t:Int) < most → ¬ j / 2 ^ t % 2 = 0):=by
  unfold jrW
  by_cases h:j = 0
  · subst h
    refine ⟨most.toNat,by rw [if_pos rfl]; omega,by omega,Int.dvd_zero _,fun z=>by omega⟩
  · obtain ⟨t,a,e⟩:=jqX _ j (Nat.le_refl _) h
    have hb:Builtin.Int.intBits (Builtin.bitAnd j (-j)) = t + 1:=by rw [e,PySem.W.kbt_low,jlN]
    rw [if_neg h,hb]
    have q:((t + 1:Nat):Int) - 1 = t:=by omega
    rw [q]
    by_cases c:(t:Int) < most
    · refine ⟨t,by rw [if_pos c],by omega,⟨_,e⟩,fun _=>?_⟩
      rw [e,Int.mul_ediv_cancel_left _ (Int.ne_of_gt (jgM t))]
      omega
    · refine ⟨most.toNat,by rw [if_neg c]; omega,by omega,?_,fun z=>by omega⟩
      refine Int.dvd_trans ?_ ⟨_,e⟩
      have:t = most.toNat + (t - most.toNat):=by omega
      rw [this,Int.pow_add]
      exact Int.dvd_mul_right _ _
theorem ji5 {a:Int} {m:Nat} (h:a.natAbs < 2 ^ m):Builtin.Int.intBits a ≤ m:=by
  unfold Builtin.Int.intBits
  split
  · exact Nat.zero_le _
  · rename_i h0
    have h0:a ≠ 0:=by simpa using h0
    have:a.natAbs.log2 < m:=(Nat.log2_lt (by omega)).mpr h
    omega
theorem jvj {a b:Int} (m n:Nat) (ha:a.natAbs < 2 ^ m) (hb:b.natAbs < 2 ^ n) (h:m + n ≤ 134217728):IntMulOk a b:=by
  have h1:=ji5 ha
  have h2:=ji5 hb
  have hc:Builtin.Int.intTooBig (Builtin.Int.intBits a + Builtin.Int.intBits b) = false:=by
    unfold Builtin.Int.intTooBig bitsLine
    exact decide_eq_false (by omega)
  unfold IntMulOk
  rw [hc]
  simp
structure Q4 where
  a:Int
  b:Int
  c:Int
  d:Int
namespace Q4
theorem ext' {x y:Q4} (h1:x.a = y.a) (h2:x.b = y.b) (h3:x.c = y.c) (h4:x.d = y.d):x = y:=by
  cases x; cases y; simp at h1 h2 h3 h4; subst h1 h2 h3 h4; rfl
def add (x y:Q4):Q4:=⟨x.a + y.a,x.b + y.b,x.c + y.c,x.d + y.d⟩
def neg (x:Q4):Q4:=⟨-x.a,-x.b,-x.c,-x.d⟩
def mul (x y:Q4):Q4:=⟨x.a * y.a - x.b * y.d - x.c * y.c - x.d * y.b,x.a * y.b + x.b * y.a - x.c * y.d - x.d * y.c,x.a * y.c + x.b * y.b + x.c * y.a - x.d * y.d,x.a * y.d + x.b * y.c + x.c * y.b + x.d * y.a⟩
def rt (x:Q4):Q4:=⟨x.b - x.d,x.a + x.c,x.b + x.d,x.c - x.a⟩
def dbl (n:Int) (x:Q4):Q4:=⟨x.a * n,x.b * n,x.c * n,x.d * n⟩
def mir (x:Q4):Q4:=⟨x.a,-x.d,-x.c,-x.b⟩
def tn (x:Q4):Q4:=⟨-x.d,x.a,x.b,x.c⟩
def rtn:Nat → Q4 → Q4
  | 0,x=>x
  | n + 1,x=>rtn n (rt x)
theorem rtn_succ (n:Nat) (x:Q4):rtn (n + 1) x = rt (rtn n x):=by
  induction n generalizing x with
  | zero=>rfl
  | succ n ih=>exact ih (rt x)
theorem rtn_add (m n:Nat) (x:Q4):rtn (m + n) x = rtn m (rtn n x):=by
  induction n generalizing x with
  | zero=>rfl
  | succ n ih=>exact ih (rt x)
theorem jr7 (x:Q4):rt (rt x) = dbl 2 x:=by
  apply ext' <;> simp [rt,dbl] <;> omega
theorem jtk (m n:Int) (x:Q4):dbl m (dbl n x) = dbl (n * m) x:=by
  apply ext' <;> simp [dbl,Int.mul_assoc]
theorem rtn_two (t:Nat) (x:Q4):rtn (2 * t) x = dbl (2 ^ t) x:=by
  induction t generalizing x with
  | zero=>apply ext' <;> simp [rtn,dbl]
  | succ t ih=>
    have e:2 * (t + 1) = 2 * t + 1 + 1:=by omega
    rw [e]
    show rtn (2 * t) (rt (rt x)) = _
    rw [ih,jr7,jtk,Int.pow_succ,Int.mul_comm]
theorem rt_inj {x y:Q4} (h:rt x = rt y):x = y:=by
  have h1:=congrArg rt h
  rw [jr7,jr7] at h1
  have h2:=congrArg Q4.a h1
  have h3:=congrArg Q4.b h1
  have h4:=congrArg Q4.c h1
  have h5:=congrArg Q4.d h1
  simp only [dbl] at h2 h3 h4 h5
  apply ext' <;> omega
theorem rtn_inj {n:Nat} {x y:Q4} (h:rtn n x = rtn n y):x = y:=by
  induction n generalizing x y with
  | zero=>exact h
  | succ n ih=>exact rt_inj (ih h)
theorem rt_add (x y:Q4):rt (add x y) = add (rt x) (rt y):=by apply ext' <;> simp [rt,add] <;> omega
theorem rtn_addQ (n:Nat) (x y:Q4):rtn n (add x y) = add (rtn n x) (rtn n y):=by
  induction n generalizing x y with
  | zero=>rfl
  | succ n ih=>show rtn n (rt (add x y)) = _; rw [rt_add,ih]; rfl
theorem rt_mul (x y:Q4):rt (mul x y) = mul (rt x) y:=by apply ext' <;> simp only [rt,mul] <;> grind
theorem jm6 (n:Nat) (x y:Q4):rtn n (mul x y) = mul (rtn n x) y:=by
  induction n generalizing x with
  | zero=>rfl
  | succ n ih=>show rtn n (rt (mul x y)) = _; rw [rt_mul,ih]; rfl
theorem mul_comm (x y:Q4):mul x y = mul y x:=by apply ext' <;> simp only [mul] <;> grind
theorem mul_assoc (x y z:Q4):mul (mul x y) z = mul x (mul y z):=by apply ext' <;> simp only [mul] <;> grind
theorem mul_add (x y z:Q4):mul x (add y z) = add (mul x y) (mul x z):=by apply ext' <;> simp only [mul,add] <;> grind
theorem add_comm (x y:Q4):add x y = add y x:=by apply ext' <;> simp only [add] <;> omega
theorem add_assoc (x y z:Q4):add (add x y) z = add x (add y z):=by apply ext' <;> simp only [add] <;> omega
theorem rtn_mul2 (m n:Nat) (x y:Q4):rtn (m + n) (mul x y) = mul (rtn m x) (rtn n y):=by
  rw [rtn_add,mul_comm,jm6,mul_comm,jm6]
theorem tn_mul (x y:Q4):tn (mul x y) = mul x (tn y):=by apply ext' <;> simp only [mul,tn] <;> grind
theorem tn_rt (x:Q4):tn (rt x) = rt (tn x):=by apply ext' <;> simp only [rt,tn] <;> omega
def Odd (x:Q4):Prop:=¬ ((x.a - x.c) % 2 = 0 ∧ (x.b - x.d) % 2 = 0)
theorem jr8 (x:Q4):¬ Odd (rt x):=by
  unfold Odd rt
  simp only
  omega
def Least (x:Q4) (k:Int):Prop:=0 ≤ k ∧ (0 < k → Odd x)
theorem Least.one {x y:Q4} {k l m:Nat} (hx:Least x k) (hy:Least y l) (h1:k ≤ m) (h2:l ≤ m) (h:rtn (m - k) x = rtn (m - l) y):x = y ∧ k = l:=by
  have key:∀ {x y:Q4} {k l:Nat},Least y l → k ≤ m → l ≤ m → k < l → rtn (m - k) x = rtn (m - l) y → False:=by
    intro x y k l hy h1 h2 hlt h
    have e:m - k = (m - l) + (l - k):=by omega
    rw [e,rtn_add] at h
    have h3:=rtn_inj h
    obtain ⟨n,hn⟩:∃ n,l - k = n + 1:=⟨l - k - 1,by omega⟩
    rw [hn,rtn_succ] at h3
    have:=hy.2 (by omega)
    rw [← h3] at this
    exact jr8 _ this
  rcases Nat.lt_trichotomy k l with q | q | q
  · exact (key hy h1 h2 q h).elim
  · subst q; exact ⟨rtn_inj h,rfl⟩
  · exact (key hx h2 h1 q h.symm).elim
end Q4
theorem jgY (a b c d most:Int) (hm:0 ≤ most):∃ t:Nat,jrW (Builtin.bitOr (Builtin.bitOr (Builtin.bitOr a b) c) d) most = t ∧ (t:Int) ≤ most ∧ a = a / 2 ^ t * 2 ^ t ∧ b = b / 2 ^ t * 2 ^ t ∧ c = c / 2 ^ t * 2 ^ t ∧ d = d / 2 ^ t * 2 ^ t ∧
    ((t:Int) < most → ¬ (a / 2 ^ t % 2 = 0 ∧ b / 2 ^ t % 2 = 0 ∧ c / 2 ^ t % 2 = 0 ∧ d / 2 ^ t % 2 = 0)):=by
  obtain ⟨t,e,h1,h2,h3⟩:=jmJ (Builtin.bitOr (Builtin.bitOr (Builtin.bitOr a b) c) d) most hm
  have o1:=jni t (Builtin.bitOr (Builtin.bitOr a b) c) d
  have d1:=o1.1.mp h2
  have o2:=jni t (Builtin.bitOr a b) c
  have d2:=o2.1.mp d1.1
  have o3:=jni t a b
  have d3:=o3.1.mp d2.1
  refine ⟨t,e,h1,(Int.ediv_mul_cancel d3.1).symm,(Int.ediv_mul_cancel d3.2).symm,(Int.ediv_mul_cancel d2.2).symm,(Int.ediv_mul_cancel d1.2).symm,fun z w=>h3 z ?_⟩
  have ev:∀ x y:Int,x % 2 = 0 → y % 2 = 0 → Builtin.bitOr x y % 2 = 0:=fun x y hx hy=>by
    rw [jjE,if_pos ⟨hx,hy⟩]; omega
  rw [o1.2 h2,o2.2 d1.1,o3.2 d2.1]
  exact ev _ _ (ev _ _ (ev _ _ w.1 w.2.1) w.2.2.1) w.2.2.2
def num (x:Q4) (k:Int):Q4 × Int:=
  let t:=(jrW (Builtin.bitOr (Builtin.bitOr (Builtin.bitOr x.a x.b) x.c) x.d) (k / 2)).toNat
  let y:Q4:=⟨x.a / 2 ^ t,x.b / 2 ^ t,x.c / 2 ^ t,x.d / 2 ^ t⟩
  if k - 2 * t = 0 ∨ (y.a - y.c) % 2 = 1 ∨ (y.b - y.d) % 2 = 1 then (y,k - 2 * t) else (⟨(y.b - y.d) / 2,(y.a + y.c) / 2,(y.b + y.d) / 2,(y.c - y.a) / 2⟩,k - 2 * t - 1)
theorem jnX {p q:Int} (h:(p - q) % 2 = 0):(p + q) / 2 - (q - p) / 2 = p ∧ (p + q) / 2 + (q - p) / 2 = q:=by omega
theorem jnW {p q:Int} (h:(p - q) % 2 = 0):(p - q) / 2 + (p + q) / 2 = p ∧ (p + q) / 2 - (p - q) / 2 = q:=by omega
theorem juS {x y:Int} (h:(x - y) % 2 = 0) (k:y % 2 = 0):x % 2 = 0:=by omega
theorem jsq {x y:Int} (h:(x - y) % 2 = 0) (k:x % 2 = 0):y % 2 = 0:=by omega
theorem jpB {a b c d:Int} (g1:(a - c) % 2 = 0) (g2:(b - d) % 2 = 0) (h:¬ (a % 2 = 0 ∧ b % 2 = 0 ∧ c % 2 = 0 ∧ d % 2 = 0)):Q4.Odd ⟨(b - d) / 2,(a + c) / 2,(b + d) / 2,(c - a) / 2⟩:=fun z=>by
  have z1:((b - d) / 2 - (b + d) / 2) % 2 = 0:=z.1
  have z2:((a + c) / 2 - (c - a) / 2) % 2 = 0:=z.2
  rw [(jnX g1).1] at z2
  have e:=(jnW g2).2
  have z3:d % 2 = 0:=by omega
  exact h ⟨z2,juS g2 z3,jsq g1 z2,z3⟩
theorem jfG (x:Q4) (k:Int) (hk:0 ≤ k):Q4.Least (num x k).1 (num x k).2 ∧ (num x k).2 ≤ k ∧ Q4.rtn (k - (num x k).2).toNat (num x k).1 = x:=by
  obtain ⟨t,e,h1,ha,hb,hc,hd,h3⟩:=jgY x.a x.b x.c x.d (k / 2) (by omega)
  have l2:2 * (t:Int) ≤ k:=by omega
  unfold num
  simp only [e,Int.toNat_natCast]
  generalize x.a / 2 ^ t = a at *
  generalize x.b / 2 ^ t = b at *
  generalize x.c / 2 ^ t = c at *
  generalize x.d / 2 ^ t = d at *
  have e2:Q4.dbl (2 ^ t) ⟨a,b,c,d⟩ = x:=Q4.ext' ha.symm hb.symm hc.symm hd.symm
  split
  · rename_i h
    refine ⟨⟨Int.sub_nonneg_of_le l2,fun z=>?_⟩,Int.sub_le_self _ (by omega),?_⟩
    · rcases h with h | h | h
      · exact absurd h (Int.ne_of_gt z)
      · exact fun w=>absurd (h.symm.trans w.1) (by decide)
      · exact fun w=>absurd (h.symm.trans w.2) (by decide)
    · have:(k - (k - 2 * (t:Int))).toNat = 2 * t:=by omega
      simp only [this]
      rw [Q4.rtn_two,e2]
  · rename_i h
    have g0:k - 2 * (t:Int) ≠ 0:=fun z=>h (.inl z)
    have g1:(a - c) % 2 = 0:=(Int.emod_two_eq (a - c)).resolve_right fun z=>h (.inr (.inl z))
    have g2:(b - d) % 2 = 0:=(Int.emod_two_eq (b - d)).resolve_right fun z=>h (.inr (.inr z))
    refine ⟨⟨(by omega:0 ≤ k - 2 * (t:Int) - 1),fun z=>jpB g1 g2 (h3 ?_)⟩,(by omega:k - 2 * (t:Int) - 1 ≤ k),?_⟩
    · have z:0 < k - 2 * (t:Int) - 1:=z
      omega
    · have:(k - (k - 2 * (t:Int) - 1)).toNat = 2 * t + 1:=by omega
      simp only [this]
      show Q4.rtn (2 * t) (Q4.rt _) = x
      rw [Q4.rtn_two]
      have e3:Q4.rt ⟨(b - d) / 2,(a + c) / 2,(b + d) / 2,(c - a) / 2⟩ = ⟨a,b,c,d⟩:=Q4.ext' (jnX g1).1 (jnW g2).1 (jnX g1).2 (jnW g2).2
      rw [e3,e2]
def Q4.Le (M:Nat) (x:Q4):Prop:=x.a.natAbs ≤ M ∧ x.b.natAbs ≤ M ∧ x.c.natAbs ≤ M ∧ x.d.natAbs ≤ M
theorem jlF (a:Int) (t:Nat) (h:a = a / 2 ^ t * 2 ^ t):(a / 2 ^ t).natAbs ≤ a.natAbs:=by
  have pw:=jgM t
  have:a.natAbs = (a / 2 ^ t).natAbs * ((2:Int) ^ t).natAbs:=by rw [← Int.natAbs_mul,← h]
  rw [this]
  exact Nat.le_mul_of_pos_right _ (by omega)
theorem jhs {a b:Int} {M:Nat} (ha:a.natAbs ≤ M) (hb:b.natAbs ≤ M):((a + b) / 2).natAbs ≤ M:=by omega
theorem jhr {a b:Int} {M:Nat} (ha:a.natAbs ≤ M) (hb:b.natAbs ≤ M):((a - b) / 2).natAbs ≤ M:=by omega
theorem jq7 (x:Q4) (k:Int) (hk:0 ≤ k) (M:Nat) (h:Q4.Le M x):Q4.Le M (num x k).1:=by
  obtain ⟨t,e,h1,ha,hb,hc,hd,h3⟩:=jgY x.a x.b x.c x.d (k / 2) (by omega)
  have la:=Nat.le_trans (jlF _ _ ha) h.1
  have lb:=Nat.le_trans (jlF _ _ hb) h.2.1
  have lc:=Nat.le_trans (jlF _ _ hc) h.2.2.1
  have ld:=Nat.le_trans (jlF _ _ hd) h.2.2.2
  unfold num Q4.Le
  simp only [e,Int.toNat_natCast]
  split
  · exact ⟨la,lb,lc,ld⟩
  · exact ⟨jhr lb ld,jhs la lc,jhs lb ld,jhr lc la⟩
theorem jdz {a b:Int} {M N:Nat} (ha:a.natAbs ≤ M) (hb:b.natAbs ≤ N):(a + b).natAbs ≤ M + N:=Nat.le_trans (Int.natAbs_add_le a b) (Nat.add_le_add ha hb)
theorem jh3 {a b:Int} {M N:Nat} (ha:a.natAbs ≤ M) (hb:b.natAbs ≤ N):(a - b).natAbs ≤ M + N:=Nat.le_trans (Int.natAbs_sub_le a b) (Nat.add_le_add ha hb)
theorem jxS {x:Q4} {M:Nat} (h:Q4.Le M x):Q4.Le (2 * M) (Q4.rt x):=by
  obtain ⟨g1,g2,g3,g4⟩:=h
  rw [Nat.two_mul]
  unfold Q4.Le Q4.rt
  exact ⟨jh3 g2 g4,jdz g1 g3,jdz g2 g4,jh3 g3 g1⟩
theorem jq3 {x:Q4} {M:Nat}:∀ (n:Nat),Q4.Le M x → Q4.Le (2 ^ n * M) (Q4.rtn n x)
  | 0,h=>by simpa [Q4.rtn] using h
  | n + 1,h=>by
    have:=jxS (jq3 n h)
    rw [Q4.rtn_succ]
    rw [Nat.pow_succ,Nat.mul_comm (2 ^ n) 2,Nat.mul_assoc]
    exact this
theorem Q4.Le.mono {x:Q4} {M N:Nat} (h:Q4.Le M x) (hl:M ≤ N):Q4.Le N x:=⟨Nat.le_trans h.1 hl,Nat.le_trans h.2.1 hl,Nat.le_trans h.2.2.1 hl,Nat.le_trans h.2.2.2 hl⟩
theorem jrP {x y:Q4} {M N:Nat} (h:Q4.Le M x) (h':Q4.Le N y):Q4.Le (M + N) (Q4.add x y):=
  ⟨jdz h.1 h'.1,jdz h.2.1 h'.2.1,jdz h.2.2.1 h'.2.2.1,jdz h.2.2.2 h'.2.2.2⟩
def jfA (x:Q4) (c:Int) (y:Q4) (d:Int):Q4 × Int:=num (Q4.add (Q4.rtn (max c d - c).toNat x) (Q4.rtn (max c d - d).toNat y)) (max c d)
def jeD (x:Q4) (c:Int) (y:Q4) (d:Int):Q4 × Int:=num (Q4.mul x y) (c + d)
def tnn:Nat → Q4 → Q4
  | 0,x=>x
  | n + 1,x=>Q4.tn (tnn n x)
theorem jjq {x:Q4} {M:Nat}:∀ n:Nat,Q4.Le M x → Q4.Le M (tnn n x)
  | 0,h=>h
  | n + 1,h=>by
    obtain ⟨a,b,c,d⟩:=jjq n h
    exact ⟨by simpa [tnn,Q4.tn] using d,a,b,c⟩
theorem tn_odd {x:Q4}:Q4.Odd (Q4.tn x) ↔ Q4.Odd x:=by
  unfold Q4.Odd Q4.tn
  simp only
  omega
theorem jmN {x:Q4}:∀ n:Nat,Q4.Odd (tnn n x) ↔ Q4.Odd x
  | 0=>Iff.rfl
  | n + 1=>tn_odd.trans (jmN n)
theorem jmP {x:Q4} {c:Int} (n:Nat) (h:Q4.Least x c):Q4.Least (tnn n x) c:=⟨h.1,fun z=>(jmN n).mpr (h.2 z)⟩
def Is (x:Q4) (c:Nat) (u:Q4) (k:Nat):Prop:=Q4.Least x c ∧ Q4.rtn k x = Q4.rtn c u
theorem jbZ (m n:Nat) (x:Q4):Q4.rtn m (Q4.rtn n x) = Q4.rtn n (Q4.rtn m x):=by rw [← Q4.rtn_add,← Q4.rtn_add,Nat.add_comm]
theorem Is.self {x:Q4} {c:Nat} (h:Q4.Least x c):Is x c x c:=⟨h,rfl⟩
theorem Is.one {x y u v:Q4} {c d k l:Nat} (hx:Is x c u k) (hy:Is y d v l) (h:Q4.rtn l u = Q4.rtn k v):x = y ∧ c = d:=by
  have e:Q4.rtn d x = Q4.rtn c y:=by
    refine Q4.rtn_inj (n:=k + l) ?_
    rw [Q4.rtn_add,Q4.rtn_add,jbZ l d x,jbZ k d,jbZ k l,hx.2,jbZ l c u,h,jbZ l c y,hy.2,jbZ k c,jbZ k d v,jbZ d c]
  exact Q4.Least.one (m:=c + d) hx.1 hy.1 (by omega) (by omega) (by rw [show c + d - c = d by omega,show c + d - d = c by omega]; exact e)
theorem ju7 (u:Q4) (k:Nat):∃ c:Nat,(num u k).2 = c ∧ c ≤ k ∧ Is (num u k).1 c u k:=by
  obtain ⟨s1,s2,s3⟩:=jfG u k (by omega)
  obtain ⟨c,hc⟩:∃ c:Nat,(num u k).2 = c:=⟨(num u k).2.toNat,by have:=s1.1; omega⟩
  rw [hc] at s1 s2 s3
  refine ⟨c,hc,by omega,s1,?_⟩
  have e:((k:Int) - c).toNat = k - c:=by omega
  rw [e] at s3
  conv=>rhs; rw [← s3]
  rw [← Q4.rtn_add]
  congr 1
  omega
theorem Is.trans {x u v:Q4} {c k l:Nat} (h:Is x c u k) (e:Q4.rtn l u = Q4.rtn k v):Is x c v l:=by
  refine ⟨h.1,Q4.rtn_inj (n:=k) ?_⟩
  rw [jbZ,h.2,jbZ,e,jbZ]
theorem jt8 (n:Nat) (x:Q4):Q4.tn (Q4.rtn n x) = Q4.rtn n (Q4.tn x):=by
  induction n generalizing x with
  | zero=>rfl
  | succ n ih=>show Q4.tn (Q4.rtn n (Q4.rt x)) = Q4.rtn n (Q4.rt (Q4.tn x)); rw [ih,Q4.tn_rt]
theorem jdD (m n:Nat) (x:Q4):tnn m (Q4.rtn n x) = Q4.rtn n (tnn m x):=by
  induction m with
  | zero=>rfl
  | succ m ih=>show Q4.tn (tnn m (Q4.rtn n x)) = _; rw [ih,jt8]; rfl
theorem jdf (m n:Nat) (x:Q4):tnn (m + n) x = tnn m (tnn n x):=by
  induction m with
  | zero=>rw [Nat.zero_add]; rfl
  | succ m ih=>rw [Nat.succ_add]; show Q4.tn (tnn (m + n) x) = _; rw [ih]; rfl
theorem jz7 (x:Q4):tnn 8 x = x:=by simp [tnn,Q4.tn]
theorem jit (n:Nat) (x:Q4):tnn (n % 8) x = tnn n x:=by
  conv=>rhs; rw [← Nat.mod_add_div n 8]
  rw [jdf]
  congr 1
  generalize n / 8 = q
  induction q with
  | zero=>rfl
  | succ q ih=>rw [Nat.mul_succ,jdf,jz7]; exact ih
theorem jmO (n:Nat) (x y:Q4):tnn n (Q4.mul x y) = Q4.mul x (tnn n y):=by
  induction n with
  | zero=>rfl
  | succ n ih=>show Q4.tn (tnn n (Q4.mul x y)) = _; rw [ih,Q4.tn_mul]; rfl
theorem jpn {x y:Q4} {c d:Nat} {p r:Nat} (hx:Q4.Le (2 ^ p) x) (hy:Q4.Le (2 ^ p) y) (hc:c ≤ r) (hd:d ≤ r):Q4.Le (2 ^ (p + r + 1)) (jfA x c y d).1:=by
  have em:max (c:Int) d = ((max c d:Nat):Int):=by omega
  unfold jfA
  refine jq7 _ _ (by omega) _ ?_
  have up:∀ (n:Nat) (z:Q4),n ≤ r → Q4.Le (2 ^ p) z → Q4.Le (2 ^ (p + r)) (Q4.rtn n z):=fun n z hn hz=>by
    refine (jq3 n hz).mono ?_
    rw [← Nat.pow_add]
    exact Nat.pow_le_pow_right (by decide) (by omega)
  have:=jrP (up (max (c:Int) d - c).toNat x (by omega) hx) (up (max (c:Int) d - d).toNat y (by omega) hy)
  rw [Nat.pow_succ,Nat.mul_two]
  exact this
structure S2 where
  p:Int
  q:Int
namespace S2
theorem ext' {x y:S2} (h1:x.p = y.p) (h2:x.q = y.q):x = y:=by
  cases x; cases y; simp at h1 h2; subst h1 h2; rfl
def add (x y:S2):S2:=⟨x.p + y.p,x.q + y.q⟩
def mul (x y:S2):S2:=⟨x.p * y.p + 2 * x.q * y.q,x.p * y.q + x.q * y.p⟩
def sc (n:Nat) (x:S2):S2:=⟨x.p * 2 ^ n,x.q * 2 ^ n⟩
theorem sc_add (m n:Nat) (x:S2):sc (m + n) x = sc m (sc n x):=by
  apply ext' <;> simp only [sc,Int.pow_add] <;> rw [Int.mul_assoc,Int.mul_comm (2 ^ n)]
theorem jdE (m n:Nat) (x:S2):sc m (sc n x) = sc n (sc m x):=by rw [← sc_add,← sc_add,Nat.add_comm]
theorem sc_inj {n:Nat} {x y:S2} (h:sc n x = sc n y):x = y:=by
  have pw:=jgM n
  have h1:=congrArg S2.p h
  have h2:=congrArg S2.q h
  simp only [sc] at h1 h2
  exact ext' (Int.eq_of_mul_eq_mul_right (by omega) h1) (Int.eq_of_mul_eq_mul_right (by omega) h2)
theorem sc_addS (n:Nat) (x y:S2):sc n (add x y) = add (sc n x) (sc n y):=by apply ext' <;> simp only [sc,add,Int.add_mul]
def Odd (x:S2):Prop:=¬ (x.p % 2 = 0 ∧ x.q % 2 = 0)
theorem jr6 (n:Nat) (x:S2):¬ Odd (sc (n + 1) x):=by
  unfold Odd sc
  rw [Int.pow_succ,← Int.mul_assoc,← Int.mul_assoc]
  simp only
  omega
def Least (x:S2) (c:Nat):Prop:=0 < c → Odd x
theorem Least.one {x y:S2} {k l m:Nat} (hx:Least x k) (hy:Least y l) (h1:k ≤ m) (h2:l ≤ m) (h:sc (m - k) x = sc (m - l) y):x = y ∧ k = l:=by
  have key:∀ {x y:S2} {k l:Nat},Least y l → k ≤ m → l ≤ m → k < l → sc (m - k) x = sc (m - l) y → False:=by
    intro x y k l hy h1 h2 hlt h
    have e:m - k = (m - l) + (l - k):=by omega
    rw [e,sc_add] at h
    have h3:=sc_inj h
    obtain ⟨n,hn⟩:∃ n,l - k = n + 1:=⟨l - k - 1,by omega⟩
    rw [hn] at h3
    have:=hy (by omega)
    rw [← h3] at this
    exact jr6 _ _ this
  rcases Nat.lt_trichotomy k l with q | q | q
  · exact (key hy h1 h2 q h).elim
  · subst q; exact ⟨sc_inj h,rfl⟩
  · exact (key hx h2 h1 q h.symm).elim
def Le (M:Nat) (x:S2):Prop:=x.p.natAbs ≤ M ∧ x.q.natAbs ≤ M
theorem Le.mono {x:S2} {M N:Nat} (h:Le M x) (hl:M ≤ N):Le N x:=⟨Nat.le_trans h.1 hl,Nat.le_trans h.2 hl⟩
theorem jrP {x y:S2} {M N:Nat} (h:Le M x) (h':Le N y):Le (M + N) (add x y):=
  ⟨Nat.le_trans (Int.natAbs_add_le _ _) (Nat.add_le_add h.1 h'.1),Nat.le_trans (Int.natAbs_add_le _ _) (Nat.add_le_add h.2 h'.2)⟩
def Is (x:S2) (c:Nat) (u:S2) (k:Nat):Prop:=Least x c ∧ sc k x = sc c u
theorem Is.one {x y u v:S2} {c d k l:Nat} (hx:Is x c u k) (hy:Is y d v l) (h:sc l u = sc k v):x = y ∧ c = d:=by
  have e:sc d x = sc c y:=by
    refine sc_inj (n:=k + l) ?_
    rw [sc_add,sc_add,jdE l d x,jdE k d,jdE k l,hx.2,jdE l c u,h,jdE l c y,hy.2,jdE k c,jdE k d v,jdE d c]
  exact Least.one (m:=c + d) hx.1 hy.1 (by omega) (by omega) (by rw [show c + d - c = d by omega,show c + d - d = c by omega]; exact e)
theorem Is.trans {x u v:S2} {c k l:Nat} (h:Is x c u k) (e:sc l u = sc k v):Is x c v l:=by
  refine ⟨h.1,sc_inj (n:=k) ?_⟩
  rw [jdE,h.2,jdE,e,jdE]
end S2
def nrm (x:Q4):S2:=⟨x.a * x.a + x.b * x.b + x.c * x.c + x.d * x.d,x.a * x.b + x.b * x.c + x.c * x.d - x.d * x.a⟩
theorem jnt (x:Q4):nrm (Q4.rt x) = S2.sc 1 (nrm x):=by apply S2.ext' <;> simp only [nrm,Q4.rt,S2.sc] <;> grind
theorem jhm (n:Nat) (x:Q4):nrm (Q4.rtn n x) = S2.sc n (nrm x):=by
  induction n generalizing x with
  | zero=>apply S2.ext' <;> simp [Q4.rtn,S2.sc]
  | succ n ih=>show nrm (Q4.rtn n (Q4.rt x)) = _; rw [ih,jnt,← S2.sc_add]
theorem ju9 (x:Q4):nrm (Q4.tn x) = nrm x:=by apply S2.ext' <;> simp only [nrm,Q4.tn] <;> grind
theorem jkw (n:Nat) (x:Q4):nrm (tnn n x) = nrm x:=by
  induction n with
  | zero=>rfl
  | succ n ih=>show nrm (Q4.tn (tnn n x)) = _; rw [ju9,ih]
theorem jsz (x y:Q4):S2.add (nrm (Q4.add x y)) (nrm (Q4.add x (Q4.neg y))) = S2.add (S2.add (nrm x) (nrm y)) (S2.add (nrm x) (nrm y)):=by
  apply S2.ext' <;> simp only [nrm,Q4.add,Q4.neg,S2.add] <;> grind
theorem jlW (a:Int):0 ≤ a * a:=by
  rcases Int.le_total 0 a with h | h
  · exact Int.mul_nonneg h h
  · have:=Int.mul_nonneg (Int.neg_nonneg.mpr h) (Int.neg_nonneg.mpr h)
    rwa [Int.neg_mul_neg] at this
theorem jva (x:Q4):0 ≤ (nrm x).p ∧ 2 * (nrm x).q * (nrm x).q ≤ (nrm x).p * (nrm x).p:=by
  constructor
  · have:=jlW x.a; have:=jlW x.b; have:=jlW x.c; have:=jlW x.d
    simp only [nrm]
    omega
  · have e:(nrm x).p * (nrm x).p - 2 * (nrm x).q * (nrm x).q = (x.a * x.a - x.c * x.c + 2 * x.b * x.d) * (x.a * x.a - x.c * x.c + 2 * x.b * x.d) + (2 * x.a * x.c - x.b * x.b + x.d * x.d) * (2 * x.a * x.c - x.b * x.b + x.d * x.d):=by
      simp only [nrm]
      grind
    have h1:=jlW (x.a * x.a - x.c * x.c + 2 * x.b * x.d)
    have h2:=jlW (2 * x.a * x.c - x.b * x.b + x.d * x.d)
    omega
abbrev Nu:=Q4 × Nat
inductive Row where
  | swing (j:Nat) | turn (j:Nat) (e:Nat) | flip (j:Nat) | tie (i j:Nat) | sign (i j:Nat) | cross (i j:Nat)
def jd5 (u v:Nu):Nu:=((jfA u.1 u.2 v.1 v.2).1,(jfA u.1 u.2 v.1 v.2).2.toNat)
def jeJ (u:Nu):Nu:=((num u.1 ((u.2 + 1:Nat):Int)).1,(num u.1 ((u.2 + 1:Nat):Int)).2.toNat)
def jcC (e:Nat) (u:Nu):Nu:=(tnn (e % 8) u.1,u.2)
def wt (n j:Nat):Nat:=2 ^ (n - 1 - j)
def bit (w p:Nat):Nat:=p / w % 2
def flp (w p:Nat):Nat:=if bit w p = 0 then p + w else p - w
def from_ (n:Nat):Row → Nat → Nat
  | .flip j,p=>flp (wt n j) p
  | .tie i j,p=>if bit (wt n i) p = 0 then p else flp (wt n j) p
  | .cross i j,p=>if bit (wt n i) p = bit (wt n j) p then p else flp (wt n j) (flp (wt n i) p)
  | _,p=>p
def jbw (n:Nat) (f:Nat → Nu):Row → Nat → Nu
  | .swing j,p=>if bit (wt n j) p = 0 then jeJ (jd5 (f p) (f (p + wt n j))) else jeJ (jd5 (f (p - wt n j)) (jcC 4 (f p)))
  | .turn j e,p=>jcC (e * bit (wt n j) p) (f p)
  | .sign i j,p=>jcC (4 * bit (wt n i) p * bit (wt n j) p) (f p)
  | r,p=>f (from_ n r p)
def Row.ok (n:Nat):Row → Prop
  | .swing j=>j < n
  | .turn j e=>j < n ∧ 1 ≤ e ∧ e ≤ 7
  | .flip j=>j < n
  | .tie i j=>i < n ∧ j < n ∧ i ≠ j
  | .sign i j=>i < n ∧ j < n ∧ i ≠ j
  | .cross i j=>i < n ∧ j < n ∧ i ≠ j
theorem jaU (n j:Nat):0 < wt n j:=Nat.pow_pos (by decide)
theorem jqP {n j:Nat} (h:j < n):2 ^ n = wt n j * 2 ^ (j + 1):=by
  unfold wt
  rw [← Nat.pow_add]; congr 1; omega
theorem jbA (w p:Nat):bit w p < 2:=Nat.mod_lt _ (by decide)
theorem jfO (w p:Nat) (hw:0 < w):∃ q r,p = (2 * q + bit w p) * w + r ∧ r < w:=by
  refine ⟨p / w / 2,p % w,?_,Nat.mod_lt _ hw⟩
  unfold bit
  rw [Nat.div_add_mod,Nat.div_add_mod']
theorem joq {w q b r:Nat} (hb:b < 2) (hr:r < w):bit w ((2 * q + b) * w + r) = b:=by
  unfold bit
  rw [Nat.mul_comm,Nat.mul_add_div (by omega),Nat.div_eq_of_lt hr]
  omega
theorem jkM {w p:Nat} (hw:0 < w) (h:bit w p = 1):w ≤ p:=by
  obtain ⟨q,r,e,_⟩:=jfO w p hw
  rw [h] at e
  have:(2 * q + 1) * w = 2 * q * w + w:=by rw [Nat.add_mul,Nat.one_mul]
  omega
theorem jtr {n j p:Nat} (hj:j < n) (hp:p < 2 ^ n) (h:bit (wt n j) p = 0):p + wt n j < 2 ^ n:=by
  obtain ⟨q,r,e,hr⟩:=jfO (wt n j) p (jaU n j)
  rw [h] at e
  have h2:=jqP hj
  have hq:q < 2 ^ j:=by
    refine Nat.lt_of_not_le fun z=>?_
    have:2 * 2 ^ j * wt n j ≤ 2 * q * wt n j:=Nat.mul_le_mul_right _ (by omega)
    have e2:wt n j * 2 ^ (j + 1) = 2 * 2 ^ j * wt n j:=by rw [Nat.pow_succ,Nat.mul_comm,Nat.mul_comm (2 ^ j) 2]
    rw [Nat.add_zero] at e
    omega
  have:(2 * q + 2) * wt n j ≤ 2 * 2 ^ j * wt n j:=Nat.mul_le_mul_right _ (by omega)
  have e2:wt n j * 2 ^ (j + 1) = 2 * 2 ^ j * wt n j:=by rw [Nat.pow_succ,Nat.mul_comm,Nat.mul_comm (2 ^ j) 2]
  have e3:(2 * q + 2) * wt n j = 2 * q * wt n j + 2 * wt n j:=Nat.add_mul ..
  rw [Nat.add_zero] at e
  omega
theorem jgj {n j p:Nat} (hj:j < n) (hp:p < 2 ^ n):flp (wt n j) p < 2 ^ n:=by
  unfold flp
  split
  · exact jtr hj hp (by assumption)
  · omega
theorem jky {n p:Nat} {r:Row} (hr:r.ok n) (hp:p < 2 ^ n):from_ n r p < 2 ^ n:=by
  cases r with
  | flip j=>exact jgj hr hp
  | tie i j=>show (if _ then _ else _) < _; split; exact hp; exact jgj hr.2.1 hp
  | cross i j=>show (if _ then _ else _) < _; split; exact hp; exact jgj hr.2.1 (jgj hr.1 hp)
  | _=>exact hp
theorem jtb {w p:Nat} (hw:0 < w):flp w p / (2 * w) = p / (2 * w):=by
  obtain ⟨q,r,e,hr⟩:=jfO w p hw
  have h2:=jbA w p
  have e1:(2 * q + bit w p) * w = 2 * w * q + bit w p * w:=by rw [Nat.add_mul,Nat.mul_right_comm]
  have one:∀ x,x < 2 * w → (2 * w * q + x) / (2 * w) = q:=fun x hx=>by rw [Nat.mul_add_div (by omega),Nat.div_eq_of_lt hx,Nat.add_zero]
  unfold flp
  split
  · rename_i h
    rw [h] at e e1
    have a:=one (r + w) (by omega)
    have b:=one r (by omega)
    rw [show p + w = 2 * w * q + (r + w) by omega,a,show p = 2 * w * q + r by omega,b]
  · rename_i h
    have h1:bit w p = 1:=by omega
    rw [h1] at e e1
    have a:=one (r + w) (by omega)
    have b:=one r (by omega)
    rw [show p - w = 2 * w * q + r by omega,b,show p = 2 * w * q + (r + w) by omega,a]
theorem jj1 (x p m:Nat) (hx:0 < x):bit x (p + 2 * x * m) = bit x p:=by
  unfold bit
  rw [show p + 2 * x * m = p + x * (2 * m) by rw [Nat.mul_comm 2 x,Nat.mul_assoc],Nat.add_mul_div_left _ _ hx]
  omega
theorem jcw {n i j p:Nat} (hi:i < n) (hj:j < n) (hij:i ≠ j):bit (wt n j) (flp (wt n i) p) = bit (wt n j) p:=by
  have hw:=jaU n i
  by_cases h:j < i
  ·
    have e:wt n j = 2 * wt n i * 2 ^ (i - j - 1):=by
      unfold wt
      rw [show 2 * 2 ^ (n - 1 - i) = 2 ^ (n - 1 - i + 1) by rw [Nat.pow_succ,Nat.mul_comm],← Nat.pow_add]
      congr 1; omega
    unfold bit
    rw [e,← Nat.div_div_eq_div_mul (flp (wt n i) p) (2 * wt n i),← Nat.div_div_eq_div_mul p (2 * wt n i),jtb hw]
  · have e:wt n i = 2 * wt n j * 2 ^ (j - i - 1):=by
      unfold wt
      rw [show 2 * 2 ^ (n - 1 - j) = 2 ^ (n - 1 - j + 1) by rw [Nat.pow_succ,Nat.mul_comm],← Nat.pow_add]
      congr 1; omega
    unfold flp
    split
    · rw [e]; exact jj1 _ _ _ (jaU n j)
    · rename_i hb
      have h2:=jbA (wt n i) p
      have:=jkM (w:=wt n i) (p:=p) hw (by omega)
      have:=jj1 (wt n j) (p - wt n i) (2 ^ (j - i - 1)) (jaU n j)
      rw [← this,← e,Nat.sub_add_cancel (by assumption)]
theorem ja5 {w p:Nat} (hw:0 < w):bit w (flp w p) = 1 - bit w p:=by
  obtain ⟨q,r,e,hr⟩:=jfO w p hw
  have h2:=jbA w p
  unfold flp
  split
  · rename_i h
    rw [h] at e
    rw [h,show p + w = (2 * q + 1) * w + r by rw [Nat.add_mul] at e ⊢; omega]
    exact joq (by decide) hr
  · rename_i h
    have h1:bit w p = 1:=by omega
    rw [h1] at e
    rw [h1,show p - w = (2 * q + 0) * w + r by rw [Nat.add_mul] at e ⊢; omega]
    exact joq (by decide) hr
theorem jce {w p:Nat} (hw:0 < w):flp w (flp w p) = p:=by
  have h:=ja5 (p:=p) hw
  have h2:=jbA w p
  by_cases c:bit w p = 0
  · have e:flp w p = p + w:=if_pos c
    rw [c] at h
    rw [e] at h ⊢
    unfold flp
    rw [if_neg (by omega)]; omega
  · have c1:bit w p = 1:=by omega
    have e:flp w p = p - w:=if_neg c
    have:=jkM hw c1
    rw [c1] at h
    rw [e] at h ⊢
    unfold flp
    rw [if_pos (by omega)]; omega
theorem jrM (a b:Nat):Builtin.bitAnd (a:Int) (b:Int) = ((a &&& b:Nat):Int):=by
  unfold Builtin.bitAnd
  simp
theorem jmK {x y z:Nat} (h:x / 2 = y / 2 + z / 2) (m:x % 2 = y % 2 + z % 2):x = y + z:=by omega
theorem jnz {u v w:Nat} {p q:Prop} (hu:u < 2) (hv:v < 2) (hw:w < 2) (m1:u = 1 ↔ p ∨ q) (m2:v = 1 ↔ ¬ (p ↔ q)) (m3:w = 1 ↔ p ∧ q):u = v + w:=by
  have z:∀ {x:Nat},x < 2 → ¬ x = 1 → x = 0:=fun h k=>by omega
  by_cases a:p <;> by_cases b:q
  · rw [m1.mpr (.inl a),m3.mpr ⟨a,b⟩,z hv fun e=>m2.mp e ⟨fun _=>b,fun _=>a⟩]
  · rw [m1.mpr (.inl a),m2.mpr fun e=>b (e.mp a),z hw fun e=>b (m3.mp e).2]
  · rw [m1.mpr (.inr b),m2.mpr fun e=>a (e.mpr b),z hw fun e=>a (m3.mp e).1]
  · rw [z hu fun e=>(m1.mp e).elim a b,z hv fun e=>m2.mp e ⟨fun c=>absurd c a,fun c=>absurd c b⟩,z hw fun e=>a (m3.mp e).1]
theorem jil:∀ (k a b:Nat),a < 2 ^ k → b < 2 ^ k → (a ||| b) = (a ^^^ b) + (a &&& b)
  | 0,a,b,ha,hb=>by
    have:a = 0:=by simpa using ha
    have:b = 0:=by simpa using hb
    subst a; subst b; rfl
  | k + 1,a,b,ha,hb=>by
    have ih:=jil k (a / 2) (b / 2) (by rw [Nat.pow_succ] at ha; omega) (by rw [Nat.pow_succ] at hb; omega)
    have h1:=@Nat.or_div_two a b
    have h2:=@Nat.xor_div_two a b
    have h3:=@Nat.and_div_two a b
    have m1:=@Nat.or_mod_two_eq_one a b
    have m2:=@Nat.xor_mod_two_eq_one a b
    have m3:=@Nat.and_mod_two_eq_one a b
    rw [← h1,← h2,← h3] at ih
    exact jmK ih (jnz (Nat.mod_lt _ (by decide)) (Nat.mod_lt _ (by decide)) (Nat.mod_lt _ (by decide)) m1 m2 m3)
theorem bor (a b:Nat):Builtin.bitOr (a:Int) (b:Int) = ((a ||| b:Nat):Int):=by
  have h1:¬ (0:Int) ≤ Builtin.bitNot (a:Int):=by unfold Builtin.bitNot; omega
  have h2:¬ (0:Int) ≤ Builtin.bitNot (b:Int):=by unfold Builtin.bitNot; omega
  have e1:(Builtin.bitNot (Builtin.bitNot (a:Int))).toNat = a:=by unfold Builtin.bitNot; omega
  have e2:(Builtin.bitNot (Builtin.bitNot (b:Int))).toNat = b:=by unfold Builtin.bitNot; omega
  unfold Builtin.bitOr Builtin.bitAnd
  rw [decide_eq_false h1,decide_eq_false h2]
  dsimp only
  rw [e1,e2]
  unfold Builtin.bitNot
  omega
theorem jtZ (a b:Nat):Builtin.bitXor (a:Int) (b:Int) = ((a ^^^ b:Nat):Int):=by
  unfold Builtin.bitXor
  rw [bor,jrM]
  have h:∀ n:Nat,n < 2 ^ n:=fun n=>Nat.lt_two_pow_self
  have:=jil (max a b) a b (Nat.lt_of_lt_of_le (h a) (Nat.pow_le_pow_right (by decide) (by omega))) (Nat.lt_of_lt_of_le (h b) (Nat.pow_le_pow_right (by decide) (by omega)))
  omega
def cnt (n:Nat):Nat:=if n = 0 then 0 else n % 2 + cnt (n / 2)
termination_by n
decreasing_by omega
def par (n:Nat):Nat:=cnt n % 2
structure Wd where
  x:Nat
  z:Nat
  s:Nat
def Wd.ok (n:Nat) (w:Wd):Prop:=w.x < 2 ^ n ∧ w.z < 2 ^ n ∧ w.s < 4
def Sh (k:Nat) (d:PyData):Prop:=d.canLay0 = true ∧ d.depth ≤ k
theorem Sh.int (k:Nat) (i:Int):Sh k (.int i):=⟨by simp [PyData.canLay0],by simp [PyData.depth]⟩
theorem Sh.all {k:Nat}:∀ (xs:List PyData),(∀ x ∈ xs,Sh k x) → PyData.canLayAll0 xs = true ∧ PyData.depthAll xs ≤ k
  | [],_=>⟨by simp [PyData.canLayAll0],by simp [PyData.depthAll]⟩
  | x :: xs,h=>by
    obtain ⟨a,b⟩:=Sh.all xs fun y hy=>h y (List.mem_cons_of_mem _ hy)
    obtain ⟨c,d⟩:=h x List.mem_cons_self
    refine ⟨by simp [PyData.canLayAll0,a,c],?_⟩
    simp only [PyData.depthAll]
    omega
theorem Sh.tuple {k:Nat} {xs:List PyData} (h:∀ x ∈ xs,Sh k x):Sh (k + 1) (.tuple xs):=by
  obtain ⟨a,b⟩:=Sh.all xs h
  exact ⟨by simp [PyData.canLay0,a],by simp only [PyData.depth]; omega⟩
theorem Sh.list {k:Nat} {xs:List PyData} (h:∀ x ∈ xs,Sh k x):Sh (k + 1) (.list xs):=by
  obtain ⟨a,b⟩:=Sh.all xs h
  exact ⟨by simp [PyData.canLay0,a],by simp only [PyData.depth]; omega⟩
mutual
theorem jlD:∀ d:PyData,d.canLay0 = true → PyData.eqv d d = true
  | .none,_=>by simp [PyData.eqv]
  | .bool _,_=>by simp [PyData.eqv]
  | .int _,_=>by simp [PyData.eqv]
  | .str _,_=>by simp [PyData.eqv]
  | .list xs,h=>by
    simp only [PyData.eqv]
    exact jfn xs (by simpa [PyData.canLay0] using h)
  | .tuple xs,h=>by
    simp only [PyData.eqv]
    exact jfn xs (by simpa [PyData.canLay0] using h)
  | .dict _,h=>by simp [PyData.canLay0] at h
theorem jfn:∀ xs:List PyData,PyData.canLayAll0 xs = true → PyData.eqvAll xs xs = true
  | [],_=>by simp [PyData.eqvAll]
  | x :: xs,h=>by
    have h':x.canLay0 = true ∧ PyData.canLayAll0 xs = true:=by simpa [PyData.canLayAll0] using h
    simp only [PyData.eqvAll,jlD x h'.1,jfn xs h'.2,Bool.and_self]
end
def val (M:Nat) (u:Nu):Q4:=Q4.rtn (M - u.2) u.1
theorem jkv (x:Q4) (k M:Nat) (h:k ≤ M):Q4.rtn (M - (num x k).2.toNat) (num x k).1 = Q4.rtn (M - k) x:=by
  obtain ⟨s1,s2,s3⟩:=jfG x k (by omega)
  have h0:=s1.1
  have e:M - (num x (k:Int)).2.toNat = (M - k) + ((k:Int) - (num x (k:Int)).2).toNat:=by omega
  rw [e,Q4.rtn_add,s3]
theorem jdP (M e:Nat) (u:Nu):val M (jcC e u) = tnn (e % 8) (val M u):=by
  unfold val jcC
  rw [jdD]
theorem jgF {M:Nat} {u v:Nu} (hu:u.2 ≤ M) (hv:v.2 ≤ M):val M (jd5 u v) = Q4.add (val M u) (val M v):=by
  unfold val jd5 jfA
  have hk:max (u.2:Int) v.2 = ((max u.2 v.2:Nat):Int):=by omega
  rw [hk]
  simp only
  rw [jkv _ _ M (by omega),Q4.rtn_addQ,← Q4.rtn_add,← Q4.rtn_add]
  congr 2 <;> congr 1 <;> omega
theorem jgG {M:Nat} {u:Nu} (hu:u.2 + 1 ≤ M):Q4.rt (val M (jeJ u)) = val M u:=by
  unfold val jeJ
  rw [jkv _ _ M hu,← Q4.rtn_succ]
  congr 1
  omega
theorem jrU (M:Nat) (u:Nu):val M (jcC 4 u) = Q4.neg (val M u):=by
  rw [jdP]
  show Q4.tn (Q4.tn (Q4.tn (Q4.tn (val M u)))) = _
  unfold Q4.tn Q4.neg
  rfl
def jdm (u:Nu):Prop:=Q4.Least u.1 u.2
theorem jkh {M:Nat} {u v:Nu} (hu:jdm u) (hv:jdm v) (h1:u.2 ≤ M) (h2:v.2 ≤ M) (h:val M u = val M v):u = v:=by
  obtain ⟨a,b⟩:=Q4.Least.one hu hv h1 h2 h
  exact Prod.ext a b
theorem jjJ (x:Q4) (k:Nat):jdm ((num x k).1,(num x k).2.toNat):=by
  obtain ⟨s1,s2,s3⟩:=jfG x k (by omega)
  show Q4.Least (num x k).1 ((num x k).2.toNat:Int)
  rw [Int.toNat_of_nonneg s1.1]; exact s1
theorem jmk (u:Nu):jdm (jeJ u):=jjJ _ _
theorem jfW {u:Nu} (e:Nat) (h:jdm u):jdm (jcC e u):=jmP _ h
theorem jmm {f:Nat → Nu} (h:∀ p,jdm (f p)) (n:Nat) (r:Row) (p:Nat):jdm (jbw n f r p):=by
  cases r with
  | swing j=>
    show jdm (if bit (wt n j) p = 0 then _ else _)
    split <;> exact jmk _
  | turn j e=>exact jfW _ (h p)
  | sign i j=>exact jfW _ (h p)
  | flip j=>exact h _
  | tie i j=>exact h _
  | cross i j=>exact h _
def jbI:Nat → (Nat → Int) → Int
  | 0,_=>0
  | n + 1,F=>jbI n F + F n
theorem ja0 {F G:Nat → Int}:∀ (n:Nat),(∀ p,p < n → F p = G p) → jbI n F = jbI n G
  | 0,_=>rfl
  | n + 1,h=>by
    show jbI n F + F n = jbI n G + G n
    rw [ja0 n fun p hp=>h p (by omega),h n (by omega)]
theorem jeX (F G:Nat → Int):∀ n:Nat,jbI n (fun p=>F p + G p) = jbI n F + jbI n G
  | 0=>rfl
  | n + 1=>by
    show jbI n _ + (F n + G n) = jbI n F + F n + (jbI n G + G n)
    rw [jeX F G n]; omega
theorem jf0 (F:Nat → Int) (a:Nat):∀ b:Nat,jbI (a + b) F = jbI a F + jbI b (fun r=>F (a + r))
  | 0=>by show jbI a F = jbI a F + 0; omega
  | b + 1=>by
    show jbI (a + b) F + F (a + b) = _ + (jbI b _ + F (a + b))
    rw [jf0 F a b]; omega
theorem jle (F:Nat → Int) (b:Nat):∀ a:Nat,jbI (a * b) F = jbI a (fun q=>jbI b (fun r=>F (q * b + r)))
  | 0=>by rw [Nat.zero_mul]; rfl
  | a + 1=>by
    rw [Nat.succ_mul,jf0,jle F b a]; rfl
theorem jk8 {n j:Nat} (hj:j < n) {F G:Nat → Int} (h:∀ p,p < 2 ^ n → bit (wt n j) p = 0 → G p + G (p + wt n j) = F p + F (p + wt n j)):jbI (2 ^ n) G = jbI (2 ^ n) F:=by
  have hw:=jaU n j
  have e:2 ^ n = 2 ^ j * (wt n j + wt n j):=by
    rw [jqP hj,Nat.pow_succ,Nat.mul_comm,Nat.mul_assoc,Nat.mul_comm 2,Nat.mul_two]
  have two:∀ H:Nat → Int,jbI (2 ^ n) H = jbI (2 ^ j) (fun q=>jbI (wt n j) (fun r=>H (q * (wt n j + wt n j) + r) + H (q * (wt n j + wt n j) + r + wt n j))):=fun H=>by
    rw [e,jle]
    refine ja0 _ fun q _=>?_
    rw [jf0,← jeX]
    refine ja0 _ fun r _=>?_
    rw [← Nat.add_assoc,Nat.add_right_comm]
  rw [two G,two F]
  refine ja0 _ fun q hq=>ja0 _ fun r hr=>?_
  have e2:q * (wt n j + wt n j) + r = (2 * q + 0) * wt n j + r:=by
    rw [Nat.add_zero,Nat.mul_add,← Nat.add_mul,← Nat.two_mul]
  have hb:bit (wt n j) (q * (wt n j + wt n j) + r) = 0:=by rw [e2]; exact joq (by decide) hr
  have hl:q * (wt n j + wt n j) + r < 2 ^ n:=by
    have:(q + 1) * (wt n j + wt n j) ≤ 2 ^ j * (wt n j + wt n j):=Nat.mul_le_mul_right _ hq
    rw [Nat.succ_mul] at this
    omega
  exact h _ hl hb
theorem jk9 {n j:Nat} (hj:j < n) (c:Nat → Bool) (hc:∀ p,c (flp (wt n j) p) = c p) (F:Nat → Int):jbI (2 ^ n) (fun p=>F (if c p = true then flp (wt n j) p else p)) = jbI (2 ^ n) F:=by
  refine jk8 hj fun p hp hb=>?_
  have e:flp (wt n j) p = p + wt n j:=if_pos hb
  have hc:=hc p
  rw [e] at hc
  have hw:=jaU n j
  have e2:flp (wt n j) (p + wt n j) = p:=by rw [← e]; exact jce hw
  rw [hc,e,e2]
  by_cases h:c p = true
  · rw [if_pos h,if_pos h]; omega
  · rw [if_neg h,if_neg h]
theorem jiz {n i j:Nat} (hi:i < n) (hj:j < n) (hij:i ≠ j) (F:Nat → Int):jbI (2 ^ n) (fun p=>F (from_ n (.tie i j) p)) = jbI (2 ^ n) F:=by
  have:=jk9 hj (fun p=>!(bit (wt n i) p == 0)) (fun p=>by rw [jcw hj hi (Ne.symm hij)]) F
  rw [← this]
  refine ja0 _ fun p _=>?_
  show F (if bit (wt n i) p = 0 then p else flp (wt n j) p) = _
  by_cases h:bit (wt n i) p = 0 <;> simp [h]
theorem jwW {w p:Nat} (hw:0 < w):((flp w p:Nat):Int) = (p:Int) + w - 2 * ((w * bit w p:Nat):Int):=by
  have h2:=jbA w p
  unfold flp
  by_cases h:bit w p = 0
  · rw [if_pos h,h]; omega
  · have h1:bit w p = 1:=by omega
    have:=jkM hw h1
    rw [if_neg h,h1]; omega
theorem je7 {n i j p:Nat} (hi:i < n) (hj:j < n) (hij:i ≠ j):flp (wt n j) (flp (wt n i) p) = flp (wt n i) (flp (wt n j) p):=by
  have a:=jwW (p:=flp (wt n i) p) (jaU n j)
  have b:=jwW (p:=flp (wt n j) p) (jaU n i)
  rw [jcw hi hj hij,jwW (jaU n i)] at a
  rw [jcw hj hi (Ne.symm hij),jwW (jaU n j)] at b
  omega
theorem jmU {n i j:Nat} (hi:i < n) (hj:j < n) (hij:i ≠ j) (F:Nat → Int):jbI (2 ^ n) (fun p=>F (from_ n (.cross i j) p)) = jbI (2 ^ n) F:=by
  have h1:=jiz hi hj hij (fun p=>F (from_ n (.tie i j) (from_ n (.tie j i) p)))
  have h2:=jiz hj hi (Ne.symm hij) (fun p=>F (from_ n (.tie i j) p))
  have h3:=jiz hi hj hij F
  rw [← h3,← h2,← h1]
  refine ja0 _ fun p _=>?_
  have hwi:=jaU n i
  have hwj:=jaU n j
  have a1:=jbA (wt n i) p
  have a2:=jbA (wt n j) p
  have f1:=jcw (p:=p) hj hi (Ne.symm hij)
  have f2:=ja5 (p:=p) hwj
  have f3:=jcw (p:=p) hi hj hij
  have f4:=ja5 (p:=p) hwi
  congr 1
  show (if bit (wt n i) p = bit (wt n j) p then p else flp (wt n j) (flp (wt n i) p)) = _
  have b1:bit (wt n i) p = 0 ∨ bit (wt n i) p = 1:=by omega
  have b2:bit (wt n j) p = 0 ∨ bit (wt n j) p = 1:=by omega
  have comm:flp (wt n j) (flp (wt n i) p) = flp (wt n i) (flp (wt n j) p):=je7 hi hj hij
  have on:∀ {i j p:Nat},bit (wt n i) p = 1 → from_ n (.tie i j) p = flp (wt n j) p:=fun {i j p} h=>by
    show (if bit (wt n i) p = 0 then p else flp (wt n j) p) = _
    rw [h]; rfl
  have off:∀ {i j p:Nat},bit (wt n i) p = 0 → from_ n (.tie i j) p = p:=fun {i j p} h=>if_pos h
  rcases b1 with b1 | b1 <;> rcases b2 with b2 | b2
  · rw [if_pos (by rw [b1,b2]),off b1,off b2,off b1]
  · rw [if_neg (by rw [b1,b2]; decide),off b1,on b2,on (by rw [f4,b1])]
  · rw [if_neg (by rw [b1,b2]; decide),on b1,on (i:=j) (by rw [f2,b2]),off (by rw [ja5 hwi,f1,b1]),comm]
  · rw [if_pos (by rw [b1,b2]),on b1,off (i:=j) (by rw [f2,b2]),on (by rw [f1,b1]),jce hwj]
theorem jfB (u v:Nu):(jd5 u v).2 ≤ max u.2 v.2:=by
  have hk:max (u.2:Int) v.2 = ((max u.2 v.2:Nat):Int):=by omega
  unfold jd5 jfA
  rw [hk]
  obtain ⟨s1,s2,s3⟩:=jfG (Q4.add (Q4.rtn (((max u.2 v.2:Nat):Int) - u.2).toNat u.1) (Q4.rtn (((max u.2 v.2:Nat):Int) - v.2).toNat v.1)) ((max u.2 v.2:Nat):Int) (by omega)
  show (num _ _).2.toNat ≤ _
  omega
theorem jlr {x y s t:Q4} (h1:Q4.rt x = Q4.add s t) (h2:Q4.rt y = Q4.add s (Q4.neg t)):S2.add (nrm x) (nrm y) = S2.add (nrm s) (nrm t):=by
  apply S2.sc_inj (n:=1)
  rw [S2.sc_addS,← jnt,← jnt,h1,h2,jsz]
  apply S2.ext' <;> simp only [S2.add,S2.sc] <;> omega
def jpD (M n:Nat) (f:Nat → Nu):S2:=⟨jbI (2 ^ n) (fun p=>(nrm (val M (f p))).p),jbI (2 ^ n) (fun p=>(nrm (val M (f p))).q)⟩
theorem jla {n M:Nat} (r:Row) (hr:r.ok n) (f:Nat → Nu) (hf:∀ p,(f p).2 + 1 ≤ M) (F:Q4 → Int) (ht:∀ e x,F (tnn e x) = F x) (hp:∀ x y s t,Q4.rt x = Q4.add s t → Q4.rt y = Q4.add s (Q4.neg t) → F x + F y = F s + F t):jbI (2 ^ n) (fun p=>F (val M (jbw n f r p))) = jbI (2 ^ n) (fun p=>F (val M (f p))):=by
  cases r with
  | swing j=>
    refine jk8 hr fun p hp' hb=>?_
    have hw:=jaU n j
    have hb1:bit (wt n j) (p + wt n j) = 1:=by
      have:=ja5 (p:=p) hw
      rw [show flp (wt n j) p = p + wt n j from if_pos hb,hb] at this
      exact this
    have e1:jbw n f (.swing j) p = jeJ (jd5 (f p) (f (p + wt n j))):=if_pos hb
    have e2:jbw n f (.swing j) (p + wt n j) = jeJ (jd5 (f (p + wt n j - wt n j)) (jcC 4 (f (p + wt n j)))):=if_neg (by rw [hb1]; decide)
    rw [Nat.add_sub_cancel] at e2
    rw [e1,e2]
    have a:=hf p
    have b:=hf (p + wt n j)
    have l1:(jd5 (f p) (f (p + wt n j))).2 ≤ max (f p).2 (f (p + wt n j)).2:=jfB _ _
    have l2:(jd5 (f p) (jcC 4 (f (p + wt n j)))).2 ≤ max (f p).2 (f (p + wt n j)).2:=jfB _ _
    refine hp _ _ _ _ ?_ ?_
    · rw [jgG (by omega),jgF (by omega) (by omega)]
    · rw [jgG (by omega),jgF (by omega) (by show (f (p + wt n j)).2 ≤ M; omega),jrU]
  | turn j e=>exact ja0 _ fun p _=>by show F (val M (jcC _ (f p))) = _; rw [jdP,ht]
  | sign i j=>exact ja0 _ fun p _=>by show F (val M (jcC _ (f p))) = _; rw [jdP,ht]
  | flip j=>
    have:=jk9 hr (fun _=>true) (fun _=>rfl) (fun p=>F (val M (f p)))
    exact this
  | tie i j=>exact jiz hr.1 hr.2.1 hr.2.2 (fun p=>F (val M (f p)))
  | cross i j=>exact jmU hr.1 hr.2.1 hr.2.2 (fun p=>F (val M (f p)))
theorem jns {n M:Nat} (r:Row) (hr:r.ok n) (f:Nat → Nu) (hf:∀ p,(f p).2 + 1 ≤ M):jpD M n (jbw n f r) = jpD M n f:=by
  apply S2.ext'
  · exact jla r hr f hf (fun x=>(nrm x).p) (fun e x=>by rw [jkw]) fun x y s t h1 h2=>by
      have:=congrArg S2.p (jlr h1 h2); exact this
  · exact jla r hr f hf (fun x=>(nrm x).q) (fun e x=>by rw [jkw]) fun x y s t h1 h2=>by
      have:=congrArg S2.q (jlr h1 h2); exact this
def jld (N:Nat) (F:Nat → Q4):Q4:=⟨jbI N (fun p=>(F p).a),jbI N (fun p=>(F p).b),jbI N (fun p=>(F p).c),jbI N (fun p=>(F p).d)⟩
theorem jg3 (N:Nat) (F:Nat → Q4):jld (N + 1) F = Q4.add (jld N F) (F N):=rfl
theorem jfZ {F G:Nat → Q4} (N:Nat) (h:∀ p,p < N → F p = G p):jld N F = jld N G:=by
  apply Q4.ext'
  · exact ja0 N fun p hp=>by rw [h p hp]
  · exact ja0 N fun p hp=>by rw [h p hp]
  · exact ja0 N fun p hp=>by rw [h p hp]
  · exact ja0 N fun p hp=>by rw [h p hp]
theorem mul_two (s t s' t':Q4):Q4.add (Q4.mul (Q4.mir (Q4.add s t)) (Q4.add s' t')) (Q4.mul (Q4.mir (Q4.add s (Q4.neg t))) (Q4.add s' (Q4.neg t'))) = Q4.dbl 2 (Q4.add (Q4.mul (Q4.mir s) s') (Q4.mul (Q4.mir t) t')):=by
  apply Q4.ext' <;> simp only [Q4.mul,Q4.mir,Q4.add,Q4.neg,Q4.dbl] <;> grind
def jdR (u v:Nu):Nu:=((jeD u.1 u.2 v.1 v.2).1,(jeD u.1 u.2 v.1 v.2).2.toNat)
theorem jeW (u v:Nu):(u.2:Int) + v.2 = ((u.2 + v.2:Nat):Int):=by omega
theorem jgZ (u v:Nu):jdm (jdR u v):=by
  unfold jdR jeD
  rw [jeW]
  exact jjJ _ _
theorem jmQ (u v:Nu):(jdR u v).2 ≤ u.2 + v.2:=by
  unfold jdR jeD
  rw [jeW]
  obtain ⟨s1,s2,s3⟩:=jfG (Q4.mul u.1 v.1) ((u.2 + v.2:Nat):Int) (by omega)
  show (num _ _).2.toNat ≤ _
  omega
theorem jmF {M N:Nat} {u v:Nu} (hu:u.2 ≤ M) (hv:v.2 ≤ N):val (M + N) (jdR u v) = Q4.mul (val M u) (val N v):=by
  unfold val jdR jeD
  rw [jeW]
  simp only
  rw [jkv _ _ (M + N) (by omega),show M + N - (u.2 + v.2) = (M - u.2) + (N - v.2) by omega,Q4.rtn_mul2]
theorem jcX:∀ k,Q4.rtn k ⟨0,0,0,0⟩ = ⟨0,0,0,0⟩
  | 0=>rfl
  | k + 1=>by rw [Q4.rtn_succ,jcX k]; rfl
theorem jmV (F:Nat → Q4):∀ N:Nat,Q4.rt (jld N F) = jld N (fun p=>Q4.rt (F p))
  | 0=>by apply Q4.ext' <;> rfl
  | N + 1=>by rw [jg3,Q4.rt_add,jmV F N]; rfl
theorem jua (x y:Q4):Q4.tn (Q4.add x y) = Q4.add (Q4.tn x) (Q4.tn y):=by apply Q4.ext' <;> simp only [Q4.tn,Q4.add] <;> omega
theorem jeV (e:Nat):∀ (x y:Q4),tnn e (Q4.add x y) = Q4.add (tnn e x) (tnn e y):=by
  induction e with
  | zero=>intro x y; rfl
  | succ e ih=>
    intro x y
    have e1:∀ z,tnn (e + 1) z = tnn e (Q4.tn z):=fun z=>by rw [jdf e 1 z]; rfl
    rw [e1,e1,e1,jua,ih]
theorem jo0 (e:Nat):tnn e ⟨0,0,0,0⟩ = ⟨0,0,0,0⟩:=by
  induction e with
  | zero=>rfl
  | succ e ih=>
    have e1:∀ z,tnn (e + 1) z = tnn e (Q4.tn z):=fun z=>by rw [jdf e 1 z]; rfl
    rw [e1]
    exact ih
theorem jiA (e:Nat) (F:Nat → Q4):∀ N:Nat,tnn e (jld N F) = jld N (fun p=>tnn e (F p))
  | 0=>jo0 e
  | N + 1=>by rw [jg3,jeV,jiA e F N]; rfl
theorem jlc (F G:Nat → Q4) (N:Nat):jld N (fun p=>Q4.add (F p) (G p)) = Q4.add (jld N F) (jld N G):=by
  apply Q4.ext'
  · exact jeX (fun p=>(F p).a) (fun p=>(G p).a) N
  · exact jeX (fun p=>(F p).b) (fun p=>(G p).b) N
  · exact jeX (fun p=>(F p).c) (fun p=>(G p).c) N
  · exact jeX (fun p=>(F p).d) (fun p=>(G p).d) N
theorem jgX {n M j:Nat} {f:Nat → Nu} (hf:∀ p,(f p).2 + 1 ≤ M) (x:Nat):Q4.rt (val M (jbw n f (.swing j) x)) = if bit (wt n j) x = 0 then Q4.add (val M (f x)) (val M (f (x + wt n j))) else Q4.add (val M (f (x - wt n j))) (tnn 4 (val M (f x))):=by
  show Q4.rt (val M (if bit (wt n j) x = 0 then jeJ (jd5 (f x) (f (x + wt n j))) else jeJ (jd5 (f (x - wt n j)) (jcC 4 (f x))))) = _
  split
  · have a:=hf x
    have b:=hf (x + wt n j)
    have l:=jfB (f x) (f (x + wt n j))
    rw [jgG (by omega),jgF (by omega) (by omega)]
  · have a:=hf x
    have b:=hf (x - wt n j)
    have l:(jd5 (f (x - wt n j)) (jcC 4 (f x))).2 ≤ max (f (x - wt n j)).2 (f x).2:=jfB _ _
    rw [jgG (by omega),jgF (by omega) (by show (f x).2 ≤ M; omega),jdP]
def Sup (N M K:Nat) (a:Nat → Q4) (c:Nat → Nat → Nu) (g:Nat → Nu):Prop:=∀ x,val N (g x) = jld K (fun p=>Q4.mul (a p) (val M (c p x)))
theorem Sup.done {n N M K:Nat} {a:Nat → Q4} {c:Nat → Nat → Nu} {g:Nat → Nu} (h:Sup N M K a c g) (hg:∀ p,(g p).2 + 1 ≤ N) (hc:∀ p x,(c p x).2 + 1 ≤ M) (r:Row):Sup N M K a (fun p=>jbw n (c p) r) (jbw n g r):=by
  have tm:∀ (e:Nat) (x:Nat),val N (jcC e (g x)) = jld K (fun p=>Q4.mul (a p) (val M (jcC e (c p x)))):=fun e x=>by
    rw [jdP,h x,jiA]
    refine jfZ _ fun p _=>?_
    rw [jmO,jdP]
  intro x
  cases r with
  | swing j=>
    apply Q4.rt_inj
    rw [jgX hg x,jmV]
    have e:∀ p,Q4.rt (Q4.mul (a p) (val M (jbw n (c p) (.swing j) x))) = Q4.mul (a p) (if bit (wt n j) x = 0 then Q4.add (val M (c p x)) (val M (c p (x + wt n j))) else Q4.add (val M (c p (x - wt n j))) (tnn 4 (val M (c p x)))):=fun p=>by
      rw [← jgX (hc p) x,Q4.mul_comm,Q4.rt_mul,Q4.mul_comm]
    simp only [e]
    split
    · rw [h x,h (x + wt n j),← jlc]
      exact jfZ _ fun p _=>by rw [Q4.mul_add]
    · rw [h x,h (x - wt n j),jiA,← jlc]
      exact jfZ _ fun p _=>by rw [Q4.mul_add,jmO]
  | turn j e=>exact tm _ x
  | sign i j=>exact tm _ x
  | flip j=>exact h _
  | tie i j=>exact h _
  | cross i j=>exact h _
def jfE (p:Nat):Nat → Nu:=fun q=>if q = p then (⟨1,0,0,0⟩,0) else (⟨0,0,0,0⟩,0)
theorem jlb {F:Nat → Q4} {x:Nat} (hF:∀ p,p ≠ x → F p = ⟨0,0,0,0⟩):∀ N:Nat,jld N F = if x < N then F x else ⟨0,0,0,0⟩
  | 0=>by rw [if_neg (by omega)]; apply Q4.ext' <;> rfl
  | N + 1=>by
    rw [jg3,jlb hF N]
    by_cases h:x < N
    · rw [if_pos h,if_pos (by omega),hF N (by omega)]
      apply Q4.ext' <;> simp [Q4.add]
    · by_cases h2:x = N
      · subst h2
        rw [if_neg h,if_pos (by omega)]
        apply Q4.ext' <;> simp [Q4.add]
      · rw [if_neg h,if_neg (by omega),hF N (Ne.symm h2)]
        apply Q4.ext' <;> simp [Q4.add]
theorem jnx (x:Q4):Q4.mul x ⟨0,0,0,0⟩ = ⟨0,0,0,0⟩:=by apply Q4.ext' <;> simp [Q4.mul]
theorem jpM (x:Q4):Q4.mul x ⟨1,0,0,0⟩ = x:=by apply Q4.ext' <;> simp [Q4.mul]
theorem jk2 (M:Nat):val M (⟨0,0,0,0⟩,0) = ⟨0,0,0,0⟩:=jcX _
theorem Sup.start {n M:Nat} (s:Nat → Nu) (hs:∀ p,(s p).2 ≤ M) (hz:∀ p,2 ^ n ≤ p → s p = (⟨0,0,0,0⟩,0)):Sup (M + M) M (2 ^ n) (fun p=>val M (s p)) jfE s:=by
  intro x
  have hF:∀ p,p ≠ x → Q4.mul (val M (s p)) (val M (jfE p x)) = ⟨0,0,0,0⟩:=fun p hp=>by
    unfold jfE
    rw [if_neg (Ne.symm hp),jk2,jnx]
  rw [jlb hF]
  by_cases h:x < 2 ^ n
  · rw [if_pos h]
    unfold jfE
    rw [if_pos rfl]
    unfold val
    have:=hs x
    show Q4.rtn (M + M - (s x).2) (s x).1 = Q4.mul (Q4.rtn (M - (s x).2) (s x).1) (Q4.rtn (M - 0) ⟨1,0,0,0⟩)
    rw [← Q4.rtn_mul2,jpM]
    congr 1
    omega
  · rw [if_neg h,hz x (by omega),jk2]
end MA
namespace GN
open PySem L2 VL
def top (i:Nat):Stmt:=PySem.Challenge.pw_wavewires_k58_papers_judged.main.body.getD i (.Pass ⟨0,0,0,0⟩)
def jcP:List (Str × Bool):=[("HasLooks",true),("UnlikeWires",false)]
def jbS:List (Str × Bool):=[("HasLooks",false),("UnlikeWires",true)]
def jdA:List (Str × Bool):=[("HasLooks",false),("UnlikeWires",false)]
def jdB:List (Str × Bool):=[("HasLooks",false),("UnlikeWires",false)]
def jb9:List (Str × Bool):=[("HasLooks",true),("UnlikeWires",true)]
def hs_WaveError:List Str:=["HasLooks","UnlikeWires"]
abbrev jdp:Stmt:=top 9
abbrev jfP:List Str:=["joined","most"]
def jdx:Sf:=jam (sIf (ob (o2 (oV 0) (oC (.int 0)) eqD)) (jbx (oV 1)) (sNx)) (jbx (os (jac (oV 1) (jac (o2 (o1 (o2 (oV 0) (o1 (oV 0) negD) jmw) jkK) (oC (.int 1)) jcf) (jal))) jwF))
def jbn:List D → Option D:=runB jfP 2 jdx
abbrev jfy:Stmt:=top 10
abbrev jkb:List Str:=["a","b","c","d"]
def jhH:Sf:=jbx (os (jac (o2 (oV 1) (oV 3) jcf) (jac (o2 (oV 0) (oV 2) ja6) (jac (o2 (oV 1) (oV 3) ja6) (jac (o2 (oV 2) (oV 0) jcf) (jal))))) jbm)
def jcJ:List D → Option D:=runB jkb 4 jhH
abbrev jeZ:Stmt:=top 11
abbrev jjj:List Str:=["a","b","c","d","k","twos","doubled"]
def jgT:Sf:=jam (jaF 5 (os (jac (o2 (o2 (o2 (oV 0) (oV 1) orD) (oV 2) orD) (oV 3) orD) (jac (o2 (oV 4) (oC (.int 2)) jcB) (jal))) jbn)) (jam (jaF 0 (o2 (oV 0) (oV 5) joG)) (jam (jaF 1 (o2 (oV 1) (oV 5) joG)) (jam (jaF 2 (o2 (oV 2) (oV 5) joG)) (jam (jaF 3 (o2 (oV 3) (oV 5) joG)) (jam (jaF 4 (o2 (oV 4) (o2 (oC (.int 2)) (oV 5) jeA) jcf)) (jam (sIf (oOr (ob (o2 (oV 4) (oC (.int 0)) eqD)) (oOr (ob (o2 (o2 (o2 (oV 0) (oV 2) jcf) (oC (.int 2)) jbu) (oC (.int 1)) eqD)) (ob (o2 (o2 (o2 (oV 1) (oV 3) jcf) (oC (.int 2)) jbu) (oC (.int 1)) eqD)))) (jbx (os (jac (oV 0) (jac (oV 1) (jac (oV 2) (jac (oV 3) (jac (oV 4) (jal)))))) jbm)) (sNx)) (jam (jaF 6 (os (jac (oV 0) (jac (oV 1) (jac (oV 2) (jac (oV 3) (jal))))) jcJ)) (jbx (os (jac (o2 (o2 (oV 6) (oC (.int 0)) ixD) (oC (.int 2)) jcB) (jac (o2 (o2 (oV 6) (oC (.int 1)) ixD) (oC (.int 2)) jcB) (jac (o2 (o2 (oV 6) (oC (.int 2)) ixD) (oC (.int 2)) jcB) (jac (o2 (o2 (oV 6) (oC (.int 3)) ixD) (oC (.int 2)) jcB) (jac (o2 (oV 4) (oC (.int 1)) jcf) (jal)))))) jbm)))))))))
def jcI:List D → Option D:=runB jjj 5 jgT
abbrev jdS:Stmt:=top 12
abbrev jgo:List Str:=["x","k","more","twos","a","b","c","d"]
def jdZ:Sf:=jam (jaF 2 (o2 (oV 1) (o2 (oV 0) (oC (.int 4)) ixD) jcf)) (jam (jaF 3 (o2 (oV 2) (oC (.int 2)) jcB)) (jam (jaF 4 (o2 (o2 (oV 0) (oC (.int 0)) ixD) (oV 3) jeC)) (jam (jaF 5 (o2 (o2 (oV 0) (oC (.int 1)) ixD) (oV 3) jeC)) (jam (jaF 6 (o2 (o2 (oV 0) (oC (.int 2)) ixD) (oV 3) jeC)) (jam (jaF 7 (o2 (o2 (oV 0) (oC (.int 3)) ixD) (oV 3) jeC)) (jam (sIf (ob (o2 (o2 (oV 2) (oC (.int 2)) jbu) (oC (.int 1)) eqD)) (jbx (os (jac (oV 4) (jac (oV 5) (jac (oV 6) (jac (oV 7) (jal))))) jcJ)) (sNx)) (jbx (os (jac (oV 4) (jac (oV 5) (jac (oV 6) (jac (oV 7) (jal))))) jbm))))))))
def jbL:List D → Option D:=runB jgo 2 jdZ
abbrev jli:Stmt:=top 13
abbrev jrR:List Str:=["x","y","k","s","t"]
def jov:Sf:=jam (jaF 2 (os (jac (o2 (oV 0) (oC (.int 4)) ixD) (jac (o2 (oV 1) (oC (.int 4)) ixD) (jal))) jnC)) (jam (jaF 3 (os (jac (oV 0) (jac (oV 2) (jal))) jbL)) (jam (jaF 4 (os (jac (oV 1) (jac (oV 2) (jal))) jbL)) (jbx (os (jac (o2 (o2 (oV 3) (oC (.int 0)) ixD) (o2 (oV 4) (oC (.int 0)) ixD) ja6) (jac (o2 (o2 (oV 3) (oC (.int 1)) ixD) (o2 (oV 4) (oC (.int 1)) ixD) ja6) (jac (o2 (o2 (oV 3) (oC (.int 2)) ixD) (o2 (oV 4) (oC (.int 2)) ixD) ja6) (jac (o2 (o2 (oV 3) (oC (.int 3)) ixD) (o2 (oV 4) (oC (.int 3)) ixD) ja6) (jac (oV 2) (jal)))))) jcI))))
def jfg:List D → Option D:=runB jrR 2 jov
abbrev jiG:Stmt:=top 14
abbrev joB:List Str:=["x","y"]
def jkT:Sf:=jbx (os (jac (o2 (o2 (o2 (o2 (o2 (oV 0) (oC (.int 0)) ixD) (o2 (oV 1) (oC (.int 0)) ixD) jeA) (o2 (o2 (oV 0) (oC (.int 1)) ixD) (o2 (oV 1) (oC (.int 3)) ixD) jeA) jcf) (o2 (o2 (oV 0) (oC (.int 2)) ixD) (o2 (oV 1) (oC (.int 2)) ixD) jeA) jcf) (o2 (o2 (oV 0) (oC (.int 3)) ixD) (o2 (oV 1) (oC (.int 1)) ixD) jeA) jcf) (jac (o2 (o2 (o2 (o2 (o2 (oV 0) (oC (.int 0)) ixD) (o2 (oV 1) (oC (.int 1)) ixD) jeA) (o2 (o2 (oV 0) (oC (.int 1)) ixD) (o2 (oV 1) (oC (.int 0)) ixD) jeA) ja6) (o2 (o2 (oV 0) (oC (.int 2)) ixD) (o2 (oV 1) (oC (.int 3)) ixD) jeA) jcf) (o2 (o2 (oV 0) (oC (.int 3)) ixD) (o2 (oV 1) (oC (.int 2)) ixD) jeA) jcf) (jac (o2 (o2 (o2 (o2 (o2 (oV 0) (oC (.int 0)) ixD) (o2 (oV 1) (oC (.int 2)) ixD) jeA) (o2 (o2 (oV 0) (oC (.int 1)) ixD) (o2 (oV 1) (oC (.int 1)) ixD) jeA) ja6) (o2 (o2 (oV 0) (oC (.int 2)) ixD) (o2 (oV 1) (oC (.int 0)) ixD) jeA) ja6) (o2 (o2 (oV 0) (oC (.int 3)) ixD) (o2 (oV 1) (oC (.int 3)) ixD) jeA) jcf) (jac (o2 (o2 (o2 (o2 (o2 (oV 0) (oC (.int 0)) ixD) (o2 (oV 1) (oC (.int 3)) ixD) jeA) (o2 (o2 (oV 0) (oC (.int 1)) ixD) (o2 (oV 1) (oC (.int 2)) ixD) jeA) ja6) (o2 (o2 (oV 0) (oC (.int 2)) ixD) (o2 (oV 1) (oC (.int 1)) ixD) jeA) ja6) (o2 (o2 (oV 0) (oC (.int 3)) ixD) (o2 (oV 1) (oC (.int 0)) ixD) jeA) ja6) (jac (o2 (o2 (oV 0) (oC (.int 4)) ixD) (o2 (oV 1) (oC (.int 4)) ixD) ja6) (jal)))))) jcI)
def jcd:List D → Option D:=runB joB 2 jkT
abbrev jfz:Stmt:=top 15
abbrev jkc:List Str:=["x"]
def jhI:Sf:=jbx (os (jac (o1 (o2 (oV 0) (oC (.int 0)) ixD) negD) (jac (o1 (o2 (oV 0) (oC (.int 1)) ixD) negD) (jac (o1 (o2 (oV 0) (oC (.int 2)) ixD) negD) (jac (o1 (o2 (oV 0) (oC (.int 3)) ixD) negD) (jac (o2 (oV 0) (oC (.int 4)) ixD) (jal)))))) jbm)
def jdd:List D → Option D:=runB jkc 1 jhI
abbrev jgJ:Stmt:=top 16
abbrev jlP:List Str:=["x","e","around"]
def jjd:Sf:=jam (jaF 2 (os (jac (o2 (oV 0) (oC (.int 0)) ixD) (jac (o2 (oV 0) (oC (.int 1)) ixD) (jac (o2 (oV 0) (oC (.int 2)) ixD) (jac (o2 (oV 0) (oC (.int 3)) ixD) (jac (o1 (o2 (oV 0) (oC (.int 0)) ixD) negD) (jac (o1 (o2 (oV 0) (oC (.int 1)) ixD) negD) (jac (o1 (o2 (oV 0) (oC (.int 2)) ixD) negD) (jac (o1 (o2 (oV 0) (oC (.int 3)) ixD) negD) (jal))))))))) jbm)) (jbx (os (jac (o2 (oV 2) (o2 (o2 (oC (.int 0)) (oV 1) jcf) (oC (.int 8)) jbu) ixD) (jac (o2 (oV 2) (o2 (o2 (oC (.int 1)) (oV 1) jcf) (oC (.int 8)) jbu) ixD) (jac (o2 (oV 2) (o2 (o2 (oC (.int 2)) (oV 1) jcf) (oC (.int 8)) jbu) ixD) (jac (o2 (oV 2) (o2 (o2 (oC (.int 3)) (oV 1) jcf) (oC (.int 8)) jbu) ixD) (jac (o2 (oV 0) (oC (.int 4)) ixD) (jal)))))) jbm))
def jcr:List D → Option D:=runB jlP 2 jjd
abbrev jgK:Stmt:=top 17
abbrev jlQ:List Str:=["x"]
def jje:Sf:=jbx (os (jac (o2 (oV 0) (oC (.int 0)) ixD) (jac (o2 (oV 0) (oC (.int 1)) ixD) (jac (o2 (oV 0) (oC (.int 2)) ixD) (jac (o2 (oV 0) (oC (.int 3)) ixD) (jac (o2 (o2 (oV 0) (oC (.int 4)) ixD) (oC (.int 1)) ja6) (jal)))))) jcI)
def jcY:List D → Option D:=runB jlQ 1 jje
abbrev jiF:Stmt:=top 20
abbrev joA:List Str:=["wires","wire"]
def jkS:Sf:=jbx (o2 (oC (.int 1)) (o2 (o2 (oV 0) (oC (.int 1)) jcf) (oV 1) jcf) jeC)
def jek:List D → Option D:=runB joA 2 jkS
abbrev jcs:Stmt:=top 21
abbrev jfs:List Str:=["wires","place"]
def jgg:Dv → Option D:=jdv (oL (jac (o2 (oC (.int 1)) (oV 0) jeC) (jal)) jbz) [(1,"place")] bv1 (oIf (ob (o2 (oV 0) (oV 1) eqD)) (oC (.tuple [.int 1,.int 0,.int 0,.int 0,.int 0])) (oC (.tuple [.int 0,.int 0,.int 0,.int 0,.int 0])))
def jfr:Sf:=jbx (os (jac (jgg) (jal)) jc7)
def jbD:List D → Option D:=runB jfs 2 jfr
abbrev jiH:Stmt:=top 22
abbrev joC:List Str:=["state","bit","told","p"]
def jdX:Sf:=sIf (ob (o2 (o2 (oV 3) (oV 1) jmw) (oC (.int 0)) eqD)) (joI 2 (os (jac (os (jac (o2 (oV 0) (oV 3) ixD) (jac (o2 (oV 0) (o2 (oV 3) (oV 1) joV) ixD) (jal))) jfg) (jal)) jcY)) (joI 2 (os (jac (os (jac (o2 (oV 0) (o2 (oV 3) (oV 1) joV) ixD) (jac (os (jac (o2 (oV 0) (oV 3) ixD) (jal)) jdd) (jal))) jfg) (jal)) jcY))
def jkU:Sf:=jam (joH 2 (jal)) (jam (jg7 (oL (jac (os (jac (oV 0) (jal)) jcq) (jal)) jbz) (gN 3) (jdX)) (fun δ=>(jbx (os (jac (oV 2) (jal)) jc7)) (dFz 2 δ)))
def jeK:List D → Option D:=runB joC 2 jkU
abbrev jcg:Stmt:=top 23
abbrev jd9:List Str:=["state","held","e"]
def jeG:Dv → Option D:=jdv (oL (jac (os (jac (oV 0) (jal)) jcq) (jal)) jbz) [(0,"state"),(1,"held"),(2,"e")] bv1 (oIf (ob (o2 (o2 (oV 0) (oV 2) jmw) (oV 2) eqD)) (os (jac (o2 (oV 1) (oV 0) ixD) (jac (oV 3) (jal))) jcr) (o2 (oV 1) (oV 0) ixD))
def jd6:Sf:=jbx (os (jac (jeG) (jal)) jc7)
def jaT:List D → Option D:=runB jd9 3 jd6
abbrev jb0:Stmt:=top 24
abbrev jdM:List Str:=["state","held","bit"]
def jez:Dv → Option D:=jdv (oL (jac (os (jac (oV 0) (jal)) jcq) (jal)) jbz) [(0,"state"),(1,"held"),(2,"bit")] bv1 (oIf (ob (o2 (o2 (oV 0) (oV 2) jmw) (oV 2) eqD)) (o2 (oV 1) (o2 (oV 0) (oV 3) joV) ixD) (o2 (oV 1) (oV 0) ixD))
def jdJ:Sf:=jbx (os (jac (jez) (jal)) jc7)
def jaO:List D → Option D:=runB jdM 3 jdJ
abbrev jef:Stmt:=top 25
abbrev jhM:List Str:=["place","both"]
def jeo:Sf:=jbx (oIf (ob (o2 (o2 (oV 0) (oV 1) jmw) (os (jac (oC (.int 0)) (jac (oV 1) (jal))) jbm) (inD false))) (oV 0) (o2 (oV 0) (oV 1) joV))
def jbP:List D → Option D:=runB jhM 2 jeo
abbrev jjx:Stmt:=top 26
abbrev joE:List Str:=["state","row","wires","first","second"]
def jkn:Dv → Option D:=jdv (oL (jac (os (jac (oV 0) (jal)) jcq) (jal)) jbz) [(0,"state"),(3,"first"),(4,"second")] bv1 (o2 (oV 1) (os (jac (oV 0) (jac (o2 (oV 2) (oV 3) orD) (jal))) jbP) ixD)
def jgn:Sf:=jam (jaF 2 (o2 (o1 (os (jac (oV 0) (jal)) jcq) jkK) (oC (.int 1)) jcf)) (jam (jaF 3 (os (jac (oV 2) (jac (o2 (oV 1) (oC (.int 1)) ixD) (jal))) jek)) (jam (sIf (ob (o2 (o2 (oV 1) (oC (.int 0)) ixD) (oC (.str "swing")) eqD)) (jbx (os (jac (oV 0) (jac (oV 3) (jal))) jeK)) (sNx)) (jam (sIf (ob (o2 (o2 (oV 1) (oC (.int 0)) ixD) (oC (.str "turn")) eqD)) (jbx (os (jac (oV 0) (jac (oV 3) (jac (o2 (oV 1) (oC (.int 2)) ixD) (jal)))) jaT)) (sNx)) (jam (sIf (ob (o2 (o2 (oV 1) (oC (.int 0)) ixD) (oC (.str "flip")) eqD)) (jbx (os (jac (oV 0) (jac (oC (.int 0)) (jac (oV 3) (jal)))) jaO)) (sNx)) (jam (jaF 4 (os (jac (oV 2) (jac (o2 (oV 1) (oC (.int 2)) ixD) (jal))) jek)) (jam (sIf (ob (o2 (o2 (oV 1) (oC (.int 0)) ixD) (oC (.str "tie")) eqD)) (jbx (os (jac (oV 0) (jac (oV 3) (jac (oV 4) (jal)))) jaO)) (sNx)) (jam (sIf (ob (o2 (o2 (oV 1) (oC (.int 0)) ixD) (oC (.str "sign")) eqD)) (jbx (os (jac (oV 0) (jac (o2 (oV 3) (oV 4) orD) (jac (oC (.int 4)) (jal)))) jaT)) (sNx)) (jbx (os (jac (jkn) (jal)) jc7)))))))))
def jcO:List D → Option D:=runB joE 2 jgn
abbrev je1:Stmt:=top 27
abbrev jio:List Str:=["state","rows","row"]
def jcQ:Sf:=jaF 0 (os (jac (oV 0) (jac (oV 2) (jal))) jcO)
def jgd:Sf:=jam (jg7 (oI (oV 1) je6) (gN 2) (jcQ)) (jbx (oV 0))
def jbt:List D → Option D:=runB jio 2 jgd
abbrev jdF:Stmt:=top 28
abbrev jft:List Str:=["rows"]
def jeI:Dv → Option D:=jdv (oI (oV 0) je6) [] bv1 (o2 (o2 (oV 0) (oC (.int 0)) ixD) (oC (.tuple [.str "swing",.str "turn",.str "flip",.str "tie",.str "sign",.str "cross"])) (inD false))
def jep:Sf:=jbx (os (jac (jeI) (jal)) jwg)
def jaX:List D → Option D:=runB jft 1 jep
abbrev jfx:Stmt:=top 29
abbrev jjk:List Str:=["circuit","place"]
def jjf:Sf:=jam (sIf (jlq (ob (os (jac (o2 (oV 0) (oC (.int 1)) ixD) (jal)) jaX))) (sNo) (sNx)) (jbx (os (jac (os (jac (o2 (oV 0) (oC (.int 0)) ixD) (jac (oV 1) (jal))) jbD) (jac (o2 (oV 0) (oC (.int 1)) ixD) (jal))) jbt))
def jaE:List D → Option D:=runB jjk 2 jjf
def jhz:Xf:=xIf (jlq (ob (os (jac (o2 (oV 0) (oC (.int 1)) ixD) (jal)) jaX))) (jk0 "HasLooks" (oC (.str "a circuit with looks has no columns"))) (xNo)
def jdn:List D → Option Str:=jiI jjk 2 jhz
abbrev je0:Stmt:=top 31
abbrev jin:List Str:=["circuit"]
def je8:Sf:=jbx (os (jac (o2 (oV 0) (oC (.int 1)) ixD) (jal)) jaX)
def jaD:List D → Option D:=runB jin 1 je8
abbrev jch:Stmt:=top 33
abbrev jea:List Str:=["one","other"]
def jd7:Sf:=jam (sIf (oOr (jlq (ob (os (jac (oV 0) (jal)) jaD))) (jlq (ob (os (jac (oV 1) (jal)) jaD)))) (sNo) (sNx)) (sIf (ob (o2 (o2 (oV 0) (oC (.int 0)) ixD) (o2 (oV 1) (oC (.int 0)) ixD) neD)) (sNo) (sNx))
def jax:List D → Option D:=runB jea 2 jd7
def jbK:Xf:=joW (xIf (oOr (jlq (ob (os (jac (oV 0) (jal)) jaD))) (jlq (ob (os (jac (oV 1) (jal)) jaD)))) (jk0 "HasLooks" (oC (.str "circuits with looks are not asked whether they are alike"))) (xNo)) (sIf (oOr (jlq (ob (os (jac (oV 0) (jal)) jaD))) (jlq (ob (os (jac (oV 1) (jal)) jaD)))) (sNo) (sNx)) (xIf (ob (o2 (o2 (oV 0) (oC (.int 0)) ixD) (o2 (oV 1) (oC (.int 0)) ixD) neD)) (jk0 "UnlikeWires" (oC (.str "the circuits have unlike numbers of wires"))) (xNo))
def jav:List D → Option Str:=jiI jea 2 jbK
abbrev jb1:Stmt:=top 35
abbrev jdN:List Str:=["circuit","apart","begun"]
def jdi:Dv → Option D:=jdv (oL (jac (o2 (oC (.int 1)) (o2 (oV 0) (oC (.int 0)) ixD) jeC) (jal)) jbz) [(1,"apart")] bv1 (os (jac (o2 (oC (.int 1)) (o2 (oV 1) (oV 0) jeA) jeC) (jac (oC (.int 0)) (jac (oC (.int 0)) (jac (oC (.int 0)) (jac (oC (.int 0)) (jal)))))) jbm)
def jdK:Sf:=jam (jaF 2 (os (jac (jdi) (jal)) jc7)) (jbx (os (jac (oV 2) (jac (o2 (oV 0) (oC (.int 1)) ixD) (jal))) jbt))
def jaP:List D → Option D:=runB jdN 2 jdK
abbrev jeF:Stmt:=top 36
abbrev jhL:List Str:=["one","other","e"]
def jf1:Dv → Option D:=jdv (oI (oV 0) je6) [(2,"e")] bv1 (os (jac (oV 0) (jac (oV 1) (jal))) jcr)
def jec:Sf:=sIf (ob (o2 (os (jac (jf1) (jal)) jc7) (oV 1) eqD)) (jbx (oV 2)) (sNx)
def jhG:Sf:=jam (jg7 (oL (jac (oC (.int 8)) (jal)) jbz) (gN 2) (jec)) (jbx (oC .none))
def jdc:List D → Option D:=runB jhL 2 jhG
abbrev jc9:Stmt:=top 37
abbrev jeT:List Str:=["one","other","swings","apart"]
def jbN:Dv → Option D:=jfF (oI (oV 0) je6) [] bv1 (ob (o2 (o2 (oV 0) (oC (.int 0)) ixD) (oC (.str "swing")) eqD)) (oV 0)
def jeg:Dv → Option D:=jdv (oI (os (jac (o2 (oV 0) (oC (.int 1)) ixD) (jac (o2 (oV 1) (oC (.int 1)) ixD) (jal))) jbm) je6) [] bv1 (os (jac (jbN) (jal)) jcq)
def jeQ:Sf:=jam (jaF 2 (os (jac (jeg) (jal)) jsK)) (jam (jaF 3 (o2 (o2 (oV 2) (oC (.int 2)) jcB) (oC (.int 2)) ja6)) (jbx (os (jac (os (jac (oV 0) (jac (oV 3) (jal))) jaP) (jac (os (jac (oV 1) (jac (oV 3) (jal))) jaP) (jal))) jdc)))
def jaB:List D → Option D:=runB jeT 2 jeQ
abbrev jbT:Stmt:=top 38
abbrev jc3:List Str:=["one","other","f","g","base","b","first","second","p"]
def jcG:Dv → Option D:=jfF (oL (jac (os (jac (oV 2) (jal)) jcq) (jal)) jbz) [(2,"f")] bv1 (ob (o2 (o2 (oV 1) (oV 0) ixD) (oC (.tuple [.int 0,.int 0,.int 0,.int 0,.int 0])) neD)) (oV 0)
def jbv:Sf:=sIf (ob (o2 (os (jac (o2 (oV 2) (oV 4) ixD) (jac (o2 (oV 7) (oV 8) ixD) (jal))) jcd) (os (jac (o2 (oV 6) (oV 8) ixD) (jac (o2 (oV 3) (oV 4) ixD) (jal))) jcd) neD)) (jbx (os (jac (oC (.str "unlike")) (jac (oC (.int 0)) (jac (oV 4) (jac (oV 5) (jac (oV 8) (jal)))))) jbm)) (sNx)
def jb4:Sf:=jam (jaF 6 (os (jac (oV 0) (jac (oV 5) (jal))) jaE)) (jam (jaF 7 (os (jac (oV 1) (jac (oV 5) (jal))) jaE)) (jg7 (oL (jac (os (jac (oV 2) (jal)) jcq) (jal)) jbz) (gN 8) (jbv)))
def jc0:Sf:=jam (jaF 2 (os (jac (oV 0) (jac (oC (.int 0)) (jal))) jaE)) (jam (jaF 3 (os (jac (oV 1) (jac (oC (.int 0)) (jal))) jaE)) (jam (jaF 4 (o2 (jcG) (oC (.int 0)) ixD)) (jg7 (oL (jac (os (jac (oV 2) (jal)) jcq) (jal)) jbz) (gN 5) (jb4))))
def jaS:List D → Option D:=runB jc3 2 jc0
def jdI:Xf:=joW (xE (osX (jac (oV 0) (jac (oC (.int 0)) (jal))) jdn)) (jaF 2 (os (jac (oV 0) (jac (oC (.int 0)) (jal))) jaE)) (xE (osX (jac (oV 1) (jac (oC (.int 0)) (jal))) jdn))
def jbB:List D → Option Str:=jiI jc3 2 jdI
abbrev jcD:Stmt:=top 39
abbrev jeu:List Str:=["one","other","e"]
def jdy:Sf:=jam (jjz (os (jac (oV 0) (jac (oV 1) (jal))) jax)) (jam (jaF 2 (os (jac (oV 0) (jac (oV 1) (jal))) jaB)) (jam (sIf (ob (o2 (oV 2) (oC .none) jnQ)) (jbx (os (jac (oC (.str "alike")) (jac (oV 2) (jal))) jbm)) (sNx)) (jbx (os (jac (oV 0) (jac (oV 1) (jal))) jaS))))
def jaR:List D → Option D:=runB jeu 2 jdy
def jcm:Xf:=joW (xE (osX (jac (oV 0) (jac (oV 1) (jal))) jav)) (jjz (os (jac (oV 0) (jac (oV 1) (jal))) jax)) (jt2 (jaF 2 (os (jac (oV 0) (jac (oV 1) (jal))) jaB)) (jt2 (sIf (ob (o2 (oV 2) (oC .none) jnQ)) (jbx (os (jac (oC (.str "alike")) (jac (oV 2) (jal))) jbm)) (sNx)) (xE (osX (jac (oV 0) (jac (oV 1) (jal))) jbB))))
def jaQ:List D → Option Str:=jiI jeu 2 jcm
abbrev jdC:Stmt:=top 40
abbrev je9:List Str:=["one","other","paper","f","g"]
def jha:Dv → Option D:=jdv (oI (os (jac (oC (.int 1)) (jac (oC (.int 3)) (jal))) jbm) je6) [(0,"one"),(2,"paper")] bv1 (o2 (os (jac (oV 1) (jac (o2 (oV 2) (oV 0) ixD) (jal))) jaE) (o2 (oV 2) (o2 (oV 0) (oC (.int 1)) ja6) ixD) ixD)
def jg9:Dv → Option D:=jdv (oI (os (jac (oC (.int 1)) (jac (oC (.int 3)) (jal))) jbm) je6) [(1,"other"),(2,"paper")] bv1 (o2 (os (jac (oV 1) (jac (o2 (oV 2) (oV 0) ixD) (jal))) jaE) (o2 (oV 2) (o2 (oV 0) (oC (.int 1)) ja6) ixD) ixD)
def jgc:Sf:=jam (jaF 3 (jha)) (jam (jaF 4 (jg9)) (jbx (o2 (os (jac (o2 (oV 3) (oC (.int 0)) ixD) (jac (o2 (oV 4) (oC (.int 1)) ixD) (jal))) jcd) (os (jac (o2 (oV 3) (oC (.int 1)) ixD) (jac (o2 (oV 4) (oC (.int 0)) ixD) (jal))) jcd) neD)))
def jcb:List D → Option D:=runB je9 3 jgc
abbrev jbU:Stmt:=top 41
abbrev jc4:List Str:=["one","other","paper","places"]
def jeH:Dv → Option D:=jdv (oI (oSl (oV 2) (oP (oC (.int 1))) (oNo)) je6) [(3,"places")] bv1 (oCh (oC (.int 0)) (oV 0) (oV 1) leD ltD)
def jcn:Sf:=jam (jjz (os (jac (oV 0) (jac (oV 1) (jal))) jax)) (jam (sIf (ob (o2 (o2 (oV 2) (oC (.int 0)) ixD) (oC (.str "alike")) eqD)) (jbx (o2 (os (jac (oV 0) (jac (oV 1) (jal))) jaB) (o2 (oV 2) (oC (.int 1)) ixD) eqD)) (sNx)) (jam (jaF 3 (o2 (oC (.int 1)) (o2 (oV 0) (oC (.int 0)) ixD) jeC)) (jbx (jmc (os (jac (jeH) (jal)) jwg) (os (jac (oV 0) (jac (oV 1) (jac (oV 2) (jal)))) jcb)))))
def jat:List D → Option D:=runB jc4 3 jcn
def jcK:Xf:=xE (osX (jac (oV 0) (jac (oV 1) (jal))) jav)
def jaN:List D → Option Str:=jiI jc4 3 jcK
abbrev jcW:Stmt:=top 43
abbrev jfj:List Str:=["script","k"]
def jc2:Sf:=jam (sIf (ob (o2 (oV 1) (os (jac (oV 0) (jal)) jcq) ltD)) (jbx (o2 (oV 0) (oV 1) ixD)) (sNx)) (jbx (oC (.int 0)))
def jbd:List D → Option D:=runB jfj 2 jc2
abbrev je2:Stmt:=top 44
abbrev jip:List Str:=["cell","wires","kind","j","i"]
def jcA:Sf:=jam (jaF 2 (o2 (oV 0) (oC (.int 6)) jbu)) (jam (jaF 3 (o2 (o2 (oV 0) (oC (.int 6)) jcB) (oV 1) jbu)) (jam (sIf (jnp (ob (o2 (oV 1) (oC (.int 1)) eqD)) (ob (o2 (oV 2) (oC (.int 2)) gtD))) (jaF 2 (o2 (oV 2) (oC (.int 2)) jbu)) (sNx)) (jam (sIf (ob (o2 (oV 2) (oC (.int 1)) eqD)) (jbx (os (jac (oC (.str "turn")) (jac (oV 3) (jac (o2 (oC (.int 1)) (o2 (o2 (oV 0) (oC (.int 18)) jcB) (oC (.int 7)) jbu) ja6) (jal)))) jbm)) (sNx)) (jam (sIf (oOr (ob (o2 (oV 2) (oC (.int 0)) eqD)) (ob (o2 (oV 2) (oC (.int 2)) eqD))) (jbx (os (jac (o2 (os (jac (oC (.str "swing")) (jac (oC (.str "")) (jac (oC (.str "flip")) (jal)))) jdG) (oV 2) ixD) (jac (oV 3) (jal))) jbm)) (sNx)) (jam (jaF 4 (o2 (o2 (o2 (oV 3) (oC (.int 1)) ja6) (o2 (o2 (oV 0) (oC (.int 18)) jcB) (o2 (oV 1) (oC (.int 1)) jcf) jbu) ja6) (oV 1) jbu)) (jbx (os (jac (o2 (os (jac (oC (.str "tie")) (jac (oC (.str "sign")) (jac (oC (.str "cross")) (jal)))) jdG) (o2 (oV 2) (oC (.int 3)) jcf) ixD) (jac (oV 4) (jac (oV 3) (jal)))) jbm)))))))
def jaz:List D → Option D:=runB jip 2 jcA
abbrev jdr:Stmt:=top 45
abbrev jfR:List Str:=["x","e","step"]
def jck:Sf:=jaF 0 (os (jac (o1 (o2 (oV 0) (oC (.int 3)) ixD) negD) (jac (o2 (oV 0) (oC (.int 0)) ixD) (jac (o2 (oV 0) (oC (.int 1)) ixD) (jac (o2 (oV 0) (oC (.int 2)) ixD) (jal))))) jbm)
def jer:Sf:=jam (jg7 (oL (jac (o2 (oV 1) (oC (.int 8)) jbu) (jal)) jbz) (gN 2) (jck)) (jbx (oV 0))
def jaH:List D → Option D:=runB jfR 2 jer
abbrev jds:Stmt:=top 46
abbrev jfS:List Str:=["x","many","step"]
def jcl:Sf:=jaF 0 (os (jac (o2 (o2 (oV 0) (oC (.int 1)) ixD) (o2 (oV 0) (oC (.int 3)) ixD) jcf) (jac (o2 (o2 (oV 0) (oC (.int 0)) ixD) (o2 (oV 0) (oC (.int 2)) ixD) ja6) (jac (o2 (o2 (oV 0) (oC (.int 1)) ixD) (o2 (oV 0) (oC (.int 3)) ixD) ja6) (jac (o2 (o2 (oV 0) (oC (.int 2)) ixD) (o2 (oV 0) (oC (.int 0)) ixD) jcf) (jal))))) jbm)
def jet:Sf:=jam (jg7 (oL (jac (oV 1) (jal)) jbz) (gN 2) (jcl)) (jbx (oV 0))
def jbc:List D → Option D:=runB jfS 2 jet
abbrev jdV:Stmt:=top 47
abbrev jgr:List Str:=["x","y","made","k","j"]
def jcH:Sf:=jlZ 2 (o2 (oV 3) (oV 4) ja6) (o2 (jfT 2 (o2 (oV 3) (oV 4) ja6)) (o2 (o2 (oV 0) (oV 3) ixD) (o2 (oV 1) (oV 4) ixD) jeA) ja6)
def jca:Sf:=jg7 (oL (jac (oC (.int 4)) (jal)) jbz) (gN 4) (jcH)
def jeS:Sf:=jam (joH 2 (jac (oC (.int 0)) (jac (oC (.int 0)) (jac (oC (.int 0)) (jac (oC (.int 0)) (jac (oC (.int 0)) (jac (oC (.int 0)) (jac (oC (.int 0)) (jal))))))))) (jam (jg7 (oL (jac (oC (.int 4)) (jal)) jbz) (gN 3) (jca)) (jbx (os (jac (o2 (jfT 2 (oC (.int 0))) (jfT 2 (oC (.int 4))) jcf) (jac (o2 (jfT 2 (oC (.int 1))) (jfT 2 (oC (.int 5))) jcf) (jac (o2 (jfT 2 (oC (.int 2))) (jfT 2 (oC (.int 6))) jcf) (jac (jfT 2 (oC (.int 3))) (jal))))) jbm)))
def jbq:List D → Option D:=runB jgr 2 jeS
abbrev jdW:Stmt:=top 48
abbrev jgs:List Str:=["place","row","wires","one","two"]
def jb8:Sf:=jam (jaF 3 (o2 (oC (.int 1)) (o2 (o2 (oV 2) (oC (.int 1)) jcf) (o2 (oV 1) (oC (.int 1)) ixD) jcf) jeC)) (jam (sIf (ob (o2 (o2 (oV 1) (oC (.int 0)) ixD) (oC (.str "flip")) eqD)) (jbx (o2 (oV 0) (oV 3) joV)) (sNx)) (jam (jaF 4 (o2 (oC (.int 1)) (o2 (o2 (oV 2) (oC (.int 1)) jcf) (o2 (oV 1) (oC (.int 2)) ixD) jcf) jeC)) (jam (sIf (jnp (ob (o2 (o2 (oV 1) (oC (.int 0)) ixD) (oC (.str "tie")) eqD)) (ob (o2 (o2 (oV 0) (oV 3) jmw) (oC (.int 0)) gtD))) (jbx (o2 (oV 0) (oV 4) joV)) (sNx)) (jam (sIf (jnp (ob (o2 (o2 (oV 1) (oC (.int 0)) ixD) (oC (.str "cross")) eqD)) (ob (o2 (o2 (o2 (oV 0) (oV 3) jmw) (oC (.int 0)) gtD) (o2 (o2 (oV 0) (oV 4) jmw) (oC (.int 0)) gtD) neD))) (jbx (o2 (oV 0) (o2 (oV 3) (oV 4) orD) joV)) (sNx)) (jbx (oV 0))))))
def jaM:List D → Option D:=runB jgs 3 jb8
abbrev jcF:Stmt:=top 49
abbrev jeU:List Str:=["state","row","wires","made","one","place","x","y"]
def jao:Sf:=jam (jaF 6 (o2 (oV 0) (oV 5) ixD)) (sIf (ob (o2 (o2 (oV 1) (oC (.int 0)) ixD) (oC (.str "swing")) eqD)) (jam (jaF 7 (o2 (oV 0) (o2 (oV 5) (oV 4) joV) ixD)) (sIf (ob (o2 (o2 (oV 5) (oV 4) jmw) (oC (.int 0)) gtD)) (jlZ 3 (oV 5) (os (jac (o2 (o2 (oV 7) (oC (.int 0)) ixD) (o2 (oV 6) (oC (.int 0)) ixD) jcf) (jac (o2 (o2 (oV 7) (oC (.int 1)) ixD) (o2 (oV 6) (oC (.int 1)) ixD) jcf) (jac (o2 (o2 (oV 7) (oC (.int 2)) ixD) (o2 (oV 6) (oC (.int 2)) ixD) jcf) (jac (o2 (o2 (oV 7) (oC (.int 3)) ixD) (o2 (oV 6) (oC (.int 3)) ixD) jcf) (jal))))) jbm)) (jlZ 3 (oV 5) (os (jac (o2 (o2 (oV 6) (oC (.int 0)) ixD) (o2 (oV 7) (oC (.int 0)) ixD) ja6) (jac (o2 (o2 (oV 6) (oC (.int 1)) ixD) (o2 (oV 7) (oC (.int 1)) ixD) ja6) (jac (o2 (o2 (oV 6) (oC (.int 2)) ixD) (o2 (oV 7) (oC (.int 2)) ixD) ja6) (jac (o2 (o2 (oV 6) (oC (.int 3)) ixD) (o2 (oV 7) (oC (.int 3)) ixD) ja6) (jal))))) jbm)))) (sIf (jnp (ob (o2 (o2 (oV 1) (oC (.int 0)) ixD) (oC (.str "turn")) eqD)) (ob (o2 (o2 (oV 5) (oV 4) jmw) (oC (.int 0)) gtD))) (jlZ 3 (oV 5) (os (jac (oV 6) (jac (o2 (oV 1) (oC (.int 2)) ixD) (jal))) jaH)) (sIf (jnp (ob (o2 (o2 (oV 1) (oC (.int 0)) ixD) (oC (.str "sign")) eqD)) (jnp (ob (o2 (o2 (oV 5) (oV 4) jmw) (oC (.int 0)) gtD)) (ob (o2 (o2 (oV 5) (o2 (oC (.int 1)) (o2 (o2 (oV 2) (oC (.int 1)) jcf) (o2 (oV 1) (oC (.int 2)) ixD) jcf) jeC) jmw) (oC (.int 0)) gtD)))) (jlZ 3 (oV 5) (os (jac (oV 6) (jac (oC (.int 4)) (jal))) jaH)) (sIf (ob (o2 (o2 (oV 1) (oC (.int 0)) ixD) (os (jac (oC (.str "flip")) (jac (oC (.str "tie")) (jac (oC (.str "cross")) (jal)))) jbm) (inD false))) (jlZ 3 (os (jac (oV 5) (jac (oV 1) (jac (oV 2) (jal)))) jaM) (oV 6)) (sNx)))))
def jdL:Sf:=jam (jjy 3 (oLs (jac (oV 0) (jal)))) (jam (jaF 4 (o2 (oC (.int 1)) (o2 (o2 (oV 2) (oC (.int 1)) jcf) (o2 (oV 1) (oC (.int 1)) ixD) jcf) jeC)) (jam (jg7 (oL (jac (os (jac (oV 0) (jal)) jcq) (jal)) jbz) (gN 5) (jao)) (fun δ=>(jbx (oV 3)) (dFz 3 δ))))
def jaY:List D → Option D:=runB jeU 3 jdL
abbrev jcV:Stmt:=top 50
abbrev jfi:List Str:=["circuit","columns","begin","state","row"]
def jbe:Sf:=fun δ=>(jaF 3 (os (jac (oV 3) (jac (oV 4) (jac (o2 (oV 0) (oC (.int 0)) ixD) (jal)))) jaY)) (dFz 3 δ)
def jbJ:Sf:=jam (jjy 3 (oLi (o2 (os (jac (os (jac (oC (.int 0)) (jac (oC (.int 0)) (jac (oC (.int 0)) (jac (oC (.int 0)) (jal))))) jbm) (jal)) jdG) (o2 (oC (.int 1)) (o2 (oV 0) (oC (.int 0)) ixD) jeC) jpO))) (jam (jlZ 3 (oV 2) (os (jac (oC (.int 1)) (jac (oC (.int 0)) (jac (oC (.int 0)) (jac (oC (.int 0)) (jal))))) jbm)) (jam (jg7 (oI (o2 (oV 0) (oC (.int 1)) ixD) je6) (gN 4) (jbe)) (fun δ=>(joI 1 (oV 3)) (dFz 3 δ))))
def jd8:Sf:=jam (joH 1 (jal)) (jam (jg7 (oL (jac (o2 (oC (.int 1)) (o2 (oV 0) (oC (.int 0)) ixD) jeC) (jal)) jbz) (gN 2) (jbJ)) (fun δ=>(jbx (oV 1)) (dFz 1 δ)))
def jaG:List D → Option D:=runB jfi 1 jd8
abbrev jcE:Stmt:=top 51
abbrev jev:List Str:=["circuit"]
def jff:Dv → Option D:=jfF (oI (o2 (oV 0) (oC (.int 1)) ixD) je6) [] bv1 (ob (o2 (o2 (oV 0) (oC (.int 0)) ixD) (oC (.str "swing")) eqD)) (oV 0)
def jes:Sf:=jbx (os (jac (jff) (jal)) jcq)
def jbo:List D → Option D:=runB jev 1 jes
abbrev jbX:Stmt:=top 52
abbrev jd2:List Str:=["one","other","first","second","e","more","begin","place","x"]
def jba:Sf:=jam (jaF 8 (os (jac (os (jac (o2 (o2 (oV 2) (oV 6) ixD) (oV 7) ixD) (jac (oV 4) (jal))) jaH) (jac (os (jac (oC (.int 0)) (jac (oV 5) (jal))) jnC) (jal))) jbc)) (sIf (ob (o2 (oV 8) (os (jac (o2 (o2 (oV 3) (oV 6) ixD) (oV 7) ixD) (jac (os (jac (oC (.int 0)) (jac (o1 (oV 5) negD) (jal))) jnC) (jal))) jbc) neD)) (jbx (oC (.bool false))) (sNx))
def ja9:Sf:=jg7 (oL (jac (os (jac (oV 2) (jal)) jcq) (jal)) jbz) (gN 7) (jba)
def jcL:Sf:=jam (jaF 5 (o2 (os (jac (oV 1) (jal)) jbo) (os (jac (oV 0) (jal)) jbo) jcf)) (jam (jg7 (oL (jac (os (jac (oV 2) (jal)) jcq) (jal)) jbz) (gN 6) (ja9)) (jbx (oC (.bool true))))
def jaC:List D → Option D:=runB jd2 5 jcL
abbrev jdq:Stmt:=top 53
abbrev jfQ:List Str:=["first","second","spots","x"]
def jeq:Sf:=jam (jaF 3 (os (jac (o2 (o2 (oV 0) (o2 (oV 2) (oC (.int 0)) ixD) ixD) (o2 (oV 2) (oC (.int 1)) ixD) ixD) (jac (o2 (o2 (oV 1) (o2 (oV 2) (oC (.int 2)) ixD) ixD) (o2 (oV 2) (oC (.int 3)) ixD) ixD) (jal))) jbq)) (jbx (o2 (oV 3) (os (jac (o2 (o2 (oV 0) (o2 (oV 2) (oC (.int 2)) ixD) ixD) (o2 (oV 2) (oC (.int 3)) ixD) ixD) (jac (o2 (o2 (oV 1) (o2 (oV 2) (oC (.int 0)) ixD) ixD) (o2 (oV 2) (oC (.int 1)) ixD) ixD) (jal))) jbq) neD))
def jbb:List D → Option D:=runB jfQ 3 jeq
abbrev jdT:Stmt:=top 54
abbrev jgp:List Str:=["row"]
def jd0:Sf:=jam (sIf (ob (o2 (o2 (oV 0) (oC (.int 0)) ixD) (oC (.str "turn")) eqD)) (jbx (os (jac (o2 (oV 0) (oC (.int 1)) ixD) (jal)) jdG)) (sNx)) (jbx (os (jac (oSl (oV 0) (oP (oC (.int 1))) (oNo)) (jal)) jmg))
def jaL:List D → Option D:=runB jgp 1 jd0
abbrev jcU:Stmt:=top 55
abbrev jeb:List Str:=["cell","wires","j","e","row","back","swing","some","i"]
def jc1:Sf:=jam (jaF 2 (o2 (oV 0) (oV 1) jbu)) (jam (jaF 3 (o2 (oC (.int 1)) (o2 (o2 (oV 0) (oC (.int 3)) jcB) (oC (.int 7)) jbu) ja6)) (jam (jaF 4 (os (jac (o2 (oV 0) (oC (.int 21)) jcB) (jac (oV 1) (jal))) jaz)) (jam (jaF 5 (oV 4)) (jam (sIf (ob (o2 (o2 (oV 4) (oC (.int 0)) ixD) (oC (.str "turn")) eqD)) (jaF 5 (os (jac (oC (.str "turn")) (jac (o2 (oV 4) (oC (.int 1)) ixD) (jac (o2 (oC (.int 8)) (o2 (oV 4) (oC (.int 2)) ixD) jcf) (jal)))) jbm)) (sNx)) (jam (jaF 6 (os (jac (oC (.str "swing")) (jac (oV 2) (jal))) jbm)) (jam (joH 7 (jac (os (jac (oV 4) (jac (oV 5) (jal))) jdG) (jac (os (jac (oV 6) (jac (os (jac (oC (.str "turn")) (jac (oV 2) (jac (oC (.int 4)) (jal)))) jbm) (jac (oV 6) (jac (os (jac (oC (.str "flip")) (jac (oV 2) (jal))) jbm) (jal))))) jdG) (jac (os (jac (os (jac (oC (.str "turn")) (jac (oV 2) (jac (oV 3) (jal)))) jbm) (jac (os (jac (oC (.str "turn")) (jac (oV 2) (jac (o2 (oC (.int 8)) (oV 3) jcf) (jal)))) jbm) (jal))) jdG) (jal))))) (jam (sIf (ob (o2 (oV 1) (oC (.int 1)) gtD)) (jam (jaF 8 (o2 (o2 (o2 (oV 2) (oC (.int 1)) ja6) (o2 (o2 (oV 0) (oC (.int 7)) jcB) (o2 (oV 1) (oC (.int 1)) jcf) jbu) ja6) (oV 1) jbu)) (jam (joI 7 (os (jac (os (jac (oC (.str "tie")) (jac (oV 8) (jac (oV 2) (jal)))) jbm) (jac (os (jac (oC (.str "tie")) (jac (oV 2) (jac (oV 8) (jal)))) jbm) (jac (os (jac (oC (.str "tie")) (jac (oV 8) (jac (oV 2) (jal)))) jbm) (jac (os (jac (oC (.str "cross")) (jac (oV 2) (jac (oV 8) (jal)))) jbm) (jal))))) jdG)) (joI 7 (os (jac (os (jac (oC (.str "sign")) (jac (oV 8) (jac (oV 2) (jal)))) jbm) (jac (oV 6) (jac (os (jac (oC (.str "tie")) (jac (oV 8) (jac (oV 2) (jal)))) jbm) (jac (oV 6) (jal))))) jdG)))) (sNx)) (jbx (jfT 7 (o2 (o2 (oV 0) (oC (.int 11)) jcB) (jsy 7) jbu))))))))))
def jbr:List D → Option D:=runB jeb 2 jc1
abbrev jci:Stmt:=top 56
abbrev jc6:List Str:=["rows","cell","wires","room","rest","at","both","more","e","j"]
def jb2:Dv → Option D:=jfF (oI (os (jac (o2 (oV 0) (oV 5) ixD) (jal)) jaL) je6) [(0,"rows"),(5,"at")] bv1 (ob (o2 (oV 0) (os (jac (o2 (oV 1) (o2 (oV 2) (oC (.int 1)) ja6) ixD) (jal)) jaL) (inD false))) (oV 0)
def jcp:Sf:=jam (jaF 4 (o2 (oV 1) (oC (.int 3)) jcB)) (jam (jaF 5 (o2 (oV 4) (o2 (os (jac (oV 0) (jal)) jcq) (oC (.int 1)) ja6) jbu)) (jam (sIf (jnp (ob (o2 (o2 (oV 1) (oC (.int 3)) jbu) (oC (.int 0)) eqD)) (ob (o2 (o2 (oV 5) (oC (.int 1)) ja6) (os (jac (oV 0) (jal)) jcq) ltD))) (jam (jaF 6 (jb2)) (sIf (ob (o2 (oV 6) (os (jal) jdG) eqD)) (jbx (os (jac (o2 (o2 (oSl (oV 0) (oNo) (oP (oV 5))) (os (jac (o2 (oV 0) (o2 (oV 5) (oC (.int 1)) ja6) ixD) (jac (o2 (oV 0) (oV 5) ixD) (jal))) jdG) ja6) (oSl (oV 0) (oP (o2 (oV 5) (oC (.int 2)) ja6)) (oNo)) ja6) (jac (oC (.int 0)) (jal))) jbm)) (sNx))) (sNx)) (jam (jaF 7 (os (jac (o2 (oV 4) (oC (.int 7)) jcB) (jac (oV 2) (jal))) jbr)) (jam (jaF 8 (oC (.int 0))) (jam (sIf (ob (o2 (o2 (oV 1) (oC (.int 3)) jbu) (oC (.int 1)) eqD)) (jam (jaF 9 (o2 (o2 (oV 4) (oC (.int 5)) jcB) (oV 2) jbu)) (jam (jaF 8 (o2 (oC (.int 1)) (o2 (o2 (oV 4) (oC (.int 15)) jcB) (oC (.int 7)) jbu) ja6)) (jaF 7 (os (jac (os (jac (oC (.str "flip")) (jac (oV 9) (jal))) jbm) (jac (os (jac (oC (.str "turn")) (jac (oV 9) (jac (oV 8) (jal)))) jbm) (jac (os (jac (oC (.str "flip")) (jac (oV 9) (jal))) jbm) (jac (os (jac (oC (.str "turn")) (jac (oV 9) (jac (oV 8) (jal)))) jbm) (jal))))) jdG)))) (sNx)) (jam (sIf (ob (o2 (o2 (os (jac (oV 0) (jal)) jcq) (os (jac (oV 7) (jal)) jcq) ja6) (oV 3) gtD)) (jbx (os (jac (oV 0) (jac (oC (.int 0)) (jal))) jbm)) (sNx)) (jbx (os (jac (o2 (o2 (oSl (oV 0) (oNo) (oP (oV 5))) (oV 7) ja6) (oSl (oV 0) (oP (oV 5)) (oNo)) ja6) (jac (oV 8) (jal))) jbm))))))))
def jbV:List D → Option D:=runB jc6 4 jcp
abbrev jda:Stmt:=top 57
abbrev jd3:List Str:=["cell","wires","some","rest","spots"]
def jeh:Dv → Option D:=jdv (oL (jac (oC (.int 4)) (jal)) jbz) [(2,"some"),(3,"rest")] bv1 (o2 (o2 (oV 2) (o2 (os (jac (oC (.int 1)) (jac (oC (.int 11)) (jac (oC (.int 103)) (jac (oC (.int 1009)) (jal))))) jdG) (oV 0) ixD) jcB) (oV 1) jbu)
def jd1:Sf:=jam (jaF 2 (o2 (oC (.int 1)) (oV 1) jeC)) (jam (jaF 3 (o2 (oV 0) (oC (.int 4)) jcB)) (jam (sIf (ob (o2 (o2 (oV 0) (oC (.int 4)) jbu) (oC (.int 0)) eqD)) (jbx (os (jac (oC (.str "alike")) (jac (o2 (os (jac (o2 (o2 (oV 3) (oC (.int 10)) jbu) (oC (.int 1)) jcf) (jac (o2 (o2 (o2 (oV 3) (oC (.int 10)) jcB) (o2 (oC (.int 10)) (oC (.int 30)) jl2) jbu) (o2 (oC (.int 10)) (oC (.int 29)) jl2) jcf) (jal))) jdG) (o2 (o2 (oV 3) (oC (.int 7)) jbu) (oC (.int 6)) jcB) ixD) (jal))) jbm)) (sNx)) (jam (jjy 4 (oLi (jeh))) (jam (sIf (ob (o2 (o2 (oV 0) (oC (.int 4)) jbu) (oC (.int 3)) eqD)) (jlZ 4 (o2 (oV 3) (oC (.int 4)) jbu) (o2 (os (jac (o1 (oC (.int 1)) negD) (jac (oV 2) (jac (o2 (o2 (oV 3) (o2 (oC (.int 10)) (oC (.int 40)) jl2) jbu) (oV 2) ja6) (jac (o2 (o1 (oC (.int 1)) negD) (o2 (oV 3) (o2 (oC (.int 10)) (oC (.int 40)) jl2) jbu) jcf) (jal))))) jdG) (o2 (o2 (oV 3) (oC (.int 4)) jcB) (oC (.int 4)) jbu) ixD)) (sNx)) (jbx (os (jac (oC (.str "unlike")) (jac (jfT 4 (oC (.int 0))) (jac (jfT 4 (oC (.int 1))) (jac (jfT 4 (oC (.int 2))) (jac (jfT 4 (oC (.int 3))) (jal)))))) jbm))))))
def jbM:List D → Option D:=runB jd3 2 jd1
abbrev je3:Stmt:=top 58
abbrev jiq:List Str:=["one","other","first","second","paper","spot"]
def jb6:Sf:=sIf (oOr (ob (o2 (oV 5) (oC (.int 0)) ltD)) (ob (o2 (oV 5) (os (jac (oV 2) (jal)) jcq) geD))) (jbx (oC (.bool false))) (sNx)
def jge:Sf:=jam (sIf (ob (o2 (o2 (oV 4) (oC (.int 0)) ixD) (oC (.str "alike")) eqD)) (jbx (jmc (o2 (oC (.int 0)) (o2 (oV 4) (oC (.int 1)) ixD) leD) (jmc (o2 (o2 (oV 4) (oC (.int 1)) ixD) (oC (.int 8)) ltD) (os (jac (oV 0) (jac (oV 1) (jac (oV 2) (jac (oV 3) (jac (o2 (oV 4) (oC (.int 1)) ixD) (jal)))))) jaC)))) (sNx)) (jam (jg7 (oI (oSl (oV 4) (oP (oC (.int 1))) (oNo)) je6) (gN 5) (jb6)) (jbx (os (jac (oV 2) (jac (oV 3) (jac (oSl (oV 4) (oP (oC (.int 1))) (oNo)) (jal)))) jbb)))
def jcy:List D → Option D:=runB jiq 5 jge
abbrev jdU:Stmt:=top 59
abbrev jgq:List Str:=["one","other","paper","caught","e","flags"]
def jeR:Sf:=jam (jaF 3 (oC .none)) (jam (jq1 4 hs_WaveError (sIf (ob (o2 (oV 2) (oC .none) isD)) (jjz (os (jac (oV 0) (jac (oV 1) (jal))) jaR)) (jjz (os (jac (oV 0) (jac (oV 1) (jac (oV 2) (jal)))) jat))) (xIf (ob (o2 (oV 2) (oC .none) isD)) (xE (osX (jac (oV 0) (jac (oV 1) (jal))) jaQ)) (xE (osX (jac (oV 0) (jac (oV 1) (jac (oV 2) (jal)))) jaN))) (jaF 3 (oV 4))) (jam (sIf (ob (o2 (oV 3) (oC .none) isD)) (jbx (oC (.str "told"))) (sNx)) (jam (joH 5 (jac (o1 (oV 3) (jfU jcP)) (jac (o1 (oV 3) (jfU jbS)) (jac (o1 (oV 3) (jfU jdA)) (jal))))) (jam (joI 5 (o1 (oV 3) (jfU jdB))) (jam (fun δ=>(sIf (oOr (ob (o2 (o2 (oV 5) (oC (.bool true)) jw0) (oC (.int 1)) neD)) (jlq (ob (o1 (oV 3) (jfU jb9))))) (jbx (oC (.str "odd"))) (sNx)) (dFz 5 δ)) (jbx (o2 (os (jac (oC (.str "HasLooks")) (jac (oC (.str "UnlikeWires")) (jac (oC (.str "odd")) (jac (oC (.str "odd")) (jal))))) jdG) (o2 (oV 5) (oC (.bool true)) jvO) ixD)))))))
def jbf:List D → Option D:=runB jgq 3 jeR
abbrev jcT:Stmt:=top 60
abbrev jc5:List Str:=["one","other","cell","due","pair","at","rows","paper"]
def jb5:Sf:=sIf (ob (o2 (os (jac (oV 0) (jac (oV 1) (jac (oV 7) (jal)))) jbf) (oV 3) neD)) (jbx (oC (.bool false))) (sNx)
def jco:Sf:=jam (jaF 3 (oC (.str "told"))) (jam (sIf (ob (o2 (o2 (oV 2) (oC (.int 2)) jbu) (oC (.int 0)) eqD)) (jam (jaF 1 (os (jac (o2 (o2 (oV 1) (oC (.int 0)) ixD) (oC (.int 1)) ja6) (jac (o2 (oV 1) (oC (.int 1)) ixD) (jal))) jbm)) (jaF 3 (oC (.str "UnlikeWires")))) (sNx)) (jam (sIf (ob (o2 (o2 (o2 (oV 2) (oC (.int 2)) jcB) (oC (.int 3)) jbu) (oC (.int 0)) gtD)) (jam (joH 4 (jac (oV 0) (jac (oV 1) (jal)))) (jam (jaF 5 (o2 (o2 (oV 2) (oC (.int 6)) jcB) (oC (.int 2)) jbu)) (jam (jaF 6 (o2 (jfT 4 (oV 5)) (oC (.int 1)) ixD)) (jam (jlZ 4 (oV 5) (os (jac (o2 (jfT 4 (oV 5)) (oC (.int 0)) ixD) (jac (o2 (o2 (oSl (oV 6) (oNo) (oP (o2 (o2 (oV 2) (oC (.int 12)) jcB) (o2 (os (jac (oV 6) (jal)) jcq) (oC (.int 1)) ja6) jbu))) (os (jac (os (jac (oC (.str "look")) (jac (oC (.int 0)) (jal))) jbm) (jal)) jbm) ja6) (oV 6) ja6) (jal))) jbm)) (jam (jaF 0 (jfT 4 (oC (.int 0)))) (jam (jaF 1 (jfT 4 (oC (.int 1)))) (jaF 3 (oC (.str "HasLooks"))))))))) (sNx)) (jam (jg7 (oI (os (jac (oC .none) (jac (os (jac (oC (.str "alike")) (jac (oC (.int 0)) (jal))) jbm) (jac (os (jac (oC (.str "unlike")) (jac (oC (.int 0)) (jac (oC (.int 0)) (jac (oC (.int 0)) (jac (oC (.int 1)) (jal)))))) jbm) (jal)))) jdG) je6) (gN 7) (jb5)) (jbx (oC (.bool true))))))
def jbE:List D → Option D:=runB jc5 3 jco
abbrev jg6:Stmt:=top 61
abbrev joD:List Str:=["script","head","wires","room","rows","others","cell","one","other","first","second","papers","paper","found"]
def jng:Dv → Option D:=jdv (oI (oSl (oV 0) (oP (oC (.int 1))) (oP (o2 (oC (.int 1)) (oV 3) ja6))) je6) [(2,"wires")] bv1 (os (jac (oV 0) (jac (oV 1) (jal))) jaz)
def jnf:Dv → Option D:=jdv (oI (oSl (oV 0) (oP (o2 (oC (.int 1)) (oV 3) ja6)) (oP (o2 (oC (.int 1)) (o2 (oC (.int 2)) (oV 3) jeA) ja6))) je6) [(2,"wires")] bv1 (os (jac (oV 0) (jac (oV 1) (jal))) jaz)
def jib:Sf:=jaF 5 (o2 (os (jac (oV 5) (jac (oV 6) (jac (oV 2) (jac (o2 (oC (.int 2)) (oV 3) jeA) (jal))))) jbV) (oC (.int 0)) ixD)
def jia:Sf:=jam (jaF 12 (os (jac (oV 6) (jac (oV 2) (jal))) jbM)) (jam (jaF 13 (os (jac (oV 7) (jac (oV 8) (jac (oV 12) (jal)))) jat)) (sIf (oOr (jlq (ob (o1 (oV 13) (jmj "bool")))) (ob (o2 (oV 13) (os (jac (oV 7) (jac (oV 8) (jac (oV 9) (jac (oV 10) (jac (oV 12) (jal)))))) jcy) neD))) (jbx (oC (.bool false))) (sNx)))
def jqG:Sf:=jam (jaF 1 (os (jac (oV 0) (jac (oC (.int 0)) (jal))) jbd)) (jam (jaF 2 (o2 (oC (.int 1)) (o2 (oV 1) (oC (.int 3)) jbu) ja6)) (jam (sIf (ob (o2 (o2 (o2 (oV 1) (oC (.int 75)) jcB) (oC (.int 12)) jbu) (oC (.int 7)) eqD)) (jaF 2 (oC (.int 4))) (sNx)) (jam (jaF 3 (o2 (os (jac (oC (.int 12)) (jac (oC (.int 7)) (jac (oC (.int 3)) (jac (oC (.int 2)) (jal))))) jdG) (o2 (oV 2) (oC (.int 1)) jcf) ixD)) (jam (jaF 4 (jng)) (jam (jaF 5 (os (jac (oV 4) (jal)) jmg)) (jam (sIf (ob (o2 (o2 (o2 (oV 1) (oC (.int 3)) jcB) (oC (.int 3)) jbu) (oC (.int 0)) eqD)) (jaF 5 (jnf)) (jg7 (oI (oSl (oV 0) (oP (o2 (oC (.int 1)) (oV 3) ja6)) (oP (o2 (oC (.int 1)) (o2 (oC (.int 2)) (oV 3) jeA) ja6))) je6) (gN 6) (jib))) (jam (jaF 7 (os (jac (oV 2) (jac (os (jac (oV 4) (jal)) jc7) (jal))) jbm)) (jam (jaF 8 (os (jac (oV 2) (jac (os (jac (oV 5) (jal)) jc7) (jal))) jbm)) (jam (sIf (ob (o2 (o2 (o2 (oV 1) (oC (.int 9)) jcB) (oC (.int 5)) jbu) (oC (.int 1)) eqD)) (jbx (os (jac (oV 7) (jac (oV 8) (jac (o2 (oV 1) (oC (.int 45)) jcB) (jal)))) jbE)) (sNx)) (jam (jaF 9 (os (jac (oV 7) (jal)) jaG)) (jam (jaF 10 (os (jac (oV 8) (jal)) jaG)) (jam (jaF 11 (oSl (oV 0) (oP (o2 (oC (.int 1)) (o2 (oC (.int 2)) (oV 3) jeA) ja6)) (oP (o2 (o2 (oC (.int 1)) (o2 (oC (.int 2)) (oV 3) jeA) ja6) (o2 (os (jac (oC (.int 8)) (jac (oC (.int 8)) (jac (oC (.int 8)) (jac (oC (.int 1)) (jal))))) jdG) (o2 (oV 2) (oC (.int 1)) jcf) ixD) ja6)))) (jam (jg7 (oI (o2 (oV 11) (os (jac (o2 (oC (.int 4)) (o2 (oC (.int 4)) (o2 (o2 (oV 1) (oC (.int 45)) jcB) (oC (.int 8)) jbu) jeA) ja6) (jal)) jdG) ja6) je6) (gN 6) (jia)) (jbx (oC (.bool true))))))))))))))))
def js8:List D → Option D:=runB joD 1 jqG
theorem jrV (j m:Int):jbn [.int j,.int m] = some (.int (MA.jrW j m)):=by
  by_cases h:j = 0
  · subst h
    simp [jbn,runB,jdx,jan,MA.jrW]
  · simp [jbn,runB,jdx,jan,MA.jrW,h]
theorem jm8 (a b c d:Int):jcJ [.int a,.int b,.int c,.int d] = some (.tuple [.int (b - d),.int (a + c),.int (b + d),.int (c - a)]):=by
  simp [jcJ,runB,jhH,jan]
def tup5 (x:MA.Q4) (k:Int):D:=.tuple [.int x.a,.int x.b,.int x.c,.int x.d,.int k]
def jyt:Sf:=jaF 5 (VL.os (jac (o2 (o2 (o2 (oV 0) (oV 1) orD) (oV 2) orD) (oV 3) orD) (jac (o2 (oV 4) (oC (.int 2)) jcB) (jal))) jbn)
def jys:Sf:=jaF 0 (o2 (oV 0) (oV 5) joG)
def jyr:Sf:=jaF 1 (o2 (oV 1) (oV 5) joG)
def jyq:Sf:=jaF 2 (o2 (oV 2) (oV 5) joG)
def jyp:Sf:=jaF 3 (o2 (oV 3) (oV 5) joG)
def jyo:Sf:=jaF 4 (o2 (oV 4) (o2 (oC (.int 2)) (oV 5) jeA) jcf)
def jwB:Sf:=sIf (oOr (ob (o2 (oV 4) (oC (.int 0)) eqD)) (oOr (ob (o2 (o2 (o2 (oV 0) (oV 2) jcf) (oC (.int 2)) jbu) (oC (.int 1)) eqD)) (ob (o2 (o2 (o2 (oV 1) (oV 3) jcf) (oC (.int 2)) jbu) (oC (.int 1)) eqD)))) (jbx (VL.os (jac (oV 0) (jac (oV 1) (jac (oV 2) (jac (oV 3) (jac (oV 4) (jal)))))) jbm)) (sNx)
def jwA:Sf:=jaF 6 (VL.os (jac (oV 0) (jac (oV 1) (jac (oV 2) (jac (oV 3) (jal))))) jcJ)
def jwz:Sf:=jbx (VL.os (jac (o2 (o2 (oV 6) (oC (.int 0)) ixD) (oC (.int 2)) jcB) (jac (o2 (o2 (oV 6) (oC (.int 1)) ixD) (oC (.int 2)) jcB) (jac (o2 (o2 (oV 6) (oC (.int 2)) ixD) (oC (.int 2)) jcB) (jac (o2 (o2 (oV 6) (oC (.int 3)) ixD) (oC (.int 2)) jcB) (jac (o2 (oV 4) (oC (.int 1)) jcf) (jal)))))) jbm)
theorem jnq:jgT = jam jyt (jam jys (jam jyr (jam jyq (jam jyp (jam jyo (jam jwB (jam jwA (jwz)))))))):=rfl
theorem jdk {s t:Sf} {δ δ':Dv} (h:s δ = some (.nx,δ')):jam s t δ = t δ':=by simp only [jam,h,Option.bind_some]
theorem jtL {s t:Sf} {δ δ':Dv} {d:D} (h:s δ = some (.rt d,δ')):jam s t δ = some (.rt d,δ'):=by simp only [jam,h,Option.bind_some]
theorem jkf {N:List Str} {n:Nat} {b:Sf} {as:List D} {d:D} {δ':Dv} (hl:as.length = n) (h:b (jan N as) = some (.rt d,δ')):runB N n b as = some d:=by unfold runB; rw [if_pos hl,h]; rfl
theorem nu1 {a b c d k t:Int} (h:jbn [.int (Builtin.bitOr (Builtin.bitOr (Builtin.bitOr a b) c) d),.int (k / 2)] = some (.int t)):jyt [.fz (.int a),.fz (.int b),.fz (.int c),.fz (.int d),.fz (.int k),.un,.un] = some (.nx,[.fz (.int a),.fz (.int b),.fz (.int c),.fz (.int d),.fz (.int k),.fz (.int t),.un]):=by simp [jyt,h]
theorem nu2 (a:Int) (t:Nat) (x1 x2 x3 x4 x6:Sl):jys [.fz (.int a),x1,x2,x3,x4,.fz (.int t),x6] = some (.nx,[.fz (.int (a / 2 ^ t)),x1,x2,x3,x4,.fz (.int t),x6]):=by simp [jys]
theorem nu3 (a:Int) (t:Nat) (x1 x2 x3 x4 x6:Sl):jyr [x1,.fz (.int a),x2,x3,x4,.fz (.int t),x6] = some (.nx,[x1,.fz (.int (a / 2 ^ t)),x2,x3,x4,.fz (.int t),x6]):=by simp [jyr]
theorem nu4 (a:Int) (t:Nat) (x1 x2 x3 x4 x6:Sl):jyq [x1,x2,.fz (.int a),x3,x4,.fz (.int t),x6] = some (.nx,[x1,x2,.fz (.int (a / 2 ^ t)),x3,x4,.fz (.int t),x6]):=by simp [jyq]
theorem nu5 (a:Int) (t:Nat) (x1 x2 x3 x4 x6:Sl):jyp [x1,x2,x3,.fz (.int a),x4,.fz (.int t),x6] = some (.nx,[x1,x2,x3,.fz (.int (a / 2 ^ t)),x4,.fz (.int t),x6]):=by simp [jyp]
theorem nu6 (a:Int) (t:Nat) (x1 x2 x3 x4 x6:Sl):jyo [x1,x2,x3,x4,.fz (.int a),.fz (.int t),x6] = some (.nx,[x1,x2,x3,x4,.fz (.int (a - 2 * t)),.fz (.int t),x6]):=by
  have m2:IntMulOk 2 (t:Int):=.of_left (by decide)
  simp [jyo,m2]
theorem ju6 {f g:Dv → Option Bool} {δ:Dv} (h:f δ = some true):oOr f g δ = some true:=by unfold oOr; rw [h]; rfl
theorem jpC {f g:Dv → Option Bool} {δ:Dv} (h:f δ = some false):oOr f g δ = g δ:=by unfold oOr; rw [h]; rfl
section
variable (a b c d k:Int) (x5 x6:Sl)
theorem jzH:(ob (o2 (oV 4) (oC (.int 0)) eqD)) [.fz (.int a),.fz (.int b),.fz (.int c),.fz (.int d),.fz (.int k),x5,x6] = some (k == 0):=rfl
theorem jzE {f g:Dv → Option D} {δ:Dv} {x y:Int} (hf:f δ = some (.int x)) (hg:g δ = some (.int y)):(ob (o2 (o2 (o2 f g jcf) (oC (.int 2)) jbu) (oC (.int 1)) eqD)) δ = some ((x - y) % 2 == 1):=by
  have s:jcf (.int x) (.int y) = some (.int (x - y)):=rfl
  have m:jbu (.int (x - y)) (.int 2) = some (.int ((x - y) % 2)):=jfH (by decide)
  simp only [ob,o2,oC,hf,hg,Option.bind_some,s,m,jth,jqH]
theorem jzG:(ob (o2 (o2 (o2 (oV 0) (oV 2) jcf) (oC (.int 2)) jbu) (oC (.int 1)) eqD)) [.fz (.int a),.fz (.int b),.fz (.int c),.fz (.int d),.fz (.int k),x5,x6] = some ((a - c) % 2 == 1):=jzE rfl rfl
theorem jzF:(ob (o2 (o2 (o2 (oV 1) (oV 3) jcf) (oC (.int 2)) jbu) (oC (.int 1)) eqD)) [.fz (.int a),.fz (.int b),.fz (.int c),.fz (.int d),.fz (.int k),x5,x6] = some ((b - d) % 2 == 1):=jzE rfl rfl
end
theorem jxP {t:Dv → Option Bool} {u w:Sf} {δ:Dv} (h:t δ = some true):sIf t u w δ = u δ:=by unfold sIf; rw [h]; rfl
theorem jxQ {t:Dv → Option Bool} {u w:Sf} {δ:Dv} (h:t δ = some false):sIf t u w δ = w δ:=by unfold sIf; rw [h]; rfl
theorem jAD (a b c d k:Int) (x5 x6:Sl) (h:k = 0 ∨ (a - c) % 2 = 1 ∨ (b - d) % 2 = 1):jwB [.fz (.int a),.fz (.int b),.fz (.int c),.fz (.int d),.fz (.int k),x5,x6] = some (.rt (.tuple [.int a,.int b,.int c,.int d,.int k]),[.fz (.int a),.fz (.int b),.fz (.int c),.fz (.int d),.fz (.int k),x5,x6]):=by
  refine (jxP ?_).trans rfl
  have t1:=jzH a b c d k x5 x6
  have t2:=jzG a b c d k x5 x6
  have t3:=jzF a b c d k x5 x6
  by_cases q0:k = 0
  · rw [beq_iff_eq.mpr q0] at t1; exact ju6 t1
  · rw [beq_eq_false_iff_ne.mpr q0] at t1
    refine (jpC t1).trans ?_
    by_cases q1:(a - c) % 2 = 1
    · rw [beq_iff_eq.mpr q1] at t2; exact ju6 t2
    · rw [beq_eq_false_iff_ne.mpr q1] at t2
      refine (jpC t2).trans ?_
      rcases h with h | h | h
      · exact absurd h q0
      · exact absurd h q1
      · rw [beq_iff_eq.mpr h] at t3; exact t3
theorem jAE (a b c d k:Int) (x5 x6:Sl) (h:¬(k = 0 ∨ (a - c) % 2 = 1 ∨ (b - d) % 2 = 1)):jwB [.fz (.int a),.fz (.int b),.fz (.int c),.fz (.int d),.fz (.int k),x5,x6] = some (.nx,[.fz (.int a),.fz (.int b),.fz (.int c),.fz (.int d),.fz (.int k),x5,x6]):=by
  have t1:=jzH a b c d k x5 x6
  have t2:=jzG a b c d k x5 x6
  have t3:=jzF a b c d k x5 x6
  rw [beq_eq_false_iff_ne.mpr fun q=>h (.inl q)] at t1
  rw [beq_eq_false_iff_ne.mpr fun q=>h (.inr (.inl q))] at t2
  rw [beq_eq_false_iff_ne.mpr fun q=>h (.inr (.inr q))] at t3
  exact (jxQ ((jpC t1).trans ((jpC t2).trans t3))).trans rfl
theorem nu8 (a b c d:Int) (x4 x5 x6:Sl):jwA [.fz (.int a),.fz (.int b),.fz (.int c),.fz (.int d),x4,x5,x6] = some (.nx,[.fz (.int a),.fz (.int b),.fz (.int c),.fz (.int d),x4,x5,.fz (.tuple [.int (b - d),.int (a + c),.int (b + d),.int (c - a)])]):=by simp [jwA,jm8]
theorem nu9 (p q r s k:Int) (x0 x1 x2 x3 x5:Sl):jwz [x0,x1,x2,x3,.fz (.int k),x5,.fz (.tuple [.int p,.int q,.int r,.int s])] = some (.rt (.tuple [.int (p / 2),.int (q / 2),.int (r / 2),.int (s / 2),.int (k - 1)]),[x0,x1,x2,x3,.fz (.int k),x5,.fz (.tuple [.int p,.int q,.int r,.int s])]):=by simp [jwz]
theorem jnr (a b c d k:Int) (hk:0 ≤ k):jcI [.int a,.int b,.int c,.int d,.int k] = some (tup5 (MA.num ⟨a,b,c,d⟩ k).1 (MA.num ⟨a,b,c,d⟩ k).2):=by
  obtain ⟨t,e,h1,_⟩:=MA.jgY a b c d (k / 2) (Int.ediv_nonneg hk (by decide))
  have tw:=jrV (Builtin.bitOr (Builtin.bitOr (Builtin.bitOr a b) c) d) (k / 2)
  rw [e] at tw
  unfold MA.num tup5
  simp only [e,Int.toNat_natCast]
  generalize ha:a / 2 ^ t = A
  generalize hb:b / 2 ^ t = B
  generalize hc:c / 2 ^ t = C
  generalize hd:d / 2 ^ t = E
  have go:jgT (jan jjj [.int a,.int b,.int c,.int d,.int k]) = (jam jwB (jam jwA jwz)) [.fz (.int A),.fz (.int B),.fz (.int C),.fz (.int E),.fz (.int (k - 2 * t)),.fz (.int t),.un]:=by
    rw [jnq,← ha,← hb,← hc,← hd]
    exact (jdk (nu1 tw)).trans ((jdk (nu2 _ _ _ _ _ _ _)).trans ((jdk (nu3 _ _ _ _ _ _ _)).trans ((jdk (nu4 _ _ _ _ _ _ _)).trans ((jdk (nu5 _ _ _ _ _ _ _)).trans (jdk (nu6 _ _ _ _ _ _ _))))))
  by_cases q:k - 2 * (t:Int) = 0 ∨ (A - C) % 2 = 1 ∨ (B - E) % 2 = 1
  · rw [if_pos q]
    exact jkf rfl (go.trans (jtL (jAD _ _ _ _ _ _ _ q)))
  · rw [if_neg q]
    exact jkf rfl (go.trans ((jdk (jAE _ _ _ _ _ _ _ q)).trans ((jdk (nu8 _ _ _ _ _ _ _)).trans (nu9 _ _ _ _ _ _ _ _ _ _))))
theorem jAJ (c f:Int):jnC [.int c,.int f] = some (.int (max c f)):=by
  rw [jgP]
  congr 2
  rw [Int.max_def]
  split <;> split <;> omega
structure Nm (M:Nat) (r:Int) (x:MA.Q4) (c:Int):Prop where
  le:MA.Q4.Le M x
  ls:MA.Q4.Least x c
  c1:c ≤ r
theorem jyn (x:MA.Q4) (k:Int) (hk:0 ≤ k):jcI [.int x.a,.int x.b,.int x.c,.int x.d,.int k] = some (tup5 (MA.num x k).1 (MA.num x k).2):=jnr _ _ _ _ _ hk
def jxm (x:MA.Q4):D:=.tuple [.int x.a,.int x.b,.int x.c,.int x.d]
theorem jnh (x:MA.Q4) (c k:Int) (h:MA.Q4.Le (2 ^ 100000) x) (h1:c ≤ k) (h2:k - c ≤ 100000):jbL [tup5 x c,.int k] = some (jxm (MA.Q4.rtn (k - c).toNat x)):=by
  obtain ⟨l1,l2,l3,l4⟩:=h
  obtain ⟨t,ht⟩:∃ t:Nat,(k - c) / 2 = t:=⟨((k - c) / 2).toNat,by omega⟩
  have s:∀ i:Int,i.natAbs ≤ 2 ^ 100000 → jeC (.int i) (.int (t:Int)) = some (.int (i * 2 ^ t)):=fun i hi=>by
    have hb:i.natAbs < 2 ^ 100001:=Nat.lt_of_le_of_lt hi (Nat.pow_lt_pow_right (by decide) (by decide))
    have:=MA.ji5 hb
    have q:=jgI (i:=i) (j:=(t:Int)) (by omega) (by omega)
    simpa using q
  have r2:=MA.Q4.rtn_two t x
  unfold tup5 jxm
  by_cases o:(k - c) % 2 = 1
  · have e:(k - c).toNat = 2 * t + 1:=by omega
    have m:(2 * (t:Int) + 1) % 2 = 1:=by omega
    rw [e,MA.Q4.rtn_succ,r2]
    simp [jbL,runB,jdZ,jan,ht,o,s _ l1,s _ l2,s _ l3,s _ l4,jm8,MA.Q4.rt,MA.Q4.dbl]
  · have e:(k - c).toNat = 2 * t:=by omega
    rw [e,r2]
    simp [jbL,runB,jdZ,jan,ht,o,s _ l1,s _ l2,s _ l3,s _ l4,MA.Q4.dbl]
theorem jsk (x:MA.Q4) (c:Int) (y:MA.Q4) (d:Int) (hx:MA.Q4.Le (2 ^ 100000) x) (hy:MA.Q4.Le (2 ^ 100000) y) (hc:0 ≤ c) (hd:0 ≤ d) (hc1:c ≤ 100000) (hd1:d ≤ 100000):jfg [tup5 x c,tup5 y d] = some (tup5 (MA.jfA x c y d).1 (MA.jfA x c y d).2):=by
  have hm:=jAJ c d
  have k1:c ≤ max c d:=Int.le_max_left ..
  have k2:d ≤ max c d:=Int.le_max_right ..
  have k3:max c d = c ∨ max c d = d:=by omega
  have o1:=jnh x c (max c d) hx k1 (by omega)
  have o2:=jnh y d (max c d) hy k2 (by omega)
  unfold MA.jfA
  have nm:=jyn (MA.Q4.add (MA.Q4.rtn (max c d - c).toNat x) (MA.Q4.rtn (max c d - d).toNat y)) (max c d) (by omega)
  generalize max c d = m at *
  generalize MA.Q4.rtn (m - c).toNat x = u at *
  generalize MA.Q4.rtn (m - d).toNat y = v at *
  generalize MA.num (MA.Q4.add u v) m = r at *
  simp only [MA.Q4.add] at nm
  generalize tup5 r.1 r.2 = R at *
  simp only [tup5,jxm] at o1 o2 ⊢
  simp [-jgP,jfg,runB,jov,jan,hm,o1,o2,nm]
theorem jnV (x:MA.Q4) (c:Int) (hc:0 ≤ c):jcY [tup5 x c] = some (tup5 (MA.num x (c + 1)).1 (MA.num x (c + 1)).2):=by
  have nm:=jyn x (c + 1) (by omega)
  generalize tup5 (MA.num x (c + 1)).1 (MA.num x (c + 1)).2 = R at *
  simp only [tup5]
  simp [jcY,runB,jje,jan,nm]
theorem m8 {e r:Int} (i a:Int) (h:e % 8 = r) (k:(i - r) % 8 = a):(i - e) % 8 = a:=by omega
theorem jmL (x:MA.Q4) (c e:Int):jcr [tup5 x c,.int e] = some (tup5 (MA.tnn (e % 8).toNat x) c):=by
  have w:e % 8 = 0 ∨ e % 8 = 1 ∨ e % 8 = 2 ∨ e % 8 = 3 ∨ e % 8 = 4 ∨ e % 8 = 5 ∨ e % 8 = 6 ∨ e % 8 = 7:=by omega
  have go:∀ (r a0 a1 a2 a3:Int),e % 8 = r → (0 - e) % 8 = a0 → (1 - e) % 8 = a1 → (2 - e) % 8 = a2 → (3 - e) % 8 = a3 → ∀ b0 b1 b2 b3:Int,atI [PyData.int x.a,.int x.b,.int x.c,.int x.d,.int (-x.a),.int (-x.b),.int (-x.c),.int (-x.d)] a0 = some (.int b0) → atI [PyData.int x.a,.int x.b,.int x.c,.int x.d,.int (-x.a),.int (-x.b),.int (-x.c),.int (-x.d)] a1 = some (.int b1) →
      atI [PyData.int x.a,.int x.b,.int x.c,.int x.d,.int (-x.a),.int (-x.b),.int (-x.c),.int (-x.d)] a2 = some (.int b2) → atI [PyData.int x.a,.int x.b,.int x.c,.int x.d,.int (-x.a),.int (-x.b),.int (-x.c),.int (-x.d)] a3 = some (.int b3) → jcr [tup5 x c,.int e] = some (.tuple [.int b0,.int b1,.int b2,.int b3,.int c]):=by
    intro r a0 a1 a2 a3 _ h0 h1 h2 h3 b0 b1 b2 b3 k0 k1 k2 k3
    have h0:-e % 8 = a0:=by omega
    simp only [tup5]
    simp [jcr,runB,jjd,jan,h0,h1,h2,h3,k0,k1,k2,k3]
  rcases w with w | w | w | w | w | w | w | w <;> rw [w]
  · exact go 0 0 1 2 3 w (m8 0 0 w rfl) (m8 1 1 w rfl) (m8 2 2 w rfl) (m8 3 3 w rfl) _ _ _ _ rfl rfl rfl rfl
  · exact go 1 7 0 1 2 w (m8 0 7 w rfl) (m8 1 0 w rfl) (m8 2 1 w rfl) (m8 3 2 w rfl) _ _ _ _ rfl rfl rfl rfl
  · exact go 2 6 7 0 1 w (m8 0 6 w rfl) (m8 1 7 w rfl) (m8 2 0 w rfl) (m8 3 1 w rfl) _ _ _ _ rfl rfl rfl rfl
  · exact go 3 5 6 7 0 w (m8 0 5 w rfl) (m8 1 6 w rfl) (m8 2 7 w rfl) (m8 3 0 w rfl) _ _ _ _ rfl rfl rfl rfl
  · exact go 4 4 5 6 7 w (m8 0 4 w rfl) (m8 1 5 w rfl) (m8 2 6 w rfl) (m8 3 7 w rfl) _ _ _ _ rfl rfl rfl rfl
  · have e0:tup5 (MA.tnn (5:Int).toNat x) c = .tuple [.int x.d,.int (-x.a),.int (-x.b),.int (-x.c),.int c]:=by simp [tup5,MA.tnn,MA.Q4.tn]
    rw [e0]
    exact go 5 3 4 5 6 w (m8 0 3 w rfl) (m8 1 4 w rfl) (m8 2 5 w rfl) (m8 3 6 w rfl) _ _ _ _ (by simp) (by simp) (by simp) (by simp)
  · have e0:tup5 (MA.tnn (6:Int).toNat x) c = .tuple [.int x.c,.int x.d,.int (-x.a),.int (-x.b),.int c]:=by simp [tup5,MA.tnn,MA.Q4.tn]
    rw [e0]
    exact go 6 2 3 4 5 w (m8 0 2 w rfl) (m8 1 3 w rfl) (m8 2 4 w rfl) (m8 3 5 w rfl) _ _ _ _ (by simp) (by simp) (by simp) (by simp)
  · have e0:tup5 (MA.tnn (7:Int).toNat x) c = .tuple [.int x.b,.int x.c,.int x.d,.int (-x.a),.int c]:=by simp [tup5,MA.tnn,MA.Q4.tn]
    rw [e0]
    exact go 7 1 2 3 4 w (m8 0 1 w rfl) (m8 1 2 w rfl) (m8 2 3 w rfl) (m8 3 4 w rfl) _ _ _ _ (by simp) (by simp) (by simp) (by simp)
theorem jmx (x:MA.Q4) (c:Int):jdd [tup5 x c] = some (tup5 (MA.Q4.neg x) c):=by
  simp only [tup5]
  simp [jdd,runB,jhI,jan,MA.Q4.neg]
def okS (a:Str):Bool:=shp (.str a)
theorem eqS {a b:Str} (ha:okS a = true) (hb:okS b = true):eqD (.str a) (.str b) = some (.bool (a == b)):=if_pos ⟨ha,hb⟩
theorem neS {a b:Str} (ha:okS a = true) (hb:okS b = true):neD (.str a) (.str b) = some (.bool (!(a == b))):=if_pos ⟨ha,hb⟩
theorem ja2:okS "swing" = true:=by decide +kernel
theorem jbh:okS "turn" = true:=by decide +kernel
theorem jbk:okS "flip" = true:=by decide +kernel
theorem jbH:okS "tie" = true:=by decide +kernel
theorem jbi:okS "sign" = true:=by decide +kernel
theorem ja3:okS "cross" = true:=by decide +kernel
theorem jbj:okS "look" = true:=by decide +kernel
theorem ja1:okS "where" = true:=by decide +kernel
@[simp] theorem joP:eqD (.str "swing") (.str "swing") = some (.bool true):=(eqS ja2 ja2).trans (congrArg (fun z=>some (PyData.bool z)) (show (("swing":Str) == ("swing":Str)) = true by decide +kernel))
@[simp] theorem jp4:eqD (.str "swing") (.str "turn") = some (.bool false):=(eqS ja2 jbh).trans (congrArg (fun z=>some (PyData.bool z)) (show (("swing":Str) == ("turn":Str)) = false by decide +kernel))
@[simp] theorem jp7:eqD (.str "swing") (.str "flip") = some (.bool false):=(eqS ja2 jbk).trans (congrArg (fun z=>some (PyData.bool z)) (show (("swing":Str) == ("flip":Str)) = false by decide +kernel))
@[simp] theorem jrn:eqD (.str "swing") (.str "tie") = some (.bool false):=(eqS ja2 jbH).trans (congrArg (fun z=>some (PyData.bool z)) (show (("swing":Str) == ("tie":Str)) = false by decide +kernel))
@[simp] theorem jp5:eqD (.str "swing") (.str "sign") = some (.bool false):=(eqS ja2 jbi).trans (congrArg (fun z=>some (PyData.bool z)) (show (("swing":Str) == ("sign":Str)) = false by decide +kernel))
@[simp] theorem joQ:eqD (.str "swing") (.str "cross") = some (.bool false):=(eqS ja2 ja3).trans (congrArg (fun z=>some (PyData.bool z)) (show (("swing":Str) == ("cross":Str)) = false by decide +kernel))
@[simp] theorem jp6:eqD (.str "swing") (.str "look") = some (.bool false):=(eqS ja2 jbj).trans (congrArg (fun z=>some (PyData.bool z)) (show (("swing":Str) == ("look":Str)) = false by decide +kernel))
@[simp] theorem joO:eqD (.str "swing") (.str "where") = some (.bool false):=(eqS ja2 ja1).trans (congrArg (fun z=>some (PyData.bool z)) (show (("swing":Str) == ("where":Str)) = false by decide +kernel))
@[simp] theorem jp2:eqD (.str "turn") (.str "swing") = some (.bool false):=(eqS jbh ja2).trans (congrArg (fun z=>some (PyData.bool z)) (show (("turn":Str) == ("swing":Str)) = false by decide +kernel))
@[simp] theorem jrg:eqD (.str "turn") (.str "turn") = some (.bool true):=(eqS jbh jbh).trans (congrArg (fun z=>some (PyData.bool z)) (show (("turn":Str) == ("turn":Str)) = true by decide +kernel))
@[simp] theorem jrj:eqD (.str "turn") (.str "flip") = some (.bool false):=(eqS jbh jbk).trans (congrArg (fun z=>some (PyData.bool z)) (show (("turn":Str) == ("flip":Str)) = false by decide +kernel))
@[simp] theorem jsS:eqD (.str "turn") (.str "tie") = some (.bool false):=(eqS jbh jbH).trans (congrArg (fun z=>some (PyData.bool z)) (show (("turn":Str) == ("tie":Str)) = false by decide +kernel))
@[simp] theorem jrh:eqD (.str "turn") (.str "sign") = some (.bool false):=(eqS jbh jbi).trans (congrArg (fun z=>some (PyData.bool z)) (show (("turn":Str) == ("sign":Str)) = false by decide +kernel))
@[simp] theorem jp3:eqD (.str "turn") (.str "cross") = some (.bool false):=(eqS jbh ja3).trans (congrArg (fun z=>some (PyData.bool z)) (show (("turn":Str) == ("cross":Str)) = false by decide +kernel))
@[simp] theorem jri:eqD (.str "turn") (.str "look") = some (.bool false):=(eqS jbh jbj).trans (congrArg (fun z=>some (PyData.bool z)) (show (("turn":Str) == ("look":Str)) = false by decide +kernel))
@[simp] theorem jp1:eqD (.str "turn") (.str "where") = some (.bool false):=(eqS jbh ja1).trans (congrArg (fun z=>some (PyData.bool z)) (show (("turn":Str) == ("where":Str)) = false by decide +kernel))
@[simp] theorem jqf:eqD (.str "flip") (.str "swing") = some (.bool false):=(eqS jbk ja2).trans (congrArg (fun z=>some (PyData.bool z)) (show (("flip":Str) == ("swing":Str)) = false by decide +kernel))
@[simp] theorem jrw:eqD (.str "flip") (.str "turn") = some (.bool false):=(eqS jbk jbh).trans (congrArg (fun z=>some (PyData.bool z)) (show (("flip":Str) == ("turn":Str)) = false by decide +kernel))
@[simp] theorem jrz:eqD (.str "flip") (.str "flip") = some (.bool true):=(eqS jbk jbk).trans (congrArg (fun z=>some (PyData.bool z)) (show (("flip":Str) == ("flip":Str)) = true by decide +kernel))
@[simp] theorem jsZ:eqD (.str "flip") (.str "tie") = some (.bool false):=(eqS jbk jbH).trans (congrArg (fun z=>some (PyData.bool z)) (show (("flip":Str) == ("tie":Str)) = false by decide +kernel))
@[simp] theorem jrx:eqD (.str "flip") (.str "sign") = some (.bool false):=(eqS jbk jbi).trans (congrArg (fun z=>some (PyData.bool z)) (show (("flip":Str) == ("sign":Str)) = false by decide +kernel))
@[simp] theorem jqg:eqD (.str "flip") (.str "cross") = some (.bool false):=(eqS jbk ja3).trans (congrArg (fun z=>some (PyData.bool z)) (show (("flip":Str) == ("cross":Str)) = false by decide +kernel))
@[simp] theorem jry:eqD (.str "flip") (.str "look") = some (.bool false):=(eqS jbk jbj).trans (congrArg (fun z=>some (PyData.bool z)) (show (("flip":Str) == ("look":Str)) = false by decide +kernel))
@[simp] theorem jqe:eqD (.str "flip") (.str "where") = some (.bool false):=(eqS jbk ja1).trans (congrArg (fun z=>some (PyData.bool z)) (show (("flip":Str) == ("where":Str)) = false by decide +kernel))
@[simp] theorem jrl:eqD (.str "tie") (.str "swing") = some (.bool false):=(eqS jbH ja2).trans (congrArg (fun z=>some (PyData.bool z)) (show (("tie":Str) == ("swing":Str)) = false by decide +kernel))
@[simp] theorem jsT:eqD (.str "tie") (.str "turn") = some (.bool false):=(eqS jbH jbh).trans (congrArg (fun z=>some (PyData.bool z)) (show (("tie":Str) == ("turn":Str)) = false by decide +kernel))
@[simp] theorem jsW:eqD (.str "tie") (.str "flip") = some (.bool false):=(eqS jbH jbk).trans (congrArg (fun z=>some (PyData.bool z)) (show (("tie":Str) == ("flip":Str)) = false by decide +kernel))
@[simp] theorem jtV:eqD (.str "tie") (.str "tie") = some (.bool true):=(eqS jbH jbH).trans (congrArg (fun z=>some (PyData.bool z)) (show (("tie":Str) == ("tie":Str)) = true by decide +kernel))
@[simp] theorem jsU:eqD (.str "tie") (.str "sign") = some (.bool false):=(eqS jbH jbi).trans (congrArg (fun z=>some (PyData.bool z)) (show (("tie":Str) == ("sign":Str)) = false by decide +kernel))
@[simp] theorem jrm:eqD (.str "tie") (.str "cross") = some (.bool false):=(eqS jbH ja3).trans (congrArg (fun z=>some (PyData.bool z)) (show (("tie":Str) == ("cross":Str)) = false by decide +kernel))
@[simp] theorem jsV:eqD (.str "tie") (.str "look") = some (.bool false):=(eqS jbH jbj).trans (congrArg (fun z=>some (PyData.bool z)) (show (("tie":Str) == ("look":Str)) = false by decide +kernel))
@[simp] theorem jrk:eqD (.str "tie") (.str "where") = some (.bool false):=(eqS jbH ja1).trans (congrArg (fun z=>some (PyData.bool z)) (show (("tie":Str) == ("where":Str)) = false by decide +kernel))
@[simp] theorem jp9:eqD (.str "sign") (.str "swing") = some (.bool false):=(eqS jbi ja2).trans (congrArg (fun z=>some (PyData.bool z)) (show (("sign":Str) == ("swing":Str)) = false by decide +kernel))
@[simp] theorem jro:eqD (.str "sign") (.str "turn") = some (.bool false):=(eqS jbi jbh).trans (congrArg (fun z=>some (PyData.bool z)) (show (("sign":Str) == ("turn":Str)) = false by decide +kernel))
@[simp] theorem jrr:eqD (.str "sign") (.str "flip") = some (.bool false):=(eqS jbi jbk).trans (congrArg (fun z=>some (PyData.bool z)) (show (("sign":Str) == ("flip":Str)) = false by decide +kernel))
@[simp] theorem jsX:eqD (.str "sign") (.str "tie") = some (.bool false):=(eqS jbi jbH).trans (congrArg (fun z=>some (PyData.bool z)) (show (("sign":Str) == ("tie":Str)) = false by decide +kernel))
@[simp] theorem jrp:eqD (.str "sign") (.str "sign") = some (.bool true):=(eqS jbi jbi).trans (congrArg (fun z=>some (PyData.bool z)) (show (("sign":Str) == ("sign":Str)) = true by decide +kernel))
@[simp] theorem jqa:eqD (.str "sign") (.str "cross") = some (.bool false):=(eqS jbi ja3).trans (congrArg (fun z=>some (PyData.bool z)) (show (("sign":Str) == ("cross":Str)) = false by decide +kernel))
@[simp] theorem jrq:eqD (.str "sign") (.str "look") = some (.bool false):=(eqS jbi jbj).trans (congrArg (fun z=>some (PyData.bool z)) (show (("sign":Str) == ("look":Str)) = false by decide +kernel))
@[simp] theorem jp8:eqD (.str "sign") (.str "where") = some (.bool false):=(eqS jbi ja1).trans (congrArg (fun z=>some (PyData.bool z)) (show (("sign":Str) == ("where":Str)) = false by decide +kernel))
@[simp] theorem joS:eqD (.str "cross") (.str "swing") = some (.bool false):=(eqS ja3 ja2).trans (congrArg (fun z=>some (PyData.bool z)) (show (("cross":Str) == ("swing":Str)) = false by decide +kernel))
@[simp] theorem jqh:eqD (.str "cross") (.str "turn") = some (.bool false):=(eqS ja3 jbh).trans (congrArg (fun z=>some (PyData.bool z)) (show (("cross":Str) == ("turn":Str)) = false by decide +kernel))
@[simp] theorem jqk:eqD (.str "cross") (.str "flip") = some (.bool false):=(eqS ja3 jbk).trans (congrArg (fun z=>some (PyData.bool z)) (show (("cross":Str) == ("flip":Str)) = false by decide +kernel))
@[simp] theorem jrA:eqD (.str "cross") (.str "tie") = some (.bool false):=(eqS ja3 jbH).trans (congrArg (fun z=>some (PyData.bool z)) (show (("cross":Str) == ("tie":Str)) = false by decide +kernel))
@[simp] theorem jqi:eqD (.str "cross") (.str "sign") = some (.bool false):=(eqS ja3 jbi).trans (congrArg (fun z=>some (PyData.bool z)) (show (("cross":Str) == ("sign":Str)) = false by decide +kernel))
@[simp] theorem joT:eqD (.str "cross") (.str "cross") = some (.bool true):=(eqS ja3 ja3).trans (congrArg (fun z=>some (PyData.bool z)) (show (("cross":Str) == ("cross":Str)) = true by decide +kernel))
@[simp] theorem jqj:eqD (.str "cross") (.str "look") = some (.bool false):=(eqS ja3 jbj).trans (congrArg (fun z=>some (PyData.bool z)) (show (("cross":Str) == ("look":Str)) = false by decide +kernel))
@[simp] theorem joR:eqD (.str "cross") (.str "where") = some (.bool false):=(eqS ja3 ja1).trans (congrArg (fun z=>some (PyData.bool z)) (show (("cross":Str) == ("where":Str)) = false by decide +kernel))
@[simp] theorem jqc:eqD (.str "look") (.str "swing") = some (.bool false):=(eqS jbj ja2).trans (congrArg (fun z=>some (PyData.bool z)) (show (("look":Str) == ("swing":Str)) = false by decide +kernel))
@[simp] theorem jrs:eqD (.str "look") (.str "turn") = some (.bool false):=(eqS jbj jbh).trans (congrArg (fun z=>some (PyData.bool z)) (show (("look":Str) == ("turn":Str)) = false by decide +kernel))
@[simp] theorem jrv:eqD (.str "look") (.str "flip") = some (.bool false):=(eqS jbj jbk).trans (congrArg (fun z=>some (PyData.bool z)) (show (("look":Str) == ("flip":Str)) = false by decide +kernel))
@[simp] theorem jsY:eqD (.str "look") (.str "tie") = some (.bool false):=(eqS jbj jbH).trans (congrArg (fun z=>some (PyData.bool z)) (show (("look":Str) == ("tie":Str)) = false by decide +kernel))
@[simp] theorem jrt:eqD (.str "look") (.str "sign") = some (.bool false):=(eqS jbj jbi).trans (congrArg (fun z=>some (PyData.bool z)) (show (("look":Str) == ("sign":Str)) = false by decide +kernel))
@[simp] theorem jqd:eqD (.str "look") (.str "cross") = some (.bool false):=(eqS jbj ja3).trans (congrArg (fun z=>some (PyData.bool z)) (show (("look":Str) == ("cross":Str)) = false by decide +kernel))
@[simp] theorem jru:eqD (.str "look") (.str "look") = some (.bool true):=(eqS jbj jbj).trans (congrArg (fun z=>some (PyData.bool z)) (show (("look":Str) == ("look":Str)) = true by decide +kernel))
@[simp] theorem jqb:eqD (.str "look") (.str "where") = some (.bool false):=(eqS jbj ja1).trans (congrArg (fun z=>some (PyData.bool z)) (show (("look":Str) == ("where":Str)) = false by decide +kernel))
@[simp] theorem joM:eqD (.str "where") (.str "swing") = some (.bool false):=(eqS ja1 ja2).trans (congrArg (fun z=>some (PyData.bool z)) (show (("where":Str) == ("swing":Str)) = false by decide +kernel))
@[simp] theorem jpX:eqD (.str "where") (.str "turn") = some (.bool false):=(eqS ja1 jbh).trans (congrArg (fun z=>some (PyData.bool z)) (show (("where":Str) == ("turn":Str)) = false by decide +kernel))
@[simp] theorem jp0:eqD (.str "where") (.str "flip") = some (.bool false):=(eqS ja1 jbk).trans (congrArg (fun z=>some (PyData.bool z)) (show (("where":Str) == ("flip":Str)) = false by decide +kernel))
@[simp] theorem jrf:eqD (.str "where") (.str "tie") = some (.bool false):=(eqS ja1 jbH).trans (congrArg (fun z=>some (PyData.bool z)) (show (("where":Str) == ("tie":Str)) = false by decide +kernel))
@[simp] theorem jpY:eqD (.str "where") (.str "sign") = some (.bool false):=(eqS ja1 jbi).trans (congrArg (fun z=>some (PyData.bool z)) (show (("where":Str) == ("sign":Str)) = false by decide +kernel))
@[simp] theorem joN:eqD (.str "where") (.str "cross") = some (.bool false):=(eqS ja1 ja3).trans (congrArg (fun z=>some (PyData.bool z)) (show (("where":Str) == ("cross":Str)) = false by decide +kernel))
@[simp] theorem jpZ:eqD (.str "where") (.str "look") = some (.bool false):=(eqS ja1 jbj).trans (congrArg (fun z=>some (PyData.bool z)) (show (("where":Str) == ("look":Str)) = false by decide +kernel))
@[simp] theorem joL:eqD (.str "where") (.str "where") = some (.bool true):=(eqS ja1 ja1).trans (congrArg (fun z=>some (PyData.bool z)) (show (("where":Str) == ("where":Str)) = true by decide +kernel))
@[simp] theorem jvL:inD false (.str "swing") (.tuple [.str "swing",.str "turn",.str "flip",.str "tie",.str "sign",.str "cross"]) = some (.bool true):=by rfl
@[simp] theorem jvH:inD false (.str "swing") (.tuple [.str "tie",.str "sign",.str "cross"]) = some (.bool false):=by rfl
@[simp] theorem jwS:inD false (.str "turn") (.tuple [.str "swing",.str "turn",.str "flip",.str "tie",.str "sign",.str "cross"]) = some (.bool true):=by rfl
@[simp] theorem jwN:inD false (.str "turn") (.tuple [.str "tie",.str "sign",.str "cross"]) = some (.bool false):=by rfl
@[simp] theorem jwV:inD false (.str "flip") (.tuple [.str "swing",.str "turn",.str "flip",.str "tie",.str "sign",.str "cross"]) = some (.bool true):=by rfl
@[simp] theorem jwQ:inD false (.str "flip") (.tuple [.str "tie",.str "sign",.str "cross"]) = some (.bool false):=by rfl
@[simp] theorem jyW:inD false (.str "tie") (.tuple [.str "swing",.str "turn",.str "flip",.str "tie",.str "sign",.str "cross"]) = some (.bool true):=by rfl
@[simp] theorem jyV:inD false (.str "tie") (.tuple [.str "tie",.str "sign",.str "cross"]) = some (.bool true):=by rfl
@[simp] theorem jwT:inD false (.str "sign") (.tuple [.str "swing",.str "turn",.str "flip",.str "tie",.str "sign",.str "cross"]) = some (.bool true):=by rfl
@[simp] theorem jwO:inD false (.str "sign") (.tuple [.str "tie",.str "sign",.str "cross"]) = some (.bool true):=by rfl
@[simp] theorem jvM:inD false (.str "cross") (.tuple [.str "swing",.str "turn",.str "flip",.str "tie",.str "sign",.str "cross"]) = some (.bool true):=by rfl
@[simp] theorem jvI:inD false (.str "cross") (.tuple [.str "tie",.str "sign",.str "cross"]) = some (.bool true):=by rfl
@[simp] theorem jwU:inD false (.str "look") (.tuple [.str "swing",.str "turn",.str "flip",.str "tie",.str "sign",.str "cross"]) = some (.bool false):=by rfl
@[simp] theorem jwP:inD false (.str "look") (.tuple [.str "tie",.str "sign",.str "cross"]) = some (.bool false):=by rfl
@[simp] theorem jvK:inD false (.str "where") (.tuple [.str "swing",.str "turn",.str "flip",.str "tie",.str "sign",.str "cross"]) = some (.bool false):=by rfl
@[simp] theorem jvG:inD false (.str "where") (.tuple [.str "tie",.str "sign",.str "cross"]) = some (.bool false):=by rfl
@[simp] theorem jy3 (u w:Sf) (δ:Dv) (a b:Int):ifK u w δ (a == b) = if a = b then u δ else w δ:=by
  by_cases h:a = b
  · subst h; simp
  · have:(a == b) = false:=by simpa using h
    rw [this,if_neg h]; rfl
theorem jls {α:Type} {f:D → Option D} {h k:α → D}:∀ (xs:List α),(∀ x ∈ xs,f (h x) = some (k x)) → jtM f (xs.map h) = some (xs.map k)
  | [],_=>rfl
  | x :: xs,H=>by
    show ((f (h x)).bind fun y=>_) = _
    rw [H x List.mem_cons_self]
    show ((jtM f (xs.map h)).bind fun ys=>_) = _
    rw [jls xs fun y hy=>H y (List.mem_cons_of_mem _ hy)]
    rfl
theorem jlA {α:Type} {t:D → Option Bool} {f:D → Option D} {h k:α → D} {b:α → Bool}:∀ (xs:List α),(∀ x ∈ xs,t (h x) = some (b x)) → (∀ x ∈ xs,b x = true → f (h x) = some (k x)) → jiX t f (xs.map h) = some ((xs.filter b).map k)
  | [],_,_=>rfl
  | x :: xs,H,G=>by
    have ih:=jlA (k:=k) xs (fun y hy=>H y (List.mem_cons_of_mem _ hy)) (fun y hy=>G y (List.mem_cons_of_mem _ hy))
    show ((t (h x)).bind fun c=>_) = _
    rw [H x List.mem_cons_self,Option.bind_some]
    cases e:b x with
    | false=>simp [e,ih]
    | true=>simp [e,ih,G x List.mem_cons_self e]
theorem jcZ {α:Type} {fi:Dv → Option (List D)} {caps:List (Nat × Str)} {fe:Dv → Option D} {δ:Dv} {h k:α → D} {xs:List α} (e:fi δ = some (xs.map h)) (hl:xs.length ≤ 16777216) (H:∀ x ∈ xs,fe (.fz (h x) :: jga δ caps) = some (k x)):jdv fi caps bv1 fe δ = some (.list (xs.map k)):=by
  unfold jdv
  rw [e,Option.bind_some,if_pos (by rw [List.length_map]; exact hl),jls xs (k:=k) fun x hx=>by
    show fe _ = _
    exact H x hx]
  rfl
theorem jfM {α:Type} {fi:Dv → Option (List D)} {caps:List (Nat × Str)} {ft:Dv → Option Bool} {fe:Dv → Option D} {δ:Dv} {h k:α → D} {b:α → Bool} {xs:List α} (e:fi δ = some (xs.map h)) (hl:xs.length ≤ 16777216) (H:∀ x ∈ xs,ft (.fz (h x) :: jga δ caps) = some (b x)) (G:∀ x ∈ xs,b x = true → fe (.fz (h x) :: jga δ caps) = some (k x)):jfF fi caps bv1 ft fe δ = some (.list ((xs.filter b).map k)):=by
  unfold jfF
  rw [e,Option.bind_some,if_pos (by rw [List.length_map]; exact hl),jlA xs (b:=b) (k:=k) (fun x hx=>by
    show ft _ = _
    exact H x hx) (fun x hx hb=>by
    show fe _ = _
    exact G x hx hb)]
  rfl
@[simp] theorem jy2 (u w:Sf) (δ:Dv) (a b:Int):ifK u w δ (!(a == b)) = if a = b then w δ else u δ:=by
  by_cases h:a = b
  · subst h; simp
  · have:(a == b) = false:=by simpa using h
    rw [this,if_neg h]; rfl
@[simp] theorem jzI (a b c d e f:D):jdG [a,b,c,d,e,f] = some (.list [a,b,c,d,e,f]):=jf4 (by simp)
open MA (Nu Row wt bit flp from_ jbw)
def jcj (u:Nu):D:=tup5 u.1 u.2
def stD (n:Nat) (f:Nat → Nu):D:=.tuple ((List.range (2 ^ n)).map fun p=>jcj (f p))
def rowD:Row → D
  | .swing j=>.tuple [.str "swing",.int j]
  | .turn j e=>.tuple [.str "turn",.int j,.int e]
  | .flip j=>.tuple [.str "flip",.int j]
  | .tie i j=>.tuple [.str "tie",.int i,.int j]
  | .sign i j=>.tuple [.str "sign",.int i,.int j]
  | .cross i j=>.tuple [.str "cross",.int i,.int j]
theorem jfw {n:Nat} {f:Nat → Nu} {i:Int} (p:Nat) (hi:i = p) (hp:p < 2 ^ n):ixD (stD n f) (.int i) = some (jcj (f p)):=by
  show atI _ _ = _
  exact jdl (j:=p) hi (by simp [hp])
theorem jfK (n:Nat) (f:Nat → Nu):jcq [stD n f] = some (.int ((2 ^ n:Nat):Int)):=by
  show some (PyData.int (((List.range (2 ^ n)).map fun p=>jcj (f p)).length:Nat)) = _
  rw [List.length_map,List.length_range]
theorem jfJ {b:Sf} {k:Nat} (I:Nat → Dv → Prop) (n:Nat) (h:∀ i,i < n → ∀ δ,I i δ → ∃ δ2,b (δ.set k (.fz (.int i))) = some (.nx,δ2) ∧ I (i + 1) δ2):∀ δ,I 0 δ → ∃ δ',loop (gN k) b (jke 0 n) δ = some (.nx,δ') ∧ I n δ':=by
  have go:∀ (m i:Nat),i + m = n → ∀ δ,I i δ → ∃ δ',loop (gN k) b ((List.range' i m).map fun (k:Nat)=>PyData.int (0 + (k:Int))) δ = some (.nx,δ') ∧ I n δ':=by
    intro m
    induction m with
    | zero=>intro i e δ h; exact ⟨δ,rfl,by rw [← e]; exact h⟩
    | succ m ih=>
      intro i e δ hi
      obtain ⟨δ2,e2,h2⟩:=h i (by omega) δ hi
      obtain ⟨δ',e3,h3⟩:=ih (i + 1) (by omega) δ2 h2
      refine ⟨δ',?_,h3⟩
      rw [← e3,List.range'_succ,List.map_cons]
      exact jbl (δ1:=δ.set k (.fz (.int i))) (by simp) e2
  intro δ h0
  have:=go n 0 (by omega) δ h0
  rw [← List.range_eq_range'] at this
  exact this
theorem ju8 (x:MA.Q4) (k:Nat):∃ c:Nat,(MA.num x k).2 = c ∧ c ≤ k:=by
  obtain ⟨c,e,h,_⟩:=MA.ju7 x k
  exact ⟨c,e,h⟩
theorem jpo (u v:Nu):(MA.jd5 u v).2 ≤ max u.2 v.2:=by
  obtain ⟨c,e2,h⟩:=ju8 (MA.Q4.add (MA.Q4.rtn (max (u.2:Int) v.2 - u.2).toNat u.1) (MA.Q4.rtn (max (u.2:Int) v.2 - v.2).toNat v.1)) (max u.2 v.2)
  have e3:((max u.2 v.2:Nat):Int) = max (u.2:Int) v.2:=by omega
  rw [e3] at e2
  show (MA.jfA u.1 u.2 v.1 v.2).2.toNat ≤ _
  unfold MA.jfA
  rw [e2]; exact h
theorem jdg (n:Nat) (hn:n ≤ 6):jbz [.int ((2 ^ n:Nat):Int)] = some ((List.range (2 ^ n)).map fun k:Nat=>PyData.int (0 + (k:Int))):=by
  have sq:(2 ^ n:Nat) ≤ 64:=(Nat.pow_le_pow_right (by decide) hn:2 ^ n ≤ 2 ^ 6)
  generalize (2 ^ n:Nat) = N at sq ⊢
  exact jg8 (j:=(N:Int)) (by omega) (by omega)
theorem jkF {fi:Dv → Option (List D)} {caps:List (Nat × Str)} {fe:Dv → Option D} {δ:Dv} {N:Nat} {y:Nat → D} (e:fi δ = some ((List.range N).map fun k:Nat=>PyData.int (0 + (k:Int)))) (hl:N ≤ 16777216) (H:∀ p:Nat,p < N → fe (.fz (.int p) :: jga δ caps) = some (y p)):jdv fi caps bv1 fe δ = some (.list ((List.range N).map y)):=by
  refine jcZ e (by rw [List.length_range]; exact hl) fun p hp=>?_
  rw [Int.zero_add]
  exact H p (List.mem_range.mp hp)
def Bd (k p:Nat) (f:Nat → Nu):Prop:=∀ x,(f x).2 ≤ k ∧ MA.Q4.Le (2 ^ p) (f x).1
theorem js5 (u:Nu):(MA.jeJ u).2 ≤ u.2 + 1:=by
  obtain ⟨c,e,h⟩:=ju8 u.1 (u.2 + 1)
  show (MA.num u.1 ((u.2 + 1:Nat):Int)).2.toNat ≤ _
  rw [e]; exact h
theorem js6 {u:Nu} {M:Nat} (h:MA.Q4.Le M u.1):MA.Q4.Le M (MA.jeJ u).1:=MA.jq7 _ _ (by omega) _ h
theorem Bd.done {k p:Nat} {f:Nat → Nu} (h:Bd k p f) (n:Nat) (r:Row):Bd (k + 1) (p + k + 1) (jbw n f r):=fun x=>by
  have mono:∀ y,(f y).2 ≤ k + 1 ∧ MA.Q4.Le (2 ^ (p + k + 1)) (f y).1:=fun y=>⟨by have:=(h y).1; omega,(h y).2.mono (Nat.pow_le_pow_right (by decide) (by omega))⟩
  have pl:∀ (u v:Nu),u.2 ≤ k → v.2 ≤ k → MA.Q4.Le (2 ^ p) u.1 → MA.Q4.Le (2 ^ p) v.1 → (MA.jeJ (MA.jd5 u v)).2 ≤ k + 1 ∧ MA.Q4.Le (2 ^ (p + k + 1)) (MA.jeJ (MA.jd5 u v)).1:=fun u v h1 h2 h3 h4=>by
    refine ⟨?_,js6 ?_⟩
    · have:=js5 (MA.jd5 u v)
      have:=jpo u v
      omega
    · exact MA.jpn h3 h4 h1 h2
  cases r with
  | swing j=>
    show (if bit (wt n j) x = 0 then _ else _:Nu).2 ≤ _ ∧ MA.Q4.Le _ (if bit (wt n j) x = 0 then _ else _:Nu).1
    split
    · exact pl _ _ (h _).1 (h _).1 (h _).2 (h _).2
    · exact pl _ _ (h _).1 (h _).1 (h _).2 (MA.jjq _ (h _).2)
  | turn j e=>exact ⟨(mono x).1,MA.jjq _ (mono x).2⟩
  | sign i j=>exact ⟨(mono x).1,MA.jjq _ (mono x).2⟩
  | flip j=>exact mono _
  | tie i j=>exact mono _
  | cross i j=>exact mono _
theorem Bd.mono {k p k' p':Nat} {f:Nat → Nu} (h:Bd k p f) (h1:k ≤ k') (h2:p ≤ p'):Bd k' p' f:=fun x=>⟨Nat.le_trans (h x).1 h1,(h x).2.mono (Nat.pow_le_pow_right (by decide) h2)⟩
theorem jz9:((List.range 6).all fun k=>(List.range 64).all fun p=>(p &&& 2 ^ k == 2 ^ k * bit (2 ^ k) p) && (p ^^^ 2 ^ k == flp (2 ^ k) p)) = true:=by decide +kernel
theorem jz8:((List.range 6).all fun k=>(List.range 6).all fun l=>(List.range 64).all fun p=>(k == l) || ((2 ^ k ||| 2 ^ l == 2 ^ k + 2 ^ l) && (p &&& (2 ^ k + 2 ^ l) == 2 ^ k * bit (2 ^ k) p + 2 ^ l * bit (2 ^ l) p) && (p ^^^ (2 ^ k + 2 ^ l) == flp (2 ^ l) (flp (2 ^ k) p)))) = true:=by decide +kernel
section
variable {n:Nat} (hn:n ≤ 6)
include hn
theorem jl3:2 ^ n ≤ 64:=(Nat.pow_le_pow_right (by decide) hn:2 ^ n ≤ 2 ^ 6)
theorem jhK {j p:Nat} (hj:j < n) (hp:p < 2 ^ n):p &&& wt n j = wt n j * bit (wt n j) p ∧ p ^^^ wt n j = flp (wt n j) p:=by
  have h:=jz9
  rw [List.all_eq_true] at h
  have h:=h (n - 1 - j) (List.mem_range.mpr (by omega))
  rw [List.all_eq_true] at h
  have h:=h p (List.mem_range.mpr (Nat.lt_of_lt_of_le hp (jl3 hn)))
  rw [Bool.and_eq_true,beq_iff_eq,beq_iff_eq] at h
  exact h
theorem jhJ {i j p:Nat} (hi:i < n) (hj:j < n) (hij:i ≠ j) (hp:p < 2 ^ n):wt n i ||| wt n j = wt n i + wt n j ∧ p &&& (wt n i + wt n j) = wt n i * bit (wt n i) p + wt n j * bit (wt n j) p ∧ p ^^^ (wt n i + wt n j) = flp (wt n j) (flp (wt n i) p):=by
  have h:=jz8
  rw [List.all_eq_true] at h
  have h:=h (n - 1 - i) (List.mem_range.mpr (by omega))
  rw [List.all_eq_true] at h
  have h:=h (n - 1 - j) (List.mem_range.mpr (by omega))
  rw [List.all_eq_true] at h
  have h:=h p (List.mem_range.mpr (Nat.lt_of_lt_of_le hp (jl3 hn)))
  rw [Bool.or_eq_true,Bool.and_eq_true,Bool.and_eq_true,beq_iff_eq,beq_iff_eq,beq_iff_eq,beq_iff_eq] at h
  rcases h with h | h
  · exact absurd h (by omega)
  · exact ⟨h.1.1,h.1.2,h.2⟩
theorem jdo {j:Nat} (hj:j < n):jek [.int n,.int j] = some (.int (wt n j:Nat)):=by
  have hb:Builtin.Int.intBits 1 = 1:=by decide +kernel
  have e:=jgI (i:=1) (j:=(n:Int) - 1 - (j:Int)) (by omega) (by omega)
  have e2:(1:Int) * 2 ^ ((n:Int) - 1 - (j:Int)).toNat = ((wt n j:Nat):Int):=by
    unfold MA.wt
    rw [show ((n:Int) - 1 - (j:Int)).toNat = n - 1 - j by omega]
    push_cast
    omega
  rw [e2] at e
  simp [jek,runB,jkS,jan,e]
theorem joX (f:Nat → Nu):jkK (.int ((2 ^ n:Nat):Int)) = some (.int ((n:Int) + 1)):=by
  have e:((2 ^ n:Nat):Int) = 2 ^ n:=by push_cast; rfl
  have:=MA.jlN n
  rw [jop,e,this]
  rfl
theorem jq5 (u v:Nu) (hu:MA.Q4.Le (2 ^ 100000) u.1) (hv:MA.Q4.Le (2 ^ 100000) v.1) (hc:u.2 ≤ 50000) (hd:v.2 ≤ 50000):jfg [jcj u,jcj v] = some (jcj (MA.jd5 u v)):=by
  have e:=jsk u.1 u.2 v.1 v.2 hu hv (by omega) (by omega) (by omega) (by omega)
  unfold jcj MA.jd5
  rw [e]
  obtain ⟨c,e2,h⟩:=ju8 (MA.Q4.add (MA.Q4.rtn (max (u.2:Int) v.2 - u.2).toNat u.1) (MA.Q4.rtn (max (u.2:Int) v.2 - v.2).toNat v.1)) (max u.2 v.2)
  have e3:((max u.2 v.2:Nat):Int) = max (u.2:Int) v.2:=by omega
  rw [e3] at e2
  show some (tup5 _ (MA.jfA u.1 u.2 v.1 v.2).2) = some (tup5 _ ((MA.jfA u.1 u.2 v.1 v.2).2.toNat:Int))
  unfold MA.jfA
  rw [e2]; rfl
theorem jlz (u:Nu):jcY [jcj u] = some (jcj (MA.jeJ u)):=by
  have e:=jnV u.1 u.2 (by omega)
  obtain ⟨c,e2,h⟩:=ju8 u.1 (u.2 + 1)
  have e3:((u.2 + 1:Nat):Int) = (u.2:Int) + 1:=by omega
  unfold jcj MA.jeJ
  rw [e,e3]
  rw [e3] at e2
  rw [e2]; rfl
theorem joz (u:Nu):jdd [jcj u] = some (jcj (MA.jcC 4 u)):=by
  have e:=jmx u.1 u.2
  unfold jcj MA.jcC
  rw [e]
  have:MA.tnn (4 % 8) u.1 = MA.Q4.neg u.1:=by
    show MA.Q4.tn (MA.Q4.tn (MA.Q4.tn (MA.Q4.tn u.1))) = _
    unfold MA.Q4.tn MA.Q4.neg
    rfl
  rw [this]
theorem jis (u:Nu) (e:Nat):jcr [jcj u,.int e] = some (jcj (MA.jcC e u)):=by
  have h:=jmL u.1 u.2 e
  unfold jcj MA.jcC
  rw [h,show ((e:Int) % 8).toNat = e % 8 by omega]
end
section
variable {n:Nat} (hn:n ≤ 6) (f:Nat → Nu) (hf:∀ p,(f p).2 ≤ 40000) (hL:∀ p,MA.Q4.Le (2 ^ 100000) (f p).1)
include hn
theorem jo6 (X x y a b:D) (p w q:Int) (ds:List D) (hs:ds.length < sizeLine) (h1:Builtin.bitAnd p w = 0) (h2:Builtin.bitXor p w = q) (a0:ixD X (.int p) = some x) (a1:ixD X (.int q) = some y) (e1:jfg [x,y] = some a) (e2:jcY [a] = some b) :
    jdX [.fz X,.fz (.int w),.ow ds,.fz (.int p)] = some (.nx,[.fz X,.fz (.int w),.ow (ds ++ [b]),.fz (.int p)]):=by
  simp [-jam,-sIf,jbY,jdt,jdX,h1,h2,a0,a1,e1,e2,hs]
theorem jo5 (X x y z a b:D) (p w q m:Int) (ds:List D) (hs:ds.length < sizeLine) (h1:Builtin.bitAnd p w = m) (hm:m ≠ 0) (h2:Builtin.bitXor p w = q) (a0:ixD X (.int p) = some x) (a1:ixD X (.int q) = some y) (e0:jdd [x] = some z) (e1:jfg [y,z] = some a) (e2:jcY [a] = some b) :
    jdX [.fz X,.fz (.int w),.ow ds,.fz (.int p)] = some (.nx,[.fz X,.fz (.int w),.ow (ds ++ [b]),.fz (.int p)]):=by
  have hm':(m == 0) = false:=by simpa using hm
  simp [-jam,-sIf,jbY,jdt,jdX,h1,hm',h2,a0,a1,e0,e1,e2,hs]
include hf hL
theorem jo8 {j:Nat} (hj:j < n) (p:Nat) (hp:p < 2 ^ n) (ds:List D) (hl:ds.length < 1000) :
    jdX [.fz (stD n f),.fz (.int (wt n j:Nat)),.ow ds,.fz (.int p)] = some (.nx,[.fz (stD n f),.fz (.int (wt n j:Nat)),.ow (ds ++ [jcj (jbw n f (.swing j) p)]),.fz (.int p)]):=by
  have hs:ds.length < sizeLine:=by show _ < 16777216; omega
  have ha:=jhK hn hj hp
  have b1:=MA.jrM p (wt n j)
  have b2:=MA.jtZ p (wt n j)
  rw [ha.1] at b1
  rw [ha.2] at b2
  have hw:=MA.jaU n j
  have q:=MA.jgj hj hp
  have a0:ixD (stD n f) (.int (p:Int)) = some (jcj (f p)):=jfw p rfl hp
  have a1:ixD (stD n f) (.int ((flp (wt n j) p:Nat):Int)) = some (jcj (f (flp (wt n j) p))):=jfw _ rfl q
  by_cases h:bit (wt n j) p = 0
  · rw [h,Nat.mul_zero] at b1
    have e:jbw n f (.swing j) p = MA.jeJ (MA.jd5 (f p) (f (p + wt n j))):=if_pos h
    have ef:flp (wt n j) p = p + wt n j:=if_pos h
    rw [ef] at a1 b2
    rw [e]
    exact jo6 hn _ _ _ _ _ _ _ _ _ hs b1 b2 a0 a1 (jq5 hn _ _ (hL _) (hL _) (by have:=hf p; omega) (by have:=hf (p + wt n j); omega)) (jlz hn _)
  · have h1:bit (wt n j) p = 1:=by have:=MA.jbA (wt n j) p; omega
    rw [h1,Nat.mul_one] at b1
    have e:jbw n f (.swing j) p = MA.jeJ (MA.jd5 (f (p - wt n j)) (MA.jcC 4 (f p))):=if_neg h
    have ef:flp (wt n j) p = p - wt n j:=if_neg h
    rw [ef] at a1 b2
    rw [e]
    exact jo5 hn _ _ _ _ _ _ _ _ _ _ _ hs b1 (by omega) b2 a0 a1 (joz hn _) (jq5 hn _ _ (hL _) (MA.jjq _ (hL p)) (by have:=hf (p - wt n j); omega) (by show (f p).2 ≤ _; have:=hf p; omega)) (jlz hn _)
omit hf hL hn in
theorem jr1 (X Y:D) (w S:Int) (RL L:List D) (y:Sl) (ln:jcq [X] = some (.int S)) (hN:jbz [.int S] = some RL) (e:loop (gN 3) jdX RL [.fz X,.fz (.int w),.ow [],.un] = some (.nx,[.fz X,.fz (.int w),.ow L,y])) (tp:jc7 [.list L] = some Y):jeK [X,.int w] = some Y:=by
  simp [-jam,-sIf,jbY,jdt,jeK,runB,jkU,jan,ln,hN,e,dFz,tp]
theorem jo7 {j:Nat} (hj:j < n):jeK [stD n f,.int (wt n j:Nat)] = some (stD n (jbw n f (.swing j))):=by
  have sq:=jl3 hn
  have hN:jbz [.int ((2 ^ n:Nat):Int)] = some (jke 0 (2 ^ n)):=jdg n hn
  obtain ⟨δ',e,y3,rfl⟩:=jfJ (b:=jdX) (k:=3) (fun i δ=>∃ y3,δ = [.fz (stD n f),.fz (.int (wt n j:Nat)),.ow ((List.range i).map fun p=>jcj (jbw n f (.swing j) p)),y3]) (2 ^ n) (by
      rintro i hi δ ⟨y3,rfl⟩
      have e:=jo8 hn f hf hL hj i hi ((List.range i).map fun p=>jcj (jbw n f (.swing j) p)) (by simp; omega)
      refine ⟨[.fz (stD n f),.fz (.int (wt n j:Nat)),.ow ((List.range (i + 1)).map fun p=>jcj (jbw n f (.swing j) p)),.fz (.int i)],?_,_,rfl⟩
      rw [List.range_succ,List.map_append]
      exact e) [.fz (stD n f),.fz (.int (wt n j:Nat)),.ow [],.un] ⟨_,rfl⟩
  have ln:=jfK n f
  have tp:jc7 [.list ((List.range (2 ^ n)).map fun p=>jcj (jbw n f (.swing j) p))] = some (stD n (jbw n f (.swing j))):=rfl
  exact jr1 _ _ _ _ _ _ _ ln hN e tp
omit hf hL
omit hn in
theorem jod {fi:Dv → Option (List D)} {caps:List (Nat × Str)} {fe:Dv → Option D} {δ:Dv} {N:Nat} {y:Nat → D} (e:fi δ = some ((List.range N).map fun k:Nat=>PyData.int (0 + (k:Int)))) (hl:N ≤ 16777216) (H:∀ p:Nat,p < N → fe (.fz (.int p) :: jga δ caps) = some (y p)):jdv fi caps bv1 fe δ = some (.list ((List.range N).map y)):=by
  refine jcZ e (by rw [List.length_range]; exact hl) fun p hp=>?_
  rw [Int.zero_add]
  exact H p (List.mem_range.mp hp)
omit hn in
theorem jzV (X:D) (h e S:Int) (N:Nat) (x y:Nat → D) (ln:jcq [X] = some (.int S)) (hN:jbz [.int S] = some ((List.range N).map fun k:Nat=>PyData.int (0 + (k:Int)))) (hl:N ≤ 16777216) (a:∀ p:Nat,p < N → ixD X (.int p) = some (x p))
    (t:∀ p:Nat,p < N → Builtin.bitAnd p h = h → jcr [x p,.int e] = some (y p)) (u:∀ p:Nat,p < N → Builtin.bitAnd p h ≠ h → y p = x p):jaT [X,.int h,.int e] = some (.tuple ((List.range N).map y)):=by
  have c:jeG [.fz X,.fz (.int h),.fz (.int e)] = some (.list ((List.range N).map y)):=jod (by simp [ln,hN]) hl fun p hp=>by
    have a0:=a p hp
    by_cases q:Builtin.bitAnd p h = h
    · have t:=t p hp q
      simp [jga,a0,q,t]
    · have t:=u p hp q
      rw [t]
      simp [jga,a0,q]
  simp [jaT,runB,jd6,jan,c]
omit hn in
theorem jA1 (X:D) (h w S:Int) (N:Nat) (x y:Nat → D) (ln:jcq [X] = some (.int S)) (hN:jbz [.int S] = some ((List.range N).map fun k:Nat=>PyData.int (0 + (k:Int)))) (hl:N ≤ 16777216) (a:∀ p:Nat,p < N → ixD X (.int p) = some (x p))
    (t:∀ p:Nat,p < N → Builtin.bitAnd p h = h → ∃ q:Nat,q < N ∧ Builtin.bitXor p w = q ∧ y p = x q) (u:∀ p:Nat,p < N → Builtin.bitAnd p h ≠ h → y p = x p):jaO [X,.int h,.int w] = some (.tuple ((List.range N).map y)):=by
  have c:jez [.fz X,.fz (.int h),.fz (.int w)] = some (.list ((List.range N).map y)):=jod (by simp [ln,hN]) hl fun p hp=>by
    have a0:=a p hp
    by_cases q:Builtin.bitAnd p h = h
    · obtain ⟨q',hq,e1,e2⟩:=t p hp q
      have a1:=a q' hq
      rw [e2]
      simp [jga,e1,q,a1]
    · have t:=u p hp q
      rw [t]
      simp [jga,a0,q]
  simp [jaO,runB,jdJ,jan,c]
theorem jt7 (h e:Int) (g:Nat → Nu) (H:∀ p:Nat,p < 2 ^ n → (Builtin.bitAnd p h = h → jcr [jcj (f p),.int e] = some (jcj (g p))) ∧ (Builtin.bitAnd p h ≠ h → g p = f p)):jaT [stD n f,.int h,.int e] = some (stD n g):=
  jzV (stD n f) h e _ (2 ^ n) (fun p=>jcj (f p)) (fun p=>jcj (g p)) (jfK n f) (jdg n hn) (Nat.le_trans (jl3 hn) (by decide)) (fun p hp=>jfw p rfl hp) (fun p hp q=>(H p hp).1 q) (fun p hp q=>congrArg jcj ((H p hp).2 q))
theorem jvP (h w:Int) (g:Nat → Nu) (H:∀ p:Nat,p < 2 ^ n → (Builtin.bitAnd p h = h → ∃ q:Nat,q < 2 ^ n ∧ Builtin.bitXor p w = q ∧ g p = f q) ∧ (Builtin.bitAnd p h ≠ h → g p = f p)):jaO [stD n f,.int h,.int w] = some (stD n g):=
  jA1 (stD n f) h w _ (2 ^ n) (fun p=>jcj (f p)) (fun p=>jcj (g p)) (jfK n f) (jdg n hn) (Nat.le_trans (jl3 hn) (by decide)) (fun p hp=>jfw p rfl hp) (fun p hp q=>let ⟨q',h1,h2,h3⟩:=(H p hp).1 q; ⟨q',h1,h2,congrArg jcj h3⟩) (fun p hp q=>congrArg jcj ((H p hp).2 q))
omit hn in
theorem jrF (p W m q r:Int) (c:Bool) {b:Bool} (h1:Builtin.bitAnd p W = m) (h2:Builtin.bitXor p W = q) (h3:inD false (.int m) (.tuple [.int 0,.int W]) = some (.bool b)) (hb:b = c) (hr:(if c = true then p else q) = r):jbP [.int p,.int W] = some (.int r):=by
  subst hb
  cases b
  · simp at hr; subst hr; simp [jbP,runB,jeo,jan,h1,h2,h3]
  · simp at hr; subst hr; simp [jbP,runB,jeo,jan,h1,h2,h3]
theorem jtc {i j:Nat} (hi:i < n) (hj:j < n) (hij:i ≠ j) {p:Nat} (hp:p < 2 ^ n):jbP [.int p,.int ((wt n i + wt n j:Nat):Int)] = some (.int (from_ n (.cross i j) p:Nat)):=by
  have ha:=jhJ hn hi hj hij hp
  have b1:=MA.jrM p (wt n i + wt n j)
  have b2:=MA.jtZ p (wt n i + wt n j)
  rw [ha.2.1] at b1
  rw [ha.2.2] at b2
  have hwi:=MA.jaU n i
  have hwj:=MA.jaU n j
  have l1:=MA.jbA (wt n i) p
  have l2:=MA.jbA (wt n j) p
  have inT:∀ a b:Int,inD false (.int a) (.tuple [.int 0,.int b]) = some (.bool (0 == a || b == a)):=fun a b=>by
    show some (PyData.bool (PyData.eqv (.int 0) (.int a) || (PyData.eqv (.int b) (.int a) || false))) = _
    rw [Bool.or_false]
    rfl
  have ef:from_ n (.cross i j) p = if bit (wt n i) p = bit (wt n j) p then p else flp (wt n j) (flp (wt n i) p):=rfl
  rw [ef]
  by_cases h:bit (wt n i) p = bit (wt n j) p
  · rw [if_pos h]
    have hb:bit (wt n i) p = 0 ∨ bit (wt n i) p = 1:=by omega
    refine jrF _ _ _ _ _ true b1 b2 (inT _ _) ?_ rfl
    rcases hb with hb | hb
    · rw [← h,hb]; simp
    · rw [← h,hb]; simp
  · rw [if_neg h]
    refine jrF _ _ _ _ _ false b1 b2 (inT _ _) ?_ rfl
    have hb:(bit (wt n i) p = 0 ∧ bit (wt n j) p = 1) ∨ (bit (wt n i) p = 1 ∧ bit (wt n j) p = 0):=by omega
    rcases hb with ⟨hb,hc⟩ | ⟨hb,hc⟩
    · rw [hb,hc,Nat.mul_zero,Nat.mul_one,Nat.zero_add,Bool.or_eq_false_iff,beq_eq_false_iff_ne,beq_eq_false_iff_ne]
      omega
    · rw [hb,hc,Nat.mul_zero,Nat.mul_one,Nat.add_zero,Bool.or_eq_false_iff,beq_eq_false_iff_ne,beq_eq_false_iff_ne]
      omega
omit hn in
theorem jA4 (X:D) (S W1 W2 W:Int) (N:Nat) (x y:Nat → D) (R w0:Sl) (ho:Builtin.bitOr W1 W2 = W) (ln:jcq [X] = some (.int S)) (hN:jbz [.int S] = some ((List.range N).map fun k:Nat=>PyData.int (0 + (k:Int)))) (hl:N ≤ 16777216) (a:∀ p:Nat,p < N → ixD X (.int p) = some (x p))
    (t:∀ p:Nat,p < N → ∃ q:Nat,q < N ∧ jbP [.int p,.int W] = some (.int q) ∧ y p = x q):jkn [.fz X,R,w0,.fz (.int W1),.fz (.int W2)] = some (.list ((List.range N).map y)):=
  jod (by simp [ln,hN]) hl fun p hp=>by
    obtain ⟨q,hq,e1,e2⟩:=t p hp
    have a1:=a q hq
    rw [e2]
    simp [jga,ho,e1,a1]
section
omit hn
variable (X R Y:D) (S N w1 w2:Int) (i j:Int) (ln:jcq [X] = some (.int S)) (bl:jkK (.int S) = some (.int (N + 1))) (r1:ixD R (.int 1) = some (.int i)) (v1:jek [.int N,.int i] = some (.int w1))
include ln bl r1 v1
theorem jjW (r0:ixD R (.int 0) = some (.str "swing")) (h:jeK [X,.int w1] = some Y):jcO [X,R] = some Y:=by
  simp [-jam,-sIf,jbY,jdt,jcO,runB,jgn,jan,ln,bl,r0,r1,v1,h]
theorem jkC (r0:ixD R (.int 0) = some (.str "turn")) (r2:ixD R (.int 2) = some (.int j)) (h:jaT [X,.int w1,.int j] = some Y):jcO [X,R] = some Y:=by
  simp [-jam,-sIf,jbY,jdt,jcO,runB,jgn,jan,ln,bl,r0,r1,r2,v1,h]
theorem jkE (r0:ixD R (.int 0) = some (.str "flip")) (h:jaO [X,.int 0,.int w1] = some Y):jcO [X,R] = some Y:=by
  simp [-jam,-sIf,jbY,jdt,jcO,runB,jgn,jan,ln,bl,r0,r1,v1,h]
variable (r2:ixD R (.int 2) = some (.int j)) (v2:jek [.int N,.int j] = some (.int w2))
include r2 v2
theorem jml (r0:ixD R (.int 0) = some (.str "tie")) (h:jaO [X,.int w1,.int w2] = some Y):jcO [X,R] = some Y:=by
  simp [-jam,-sIf,jbY,jdt,jcO,runB,jgn,jan,ln,bl,r0,r1,r2,v1,v2,h]
theorem jkD (W:Int) (ho:Builtin.bitOr w1 w2 = W) (r0:ixD R (.int 0) = some (.str "sign")) (h:jaT [X,.int W,.int 4] = some Y):jcO [X,R] = some Y:=by
  simp [-jam,-sIf,jbY,jdt,jcO,runB,jgn,jan,ln,bl,r0,r1,r2,v1,v2,ho,h]
theorem jjX (L:D) (r0:ixD R (.int 0) = some (.str "cross")) (h:jkn [.fz X,.fz R,.fz (.int N),.fz (.int w1),.fz (.int w2)] = some L) (t:jc7 [L] = some Y):jcO [X,R] = some Y:=by
  simp [-jam,-sIf,jbY,jdt,jcO,runB,jgn,jan,ln,bl,r0,r1,r2,v1,v2,h,t]
end
include hf hL
theorem jn9 (r:Row) (hr:r.ok n):jcO [stD n f,rowD r] = some (stD n (jbw n f r)):=by
  have ln:=jfK n f
  have bl:=joX hn f
  have sq:=jl3 hn
  cases r with
  | swing j=>exact jjW _ _ _ _ _ _ _ ln bl rfl (jdo hn hr) rfl (jo7 hn f hf hL hr)
  | turn j e=>
    refine jkC _ _ _ _ _ _ _ _ ln bl rfl (jdo hn hr.1) rfl rfl (jt7 hn f _ _ _ fun p hp=>?_)
    have ha:=(jhK hn hr.1 hp).1
    have b1:=MA.jrM p (wt n j)
    rw [ha] at b1
    have hw:=MA.jaU n j
    have hb:bit (wt n j) p = 0 ∨ bit (wt n j) p = 1:=by have:=MA.jbA (wt n j) p; omega
    have e1:jbw n f (.turn j e) p = MA.jcC (e * bit (wt n j) p) (f p):=rfl
    rw [e1,b1]
    rcases hb with hb | hb
    · rw [hb,Nat.mul_zero,Nat.mul_zero]
      exact ⟨fun q=>absurd q (by omega),fun _=>rfl⟩
    · rw [hb,Nat.mul_one,Nat.mul_one]
      exact ⟨fun _=>jis hn _ _,fun q=>absurd rfl q⟩
  | flip j=>
    refine jkE _ _ _ _ _ _ _ ln bl rfl (jdo hn hr) rfl (jvP hn f _ _ _ fun p hp=>?_)
    have b2:=MA.jtZ p (wt n j)
    rw [(jhK hn hr hp).2] at b2
    have b0:=MA.jrM p 0
    rw [Nat.and_zero] at b0
    exact ⟨fun _=>⟨_,MA.jgj hr hp,b2,rfl⟩,fun q=>absurd b0 q⟩
  | tie i j=>
    refine jml _ _ _ _ _ _ _ _ _ ln bl rfl (jdo hn hr.1) rfl (jdo hn hr.2.1) rfl (jvP hn f _ _ _ fun p hp=>?_)
    have b2:=MA.jtZ p (wt n j)
    rw [(jhK hn hr.2.1 hp).2] at b2
    have b1:=MA.jrM p (wt n i)
    rw [(jhK hn hr.1 hp).1] at b1
    have hw:=MA.jaU n i
    have hb:bit (wt n i) p = 0 ∨ bit (wt n i) p = 1:=by have:=MA.jbA (wt n i) p; omega
    have e1:jbw n f (.tie i j) p = f (if bit (wt n i) p = 0 then p else flp (wt n j) p):=rfl
    rw [e1,b1]
    rcases hb with hb | hb
    · rw [hb,Nat.mul_zero]
      exact ⟨fun q=>absurd q (by omega),fun _=>rfl⟩
    · rw [hb,Nat.mul_one,if_neg (by decide)]
      exact ⟨fun _=>⟨_,MA.jgj hr.2.1 hp,b2,rfl⟩,fun q=>absurd rfl q⟩
  | sign i j=>
    have ho:=MA.bor (wt n i) (wt n j)
    rw [(jhJ hn hr.1 hr.2.1 hr.2.2 (p:=0) (Nat.pow_pos (by decide))).1] at ho
    refine jkD _ _ _ _ _ _ _ _ _ ln bl rfl (jdo hn hr.1) rfl (jdo hn hr.2.1) _ ho rfl (jt7 hn f _ _ _ fun p hp=>?_)
    have b1:=MA.jrM p (wt n i + wt n j)
    rw [(jhJ hn hr.1 hr.2.1 hr.2.2 hp).2.1] at b1
    have hw:=MA.jaU n i
    have hw2:=MA.jaU n j
    have hb:bit (wt n i) p = 0 ∨ bit (wt n i) p = 1:=by have:=MA.jbA (wt n i) p; omega
    have hc:bit (wt n j) p = 0 ∨ bit (wt n j) p = 1:=by have:=MA.jbA (wt n j) p; omega
    have e1:jbw n f (.sign i j) p = MA.jcC (4 * bit (wt n i) p * bit (wt n j) p) (f p):=rfl
    rw [e1,b1]
    rcases hb with hb | hb
    · rw [hb,Nat.mul_zero,Nat.mul_zero,Nat.zero_mul]
      refine ⟨fun q=>absurd q ?_,fun _=>rfl⟩
      rcases hc with hc | hc <;> rw [hc] <;> omega
    · rcases hc with hc | hc
      · rw [hb,hc,Nat.mul_one,Nat.mul_zero,Nat.mul_zero]
        exact ⟨fun q=>absurd q (by omega),fun _=>rfl⟩
      · rw [hb,hc,Nat.mul_one,Nat.mul_one,Nat.mul_one,Nat.mul_one]
        exact ⟨fun _=>jis hn _ 4,fun q=>absurd rfl q⟩
  | cross i j=>
    have ho:=MA.bor (wt n i) (wt n j)
    rw [(jhJ hn hr.1 hr.2.1 hr.2.2 (p:=0) (Nat.pow_pos (by decide))).1] at ho
    refine jjX _ _ _ _ _ _ _ _ _ ln bl rfl (jdo hn hr.1) rfl (jdo hn hr.2.1) _ rfl (jA4 (stD n f) _ _ _ _ (2 ^ n) (fun p=>jcj (f p)) (fun p=>jcj (jbw n f (.cross i j) p)) _ _ ho ln (jdg n hn) (by omega) (fun p hp=>jfw p rfl hp) fun p hp=>?_) rfl
    exact ⟨_,MA.jky (r:=.cross i j) hr hp,jtc hn hr.1 hr.2.1 hr.2.2 hp,rfl⟩
end
theorem jrO (rows:Sl) (X Y r:D) (h1:jcO [X,r] = some Y):jcQ [.fz X,rows,.fz r] = some (.nx,[.fz Y,rows,.fz r]):=by
  simp [jcQ,h1]
def jct (n:Nat) (f:Nat → Nu):List Row → Nat → Nu
  | []=>f
  | r :: rs=>jct n (jbw n f r) rs
theorem jka (rows:Sl) {n:Nat} (hn:n ≤ 6):∀ (rs:List Row),(∀ r ∈ rs,r.ok n) → ∀ (k p:Nat) (f:Nat → Nu),Bd k p f → k + rs.length ≤ 300 → p + 400 * rs.length ≤ 80000 → ∀ z,∃ y,loop (gN 2) jcQ (rs.map rowD) [.fz (stD n f),rows,z] = some (.nx,[.fz (stD n (jct n f rs)),rows,y])
  | [],_,_,_,_,_,_,_,z=>⟨z,rfl⟩
  | r :: rs,hr,k,p,f,hb,hk,hp,z=>by
    simp only [List.length_cons] at hk hp
    have h1:=jn9 hn f (fun x=>by have:=(hb x).1; omega) (fun x=>(hb x).2.mono (Nat.pow_le_pow_right (by decide) (by omega))) r (hr r List.mem_cons_self)
    obtain ⟨y,e⟩:=jka rows hn rs (fun q hq=>hr q (List.mem_cons_of_mem _ hq)) (k + 1) (p + k + 1) (jbw n f r) (hb.done n r) (by omega) (by omega) (.fz (rowD r))
    exact ⟨y,by rw [List.map_cons,jbl (by rfl) (jrO rows _ _ _ h1)]; exact e⟩
theorem jrN (X Y R:D) (L:List D) (y:Sl) (it:je6 R = some L) (e:loop (gN 2) jcQ L [.fz X,.fz R,.un] = some (.nx,[.fz Y,.fz R,y])):jbt [X,R] = some Y:=by
  simp [jbt,runB,jgd,jan,it,e]
theorem jtx {n:Nat} (hn:n ≤ 6) (rs:List Row) (hr:∀ r ∈ rs,r.ok n) {k p:Nat} {f:Nat → Nu} (hb:Bd k p f) (hk:k + rs.length ≤ 300) (hp:p + 400 * rs.length ≤ 80000):jbt [stD n f,.tuple (rs.map rowD)] = some (stD n (jct n f rs)):=by
  obtain ⟨y,e⟩:=jka (.fz (.tuple (rs.map rowD))) hn rs hr k p f hb hk hp .un
  exact jrN _ _ _ _ y rfl e
theorem jpf (w:Nat) (h:w ≤ 100):jeC (.int 1) (.int (w:Int)) = some (.int ((2 ^ w:Nat):Int)):=by
  have hb:Builtin.Int.intBits 1 = 1:=by decide +kernel
  have e:=jgI (i:=1) (j:=(w:Int)) (by omega) (by omega)
  rw [e]
  simp
theorem jn6 {d:D} {k:Nat} (h:MA.Sh k d) (hk:k ≤ 64):eqD d d = some (.bool true):=by
  have hs:shp d = true:=by
    show (d.canLay0 && decide (d.depth ≤ 64)) = true
    rw [h.1,decide_eq_true (Nat.le_trans h.2 hk)]; rfl
  unfold eqD
  rw [if_pos ⟨hs,hs⟩,MA.jlD d h.1]
def ldn (n:Nat) (q:Nat → MA.Q4):Row → Nat → MA.Q4
  | .swing j,p=>if bit (wt n j) p = 0 then MA.Q4.add (q p) (q (p + wt n j)) else MA.Q4.add (q (p - wt n j)) (MA.tnn 4 (q p))
  | .turn j e,p=>MA.tnn (e * bit (wt n j) p) (q p)
  | .sign i j,p=>MA.tnn (4 * bit (wt n i) p * bit (wt n j) p) (q p)
  | r,p=>q (from_ n r p)
def swn:Row → Nat
  | .swing _=>1
  | _=>0
theorem jdO (n:Nat) (q:Nat → MA.Q4) (j x:Nat):ldn n q (.swing j) x = if bit (wt n j) x = 0 then MA.Q4.add (q x) (q (flp (wt n j) x)) else MA.Q4.add (q (flp (wt n j) x)) (MA.tnn 4 (q x)):=by
  show (if bit (wt n j) x = 0 then _ else _) = _
  unfold MA.flp
  by_cases h:bit (wt n j) x = 0
  · rw [if_pos h,if_pos h,if_pos h]
  · rw [if_neg h,if_neg h,if_neg h]
theorem jrZ (x y:MA.Q4):MA.Q4.tn (MA.Q4.add x y) = MA.Q4.add (MA.Q4.tn x) (MA.Q4.tn y):=by
  apply MA.Q4.ext' <;> simp only [MA.Q4.tn,MA.Q4.add] <;> omega
theorem jeV (e:Nat) (x y:MA.Q4):MA.tnn e (MA.Q4.add x y) = MA.Q4.add (MA.tnn e x) (MA.tnn e y):=by
  induction e with
  | zero=>rfl
  | succ e ih=>show MA.Q4.tn (MA.tnn e _) = MA.Q4.add (MA.Q4.tn (MA.tnn e x)) (MA.Q4.tn (MA.tnn e y)); rw [ih,jrZ]
theorem jdQ (a b:Nat) (x:MA.Q4):MA.tnn a (MA.tnn b x) = MA.tnn b (MA.tnn a x):=by rw [← MA.jdf,← MA.jdf,Nat.add_comm]
theorem jrY (k:Nat) (x:MA.Q4):MA.tnn (8 * k) x = x:=by rw [← MA.jit,Nat.mul_mod_right]; rfl
theorem jyG (n:Nat) (q:Nat → MA.Q4) (e:Nat) (r:Row) (x:Nat):ldn n (fun y=>MA.tnn e (q y)) r x = MA.tnn e (ldn n q r x):=by
  cases r with
  | swing j=>
    rw [jdO,jdO]
    split
    · rw [jeV]
    · rw [jeV,jdQ 4 e]
  | turn j a=>exact jdQ _ _ _
  | sign i j=>exact jdQ _ _ _
  | flip j=>rfl
  | tie i j=>rfl
  | cross i j=>rfl
theorem jyH (n:Nat) (q:Nat → MA.Q4) (k:Nat) (r:Row) (x:Nat):ldn n (fun y=>MA.Q4.rtn k (q y)) r x = MA.Q4.rtn k (ldn n q r x):=by
  cases r with
  | swing j=>
    rw [jdO,jdO]
    split
    · rw [MA.Q4.rtn_addQ]
    · rw [MA.Q4.rtn_addQ,MA.jdD]
  | turn j a=>exact MA.jdD _ _ _
  | sign i j=>exact MA.jdD _ _ _
  | flip j=>rfl
  | tie i j=>rfl
  | cross i j=>rfl
def cR (n:Nat):Row → Nat → Bool
  | .flip _,_=>true
  | .tie i _,x=>bit (wt n i) x != 0
  | .cross i j,x=>bit (wt n i) x != bit (wt n j) x
  | _,_=>false
def fR (n:Nat):Row → Nat → Nat
  | .flip j,x=>flp (wt n j) x
  | .tie _ j,x=>flp (wt n j) x
  | .cross i j,x=>flp (wt n j) (flp (wt n i) x)
  | _,x=>x
def tR (n:Nat):Row → Nat → Nat
  | .turn j e,x=>e * bit (wt n j) x
  | .sign i j,x=>4 * bit (wt n i) x * bit (wt n j) x
  | _,_=>0
def jaK:Row → List Nat
  | .swing j=>[j]
  | .turn j _=>[j]
  | .flip j=>[j]
  | .tie i j=>[i,j]
  | .sign i j=>[i,j]
  | .cross i j=>[i,j]
def isSw:Row → Bool
  | .swing _=>true
  | _=>false
theorem jfl (n:Nat) (q:Nat → MA.Q4) (r:Row) (h:isSw r = false) (x:Nat):ldn n q r x = MA.tnn (tR n r x) (q (if cR n r x = true then fR n r x else x)):=by
  cases r with
  | swing j=>cases h
  | turn j e=>rfl
  | sign i j=>rfl
  | flip j=>rfl
  | tie i j=>
    show q (if bit (wt n i) x = 0 then x else flp (wt n j) x) = q (if (bit (wt n i) x != 0) = true then flp (wt n j) x else x)
    by_cases b:bit (wt n i) x = 0
    · rw [if_pos b,if_neg (by simp [b])]
    · rw [if_neg b,if_pos (by simp [b])]
  | cross i j=>
    show q (if bit (wt n i) x = bit (wt n j) x then x else flp (wt n j) (flp (wt n i) x)) = q (if (bit (wt n i) x != bit (wt n j) x) = true then flp (wt n j) (flp (wt n i) x) else x)
    by_cases b:bit (wt n i) x = bit (wt n j) x
    · rw [if_pos b,if_neg (by simp [b])]
    · rw [if_neg b,if_pos (by simp [b])]
theorem jig {n k:Nat} {r:Row} (hr:r.ok n) (hk:k < n) (hf:k ∉ jaK r) (x:Nat):cR n r (flp (wt n k) x) = cR n r x ∧ tR n r (flp (wt n k) x) = tR n r x ∧ fR n r (flp (wt n k) x) = flp (wt n k) (fR n r x):=by
  have bt:∀ i,i < n → i ≠ k → bit (wt n i) (flp (wt n k) x) = bit (wt n i) x:=fun i hi h=>MA.jcw hk hi (Ne.symm h)
  have fc:∀ i,i < n → i ≠ k → ∀ y,flp (wt n i) (flp (wt n k) y) = flp (wt n k) (flp (wt n i) y):=fun i hi h y=>MA.je7 hk hi (Ne.symm h)
  cases r with
  | swing j=>exact ⟨rfl,rfl,rfl⟩
  | turn j e=>
    have hj:j ≠ k:=fun z=>hf (by simp [jaK,z])
    exact ⟨rfl,by show e * _ = e * _; rw [bt j hr.1 hj],rfl⟩
  | flip j=>
    have hj:j ≠ k:=fun z=>hf (by simp [jaK,z])
    exact ⟨rfl,rfl,fc j hr hj x⟩
  | tie i j=>
    have hi:i ≠ k:=fun z=>hf (by simp [jaK,z])
    have hj:j ≠ k:=fun z=>hf (by simp [jaK,z])
    exact ⟨by show (_ != _) = (_ != _); rw [bt i hr.1 hi],rfl,fc j hr.2.1 hj x⟩
  | sign i j=>
    have hi:i ≠ k:=fun z=>hf (by simp [jaK,z])
    have hj:j ≠ k:=fun z=>hf (by simp [jaK,z])
    exact ⟨rfl,by show 4 * _ * _ = 4 * _ * _; rw [bt i hr.1 hi,bt j hr.2.1 hj],rfl⟩
  | cross i j=>
    have hi:i ≠ k:=fun z=>hf (by simp [jaK,z])
    have hj:j ≠ k:=fun z=>hf (by simp [jaK,z])
    exact ⟨by show (_ != _) = (_ != _); rw [bt i hr.1 hi,bt j hr.2.1 hj],rfl,by show flp _ (flp _ _) = _; rw [fc i hr.1 hi,fc j hr.2.1 hj]; rfl⟩
theorem jjV {n:Nat} {r:Row} {α:Type} (G:Nat → α) (h:∀ k ∈ jaK r,∀ x,G (flp (wt n k) x) = G x) (x:Nat):G (fR n r x) = G x:=by
  cases r with
  | swing j=>rfl
  | turn j e=>rfl
  | sign i j=>rfl
  | flip j=>exact h j (by simp [jaK]) x
  | tie i j=>exact h j (by simp [jaK]) x
  | cross i j=>exact (h j (by simp [jaK]) _).trans (h i (by simp [jaK]) x)
theorem jvS {n:Nat} {r:Row} (K:Nat → Nat) (h:∀ k ∈ jaK r,∀ x,K (flp (wt n k) x) = flp (wt n k) (K x)) (x:Nat):K (fR n r x) = fR n r (K x):=by
  cases r with
  | swing j=>rfl
  | turn j e=>rfl
  | sign i j=>rfl
  | flip j=>exact h j (by simp [jaK]) x
  | tie i j=>exact h j (by simp [jaK]) x
  | cross i j=>show K (flp _ (flp _ x)) = flp _ (flp _ (K x)); rw [h j (by simp [jaK]),h i (by simp [jaK])]
theorem jl9 {n k:Nat} {r:Row} (hr:r.ok n) (h:k ∈ jaK r):k < n:=by
  cases r with
  | swing j=>simp [jaK] at h; subst h; exact hr
  | turn j e=>simp [jaK] at h; subst h; exact hr.1
  | flip j=>simp [jaK] at h; subst h; exact hr
  | tie i j=>simp [jaK] at h; rcases h with rfl | rfl; exact hr.1; exact hr.2.1
  | sign i j=>simp [jaK] at h; rcases h with rfl | rfl; exact hr.1; exact hr.2.1
  | cross i j=>simp [jaK] at h; rcases h with rfl | rfl; exact hr.1; exact hr.2.1
def jj9 (r s:Row):Prop:=∀ k ∈ jaK r,k ∉ jaK s
theorem jpR {n:Nat} (q:Nat → MA.Q4) {r s:Row} (hr:r.ok n) (hs:s.ok n) (mr:isSw r = false) (ms:isSw s = false) (ap:jj9 r s) (x:Nat):ldn n (ldn n q r) s x = ldn n (ldn n q s) r x:=by
  have ap':jj9 s r:=fun k h1 h2=>ap k h2 h1
  have a1:∀ x,cR n s (fR n r x) = cR n s x:=jjV (r:=r) _ fun k hk x=>(jig hs (jl9 hr hk) (ap k hk) x).1
  have a2:∀ x,tR n s (fR n r x) = tR n s x:=jjV (r:=r) _ fun k hk x=>(jig hs (jl9 hr hk) (ap k hk) x).2.1
  have a3:∀ x,fR n s (fR n r x) = fR n r (fR n s x):=jvS (r:=r) _ fun k hk x=>(jig hs (jl9 hr hk) (ap k hk) x).2.2
  have b1:∀ x,cR n r (fR n s x) = cR n r x:=jjV (r:=s) _ fun k hk x=>(jig hr (jl9 hs hk) (ap' k hk) x).1
  have b2:∀ x,tR n r (fR n s x) = tR n r x:=jjV (r:=s) _ fun k hk x=>(jig hr (jl9 hs hk) (ap' k hk) x).2.1
  rw [jfl n _ s ms,jfl n _ r mr,jfl n _ r mr,jfl n _ s ms]
  cases hc:cR n s x <;> cases hd:cR n r x
  · simp only [hc,hd,Bool.false_eq_true,if_false]; exact jdQ _ _ _
  · simp only [hc,hd,Bool.false_eq_true,if_false,if_true,a1,a2]; exact jdQ _ _ _
  · simp only [hc,hd,Bool.false_eq_true,if_false,if_true,b1,b2]; exact jdQ _ _ _
  · simp only [hc,hd,if_true,a1,a2,b1,b2,a3]; exact jdQ _ _ _
theorem jmS {n j:Nat} (q:Nat → MA.Q4) {s:Row} (hj:j < n) (hs:s.ok n) (ms:isSw s = false) (ap:j ∉ jaK s) (x:Nat):ldn n (ldn n q (.swing j)) s x = ldn n (ldn n q s) (.swing j) x:=by
  obtain ⟨f1,f2,f3⟩:=jig hs hj ap x
  have bj:∀ y,bit (wt n j) (fR n s y) = bit (wt n j) y:=jjV (r:=s) _ fun k hk y=>MA.jcw (jl9 hs hk) hj (fun z=>ap (z ▸ hk))
  have bs:bit (wt n j) (if cR n s x = true then fR n s x else x) = bit (wt n j) x:=by split; exact bj x; rfl
  have fs:flp (wt n j) (if cR n s x = true then fR n s x else x) = (if cR n s (flp (wt n j) x) = true then fR n s (flp (wt n j) x) else flp (wt n j) x):=by
    rw [f1]
    split
    · exact f3.symm
    · rfl
  rw [jfl n _ s ms,jdO,jdO,bs,jfl n q s ms x,jfl n q s ms (flp (wt n j) x),f2,fs]
  split
  · rw [jeV]
  · rw [jeV,jdQ 4]
theorem jtC (x:MA.Q4):MA.tnn 4 x = ⟨-x.a,-x.b,-x.c,-x.d⟩:=by
  apply MA.Q4.ext' <;> simp [MA.tnn,MA.Q4.tn]
theorem jxA {n i j:Nat} (q:Nat → MA.Q4) (hi:i < n) (hj:j < n) (hij:i ≠ j) (x:Nat):ldn n (ldn n q (.swing i)) (.swing j) x = ldn n (ldn n q (.swing j)) (.swing i) x:=by
  have b1:bit (wt n i) (flp (wt n j) x) = bit (wt n i) x:=MA.jcw hj hi (Ne.symm hij)
  have b2:bit (wt n j) (flp (wt n i) x) = bit (wt n j) x:=MA.jcw hi hj hij
  have fc:flp (wt n j) (flp (wt n i) x) = flp (wt n i) (flp (wt n j) x):=MA.je7 hi hj hij
  rw [jdO n (ldn n q (.swing i)) j x,jdO n (ldn n q (.swing j)) i x,jdO n q i x,jdO n q i (flp (wt n j) x),jdO n q j x,jdO n q j (flp (wt n i) x),b1,b2,fc]
  generalize q x = A
  generalize q (flp (wt n j) x) = B
  generalize q (flp (wt n i) x) = C
  generalize q (flp (wt n i) (flp (wt n j) x)) = D
  by_cases h1:bit (wt n i) x = 0 <;> by_cases h2:bit (wt n j) x = 0 <;> simp only [h1,h2,if_true,if_false,jtC] <;> apply MA.Q4.ext' <;> simp only [MA.Q4.add] <;> omega
theorem jsa {n:Nat} (q:Nat → MA.Q4) {r s:Row} (hr:r.ok n) (hs:s.ok n) (ap:jj9 r s) (x:Nat):ldn n (ldn n q r) s x = ldn n (ldn n q s) r x:=by
  cases mr:isSw r with
  | false=>
    cases ms:isSw s with
    | false=>exact jpR q hr hs mr ms ap x
    | true=>
      cases s with
      | swing j=>exact (jmS q hs hr mr (fun z=>ap j z (by simp [jaK])) x).symm
      | _=>cases ms
  | true=>
    cases r with
    | swing i=>
      cases ms:isSw s with
      | false=>exact jmS q hr hs ms (fun z=>ap i (by simp [jaK]) z) x
      | true=>
        cases s with
        | swing j=>exact jxA q hr hs (fun z=>ap i (by simp [jaK]) (by simp [jaK,z])) x
        | _=>cases ms
    | _=>cases mr
theorem jxR (x:MA.Q4):MA.Q4.rtn 2 x = ⟨2 * x.a,2 * x.b,2 * x.c,2 * x.d⟩:=by
  apply MA.Q4.ext' <;> simp [MA.Q4.rtn,MA.Q4.rt] <;> omega
theorem jpF {n j:Nat} (q:Nat → MA.Q4) (x:Nat):ldn n (ldn n q (.swing j)) (.swing j) x = MA.Q4.rtn 2 (q x):=by
  have w:=MA.jaU n j
  have b:=MA.ja5 (w:=wt n j) (p:=x) w
  have f:=MA.jce (w:=wt n j) (p:=x) w
  have l:=MA.jbA (wt n j) x
  rw [jdO,jdO n q j x,jdO n q j (flp (wt n j) x),b,f,jxR]
  generalize q x = A
  generalize q (flp (wt n j) x) = B
  by_cases h:bit (wt n j) x = 0
  · simp only [h,if_true,jtC]; apply MA.Q4.ext' <;> simp [MA.Q4.add] <;> omega
  · have h1:bit (wt n j) x = 1:=by omega
    simp only [h1,jtC]; apply MA.Q4.ext' <;> simp [MA.Q4.add] <;> omega
theorem jnu {n j e:Nat} (he:e ≤ 8) (q:Nat → MA.Q4) (x:Nat):ldn n (ldn n q (.turn j e)) (.turn j (8 - e)) x = q x:=by
  show MA.tnn ((8 - e) * bit (wt n j) x) (MA.tnn (e * bit (wt n j) x) (q x)) = q x
  rw [← MA.jdf,← Nat.add_mul,show 8 - e + e = 8 by omega,jrY]
theorem jsD {n j:Nat} (q:Nat → MA.Q4) (x:Nat):ldn n (ldn n q (.flip j)) (.flip j) x = q x:=by
  show q (flp (wt n j) (flp (wt n j) x)) = q x
  rw [MA.jce (MA.jaU n j)]
theorem jg0 (n:Nat) (q:Nat → MA.Q4) (i j x:Nat):ldn n q (.tie i j) x = q (if bit (wt n i) x = 0 then x else flp (wt n j) x):=rfl
theorem ji2 (n:Nat) (q:Nat → MA.Q4) (i j x:Nat):ldn n q (.cross i j) x = q (if bit (wt n i) x = bit (wt n j) x then x else flp (wt n j) (flp (wt n i) x)):=rfl
theorem jvd {n i j:Nat} (hi:i < n) (hj:j < n) (hij:i ≠ j) (q:Nat → MA.Q4) (x:Nat):ldn n (ldn n q (.tie i j)) (.tie i j) x = q x:=by
  have b1:bit (wt n i) (flp (wt n j) x) = bit (wt n i) x:=MA.jcw hj hi (Ne.symm hij)
  have f:=MA.jce (w:=wt n j) (p:=x) (MA.jaU n j)
  rw [jg0,jg0]
  by_cases h:bit (wt n i) x = 0
  · simp only [h,if_true]
  · simp only [h,if_false,b1,f]
theorem jsB {n i j:Nat} (q:Nat → MA.Q4) (x:Nat):ldn n (ldn n q (.sign i j)) (.sign i j) x = q x:=by
  show MA.tnn (4 * bit (wt n i) x * bit (wt n j) x) (MA.tnn (4 * bit (wt n i) x * bit (wt n j) x) (q x)) = q x
  rw [← MA.jdf,show 4 * bit (wt n i) x * bit (wt n j) x + 4 * bit (wt n i) x * bit (wt n j) x = 8 * (bit (wt n i) x * bit (wt n j) x) by rw [Nat.mul_assoc]; omega,jrY]
theorem bts {n i j:Nat} (hi:i < n) (hj:j < n) (hij:i ≠ j) (x:Nat):bit (wt n i) (flp (wt n j) x) = bit (wt n i) x ∧ bit (wt n j) (flp (wt n i) x) = bit (wt n j) x ∧ bit (wt n i) (flp (wt n i) x) = 1 - bit (wt n i) x ∧ bit (wt n j) (flp (wt n j) x) = 1 - bit (wt n j) x:=
  ⟨MA.jcw hj hi (Ne.symm hij),MA.jcw hi hj hij,MA.ja5 (MA.jaU n i),MA.ja5 (MA.jaU n j)⟩
theorem jpG {n i j:Nat} (hi:i < n) (hj:j < n) (hij:i ≠ j) (q:Nat → MA.Q4) (x:Nat):ldn n (ldn n q (.cross i j)) (.cross i j) x = q x:=by
  obtain ⟨c1,c2,c3,c4⟩:=bts hi hj hij x
  obtain ⟨d1,d2,d3,d4⟩:=bts hi hj hij (flp (wt n i) x)
  have l1:=MA.jbA (wt n i) x
  have l2:=MA.jbA (wt n j) x
  rw [ji2,ji2]
  by_cases h:bit (wt n i) x = bit (wt n j) x
  · simp only [h,if_true]
  · rw [if_neg h,d1,d4,c3,c2,if_neg (by omega)]
    rw [← MA.je7 (p:=flp (wt n i) x) hi hj hij,MA.jce (w:=wt n i) (MA.jaU n i),MA.jce (MA.jaU n j)]
def jfq:Row → Row
  | .turn j e=>.turn j (8 - e)
  | r=>r
theorem jsE {n:Nat} {r:Row} (hr:r.ok n) (q:Nat → MA.Q4) (x:Nat):ldn n (ldn n q r) (jfq r) x = MA.Q4.rtn (2 * swn r) (q x):=by
  cases r with
  | swing j=>exact jpF q x
  | turn j e=>exact jnu (by have:=hr.2.2; omega) q x
  | flip j=>exact jsD q x
  | tie i j=>exact jvd hr.1 hr.2.1 hr.2.2 q x
  | sign i j=>exact jsB q x
  | cross i j=>exact jpG hr.1 hr.2.1 hr.2.2 q x
theorem jsC {n j:Nat} (q:Nat → MA.Q4) (x:Nat):ldn n (ldn n (ldn n (ldn n q (.swing j)) (.turn j 4)) (.swing j)) (.flip j) x = MA.Q4.rtn 2 (q x):=by
  have w:=MA.jaU n j
  have b:=MA.ja5 (w:=wt n j) (p:=x) w
  have f:=MA.jce (w:=wt n j) (p:=x) w
  have l:=MA.jbA (wt n j) x
  show ldn n (ldn n (ldn n q (.swing j)) (.turn j 4)) (.swing j) (flp (wt n j) x) = _
  rw [jdO n _ j (flp (wt n j) x),f,b]
  show (if 1 - bit (wt n j) x = 0 then MA.Q4.add (MA.tnn (4 * bit (wt n j) (flp (wt n j) x)) (ldn n q (.swing j) (flp (wt n j) x))) (MA.tnn (4 * bit (wt n j) x) (ldn n q (.swing j) x)) else MA.Q4.add (MA.tnn (4 * bit (wt n j) x) (ldn n q (.swing j) x)) (MA.tnn 4 (MA.tnn (4 * bit (wt n j) (flp (wt n j) x)) (ldn n q (.swing j) (flp (wt n j) x))))) = _
  rw [jdO n q j x,jdO n q j (flp (wt n j) x),b,f,jxR]
  generalize q x = A
  generalize q (flp (wt n j) x) = B
  by_cases h:bit (wt n j) x = 0
  · simp [h,jtC,MA.tnn,MA.Q4.tn,MA.Q4.add]; omega
  · have h1:bit (wt n j) x = 1:=by omega
    simp [h1,jtC,MA.tnn,MA.Q4.tn,MA.Q4.add]; omega
theorem jsA {n i j:Nat} (hi:i < n) (hj:j < n) (hij:i ≠ j) (q:Nat → MA.Q4) (x:Nat):ldn n (ldn n (ldn n (ldn n q (.tie i j)) (.tie j i)) (.tie i j)) (.cross j i) x = q x:=by
  have l1:=MA.jbA (wt n i) x
  have l2:=MA.jbA (wt n j) x
  have fi:∀ y,flp (wt n i) (flp (wt n i) y) = y:=fun y=>MA.jce (MA.jaU n i)
  have fj:∀ y,flp (wt n j) (flp (wt n j) y) = y:=fun y=>MA.jce (MA.jaU n j)
  have fc:∀ y,flp (wt n j) (flp (wt n i) y) = flp (wt n i) (flp (wt n j) y):=fun y=>MA.je7 hi hj hij
  have c1:∀ y,bit (wt n i) (flp (wt n j) y) = bit (wt n i) y:=fun y=>(bts hi hj hij y).1
  have c2:∀ y,bit (wt n j) (flp (wt n i) y) = bit (wt n j) y:=fun y=>(bts hi hj hij y).2.1
  have c3:∀ y,bit (wt n i) (flp (wt n i) y) = 1 - bit (wt n i) y:=fun y=>(bts hi hj hij y).2.2.1
  have c4:∀ y,bit (wt n j) (flp (wt n j) y) = 1 - bit (wt n j) y:=fun y=>(bts hi hj hij y).2.2.2
  rw [ji2,jg0,jg0,jg0]
  rcases (by omega:bit (wt n i) x = 0 ∨ bit (wt n i) x = 1) with h | h <;> rcases (by omega:bit (wt n j) x = 0 ∨ bit (wt n j) x = 1) with k | k <;> simp [h,k,c1,c2,c3,c4,fi,fj,fc]
theorem jve {n i j:Nat} (hi:i < n) (hj:j < n) (hij:i ≠ j) (q:Nat → MA.Q4) (x:Nat):ldn n (ldn n (ldn n (ldn n q (.sign i j)) (.swing j)) (.tie i j)) (.swing j) x = MA.Q4.rtn 2 (q x):=by
  have l1:=MA.jbA (wt n i) x
  have l2:=MA.jbA (wt n j) x
  have fj:∀ y,flp (wt n j) (flp (wt n j) y) = y:=fun y=>MA.jce (MA.jaU n j)
  have c1:∀ y,bit (wt n i) (flp (wt n j) y) = bit (wt n i) y:=fun y=>(bts hi hj hij y).1
  have c4:∀ y,bit (wt n j) (flp (wt n j) y) = 1 - bit (wt n j) y:=fun y=>(bts hi hj hij y).2.2.2
  have sg:∀ y,ldn n q (.sign i j) y = MA.tnn (4 * bit (wt n i) y * bit (wt n j) y) (q y):=fun _=>rfl
  rw [jdO,jg0,jg0,jxR]
  rcases (by omega:bit (wt n i) x = 0 ∨ bit (wt n i) x = 1) with h | h <;> rcases (by omega:bit (wt n j) x = 0 ∨ bit (wt n j) x = 1) with k | k <;> simp [h,k,c1,c4,fj,jdO,sg,jtC,MA.tnn,MA.Q4.tn,MA.Q4.add] <;> omega
theorem jnY {n j e:Nat} (q:Nat → MA.Q4) (x:Nat):ldn n (ldn n (ldn n (ldn n q (.flip j)) (.turn j e)) (.flip j)) (.turn j e) x = MA.tnn e (q x):=by
  have w:=MA.jaU n j
  have b:=MA.ja5 (w:=wt n j) (p:=x) w
  have f:=MA.jce (w:=wt n j) (p:=x) w
  have l:=MA.jbA (wt n j) x
  show MA.tnn (e * bit (wt n j) x) (MA.tnn (e * bit (wt n j) (flp (wt n j) x)) (q (flp (wt n j) (flp (wt n j) x)))) = _
  rw [b,f,← MA.jdf,← Nat.mul_add,show bit (wt n j) x + (1 - bit (wt n j) x) = 1 by omega,Nat.mul_one]
def ja7 (n:Nat):(Nat → MA.Q4) → List Row → Nat → MA.Q4
  | q,[]=>q
  | q,r :: rs=>ja7 n (ldn n q r) rs
def swL:List Row → Nat
  | []=>0
  | r :: rs=>swn r + swL rs
theorem je5 (n:Nat):∀ (as bs:List Row) (q:Nat → MA.Q4),ja7 n q (as ++ bs) = ja7 n (ja7 n q as) bs
  | [],_,_=>rfl
  | a :: as,bs,q=>je5 n as bs (ldn n q a)
theorem jfY:∀ as bs:List Row,swL (as ++ bs) = swL as + swL bs
  | [],bs=>(Nat.zero_add _).symm
  | a :: as,bs=>by show swn a + swL (as ++ bs) = swn a + swL as + swL bs; rw [jfY as bs]; omega
theorem jrb (n e:Nat):∀ (rs:List Row) (q:Nat → MA.Q4) (x:Nat),ja7 n (fun y=>MA.tnn e (q y)) rs x = MA.tnn e (ja7 n q rs x)
  | [],_,_=>rfl
  | r :: rs,q,x=>by
    have h:ldn n (fun y=>MA.tnn e (q y)) r = fun y=>MA.tnn e (ldn n q r y):=funext (jyG n q e r)
    show ja7 n (ldn n (fun y=>MA.tnn e (q y)) r) rs x = _
    rw [h]
    exact jrb n e rs (ldn n q r) x
theorem jrc (n k:Nat):∀ (rs:List Row) (q:Nat → MA.Q4) (x:Nat),ja7 n (fun y=>MA.Q4.rtn k (q y)) rs x = MA.Q4.rtn k (ja7 n q rs x)
  | [],_,_=>rfl
  | r :: rs,q,x=>by
    have h:ldn n (fun y=>MA.Q4.rtn k (q y)) r = fun y=>MA.Q4.rtn k (ldn n q r y):=funext (jyH n q k r)
    show ja7 n (ldn n (fun y=>MA.Q4.rtn k (q y)) r) rs x = _
    rw [h]
    exact jrc n k rs (ldn n q r) x
def Mv (n:Nat) (as bs:List Row) (e:Nat):Prop:=∀ q x,MA.Q4.rtn (swL as) (ja7 n q bs x) = MA.Q4.rtn (swL bs) (MA.tnn e (ja7 n q as x))
theorem Mv.refl (n:Nat) (as:List Row):Mv n as as 0:=fun _ _=>rfl
theorem Mv.trans {n e f:Nat} {as bs cs:List Row} (h:Mv n as bs e) (k:Mv n bs cs f):Mv n as cs (e + f):=fun q x=>by
  apply MA.Q4.rtn_inj (n:=swL bs)
  rw [MA.jbZ (swL bs) (swL as),k q x,MA.jbZ (swL as) (swL cs),← MA.jdD,h q x,MA.jdD,← MA.jdf,Nat.add_comm f e,MA.jbZ (swL cs)]
def Nil (n:Nat) (more:List Row) (e:Nat):Prop:=∀ q x,ja7 n q more x = MA.Q4.rtn (swL more) (MA.tnn e (q x))
theorem Mv.put {n e:Nat} {more:List Row} (h:Nil n more e) (pre post:List Row):Mv n (pre ++ post) (pre ++ more ++ post) e:=fun q x=>by
  have h1:ja7 n (ja7 n q pre) more = fun y=>MA.Q4.rtn (swL more) (MA.tnn e (ja7 n q pre y)):=funext (h _)
  rw [je5,je5,je5,h1,jrc n (swL more) post (fun y=>MA.tnn e (ja7 n q pre y)),jrb,jfY,jfY,jfY,← MA.Q4.rtn_add]
  congr 1
  omega
theorem Mv.swap {n:Nat} {r s:Row} (hr:r.ok n) (hs:s.ok n) (ap:jj9 r s) (pre post:List Row):Mv n (pre ++ r :: s :: post) (pre ++ s :: r :: post) 0:=fun q x=>by
  have h1:ldn n (ldn n (ja7 n q pre) r) s = ldn n (ldn n (ja7 n q pre) s) r:=funext (jsa _ hr hs ap)
  have e1:ja7 n q (pre ++ r :: s :: post) = ja7 n (ldn n (ldn n (ja7 n q pre) r) s) post:=by rw [je5]; rfl
  have e2:ja7 n q (pre ++ s :: r :: post) = ja7 n (ldn n (ldn n (ja7 n q pre) s) r) post:=by rw [je5]; rfl
  have s1:swL (pre ++ r :: s :: post) = swL (pre ++ s :: r :: post):=by
    rw [jfY,jfY]
    show _ + (swn r + (swn s + swL post)) = _ + (swn s + (swn r + swL post))
    omega
  rw [e1,e2,h1,s1]; rfl
theorem jpL {n:Nat} {r:Row} (hr:r.ok n):Nil n [r,jfq r] 0:=fun q x=>by
  have s:swL [r,jfq r] = 2 * swn r:=by
    cases r <;> rfl
  rw [s]
  exact jsE hr q x
theorem jpJ (n j:Nat):Nil n [.swing j,.turn j 4,.swing j,.flip j] 0:=fun q x=>jsC q x
theorem jpH {n j e:Nat} (he:e ≤ 8):Nil n [.turn j e,.turn j (8 - e)] 0:=fun q x=>jnu he q x
theorem jpI {n i j:Nat} (hi:i < n) (hj:j < n) (hij:i ≠ j):Nil n [.tie i j,.tie j i,.tie i j,.cross j i] 0:=fun q x=>jsA hi hj hij q x
theorem jsF {n i j:Nat} (hi:i < n) (hj:j < n) (hij:i ≠ j):Nil n [.sign i j,.swing j,.tie i j,.swing j] 0:=fun q x=>jve hi hj hij q x
theorem jpK (n j e:Nat):Nil n [.flip j,.turn j e,.flip j,.turn j e] e:=fun q x=>jnY q x
theorem jt9 {d:Nat} (h0:0 < d) (h8:d < 8) {u:MA.Q4} (h:MA.tnn d u = u):u = ⟨0,0,0,0⟩:=by
  obtain ⟨a,b,c,e⟩:=u
  have:d = 1 ∨ d = 2 ∨ d = 3 ∨ d = 4 ∨ d = 5 ∨ d = 6 ∨ d = 7:=by omega
  rcases this with rfl | rfl | rfl | rfl | rfl | rfl | rfl <;> simp [MA.tnn,MA.Q4.tn] at h <;> apply MA.Q4.ext' <;> simp only <;> omega
theorem jo1 {a b:Nat} (ha:a < 8) (hb:b < 8) {u:MA.Q4} (hu:u ≠ ⟨0,0,0,0⟩) (h:MA.tnn a u = MA.tnn b u):a = b:=by
  have go:∀ a b:Nat,a < b → b < 8 → MA.tnn a u = MA.tnn b u → False:=fun a b hab hb h=>by
    have e:MA.tnn (b - a) (MA.tnn a u) = MA.tnn a u:=by rw [← MA.jdf,show b - a + a = b by omega,h]
    have z:=jt9 (by omega) (by omega) e
    have:MA.tnn (8 - a) (MA.tnn a u) = u:=by rw [← MA.jdf,show 8 - a + a = 8 * 1 by omega,jrY]
    rw [z] at this
    have zz:∀ k,MA.tnn k ⟨0,0,0,0⟩ = ⟨0,0,0,0⟩:=fun k=>by
      induction k with
      | zero=>rfl
      | succ k ih=>show MA.Q4.tn (MA.tnn k _) = _; rw [ih]; rfl
    rw [zz] at this
    exact hu this.symm
  rcases Nat.lt_trichotomy a b with q | q | q
  · exact (go a b q hb h).elim
  · exact q
  · exact (go b a q ha h.symm).elim
theorem jem {n:Nat}:∀ (rs:List Row) {f:Nat → Nu},(∀ q,MA.jdm (f q)) → ∀ q,MA.jdm (jct n f rs q)
  | [],_,h=>h
  | r :: rs,_,h=>jem rs (MA.jmm h n r)
def Rl (M s:Nat) (f:Nat → Nu) (q:Nat → MA.Q4):Prop:=∀ x,MA.val M (f x) = MA.Q4.rtn (M - s) (q x)
theorem Rl.done {M s n k p:Nat} {f:Nat → Nu} {q:Nat → MA.Q4} (h:Rl M s f q) (hb:Bd k p f) (hk:k + 1 ≤ M) (hs:s + 1 ≤ M) (r:Row):Rl M (s + swn r) (jbw n f r) (ldn n q r):=fun x=>by
  have tn:∀ e,MA.val M (MA.jcC e (f x)) = MA.Q4.rtn (M - s) (MA.tnn e (q x)):=fun e=>by rw [MA.jdP,h x,MA.jit,MA.jdD]
  cases r with
  | swing j=>
    have e:=MA.jgX (n:=n) (M:=M) (j:=j) (f:=f) (fun y=>by have:=(hb y).1; omega) x
    refine MA.Q4.rt_inj (e.trans ?_)
    show _ = MA.Q4.rt (MA.Q4.rtn (M - (s + 1)) (if bit (wt n j) x = 0 then MA.Q4.add (q x) (q (x + wt n j)) else MA.Q4.add (q (x - wt n j)) (MA.tnn 4 (q x))))
    rw [← MA.Q4.rtn_succ,show M - (s + 1) + 1 = M - s by omega]
    by_cases hx:bit (wt n j) x = 0
    · rw [if_pos hx,if_pos hx,h,h,MA.Q4.rtn_addQ]
    · rw [if_neg hx,if_neg hx,h,h,MA.Q4.rtn_addQ,MA.jdD]
  | turn j e=>exact tn _
  | sign i j=>exact tn _
  | flip j=>exact h _
  | tie i j=>exact h _
  | cross i j=>exact h _
theorem jud (r:Row):swn r ≤ 1:=by cases r <;> simp [swn]
theorem jex:∀ rs:List Row,swL rs ≤ rs.length
  | []=>Nat.le_refl _
  | r :: rs=>by have:=jud r; have:=jex rs; show swn r + swL rs ≤ rs.length + 1; omega
theorem Rl.all {M n:Nat}:∀ (rs:List Row) (s k p:Nat) (f:Nat → Nu) (q:Nat → MA.Q4),Rl M s f q → Bd k p f → k + rs.length ≤ M → s + rs.length ≤ M → Rl M (s + swL rs) (jct n f rs) (ja7 n q rs) ∧ ∃ p',Bd (k + rs.length) p' (jct n f rs)
  | [],s,k,p,f,q,h,hb,_,_=>⟨h,p,hb⟩
  | r :: rs,s,k,p,f,q,h,hb,hk,hs=>by
    simp only [List.length_cons] at hk hs
    have sr:=jud r
    obtain ⟨h1,p',h2⟩:=Rl.all rs (s + swn r) (k + 1) (p + k + 1) _ _ (h.done hb (by omega) (by omega) r) (hb.done n r) (by omega) (by omega)
    refine ⟨?_,p',?_⟩
    · rw [show s + swL (r :: rs) = s + swn r + swL rs by show s + (swn r + swL rs) = _; omega]; exact h1
    · show Bd (k + (rs.length + 1)) p' _
      rw [show k + (rs.length + 1) = k + 1 + rs.length by omega]; exact h2
open MA (jbI)
def LSq (c:Nat → Int) (N:Nat) (Q:Nat → MA.Q4):MA.Q4:=⟨jbI N fun b=>c b * (Q b).a,jbI N fun b=>c b * (Q b).b,jbI N fun b=>c b * (Q b).c,jbI N fun b=>c b * (Q b).d⟩
theorem jkj (c F G:Nat → Int):∀ N,jbI N (fun b=>c b * (F b + G b)) = jbI N (fun b=>c b * F b) + jbI N (fun b=>c b * G b)
  | 0=>rfl
  | N + 1=>by
    show jbI N _ + c N * (F N + G N) = jbI N _ + c N * F N + (jbI N _ + c N * G N)
    rw [jkj c F G N,Int.mul_add]; omega
theorem jki (c F:Nat → Int):∀ N,jbI N (fun b=>c b * -F b) = -jbI N (fun b=>c b * F b)
  | 0=>rfl
  | N + 1=>by
    show jbI N _ + c N * -F N = -(jbI N _ + c N * F N)
    rw [jki c F N,Int.mul_neg]; omega
theorem joF (c:Nat → Int) (N:Nat) (Q R:Nat → MA.Q4):LSq c N (fun b=>MA.Q4.add (Q b) (R b)) = MA.Q4.add (LSq c N Q) (LSq c N R):=by
  apply MA.Q4.ext' <;> exact jkj c _ _ N
theorem jwp (c:Nat → Int) (N:Nat) (Q:Nat → MA.Q4):LSq c N (fun b=>MA.Q4.tn (Q b)) = MA.Q4.tn (LSq c N Q):=by
  apply MA.Q4.ext'
  · exact jki c _ N
  · rfl
  · rfl
  · rfl
theorem jhN (c:Nat → Int) (N:Nat) (Q:Nat → MA.Q4):∀ e,LSq c N (fun b=>MA.tnn e (Q b)) = MA.tnn e (LSq c N Q)
  | 0=>rfl
  | e + 1=>by
    show LSq c N (fun b=>MA.Q4.tn (MA.tnn e (Q b))) = MA.Q4.tn (MA.tnn e (LSq c N Q))
    rw [jwp,jhN c N Q e]
theorem jtB (c:Nat → Int) (N n:Nat) (Q:Nat → Nat → MA.Q4) (r:Row) (x:Nat):ldn n (fun y=>LSq c N fun b=>Q b y) r x = LSq c N fun b=>ldn n (Q b) r x:=by
  cases r with
  | swing j=>
    show (if bit (wt n j) x = 0 then _ else _) = LSq c N fun b=>if bit (wt n j) x = 0 then _ else _
    by_cases h:bit (wt n j) x = 0
    · simp only [if_pos h,joF]
    · simp only [if_neg h,joF,jhN]
  | turn j e=>exact (jhN c N _ _).symm
  | sign i j=>exact (jhN c N _ _).symm
  | flip j=>rfl
  | tie i j=>rfl
  | cross i j=>rfl
theorem jlR (c:Nat → Int) (N n:Nat):∀ (rs:List Row) (Q:Nat → Nat → MA.Q4) (x:Nat),ja7 n (fun y=>LSq c N fun b=>Q b y) rs x = LSq c N fun b=>ja7 n (Q b) rs x
  | [],_,_=>rfl
  | r :: rs,Q,x=>by
    have h:ldn n (fun y=>LSq c N fun b=>Q b y) r = fun y=>LSq c N fun b=>ldn n (Q b) r y:=funext (jtB c N n Q r)
    show ja7 n (ldn n (fun y=>LSq c N fun b=>Q b y) r) rs x = _
    rw [h]
    exact jlR c N n rs (fun b=>ldn n (Q b) r) x
def un (b:Nat):Nat → MA.Q4:=fun x=>if x = b then ⟨1,0,0,0⟩ else ⟨0,0,0,0⟩
theorem jqW (N:Nat) (F:Nat → Int) (h:∀ p,p < N → F p = 0):jbI N F = 0:=by
  induction N with
  | zero=>rfl
  | succ N ih=>show jbI N F + F N = 0; rw [ih fun p hp=>h p (by omega),h N (by omega)]; rfl
theorem jfv (F:Nat → Int) (x:Nat):∀ N,jbI N (fun b=>if x = b then F b else 0) = if x < N then F x else 0
  | 0=>rfl
  | N + 1=>by
    show jbI N _ + (if x = N then F N else 0) = _
    rw [jfv F x N]
    by_cases h:x = N
    · subst h; rw [if_neg (by omega),if_pos rfl,if_pos (by omega)]; omega
    · rw [if_neg h]
      by_cases q:x < N
      · rw [if_pos q,if_pos (by omega)]; omega
      · rw [if_neg q,if_neg (by omega)]; rfl
theorem jwo (c:Nat → Int) (N x:Nat) (y:MA.Q4):LSq c N (fun b=>if x = b then y else ⟨0,0,0,0⟩) = if x < N then ⟨c x * y.a,c x * y.b,c x * y.c,c x * y.d⟩ else ⟨0,0,0,0⟩:=by
  have h:∀ (g:MA.Q4 → Int),g ⟨0,0,0,0⟩ = 0 → jbI N (fun b=>c b * g (if x = b then y else ⟨0,0,0,0⟩)) = if x < N then c x * g y else 0:=fun g g0=>by
    rw [← jfv (fun b=>c b * g y) x N]
    exact MA.ja0 N fun b _=>by
      by_cases q:x = b
      · rw [if_pos q,if_pos q]
      · rw [if_neg q,if_neg q,g0,Int.mul_zero]
  unfold LSq
  rw [h MA.Q4.a rfl,h MA.Q4.b rfl,h MA.Q4.c rfl,h MA.Q4.d rfl]
  by_cases q:x < N
  · simp only [if_pos q]
  · simp only [if_neg q]
theorem jrI {B:Int} (hB:1 ≤ B) (d:Nat → Int):∀ N,(∀ b,b < N → -B < d b ∧ d b < B) → -(B ^ N) < jbI N (fun b=>B ^ b * d b) ∧ jbI N (fun b=>B ^ b * d b) < B ^ N
  | 0,_=>⟨by show -(B ^ 0) < 0; rw [Int.pow_zero]; decide,by show (0:Int) < B ^ 0; rw [Int.pow_zero]; decide⟩
  | N + 1,h=>by
    obtain ⟨h1,h2⟩:=jrI hB d N fun b hb=>h b (by omega)
    obtain ⟨d1,d2⟩:=h N (by omega)
    have p:0 ≤ B ^ N:=Int.le_of_lt (Int.pow_pos (by omega))
    have u1:B ^ N * d N ≤ B ^ N * (B - 1):=Int.mul_le_mul_of_nonneg_left (by omega) p
    have u2:B ^ N * (-(B - 1)) ≤ B ^ N * d N:=Int.mul_le_mul_of_nonneg_left (by omega) p
    have e:B ^ (N + 1) = B ^ N * B:=Int.pow_succ B N
    rw [Int.mul_neg] at u2
    rw [Int.mul_sub,Int.mul_one] at u1 u2
    show -(B ^ (N + 1)) < jbI N _ + B ^ N * d N ∧ jbI N _ + B ^ N * d N < B ^ (N + 1)
    rw [e]
    generalize B ^ N * B = Y at *
    generalize B ^ N = Z at *
    generalize Z * d N = W at *
    constructor <;> omega
theorem jlG {B:Int} (hB:1 ≤ B) (d:Nat → Int):∀ N,(∀ b,b < N → -B < d b ∧ d b < B) → jbI N (fun b=>B ^ b * d b) = 0 → ∀ b,b < N → d b = 0
  | 0,_,_,b,hb=>absurd hb (Nat.not_lt_zero _)
  | N + 1,h,e,b,hb=>by
    have e:jbI N (fun b=>B ^ b * d b) + B ^ N * d N = 0:=e
    obtain ⟨h1,h2⟩:=jrI hB d N fun b hb=>h b (by omega)
    have p:0 ≤ B ^ N:=Int.le_of_lt (Int.pow_pos (by omega))
    have z:d N = 0:=by
      rcases Int.lt_trichotomy (d N) 0 with q | q | q
      · have u:B ^ N * d N ≤ B ^ N * (-1):=Int.mul_le_mul_of_nonneg_left (by omega) p
        rw [Int.mul_neg,Int.mul_one] at u
        omega
      · exact q
      · have u:B ^ N * 1 ≤ B ^ N * d N:=Int.mul_le_mul_of_nonneg_left (by omega) p
        rw [Int.mul_one] at u
        omega
    by_cases q:b = N
    · subst q; exact z
    · rw [z,Int.mul_zero,Int.add_zero] at e
      exact jlG hB d N (fun b hb=>h b (by omega)) e b (by omega)
theorem jf7 {n M:Nat}:∀ (rs:List Row),(∀ r ∈ rs,r.ok n) → ∀ {k p:Nat} {f:Nat → Nu},Bd k p f → k + rs.length ≤ M → MA.jpD M n (jct n f rs) = MA.jpD M n f
  | [],_,_,_,_,_,_=>rfl
  | r :: rs,hr,k,p,f,hb,hk=>by
    simp only [List.length_cons] at hk
    show MA.jpD M n (jct n (jbw n f r) rs) = _
    rw [jf7 rs (fun q hq=>hr q (List.mem_cons_of_mem _ hq)) (hb.done n r) (by omega),MA.jns r (hr r List.mem_cons_self) f fun q=>by have:=(hb q).1; omega]
theorem jn5 (u v:Nu):PyData.eqv (jcj u) (jcj v) = true → u = v:=by
  obtain ⟨⟨a,b,c,d⟩,k⟩:=u
  obtain ⟨⟨a',b',c',d'⟩,k'⟩:=v
  show PyData.eqv (.tuple [.int a,.int b,.int c,.int d,.int (k:Int)]) (.tuple [.int a',.int b',.int c',.int d',.int (k':Int)]) = true → _
  simp [PyData.eqv,PyData.eqvAll]
  intro h1 h2 h3 h4 h5
  exact ⟨⟨h1,h2,h3,h4⟩,by omega⟩
theorem jih (A B:Nat → Nu):∀ l:List Nat,PyData.eqvAll (l.map fun x=>jcj (A x)) (l.map fun x=>jcj (B x)) = true → ∀ x ∈ l,A x = B x
  | [],_,x,hx=>(nomatch hx)
  | a :: l,h,x,hx=>by
    have h:(PyData.eqv (jcj (A a)) (jcj (B a)) && PyData.eqvAll (l.map fun x=>jcj (A x)) (l.map fun x=>jcj (B x))) = true:=h
    rw [Bool.and_eq_true] at h
    rcases List.mem_cons.mp hx with rfl | hx
    · exact jn5 _ _ h.1
    · exact jih A B l h.2 x hx
theorem jh7 (u:Nu):MA.Sh 1 (jcj u):=MA.Sh.tuple fun x hx=>by
  simp only [List.mem_cons,List.not_mem_nil,or_false] at hx
  rcases hx with rfl | rfl | rfl | rfl | rfl <;> exact MA.Sh.int 0 _
theorem jr5 (n:Nat) (f:Nat → Nu):MA.Sh 2 (stD n f):=MA.Sh.tuple fun y hy=>by
  obtain ⟨p,_,rfl⟩:=List.mem_map.mp hy
  exact jh7 _
theorem jfe {d:D} {k:Nat} (h:MA.Sh k d) (hk:k ≤ 64):shp d = true:=by
  show (d.canLay0 && decide (d.depth ≤ 64)) = true
  rw [h.1,decide_eq_true (Nat.le_trans h.2 hk)]; rfl
theorem jxB {n:Nat} {A B:Nat → Nu} (h:∃ x,x < 2 ^ n ∧ A x ≠ B x):eqD (stD n A) (stD n B) = some (.bool false):=by
  obtain ⟨x,hx,ne⟩:=h
  unfold eqD
  rw [if_pos ⟨jfe (jr5 n A) (by decide),jfe (jr5 n B) (by decide)⟩]
  have:PyData.eqv (stD n A) (stD n B) = false:=by
    cases q:PyData.eqv (stD n A) (stD n B) with
    | false=>rfl
    | true=>exact absurd (jih A B (List.range (2 ^ n)) q x (List.mem_range.mpr hx)) ne
  rw [this]
theorem jz5 {n:Nat} (hn:n ≤ 6) (F:Nat → Nu) (z1:Sl) (e:Nat):jf1 [.fz (stD n F),z1,.fz (.int (e:Nat))] = some (.list ((List.range (2 ^ n)).map fun x=>jcj (MA.jcC e (F x)))):=by
  have sq:(2 ^ n:Nat) ≤ 64:=(Nat.pow_le_pow_right (by decide) hn:2 ^ n ≤ 2 ^ 6)
  refine jcZ (h:=fun x=>jcj (F x)) (k:=fun x=>jcj (MA.jcC e (F x))) (xs:=List.range (2 ^ n)) (by simp [stD]) (by rw [List.length_range]; omega) fun x _=>?_
  have:=jis hn (F x) e
  simp [jga,this]
theorem jz4 (X Y:D) (L:List D) (e:Int) (b:Bool) (p:jf1 [.fz X,.fz Y,.fz (.int e)] = some (.list L)) (q:eqD (.tuple L) Y = some (.bool b)):jec [.fz X,.fz Y,.fz (.int e)] = some (if b = true then .rt (.int e) else .nx,[.fz X,.fz Y,.fz (.int e)]):=by
  cases b <;> simp [jec,p,q]
open MA (jbI)
theorem jmW {F:Nat → Int}:∀ (N x:Nat),(∀ p,p < N → 0 ≤ F p) → x < N → F x ≤ jbI N F
  | 0,_,_,h=>absurd h (Nat.not_lt_zero _)
  | N + 1,x,hn,h=>by
    have nn:∀ M,M ≤ N → 0 ≤ jbI M F:=fun M=>by
      induction M with
      | zero=>intro _; exact Int.le_refl _
      | succ M ih=>intro hM; have:=ih (by omega); have:=hn M (by omega); show 0 ≤ jbI M F + F M; omega
    show F x ≤ jbI N F + F N
    by_cases q:x = N
    · subst q; have:=nn x (Nat.le_refl _); omega
    · have:=jmW N x (fun p h=>hn p (by omega)) (by omega)
      have:=hn N (by omega)
      omega
theorem jxO:∀ (k:Nat) (s:MA.S2),(MA.S2.sc k s).p = 2 ^ k * s.p:=fun k s=>by
  simp only [MA.S2.sc]
  exact Int.mul_comm _ _
def unN (b:Nat):Nat → Nu:=fun x=>(un b x,0)
theorem jjn (b:Nat):Bd 0 0 (unN b):=fun x=>⟨Nat.le_refl _,by
  show MA.Q4.Le (2 ^ 0) (un b x)
  unfold un
  split
  · exact ⟨by decide,by decide,by decide,by decide⟩
  · exact ⟨by decide,by decide,by decide,by decide⟩⟩
theorem jmH {n b:Nat} (as:List Row) (hr:∀ r ∈ as,r.ok n) (hb:b < 2 ^ n) (x:Nat) (hx:x < 2 ^ n):(MA.nrm (ja7 n (un b) as x)).p ≤ 2 ^ swL as:=by
  have sl:=jex as
  obtain ⟨ra,_⟩:=Rl.all (M:=as.length) (n:=n) as 0 0 0 (unN b) (un b) (fun y=>rfl) (jjn b) (by omega) (by omega)
  rw [Nat.zero_add] at ra
  have ns:jbI (2 ^ n) (fun p=>(MA.nrm (MA.val as.length (jct n (unN b) as p))).p) = jbI (2 ^ n) (fun p=>(MA.nrm (MA.val as.length (unN b p))).p):=congrArg MA.S2.p (jf7 (M:=as.length) as hr (jjn b) (by omega))
  have rt:jbI (2 ^ n) (fun p=>(MA.nrm (MA.val as.length (unN b p))).p) = 2 ^ as.length:=by
    have e:=jfv (fun _=>(2:Int) ^ as.length) b (2 ^ n)
    rw [if_pos hb] at e
    rw [← e]
    refine MA.ja0 _ fun p _=>?_
    show (MA.nrm (MA.Q4.rtn as.length (un b p))).p = _
    rw [MA.jhm,jxO]
    by_cases q:b = p
    · rw [if_pos q]; unfold un; rw [if_pos q.symm]; show 2 ^ as.length * (1:Int) = _; rw [Int.mul_one]
    · rw [if_neg q]; unfold un; rw [if_neg (Ne.symm q)]; show 2 ^ as.length * (0:Int) = _; rw [Int.mul_zero]
  have ge:=jmW (F:=fun p=>(MA.nrm (MA.val as.length (jct n (unN b) as p))).p) (2 ^ n) x (fun p _=>(MA.jva _).1) hx
  rw [ns,rt] at ge
  rw [ra x,MA.jhm,jxO] at ge
  have e:(2:Int) ^ as.length = 2 ^ (as.length - swL as) * 2 ^ swL as:=by rw [← Int.pow_add,show as.length - swL as + swL as = as.length by omega]
  rw [e] at ge
  exact Int.le_of_mul_le_mul_left ge (Int.pow_pos (by decide))
theorem jiB {u:Int} {s:Nat} (h:u * u ≤ 2 ^ s):-(2 * 2 ^ (s / 2)) < u ∧ u < 2 * 2 ^ (s / 2):=by
  have e:(2:Int) ^ s < (2 * 2 ^ (s / 2)) * (2 * 2 ^ (s / 2)):=by
    have e1:((2:Int) * 2 ^ (s / 2)) * (2 * 2 ^ (s / 2)) = 2 ^ (s / 2 + s / 2 + 2):=by
      rw [Int.pow_add,Int.pow_add]
      generalize (2:Int) ^ (s / 2) = Z
      rw [show (2:Int) ^ 2 = 4 from rfl,Int.mul_assoc 2 Z,Int.mul_left_comm Z 2 Z]
      omega
    rw [e1]
    have:(2:Nat) ^ s < 2 ^ (s / 2 + s / 2 + 2):=Nat.pow_lt_pow_right (by decide) (by omega)
    exact_mod_cast this
  have zp:(0:Int) < 2 * 2 ^ (s / 2):=Int.mul_pos (by decide) (Int.pow_pos (by decide))
  generalize (2:Int) * 2 ^ (s / 2) = Z at *
  constructor
  · apply Int.lt_of_not_ge
    intro q
    have:Z * Z ≤ (-u) * (-u):=Int.mul_le_mul (by omega) (by omega) (by omega) (by omega)
    rw [Int.neg_mul_neg] at this
    omega
  · apply Int.lt_of_not_ge
    intro q
    have:Z * Z ≤ u * u:=Int.mul_le_mul q q (by omega) (by omega)
    omega
theorem jhn {u:MA.Q4} {s:Nat} (h:(MA.nrm u).p ≤ 2 ^ s):u.a * u.a ≤ 2 ^ s ∧ u.b * u.b ≤ 2 ^ s ∧ u.c * u.c ≤ 2 ^ s ∧ u.d * u.d ≤ 2 ^ s:=by
  have h:u.a * u.a + u.b * u.b + u.c * u.c + u.d * u.d ≤ 2 ^ s:=h
  have nn:∀ z:Int,0 ≤ z * z:=fun z=>by
    rcases Int.le_total 0 z with q | q
    · exact Int.mul_nonneg q q
    · exact Int.mul_nonneg_of_nonpos_of_nonpos q q
  have:=nn u.a; have:=nn u.b; have:=nn u.c; have:=nn u.d
  refine ⟨?_,?_,?_,?_⟩ <;> omega
open MA (jbI)
theorem jlH {s N:Nat} (u v:Nat → Int) (hu:∀ b,b < N → u b * u b ≤ 2 ^ s) (hv:∀ b,b < N → v b * v b ≤ 2 ^ s) (h:jbI N (fun b=>((2 ^ ((s / 2 + 2) * b):Nat):Int) * u b) = jbI N (fun b=>((2 ^ ((s / 2 + 2) * b):Nat):Int) * v b)):∀ b,b < N → u b = v b:=by
  have cB:∀ b:Nat,((2 ^ ((s / 2 + 2) * b):Nat):Int) = ((2:Int) ^ (s / 2 + 2)) ^ b:=fun b=>by rw [Nat.pow_mul]; norm_cast
  have Be:(2:Int) ^ (s / 2 + 2) = 4 * 2 ^ (s / 2):=by rw [Int.pow_add]; exact Int.mul_comm _ _
  have Zp:(0:Int) < 2 ^ (s / 2):=Int.pow_pos (by decide)
  have bd:∀ b,b < N → -((2:Int) ^ (s / 2 + 2)) < u b + -v b ∧ u b + -v b < (2:Int) ^ (s / 2 + 2):=fun b hb=>by
    have c2:=jiB (hu b hb)
    have t2:=jiB (hv b hb)
    rw [Be]
    generalize (2:Int) ^ (s / 2) = Z at *
    omega
  have z:jbI N (fun b=>((2:Int) ^ (s / 2 + 2)) ^ b * (u b + -v b)) = 0:=by
    rw [jkj (fun b=>((2:Int) ^ (s / 2 + 2)) ^ b) u (fun b=>-v b) N,jki (fun b=>((2:Int) ^ (s / 2 + 2)) ^ b) v N]
    simp only [← cB]
    rw [h]
    omega
  intro b hb
  have:=jlG (B:=(2:Int) ^ (s / 2 + 2)) (by rw [Be]; omega) (fun b=>u b + -v b) N bd z b hb
  have this:u b + -v b = 0:=this
  omega
def sm (c:Int) (u:MA.Q4):MA.Q4:=⟨c * u.a,c * u.b,c * u.c,c * u.d⟩
theorem jxJ (c:Int) (u:MA.Q4):MA.Q4.rt (sm c u) = sm c (MA.Q4.rt u):=by
  apply MA.Q4.ext' <;> simp only [MA.Q4.rt,sm,Int.mul_add,Int.mul_sub]
theorem jqY (c:Int):∀ (k:Nat) (u:MA.Q4),MA.Q4.rtn k (sm c u) = sm c (MA.Q4.rtn k u)
  | 0,u=>rfl
  | k + 1,u=>by rw [MA.Q4.rtn_succ,MA.Q4.rtn_succ,jqY c k u,jxJ]
def jwy:MA.Q4:=⟨1,0,0,0⟩
def cw (a:Nat):Nat → Int:=fun b=>((2 ^ (a * b):Nat):Int)
def jqC (a:Nat):Nat → Nu:=fun b=>(⟨((2 ^ (a * b):Nat):Int),0,0,0⟩,0)
theorem jms (a x:Nat):MA.jdm (jqC a x):=⟨by simp [jqC],fun z=>by simp [jqC] at z⟩
def jgb (n a:Nat):Nat → Nu:=fun x=>if x < 2 ^ n then jqC a x else (⟨0,0,0,0⟩,0)
theorem jik (n a x:Nat):MA.jdm (jgb n a x):=by
  unfold jgb
  split
  · exact jms a x
  · exact ⟨by simp,fun z=>by simp at z⟩
theorem jor (n a x:Nat):(jgb n a x).2 = 0:=by
  unfold jgb
  split <;> rfl
theorem jtt {n a x:Nat} (hx:x < 2 ^ n):(jgb n a x).1 = sm (cw a x) jwy:=by
  unfold jgb
  rw [if_pos hx]
  apply MA.Q4.ext' <;> simp [jqC,sm,cw,jwy]
theorem jts (n a:Nat):(fun x=>(jgb n a x).1) = fun y=>LSq (cw a) (2 ^ n) fun b=>un b y:=funext fun y=>by
  have e:LSq (cw a) (2 ^ n) (fun b=>un b y) = if y < 2 ^ n then sm (cw a y) jwy else ⟨0,0,0,0⟩:=jwo (cw a) (2 ^ n) y jwy
  rw [e]
  by_cases h:y < 2 ^ n
  · rw [if_pos h,jtt h]
  · rw [if_neg h]; unfold jgb; rw [if_neg h]
theorem jos {n a:Nat} (hn:n ≤ 4) (ha:a ≤ 200):Bd 0 3200 (jgb n a):=fun x=>by
  have sq:(2 ^ n:Nat) ≤ 16:=(Nat.pow_le_pow_right (by decide) hn:2 ^ n ≤ 2 ^ 4)
  unfold jgb
  split
  · rename_i h
    refine ⟨Nat.le_refl _,?_,Nat.zero_le _,Nat.zero_le _,Nat.zero_le _⟩
    show ((2 ^ (a * x):Nat):Int).natAbs ≤ _
    rw [Int.natAbs_natCast]
    exact Nat.pow_le_pow_right (by decide) (by have:a * x ≤ 200 * 16:=Nat.mul_le_mul ha (by omega); omega)
  · exact ⟨Nat.le_refl _,Nat.zero_le _,Nat.zero_le _,Nat.zero_le _,Nat.zero_le _⟩
theorem jk3 {n a M:Nat} (hn:n ≤ 4) (ha:a ≤ 200) (as:List Row) (hM:as.length ≤ M) (x:Nat):MA.val M (jct n (jgb n a) as x) = MA.Q4.rtn (M - swL as) (LSq (cw a) (2 ^ n) fun b=>ja7 n (un b) as x) ∧ (jct n (jgb n a) as x).2 ≤ as.length:=by
  have r0:Rl M 0 (jgb n a) (fun y=>(jgb n a y).1):=fun y=>by show MA.Q4.rtn (M - (jgb n a y).2) (jgb n a y).1 = _; rw [jor]
  obtain ⟨ra,p,bd⟩:=Rl.all (M:=M) (n:=n) as 0 0 3200 _ _ r0 (jos hn ha) (by omega) (by omega)
  rw [Nat.zero_add] at ra bd
  refine ⟨(ra x).trans ?_,(bd x).1⟩
  rw [jts,jlR]
theorem jgV (c:Nat → Int) (N:Nat) (Q:Nat → MA.Q4):LSq c (N + 1) Q = MA.Q4.add (LSq c N Q) (sm (c N) (Q N)):=rfl
theorem jcX:∀ k,MA.Q4.rtn k ⟨0,0,0,0⟩ = ⟨0,0,0,0⟩
  | 0=>rfl
  | k + 1=>by rw [MA.Q4.rtn_succ,jcX k]; rfl
theorem jkY (c:Nat → Int) (k:Nat) (Q:Nat → MA.Q4):∀ N,LSq c N (fun b=>MA.Q4.rtn k (Q b)) = MA.Q4.rtn k (LSq c N Q)
  | 0=>(jcX k).symm
  | N + 1=>by rw [jgV,jgV,MA.Q4.rtn_addQ,jqY,jkY c k Q N]
theorem jkd (c:Nat → Int) {Q R:Nat → MA.Q4}:∀ N,(∀ b,b < N → Q b = R b) → LSq c N Q = LSq c N R
  | 0,_=>rfl
  | N + 1,h=>by rw [jgV,jgV,jkd c N fun b hb=>h b (by omega),h N (by omega)]
def mx (as bs:List Row):Nat:=max (swL as) (swL bs)
def jmB (n:Nat) (as bs:List Row) (b x:Nat):MA.Q4:=MA.Q4.rtn (mx as bs - swL as) (ja7 n (un b) as x)
def Al (n:Nat) (as bs:List Row) (e:Nat):Prop:=∀ b,b < 2 ^ n → ∀ x,x < 2 ^ n → MA.tnn e (jmB n as bs b x) = jmB n bs as b x
theorem jnw (as bs:List Row):mx as bs = mx bs as:=Nat.max_comm _ _
theorem jj0 {n:Nat} {as bs:List Row} (hr:∀ r ∈ as,r.ok n) {b x:Nat} (hb:b < 2 ^ n) (hx:x < 2 ^ n):(MA.nrm (jmB n as bs b x)).p ≤ 2 ^ mx as bs:=by
  have le:swL as ≤ mx as bs:=Nat.le_max_left _ _
  have h:=jmH as hr hb x hx
  unfold jmB
  rw [MA.jhm,jxO,show (2:Int) ^ mx as bs = 2 ^ (mx as bs - swL as) * 2 ^ swL as by rw [← Int.pow_add]; congr 1; omega]
  exact Int.mul_le_mul_of_nonneg_left h (Int.le_of_lt (Int.pow_pos (by decide)))
theorem jwi {n e:Nat} (hn:n ≤ 4) {as bs:List Row} (ha:∀ r ∈ as,r.ok n) (hb:∀ r ∈ bs,r.ok n) (hl:as.length ≤ 240) (hl':bs.length ≤ 240) (x:Nat) (hx:x < 2 ^ n):MA.jcC e (jct n (jgb n (mx as bs / 2 + 2)) as x) = jct n (jgb n (mx as bs / 2 + 2)) bs x ↔ ∀ b,b < 2 ^ n → MA.tnn e (jmB n as bs b x) = jmB n bs as b x:=by
  have sa:=jex as
  have sb:=jex bs
  have m1:swL as ≤ mx as bs:=Nat.le_max_left _ _
  have m2:swL bs ≤ mx as bs:=Nat.le_max_right _ _
  have m3:mx as bs ≤ 240:=Nat.max_le.mpr ⟨by omega,by omega⟩
  have m4:mx as bs ≤ as.length + bs.length:=Nat.max_le.mpr ⟨by omega,by omega⟩
  obtain ⟨va,ka⟩:=jk3 (M:=as.length + bs.length) hn (a:=mx as bs / 2 + 2) (by omega) as (by omega) x
  obtain ⟨vb,kb⟩:=jk3 (M:=as.length + bs.length) hn (a:=mx as bs / 2 + 2) (by omega) bs (by omega) x
  have sp:∀ {s:Nat},s ≤ mx as bs → ∀ z,MA.Q4.rtn (as.length + bs.length - s) z = MA.Q4.rtn (as.length + bs.length - mx as bs) (MA.Q4.rtn (mx as bs - s) z):=fun h z=>by rw [← MA.Q4.rtn_add]; congr 1; omega
  have va':MA.val (as.length + bs.length) (MA.jcC e (jct n (jgb n (mx as bs / 2 + 2)) as x)) = MA.Q4.rtn (as.length + bs.length - mx as bs) (LSq (cw (mx as bs / 2 + 2)) (2 ^ n) fun b=>MA.tnn e (jmB n as bs b x)):=by
    rw [MA.jdP,MA.jit,va,sp m1,MA.jdD,← jkY,← jhN]
    rfl
  have vb':MA.val (as.length + bs.length) (jct n (jgb n (mx as bs / 2 + 2)) bs x) = MA.Q4.rtn (as.length + bs.length - mx as bs) (LSq (cw (mx as bs / 2 + 2)) (2 ^ n) fun b=>jmB n bs as b x):=by
    rw [vb,sp m2,← jkY,jnw as bs]
    rfl
  constructor
  · intro h
    have q:=MA.Q4.rtn_inj (va'.symm.trans ((congrArg (MA.val (as.length + bs.length)) h).trans vb'))
    have na:=fun b hb=>jhn (s:=mx as bs) (u:=MA.tnn e (jmB n as bs b x)) (by rw [MA.jkw]; exact jj0 (bs:=bs) ha hb hx)
    have nb:=fun b hb'=>jhn (s:=mx as bs) (u:=jmB n bs as b x) (by rw [jnw]; exact jj0 (bs:=as) hb hb' hx)
    intro b hb'
    exact MA.Q4.ext' (jlH _ _ (fun b h=>(na b h).1) (fun b h=>(nb b h).1) (congrArg MA.Q4.a q) b hb') (jlH _ _ (fun b h=>(na b h).2.1) (fun b h=>(nb b h).2.1) (congrArg MA.Q4.b q) b hb') (jlH _ _ (fun b h=>(na b h).2.2.1) (fun b h=>(nb b h).2.2.1) (congrArg MA.Q4.c q) b hb') (jlH _ _ (fun b h=>(na b h).2.2.2) (fun b h=>(nb b h).2.2.2) (congrArg MA.Q4.d q) b hb')
  · intro h
    refine MA.jkh (M:=as.length + bs.length) (MA.jfW e (jem as (jik n _) x)) (jem bs (jik n _) x) (Nat.le_trans ka (by omega)) (Nat.le_trans kb (by omega)) ?_
    rw [va',vb',jkd _ _ h]
theorem juf {n:Nat} (A B:Nat → Nu) (b:Bool) (h:b = true ↔ ∀ x,x < 2 ^ n → A x = B x):eqD (stD n A) (stD n B) = some (.bool b):=by
  cases b with
  | true=>
    have e:stD n A = stD n B:=by
      unfold stD
      congr 1
      exact List.map_congr_left fun x hx=>by rw [h.mp rfl x (List.mem_range.mp hx)]
    rw [e]
    exact jn6 (jr5 n _) (by decide)
  | false=>
    refine jxB ?_
    apply Classical.byContradiction
    intro no
    have:false = true:=h.mpr fun x hx=>Classical.byContradiction fun q=>no ⟨x,hx,q⟩
    cases this
theorem jim (rows:Sl) {n:Nat} (hn:n ≤ 6):∀ (rs:List Row),(∀ r ∈ rs,r.ok n) → ∀ (k p:Nat) (f:Nat → Nu),Bd k p f → k + rs.length ≤ 249 → p + 250 * rs.length ≤ 80000 → ∀ z,∃ y,loop (gN 2) jcQ (rs.map rowD) [.fz (stD n f),rows,z] = some (.nx,[.fz (stD n (jct n f rs)),rows,y])
  | [],_,_,_,_,_,_,_,z=>⟨z,rfl⟩
  | r :: rs,hr,k,p,f,hb,hk,hp,z=>by
    simp only [List.length_cons] at hk hp
    have h1:=jn9 hn f (fun x=>by have:=(hb x).1; omega) (fun x=>(hb x).2.mono (Nat.pow_le_pow_right (by decide) (by omega))) r (hr r List.mem_cons_self)
    obtain ⟨y,e⟩:=jim rows hn rs (fun q hq=>hr q (List.mem_cons_of_mem _ hq)) (k + 1) (p + k + 1) (jbw n f r) (hb.done n r) (by omega) (by omega) (.fz (rowD r))
    exact ⟨y,by rw [List.map_cons,jbl (by rfl) (jrO rows _ _ _ h1)]; exact e⟩
theorem jqI {n:Nat} (hn:n ≤ 6) (rs:List Row) (hr:∀ r ∈ rs,r.ok n) {k p:Nat} {f:Nat → Nu} (hb:Bd k p f) (hk:k + rs.length ≤ 249) (hp:p + 250 * rs.length ≤ 80000):jbt [stD n f,.tuple (rs.map rowD)] = some (stD n (jct n f rs)):=by
  obtain ⟨y,e⟩:=jim (.fz (.tuple (rs.map rowD))) hn rs hr k p f hb hk hp .un
  exact jrN _ _ _ _ y rfl e
theorem bdB {n:Nat}:∀ (rs:List Row) {k p:Nat} {f:Nat → Nu},Bd k p f → k + rs.length ≤ 249 → Bd (k + rs.length) (p + 250 * rs.length) (jct n f rs)
  | [],_,_,_,hb,_=>hb
  | r :: rs,k,p,f,hb,hk=>by
    simp only [List.length_cons] at hk ⊢
    have h:=bdB rs (n:=n) (hb.done n r) (by omega)
    exact fun x=>⟨by have:=(h x).1; show (jct n (jbw n f r) rs x).2 ≤ _; omega,(h x).2.mono (Nat.pow_le_pow_right (by decide) (by omega))⟩
theorem jAn (w:Nat) (h:w ≤ 100000):jeC (.int 1) (.int (w:Int)) = some (.int ((2 ^ w:Nat):Int)):=by
  have hb:Builtin.Int.intBits 1 = 1:=by decide +kernel
  have e:=jgI (i:=1) (j:=(w:Int)) (by omega) (by omega)
  rw [e]
  simp
theorem jA9 (C A:D) (z2:Sl) (n M:Int) (R:List D) (c0:ixD C (.int 0) = some (.int n)) (sh:jeC (.int 1) (.int n) = some (.int M)) (rg:jbz [.int M] = some R):(oL (jac (o2 (oC (.int 1)) (o2 (oV 0) (oC (.int 0)) ixD) jeC) (jal)) jbz) [.fz C,.fz A,z2] = some R:=by
  simp [c0,sh,rg]
theorem jBa (a b:Nat) (ha:a ≤ 200) (hb:b ≤ 100):(VL.os (jac (o2 (oC (.int 1)) (o2 (oV 1) (oV 0) jeA) jeC) (jac (oC (.int 0)) (jac (oC (.int 0)) (jac (oC (.int 0)) (jac (oC (.int 0)) (jal)))))) jbm) [.fz (.int (b:Nat)),.fz (.int (a:Nat))] = some (jcj (jqC a b)):=by
  have mk:IntMulOk (a:Int) (b:Int):=.of_left (Nat.le_trans (MA.ji5 (m:=8) (by omega)) (by decide))
  have m:jeA (.int (a:Nat)) (.int (b:Nat)) = some (.int ((a * b:Nat):Int)):=by rw [jgO mk]; norm_cast
  have le:a * b ≤ 200 * 100:=Nat.mul_le_mul ha hb
  have s:=jAn (a * b) (by omega)
  simp only [VL.os,jac,jal,o2,oV,oC,slV,List.getElem?_cons_zero,List.getElem?_cons_succ,Option.bind_some,m,s]
  rfl
theorem jA8 {n:Nat} (hn:n ≤ 4) (C:D) (a:Nat) (ha:a ≤ 200) (z2:Sl) (c0:ixD C (.int 0) = some (.int (n:Nat))):jdi [.fz C,.fz (.int (a:Nat)),z2] = some (.list ((List.range (2 ^ n)).map fun b=>jcj (jqC a b))):=by
  have sq:(2 ^ n:Nat) ≤ 16:=(Nat.pow_le_pow_right (by decide) hn:2 ^ n ≤ 2 ^ 4)
  exact jkF (N:=2 ^ n) (y:=fun b=>jcj (jqC a b)) (jA9 C _ z2 n _ _ c0 (jpf n (by omega)) (jdg n (by omega))) (by omega) fun b hb=>jBa a b ha (by omega)
theorem jA7 (C A R Y:D) (L:List D) (c1:ixD C (.int 1) = some R) (p:∀ z2,jdi [.fz C,.fz A,z2] = some (.list L)) (h:jbt [.tuple L,R] = some Y):jaP [C,A] = some Y:=by
  simp [jaP,runB,jdK,jan,c1,p,h]
theorem jr2 (n a:Nat):stD n (jgb n a) = .tuple ((List.range (2 ^ n)).map fun b=>jcj (jqC a b)):=by
  unfold stD
  congr 1
  exact List.map_congr_left fun b hb=>by unfold jgb; rw [if_pos (List.mem_range.mp hb)]
def cpD (n:Nat) (rs:List Row):D:=.tuple [.int (n:Nat),.tuple (rs.map rowD)]
theorem joe {n:Nat} (hn:n ≤ 4) (rs:List Row) (hr:∀ r ∈ rs,r.ok n) (hl:rs.length ≤ 240) (a:Nat) (ha:a ≤ 200):jaP [cpD n rs,.int (a:Nat)] = some (stD n (jct n (jgb n a) rs)):=by
  refine jA7 _ _ _ _ _ (at1 _ _ _) (fun z2=>jA8 hn _ a ha z2 (at0 _ _)) ?_
  rw [← jr2]
  exact jqI (by omega) rs hr (jos hn ha) (by omega) (by omega)
theorem jgL (r:Row):∃ s:Str,ixD (rowD r) (.int 0) = some (.str s) ∧ eqD (.str s) (.str "swing") = some (.bool (isSw r)) ∧ inD false (.str s) (.tuple [.str "swing",.str "turn",.str "flip",.str "tie",.str "sign",.str "cross"]) = some (.bool true):=by
  cases r <;> exact ⟨_,at0 _ _,by simp [isSw],by simp⟩
theorem jgN (rs:List Row) (hl:rs.length ≤ 100000):jaX [.tuple (rs.map rowD)] = some (.bool true):=by
  have e:jeI [.fz (.tuple (rs.map rowD))] = some (.list (rs.map fun _=>.bool true)):=jcZ (k:=fun _=>.bool true) (h:=rowD) (by simp) (by omega) fun r _=>by
    obtain ⟨s,h0,_,h3⟩:=jgL r
    simp [h0,h3]
  have a:=jjg (fun _:Row=>true) rs
  have t:(rs.all fun _=>true) = true:=List.all_eq_true.mpr fun _ _=>rfl
  simp [jaX,runB,jep,jan,e,a]
theorem jbs (n:Nat) (rs:List Row) (hl:rs.length ≤ 100000):jaD [cpD n rs] = some (.bool true):=by
  have h:=jgN rs hl
  have c:ixD (cpD n rs) (.int 1) = some (.tuple (rs.map rowD)):=at1 _ _ _
  simp [jaD,runB,je8,jan,c,h]
theorem juy (C1 C2:D) (n:Int) (p1:jaD [C1] = some (.bool true)) (p2:jaD [C2] = some (.bool true)) (c1:ixD C1 (.int 0) = some (.int n)) (c2:ixD C2 (.int 0) = some (.int n)):jax [C1,C2] = some .none:=by
  have ne:neD (.int n) (.int n) = some (.bool false):=by
    have:neD (.int n) (.int n) = some (.bool (!(n == n))):=rfl
    rw [this,beq_self_eq_true]; rfl
  simp [jax,runB,jd7,jan,p1,p2,c1,c2,ne]
theorem jqV (rs:List Row) (hl:rs.length ≤ 1000):jbN [.fz (.tuple (rs.map rowD))] = some (.list ((rs.filter isSw).map rowD)):=
  jfM (h:=rowD) (b:=isSw) (by simp) (by omega) (fun r _=>by
    obtain ⟨s,h0,h1,_⟩:=jgL r
    simp [jga,h0,h1]) fun r _ _=>by simp
theorem jAb (C1 C2 R1 R2:D) (L1 L2:List D) (z2 z3:Sl) (c1:ixD C1 (.int 1) = some R1) (c2:ixD C2 (.int 1) = some R2) (p1:jbN [.fz R1] = some (.list L1)) (p2:jbN [.fz R2] = some (.list L2)):jeg [.fz C1,.fz C2,z2,z3] = some (.list [.int L1.length,.int L2.length]):=by
  have:=jcZ (fi:=oI (VL.os (jac (o2 (oV 0) (oC (.int 1)) ixD) (jac (o2 (oV 1) (oC (.int 1)) ixD) (jal))) jbm) je6) (caps:=[]) (fe:=VL.os (jac (jbN) (jal)) jcq) (δ:=[.fz C1,.fz C2,z2,z3]) (h:=fun k:Bool=>if k then R2 else R1) (k:=fun k:Bool=>if k then PyData.int L2.length else .int L1.length) (xs:=[false,true]) (by simp [c1,c2]) (by simp) (fun x _=>by
    cases x
    · show (VL.os (jac (jbN) (jal)) jcq) [.fz R1] = _
      simp [p1]
    · show (VL.os (jac (jbN) (jal)) jcq) [.fz R2] = _
      simp [p2])
  exact this
theorem jAa (C1 C2 K1 K2 R:D) (a b s:Int) (p:∀ z2 z3,jeg [.fz C1,.fz C2,z2,z3] = some (.list [.int a,.int b])) (hs:(if b > a then b else a) = s) (k1:jaP [C1,.int (s / 2 + 2)] = some K1) (k2:jaP [C2,.int (s / 2 + 2)] = some K2) (t:jdc [K1,K2] = some R):jaB [C1,C2] = some R:=by
  have m:jsK [.list [.int a,.int b]] = some (.int s):=by rw [← hs]; rfl
  simp [jaB,runB,jeQ,jan,p,m,k1,k2,t]
def jmA (ok:Nat → Bool):Nat → Nat → Option Nat
  | _,0=>none
  | i,m + 1=>if ok i = true then some i else jmA ok (i + 1) m
def outF:Option Nat → Fl
  | some e=>.rt (.int (e:Nat))
  | none=>.nx
def outD:Option Nat → D
  | some e=>.int (e:Nat)
  | none=>.none
theorem jjR {g:D → Dv → Option Dv} {b:Sf} (ok:Nat → Bool) (I:Dv → Prop) (M:Nat) (st:∀ i,i < M → ∀ δ,I δ → ∃ δ1 δ2,g (.int (i:Nat)) δ = some δ1 ∧ b δ1 = some (if ok i = true then .rt (.int (i:Nat)) else .nx,δ2) ∧ I δ2):∀ (m i:Nat) (δ:Dv),i + m ≤ M → I δ → ∃ δ',loop g b ((List.range' i m).map fun k:Nat=>PyData.int (0 + (k:Int))) δ = some (outF (jmA ok i m),δ')
  | 0,i,δ,_,_=>⟨δ,rfl⟩
  | m + 1,i,δ,h,hI=>by
    obtain ⟨δ1,δ2,e1,e2,e3⟩:=st i (by omega) δ hI
    rw [List.range'_succ,List.map_cons,Int.zero_add]
    cases q:ok i with
    | true=>
      rw [if_pos q] at e2
      refine ⟨δ2,?_⟩
      rw [jgQ e1 e2]
      show _ = some (outF (if ok i = true then _ else _),δ2)
      rw [if_pos q]
      rfl
    | false=>
      rw [if_neg (by rw [q]; decide)] at e2
      obtain ⟨δ',e⟩:=jjR ok I M st m (i + 1) δ2 (by omega) e3
      refine ⟨δ',?_⟩
      rw [jbl e1 e2,e]
      show _ = some (outF (if ok i = true then _ else _),δ')
      rw [if_neg (by rw [q]; decide)]
theorem jjS {ok:Nat → Bool}:∀ {m i e:Nat},jmA ok i m = some e → ok e = true ∧ i ≤ e ∧ e < i + m
  | 0,i,e,h=>by cases h
  | m + 1,i,e,h=>by
    have h:(if ok i = true then some i else jmA ok (i + 1) m) = some e:=h
    by_cases q:ok i = true
    · rw [if_pos q] at h; cases h; exact ⟨q,Nat.le_refl _,by omega⟩
    · rw [if_neg q] at h
      obtain ⟨a,b,c⟩:=jjS h
      exact ⟨a,by omega,by omega⟩
theorem jjT {ok:Nat → Bool}:∀ {m i:Nat},jmA ok i m = none → ∀ e,i ≤ e → e < i + m → ok e = false
  | 0,i,_,e,h1,h2=>by omega
  | m + 1,i,h,e,h1,h2=>by
    have h:(if ok i = true then some i else jmA ok (i + 1) m) = none:=h
    by_cases q:ok i = true
    · rw [if_pos q] at h; cases h
    · rw [if_neg q] at h
      by_cases z:e = i
      · subst z; exact Bool.eq_false_iff.mpr q
      · exact jjT h e (by omega) (by omega)
noncomputable def TnB (n:Nat) (F G:Nat → Nu) (e:Nat):Bool:=@decide (∀ x,x < 2 ^ n → MA.jcC e (F x) = G x) (Classical.propDecidable _)
noncomputable def AlB (n:Nat) (as bs:List Row) (e:Nat):Bool:=@decide (Al n as bs e) (Classical.propDecidable _)
theorem alB_iff {n:Nat} {as bs:List Row} {e:Nat}:AlB n as bs e = true ↔ Al n as bs e:=@decide_eq_true_iff _ (Classical.propDecidable _)
theorem jz6 (X Y:D) (L:List D) (o:Option Nat) (δ:Dv) (rg:jbz [.int 8] = some L) (lp:loop (gN 2) jec L [.fz X,.fz Y,.un] = some (outF o,δ)):jdc [X,Y] = some (outD o):=by
  cases o <;> simp [outF,outD] at lp ⊢ <;> simp [jdc,runB,jhG,jan,rg,lp]
theorem joY {n:Nat} (hn:n ≤ 6) (F G:Nat → Nu):jdc [stD n F,stD n G] = some (outD (jmA (TnB n F G) 0 8)):=by
  have st:∀ a:Nat,a < 8 → ∀ δ,(∃ z,δ = [.fz (stD n F),.fz (stD n G),z]) → ∃ δ1 δ2,gN 2 (.int (a:Nat)) δ = some δ1 ∧ jec δ1 = Option.some (if TnB n F G a = true then .rt (.int (a:Nat)) else .nx,δ2) ∧ ∃ z,δ2 = [.fz (stD n F),.fz (stD n G),z]:=fun a ha δ hδ=>by
    obtain ⟨z,rfl⟩:=hδ
    exact ⟨_,_,rfl,jz4 _ _ _ _ _ (jz5 hn F _ a) (juf (fun x=>MA.jcC a (F x)) G _ (@decide_eq_true_iff _ (Classical.propDecidable _))),_,rfl⟩
  obtain ⟨δ',lp⟩:=jjR (TnB n F G) (fun δ=>∃ z,δ = [.fz (stD n F),.fz (stD n G),z]) 8 st 8 0 [.fz (stD n F),.fz (stD n G),.un] (by omega) ⟨.un,rfl⟩
  exact jz6 _ _ _ _ δ' rfl lp
theorem jix:∀ rs:List Row,(rs.filter isSw).length = swL rs
  | []=>rfl
  | r :: rs=>by
    have ih:=jix rs
    show _ = swn r + swL rs
    rw [List.filter_cons]
    cases r <;> simp [isSw,swn,ih] <;> omega
theorem jg1 {n:Nat} (hn:n ≤ 4) {as bs:List Row} (ha:∀ r ∈ as,r.ok n) (hb:∀ r ∈ bs,r.ok n) (hl:as.length ≤ 240) (hl':bs.length ≤ 240):jaB [cpD n as,cpD n bs] = some (outD (jmA (AlB n as bs) 0 8)):=by
  have sa:=jex as
  have sb:=jex bs
  have m3:mx as bs ≤ 240:=Nat.max_le.mpr ⟨by omega,by omega⟩
  have t:=joY (n:=n) (by omega) (jct n (jgb n (mx as bs / 2 + 2)) as) (jct n (jgb n (mx as bs / 2 + 2)) bs)
  have e:TnB n (jct n (jgb n (mx as bs / 2 + 2)) as) (jct n (jgb n (mx as bs / 2 + 2)) bs) = AlB n as bs:=funext fun e=>by
    apply Bool.eq_iff_iff.mpr
    rw [alB_iff]
    refine (@decide_eq_true_iff _ (Classical.propDecidable _)).trans ⟨fun h b hb' x hx=>(jwi hn ha hb hl hl' x hx).mp (h x hx) b hb',fun h x hx=>(jwi hn ha hb hl hl' x hx).mpr fun b hb'=>h b hb' x hx⟩
  rw [e] at t
  refine jAa _ _ _ _ _ _ _ (mx as bs:Nat) (fun z2 z3=>jAb _ _ _ _ _ _ z2 z3 (at1 _ _ _) (at1 _ _ _) (jqV as (by omega)) (jqV bs (by omega))) ?_ (joe hn as ha hl (mx as bs / 2 + 2) (by omega)) (joe hn bs hb hl' (mx as bs / 2 + 2) (by omega)) t
  rw [List.length_map,List.length_map,jix,jix]
  unfold mx
  split <;> omega
def q4D (u:MA.Q4):D:=.tuple [.int u.a,.int u.b,.int u.c,.int u.d]
def mkL (n:Nat) (q:Nat → MA.Q4):List D:=(List.range (2 ^ n)).map fun x=>q4D (q x)
def qD (n:Nat) (q:Nat → MA.Q4):D:=.list (mkL n q)
theorem jkx (n:Nat) (q:Nat → MA.Q4):(mkL n q).length = 2 ^ n:=by unfold mkL; rw [List.length_map,List.length_range]
theorem jjA {n:Nat} {q:Nat → MA.Q4} {p:Nat} {i:Int} (hi:i = p) (hp:p < 2 ^ n):ixD (qD n q) (.int i) = some (q4D (q p)):=jdl (j:=p) hi (by simp [mkL,hp])
theorem jm9 {N:Nat} (F:Nat → D) {p:Nat} (hp:p < N) (v:D):((List.range N).map F).set p v = (List.range N).map fun x=>if x = p then v else F x:=by
  apply List.ext_getElem?
  intro i
  rw [List.getElem?_set,List.length_map,List.length_range,List.getElem?_map,List.getElem?_map]
  by_cases h:p = i
  · subst h
    rw [if_pos rfl,if_pos hp,List.getElem?_range hp]
    show some v = some (if p = p then v else F p)
    rw [if_pos rfl]
  · rw [if_neg h]
    by_cases hi:i < N
    · rw [List.getElem?_range hi]
      show some (F i) = some (if i = p then v else F i)
      rw [if_neg (Ne.symm h)]
    · rw [List.getElem?_eq_none (by rw [List.length_range]; omega)]
      rfl
theorem jnA {n:Nat} (q:Nat → MA.Q4) {p:Nat} (hp:p < 2 ^ n) (v:MA.Q4):(mkL n q).set p (q4D v) = mkL n (fun x=>if x = p then v else q x):=by
  unfold mkL
  rw [jm9 _ hp]
  exact List.map_congr_left fun x _=>(apply_ite q4D (x = p) v (q x)).symm
theorem jsL (X:D) (a b c d:Int) (z1 z2:Sl) (x0:ixD X (.int 0) = some (.int a)) (x1:ixD X (.int 1) = some (.int b)) (x2:ixD X (.int 2) = some (.int c)) (x3:ixD X (.int 3) = some (.int d)):jck [.fz X,z1,z2] = some (.nx,[.fz (.tuple [.int (-d),.int a,.int b,.int c]),z1,z2]):=by
  simp [jck,x0,x1,x2,x3]
theorem jqS:∀ (n:Nat) (u:MA.Q4),MA.tnn n (MA.Q4.tn u) = MA.tnn (n + 1) u
  | 0,u=>rfl
  | n + 1,u=>by show MA.Q4.tn (MA.tnn n (MA.Q4.tn u)) = MA.Q4.tn (MA.tnn (n + 1) u); rw [jqS n u]
theorem jh8 (z1:Sl):∀ (L:List D) (u:MA.Q4) (z2:Sl),∃ y2,loop (gN 2) jck L [.fz (q4D u),z1,z2] = some (.nx,[.fz (q4D (MA.tnn L.length u)),z1,y2])
  | [],u,z2=>⟨z2,rfl⟩
  | x :: L,u,z2=>by
    obtain ⟨y2,e⟩:=jh8 z1 L (MA.Q4.tn u) (.fz x)
    refine ⟨y2,?_⟩
    rw [jbl (δ1:=[.fz (q4D u),z1,.fz x]) (δ2:=[.fz (q4D (MA.Q4.tn u)),z1,.fz x]) (by simp) (jsL (q4D u) u.a u.b u.c u.d z1 (.fz x) rfl rfl rfl rfl),e,jqS]
    rfl
theorem jnD (X Y:D) (e f:Int) (L:List D) (y2:Sl) (hf:e % 8 = f) (hN:jbz [.int f] = some L) (lp:loop (gN 2) jck L [.fz X,.fz (.int e),.un] = some (.nx,[.fz Y,.fz (.int e),y2])):jaH [X,.int e] = some Y:=by
  subst hf
  simp [jaH,runB,jer,jan,hN,lp]
theorem jf3 (u:MA.Q4) (e:Nat):jaH [q4D u,.int (e:Nat)] = some (q4D (MA.tnn e u)):=by
  have hN:jbz [.int ((e % 8:Nat):Int)] = some (jke 0 (e % 8)):=jg8 (j:=((e % 8:Nat):Int)) (by omega) (by omega)
  obtain ⟨y2,lp⟩:=jh8 (.fz (.int (e:Nat))) (jke 0 (e % 8)) u .un
  have:(jke 0 (e % 8)).length = e % 8:=by unfold jke; rw [List.length_map,List.length_range]
  rw [this,MA.jit] at lp
  exact jnD _ _ _ _ _ y2 (by omega) hN lp
theorem jpS (X:D) (a b c d:Int) (z1 z2:Sl) (x0:ixD X (.int 0) = some (.int a)) (x1:ixD X (.int 1) = some (.int b)) (x2:ixD X (.int 2) = some (.int c)) (x3:ixD X (.int 3) = some (.int d)):jcl [.fz X,z1,z2] = some (.nx,[.fz (.tuple [.int (b - d),.int (a + c),.int (b + d),.int (c - a)]),z1,z2]):=by
  simp [jcl,x0,x1,x2,x3]
theorem jho (z1:Sl):∀ (L:List D) (u:MA.Q4) (z2:Sl),∃ y2,loop (gN 2) jcl L [.fz (q4D u),z1,z2] = some (.nx,[.fz (q4D (MA.Q4.rtn L.length u)),z1,y2])
  | [],u,z2=>⟨z2,rfl⟩
  | x :: L,u,z2=>by
    obtain ⟨y2,e⟩:=jho z1 L (MA.Q4.rt u) (.fz x)
    refine ⟨y2,?_⟩
    rw [jbl (δ1:=[.fz (q4D u),z1,.fz x]) (δ2:=[.fz (q4D (MA.Q4.rt u)),z1,.fz x]) (by simp) (jpS (q4D u) u.a u.b u.c u.d z1 (.fz x) rfl rfl rfl rfl),e]
    rfl
theorem jnF (X Y:D) (e:Int) (L:List D) (y2:Sl) (hN:jbz [.int e] = some L) (lp:loop (gN 2) jcl L [.fz X,.fz (.int e),.un] = some (.nx,[.fz Y,.fz (.int e),y2])):jbc [X,.int e] = some Y:=by
  simp [jbc,runB,jet,jan,hN,lp]
theorem jh9 (u:MA.Q4) (e:Nat) (he:e ≤ 1000000):jbc [q4D u,.int (e:Nat)] = some (q4D (MA.Q4.rtn e u)):=by
  have hN:jbz [.int ((e:Nat):Int)] = some (jke 0 e):=jg8 (j:=((e:Nat):Int)) (by omega) (by omega)
  obtain ⟨y2,lp⟩:=jho (.fz (.int (e:Nat))) (jke 0 e) u .un
  have:(jke 0 e).length = e:=by unfold jke; rw [List.length_map,List.length_range]
  rw [this] at lp
  exact jnF _ _ _ _ y2 hN lp
theorem jqZ {n j:Nat} (hj:j < n) (hn:n ≤ 6):jeC (.int 1) (.int ((n:Int) - 1 - (j:Int))) = some (.int (wt n j:Nat)):=by
  have h:=jpf (n - 1 - j) (by omega)
  rw [show ((n:Int) - 1 - (j:Int)) = ((n - 1 - j:Nat):Int) by omega,h]
  rfl
theorem jvh (a b:Bool):neD (.bool a) (.bool b) = some (.bool (a != b)):=by cases a <;> cases b <;> rfl
theorem jvR (R:D) (n p j w k:Int) (r0:ixD R (.int 0) = some (.str "flip")) (r1:ixD R (.int 1) = some (.int j)) (s1:jeC (.int 1) (.int (n - 1 - j)) = some (.int w)) (hx:Builtin.bitXor p w = k):jaM [.int p,R,.int n] = some (.int k):=by
  simp [jaM,runB,jb8,jan,r0,r1,s1,hx]
section
variable (R:D) (p n i j w1 w2 m1 m2:Int) (r1:ixD R (.int 1) = some (.int i)) (r2:ixD R (.int 2) = some (.int j)) (s1:jeC (.int 1) (.int (n - 1 - i)) = some (.int w1)) (s2:jeC (.int 1) (.int (n - 1 - j)) = some (.int w2)) (b1:Builtin.bitAnd p w1 = m1) (b2:Builtin.bitAnd p w2 = m2)
include r1 r2 s1 s2 b1
theorem jxn (k:Int) (r0:ixD R (.int 0) = some (.str "tie")) (hx:(if 0 < m1 then Builtin.bitXor p w2 else p) = k):jaM [.int p,R,.int n] = some (.int k):=by
  subst hx
  by_cases h:0 < m1
  · simp [jaM,runB,jb8,jan,r0,r1,r2,s1,s2,b1,h]
  · simp [jaM,runB,jb8,jan,r0,r1,r2,s1,s2,b1,h]
include b2
theorem jtl (k W:Int) (r0:ixD R (.int 0) = some (.str "cross")) (ho:Builtin.bitOr w1 w2 = W) (hx:(if (decide (0 < m1) != decide (0 < m2)) = true then Builtin.bitXor p W else p) = k):jaM [.int p,R,.int n] = some (.int k):=by
  subst hx
  have nb:=jvh (decide (0 < m1)) (decide (0 < m2))
  cases h:(decide (0 < m1) != decide (0 < m2)) with
  | true=>
    rw [h] at nb
    simp [jaM,runB,jb8,jan,r0,r1,r2,s1,s2,b1,b2,ho,nb]
  | false=>
    rw [h] at nb
    simp [jaM,runB,jb8,jan,r0,r1,r2,s1,s2,b1,b2,ho,nb]
end
theorem jfo {n j p:Nat} (hn:n ≤ 6) (hj:j < n) (hp:p < 2 ^ n):Builtin.bitAnd (p:Int) (wt n j:Nat) = ((wt n j * bit (wt n j) p:Nat):Int):=by
  rw [MA.jrM,(jhK hn hj hp).1]
theorem bit_pos {n j p:Nat}:(0:Int) < ((wt n j * bit (wt n j) p:Nat):Int) ↔ bit (wt n j) p ≠ 0:=by
  have hw:=MA.jaU n j
  have l:=MA.jbA (wt n j) p
  rcases (by omega:bit (wt n j) p = 0 ∨ bit (wt n j) p = 1) with h | h
  · rw [h]; simp
  · rw [h]; simp; omega
theorem jkL {n j p:Nat} (hn:n ≤ 6) (hj:j < n) (hp:p < 2 ^ n):Builtin.bitXor (p:Int) (wt n j:Nat) = ((flp (wt n j) p:Nat):Int):=by
  rw [MA.jtZ,(jhK hn hj hp).2]
def jzK:Row → Bool
  | .flip _=>true
  | .tie _ _=>true
  | .cross _ _=>true
  | _=>false
theorem jnI {n:Nat} (hn:n ≤ 6) {r:Row} (hr:r.ok n) (hp:jzK r = true) {p:Nat} (h:p < 2 ^ n):jaM [.int (p:Nat),rowD r,.int (n:Nat)] = some (.int (from_ n r p:Nat)):=by
  cases r with
  | swing j=>cases hp
  | turn j e=>cases hp
  | sign i j=>cases hp
  | flip j=>exact jvR _ _ _ j _ _ rfl rfl (jqZ hr hn) (jkL hn hr h)
  | tie i j=>
    refine jxn _ _ _ i j _ _ _ rfl rfl (jqZ hr.1 hn) (jqZ hr.2.1 hn) (jfo hn hr.1 h) _ rfl ?_
    rw [jkL hn hr.2.1 h]
    show _ = ((if bit (wt n i) p = 0 then p else flp (wt n j) p:Nat):Int)
    by_cases q:bit (wt n i) p = 0
    · rw [if_pos q,if_neg (fun z=>bit_pos.mp z q)]
    · rw [if_neg q,if_pos (bit_pos.mpr q)]
  | cross i j=>
    have a2:=jhJ hn hr.1 hr.2.1 hr.2.2 h
    have ho:Builtin.bitOr (wt n i:Nat) (wt n j:Nat) = ((wt n i + wt n j:Nat):Int):=by rw [MA.bor,a2.1]
    refine jtl _ _ _ i j _ _ _ _ rfl rfl (jqZ hr.1 hn) (jqZ hr.2.1 hn) (jfo hn hr.1 h) (jfo hn hr.2.1 h) _ _ rfl ho ?_
    rw [MA.jtZ,a2.2.2]
    show _ = ((if bit (wt n i) p = bit (wt n j) p then p else flp (wt n j) (flp (wt n i) p):Nat):Int)
    have l1:=MA.jbA (wt n i) p
    have l2:=MA.jbA (wt n j) p
    have d:∀ j,decide ((0:Int) < ((wt n j * bit (wt n j) p:Nat):Int)) = decide (bit (wt n j) p ≠ 0):=fun j=>decide_eq_decide.mpr bit_pos
    rw [d,d]
    by_cases q:bit (wt n i) p = bit (wt n j) p
    · rw [if_pos q,q]
      simp
    · rw [if_neg q]
      rw [if_pos]
      rcases (by omega:bit (wt n i) p = 0 ∨ bit (wt n i) p = 1) with h1 | h1
      · have h2:bit (wt n j) p = 1:=by omega
        rw [h1,h2]; rfl
      · have h2:bit (wt n j) p = 0:=by omega
        rw [h1,h2]; rfl
theorem jht {n:Nat} {r:Row} (hr:r.ok n) (p:Nat):from_ n r (from_ n r p) = p:=by
  cases r with
  | swing j=>rfl
  | turn j e=>rfl
  | sign i j=>rfl
  | flip j=>exact MA.jce (MA.jaU n j)
  | tie i j=>
    have e:∀ x,from_ n (.tie i j) x = if bit (wt n i) x = 0 then x else flp (wt n j) x:=fun _=>rfl
    rw [e p]
    by_cases h:bit (wt n i) p = 0
    · rw [if_pos h,e,if_pos h]
    · rw [if_neg h,e,MA.jcw hr.2.1 hr.1 (Ne.symm hr.2.2),if_neg h,MA.jce (MA.jaU n j)]
  | cross i j=>
    have e:∀ x,from_ n (.cross i j) x = if bit (wt n i) x = bit (wt n j) x then x else flp (wt n j) (flp (wt n i) x):=fun _=>rfl
    rw [e p]
    by_cases h:bit (wt n i) p = bit (wt n j) p
    · rw [if_pos h,e,if_pos h]
    · rw [if_neg h,e]
      have l1:=MA.jbA (wt n i) p
      have l2:=MA.jbA (wt n j) p
      rw [MA.jcw hr.2.1 hr.1 (Ne.symm hr.2.2),MA.ja5 (MA.jaU n i),MA.ja5 (MA.jaU n j),MA.jcw hr.1 hr.2.1 hr.2.2,if_neg (by omega),← MA.je7 (p:=flp (wt n i) p) hr.1 hr.2.1 hr.2.2,MA.jce (MA.jaU n i),MA.jce (MA.jaU n j)]
theorem jyY:inD false (.str "turn") (.tuple [.str "flip",.str "tie",.str "cross"]) = some (.bool false):=by rfl
theorem jvN:inD false (.str "sign") (.tuple [.str "flip",.str "tie",.str "cross"]) = some (.bool false):=by rfl
theorem jy0:inD false (.str "flip") (.tuple [.str "flip",.str "tie",.str "cross"]) = some (.bool true):=by rfl
theorem jyZ:inD false (.str "tie") (.tuple [.str "flip",.str "tie",.str "cross"]) = some (.bool true):=by rfl
theorem jy1:inD false (.str "cross") (.tuple [.str "flip",.str "tie",.str "cross"]) = some (.bool true):=by rfl
theorem jnP {N i:Nat} (h:i < N):ixN N (i:Int) = some i:=by
  unfold ixN
  simp
  omega
section
variable (Q R A:D) (n p w m:Int) (z6 z7:Sl) (ds ds':List D) (ba:Builtin.bitAnd p w = m) (a:ixD Q (.int p) = some A)
include ba a
theorem jur (B:D) (k a0 a1 a2 a3 b0 b1 b2 b3:Int) (r0:ixD R (.int 0) = some (.str "swing")) (hx:Builtin.bitXor p w = k) (hm:0 < m) (b:ixD Q (.int k) = some B) (e0:ixD A (.int 0) = some (.int a0)) (e1:ixD A (.int 1) = some (.int a1)) (e2:ixD A (.int 2) = some (.int a2)) (e3:ixD A (.int 3) = some (.int a3)) (f0:ixD B (.int 0) = some (.int b0)) (f1:ixD B (.int 1) = some (.int b1)) (f2:ixD B (.int 2) = some (.int b2)) (f3:ixD B (.int 3) = some (.int b3)) (pt:jmz ds (.int p) (.tuple [.int (b0 - a0),.int (b1 - a1),.int (b2 - a2),.int (b3 - a3)]) = some ds'):jao [.fz Q,.fz R,.fz (.int n),.ow ds,.fz (.int w),.fz (.int p),z6,z7] = some (.nx,[.fz Q,.fz R,.fz (.int n),.ow ds',.fz (.int w),.fz (.int p),.fz A,.fz B]):=by
  rw [jdu] at pt
  simp [-jam,-sIf,jbY,jdt,jao,ba,a,r0,hx,hm,b,e0,e1,e2,e3,f0,f1,f2,f3,pt]
theorem jus (B:D) (k a0 a1 a2 a3 b0 b1 b2 b3:Int) (r0:ixD R (.int 0) = some (.str "swing")) (hx:Builtin.bitXor p w = k) (hm:¬ 0 < m) (b:ixD Q (.int k) = some B) (e0:ixD A (.int 0) = some (.int a0)) (e1:ixD A (.int 1) = some (.int a1)) (e2:ixD A (.int 2) = some (.int a2)) (e3:ixD A (.int 3) = some (.int a3)) (f0:ixD B (.int 0) = some (.int b0)) (f1:ixD B (.int 1) = some (.int b1)) (f2:ixD B (.int 2) = some (.int b2)) (f3:ixD B (.int 3) = some (.int b3)) (pt:jmz ds (.int p) (.tuple [.int (a0 + b0),.int (a1 + b1),.int (a2 + b2),.int (a3 + b3)]) = some ds'):jao [.fz Q,.fz R,.fz (.int n),.ow ds,.fz (.int w),.fz (.int p),z6,z7] = some (.nx,[.fz Q,.fz R,.fz (.int n),.ow ds',.fz (.int w),.fz (.int p),.fz A,.fz B]):=by
  rw [jdu] at pt
  simp [-jam,-sIf,jbY,jdt,jao,ba,a,r0,hx,hm,b,e0,e1,e2,e3,f0,f1,f2,f3,pt]
theorem jup (V:D) (e:Int) (r0:ixD R (.int 0) = some (.str "turn")) (hm:0 < m) (r2:ixD R (.int 2) = some (.int e)) (v:jaH [A,.int e] = some V) (pt:jmz ds (.int p) V = some ds'):jao [.fz Q,.fz R,.fz (.int n),.ow ds,.fz (.int w),.fz (.int p),z6,z7] = some (.nx,[.fz Q,.fz R,.fz (.int n),.ow ds',.fz (.int w),.fz (.int p),.fz A,z7]):=by
  rw [jdu] at pt
  simp [-jam,-sIf,jbY,jdt,jao,ba,a,r0,hm,r2,v,pt]
theorem juq (r0:ixD R (.int 0) = some (.str "turn")) (hm:¬ 0 < m):jao [.fz Q,.fz R,.fz (.int n),.ow ds,.fz (.int w),.fz (.int p),z6,z7] = some (.nx,[.fz Q,.fz R,.fz (.int n),.ow ds,.fz (.int w),.fz (.int p),.fz A,z7]):=by
  simp [-jam,-sIf,jbY,jdt,jao,ba,a,r0,hm,jyY]
theorem jut (V:D) (j w2 m2:Int) (r0:ixD R (.int 0) = some (.str "sign")) (r2:ixD R (.int 2) = some (.int j)) (s2:jeC (.int 1) (.int (n - 1 - j)) = some (.int w2)) (b2:Builtin.bitAnd p w2 = m2) (hm:0 < m) (hm2:0 < m2) (v:jaH [A,.int 4] = some V) (pt:jmz ds (.int p) V = some ds'):jao [.fz Q,.fz R,.fz (.int n),.ow ds,.fz (.int w),.fz (.int p),z6,z7] = some (.nx,[.fz Q,.fz R,.fz (.int n),.ow ds',.fz (.int w),.fz (.int p),.fz A,z7]):=by
  rw [jdu] at pt
  simp [-jam,-sIf,jbY,jdt,jao,ba,a,r0,hm,r2,s2,b2,hm2,v,pt]
theorem juu (j w2 m2:Int) (r0:ixD R (.int 0) = some (.str "sign")) (r2:ixD R (.int 2) = some (.int j)) (s2:jeC (.int 1) (.int (n - 1 - j)) = some (.int w2)) (b2:Builtin.bitAnd p w2 = m2) (hm:¬ (0 < m ∧ 0 < m2)):jao [.fz Q,.fz R,.fz (.int n),.ow ds,.fz (.int w),.fz (.int p),z6,z7] = some (.nx,[.fz Q,.fz R,.fz (.int n),.ow ds,.fz (.int w),.fz (.int p),.fz A,z7]):=by
  by_cases h:0 < m
  · have h2:¬ 0 < m2:=fun z=>hm ⟨h,z⟩
    simp [-jam,-sIf,jbY,jdt,jao,ba,a,r0,h,r2,s2,b2,h2,jvN]
  · simp [-jam,-sIf,jbY,jdt,jao,ba,a,r0,h,jvN]
omit ba in
theorem jxT (s:Str) (k:D) (r0:ixD R (.int 0) = some (.str s)) (n1:eqD (.str s) (.str "swing") = some (.bool false)) (n2:eqD (.str s) (.str "turn") = some (.bool false)) (n3:eqD (.str s) (.str "sign") = some (.bool false)) (n4:inD false (.str s) (.tuple [.str "flip",.str "tie",.str "cross"]) = some (.bool true)) (mv:jaM [.int p,R,.int n] = some k) (pt:jmz ds k A = some ds'):jao [.fz Q,.fz R,.fz (.int n),.ow ds,.fz (.int w),.fz (.int p),z6,z7] = some (.nx,[.fz Q,.fz R,.fz (.int n),.ow ds',.fz (.int w),.fz (.int p),.fz A,z7]):=by
  simp [-jam,-sIf,jbY,jdt,jao,a,r0,n1,n2,n3,n4,mv,pt]
end
def spL (n:Nat) (q:Nat → MA.Q4) (r:Row) (i:Nat):Nat → MA.Q4:=fun x=>if from_ n r x < i then ldn n q r x else q x
theorem jlh {n:Nat} (q:Nat → MA.Q4) {r:Row} (hr:r.ok n) (i:Nat):spL n q r (i + 1) = fun x=>if x = from_ n r i then ldn n q r (from_ n r i) else spL n q r i x:=funext fun x=>by
  show (if from_ n r x < i + 1 then _ else _) = _
  by_cases h:x = from_ n r i
  · rw [if_pos h,h,jht hr,if_pos (by omega)]
  · have:from_ n r x ≠ i:=fun z=>h (by rw [← z,jht hr])
    rw [if_neg h]
    show _ = if from_ n r x < i then ldn n q r x else q x
    by_cases h2:from_ n r x < i
    · rw [if_pos h2,if_pos (by omega)]
    · rw [if_neg h2,if_neg (by omega)]
theorem jjB {n:Nat} (q:Nat → MA.Q4) {r:Row} (hr:r.ok n) {i:Nat} (hi:i < 2 ^ n) {v:MA.Q4} (hv:v = ldn n q r (from_ n r i)):jmz (mkL n (spL n q r i)) (.int (from_ n r i:Nat)) (q4D v) = some (mkL n (spL n q r (i + 1))):=by
  have h:=MA.jky hr hi
  rw [jdu,jkx]
  have e:ixN (2 ^ n) ((from_ n r i:Nat):Int) = some (from_ n r i):=jnP h
  rw [e,jlh q hr,← hv]
  exact congrArg some (jnA _ h v)
theorem jnN {n:Nat} (q:Nat → MA.Q4) {r:Row} (hr:r.ok n) {i:Nat} (h:from_ n r i = i) (hv:ldn n q r i = q i):mkL n (spL n q r (i + 1)) = mkL n (spL n q r i):=by
  rw [jlh q hr,h,hv]
  congr 1
  funext x
  by_cases hx:x = i
  · rw [if_pos hx,hx]
    show q i = if from_ n r i < i then ldn n q r i else q i
    rw [hv]; split <;> rfl
  · rw [if_neg hx]
theorem tn4 (u v:MA.Q4):MA.Q4.add v (MA.tnn 4 u) = ⟨v.a - u.a,v.b - u.b,v.c - u.c,v.d - u.d⟩:=by
  apply MA.Q4.ext' <;> simp [MA.tnn,MA.Q4.tn,MA.Q4.add] <;> omega
theorem jr9 {n:Nat} (hn:n ≤ 6) (q:Nat → MA.Q4) (r:Row) (hr:r.ok n) (j:Nat) (hj:ixD (rowD r) (.int 1) = some (.int (j:Nat))) (i:Nat) (hi:i < 2 ^ n) (z6 z7:Sl):∃ y6 y7,jao [.fz (qD n q),.fz (rowD r),.fz (.int (n:Nat)),.ow (mkL n (spL n q r i)),.fz (.int (wt n j:Nat)),.fz (.int (i:Nat)),z6,z7] = some (.nx,[.fz (qD n q),.fz (rowD r),.fz (.int (n:Nat)),.ow (mkL n (spL n q r (i + 1))),.fz (.int (wt n j:Nat)),.fz (.int (i:Nat)),y6,y7]):=by
  have a:=jjA (n:=n) (q:=q) (p:=i) (i:=(i:Int)) rfl hi
  have bp:∀ j,(0:Int) < ((wt n j * bit (wt n j) i:Nat):Int) ↔ bit (wt n j) i ≠ 0:=fun j=>bit_pos
  have b1:∀ j,bit (wt n j) i ≠ 0 → bit (wt n j) i = 1:=fun j h=>by have:=MA.jbA (wt n j) i; omega
  have pm:jzK r = true → ∀ s:Str,ixD (rowD r) (.int 0) = some (.str s) → eqD (.str s) (.str "swing") = some (.bool false) → eqD (.str s) (.str "turn") = some (.bool false) → eqD (.str s) (.str "sign") = some (.bool false) → inD false (.str s) (.tuple [.str "flip",.str "tie",.str "cross"]) = some (.bool true) → ldn n q r (from_ n r i) = q (from_ n r (from_ n r i)) → ∃ y6 y7,jao [.fz (qD n q),.fz (rowD r),.fz (.int (n:Nat)),.ow (mkL n (spL n q r i)),.fz (.int (wt n j:Nat)),.fz (.int (i:Nat)),z6,z7] = some (.nx,[.fz (qD n q),.fz (rowD r),.fz (.int (n:Nat)),.ow (mkL n (spL n q r (i + 1))),.fz (.int (wt n j:Nat)),.fz (.int (i:Nat)),y6,y7]):=fun h s r0 n1 n2 n3 n4 hl=>
    ⟨_,_,jxT _ _ _ _ _ _ z6 z7 _ _ a s _ r0 n1 n2 n3 n4 (jnI hn hr h hi) (jjB q hr hi (by rw [hl,jht hr]))⟩
  cases r with
  | swing k=>
    have hk:j = k:=by have e:ixD (rowD (.swing k)) (.int 1) = some (.int (k:Nat)):=rfl; rw [e] at hj; injection hj with h; injection h with h; omega
    subst hk
    have ba:=jfo hn hr hi
    have bx:=jkL hn hr hi
    have b:=jjA (n:=n) (q:=q) (p:=flp (wt n j) i) (i:=(flp (wt n j) i:Nat)) rfl (MA.jgj hr hi)
    by_cases h:bit (wt n j) i = 0
    · refine ⟨_,_,jus _ _ _ _ _ _ _ z6 z7 _ _ ba a _ _ _ _ _ _ _ _ _ _ rfl bx (fun z=>(bp j).mp z h) b rfl rfl rfl rfl rfl rfl rfl rfl (jjB (v:=MA.Q4.add (q i) (q (flp (wt n j) i))) q hr hi ?_)⟩
      rw [show from_ n (.swing j) i = i from rfl,jdO,if_pos h]
    · refine ⟨_,_,jur _ _ _ _ _ _ _ z6 z7 _ _ ba a _ _ _ _ _ _ _ _ _ _ rfl bx ((bp j).mpr h) b rfl rfl rfl rfl rfl rfl rfl rfl (jjB (v:=⟨(q (flp (wt n j) i)).a - (q i).a,(q (flp (wt n j) i)).b - (q i).b,(q (flp (wt n j) i)).c - (q i).c,(q (flp (wt n j) i)).d - (q i).d⟩) q hr hi ?_)⟩
      rw [show from_ n (.swing j) i = i from rfl,jdO,if_neg h,tn4]
  | turn k e=>
    have hk:j = k:=by have e:ixD (rowD (.turn k e)) (.int 1) = some (.int (k:Nat)):=rfl; rw [e] at hj; injection hj with h; injection h with h; omega
    subst hk
    have ba:=jfo hn hr.1 hi
    have le:ldn n q (.turn j e) i = MA.tnn (e * bit (wt n j) i) (q i):=rfl
    by_cases h:bit (wt n j) i = 0
    · rw [jnN q hr rfl (by rw [le,h,Nat.mul_zero]; rfl)]
      exact ⟨_,_,juq _ _ _ _ _ _ _ z6 z7 _ ba a rfl (fun z=>(bp j).mp z h)⟩
    · refine ⟨_,_,jup _ _ _ _ _ _ _ z6 z7 _ _ ba a _ _ rfl ((bp j).mpr h) rfl (jf3 (q i) e) (jjB q hr hi ?_)⟩
      show _ = ldn n q (.turn j e) i
      rw [le,b1 j h,Nat.mul_one]
  | sign k l=>
    have hk:j = k:=by have e:ixD (rowD (.sign k l)) (.int 1) = some (.int (k:Nat)):=rfl; rw [e] at hj; injection hj with h; injection h with h; omega
    subst hk
    have ba:=jfo hn hr.1 hi
    have bb:=jfo hn hr.2.1 hi
    have le:ldn n q (.sign j l) i = MA.tnn (4 * bit (wt n j) i * bit (wt n l) i) (q i):=rfl
    by_cases h:bit (wt n j) i ≠ 0 ∧ bit (wt n l) i ≠ 0
    · refine ⟨_,_,jut _ _ _ _ _ _ _ z6 z7 _ _ ba a _ l _ _ rfl rfl (jqZ hr.2.1 hn) bb ((bp j).mpr h.1) ((bp l).mpr h.2) (jf3 (q i) 4) (jjB q hr hi ?_)⟩
      show _ = ldn n q (.sign j l) i
      rw [le,b1 j h.1,b1 l h.2]
    · rw [jnN q hr rfl (by
        rw [le]
        by_cases h1:bit (wt n j) i = 0
        · rw [h1,Nat.mul_zero,Nat.zero_mul]; rfl
        · have h2:bit (wt n l) i = 0:=Classical.byContradiction fun z=>h ⟨h1,z⟩
          rw [h2,Nat.mul_zero]; rfl)]
      exact ⟨_,_,juu _ _ _ _ _ _ _ z6 z7 _ ba a l _ _ rfl rfl (jqZ hr.2.1 hn) bb (fun z=>h ⟨(bp j).mp z.1,(bp l).mp z.2⟩)⟩
  | flip k=>exact pm rfl "flip" rfl (by simp) (by simp) (by simp) jy0 rfl
  | tie k l=>exact pm rfl "tie" rfl (by simp) (by simp) (by simp) jyZ rfl
  | cross k l=>exact pm rfl "cross" rfl (by simp) (by simp) (by simp) jy1 rfl
theorem jx1 (Q R:D) (n j w S:Int) (qs L ds:List D) (z4 z5 z6 z7:Sl) (it:je6 Q = some qs) (r1:ixD R (.int 1) = some (.int j)) (s1:jeC (.int 1) (.int (n - 1 - j)) = some (.int w)) (ln:jcq [Q] = some (.int S)) (rg:jbz [.int S] = some L) (lp:loop (gN 5) jao L [.fz Q,.fz R,.fz (.int n),.ow qs,.fz (.int w),.un,.un,.un] = some (.nx,[.fz Q,.fz R,.fz (.int n),.ow ds,z4,z5,z6,z7])):jaY [Q,R,.int n] = some (.list ds):=by
  simp [jaY,runB,jdL,jan,oLs,it,r1,s1,ln,rg,lp,dFz]
theorem jsb {n:Nat} (r:Row) (hr:r.ok n):∃ j:Nat,ixD (rowD r) (.int 1) = some (.int (j:Nat)) ∧ j < n:=by
  cases r with
  | swing j=>exact ⟨j,rfl,hr⟩
  | turn j e=>exact ⟨j,rfl,hr.1⟩
  | flip j=>exact ⟨j,rfl,hr⟩
  | tie i j=>exact ⟨i,rfl,hr.1⟩
  | sign i j=>exact ⟨i,rfl,hr.1⟩
  | cross i j=>exact ⟨i,rfl,hr.1⟩
theorem jvr (n:Nat) (q:Nat → MA.Q4):jcq [qD n q] = some (.int ((2 ^ n:Nat):Int)):=by
  have:jcq [qD n q] = some (.int ((mkL n q).length:Nat)):=rfl
  rw [this,jkx]
theorem jxI (n:Nat) (q:Nat → MA.Q4) (r:Row):spL n q r 0 = q:=funext fun x=>if_neg (Nat.not_lt_zero _)
theorem jxH {n:Nat} (q:Nat → MA.Q4) {r:Row} (hr:r.ok n):mkL n (spL n q r (2 ^ n)) = mkL n (ldn n q r):=by
  unfold mkL
  exact List.map_congr_left fun x hx=>by
    show q4D (if from_ n r x < 2 ^ n then _ else _) = _
    rw [if_pos (MA.jky hr (List.mem_range.mp hx))]
theorem jlk {n:Nat} (hn:n ≤ 6) (q:Nat → MA.Q4) (r:Row) (hr:r.ok n):jaY [qD n q,rowD r,.int (n:Nat)] = some (qD n (ldn n q r)):=by
  obtain ⟨j,hj,hjn⟩:=jsb r hr
  have st:∀ i,i < 2 ^ n → ∀ δ,(∃ z5 z6 z7,δ = [.fz (qD n q),.fz (rowD r),.fz (.int (n:Nat)),.ow (mkL n (spL n q r i)),.fz (.int (wt n j:Nat)),z5,z6,z7]) → ∃ δ2,jao (δ.set 5 (.fz (.int (i:Nat)))) = some (.nx,δ2) ∧ ∃ z5 z6 z7,δ2 = [.fz (qD n q),.fz (rowD r),.fz (.int (n:Nat)),.ow (mkL n (spL n q r (i + 1))),.fz (.int (wt n j:Nat)),z5,z6,z7]:=fun i hi δ hδ=>by
    obtain ⟨z5,z6,z7,rfl⟩:=hδ
    obtain ⟨y6,y7,e⟩:=jr9 hn q r hr j hj i hi z6 z7
    exact ⟨_,e,_,_,_,rfl⟩
  obtain ⟨δ',lp,z5,z6,z7,rfl⟩:=jfJ (k:=5) _ (2 ^ n) st [.fz (qD n q),.fz (rowD r),.fz (.int (n:Nat)),.ow (mkL n (spL n q r 0)),.fz (.int (wt n j:Nat)),.un,.un,.un] ⟨_,_,_,rfl⟩
  rw [jxI] at lp
  have h:=jx1 (qD n q) (rowD r) _ _ _ _ (mkL n q) _ _ _ z5 z6 z7 rfl hj (jqZ hjn hn) (jvr n q) (jdg n hn) lp
  rw [jxH q hr] at h
  exact h
theorem jt0 (n:Nat) (hn:n ≤ 6):jpO (.list [.tuple [.int 0,.int 0,.int 0,.int 0]]) (.int ((2 ^ n:Nat):Int)) = some (.list (mkL n fun _=>⟨0,0,0,0⟩)):=by
  have sq:(2 ^ n:Nat) ≤ 64:=(Nat.pow_le_pow_right (by decide) hn:2 ^ n ≤ 2 ^ 6)
  rw [jsI (Int.le_trans (by decide) (Int.natCast_nonneg _)) (by omega) (by rw [Int.toNat_natCast,List.length_singleton]; omega),Int.toNat_natCast]
  congr 2
  unfold mkL
  apply List.ext_getElem
  · rw [List.length_flatten,List.map_replicate,List.length_map,List.length_range]; simp
  · intro i h1 h2
    rw [List.getElem_map]
    have:∀ x ∈ (List.replicate (2 ^ n) [PyData.tuple [.int 0,.int 0,.int 0,.int 0]]).flatten,x = PyData.tuple [.int 0,.int 0,.int 0,.int 0]:=fun x hx=>by
      obtain ⟨l,hl,hxl⟩:=List.mem_flatten.mp hx
      rw [List.eq_of_mem_replicate hl] at hxl
      exact List.mem_singleton.mp hxl
    exact this _ (List.getElem_mem h1)
theorem jt5 (n:Nat) {b:Nat} (hb:b < 2 ^ n):jmz (mkL n fun _=>⟨0,0,0,0⟩) (.int (b:Nat)) (.tuple [.int 1,.int 0,.int 0,.int 0]) = some (mkL n (un b)):=by
  rw [jdu,jkx,jnP hb]
  exact congrArg some (jnA (n:=n) (fun _=>⟨0,0,0,0⟩) hb ⟨1,0,0,0⟩)
theorem jyO (C X R Y:D) (n:Int) (z1 z2:Sl) (c0:ixD C (.int 0) = some (.int n)) (h:jaY [X,R,.int n] = some Y):jbe [.fz C,z1,z2,.fz X,.fz R] = some (.nx,[.fz C,z1,z2,.fz Y,.fz R]):=by
  simp [jbe,dFz,c0,h]
theorem jyN (C R Y:D) (ds:List D) (n:Int) (z1 z2:Sl) (c0:ixD C (.int 0) = some (.int n)) (h:jaY [.list ds,R,.int n] = some Y):jbe [.fz C,z1,z2,.ow ds,.fz R] = some (.nx,[.fz C,z1,z2,.fz Y,.fz R]):=by
  simp [jbe,dFz,c0,h]
theorem jlx {n:Nat} (hn:n ≤ 6) (C:D) (z1 z2:Sl) (c0:ixD C (.int 0) = some (.int (n:Nat))):∀ (rs:List Row),(∀ r ∈ rs,r.ok n) → ∀ (q:Nat → MA.Q4) (z4:Sl),∃ y,loop (gN 4) jbe (rs.map rowD) [.fz C,z1,z2,.fz (qD n q),z4] = some (.nx,[.fz C,z1,z2,.fz (qD n (ja7 n q rs)),y])
  | [],_,q,z4=>⟨z4,rfl⟩
  | r :: rs,hr,q,z4=>by
    obtain ⟨y,e⟩:=jlx hn C z1 z2 c0 rs (fun x hx=>hr x (List.mem_cons_of_mem _ hx)) (ldn n q r) (.fz (rowD r))
    refine ⟨y,?_⟩
    rw [List.map_cons,jbl (by rfl) (jyO C _ (rowD r) _ n z1 z2 c0 (jlk hn q r (hr r List.mem_cons_self)))]
    exact e
theorem jsR {n:Nat} (hn:n ≤ 6) (C:D) (z1 z2:Sl) (c0:ixD C (.int 0) = some (.int (n:Nat))) (rs:List Row) (hr:∀ r ∈ rs,r.ok n) (q:Nat → MA.Q4) (z4:Sl):∃ y3 y,loop (gN 4) jbe (rs.map rowD) [.fz C,z1,z2,.ow (mkL n q),z4] = some (.nx,[.fz C,z1,z2,y3,y]) ∧ (y3 = .ow (mkL n (ja7 n q rs)) ∨ y3 = .fz (qD n (ja7 n q rs))):=by
  cases rs with
  | nil=>exact ⟨_,_,rfl,.inl rfl⟩
  | cons r rs=>
    obtain ⟨y,e⟩:=jlx hn C z1 z2 c0 rs (fun x hx=>hr x (List.mem_cons_of_mem _ hx)) (ldn n q r) (.fz (rowD r))
    refine ⟨_,y,?_,.inr rfl⟩
    rw [List.map_cons,jbl (by rfl) (jyN C (rowD r) _ (mkL n q) n z1 z2 c0 (jlk hn q r (hr r List.mem_cons_self)))]
    exact e
theorem jAS (n S:Int) (b:Nat) (C R:D) (L L2 cs RL:List D) (X:List D) (z3 z4 y3 y4:Sl) (c0:ixD C (.int 0) = some (.int n)) (c1:ixD C (.int 1) = some R) (it:je6 R = some RL) (sh:jeC (.int 1) (.int n) = some (.int S)) (ml:jpO (.list [.tuple [.int 0,.int 0,.int 0,.int 0]]) (.int S) = some (.list L)) (pt:jmz L (.int (b:Nat)) (.tuple [.int 1,.int 0,.int 0,.int 0]) = some L2) (lp:loop (gN 4) jbe RL [.fz C,.ow cs,.fz (.int (b:Nat)),.ow L2,z4] = some (.nx,[.fz C,.ow cs,.fz (.int (b:Nat)),y3,y4])) (hy:y3 = .ow X ∨ y3 = .fz (.list X)) (sz:cs.length < sizeLine):jbJ [.fz C,.ow cs,.fz (.int (b:Nat)),z3,z4] = some (.nx,[.fz C,.ow (cs ++ [.list X]),.fz (.int (b:Nat)),.fz (.list X),y4]):=by
  rw [jdu] at pt
  rcases hy with rfl | rfl
  · simp [jbJ,c0,c1,it,sh,oLi,jtN,ml,pt,lp,dFz,sz]
  · simp [jbJ,c0,c1,it,sh,oLi,jtN,ml,pt,lp,dFz,sz]
theorem jyL (C:D) (n S:Int) (L cs:List D) (z2 z3 z4:Sl) (c0:ixD C (.int 0) = some (.int n)) (sh:jeC (.int 1) (.int n) = some (.int S)) (rg:jbz [.int S] = some L) (lp:loop (gN 2) jbJ L [.fz C,.ow [],.un,.un,.un] = some (.nx,[.fz C,.ow cs,z2,z3,z4])):jaG [C] = some (.list cs):=by
  simp [jaG,runB,jd8,jan,c0,sh,rg,lp,dFz]
def jby (n:Nat) (Q:Nat → Nat → MA.Q4):List D:=(List.range (2 ^ n)).map fun b=>qD n (Q b)
theorem jlw {n:Nat} (hn:n ≤ 6) (rs:List Row) (hr:∀ r ∈ rs,r.ok n):jaG [cpD n rs] = some (.list (jby n fun b=>ja7 n (un b) rs)):=by
  have sq:(2 ^ n:Nat) ≤ 64:=(Nat.pow_le_pow_right (by decide) hn:2 ^ n ≤ 2 ^ 6)
  have c0:ixD (cpD n rs) (.int 0) = some (.int (n:Nat)):=at0 _ _
  have st:∀ i,i < 2 ^ n → ∀ δ,(∃ z2 z3 z4,δ = [.fz (cpD n rs),.ow ((List.range i).map fun b=>qD n (ja7 n (un b) rs)),z2,z3,z4]) → ∃ δ2,jbJ (δ.set 2 (.fz (.int (i:Nat)))) = some (.nx,δ2) ∧ ∃ z2 z3 z4,δ2 = [.fz (cpD n rs),.ow ((List.range (i + 1)).map fun b=>qD n (ja7 n (un b) rs)),z2,z3,z4]:=fun i hi δ hδ=>by
    obtain ⟨z2,z3,z4,rfl⟩:=hδ
    obtain ⟨y3,y4,lp,hy⟩:=jsR hn (cpD n rs) (.ow ((List.range i).map fun b=>qD n (ja7 n (un b) rs))) (.fz (.int (i:Nat))) c0 rs hr (un i) z4
    refine ⟨_,jAS _ _ i _ _ _ _ _ _ _ z3 z4 y3 y4 c0 (at1 _ _ _) (jmi _) (jpf n (by omega)) (jt0 n hn) (jt5 n hi) lp hy (by rw [List.length_map,List.length_range]; exact Nat.lt_of_lt_of_le (by omega:i < 64) (by decide)),.fz (.int (i:Nat)),.fz (qD n (ja7 n (un i) rs)),y4,?_⟩
    rw [List.range_succ,List.map_append]
    rfl
  obtain ⟨δ',lp,z2,z3,z4,rfl⟩:=jfJ (k:=2) _ (2 ^ n) st [.fz (cpD n rs),.ow [],.un,.un,.un] ⟨_,_,_,rfl⟩
  exact jyL _ _ _ _ _ z2 z3 z4 c0 (jpf n (by omega)) (jdg n hn) lp
theorem jsu (p q:Nat):(if (q:Int) = (p:Int) then some (PyData.tuple [.int 1,.int 0,.int 0,.int 0,.int 0]) else some (PyData.tuple [.int 0,.int 0,.int 0,.int 0,.int 0])) = some (jcj (MA.jfE p q)):=by
  unfold MA.jfE
  by_cases h:q = p
  · rw [if_pos h,if_pos (by omega)]; rfl
  · rw [if_neg h,if_neg (by omega)]; rfl
theorem jzq (w M:Int) (N:Nat) (p:Nat) (hl:N ≤ 16777216) (hs:jeC (.int 1) (.int w) = some (.int M)) (hN:jbz [.int M] = some ((List.range N).map fun k:Nat=>PyData.int (0 + (k:Int)))):jbD [.int w,.int p] = some (.tuple ((List.range N).map fun q=>jcj (MA.jfE p q))):=by
  have c:jgg [.fz (.int w),.fz (.int p)] = some (.list ((List.range N).map fun q=>jcj (MA.jfE p q))):=jkF (by simp [hs,hN]) hl fun q hq=>by
    have:=jsu p q
    simp [-Int.natCast_inj,jga,this]
  simp [jbD,runB,jfr,jan,c]
theorem jqB {n:Nat} (hn:n ≤ 6) (p:Nat):jbD [.int n,.int p] = some (stD n (MA.jfE p)):=
  jzq _ _ (2 ^ n) p (Nat.le_trans (Nat.pow_le_pow_right (by decide) hn:2 ^ n ≤ 2 ^ 6) (by decide)) (jpf n (by omega)) (jdg n hn)
theorem ju4 (p:Nat):Bd 0 0 (MA.jfE p):=fun x=>by
  unfold MA.jfE
  split
  · exact ⟨Nat.le_refl _,by decide,by decide,by decide,by decide⟩
  · exact ⟨Nat.le_refl _,by decide,by decide,by decide,by decide⟩
theorem jzi (C R X Y:D) (w p:Int) (c0:ixD C (.int 0) = some (.int w)) (c1:ixD C (.int 1) = some R) (h1:jaX [R] = some (.bool true)) (h2:jbD [.int w,.int p] = some X) (h3:jbt [X,R] = some Y):jaE [C,.int p] = some Y:=by
  simp [-jam,-sIf,jbY,jdt,jaE,runB,jjf,jan,c0,c1,h1,h2,h3]
theorem jv7 {n:Nat} (hn:n ≤ 6) (rs:List Row) (hr:∀ r ∈ rs,r.ok n) (hl:rs.length ≤ 100) (p:Nat):jaE [.tuple [.int n,.tuple (rs.map rowD)],.int p] = some (stD n (jct n (MA.jfE p) rs)):=
  jzi _ _ _ _ n p rfl rfl (jgN rs (by omega)) (jqB hn p) (jtx hn rs hr (ju4 p) (by omega) (by omega))
theorem mok {a b:Int} (ha:a.natAbs ≤ 2 ^ 200000) (hb:b.natAbs ≤ 2 ^ 200000):IntMulOk a b:=
  MA.jvj 200001 200001 (Nat.lt_of_le_of_lt ha (Nat.pow_lt_pow_right (by decide) (by decide))) (Nat.lt_of_le_of_lt hb (Nat.pow_lt_pow_right (by decide) (by decide))) (by decide)
theorem jo2 (x:MA.Q4) (c:Int) (y:MA.Q4) (d:Int) (hx:MA.Q4.Le (2 ^ 200000) x) (hy:MA.Q4.Le (2 ^ 200000) y) (hc:0 ≤ c) (hd:0 ≤ d):jcd [tup5 x c,tup5 y d] = some (tup5 (MA.jeD x c y d).1 (MA.jeD x c y d).2):=by
  obtain ⟨l1,l2,l3,l4⟩:=hx
  obtain ⟨m1,m2,m3,m4⟩:=hy
  have a1:=mok l1 m1; have a2:=mok l1 m2; have a3:=mok l1 m3; have a4:=mok l1 m4
  have b1:=mok l2 m1; have b2:=mok l2 m2; have b3:=mok l2 m3; have b4:=mok l2 m4
  have c1:=mok l3 m1; have c2:=mok l3 m2; have c3:=mok l3 m3; have c4:=mok l3 m4
  have d1:=mok l4 m1; have d2:=mok l4 m2; have d3:=mok l4 m3; have d4:=mok l4 m4
  have nm:=jyn (MA.Q4.mul x y) (c + d) (by omega)
  unfold MA.jeD
  generalize MA.num (MA.Q4.mul x y) (c + d) = r at *
  simp only [MA.Q4.mul] at nm
  generalize tup5 r.1 r.2 = R at *
  simp only [tup5]
  simp [jcd,runB,jkT,jan,a1,a2,a3,a4,b1,b2,b3,b4,c1,c2,c3,c4,d1,d2,d3,d4,nm]
theorem ju3 (b:Nat):MA.jfE b = unN b:=funext fun x=>by
  unfold MA.jfE unN un
  by_cases h:x = b
  · rw [if_pos h,if_pos h]
  · rw [if_neg h,if_neg h]
def jcS (n:Nat) (rs:List Row) (b x:Nat):Nu:=jct n (unN b) rs x
theorem jcR {n:Nat} (hn:n ≤ 6) (rs:List Row) (hr:∀ r ∈ rs,r.ok n) (hl:rs.length ≤ 100) (b:Nat):jaE [cpD n rs,.int (b:Nat)] = some (stD n (jcS n rs b)):=by
  have h:=jv7 hn rs hr hl b
  rw [ju3] at h
  exact h
theorem jmI (b x:Nat):MA.jdm (unN b x):=⟨by simp [unN],fun z=>by simp [unN] at z⟩
theorem jmp (n:Nat) (rs:List Row) (b x:Nat):MA.jdm (jcS n rs b x):=jem rs (jmI b) x
theorem jfN {n M:Nat} (rs:List Row) (hM:rs.length ≤ M) (b x:Nat):MA.val M (jcS n rs b x) = MA.Q4.rtn (M - swL rs) (ja7 n (un b) rs x) ∧ (jcS n rs b x).2 ≤ rs.length:=by
  obtain ⟨ra,p,bd⟩:=Rl.all (M:=M) (n:=n) rs 0 0 0 (unN b) (un b) (fun y=>rfl) (jjn b) (by omega) (by omega)
  rw [Nat.zero_add] at ra bd
  exact ⟨ra x,(bd x).1⟩
theorem jeM {n:Nat} (rs:List Row) (hl:rs.length ≤ 100) (b x:Nat):MA.Q4.Le (2 ^ 200000) (jcS n rs b x).1:=by
  have h:=bdB (n:=n) rs (jjn b) (by omega)
  exact (h x).2.mono (Nat.pow_le_pow_right (by decide) (by omega))
theorem jiu (u v:Nu) (hu:MA.Q4.Le (2 ^ 200000) u.1) (hv:MA.Q4.Le (2 ^ 200000) v.1):jcd [jcj u,jcj v] = some (jcj (MA.jdR u v)):=by
  have e:=jo2 u.1 u.2 v.1 v.2 hu hv (by omega) (by omega)
  unfold jcj MA.jdR
  rw [e]
  obtain ⟨c,e2,h⟩:=ju8 (MA.Q4.mul u.1 v.1) (u.2 + v.2)
  have e3:=MA.jeW u v
  show some (tup5 _ (MA.jeD u.1 u.2 v.1 v.2).2) = some (tup5 _ ((MA.jeD u.1 u.2 v.1 v.2).2.toNat:Int))
  unfold MA.jeD
  rw [e3,e2]; rfl
theorem jnv (u v:Nu) (b:Bool) (hb:b = true ↔ u = v):neD (jcj u) (jcj v) = some (.bool (!b)):=by
  unfold neD
  rw [if_pos ⟨jfe (jh7 u) (by decide),jfe (jh7 v) (by decide)⟩]
  have:PyData.eqv (jcj u) (jcj v) = b:=by
    cases q:b with
    | true=>
      have e:=hb.mp q
      subst e
      have:=jn6 (jh7 u) (by decide)
      unfold eqD at this
      rw [if_pos ⟨jfe (jh7 u) (by decide),jfe (jh7 u) (by decide)⟩] at this
      injection this with this
      injection this
    | false=>
      cases z:PyData.eqv (jcj u) (jcj v) with
      | false=>rfl
      | true=>
        have:=hb.mpr (jn5 u v z)
        rw [q] at this
        cases this
  rw [this]
theorem jpl {n:Nat} (as bs:List Row) (b x b' x':Nat):MA.jdR (jcS n as b x) (jcS n bs b' x') = MA.jdR (jcS n as b' x') (jcS n bs b x) ↔ MA.Q4.mul (ja7 n (un b) as x) (ja7 n (un b') bs x') = MA.Q4.mul (ja7 n (un b') as x') (ja7 n (un b) bs x):=by
  have sa:=jex as
  have sb:=jex bs
  have va:=fun b x=>jfN (n:=n) (M:=as.length) as (Nat.le_refl _) b x
  have vb:=fun b x=>jfN (n:=n) (M:=bs.length) bs (Nat.le_refl _) b x
  have e:∀ b x b' x',MA.val (as.length + bs.length) (MA.jdR (jcS n as b x) (jcS n bs b' x')) = MA.Q4.rtn (as.length - swL as + (bs.length - swL bs)) (MA.Q4.mul (ja7 n (un b) as x) (ja7 n (un b') bs x')):=fun b x b' x'=>by
    rw [MA.jmF (va b x).2 (vb b' x').2,(va b x).1,(vb b' x').1,MA.Q4.rtn_mul2]
  have le:∀ b x b' x',(MA.jdR (jcS n as b x) (jcS n bs b' x')).2 ≤ as.length + bs.length:=fun b x b' x'=>Nat.le_trans (MA.jmQ _ _) (Nat.add_le_add (va b x).2 (vb b' x').2)
  constructor
  · intro h
    have h:=congrArg (MA.val (as.length + bs.length)) h
    rw [e,e] at h
    exact MA.Q4.rtn_inj h
  · intro h
    refine MA.jkh (M:=as.length + bs.length) (MA.jgZ _ _) (MA.jgZ _ _) (le _ _ _ _) (le _ _ _ _) ?_
    rw [e,e,h]
def qf (u:MA.Q4):Nat → Int
  | 0=>u.a
  | 1=>u.b
  | 2=>u.c
  | _=>u.d
theorem juz (u:MA.Q4) {k:Nat} (hk:k < 4):ixD (q4D u) (.int (k:Nat)) = some (.int (qf u k)):=by
  rcases (by omega:k = 0 ∨ k = 1 ∨ k = 2 ∨ k = 3) with rfl | rfl | rfl | rfl <;> rfl
def mdL (M:Nat → Int):List D:=(List.range 7).map fun i=>PyData.int (M i)
theorem jjK (M:Nat → Int) {i:Nat} {j:Int} (hj:j = i) (hi:i < 7):ixD (.list (mdL M)) (.int j) = some (.int (M i)):=jdl (j:=i) hj (by simp [mdL,hi])
theorem jvk (M:Nat → Int) {i:Nat} {j:Int} (hj:j = i) (hi:i < 7) (v:Int):jmz (mdL M) (.int j) (.int v) = some (mdL fun x=>if x = i then v else M x):=by
  subst hj
  have l:(mdL M).length = 7:=by unfold mdL; rw [List.length_map,List.length_range]
  rw [jdu,l,jnP hi]
  refine congrArg some ?_
  show (mdL M).set i (.int v) = _
  unfold mdL
  rw [jm9 _ hi]
  exact List.map_congr_left fun x _=>(apply_ite PyData.int (x = i) v (M x)).symm
theorem jyx (X Y:D) (ds ds':List D) (k j m p q:Int) (a:ixD (.list ds) (.int (k + j)) = some (.int m)) (x:ixD X (.int k) = some (.int p)) (y:ixD Y (.int j) = some (.int q)) (ok:IntMulOk p q) (pt:jmz ds (.int (k + j)) (.int (m + p * q)) = some ds'):jcH [.fz X,.fz Y,.ow ds,.fz (.int k),.fz (.int j)] = some (.nx,[.fz X,.fz Y,.ow ds',.fz (.int k),.fz (.int j)]):=by
  have ml:jeA (.int p) (.int q) = some (.int (p * q)):=jgO ok
  simp only [jcH,jlZ,jfT,o2,oV,slV,List.getElem?_cons_zero,List.getElem?_cons_succ,Option.bind_some,jul,jqL,a,x,y,ml,pt,List.set_cons_succ,List.set_cons_zero]
def mdF (u v:MA.Q4):Nat → Nat → Int
  | 0,_=>0
  | k + 1,i=>mdF u v k i + if k ≤ i ∧ i < k + 4 then qf u k * qf v (i - k) else 0
theorem jyw (L:List D) (δ δ':Dv) (rg:jbz [.int 4] = some L) (lp:loop (gN 4) jcH L δ = some (.nx,δ')):jca δ = some (.nx,δ'):=by
  simp [jca,rg,lp]
theorem jvo (u v:MA.Q4) (ok:∀ k j,IntMulOk (qf u k) (qf v j)) (M:Nat → Int) (k:Nat) (hk:k < 4) (z:Sl):∃ y,jca [.fz (q4D u),.fz (q4D v),.ow (mdL M),.fz (.int (k:Nat)),z] = some (.nx,[.fz (q4D u),.fz (q4D v),.ow (mdL fun i=>M i + if k ≤ i ∧ i < k + 4 then qf u k * qf v (i - k) else 0),.fz (.int (k:Nat)),y]):=by
  obtain ⟨δ',lp,y,rfl⟩:=jfJ (b:=jcH) (k:=4) (fun j δ=>∃ y,δ = [.fz (q4D u),.fz (q4D v),.ow (mdL fun i=>M i + if k ≤ i ∧ i < k + j then qf u k * qf v (i - k) else 0),.fz (.int (k:Nat)),y]) 4 (fun j hj δ hδ=>by
    obtain ⟨y,rfl⟩:=hδ
    refine ⟨_,jyx _ _ _ _ k j _ _ _ (jjK (i:=k + j) _ (by omega) (by omega)) (juz u hk) (juz v hj) (ok k j) (jvk (i:=k + j) _ (by omega) (by omega) _),.fz (.int (j:Nat)),?_⟩
    refine congrArg (fun F=>[Sl.fz (q4D u),.fz (q4D v),.ow (mdL F),.fz (.int (k:Nat)),.fz (.int (j:Nat))]) (funext fun i=>?_)
    by_cases h:i = k + j
    · subst h
      rw [if_pos rfl,if_neg (by omega),if_pos (by omega),Nat.add_sub_cancel_left,Int.add_zero]
    · rw [if_neg h]
      by_cases h2:k ≤ i ∧ i < k + j
      · rw [if_pos h2,if_pos (by omega)]
      · rw [if_neg h2,if_neg (by omega)]) [.fz (q4D u),.fz (q4D v),.ow (mdL M),.fz (.int (k:Nat)),z] ⟨z,by
    refine congrArg (fun F=>[Sl.fz (q4D u),.fz (q4D v),.ow (mdL F),.fz (.int (k:Nat)),z]) (funext fun i=>?_)
    rw [if_neg (by omega),Int.add_zero]⟩
  exact ⟨y,jyw _ _ _ rfl lp⟩
theorem jAL (X Y:D) (L ds:List D) (z3 z4:Sl) (m0 m1 m2 m3 m4 m5 m6:Int) (rg:jbz [.int 4] = some L) (lp:loop (gN 3) jca L [.fz X,.fz Y,.ow [.int 0,.int 0,.int 0,.int 0,.int 0,.int 0,.int 0],.un,.un] = some (.nx,[.fz X,.fz Y,.ow ds,z3,z4])) (a0:ixD (.list ds) (.int 0) = some (.int m0)) (a1:ixD (.list ds) (.int 1) = some (.int m1)) (a2:ixD (.list ds) (.int 2) = some (.int m2)) (a3:ixD (.list ds) (.int 3) = some (.int m3)) (a4:ixD (.list ds) (.int 4) = some (.int m4)) (a5:ixD (.list ds) (.int 5) = some (.int m5)) (a6:ixD (.list ds) (.int 6) = some (.int m6)):jbq [X,Y] = some (.tuple [.int (m0 - m4),.int (m1 - m5),.int (m2 - m6),.int m3]):=by
  have sz:7 ≤ sizeLine:=by decide
  simp only [jqm] at a0 a1 a2 a3 a4 a5 a6
  simp [jbq,runB,jeS,jan,sz,rg,lp,a0,a1,a2,a3,a4,a5,a6]
theorem jjM (u v:MA.Q4) (ok:∀ k j,IntMulOk (qf u k) (qf v j)):jbq [q4D u,q4D v] = some (q4D (MA.Q4.mul u v)):=by
  obtain ⟨δ',lp,y3,y4,rfl⟩:=jfJ (b:=jca) (k:=3) (fun k δ=>∃ y3 y4,δ = [.fz (q4D u),.fz (q4D v),.ow (mdL (mdF u v k)),y3,y4]) 4 (fun k hk δ hδ=>by
    obtain ⟨y3,y4,rfl⟩:=hδ
    obtain ⟨y,e⟩:=jvo u v ok (mdF u v k) k hk y4
    exact ⟨_,e,_,_,rfl⟩) [.fz (q4D u),.fz (q4D v),.ow [.int 0,.int 0,.int 0,.int 0,.int 0,.int 0,.int 0],.un,.un] ⟨_,_,rfl⟩
  have h:=jAL _ _ _ _ y3 y4 _ _ _ _ _ _ _ rfl lp (jjK (i:=0) _ rfl (by decide)) (jjK (i:=1) _ rfl (by decide)) (jjK (i:=2) _ rfl (by decide)) (jjK (i:=3) _ rfl (by decide)) (jjK (i:=4) _ rfl (by decide)) (jjK (i:=5) _ rfl (by decide)) (jjK (i:=6) _ rfl (by decide))
  have e0:mdF u v 4 0 - mdF u v 4 4 = (MA.Q4.mul u v).a:=by simp [mdF,qf,MA.Q4.mul] <;> grind
  have e1:mdF u v 4 1 - mdF u v 4 5 = (MA.Q4.mul u v).b:=by simp [mdF,qf,MA.Q4.mul] <;> grind
  have e2:mdF u v 4 2 - mdF u v 4 6 = (MA.Q4.mul u v).c:=by simp [mdF,qf,MA.Q4.mul] <;> grind
  have e3:mdF u v 4 3 = (MA.Q4.mul u v).d:=by simp [mdF,qf,MA.Q4.mul]
  rw [h,e0,e1,e2,e3]
  rfl
def eqQ (u v:MA.Q4):Bool:=decide (u.a = v.a) && (decide (u.b = v.b) && (decide (u.c = v.c) && decide (u.d = v.d)))
theorem eqQ_iff {u v:MA.Q4}:eqQ u v = true ↔ u = v:=by
  unfold eqQ
  rw [Bool.and_eq_true,Bool.and_eq_true,Bool.and_eq_true,decide_eq_true_iff,decide_eq_true_iff,decide_eq_true_iff,decide_eq_true_iff]
  exact ⟨fun h=>MA.Q4.ext' h.1 h.2.1 h.2.2.1 h.2.2.2,fun h=>h ▸ ⟨rfl,rfl,rfl,rfl⟩⟩
theorem jum (u:MA.Q4):MA.Sh 1 (q4D u):=MA.Sh.tuple fun x hx=>by
  simp only [List.mem_cons,List.not_mem_nil,or_false] at hx
  rcases hx with rfl | rfl | rfl | rfl <;> exact MA.Sh.int 0 _
theorem jvY (u v:MA.Q4):PyData.eqv (q4D u) (q4D v) = eqQ u v:=by
  show (PyData.eqv (.int u.a) (.int v.a) && (PyData.eqv (.int u.b) (.int v.b) && (PyData.eqv (.int u.c) (.int v.c) && (PyData.eqv (.int u.d) (.int v.d) && true)))) = _
  rw [Bool.and_true]
  rfl
theorem jvg (u v:MA.Q4):neD (q4D u) (q4D v) = some (.bool (!eqQ u v)):=by
  unfold neD
  rw [if_pos ⟨jfe (jum u) (by decide),jfe (jum v) (by decide)⟩,jvY]
theorem joy {b:Sf} {k:Nat} (ok:Nat → Bool) (I:Dv → Prop) (N:Nat) (st:∀ i,i < N → ∀ δ,I δ → ∃ δ2,b (δ.set k (.fz (.int (i:Nat)))) = some (if ok i = true then .nx else .rt (.bool false),δ2) ∧ I δ2):∀ (m i:Nat) (δ:Dv),i + m ≤ N → I δ → ∃ δ',loop (gN k) b ((List.range' i m).map fun k:Nat=>PyData.int (0 + (k:Int))) δ = some (if (List.range' i m).all ok = true then .nx else .rt (.bool false),δ') ∧ I δ'
  | 0,i,δ,_,hI=>⟨δ,rfl,hI⟩
  | m + 1,i,δ,h,hI=>by
    obtain ⟨δ2,e,I2⟩:=st i (by omega) δ hI
    rw [List.range'_succ,List.map_cons,List.all_cons,Int.zero_add]
    cases q:ok i with
    | true=>
      rw [if_pos q] at e
      rw [jbl (by rfl) e,Bool.true_and]
      exact joy ok I N st m (i + 1) δ2 (by omega) I2
    | false=>
      rw [if_neg (by rw [q]; decide)] at e
      rw [jgQ (by rfl) e,Bool.false_and]
      exact ⟨δ2,rfl,I2⟩
theorem all_rng {N:Nat} {ok:Nat → Bool}:(List.range' 0 N).all ok = true ↔ ∀ i,i < N → ok i = true:=by
  rw [List.all_eq_true]
  exact ⟨fun h i hi=>h i (List.mem_range'_1.mpr ⟨Nat.zero_le _,by omega⟩),fun h i hi=>h i (by have:=(List.mem_range'_1.mp hi).2; omega)⟩
theorem jf9 {n:Nat} {Q:Nat → Nat → MA.Q4} {p:Nat} {i:Int} (hi:i = p) (hp:p < 2 ^ n):ixD (.list (jby n Q)) (.int i) = some (qD n (Q p)):=jdl (j:=p) hi (by simp [jby,hp])
theorem jqy (n:Nat) (Q:Nat → Nat → MA.Q4):(jby n Q).length = 2 ^ n:=by unfold jby; rw [List.length_map,List.length_range]
theorem jiU (n:Nat) (Q:Nat → Nat → MA.Q4):jcq [.list (jby n Q)] = some (.int ((2 ^ n:Nat):Int)):=by
  have:jcq [.list (jby n Q)] = some (.int ((jby n Q).length:Nat)):=rfl
  rw [this,jqy]
theorem jlg {u:Int} {s:Nat} (h:u * u ≤ 2 ^ s) (hs:s ≤ 1000):u.natAbs ≤ 2 ^ 200000:=by
  obtain ⟨a,b⟩:=jiB h
  have e:(2:Int) * 2 ^ (s / 2) = ((2 ^ (s / 2 + 1):Nat):Int):=by rw [Nat.pow_succ]; push_cast; exact Int.mul_comm _ _
  rw [e] at a b
  have le:(2:Nat) ^ (s / 2 + 1) ≤ 2 ^ 200000:=Nat.pow_le_pow_right (by decide) (by omega)
  generalize (2:Nat) ^ (s / 2 + 1) = Z at *
  generalize (2:Nat) ^ 200000 = Y at *
  omega
theorem jlJ {n:Nat} {rs:List Row} (hr:∀ r ∈ rs,r.ok n) (hl:rs.length ≤ 100) {b x:Nat} (hb:b < 2 ^ n) (hx:x < 2 ^ n) (k:Nat):(qf (ja7 n (un b) rs x) k).natAbs ≤ 2 ^ 200000:=by
  have sl:=jex rs
  obtain ⟨h1,h2,h3,h4⟩:=jhn (jmH rs hr hb x hx)
  rcases (by omega:k = 0 ∨ k = 1 ∨ k = 2 ∨ 3 ≤ k) with rfl | rfl | rfl | h
  · exact jlg h1 (by omega)
  · exact jlg h2 (by omega)
  · exact jlg h3 (by omega)
  · have:qf (ja7 n (un b) rs x) k = (ja7 n (un b) rs x).d:=by
      obtain ⟨j,rfl⟩:∃ j,k = j + 3:=⟨k - 3,by omega⟩
      rfl
    rw [this]
    exact jlg h4 (by omega)
theorem jyv (F G S F0 F2 G0 G2:D) (s0 s1 s2 s3:Int) (f0 f2 g0 g2 V W:D) (b:Bool) (hS:S = .tuple [.int s0,.int s1,.int s2,.int s3]) (a0:ixD F (.int s0) = some F0) (a2:ixD F (.int s2) = some F2) (c0:ixD G (.int s0) = some G0) (c2:ixD G (.int s2) = some G2) (b0:ixD F0 (.int s1) = some f0) (b2:ixD F2 (.int s3) = some f2) (d0:ixD G0 (.int s1) = some g0) (d2:ixD G2 (.int s3) = some g2) (v:jbq [f0,g2] = some V) (w:jbq [f2,g0] = some W) (ne:neD V W = some (.bool b)):jbb [F,G,S] = some (.bool b):=by
  have i0:ixD S (.int 0) = some (.int s0):=by rw [hS]; rfl
  have i1:ixD S (.int 1) = some (.int s1):=by rw [hS]; rfl
  have i2:ixD S (.int 2) = some (.int s2):=by rw [hS]; rfl
  have i3:ixD S (.int 3) = some (.int s3):=by rw [hS]; rfl
  simp [jbb,runB,jeq,jan,i0,i1,i2,i3,a0,a2,c0,c2,b0,b2,d0,d2,v,w,ne]
theorem jvm {n:Nat} {as bs:List Row} (ha:∀ r ∈ as,r.ok n) (hb:∀ r ∈ bs,r.ok n) (hl:as.length ≤ 100) (hl':bs.length ≤ 100) {s0 s1 s2 s3:Nat} (h0:s0 < 2 ^ n) (h1:s1 < 2 ^ n) (h2:s2 < 2 ^ n) (h3:s3 < 2 ^ n):jbb [.list (jby n fun b=>ja7 n (un b) as),.list (jby n fun b=>ja7 n (un b) bs),.tuple [.int (s0:Nat),.int (s1:Nat),.int (s2:Nat),.int (s3:Nat)]] = some (.bool (!eqQ (MA.Q4.mul (ja7 n (un s0) as s1) (ja7 n (un s2) bs s3)) (MA.Q4.mul (ja7 n (un s2) as s3) (ja7 n (un s0) bs s1)))):=
  jyv _ _ _ _ _ _ _ _ _ _ _ _ _ _ _ _ _ _ rfl (jf9 rfl h0) (jf9 rfl h2) (jf9 rfl h0) (jf9 rfl h2) (jjA rfl h1) (jjA rfl h3) (jjA rfl h1) (jjA rfl h3) (jjM _ _ fun k j=>mok (jlJ ha hl h0 h1 k) (jlJ hb hl' h2 h3 j)) (jjM _ _ fun k j=>mok (jlJ ha hl h2 h3 k) (jlJ hb hl' h0 h1 j)) (jvg _ _)
theorem jq9 (n:Nat) (rs:List Row) (hl:rs.length ≤ 100000):jbo [cpD n rs] = some (.int (swL rs:Nat)):=by
  have c:ixD (cpD n rs) (.int 1) = some (.tuple (rs.map rowD)):=at1 _ _ _
  have p:jff [.fz (cpD n rs)] = some (.list ((rs.filter isSw).map rowD)):=jfM (h:=rowD) (b:=isSw) (by simp [c]) (by omega) (fun r _=>by
    obtain ⟨s,h0,h1,_⟩:=jgL r
    simp [jga,h0,h1]) fun r _ _=>by simp
  have e:jcq [.list ((rs.filter isSw).map rowD)] = some (.int (swL rs:Nat)):=by
    have:jcq [.list ((rs.filter isSw).map rowD)] = some (.int (((rs.filter isSw).map rowD).length:Nat)):=rfl
    rw [this,List.length_map,jix]
  simp [jbo,runB,jes,jan,p,e]
theorem jxr (C1 C2 F G K1 K2 V1 V2 T U W:D) (e mo a b:Int) (c x:Int) (z8:Sl) (o:Bool) (f:ixD F (.int c) = some K1) (f1:ixD K1 (.int x) = some V1) (g:ixD G (.int c) = some K2) (g1:ixD K2 (.int x) = some V2) (t:jaH [V1,.int e] = some T) (m1:jnC [.int 0,.int mo] = some (.int a)) (m2:jnC [.int 0,.int (-mo)] = some (.int b)) (r1:jbc [T,.int a] = some U) (r2:jbc [V2,.int b] = some W) (ne:neD U W = some (.bool (!o))):jba [.fz C1,.fz C2,.fz F,.fz G,.fz (.int e),.fz (.int mo),.fz (.int c),.fz (.int x),z8] = some (if o = true then .nx else .rt (.bool false),[.fz C1,.fz C2,.fz F,.fz G,.fz (.int e),.fz (.int mo),.fz (.int c),.fz (.int x),.fz U]):=by
  cases o <;> simp [jba,f,f1,g,g1,t,m1,m2,r1,r2,ne]
theorem jxp (F:D) (S:Int) (L:List D) (r:Fl) (δ δ':Dv) (h2:δ[2]? = some (.fz F)) (ln:jcq [F] = some (.int S)) (rg:jbz [.int S] = some L) (lp:loop (gN 7) jba L δ = some (r,δ')):ja9 δ = some (r,δ'):=by
  simp [ja9,h2,ln,rg,lp]
theorem jxo (C1 C2 F G:D) (e sa sb S:Int) (L:List D) (b:Bool) (δ:Dv) (s1:jbo [C1] = some (.int sa)) (s2:jbo [C2] = some (.int sb)) (ln:jcq [F] = some (.int S)) (rg:jbz [.int S] = some L) (lp:loop (gN 6) ja9 L [.fz C1,.fz C2,.fz F,.fz G,.fz (.int e),.fz (.int (sb - sa)),.un,.un,.un] = some (if b = true then .nx else .rt (.bool false),δ)):jaC [C1,C2,F,G,.int e] = some (.bool b):=by
  cases b <;> simp at lp <;> simp [jaC,runB,jcL,jan,s1,s2,ln,rg,lp]
theorem jxs {n:Nat} (as bs:List Row) (hl:as.length ≤ 100) (hl':bs.length ≤ 100) (e c x:Nat) (hc:c < 2 ^ n) (hx:x < 2 ^ n) (C1 C2:D) (z8:Sl):∃ y8,jba [.fz C1,.fz C2,.fz (.list (jby n fun b=>ja7 n (un b) as)),.fz (.list (jby n fun b=>ja7 n (un b) bs)),.fz (.int (e:Nat)),.fz (.int ((swL bs:Nat) - (swL as:Nat):Int)),.fz (.int (c:Nat)),.fz (.int (x:Nat)),z8] = some (if eqQ (MA.Q4.rtn (mx as bs - swL as) (MA.tnn e (ja7 n (un c) as x))) (MA.Q4.rtn (mx bs as - swL bs) (ja7 n (un c) bs x)) = true then .nx else .rt (.bool false),[.fz C1,.fz C2,.fz (.list (jby n fun b=>ja7 n (un b) as)),.fz (.list (jby n fun b=>ja7 n (un b) bs)),.fz (.int (e:Nat)),.fz (.int ((swL bs:Nat) - (swL as:Nat):Int)),.fz (.int (c:Nat)),.fz (.int (x:Nat)),y8]):=by
  have sa:=jex as
  have sb:=jex bs
  have m1:jnC [.int 0,.int ((swL bs:Nat) - (swL as:Nat):Int)] = some (.int ((mx as bs - swL as:Nat):Int)):=by
    rw [jgP]
    congr 2
    unfold mx
    split <;> omega
  have m2:jnC [.int 0,.int (-((swL bs:Nat) - (swL as:Nat):Int))] = some (.int ((mx bs as - swL bs:Nat):Int)):=by
    rw [jgP]
    congr 2
    unfold mx
    split <;> omega
  have k1:mx as bs ≤ 100:=Nat.max_le.mpr ⟨by omega,by omega⟩
  have k2:mx bs as ≤ 100:=Nat.max_le.mpr ⟨by omega,by omega⟩
  exact ⟨_,jxr C1 C2 _ _ _ _ _ _ _ _ _ _ _ _ _ _ _ z8 _ (jf9 rfl hc) (jjA rfl hx) (jf9 rfl hc) (jjA rfl hx) (jf3 _ e) m1 m2 (jh9 _ _ (by omega)) (jh9 _ _ (by omega)) (jvg _ _)⟩
theorem jxq {n:Nat} (hn:n ≤ 6) (as bs:List Row) (hl:as.length ≤ 100) (hl':bs.length ≤ 100) (e c:Nat) (hc:c < 2 ^ n) (C1 C2:D) (z7 z8:Sl):∃ y7 y8,ja9 [.fz C1,.fz C2,.fz (.list (jby n fun b=>ja7 n (un b) as)),.fz (.list (jby n fun b=>ja7 n (un b) bs)),.fz (.int (e:Nat)),.fz (.int ((swL bs:Nat) - (swL as:Nat):Int)),.fz (.int (c:Nat)),z7,z8] = some (if (List.range' 0 (2 ^ n)).all (fun x=>eqQ (MA.Q4.rtn (mx as bs - swL as) (MA.tnn e (ja7 n (un c) as x))) (MA.Q4.rtn (mx bs as - swL bs) (ja7 n (un c) bs x))) = true then .nx else .rt (.bool false),[.fz C1,.fz C2,.fz (.list (jby n fun b=>ja7 n (un b) as)),.fz (.list (jby n fun b=>ja7 n (un b) bs)),.fz (.int (e:Nat)),.fz (.int ((swL bs:Nat) - (swL as:Nat):Int)),.fz (.int (c:Nat)),y7,y8]):=by
  obtain ⟨δ',lp,y7,y8,rfl⟩:=joy (b:=jba) (k:=7) (fun x=>eqQ (MA.Q4.rtn (mx as bs - swL as) (MA.tnn e (ja7 n (un c) as x))) (MA.Q4.rtn (mx bs as - swL bs) (ja7 n (un c) bs x))) (fun δ=>∃ y7 y8,δ = [.fz C1,.fz C2,.fz (.list (jby n fun b=>ja7 n (un b) as)),.fz (.list (jby n fun b=>ja7 n (un b) bs)),.fz (.int (e:Nat)),.fz (.int ((swL bs:Nat) - (swL as:Nat):Int)),.fz (.int (c:Nat)),y7,y8]) (2 ^ n) (fun x hx δ hδ=>by
    obtain ⟨y7,y8,rfl⟩:=hδ
    obtain ⟨y,e⟩:=jxs as bs hl hl' e c x hc hx C1 C2 y8
    exact ⟨_,e,_,_,rfl⟩) (2 ^ n) 0 [.fz C1,.fz C2,.fz (.list (jby n fun b=>ja7 n (un b) as)),.fz (.list (jby n fun b=>ja7 n (un b) bs)),.fz (.int (e:Nat)),.fz (.int ((swL bs:Nat) - (swL as:Nat):Int)),.fz (.int (c:Nat)),z7,z8] (by omega) ⟨z7,z8,rfl⟩
  have rg:=jdg n hn
  rw [List.range_eq_range'] at rg
  exact ⟨y7,y8,jxp _ _ _ _ _ _ rfl (jiU n _) rg lp⟩
theorem jvn {n:Nat} (hn:n ≤ 6) (as bs:List Row) (hl:as.length ≤ 100) (hl':bs.length ≤ 100) (e:Nat):jaC [cpD n as,cpD n bs,.list (jby n fun b=>ja7 n (un b) as),.list (jby n fun b=>ja7 n (un b) bs),.int (e:Nat)] = some (.bool (AlB n as bs e)):=by
  obtain ⟨δ',lp,_⟩:=joy (b:=ja9) (k:=6) (fun c=>(List.range' 0 (2 ^ n)).all fun x=>eqQ (MA.Q4.rtn (mx as bs - swL as) (MA.tnn e (ja7 n (un c) as x))) (MA.Q4.rtn (mx bs as - swL bs) (ja7 n (un c) bs x))) (fun δ=>∃ y6 y7 y8,δ = [.fz (cpD n as),.fz (cpD n bs),.fz (.list (jby n fun b=>ja7 n (un b) as)),.fz (.list (jby n fun b=>ja7 n (un b) bs)),.fz (.int (e:Nat)),.fz (.int ((swL bs:Nat) - (swL as:Nat):Int)),y6,y7,y8]) (2 ^ n) (fun c hc δ hδ=>by
    obtain ⟨y6,y7,y8,rfl⟩:=hδ
    obtain ⟨y,y',e⟩:=jxq hn as bs hl hl' e c hc (cpD n as) (cpD n bs) y7 y8
    exact ⟨_,e,_,_,_,rfl⟩) (2 ^ n) 0 [.fz (cpD n as),.fz (cpD n bs),.fz (.list (jby n fun b=>ja7 n (un b) as)),.fz (.list (jby n fun b=>ja7 n (un b) bs)),.fz (.int (e:Nat)),.fz (.int ((swL bs:Nat) - (swL as:Nat):Int)),.un,.un,.un] (by omega) ⟨_,_,_,rfl⟩
  have rg:=jdg n hn
  rw [List.range_eq_range'] at rg
  have fin:=jxo _ _ _ _ _ _ _ _ _ _ _ (jq9 n as (by omega)) (jq9 n bs (by omega)) (jiU n _) rg lp
  rw [fin]
  refine congrArg (fun z=>some (PyData.bool z)) ?_
  apply Bool.eq_iff_iff.mpr
  rw [alB_iff,all_rng]
  unfold Al jmB
  constructor
  · intro h c hc x hx
    rw [MA.jdD]
    exact eqQ_iff.mp (all_rng.mp (h c hc) x hx)
  · intro h c hc
    refine all_rng.mpr fun x hx=>eqQ_iff.mpr ?_
    rw [← MA.jdD]
    exact h c hc x hx
theorem jkA {b:Sf} {k:Nat} (G:Nat → Prop) (B:D → Prop) (I:Dv → Prop) (N:Nat) (st:∀ i,i < N → ∀ δ,I δ → (∃ δ2,b (δ.set k (.fz (.int (i:Nat)))) = some (.nx,δ2) ∧ I δ2 ∧ G i) ∨ (∃ d δ2,b (δ.set k (.fz (.int (i:Nat)))) = some (.rt d,δ2) ∧ B d)):∀ (m i:Nat) (δ:Dv),i + m ≤ N → I δ → (∃ δ',loop (gN k) b ((List.range' i m).map fun k:Nat=>PyData.int (0 + (k:Int))) δ = some (.nx,δ') ∧ I δ' ∧ ∀ j,i ≤ j → j < i + m → G j) ∨ (∃ d δ',loop (gN k) b ((List.range' i m).map fun k:Nat=>PyData.int (0 + (k:Int))) δ = some (.rt d,δ') ∧ B d)
  | 0,i,δ,_,hI=>.inl ⟨δ,rfl,hI,fun j h1 h2=>by omega⟩
  | m + 1,i,δ,h,hI=>by
    rw [List.range'_succ,List.map_cons,Int.zero_add]
    rcases st i (by omega) δ hI with ⟨δ2,e,I2,g⟩ | ⟨d,δ2,e,hB⟩
    · rw [jbl (by rfl) e]
      rcases jkA G B I N st m (i + 1) δ2 (by omega) I2 with ⟨δ',e',I',a⟩ | r
      · refine .inl ⟨δ',e',I',fun j h1 h2=>?_⟩
        by_cases z:j = i
        · subst z; exact g
        · exact a j (by omega) (by omega)
      · exact .inr r
    · exact .inr ⟨d,δ2,jgQ (by rfl) e,hB⟩
section
variable {n:Nat} (as bs:List Row) (base:Nat)
def jrQ (n:Nat) (as bs:List Row) (base b p:Nat):Prop:=MA.jdR (jcS n as 0 base) (jcS n bs b p) = MA.jdR (jcS n as b p) (jcS n bs 0 base)
def unD (base b p:Nat):D:=.tuple [.str "unlike",.int 0,.int (base:Nat),.int (b:Nat),.int (p:Nat)]
def jjh (n:Nat) (as bs:List Row) (base:Nat) (d:D):Prop:=∃ b p,b < 2 ^ n ∧ p < 2 ^ n ∧ d = unD base b p ∧ ¬ jrQ n as bs base b p
end
theorem jxj (F G F1 G1 f0 g0 f1 g1 V W:D) (z0 z1:Sl) (base b p:Int) (o:Bool) (a:ixD F (.int base) = some f0) (c:ixD G (.int base) = some g0) (a1:ixD F1 (.int p) = some f1) (c1:ixD G1 (.int p) = some g1) (v:jcd [f0,g1] = some V) (w:jcd [f1,g0] = some W) (ne:neD V W = some (.bool (!o))):jbv [z0,z1,.fz F,.fz G,.fz (.int base),.fz (.int b),.fz F1,.fz G1,.fz (.int p)] = some (if o = true then .nx else .rt (.tuple [.str "unlike",.int 0,.int base,.int b,.int p]),[z0,z1,.fz F,.fz G,.fz (.int base),.fz (.int b),.fz F1,.fz G1,.fz (.int p)]):=by
  cases o <;> simp [jbv,a,c,a1,c1,v,w,ne]
theorem jt4 (C1 C2 F F1 G1:D) (S:Int) (L:List D) (z3 z4 z6 z7 z8:Sl) (b:D) (r:Fl) (δ:Dv) (k1:jaE [C1,b] = some F1) (k2:jaE [C2,b] = some G1) (ln:jcq [F] = some (.int S)) (rg:jbz [.int S] = some L) (lp:loop (gN 8) jbv L [.fz C1,.fz C2,.fz F,z3,z4,.fz b,.fz F1,.fz G1,z8] = some (r,δ)):jb4 [.fz C1,.fz C2,.fz F,z3,z4,.fz b,z6,z7,z8] = some (r,δ):=by
  simp [jb4,k1,k2,ln,rg,lp]
theorem jzU (F:D) (S:Int) (N:Nat) (z0 z1 z3 z4 z5 z6 z7 z8:Sl) (x:Nat → D) (b:Nat → Bool) (hl:N ≤ 100000) (ln:jcq [F] = some (.int S)) (rg:jbz [.int S] = some ((List.range N).map fun k:Nat=>PyData.int (0 + (k:Int)))) (a:∀ p:Nat,p < N → ixD F (.int (p:Nat)) = some (x p)) (ne:∀ p,p < N → neD (x p) (.tuple [.int 0,.int 0,.int 0,.int 0,.int 0]) = some (.bool (b p))):jcG [z0,z1,.fz F,z3,z4,z5,z6,z7,z8] = some (.list (((List.range N).filter b).map fun e:Nat=>PyData.int (0 + (e:Int)))):=
  jfM (h:=fun e:Nat=>PyData.int (0 + (e:Int))) (b:=b) (by simp [ln,rg]) (by rw [List.length_range]; omega) (fun e he=>by
    rw [Int.zero_add]
    have h1:=a e (List.mem_range.mp he)
    have h2:=ne e (List.mem_range.mp he)
    simp [jga,h1,h2]) fun e _ _=>rfl
theorem jzx (C1 C2 F G L1 base:D) (S:Int) (L:List D) (r:Fl) (d:D) (δ:Dv) (k1:jaE [C1,.int 0] = some F) (k2:jaE [C2,.int 0] = some G) (p:∀ z4 z5 z6 z7 z8,jcG [.fz C1,.fz C2,.fz F,.fz G,z4,z5,z6,z7,z8] = some L1) (b0:ixD L1 (.int 0) = some base) (ln:jcq [F] = some (.int S)) (rg:jbz [.int S] = some L) (lp:loop (gN 5) jb4 L [.fz C1,.fz C2,.fz F,.fz G,.fz base,.un,.un,.un,.un] = some (r,δ)) (hr:r = .rt d ∨ (r = .nx ∧ d = .none)):jaS [C1,C2] = some d:=by
  rcases hr with rfl | ⟨rfl,rfl⟩
  · simp [jaS,runB,jc0,jan,k1,k2,p,b0,ln,rg,lp]
  · simp [jaS,runB,jc0,jan,k1,k2,p,b0,ln,rg,lp]
theorem jxk {n:Nat} {as bs:List Row} (hl:as.length ≤ 100) (hl':bs.length ≤ 100) {base b p:Nat} (h0:base < 2 ^ n) (hb:b < 2 ^ n) (hp:p < 2 ^ n) (z0 z1:Sl):(jbv [z0,z1,.fz (stD n (jcS n as 0)),.fz (stD n (jcS n bs 0)),.fz (.int (base:Nat)),.fz (.int (b:Nat)),.fz (stD n (jcS n as b)),.fz (stD n (jcS n bs b)),.fz (.int (p:Nat))] = some (.nx,[z0,z1,.fz (stD n (jcS n as 0)),.fz (stD n (jcS n bs 0)),.fz (.int (base:Nat)),.fz (.int (b:Nat)),.fz (stD n (jcS n as b)),.fz (stD n (jcS n bs b)),.fz (.int (p:Nat))]) ∧ jrQ n as bs base b p) ∨ (∃ δ,jbv [z0,z1,.fz (stD n (jcS n as 0)),.fz (stD n (jcS n bs 0)),.fz (.int (base:Nat)),.fz (.int (b:Nat)),.fz (stD n (jcS n as b)),.fz (stD n (jcS n bs b)),.fz (.int (p:Nat))] = some (.rt (unD base b p),δ) ∧ ¬ jrQ n as bs base b p):=by
  have e:=jxj _ _ _ _ _ _ _ _ _ _ z0 z1 (base:Nat) (b:Nat) (p:Nat) (@decide (jrQ n as bs base b p) (Classical.propDecidable _)) (jfw base rfl h0) (jfw base rfl h0) (jfw p rfl hp) (jfw p rfl hp) (jiu _ _ (jeM as hl 0 base) (jeM bs hl' b p)) (jiu _ _ (jeM as hl b p) (jeM bs hl' 0 base)) (jnv _ _ _ (@decide_eq_true_iff _ (Classical.propDecidable _)))
  by_cases q:jrQ n as bs base b p
  · rw [@decide_eq_true _ (Classical.propDecidable _) q,if_pos rfl] at e
    exact .inl ⟨e,q⟩
  · rw [@decide_eq_false _ (Classical.propDecidable _) q,if_neg (by decide)] at e
    exact .inr ⟨_,e,q⟩
theorem jvc (u:Nu) (b:Bool) (hb:b = true ↔ u = (⟨0,0,0,0⟩,0)):neD (jcj u) (.tuple [.int 0,.int 0,.int 0,.int 0,.int 0]) = some (.bool (!b)):=jnv u (⟨0,0,0,0⟩,0) b hb
theorem jmG {n:Nat} (hn:n ≤ 4) {as bs:List Row} (ha:∀ r ∈ as,r.ok n) (hb:∀ r ∈ bs,r.ok n) (hl:as.length ≤ 100) (hl':bs.length ≤ 100) (nz:∃ x,x < 2 ^ n ∧ jcS n as 0 x ≠ (⟨0,0,0,0⟩,0)):∃ base,base < 2 ^ n ∧ jcS n as 0 base ≠ (⟨0,0,0,0⟩,0) ∧ ∃ d,jaS [cpD n as,cpD n bs] = some d ∧ (jjh n as bs base d ∨ (d = .none ∧ ∀ b,b < 2 ^ n → ∀ p,p < 2 ^ n → jrQ n as bs base b p)):=by
  have p1:∀ z4 z5 z6 z7 z8,jcG [.fz (cpD n as),.fz (cpD n bs),.fz (stD n (jcS n as 0)),.fz (stD n (jcS n bs 0)),z4,z5,z6,z7,z8] = some (.list (((List.range (2 ^ n)).filter fun p=>!@decide (jcS n as 0 p = (⟨0,0,0,0⟩,0)) (Classical.propDecidable _)).map fun e:Nat=>PyData.int (0 + (e:Int)))):=fun z4 z5 z6 z7 z8=>
    jzU _ _ (2 ^ n) _ _ _ z4 z5 z6 z7 z8 (fun p=>jcj (jcS n as 0 p)) _ (Nat.le_trans (Nat.pow_le_pow_right (by decide) hn:2 ^ n ≤ 2 ^ 4) (by decide)) (jfK n _) (jdg n (by omega)) (fun p hp=>jfw p rfl hp) fun p _=>jvc _ _ (@decide_eq_true_iff _ (Classical.propDecidable _))
  cases F:(List.range (2 ^ n)).filter fun p=>!@decide (jcS n as 0 p = (⟨0,0,0,0⟩,0)) (Classical.propDecidable _) with
  | nil=>
    obtain ⟨x,hx,ne⟩:=nz
    have m:x ∈ (List.range (2 ^ n)).filter fun p=>!@decide (jcS n as 0 p = (⟨0,0,0,0⟩,0)) (Classical.propDecidable _):=List.mem_filter.mpr ⟨List.mem_range.mpr hx,by rw [@decide_eq_false _ (Classical.propDecidable _) ne]; rfl⟩
    rw [F] at m
    nomatch m
  | cons base l=>
    have m:base ∈ (List.range (2 ^ n)).filter fun p=>!@decide (jcS n as 0 p = (⟨0,0,0,0⟩,0)) (Classical.propDecidable _):=by rw [F]; exact List.mem_cons_self
    have hb0:=List.mem_range.mp (List.mem_filter.mp m).1
    have ne:jcS n as 0 base ≠ (⟨0,0,0,0⟩,0):=fun z=>by
      have:=(List.mem_filter.mp m).2
      rw [@decide_eq_true _ (Classical.propDecidable _) z] at this
      cases this
    rw [F] at p1
    refine ⟨base,hb0,ne,?_⟩
    have rg:=jdg n (by omega:n ≤ 6)
    rw [List.range_eq_range'] at rg
    have bx:ixD (.list ((base :: l).map fun e:Nat=>PyData.int (0 + (e:Int)))) (.int 0) = some (.int (base:Nat)):=jdl (j:=0) rfl (by rw [List.map_cons,Int.zero_add]; rfl)
    rcases jkA (b:=jb4) (k:=5) (fun b=>∀ p,p < 2 ^ n → jrQ n as bs base b p) (jjh n as bs base) (fun δ=>∃ z5 z6 z7 z8,δ = [.fz (cpD n as),.fz (cpD n bs),.fz (stD n (jcS n as 0)),.fz (stD n (jcS n bs 0)),.fz (.int (base:Nat)),z5,z6,z7,z8]) (2 ^ n) (fun b hb' δ hδ=>by
      obtain ⟨z5,z6,z7,z8,rfl⟩:=hδ
      rcases jkA (b:=jbv) (k:=8) (fun p=>jrQ n as bs base b p) (jjh n as bs base) (fun δ=>∃ z8,δ = [.fz (cpD n as),.fz (cpD n bs),.fz (stD n (jcS n as 0)),.fz (stD n (jcS n bs 0)),.fz (.int (base:Nat)),.fz (.int (b:Nat)),.fz (stD n (jcS n as b)),.fz (stD n (jcS n bs b)),z8]) (2 ^ n) (fun p hp δ hδ=>by
        obtain ⟨z8,rfl⟩:=hδ
        rcases jxk (n:=n) (as:=as) (bs:=bs) hl hl' hb0 hb' hp (.fz (cpD n as)) (.fz (cpD n bs)) with ⟨e,q⟩ | ⟨δ,e,q⟩
        · exact .inl ⟨_,e,⟨_,rfl⟩,q⟩
        · exact .inr ⟨_,_,e,b,p,hb',hp,rfl,q⟩) (2 ^ n) 0 [.fz (cpD n as),.fz (cpD n bs),.fz (stD n (jcS n as 0)),.fz (stD n (jcS n bs 0)),.fz (.int (base:Nat)),.fz (.int (b:Nat)),.fz (stD n (jcS n as b)),.fz (stD n (jcS n bs b)),z8] (by omega) ⟨z8,rfl⟩ with ⟨δ',e,⟨y8,rfl⟩,a⟩ | ⟨d,δ',e,hd⟩
      · exact .inl ⟨_,jt4 _ _ _ _ _ _ _ _ _ z6 z7 z8 _ _ _ (jcR (by omega) as ha hl b) (jcR (by omega) bs hb hl' b) (jfK n _) rg e,⟨_,_,_,_,rfl⟩,fun p hp=>a p (Nat.zero_le _) (by omega)⟩
      · exact .inr ⟨d,_,jt4 _ _ _ _ _ _ _ _ _ z6 z7 z8 _ _ _ (jcR (by omega) as ha hl b) (jcR (by omega) bs hb hl' b) (jfK n _) rg e,hd⟩) (2 ^ n) 0 [.fz (cpD n as),.fz (cpD n bs),.fz (stD n (jcS n as 0)),.fz (stD n (jcS n bs 0)),.fz (.int (base:Nat)),.un,.un,.un,.un] (by omega) ⟨_,_,_,_,rfl⟩ with ⟨δ',e,_,a⟩ | ⟨d,δ',e,hd⟩
    · exact ⟨.none,jzx _ _ _ _ _ _ _ _ _ _ δ' (jcR (by omega) as ha hl 0) (jcR (by omega) bs hb hl' 0) p1 bx (jfK n _) rg e (.inr ⟨rfl,rfl⟩),.inr ⟨rfl,fun b hb'=>a b (Nat.zero_le _) (by omega)⟩⟩
    · exact ⟨d,jzx _ _ _ _ _ _ _ _ _ _ δ' (jcR (by omega) as ha hl 0) (jcR (by omega) bs hb hl' 0) p1 bx (jfK n _) rg e (.inl rfl),.inl hd⟩
open MA (jbI)
def SS (N:Nat) (t:Nat → MA.S2):MA.S2:=⟨jbI N fun b=>(t b).p,jbI N fun b=>(t b).q⟩
theorem jji (N:Nat) (t:Nat → MA.S2):SS (N + 1) t = MA.S2.add (SS N t) (t N):=rfl
theorem jgU {t r:Nat → MA.S2}:∀ N,(∀ b,b < N → t b = r b) → SS N t = SS N r
  | 0,_=>rfl
  | N + 1,h=>by rw [jji,jji,jgU N fun b hb=>h b (by omega),h N (by omega)]
theorem jtA (k:Nat) (t:Nat → MA.S2):∀ N,SS N (fun p=>MA.S2.sc k (t p)) = MA.S2.sc k (SS N t)
  | 0=>by apply MA.S2.ext' <;> simp [SS,MA.S2.sc,jbI]
  | N + 1=>by rw [jji,jji,MA.S2.sc_addS,jtA k t N]
theorem jzv {n b:Nat} (hb:b < 2 ^ n):SS (2 ^ n) (fun x=>MA.nrm (un b x)) = ⟨1,0⟩:=by
  apply MA.S2.ext'
  · have e:=jfv (fun _=>(1:Int)) b (2 ^ n)
    rw [if_pos hb] at e
    rw [← e]
    exact MA.ja0 _ fun x _=>by
      show (MA.nrm (un b x)).p = if b = x then 1 else 0
      unfold un
      by_cases q:b = x
      · rw [if_pos q,if_pos q.symm]; rfl
      · rw [if_neg q,if_neg (Ne.symm q)]; rfl
  · exact jqW _ _ fun x _=>by
      show (MA.nrm (un b x)).q = 0
      unfold un
      split <;> rfl
theorem jxl {n b:Nat} {as:List Row} (hr:∀ r ∈ as,r.ok n) (hb:b < 2 ^ n):SS (2 ^ n) (fun x=>MA.nrm (ja7 n (un b) as x)) = ⟨2 ^ swL as,0⟩:=by
  have sl:=jex as
  have h:MA.jpD as.length n (jct n (unN b) as) = MA.jpD as.length n (unN b):=jf7 (M:=as.length) as hr (jjn b) (by omega)
  have l:MA.jpD as.length n (jct n (unN b) as) = MA.S2.sc (as.length - swL as) (SS (2 ^ n) fun x=>MA.nrm (ja7 n (un b) as x)):=by
    rw [← jtA]
    exact jgU (2 ^ n) fun x _=>by
      have v:=(jfN (n:=n) (M:=as.length) as (Nat.le_refl _) b x).1
      show MA.nrm (MA.val as.length (jct n (unN b) as x)) = _
      rw [show jct n (unN b) as x = jcS n as b x from rfl,v,MA.jhm]
  have r:MA.jpD as.length n (unN b) = MA.S2.sc as.length ⟨1,0⟩:=by
    rw [← jzv hb,← jtA]
    exact jgU (2 ^ n) fun x _=>by
      show MA.nrm (MA.Q4.rtn as.length (un b x)) = _
      rw [MA.jhm]
  rw [l,r,show as.length = as.length - swL as + swL as by omega,MA.S2.sc_add,show as.length - swL as + swL as - swL as = as.length - swL as by omega] at h
  rw [MA.S2.sc_inj h]
  apply MA.S2.ext'
  · show (1:Int) * 2 ^ swL as = _
    rw [Int.one_mul]
  · show (0:Int) * 2 ^ swL as = _
    rw [Int.zero_mul]
theorem jof {n:Nat} (rs:List Row) (b x:Nat) (h:ja7 n (un b) rs x = ⟨0,0,0,0⟩):jcS n rs b x = (⟨0,0,0,0⟩,0):=by
  obtain ⟨v,k⟩:=jfN (n:=n) (M:=rs.length) rs (Nat.le_refl _) b x
  refine MA.jkh (M:=rs.length) (jmp n rs b x) ⟨by simp,fun z=>by simp at z⟩ k (Nat.zero_le _) ?_
  rw [v,h,jcX]
  show _ = MA.Q4.rtn (rs.length - 0) ⟨0,0,0,0⟩
  rw [jcX]
theorem jog {n:Nat} {rs:List Row} (hr:∀ r ∈ rs,r.ok n) {b:Nat} (hb:b < 2 ^ n):∃ x,x < 2 ^ n ∧ jcS n rs b x ≠ (⟨0,0,0,0⟩,0):=by
  apply Classical.byContradiction
  intro no
  have z:∀ x,x < 2 ^ n → ja7 n (un b) rs x = ⟨0,0,0,0⟩:=fun x hx=>by
    have e:jcS n rs b x = (⟨0,0,0,0⟩,0):=Classical.byContradiction fun q=>no ⟨x,hx,q⟩
    have v:=(jfN (n:=n) (M:=rs.length) rs (Nat.le_refl _) b x).1
    rw [e] at v
    have v:MA.Q4.rtn (rs.length - 0) ⟨0,0,0,0⟩ = MA.Q4.rtn (rs.length - swL rs) (ja7 n (un b) rs x):=v
    rw [jcX,← jcX (rs.length - swL rs)] at v
    exact (MA.Q4.rtn_inj v).symm
  have s:=jxl (n:=n) hr hb
  have s0:SS (2 ^ n) (fun x=>MA.nrm (ja7 n (un b) rs x)) = SS (2 ^ n) fun _=>⟨0,0⟩:=jgU (2 ^ n) fun x hx=>by rw [z x hx]; rfl
  rw [s0] at s
  have p:=congrArg MA.S2.p s
  have p:jbI (2 ^ n) (fun _=>(0:Int)) = 2 ^ swL rs:=p
  rw [jqW _ _ fun _ _=>rfl] at p
  have:(0:Int) < 2 ^ swL rs:=Int.pow_pos (by decide)
  omega
theorem jf2:okS "alike" = true:=by decide +kernel
theorem jkp:okS "unlike" = true:=by decide +kernel
theorem jw2:eqD (.str "alike") (.str "alike") = some (.bool true):=(eqS jf2 jf2).trans (congrArg (fun z=>some (PyData.bool z)) (show (("alike":Str) == ("alike":Str)) = true by decide +kernel))
theorem jzy:eqD (.str "unlike") (.str "alike") = some (.bool false):=(eqS jkp jf2).trans (congrArg (fun z=>some (PyData.bool z)) (show (("unlike":Str) == ("alike":Str)) = false by decide +kernel))
def alD (e:Int):D:=.tuple [.str "alike",.int e]
def jew (s0 s1 s2 s3:Int):D:=.tuple [.str "unlike",.int s0,.int s1,.int s2,.int s3]
theorem jBh (C1 C2:D) (e:Int) (rf:jax [C1,C2] = some .none) (ta:jaB [C1,C2] = some (.int e)):jaR [C1,C2] = some (alD e):=by
  simp [jaR,runB,jdy,jan,rf,ta,alD]
theorem jBi (C1 C2 d:D) (rf:jax [C1,C2] = some .none) (ta:jaB [C1,C2] = some .none) (up:jaS [C1,C2] = some d):jaR [C1,C2] = some d:=by
  simp [jaR,runB,jdy,jan,rf,ta,up]
def jyf:Option Nat → Int → Bool
  | some a,e=>((a:Nat):Int) == e
  | none,_=>false
theorem juT (o:Option Nat) (e:Int):eqD (outD o) (.int e) = some (.bool (jyf o e)):=by
  cases o with
  | none=>rfl
  | some a=>rfl
theorem jAA (C1 C2 T:D) (e:Int) (b:Bool) (rf:jax [C1,C2] = some .none) (ta:jaB [C1,C2] = some T) (q:eqD T (.int e) = some (.bool b)):jat [C1,C2,alD e] = some (.bool b):=by
  have i0:ixD (alD e) (.int 0) = some (.str "alike"):=rfl
  have i1:ixD (alD e) (.int 1) = some (.int e):=rfl
  simp [jat,runB,jcn,jan,rf,ta,i0,i1,q,jw2]
theorem jlf {n:Nat} (hn:n ≤ 4) {as bs:List Row} (ha:∀ r ∈ as,r.ok n) (hb:∀ r ∈ bs,r.ok n) (hl:as.length ≤ 100) (hl':bs.length ≤ 100) (e:Int):jat [cpD n as,cpD n bs,alD e] = some (.bool (jyf (jmA (AlB n as bs) 0 8) e)):=
  jAA _ _ _ _ _ (juy _ _ n (jbs n as (by omega)) (jbs n bs (by omega)) (at0 _ _) (at0 _ _)) (jg1 hn ha hb (by omega) (by omega)) (juT _ e)
def inP (N:Int) (s:Int):Bool:=decide (0 ≤ s) && decide (s < N)
theorem jzj (N s:Int):(oCh (oC (.int 0)) (oV 0) (oV 1) leD ltD) [.fz (.int s),.fz (.int N)] = some (.bool (inP N s)):=by
  unfold inP
  by_cases h:0 ≤ s
  · simp [oCh,h]
  · simp [oCh,h]
theorem jAz (C1 C2:Sl) (s0 s1 s2 s3 N:Int):jeH [C1,C2,.fz (jew s0 s1 s2 s3),.fz (.int N)] = some (.list ([s0,s1,s2,s3].map fun s=>.bool (inP N s))):=
  jcZ (h:=PyData.int) (k:=fun s=>PyData.bool (inP N s)) (xs:=[s0,s1,s2,s3]) rfl (by simp) fun s _=>jzj N s
theorem jx5 (C1 C2:D) (s0 s1 s2 s3 n N:Int) (b:Bool) (rf:jax [C1,C2] = some .none) (c0:ixD C1 (.int 0) = some (.int n)) (sh:jeC (.int 1) (.int n) = some (.int N)) (ia:([s0,s1,s2,s3].all fun s=>inP N s) = true → jcb [C1,C2,jew s0 s1 s2 s3] = some (.bool b)):jat [C1,C2,jew s0 s1 s2 s3] = some (.bool (([s0,s1,s2,s3].all fun s=>inP N s) && b)):=by
  have i0:ixD (jew s0 s1 s2 s3) (.int 0) = some (.str "unlike"):=rfl
  have p:=jAz (.fz C1) (.fz C2) s0 s1 s2 s3 N
  have al:=jjg (fun s=>inP N s) [s0,s1,s2,s3]
  have ne:=jzy
  cases q:[s0,s1,s2,s3].all fun s=>inP N s with
  | true=>
    have ia:=ia q
    rw [q] at al
    generalize ([s0,s1,s2,s3].map fun s=>PyData.bool (inP N s)) = Z at p al
    simp [jat,runB,jcn,jan,rf,i0,ne,c0,sh,p,al,ia]
  | false=>
    rw [q] at al
    generalize ([s0,s1,s2,s3].map fun s=>PyData.bool (inP N s)) = Z at p al
    simp [jat,runB,jcn,jan,rf,i0,ne,c0,sh,p,al]
theorem jzM (C K K2 V V2:D) (s0 s1 s2 s3:Int) (k1:jaE [C,.int s0] = some K) (v1:ixD K (.int s1) = some V) (k2:jaE [C,.int s2] = some K2) (v2:ixD K2 (.int s3) = some V2) (x:Bool):(o2 (VL.os (jac (oV 1) (jac (o2 (oV 2) (oV 0) ixD) (jal))) jaE) (o2 (oV 2) (o2 (oV 0) (oC (.int 1)) ja6) ixD) ixD) [.fz (if x then .int 3 else .int 1),.fz C,.fz (jew s0 s1 s2 s3)] = some (if x then V2 else V):=by
  have i1:ixD (jew s0 s1 s2 s3) (.int 1) = some (.int s0):=rfl
  have i2:ixD (jew s0 s1 s2 s3) (.int 2) = some (.int s1):=rfl
  have i3:ixD (jew s0 s1 s2 s3) (.int 3) = some (.int s2):=rfl
  have i4:ixD (jew s0 s1 s2 s3) (.int 4) = some (.int s3):=rfl
  cases x
  · simp [i1,i2,k1,v1]
  · simp [i3,i4,k2,v2]
theorem jAY (C1 C2 K1 K2 L1 L2 V1 V2 W1 W2 P Q:D) (s0 s1 s2 s3:Int) (b:Bool) (k1:jaE [C1,.int s0] = some K1) (v1:ixD K1 (.int s1) = some V1) (k2:jaE [C1,.int s2] = some K2) (v2:ixD K2 (.int s3) = some V2) (l1:jaE [C2,.int s0] = some L1) (w1:ixD L1 (.int s1) = some W1) (l2:jaE [C2,.int s2] = some L2) (w2:ixD L2 (.int s3) = some W2) (p:jcd [V1,W2] = some P) (q:jcd [V2,W1] = some Q) (ne:neD P Q = some (.bool b)):jcb [C1,C2,jew s0 s1 s2 s3] = some (.bool b):=by
  have p1:∀ z3 z4,jha [.fz C1,.fz C2,.fz (jew s0 s1 s2 s3),z3,z4] = some (.list [V1,V2]):=fun z3 z4=>jcZ (h:=fun x:Bool=>if x then PyData.int 3 else .int 1) (k:=fun x:Bool=>if x then V2 else V1) (xs:=[false,true]) rfl (by decide) fun x _=>jzM C1 K1 K2 V1 V2 s0 s1 s2 s3 k1 v1 k2 v2 x
  have p2:∀ z3 z4,jg9 [.fz C1,.fz C2,.fz (jew s0 s1 s2 s3),z3,z4] = some (.list [W1,W2]):=fun z3 z4=>jcZ (h:=fun x:Bool=>if x then PyData.int 3 else .int 1) (k:=fun x:Bool=>if x then W2 else W1) (xs:=[false,true]) rfl (by decide) fun x _=>jzM C2 L1 L2 W1 W2 s0 s1 s2 s3 l1 w1 l2 w2 x
  have e0:atI [V1,V2] 0 = some V1:=rfl
  have e1:atI [V1,V2] 1 = some V2:=rfl
  have f0:atI [W1,W2] 0 = some W1:=rfl
  have f1:atI [W1,W2] 1 = some W2:=rfl
  simp [jcb,runB,jgc,jan,p1,p2,e0,e1,f0,f1,p,q,ne]
theorem jic {n:Nat} (hn:n ≤ 4) {as bs:List Row} (ha:∀ r ∈ as,r.ok n) (hb:∀ r ∈ bs,r.ok n) (hl:as.length ≤ 100) (hl':bs.length ≤ 100) {s0 s1 s2 s3:Nat} (h0:s0 < 2 ^ n) (h1:s1 < 2 ^ n) (h2:s2 < 2 ^ n) (h3:s3 < 2 ^ n):jcb [cpD n as,cpD n bs,jew s0 s1 s2 s3] = some (.bool (!eqQ (MA.Q4.mul (ja7 n (un s0) as s1) (ja7 n (un s2) bs s3)) (MA.Q4.mul (ja7 n (un s2) as s3) (ja7 n (un s0) bs s1)))):=
  jAY _ _ _ _ _ _ _ _ _ _ _ _ _ _ _ _ _ (jcR (by omega) as ha hl s0) (jfw s1 rfl h1) (jcR (by omega) as ha hl s2) (jfw s3 rfl h3) (jcR (by omega) bs hb hl' s0) (jfw s1 rfl h1) (jcR (by omega) bs hb hl' s2) (jfw s3 rfl h3) (jiu _ _ (jeM as hl s0 s1) (jeM bs hl' s2 s3)) (jiu _ _ (jeM as hl s2 s3) (jeM bs hl' s0 s1)) (jnv _ _ _ (eqQ_iff.trans (jpl as bs s0 s1 s2 s3).symm))
theorem jpc {n:Nat} (hn:n ≤ 4) {as bs:List Row} (ha:∀ r ∈ as,r.ok n) (hb:∀ r ∈ bs,r.ok n) (hl:as.length ≤ 100) (hl':bs.length ≤ 100) {s0 s1 s2 s3:Nat} (h0:s0 < 2 ^ n) (h1:s1 < 2 ^ n) (h2:s2 < 2 ^ n) (h3:s3 < 2 ^ n):jat [cpD n as,cpD n bs,jew s0 s1 s2 s3] = some (.bool (!eqQ (MA.Q4.mul (ja7 n (un s0) as s1) (ja7 n (un s2) bs s3)) (MA.Q4.mul (ja7 n (un s2) as s3) (ja7 n (un s0) bs s1)))):=by
  have h:=jx5 (cpD n as) (cpD n bs) s0 s1 s2 s3 n ((2 ^ n:Nat):Int) _ (juy _ _ n (jbs n as (by omega)) (jbs n bs (by omega)) (at0 _ _) (at0 _ _)) (at0 _ _) (jpf n (by omega)) fun _=>jic hn ha hb hl hl' h0 h1 h2 h3
  have a:([(s0:Int),(s1:Int),(s2:Int),(s3:Int)].all fun s=>inP ((2 ^ n:Nat):Int) s) = true:=by
    rw [List.all_eq_true]
    intro s hs
    simp only [List.mem_cons,List.not_mem_nil,or_false] at hs
    unfold inP
    rw [Bool.and_eq_true,decide_eq_true_iff,decide_eq_true_iff]
    rcases hs with rfl | rfl | rfl | rfl <;> exact ⟨by omega,by exact_mod_cast (by assumption)⟩
  rw [a,Bool.true_and] at h
  exact h
theorem jqJ {n:Nat} (hn:n ≤ 4) {as bs:List Row} (ha:∀ r ∈ as,r.ok n) (hb:∀ r ∈ bs,r.ok n) (hl:as.length ≤ 100) (hl':bs.length ≤ 100):∃ A,jaR [cpD n as,cpD n bs] = some A:=by
  have pn:0 < 2 ^ n:=Nat.pow_pos (by decide)
  have rf:=juy _ _ n (jbs n as (by omega)) (jbs n bs (by omega)) (at0 (PyData.int (n:Nat)) [.tuple (as.map rowD)]) (at0 (PyData.int (n:Nat)) [.tuple (bs.map rowD)])
  have ta:=jg1 hn ha hb (by omega) (by omega)
  cases o:jmA (AlB n as bs) 0 8 with
  | some e=>
    rw [o] at ta
    exact ⟨_,jBh _ _ _ rf ta⟩
  | none=>
    rw [o] at ta
    obtain ⟨base,h0,ne,d,up,h⟩:=jmG hn ha hb hl hl' (jog ha pn)
    exact ⟨_,jBi _ _ _ rf ta up⟩
def jzT:Sf:=jaF 3 (oC .none)
def jrS:Sf:=jq1 4 hs_WaveError (sIf (ob (o2 (oV 2) (oC .none) isD)) (jjz (VL.os (jac (oV 0) (jac (oV 1) (jal))) jaR)) (jjz (VL.os (jac (oV 0) (jac (oV 1) (jac (oV 2) (jal)))) jat))) (xIf (ob (o2 (oV 2) (oC .none) isD)) (xE (osX (jac (oV 0) (jac (oV 1) (jal))) jaQ)) (xE (osX (jac (oV 0) (jac (oV 1) (jac (oV 2) (jal)))) jaN))) (jaF 3 (oV 4))
def jt3:Sf:=sIf (ob (o2 (oV 3) (oC .none) isD)) (jbx (oC (.str "told"))) (sNx)
def jw9:Sf:=joH 5 (jac (o1 (oV 3) (jfU jcP)) (jac (o1 (oV 3) (jfU jbS)) (jac (o1 (oV 3) (jfU jdA)) (jal))))
def jw8:Sf:=joI 5 (o1 (oV 3) (jfU jdB))
def jw7:Sf:=fun δ=>(sIf (oOr (ob (o2 (o2 (oV 5) (oC (.bool true)) jw0) (oC (.int 1)) neD)) (jlq (ob (o1 (oV 3) (jfU jb9))))) (jbx (oC (.str "odd"))) (sNx)) (dFz 5 δ)
def jwq:Sf:=jbx (o2 (VL.os (jac (oC (.str "HasLooks")) (jac (oC (.str "UnlikeWires")) (jac (oC (.str "odd")) (jac (oC (.str "odd")) (jal))))) jdG) (o2 (oV 5) (oC (.bool true)) jvO) ixD)
theorem jk1:jeR = jam jzT (jam jrS (jam jt3 (jam jw9 (jam jw8 (jam jw7 (jwq)))))):=rfl
def jAp:Sf:=jaF 3 (oC (.str "told"))
def jtF:Sf:=sIf (ob (o2 (o2 (oV 2) (oC (.int 2)) jbu) (oC (.int 0)) eqD)) (jam (jaF 1 (VL.os (jac (o2 (o2 (oV 1) (oC (.int 0)) ixD) (oC (.int 1)) ja6) (jac (o2 (oV 1) (oC (.int 1)) ixD) (jal))) jbm)) (jaF 3 (oC (.str "UnlikeWires")))) (sNx)
def joJ:Sf:=sIf (ob (o2 (o2 (o2 (oV 2) (oC (.int 2)) jcB) (oC (.int 3)) jbu) (oC (.int 0)) gtD)) (jam (joH 4 (jac (oV 0) (jac (oV 1) (jal)))) (jam (jaF 5 (o2 (o2 (oV 2) (oC (.int 6)) jcB) (oC (.int 2)) jbu)) (jam (jaF 6 (o2 (jfT 4 (oV 5)) (oC (.int 1)) ixD)) (jam (jlZ 4 (oV 5) (VL.os (jac (o2 (jfT 4 (oV 5)) (oC (.int 0)) ixD) (jac (o2 (o2 (oSl (oV 6) (oNo) (oP (o2 (o2 (oV 2) (oC (.int 12)) jcB) (o2 (VL.os (jac (oV 6) (jal)) jcq) (oC (.int 1)) ja6) jbu))) (VL.os (jac (VL.os (jac (oC (.str "look")) (jac (oC (.int 0)) (jal))) jbm) (jal)) jbm) ja6) (oV 6) ja6) (jal))) jbm)) (jam (jaF 0 (jfT 4 (oC (.int 0)))) (jam (jaF 1 (jfT 4 (oC (.int 1)))) (jaF 3 (oC (.str "HasLooks"))))))))) (sNx)
def jsc:Sf:=jg7 (oI (VL.os (jac (oC .none) (jac (VL.os (jac (oC (.str "alike")) (jac (oC (.int 0)) (jal))) jbm) (jac (VL.os (jac (oC (.str "unlike")) (jac (oC (.int 0)) (jac (oC (.int 0)) (jac (oC (.int 0)) (jac (oC (.int 1)) (jal)))))) jbm) (jal)))) jdG) je6) (gN 7) (jb5)
def juv:Sf:=jbx (oC (.bool true))
theorem jl0:jco = jam jAp (jam jtF (jam joJ (jam jsc (juv)))):=rfl
theorem xra (C1 C2:D) (b1 b2:Bool) (w1 w2:Int) (p1:jaD [C1] = some (.bool b1)) (p2:jaD [C2] = some (.bool b2)) (c1:ixD C1 (.int 0) = some (.int w1)) (c2:ixD C2 (.int 0) = some (.int w2)):jav [C1,C2] = if (b1 && b2) = false then some ("HasLooks":Str) else if w1 = w2 then none else some ("UnlikeWires":Str):=by
  have ne:neD (.int w1) (.int w2) = some (.bool (!(w1 == w2))):=rfl
  cases b1
  · simp [jav,jiI,jbK,jan,p1]
  · cases b2
    · simp [jav,jiI,jbK,jan,p1,p2]
    · by_cases q:w1 = w2
      · simp [jav,jiI,jbK,jan,p1,p2,c1,c2,q]
      · simp [jav,jiI,jbK,jan,p1,p2,c1,c2,q]
theorem jw5 (C1 C2:D) (m:Str) (h:jav [C1,C2] = some m):jaQ [C1,C2] = some m:=by
  simp [jaQ,jiI,jcm,jan,h]
theorem jw4 (C1 C2 P:D) (h:jav [C1,C2] = some m):jaN [C1,C2,P] = some m:=by
  simp [jaN,jiI,jcK,jan,h]
theorem jt1 (C1 C2 P:D) (h:jav [C1,C2] = none):jaN [C1,C2,P] = none:=by
  simp [jaN,jiI,jcK,jan,h]
theorem jqO (C R P:D) (c1:ixD C (.int 1) = some R) (h:jaX [R] = some (.bool true)):jdn [C,P] = none:=by
  simp [jdn,jiI,jhz,jan,c1,h]
theorem jw3 (C1 C2 F:D) (h1:jdn [C1,.int 0] = none) (h2:jdn [C2,.int 0] = none) (g:jaE [C1,.int 0] = some F):jbB [C1,C2] = none:=by
  simp [jbB,jiI,jdI,jan,h1,h2,g]
theorem jw6 (C1 C2 T:D) (h:jav [C1,C2] = none) (rf:jax [C1,C2] = some .none) (ta:jaB [C1,C2] = some T) (u:jbB [C1,C2] = none):jaQ [C1,C2] = none:=by
  cases q:isN T
  · simp [jaQ,jiI,jcm,jan,h,rf,ta,u,q]
  · simp [jaQ,jiI,jcm,jan,h,rf,ta,u,q]
theorem jy6 (m:Str) (h:m = "HasLooks" ∨ m = "UnlikeWires"):hs_WaveError.contains m = true:=by
  rcases h with rfl | rfl <;> decide +kernel
theorem jxg (C1 C2 P:D) (m:Str) (hm:m = "HasLooks" ∨ m = "UnlikeWires") (h:jav [C1,C2] = some m):jrS [.fz C1,.fz C2,.fz P,.fz .none,.un,.un] = some (.nx,[.fz C1,.fz C2,.fz P,.fz (exD m),.un,.un]):=by
  have hs:=jy6 m hm
  have a:=jw5 C1 C2 m h
  have b:=jw4 C1 C2 P h
  cases q:isN P
  · simp [jrS,jq1,q,b,hs,-List.contains_eq_mem]
  · simp [jrS,jq1,q,a,hs,-List.contains_eq_mem]
theorem jxh (C1 C2 P A S:D) (a:jaQ [C1,C2] = none) (b:jaN [C1,C2,P] = none) (ga:jaR [C1,C2] = some A) (gb:isN P = false → jat [C1,C2,P] = some S):jrS [.fz C1,.fz C2,.fz P,.fz .none,.un,.un] = some (.nx,[.fz C1,.fz C2,.fz P,.fz .none,.un,.un]):=by
  cases q:isN P
  · have gb:=gb q
    simp [jrS,jq1,q,b,gb]
  · simp [jrS,jq1,q,a,ga]
theorem jxf (z0 z1 z2:Sl):jt3 [z0,z1,z2,.fz .none,.un,.un] = some (.rt (.str "told"),[z0,z1,z2,.fz .none,.un,.un]):=by
  simp [jt3]
theorem jxe (z0 z1 z2:Sl) (m:Str):jt3 [z0,z1,z2,.fz (exD m),.un,.un] = some (.nx,[z0,z1,z2,.fz (exD m),.un,.un]):=by
  have:isN (exD m) = false:=rfl
  simp [jt3,this]
theorem isl (t:List (Str × Bool)) (n:Str) (b:Bool) (h:t.lookup n = some b):jfU t (exD n) = some (.bool b):=by
  rw [js1]; unfold jwJ; rw [h]; rfl
theorem jxd (z0 z1 z2:Sl) (m:Str) (h u:Bool) (a:jfU jcP (exD m) = some (.bool h)) (b:jfU jbS (exD m) = some (.bool u)) (c:jfU jdA (exD m) = some (.bool false)):jw9 [z0,z1,z2,.fz (exD m),.un,.un] = some (.nx,[z0,z1,z2,.fz (exD m),.un,.ow [.bool h,.bool u,.bool false]]):=by
  have sz:3 ≤ sizeLine:=by decide
  simp [jw9,a,b,c,sz]
theorem jxc (z0 z1 z2:Sl) (m:Str) (h u:Bool) (a:jfU jdB (exD m) = some (.bool false)):jw8 [z0,z1,z2,.fz (exD m),.un,.ow [.bool h,.bool u,.bool false]] = some (.nx,[z0,z1,z2,.fz (exD m),.un,.ow [.bool h,.bool u,.bool false,.bool false]]):=by
  have sz:3 < sizeLine:=by decide
  simp [jw8,a,sz]
theorem jxb (z0 z1 z2:Sl) (m:Str) (h:Bool) (a:jfU jb9 (exD m) = some (.bool true)):jw7 [z0,z1,z2,.fz (exD m),.un,.ow [.bool h,.bool (!h),.bool false,.bool false]] = some (.nx,[z0,z1,z2,.fz (exD m),.un,.fz (.list [.bool h,.bool (!h),.bool false,.bool false])]):=by
  have c:jw0 (.list [.bool h,.bool (!h),.bool false,.bool false]) (.bool true) = some (.int 1):=by cases h <;> rfl
  have n:neD (.int 1) (.int 1) = some (.bool false):=rfl
  simp only [jw7,dFz,List.getElem?_cons_zero,List.getElem?_cons_succ,List.set_cons_succ,List.set_cons_zero]
  simp [c,a]
def nm (h:Bool):Str:=if h = true then "HasLooks" else "UnlikeWires"
theorem jxa (z0 z1 z2 z3:Sl) (h:Bool):∃ δ,jwq [z0,z1,z2,z3,.un,.fz (.list [.bool h,.bool (!h),.bool false,.bool false])] = some (.rt (.str (nm h)),δ):=by
  cases h
  · have c:jvO (.list [.bool false,.bool true,.bool false,.bool false]) (.bool true) = some (.int 1):=rfl
    have e:atI [PyData.str "HasLooks",.str "UnlikeWires",.str "odd",.str "odd"] 1 = some (.str "UnlikeWires"):=rfl
    exact ⟨_,by simp [jwq,c,e]; exact ⟨rfl,rfl⟩⟩
  · have c:jvO (.list [.bool true,.bool false,.bool false,.bool false]) (.bool true) = some (.int 0):=rfl
    have e:atI [PyData.str "HasLooks",.str "UnlikeWires",.str "odd",.str "odd"] 0 = some (.str "HasLooks"):=rfl
    exact ⟨_,by simp [jwq,c,e]; exact ⟨rfl,rfl⟩⟩
theorem jqx (rs:List Row) (lo hi:Option Int):∃ ms:List Row,ms.length ≤ rs.length ∧ slD (.tuple (rs.map rowD)) lo hi = some (.tuple (ms.map rowD)):=by
  refine ⟨(rs.drop (HT.sIx rs.length 0 lo)).take (HT.sIx rs.length rs.length hi - HT.sIx rs.length 0 lo),?_,?_⟩
  · rw [List.length_take,List.length_drop]; omega
  · show some (PyData.tuple (jkg _ _ _)) = _
    unfold jkg
    rw [List.length_map,← List.map_drop,← List.map_take]
def orD (lk:D):Option Row → D
  | some r=>rowD r
  | none=>lk
theorem jvb (lk:D) (l:List (Option Row)) (hl:l.length ≤ 100000) (h0:ixD lk (.int 0) = some (.str "look")) (hn:none ∈ l):jaX [.tuple (l.map (orD lk))] = some (.bool false):=by
  have il:inD false (.str "look") (.tuple [.str "swing",.str "turn",.str "flip",.str "tie",.str "sign",.str "cross"]) = some (.bool false):=rfl
  have e:jeI [.fz (.tuple (l.map (orD lk)))] = some (.list (l.map fun o=>.bool o.isSome)):=jcZ (k:=fun o:Option Row=>.bool o.isSome) (h:=orD lk) (by simp) (by omega) fun o _=>by
    cases o with
    | none=>simp [orD,h0,il]
    | some r=>
      obtain ⟨s,g0,_,g3⟩:=jgL r
      simp [orD,g0,g3]
  have a:=jjg (fun o:Option Row=>o.isSome) l
  have t:(l.all fun o=>o.isSome) = false:=by
    rw [List.all_eq_false]
    exact ⟨none,hn,by decide⟩
  rw [t] at a
  simp [jaX,runB,jep,jan,e,a]
theorem jub (t:List (Str × Bool)) (m:Str) (b:Bool) (h:(t.lookup m == some b) = true):jfU t (exD m) = some (.bool b):=isl t m b (eq_of_beq h)
theorem jmC (C1 C2 P:D) (h:Bool) (x:jav [C1,C2] = some (nm h)):jbf [C1,C2,P] = some (.str (nm h)):=by
  obtain ⟨δ,e7⟩:=jxa (.fz C1) (.fz C2) (.fz P) (.fz (exD (nm h))) h
  refine jkf (δ':=δ) rfl ?_
  rw [jk1]
  have t1:jfU jcP (exD (nm h)) = some (.bool h):=jub _ _ _ (by cases h <;> decide +kernel)
  have t2:jfU jbS (exD (nm h)) = some (.bool (!h)):=jub _ _ _ (by cases h <;> decide +kernel)
  have t3:jfU jdA (exD (nm h)) = some (.bool false):=jub _ _ _ (by cases h <;> decide +kernel)
  have t4:jfU jdB (exD (nm h)) = some (.bool false):=jub _ _ _ (by cases h <;> decide +kernel)
  have t5:jfU jb9 (exD (nm h)) = some (.bool true):=jub _ _ _ (by cases h <;> decide +kernel)
  refine (jdk (δ':=[.fz C1,.fz C2,.fz P,.fz .none,.un,.un]) rfl).trans ?_
  refine (jdk (jxg C1 C2 P _ (by cases h; exact .inr rfl; exact .inl rfl) x)).trans ?_
  refine (jdk (jxe _ _ _ _)).trans ?_
  refine (jdk (jxd _ _ _ _ _ _ t1 t2 t3)).trans ?_
  refine (jdk (jxc _ _ _ _ _ _ t4)).trans ?_
  refine (jdk (jxb _ _ _ _ _ t5)).trans ?_
  exact e7
theorem jmD (C1 C2 P A S:D) (a:jaQ [C1,C2] = none) (b:jaN [C1,C2,P] = none) (ga:jaR [C1,C2] = some A) (gb:isN P = false → jat [C1,C2,P] = some S):jbf [C1,C2,P] = some (.str "told"):=by
  refine jkf (δ':=[.fz C1,.fz C2,.fz P,.fz .none,.un,.un]) rfl ?_
  rw [jk1]
  refine (jdk (δ':=[.fz C1,.fz C2,.fz P,.fz .none,.un,.un]) rfl).trans ?_
  refine (jdk (jxh C1 C2 P A S a b ga gb)).trans ?_
  exact jtL (jxf _ _ _)
theorem jxY (z0 z4 z5 z6 z7:Sl) (C2 R S:D) (c w:Int) (q:c % 2 = 0) (c0:ixD C2 (.int 0) = some (.int w)) (c1:ixD C2 (.int 1) = some R):jtF [z0,.fz C2,.fz (.int c),.fz S,z4,z5,z6,z7] = some (.nx,[z0,.fz (.tuple [.int (w + 1),R]),.fz (.int c),.fz (.str "UnlikeWires"),z4,z5,z6,z7]):=by
  simp [jtF,q,c0,c1]
theorem jxZ (z0 z1 z3 z4 z5 z6 z7:Sl) (c:Int) (q:¬ c % 2 = 0):jtF [z0,z1,.fz (.int c),z3,z4,z5,z6,z7] = some (.nx,[z0,z1,.fz (.int c),z3,z4,z5,z6,z7]):=by
  simp [jtF,q]
theorem juw (z0 z1 z3 z4 z5 z6 z7:Sl) (c:Int) (q:¬ 0 < c / 2 % 3):joJ [z0,z1,.fz (.int c),z3,z4,z5,z6,z7] = some (.nx,[z0,z1,.fz (.int c),z3,z4,z5,z6,z7]):=by
  simp [joJ,q]
theorem jxX (C1 C2 S R W A AB ABC:D) (c k:Int) (z7:Sl) (q:0 < c / 2 % 3) (a:c / 6 % 2 = 0) (c1:ixD C1 (.int 1) = some R) (c0:ixD C1 (.int 0) = some W) (ln:jcq [R] = some (.int k)) (hk:0 ≤ k) (sl:slD R none (some (c / 12 % (k + 1))) = some A) (a1:ja6 A (.tuple [.tuple [.str "look",.int 0]]) = some AB) (a2:ja6 AB R = some ABC):∃ y4 y5 y6,joJ [.fz C1,.fz C2,.fz (.int c),.fz S,.un,.un,.un,z7] = some (.nx,[.fz (.tuple [W,ABC]),.fz C2,.fz (.int c),.fz (.str "HasLooks"),y4,y5,y6,z7]):=by
  have sz:2 ≤ sizeLine:=by decide
  have p:0 < k + 1:=by omega
  have e0:atI [C1,C2] 0 = some C1:=rfl
  have i0:ixN 2 0 = some 0:=rfl
  have e1:atI [PyData.tuple [W,ABC],C2] 0 = some (PyData.tuple [W,ABC]):=rfl
  have e2:atI [PyData.tuple [W,ABC],C2] 1 = some C2:=rfl
  exact ⟨_,_,_,by simp [joJ,q,a,sz,e0,c1,c0,ln,p,sl,a1,a2,i0,e1,e2]; exact ⟨rfl,rfl,rfl⟩⟩
theorem jxW (C1 C2 S R W A AB ABC:D) (c k:Int) (z7:Sl) (q:0 < c / 2 % 3) (a:c / 6 % 2 = 1) (c1:ixD C2 (.int 1) = some R) (c0:ixD C2 (.int 0) = some W) (ln:jcq [R] = some (.int k)) (hk:0 ≤ k) (sl:slD R none (some (c / 12 % (k + 1))) = some A) (a1:ja6 A (.tuple [.tuple [.str "look",.int 0]]) = some AB) (a2:ja6 AB R = some ABC):∃ y4 y5 y6,joJ [.fz C1,.fz C2,.fz (.int c),.fz S,.un,.un,.un,z7] = some (.nx,[.fz C1,.fz (.tuple [W,ABC]),.fz (.int c),.fz (.str "HasLooks"),y4,y5,y6,z7]):=by
  have sz:2 ≤ sizeLine:=by decide
  have p:0 < k + 1:=by omega
  have e0:atI [C1,C2] 1 = some C2:=rfl
  have i0:ixN 2 1 = some 1:=rfl
  have e1:atI [C1,PyData.tuple [W,ABC]] 0 = some C1:=rfl
  have e2:atI [C1,PyData.tuple [W,ABC]] 1 = some (PyData.tuple [W,ABC]):=rfl
  exact ⟨_,_,_,by simp [joJ,q,a,sz,e0,c1,c0,ln,p,sl,a1,a2,i0,e1,e2]; exact ⟨rfl,rfl,rfl⟩⟩
theorem jsM (C1 C2 P S:D) (z2 z4 z5 z6:Sl) (w:jbf [C1,C2,P] = some S) (ne:neD S S = some (.bool false)):jb5 [.fz C1,.fz C2,z2,.fz S,z4,z5,z6,.fz P] = some (.nx,[.fz C1,.fz C2,z2,.fz S,z4,z5,z6,.fz P]):=by
  simp [jb5,w,ne]
theorem jxV (C1 C2 S:D) (z2 z4 z5 z6:Sl) (w:∀ P,P = .none ∨ P = alD 0 ∨ P = jew 0 0 0 1 → jbf [C1,C2,P] = some S) (ne:neD S S = some (.bool false)):∃ y7,jsc [.fz C1,.fz C2,z2,.fz S,z4,z5,z6,.un] = some (.nx,[.fz C1,.fz C2,z2,.fz S,z4,z5,z6,y7]):=by
  have l1:=jsM C1 C2 .none S z2 z4 z5 z6 (w _ (.inl rfl)) ne
  have l2:=jsM C1 C2 (alD 0) S z2 z4 z5 z6 (w _ (.inr (.inl rfl))) ne
  have l3:=jsM C1 C2 (jew 0 0 0 1) S z2 z4 z5 z6 (w _ (.inr (.inr rfl))) ne
  refine ⟨.fz (jew 0 0 0 1),?_⟩
  have lp:loop (gN 7) jb5 [.none,alD 0,jew 0 0 0 1] [.fz C1,.fz C2,z2,.fz S,z4,z5,z6,.un] = some (.nx,[.fz C1,.fz C2,z2,.fz S,z4,z5,z6,.fz (jew 0 0 0 1)]):=by
    rw [jbl (by rfl) l1,jbl (by rfl) l2,jbl (by rfl) l3]
    rfl
  unfold alD jew at lp
  unfold jew
  simp [jsc,lp]
theorem jjF:okS "told" = true:=by decide +kernel
theorem jlp:okS "HasLooks" = true:=by decide +kernel
theorem jlo:okS "UnlikeWires" = true:=by decide +kernel
theorem jsG:neD (.str "told") (.str "told") = some (.bool false):=(neS jjF jjF).trans (congrArg (fun z=>some (PyData.bool z)) (show (!(("told":Str) == ("told":Str))) = false by decide +kernel))
theorem jq8:neD (.str "HasLooks") (.str "HasLooks") = some (.bool false):=(neS jlp jlp).trans (congrArg (fun z=>some (PyData.bool z)) (show (!(("HasLooks":Str) == ("HasLooks":Str))) = false by decide +kernel))
theorem jvf:neD (.str "UnlikeWires") (.str "UnlikeWires") = some (.bool false):=(neS jlo jlo).trans (congrArg (fun z=>some (PyData.bool z)) (show (!(("UnlikeWires":Str) == ("UnlikeWires":Str))) = false by decide +kernel))
theorem jnJ (n:Nat) (rs:List Row) (hl:rs.length ≤ 1000) (c:Int):∃ A AB ABC:D,slD (.tuple (rs.map rowD)) none (some (c / 12 % ((rs.length:Int) + 1))) = some A ∧ ja6 A (.tuple [.tuple [.str "look",.int 0]]) = some AB ∧ ja6 AB (.tuple (rs.map rowD)) = some ABC ∧ jaD [.tuple [.int (n:Nat),ABC]] = some (.bool false):=by
  obtain ⟨m1,l1,e1⟩:=jqx rs none (some (c / 12 % ((rs.length:Int) + 1)))
  have a1:ja6 (.tuple (m1.map rowD)) (.tuple [.tuple [.str "look",.int 0]]) = some (.tuple (m1.map rowD ++ [.tuple [.str "look",.int 0]])):=if_pos (by rw [List.length_map,List.length_singleton]; exact Nat.le_trans (by omega:m1.length + 1 ≤ 2000) (by decide))
  have a2:ja6 (.tuple (m1.map rowD ++ [.tuple [.str "look",.int 0]])) (.tuple (rs.map rowD)) = some (.tuple (m1.map rowD ++ [.tuple [.str "look",.int 0]] ++ rs.map rowD)):=if_pos (by rw [List.length_append,List.length_map,List.length_singleton,List.length_map]; exact Nat.le_trans (by omega:m1.length + 1 + rs.length ≤ 3000) (by decide))
  refine ⟨_,_,_,e1,a1,a2,?_⟩
  have h:=jvb (.tuple [.str "look",.int 0]) (m1.map some ++ [none] ++ rs.map some) (by simp; omega) rfl (by simp)
  have e:(m1.map some ++ [none] ++ rs.map some).map (orD (.tuple [.str "look",.int 0])) = m1.map rowD ++ [.tuple [.str "look",.int 0]] ++ rs.map rowD:=by
    rw [List.map_append,List.map_append,List.map_map,List.map_map]
    rfl
  rw [e] at h
  have c1:ixD (.tuple [.int (n:Nat),.tuple (m1.map rowD ++ [.tuple [.str "look",.int 0]] ++ rs.map rowD)]) (.int 1) = some (.tuple (m1.map rowD ++ [.tuple [.str "look",.int 0]] ++ rs.map rowD)):=at1 _ _ _
  generalize m1.map rowD ++ [.tuple [.str "look",.int 0]] ++ rs.map rowD = Z at h c1 ⊢
  simp [jaD,runB,je8,jan,c1,h]
theorem jvq (rs:List Row):jcq [.tuple (rs.map rowD)] = some (.int (rs.length:Nat)):=by
  have:jcq [.tuple (rs.map rowD)] = some (.int ((rs.map rowD).length:Nat)):=rfl
  rw [this,List.length_map]
theorem jlj (C1 C2 S:D) (z2 z4 z5 z6:Sl) (w:∀ P,P = .none ∨ P = alD 0 ∨ P = jew 0 0 0 1 → jbf [C1,C2,P] = some S) (ne:neD S S = some (.bool false)):∃ δ,(jam jsc juv) [.fz C1,.fz C2,z2,.fz S,z4,z5,z6,.un] = some (.rt (.bool true),δ):=by
  obtain ⟨y7,e⟩:=jxV C1 C2 S z2 z4 z5 z6 w ne
  exact ⟨_,(jdk e).trans rfl⟩
theorem jjO (n1 n2:Nat) (as bs:List Row) (hl:as.length ≤ 1000) (hl':bs.length ≤ 1000) (c:Int) (q:0 < c / 2 % 3) (S:D):∃ δ,(jam joJ (jam jsc juv)) [.fz (cpD n1 as),.fz (cpD n2 bs),.fz (.int c),.fz S,.un,.un,.un,.un] = some (.rt (.bool true),δ):=by
  have w:∀ (C1 C2:D) (b1 b2:Bool) (w1 w2:Int),(b1 && b2) = false → jaD [C1] = some (.bool b1) → jaD [C2] = some (.bool b2) → ixD C1 (.int 0) = some (.int w1) → ixD C2 (.int 0) = some (.int w2) → ∀ P,P = .none ∨ P = alD 0 ∨ P = jew 0 0 0 1 → jbf [C1,C2,P] = some (.str "HasLooks"):=fun C1 C2 b1 b2 w1 w2 hb p1 p2 c1 c2 P _=>by
    have x:=xra C1 C2 b1 b2 w1 w2 p1 p2 c1 c2
    rw [if_pos hb] at x
    exact jmC C1 C2 P true x
  rcases (by omega:c / 6 % 2 = 0 ∨ c / 6 % 2 = 1) with a | a
  · obtain ⟨A,AB,ABC,s,a1,a2,pl⟩:=jnJ n1 as hl c
    obtain ⟨y4,y5,y6,e⟩:=jxX (cpD n1 as) (cpD n2 bs) S _ (.int (n1:Nat)) A AB ABC c _ .un q a (at1 _ _ _) (at0 _ _) (jvq as) (by omega) s a1 a2
    obtain ⟨δ,f⟩:=jlj (.tuple [.int (n1:Nat),ABC]) (cpD n2 bs) (.str "HasLooks") (.fz (.int c)) y4 y5 y6 (w _ _ false true n1 n2 rfl pl (jbs n2 bs (by omega)) (at0 _ _) (at0 _ _)) jq8
    exact ⟨δ,(jdk e).trans f⟩
  · obtain ⟨A,AB,ABC,s,a1,a2,pl⟩:=jnJ n2 bs hl' c
    obtain ⟨y4,y5,y6,e⟩:=jxW (cpD n1 as) (cpD n2 bs) S _ (.int (n2:Nat)) A AB ABC c _ .un q a (at1 _ _ _) (at0 _ _) (jvq bs) (by omega) s a1 a2
    obtain ⟨δ,f⟩:=jlj (cpD n1 as) (.tuple [.int (n2:Nat),ABC]) (.str "HasLooks") (.fz (.int c)) y4 y5 y6 (w _ _ true false n1 n2 rfl (jbs n1 as (by omega)) pl (at0 _ _) (at0 _ _)) jq8
    exact ⟨δ,(jdk e).trans f⟩
theorem jl1 {n:Nat} (h1:1 ≤ n) (hn:n ≤ 4) {as bs:List Row} (ha:∀ r ∈ as,r.ok n) (hb:∀ r ∈ bs,r.ok n) (hl:as.length ≤ 100) (hl':bs.length ≤ 100) (c:Int):jbE [cpD n as,cpD n bs,.int c] = some (.bool true):=by
  have pn:2 ≤ 2 ^ n:=(Nat.pow_le_pow_right (by decide) h1:2 ^ 1 ≤ 2 ^ n)
  have pa:=jbs n as (by omega)
  have pb:=jbs n bs (by omega)
  have told:∀ P,P = .none ∨ P = alD 0 ∨ P = jew 0 0 0 1 → jbf [cpD n as,cpD n bs,P] = some (.str "told"):=fun P hP=>by
    have x:=xra (cpD n as) (cpD n bs) true true n n pa pb (at0 _ _) (at0 _ _)
    rw [if_neg (by decide),if_pos rfl] at x
    have rf:=juy (cpD n as) (cpD n bs) n pa pb (at0 _ _) (at0 _ _)
    have u:=jw3 (cpD n as) (cpD n bs) _ (jqO _ _ _ (at1 _ _ _) (jgN as (by omega))) (jqO _ _ _ (at1 _ _ _) (jgN bs (by omega))) (jcR (by omega) as ha hl 0)
    have xa:=jw6 _ _ _ x rf (jg1 hn ha hb (by omega) (by omega)) u
    obtain ⟨A,ga⟩:=jqJ hn ha hb hl hl'
    have gb:isN P = false → ∃ S,jat [cpD n as,cpD n bs,P] = some S:=fun hp=>by
      rcases hP with rfl | rfl | rfl
      · cases hp
      · exact ⟨_,jlf hn ha hb hl hl' 0⟩
      · exact ⟨_,jpc (s0:=0) (s1:=0) (s2:=0) (s3:=1) hn ha hb hl hl' (by omega) (by omega) (by omega) (by omega)⟩
    cases q:isN P with
    | true=>exact jmD _ _ P A .none xa (jt1 _ _ P x) ga fun z=>by rw [q] at z; cases z
    | false=>
      obtain ⟨S,gs⟩:=gb q
      exact jmD _ _ P A S xa (jt1 _ _ P x) ga fun _=>gs
  have s0:jco (jan jc5 [cpD n as,cpD n bs,.int c]) = (jam jtF (jam joJ (jam jsc juv))) [.fz (cpD n as),.fz (cpD n bs),.fz (.int c),.fz (.str "told"),.un,.un,.un,.un]:=by
    rw [jl0]
    exact jdk rfl
  by_cases q2:c % 2 = 0
  · have s2:jco (jan jc5 [cpD n as,cpD n bs,.int c]) = (jam joJ (jam jsc juv)) [.fz (cpD n as),.fz (cpD (n + 1) bs),.fz (.int c),.fz (.str "UnlikeWires"),.un,.un,.un,.un]:=by
      rw [s0]
      have e:=jxY (.fz (cpD n as)) .un .un .un .un (cpD n bs) _ (.str "told") c n q2 (at0 _ _) (at1 _ _ _)
      have ec:(PyData.tuple [.int ((n:Int) + 1),.tuple (bs.map rowD)]) = cpD (n + 1) bs:=rfl
      rw [ec] at e
      exact jdk e
    by_cases q:0 < c / 2 % 3
    · obtain ⟨δ,f⟩:=jjO n (n + 1) as bs (by omega) (by omega) c q (.str "UnlikeWires")
      exact jkf rfl (s2.trans f)
    · have x:=xra (cpD n as) (cpD (n + 1) bs) true true n (n + 1:Nat) pa (jbs (n + 1) bs (by omega)) (at0 _ _) (at0 _ _)
      rw [if_neg (by decide),if_neg (by omega)] at x
      obtain ⟨δ,f⟩:=jlj (cpD n as) (cpD (n + 1) bs) (.str "UnlikeWires") (.fz (.int c)) .un .un .un (fun P _=>jmC _ _ P false x) jvf
      exact jkf rfl (s2.trans ((jdk (juw _ _ _ _ _ _ _ c q)).trans f))
  · have s2:=s0.trans (jdk (jxZ (.fz (cpD n as)) (.fz (cpD n bs)) (.fz (.str "told")) .un .un .un .un c q2))
    by_cases q:0 < c / 2 % 3
    · obtain ⟨δ,f⟩:=jjO n n as bs (by omega) (by omega) c q (.str "told")
      exact jkf rfl (s2.trans f)
    · obtain ⟨δ,f⟩:=jlj (cpD n as) (cpD n bs) (.str "told") (.fz (.int c)) .un .un .un told jsG
      exact jkf rfl (s2.trans ((jdk (juw _ _ _ _ _ _ _ c q)).trans f))
def jx7:Sf:=jaF 2 (o2 (oC (.int 1)) (oV 1) jeC)
def jx6:Sf:=jaF 3 (o2 (oV 0) (oC (.int 4)) jcB)
def jtK:Sf:=sIf (ob (o2 (o2 (oV 0) (oC (.int 4)) jbu) (oC (.int 0)) eqD)) (jbx (VL.os (jac (oC (.str "alike")) (jac (o2 (VL.os (jac (o2 (o2 (oV 3) (oC (.int 10)) jbu) (oC (.int 1)) jcf) (jac (o2 (o2 (o2 (oV 3) (oC (.int 10)) jcB) (o2 (oC (.int 10)) (oC (.int 30)) jl2) jbu) (o2 (oC (.int 10)) (oC (.int 29)) jl2) jcf) (jal))) jdG) (o2 (o2 (oV 3) (oC (.int 7)) jbu) (oC (.int 6)) jcB) ixD) (jal))) jbm)) (sNx)
def jww:Sf:=jjy 4 (oLi (jeh))
def jtJ:Sf:=sIf (ob (o2 (o2 (oV 0) (oC (.int 4)) jbu) (oC (.int 3)) eqD)) (jlZ 4 (o2 (oV 3) (oC (.int 4)) jbu) (o2 (VL.os (jac (o1 (oC (.int 1)) negD) (jac (oV 2) (jac (o2 (o2 (oV 3) (o2 (oC (.int 10)) (oC (.int 40)) jl2) jbu) (oV 2) ja6) (jac (o2 (o1 (oC (.int 1)) negD) (o2 (oV 3) (o2 (oC (.int 10)) (oC (.int 40)) jl2) jbu) jcf) (jal))))) jdG) (o2 (o2 (oV 3) (oC (.int 4)) jcB) (oC (.int 4)) jbu) ixD)) (sNx)
def jwv:Sf:=jbx (VL.os (jac (oC (.str "unlike")) (jac (jfT 4 (oC (.int 0))) (jac (jfT 4 (oC (.int 1))) (jac (jfT 4 (oC (.int 2))) (jac (jfT 4 (oC (.int 3))) (jal)))))) jbm)
theorem jpu:jd1 = jam jx7 (jam jx6 (jam jtK (jam jww (jam jtJ (jwv))))):=rfl
def jtj:Sf:=sIf (ob (o2 (o2 (oV 4) (oC (.int 0)) ixD) (oC (.str "alike")) eqD)) (jbx (jmc (o2 (oC (.int 0)) (o2 (oV 4) (oC (.int 1)) ixD) leD) (jmc (o2 (o2 (oV 4) (oC (.int 1)) ixD) (oC (.int 8)) ltD) (VL.os (jac (oV 0) (jac (oV 1) (jac (oV 2) (jac (oV 3) (jac (o2 (oV 4) (oC (.int 1)) ixD) (jal)))))) jaC)))) (sNx)
def jzc:Sf:=jg7 (oI (oSl (oV 4) (oP (oC (.int 1))) (oNo)) je6) (gN 5) (jb6)
def jzb:Sf:=jbx (VL.os (jac (oV 2) (jac (oV 3) (jac (oSl (oV 4) (oP (oC (.int 1))) (oNo)) (jal)))) jbb)
theorem jn8:jge = jam jtj (jam jzc (jzb)):=rfl
theorem jwd (a b:D) (i:Int) (h:i = 0 ∨ i = 1):∃ x,atI [a,b] i = some x ∧ (x = a ∨ x = b):=by
  rcases h with rfl | rfl
  · exact ⟨a,rfl,.inl rfl⟩
  · exact ⟨b,rfl,.inr rfl⟩
theorem jtw (a b c d:D) (i:Int) (h0:0 ≤ i) (h4:i < 4):∃ x,atI [a,b,c,d] i = some x ∧ (x = a ∨ x = b ∨ x = c ∨ x = d):=by
  rcases (by omega:i = 0 ∨ i = 1 ∨ i = 2 ∨ i = 3) with rfl | rfl | rfl | rfl
  · exact ⟨a,rfl,.inl rfl⟩
  · exact ⟨b,rfl,.inr (.inl rfl)⟩
  · exact ⟨c,rfl,.inr (.inr (.inl rfl))⟩
  · exact ⟨d,rfl,.inr (.inr (.inr rfl))⟩
theorem jAx:jl2 (.int 10) (.int 30) = some (.int 1000000000000000000000000000000):=by
  rw [jiK (by decide) (by decide) (by decide)]
  rfl
theorem jAy:jl2 (.int 10) (.int 29) = some (.int 100000000000000000000000000000):=by
  rw [jiK (by decide) (by decide) (by decide)]
  rfl
theorem jAw:jl2 (.int 10) (.int 40) = some (.int 10000000000000000000000000000000000000000):=by
  rw [jiK (by decide) (by decide) (by decide)]
  rfl
theorem pp1 (z0:Sl) (n N:Int) (h:jeC (.int 1) (.int n) = some (.int N)):jx7 [z0,.fz (.int n),.un,.un,.un] = some (.nx,[z0,.fz (.int n),.fz (.int N),.un,.un]):=by
  simp [jx7,h]
theorem pp2 (c:Int) (z1 z2:Sl):jx6 [.fz (.int c),z1,z2,.un,.un] = some (.nx,[.fz (.int c),z1,z2,.fz (.int (c / 4)),.un]):=by
  simp [jx6]
theorem jya (c r:Int) (z1 z2 z4:Sl) (q:c % 4 = 0):∃ e:Int,jtK [.fz (.int c),z1,z2,.fz (.int r),z4] = some (.rt (alD e),[.fz (.int c),z1,z2,.fz (.int r),z4]):=by
  obtain ⟨x,h,hx⟩:=jwd (.int (r % 10 - 1)) (.int (r / 10 % 1000000000000000000000000000000 - 100000000000000000000000000000)) (r % 7 / 6) (by omega)
  have m:jbu (.int (r / 10)) (.int 1000000000000000000000000000000) = some (.int (r / 10 % 1000000000000000000000000000000)):=jfH (by decide)
  obtain ⟨e,rfl⟩:∃ e:Int,x = .int e:=by rcases hx with rfl | rfl <;> exact ⟨_,rfl⟩
  exact ⟨e,by simp [jtK,q,jAx,jAy,m,h,alD]⟩
theorem jyb (c r:Int) (z1 z2 z4:Sl) (q:¬ c % 4 = 0):jtK [.fz (.int c),z1,z2,.fz (.int r),z4] = some (.nx,[.fz (.int c),z1,z2,.fz (.int r),z4]):=by
  simp [jtK,q]
theorem jpm (r N d:Int) (k:Nat) (hN:0 < N) (hd:0 < d) (hd2:d < 1073741824) (a:atI [PyData.int 1,.int 11,.int 103,.int 1009] (k:Nat) = some (.int d)):(o2 (o2 (oV 2) (o2 (VL.os (jac (oC (.int 1)) (jac (oC (.int 11)) (jac (oC (.int 103)) (jac (oC (.int 1009)) (jal))))) jdG) (oV 0) ixD) jcB) (oV 1) jbu) [.fz (.int (k:Nat)),.fz (.int N),.fz (.int r)] = some (.int (r / d % N)):=by
  have dv:jcB (.int r) (.int d) = some (.int (r / d)):=jqu hd hd2
  have m:jbu (.int (r / d)) (.int N) = some (.int (r / d % N)):=jfH hN
  simp [a,dv,m]
def dvN:Nat → Int
  | 0=>1
  | 1=>11
  | 2=>103
  | _=>1009
theorem pp4 (c r N:Int) (z1:Sl) (hN:0 < N):∃ s0 s1 s2 s3:Int,jww [.fz (.int c),z1,.fz (.int N),.fz (.int r),.un] = some (.nx,[.fz (.int c),z1,.fz (.int N),.fz (.int r),.ow [.int s0,.int s1,.int s2,.int s3]]):=by
  have p:jeh [.fz (.int c),z1,.fz (.int N),.fz (.int r),.un] = some (.list ((List.range 4).map fun k:Nat=>PyData.int (r / dvN k % N))):=jkF (N:=4) (y:=fun k:Nat=>PyData.int (r / dvN k % N)) rfl (by decide) fun k hk=>by
    rcases (by omega:k = 0 ∨ k = 1 ∨ k = 2 ∨ k = 3) with rfl | rfl | rfl | rfl
    · exact jpm r N 1 0 hN (by decide) (by decide) rfl
    · exact jpm r N 11 1 hN (by decide) (by decide) rfl
    · exact jpm r N 103 2 hN (by decide) (by decide) rfl
    · exact jpm r N 1009 3 hN (by decide) (by decide) rfl
  have e:(List.range 4).map (fun k:Nat=>PyData.int (r / dvN k % N)) = [.int (r / 1 % N),.int (r / 11 % N),.int (r / 103 % N),.int (r / 1009 % N)]:=rfl
  rw [e] at p
  exact ⟨r / 1 % N,r / 11 % N,r / 103 % N,r / 1009 % N,by simp only [jww,jjy,oLi,p,Option.bind_some,jtN,List.set_cons_succ,List.set_cons_zero]⟩
theorem jx8 (c r N s0 s1 s2 s3:Int) (z1:Sl) (q:c % 4 = 3):∃ t0 t1 t2 t3:Int,jtJ [.fz (.int c),z1,.fz (.int N),.fz (.int r),.ow [.int s0,.int s1,.int s2,.int s3]] = some (.nx,[.fz (.int c),z1,.fz (.int N),.fz (.int r),.ow [.int t0,.int t1,.int t2,.int t3]]):=by
  have m:jbu (.int r) (.int 10000000000000000000000000000000000000000) = some (.int (r % 10000000000000000000000000000000000000000)):=jfH (by decide)
  generalize r % 10000000000000000000000000000000000000000 = R at m
  obtain ⟨x,h,hx⟩:=jtw (.int (-1)) (.int N) (.int (R + N)) (.int (-1 - R)) (r / 4 % 4) (by omega) (by omega)
  obtain ⟨v,rfl⟩:∃ v:Int,x = .int v:=by rcases hx with rfl | rfl | rfl | rfl <;> exact ⟨_,rfl⟩
  have pt:∃ t0 t1 t2 t3:Int,(ixN 4 (r % 4)).map (fun n=>([PyData.int s0,.int s1,.int s2,.int s3]:List D).set n (.int v)) = some [.int t0,.int t1,.int t2,.int t3]:=by
    rcases (by omega:r % 4 = 0 ∨ r % 4 = 1 ∨ r % 4 = 2 ∨ r % 4 = 3) with z | z | z | z <;> rw [z]
    · exact ⟨v,s1,s2,s3,rfl⟩
    · exact ⟨s0,v,s2,s3,rfl⟩
    · exact ⟨s0,s1,v,s3,rfl⟩
    · exact ⟨s0,s1,s2,v,rfl⟩
  obtain ⟨t0,t1,t2,t3,pt⟩:=pt
  exact ⟨t0,t1,t2,t3,by simp [jtJ,q,jAw,m,h,pt]⟩
theorem jx9 (c:Int) (z1 z2 z3 z4:Sl) (q:¬ c % 4 = 3):jtJ [.fz (.int c),z1,z2,z3,z4] = some (.nx,[.fz (.int c),z1,z2,z3,z4]):=by
  simp [jtJ,q]
theorem pp6 (z0 z1 z2 z3:Sl) (s0 s1 s2 s3:Int):jwv [z0,z1,z2,z3,.ow [.int s0,.int s1,.int s2,.int s3]] = some (.rt (jew s0 s1 s2 s3),[z0,z1,z2,z3,.ow [.int s0,.int s1,.int s2,.int s3]]):=by
  have e0:atI [PyData.int s0,.int s1,.int s2,.int s3] 0 = some (.int s0):=rfl
  have e1:atI [PyData.int s0,.int s1,.int s2,.int s3] 1 = some (.int s1):=rfl
  have e2:atI [PyData.int s0,.int s1,.int s2,.int s3] 2 = some (.int s2):=rfl
  have e3:atI [PyData.int s0,.int s1,.int s2,.int s3] 3 = some (.int s3):=rfl
  simp [jwv,e0,e1,e2,e3,jew]
theorem jpv {n:Nat} (hn:n ≤ 4) (c:Int):(∃ e:Int,jbM [.int c,.int (n:Nat)] = some (alD e)) ∨ ∃ s0 s1 s2 s3:Int,jbM [.int c,.int (n:Nat)] = some (jew s0 s1 s2 s3):=by
  have pn:(0:Int) < ((2 ^ n:Nat):Int):=by have:=Nat.pow_pos (n:=n) (show 0 < 2 by decide); omega
  have go:jd1 (jan jd3 [.int c,.int (n:Nat)]) = (jam jtK (jam jww (jam jtJ jwv))) [.fz (.int c),.fz (.int (n:Nat)),.fz (.int ((2 ^ n:Nat):Int)),.fz (.int (c / 4)),.un]:=by
    rw [jpu]
    exact (jdk (pp1 _ _ _ (jpf n (by omega)))).trans (jdk (pp2 _ _ _))
  by_cases q:c % 4 = 0
  · obtain ⟨e,h⟩:=jya c (c / 4) (.fz (.int (n:Nat))) (.fz (.int ((2 ^ n:Nat):Int))) .un q
    exact .inl ⟨e,jkf rfl (go.trans (jtL h))⟩
  · obtain ⟨s0,s1,s2,s3,h4⟩:=pp4 c (c / 4) ((2 ^ n:Nat):Int) (.fz (.int (n:Nat))) pn
    have go:=go.trans ((jdk (jyb _ _ _ _ _ q)).trans (jdk h4))
    by_cases q3:c % 4 = 3
    · obtain ⟨t0,t1,t2,t3,h5⟩:=jx8 c (c / 4) ((2 ^ n:Nat):Int) s0 s1 s2 s3 (.fz (.int (n:Nat))) q3
      exact .inr ⟨t0,t1,t2,t3,jkf rfl (go.trans ((jdk h5).trans (pp6 _ _ _ _ _ _ _ _)))⟩
    · exact .inr ⟨s0,s1,s2,s3,jkf rfl (go.trans ((jdk (jx9 _ _ _ _ _ q3)).trans (pp6 _ _ _ _ _ _ _ _)))⟩
theorem jze (C1 C2 F G:D) (e:Int) (b:Bool) (z5:Sl) (h:0 ≤ e → e < 8 → jaC [C1,C2,F,G,.int e] = some (.bool b)):jtj [.fz C1,.fz C2,.fz F,.fz G,.fz (alD e),z5] = some (.rt (.bool (decide (0 ≤ e) && (decide (e < 8) && b))),[.fz C1,.fz C2,.fz F,.fz G,.fz (alD e),z5]):=by
  have i0:ixD (alD e) (.int 0) = some (.str "alike"):=rfl
  have i1:ixD (alD e) (.int 1) = some (.int e):=rfl
  by_cases h0:0 ≤ e
  · by_cases h8:e < 8
    · have h:=h h0 h8
      simp [jtj,i0,i1,jw2,h0,h8,h]
    · simp [jtj,i0,i1,jw2,h0,h8]
  · simp [jtj,i0,i1,jw2,h0]
theorem jzf (C1 C2 F G:D) (s0 s1 s2 s3:Int) (z5:Sl):jtj [.fz C1,.fz C2,.fz F,.fz G,.fz (jew s0 s1 s2 s3),z5] = some (.nx,[.fz C1,.fz C2,.fz F,.fz G,.fz (jew s0 s1 s2 s3),z5]):=by
  have i0:ixD (jew s0 s1 s2 s3) (.int 0) = some (.str "unlike"):=rfl
  simp [jtj,i0,jzy]
theorem jyK (z0 z1 z3 z4:Sl) (F:D) (N s:Int) (ln:jcq [F] = some (.int N)):jb6 [z0,z1,.fz F,z3,z4,.fz (.int s)] = some (if inP N s = true then .nx else .rt (.bool false),[z0,z1,.fz F,z3,z4,.fz (.int s)]):=by
  unfold inP
  by_cases h0:0 ≤ s
  · by_cases h1:s < N
    · have n0:¬ s < 0:=by omega
      have n1:¬ N ≤ s:=by omega
      simp [jb6,ln,h0,h1,n0,n1]
    · have n0:¬ s < 0:=by omega
      have n1:N ≤ s:=by omega
      simp [jb6,ln,h0,h1,n0,n1]
  · have n0:s < 0:=by omega
    simp [jb6,ln,h0,n0]
theorem jlv (z0 z1 z3 z4:Sl) (F:D) (N:Int) (ln:jcq [F] = some (.int N)):∀ (ss:List Int) (z5:Sl),∃ y,loop (gN 5) jb6 (ss.map .int) [z0,z1,.fz F,z3,z4,z5] = some (if (ss.all fun s=>inP N s) = true then .nx else .rt (.bool false),[z0,z1,.fz F,z3,z4,y])
  | [],z5=>⟨z5,rfl⟩
  | s :: ss,z5=>by
    have e:=jyK z0 z1 z3 z4 F N s ln
    rw [List.map_cons,List.all_cons]
    cases q:inP N s with
    | true=>
      rw [if_pos q] at e
      obtain ⟨y,h⟩:=jlv z0 z1 z3 z4 F N ln ss (.fz (.int s))
      exact ⟨y,by rw [jbl (by rfl) e,h,Bool.true_and]⟩
    | false=>
      rw [if_neg (by rw [q]; decide)] at e
      exact ⟨_,by rw [jgQ (by rfl) e,Bool.false_and]; rfl⟩
theorem jv3 (z0 z1 z2 z3:Sl) (s0 s1 s2 s3:Int) (r:Fl) (δ:Dv) (lp:loop (gN 5) jb6 ([s0,s1,s2,s3].map .int) [z0,z1,z2,z3,.fz (jew s0 s1 s2 s3),.un] = some (r,δ)):jzc [z0,z1,z2,z3,.fz (jew s0 s1 s2 s3),.un] = some (r,δ):=by
  have sl:slD (jew s0 s1 s2 s3) (some 1) none = some (.tuple [.int s0,.int s1,.int s2,.int s3]):=rfl
  simp only [List.map_cons,List.map_nil] at lp
  simp [jzc,sl,lp]
theorem jzd (z0 z1 z5:Sl) (F G U:D) (s0 s1 s2 s3:Int) (h:jbb [F,G,.tuple [.int s0,.int s1,.int s2,.int s3]] = some U):jzb [z0,z1,.fz F,.fz G,.fz (jew s0 s1 s2 s3),z5] = some (.rt U,[z0,z1,.fz F,.fz G,.fz (jew s0 s1 s2 s3),z5]):=by
  have sl:slD (jew s0 s1 s2 s3) (some 1) none = some (.tuple [.int s0,.int s1,.int s2,.int s3]):=rfl
  simp [jzb,sl,h]
theorem jwh {n:Nat} {as bs:List Row} (ha:∀ r ∈ as,r.ok n) {a e:Nat} (h1:a < 8) (h2:e < 8) (x:Al n as bs a) (y:Al n as bs e):a = e:=by
  have pn:0 < 2 ^ n:=Nat.pow_pos (by decide)
  obtain ⟨p,hp,ne⟩:=jog (n:=n) ha pn
  have u0:jmB n as bs 0 p ≠ ⟨0,0,0,0⟩:=fun z=>ne (jof as 0 p (MA.Q4.rtn_inj (z.trans (jcX _).symm)))
  exact jo1 h1 h2 u0 ((x 0 pn p hp).trans (y 0 pn p hp).symm)
theorem jtz {n:Nat} {as bs:List Row} (ha:∀ r ∈ as,r.ok n) (e:Int):jyf (jmA (AlB n as bs) 0 8) e = (decide (0 ≤ e) && (decide (e < 8) && AlB n as bs e.toNat)):=by
  apply Bool.eq_iff_iff.mpr
  rw [Bool.and_eq_true,Bool.and_eq_true,decide_eq_true_iff,decide_eq_true_iff,alB_iff]
  cases o:jmA (AlB n as bs) 0 8 with
  | some a=>
    obtain ⟨ok,_,h8⟩:=jjS o
    have ok:=alB_iff.mp ok
    show (((a:Nat):Int) == e) = true ↔ _
    rw [beq_iff_eq]
    constructor
    · rintro rfl
      exact ⟨by omega,by omega,by rw [Int.toNat_natCast]; exact ok⟩
    · rintro ⟨h0,h1,al⟩
      have:=jwh ha (by omega) (by omega) ok al
      omega
  | none=>
    show (false = true) ↔ _
    constructor
    · intro z; cases z
    · rintro ⟨h0,h1,al⟩
      have:=jjT o e.toNat (Nat.zero_le _) (by omega)
      rw [alB_iff.mpr al] at this
      cases this
theorem jza {n:Nat} (hn:n ≤ 6) {as bs:List Row} (hl:as.length ≤ 100) (hl':bs.length ≤ 100) (e:Int):jcy [cpD n as,cpD n bs,.list (jby n fun b=>ja7 n (un b) as),.list (jby n fun b=>ja7 n (un b) bs),alD e] = some (.bool (decide (0 ≤ e) && (decide (e < 8) && AlB n as bs e.toNat))):=by
  have h:=jze (cpD n as) (cpD n bs) (.list (jby n fun b=>ja7 n (un b) as)) (.list (jby n fun b=>ja7 n (un b) bs)) e (AlB n as bs e.toNat) .un fun h0 _=>by
    have t:=jvn hn as bs hl hl' e.toNat
    rw [Int.toNat_of_nonneg h0] at t
    exact t
  exact jkf rfl ((congrFun jn8 _).trans (jtL h))
theorem jv2 {n:Nat} {as bs:List Row} (s0 s1 s2 s3:Int) (b:Bool) (h:([s0,s1,s2,s3].all fun s=>inP ((2 ^ n:Nat):Int) s) = true → jbb [.list (jby n fun b=>ja7 n (un b) as),.list (jby n fun b=>ja7 n (un b) bs),.tuple [.int s0,.int s1,.int s2,.int s3]] = some (.bool b)):jcy [cpD n as,cpD n bs,.list (jby n fun b=>ja7 n (un b) as),.list (jby n fun b=>ja7 n (un b) bs),jew s0 s1 s2 s3] = some (.bool (([s0,s1,s2,s3].all fun s=>inP ((2 ^ n:Nat):Int) s) && b)):=by
  obtain ⟨y,lp⟩:=jlv (.fz (cpD n as)) (.fz (cpD n bs)) (.fz (.list (jby n fun b=>ja7 n (un b) bs))) (.fz (jew s0 s1 s2 s3)) (.list (jby n fun b=>ja7 n (un b) as)) _ (jiU n _) [s0,s1,s2,s3] .un
  have d1:=jzf (cpD n as) (cpD n bs) (.list (jby n fun b=>ja7 n (un b) as)) (.list (jby n fun b=>ja7 n (un b) bs)) s0 s1 s2 s3 .un
  cases q:[s0,s1,s2,s3].all fun s=>inP ((2 ^ n:Nat):Int) s with
  | true=>
    rw [if_pos q] at lp
    exact jkf rfl ((congrFun jn8 _).trans ((jdk d1).trans ((jdk (jv3 _ _ _ _ _ _ _ _ _ _ lp)).trans (jzd _ _ _ _ _ _ _ _ _ _ (h q)))))
  | false=>
    rw [if_neg (by rw [q]; decide)] at lp
    exact jkf rfl ((congrFun jn8 _).trans ((jdk d1).trans (jtL (jv3 _ _ _ _ _ _ _ _ _ _ lp))))
theorem jqK {n:Nat} (hn:n ≤ 4) {as bs:List Row} (ha:∀ r ∈ as,r.ok n) (hb:∀ r ∈ bs,r.ok n) (hl:as.length ≤ 100) (hl':bs.length ≤ 100) (c:Int):∃ (P:D) (b:Bool),jbM [.int c,.int (n:Nat)] = some P ∧ jat [cpD n as,cpD n bs,P] = some (.bool b) ∧ jcy [cpD n as,cpD n bs,.list (jby n fun b=>ja7 n (un b) as),.list (jby n fun b=>ja7 n (un b) bs),P] = some (.bool b):=by
  rcases jpv hn c with ⟨e,p⟩ | ⟨s0,s1,s2,s3,p⟩
  · refine ⟨_,_,p,jlf hn ha hb hl hl' e,?_⟩
    rw [jtz ha e]
    exact jza (by omega) hl hl' e
  · have ci:∀ s,inP ((2 ^ n:Nat):Int) s = true → ∃ k:Nat,s = k ∧ k < 2 ^ n:=fun s h=>by
      unfold inP at h
      rw [Bool.and_eq_true,decide_eq_true_iff,decide_eq_true_iff] at h
      exact ⟨s.toNat,by omega,by omega⟩
    have al:([s0,s1,s2,s3].all fun s=>inP ((2 ^ n:Nat):Int) s) = true → ∃ k0 k1 k2 k3:Nat,s0 = k0 ∧ s1 = k1 ∧ s2 = k2 ∧ s3 = k3 ∧ k0 < 2 ^ n ∧ k1 < 2 ^ n ∧ k2 < 2 ^ n ∧ k3 < 2 ^ n:=fun h=>by
      simp only [List.all_cons,List.all_nil,Bool.and_true,Bool.and_eq_true] at h
      obtain ⟨k0,e0,l0⟩:=ci s0 h.1
      obtain ⟨k1,e1,l1⟩:=ci s1 h.2.1
      obtain ⟨k2,e2,l2⟩:=ci s2 h.2.2.1
      obtain ⟨k3,e3,l3⟩:=ci s3 h.2.2.2
      exact ⟨k0,k1,k2,k3,e0,e1,e2,e3,l0,l1,l2,l3⟩
    have rf:=juy (cpD n as) (cpD n bs) n (jbs n as (by omega)) (jbs n bs (by omega)) (at0 _ _) (at0 _ _)
    by_cases q:([s0,s1,s2,s3].all fun s=>inP ((2 ^ n:Nat):Int) s) = true
    · obtain ⟨k0,k1,k2,k3,rfl,rfl,rfl,rfl,l0,l1,l2,l3⟩:=al q
      exact ⟨_,_,p,jx5 _ _ _ _ _ _ n _ _ rf (at0 _ _) (jpf n (by omega)) fun _=>jic hn ha hb hl hl' l0 l1 l2 l3,jv2 _ _ _ _ _ fun _=>jvm ha hb hl hl' l0 l1 l2 l3⟩
    · exact ⟨_,_,p,jx5 _ _ _ _ _ _ n _ false rf (at0 _ _) (jpf n (by omega)) fun z=>absurd z q,jv2 _ _ _ _ false fun z=>absurd z q⟩
theorem jnG (c:Int) (w j k:Int) (hw:w = 1) (hk:2 < k) (h6:c % 6 = k) (hj:jbu (.int (c / 6)) (.int w) = some (.int j)) (r:D) (h:∀ b:Int,b = k % 2 → (b = 0 → r = .tuple [.str "swing",.int j]) ∧ (b = 1 → r = .tuple [.str "turn",.int j,.int (1 + c / 18 % 7)])):jaz [.int c,.int w] = some r:=by
  obtain ⟨a,b⟩:=h (k % 2) rfl
  rcases (by omega:k % 2 = 0 ∨ k % 2 = 1) with q | q
  · have r':=a q
    subst r' hw
    have e:atI [PyData.str "swing",.str "",.str "flip"] 0 = some (.str "swing"):=rfl
    simp [-jam,-sIf,jbY,jdt,jaz,runB,jcA,jan,h6,hj,hk,q,e]
  · have r':=b q
    subst r' hw
    simp [-jam,-sIf,jbY,jdt,jaz,runB,jcA,jan,h6,hj,hk,q]
theorem jsN (c w j:Int) (h6:c % 6 = 1) (hj:jbu (.int (c / 6)) (.int w) = some (.int j)):jaz [.int c,.int w] = some (.tuple [.str "turn",.int j,.int (1 + c / 18 % 7)]):=by
  have t:(jnp (ob (o2 (oV 1) (oC (.int 1)) eqD)) (ob (o2 (oV 2) (oC (.int 2)) gtD))) [.fz (.int c),.fz (.int w),.fz (.int 1),.fz (.int j),.un] = some false:=by
    by_cases q:w = 1 <;> simp [q]
  simp [-jam,-sIf,jbY,jdt,jaz,runB,jcA,jan,h6,hj,t]
theorem jra (c w j k:Int) (s:Str) (h6:c % 6 = k) (hk:k = 0 ∨ k = 2) (hj:jbu (.int (c / 6)) (.int w) = some (.int j)) (hs:atI [PyData.str "swing",.str "",.str "flip"] k = some (.str s)):jaz [.int c,.int w] = some (.tuple [.str s,.int j]):=by
  have t:(jnp (ob (o2 (oV 1) (oC (.int 1)) eqD)) (ob (o2 (oV 2) (oC (.int 2)) gtD))) [.fz (.int c),.fz (.int w),.fz (.int k),.fz (.int j),.un] = some false:=by
    have:¬ 2 < k:=by omega
    by_cases q:w = 1 <;> simp [q,this]
  have n1:¬ k = 1:=by omega
  rcases hk with rfl | rfl
  · simp [-jam,-sIf,jbY,jdt,jaz,runB,jcA,jan,h6,hj,t,hs]
  · simp [-jam,-sIf,jbY,jdt,jaz,runB,jcA,jan,h6,hj,t,hs]
theorem jvp (c w j k m i:Int) (s:Str) (h6:c % 6 = k) (hw:¬ w = 1) (hk:2 < k) (hj:jbu (.int (c / 6)) (.int w) = some (.int j)) (hm:jbu (.int (c / 18)) (.int (w - 1)) = some (.int m)) (hi:jbu (.int (j + 1 + m)) (.int w) = some (.int i)) (hs:atI [PyData.str "tie",.str "sign",.str "cross"] (k - 3) = some (.str s)):jaz [.int c,.int w] = some (.tuple [.str s,.int i,.int j]):=by
  have n1:¬ k = 1:=by omega
  have n0:¬ k = 0:=by omega
  have n2:¬ k = 2:=by omega
  simp [-jam,-sIf,jbY,jdt,jaz,runB,jcA,jan,h6,hj,hw,n1,n0,n2,hm,hi,hs]
theorem jej (a:Int) (w:Nat) (h:1 ≤ w):∃ m:Nat,m < w ∧ jbu (.int a) (.int (w:Nat)) = some (.int (m:Nat)) ∧ a % (w:Int) = m:=by
  have h0:(0:Int) < w:=by omega
  have b1:=Int.emod_nonneg a (show (w:Int) ≠ 0 by omega)
  have b2:=Int.emod_lt_of_pos a h0
  refine ⟨(a % (w:Int)).toNat,by omega,?_,by omega⟩
  rw [jfH h0]
  congr 2
  omega
theorem jnE (c:Int) (w:Nat) (hw:1 ≤ w):∃ r:Row,jaz [.int c,.int (w:Nat)] = some (rowD r) ∧ r.ok w:=by
  obtain ⟨j,hj,ej,_⟩:=jej (c / 6) w hw
  obtain ⟨e,he,e7⟩:∃ e:Nat,1 + c / 18 % 7 = (e:Int) ∧ 1 ≤ e ∧ e ≤ 7:=⟨(1 + c / 18 % 7).toNat,by omega,by omega,by omega⟩
  have tk:Row.ok w (.turn j e):=⟨hj,e7.1,e7.2⟩
  have k6:0 ≤ c % 6 ∧ c % 6 < 6:=by omega
  by_cases h1:c % 6 = 1
  · exact ⟨.turn j e,by rw [jsN c w j h1 ej,he]; rfl,tk⟩
  by_cases h0:c % 6 = 0
  · exact ⟨.swing j,jra c w j 0 "swing" h0 (.inl rfl) ej rfl,hj⟩
  by_cases h2:c % 6 = 2
  · exact ⟨.flip j,jra c w j 2 "flip" h2 (.inr rfl) ej rfl,hj⟩
  by_cases hw1:w = 1
  · rcases (by omega:c % 6 % 2 = 0 ∨ c % 6 % 2 = 1) with q | q
    · exact ⟨.swing j,jnG c w j (c % 6) (by omega) (by omega) rfl ej _ fun b hb=>⟨fun _=>rfl,fun z=>by omega⟩,hj⟩
    · exact ⟨.turn j e,jnG c w j (c % 6) (by omega) (by omega) rfl ej _ fun b hb=>⟨fun z=>by omega,fun _=>by rw [he]; rfl⟩,tk⟩
  · obtain ⟨m,hm,em,_⟩:=jej (c / 18) (w - 1) (by omega)
    have ew:((w - 1:Nat):Int) = (w:Int) - 1:=by omega
    rw [ew] at em
    obtain ⟨i,hi,ei,ei2⟩:=jej ((j:Int) + 1 + (m:Int)) w hw
    have ne:i ≠ j:=fun z=>by
      subst z
      have:((i:Int) + 1 + m) % w = i:=ei2
      by_cases q:(i:Int) + 1 + m < w
      · rw [Int.emod_eq_of_lt (by omega) q] at this; omega
      · have:((i:Int) + 1 + m - w) % w = i:=by rw [Int.sub_emod_right]; exact ei2
        rw [Int.emod_eq_of_lt (by omega) (by omega)] at this
        omega
    have r2:∀ s:Str,atI [PyData.str "tie",.str "sign",.str "cross"] (c % 6 - 3) = some (.str s) → jaz [.int c,.int (w:Nat)] = some (.tuple [.str s,.int (i:Nat),.int (j:Nat)]):=fun s hs=>jvp c w j (c % 6) m i s rfl (by omega) (by omega) ej em ei hs
    rcases (by omega:c % 6 = 3 ∨ c % 6 = 4 ∨ c % 6 = 5) with q | q | q
    · exact ⟨.tie i j,r2 "tie" (by rw [q]; rfl),hi,hj,ne⟩
    · exact ⟨.sign i j,r2 "sign" (by rw [q]; rfl),hi,hj,ne⟩
    · exact ⟨.cross i j,r2 "cross" (by rw [q]; rfl),hi,hj,ne⟩
def jyF:Sf:=jaF 2 (o2 (oV 0) (oV 1) jbu)
def jyE:Sf:=jaF 3 (o2 (oC (.int 1)) (o2 (o2 (oV 0) (oC (.int 3)) jcB) (oC (.int 7)) jbu) ja6)
def jyD:Sf:=jaF 4 (VL.os (jac (o2 (oV 0) (oC (.int 21)) jcB) (jac (oV 1) (jal))) jaz)
def jyC:Sf:=jaF 5 (oV 4)
def jtP:Sf:=sIf (ob (o2 (o2 (oV 4) (oC (.int 0)) ixD) (oC (.str "turn")) eqD)) (jaF 5 (VL.os (jac (oC (.str "turn")) (jac (o2 (oV 4) (oC (.int 1)) ixD) (jac (o2 (oC (.int 8)) (o2 (oV 4) (oC (.int 2)) ixD) jcf) (jal)))) jbm)) (sNx)
def jyB:Sf:=jaF 6 (VL.os (jac (oC (.str "swing")) (jac (oV 2) (jal))) jbm)
def jyA:Sf:=joH 7 (jac (VL.os (jac (oV 4) (jac (oV 5) (jal))) jdG) (jac (VL.os (jac (oV 6) (jac (VL.os (jac (oC (.str "turn")) (jac (oV 2) (jac (oC (.int 4)) (jal)))) jbm) (jac (oV 6) (jac (VL.os (jac (oC (.str "flip")) (jac (oV 2) (jal))) jbm) (jal))))) jdG) (jac (VL.os (jac (VL.os (jac (oC (.str "turn")) (jac (oV 2) (jac (oV 3) (jal)))) jbm) (jac (VL.os (jac (oC (.str "turn")) (jac (oV 2) (jac (o2 (oC (.int 8)) (oV 3) jcf) (jal)))) jbm) (jal))) jdG) (jal))))
def jtO:Sf:=sIf (ob (o2 (oV 1) (oC (.int 1)) gtD)) (jam (jaF 8 (o2 (o2 (o2 (oV 2) (oC (.int 1)) ja6) (o2 (o2 (oV 0) (oC (.int 7)) jcB) (o2 (oV 1) (oC (.int 1)) jcf) jbu) ja6) (oV 1) jbu)) (jam (joI 7 (VL.os (jac (VL.os (jac (oC (.str "tie")) (jac (oV 8) (jac (oV 2) (jal)))) jbm) (jac (VL.os (jac (oC (.str "tie")) (jac (oV 2) (jac (oV 8) (jal)))) jbm) (jac (VL.os (jac (oC (.str "tie")) (jac (oV 8) (jac (oV 2) (jal)))) jbm) (jac (VL.os (jac (oC (.str "cross")) (jac (oV 2) (jac (oV 8) (jal)))) jbm) (jal))))) jdG)) (joI 7 (VL.os (jac (VL.os (jac (oC (.str "sign")) (jac (oV 8) (jac (oV 2) (jal)))) jbm) (jac (oV 6) (jac (VL.os (jac (oC (.str "tie")) (jac (oV 8) (jac (oV 2) (jal)))) jbm) (jac (oV 6) (jal))))) jdG)))) (sNx)
def jyz:Sf:=jbx (jfT 7 (o2 (o2 (oV 0) (oC (.int 11)) jcB) (jsy 7) jbu))
theorem jyy:jc1 = jam jyF (jam jyE (jam jyD (jam jyC (jam jtP (jam jyB (jam jyA (jam jtO (jyz)))))))):=rfl
def rsD (rs:List Row):D:=.list (rs.map rowD)
theorem jc8 {s t:Sf} {δ δ':Dv} (h:s δ = some (.nx,δ')):jam s t δ = t δ':=by simp [h]
theorem jq0 {s t:Sf} {δ δ':Dv} {d:D} (h:s δ = some (.rt d,δ')):jam s t δ = some (.rt d,δ'):=by simp [h]
theorem jq2 {N:List Str} {n:Nat} {b:Sf} {as:List D} {d:D} (hl:as.length = n) (h:∃ δ,b (jan N as) = some (.rt d,δ)):runB N n b as = some d:=by
  obtain ⟨δ,h⟩:=h
  unfold runB
  rw [if_pos hl,h]; rfl
theorem n1 (c w j:Int) (h:jbu (.int c) (.int w) = some (.int j)):jyF [.fz (.int c),.fz (.int w),.un,.un,.un,.un,.un,.un,.un] = some (.nx,[.fz (.int c),.fz (.int w),.fz (.int j),.un,.un,.un,.un,.un,.un]):=by
  simp [jyF,h]
theorem n2 (c w j e:Int) (h:1 + c / 3 % 7 = e):jyE [.fz (.int c),.fz (.int w),.fz (.int j),.un,.un,.un,.un,.un,.un] = some (.nx,[.fz (.int c),.fz (.int w),.fz (.int j),.fz (.int e),.un,.un,.un,.un,.un]):=by
  subst h
  simp [jyE]
theorem n3 (c w:Int) (z2 z3:Sl) (R:D) (h:jaz [.int (c / 21),.int w] = some R):jyD [.fz (.int c),.fz (.int w),z2,z3,.un,.un,.un,.un,.un] = some (.nx,[.fz (.int c),.fz (.int w),z2,z3,.fz R,.un,.un,.un,.un]):=by
  simp [jyD,h]
theorem n4 (z0 z1 z2 z3:Sl) (R:D):jyC [z0,z1,z2,z3,.fz R,.un,.un,.un,.un] = some (.nx,[z0,z1,z2,z3,.fz R,.fz R,.un,.un,.un]):=by
  simp [jyC]
theorem jAH (z0 z1 z2 z3:Sl) (R:D) (j e:Int) (r0:ixD R (.int 0) = some (.str "turn")) (r1:ixD R (.int 1) = some (.int j)) (r2:ixD R (.int 2) = some (.int e)):jtP [z0,z1,z2,z3,.fz R,.fz R,.un,.un,.un] = some (.nx,[z0,z1,z2,z3,.fz R,.fz (.tuple [.str "turn",.int j,.int (8 - e)]),.un,.un,.un]):=by
  simp [jtP,r0,r1,r2]
theorem jvi (z0 z1 z2 z3:Sl) (R:D) (s:Str) (r0:ixD R (.int 0) = some (.str s)) (q:eqD (.str s) (.str "turn") = some (.bool false)):jtP [z0,z1,z2,z3,.fz R,.fz R,.un,.un,.un] = some (.nx,[z0,z1,z2,z3,.fz R,.fz R,.un,.un,.un]):=by
  simp [jtP,r0,q]
theorem n5 {n:Nat} (z0 z1 z2 z3:Sl) (r:Row) (hr:r.ok n):jtP [z0,z1,z2,z3,.fz (rowD r),.fz (rowD r),.un,.un,.un] = some (.nx,[z0,z1,z2,z3,.fz (rowD r),.fz (rowD (jfq r)),.un,.un,.un]):=by
  cases r with
  | turn j e=>
    have h:=jAH z0 z1 z2 z3 (rowD (.turn j e)) j e (at0 _ _) (at1 _ _ _) (at2 _ _ _ _)
    have:(8:Int) - e = ((8 - e:Nat):Int):=by have:=hr.2.2; omega
    rw [this] at h
    exact h
  | swing j=>exact jvi z0 z1 z2 z3 _ "swing" (at0 _ _) (by simp)
  | flip j=>exact jvi z0 z1 z2 z3 _ "flip" (at0 _ _) (by simp)
  | tie i j=>exact jvi z0 z1 z2 z3 _ "tie" (at0 _ _) (by simp)
  | sign i j=>exact jvi z0 z1 z2 z3 _ "sign" (at0 _ _) (by simp)
  | cross i j=>exact jvi z0 z1 z2 z3 _ "cross" (at0 _ _) (by simp)
theorem n6 (z0 z1 z3 z4 z5:Sl) (j:Int):jyB [z0,z1,.fz (.int j),z3,z4,z5,.un,.un,.un] = some (.nx,[z0,z1,.fz (.int j),z3,z4,z5,.fz (.tuple [.str "swing",.int j]),.un,.un]):=by
  simp [jyB]
theorem n7 (z0 z1:Sl) (j e:Int) (R B S:D):jyA [z0,z1,.fz (.int j),.fz (.int e),.fz R,.fz B,.fz S,.un,.un] = some (.nx,[z0,z1,.fz (.int j),.fz (.int e),.fz R,.fz B,.fz S,.ow [.list [R,B],.list [S,.tuple [.str "turn",.int j,.int 4],S,.tuple [.str "flip",.int j]],.list [.tuple [.str "turn",.int j,.int e],.tuple [.str "turn",.int j,.int (8 - e)]]],.un]):=by
  have sz:3 ≤ sizeLine:=by show 3 ≤ 16777216; decide
  simp [jyA,sz]
theorem jAG (c j:Int) (z3 z4 z5 z6 z7:Sl):jtO [.fz (.int c),.fz (.int 1),.fz (.int j),z3,z4,z5,z6,z7,.un] = some (.nx,[.fz (.int c),.fz (.int 1),.fz (.int j),z3,z4,z5,z6,z7,.un]):=by
  simp [jtO]
theorem jAF (c w j m i:Int) (z3 z4 z5:Sl) (S:D) (ds:List D) (hw:1 < w) (hm:jbu (.int (c / 7)) (.int (w - 1)) = some (.int m)) (hi:jbu (.int (j + 1 + m)) (.int w) = some (.int i)) (sz:ds.length + 2 ≤ 1000):jtO [.fz (.int c),.fz (.int w),.fz (.int j),z3,z4,z5,.fz S,.ow ds,.un] = some (.nx,[.fz (.int c),.fz (.int w),.fz (.int j),z3,z4,z5,.fz S,.ow (ds ++ [.list [.tuple [.str "tie",.int i,.int j],.tuple [.str "tie",.int j,.int i],.tuple [.str "tie",.int i,.int j],.tuple [.str "cross",.int j,.int i]]] ++ [.list [.tuple [.str "sign",.int i,.int j],S,.tuple [.str "tie",.int i,.int j],S]]),.fz (.int i)]):=by
  have s1:ds.length < sizeLine:=by show _ < 16777216; omega
  have s2:ds.length + 1 < sizeLine:=by show _ < 16777216; omega
  simp [jtO,hw,hm,hi,s1,s2]
theorem n9 (c k:Int) (z1 z2 z3 z4 z5 z6 z8:Sl) (ds:List D) (d:D) (hk:jbu (.int (c / 11)) (.int (ds.length:Int)) = some (.int k)) (h:atI ds k = some d):jyz [.fz (.int c),z1,z2,z3,z4,z5,z6,.ow ds,z8] = some (.rt d,[.fz (.int c),z1,z2,z3,z4,z5,z6,.ow ds,z8]):=by
  simp [jyz,hk,h]
theorem jmd (c:Int) (w:Nat) (hw:1 ≤ w):∃ more:List Row,jbr [.int c,.int (w:Nat)] = some (rsD more) ∧ Nil w more 0 ∧ (∀ r ∈ more,r.ok w) ∧ more.length ≤ 4:=by
  obtain ⟨j,hj,ej,_⟩:=jej c w hw
  obtain ⟨e,he,e7⟩:∃ e:Nat,1 + c / 3 % 7 = (e:Int) ∧ 1 ≤ e ∧ e ≤ 7:=⟨(1 + c / 3 % 7).toNat,by omega,by omega,by omega⟩
  obtain ⟨r,er,hr⟩:=jnE (c / 21) w hw
  have e8:(8:Int) - e = ((8 - e:Nat):Int):=by omega
  have bo:(jfq r).ok w:=by
    cases r with
    | turn j e=>exact ⟨hr.1,by have:=hr.2.2; omega,by have:=hr.2.1; omega⟩
    | _=>exact hr
  have fin:∀ (ms:List (List Row)) (z8:Sl),0 < ms.length → (∀ more ∈ ms,Nil w more 0 ∧ (∀ r ∈ more,r.ok w) ∧ more.length ≤ 4) → jtO [.fz (.int c),.fz (.int (w:Nat)),.fz (.int (j:Nat)),.fz (.int (e:Nat)),.fz (rowD r),.fz (rowD (jfq r)),.fz (rowD (.swing j)),.ow ([[r,jfq r],[.swing j,.turn j 4,.swing j,.flip j],[.turn j e,.turn j (8 - e)]].map rsD),.un] = some (.nx,[.fz (.int c),.fz (.int (w:Nat)),.fz (.int (j:Nat)),.fz (.int (e:Nat)),.fz (rowD r),.fz (rowD (jfq r)),.fz (rowD (.swing j)),.ow (ms.map rsD),z8]) → ∃ more:List Row,jbr [.int c,.int (w:Nat)] = some (rsD more) ∧ Nil w more 0 ∧ (∀ r ∈ more,r.ok w) ∧ more.length ≤ 4:=fun ms z8 h0 hm h8=>by
    obtain ⟨k,hk,ek,_⟩:=jej (c / 11) ms.length h0
    refine ⟨ms[k],?_,hm _ (List.getElem_mem hk)⟩
    have st7:=n7 (.fz (.int c)) (.fz (.int (w:Nat))) j e (rowD r) (rowD (jfq r)) (rowD (.swing j))
    rw [e8] at st7
    have ln:(ms.map rsD).length = ms.length:=List.length_map _
    have st9:=n9 c k (.fz (.int (w:Nat))) (.fz (.int (j:Nat))) (.fz (.int (e:Nat))) (.fz (rowD r)) (.fz (rowD (jfq r))) (.fz (rowD (.swing j))) z8 (ms.map rsD) (rsD ms[k]) (by rw [ln]; exact ek) (jdl (j:=k) rfl (by simp [hk]))
    refine jq2 (N:=jeb) (n:=2) (b:=jc1) rfl ⟨?_,(congrFun jyy _).trans ?_⟩
    rotate_left
    refine (jc8 (n1 c w j ej)).trans ?_
    refine (jc8 (n2 c w j e he)).trans ?_
    refine (jc8 (n3 c w _ _ _ er)).trans ?_
    refine (jc8 (n4 _ _ _ _ _)).trans ?_
    refine (jc8 (n5 _ _ _ _ r hr)).trans ?_
    refine (jc8 (n6 _ _ _ _ _ j)).trans ?_
    refine (jc8 st7).trans ?_
    refine (jc8 h8).trans ?_
    exact st9
  have m1:Nil w [r,jfq r] 0 ∧ (∀ q ∈ [r,jfq r],q.ok w) ∧ [r,jfq r].length ≤ 4:=⟨jpL hr,fun q hq=>by
    simp only [List.mem_cons,List.not_mem_nil,or_false] at hq
    rcases hq with rfl | rfl
    · exact hr
    · exact bo,by simp⟩
  have m2:Nil w [.swing j,.turn j 4,.swing j,.flip j] 0 ∧ (∀ q ∈ [Row.swing j,.turn j 4,.swing j,.flip j],q.ok w) ∧ [Row.swing j,.turn j 4,.swing j,.flip j].length ≤ 4:=⟨jpJ w j,fun q hq=>by
    simp only [List.mem_cons,List.not_mem_nil,or_false] at hq
    rcases hq with rfl | rfl | rfl | rfl
    · exact hj
    · exact ⟨hj,by decide,by decide⟩
    · exact hj
    · exact hj,by simp⟩
  have m3:Nil w [.turn j e,.turn j (8 - e)] 0 ∧ (∀ q ∈ [Row.turn j e,.turn j (8 - e)],q.ok w) ∧ [Row.turn j e,.turn j (8 - e)].length ≤ 4:=⟨jpH (by omega),fun q hq=>by
    simp only [List.mem_cons,List.not_mem_nil,or_false] at hq
    rcases hq with rfl | rfl
    · exact ⟨hj,e7.1,e7.2⟩
    · exact ⟨hj,by omega,by omega⟩,by simp⟩
  by_cases hw1:w = 1
  · subst hw1
    refine fin [[r,jfq r],[.swing j,.turn j 4,.swing j,.flip j],[.turn j e,.turn j (8 - e)]] .un (by simp) (fun more hm=>?_) (jAG _ _ _ _ _ _ _)
    simp only [List.mem_cons,List.not_mem_nil,or_false] at hm
    rcases hm with rfl | rfl | rfl
    · exact m1
    · exact m2
    · exact m3
  · obtain ⟨m,hm,em,_⟩:=jej (c / 7) (w - 1) (by omega)
    have ew:((w - 1:Nat):Int) = (w:Int) - 1:=by omega
    rw [ew] at em
    obtain ⟨i,hi,ei,ei2⟩:=jej ((j:Int) + 1 + (m:Int)) w hw
    have ne:i ≠ j:=fun z=>by
      subst z
      have t:((i:Int) + 1 + m) % w = i:=ei2
      by_cases q:(i:Int) + 1 + m < w
      · rw [Int.emod_eq_of_lt (by omega) q] at t; omega
      · have:((i:Int) + 1 + m - w) % w = i:=by rw [Int.sub_emod_right]; exact ei2
        rw [Int.emod_eq_of_lt (by omega) (by omega)] at this
        omega
    have m4:Nil w [.tie i j,.tie j i,.tie i j,.cross j i] 0 ∧ (∀ q ∈ [Row.tie i j,.tie j i,.tie i j,.cross j i],q.ok w) ∧ [Row.tie i j,.tie j i,.tie i j,.cross j i].length ≤ 4:=⟨jpI hi hj ne,fun q hq=>by
      simp only [List.mem_cons,List.not_mem_nil,or_false] at hq
      rcases hq with rfl | rfl | rfl | rfl
      · exact ⟨hi,hj,ne⟩
      · exact ⟨hj,hi,ne.symm⟩
      · exact ⟨hi,hj,ne⟩
      · exact ⟨hj,hi,ne.symm⟩,by simp⟩
    have m5:Nil w [.sign i j,.swing j,.tie i j,.swing j] 0 ∧ (∀ q ∈ [Row.sign i j,.swing j,.tie i j,.swing j],q.ok w) ∧ [Row.sign i j,.swing j,.tie i j,.swing j].length ≤ 4:=⟨jsF hi hj ne,fun q hq=>by
      simp only [List.mem_cons,List.not_mem_nil,or_false] at hq
      rcases hq with rfl | rfl | rfl | rfl
      · exact ⟨hi,hj,ne⟩
      · exact hj
      · exact ⟨hi,hj,ne⟩
      · exact hj,by simp⟩
    refine fin [[r,jfq r],[.swing j,.turn j 4,.swing j,.flip j],[.turn j e,.turn j (8 - e)],[.tie i j,.tie j i,.tie i j,.cross j i],[.sign i j,.swing j,.tie i j,.swing j]] (.fz (.int (i:Nat))) (by simp) (fun more hm=>?_) (jAF c w j m i _ _ _ _ _ (by omega) em ei (by simp))
    simp only [List.mem_cons,List.not_mem_nil,or_false] at hm
    rcases hm with rfl | rfl | rfl | rfl | rfl
    · exact m1
    · exact m2
    · exact m3
    · exact m4
    · exact m5
def jwI:Sf:=jaF 4 (o2 (oV 1) (oC (.int 3)) jcB)
def jwH:Sf:=jaF 5 (o2 (oV 4) (o2 (VL.os (jac (oV 0) (jal)) jcq) (oC (.int 1)) ja6) jbu)
def jpV:Sf:=sIf (jnp (ob (o2 (o2 (oV 1) (oC (.int 3)) jbu) (oC (.int 0)) eqD)) (ob (o2 (o2 (oV 5) (oC (.int 1)) ja6) (VL.os (jac (oV 0) (jal)) jcq) ltD))) (jam (jaF 6 (jb2)) (sIf (ob (o2 (oV 6) (VL.os (jal) jdG) eqD)) (jbx (VL.os (jac (o2 (o2 (oSl (oV 0) (oNo) (oP (oV 5))) (VL.os (jac (o2 (oV 0) (o2 (oV 5) (oC (.int 1)) ja6) ixD) (jac (o2 (oV 0) (oV 5) ixD) (jal))) jdG) ja6) (oSl (oV 0) (oP (o2 (oV 5) (oC (.int 2)) ja6)) (oNo)) ja6) (jac (oC (.int 0)) (jal))) jbm)) (sNx))) (sNx)
def jtU:Sf:=jaF 7 (VL.os (jac (o2 (oV 4) (oC (.int 7)) jcB) (jac (oV 2) (jal))) jbr)
def jtT:Sf:=jaF 8 (oC (.int 0))
def jsQ:Sf:=sIf (ob (o2 (o2 (oV 1) (oC (.int 3)) jbu) (oC (.int 1)) eqD)) (jam (jaF 9 (o2 (o2 (oV 4) (oC (.int 5)) jcB) (oV 2) jbu)) (jam (jaF 8 (o2 (oC (.int 1)) (o2 (o2 (oV 4) (oC (.int 15)) jcB) (oC (.int 7)) jbu) ja6)) (jaF 7 (VL.os (jac (VL.os (jac (oC (.str "flip")) (jac (oV 9) (jal))) jbm) (jac (VL.os (jac (oC (.str "turn")) (jac (oV 9) (jac (oV 8) (jal)))) jbm) (jac (VL.os (jac (oC (.str "flip")) (jac (oV 9) (jal))) jbm) (jac (VL.os (jac (oC (.str "turn")) (jac (oV 9) (jac (oV 8) (jal)))) jbm) (jal))))) jdG)))) (sNx)
def jre:Sf:=sIf (ob (o2 (o2 (VL.os (jac (oV 0) (jal)) jcq) (VL.os (jac (oV 7) (jal)) jcq) ja6) (oV 3) gtD)) (jbx (VL.os (jac (oV 0) (jac (oC (.int 0)) (jal))) jbm)) (sNx)
def jtS:Sf:=jbx (VL.os (jac (o2 (o2 (oSl (oV 0) (oNo) (oP (oV 5))) (oV 7) ja6) (oSl (oV 0) (oP (oV 5)) (oNo)) ja6) (jac (oV 8) (jal))) jbm)
theorem jyM:jcp = jam jwI (jam jwH (jam jpV (jam jtU (jam jtT (jam jsQ (jam jre (jtS))))))):=rfl
def wsD (ws:List Nat):D:=.list (ws.map fun k=>PyData.int (k:Nat))
theorem jAK (R:D) (j:Int) (r0:ixD R (.int 0) = some (.str "turn")) (r1:ixD R (.int 1) = some (.int j)):jaL [R] = some (.list [.int j]):=by
  simp [jaL,runB,jd0,jan,r0,r1]
theorem jvl (R:D) (s:Str) (L:List D) (r0:ixD R (.int 0) = some (.str s)) (q:eqD (.str s) (.str "turn") = some (.bool false)) (sl:slD R (some 1) none = some (.tuple L)):jaL [R] = some (.list L):=by
  simp [jaL,runB,jd0,jan,r0,q,sl]
theorem jjL (r:Row):jaL [rowD r] = some (wsD (jaK r)):=by
  cases r with
  | turn j e=>exact jAK _ j (at0 _ _) (at1 _ _ _)
  | swing j=>exact jvl _ "swing" _ (at0 _ _) (by simp) rfl
  | flip j=>exact jvl _ "flip" _ (at0 _ _) (by simp) rfl
  | tie i j=>exact jvl _ "tie" _ (at0 _ _) (by simp) rfl
  | sign i j=>exact jvl _ "sign" _ (at0 _ _) (by simp) rfl
  | cross i j=>exact jvl _ "cross" _ (at0 _ _) (by simp) rfl
theorem jyX (k:Nat) (ws:List Nat):inD false (.int (k:Nat)) (wsD ws) = some (.bool (ws.any (· == k))):=by
  unfold inD wsD
  have it:je6 (.list (ws.map fun k=>PyData.int (k:Nat))) = some (ws.map fun k=>PyData.int (k:Nat)):=rfl
  rw [it,Option.bind_some,if_pos ⟨rfl,List.all_eq_true.mpr fun x hx=>by obtain ⟨m,_,rfl⟩:=List.mem_map.mp hx; rfl⟩]
  have:∀ ws:List Nat,inL (.int (k:Nat)) (ws.map fun k=>PyData.int (k:Nat)) = ws.any (· == k):=fun ws=>by
    induction ws with
    | nil=>rfl
    | cons w ws ih=>
      have e:PyData.eqv (.int (w:Nat)) (.int (k:Nat)) = (w == k):=by
        rw [Bool.eq_iff_iff]
        simp [PyData.eqv]
        omega
      rw [List.map_cons,List.any_cons,← ih,← e]
      rfl
  simp [this]
theorem jA6 (i:Nat) (R2:D) (L:List D) (w:Nat) (vs:List Nat) (rows:D) (at_:Int) (x:ixD rows (.int (at_ + 1)) = some R2) (lw:jaL [R2] = some (wsD vs)):(ob (o2 (oV 0) (VL.os (jac (o2 (oV 1) (o2 (oV 2) (oC (.int 1)) ja6) ixD) (jal)) jaL) (inD false))) [.fz (.int (w:Nat)),.fz rows,.fz (.int at_)] = some (vs.any (· == w)):=by
  have:=jyX w vs
  simp [x,lw,this]
theorem jA5 (rows:D) (a:Int) (R1 R2:D) (us vs:List Nat) (z1 z2 z3 z4 z6 z7 z8 z9:Sl) (hl:us.length ≤ 1000) (x1:ixD rows (.int a) = some R1) (x2:ixD rows (.int (a + 1)) = some R2) (w1:jaL [R1] = some (wsD us)) (w2:jaL [R2] = some (wsD vs)):jb2 [.fz rows,z1,z2,z3,z4,.fz (.int a),z6,z7,z8,z9] = some (wsD (us.filter fun k=>vs.any (· == k))):=by
  refine jfM (h:=fun k:Nat=>PyData.int (k:Nat)) (k:=fun k:Nat=>PyData.int (k:Nat)) (b:=fun k=>vs.any (· == k)) (xs:=us) (by simp [x1,w1,wsD]) (by omega) (fun k _=>?_) fun k _ _=>by simp
  exact jA6 0 R2 [] k vs rows a x2 w2
theorem jvZ (ws:List Nat):eqD (wsD ws) (.list []) = some (.bool ws.isEmpty):=by
  have sh:MA.Sh 1 (wsD ws):=MA.Sh.list fun x hx=>by
    obtain ⟨m,_,rfl⟩:=List.mem_map.mp hx
    exact MA.Sh.int 0 _
  have sh0:MA.Sh 1 (.list []):=MA.Sh.list fun x hx=>(nomatch hx)
  unfold eqD
  rw [if_pos ⟨jfe sh (by decide),jfe sh0 (by decide)⟩]
  cases ws with
  | nil=>rfl
  | cons w ws=>rfl
theorem jrK (xs:List D) (a:Nat):slD (.list xs) none (some (a:Int)) = some (.list (xs.take a)):=by
  show some (PyData.list (jkg _ _ _)) = _
  unfold jkg
  have e1:HT.sIx xs.length 0 none = 0:=rfl
  have e2:HT.sIx xs.length xs.length (some (a:Int)) = min a xs.length:=by
    show (if (a:Int) < 0 then ((a:Int) + (xs.length:Int)).toNat else min (a:Int).toNat xs.length) = _
    rw [if_neg (by omega)]; rfl
  rw [e1,e2,Nat.sub_zero,List.drop_zero]
  congr 2
  rcases Nat.le_total a xs.length with h | h
  · rw [Nat.min_eq_left h]
  · rw [Nat.min_eq_right h,List.take_of_length_le (Nat.le_refl _),List.take_of_length_le h]
theorem jlI (xs:List D) (a:Nat):slD (.list xs) (some (a:Int)) none = some (.list (xs.drop a)):=by
  show some (PyData.list (jkg _ _ _)) = _
  unfold jkg
  have e1:HT.sIx xs.length 0 (some (a:Int)) = min a xs.length:=by
    show (if (a:Int) < 0 then ((a:Int) + (xs.length:Int)).toNat else min (a:Int).toNat xs.length) = _
    rw [if_neg (by omega)]; rfl
  have e2:HT.sIx xs.length xs.length none = xs.length:=rfl
  rw [e1,e2]
  congr 2
  rcases Nat.le_total a xs.length with h | h
  · rw [Nat.min_eq_left h,List.take_of_length_le (by rw [List.length_drop]; exact Nat.le_refl _)]
  · rw [Nat.min_eq_right h,Nat.sub_self,List.take_zero,List.drop_of_length_le h]
theorem c1_ (rows c w m:D) (k:Int) (h:c = .int k):jwI [.fz rows,.fz c,.fz w,.fz m,.un,.un,.un,.un,.un,.un] = some (.nx,[.fz rows,.fz c,.fz w,.fz m,.fz (.int (k / 3)),.un,.un,.un,.un,.un]):=by
  subst h
  simp [jwI]
theorem c2_ (rows c w m:D) (r K a:Int) (ln:jcq [rows] = some (.int K)) (h:jbu (.int r) (.int (K + 1)) = some (.int a)):jwH [.fz rows,.fz c,.fz w,.fz m,.fz (.int r),.un,.un,.un,.un,.un] = some (.nx,[.fz rows,.fz c,.fz w,.fz m,.fz (.int r),.fz (.int a),.un,.un,.un,.un]):=by
  simp [jwH,ln,h]
theorem jzo (rows w m:D) (c r K a:Int) (ln:jcq [rows] = some (.int K)) (h:¬ (c % 3 = 0 ∧ a + 1 < K)):jpV [.fz rows,.fz (.int c),.fz w,.fz m,.fz (.int r),.fz (.int a),.un,.un,.un,.un] = some (.nx,[.fz rows,.fz (.int c),.fz w,.fz m,.fz (.int r),.fz (.int a),.un,.un,.un,.un]):=by
  by_cases q:c % 3 = 0
  · have n:¬ a + 1 < K:=fun z=>h ⟨q,z⟩
    simp [jpV,ln,q,n]
  · simp [jpV,q]
theorem jwc (rows w m A B C R1 R2:D) (c r K a:Int) (ln:jcq [rows] = some (.int K)) (h0:c % 3 = 0) (h1:a + 1 < K) (p:jb2 [.fz rows,.fz (.int c),.fz w,.fz m,.fz (.int r),.fz (.int a),.un,.un,.un,.un] = some (.list [])) (x1:ixD rows (.int a) = some R1) (x2:ixD rows (.int (a + 1)) = some R2) (s1:slD rows none (some a) = some A) (ad1:ja6 A (.list [R2,R1]) = some B) (s2:slD rows (some (a + 2)) none = some C) (R:D) (ad2:ja6 B C = some R):jpV [.fz rows,.fz (.int c),.fz w,.fz m,.fz (.int r),.fz (.int a),.un,.un,.un,.un] = some (.rt (.tuple [R,.int 0]),[.fz rows,.fz (.int c),.fz w,.fz m,.fz (.int r),.fz (.int a),.fz (.list []),.un,.un,.un]):=by
  have e:eqD (.list []) (.list []) = some (.bool true):=jvZ []
  simp [jpV,ln,h0,h1,p,e,x1,x2,s1,ad1,s2,ad2]
theorem jtp (rows w m X:D) (c r K a:Int) (ln:jcq [rows] = some (.int K)) (h0:c % 3 = 0) (h1:a + 1 < K) (p:jb2 [.fz rows,.fz (.int c),.fz w,.fz m,.fz (.int r),.fz (.int a),.un,.un,.un,.un] = some X) (e:eqD X (.list []) = some (.bool false)):jpV [.fz rows,.fz (.int c),.fz w,.fz m,.fz (.int r),.fz (.int a),.un,.un,.un,.un] = some (.nx,[.fz rows,.fz (.int c),.fz w,.fz m,.fz (.int r),.fz (.int a),.fz X,.un,.un,.un]):=by
  simp [jpV,ln,h0,h1,p,e]
theorem c4_ (rows w m N:D) (z1 z5 z6:Sl) (r:Int) (h:jbr [.int (r / 7),w] = some N):jtU [.fz rows,z1,.fz w,.fz m,.fz (.int r),z5,z6,.un,.un,.un] = some (.nx,[.fz rows,z1,.fz w,.fz m,.fz (.int r),z5,z6,.fz N,.un,.un]):=by
  simp [jtU,h]
theorem c5_ (z0 z1 z2 z3 z4 z5 z6 z7:Sl):jtT [z0,z1,z2,z3,z4,z5,z6,z7,.un,.un] = some (.nx,[z0,z1,z2,z3,z4,z5,z6,z7,.fz (.int 0),.un]):=by
  simp [jtT]
theorem jzn (z0 z2 z3 z4 z5 z6 z7 z8:Sl) (c:Int) (h:¬ c % 3 = 1):jsQ [z0,.fz (.int c),z2,z3,z4,z5,z6,z7,z8,.un] = some (.nx,[z0,.fz (.int c),z2,z3,z4,z5,z6,z7,z8,.un]):=by
  simp [jsQ,h]
theorem jwb (z0 z3 z5 z6 z7 z8:Sl) (c w r j e:Int) (h:c % 3 = 1) (hj:jbu (.int (r / 5)) (.int w) = some (.int j)) (he:1 + r / 15 % 7 = e):jsQ [z0,.fz (.int c),.fz (.int w),z3,.fz (.int r),z5,z6,z7,z8,.un] = some (.nx,[z0,.fz (.int c),.fz (.int w),z3,.fz (.int r),z5,z6,.fz (.list [.tuple [.str "flip",.int j],.tuple [.str "turn",.int j,.int e],.tuple [.str "flip",.int j],.tuple [.str "turn",.int j,.int e]]),.fz (.int e),.fz (.int j)]):=by
  subst he
  simp [jsQ,h,hj]
theorem jwa (rows N:D) (z1 z2 z4 z5 z6 z8 z9:Sl) (K L M:Int) (ln:jcq [rows] = some (.int K)) (lm:jcq [N] = some (.int L)) (h:M < K + L):jre [.fz rows,z1,z2,.fz (.int M),z4,z5,z6,.fz N,z8,z9] = some (.rt (.tuple [rows,.int 0]),[.fz rows,z1,z2,.fz (.int M),z4,z5,z6,.fz N,z8,z9]):=by
  simp [jre,ln,lm,h]
theorem jzm (rows N:D) (z1 z2 z4 z5 z6 z8 z9:Sl) (K L M:Int) (ln:jcq [rows] = some (.int K)) (lm:jcq [N] = some (.int L)) (h:¬ M < K + L):jre [.fz rows,z1,z2,.fz (.int M),z4,z5,z6,.fz N,z8,z9] = some (.nx,[.fz rows,z1,z2,.fz (.int M),z4,z5,z6,.fz N,z8,z9]):=by
  simp [jre,ln,lm,h]
theorem c8_ (rows N A B C R:D) (z1 z2 z3 z4 z6 z9:Sl) (a e:Int) (s1:slD rows none (some a) = some A) (ad1:ja6 A N = some B) (s2:slD rows (some a) none = some C) (ad2:ja6 B C = some R):jtS [.fz rows,z1,z2,z3,z4,.fz (.int a),z6,.fz N,.fz (.int e),z9] = some (.rt (.tuple [R,.int e]),[.fz rows,z1,z2,z3,z4,.fz (.int a),z6,.fz N,.fz (.int e),z9]):=by
  simp [jtS,s1,ad1,s2,ad2]
theorem jw1 {xs ys:List D} (h:xs.length + ys.length ≤ 16777216):ja6 (.list xs) (.list ys) = some (.list (xs ++ ys)):=if_pos h
theorem jgh (rs:List Row):jcq [rsD rs] = some (.int (rs.length:Nat)):=by
  show some (PyData.int ((rs.map rowD).length:Nat)) = _
  rw [List.length_map]
theorem jwe (rs:List Row) (a:Nat) (h:a < rs.length) (i:Int) (hi:i = a):ixD (rsD rs) (.int i) = some (rowD rs[a]):=jdl (j:=a) hi (by simp [h])
theorem jpd {rs:List Row} {a:Nat} (h:a + 1 < rs.length):rs = rs.take a ++ rs[a] :: rs[a + 1] :: rs.drop (a + 2):=by
  have h1:rs.drop a = rs[a] :: rs.drop (a + 1):=List.drop_eq_getElem_cons (by omega)
  have h2:rs.drop (a + 1) = rs[a + 1] :: rs.drop (a + 2):=List.drop_eq_getElem_cons (by omega)
  have h3:=(List.take_append_drop a rs).symm
  rw [h1,h2] at h3
  exact h3
structure Told (n:Nat) (rs:List Row) (s:Sf) (δ0:Dv):Prop where
  ex:∃ (rs':List Row) (e:Nat) (δ:Dv),s δ0 = some (.rt (.tuple [rsD rs',.int (e:Nat)]),δ) ∧ Mv n rs rs' e ∧ (∀ r ∈ rs',r.ok n) ∧ rs'.length ≤ 60
theorem Told.of {n:Nat} {rs:List Row} {s t:Sf} {δ0 δ1:Dv} (h:Told n rs t δ1) (e:s δ0 = t δ1):Told n rs s δ0:=by
  obtain ⟨a,b,c,d,f⟩:=h.ex
  exact ⟨a,b,c,e.trans d,f⟩
theorem jk7 {n M a:Nat} (hM:M ≤ 60) (rs:List Row) (hr:∀ r ∈ rs,r.ok n) (hl:rs.length ≤ 60) (more:List Row) (e:Nat) (nm:Nil n more e) (om:∀ r ∈ more,r.ok n) (lm:more.length ≤ 4) (z1 z2 z4 z6 z9:Sl):Told n rs (jam jre jtS) [.fz (rsD rs),z1,z2,.fz (.int (M:Nat)),z4,.fz (.int (a:Nat)),z6,.fz (rsD more),.fz (.int (e:Nat)),z9]:=by
  by_cases h:(M:Int) < (rs.length:Int) + more.length
  · exact ⟨rs,0,_,jq0 (jwa _ _ z1 z2 z4 _ z6 _ z9 _ _ _ (jgh rs) (jgh more) h),Mv.refl n rs,hr,hl⟩
  · have t:=jrK (rs.map rowD) a
    have d:=jlI (rs.map rowD) a
    rw [← List.map_take] at t
    rw [← List.map_drop] at d
    have l1:(rs.take a).length ≤ 60:=by rw [List.length_take]; omega
    have l2:(rs.drop a).length ≤ 60:=by rw [List.length_drop]; omega
    have ad1:ja6 (.list ((rs.take a).map rowD)) (rsD more) = some (.list ((rs.take a ++ more).map rowD)):=by
      rw [List.map_append]; exact jw1 (by rw [List.length_map,List.length_map]; omega)
    have ad2:ja6 (.list ((rs.take a ++ more).map rowD)) (.list ((rs.drop a).map rowD)) = some (rsD (rs.take a ++ more ++ rs.drop a)):=by
      have:=jw1 (xs:=(rs.take a ++ more).map rowD) (ys:=(rs.drop a).map rowD) (by rw [List.length_map,List.length_map,List.length_append]; omega)
      rw [← List.map_append] at this
      exact this
    have st:=c8_ (rsD rs) (rsD more) _ _ _ _ z1 z2 (.fz (.int (M:Nat))) z4 z6 z9 a e t ad1 d ad2
    refine ⟨rs.take a ++ more ++ rs.drop a,e,_,(jc8 (jzm _ _ z1 z2 z4 _ z6 _ z9 _ _ _ (jgh rs) (jgh more) h)).trans st,?_,fun r q=>?_,?_⟩
    · have:=Mv.put nm (rs.take a) (rs.drop a)
      rwa [List.take_append_drop] at this
    · rcases List.mem_append.mp q with q | q
      · rcases List.mem_append.mp q with q | q
        · exact hr r (List.mem_of_mem_take q)
        · exact om r q
      · exact hr r (List.mem_of_mem_drop q)
    · rw [List.length_append,List.length_append,List.length_take,List.length_drop]; omega
theorem jjp {n M a:Nat} (hn:1 ≤ n) (hM:M ≤ 60) (rs:List Row) (hr:∀ r ∈ rs,r.ok n) (hl:rs.length ≤ 60) (c:Int) (z6:Sl):Told n rs (jam jtU (jam jtT (jam jsQ (jam jre jtS)))) [.fz (rsD rs),.fz (.int c),.fz (.int (n:Nat)),.fz (.int (M:Nat)),.fz (.int (c / 3)),.fz (.int (a:Nat)),z6,.un,.un,.un]:=by
  obtain ⟨more,em,nm,om,lm⟩:=jmd (c / 3 / 7) n hn
  have s45:∀ t:Sf,(jam jtU (jam jtT t)) [.fz (rsD rs),.fz (.int c),.fz (.int (n:Nat)),.fz (.int (M:Nat)),.fz (.int (c / 3)),.fz (.int (a:Nat)),z6,.un,.un,.un] = t [.fz (rsD rs),.fz (.int c),.fz (.int (n:Nat)),.fz (.int (M:Nat)),.fz (.int (c / 3)),.fz (.int (a:Nat)),z6,.fz (rsD more),.fz (.int 0),.un]:=fun t=>(jc8 (c4_ _ _ _ _ _ _ _ _ em)).trans (jc8 (c5_ _ _ _ _ _ _ _ _))
  by_cases h:c % 3 = 1
  · obtain ⟨j,hj,ej,_⟩:=jej (c / 3 / 5) n hn
    obtain ⟨e,he,e7⟩:∃ e:Nat,1 + c / 3 / 15 % 7 = (e:Int) ∧ 1 ≤ e ∧ e ≤ 7:=⟨(1 + c / 3 / 15 % 7).toNat,by omega,by omega,by omega⟩
    exact Told.of (jk7 hM rs hr hl [.flip j,.turn j e,.flip j,.turn j e] e (jpK n j e) (fun r q=>by
      simp only [List.mem_cons,List.not_mem_nil,or_false] at q
      rcases q with rfl | rfl | rfl | rfl
      · exact hj
      · exact ⟨hj,e7.1,e7.2⟩
      · exact hj
      · exact ⟨hj,e7.1,e7.2⟩) (by simp) _ _ _ z6 _) ((s45 _).trans (jc8 (jwb _ _ _ _ _ _ c n _ j e h ej he)))
  · exact Told.of (jk7 hM rs hr hl more 0 nm om lm _ _ _ z6 .un) ((s45 _).trans (jc8 (jzn _ _ _ _ _ _ _ _ c h)))
theorem joZ {n M:Nat} (hn:1 ≤ n) (hM:M ≤ 60) (rs:List Row) (hr:∀ r ∈ rs,r.ok n) (hl:rs.length ≤ 60) (c:Int):Told n rs jcp [.fz (rsD rs),.fz (.int c),.fz (.int (n:Nat)),.fz (.int (M:Nat)),.un,.un,.un,.un,.un,.un]:=by
  obtain ⟨a,ha,ea,_⟩:=jej (c / 3) (rs.length + 1) (by omega)
  rw [show ((rs.length + 1:Nat):Int) = (rs.length:Int) + 1 by omega] at ea
  have s12:∀ t:Sf,(jam jwI (jam jwH t)) [.fz (rsD rs),.fz (.int c),.fz (.int (n:Nat)),.fz (.int (M:Nat)),.un,.un,.un,.un,.un,.un] = t [.fz (rsD rs),.fz (.int c),.fz (.int (n:Nat)),.fz (.int (M:Nat)),.fz (.int (c / 3)),.fz (.int (a:Nat)),.un,.un,.un,.un]:=fun t=>(jc8 (c1_ _ _ _ _ c rfl)).trans (jc8 (c2_ _ _ _ _ _ _ _ (jgh rs) ea))
  refine Told.of (t:=jam jpV (jam jtU (jam jtT (jam jsQ (jam jre jtS))))) ?_ ((congrFun jyM _).trans (s12 _))
  by_cases h:c % 3 = 0 ∧ (a:Int) + 1 < (rs.length:Nat)
  · have h1:a + 1 < rs.length:=by omega
    have x1:=jwe rs a (by omega) a rfl
    have x2:=jwe rs (a + 1) h1 ((a:Int) + 1) (by omega)
    have ul:(jaK rs[a]).length ≤ 1000:=by cases rs[a] <;> simp [jaK]
    have p:=jA5 (rsD rs) a _ _ _ _ (.fz (.int c)) (.fz (.int (n:Nat))) (.fz (.int (M:Nat))) (.fz (.int (c / 3))) .un .un .un .un ul x1 x2 (jjL rs[a]) (jjL rs[a + 1])
    cases q:(jaK rs[a]).filter fun k=>(jaK rs[a + 1]).any (· == k) with
    | nil=>
      rw [q] at p
      have t:=jrK (rs.map rowD) a
      have d:=jlI (rs.map rowD) (a + 2)
      rw [← List.map_take] at t
      rw [← List.map_drop,show ((a + 2:Nat):Int) = (a:Int) + 2 by omega] at d
      have l1:(rs.take a).length ≤ 60:=by rw [List.length_take]; omega
      have l2:(rs.drop (a + 2)).length ≤ 60:=by rw [List.length_drop]; omega
      have ad1:ja6 (.list ((rs.take a).map rowD)) (.list [rowD rs[a + 1],rowD rs[a]]) = some (.list ((rs.take a ++ [rs[a + 1],rs[a]]).map rowD)):=by
        rw [List.map_append]; exact jw1 (by rw [List.length_map]; simp; omega)
      have ad2:ja6 (.list ((rs.take a ++ [rs[a + 1],rs[a]]).map rowD)) (.list ((rs.drop (a + 2)).map rowD)) = some (rsD (rs.take a ++ rs[a + 1] :: rs[a] :: rs.drop (a + 2))):=by
        have:=jw1 (xs:=(rs.take a ++ [rs[a + 1],rs[a]]).map rowD) (ys:=(rs.drop (a + 2)).map rowD) (by rw [List.length_map,List.length_map,List.length_append]; simp only [List.length_cons,List.length_nil]; omega)
        rw [← List.map_append,List.append_assoc] at this
        exact this
      have ap:jj9 rs[a] rs[a + 1]:=fun k hk hk2=>by
        have:k ∈ (jaK rs[a]).filter fun k=>(jaK rs[a + 1]).any (· == k):=List.mem_filter.mpr ⟨hk,List.any_eq_true.mpr ⟨k,hk2,by simp⟩⟩
        rw [q] at this
        cases this
      have sp:=jpd h1
      refine ⟨rs.take a ++ rs[a + 1] :: rs[a] :: rs.drop (a + 2),0,_,jq0 (jwc _ _ _ _ _ _ _ _ c _ _ a (jgh rs) h.1 h.2 p x1 x2 t ad1 d _ ad2),?_,fun r hm=>?_,?_⟩
      · have:=Mv.swap (hr rs[a] (List.getElem_mem _)) (hr rs[a + 1] (List.getElem_mem _)) ap (rs.take a) (rs.drop (a + 2))
        rwa [← sp] at this
      · rcases List.mem_append.mp hm with hm | hm
        · exact hr r (List.mem_of_mem_take hm)
        · rcases List.mem_cons.mp hm with rfl | hm
          · exact hr _ (List.getElem_mem _)
          · rcases List.mem_cons.mp hm with rfl | hm
            · exact hr _ (List.getElem_mem _)
            · exact hr r (List.mem_of_mem_drop hm)
      · rw [List.length_append,List.length_cons,List.length_cons,List.length_take,List.length_drop]; omega
    | cons k ks=>
      have e:=jvZ ((jaK rs[a]).filter fun k=>(jaK rs[a + 1]).any (· == k))
      rw [show ((jaK rs[a]).filter fun k=>(jaK rs[a + 1]).any (· == k)).isEmpty = false by rw [q]; rfl] at e
      exact Told.of (jjp hn hM rs hr hl c _) (jc8 (jtp _ _ _ _ c _ _ a (jgh rs) h.1 h.2 p e))
  · exact Told.of (jjp hn hM rs hr hl c .un) (jc8 (jzo _ _ _ c _ _ a (jgh rs) h))
theorem jmq {n M:Nat} (hn:1 ≤ n) (hM:M ≤ 60) (rs:List Row) (hr:∀ r ∈ rs,r.ok n) (hl:rs.length ≤ 60) (c:Int):∃ (rs':List Row) (e:Nat),jbV [rsD rs,.int c,.int (n:Nat),.int (M:Nat)] = some (.tuple [rsD rs',.int (e:Nat)]) ∧ Mv n rs rs' e ∧ (∀ r ∈ rs',r.ok n) ∧ rs'.length ≤ 60:=by
  obtain ⟨rs',e,δ,h,r⟩:=(joZ hn hM rs hr hl c).ex
  exact ⟨rs',e,jq2 (N:=jc6) (n:=4) (b:=jcp) rfl ⟨δ,h⟩,r⟩
def jxG:Sf:=jaF 1 (VL.os (jac (oV 0) (jac (oC (.int 0)) (jal))) jbd)
def jxF:Sf:=jaF 2 (o2 (oC (.int 1)) (o2 (oV 1) (oC (.int 3)) jbu) ja6)
def jws:Sf:=sIf (ob (o2 (o2 (o2 (oV 1) (oC (.int 75)) jcB) (oC (.int 12)) jbu) (oC (.int 7)) eqD)) (jaF 2 (oC (.int 4))) (sNx)
def jxE:Sf:=jaF 3 (o2 (VL.os (jac (oC (.int 12)) (jac (oC (.int 7)) (jac (oC (.int 3)) (jac (oC (.int 2)) (jal))))) jdG) (o2 (oV 2) (oC (.int 1)) jcf) ixD)
def jxD:Sf:=jaF 4 (jng)
def jxC:Sf:=jaF 5 (VL.os (jac (oV 4) (jal)) jmg)
def jtD:Sf:=sIf (ob (o2 (o2 (o2 (oV 1) (oC (.int 3)) jcB) (oC (.int 3)) jbu) (oC (.int 0)) eqD)) (jaF 5 (jnf)) (jg7 (oI (oSl (oV 0) (oP (o2 (oC (.int 1)) (oV 3) ja6)) (oP (o2 (oC (.int 1)) (o2 (oC (.int 2)) (oV 3) jeA) ja6))) je6) (gN 6) (jib))
def juh:Sf:=jaF 7 (VL.os (jac (oV 2) (jac (VL.os (jac (oV 4) (jal)) jc7) (jal))) jbm)
def jug:Sf:=jaF 8 (VL.os (jac (oV 2) (jac (VL.os (jac (oV 5) (jal)) jc7) (jal))) jbm)
def jkk:Sf:=sIf (ob (o2 (o2 (o2 (oV 1) (oC (.int 9)) jcB) (oC (.int 5)) jbu) (oC (.int 1)) eqD)) (jbx (VL.os (jac (oV 7) (jac (oV 8) (jac (o2 (oV 1) (oC (.int 45)) jcB) (jal)))) jbE)) (sNx)
def jm2:Sf:=jaF 9 (VL.os (jac (oV 7) (jal)) jaG)
def jm1:Sf:=jaF 10 (VL.os (jac (oV 8) (jal)) jaG)
def jm0:Sf:=jaF 11 (oSl (oV 0) (oP (o2 (oC (.int 1)) (o2 (oC (.int 2)) (oV 3) jeA) ja6)) (oP (o2 (o2 (oC (.int 1)) (o2 (oC (.int 2)) (oV 3) jeA) ja6) (o2 (VL.os (jac (oC (.int 8)) (jac (oC (.int 8)) (jac (oC (.int 8)) (jac (oC (.int 1)) (jal))))) jdG) (o2 (oV 2) (oC (.int 1)) jcf) ixD) ja6)))
def jmZ:Sf:=jg7 (oI (o2 (oV 11) (VL.os (jac (o2 (oC (.int 4)) (o2 (oC (.int 4)) (o2 (o2 (oV 1) (oC (.int 45)) jcB) (oC (.int 8)) jbu) jeA) ja6) (jal)) jdG) ja6) je6) (gN 6) (jia)
def jr3:Sf:=jbx (oC (.bool true))
theorem jvt:jqG = jam jxG (jam jxF (jam jws (jam jxE (jam jxD (jam jxC (jam jtD (jam juh (jam jug (jam jkk (jam jm2 (jam jm1 (jam jm0 (jam jmZ (jr3)))))))))))))):=rfl
theorem jpU (ns:List Int) (k:Int) (hk:0 ≤ k):∃ c,jbd [.list (ns.map .int),.int k] = some (.int c):=by
  by_cases h:k < ns.length
  · have hk':k.toNat < ns.length:=by omega
    refine ⟨ns[k.toNat],?_⟩
    have e:atI (ns.map PyData.int) k = some (.int ns[k.toNat]):=jdl (j:=k.toNat) (by omega) (by simp [hk'])
    simp [jbd,runB,jc2,jan,h,e]
  · exact ⟨0,by simp [jbd,runB,jc2,jan,h]⟩
theorem jzh (ns:List Int) (x:Nat):∃ cs:List Int,cs.length ≤ x ∧ slD (.list (ns.map .int)) (some 1) (some (1 + (x:Int))) = some (.list (cs.map .int)):=by
  refine ⟨(ns.drop (HT.sIx ns.length 0 (some 1))).take (HT.sIx ns.length ns.length (some (1 + (x:Int))) - HT.sIx ns.length 0 (some 1)),?_,?_⟩
  · rw [List.length_take,List.length_drop]
    have e1:HT.sIx ns.length 0 (some 1) = min 1 ns.length:=rfl
    have e2:HT.sIx ns.length ns.length (some (1 + (x:Int))) ≤ 1 + x:=by
      unfold HT.sIx
      simp only
      split <;> omega
    omega
  · show some (PyData.list (jkg _ _ _)) = _
    unfold jkg
    rw [List.length_map,← List.map_drop,← List.map_take]
theorem joc (ns:List Int) (lo hi:Option Int):∃ cs:List Int,cs.length ≤ ns.length ∧ slD (.list (ns.map .int)) lo hi = some (.list (cs.map .int)):=by
  refine ⟨(ns.drop (HT.sIx ns.length 0 lo)).take (HT.sIx ns.length ns.length hi - HT.sIx ns.length 0 lo),?_,?_⟩
  · rw [List.length_take,List.length_drop]; omega
  · show some (PyData.list (jkg _ _ _)) = _
    unfold jkg
    rw [List.length_map,← List.map_drop,← List.map_take]
theorem p_e (c w R:D) (h:jaz [c,w] = some R):(VL.os (jac (oV 0) (jac (oV 1) (jal))) jaz) [.fz c,.fz w] = some R:=by
  simp [h]
theorem jm7 {fi:Dv → Option (List D)} {δ:Dv} (n:Nat) (hn:1 ≤ n) (cs:List Int) (hl:cs.length ≤ 1000) (e:fi δ = some (cs.map .int)) (h2:jga δ [(2,"wires")] = [.fz (.int (n:Nat))]):∃ rs:List Row,rs.length = cs.length ∧ (∀ r ∈ rs,r.ok n) ∧ jdv fi [(2,"wires")] bv1 (VL.os (jac (oV 0) (jac (oV 1) (jal))) jaz) δ = some (rsD rs):=by
  have ch:∀ c:Int,∃ r:Row,jaz [.int c,.int (n:Nat)] = some (rowD r) ∧ r.ok n:=fun c=>jnE c n hn
  refine ⟨cs.map fun c=>Classical.choose (ch c),by rw [List.length_map],fun r hr=>?_,?_⟩
  · obtain ⟨c,_,rfl⟩:=List.mem_map.mp hr
    exact (Classical.choose_spec (ch c)).2
  · unfold rsD
    rw [List.map_map]
    exact jcZ (h:=PyData.int) (k:=fun c=>rowD (Classical.choose (ch c))) (xs:=cs) e (by omega) fun c _=>by
      rw [h2]
      exact p_e _ _ _ (Classical.choose_spec (ch c)).1
theorem m2 (x:Int):jeA (.int 2) (.int x) = some (.int (2 * x)):=jgO (.of_left (by decide))
theorem jAC (S:D) (x:Int) (L:List D) (z1 z2 z4 z5 z6 z7 z8 z9 z10 z11 z12 z13:Sl) (sl:slD S (some 1) (some (1 + x)) = some (.list L)):(oI (oSl (oV 0) (oP (oC (.int 1))) (oP (o2 (oC (.int 1)) (oV 3) ja6))) je6) [.fz S,z1,z2,.fz (.int x),z4,z5,z6,z7,z8,z9,z10,z11,z12,z13] = some L:=by
  simp [sl]
theorem jAB (S:D) (x:Int) (L:List D) (z1 z2 z4 z5 z6 z7 z8 z9 z10 z11 z12 z13:Sl) (sl:slD S (some (1 + x)) (some (1 + 2 * x)) = some (.list L)):(oI (oSl (oV 0) (oP (o2 (oC (.int 1)) (oV 3) ja6)) (oP (o2 (oC (.int 1)) (o2 (oC (.int 2)) (oV 3) jeA) ja6))) je6) [.fz S,z1,z2,.fz (.int x),z4,z5,z6,z7,z8,z9,z10,z11,z12,z13] = some L:=by
  have m:=m2 x
  simp [m,sl]
theorem jAU (z0 z1 z4 z7 z8 z9 z10 z11 z12 z13:Sl) (w O O':D) (x c:Int) (E:D) (h:jbV [O,.int c,w,.int (2 * x)] = some (.tuple [O',E])):jib [z0,z1,.fz w,.fz (.int x),z4,.fz O,.fz (.int c),z7,z8,z9,z10,z11,z12,z13] = some (.nx,[z0,z1,.fz w,.fz (.int x),z4,.fz O',.fz (.int c),z7,z8,z9,z10,z11,z12,z13]):=by
  have m:=m2 x
  have i:ixD (.tuple [O',E]) (.int 0) = some O':=rfl
  simp only [jib,jaF,o2,VL.os,jac,jal,oV,oC,slV,List.getElem?_cons_zero,List.getElem?_cons_succ,Option.bind_some,m,h,i,List.set_cons_succ,List.set_cons_zero]
theorem jnM {n:Nat} (hn:1 ≤ n) (x:Nat) (hx:x ≤ 12) (z0 z1 z4 z7 z8 z9 z10 z11 z12 z13:Sl):∀ (cs:List Int) (oq:List Row) (z6:Sl),(∀ r ∈ oq,r.ok n) → oq.length ≤ 60 → ∃ (oq':List Row) (y6:Sl),loop (gN 6) jib (cs.map .int) [z0,z1,.fz (.int (n:Nat)),.fz (.int (x:Nat)),z4,.fz (rsD oq),z6,z7,z8,z9,z10,z11,z12,z13] = some (.nx,[z0,z1,.fz (.int (n:Nat)),.fz (.int (x:Nat)),z4,.fz (rsD oq'),y6,z7,z8,z9,z10,z11,z12,z13]) ∧ (∀ r ∈ oq',r.ok n) ∧ oq'.length ≤ 60
  | [],oq,z6,ok,ln=>⟨oq,z6,rfl,ok,ln⟩
  | c :: cs,oq,z6,ok,ln=>by
    obtain ⟨o1,f,h,_,ok1,ln1⟩:=jmq (M:=2 * x) hn (by omega) oq ok ln c
    rw [show ((2 * x:Nat):Int) = 2 * (x:Int) by omega] at h
    have st:=jAU z0 z1 z4 z7 z8 z9 z10 z11 z12 z13 (.int (n:Nat)) _ _ (x:Nat) c _ h
    obtain ⟨oq',y6,lp,r⟩:=jnM hn x hx z0 z1 z4 z7 z8 z9 z10 z11 z12 z13 cs o1 (.fz (.int c)) ok1 ln1
    refine ⟨oq',y6,?_,r⟩
    rw [List.map_cons,jbl (by rfl) st]
    exact lp
theorem jAT (z0 z1 z3 z4 z5 z11 z12 z13:Sl) (w C1 C2 F G P:D) (c:Int) (b:Bool) (p:jbM [.int c,w] = some P) (s:jat [C1,C2,P] = some (.bool b)) (d:jcy [C1,C2,F,G,P] = some (.bool b)):jia [z0,z1,.fz w,z3,z4,z5,.fz (.int c),.fz C1,.fz C2,.fz F,.fz G,z11,z12,z13] = some (.nx,[z0,z1,.fz w,z3,z4,z5,.fz (.int c),.fz C1,.fz C2,.fz F,.fz G,z11,.fz P,.fz (.bool b)]):=by
  have ne:=jvh b b
  rw [show (b != b) = false by cases b <;> rfl] at ne
  simp [jia,p,s,d,ne]
theorem jnL {n:Nat} (hn:n ≤ 4) {as bs:List Row} (ha:∀ r ∈ as,r.ok n) (hb:∀ r ∈ bs,r.ok n) (hl:as.length ≤ 100) (hl':bs.length ≤ 100) (z0 z1 z3 z4 z5 z11:Sl):∀ (cs:List Int) (z6 z12 z13:Sl),∃ y6 y12 y13,loop (gN 6) jia (cs.map .int) [z0,z1,.fz (.int (n:Nat)),z3,z4,z5,z6,.fz (cpD n as),.fz (cpD n bs),.fz (.list (jby n fun b=>ja7 n (un b) as)),.fz (.list (jby n fun b=>ja7 n (un b) bs)),z11,z12,z13] = some (.nx,[z0,z1,.fz (.int (n:Nat)),z3,z4,z5,y6,.fz (cpD n as),.fz (cpD n bs),.fz (.list (jby n fun b=>ja7 n (un b) as)),.fz (.list (jby n fun b=>ja7 n (un b) bs)),z11,y12,y13])
  | [],z6,z12,z13=>⟨z6,z12,z13,rfl⟩
  | c :: cs,z6,z12,z13=>by
    obtain ⟨P,b,p,s,d⟩:=jqK hn ha hb hl hl' c
    obtain ⟨y6,y12,y13,e⟩:=jnL hn ha hb hl hl' z0 z1 z3 z4 z5 z11 cs (.fz (.int c)) (.fz P) (.fz (.bool b))
    exact ⟨y6,y12,y13,by rw [List.map_cons,jbl (by rfl) (jAT z0 z1 z3 z4 z5 z11 z12 z13 _ _ _ _ _ P c b p s d)]; exact e⟩
theorem a1 (S c:D) (z2 z3 z4 z5 z6 z7 z8 z9 z10 z11 z12 z13 z1:Sl) (h:jbd [S,.int 0] = some c):jxG [.fz S,z1,z2,z3,z4,z5,z6,z7,z8,z9,z10,z11,z12,z13] = some (.nx,[.fz S,.fz c,z2,z3,z4,z5,z6,z7,z8,z9,z10,z11,z12,z13]):=by
  simp [jxG,h]
theorem a2 (c:Int) (z0 z2 z3 z4 z5 z6 z7 z8 z9 z10 z11 z12 z13:Sl):jxF [z0,.fz (.int c),z2,z3,z4,z5,z6,z7,z8,z9,z10,z11,z12,z13] = some (.nx,[z0,.fz (.int c),.fz (.int (1 + c % 3)),z3,z4,z5,z6,z7,z8,z9,z10,z11,z12,z13]):=by
  simp [jxF]
theorem a3 (c w:Int) (z0 z3 z4 z5 z6 z7 z8 z9 z10 z11 z12 z13:Sl) (h:(if c / 75 % 12 = 7 then 4 else 1 + c % 3) = w):jws [z0,.fz (.int c),.fz (.int (1 + c % 3)),z3,z4,z5,z6,z7,z8,z9,z10,z11,z12,z13] = some (.nx,[z0,.fz (.int c),.fz (.int w),z3,z4,z5,z6,z7,z8,z9,z10,z11,z12,z13]):=by
  subst h
  by_cases q:c / 75 % 12 = 7
  · simp [jws,q]
  · simp [jws,q]
theorem a4 (w x:Int) (z0 z1 z3 z4 z5 z6 z7 z8 z9 z10 z11 z12 z13:Sl) (e:atI [PyData.int 12,.int 7,.int 3,.int 2] (w - 1) = some (.int x)):jxE [z0,z1,.fz (.int w),z3,z4,z5,z6,z7,z8,z9,z10,z11,z12,z13] = some (.nx,[z0,z1,.fz (.int w),.fz (.int x),z4,z5,z6,z7,z8,z9,z10,z11,z12,z13]):=by
  simp [jxE,e]
theorem a5 (z0 z1 z2 z3 z4 z5 z6 z7 z8 z9 z10 z11 z12 z13:Sl) (R:D) (h:jng [z0,z1,z2,z3,z4,z5,z6,z7,z8,z9,z10,z11,z12,z13] = some R):jxD [z0,z1,z2,z3,z4,z5,z6,z7,z8,z9,z10,z11,z12,z13] = some (.nx,[z0,z1,z2,z3,.fz R,z5,z6,z7,z8,z9,z10,z11,z12,z13]):=by
  simp [jxD,h]
theorem a6 (z0 z1 z2 z3 z5 z6 z7 z8 z9 z10 z11 z12 z13:Sl) (L:List D) (hl:L.length ≤ 1000):jxC [z0,z1,z2,z3,.fz (.list L),z5,z6,z7,z8,z9,z10,z11,z12,z13] = some (.nx,[z0,z1,z2,z3,.fz (.list L),.fz (.list L),z6,z7,z8,z9,z10,z11,z12,z13]):=by
  simp [jxC]
theorem jBk (z0 z2 z3 z4 z5 z6 z7 z8 z9 z10 z11 z12 z13:Sl) (c:Int) (R:D) (q:c / 3 % 3 = 0) (h:jnf [z0,.fz (.int c),z2,z3,z4,z5,z6,z7,z8,z9,z10,z11,z12,z13] = some R):jtD [z0,.fz (.int c),z2,z3,z4,z5,z6,z7,z8,z9,z10,z11,z12,z13] = some (.nx,[z0,.fz (.int c),z2,z3,z4,.fz R,z6,z7,z8,z9,z10,z11,z12,z13]):=by
  simp [jtD,q,h]
theorem jBl (S:D) (c x:Int) (L:List D) (z2 z4 z5 z6 z7 z8 z9 z10 z11 z12 z13:Sl) (δ:Dv) (q:¬ c / 3 % 3 = 0) (sl:slD S (some (1 + x)) (some (1 + 2 * x)) = some (.list L)) (lp:loop (gN 6) jib L [.fz S,.fz (.int c),z2,.fz (.int x),z4,z5,z6,z7,z8,z9,z10,z11,z12,z13] = some (.nx,δ)):jtD [.fz S,.fz (.int c),z2,.fz (.int x),z4,z5,z6,z7,z8,z9,z10,z11,z12,z13] = some (.nx,δ):=by
  have m:=m2 x
  simp [jtD,q,m,sl,lp]
theorem a8 (z0 z1 z3 z5 z6 z7 z8 z9 z10 z11 z12 z13:Sl) (w:D) (L:List D):juh [z0,z1,.fz w,z3,.fz (.list L),z5,z6,z7,z8,z9,z10,z11,z12,z13] = some (.nx,[z0,z1,.fz w,z3,.fz (.list L),z5,z6,.fz (.tuple [w,.tuple L]),z8,z9,z10,z11,z12,z13]):=by
  simp [juh]
theorem a9 (z0 z1 z3 z4 z6 z7 z8 z9 z10 z11 z12 z13:Sl) (w:D) (L:List D):jug [z0,z1,.fz w,z3,z4,.fz (.list L),z6,z7,z8,z9,z10,z11,z12,z13] = some (.nx,[z0,z1,.fz w,z3,z4,.fz (.list L),z6,z7,.fz (.tuple [w,.tuple L]),z9,z10,z11,z12,z13]):=by
  simp [jug]
theorem jzs (z0 z2 z3 z4 z5 z6 z9 z10 z11 z12 z13:Sl) (C1 C2:D) (c:Int) (q:c / 9 % 5 = 1) (h:jbE [C1,C2,.int (c / 45)] = some (.bool true)):jkk [z0,.fz (.int c),z2,z3,z4,z5,z6,.fz C1,.fz C2,z9,z10,z11,z12,z13] = some (.rt (.bool true),[z0,.fz (.int c),z2,z3,z4,z5,z6,.fz C1,.fz C2,z9,z10,z11,z12,z13]):=by
  simp [jkk,q,h]
theorem jzt (z0 z2 z3 z4 z5 z6 z7 z8 z9 z10 z11 z12 z13:Sl) (c:Int) (q:¬ c / 9 % 5 = 1):jkk [z0,.fz (.int c),z2,z3,z4,z5,z6,z7,z8,z9,z10,z11,z12,z13] = some (.nx,[z0,.fz (.int c),z2,z3,z4,z5,z6,z7,z8,z9,z10,z11,z12,z13]):=by
  simp [jkk,q]
theorem a11 (z0 z1 z2 z3 z4 z5 z6 z8 z9 z10 z11 z12 z13:Sl) (C F:D) (h:jaG [C] = some F):jm2 [z0,z1,z2,z3,z4,z5,z6,.fz C,z8,z9,z10,z11,z12,z13] = some (.nx,[z0,z1,z2,z3,z4,z5,z6,.fz C,z8,.fz F,z10,z11,z12,z13]):=by
  simp [jm2,h]
theorem a12 (z0 z1 z2 z3 z4 z5 z6 z7 z9 z10 z11 z12 z13:Sl) (C F:D) (h:jaG [C] = some F):jm1 [z0,z1,z2,z3,z4,z5,z6,z7,.fz C,z9,z10,z11,z12,z13] = some (.nx,[z0,z1,z2,z3,z4,z5,z6,z7,.fz C,z9,.fz F,z11,z12,z13]):=by
  simp [jm1,h]
theorem a13 (S R:D) (w x y:Int) (z1 z4 z5 z6 z7 z8 z9 z10 z11 z12 z13:Sl) (e:atI [PyData.int 8,.int 8,.int 8,.int 1] (w - 1) = some (.int y)) (sl:slD S (some (1 + 2 * x)) (some (1 + 2 * x + y)) = some R):jm0 [.fz S,z1,.fz (.int w),.fz (.int x),z4,z5,z6,z7,z8,z9,z10,z11,z12,z13] = some (.nx,[.fz S,z1,.fz (.int w),.fz (.int x),z4,z5,z6,z7,z8,z9,z10,.fz R,z12,z13]):=by
  have m:=m2 x
  simp [jm0,m,e,sl]
theorem a14 (z0 z2 z3 z4 z5 z6 z7 z8 z9 z10 z12 z13:Sl) (c:Int) (L M:List D) (δ:Dv) (ad:ja6 (.list L) (.list [.int (4 + 4 * (c / 45 % 8))]) = some (.list M)) (lp:loop (gN 6) jia M [z0,.fz (.int c),z2,z3,z4,z5,z6,z7,z8,z9,z10,.fz (.list L),z12,z13] = some (.nx,δ)):jmZ [z0,.fz (.int c),z2,z3,z4,z5,z6,z7,z8,z9,z10,.fz (.list L),z12,z13] = some (.nx,δ):=by
  have m:jeA (.int 4) (.int (c / 45 % 8)) = some (.int (4 * (c / 45 % 8))):=jgO (.of_left (by decide))
  simp [jmZ,m,ad,lp]
theorem jnK {n:Nat} (h1:1 ≤ n) (hn:n ≤ 4) {as bs:List Row} (ha:∀ r ∈ as,r.ok n) (hb:∀ r ∈ bs,r.ok n) (hl:as.length ≤ 100) (hl':bs.length ≤ 100) (ns:List Int) (hns:ns.length ≤ 63) (c:Int) (x:Nat) (z6:Sl):∃ δ,(jam juh (jam jug (jam jkk (jam jm2 (jam jm1 (jam jm0 (jam jmZ (jr3)))))))) [.fz (.list (ns.map .int)),.fz (.int c),.fz (.int (n:Nat)),.fz (.int (x:Nat)),.fz (rsD as),.fz (rsD bs),z6,.un,.un,.un,.un,.un,.un,.un] = some (.rt (.bool true),δ):=by
  have e8:=a8 (.fz (.list (ns.map .int))) (.fz (.int c)) (.fz (.int (x:Nat))) (.fz (rsD bs)) z6 .un .un .un .un .un .un .un (.int (n:Nat)) (as.map rowD)
  have e9:=a9 (.fz (.list (ns.map .int))) (.fz (.int c)) (.fz (.int (x:Nat))) (.fz (rsD as)) z6 (.fz (cpD n as)) .un .un .un .un .un .un (.int (n:Nat)) (bs.map rowD)
  by_cases q:c / 9 % 5 = 1
  · exact ⟨_,(jdk e8).trans ((jdk e9).trans (jtL (jzs _ _ _ _ _ _ _ _ _ _ _ _ _ _ q (jl1 h1 hn ha hb hl hl' _))))⟩
  · obtain ⟨y,ey⟩:∃ y:Int,atI [PyData.int 8,.int 8,.int 8,.int 1] ((n:Int) - 1) = some (.int y):=by
      rcases (by omega:n = 1 ∨ n = 2 ∨ n = 3 ∨ n = 4) with rfl | rfl | rfl | rfl
      · exact ⟨8,rfl⟩
      · exact ⟨8,rfl⟩
      · exact ⟨8,rfl⟩
      · exact ⟨1,rfl⟩
    obtain ⟨cs,cl,sl⟩:=joc ns (some (1 + 2 * (x:Int))) (some (1 + 2 * (x:Int) + y))
    have ad:ja6 (.list (cs.map .int)) (.list [.int (4 + 4 * (c / 45 % 8))]) = some (.list ((cs ++ [4 + 4 * (c / 45 % 8)]).map .int)):=by
      rw [List.map_append]
      exact if_pos (by rw [List.length_map,List.length_singleton]; exact Nat.le_trans (by omega:cs.length + 1 ≤ 100) (by decide))
    obtain ⟨y6,y12,y13,lp⟩:=jnL hn ha hb hl hl' (.fz (.list (ns.map .int))) (.fz (.int c)) (.fz (.int (x:Nat))) (.fz (rsD as)) (.fz (rsD bs)) (.fz (.list (cs.map .int))) (cs ++ [4 + 4 * (c / 45 % 8)]) z6 .un .un
    exact ⟨_,(jdk e8).trans ((jdk e9).trans ((jdk (jzt _ _ _ _ _ _ _ _ _ _ _ _ _ c q)).trans ((jdk (a11 _ _ _ _ _ _ _ _ _ _ _ _ _ _ _ (jlw (by omega) as ha))).trans ((jdk (a12 _ _ _ _ _ _ _ _ _ _ _ _ _ _ _ (jlw (by omega) bs hb))).trans ((jdk (a13 _ _ _ _ _ _ _ _ _ _ _ _ _ _ _ _ ey sl)).trans ((jdk (a14 _ _ _ _ _ _ _ _ _ _ _ _ _ _ _ _ ad lp)).trans rfl))))))⟩
theorem law_true (ns:List Int) (hl:ns.length ≤ 63):js8 [.list (ns.map .int)] = some (.bool true):=by
  obtain ⟨c,hc⟩:=jpU ns 0 (by decide)
  obtain ⟨n,hw⟩:∃ w:Nat,(if c / 75 % 12 = 7 then 4 else 1 + c % 3) = (w:Int):=⟨(if c / 75 % 12 = 7 then 4 else 1 + c % 3).toNat,by split <;> omega⟩
  have n14:1 ≤ n ∧ n ≤ 4:=by split at hw <;> omega
  obtain ⟨x,ex,hx⟩:∃ x:Nat,atI [PyData.int 12,.int 7,.int 3,.int 2] ((n:Int) - 1) = some (.int (x:Nat)) ∧ x ≤ 12:=by
    rcases (by omega:n = 1 ∨ n = 2 ∨ n = 3 ∨ n = 4) with rfl | rfl | rfl | rfl
    · exact ⟨12,rfl,by decide⟩
    · exact ⟨7,rfl,by decide⟩
    · exact ⟨3,rfl,by decide⟩
    · exact ⟨2,rfl,by decide⟩
  obtain ⟨cs,cl,sl⟩:=jzh ns x
  obtain ⟨rs,rl,ro,P1⟩:=jm7 n n14.1 cs (by omega) (jAC (.list (ns.map .int)) (x:Nat) (cs.map .int) (.fz (.int c)) (.fz (.int (n:Nat))) .un .un .un .un .un .un .un .un .un .un sl) rfl
  obtain ⟨ds,dl,sd⟩:=joc ns (some (1 + (x:Int))) (some (1 + 2 * (x:Int)))
  have go:jqG (jan joD [.list (ns.map .int)]) = (jam jtD (jam juh (jam jug (jam jkk (jam jm2 (jam jm1 (jam jm0 (jam jmZ (jr3))))))))) [.fz (.list (ns.map .int)),.fz (.int c),.fz (.int (n:Nat)),.fz (.int (x:Nat)),.fz (rsD rs),.fz (rsD rs),.un,.un,.un,.un,.un,.un,.un,.un]:=
    (congrFun jvt _).trans ((jdk (a1 _ _ _ _ _ _ _ _ _ _ _ _ _ _ _ hc)).trans ((jdk (a2 _ _ _ _ _ _ _ _ _ _ _ _ _ _)).trans ((jdk (a3 _ _ _ _ _ _ _ _ _ _ _ _ _ _ hw)).trans ((jdk (a4 _ _ _ _ _ _ _ _ _ _ _ _ _ _ _ ex)).trans ((jdk (a5 _ _ _ _ _ _ _ _ _ _ _ _ _ _ _ P1)).trans (jdk (a6 _ _ _ _ _ _ _ _ _ _ _ _ _ _ (by rw [List.length_map]; omega))))))))
  by_cases q:c / 3 % 3 = 0
  · obtain ⟨bs,bl,bo,P2⟩:=jm7 n n14.1 ds (by omega) (jAB (.list (ns.map .int)) (x:Nat) (ds.map .int) (.fz (.int c)) (.fz (.int (n:Nat))) (.fz (rsD rs)) (.fz (rsD rs)) .un .un .un .un .un .un .un .un sd) rfl
    obtain ⟨δ,h⟩:=jnK n14.1 n14.2 ro bo (by omega) (by omega) ns hl c x .un
    exact jkf rfl (go.trans ((jdk (jBk _ _ _ _ _ _ _ _ _ _ _ _ _ _ _ q P2)).trans h))
  · obtain ⟨bs,y6,lp,bo,bl⟩:=jnM n14.1 x hx (.fz (.list (ns.map .int))) (.fz (.int c)) (.fz (rsD rs)) .un .un .un .un .un .un .un ds rs .un ro (by omega)
    obtain ⟨δ,h⟩:=jnK n14.1 n14.2 ro bo (by omega) (by omega) ns hl c x y6
    exact jkf rfl (go.trans ((jdk (jBl _ _ _ _ _ _ _ _ _ _ _ _ _ _ _ _ q sd lp)).trans h))
end GN
namespace GN
open PySem PySem.Spec PyProof.Rows L2 VL
structure Txt (mg:Str → Option Value):Prop where
  min:mg "min" = none
  max:mg "max" = none
  tuple:mg "tuple" = none
  range:mg "range" = none
  len:mg "len" = none
  all:mg "all" = none
  list:mg "list" = none
  isinstance:mg "isinstance" = none
  ValueError:mg "ValueError" = none
  bool:mg "bool" = none
section
variable {P:Program} {w:World} {K:PySem.W.Frag} {mg:Str → Option Value} {base:Heap}
theorem jhP:FnScope jfP ["joined","most"] (jah jdp):=⟨rfl,rfl,rfl,by decide +kernel,rfl,by decide +kernel,by decide +kernel⟩
theorem jhR {f:Addr} {fd:FuncData} {dV:Value} (F:FunV K "twos_shared" "twos_shared" jdp f fd dV) (T:Txt mg):FnOk P w K mg base CX0 1 f fd ["joined","most"] (spD K jbn):=
  jdH (k:=0) (b:=jdx) F jhP fun cdv A outer s H E hr=>(jaf (jbg (jau (jed hr.units) (jaa 0) jad (jar _)) (jaj (jaq (jaa 1))) jaJ) (jaj (jaq (jaI (jzk rfl) rfl T.min (by decide +kernel) (jab (jaa 1) (jab (jag jbp (jn3 (jag jgA (jaa 0) (jf6 jf8 (jaa 0)))) jad) jae))))))
theorem jlX:FnScope jkb ["a","b","c","d"] (jah jfy):=⟨rfl,rfl,rfl,by decide +kernel,rfl,by decide +kernel,by decide +kernel⟩
theorem jma {f:Addr} {fd:FuncData} {dV:Value} (F:FunV K "by_root" "by_root" jfy f fd dV) (T:Txt mg):FnOk P w K mg base CX0 1 f fd ["a","b","c","d"] (spD K jcJ):=
  jdH (k:=0) (b:=jhH) F jlX fun cdv A outer s H E hr=>(jaj (jaq (jaA (jab (jag jbp (jaa 1) (jaa 3)) (jab (jag jaZ (jaa 0) (jaa 2)) (jab (jag jaZ (jaa 1) (jaa 3)) (jab (jag jbp (jaa 2) (jaa 0)) jae)))))))
theorem sc_number:FnScope jjj ["a","b","c","d","k"] (jah jeZ):=⟨rfl,rfl,rfl,by decide +kernel,rfl,by decide +kernel,by decide +kernel⟩
theorem jnl {f:Addr} {fd:FuncData} {dV:Value} (F:FunV K "number" "number" jeZ f fd dV) (T:Txt mg) (C_twos_shared:Cal P w K mg base "twos_shared" 1 jbn []) (C_by_root:Cal P w K mg base "by_root" 1 jcJ []):FnOk P w K mg base CX0 2 f fd ["a","b","c","d","k"] (spD K jcI):=
  jdH (k:=1) (b:=jgT) F sc_number fun cdv A outer s H E hr=>(jaf (jap 5 sc_number.nd (jak C_twos_shared (hr.mono (by decide)) rfl (jab (jag jtY (jag jtY (jag jtY (jaa 0) (jaa 1)) (jaa 2)) (jaa 3)) (jab (jag jcv (jaa 4) jad) jae)))) (jaf (jap 0 sc_number.nd (jag jqv (jaa 0) (jaa 5))) (jaf (jap 1 sc_number.nd (jag jqv (jaa 1) (jaa 5))) (jaf (jap 2 sc_number.nd (jag jqv (jaa 2) (jaa 5))) (jaf (jap 3 sc_number.nd (jag jqv (jaa 3) (jaa 5))) (jaf (jap 4 sc_number.nd (jag jbp (jaa 4) (jag jbR jad (jaa 5)))) (jaf (jbg (WV.tv (jir (jau (jed hr.units) (jaa 4) jad (jar _)) (jir (jau (jed hr.units) (jag jbF (jag jbp (jaa 0) (jaa 2)) jad) jad (jar _)) (jgf (jau (jed hr.units) (jag jbF (jag jbp (jaa 1) (jaa 3)) jad) jad (jar _)))))) (jaj (jaq (jaA (jab (jaa 0) (jab (jaa 1) (jab (jaa 2) (jab (jaa 3) (jab (jaa 4) jae)))))))) jaJ) (jaf (jap 6 sc_number.nd (jak C_by_root (hr.mono (by decide)) rfl (jab (jaa 0) (jab (jaa 1) (jab (jaa 2) (jab (jaa 3) jae)))))) (jaj (jaq (jaA (jab (jag jcv (jai jas (jaa 6) jad (fun _ _=>rfl)) jad) (jab (jag jcv (jai jas (jaa 6) jad (fun _ _=>rfl)) jad) (jab (jag jcv (jai jas (jaa 6) jad (fun _ _=>rfl)) jad) (jab (jag jcv (jai jas (jaa 6) jad (fun _ _=>rfl)) jad) (jab (jag jbp (jaa 4) jad) jae))))))))))))))))
theorem sc_parts_over:FnScope jgo ["x","k"] (jah jdS):=⟨rfl,rfl,rfl,by decide +kernel,rfl,by decide +kernel,by decide +kernel⟩
theorem jiM {f:Addr} {fd:FuncData} {dV:Value} (F:FunV K "parts_over" "parts_over" jdS f fd dV) (T:Txt mg) (C_by_root:Cal P w K mg base "by_root" 1 jcJ []):FnOk P w K mg base CX0 2 f fd ["x","k"] (spD K jbL):=
  jdH (k:=1) (b:=jdZ) F sc_parts_over fun cdv A outer s H E hr=>(jaf (jap 2 sc_parts_over.nd (jag jbp (jaa 1) (jai jas (jaa 0) jad (fun _ _=>rfl)))) (jaf (jap 3 sc_parts_over.nd (jag jcv (jaa 2) jad)) (jaf (jap 4 sc_parts_over.nd (jag jfb (jai jas (jaa 0) jad (fun _ _=>rfl)) (jaa 3))) (jaf (jap 5 sc_parts_over.nd (jag jfb (jai jas (jaa 0) jad (fun _ _=>rfl)) (jaa 3))) (jaf (jap 6 sc_parts_over.nd (jag jfb (jai jas (jaa 0) jad (fun _ _=>rfl)) (jaa 3))) (jaf (jap 7 sc_parts_over.nd (jag jfb (jai jas (jaa 0) jad (fun _ _=>rfl)) (jaa 3))) (jaf (jbg (jau (jed hr.units) (jag jbF (jaa 2) jad) jad (jar _)) (jaj (jaq (jak C_by_root (hr.mono (by decide)) rfl (jab (jaa 4) (jab (jaa 5) (jab (jaa 6) (jab (jaa 7) jae))))))) jaJ) (jaj (jaq (jaA (jab (jaa 4) (jab (jaa 5) (jab (jaa 6) (jab (jaa 7) jae))))))))))))))
theorem sc_plus:FnScope jrR ["x","y"] (jah jli):=⟨rfl,rfl,rfl,by decide +kernel,rfl,by decide +kernel,by decide +kernel⟩
theorem jsv {f:Addr} {fd:FuncData} {dV:Value} (F:FunV K "plus" "plus" jli f fd dV) (T:Txt mg) (C_parts_over:Cal P w K mg base "parts_over" 2 jbL []) (C_number:Cal P w K mg base "number" 2 jcI []):FnOk P w K mg base CX0 3 f fd ["x","y"] (spD K jfg):=
  jdH (k:=2) (b:=jov) F sc_plus fun cdv A outer s H E hr=>(jaf (jap 2 sc_plus.nd (jaI (jto rfl) rfl T.max (by decide +kernel) (jab (jai jas (jaa 0) jad (fun _ _=>rfl)) (jab (jai jas (jaa 1) jad (fun _ _=>rfl)) jae)))) (jaf (jap 3 sc_plus.nd (jak C_parts_over (hr.mono (by decide)) rfl (jab (jaa 0) (jab (jaa 2) jae)))) (jaf (jap 4 sc_plus.nd (jak C_parts_over (hr.mono (by decide)) rfl (jab (jaa 1) (jab (jaa 2) jae)))) (jaj (jaq (jak C_number (hr.mono (by decide)) rfl (jab (jag jaZ (jai jas (jaa 3) jad (fun _ _=>rfl)) (jai jas (jaa 4) jad (fun _ _=>rfl))) (jab (jag jaZ (jai jas (jaa 3) jad (fun _ _=>rfl)) (jai jas (jaa 4) jad (fun _ _=>rfl))) (jab (jag jaZ (jai jas (jaa 3) jad (fun _ _=>rfl)) (jai jas (jaa 4) jad (fun _ _=>rfl))) (jab (jag jaZ (jai jas (jaa 3) jad (fun _ _=>rfl)) (jai jas (jaa 4) jad (fun _ _=>rfl))) (jab (jaa 2) jae)))))))))))
theorem jpi:FnScope joB ["x","y"] (jah jiG):=⟨rfl,rfl,rfl,by decide +kernel,rfl,by decide +kernel,by decide +kernel⟩
theorem jpz {f:Addr} {fd:FuncData} {dV:Value} (F:FunV K "times" "times" jiG f fd dV) (T:Txt mg) (C_number:Cal P w K mg base "number" 2 jcI []):FnOk P w K mg base CX0 3 f fd ["x","y"] (spD K jcd):=
  jdH (k:=2) (b:=jkT) F jpi fun cdv A outer s H E hr=>(jaj (jaq (jak C_number (hr.mono (by decide)) rfl (jab (jag jbp (jag jbp (jag jbp (jag jbR (jai jas (jaa 0) jad (fun _ _=>rfl)) (jai jas (jaa 1) jad (fun _ _=>rfl))) (jag jbR (jai jas (jaa 0) jad (fun _ _=>rfl)) (jai jas (jaa 1) jad (fun _ _=>rfl)))) (jag jbR (jai jas (jaa 0) jad (fun _ _=>rfl)) (jai jas (jaa 1) jad (fun _ _=>rfl)))) (jag jbR (jai jas (jaa 0) jad (fun _ _=>rfl)) (jai jas (jaa 1) jad (fun _ _=>rfl)))) (jab (jag jbp (jag jbp (jag jaZ (jag jbR (jai jas (jaa 0) jad (fun _ _=>rfl)) (jai jas (jaa 1) jad (fun _ _=>rfl))) (jag jbR (jai jas (jaa 0) jad (fun _ _=>rfl)) (jai jas (jaa 1) jad (fun _ _=>rfl)))) (jag jbR (jai jas (jaa 0) jad (fun _ _=>rfl)) (jai jas (jaa 1) jad (fun _ _=>rfl)))) (jag jbR (jai jas (jaa 0) jad (fun _ _=>rfl)) (jai jas (jaa 1) jad (fun _ _=>rfl)))) (jab (jag jbp (jag jaZ (jag jaZ (jag jbR (jai jas (jaa 0) jad (fun _ _=>rfl)) (jai jas (jaa 1) jad (fun _ _=>rfl))) (jag jbR (jai jas (jaa 0) jad (fun _ _=>rfl)) (jai jas (jaa 1) jad (fun _ _=>rfl)))) (jag jbR (jai jas (jaa 0) jad (fun _ _=>rfl)) (jai jas (jaa 1) jad (fun _ _=>rfl)))) (jag jbR (jai jas (jaa 0) jad (fun _ _=>rfl)) (jai jas (jaa 1) jad (fun _ _=>rfl)))) (jab (jag jaZ (jag jaZ (jag jaZ (jag jbR (jai jas (jaa 0) jad (fun _ _=>rfl)) (jai jas (jaa 1) jad (fun _ _=>rfl))) (jag jbR (jai jas (jaa 0) jad (fun _ _=>rfl)) (jai jas (jaa 1) jad (fun _ _=>rfl)))) (jag jbR (jai jas (jaa 0) jad (fun _ _=>rfl)) (jai jas (jaa 1) jad (fun _ _=>rfl)))) (jag jbR (jai jas (jaa 0) jad (fun _ _=>rfl)) (jai jas (jaa 1) jad (fun _ _=>rfl)))) (jab (jag jaZ (jai jas (jaa 0) jad (fun _ _=>rfl)) (jai jas (jaa 1) jad (fun _ _=>rfl))) jae))))))))
theorem jlY:FnScope jkc ["x"] (jah jfz):=⟨rfl,rfl,rfl,by decide +kernel,rfl,by decide +kernel,by decide +kernel⟩
theorem jmb {f:Addr} {fd:FuncData} {dV:Value} (F:FunV K "against" "against" jfz f fd dV) (T:Txt mg):FnOk P w K mg base CX0 1 f fd ["x"] (spD K jdd):=
  jdH (k:=0) (b:=jhI) F jlY fun cdv A outer s H E hr=>(jaj (jaq (jaA (jab (jf6 jf8 (jai jas (jaa 0) jad (fun _ _=>rfl))) (jab (jf6 jf8 (jai jas (jaa 0) jad (fun _ _=>rfl))) (jab (jf6 jf8 (jai jas (jaa 0) jad (fun _ _=>rfl))) (jab (jf6 jf8 (jai jas (jaa 0) jad (fun _ _=>rfl))) (jab (jai jas (jaa 0) jad (fun _ _=>rfl)) jae))))))))
theorem sc_turned:FnScope jlP ["x","e"] (jah jgJ):=⟨rfl,rfl,rfl,by decide +kernel,rfl,by decide +kernel,by decide +kernel⟩
theorem jnk {f:Addr} {fd:FuncData} {dV:Value} (F:FunV K "turned" "turned" jgJ f fd dV) (T:Txt mg):FnOk P w K mg base CX0 1 f fd ["x","e"] (spD K jcr):=
  jdH (k:=0) (b:=jjd) F sc_turned fun cdv A outer s H E hr=>(jaf (jap 2 sc_turned.nd (jaA (jab (jai jas (jaa 0) jad (fun _ _=>rfl)) (jab (jai jas (jaa 0) jad (fun _ _=>rfl)) (jab (jai jas (jaa 0) jad (fun _ _=>rfl)) (jab (jai jas (jaa 0) jad (fun _ _=>rfl)) (jab (jf6 jf8 (jai jas (jaa 0) jad (fun _ _=>rfl))) (jab (jf6 jf8 (jai jas (jaa 0) jad (fun _ _=>rfl))) (jab (jf6 jf8 (jai jas (jaa 0) jad (fun _ _=>rfl))) (jab (jf6 jf8 (jai jas (jaa 0) jad (fun _ _=>rfl))) jae)))))))))) (jaj (jaq (jaA (jab (jai jas (jaa 2) (jag jbF (jag jbp jad (jaa 1)) jad) (fun _ _=>rfl)) (jab (jai jas (jaa 2) (jag jbF (jag jbp jad (jaa 1)) jad) (fun _ _=>rfl)) (jab (jai jas (jaa 2) (jag jbF (jag jbp jad (jaa 1)) jad) (fun _ _=>rfl)) (jab (jai jas (jaa 2) (jag jbF (jag jbp jad (jaa 1)) jad) (fun _ _=>rfl)) (jab (jai jas (jaa 0) jad (fun _ _=>rfl)) jae)))))))))
theorem jm5:FnScope jlQ ["x"] (jah jgK):=⟨rfl,rfl,rfl,by decide +kernel,rfl,by decide +kernel,by decide +kernel⟩
theorem jnm {f:Addr} {fd:FuncData} {dV:Value} (F:FunV K "halved" "halved" jgK f fd dV) (T:Txt mg) (C_number:Cal P w K mg base "number" 2 jcI []):FnOk P w K mg base CX0 3 f fd ["x"] (spD K jcY):=
  jdH (k:=2) (b:=jje) F jm5 fun cdv A outer s H E hr=>(jaj (jaq (jak C_number (hr.mono (by decide)) rfl (jab (jai jas (jaa 0) jad (fun _ _=>rfl)) (jab (jai jas (jaa 0) jad (fun _ _=>rfl)) (jab (jai jas (jaa 0) jad (fun _ _=>rfl)) (jab (jai jas (jaa 0) jad (fun _ _=>rfl)) (jab (jag jaZ (jai jas (jaa 0) jad (fun _ _=>rfl)) jad) jae))))))))
theorem jph:FnScope joA ["wires","wire"] (jah jiF):=⟨rfl,rfl,rfl,by decide +kernel,rfl,by decide +kernel,by decide +kernel⟩
theorem jpy {f:Addr} {fd:FuncData} {dV:Value} (F:FunV K "worth" "worth" jiF f fd dV) (T:Txt mg):FnOk P w K mg base CX0 1 f fd ["wires","wire"] (spD K jek):=
  jdH (k:=0) (b:=jkS) F jph fun cdv A outer s H E hr=>(jaj (jaq (jag jfb jad (jag jbp (jag jbp (jaa 0) jad) (jaa 1)))))
theorem jjv:FnScope jfs ["wires","place"] (jah jcs):=⟨rfl,rfl,rfl,by decide +kernel,rfl,by decide +kernel,by decide +kernel⟩
theorem jjH {f:Addr} {fd:FuncData} {dV:Value} (F:FunV K "beginning" "beginning" jcs f fd dV) (T:Txt mg) (T_NOUGHT:TopV K mg "NOUGHT" (.tuple [.int 0,.int 0,.int 0,.int 0,.int 0])) (T_ONE:TopV K mg "ONE" (.tuple [.int 1,.int 0,.int 0,.int 0,.int 0])):FnOk P w K mg base CX0 1 f fd ["wires","place"] (spD K jbD):=
  jdH (k:=0) (b:=jfr) F jjv fun cdv A outer s H E hr=>(jaj (jaq (jb7 jen rfl T.tuple (by decide +kernel) (jab (jel (vars:=["p"]) (caps:=[(1,"place")]) (by change BlkOk (jah jcs).names jfs _ _ _; exact ⟨rfl,by decide +kernel,by decide +kernel,by decide +kernel,by decide +kernel⟩) rfl (jaW rfl T.range (jab (jag jfb jad (jaa 0)) jae)) jcM (fun _ _ _ _=>jbC (i:=0) (show (["p","place"]:List Str).Nodup by decide +kernel) rfl (Or.inl rfl) (.inr rfl)) (fun _ _ _ _=>(jlC (jau (jed hr.units) (jaa 0) (jaa 1) (jar _)) (jiZ T_ONE rfl) (jiZ T_NOUGHT rfl)))) jae))))
theorem sc_swung:FnScope joC ["state","bit"] (jah jiH):=⟨rfl,rfl,rfl,by decide +kernel,rfl,by decide +kernel,by decide +kernel⟩
theorem jpA {f:Addr} {fd:FuncData} {dV:Value} (F:FunV K "swung" "swung" jiH f fd dV) (T:Txt mg) (C_halved:Cal P w K mg base "halved" 3 jcY []) (C_plus:Cal P w K mg base "plus" 3 jfg []) (C_against:Cal P w K mg base "against" 1 jdd []):FnOk P w K mg base CX0 4 f fd ["state","bit"] (spD K jeK):=
  jdH (k:=3) (b:=jkU) F sc_swung fun cdv A outer s H E hr=>(jaf (jh4 2 sc_swung.nd jae) (jaf (jcN PassesOwn.never rfl (jaW rfl T.range (jab (jaI jee rfl T.len (by decide +kernel) (jab (jaa 0) jae)) jae)) (jbW 3 sc_swung.nd) (jaj (jbg (jau (jed hr.units) (jag jgA (jaa 3) (jaa 1)) jad (jar _)) (jaj (jh5 2 (jak C_halved (hr.mono (by decide)) rfl (jab (jak C_plus (hr.mono (by decide)) rfl (jab (jai jas (jaa 0) (jaa 3) (fun _ _=>rfl)) (jab (jai jas (jaa 0) (jag jjY (jaa 3) (jaa 1)) (fun _ _=>rfl)) jae))) jae)))) (jaj (jh5 2 (jak C_halved (hr.mono (by decide)) rfl (jab (jak C_plus (hr.mono (by decide)) rfl (jab (jai jas (jaa 0) (jag jjY (jaa 3) (jaa 1)) (fun _ _=>rfl)) (jab (jak C_against (hr.mono (by decide)) rfl (jab (jai jas (jaa 0) (jaa 3) (fun _ _=>rfl)) jae)) jae))) jae))))))) (jaj (jlV 2 (jaq (jb7 jen rfl T.tuple (by decide +kernel) (jab (jaa 2) jae)))))))
theorem jg4:FnScope jd9 ["state","held","e"] (jah jcg):=⟨rfl,rfl,rfl,by decide +kernel,rfl,by decide +kernel,by decide +kernel⟩
theorem jhd {f:Addr} {fd:FuncData} {dV:Value} (F:FunV K "turned_where" "turned_where" jcg f fd dV) (T:Txt mg) (C_turned:Cal P w K mg base "turned" 1 jcr []):FnOk P w K mg base CX0 2 f fd ["state","held","e"] (spD K jaT):=
  jdH (k:=1) (b:=jd6) F jg4 fun cdv A outer s H E hr=>(jaj (jaq (jb7 jen rfl T.tuple (by decide +kernel) (jab (jel (vars:=["p"]) (caps:=[(0,"state"),(1,"held"),(2,"e")]) (by change BlkOk (jah jcg).names jd9 _ _ _; exact ⟨rfl,by decide +kernel,by decide +kernel,by decide +kernel,by decide +kernel⟩) rfl (jaW rfl T.range (jab (jaI jee rfl T.len (by decide +kernel) (jab (jaa 0) jae)) jae)) jcM (fun _ _ _ _=>jbC (i:=0) (show (["p","state","held","e"]:List Str).Nodup by decide +kernel) rfl (Or.inl rfl) (.inr rfl)) (fun _ _ _ _=>(jlC (jau (jed hr.units) (jag jgA (jaa 0) (jaa 2)) (jaa 2) (jar _)) (jak C_turned (hr.mono (by decide)) rfl (jab (jai jas (jaa 1) (jaa 0) (fun _ _=>rfl)) (jab (jaa 3) jae))) (jai jas (jaa 1) (jaa 0) (fun _ _=>rfl))))) jae))))
theorem jgt:FnScope jdM ["state","held","bit"] (jah jb0):=⟨rfl,rfl,rfl,by decide +kernel,rfl,by decide +kernel,by decide +kernel⟩
theorem jgx {f:Addr} {fd:FuncData} {dV:Value} (F:FunV K "flipped_where" "flipped_where" jb0 f fd dV) (T:Txt mg):FnOk P w K mg base CX0 1 f fd ["state","held","bit"] (spD K jaO):=
  jdH (k:=0) (b:=jdJ) F jgt fun cdv A outer s H E hr=>(jaj (jaq (jb7 jen rfl T.tuple (by decide +kernel) (jab (jel (vars:=["p"]) (caps:=[(0,"state"),(1,"held"),(2,"bit")]) (by change BlkOk (jah jb0).names jdM _ _ _; exact ⟨rfl,by decide +kernel,by decide +kernel,by decide +kernel,by decide +kernel⟩) rfl (jaW rfl T.range (jab (jaI jee rfl T.len (by decide +kernel) (jab (jaa 0) jae)) jae)) jcM (fun _ _ _ _=>jbC (i:=0) (show (["p","state","held","bit"]:List Str).Nodup by decide +kernel) rfl (Or.inl rfl) (.inr rfl)) (fun _ _ _ _=>(jlC (jau (jed hr.units) (jag jgA (jaa 0) (jaa 2)) (jaa 2) (jar _)) (jai jas (jaa 1) (jag jjY (jaa 0) (jaa 3)) (fun _ _=>rfl)) (jai jas (jaa 1) (jaa 0) (fun _ _=>rfl))))) jae))))
theorem jjt:FnScope jhM ["place","both"] (jah jef):=⟨rfl,rfl,rfl,by decide +kernel,rfl,by decide +kernel,by decide +kernel⟩
theorem jjG {f:Addr} {fd:FuncData} {dV:Value} (F:FunV K "exchanged" "exchanged" jef f fd dV) (T:Txt mg):FnOk P w K mg base CX0 1 f fd ["place","both"] (spD K jbP):=
  jdH (k:=0) (b:=jeo) F jjt fun cdv A outer s H E hr=>(jaj (jaq (jlC (jau jwZ (jag jgA (jaa 0) (jaa 1)) (jaA (jab jad (jab (jaa 1) jae))) (by with_unfolding_all rfl)) (jaa 0) (jag jjY (jaa 0) (jaa 1)))))
theorem sc_done:FnScope joE ["state","row"] (jah jjx):=⟨rfl,rfl,rfl,by decide +kernel,rfl,by decide +kernel,by decide +kernel⟩
theorem jsw {f:Addr} {fd:FuncData} {dV:Value} (F:FunV K "done" "done" jjx f fd dV) (T:Txt mg) (C_worth:Cal P w K mg base "worth" 1 jek []) (C_swung:Cal P w K mg base "swung" 4 jeK []) (C_turned_where:Cal P w K mg base "turned_where" 2 jaT []) (C_flipped_where:Cal P w K mg base "flipped_where" 1 jaO []) (C_exchanged:Cal P w K mg base "exchanged" 1 jbP []):FnOk P w K mg base CX0 5 f fd ["state","row"] (spD K jcO):=
  jdH (k:=4) (b:=jgn) F sc_done fun cdv A outer s H E hr=>(jaf (jap 2 sc_done.nd (jag jbp (jn3 (jaI jee rfl T.len (by decide +kernel) (jab (jaa 0) jae))) jad)) (jaf (jap 3 sc_done.nd (jak C_worth (hr.mono (by decide)) rfl (jab (jaa 2) (jab (jai jas (jaa 1) jad (fun _ _=>rfl)) jae)))) (jaf (jbg (jau (jed hr.units) (jai jas (jaa 1) jad (fun _ _=>rfl)) jaw (jar _)) (jaj (jaq (jak C_swung (hr.mono (by decide)) rfl (jab (jaa 0) (jab (jaa 3) jae))))) jaJ) (jaf (jbg (jau (jed hr.units) (jai jas (jaa 1) jad (fun _ _=>rfl)) jaw (jar _)) (jaj (jaq (jak C_turned_where (hr.mono (by decide)) rfl (jab (jaa 0) (jab (jaa 3) (jab (jai jas (jaa 1) jad (fun _ _=>rfl)) jae)))))) jaJ) (jaf (jbg (jau (jed hr.units) (jai jas (jaa 1) jad (fun _ _=>rfl)) jaw (jar _)) (jaj (jaq (jak C_flipped_where (hr.mono (by decide)) rfl (jab (jaa 0) (jab jad (jab (jaa 3) jae)))))) jaJ) (jaf (jap 4 sc_done.nd (jak C_worth (hr.mono (by decide)) rfl (jab (jaa 2) (jab (jai jas (jaa 1) jad (fun _ _=>rfl)) jae)))) (jaf (jbg (jau (jed hr.units) (jai jas (jaa 1) jad (fun _ _=>rfl)) jaw (jar _)) (jaj (jaq (jak C_flipped_where (hr.mono (by decide)) rfl (jab (jaa 0) (jab (jaa 3) (jab (jaa 4) jae)))))) jaJ) (jaf (jbg (jau (jed hr.units) (jai jas (jaa 1) jad (fun _ _=>rfl)) jaw (jar _)) (jaj (jaq (jak C_turned_where (hr.mono (by decide)) rfl (jab (jaa 0) (jab (jag jtY (jaa 3) (jaa 4)) (jab jad jae)))))) jaJ) (jaj (jaq (jb7 jen rfl T.tuple (by decide +kernel) (jab (jel (vars:=["p"]) (caps:=[(0,"state"),(3,"first"),(4,"second")]) (by change BlkOk (jah jjx).names joE _ _ _; exact ⟨rfl,by decide +kernel,by decide +kernel,by decide +kernel,by decide +kernel⟩) rfl (jaW rfl T.range (jab (jaI jee rfl T.len (by decide +kernel) (jab (jaa 0) jae)) jae)) jcM (fun _ _ _ _=>jbC (i:=0) (show (["p","state","first","second"]:List Str).Nodup by decide +kernel) rfl (Or.inl rfl) (.inr rfl)) (fun _ _ _ _=>(jai jas (jaa 1) (jak C_exchanged (hr.mono (by decide)) rfl (jab (jaa 0) (jab (jag jtY (jaa 2) (jaa 3)) jae))) (fun _ _=>rfl)))) jae))))))))))))
theorem sc_all_done:FnScope jio ["state","rows"] (jah je1):=⟨rfl,rfl,rfl,by decide +kernel,rfl,by decide +kernel,by decide +kernel⟩
theorem jks {f:Addr} {fd:FuncData} {dV:Value} (F:FunV K "all_done" "all_done" je1 f fd dV) (T:Txt mg) (C_done:Cal P w K mg base "done" 5 jcO []):FnOk P w K mg base CX0 6 f fd ["state","rows"] (spD K jbt):=
  jdH (k:=5) (b:=jgd) F sc_all_done fun cdv A outer s H E hr=>(jaf (jcN PassesOwn.never rfl (jdb (jaa 1)) (jbW 2 sc_all_done.nd) (jaj (jap 0 sc_all_done.nd (jak C_done (hr.mono (by decide)) rfl (jab (jaa 0) (jab (jaa 2) jae)))))) (jaj (jaq (jaa 0))))
theorem jjw:FnScope jft ["rows"] (jah jdF):=⟨rfl,rfl,rfl,by decide +kernel,rfl,by decide +kernel,by decide +kernel⟩
theorem jjI {f:Addr} {fd:FuncData} {dV:Value} (F:FunV K "all_plain" "all_plain" jdF f fd dV) (T:Txt mg) (T_PLAIN:TopV K mg "PLAIN" (.tuple [.str "swing",.str "turn",.str "flip",.str "tie",.str "sign",.str "cross"])):FnOk P w K mg base CX0 1 f fd ["rows"] (spD K jaX):=
  jdH (k:=0) (b:=jep) F jjw fun cdv A outer s H E hr=>(jaj (jaq (jaI (jv9 rfl) rfl T.all (by decide +kernel) (jab (jel (vars:=["row"]) (caps:=[]) (by change BlkOk (jah jdF).names jft _ _ _; exact ⟨rfl,by decide +kernel,by decide +kernel,by decide +kernel,by decide +kernel⟩) rfl (jdb (jaa 0)) jcM (fun _ _ _ _=>jbC (i:=0) (show (["row"]:List Str).Nodup by decide +kernel) rfl (Or.inl rfl) (.inr rfl)) (fun _ _ _ _=>(jgl jwZ (jai jas (jaa 0) jad (fun _ _=>rfl)) (jiZ T_PLAIN rfl) (by with_unfolding_all rfl)))) jae))))
theorem jju:FnScope jjk ["circuit","place"] (jah jfx):=⟨rfl,rfl,rfl,by decide +kernel,rfl,by decide +kernel,by decide +kernel⟩
theorem jl7 {f:Addr} {fd:FuncData} {dV:Value} (F:FunV K "column" "column" jfx f fd dV) (T:Txt mg) (C_all_done:Cal P w K mg base "all_done" 6 jbt []) (C_all_plain:Cal P w K mg base "all_plain" 1 jaX []) (C_beginning:Cal P w K mg base "beginning" 1 jbD []) (E_HasLooks:ExcX K "HasLooks"):FnOk P w K mg base (CXX P w) 7 f fd ["circuit","place"] (spX K jdn):=
  jvQ (k:=6) (fx:=jhz) F jju fun cdv A outer s H E hr=>(jdj (jo4 (TV.lift (jfd (jfc (jak C_all_plain (hr.mono (by decide)) rfl (jab (jai jas (jaa 0) jad (fun _ _=>rfl)) jae))))) (jdj (jiv E_HasLooks rfl rfl (EV.lift jaw))) jtq))
theorem jnn {f:Addr} {fd:FuncData} {dV:Value} (F:FunV K "column" "column" jfx f fd dV) (T:Txt mg) (C_all_done:Cal P w K mg base "all_done" 6 jbt []) (C_all_plain:Cal P w K mg base "all_plain" 1 jaX []) (C_beginning:Cal P w K mg base "beginning" 1 jbD []):FnOk P w K mg base CX0 7 f fd ["circuit","place"] (spD K jaE):=
  jdH (k:=6) (b:=jjf) F jju fun cdv A outer s H E hr=>(jaf (jbg (jfd (jfc (jak C_all_plain (hr.mono (by decide)) rfl (jab (jai jas (jaa 0) jad (fun _ _=>rfl)) jae)))) (jaj jo9) jaJ) (jaj (jaq (jak C_all_done (hr.mono (by decide)) rfl (jab (jak C_beginning (hr.mono (by decide)) rfl (jab (jai jas (jaa 0) jad (fun _ _=>rfl)) (jab (jaa 1) jae))) (jab (jai jas (jaa 0) jad (fun _ _=>rfl)) jae))))))
theorem jkl:FnScope jin ["circuit"] (jah je0):=⟨rfl,rfl,rfl,by decide +kernel,rfl,by decide +kernel,by decide +kernel⟩
theorem jkq {f:Addr} {fd:FuncData} {dV:Value} (F:FunV K "is_plain" "is_plain" je0 f fd dV) (T:Txt mg) (C_all_plain:Cal P w K mg base "all_plain" 1 jaX []):FnOk P w K mg base CX0 2 f fd ["circuit"] (spD K jaD):=
  jdH (k:=1) (b:=je8) F jkl fun cdv A outer s H E hr=>(jaj (jaq (jak C_all_plain (hr.mono (by decide)) rfl (jab (jai jas (jaa 0) jad (fun _ _=>rfl)) jae))))
theorem jeE:FnScope jea ["one","other"] (jah jch):=⟨rfl,rfl,rfl,by decide +kernel,rfl,by decide +kernel,by decide +kernel⟩
theorem jgv {f:Addr} {fd:FuncData} {dV:Value} (F:FunV K "refuse_apart" "refuse_apart" jch f fd dV) (T:Txt mg) (C_is_plain:Cal P w K mg base "is_plain" 2 jaD []) (E_HasLooks:ExcX K "HasLooks") (E_UnlikeWires:ExcX K "UnlikeWires"):FnOk P w K mg base (CXX P w) 3 f fd ["one","other"] (spX K jav):=
  jvQ (k:=2) (fx:=jbK) F jeE fun cdv A outer s H E hr=>(jkJ (jo4 (TV.lift (WV.tv (jir (jfd (jfc (jak C_is_plain (hr.mono (by decide)) rfl (jab (jaa 0) jae)))) (jgf (jfd (jfc (jak C_is_plain (hr.mono (by decide)) rfl (jab (jaa 1) jae)))))))) (jdj (jiv E_HasLooks rfl rfl (EV.lift jaw))) jtq) (SV.lift (jbg (WV.tv (jir (jfd (jfc (jak C_is_plain (hr.mono (by decide)) rfl (jab (jaa 0) jae)))) (jgf (jfd (jfc (jak C_is_plain (hr.mono (by decide)) rfl (jab (jaa 1) jae))))))) (jaj jo9) jaJ)) (jdj (jo4 (TV.lift (jau (joa hr.units) (jai jas (jaa 0) jad (fun _ _=>rfl)) (jai jas (jaa 1) jad (fun _ _=>rfl)) (jar _))) (jdj (jiv E_UnlikeWires rfl rfl (EV.lift jaw))) jtq)))
theorem jhe {f:Addr} {fd:FuncData} {dV:Value} (F:FunV K "refuse_apart" "refuse_apart" jch f fd dV) (T:Txt mg) (C_is_plain:Cal P w K mg base "is_plain" 2 jaD []):FnOk P w K mg base CX0 3 f fd ["one","other"] (spD K jax):=
  jdH (k:=2) (b:=jd7) F jeE fun cdv A outer s H E hr=>(jaf (jbg (WV.tv (jir (jfd (jfc (jak C_is_plain (hr.mono (by decide)) rfl (jab (jaa 0) jae)))) (jgf (jfd (jfc (jak C_is_plain (hr.mono (by decide)) rfl (jab (jaa 1) jae))))))) (jaj jo9) jaJ) (jaj (jbg (jau (joa hr.units) (jai jas (jaa 0) jad (fun _ _=>rfl)) (jai jas (jaa 1) jad (fun _ _=>rfl)) (jar _)) (jaj jo9) jaJ)))
theorem sc_columns_apart:FnScope jdN ["circuit","apart"] (jah jb1):=⟨rfl,rfl,rfl,by decide +kernel,rfl,by decide +kernel,by decide +kernel⟩
theorem jgy {f:Addr} {fd:FuncData} {dV:Value} (F:FunV K "columns_apart" "columns_apart" jb1 f fd dV) (T:Txt mg) (C_all_done:Cal P w K mg base "all_done" 6 jbt []):FnOk P w K mg base CX0 7 f fd ["circuit","apart"] (spD K jaP):=
  jdH (k:=6) (b:=jdK) F sc_columns_apart fun cdv A outer s H E hr=>(jaf (jap 2 sc_columns_apart.nd (jb7 jen rfl T.tuple (by decide +kernel) (jab (jel (vars:=["b"]) (caps:=[(1,"apart")]) (by change BlkOk (jah jb1).names jdN _ _ _; exact ⟨rfl,by decide +kernel,by decide +kernel,by decide +kernel,by decide +kernel⟩) rfl (jaW rfl T.range (jab (jag jfb jad (jai jas (jaa 0) jad (fun _ _=>rfl))) jae)) jcM (fun _ _ _ _=>jbC (i:=0) (show (["b","apart"]:List Str).Nodup by decide +kernel) rfl (Or.inl rfl) (.inr rfl)) (fun _ _ _ _=>(jaA (jab (jag jfb jad (jag jbR (jaa 1) (jaa 0))) (jab jad (jab jad (jab jad (jab jad jae)))))))) jae))) (jaj (jaq (jak C_all_done (hr.mono (by decide)) rfl (jab (jaa 2) (jab (jai jas (jaa 0) jad (fun _ _=>rfl)) jae))))))
theorem sc_turn_to:FnScope jhL ["one","other"] (jah jeF):=⟨rfl,rfl,rfl,by decide +kernel,rfl,by decide +kernel,by decide +kernel⟩
theorem jl8 {f:Addr} {fd:FuncData} {dV:Value} (F:FunV K "turn_to" "turn_to" jeF f fd dV) (T:Txt mg) (C_turned:Cal P w K mg base "turned" 1 jcr []):FnOk P w K mg base CX0 2 f fd ["one","other"] (spD K jdc):=
  jdH (k:=1) (b:=jhG) F sc_turn_to fun cdv A outer s H E hr=>(jaf (jcN PassesOwn.never rfl (jaW rfl T.range (jab jad jae)) (jbW 2 sc_turn_to.nd) (jaj (jbg (jau (jed hr.units) (jb7 jen rfl T.tuple (by decide +kernel) (jab (jel (vars:=["x"]) (caps:=[(2,"e")]) (by change BlkOk (jah jeF).names jhL _ _ _; exact ⟨rfl,by decide +kernel,by decide +kernel,by decide +kernel,by decide +kernel⟩) rfl (jdb (jaa 0)) jcM (fun _ _ _ _=>jbC (i:=0) (show (["x","e"]:List Str).Nodup by decide +kernel) rfl (Or.inl rfl) (.inr rfl)) (fun _ _ _ _=>(jak C_turned (hr.mono (by decide)) rfl (jab (jaa 0) (jab (jaa 1) jae))))) jae)) (jaa 1) (jar _)) (jaj (jaq (jaa 2))) jaJ))) (jaj (jaq jgk)))
theorem sc_turn_apart:FnScope jeT ["one","other"] (jah jc9):=⟨rfl,rfl,rfl,by decide +kernel,rfl,by decide +kernel,by decide +kernel⟩
theorem jiL {f:Addr} {fd:FuncData} {dV:Value} (F:FunV K "turn_apart" "turn_apart" jc9 f fd dV) (T:Txt mg) (C_turn_to:Cal P w K mg base "turn_to" 2 jdc []) (C_columns_apart:Cal P w K mg base "columns_apart" 7 jaP []):FnOk P w K mg base CX0 8 f fd ["one","other"] (spD K jaB):=
  jdH (k:=7) (b:=jeQ) F sc_turn_apart fun cdv A outer s H E hr=>(jaf (jap 2 sc_turn_apart.nd (jaI (jv8 rfl) rfl T.max (by decide +kernel) (jab (jel (vars:=["rows"]) (caps:=[]) (by change BlkOk (jah jc9).names jeT _ _ _; exact ⟨rfl,by decide +kernel,by decide +kernel,by decide +kernel,by decide +kernel⟩) rfl (jdb (jaA (jab (jai jas (jaa 0) jad (fun _ _=>rfl)) (jab (jai jas (jaa 1) jad (fun _ _=>rfl)) jae)))) jcM (fun _ _ _ _=>jbC (i:=0) (show (["rows"]:List Str).Nodup by decide +kernel) rfl (Or.inl rfl) (.inr rfl)) (fun _ _ _ _=>(jaI jee rfl T.len (by decide +kernel) (jab (ji0 (vars:=["row"]) (caps:=[]) (BlkOk.none rfl (by decide +kernel) (by decide +kernel) (by decide +kernel)) rfl (jdb (jaa 0)) jcM (fun _ _ _ _=>jbC (i:=0) (show (["row"]:List Str).Nodup by decide +kernel) rfl (Or.inl rfl) (.inr rfl)) (fun _ _ _ _=>(jau (jed hr.units) (jai jas (jaa 0) jad (fun _ _=>rfl)) jaw (jar _))) (fun _ _ _ _=>(jaa 0))) jae)))) jae))) (jaf (jap 3 sc_turn_apart.nd (jag jaZ (jag jcv (jaa 2) jad) jad)) (jaj (jaq (jak C_turn_to (hr.mono (by decide)) rfl (jab (jak C_columns_apart (hr.mono (by decide)) rfl (jab (jaa 0) (jab (jaa 3) jae))) (jab (jak C_columns_apart (hr.mono (by decide)) rfl (jab (jaa 1) (jab (jaa 3) jae))) jae)))))))
theorem sc_unlike_paper:FnScope jc3 ["one","other"] (jah jbT):=⟨rfl,rfl,rfl,by decide +kernel,rfl,by decide +kernel,by decide +kernel⟩
theorem jgu {f:Addr} {fd:FuncData} {dV:Value} (F:FunV K "unlike_paper" "unlike_paper" jbT f fd dV) (T:Txt mg) (T_NOUGHT:TopV K mg "NOUGHT" (.tuple [.int 0,.int 0,.int 0,.int 0,.int 0])) (C_column:Cal P w K mg base "column" 7 jaE []) (C_times:Cal P w K mg base "times" 3 jcd []) (Y_column:CalX P w K mg base "column" 7 jdn []):FnOk P w K mg base (CXX P w) 8 f fd ["one","other"] (spX K jbB):=
  jvQ (k:=7) (fx:=jdI) F sc_unlike_paper fun cdv A outer s H E hr=>(jkJ (jqU 2 sc_unlike_paper.nd (jhv Y_column (hr.mono (by decide)) rfl (AV.lift (jab (jaa 0) (jab jad jae))))) (SV.lift (jap 2 sc_unlike_paper.nd (jak C_column (hr.mono (by decide)) rfl (jab (jaa 0) (jab jad jae))))) (jdj (jqU 3 sc_unlike_paper.nd (jhv Y_column (hr.mono (by decide)) rfl (AV.lift (jab (jaa 1) (jab jad jae)))))))
theorem jhc {f:Addr} {fd:FuncData} {dV:Value} (F:FunV K "unlike_paper" "unlike_paper" jbT f fd dV) (T:Txt mg) (T_NOUGHT:TopV K mg "NOUGHT" (.tuple [.int 0,.int 0,.int 0,.int 0,.int 0])) (C_column:Cal P w K mg base "column" 7 jaE []) (C_times:Cal P w K mg base "times" 3 jcd []):FnOk P w K mg base CX0 8 f fd ["one","other"] (spD K jaS):=
  jdH (k:=7) (b:=jc0) F sc_unlike_paper fun cdv A outer s H E hr=>(jaf (jap 2 sc_unlike_paper.nd (jak C_column (hr.mono (by decide)) rfl (jab (jaa 0) (jab jad jae)))) (jaf (jap 3 sc_unlike_paper.nd (jak C_column (hr.mono (by decide)) rfl (jab (jaa 1) (jab jad jae)))) (jaf (jap 4 sc_unlike_paper.nd (jai jas (ji0 (vars:=["p"]) (caps:=[(2,"f")]) (by change BlkOk (jah jbT).names jc3 _ _ _; exact ⟨rfl,by decide +kernel,by decide +kernel,by decide +kernel,by decide +kernel⟩) rfl (jaW rfl T.range (jab (jaI jee rfl T.len (by decide +kernel) (jab (jaa 2) jae)) jae)) jcM (fun _ _ _ _=>jbC (i:=0) (show (["p","f"]:List Str).Nodup by decide +kernel) rfl (Or.inl rfl) (.inr rfl)) (fun _ _ _ _=>(jau (joa hr.units) (jai jas (jaa 1) (jaa 0) (fun _ _=>rfl)) (jiZ T_NOUGHT rfl) (jar _))) (fun _ _ _ _=>(jaa 0))) jad (fun _ _=>rfl))) (jaj (jcN PassesOwn.never rfl (jaW rfl T.range (jab (jaI jee rfl T.len (by decide +kernel) (jab (jaa 2) jae)) jae)) (jbW 5 sc_unlike_paper.nd) (jaf (jap 6 sc_unlike_paper.nd (jak C_column (hr.mono (by decide)) rfl (jab (jaa 0) (jab (jaa 5) jae)))) (jaf (jap 7 sc_unlike_paper.nd (jak C_column (hr.mono (by decide)) rfl (jab (jaa 1) (jab (jaa 5) jae)))) (jaj (jcN PassesOwn.never rfl (jaW rfl T.range (jab (jaI jee rfl T.len (by decide +kernel) (jab (jaa 2) jae)) jae)) (jbW 8 sc_unlike_paper.nd) (jaj (jbg (jau (joa hr.units) (jak C_times (hr.mono (by decide)) rfl (jab (jai jas (jaa 2) (jaa 4) (fun _ _=>rfl)) (jab (jai jas (jaa 7) (jaa 8) (fun _ _=>rfl)) jae))) (jak C_times (hr.mono (by decide)) rfl (jab (jai jas (jaa 6) (jaa 8) (fun _ _=>rfl)) (jab (jai jas (jaa 3) (jaa 4) (fun _ _=>rfl)) jae))) (jar _)) (jaj (jaq (jaA (jab jaw (jab jad (jab (jaa 4) (jab (jaa 5) (jab (jaa 8) jae)))))))) jaJ)))))))))))
theorem sc_alike_paper:FnScope jeu ["one","other"] (jah jcD):=⟨rfl,rfl,rfl,by decide +kernel,rfl,by decide +kernel,by decide +kernel⟩
theorem jhb {f:Addr} {fd:FuncData} {dV:Value} (F:FunV K "alike_paper" "alike_paper" jcD f fd dV) (T:Txt mg) (C_refuse_apart:Cal P w K mg base "refuse_apart" 3 jax []) (C_turn_apart:Cal P w K mg base "turn_apart" 8 jaB []) (C_unlike_paper:Cal P w K mg base "unlike_paper" 8 jaS []) (Y_refuse_apart:CalX P w K mg base "refuse_apart" 3 jav []) (Y_unlike_paper:CalX P w K mg base "unlike_paper" 8 jbB []):FnOk P w K mg base (CXX P w) 9 f fd ["one","other"] (spX K jaQ):=
  jvQ (k:=8) (fx:=jcm) F sc_alike_paper fun cdv A outer s H E hr=>(jkJ (jiw (jhv Y_refuse_apart (hr.mono (by decide)) rfl (AV.lift (jab (jaa 0) (jab (jaa 1) jae))))) (SV.lift (jg2 (jak C_refuse_apart (hr.mono (by decide)) rfl (jab (jaa 0) (jab (jaa 1) jae))))) (jkI (SV.lift (jap 2 sc_alike_paper.nd (jak C_turn_apart (hr.mono (by decide)) rfl (jab (jaa 0) (jab (jaa 1) jae))))) (jkI (SV.lift (jbg (jau jrJ (jaa 2) jgk (jar _)) (jaj (jaq (jaA (jab jaw (jab (jaa 2) jae))))) jaJ)) (jdj (juc (jhv Y_unlike_paper (hr.mono (by decide)) rfl (AV.lift (jab (jaa 0) (jab (jaa 1) jae)))))))))
theorem jhS {f:Addr} {fd:FuncData} {dV:Value} (F:FunV K "alike_paper" "alike_paper" jcD f fd dV) (T:Txt mg) (C_refuse_apart:Cal P w K mg base "refuse_apart" 3 jax []) (C_turn_apart:Cal P w K mg base "turn_apart" 8 jaB []) (C_unlike_paper:Cal P w K mg base "unlike_paper" 8 jaS []):FnOk P w K mg base CX0 9 f fd ["one","other"] (spD K jaR):=
  jdH (k:=8) (b:=jdy) F sc_alike_paper fun cdv A outer s H E hr=>(jaf (jg2 (jak C_refuse_apart (hr.mono (by decide)) rfl (jab (jaa 0) (jab (jaa 1) jae)))) (jaf (jap 2 sc_alike_paper.nd (jak C_turn_apart (hr.mono (by decide)) rfl (jab (jaa 0) (jab (jaa 1) jae)))) (jaf (jbg (jau jrJ (jaa 2) jgk (jar _)) (jaj (jaq (jaA (jab jaw (jab (jaa 2) jae))))) jaJ) (jaj (jaq (jak C_unlike_paper (hr.mono (by decide)) rfl (jab (jaa 0) (jab (jaa 1) jae))))))))
theorem sc_is_apart:FnScope je9 ["one","other","paper"] (jah jdC):=⟨rfl,rfl,rfl,by decide +kernel,rfl,by decide +kernel,by decide +kernel⟩
theorem jkr {f:Addr} {fd:FuncData} {dV:Value} (F:FunV K "is_apart" "is_apart" jdC f fd dV) (T:Txt mg) (C_times:Cal P w K mg base "times" 3 jcd []) (C_column:Cal P w K mg base "column" 7 jaE []):FnOk P w K mg base CX0 8 f fd ["one","other","paper"] (spD K jcb):=
  jdH (k:=7) (b:=jgc) F sc_is_apart fun cdv A outer s H E hr=>(jaf (jiy 3 sc_is_apart.nd (vars:=["k"]) (caps:=[(0,"one"),(2,"paper")]) (by change BlkOk (jah jdC).names je9 _ _ _; exact ⟨rfl,by decide +kernel,by decide +kernel,by decide +kernel,by decide +kernel⟩) rfl (jdb (jaA (jab jad (jab jad jae)))) jcM (fun _ _ _ _=>jbC (i:=0) (show (["k","one","paper"]:List Str).Nodup by decide +kernel) rfl (Or.inl rfl) (.inr rfl)) (fun _ _ _ _=>(jai jas (jak C_column (hr.mono (by decide)) rfl (jab (jaa 1) (jab (jai jas (jaa 2) (jaa 0) (fun _ _=>rfl)) jae))) (jai jas (jaa 2) (jag jaZ (jaa 0) jad) (fun _ _=>rfl)) (fun _ _=>rfl)))) (jaf (jiy 4 sc_is_apart.nd (vars:=["k"]) (caps:=[(1,"other"),(2,"paper")]) (by change BlkOk (jah jdC).names je9 _ _ _; exact ⟨rfl,by decide +kernel,by decide +kernel,by decide +kernel,by decide +kernel⟩) rfl (jdb (jaA (jab jad (jab jad jae)))) jcM (fun _ _ _ _=>jbC (i:=0) (show (["k","other","paper"]:List Str).Nodup by decide +kernel) rfl (Or.inl rfl) (.inr rfl)) (fun _ _ _ _=>(jai jas (jak C_column (hr.mono (by decide)) rfl (jab (jaa 1) (jab (jai jas (jaa 2) (jaa 0) (fun _ _=>rfl)) jae))) (jai jas (jaa 2) (jag jaZ (jaa 0) jad) (fun _ _=>rfl)) (fun _ _=>rfl)))) (jaj (jaq (jgl (joa hr.units) (jak C_times (hr.mono (by decide)) rfl (jab (jai jas (jaa 3) jad (fun _ _=>rfl)) (jab (jai jas (jaa 4) jad (fun _ _=>rfl)) jae))) (jak C_times (hr.mono (by decide)) rfl (jab (jai jas (jaa 3) jad (fun _ _=>rfl)) (jab (jai jas (jaa 4) jad (fun _ _=>rfl)) jae))) (jar _))))))
theorem sc_paper_stands:FnScope jc4 ["one","other","paper"] (jah jbU):=⟨rfl,rfl,rfl,by decide +kernel,rfl,by decide +kernel,by decide +kernel⟩
theorem jgw {f:Addr} {fd:FuncData} {dV:Value} (F:FunV K "paper_stands" "paper_stands" jbU f fd dV) (T:Txt mg) (C_refuse_apart:Cal P w K mg base "refuse_apart" 3 jax []) (C_is_apart:Cal P w K mg base "is_apart" 8 jcb []) (C_turn_apart:Cal P w K mg base "turn_apart" 8 jaB []) (Y_refuse_apart:CalX P w K mg base "refuse_apart" 3 jav []):FnOk P w K mg base (CXX P w) 9 f fd ["one","other","paper"] (spX K jaN):=
  jvQ (k:=8) (fx:=jcK) F sc_paper_stands fun cdv A outer s H E hr=>(jdj (jiw (jhv Y_refuse_apart (hr.mono (by decide)) rfl (AV.lift (jab (jaa 0) (jab (jaa 1) jae))))))
theorem jhf {f:Addr} {fd:FuncData} {dV:Value} (F:FunV K "paper_stands" "paper_stands" jbU f fd dV) (T:Txt mg) (C_refuse_apart:Cal P w K mg base "refuse_apart" 3 jax []) (C_is_apart:Cal P w K mg base "is_apart" 8 jcb []) (C_turn_apart:Cal P w K mg base "turn_apart" 8 jaB []):FnOk P w K mg base CX0 9 f fd ["one","other","paper"] (spD K jat):=
  jdH (k:=8) (b:=jcn) F sc_paper_stands fun cdv A outer s H E hr=>(jaf (jg2 (jak C_refuse_apart (hr.mono (by decide)) rfl (jab (jaa 0) (jab (jaa 1) jae)))) (jaf (jbg (jau (jed hr.units) (jai jas (jaa 2) jad (fun _ _=>rfl)) jaw (jar _)) (jaj (jaq (jgl (jed hr.units) (jak C_turn_apart (hr.mono (by decide)) rfl (jab (jaa 0) (jab (jaa 1) jae))) (jai jas (jaa 2) jad (fun _ _=>rfl)) (jar _)))) jaJ) (jaf (jap 3 sc_paper_stands.nd (jag jfb jad (jai jas (jaa 0) jad (fun _ _=>rfl)))) (jaj (jaq (jn4 (jaI (jv9 rfl) rfl T.all (by decide +kernel) (jab (jel (vars:=["place"]) (caps:=[(3,"places")]) (by change BlkOk (jah jbU).names jc4 _ _ _; exact ⟨rfl,by decide +kernel,by decide +kernel,by decide +kernel,by decide +kernel⟩) rfl (jdb (jcc (jaa 2) (jb3 jad) jei)) jcM (fun _ _ _ _=>jbC (i:=0) (show (["place","places"]:List Str).Nodup by decide +kernel) rfl (Or.inl rfl) (.inr rfl)) (fun _ _ _ _=>(jqt jzQ jv6 jad (jaa 0) (jaa 1)))) jae)) (jrH (jak C_is_apart (hr.mono (by decide)) rfl (jab (jaa 0) (jab (jaa 1) (jab (jaa 2) jae)))))))))))
theorem jg5:FnScope jfj ["script","k"] (jah jcW):=⟨rfl,rfl,rfl,by decide +kernel,rfl,by decide +kernel,by decide +kernel⟩
theorem jhk {f:Addr} {fd:FuncData} {dV:Value} (F:FunV K "_law_cell_at" "_law_cell_at" jcW f fd dV) (T:Txt mg):FnOk P w K mg base CX0 1 f fd ["script","k"] (spD K jbd):=
  jdH (k:=0) (b:=jc2) F jg5 fun cdv A outer s H E hr=>(jaf (jbg (jau jv6 (jaa 1) (jaI jee rfl T.len (by decide +kernel) (jab (jaa 0) jae)) (jar _)) (jaj (jaq (jai jas (jaa 0) (jaa 1) (fun _ _=>rfl)))) jaJ) (jaj (jaq jad)))
theorem sc__law_row:FnScope jip ["cell","wires"] (jah je2):=⟨rfl,rfl,rfl,by decide +kernel,rfl,by decide +kernel,by decide +kernel⟩
theorem jkt {f:Addr} {fd:FuncData} {dV:Value} (F:FunV K "_law_row" "_law_row" je2 f fd dV) (T:Txt mg):FnOk P w K mg base CX0 1 f fd ["cell","wires"] (spD K jaz):=
  jdH (k:=0) (b:=jcA) F sc__law_row fun cdv A outer s H E hr=>(jaf (jap 2 sc__law_row.nd (jag jbF (jaa 0) jad)) (jaf (jap 3 sc__law_row.nd (jag jbF (jag jcv (jaa 0) jad) (jaa 1))) (jaf (jbg (WV.tv (jgW (jau (jed hr.units) (jaa 1) jad (jar _)) (jfV (jau job (jaa 2) jad (jar _))))) (jaj (jap 2 sc__law_row.nd (jag jbF (jaa 2) jad))) jaJ) (jaf (jbg (jau (jed hr.units) (jaa 2) jad (jar _)) (jaj (jaq (jaA (jab jaw (jab (jaa 3) (jab (jag jaZ jad (jag jbF (jag jcv (jaa 0) jad) jad)) jae)))))) jaJ) (jaf (jbg (WV.tv (jir (jau (jed hr.units) (jaa 2) jad (jar _)) (jgf (jau (jed hr.units) (jaa 2) jad (jar _))))) (jaj (jaq (jaA (jab (jai jas (jcz (jab jaw (jab jaw (jab jaw jae)))) (jaa 2) (fun _ _=>rfl)) (jab (jaa 3) jae))))) jaJ) (jaf (jap 4 sc__law_row.nd (jag jbF (jag jaZ (jag jaZ (jaa 3) jad) (jag jbF (jag jcv (jaa 0) jad) (jag jbp (jaa 1) jad))) (jaa 1))) (jaj (jaq (jaA (jab (jai jas (jcz (jab jaw (jab jaw (jab jaw jae)))) (jag jbp (jaa 2) jad) (fun _ _=>rfl)) (jab (jaa 4) (jab (jaa 3) jae))))))))))))
theorem sc__law_turned:FnScope jfR ["x","e"] (jah jdr):=⟨rfl,rfl,rfl,by decide +kernel,rfl,by decide +kernel,by decide +kernel⟩
theorem jhU {f:Addr} {fd:FuncData} {dV:Value} (F:FunV K "_law_turned" "_law_turned" jdr f fd dV) (T:Txt mg):FnOk P w K mg base CX0 1 f fd ["x","e"] (spD K jaH):=
  jdH (k:=0) (b:=jer) F sc__law_turned fun cdv A outer s H E hr=>(jaf (jcN PassesOwn.never rfl (jaW rfl T.range (jab (jag jbF (jaa 1) jad) jae)) (jbW 2 sc__law_turned.nd) (jaj (jap 0 sc__law_turned.nd (jaA (jab (jf6 jf8 (jai jas (jaa 0) jad (fun _ _=>rfl))) (jab (jai jas (jaa 0) jad (fun _ _=>rfl)) (jab (jai jas (jaa 0) jad (fun _ _=>rfl)) (jab (jai jas (jaa 0) jad (fun _ _=>rfl)) jae)))))))) (jaj (jaq (jaa 0))))
theorem sc__law_raised:FnScope jfS ["x","many"] (jah jds):=⟨rfl,rfl,rfl,by decide +kernel,rfl,by decide +kernel,by decide +kernel⟩
theorem jhW {f:Addr} {fd:FuncData} {dV:Value} (F:FunV K "_law_raised" "_law_raised" jds f fd dV) (T:Txt mg):FnOk P w K mg base CX0 1 f fd ["x","many"] (spD K jbc):=
  jdH (k:=0) (b:=jet) F sc__law_raised fun cdv A outer s H E hr=>(jaf (jcN PassesOwn.never rfl (jaW rfl T.range (jab (jaa 1) jae)) (jbW 2 sc__law_raised.nd) (jaj (jap 0 sc__law_raised.nd (jaA (jab (jag jbp (jai jas (jaa 0) jad (fun _ _=>rfl)) (jai jas (jaa 0) jad (fun _ _=>rfl))) (jab (jag jaZ (jai jas (jaa 0) jad (fun _ _=>rfl)) (jai jas (jaa 0) jad (fun _ _=>rfl))) (jab (jag jaZ (jai jas (jaa 0) jad (fun _ _=>rfl)) (jai jas (jaa 0) jad (fun _ _=>rfl))) (jab (jag jbp (jai jas (jaa 0) jad (fun _ _=>rfl)) (jai jas (jaa 0) jad (fun _ _=>rfl))) jae)))))))) (jaj (jaq (jaa 0))))
theorem sc__law_times:FnScope jgr ["x","y"] (jah jdV):=⟨rfl,rfl,rfl,by decide +kernel,rfl,by decide +kernel,by decide +kernel⟩
theorem jiP {f:Addr} {fd:FuncData} {dV:Value} (F:FunV K "_law_times" "_law_times" jdV f fd dV) (T:Txt mg):FnOk P w K mg base CX0 1 f fd ["x","y"] (spD K jbq):=
  jdH (k:=0) (b:=jeS) F sc__law_times fun cdv A outer s H E hr=>(jaf (jh4 2 sc__law_times.nd (jab jad (jab jad (jab jad (jab jad (jab jad (jab jad (jab jad jae)))))))) (jaf (jcN PassesOwn.never rfl (jaW rfl T.range (jab jad jae)) (jbW 3 sc__law_times.nd) (jaj (jcN PassesOwn.never rfl (jaW rfl T.range (jab jad jae)) (jbW 4 sc__law_times.nd) (jaj (jfu 2 (jag jaZ (jaa 3) (jaa 4)) (jag jaZ (jde 2 (jag jaZ (jaa 3) (jaa 4)) (fun _ _=>rfl)) (jag jbR (jai jas (jaa 0) (jaa 3) (fun _ _=>rfl)) (jai jas (jaa 1) (jaa 4) (fun _ _=>rfl))))))))) (jaj (jaq (jaA (jab (jag jbp (jde 2 jad (fun _ _=>rfl)) (jde 2 jad (fun _ _=>rfl))) (jab (jag jbp (jde 2 jad (fun _ _=>rfl)) (jde 2 jad (fun _ _=>rfl))) (jab (jag jbp (jde 2 jad (fun _ _=>rfl)) (jde 2 jad (fun _ _=>rfl))) (jab (jde 2 jad (fun _ _=>rfl)) jae)))))))))
theorem sc__law_moved:FnScope jgs ["place","row","wires"] (jah jdW):=⟨rfl,rfl,rfl,by decide +kernel,rfl,by decide +kernel,by decide +kernel⟩
theorem jiR {f:Addr} {fd:FuncData} {dV:Value} (F:FunV K "_law_moved" "_law_moved" jdW f fd dV) (T:Txt mg):FnOk P w K mg base CX0 1 f fd ["place","row","wires"] (spD K jaM):=
  jdH (k:=0) (b:=jb8) F sc__law_moved fun cdv A outer s H E hr=>(jaf (jap 3 sc__law_moved.nd (jag jfb jad (jag jbp (jag jbp (jaa 2) jad) (jai jas (jaa 1) jad (fun _ _=>rfl))))) (jaf (jbg (jau (jed hr.units) (jai jas (jaa 1) jad (fun _ _=>rfl)) jaw (jar _)) (jaj (jaq (jag jjY (jaa 0) (jaa 3)))) jaJ) (jaf (jap 4 sc__law_moved.nd (jag jfb jad (jag jbp (jag jbp (jaa 2) jad) (jai jas (jaa 1) jad (fun _ _=>rfl))))) (jaf (jbg (WV.tv (jgW (jau (jed hr.units) (jai jas (jaa 1) jad (fun _ _=>rfl)) jaw (jar _)) (jfV (jau job (jag jgA (jaa 0) (jaa 3)) jad (jar _))))) (jaj (jaq (jag jjY (jaa 0) (jaa 4)))) jaJ) (jaf (jbg (WV.tv (jgW (jau (jed hr.units) (jai jas (jaa 1) jad (fun _ _=>rfl)) jaw (jar _)) (jfV (jau (joa hr.units) (jgl job (jag jgA (jaa 0) (jaa 3)) jad (jar _)) (jgl job (jag jgA (jaa 0) (jaa 4)) jad (jar _)) (jar _))))) (jaj (jaq (jag jjY (jaa 0) (jag jtY (jaa 3) (jaa 4))))) jaJ) (jaj (jaq (jaa 0))))))))
theorem sc__law_row_done:FnScope jeU ["state","row","wires"] (jah jcF):=⟨rfl,rfl,rfl,by decide +kernel,rfl,by decide +kernel,by decide +kernel⟩
theorem jgz {f:Addr} {fd:FuncData} {dV:Value} (F:FunV K "_law_row_done" "_law_row_done" jcF f fd dV) (T:Txt mg) (C__law_turned:Cal P w K mg base "_law_turned" 1 jaH []) (C__law_moved:Cal P w K mg base "_law_moved" 1 jaM []):FnOk P w K mg base CX0 2 f fd ["state","row","wires"] (spD K jaY):=
  jdH (k:=1) (b:=jdL) F sc__law_row_done fun cdv A outer s H E hr=>(jaf (jmT 3 sc__law_row_done.nd (jti rfl T.list (jab (jaa 0) jae))) (jaf (jap 4 sc__law_row_done.nd (jag jfb jad (jag jbp (jag jbp (jaa 2) jad) (jai jas (jaa 1) jad (fun _ _=>rfl))))) (jaf (jcN PassesOwn.never rfl (jaW rfl T.range (jab (jaI jee rfl T.len (by decide +kernel) (jab (jaa 0) jae)) jae)) (jbW 5 sc__law_row_done.nd) (jaf (jap 6 sc__law_row_done.nd (jai jas (jaa 0) (jaa 5) (fun _ _=>rfl))) (jaj (jbg (jau (jed hr.units) (jai jas (jaa 1) jad (fun _ _=>rfl)) jaw (jar _)) (jaf (jap 7 sc__law_row_done.nd (jai jas (jaa 0) (jag jjY (jaa 5) (jaa 4)) (fun _ _=>rfl))) (jaj (jbg (jau job (jag jgA (jaa 5) (jaa 4)) jad (jar _)) (jaj (jfu 3 (jaa 5) (jaA (jab (jag jbp (jai jas (jaa 7) jad (fun _ _=>rfl)) (jai jas (jaa 6) jad (fun _ _=>rfl))) (jab (jag jbp (jai jas (jaa 7) jad (fun _ _=>rfl)) (jai jas (jaa 6) jad (fun _ _=>rfl))) (jab (jag jbp (jai jas (jaa 7) jad (fun _ _=>rfl)) (jai jas (jaa 6) jad (fun _ _=>rfl))) (jab (jag jbp (jai jas (jaa 7) jad (fun _ _=>rfl)) (jai jas (jaa 6) jad (fun _ _=>rfl))) jae))))))) (jaj (jfu 3 (jaa 5) (jaA (jab (jag jaZ (jai jas (jaa 6) jad (fun _ _=>rfl)) (jai jas (jaa 7) jad (fun _ _=>rfl))) (jab (jag jaZ (jai jas (jaa 6) jad (fun _ _=>rfl)) (jai jas (jaa 7) jad (fun _ _=>rfl))) (jab (jag jaZ (jai jas (jaa 6) jad (fun _ _=>rfl)) (jai jas (jaa 7) jad (fun _ _=>rfl))) (jab (jag jaZ (jai jas (jaa 6) jad (fun _ _=>rfl)) (jai jas (jaa 7) jad (fun _ _=>rfl))) jae)))))))))) (jaj (jbg (WV.tv (jgW (jau (jed hr.units) (jai jas (jaa 1) jad (fun _ _=>rfl)) jaw (jar _)) (jfV (jau job (jag jgA (jaa 5) (jaa 4)) jad (jar _))))) (jaj (jfu 3 (jaa 5) (jak C__law_turned (hr.mono (by decide)) rfl (jab (jaa 6) (jab (jai jas (jaa 1) jad (fun _ _=>rfl)) jae))))) (jaj (jbg (WV.tv (jgW (jau (jed hr.units) (jai jas (jaa 1) jad (fun _ _=>rfl)) jaw (jar _)) (jgW (jau job (jag jgA (jaa 5) (jaa 4)) jad (jar _)) (jfV (jau job (jag jgA (jaa 5) (jag jfb jad (jag jbp (jag jbp (jaa 2) jad) (jai jas (jaa 1) jad (fun _ _=>rfl))))) jad (jar _)))))) (jaj (jfu 3 (jaa 5) (jak C__law_turned (hr.mono (by decide)) rfl (jab (jaa 6) (jab jad jae))))) (jaj (jbg (jau jwZ (jai jas (jaa 1) jad (fun _ _=>rfl)) (jaA (jab jaw (jab jaw (jab jaw jae)))) (by with_unfolding_all rfl)) (jaj (jfu 3 (jak C__law_moved (hr.mono (by decide)) rfl (jab (jaa 5) (jab (jaa 1) (jab (jaa 2) jae)))) (jaa 6))) jaJ)))))))))) (jaj (jlV 3 (jaq (jaa 3)))))))
theorem sc__law_columns:FnScope jfi ["circuit"] (jah jcV):=⟨rfl,rfl,rfl,by decide +kernel,rfl,by decide +kernel,by decide +kernel⟩
theorem jhi {f:Addr} {fd:FuncData} {dV:Value} (F:FunV K "_law_columns" "_law_columns" jcV f fd dV) (T:Txt mg) (C__law_row_done:Cal P w K mg base "_law_row_done" 2 jaY []):FnOk P w K mg base CX0 3 f fd ["circuit"] (spD K jaG):=
  jdH (k:=2) (b:=jd8) F sc__law_columns fun cdv A outer s H E hr=>(jaf (jh4 1 sc__law_columns.nd jae) (jaf (jcN PassesOwn.never rfl (jaW rfl T.range (jab (jag jfb jad (jai jas (jaa 0) jad (fun _ _=>rfl))) jae)) (jbW 2 sc__law_columns.nd) (jaf (jmT 3 sc__law_columns.nd (jv1 (jcz (jab (jaA (jab jad (jab jad (jab jad (jab jad jae))))) jae)) (jag jfb jad (jai jas (jaa 0) jad (fun _ _=>rfl))))) (jaf (jfu 3 (jaa 2) (jaA (jab jad (jab jad (jab jad (jab jad jae)))))) (jaf (jcN PassesOwn.never rfl (jdb (jai jas (jaa 0) jad (fun _ _=>rfl))) (jbW 4 sc__law_columns.nd) (jaj (jlV 3 (jap 3 sc__law_columns.nd (jak C__law_row_done (hr.mono (by decide)) rfl (jab (jaa 3) (jab (jaa 4) (jab (jai jas (jaa 0) jad (fun _ _=>rfl)) jae)))))))) (jaj (jlV 3 (jh5 1 (jaa 3)))))))) (jaj (jlV 1 (jaq (jaa 1))))))
theorem jhQ:FnScope jev ["circuit"] (jah jcE):=⟨rfl,rfl,rfl,by decide +kernel,rfl,by decide +kernel,by decide +kernel⟩
theorem jhV {f:Addr} {fd:FuncData} {dV:Value} (F:FunV K "_law_swings" "_law_swings" jcE f fd dV) (T:Txt mg):FnOk P w K mg base CX0 1 f fd ["circuit"] (spD K jbo):=
  jdH (k:=0) (b:=jes) F jhQ fun cdv A outer s H E hr=>(jaj (jaq (jaI jee rfl T.len (by decide +kernel) (jab (ji0 (vars:=["row"]) (caps:=[]) (by change BlkOk (jah jcE).names jev _ _ _; exact ⟨rfl,by decide +kernel,by decide +kernel,by decide +kernel,by decide +kernel⟩) rfl (jdb (jai jas (jaa 0) jad (fun _ _=>rfl))) jcM (fun _ _ _ _=>jbC (i:=0) (show (["row"]:List Str).Nodup by decide +kernel) rfl (Or.inl rfl) (.inr rfl)) (fun _ _ _ _=>(jau (jed hr.units) (jai jas (jaa 0) jad (fun _ _=>rfl)) jaw (jar _))) (fun _ _ _ _=>(jaa 0))) jae))))
theorem sc__law_turns_alike:FnScope jd2 ["one","other","first","second","e"] (jah jbX):=⟨rfl,rfl,rfl,by decide +kernel,rfl,by decide +kernel,by decide +kernel⟩
theorem jfk {f:Addr} {fd:FuncData} {dV:Value} (F:FunV K "_law_turns_alike" "_law_turns_alike" jbX f fd dV) (T:Txt mg) (C__law_swings:Cal P w K mg base "_law_swings" 1 jbo []) (C__law_raised:Cal P w K mg base "_law_raised" 1 jbc []) (C__law_turned:Cal P w K mg base "_law_turned" 1 jaH []):FnOk P w K mg base CX0 2 f fd ["one","other","first","second","e"] (spD K jaC):=
  jdH (k:=1) (b:=jcL) F sc__law_turns_alike fun cdv A outer s H E hr=>(jaf (jap 5 sc__law_turns_alike.nd (jag jbp (jak C__law_swings (hr.mono (by decide)) rfl (jab (jaa 1) jae)) (jak C__law_swings (hr.mono (by decide)) rfl (jab (jaa 0) jae)))) (jaf (jcN PassesOwn.never rfl (jaW rfl T.range (jab (jaI jee rfl T.len (by decide +kernel) (jab (jaa 2) jae)) jae)) (jbW 6 sc__law_turns_alike.nd) (jaj (jcN PassesOwn.never rfl (jaW rfl T.range (jab (jaI jee rfl T.len (by decide +kernel) (jab (jaa 2) jae)) jae)) (jbW 7 sc__law_turns_alike.nd) (jaf (jap 8 sc__law_turns_alike.nd (jak C__law_raised (hr.mono (by decide)) rfl (jab (jak C__law_turned (hr.mono (by decide)) rfl (jab (jai jas (jai jas (jaa 2) (jaa 6) (fun _ _=>rfl)) (jaa 7) (fun _ _=>rfl)) (jab (jaa 4) jae))) (jab (jaI (jto rfl) rfl T.max (by decide +kernel) (jab jad (jab (jaa 5) jae))) jae)))) (jaj (jbg (jau (joa hr.units) (jaa 8) (jak C__law_raised (hr.mono (by decide)) rfl (jab (jai jas (jai jas (jaa 3) (jaa 6) (fun _ _=>rfl)) (jaa 7) (fun _ _=>rfl)) (jab (jaI (jto rfl) rfl T.max (by decide +kernel) (jab jad (jab (jf6 jf8 (jaa 5)) jae))) jae))) (jar _)) (jaj (jaq ji1)) jaJ)))))) (jaj (jaq ji1))))
theorem sc__law_unlike:FnScope jfQ ["first","second","spots"] (jah jdq):=⟨rfl,rfl,rfl,by decide +kernel,rfl,by decide +kernel,by decide +kernel⟩
theorem jhT {f:Addr} {fd:FuncData} {dV:Value} (F:FunV K "_law_unlike" "_law_unlike" jdq f fd dV) (T:Txt mg) (C__law_times:Cal P w K mg base "_law_times" 1 jbq []):FnOk P w K mg base CX0 2 f fd ["first","second","spots"] (spD K jbb):=
  jdH (k:=1) (b:=jeq) F sc__law_unlike fun cdv A outer s H E hr=>(jaf (jap 3 sc__law_unlike.nd (jak C__law_times (hr.mono (by decide)) rfl (jab (jai jas (jai jas (jaa 0) (jai jas (jaa 2) jad (fun _ _=>rfl)) (fun _ _=>rfl)) (jai jas (jaa 2) jad (fun _ _=>rfl)) (fun _ _=>rfl)) (jab (jai jas (jai jas (jaa 1) (jai jas (jaa 2) jad (fun _ _=>rfl)) (fun _ _=>rfl)) (jai jas (jaa 2) jad (fun _ _=>rfl)) (fun _ _=>rfl)) jae)))) (jaj (jaq (jgl (joa hr.units) (jaa 3) (jak C__law_times (hr.mono (by decide)) rfl (jab (jai jas (jai jas (jaa 0) (jai jas (jaa 2) jad (fun _ _=>rfl)) (fun _ _=>rfl)) (jai jas (jaa 2) jad (fun _ _=>rfl)) (fun _ _=>rfl)) (jab (jai jas (jai jas (jaa 1) (jai jas (jaa 2) jad (fun _ _=>rfl)) (fun _ _=>rfl)) (jai jas (jaa 2) jad (fun _ _=>rfl)) (fun _ _=>rfl)) jae))) (jar _)))))
theorem jiE:FnScope jgp ["row"] (jah jdT):=⟨rfl,rfl,rfl,by decide +kernel,rfl,by decide +kernel,by decide +kernel⟩
theorem jiN {f:Addr} {fd:FuncData} {dV:Value} (F:FunV K "_law_wires" "_law_wires" jdT f fd dV) (T:Txt mg):FnOk P w K mg base CX0 1 f fd ["row"] (spD K jaL):=
  jdH (k:=0) (b:=jd0) F jiE fun cdv A outer s H E hr=>(jaf (jbg (jau (jed hr.units) (jai jas (jaa 0) jad (fun _ _=>rfl)) jaw (jar _)) (jaj (jaq (jcz (jab (jai jas (jaa 0) jad (fun _ _=>rfl)) jae)))) jaJ) (jaj (jaq (jb7 jrL rfl T.list (by decide +kernel) (jab (jcc (jaa 0) (jb3 jad) jei) jae)))))
theorem sc__law_nothing:FnScope jeb ["cell","wires"] (jah jcU):=⟨rfl,rfl,rfl,by decide +kernel,rfl,by decide +kernel,by decide +kernel⟩
theorem jhh {f:Addr} {fd:FuncData} {dV:Value} (F:FunV K "_law_nothing" "_law_nothing" jcU f fd dV) (T:Txt mg) (C__law_row:Cal P w K mg base "_law_row" 1 jaz []):FnOk P w K mg base CX0 2 f fd ["cell","wires"] (spD K jbr):=
  jdH (k:=1) (b:=jc1) F sc__law_nothing fun cdv A outer s H E hr=>(jaf (jap 2 sc__law_nothing.nd (jag jbF (jaa 0) (jaa 1))) (jaf (jap 3 sc__law_nothing.nd (jag jaZ jad (jag jbF (jag jcv (jaa 0) jad) jad))) (jaf (jap 4 sc__law_nothing.nd (jak C__law_row (hr.mono (by decide)) rfl (jab (jag jcv (jaa 0) jad) (jab (jaa 1) jae)))) (jaf (jap 5 sc__law_nothing.nd (jaa 4)) (jaf (jbg (jau (jed hr.units) (jai jas (jaa 4) jad (fun _ _=>rfl)) jaw (jar _)) (jaj (jap 5 sc__law_nothing.nd (jaA (jab jaw (jab (jai jas (jaa 4) jad (fun _ _=>rfl)) (jab (jag jbp jad (jai jas (jaa 4) jad (fun _ _=>rfl))) jae)))))) jaJ) (jaf (jap 6 sc__law_nothing.nd (jaA (jab jaw (jab (jaa 2) jae)))) (jaf (jh4 7 sc__law_nothing.nd (jab (jcz (jab (jaa 4) (jab (jaa 5) jae))) (jab (jcz (jab (jaa 6) (jab (jaA (jab jaw (jab (jaa 2) (jab jad jae)))) (jab (jaa 6) (jab (jaA (jab jaw (jab (jaa 2) jae))) jae))))) (jab (jcz (jab (jaA (jab jaw (jab (jaa 2) (jab (jaa 3) jae)))) (jab (jaA (jab jaw (jab (jaa 2) (jab (jag jbp jad (jaa 3)) jae)))) jae))) jae)))) (jaf (jbg (jau job (jaa 1) jad (jar _)) (jaf (jap 8 sc__law_nothing.nd (jag jbF (jag jaZ (jag jaZ (jaa 2) jad) (jag jbF (jag jcv (jaa 0) jad) (jag jbp (jaa 1) jad))) (jaa 1))) (jaf (jh5 7 (jcz (jab (jaA (jab jaw (jab (jaa 8) (jab (jaa 2) jae)))) (jab (jaA (jab jaw (jab (jaa 2) (jab (jaa 8) jae)))) (jab (jaA (jab jaw (jab (jaa 8) (jab (jaa 2) jae)))) (jab (jaA (jab jaw (jab (jaa 2) (jab (jaa 8) jae)))) jae)))))) (jaj (jh5 7 (jcz (jab (jaA (jab jaw (jab (jaa 8) (jab (jaa 2) jae)))) (jab (jaa 6) (jab (jaA (jab jaw (jab (jaa 8) (jab (jaa 2) jae)))) (jab (jaa 6) jae))))))))) jaJ) (jaj (jaq (jde 7 (jag jbF (jag jcv (jaa 0) jad) (jte 7 rfl T.len)) (fun _ _=>rfl))))))))))))
theorem sc__law_changed:FnScope jc6 ["rows","cell","wires","room"] (jah jci):=⟨rfl,rfl,rfl,by decide +kernel,rfl,by decide +kernel,by decide +kernel⟩
theorem jhj {f:Addr} {fd:FuncData} {dV:Value} (F:FunV K "_law_changed" "_law_changed" jci f fd dV) (T:Txt mg) (C__law_nothing:Cal P w K mg base "_law_nothing" 2 jbr []) (C__law_wires:Cal P w K mg base "_law_wires" 1 jaL []):FnOk P w K mg base CX0 3 f fd ["rows","cell","wires","room"] (spD K jbV):=
  jdH (k:=2) (b:=jcp) F sc__law_changed fun cdv A outer s H E hr=>(jaf (jap 4 sc__law_changed.nd (jag jcv (jaa 1) jad)) (jaf (jap 5 sc__law_changed.nd (jag jbF (jaa 4) (jag jaZ (jaI jee rfl T.len (by decide +kernel) (jab (jaa 0) jae)) jad))) (jaf (jbg (WV.tv (jgW (jau (jed hr.units) (jag jbF (jaa 1) jad) jad (jar _)) (jfV (jau jv6 (jag jaZ (jaa 5) jad) (jaI jee rfl T.len (by decide +kernel) (jab (jaa 0) jae)) (jar _))))) (jaf (jpb 6 sc__law_changed.nd (vars:=["wire"]) (caps:=[(0,"rows"),(5,"at")]) (by change BlkOk (jah jci).names jc6 _ _ _; exact ⟨rfl,by decide +kernel,by decide +kernel,by decide +kernel,by decide +kernel⟩) rfl (jdb (jak C__law_wires (hr.mono (by decide)) rfl (jab (jai jas (jaa 0) (jaa 5) (fun _ _=>rfl)) jae))) jcM (fun _ _ _ _=>jbC (i:=0) (show (["wire","rows","at"]:List Str).Nodup by decide +kernel) rfl (Or.inl rfl) (.inr rfl)) (fun _ _ _ _=>(jau jwZ (jaa 0) (jak C__law_wires (hr.mono (by decide)) rfl (jab (jai jas (jaa 1) (jag jaZ (jaa 2) jad) (fun _ _=>rfl)) jae)) (by with_unfolding_all rfl))) (fun _ _ _ _=>(jaa 0))) (jaj (jbg (jau (jed hr.units) (jaa 6) (jcz jae) (jar _)) (jaj (jaq (jaA (jab (jag jaZ (jag jaZ (jcc (jaa 0) jei (jb3 (jaa 5))) (jcz (jab (jai jas (jaa 0) (jag jaZ (jaa 5) jad) (fun _ _=>rfl)) (jab (jai jas (jaa 0) (jaa 5) (fun _ _=>rfl)) jae)))) (jcc (jaa 0) (jb3 (jag jaZ (jaa 5) jad)) jei)) (jab jad jae))))) jaJ))) jaJ) (jaf (jap 7 sc__law_changed.nd (jak C__law_nothing (hr.mono (by decide)) rfl (jab (jag jcv (jaa 4) jad) (jab (jaa 2) jae)))) (jaf (jap 8 sc__law_changed.nd jad) (jaf (jbg (jau (jed hr.units) (jag jbF (jaa 1) jad) jad (jar _)) (jaf (jap 9 sc__law_changed.nd (jag jbF (jag jcv (jaa 4) jad) (jaa 2))) (jaf (jap 8 sc__law_changed.nd (jag jaZ jad (jag jbF (jag jcv (jaa 4) jad) jad))) (jaj (jap 7 sc__law_changed.nd (jcz (jab (jaA (jab jaw (jab (jaa 9) jae))) (jab (jaA (jab jaw (jab (jaa 9) (jab (jaa 8) jae)))) (jab (jaA (jab jaw (jab (jaa 9) jae))) (jab (jaA (jab jaw (jab (jaa 9) (jab (jaa 8) jae)))) jae))))))))) jaJ) (jaf (jbg (jau job (jag jaZ (jaI jee rfl T.len (by decide +kernel) (jab (jaa 0) jae)) (jaI jee rfl T.len (by decide +kernel) (jab (jaa 7) jae))) (jaa 3) (jar _)) (jaj (jaq (jaA (jab (jaa 0) (jab jad jae))))) jaJ) (jaj (jaq (jaA (jab (jag jaZ (jag jaZ (jcc (jaa 0) jei (jb3 (jaa 5))) (jaa 7)) (jcc (jaa 0) (jb3 (jaa 5)) jei)) (jab (jaa 8) jae))))))))))))
theorem sc__law_paper:FnScope jd3 ["cell","wires"] (jah jda):=⟨rfl,rfl,rfl,by decide +kernel,rfl,by decide +kernel,by decide +kernel⟩
theorem jiQ {f:Addr} {fd:FuncData} {dV:Value} (F:FunV K "_law_paper" "_law_paper" jda f fd dV) (T:Txt mg):FnOk P w K mg base CX0 1 f fd ["cell","wires"] (spD K jbM):=
  jdH (k:=0) (b:=jd1) F sc__law_paper fun cdv A outer s H E hr=>(jaf (jap 2 sc__law_paper.nd (jag jfb jad (jaa 1))) (jaf (jap 3 sc__law_paper.nd (jag jcv (jaa 0) jad)) (jaf (jbg (jau (jed hr.units) (jag jbF (jaa 0) jad) jad (jar _)) (jaj (jaq (jaA (jab jaw (jab (jai jas (jcz (jab (jag jbp (jag jbF (jaa 3) jad) jad) (jab (jag jbp (jag jbF (jag jcv (jaa 3) jad) (jag jqw jad jad)) (jag jqw jad jad)) jae))) (jag jcv (jag jbF (jaa 3) jad) jad) (fun _ _=>rfl)) jae))))) jaJ) (jaf (jpa 4 sc__law_paper.nd (vars:=["k"]) (caps:=[(2,"some"),(3,"rest")]) (by change BlkOk (jah jda).names jd3 _ _ _; exact ⟨rfl,by decide +kernel,by decide +kernel,by decide +kernel,by decide +kernel⟩) rfl (jaW rfl T.range (jab jad jae)) jcM (fun _ _ _ _=>jbC (i:=0) (show (["k","some","rest"]:List Str).Nodup by decide +kernel) rfl (Or.inl rfl) (.inr rfl)) (fun _ _ _ _=>(jag jbF (jag jcv (jaa 2) (jai jas (jcz (jab jad (jab jad (jab jad (jab jad jae))))) (jaa 0) (fun _ _=>rfl))) (jaa 1)))) (jaf (jbg (jau (jed hr.units) (jag jbF (jaa 0) jad) jad (jar _)) (jaj (jfu 4 (jag jbF (jaa 3) jad) (jai jas (jcz (jab (jf6 jf8 jad) (jab (jaa 2) (jab (jag jaZ (jag jbF (jaa 3) (jag jqw jad jad)) (jaa 2)) (jab (jag jbp (jf6 jf8 jad) (jag jbF (jaa 3) (jag jqw jad jad))) jae))))) (jag jbF (jag jcv (jaa 3) jad) jad) (fun _ _=>rfl)))) jaJ) (jaj (jaq (jaA (jab jaw (jab (jde 4 jad (fun _ _=>rfl)) (jab (jde 4 jad (fun _ _=>rfl)) (jab (jde 4 jad (fun _ _=>rfl)) (jab (jde 4 jad (fun _ _=>rfl)) jae)))))))))))))
theorem sc__law_due:FnScope jiq ["one","other","first","second","paper"] (jah je3):=⟨rfl,rfl,rfl,by decide +kernel,rfl,by decide +kernel,by decide +kernel⟩
theorem jku {f:Addr} {fd:FuncData} {dV:Value} (F:FunV K "_law_due" "_law_due" je3 f fd dV) (T:Txt mg) (C__law_unlike:Cal P w K mg base "_law_unlike" 2 jbb []) (C__law_turns_alike:Cal P w K mg base "_law_turns_alike" 2 jaC []):FnOk P w K mg base CX0 3 f fd ["one","other","first","second","paper"] (spD K jcy):=
  jdH (k:=2) (b:=jge) F sc__law_due fun cdv A outer s H E hr=>(jaf (jbg (jau (jed hr.units) (jai jas (jaa 4) jad (fun _ _=>rfl)) jaw (jar _)) (jaj (jaq (jn4 (jgl jzQ jad (jai jas (jaa 4) jad (fun _ _=>rfl)) (jar _)) (jn4 (jgl jv6 (jai jas (jaa 4) jad (fun _ _=>rfl)) jad (jar _)) (jrH (jak C__law_turns_alike (hr.mono (by decide)) rfl (jab (jaa 0) (jab (jaa 1) (jab (jaa 2) (jab (jaa 3) (jab (jai jas (jaa 4) jad (fun _ _=>rfl)) jae))))))))))) jaJ) (jaf (jcN PassesOwn.never rfl (jdb (jcc (jaa 4) (jb3 jad) jei)) (jbW 5 sc__law_due.nd) (jaj (jbg (WV.tv (jir (jau jv6 (jaa 5) jad (jar _)) (jgf (jau jA3 (jaa 5) (jaI jee rfl T.len (by decide +kernel) (jab (jaa 2) jae)) (jar _))))) (jaj (jaq ji1)) jaJ))) (jaj (jaq (jak C__law_unlike (hr.mono (by decide)) rfl (jab (jaa 2) (jab (jaa 3) (jab (jcc (jaa 4) (jb3 jad) jei) jae))))))))
theorem sc__law_which:FnScope jgq ["one","other","paper"] (jah jdU):=⟨rfl,rfl,rfl,by decide +kernel,rfl,by decide +kernel,by decide +kernel⟩
theorem jiO {f:Addr} {fd:FuncData} {dV:Value} (F:FunV K "_law_which" "_law_which" jdU f fd dV) (T:Txt mg) (C_alike_paper:Cal P w K mg base "alike_paper" 9 jaR []) (C_paper_stands:Cal P w K mg base "paper_stands" 9 jat []) (Y_alike_paper:CalX P w K mg base "alike_paper" 9 jaQ []) (Y_paper_stands:CalX P w K mg base "paper_stands" 9 jaN []) (H_WaveError:Hnd K "WaveError" hs_WaveError) (I_OddTurn:IsX K "OddTurn" jdA) (I_UnlikeWires:IsX K "UnlikeWires" jbS) (I_HasLooks:IsX K "HasLooks" jcP) (I_NoPaper:IsX K "NoPaper" jdB) (I_ValueError:IsT K "ValueError" jb9):FnOk P w K mg base CX0 10 f fd ["one","other","paper"] (spD K jbf):=
  jdH (k:=9) (b:=jeR) F sc__law_which fun cdv A outer s H E hr=>(jaf (jap 3 sc__law_which.nd jgk) (jaf (jue 4 H_WaveError rfl sc__law_which.nd rfl rfl rfl rfl (jaj (jbg (jau jzg (jaa 2) jgk (jar _)) (jaj (jg2 (jak C_alike_paper (hr.mono (by decide)) rfl (jab (jaa 0) (jab (jaa 1) jae))))) (jaj (jg2 (jak C_paper_stands (hr.mono (by decide)) rfl (jab (jaa 0) (jab (jaa 1) (jab (jaa 2) jae)))))))) (fun _ _=>(jdj (jo4 (TV.lift (jau jzg (jaa 2) jgk (jar _))) (jdj (jiw (jhv Y_alike_paper (hr.mono (by decide)) rfl (AV.lift (jab (jaa 0) (jab (jaa 1) jae)))))) (jdj (jiw (jhv Y_paper_stands (hr.mono (by decide)) rfl (AV.lift (jab (jaa 0) (jab (jaa 1) (jab (jaa 2) jae)))))))))) (fun _=>(jaj (jap 3 sc__law_which.nd (jaa 4))))) (jaf (jbg (jau jzg (jaa 3) jgk (jar _)) (jaj (jaq jaw)) jaJ) (jaf (jh4 5 sc__law_which.nd (jab (jlB I_HasLooks rfl T.isinstance rfl (jaa 3)) (jab (jlB I_UnlikeWires rfl T.isinstance rfl (jaa 3)) (jab (jlB I_OddTurn rfl T.isinstance rfl (jaa 3)) jae)))) (jaf (jh5 5 (jlB I_NoPaper rfl T.isinstance rfl (jaa 3))) (jaf (jlV 5 (jbg (WV.tv (jir (jau (joa hr.units) (jvW (jaa 5) ji1) jad (jar _)) (jgf (jfd (jfc (jtf I_ValueError rfl T.isinstance rfl T.ValueError (jaa 3))))))) (jaj (jaq jaw)) jaJ)) (jaj (jaq (jai jas (jcz (jab jaw (jab jaw (jab jaw (jab jaw jae))))) (jvU (jaa 5) ji1) (fun _ _=>rfl))))))))))
theorem sc__law_refused:FnScope jc5 ["one","other","cell"] (jah jcT):=⟨rfl,rfl,rfl,by decide +kernel,rfl,by decide +kernel,by decide +kernel⟩
theorem jhg {f:Addr} {fd:FuncData} {dV:Value} (F:FunV K "_law_refused" "_law_refused" jcT f fd dV) (T:Txt mg) (C__law_which:Cal P w K mg base "_law_which" 10 jbf []):FnOk P w K mg base CX0 11 f fd ["one","other","cell"] (spD K jbE):=
  jdH (k:=10) (b:=jco) F sc__law_refused fun cdv A outer s H E hr=>(jaf (jap 3 sc__law_refused.nd jaw) (jaf (jbg (jau (jed hr.units) (jag jbF (jaa 2) jad) jad (jar _)) (jaf (jap 1 sc__law_refused.nd (jaA (jab (jag jaZ (jai jas (jaa 1) jad (fun _ _=>rfl)) jad) (jab (jai jas (jaa 1) jad (fun _ _=>rfl)) jae)))) (jaj (jap 3 sc__law_refused.nd jaw))) jaJ) (jaf (jbg (jau job (jag jbF (jag jcv (jaa 2) jad) jad) jad (jar _)) (jaf (jh4 4 sc__law_refused.nd (jab (jaa 0) (jab (jaa 1) jae))) (jaf (jap 5 sc__law_refused.nd (jag jbF (jag jcv (jaa 2) jad) jad)) (jaf (jap 6 sc__law_refused.nd (jai jas (jde 4 (jaa 5) (fun _ _=>rfl)) jad (fun _ _=>rfl))) (jaf (jfu 4 (jaa 5) (jaA (jab (jai jas (jde 4 (jaa 5) (fun _ _=>rfl)) jad (fun _ _=>rfl)) (jab (jag jaZ (jag jaZ (jcc (jaa 6) jei (jb3 (jag jbF (jag jcv (jaa 2) jad) (jag jaZ (jaI jee rfl T.len (by decide +kernel) (jab (jaa 6) jae)) jad)))) (jaA (jab (jaA (jab jaw (jab jad jae))) jae))) (jaa 6)) jae)))) (jaf (jap 0 sc__law_refused.nd (jde 4 jad (fun _ _=>rfl))) (jaf (jap 1 sc__law_refused.nd (jde 4 jad (fun _ _=>rfl))) (jaj (jap 3 sc__law_refused.nd jaw)))))))) jaJ) (jaf (jcN PassesOwn.never rfl (jdb (jcz (jab jgk (jab (jaA (jab jaw (jab jad jae))) (jab (jaA (jab jaw (jab jad (jab jad (jab jad (jab jad jae)))))) jae))))) (jbW 7 sc__law_refused.nd) (jaj (jbg (jau (joa hr.units) (jak C__law_which (hr.mono (by decide)) rfl (jab (jaa 0) (jab (jaa 1) (jab (jaa 7) jae)))) (jaa 3) (jar _)) (jaj (jaq ji1)) jaJ))) (jaj (jaq ji1))))))
theorem sc_law:FnScope joD ["script"] (jah jg6):=⟨rfl,rfl,rfl,by decide +kernel,rfl,by decide +kernel,by decide +kernel⟩
theorem ju5 {f:Addr} {fd:FuncData} {dV:Value} (F:FunV K "law" "law" jg6 f fd dV) (T:Txt mg) (C__law_cell_at:Cal P w K mg base "_law_cell_at" 1 jbd []) (C__law_columns:Cal P w K mg base "_law_columns" 3 jaG []) (C__law_row:Cal P w K mg base "_law_row" 1 jaz []) (C__law_refused:Cal P w K mg base "_law_refused" 11 jbE []) (C__law_paper:Cal P w K mg base "_law_paper" 1 jbM []) (C_paper_stands:Cal P w K mg base "paper_stands" 9 jat []) (C__law_changed:Cal P w K mg base "_law_changed" 3 jbV []) (C__law_due:Cal P w K mg base "_law_due" 3 jcy []):FnOk P w K mg base CX0 12 f fd ["script"] (spD K js8):=
  jdH (k:=11) (b:=jqG) F sc_law fun cdv A outer s H E hr=>(jaf (jap 1 sc_law.nd (jak C__law_cell_at (hr.mono (by decide)) rfl (jab (jaa 0) (jab jad jae)))) (jaf (jap 2 sc_law.nd (jag jaZ jad (jag jbF (jaa 1) jad))) (jaf (jbg (jau (jed hr.units) (jag jbF (jag jcv (jaa 1) jad) jad) jad (jar _)) (jaj (jap 2 sc_law.nd jad)) jaJ) (jaf (jap 3 sc_law.nd (jai jas (jcz (jab jad (jab jad (jab jad (jab jad jae))))) (jag jbp (jaa 2) jad) (fun _ _=>rfl))) (jaf (jiy 4 sc_law.nd (vars:=["cell"]) (caps:=[(2,"wires")]) (by change BlkOk (jah jg6).names joD _ _ _; exact ⟨rfl,by decide +kernel,by decide +kernel,by decide +kernel,by decide +kernel⟩) rfl (jdb (jcc (jaa 0) (jb3 jad) (jb3 (jag jaZ jad (jaa 3))))) jcM (fun _ _ _ _=>jbC (i:=0) (show (["cell","wires"]:List Str).Nodup by decide +kernel) rfl (Or.inl rfl) (.inr rfl)) (fun _ _ _ _=>(jak C__law_row (hr.mono (by decide)) rfl (jab (jaa 0) (jab (jaa 1) jae))))) (jaf (jap 5 sc_law.nd (jb7 jrL rfl T.list (by decide +kernel) (jab (jaa 4) jae))) (jaf (jbg (jau (jed hr.units) (jag jbF (jag jcv (jaa 1) jad) jad) jad (jar _)) (jaj (jiy 5 sc_law.nd (vars:=["cell"]) (caps:=[(2,"wires")]) (by change BlkOk (jah jg6).names joD _ _ _; exact ⟨rfl,by decide +kernel,by decide +kernel,by decide +kernel,by decide +kernel⟩) rfl (jdb (jcc (jaa 0) (jb3 (jag jaZ jad (jaa 3))) (jb3 (jag jaZ jad (jag jbR jad (jaa 3)))))) jcM (fun _ _ _ _=>jbC (i:=0) (show (["cell","wires"]:List Str).Nodup by decide +kernel) rfl (Or.inl rfl) (.inr rfl)) (fun _ _ _ _=>(jak C__law_row (hr.mono (by decide)) rfl (jab (jaa 0) (jab (jaa 1) jae)))))) (jaj (jcN PassesOwn.never rfl (jdb (jcc (jaa 0) (jb3 (jag jaZ jad (jaa 3))) (jb3 (jag jaZ jad (jag jbR jad (jaa 3)))))) (jbW 6 sc_law.nd) (jaj (jap 5 sc_law.nd (jai jas (jak C__law_changed (hr.mono (by decide)) rfl (jab (jaa 5) (jab (jaa 6) (jab (jaa 2) (jab (jag jbR jad (jaa 3)) jae))))) jad (fun _ _=>rfl))))))) (jaf (jap 7 sc_law.nd (jaA (jab (jaa 2) (jab (jb7 jen rfl T.tuple (by decide +kernel) (jab (jaa 4) jae)) jae)))) (jaf (jap 8 sc_law.nd (jaA (jab (jaa 2) (jab (jb7 jen rfl T.tuple (by decide +kernel) (jab (jaa 5) jae)) jae)))) (jaf (jbg (jau (jed hr.units) (jag jbF (jag jcv (jaa 1) jad) jad) jad (jar _)) (jaj (jaq (jak C__law_refused (hr.mono (by decide)) rfl (jab (jaa 7) (jab (jaa 8) (jab (jag jcv (jaa 1) jad) jae)))))) jaJ) (jaf (jap 9 sc_law.nd (jak C__law_columns (hr.mono (by decide)) rfl (jab (jaa 7) jae))) (jaf (jap 10 sc_law.nd (jak C__law_columns (hr.mono (by decide)) rfl (jab (jaa 8) jae))) (jaf (jap 11 sc_law.nd (jcc (jaa 0) (jb3 (jag jaZ jad (jag jbR jad (jaa 3)))) (jb3 (jag jaZ (jag jaZ jad (jag jbR jad (jaa 3))) (jai jas (jcz (jab jad (jab jad (jab jad (jab jad jae))))) (jag jbp (jaa 2) jad) (fun _ _=>rfl)))))) (jaf (jcN PassesOwn.never rfl (jdb (jag jaZ (jaa 11) (jcz (jab (jag jaZ jad (jag jbR jad (jag jbF (jag jcv (jaa 1) jad) jad))) jae)))) (jbW 6 sc_law.nd) (jaf (jap 12 sc_law.nd (jak C__law_paper (hr.mono (by decide)) rfl (jab (jaa 6) (jab (jaa 2) jae)))) (jaf (jap 13 sc_law.nd (jak C_paper_stands (hr.mono (by decide)) rfl (jab (jaa 7) (jab (jaa 8) (jab (jaa 12) jae))))) (jaj (jbg (WV.tv (jir (jfd (jfc (jvT (T:="bool") rfl T.isinstance rfl T.bool (by decide +kernel) (by decide) (by decide) (jaa 13)))) (jgf (jau (joa hr.units) (jaa 13) (jak C__law_due (hr.mono (by decide)) rfl (jab (jaa 7) (jab (jaa 8) (jab (jaa 9) (jab (jaa 10) (jab (jaa 12) jae)))))) (jar _))))) (jaj (jaq ji1)) jaJ))))) (jaj (jaq ji1))))))))))))))))
end
theorem jhY:jay "twos_shared" jdp ["joined","most"]:=fun _ _ _ _ _ _ us hl=>by obtain ⟨_,_,rfl⟩:=jgi hl; exact rfl
theorem jmu:jay "by_root" jfy ["a","b","c","d"]:=fun _ _ _ _ _ _ us hl=>by obtain ⟨_,_,_,_,rfl⟩:=jyJ hl; exact rfl
theorem ji7:jay "parts_over" jdS ["x","k"]:=fun _ _ _ _ _ _ us hl=>by obtain ⟨_,_,rfl⟩:=jgi hl; exact rfl
theorem jtu:jay "plus" jli ["x","y"]:=fun _ _ _ _ _ _ us hl=>by obtain ⟨_,_,rfl⟩:=jgi hl; exact rfl
theorem jqE:jay "times" jiG ["x","y"]:=fun _ _ _ _ _ _ us hl=>by obtain ⟨_,_,rfl⟩:=jgi hl; exact rfl
theorem jmv:jay "against" jfz ["x"]:=fun _ _ _ _ _ _ us hl=>by obtain ⟨_,rfl⟩:=jrd hl; exact rfl
theorem jot:jay "turned" jgJ ["x","e"]:=fun _ _ _ _ _ _ us hl=>by obtain ⟨_,_,rfl⟩:=jgi hl; exact rfl
theorem jou:jay "halved" jgK ["x"]:=fun _ _ _ _ _ _ us hl=>by obtain ⟨_,rfl⟩:=jrd hl; exact rfl
theorem jqD:jay "worth" jiF ["wires","wire"]:=fun _ _ _ _ _ _ us hl=>by obtain ⟨_,_,rfl⟩:=jgi hl; exact rfl
theorem jqF:jay "swung" jiH ["state","bit"]:=fun _ _ _ _ _ _ us hl=>by obtain ⟨_,_,rfl⟩:=jgi hl; exact rfl
theorem jhA:jay "turned_where" jcg ["state","held","e"]:=fun _ _ _ _ _ _ us hl=>by obtain ⟨_,_,_,rfl⟩:=joK hl; exact rfl
theorem jgC:jay "flipped_where" jb0 ["state","held","bit"]:=fun _ _ _ _ _ _ us hl=>by obtain ⟨_,_,_,rfl⟩:=joK hl; exact rfl
theorem jj6:jay "exchanged" jef ["place","both"]:=fun _ _ _ _ _ _ us hl=>by obtain ⟨_,_,rfl⟩:=jgi hl; exact rfl
theorem jtv:jay "done" jjx ["state","row"]:=fun _ _ _ _ _ _ us hl=>by obtain ⟨_,_,rfl⟩:=jgi hl; exact rfl
theorem jkP:jay "all_done" je1 ["state","rows"]:=fun _ _ _ _ _ _ us hl=>by obtain ⟨_,_,rfl⟩:=jgi hl; exact rfl
theorem jj8:jay "all_plain" jdF ["rows"]:=fun _ _ _ _ _ _ us hl=>by obtain ⟨_,rfl⟩:=jrd hl; exact rfl
theorem jj7:jay "column" jfx ["circuit","place"]:=fun _ _ _ _ _ _ us hl=>by obtain ⟨_,_,rfl⟩:=jgi hl; exact rfl
theorem jkN:jay "is_plain" je0 ["circuit"]:=fun _ _ _ _ _ _ us hl=>by obtain ⟨_,rfl⟩:=jrd hl; exact rfl
theorem jeO:jay "refuse_apart" jch ["one","other"]:=fun _ _ _ _ _ _ us hl=>by obtain ⟨_,_,rfl⟩:=jgi hl; exact rfl
theorem jgD:jay "columns_apart" jb1 ["circuit","apart"]:=fun _ _ _ _ _ _ us hl=>by obtain ⟨_,_,rfl⟩:=jgi hl; exact rfl
theorem jmt:jay "turn_to" jeF ["one","other"]:=fun _ _ _ _ _ _ us hl=>by obtain ⟨_,_,rfl⟩:=jgi hl; exact rfl
theorem ji6:jay "turn_apart" jc9 ["one","other"]:=fun _ _ _ _ _ _ us hl=>by obtain ⟨_,_,rfl⟩:=jgi hl; exact rfl
theorem jeN:jay "unlike_paper" jbT ["one","other"]:=fun _ _ _ _ _ _ us hl=>by obtain ⟨_,_,rfl⟩:=jgi hl; exact rfl
theorem jfh:jay "alike_paper" jcD ["one","other"]:=fun _ _ _ _ _ _ us hl=>by obtain ⟨_,_,rfl⟩:=jgi hl; exact rfl
theorem jkO:jay "is_apart" jdC ["one","other","paper"]:=fun _ _ _ _ _ _ us hl=>by obtain ⟨_,_,_,rfl⟩:=joK hl; exact rfl
theorem jeP:jay "paper_stands" jbU ["one","other","paper"]:=fun _ _ _ _ _ _ us hl=>by obtain ⟨_,_,_,rfl⟩:=joK hl; exact rfl
theorem jhF:jay "_law_cell_at" jcW ["script","k"]:=fun _ _ _ _ _ _ us hl=>by obtain ⟨_,_,rfl⟩:=jgi hl; exact rfl
theorem jkQ:jay "_law_row" je2 ["cell","wires"]:=fun _ _ _ _ _ _ us hl=>by obtain ⟨_,_,rfl⟩:=jgi hl; exact rfl
theorem jh0:jay "_law_turned" jdr ["x","e"]:=fun _ _ _ _ _ _ us hl=>by obtain ⟨_,_,rfl⟩:=jgi hl; exact rfl
theorem jh2:jay "_law_raised" jds ["x","many"]:=fun _ _ _ _ _ _ us hl=>by obtain ⟨_,_,rfl⟩:=jgi hl; exact rfl
theorem jja:jay "_law_times" jdV ["x","y"]:=fun _ _ _ _ _ _ us hl=>by obtain ⟨_,_,rfl⟩:=jgi hl; exact rfl
theorem jjc:jay "_law_moved" jdW ["place","row","wires"]:=fun _ _ _ _ _ _ us hl=>by obtain ⟨_,_,_,rfl⟩:=joK hl; exact rfl
theorem jgE:jay "_law_row_done" jcF ["state","row","wires"]:=fun _ _ _ _ _ _ us hl=>by obtain ⟨_,_,_,rfl⟩:=joK hl; exact rfl
theorem jhD:jay "_law_columns" jcV ["circuit"]:=fun _ _ _ _ _ _ us hl=>by obtain ⟨_,rfl⟩:=jrd hl; exact rfl
theorem jh1:jay "_law_swings" jcE ["circuit"]:=fun _ _ _ _ _ _ us hl=>by obtain ⟨_,rfl⟩:=jrd hl; exact rfl
theorem jfp:jay "_law_turns_alike" jbX ["one","other","first","second","e"]:=fun _ _ _ _ _ _ us hl=>by obtain ⟨_,_,_,_,_,rfl⟩:=jyI hl; exact rfl
theorem jhZ:jay "_law_unlike" jdq ["first","second","spots"]:=fun _ _ _ _ _ _ us hl=>by obtain ⟨_,_,_,rfl⟩:=joK hl; exact rfl
theorem ji8:jay "_law_wires" jdT ["row"]:=fun _ _ _ _ _ _ us hl=>by obtain ⟨_,rfl⟩:=jrd hl; exact rfl
theorem jhC:jay "_law_nothing" jcU ["cell","wires"]:=fun _ _ _ _ _ _ us hl=>by obtain ⟨_,_,rfl⟩:=jgi hl; exact rfl
theorem jhE:jay "_law_changed" jci ["rows","cell","wires","room"]:=fun _ _ _ _ _ _ us hl=>by obtain ⟨_,_,_,_,rfl⟩:=jyJ hl; exact rfl
theorem jjb:jay "_law_paper" jda ["cell","wires"]:=fun _ _ _ _ _ _ us hl=>by obtain ⟨_,_,rfl⟩:=jgi hl; exact rfl
theorem jkR:jay "_law_due" je3 ["one","other","first","second","paper"]:=fun _ _ _ _ _ _ us hl=>by obtain ⟨_,_,_,_,_,rfl⟩:=jyI hl; exact rfl
theorem ji9:jay "_law_which" jdU ["one","other","paper"]:=fun _ _ _ _ _ _ us hl=>by obtain ⟨_,_,_,rfl⟩:=joK hl; exact rfl
theorem jhB:jay "_law_refused" jcT ["one","other","cell"]:=fun _ _ _ _ _ _ us hl=>by obtain ⟨_,_,_,rfl⟩:=joK hl; exact rfl
theorem jwf {l:PySem.W.OpenLaw} {w:World} {K:PySem.W.Frag} {h:Heap} {mg:Str → Option Value} {fa f2 f10 f46 t2 t10 xc_WaveError xc_OddTurn xc_UnlikeWires xc_HasLooks xc_NoPaper f_NOUGHT f_ONE f_PLAIN:Addr} {od2 an2 od10 an10 od46 an46 td2 td10 td_NOUGHT td_ONE td_PLAIN:Option Addr} {sl2 sl10 sl46 ts2 ts10 ts_NOUGHT ts_ONE ts_PLAIN:Array (Option Value)} {oc2 kV2 dc2 pm2 cd2 ct2 oc10 kV10 dc10 pm10 cd10 ct10 oc46 kV46 dc46 pm46 cd46 ct46 tc2 tc10:Value} {tn2 tn10 tn_NOUGHT tn_ONE tn_PLAIN:Nat} {tk2_0 tk10_0 tk_NOUGHT_0 tk_NOUGHT_1 tk_NOUGHT_2 tk_NOUGHT_3 tk_NOUGHT_4 tk_ONE_0 tk_ONE_1 tk_ONE_2 tk_ONE_3 tk_ONE_4 tk_PLAIN_0 tk_PLAIN_1 tk_PLAIN_2 tk_PLAIN_3 tk_PLAIN_4 tk_PLAIN_5:Tok} (X:K.In h) (G:h.Ns mainGlobals mg) (hfa:mg "law" = some (.ref fa))
    (D0:DefIn K "twos_shared" "twos_shared" jdp)
    (D1:DefIn K "by_root" "by_root" jfy)
    (a2:PySem.W.nsIn K mainGlobals "number" = some (some (.ref f2))) (l2:K.lookup f2 = some ⟨oc2,od2,.func (PySem.W.fnOf "number" "number" (jcu jeZ) (jbQ jeZ) (jah jeZ) (.ref t2) kV2 dc2 pm2 an2 cd2 ct2),sl2⟩) (c2:PySem.W.codeIn K cd2 "number" = true) (k2:PySem.W.keepIn K (.ref f2) = true)
    (d2:K.lookup t2 = some ⟨tc2,td2,.seq #[.int 0 tk2_0] tn2,ts2⟩)
    (D3:DefIn K "parts_over" "parts_over" jdS)
    (D4:DefIn K "plus" "plus" jli)
    (D5:DefIn K "times" "times" jiG)
    (D6:DefIn K "against" "against" jfz)
    (D7:DefIn K "turned" "turned" jgJ)
    (D8:DefIn K "halved" "halved" jgK)
    (D9:DefIn K "worth" "worth" jiF)
    (a10:PySem.W.nsIn K mainGlobals "beginning" = some (some (.ref f10))) (l10:K.lookup f10 = some ⟨oc10,od10,.func (PySem.W.fnOf "beginning" "beginning" (jcu jcs) (jbQ jcs) (jah jcs) (.ref t10) kV10 dc10 pm10 an10 cd10 ct10),sl10⟩) (c10:PySem.W.codeIn K cd10 "beginning" = true) (k10:PySem.W.keepIn K (.ref f10) = true)
    (d10:K.lookup t10 = some ⟨tc10,td10,.seq #[.int 0 tk10_0] tn10,ts10⟩)
    (D11:DefIn K "swung" "swung" jiH)
    (D12:DefIn K "turned_where" "turned_where" jcg)
    (D13:DefIn K "flipped_where" "flipped_where" jb0)
    (D14:DefIn K "exchanged" "exchanged" jef)
    (D15:DefIn K "done" "done" jjx)
    (D16:DefIn K "all_done" "all_done" je1)
    (D17:DefIn K "all_plain" "all_plain" jdF)
    (D18:DefIn K "column" "column" jfx)
    (D19:DefIn K "is_plain" "is_plain" je0)
    (D20:DefIn K "refuse_apart" "refuse_apart" jch)
    (D21:DefIn K "columns_apart" "columns_apart" jb1)
    (D22:DefIn K "turn_to" "turn_to" jeF)
    (D23:DefIn K "turn_apart" "turn_apart" jc9)
    (D24:DefIn K "unlike_paper" "unlike_paper" jbT)
    (D25:DefIn K "alike_paper" "alike_paper" jcD)
    (D26:DefIn K "is_apart" "is_apart" jdC)
    (D27:DefIn K "paper_stands" "paper_stands" jbU)
    (D28:DefIn K "_law_cell_at" "_law_cell_at" jcW)
    (D29:DefIn K "_law_row" "_law_row" je2)
    (D30:DefIn K "_law_turned" "_law_turned" jdr)
    (D31:DefIn K "_law_raised" "_law_raised" jds)
    (D32:DefIn K "_law_times" "_law_times" jdV)
    (D33:DefIn K "_law_moved" "_law_moved" jdW)
    (D34:DefIn K "_law_row_done" "_law_row_done" jcF)
    (D35:DefIn K "_law_columns" "_law_columns" jcV)
    (D36:DefIn K "_law_swings" "_law_swings" jcE)
    (D37:DefIn K "_law_turns_alike" "_law_turns_alike" jbX)
    (D38:DefIn K "_law_unlike" "_law_unlike" jdq)
    (D39:DefIn K "_law_wires" "_law_wires" jdT)
    (D40:DefIn K "_law_nothing" "_law_nothing" jcU)
    (D41:DefIn K "_law_changed" "_law_changed" jci)
    (D42:DefIn K "_law_paper" "_law_paper" jda)
    (D43:DefIn K "_law_due" "_law_due" je3)
    (D44:DefIn K "_law_which" "_law_which" jdU)
    (D45:DefIn K "_law_refused" "_law_refused" jcT)
    (a46:PySem.W.nsIn K mainGlobals "law" = some (some (.ref f46))) (l46:K.lookup f46 = some ⟨oc46,od46,.func (PySem.W.fnOf "law" "law" (jcu jg6) (jbQ jg6) (jah jg6) .none kV46 dc46 pm46 an46 cd46 ct46),sl46⟩) (c46:PySem.W.codeIn K cd46 "law" = true) (k46:PySem.W.keepIn K (.ref f46) = true)
    (z_min:PySem.W.nsIn K mainGlobals "min" = some none)
    (z_max:PySem.W.nsIn K mainGlobals "max" = some none)
    (z_tuple:PySem.W.nsIn K mainGlobals "tuple" = some none)
    (z_range:PySem.W.nsIn K mainGlobals "range" = some none)
    (z_len:PySem.W.nsIn K mainGlobals "len" = some none)
    (z_all:PySem.W.nsIn K mainGlobals "all" = some none)
    (z_list:PySem.W.nsIn K mainGlobals "list" = some none)
    (z_isinstance:PySem.W.nsIn K mainGlobals "isinstance" = some none)
    (z_ValueError:PySem.W.nsIn K mainGlobals "ValueError" = some none)
    (z_bool:PySem.W.nsIn K mainGlobals "bool" = some none)
    (a_NOUGHT:PySem.W.nsIn K mainGlobals "NOUGHT" = some (some (.ref f_NOUGHT))) (d_NOUGHT:K.lookup f_NOUGHT = some ⟨.type "tuple",td_NOUGHT,.seq #[.int 0 tk_NOUGHT_0,.int 0 tk_NOUGHT_1,.int 0 tk_NOUGHT_2,.int 0 tk_NOUGHT_3,.int 0 tk_NOUGHT_4] tn_NOUGHT,ts_NOUGHT⟩)
    (a_ONE:PySem.W.nsIn K mainGlobals "ONE" = some (some (.ref f_ONE))) (d_ONE:K.lookup f_ONE = some ⟨.type "tuple",td_ONE,.seq #[.int 1 tk_ONE_0,.int 0 tk_ONE_1,.int 0 tk_ONE_2,.int 0 tk_ONE_3,.int 0 tk_ONE_4] tn_ONE,ts_ONE⟩)
    (a_PLAIN:PySem.W.nsIn K mainGlobals "PLAIN" = some (some (.ref f_PLAIN))) (d_PLAIN:K.lookup f_PLAIN = some ⟨.type "tuple",td_PLAIN,.seq #[.str "swing" tk_PLAIN_0,.str "turn" tk_PLAIN_1,.str "flip" tk_PLAIN_2,.str "tie" tk_PLAIN_3,.str "sign" tk_PLAIN_4,.str "cross" tk_PLAIN_5] tn_PLAIN,ts_PLAIN⟩)
    (xn_WaveError:PySem.W.nsIn K mainGlobals "WaveError" = some (some (.ref xc_WaveError)))
    (xn_OddTurn:PySem.W.nsIn K mainGlobals "OddTurn" = some (some (.ref xc_OddTurn)))
    (xn_UnlikeWires:PySem.W.nsIn K mainGlobals "UnlikeWires" = some (some (.ref xc_UnlikeWires)))
    (xn_HasLooks:PySem.W.nsIn K mainGlobals "HasLooks" = some (some (.ref xc_HasLooks)))
    (xn_NoPaper:PySem.W.nsIn K mainGlobals "NoPaper" = some (some (.ref xc_NoPaper)))
    (xe_WaveError:PySem.W.excIn K xc_WaveError [.type "ValueError",.type "Exception",.type "BaseException",.type "object"] "ValueError.__new__" = true)
    (xe_UnlikeWires:PySem.W.excIn K xc_UnlikeWires [.type "ValueError",.type "Exception",.type "BaseException",.type "object"] "ValueError.__new__" = true)
    (xe_HasLooks:PySem.W.excIn K xc_HasLooks [.type "ValueError",.type "Exception",.type "BaseException",.type "object"] "ValueError.__new__" = true)
    (xga_HasLooks:PySem.W.findIn K (.ref xc_HasLooks) "__getattribute__" = some (some (.builtin "BaseException.__getattribute__")))
    (xgt_HasLooks:PySem.W.findIn K (.ref xc_HasLooks) "__getattr__" = some none)
    (xcl_HasLooks:PySem.W.findIn K (.ref xc_HasLooks) "__class__" = some (some (.builtin "object.__class__")))
    (xmo_HasLooks:PySem.W.mroIn K xc_HasLooks (.type "object") = some true)
    (xbe_HasLooks:PySem.W.mroIn K xc_HasLooks (.type "BaseException") = some true)
    (xga_UnlikeWires:PySem.W.findIn K (.ref xc_UnlikeWires) "__getattribute__" = some (some (.builtin "BaseException.__getattribute__")))
    (xgt_UnlikeWires:PySem.W.findIn K (.ref xc_UnlikeWires) "__getattr__" = some none)
    (xcl_UnlikeWires:PySem.W.findIn K (.ref xc_UnlikeWires) "__class__" = some (some (.builtin "object.__class__")))
    (xmo_UnlikeWires:PySem.W.mroIn K xc_UnlikeWires (.type "object") = some true)
    (xbe_UnlikeWires:PySem.W.mroIn K xc_UnlikeWires (.type "BaseException") = some true)
    (xs_HasLooks_WaveError:PySem.W.subIn K (.ref xc_HasLooks) (.ref xc_WaveError) = some true)
    (xs_UnlikeWires_WaveError:PySem.W.subIn K (.ref xc_UnlikeWires) (.ref xc_WaveError) = some true)
    (xk_HasLooks_OddTurn:PySem.W.kitOne K (.ref xc_HasLooks) (.ref xc_OddTurn) = some false)
    (xk_UnlikeWires_OddTurn:PySem.W.kitOne K (.ref xc_UnlikeWires) (.ref xc_OddTurn) = some false)
    (xk_HasLooks_UnlikeWires:PySem.W.kitOne K (.ref xc_HasLooks) (.ref xc_UnlikeWires) = some false)
    (xk_UnlikeWires_UnlikeWires:PySem.W.kitOne K (.ref xc_UnlikeWires) (.ref xc_UnlikeWires) = some true)
    (xk_HasLooks_HasLooks:PySem.W.kitOne K (.ref xc_HasLooks) (.ref xc_HasLooks) = some true)
    (xk_UnlikeWires_HasLooks:PySem.W.kitOne K (.ref xc_UnlikeWires) (.ref xc_HasLooks) = some false)
    (xk_HasLooks_NoPaper:PySem.W.kitOne K (.ref xc_HasLooks) (.ref xc_NoPaper) = some false)
    (xk_UnlikeWires_NoPaper:PySem.W.kitOne K (.ref xc_UnlikeWires) (.ref xc_NoPaper) = some false)
    (xk_HasLooks_ValueError:PySem.W.kitOne K (.ref xc_HasLooks) (.type "ValueError") = some true)
    (xk_UnlikeWires_ValueError:PySem.W.kitOne K (.ref xc_UnlikeWires) (.type "ValueError") = some true)
   :∃ fd:FuncData,(∀ (s:Shared) (v:Value),BindsTo s fd ⟨[v],[]⟩ [("script",v)]) ∧ ∀ base:Heap,K.In base → base.Ns mainGlobals mg → FnOk l.prog w K mg base CX0 12 fa fd ["script"] (jpe K):=by
  have e:=hfa.symm.trans (PySem.W.mg_of X G a46)
  cases e
  have T:Txt mg:=⟨PySem.W.mg_none_of X G z_min,PySem.W.mg_none_of X G z_max,PySem.W.mg_none_of X G z_tuple,PySem.W.mg_none_of X G z_range,PySem.W.mg_none_of X G z_len,PySem.W.mg_none_of X G z_all,PySem.W.mg_none_of X G z_list,PySem.W.mg_none_of X G z_isinstance,PySem.W.mg_none_of X G z_ValueError,PySem.W.mg_none_of X G z_bool⟩
  have T_NOUGHT:TopV K mg "NOUGHT" (.tuple [.int 0,.int 0,.int 0,.int 0,.int 0]):=TopV.tup (xs:=[.int 0,.int 0,.int 0,.int 0,.int 0]) (PySem.W.mg_of X G a_NOUGHT) d_NOUGHT (by simp [sizeLine]) (.cons ⟨_,rfl⟩ (.cons ⟨_,rfl⟩ (.cons ⟨_,rfl⟩ (.cons ⟨_,rfl⟩ (.cons ⟨_,rfl⟩ (.nil)))))) fun _=>.cons (.int _) (.cons (.int _) (.cons (.int _) (.cons (.int _) (.cons (.int _) (.nil)))))
  have T_ONE:TopV K mg "ONE" (.tuple [.int 1,.int 0,.int 0,.int 0,.int 0]):=TopV.tup (xs:=[.int 1,.int 0,.int 0,.int 0,.int 0]) (PySem.W.mg_of X G a_ONE) d_ONE (by simp [sizeLine]) (.cons ⟨_,rfl⟩ (.cons ⟨_,rfl⟩ (.cons ⟨_,rfl⟩ (.cons ⟨_,rfl⟩ (.cons ⟨_,rfl⟩ (.nil)))))) fun _=>.cons (.int _) (.cons (.int _) (.cons (.int _) (.cons (.int _) (.cons (.int _) (.nil)))))
  have T_PLAIN:TopV K mg "PLAIN" (.tuple [.str "swing",.str "turn",.str "flip",.str "tie",.str "sign",.str "cross"]):=TopV.tup (xs:=[.str "swing",.str "turn",.str "flip",.str "tie",.str "sign",.str "cross"]) (PySem.W.mg_of X G a_PLAIN) d_PLAIN (by simp [sizeLine]) (.cons ⟨_,rfl⟩ (.cons ⟨_,rfl⟩ (.cons ⟨_,rfl⟩ (.cons ⟨_,rfl⟩ (.cons ⟨_,rfl⟩ (.cons ⟨_,rfl⟩ (.nil))))))) fun _=>.cons (.str _) (.cons (.str _) (.cons (.str _) (.cons (.str _) (.cons (.str _) (.cons (.str _) (.nil))))))
  have F2:=jiW (st:=jeZ) l2 c2 k2
  have F10:=jiW (st:=jcs) l10 c10 k10
  have F46:=jiW (st:=jg6) l46 c46 k46
  have F_HasLooks:ExcC K "HasLooks" xc_HasLooks:=⟨xn_HasLooks,xe_HasLooks,xga_HasLooks,xgt_HasLooks,xcl_HasLooks,xmo_HasLooks,xbe_HasLooks⟩
  have E_HasLooks:ExcX K "HasLooks":=⟨⟨_,F_HasLooks⟩⟩
  have F_UnlikeWires:ExcC K "UnlikeWires" xc_UnlikeWires:=⟨xn_UnlikeWires,xe_UnlikeWires,xga_UnlikeWires,xgt_UnlikeWires,xcl_UnlikeWires,xmo_UnlikeWires,xbe_UnlikeWires⟩
  have E_UnlikeWires:ExcX K "UnlikeWires":=⟨⟨_,F_UnlikeWires⟩⟩
  have H_WaveError:Hnd K "WaveError" hs_WaveError:=⟨⟨_,xn_WaveError,xe_WaveError,(.cons F_HasLooks xs_HasLooks_WaveError (.cons F_UnlikeWires xs_UnlikeWires_WaveError .nil))⟩⟩
  have I_OddTurn:IsX K "OddTurn" jdA:=(.cons F_HasLooks xn_OddTurn xk_HasLooks_OddTurn (.cons F_UnlikeWires xn_OddTurn xk_UnlikeWires_OddTurn .nil))
  have I_UnlikeWires:IsX K "UnlikeWires" jbS:=(.cons F_HasLooks xn_UnlikeWires xk_HasLooks_UnlikeWires (.cons F_UnlikeWires xn_UnlikeWires xk_UnlikeWires_UnlikeWires .nil))
  have I_HasLooks:IsX K "HasLooks" jcP:=(.cons F_HasLooks xn_HasLooks xk_HasLooks_HasLooks (.cons F_UnlikeWires xn_HasLooks xk_UnlikeWires_HasLooks .nil))
  have I_NoPaper:IsX K "NoPaper" jdB:=(.cons F_HasLooks xn_NoPaper xk_HasLooks_NoPaper (.cons F_UnlikeWires xn_NoPaper xk_UnlikeWires_NoPaper .nil))
  have I_ValueError:IsT K "ValueError" jb9:=(.cons F_HasLooks xk_HasLooks_ValueError (.cons F_UnlikeWires xk_UnlikeWires_ValueError .nil))
  refine ⟨PySem.W.fnOf "law" "law" (jcu jg6) (jbQ jg6) (jah jg6) .none kV46 dc46 pm46 an46 cd46 ct46,fun s v=>.of_eq rfl,fun base _ _=>?_⟩
  have C_twos_shared:Cal l.prog w K mg base "twos_shared" 1 jbn []:=D0.cal X G jhY fun _ _ F=>jhR F T
  have C_by_root:Cal l.prog w K mg base "by_root" 1 jcJ []:=D1.cal X G jmu fun _ _ F=>jma F T
  have O2:FnOk l.prog w K mg base CX0 2 _ _ _ (spD K jcI):=jnl F2 T C_twos_shared C_by_root
  have C_number:Cal l.prog w K mg base "number" 2 jcI []:=⟨⟨_,_,_,[],[],O2,PySem.W.mg_of X G a2,k2,F2.bindsK d2 rfl (ps:=["a","b","c","d","k"]) 5 rfl (fun _ _ _ _ _ _ us hl=>by obtain ⟨_,_,_,_,_,rfl⟩:=jyI hl; exact rfl),.nil,fun _=>.nil⟩⟩
  have C_parts_over:Cal l.prog w K mg base "parts_over" 2 jbL []:=D3.cal X G ji7 fun _ _ F=>jiM F T C_by_root
  have C_plus:Cal l.prog w K mg base "plus" 3 jfg []:=D4.cal X G jtu fun _ _ F=>jsv F T C_parts_over C_number
  have C_times:Cal l.prog w K mg base "times" 3 jcd []:=D5.cal X G jqE fun _ _ F=>jpz F T C_number
  have C_against:Cal l.prog w K mg base "against" 1 jdd []:=D6.cal X G jmv fun _ _ F=>jmb F T
  have C_turned:Cal l.prog w K mg base "turned" 1 jcr []:=D7.cal X G jot fun _ _ F=>jnk F T
  have C_halved:Cal l.prog w K mg base "halved" 3 jcY []:=D8.cal X G jou fun _ _ F=>jnm F T C_number
  have C_worth:Cal l.prog w K mg base "worth" 1 jek []:=D9.cal X G jqD fun _ _ F=>jpy F T
  have O10:FnOk l.prog w K mg base CX0 1 _ _ _ (spD K jbD):=jjH F10 T T_NOUGHT T_ONE
  have C_beginning:Cal l.prog w K mg base "beginning" 1 jbD []:=⟨⟨_,_,_,[],[],O10,PySem.W.mg_of X G a10,k10,F10.bindsK d10 rfl (ps:=["wires","place"]) 2 rfl (fun _ _ _ _ _ _ us hl=>by obtain ⟨_,_,rfl⟩:=jgi hl; exact rfl),.nil,fun _=>.nil⟩⟩
  have C_swung:Cal l.prog w K mg base "swung" 4 jeK []:=D11.cal X G jqF fun _ _ F=>jpA F T C_halved C_plus C_against
  have C_turned_where:Cal l.prog w K mg base "turned_where" 2 jaT []:=D12.cal X G jhA fun _ _ F=>jhd F T C_turned
  have C_flipped_where:Cal l.prog w K mg base "flipped_where" 1 jaO []:=D13.cal X G jgC fun _ _ F=>jgx F T
  have C_exchanged:Cal l.prog w K mg base "exchanged" 1 jbP []:=D14.cal X G jj6 fun _ _ F=>jjG F T
  have C_done:Cal l.prog w K mg base "done" 5 jcO []:=D15.cal X G jtv fun _ _ F=>jsw F T C_worth C_swung C_turned_where C_flipped_where C_exchanged
  have C_all_done:Cal l.prog w K mg base "all_done" 6 jbt []:=D16.cal X G jkP fun _ _ F=>jks F T C_done
  have C_all_plain:Cal l.prog w K mg base "all_plain" 1 jaX []:=D17.cal X G jj8 fun _ _ F=>jjI F T T_PLAIN
  have Y_column:CalX l.prog w K mg base "column" 7 jdn []:=D18.calX X G jj7 fun _ _ F=>jl7 F T C_all_done C_all_plain C_beginning E_HasLooks
  have C_column:Cal l.prog w K mg base "column" 7 jaE []:=D18.cal X G jj7 fun _ _ F=>jnn F T C_all_done C_all_plain C_beginning
  have C_is_plain:Cal l.prog w K mg base "is_plain" 2 jaD []:=D19.cal X G jkN fun _ _ F=>jkq F T C_all_plain
  have Y_refuse_apart:CalX l.prog w K mg base "refuse_apart" 3 jav []:=D20.calX X G jeO fun _ _ F=>jgv F T C_is_plain E_HasLooks E_UnlikeWires
  have C_refuse_apart:Cal l.prog w K mg base "refuse_apart" 3 jax []:=D20.cal X G jeO fun _ _ F=>jhe F T C_is_plain
  have C_columns_apart:Cal l.prog w K mg base "columns_apart" 7 jaP []:=D21.cal X G jgD fun _ _ F=>jgy F T C_all_done
  have C_turn_to:Cal l.prog w K mg base "turn_to" 2 jdc []:=D22.cal X G jmt fun _ _ F=>jl8 F T C_turned
  have C_turn_apart:Cal l.prog w K mg base "turn_apart" 8 jaB []:=D23.cal X G ji6 fun _ _ F=>jiL F T C_turn_to C_columns_apart
  have Y_unlike_paper:CalX l.prog w K mg base "unlike_paper" 8 jbB []:=D24.calX X G jeN fun _ _ F=>jgu F T T_NOUGHT C_column C_times Y_column
  have C_unlike_paper:Cal l.prog w K mg base "unlike_paper" 8 jaS []:=D24.cal X G jeN fun _ _ F=>jhc F T T_NOUGHT C_column C_times
  have Y_alike_paper:CalX l.prog w K mg base "alike_paper" 9 jaQ []:=D25.calX X G jfh fun _ _ F=>jhb F T C_refuse_apart C_turn_apart C_unlike_paper Y_refuse_apart Y_unlike_paper
  have C_alike_paper:Cal l.prog w K mg base "alike_paper" 9 jaR []:=D25.cal X G jfh fun _ _ F=>jhS F T C_refuse_apart C_turn_apart C_unlike_paper
  have C_is_apart:Cal l.prog w K mg base "is_apart" 8 jcb []:=D26.cal X G jkO fun _ _ F=>jkr F T C_times C_column
  have Y_paper_stands:CalX l.prog w K mg base "paper_stands" 9 jaN []:=D27.calX X G jeP fun _ _ F=>jgw F T C_refuse_apart C_is_apart C_turn_apart Y_refuse_apart
  have C_paper_stands:Cal l.prog w K mg base "paper_stands" 9 jat []:=D27.cal X G jeP fun _ _ F=>jhf F T C_refuse_apart C_is_apart C_turn_apart
  have C__law_cell_at:Cal l.prog w K mg base "_law_cell_at" 1 jbd []:=D28.cal X G jhF fun _ _ F=>jhk F T
  have C__law_row:Cal l.prog w K mg base "_law_row" 1 jaz []:=D29.cal X G jkQ fun _ _ F=>jkt F T
  have C__law_turned:Cal l.prog w K mg base "_law_turned" 1 jaH []:=D30.cal X G jh0 fun _ _ F=>jhU F T
  have C__law_raised:Cal l.prog w K mg base "_law_raised" 1 jbc []:=D31.cal X G jh2 fun _ _ F=>jhW F T
  have C__law_times:Cal l.prog w K mg base "_law_times" 1 jbq []:=D32.cal X G jja fun _ _ F=>jiP F T
  have C__law_moved:Cal l.prog w K mg base "_law_moved" 1 jaM []:=D33.cal X G jjc fun _ _ F=>jiR F T
  have C__law_row_done:Cal l.prog w K mg base "_law_row_done" 2 jaY []:=D34.cal X G jgE fun _ _ F=>jgz F T C__law_turned C__law_moved
  have C__law_columns:Cal l.prog w K mg base "_law_columns" 3 jaG []:=D35.cal X G jhD fun _ _ F=>jhi F T C__law_row_done
  have C__law_swings:Cal l.prog w K mg base "_law_swings" 1 jbo []:=D36.cal X G jh1 fun _ _ F=>jhV F T
  have C__law_turns_alike:Cal l.prog w K mg base "_law_turns_alike" 2 jaC []:=D37.cal X G jfp fun _ _ F=>jfk F T C__law_swings C__law_raised C__law_turned
  have C__law_unlike:Cal l.prog w K mg base "_law_unlike" 2 jbb []:=D38.cal X G jhZ fun _ _ F=>jhT F T C__law_times
  have C__law_wires:Cal l.prog w K mg base "_law_wires" 1 jaL []:=D39.cal X G ji8 fun _ _ F=>jiN F T
  have C__law_nothing:Cal l.prog w K mg base "_law_nothing" 2 jbr []:=D40.cal X G jhC fun _ _ F=>jhh F T C__law_row
  have C__law_changed:Cal l.prog w K mg base "_law_changed" 3 jbV []:=D41.cal X G jhE fun _ _ F=>jhj F T C__law_nothing C__law_wires
  have C__law_paper:Cal l.prog w K mg base "_law_paper" 1 jbM []:=D42.cal X G jjb fun _ _ F=>jiQ F T
  have C__law_due:Cal l.prog w K mg base "_law_due" 3 jcy []:=D43.cal X G jkR fun _ _ F=>jku F T C__law_unlike C__law_turns_alike
  have C__law_which:Cal l.prog w K mg base "_law_which" 10 jbf []:=D44.cal X G ji9 fun _ _ F=>jiO F T C_alike_paper C_paper_stands Y_alike_paper Y_paper_stands H_WaveError I_OddTurn I_UnlikeWires I_HasLooks I_NoPaper I_ValueError
  have C__law_refused:Cal l.prog w K mg base "_law_refused" 11 jbE []:=D45.cal X G jhB fun _ _ F=>jhg F T C__law_which
  have O46:FnOk l.prog w K mg base CX0 12 _ _ _ (spD K js8):=ju5 F46 T C__law_cell_at C__law_columns C__law_row C__law_refused C__law_paper C_paper_stands C__law_changed C__law_due
  exact jyP O46 fun ns hl=>law_true ns hl
end GN
open PySem PySem.W PyProof.Rows
set_option maxRecDepth 1000000 in
set_option maxHeartbeats 0 in
theorem PySem.Challenge.cw_wavewires_k58_papers_judged_holds : PySem.Challenge.rw_wavewires_k58_papers_judged.Holds := by
  refine topT ?_
  k_fill
  refine VL.jxi (k := 12) (l := PySem.Challenge.rw_wavewires_k58_papers_judged) rfl ⟨rfl, by decide, by decide⟩ rfl (fun w h Y => PySem.W.kIn_of Y) ?F
  case F =>
    intro w mg fa h KX G hmg
    refine' GN.jwf KX G hmg (VL.DefIn.mk ?a0 ?l0 ?c0 ?k0) (VL.DefIn.mk ?a1 ?l1 ?c1 ?k1) ?a2 ?l2 ?c2 ?k2 ?d2 (VL.DefIn.mk ?a3 ?l3 ?c3 ?k3) (VL.DefIn.mk ?a4 ?l4 ?c4 ?k4) (VL.DefIn.mk ?a5 ?l5 ?c5 ?k5) (VL.DefIn.mk ?a6 ?l6 ?c6 ?k6) (VL.DefIn.mk ?a7 ?l7 ?c7 ?k7) (VL.DefIn.mk ?a8 ?l8 ?c8 ?k8) (VL.DefIn.mk ?a9 ?l9 ?c9 ?k9) ?a10 ?l10 ?c10 ?k10 ?d10 (VL.DefIn.mk ?a11 ?l11 ?c11 ?k11) (VL.DefIn.mk ?a12 ?l12 ?c12 ?k12) (VL.DefIn.mk ?a13 ?l13 ?c13 ?k13) (VL.DefIn.mk ?a14 ?l14 ?c14 ?k14) (VL.DefIn.mk ?a15 ?l15 ?c15 ?k15) (VL.DefIn.mk ?a16 ?l16 ?c16 ?k16) (VL.DefIn.mk ?a17 ?l17 ?c17 ?k17) (VL.DefIn.mk ?a18 ?l18 ?c18 ?k18) (VL.DefIn.mk ?a19 ?l19 ?c19 ?k19) (VL.DefIn.mk ?a20 ?l20 ?c20 ?k20) (VL.DefIn.mk ?a21 ?l21 ?c21 ?k21) (VL.DefIn.mk ?a22 ?l22 ?c22 ?k22) (VL.DefIn.mk ?a23 ?l23 ?c23 ?k23) (VL.DefIn.mk ?a24 ?l24 ?c24 ?k24) (VL.DefIn.mk ?a25 ?l25 ?c25 ?k25) (VL.DefIn.mk ?a26 ?l26 ?c26 ?k26) (VL.DefIn.mk ?a27 ?l27 ?c27 ?k27) (VL.DefIn.mk ?a28 ?l28 ?c28 ?k28) (VL.DefIn.mk ?a29 ?l29 ?c29 ?k29) (VL.DefIn.mk ?a30 ?l30 ?c30 ?k30) (VL.DefIn.mk ?a31 ?l31 ?c31 ?k31) (VL.DefIn.mk ?a32 ?l32 ?c32 ?k32) (VL.DefIn.mk ?a33 ?l33 ?c33 ?k33) (VL.DefIn.mk ?a34 ?l34 ?c34 ?k34) (VL.DefIn.mk ?a35 ?l35 ?c35 ?k35) (VL.DefIn.mk ?a36 ?l36 ?c36 ?k36) (VL.DefIn.mk ?a37 ?l37 ?c37 ?k37) (VL.DefIn.mk ?a38 ?l38 ?c38 ?k38) (VL.DefIn.mk ?a39 ?l39 ?c39 ?k39) (VL.DefIn.mk ?a40 ?l40 ?c40 ?k40) (VL.DefIn.mk ?a41 ?l41 ?c41 ?k41) (VL.DefIn.mk ?a42 ?l42 ?c42 ?k42) (VL.DefIn.mk ?a43 ?l43 ?c43 ?k43) (VL.DefIn.mk ?a44 ?l44 ?c44 ?k44) (VL.DefIn.mk ?a45 ?l45 ?c45 ?k45) ?a46 ?l46 ?c46 ?k46 ?z_min ?z_max ?z_tuple ?z_range ?z_len ?z_all ?z_list ?z_isinstance ?z_ValueError ?z_bool ?a_NOUGHT ?d_NOUGHT ?a_ONE ?d_ONE ?a_PLAIN ?d_PLAIN ?xn_WaveError ?xn_OddTurn ?xn_UnlikeWires ?xn_HasLooks ?xn_NoPaper ?xe_WaveError ?xe_UnlikeWires ?xe_HasLooks ?xga_HasLooks ?xgt_HasLooks ?xcl_HasLooks ?xmo_HasLooks ?xbe_HasLooks ?xga_UnlikeWires ?xgt_UnlikeWires ?xcl_UnlikeWires ?xmo_UnlikeWires ?xbe_UnlikeWires ?xs_HasLooks_WaveError ?xs_UnlikeWires_WaveError ?xk_HasLooks_OddTurn ?xk_UnlikeWires_OddTurn ?xk_HasLooks_UnlikeWires ?xk_UnlikeWires_UnlikeWires ?xk_HasLooks_HasLooks ?xk_UnlikeWires_HasLooks ?xk_HasLooks_NoPaper ?xk_UnlikeWires_NoPaper ?xk_HasLooks_ValueError ?xk_UnlikeWires_ValueError
    (case a0 => k_is)
    (case l0 => k_is)
    (case c0 => k_is)
    (case k0 => k_is)
    (case a1 => k_is)
    (case l1 => k_is)
    (case c1 => k_is)
    (case k1 => k_is)
    (case a2 => k_is)
    (case l2 => k_is)
    (case c2 => k_is)
    (case k2 => k_is)
    (case d2 => k_is)
    (case a3 => k_is)
    (case l3 => k_is)
    (case c3 => k_is)
    (case k3 => k_is)
    (case a4 => k_is)
    (case l4 => k_is)
    (case c4 => k_is)
    (case k4 => k_is)
    (case a5 => k_is)
    (case l5 => k_is)
    (case c5 => k_is)
    (case k5 => k_is)
    (case a6 => k_is)
    (case l6 => k_is)
    (case c6 => k_is)
    (case k6 => k_is)
    (case a7 => k_is)
    (case l7 => k_is)
    (case c7 => k_is)
    (case k7 => k_is)
    (case a8 => k_is)
    (case l8 => k_is)
    (case c8 => k_is)
    (case k8 => k_is)
    (case a9 => k_is)
    (case l9 => k_is)
    (case c9 => k_is)
    (case k9 => k_is)
    (case a10 => k_is)
    (case l10 => k_is)
    (case c10 => k_is)
    (case k10 => k_is)
    (case d10 => k_is)
    (case a11 => k_is)
    (case l11 => k_is)
    (case c11 => k_is)
    (case k11 => k_is)
    (case a12 => k_is)
    (case l12 => k_is)
    (case c12 => k_is)
    (case k12 => k_is)
    (case a13 => k_is)
    (case l13 => k_is)
    (case c13 => k_is)
    (case k13 => k_is)
    (case a14 => k_is)
    (case l14 => k_is)
    (case c14 => k_is)
    (case k14 => k_is)
    (case a15 => k_is)
    (case l15 => k_is)
    (case c15 => k_is)
    (case k15 => k_is)
    (case a16 => k_is)
    (case l16 => k_is)
    (case c16 => k_is)
    (case k16 => k_is)
    (case a17 => k_is)
    (case l17 => k_is)
    (case c17 => k_is)
    (case k17 => k_is)
    (case a18 => k_is)
    (case l18 => k_is)
    (case c18 => k_is)
    (case k18 => k_is)
    (case a19 => k_is)
    (case l19 => k_is)
    (case c19 => k_is)
    (case k19 => k_is)
    (case a20 => k_is)
    (case l20 => k_is)
    (case c20 => k_is)
    (case k20 => k_is)
    (case a21 => k_is)
    (case l21 => k_is)
    (case c21 => k_is)
    (case k21 => k_is)
    (case a22 => k_is)
    (case l22 => k_is)
    (case c22 => k_is)
    (case k22 => k_is)
    (case a23 => k_is)
    (case l23 => k_is)
    (case c23 => k_is)
    (case k23 => k_is)
    (case a24 => k_is)
    (case l24 => k_is)
    (case c24 => k_is)
    (case k24 => k_is)
    (case a25 => k_is)
    (case l25 => k_is)
    (case c25 => k_is)
    (case k25 => k_is)
    (case a26 => k_is)
    (case l26 => k_is)
    (case c26 => k_is)
    (case k26 => k_is)
    (case a27 => k_is)
    (case l27 => k_is)
    (case c27 => k_is)
    (case k27 => k_is)
    (case a28 => k_is)
    (case l28 => k_is)
    (case c28 => k_is)
    (case k28 => k_is)
    (case a29 => k_is)
    (case l29 => k_is)
    (case c29 => k_is)
    (case k29 => k_is)
    (case a30 => k_is)
    (case l30 => k_is)
    (case c30 => k_is)
    (case k30 => k_is)
    (case a31 => k_is)
    (case l31 => k_is)
    (case c31 => k_is)
    (case k31 => k_is)
    (case a32 => k_is)
    (case l32 => k_is)
    (case c32 => k_is)
    (case k32 => k_is)
    (case a33 => k_is)
    (case l33 => k_is)
    (case c33 => k_is)
    (case k33 => k_is)
    (case a34 => k_is)
    (case l34 => k_is)
    (case c34 => k_is)
    (case k34 => k_is)
    (case a35 => k_is)
    (case l35 => k_is)
    (case c35 => k_is)
    (case k35 => k_is)
    (case a36 => k_is)
    (case l36 => k_is)
    (case c36 => k_is)
    (case k36 => k_is)
    (case a37 => k_is)
    (case l37 => k_is)
    (case c37 => k_is)
    (case k37 => k_is)
    (case a38 => k_is)
    (case l38 => k_is)
    (case c38 => k_is)
    (case k38 => k_is)
    (case a39 => k_is)
    (case l39 => k_is)
    (case c39 => k_is)
    (case k39 => k_is)
    (case a40 => k_is)
    (case l40 => k_is)
    (case c40 => k_is)
    (case k40 => k_is)
    (case a41 => k_is)
    (case l41 => k_is)
    (case c41 => k_is)
    (case k41 => k_is)
    (case a42 => k_is)
    (case l42 => k_is)
    (case c42 => k_is)
    (case k42 => k_is)
    (case a43 => k_is)
    (case l43 => k_is)
    (case c43 => k_is)
    (case k43 => k_is)
    (case a44 => k_is)
    (case l44 => k_is)
    (case c44 => k_is)
    (case k44 => k_is)
    (case a45 => k_is)
    (case l45 => k_is)
    (case c45 => k_is)
    (case k45 => k_is)
    (case a46 => k_is)
    (case l46 => k_is)
    (case c46 => k_is)
    (case k46 => k_is)
    (case z_min => k_is)
    (case z_max => k_is)
    (case z_tuple => k_is)
    (case z_range => k_is)
    (case z_len => k_is)
    (case z_all => k_is)
    (case z_list => k_is)
    (case z_isinstance => k_is)
    (case z_ValueError => k_is)
    (case z_bool => k_is)
    (case a_NOUGHT => k_is)
    (case d_NOUGHT => k_is)
    (case a_ONE => k_is)
    (case d_ONE => k_is)
    (case a_PLAIN => k_is)
    (case d_PLAIN => k_is)
    (case xn_WaveError => k_is)
    (case xn_OddTurn => k_is)
    (case xn_UnlikeWires => k_is)
    (case xn_HasLooks => k_is)
    (case xn_NoPaper => k_is)
    (case xe_WaveError => k_exc)
    (case xe_UnlikeWires => k_exc)
    (case xe_HasLooks => k_exc)
    (case xga_HasLooks => k_is)
    (case xgt_HasLooks => k_is)
    (case xcl_HasLooks => k_is)
    (case xmo_HasLooks => k_is)
    (case xbe_HasLooks => k_is)
    (case xga_UnlikeWires => k_is)
    (case xgt_UnlikeWires => k_is)
    (case xcl_UnlikeWires => k_is)
    (case xmo_UnlikeWires => k_is)
    (case xbe_UnlikeWires => k_is)
    (case xs_HasLooks_WaveError => k_is)
    (case xs_UnlikeWires_WaveError => k_is)
    (case xk_HasLooks_OddTurn => kit_is)
    (case xk_UnlikeWires_OddTurn => kit_is)
    (case xk_HasLooks_UnlikeWires => kit_is)
    (case xk_UnlikeWires_UnlikeWires => kit_is)
    (case xk_HasLooks_HasLooks => kit_is)
    (case xk_UnlikeWires_HasLooks => kit_is)
    (case xk_HasLooks_NoPaper => kit_is)
    (case xk_UnlikeWires_NoPaper => kit_is)
    (case xk_HasLooks_ValueError => kit_is)
    (case xk_UnlikeWires_ValueError => kit_is)
