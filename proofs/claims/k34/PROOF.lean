import PyProof.Rows.All
import Wide.All
import OpenK.AllK
import Wide.FinOn
import Lean
import PyProof.EqAt
import PyProof.EqKinds
import PyProof.TupleCall
import PySem.Challenge.RW_wavewires_k34_a_bit_summed_away
section TopS
set_option Elab.async false
set_option linter.all false
open PySem PySem.W PyProof.Rows
noncomputable def viewQ : Program := view PySem.Challenge.rw_wavewires_k34_a_bit_summed_away.prog [1, 2, 3, 5, 6, 8, 9, 10, 11, 12, 13, 14, 15, 17, 18, 19, 20, 21, 22, 23, 24, 25, 26, 27, 28, 29, 30]
local macro_rules
  | `(tactic| o_head $H) => do
    let hw := Lean.mkIdent `hw
    let hc := Lean.mkIdent `hc
    `(tactic| refine holds_open (q := viewQ) (loose := []) (Xt := fun s => xlAt viewQ [] s && recOk (RowW.records (OpenRow.toRowW PySem.Challenge.rw_wavewires_k34_a_bit_summed_away.row)) s) (XP := XL viewQ []) (Yf := Hook.obs $H) (Ya := Hook.val $H) (YP := Hook.says $H) (N := 6000) (fun w => by (unfold openEnds fencedOpening topFrom; rw [Fast.te10274390034422433532, Fast.te14082659384304107361, Fast.te1435165496053646825, Fast.te14289696077712309145, Fast.te14364793385576792824, Fast.te4187177175401517315, Fast.te5923862056798008813]; kernel_rfl)) (Hook.of $H) (Hook.keeps $H) (fun s e => xl_of s (Bool.and_eq_true_iff.mp e).1) XL.keeps (by rfl) (by rfl) (by rfl) (fun s e => recFacts_of (Bool.and_eq_true_iff.mp e).2) (by rfl) (by first | assumption | decide +kernel) (by decide +kernel) ⟨rfl, rfl, rfl, rfl, rfl, by decide +kernel⟩ ?$hw ?$hc)
set_option maxRecDepth 1000000 in
set_option maxHeartbeats 0 in
open_top topT for PySem.Challenge.rw_wavewires_k34_a_bit_summed_away
end TopS
set_option Elab.async false
set_option linter.all false
set_option maxRecDepth 100000
namespace L2
open PySem PySem.Spec PyProof.Rows
noncomputable abbrev ay:=Sum Int Str
noncomputable def jn:ay->Value->Bool
 | .inl k,v=>Value.isInt k v
 | .inr x,v=>Value.isStrOf x v
noncomputable def Fw (w:World):ay->Int
 | .inl k=>hashInt k
 | .inr x=>hashStr w x
theorem bb:∀ {k:ay} {v:Value},jn k v=true->(∃ i t,k=Sum.inl i/\v=Value.int i t)\/(∃ x t,k=Sum.inr x/\v=Value.str x t)
 | .inl i,v,h=>by
  obtain ⟨t,e⟩:=Value.isInt_shape (k:=i) (v:=v) h
  exact .inl ⟨i,t,rfl,e⟩
 | .inr x,v,h=>by
  obtain ⟨t,e⟩:=Value.isStrOf_shape (x:=x) (v:=v) h
  exact .inr ⟨x,t,rfl,e⟩
theorem tT (i:Int) (t:Tok):jn (.inl i) (.int i t)=true:=by simp [jn,Value.isInt]
theorem tS (x:Str) (t:Tok):jn (.inr x) (.str x t)=true:=by simp [jn,Value.isStrOf]
theorem A8 (a b:Int):decide ((Sum.inl a:ay)=Sum.inl b)=(a==b):=by
 by_cases e:a=b
 ·subst e; simp
 ·have h:¬ (Sum.inl a:ay)=Sum.inl b:=fun q=>e (Sum.inl.inj q)
  rw [decide_eq_false h]
  exact (beq_eq_false_iff_ne.mpr e).symm
theorem A2 (a b:Str):decide ((Sum.inr a:ay)=Sum.inr b)=decide (a=b):=by
 by_cases e:a=b
 ·subst e; simp
 ·have h:¬ (Sum.inr a:ay)=Sum.inr b:=fun q=>e (Sum.inr.inj q)
  rw [decide_eq_false h,decide_eq_false e]
theorem A7 (a:Int) (b:Str):decide ((Sum.inl a:ay)=Sum.inr b)=false:=decide_eq_false (fun q=>nomatch q)
theorem A6 (a:Str) (b:Int):decide ((Sum.inr a:ay)=Sum.inl b)=false:=decide_eq_false (fun q=>nomatch q)
noncomputable def aA (prog:Program) (w:World):PySem.KeyKind prog w ay where
 is:=jn
 hash:=Fw w
 inj:=fun v a b ha hb=>by
  rcases bb ha with ⟨i,t,rfl,rfl⟩ | ⟨x,t,rfl,rfl⟩
  ·rcases bb hb with ⟨j,u,rfl,e⟩ | ⟨y,u,rfl,e⟩
   ·injection e with e1 _; rw [e1]
   ·exact nomatch e
  ·rcases bb hb with ⟨j,u,rfl,e⟩ | ⟨y,u,rfl,e⟩
   ·exact nomatch e
   ·injection e with e1 _; rw [e1]
 byValue:=fun k v h=>by
  rcases bb h with ⟨i,t,rfl,rfl⟩ | ⟨x,t,rfl,rfl⟩ <;> rfl
 pyHash:=fun hv h=>by
  rcases bb hv with ⟨i,t,rfl,rfl⟩ | ⟨x,t,rfl,rfl⟩
  ·exact wpAny_pyHash_int h
  ·exact wpAny_pyHash_str h
 eqBool:=fun hu hv h=>by
  rcases bb hu with ⟨i,t,rfl,rfl⟩ | ⟨x,t,rfl,rfl⟩
  ·rcases bb hv with ⟨j,u,rfl,rfl⟩ | ⟨y,u,rfl,rfl⟩
   ·rw [A8] at h; exact wpAny_eqBool_int h
   ·rw [A7] at h; exact SeqAt.EqAt.int_str i t y u _ _ _ _ h
  ·rcases bb hv with ⟨j,u,rfl,rfl⟩ | ⟨y,u,rfl,rfl⟩
   ·rw [A6] at h; exact SeqAt.EqAt.str_int x t j u _ _ _ _ h
   ·rw [A2] at h; exact wpAny_eqBool_str h
 «strs»:=fun k x t v h=>by
  rcases bb h with ⟨i,u,rfl,e⟩ | ⟨y,u,rfl,e⟩
  ·exact nomatch e
  ·injection e with e1 _
   subst e1
   cases v <;> rfl
theorem px (prog:Program) (w:World) (i:Int) (t:Tok):(aA prog w).is (.inl i) (.int i t)=true:=tT i t
theorem pv (prog:Program) (w:World) (x:Str) (t:Tok):(aA prog w).is (.inr x) (.str x t)=true:=tS x t
end L2
namespace L2
open PySem PySem.Spec PyProof.Rows
inductive V where
 | non | bl (b:Bool) | int (i:Int) | str (x:Str) | byt (b:Array UInt8) | flt (b:UInt64) | ref (a:Addr) | ty (n:String)
 deriving DecidableEq
noncomputable def RelV:V->Value->Prop
 | .non,u=>u=Value.none
 | .bl b,u=>u=Value.bool b
 | .int i,u=>∃ t,u=Value.int i t
 | .str x,u=>∃ t,u=Value.str x t
 | .byt b,u=>∃ t,u=Value.bytes b t
 | .flt b,u=>∃ t,u=Value.float b t
 | .ref a,u=>u=Value.ref a
 | .ty n,u=>u=Value.type n
noncomputable abbrev Vals:List V->List Value->Prop:=Paired RelV
theorem Vals.length {xs:List V} {us:List Value} (r:Vals xs us):xs.length=us.length:=Paired.length r
theorem Vals.get:∀ {xs:List V} {us:List Value} {i:Nat} {x:V},Vals xs us->xs[i]? = some x->∃ u,us[i]? = some u/\RelV x u
 | _,_,_,_,.nil,e=>by simp at e
 | _,_,0,_,.cons r _,e=>by simp at e; subst e; exact ⟨_,rfl,r⟩
 | _,_,i+1,x,.cons _ t,e=>by
  obtain ⟨u,h1,h2⟩:=Vals.get (i:=i) (x:=x) t (by simpa using e)
  exact ⟨u,by simpa using h1,h2⟩
theorem Vals.set {x:V} {u:Value} (r:RelV x u):∀ {xs:List V} {us:List Value} (i:Nat),Vals xs us->Vals (xs.set i x) (us.set i u)
 | _,_,_,.nil=>.nil
 | _,_,0,.cons _ t=>.cons r t
 | _,_,i+1,.cons q t=>.cons q (Vals.set r i t)
theorem Vals.append:∀ {xs ys:List V} {us ws:List Value},Vals xs us->Vals ys ws->Vals (xs++ys) (us++ws)
 | _,_,_,_,.nil,s=>s
 | _,_,_,_,.cons r t,s=>.cons r (Vals.append t s)
theorem Vals.take:∀ {xs:List V} {us:List Value} (n:Nat),Vals xs us->Vals (xs.take n) (us.take n)
 | _,_,0,_=>.nil
 | _,_,_+1,.nil=>.nil
 | _,_,n+1,.cons r t=>.cons r (Vals.take n t)
theorem Vals.drop:∀ {xs:List V} {us:List Value} (n:Nat),Vals xs us->Vals (xs.drop n) (us.drop n)
 | _,_,0,r=>r
 | _,_,_+1,.nil=>.nil
 | _,_,n+1,.cons _ t=>Vals.drop n t
noncomputable def RelO:Option V->Option Value->Prop
 | some v,some u=>RelV v u
 | none,none=>True
 | _,_=>False
noncomputable def KV {κ:Type}:List (κ × V)->List (κ × Value)->Prop:=Paired fun (p:κ × V) (q:κ × Value)=>p.1=q.1/\RelV p.2 q.2
noncomputable def kV:ay->V
 | .inl i=>.int i
 | .inr x=>.str x
inductive HO where
 | lst (xs:List V)
 | tup (xs:List V)
 | dK (kvs:List (ay×V)) | dT (kvs:List (List ay×V))
 | set (S:Int->Bool) (n:Nat)
 | ins (C dx:Addr) (fs:List (Str×V))
 | own (x:Addr)
 | xd (fs:List (Str×V))
 | met (f x:Addr)
 | rng (lo hi:Int)
 | frz (o:Obj) (u:HO)
 | tbl (ps:Array Value)
 | ext (φ:Heap->Prop)
noncomputable abbrev Hp:=Addr->Option HO
noncomputable def upd (H:Hp) (a:Addr) (o:HO):Hp:=fun b=>if b=a then some o else H b
theorem aw {H:Hp} {a:Addr} {o:HO}:upd H a o a=some o:=by unfold upd; rw [if_pos rfl]
theorem ar {H:Hp} {a b:Addr} {o:HO} (h:b≠a):upd H a o b=H b:=by unfold upd; rw [if_neg h]
theorem C8 {H:Hp} {a b:Addr} {o u:HO} (h:H a=some o) (h':H b=some u) (d:o≠u):a≠b:=by
 intro e; subst e; rw [h] at h'; exact d (Option.some.inj h')
theorem aD {H:Hp} {a b:Addr} {o:HO} (h:H a=some o) (h':H b=none):a≠b:=by
 intro e; subst e; rw [h] at h'; cases h'
section
variable (P:Program) (w:World)
noncomputable def NoDi (h:Heap) (a:Addr):Prop:=∃ o,h.get? a=some o/\o.dict=none
theorem NoDi.new (h:Heap) (o:Obj) (e:o.dict=none:=by rfl) (f:o.isFreed=false:=by rfl):NoDi (h.push o) h.objs.size:=⟨o,Heap.get?_push_size h f,e⟩
noncomputable def ObjOk (H:Hp) (h:Heap) (a:Addr):HO->Prop
 | .lst xs=>xs.length<=sizeLine/\∃ (its:List Value) (n:Nat),Vals xs its/\h.get? a=some { cls:=.type "list",data:=.seq its.toArray n }
 | .tup xs=>xs.length<=sizeLine/\∃ its:List Value,Vals xs its/\IsTup h a its.toArray/\NoDi h a
 | .dK kvs=>kvs.length<=sizeLine/\(a==sysModules)=false/\∃ vs,KV kvs vs/\h.DictOf (aA P w) a vs
 | .dT kvs=>kvs.length<=sizeLine/\(a==sysModules)=false/\∃ xs:List (List ay×Addr×Value),
   Paired (fun (p:List ay×V) (q:List ay×Addr×Value)=>p.1=q.1/\H q.2.1=some (.tup (p.1.map kV))/\RelV p.2 q.2.2) kvs xs /\
   ∃ o es ep,h.get? a=some o/\o.ExactDict/\o.data=.dict es ep/\es.toList=xs.map (entryOfKey (tupleKind (aA P w)))/\(xs.map (·.1)).Nodup
 | .set S n=>h.SetOf (intKind P w) a S n
 | .ins C dx fs=>H dx=some (.own a)/\fs.length<=1000/\dx≠a/\h.get? a=some (PySem.W.instObj C dx) /\
   ∃ mA,h.Ns1 dx mA/\(∀ f,RelO (fs.lookup f) (mA f))/\PySem.Within mA (fs.map (·.1))
 | .own _=>∃ o,h.get? a=some o
 | .xd fs=>∃ mA,h.Ns1 a mA/\∀ f,RelO (fs.lookup f) (mA f)
 | .rng lo hi=>∃ t u v,h.get? a=some { cls:=.type "range",data:=.fields #[.int lo t,.int hi u,.int 1 v] }
 | .frz o u=>h.get? a=some o/\ObjOk H h a u
 | .tbl ps=>h.get? a=some { cls:=.none,data:=.fields ps }
 | .met f x=>h.get? a=some (PySem.W.methodObj (.ref f) (.ref x))
 | .ext φ=>φ h/\(∃ o,h.get? a=some o)/\∀ h1 h2:Heap,φ h1->(∀ o,h1.get? a=some o->h2.get? a=some o) -> φ h2
noncomputable def HOk (H:Hp) (h:Heap):Prop:=∀ a o,H a=some o->ObjOk P w H h a o
end
section
variable {P:Program} {w:World} {H H':Hp} {h h':Heap} {a:Addr} {o:HO}
theorem ObjOk.lt (x:ObjOk P w H h a o):a<h.objs.size:=by
 cases o with
 | lst xs=>obtain ⟨_,_,_,_,e⟩:=x; exact Heap.lt_size e
 | tup xs=>obtain ⟨_,_,_,p⟩:=x; exact p.1.lt
 | dK kvs=>obtain ⟨_,_,_,_,o,_,_,e,_⟩:=x; exact Heap.lt_size e
 | dT kvs=>obtain ⟨_,_,_,_,o,_,_,e,_⟩:=x; exact Heap.lt_size e
 | set S n=>obtain ⟨o,_,_,_,e,_⟩:=x; exact Heap.lt_size e
 | ins C dx fs=>obtain ⟨_,_,_,e,_⟩:=x; exact Heap.lt_size e
 | own y=>obtain ⟨_,e⟩:=x; exact Heap.lt_size e
 | xd fs=>obtain ⟨_,⟨_,_,_,e,_⟩,_⟩:=x; exact Heap.lt_size e
 | rng lo hi=>obtain ⟨_,_,_,e⟩:=x; exact Heap.lt_size e
 | frz ob u=>obtain ⟨e,_⟩:=x; exact Heap.lt_size e
 | tbl ps=>exact Heap.lt_size (show h.get? a=some _ from x)
 | met f y=>exact Heap.lt_size (show h.get? a=some _ from x)
 | ext φ=>obtain ⟨_,⟨_,e⟩,_⟩:=x; exact Heap.lt_size e
theorem Paired.mapP {α β:Type} {F G:α -> β -> Prop}:∀ {l₁:List α} {l₂:List β},Paired F l₁ l₂ -> (∀ a b,F a b->G a b)->Paired G l₁ l₂
 | _,_,.nil,_=>.nil
 | _,_,.cons r t,f=>.cons (f _ _ r) (Paired.mapP t f)
theorem ObjOk.stay (x:ObjOk P w H h a o) (k:∀ b u,(b=a\/H b=some (.own a))->h.get? b=some u->h'.get? b=some u)
  (ho:∀ b,H b=some (.own a)->H' b=some (.own a)) (ht:∀ b xs,H b=some (.tup xs)->H' b=some (.tup xs)):ObjOk P w H' h' a o:=by
 induction o with
 | lst xs=>obtain ⟨z,its,n,r,e⟩:=x; exact ⟨z,its,n,r,k _ _ (.inl rfl) e⟩
 | tup xs=>obtain ⟨z,its,r,⟨ob,e,c⟩,od,e',c'⟩:=x; exact ⟨z,its,r,⟨ob,k _ _ (.inl rfl) e,c⟩,od,k _ _ (.inl rfl) e',c'⟩
 | dK kvs=>obtain ⟨z,y,vs,r,ob,es,ep,e,c⟩:=x; exact ⟨z,y,vs,r,ob,es,ep,k _ _ (.inl rfl) e,c⟩
 | dT kvs=>
  obtain ⟨z,y,xs,r,ob,es,ep,e,c⟩:=x
  exact ⟨z,y,xs,Paired.mapP r fun p q z=>⟨z.1,ht _ _ z.2.1,z.2.2⟩,ob,es,ep,k _ _ (.inl rfl) e,c⟩
 | set S n=>obtain ⟨ob,es,ep,t,e,c⟩:=x; exact ⟨ob,es,ep,t,k _ _ (.inl rfl) e,c⟩
 | ins C dx fs=>
  obtain ⟨d,z,ne,e,mA,⟨od,es,ep,e2,c⟩,r⟩:=x
  exact ⟨ho _ d,z,ne,k _ _ (.inl rfl) e,mA,⟨od,es,ep,k _ _ (.inr d) e2,c⟩,r⟩
 | own y=>obtain ⟨ob,e⟩:=x; exact ⟨ob,k _ _ (.inl rfl) e⟩
 | xd fs=>obtain ⟨mA,⟨od,es,ep,e,c⟩,r⟩:=x; exact ⟨mA,⟨od,es,ep,k _ _ (.inl rfl) e,c⟩,r⟩
 | rng lo hi=>obtain ⟨t,u,v,e⟩:=x; exact ⟨t,u,v,k _ _ (.inl rfl) e⟩
 | frz ob u ih=>obtain ⟨e,q⟩:=x; exact ⟨k _ _ (.inl rfl) e,ih q⟩
 | tbl ps=>
  have e:h.get? a=some { cls:=.none,data:=.fields ps }:=x
  show h'.get? a=some { cls:=.none,data:=.fields ps }
  exact k a _ (.inl rfl) e
 | met f y=>
  have e:h.get? a=some (PySem.W.methodObj (.ref f) (.ref y)):=x
  show h'.get? a=some (PySem.W.methodObj (.ref f) (.ref y))
  exact k a _ (.inl rfl) e
 | ext φ=>obtain ⟨p,⟨o,e⟩,st⟩:=x; exact ⟨st _ _ p fun o q=>k _ _ (.inl rfl) q,⟨o,k _ _ (.inl rfl) e⟩,st⟩
theorem HOk.lt (x:HOk P w H h) (e:H a=some o):a<h.objs.size:=(x a o e).lt
theorem HOk.fresh (x:HOk P w H h) (e:h.objs.size<=a):H a=none:=by
 cases q:H a with
 | none=>rfl
 | some u=>exact absurd (Nat.lt_of_lt_of_le (x.lt q) e) (Nat.lt_irrefl _)
theorem HOk.kept (x:HOk P w H h) (k:∀ b u,h.get? b=some u->h'.get? b=some u):HOk P w H h':=fun a o e=>
 (x a o e).stay (fun b u _ q=>k b u q) (fun _ q=>q) fun _ _ q=>q
theorem HOk.laid (x:HOk P w H h) (k:∀ b u,h.get? b=some u->h'.get? b=some u) (hp:h.objs.size<=a) (new:ObjOk P w (upd H a o) h' a o):HOk P w (upd H a o) h':=fun b u e=>by
 have hn:=x.fresh hp
 by_cases hb:b=a
 ·subst hb; rw [aw] at e; cases e; exact new
 ·rw [ar hb] at e
  exact (x b u e).stay (fun c v _ q=>k c v q) (fun c q=>by rw [ar (aD q hn)]; exact q) fun c xs q=>by rw [ar (aD q hn)]; exact q
end
noncomputable def Rd (H:Hp) (a:Addr) (u:HO):Prop:=H a=some u\/∃ o,H a=some (.frz o u)
theorem Rd.of {H:Hp} {a:Addr} {u:HO} (h:H a=some u):Rd H a u:=.inl h
theorem Rd.ok {P:Program} {w:World} {H:Hp} {h:Heap} {a:Addr} {u:HO} (r:Rd H a u) (x:HOk P w H h):ObjOk P w H h a u:=by
 rcases r with r | ⟨o,r⟩
 ·exact x a u r
 ·obtain ⟨_,q⟩:=x a _ r
  exact q
noncomputable def Ee:Option HO->Prop
 | some (.lst _)=>True
 | some (.dK _)=>True
 | some (.dT _)=>True
 | some (.set _ _)=>True
 | some (.ins _ _ _)=>True
 | some (.ext _)=>True
 | _=>False
section
variable {P:Program} {w:World} {H:Hp} {h h':Heap} {x e:Addr} {o':HO}
theorem HOk.write (ok:HOk P w H h) (mu:Ee (H x)) (he:e=x\/H e=some (.own x)) (k:∀ b u,b≠e->h.get? b=some u->h'.get? b=some u) (heo:∃ u,h'.get? e=some u)
  (new:ObjOk P w (upd H x o') h' x o'):HOk P w (upd H x o') h':=fun b u q=>by
 have nown:∀ c y,H c=some (.own y)->c≠x:=fun c y r z=>by subst z; rw [r] at mu; exact mu
 have ntup:∀ c xs,H c=some (.tup xs)->c≠x:=fun c xs r z=>by subst z; rw [r] at mu; exact mu
 by_cases hb:b=x
 ·subst hb; rw [aw] at q; cases q; exact new
 ·rw [ar hb] at q
  by_cases hbe:b=e
  ·have q':H b=some (.own x):=by
    rcases he with z | z
    ·exact absurd (hbe.trans z) hb
    ·rw [hbe]; exact z
   rw [q] at q'; cases q'
   obtain ⟨v,hv⟩:=heo
   exact ⟨v,by rw [hbe]; exact hv⟩
  ·refine (ok b u q).stay (fun c v hc r=>k c v ?_ r) (fun c r=>by rw [ar (nown c b r)]; exact r) fun c xs r=>by rw [ar (ntup c xs r)]; exact r
   rcases hc with rfl | hc
   ·exact hbe
   ·rintro rfl
    rcases he with z | z
    ·exact nown c b hc z
    ·rw [hc] at z; cases z; exact hb rfl
end
structure Un (fs ex:List Addr) (H H':Hp) (h h':Heap):Prop where
 keep:∀ b o,h.get? b=some o->H b=none->b ∉ fs->b ∉ ex->h'.get? b=some o
 slot:∀ b o,h.get? b=some o->H b=none->b∈fs->b ∉ ex->∃ sl,h'.get? b=some { o with slots:=sl }
 free:∀ b o,h.get? b=some o->H b=none->b ∉ ex->H' b=none
 there:∀ b o,h.get? b=some o->b ∉ ex->∃ o',h'.get? b=some o'
 tups:∀ b xs,H b=some (.tup xs)->H' b=some (.tup xs)
 frzs:∀ b o u,H b=some (.frz o u)->H' b=some (.frz o u)
 tbls:∀ b ps,H b=some (.tbl ps)->∃ more,H' b=some (.tbl (ps++more))
section
variable {fs fs' ex ex':List Addr} {H H1 H2:Hp} {h h1 h2 h':Heap} {a x e:Addr} {o:HO}
theorem Un.any (u:Un fs ex H H1 h h1) {b:Addr} {ob:Obj} (q:h.get? b=some ob) (n:H b=none) (hx:b ∉ ex):∃ sl,h1.get? b=some { ob with slots:=sl }:=by
 by_cases hb:b∈fs
 ·exact u.slot b ob q n hb hx
 ·exact ⟨ob.slots,u.keep b ob q n hb hx⟩
theorem Un.trans (a:Un fs ex H H1 h h1) (b:Un fs ex H1 H2 h1 h2):Un fs ex H H2 h h2 where
 keep:=fun c ob q n hc hx=>b.keep c ob (a.keep c ob q n hc hx) (a.free c ob q n hx) hc hx
 slot:=fun c ob q n hc hx=>by
  obtain ⟨sl,e1⟩:=a.slot c ob q n hc hx
  obtain ⟨sl',e2⟩:=b.slot c _ e1 (a.free c ob q n hx) hc hx
  exact ⟨sl',e2⟩
 free:=fun c ob q n hx=>by
  obtain ⟨o',e1⟩:=a.there c ob q hx
  exact b.free c o' e1 (a.free c ob q n hx) hx
 there:=fun c ob q hx=>by
  obtain ⟨o',e1⟩:=a.there c ob q hx
  exact b.there c o' e1 hx
 tups:=fun c xs q=>b.tups c xs (a.tups c xs q)
 frzs:=fun c ob xs q=>b.frzs c ob xs (a.frzs c ob xs q)
 tbls:=fun c ps q=>by
  obtain ⟨m1,e1⟩:=a.tbls c ps q
  obtain ⟨m2,e2⟩:=b.tbls c _ e1
  exact ⟨m1++m2,by rw [e2,Array.append_assoc]⟩
theorem Un.kept (k:∀ b u,h.get? b=some u->h'.get? b=some u):Un fs ex H H h h':=
 ⟨fun b ob q _ _ _=>k b ob q,fun b ob q _ _ _=>⟨ob.slots,k b ob q⟩,fun _ _ _ n _=>n,fun b ob q _=>⟨ob,k b ob q⟩,fun _ _ q=>q,fun _ _ _ q=>q,fun _ ps q=>⟨#[],by rw [q]; simp⟩⟩
theorem Un.refl:Un fs ex H H h h:=Un.kept fun _ _ q=>q
theorem Un.laid (k:∀ b u,h.get? b=some u->h'.get? b=some u) (hp:h.objs.size<=a) (hn:H a=none):Un fs ex H (upd H a o) h h' where
 keep:=fun b u q _ _ _=>k b u q
 slot:=fun b u q _ _ _=>⟨u.slots,k b u q⟩
 free:=fun b u q n _=>by rw [ar (Nat.ne_of_lt (Nat.lt_of_lt_of_le (Heap.lt_size q) hp))]; exact n
 there:=fun b u q _=>⟨u,k b u q⟩
 tups:=fun b xs q=>by rw [ar (aD q hn)]; exact q
 frzs:=fun b u xs q=>by rw [ar (aD q hn)]; exact q
 tbls:=fun b ps q=>⟨#[],by rw [ar (aD q hn),q]; simp⟩
theorem Un.write (mu:Ee (H x)) (he:e=x\/H e=some (.own x)) (k:∀ b u,b≠e->h.get? b=some u->h'.get? b=some u) (heo:∃ u,h'.get? e=some u):Un fs ex H (upd H x o) h h':=by
 have hx:∀ b,H b=none->b≠x:=fun b n z=>by subst z; rw [n] at mu; exact mu
 have hb:∀ b,H b=none->b≠e:=fun b n z=>by
  subst z
  rcases he with r | r
  ·exact hx b n r
  ·rw [n] at r; cases r
 have hm:∀ b u,H b=some u->¬ Ee (some u)->b≠x:=fun b u q nm z=>by subst z; rw [q] at mu; exact nm mu
 refine ⟨fun b u q n _ _=>k b u (hb b n) q,fun b u q n _ _=>⟨u.slots,k b u (hb b n) q⟩,fun b u q n _=>by rw [ar (hx b n)]; exact n,fun b u q _=>?_,
  fun b xs q=>by rw [ar (hm b _ q fun z=>z)]; exact q,fun b u xs q=>by rw [ar (hm b _ q fun z=>z)]; exact q,fun b ps q=>⟨#[],by rw [ar (hm b _ q fun z=>z),q]; simp⟩⟩
 by_cases hbe:b=e
 ·subst hbe; exact heo
 ·exact ⟨u,k b u hbe q⟩
theorem Un.mono (u:Un fs ex H H1 h h1) (hs:∀ b∈fs,b∈fs') (hx:∀ b∈ex,b∈ex'):Un fs' ex' H H1 h h1:=
 ⟨fun b ob q n hb he=>u.keep b ob q n (fun z=>hb (hs b z)) fun z=>he (hx b z),fun _ _ q n _ he=>u.any q n fun z=>he (hx _ z),fun b ob q n he=>u.free b ob q n fun z=>he (hx b z),fun b ob q he=>u.there b ob q fun z=>he (hx b z),u.tups,u.frzs,u.tbls⟩
end
noncomputable def trk (h:Heap) (H:Hp):List Addr:=(List.range h.objs.size).filter fun a=>(H a).isSome
noncomputable def nO (h:Heap) (H:Hp):Heap:=PySem.W.hideAll h (trk h H)
theorem t7 (h:Heap) (H:Hp):(nO h H).objs.size=h.objs.size:=PySem.W.hideAll_size _ _
theorem vR {h:Heap} {H:Hp} {b:Addr} {o:Obj} (e:h.get? b=some o) (n:H b=none):(nO h H).get? b=some o:=
 PySem.W.hideAll_get _ e fun hm=>by
  have q:(H b).isSome=true:=(List.mem_filter.mp hm).2
  rw [n] at q; simp at q
theorem xU {h:Heap} {H:Hp} {b:Addr} {o:Obj} (e:(nO h H).get? b=some o):h.get? b=some o/\H b=none:=by
 have e':h.get? b=some o:=PySem.W.of_hideAll (trk h H) e
 refine ⟨e',?_⟩
 cases q:H b with
 | none=>rfl
 | some x=>
  have hm:b∈trk h H:=List.mem_filter.mpr ⟨List.mem_range.mpr (Heap.lt_size e'),by simp [q]⟩
  have z:(nO h H).get? b=none:=PySem.W.hideAll_none (trk h H) hm
  rw [z] at e; cases e
noncomputable def yJ (g h:Heap) (L:Addr):List (Addr×Obj):=(List.range h.objs.size).filterMap fun a=>if a=L\/(g.get? a).isSome=true then none else (h.get? a).map fun o=>(a,o)
noncomputable def rest (g h:Heap) (L d:Addr):List (Addr×Obj):=(yJ g h L).filter fun p=>decide (p.1≠d)
end L2
namespace L2
open PySem PySem.Spec PyProof.Rows
structure Mod (K:PySem.W.Frag) (mg:Str->Option Value) (base:Heap):Prop where
 kin:K.In base
 glob:base.Ns mainGlobals mg
 blt:∃ mb,base.Ns builtinsNs mb/\∀ x:Str,x ≠ "__name__" -> mb x=bootBuiltins x
 nolimit:base.NoLimit
structure Cx where
 prog:Program
 w:World
 K:PySem.W.Frag
 mg:Str->Option Value
 base:Heap
 A:Around
 N:List Str
 s₀:Shared
 H₀:Hp
 env:Env
 outer:List Env
 stack:List Env
 ex:List Addr
 fn:Str->Bool
 calm:Bool
 pn:List (Addr×Obj)
 xe:Value->Shared->Prop
noncomputable def fT (l:List Env):List Addr:=l.filterMap (·.frame)
noncomputable abbrev Cx.fs (X:Cx):List Addr:=fT X.outer
noncomputable def uu (sc:Scope) (x:Str):Prop:=sc.names.lookup x=some .local\/sc.names.lookup x=some .cell\/sc.names.lookup x=some .free
noncomputable def ur (sc:Scope) (x:Str):Prop:=sc.names.lookup x=some .local\/sc.names.lookup x=some .cell
noncomputable def F4 (env:Env) (h:Heap) (m:Str->Option Value) (x:Str) (u:Value):Prop:=
 (env.kindOf x=some .local/\m x=some u)\/((env.kindOf x=some .cell\/env.kindOf x=some .free)/\∃ c,env.cells.lookup x=some c/\h.IsCell c (some u))
structure Cx.Ok (X:Cx):Prop where
 mod:Mod X.K X.mg X.base
 kind:X.env.scope.kind=.function
 glob:X.env.globals=mainGlobals
 blt:X.env.builtins=builtinsNs
 above:X.s₀.heap.objs.size<=X.env.locals
 inj:∀ x y c,X.env.cells.lookup x=some c->X.env.cells.lookup y=some c->x=y
 has:∀ x,(X.env.kindOf x=some .cell\/X.env.kindOf x=some .free)->∃ c,X.env.cells.lookup x=some c
 cab:∀ x c,X.fn x=true->X.env.cells.lookup x=some c->X.s₀.heap.objs.size<=c
 hd:X.calm=true->X.A.handled=none
 frames:X.A.frames=some X.stack
 stk:X.stack=X.outer\/(X.stack=X.env::X.outer/\X.env.frame=some X.env.locals)
 exf:∀ b∈X.ex,b≠X.env.locals/\∀ x c,X.env.cells.lookup x=some c->c≠b
 bs:∀ b o,X.base.get? b=some o->X.s₀.heap.get? b=some o/\X.H₀ b=none
 bsz:X.base.objs.size<=X.s₀.heap.objs.size
 noex:∀ b o,X.base.get? b=some o->b ∉ X.ex
 exfs:∀ b∈X.ex,b ∉ X.fs
 funs:X.s₀.heap.FunFrames X.base X.outer
 frf:∀ b∈X.fs,X.H₀ b=none
structure Inv (X:Cx) (pins:List (Addr×Obj)) (σ:List (Option V)) (H:Hp) (s:Shared):Prop where
 ok:X.Ok
 os:s.os=X.s₀.os
 bare:AllBare s.gens
 base:Un X.fs X.ex X.H₀ H X.s₀.heap s.heap
 loc:∃ m,s.heap.Ns X.env.locals m/\∀ (i:Nat) (x:Str) (v:V),X.N[i]? = some x -> σ[i]? = some (some v)->uu X.env.scope x->∃ u,RelV v u/\F4 X.env s.heap m x u
 cell:∀ x c,X.env.cells.lookup x=some c->∃ v,s.heap.IsCell c v
 free:H X.env.locals=none
 freeC:∀ x c,X.env.cells.lookup x=some c->H c=none
 pin:∀ p∈X.pn++pins,s.heap.get? p.1=some p.2/\H p.1=none/\p.1≠X.env.locals/\p.1 ∉ X.fs/\∀ v,p.2.data≠.cell v
 hok:HOk X.prog X.w H s.heap
 len:σ.length=X.N.length
section
variable {X:Cx} {pins:List (Addr×Obj)} {σ:List (Option V)} {H H':Hp} {s:Shared} {h':Heap}
theorem Cx.Ok.nofr (ok:X.Ok) {b:Addr} {o:Obj} (e:X.base.get? b=some o):b ∉ X.fs:=fun hb=>by
 have:=(ok.funs.mem hb).1
 rw [e] at this; cases this
theorem Inv.bs (I:Inv X pins σ H s):∀ b o,X.base.get? b=some o->s.heap.get? b=some o/\H b=none:=fun b o e=>
 ⟨I.base.keep b o (I.ok.bs b o e).1 (I.ok.bs b o e).2 (I.ok.nofr e) (I.ok.noex b o e),I.base.free b o (I.ok.bs b o e).1 (I.ok.bs b o e).2 (I.ok.noex b o e)⟩
theorem Inv.bk (I:Inv X pins σ H s):∀ b o,X.base.get? b=some o->s.heap.get? b=some o:=fun b o e=>(I.bs b o e).1
theorem Inv.mod (I:Inv X pins σ H s):Mod X.K X.mg X.base:=I.ok.mod
theorem Inv.kIn (I:Inv X pins σ H s):X.K.In s.heap:=I.ok.mod.kin.keeps I.bk
theorem Inv.nolimit (I:Inv X pins σ H s):s.heap.NoLimit:=I.ok.mod.nolimit.keeps I.bk
theorem Inv.fr (I:Inv X pins σ H s):∃ m,Fr X.base X.env.locals s.heap m:=
 let ⟨m,hn,_⟩:=I.loc
 ⟨m,hn,I.bk,Nat.le_trans I.ok.bsz I.ok.above⟩
theorem Inv.lt (I:Inv X pins σ H s):X.env.locals<s.heap.objs.size:=let ⟨_,hn,_⟩:=I.loc; hn.lt
theorem Inv.sz (I:Inv X pins σ H s):X.s₀.heap.objs.size<=s.heap.objs.size:=Nat.le_trans I.ok.above (Nat.le_of_lt I.lt)
theorem Inv.nofs (I:Inv X pins σ H s) {a:Addr} (h:s.heap.objs.size<=a):a ∉ X.fs:=fun hb=>by
 obtain ⟨_,o,ho,_⟩:=I.ok.funs.mem hb
 exact absurd (Nat.lt_of_lt_of_le (Heap.lt_size ho) (Nat.le_trans I.sz h)) (Nat.lt_irrefl _)
theorem Inv.cne (I:Inv X pins σ H s):∀ x c,X.env.cells.lookup x=some c->c≠X.env.locals:=fun x c e z=>by
 obtain ⟨v,o,ho,hd⟩:=I.cell x c e
 obtain ⟨m,⟨o',es,ep,ho',hd',_⟩,_⟩:=I.loc
 rw [z,ho'] at ho; cases ho; rw [hd'] at hd; cases hd
theorem Inv.funs (I:Inv X pins σ H s):s.heap.FunFrames X.base X.outer:=by
 have all:∀ (l:List Env),(∀ b∈fT l,b∈X.fs)->X.s₀.heap.FunFrames X.base l->s.heap.FunFrames X.base l:=by
  intro l
  induction l with
  | nil=>intro _ _; trivial
  | cons env r ih=>
   intro hs hl
   obtain ⟨hk,⟨L,o,hf,hn,ho,hd⟩,hr⟩:=hl
   have hL:L∈X.fs:=hs L (by unfold fT; rw [List.filterMap_cons,hf]; exact List.mem_cons_self)
   obtain ⟨sl,e⟩:=I.base.slot L o ho (I.ok.frf L hL) hL fun z=>I.ok.exfs L z hL
   exact ⟨hk,⟨L,_,hf,hn,e,hd⟩,ih (fun b hb=>hs b (by unfold fT; rw [List.filterMap_cons,hf]; exact List.mem_cons_of_mem _ hb)) hr⟩
 exact all X.outer (fun _ hb=>hb) I.ok.funs
theorem Inv.stack (I:Inv X pins σ H s):s.heap.FunFrames X.base X.stack:=by
 rcases I.ok.stk with e | ⟨e,hf⟩
 ·rw [e]; exact I.funs
 ·rw [e]
  obtain ⟨m,hn,_⟩:=I.loc
  refine .cons (by rw [I.ok.kind]; decide) hf hn ?_ I.funs
  exact Heap.get?_none_of_le (Nat.le_trans I.ok.bsz I.ok.above)
theorem Inv.stkSub (I:Inv X pins σ H s):∀ b∈fT X.stack,b∈X.env.locals::X.fs:=fun b hb=>by
 rcases I.ok.stk with e | ⟨e,hf⟩
 ·rw [e] at hb; exact List.mem_cons_of_mem _ hb
 ·rw [e] at hb
  unfold fT at hb
  rw [List.filterMap_cons,hf] at hb
  exact hb
theorem Inv.stkFree (I:Inv X pins σ H s):∀ b∈fT X.stack,H b=none:=fun b hb=>by
 rcases List.mem_cons.mp (I.stkSub b hb) with e | hb
 ·rw [e]; exact I.free
 ·obtain ⟨_,o,ho,_⟩:=I.ok.funs.mem hb
  exact I.base.free b o ho (I.ok.frf b hb) fun z=>I.ok.exfs b z hb
theorem Inv.step {g':Array GenState} {t':Nat} {d':Drawn} {ch:List Addr} (I:Inv X pins σ H s)
  (hch:∀ b∈ch,(b∈X.ex\/X.s₀.heap.objs.size<=b)/\b≠X.env.locals/\(∀ x c,X.env.cells.lookup x=some c->c≠b)/\∀ p∈X.pn++pins,p.1≠b)
  (keep:∀ b o,b≠X.env.locals->b ∉ X.fs->b ∉ ch->s.heap.get? b=some o->H b=none->h'.get? b=some o)
  (slot:∀ b o,b≠X.env.locals->b∈X.fs->b ∉ ch->s.heap.get? b=some o->H b=none->∃ sl,h'.get? b=some { o with slots:=sl }) (free:∀ b o,b ∉ ch->s.heap.get? b=some o->H b=none->H' b=none)
  (there:∀ b o,b ∉ ch->s.heap.get? b=some o->∃ o',h'.get? b=some o')
  (tups:∀ b xs,H b=some (.tup xs)->H' b=some (.tup xs)) (frzs:∀ b o u,H b=some (.frz o u)->H' b=some (.frz o u)) (tbls:∀ b ps,H b=some (.tbl ps)->∃ more,H' b=some (.tbl (ps++more)))
  (ns:∀ m,s.heap.Ns X.env.locals m->h'.Ns X.env.locals m) (hok:HOk X.prog X.w H' h') (hg:AllBare g') :
  Inv X pins σ H' { s with heap:=h',gens:=g',drawn:=d',toks:=t' }:=by
 have neL:∀ b o,X.s₀.heap.get? b=some o->b≠X.env.locals:=fun b o e=>Nat.ne_of_lt (Nat.lt_of_lt_of_le (Heap.lt_size e) I.ok.above)
 have neC:∀ b o,X.s₀.heap.get? b=some o->b ∉ X.ex->b ∉ ch:=fun b o e hx hb=>by
  rcases (hch b hb).1 with z | z
  ·exact hx z
  ·exact absurd (Nat.lt_of_lt_of_le (Heap.lt_size e) z) (Nat.lt_irrefl _)
 have cellK:∀ x c,X.env.cells.lookup x=some c->∀ v,s.heap.IsCell c v->h'.IsCell c v:=fun x c e v ⟨o,ho,hd⟩=>by
  have nch:c ∉ ch:=fun z=>(hch c z).2.2.1 x c e rfl
  by_cases hc:c∈X.fs
  ·obtain ⟨sl,q⟩:=slot c o (I.cne x c e) hc nch ho (I.freeC x c e)
   exact ⟨_,q,hd⟩
  ·exact ⟨o,keep c o (I.cne x c e) hc nch ho (I.freeC x c e),hd⟩
 refine ⟨I.ok,I.os,hg,⟨fun b o e n hb hx=>?_,fun b o e n hb hx=>?_,fun b o e n hx=>?_,fun b o e hx=>?_,fun b xs e=>tups b xs (I.base.tups b xs e),fun b o xs e=>frzs b o xs (I.base.frzs b o xs e),fun b ps e=>?_⟩,?_,fun x c e=>?_,?_,fun x c e=>?_,fun p hp=>?_,hok,I.len⟩
 ·exact keep b o (neL b o e) hb (neC b o e hx) (I.base.keep b o e n hb hx) (I.base.free b o e n hx)
 ·obtain ⟨sl,e1⟩:=I.base.slot b o e n hb hx
  obtain ⟨sl',e2⟩:=slot b _ (neL b o e) hb (neC b o e hx) e1 (I.base.free b o e n hx)
  exact ⟨sl',e2⟩
 ·obtain ⟨o',e1⟩:=I.base.there b o e hx
  exact free b o' (neC b o e hx) e1 (I.base.free b o e n hx)
 ·obtain ⟨o',e1⟩:=I.base.there b o e hx
  exact there b o' (neC b o e hx) e1
 ·obtain ⟨m1,e1⟩:=I.base.tbls b ps e
  obtain ⟨m2,e2⟩:=tbls b _ e1
  exact ⟨m1++m2,by rw [e2,Array.append_assoc]⟩
 ·obtain ⟨m,hn,hl⟩:=I.loc
  refine ⟨m,ns m hn,fun i x v e1 e2 e3=>?_⟩
  obtain ⟨u,r,l⟩:=hl i x v e1 e2 e3
  refine ⟨u,r,?_⟩
  rcases l with l | ⟨k,c,e,z⟩
  ·exact .inl l
  ·exact .inr ⟨k,c,e,cellK x c e _ z⟩
 ·obtain ⟨v,z⟩:=I.cell x c e
  exact ⟨v,cellK x c e v z⟩
 ·obtain ⟨m,⟨o,_,_,ho,_⟩,_⟩:=I.loc
  exact free _ o (fun z=>(hch _ z).2.1 rfl) ho I.free
 ·obtain ⟨v,o,ho,hd⟩:=I.cell x c e
  exact free c o (fun z=>(hch c z).2.2.1 x c e rfl) ho (I.freeC x c e)
 ·obtain ⟨e,n,ne,nf,d⟩:=I.pin p hp
  have nch:p.1 ∉ ch:=fun z=>(hch p.1 z).2.2.2 p hp rfl
  exact ⟨keep p.1 p.2 ne nf nch e n,free p.1 p.2 nch e n,ne,nf,d⟩
theorem Inv.un {t':Nat} (I:Inv X pins σ H s) (u:Un X.fs [] H H' s.heap h') (hok:HOk X.prog X.w H' h'):Inv X pins σ H' { s with heap:=h',toks:=t' }:=by
 obtain ⟨m,⟨o,es,ep,ho,r⟩,_⟩:=id I.loc
 obtain ⟨sl,hL⟩:=u.any ho I.free (by simp)
 exact I.step (g':=s.gens) (d':=s.drawn) (ch:=[]) (fun _ z=>nomatch z) (fun b o _ hb _ e n=>u.keep b o e n hb (by simp)) (fun b o _ hb _ e n=>u.slot b o e n hb (by simp)) (fun b o _ e n=>u.free b o e n (by simp)) (fun b o _ e=>u.there b o e (by simp)) u.tups u.frzs u.tbls (fun m' hm=>by
  obtain ⟨o',es',ep',ho',r'⟩:=hm
  rw [ho] at ho'; cases ho'
  exact ⟨_,es',ep',hL,r'⟩) hok I.bare
theorem Inv.call {g':Array GenState} {t':Nat} {d':Drawn} {ch:List Addr} (I:Inv X pins σ H s) (u:Un (fT X.stack) ch H H' s.heap h') (hok:HOk X.prog X.w H' h') (hg:AllBare g')
  (hch:∀ b∈ch,(b∈X.ex\/X.s₀.heap.objs.size<=b)/\b≠X.env.locals/\(∀ x c,X.env.cells.lookup x=some c->c≠b)/\∀ p∈X.pn++pins,p.1≠b) :
  Inv X pins σ H' { s with heap:=h',gens:=g',drawn:=d',toks:=t' }:=by
 obtain ⟨m,⟨o,es,ep,ho,r⟩,_⟩:=id I.loc
 obtain ⟨sl,hL⟩:=u.any ho I.free fun z=>(hch _ z).2.1 rfl
 exact I.step (ch:=ch) hch (fun b o hL hb hc e n=>u.keep b o e n (fun z=>(List.mem_cons.mp (I.stkSub b z)).elim hL hb) hc) (fun b o _ _ hc e n=>u.any e n hc) (fun b o hc e n=>u.free b o e n hc) (fun b o hc e=>u.there b o e hc) u.tups u.frzs u.tbls (fun m' hm=>by
  obtain ⟨o',es',ep',ho',r'⟩:=hm
  rw [ho] at ho'; cases ho'
  exact ⟨_,es',ep',hL,r'⟩) hok hg
theorem Inv.turned {t':Nat} {it:Addr} (I:Inv X pins σ H s) (k:∀ b o,b≠it->s.heap.get? b=some o->h'.get? b=some o) (hn:H it=none) (hL:it≠X.env.locals)
  (h1:it∈X.ex\/X.s₀.heap.objs.size<=it) (h2:∀ x c,X.env.cells.lookup x=some c->c≠it) (h3:∀ p∈X.pn++pins,p.1≠it):Inv X pins σ H { s with heap:=h',toks:=t' }:=by
 have nit:∀ b u,H b=some u->b≠it:=fun b u e z=>by rw [z,hn] at e; cases e
 refine I.step (g':=s.gens) (d':=s.drawn) (ch:=[it]) (fun b hb=>?_) (fun b o _ _ hc e _=>k b o (fun z=>hc (by simp [z])) e) (fun b o _ _ hc e _=>⟨o.slots,k b o (fun z=>hc (by simp [z])) e⟩) (fun _ _ _ _ n=>n)
  (fun b o hc e=>⟨o,k b o (fun z=>hc (by simp [z])) e⟩) (fun _ _ e=>e) (fun _ _ _ e=>e) (fun b ps e=>⟨#[],by rw [e]; simp⟩) (fun m hm=>?_) (fun b u e=>?_) I.bare
 ·have e:b=it:=by simpa using hb
  subst e
  exact ⟨h1,hL,h2,h3⟩
 ·obtain ⟨o,es,ep,ho,r⟩:=hm
  exact ⟨o,es,ep,k _ o (Ne.symm hL) ho,r⟩
 ·refine (I.hok b u e).stay (fun c v hc q=>k c v ?_ q) (fun _ q=>q) fun _ _ q=>q
  rcases hc with z | z
  ·rw [z]; exact nit b u e
  ·exact nit c _ z
theorem Inv.tok (I:Inv X pins σ H s) (t:Nat):Inv X pins σ H { s with toks:=t }:=I.un (h':=s.heap) (t':=t) Un.refl I.hok
theorem Inv.kept {t':Nat} (I:Inv X pins σ H s) (k:∀ b u,s.heap.get? b=some u->h'.get? b=some u):Inv X pins σ H { s with heap:=h',toks:=t' }:=I.un (Un.kept k) (I.hok.kept k)
theorem Inv.laid {a:Addr} {o:HO} {t':Nat} (I:Inv X pins σ H s) (k:∀ b u,s.heap.get? b=some u->h'.get? b=some u) (hp:s.heap.objs.size<=a) (new:ObjOk X.prog X.w (upd H a o) h' a o) :
  Inv X pins σ (upd H a o) { s with heap:=h',toks:=t' }:=I.un (Un.laid k hp (I.hok.fresh hp)) (I.hok.laid k hp new)
theorem Inv.write {x e:Addr} {o:HO} {t':Nat} (I:Inv X pins σ H s) (mu:Ee (H x)) (he:e=x\/H e=some (.own x)) (k:∀ b u,b≠e->s.heap.get? b=some u->h'.get? b=some u) (heo:∃ u,h'.get? e=some u)
  (new:ObjOk X.prog X.w (upd H x o) h' x o):Inv X pins σ (upd H x o) { s with heap:=h',toks:=t' }:=I.un (Un.write mu he k heo) (I.hok.write mu he k heo new)
theorem Inv.weak {σ':List (Option V)} (I:Inv X pins σ H s) (hl:σ'.length = σ.length) (w:∀ (i:Nat) v,σ'[i]? = some (some v) -> σ[i]? = some (some v)):Inv X pins σ' H s:=
 ⟨I.ok,I.os,I.bare,I.base,let ⟨m,hn,hl'⟩:=I.loc; ⟨m,hn,fun i x v e1 e2 e3=>hl' i x v e1 (w i v e2) e3⟩,I.cell,I.free,I.freeC,I.pin,I.hok,hl.trans I.len⟩
theorem Inv.pins_of {pins':List (Addr×Obj)} (I:Inv X pins σ H s) (h:∀ p∈pins',s.heap.get? p.1=some p.2/\H p.1=none/\p.1≠X.env.locals/\p.1 ∉ X.fs/\∀ v,p.2.data≠.cell v):Inv X pins' σ H s:=
 ⟨I.ok,I.os,I.bare,I.base,I.loc,I.cell,I.free,I.freeC,fun p hp=>(List.mem_append.mp hp).elim (fun z=>I.pin p (List.mem_append_left _ z)) (h p),I.hok,I.len⟩
theorem kx {N:List Str} (hN:N.Nodup) {i j:Nat} {x:Str} (a:N[i]? = some x) (b:N[j]? = some x):i=j:=by
 obtain ⟨h1,e1⟩:=List.getElem?_eq_some_iff.mp a
 obtain ⟨h2,e2⟩:=List.getElem?_eq_some_iff.mp b
 exact (List.getElem_inj hN).mp (e1.trans e2.symm)
theorem sV {M:Model} {A:Around} {E:Value->Shared->Prop} {i:Nat} {x:Str} {v:V} {u:Value} {Q:Unit->Shared->Prop} (I:Inv X pins σ H s) (hN:X.N.Nodup) (hi:X.N[i]? = some x) (hx:ur X.env.scope x) (r:RelV v u)
  (h:∀ s',Inv X pins (σ.set i (some v)) H s'->(∃ a,Heap.SameBut a s.heap s'.heap/\(a=X.env.locals\/X.env.cells.lookup x=some a))->Q () s') (hf:X.fn x=true\/X.env.scope.names.lookup x=some .local:=by first | exact .inl rfl | exact .inr rfl | assumption):wpAny M A (storeName X.env x u) Q E s:=by
 obtain ⟨m,hn,hl⟩:=id I.loc
 have hcls:(X.env.scope.kind == .class||(X.env.scope.kind == .module&&X.env.locals != X.env.globals))=false:=by rw [I.ok.kind]; rfl
 have hiσ:i < σ.length:=by rw [I.len]; exact (List.getElem?_eq_some_iff.mp hi).1
 have cne:=I.cne
 have tracked:∀ {a:Addr} {h':Heap},(∃ o,s.heap.get? a=some o/\H a=none)->Heap.SameBut a s.heap h'->HOk X.prog X.w H h':=fun {a h'} ha hs b ob e=>by
  obtain ⟨_,_,hfree⟩:=ha
  refine (I.hok b ob e).stay (fun c w' hc q=>(hs.2 c ?_).trans q) (fun _ q=>q) fun _ _ q=>q
  rintro rfl
  rcases hc with rfl | hc
  ·rw [hfree] at e; cases e
  ·rw [hfree] at hc; cases hc
 rcases hx with hk | hk
 ·refine wpAny_storeName_local hk hn (fun h' hn' hs=>?_) hcls
  obtain ⟨oL,_,_,hoL,_⟩:=id hn
  refine h _ ⟨I.ok,I.os,I.bare,⟨fun b o e n hb hx=>?_,fun b o e n hb hx=>?_,I.base.free,fun b o e hx=>?_,I.base.tups,I.base.frzs,I.base.tbls⟩,⟨_,hn',fun j y v' e1 e2 e3=>?_⟩,fun y c e=>?_,I.free,I.freeC,fun p hp=>?_,tracked ⟨oL,hoL,I.free⟩ hs,by simpa using I.len⟩ ⟨_,hs,.inl rfl⟩
  ·exact (hs.2 b (Nat.ne_of_lt (Nat.lt_of_lt_of_le (Heap.lt_size e) I.ok.above))).trans (I.base.keep b o e n hb hx)
  ·obtain ⟨sl,e1⟩:=I.base.slot b o e n hb hx
   exact ⟨sl,(hs.2 b (Nat.ne_of_lt (Nat.lt_of_lt_of_le (Heap.lt_size e) I.ok.above))).trans e1⟩
  ·obtain ⟨o',e1⟩:=I.base.there b o e hx
   exact ⟨o',(hs.2 b (Nat.ne_of_lt (Nat.lt_of_lt_of_le (Heap.lt_size e) I.ok.above))).trans e1⟩
  ·by_cases hj:j=i
   ·subst hj
    rw [hi] at e1; cases e1
    rw [List.getElem?_set_self hiσ] at e2
    cases e2
    exact ⟨u,r,.inl ⟨hk,by simp⟩⟩
   ·rw [List.getElem?_set_ne (Ne.symm hj)] at e2
    obtain ⟨u',r',q⟩:=hl j y v' e1 e2 e3
    refine ⟨u',r',?_⟩
    rcases q with ⟨k,e⟩ | ⟨k,c,e,z⟩
    ·refine .inl ⟨k,?_⟩
     have:y≠x:=fun e=>hj (kx hN e1 (e ▸ hi))
     simp [this,e]
    ·exact .inr ⟨k,c,e,z.sameBut hs (cne y c e)⟩
  ·obtain ⟨w',z⟩:=I.cell y c e
   exact ⟨w',z.sameBut hs (cne y c e)⟩
  ·obtain ⟨e,n,ne,nf,d⟩:=I.pin p hp
   exact ⟨(hs.2 p.1 ne).trans e,n,ne,nf,d⟩
 ·have hfn:X.fn x=true:=by
   rcases hf with z | z
   ·exact z
   ·rw [z] at hk; cases hk
  obtain ⟨c,hc⟩:=I.ok.has x (.inl hk)
  obtain ⟨w',z⟩:=I.cell x c hc
  refine wpAny_storeName_cell I.ok.kind hk hc z (fun h' hc' hs=>?_)
  obtain ⟨oc,hoc,hocd⟩:=id z
  refine h { s with heap:=h' } ⟨I.ok,I.os,I.bare,⟨fun b o e n hb hx=>?_,fun b o e n hb hx=>?_,I.base.free,fun b o e hx=>?_,I.base.tups,I.base.frzs,I.base.tbls⟩,⟨m,hn.sameBut hs (Ne.symm (cne x c hc)),fun j y v' e1 e2 e3=>?_⟩,fun y c' e=>?_,I.free,I.freeC,fun p hp=>?_,tracked ⟨oc,hoc,I.freeC x c hc⟩ hs,by simpa using I.len⟩ ⟨c,hs,.inr hc⟩
  ·exact (hs.2 b (Nat.ne_of_lt (Nat.lt_of_lt_of_le (Heap.lt_size e) (I.ok.cab x c hfn hc)))).trans (I.base.keep b o e n hb hx)
  ·obtain ⟨sl,e1⟩:=I.base.slot b o e n hb hx
   exact ⟨sl,(hs.2 b (Nat.ne_of_lt (Nat.lt_of_lt_of_le (Heap.lt_size e) (I.ok.cab x c hfn hc)))).trans e1⟩
  ·obtain ⟨o',e1⟩:=I.base.there b o e hx
   exact ⟨o',(hs.2 b (Nat.ne_of_lt (Nat.lt_of_lt_of_le (Heap.lt_size e) (I.ok.cab x c hfn hc)))).trans e1⟩
  ·by_cases hj:j=i
   ·subst hj
    rw [hi] at e1; cases e1
    rw [List.getElem?_set_self hiσ] at e2
    cases e2
    exact ⟨u,r,.inr ⟨.inl hk,c,hc,hc'⟩⟩
   ·rw [List.getElem?_set_ne (Ne.symm hj)] at e2
    obtain ⟨u',r',q⟩:=hl j y v' e1 e2 e3
    refine ⟨u',r',?_⟩
    rcases q with q | ⟨k,c',e,z'⟩
    ·exact .inl q
    ·refine .inr ⟨k,c',e,z'.sameBut hs ?_⟩
     rintro rfl
     exact hj (kx hN e1 (I.ok.inj _ _ _ e hc ▸ hi))
  ·by_cases hcc:c'=c
   ·subst hcc; exact ⟨_,hc'⟩
   ·obtain ⟨w2,z2⟩:=I.cell y c' e
    exact ⟨w2,z2.sameBut hs hcc⟩
  ·obtain ⟨e,n,ne,nf,d⟩:=I.pin p hp
   refine ⟨(hs.2 p.1 ?_).trans e,n,ne,nf,d⟩
   intro q
   rw [q,hoc] at e
   have q':oc=p.2:=Option.some.inj e
   exact d w' (by rw [<- q']; exact hocd)
theorem hJ {M:Model} {A:Around} {E:Value->Shared->Prop} {i:Nat} {x:Str} {v:V} {u:Value} {Q:Unit->Shared->Prop} (I:Inv X pins σ H s) (hN:X.N.Nodup) (hi:X.N[i]? = some x) (hx:ur X.env.scope x) (r:RelV v u)
  (h:∀ s',Inv X pins (σ.set i (some v)) H s'->Q () s') (hf:X.fn x=true\/X.env.scope.names.lookup x=some .local:=by first | exact .inl rfl | exact .inr rfl | assumption):wpAny M A (storeName X.env x u) Q E s:=
 sV I hN hi hx r (fun s' I' _=>h s' I') hf
theorem Inv.call' {s':Shared} {ch:List Addr} (I:Inv X pins σ H s) (ho:s'.os=s.os) (u:Un (fT X.stack) ch H H' s.heap s'.heap) (hok:HOk X.prog X.w H' s'.heap) (hg:AllBare s'.gens)
  (hch:∀ b∈ch,(b∈X.ex\/X.s₀.heap.objs.size<=b)/\b≠X.env.locals/\(∀ x c,X.env.cells.lookup x=some c->c≠b)/\∀ p∈X.pn++pins,p.1≠b):Inv X pins σ H' s':=by
 obtain ⟨h',g',d',t',o'⟩:=s'
 have e:o'=s.os:=ho
 subst e
 exact I.call (g':=g') (t':=t') (d':=d') u hok hg hch
end
noncomputable abbrev XK:=Value->Option Addr->Hp->Prop
noncomputable abbrev St:=List (Option V)
noncomputable abbrev VK:=V->Hp->Prop
noncomputable abbrev TE:=St->Hp->VK->Prop
noncomputable abbrev TT:=St->Hp->(Bool->Hp->Prop)->Prop
noncomputable abbrev TA:=St->Hp->(List V->Hp->Prop)->Prop
structure Ends where
 nx:St->Hp->Prop
 rt:VK
 bk:St->Hp->Prop:=fun _ _=>False
 ct:St->Hp->Prop:=fun _ _=>False
noncomputable abbrev TS:=Ends->St->Hp->Prop
noncomputable def EP (X:Cx) (pins:List (Addr×Obj)) (σ:St) (Q:VK) (u:Value) (s':Shared):Prop:=∃ v H',Inv X pins σ H' s'/\RelV v u/\Q v H'
noncomputable def TP (X:Cx) (pins:List (Addr×Obj)) (σ:St) (Q:Bool->Hp->Prop) (b:Bool) (s':Shared):Prop:=∃ H',Inv X pins σ H' s'/\Q b H'
noncomputable def AP (X:Cx) (pins:List (Addr×Obj)) (σ:St) (Q:List V->Hp->Prop) (us:List Value) (s':Shared):Prop:=∃ vs H',Inv X pins σ H' s'/\Vals vs us/\Q vs H'
noncomputable def SP (X:Cx) (pins:List (Addr×Obj)) (D:Ends) (f:Flow) (s':Shared):Prop:=
 match f with
 | .next=>∃ σ' H',Inv X pins σ' H' s'/\D.nx σ' H'
 | .brk=>∃ σ' H',Inv X pins σ' H' s'/\D.bk σ' H'
 | .cont=>∃ σ' H',Inv X pins σ' H' s'/\D.ct σ' H'
 | .ret u=>∃ v σ' H',Inv X pins σ' H' s'/\RelV v u/\D.rt v H'
noncomputable def PE (X:Cx) (e:Expr) (t:TE):Prop:=
 ∀ (pins:List (Addr×Obj)) (s:Shared) (σ:St) (H:Hp) (Q:VK),Inv X pins σ H s->t σ H Q->wpAny (model X.prog X.w) X.A (eval e X.env) (EP X pins σ Q) X.xe s
noncomputable def PT (X:Cx) (e:Expr) (t:TT):Prop:=
 ∀ (pins:List (Addr×Obj)) (s:Shared) (σ:St) (H:Hp) (Q:Bool->Hp->Prop),Inv X pins σ H s->t σ H Q->wpAny (model X.prog X.w) X.A (isTrue e X.env (eval e X.env)) (TP X pins σ Q) X.xe s
noncomputable def PW (X:Cx) (e:Expr) (t:TT):Prop:=
 ∀ (whole:Sem Value) (pins:List (Addr×Obj)) (s:Shared) (σ:St) (H:Hp) (Q:Bool->Hp->Prop),Inv X pins σ H s->t σ H Q->wpAny (model X.prog X.w) X.A (isTrue e X.env whole) (TP X pins σ Q) X.xe s
theorem PW.pt {X:Cx} {e:Expr} {t:TT} (h:PW X e t):PT X e t:=h _
noncomputable def PA (X:Cx) (es:List Expr) (t:TA):Prop:=
 ∀ (pos:Pos) (pins:List (Addr×Obj)) (s:Shared) (σ:St) (H:Hp) (Q:List V->Hp->Prop),Inv X pins σ H s->t σ H Q->wpAny (model X.prog X.w) X.A (spliced (backTo pos (starEach es X.env))) (AP X pins σ Q) X.xe s
noncomputable def PS (X:Cx) (st:Stmt) (t:TS):Prop:=
 ∀ (pins:List (Addr×Obj)) (s:Shared) (σ:St) (H:Hp) (D:Ends),Inv X pins σ H s->t D σ H->wpAny (model X.prog X.w) X.A (exec st X.env) (SP X pins D) X.xe s
noncomputable def PSs (X:Cx) (st:List Stmt) (t:TS):Prop:=
 ∀ (pins:List (Addr×Obj)) (s:Shared) (σ:St) (H:Hp) (D:Ends),Inv X pins σ H s->t D σ H->wpAny (model X.prog X.w) X.A (execs st X.env) (SP X pins D) X.xe s
theorem bU {α:Type} {t:Sem α} {Q Q':α -> Shared->Prop} {M:Model} {A:Around} {E:Value->Shared->Prop} {s:Shared} (h:wpAny M A t Q E s) (hQ:∀ a s,Q a s->Q' a s):wpAny M A t Q' E s:=wpAny_mono h hQ fun _ _ x=>x
end L2
namespace L2
open PySem PySem.Spec PyProof.Rows
section
variable {X:Cx}
noncomputable def EI (i:Nat):TE:=fun σ H Q=>∃ v,σ[i]? = some (some v)/\Q v H
noncomputable def tC (v:V):TE:=fun _ H Q=>Q v H
theorem eA {i:Nat} {x:Str} {pos:Pos} (hN:X.N[i]? = some x) (hv:uu X.env.scope x) (hd:(x==("__debug__":Str))=false:=by decide) (hcd:(x==("__classdict__":Str))=false:=by decide):PE X (.Name x pos) (EI i):=by
 intro pins s σ H Q I h
 obtain ⟨v,e,h⟩:=h
 obtain ⟨m,hn,hl⟩:=I.loc
 obtain ⟨u,r,l⟩:=hl i x v hN e hv
 have fin:EP X pins σ Q u s:=⟨v,H,I,r,h⟩
 rcases l with ⟨hk,hm⟩ | ⟨hk,c,hc,hcell⟩
 ·exact wpAny_Name (wpAny_loadName_local I.ok.kind hk hn hm fin) hd
 ·rcases hk with hk | hk
  ·exact wpAny_Name (wpAny_loadName_cell I.ok.kind hk hc hcell fin) hd
  ·exact wpAny_Name (wpAny_loadName_free I.ok.kind hk hc hcell fin hcd) hd
theorem Ay {i j pos}:PE X (.Constant (.int i) j pos) (tC (.int i)):=fun _ _ _ H _ I h=>wpAny_Constant_int ⟨.int i,H,I.tok _,⟨_,rfl⟩,h⟩
theorem CW {b j pos}:PE X (.Constant (.bool b) j pos) (tC (.bl b)):=fun _ _ _ H _ I h=>Constant_bool ⟨.bl b,H,I,rfl,h⟩
theorem Av {x j pos}:PE X (.Constant (.str x) j pos) (tC (.str x)):=fun _ _ _ H _ I h=>Calls.Constant_str ⟨.str x,H,I.tok _,⟨_,rfl⟩,h⟩
noncomputable def Gl (X:Cx) (x:Str):Prop:=X.env.kindOf x=some .globalImplicit
theorem im {E:Value->Shared->Prop} {pins:List (Addr×Obj)} {s:Shared} {σ:St} {H:Hp} {x:Str} {u:Value} {pos:Pos} {Q:Value->Shared->Prop} (I:Inv X pins σ H s) (hg:Gl X x) (hm:X.mg x=some u) (h:Q u s)
  (hd:(x==("__debug__":Str))=false:=by decide):wpAny (model X.prog X.w) X.A (eval (.Name x pos) X.env) Q E s:=
 Calls.Name_function_global I.ok.kind hg (Calls.loadGlobal_global (by rw [I.ok.glob]; exact I.mod.glob.keeps I.bk) hm h) hd
theorem fh {E:Value->Shared->Prop} {pins:List (Addr×Obj)} {s:Shared} {σ:St} {H:Hp} {x:Str} {u:Value} {pos:Pos} {Q:Value->Shared->Prop} (I:Inv X pins σ H s) (hg:Gl X x) (hm:X.mg x=none) (hv:bootBuiltins x=some u) (h:Q u s)
  (hn:x ≠ "__name__":=by decide) (hd:(x==("__debug__":Str))=false:=by decide):wpAny (model X.prog X.w) X.A (eval (.Name x pos) X.env) Q E s:=by
 obtain ⟨mb,h1,h2⟩:=I.mod.blt
 exact Calls.Name_function_global I.ok.kind hg (Calls.loadGlobal_builtin (by rw [I.ok.glob]; exact I.mod.glob.keeps I.bk) hm (by rw [I.ok.blt]; exact h1.keeps I.bk) ((h2 x hn).trans hv) h) hd
theorem xK {x:Str} {v:V} {u:Value} {pos:Pos} (hg:Gl X x) (hm:X.mg x=some u) (r:RelV v u) (hd:(x==("__debug__":Str))=false:=by decide):PE X (.Name x pos) (tC v):=
 fun _ _ _ H _ I h=>im I hg hm ⟨v,H,I,r,h⟩ hd
theorem rP {x:Str} {v:V} {u:Value} {pos:Pos} (hg:Gl X x) (hm:X.mg x=none) (hv:bootBuiltins x=some u) (r:RelV v u) (hn:x ≠ "__name__":=by decide) (hd:(x==("__debug__":Str))=false:=by decide):PE X (.Name x pos) (tC v):=
 fun _ _ _ H _ I h=>fh I hg hm hv ⟨v,H,I,r,h⟩ hn hd
variable {a b:Expr} {ta tb:TE} {pos:Pos}
noncomputable def tB (t:TE):TT:=fun σ H Q=>t σ H fun x H1=>∃ c,x=.bl c/\Q c H1
theorem An {e:Expr} {t:TE} (h:PE X e t) (he:∀ whole,isTrue e X.env whole=(do let v <- whole; standAt e.pos; holding [v] (truthy v)):=by intro _; rfl):PT X e (tB t):=by
 intro pins s σ H Q I hw
 refine isTrue_plain (bU (h pins s σ H _ I hw) fun v s1 ⟨x,H1,I1,r1,q1⟩=>?_) (he _)
 obtain ⟨d,rfl,q⟩:=q1
 cases r1
 exact wpAny_truthy_bool ⟨H1,I1,q⟩
variable {tA tB':TT} {rest:List Expr}
noncomputable def EW (t u:TT):TT:=fun σ H Q=>t σ H fun c H1=>if c=true then u σ H1 Q else Q false H1
noncomputable def GU (t u:TT):TT:=fun σ H Q=>t σ H fun c H1=>if c=true then Q true H1 else u σ H1 Q
noncomputable def EO (t:TT):TT:=fun σ H Q=>t σ H fun c H1=>Q (!c) H1
theorem xA (ha:PT X a tA):PW X (.BoolOp .And [a] pos) tA:=by
 intro wh pins s σ H Q I h
 refine isTrue_and (bU (ha pins s σ H Q I h) fun c s1 e=>?_)
 cases c with
 | true=>exact isTrue_and_nil e
 | false=>exact e
theorem Al (ha:PT X a tA):PW X (.BoolOp .Or [a] pos) tA:=by
 intro wh pins s σ H Q I h
 refine isTrue_or (bU (ha pins s σ H Q I h) fun c s1 e=>?_)
 cases c with
 | false=>exact isTrue_or_nil e
 | true=>exact e
theorem Am (ha:PT X a tA) (hb:PW X (.BoolOp .And (b::rest) pos) tB'):PW X (.BoolOp .And (a::b::rest) pos) (EW tA tB'):=by
 intro wh pins s σ H Q I h
 refine isTrue_and (bU (ha pins s σ H _ I h) fun c s1 ⟨H1,I1,q1⟩=>?_)
 cases c with
 | true=>exact hb wh pins s1 σ H1 Q I1 q1
 | false=>exact ⟨H1,I1,q1⟩
theorem CM (ha:PT X a tA) (hb:PW X (.BoolOp .Or (b::rest) pos) tB'):PW X (.BoolOp .Or (a::b::rest) pos) (GU tA tB'):=by
 intro wh pins s σ H Q I h
 refine isTrue_or (bU (ha pins s σ H _ I h) fun c s1 ⟨H1,I1,q1⟩=>?_)
 cases c with
 | true=>exact ⟨H1,I1,q1⟩
 | false=>exact hb wh pins s1 σ H1 Q I1 q1
theorem Ao (ha:PT X a tA):PT X (.UnaryOp .Not a pos) (EO tA):=by
 intro pins s σ H Q I h
 exact isTrue_not (ha pins s σ H (fun c H1=>Q (!c) H1) I h)
noncomputable def Ci (ta tb:TE):TE:=fun σ H Q=>ta σ H fun x H1=>∃ c,x=.bl c/\if c=true then tb σ H1 Q else Q (.bl false) H1
noncomputable def Ca (ta:TE):TE:=fun σ H Q=>ta σ H fun x H1=>∃ c,x=.bl c/\Q (.bl (!c)) H1
theorem Aw {op} {t:TE} (h:PE X a t):PE X (.BoolOp op [a] pos) t:=fun pins s σ H Q I hw=>BoolOp_one (h pins s σ H Q I hw)
theorem Az (ha:PE X a ta) (hb:PE X (.BoolOp .And (b::rest) pos) tb):PE X (.BoolOp .And (a::b::rest) pos) (Ci ta tb):=by
 intro pins s σ H Q I h
 refine BoolOp_and (bU (ha pins s σ H _ I h) fun v s1 ⟨x,H1,I1,r1,q1⟩=>?_)
 obtain ⟨c,rfl,q1⟩:=q1
 cases r1
 refine wpAny_truthy_bool ?_
 cases c with
 | true=>exact hb pins s1 σ H1 Q I1 q1
 | false=>exact ⟨.bl false,H1,I1,rfl,q1⟩
theorem Ax (ha:PE X a ta):PE X (.UnaryOp .Not a pos) (Ca ta):=by
 intro pins s σ H Q I h
 refine UnaryOp_ (bU (ha pins s σ H _ I h) fun v s1 ⟨x,H1,I1,r1,q1⟩=>?_)
 obtain ⟨c,rfl,q1⟩:=q1
 cases r1
 exact not_of (wpAny_truthy_bool ⟨.bl (!c),H1,I1,rfl,q1⟩)
noncomputable def GW (t:TT) (ta tb:TE):TE:=fun σ H Q=>t σ H fun c H1=>if c=true then ta σ H1 Q else tb σ H1 Q
theorem va {c:Expr} (hc:PT X c tA) (ha:PE X a ta) (hb:PE X b tb):PE X (.IfExp c a b pos) (GW tA ta tb):=by
 intro pins s σ H Q I h
 refine wpAny_IfExp (bU (hc pins s σ H _ I h) fun d s1 ⟨H1,I1,q1⟩=>?_)
 cases d with
 | true=>exact ha pins s1 σ H1 Q I1 q1
 | false=>exact hb pins s1 σ H1 Q I1 q1
end
end L2
namespace L2
open PySem PySem.Spec PyProof.Rows
noncomputable def SqL (K:PySem.W.Frag) (H:Hp) (a:Addr) (xs:List V):Prop:=
 Rd H a (.lst xs) \/
  ∃ (o:Obj) (its:Array Value) (n:Nat),K.lookup a=some o/\o.cls=.type "list" /\ o.dict=none/\o.data=.seq its n/\its.size<=sizeLine/\Vals xs its.toList
noncomputable def SqT (K:PySem.W.Frag) (H:Hp) (a:Addr) (xs:List V):Prop:=
 Rd H a (.tup xs) \/
  ∃ (o:Obj) (its:Array Value) (n:Nat),K.lookup a=some o/\o.cls=.type "tuple" /\ o.data=.seq its n/\its.size<=sizeLine/\Vals xs its.toList/\o.dict=none
noncomputable def F0:Value->Option V
 | .none=>some .non
 | .bool b=>some (.bl b)
 | .int i _=>some (.int i)
 | .str x _=>some (.str x)
 | .bytes b _=>some (.byt b)
 | .float b _=>some (.flt b)
 | .ref a=>some (.ref a)
 | .type n=>some (.ty n)
 | _=>none
theorem RelV.abs {x:V} {u:Value} (r:RelV x u):F0 u=some x:=by
 cases x with
 | non=>cases r; rfl
 | bl _=>cases r; rfl
 | int _=>obtain ⟨t,rfl⟩:=r; rfl
 | str _=>obtain ⟨t,rfl⟩:=r; rfl
 | byt _=>obtain ⟨t,rfl⟩:=r; rfl
 | flt _=>obtain ⟨t,rfl⟩:=r; rfl
 | ref _=>cases r; rfl
 | ty _=>cases r; rfl
theorem RelV.inj {x y:V} {u:Value} (r:RelV x u) (q:RelV y u):x=y:=Option.some.inj (r.abs.symm.trans q.abs)
theorem Vals.inj:∀ {xs ys:List V} {us:List Value},Vals xs us->Vals ys us->xs=ys
 | _,_,_,.nil,.nil=>rfl
 | _,_,_,.cons r t,.cons r' t'=>by rw [r.inj r',Vals.inj t t']
section
variable {X:Cx} {pins:List (Addr×Obj)} {σ:St} {H:Hp} {s:Shared} {a:Addr} {xs ys:List V}
theorem SqL.of {K:PySem.W.Frag} (h:H a=some (.lst xs)):SqL K H a xs:=.inl (.inl h)
theorem SqT.of {K:PySem.W.Frag} (h:H a=some (.tup xs)):SqT K H a xs:=.inl (.inl h)
theorem Inv.list (I:Inv X pins σ H s) (h:SqL X.K H a xs):∃ its:List Value,Vals xs its/\PlainL s.heap a its.toArray/\xs.length<=sizeLine:=by
 rcases h with h | ⟨o,its,n,hk,hc,hd,hs,hz,r⟩
 ·obtain ⟨z,its,n,r,e⟩:=h.ok I.hok
  exact ⟨its,r,⟨_,n,e,rfl,rfl,rfl⟩,z⟩
 ·refine ⟨its.toList,r,⟨o,n,I.kIn a o hk,hc,hd,by simpa using hs⟩,?_⟩
  have e:=r.length
  simp only [Array.length_toList] at e
  omega
theorem Inv.tuple (I:Inv X pins σ H s) (h:SqT X.K H a xs):∃ its:List Value,Vals xs its/\IsTup s.heap a its.toArray/\xs.length<=sizeLine:=by
 rcases h with h | ⟨o,its,n,hk,hc,hs,hz,r,hd⟩
 ·obtain ⟨z,its,r,p⟩:=h.ok I.hok
  exact ⟨its,r,p.1,z⟩
 ·refine ⟨its.toList,r,⟨o,I.kIn a o hk,hc,n,by simpa using hs⟩,?_⟩
  have e:=r.length
  simp only [Array.length_toList] at e
  omega
theorem Inv.noDi (I:Inv X pins σ H s) (h:SqT X.K H a xs):NoDi s.heap a:=by
 rcases h with h | ⟨o,its,n,hk,hc,hs,hz,r,hd⟩
 ·obtain ⟨z,its,r,p⟩:=h.ok I.hok
  exact p.2
 ·exact ⟨o,I.kIn a o hk,hd⟩
theorem Inv.list_inj (I:Inv X pins σ H s) (h:SqL X.K H a xs) (h':SqL X.K H a ys):xs=ys:=by
 obtain ⟨its,r,⟨o,n,e,_,_,d⟩,_⟩:=I.list h
 obtain ⟨its',r',⟨o',n',e',_,_,d'⟩,_⟩:=I.list h'
 rw [e] at e'; cases e'
 rw [d] at d'
 injection d' with d1 _
 have:its=its':=by simpa using congrArg Array.toList d1
 subst this
 exact r.inj r'
theorem Inv.tuple_inj (I:Inv X pins σ H s) (h:SqT X.K H a xs) (h':SqT X.K H a ys):xs=ys:=by
 obtain ⟨its,r,⟨o,e,_,n,d⟩,_⟩:=I.tuple h
 obtain ⟨its',r',⟨o',e',_,n',d'⟩,_⟩:=I.tuple h'
 rw [e] at e'; cases e'
 rw [d] at d'
 injection d' with d1 _
 have:its=its':=by simpa using congrArg Array.toList d1
 subst this
 exact r.inj r'
end
noncomputable abbrev Cx.wish (X:Cx) (E:Value->Shared->Prop):Cx:={ X with xe:=E }
noncomputable abbrev Cx.nox (X:Cx):Cx:=X.wish fun _ _=>False
theorem Cx.Ok.wish {X:Cx} (ok:X.Ok) (E:Value->Shared->Prop):(X.wish E).Ok:=
 ⟨ok.mod,ok.kind,ok.glob,ok.blt,ok.above,ok.inj,ok.has,ok.cab,ok.hd,ok.frames,ok.stk,ok.exf,ok.bs,ok.bsz,ok.noex,ok.exfs,ok.funs,ok.frf⟩
theorem Cx.Ok.unwish {X:Cx} {E:Value->Shared->Prop} (ok:(X.wish E).Ok):X.Ok:=
 ⟨ok.mod,ok.kind,ok.glob,ok.blt,ok.above,ok.inj,ok.has,ok.cab,ok.hd,ok.frames,ok.stk,ok.exf,ok.bs,ok.bsz,ok.noex,ok.exfs,ok.funs,ok.frf⟩
section
variable {X:Cx} {pins:List (Addr×Obj)} {σ:St} {H:Hp} {s:Shared} {E:Value->Shared->Prop}
theorem Inv.wish (I:Inv X pins σ H s) (E:Value->Shared->Prop):Inv (X.wish E) pins σ H s:=⟨I.ok.wish E,I.os,I.bare,I.base,I.loc,I.cell,I.free,I.freeC,I.pin,I.hok,I.len⟩
theorem Inv.unwish (I:Inv (X.wish E) pins σ H s):Inv X pins σ H s:=⟨I.ok.unwish,I.os,I.bare,I.base,I.loc,I.cell,I.free,I.freeC,I.pin,I.hok,I.len⟩
theorem SP.unwish {D:Ends} {f:Flow} {s':Shared} (h:SP (X.wish E) pins D f s'):SP X pins D f s':=by
 cases f with
 | next=>obtain ⟨σ',H',I,q⟩:=h; exact ⟨σ',H',I.unwish,q⟩
 | brk=>obtain ⟨σ',H',I,q⟩:=h; exact ⟨σ',H',I.unwish,q⟩
 | cont=>obtain ⟨σ',H',I,q⟩:=h; exact ⟨σ',H',I.unwish,q⟩
 | ret u=>obtain ⟨v,σ',H',I,r,q⟩:=h; exact ⟨v,σ',H',I.unwish,r,q⟩
theorem PE.nox {e:Expr} {t:TE} (h:PE X.nox e t):PE X e t:=fun pins s σ H Q I hw=>
 wpAny_mono (h pins s σ H Q (I.wish _) hw) (fun _ _ ⟨v,H',I',r,q⟩=>⟨v,H',I'.unwish,r,q⟩) fun _ _ z=>False.elim z
theorem PT.nox {e:Expr} {t:TT} (h:PT X.nox e t):PT X e t:=fun pins s σ H Q I hw=>
 wpAny_mono (h pins s σ H Q (I.wish _) hw) (fun _ _ ⟨H',I',q⟩=>⟨H',I'.unwish,q⟩) fun _ _ z=>False.elim z
theorem PSs.nox {st:List Stmt} {t:TS} (h:PSs X.nox st t):PSs X st t:=fun pins s σ H D I hw=>
 wpAny_mono (h pins s σ H D (I.wish _) hw) (fun _ _ q=>q.unwish) fun _ _ z=>False.elim z
end
section
variable {X:Cx} {st:Stmt} {rest:List Stmt} {t u:TS} {e:Expr} {te:TE} {pos:Pos}
noncomputable def Cb:TS:=fun D σ H=>D.nx σ H
noncomputable def EM (t u:TS):TS:=fun D σ H=>t { D with nx:=u D } σ H
theorem rJ:PSs X [] Cb:=fun _ _ σ H _ I h=>wpAny_execs_nil ⟨σ,H,I,h⟩
theorem kg (h1:PS X st t) (h2:PSs X rest u):PSs X (st::rest) (EM t u):=by
 intro pins s σ H D I h
 refine wpAny_execs_cons (bU (h1 pins s σ H { D with nx:=u D } I h) fun f s1 q=>?_)
 cases f with
 | next=>
  obtain ⟨σ',H',I',q⟩:=q
  exact h2 pins s1 σ' H' D I' q
 | ret v=>exact q
 | brk=>exact q
 | cont=>exact q
theorem rH (h1:PS X st t):PSs X [st] t:=by
 intro pins s σ H D I h
 refine wpAny_execs_cons (bU (h1 pins s σ H D I h) fun f s1 q=>?_)
 cases f with
 | next=>exact wpAny_execs_nil q
 | ret v=>exact q
 | brk=>exact q
 | cont=>exact q
theorem Inv.quiet {pins:List (Addr×Obj)} {σ:St} {H:Hp} {s:Shared} (I:Inv X pins σ H s):interactive X.env=false:=by simp [interactive,I.ok.kind]
noncomputable def Cd (te:TE):TS:=fun D σ H=>te σ H fun _ H1=>D.nx σ H1
theorem jQ (he:PE X e te) (hs:swapsWith e none pos.line X.env=pure false:=by rfl):PS X (.Expr e pos) (Cd te):=by
 intro pins s σ H D I h
 exact wpAny_Expr_any (bU (he pins s σ H _ I h) fun v s1 ⟨x,H1,I1,r1,q1⟩=>⟨σ,H1,I1,q1⟩) I.quiet hs
noncomputable def EN (te:TE):TS:=fun D σ H=>te σ H D.rt
theorem Ap (he:PE X e te):PS X (.Return (some e) pos) (EN te):=by
 intro pins s σ H D I h
 exact wpAny_Return_some (bU (he pins s σ H _ I h) fun v s1 ⟨x,H1,I1,r1,q1⟩=>⟨x,σ,H1,I1,r1,q1⟩)
noncomputable def ES (c:TT) (t u:TS):TS:=fun D σ H=>c σ H fun b H1=>if b=true then t D σ H1 else u D σ H1
theorem u3 {c:Expr} {a b:List Stmt} {tc:TT} (hc:PT X c tc) (ha:PSs X a t) (hb:PSs X b u):PS X (.If c a b pos) (ES tc t u):=by
 intro pins s σ H D I h
 refine wpAny_If (bU (hc pins s σ H _ I h) fun d s1 ⟨H1,I1,q1⟩=>?_)
 cases d with
 | true=>exact ha pins s1 σ H1 D I1 q1
 | false=>exact hb pins s1 σ H1 D I1 q1
end
noncomputable abbrev TG:=V->St->Hp->(St->Hp->Prop)->Prop
noncomputable abbrev yN:=List V->St->Hp->(St->Hp->Prop)->Prop
noncomputable def PG (X:Cx) (target:Expr) (t:TG):Prop:=
 ∀ (pins:List (Addr×Obj)) (s:Shared) (σ:St) (H:Hp) (v:V) (u:Value) (Q:St->Hp->Prop),Inv X pins σ H s->RelV v u->t v σ H Q ->
  wpAny (model X.prog X.w) X.A (assign target X.env u) (fun _ s'=>∃ σ' H',Inv X pins σ' H' s'/\Q σ' H') X.xe s
noncomputable def PGs (X:Cx) (ts:List Expr) (t:yN):Prop:=
 ∀ (pins:List (Addr×Obj)) (s:Shared) (σ:St) (H:Hp) (vs:List V) (us:List Value) (Q:St->Hp->Prop),Inv X pins σ H s->Vals vs us->t vs σ H Q ->
  wpAny (model X.prog X.w) X.A (assignInOrder ((assignEach ts X.env).map (·.2)) us) (fun _ s'=>∃ σ' H',Inv X pins σ' H' s'/\Q σ' H') X.xe s
section
variable {X:Cx} {pos:Pos}
noncomputable def vX (i:Nat):TG:=fun v σ H Q=>Q (σ.set i (some v)) H
theorem bq {i:Nat} {x:Str} (hN:X.N.Nodup) (hi:X.N[i]? = some x) (hx:ur X.env.scope x) (hf:X.fn x=true\/X.env.scope.names.lookup x=some .local:=by first | exact .inl rfl | exact .inr rfl | assumption):PG X (.Name x pos) (vX i):=by
 intro pins s σ H v u Q I r h
 exact wpAny_assign_Name (hJ I hN hi hx r (fun s' I'=>⟨_,H,I',h⟩) hf)
noncomputable def FJ:yN:=fun vs σ H Q=>vs=[]/\Q σ H
noncomputable def DF (t:TG) (u:yN):yN:=fun vs σ H Q=>∃ v r,vs=v::r/\t v σ H fun σ' H'=>u r σ' H' Q
theorem xH:PGs X [] FJ:=by
 intro pins s σ H vs us Q I r h
 obtain ⟨e,h⟩:=h
 subst e
 cases r
 exact assignInOrder_nil ⟨σ,H,I,h⟩
theorem u7 {e:Expr} {es:List Expr} {t:TG} {u:yN} (h1:PG X e t) (h2:PGs X es u)
  (hs:(assignEach (e::es) X.env).map (·.2)=assign e X.env::(assignEach es X.env).map (·.2):=by rfl):PGs X (e::es) (DF t u):=by
 intro pins s σ H vs us Q I r h
 obtain ⟨v,vr,e1,h⟩:=h
 subst e1
 cases r with
 | cons r rr=>
  rw [hs]
  refine assignInOrder_cons (bU (h1 pins s σ H _ _ _ I r h) fun _ s1 ⟨σ1,H1,I1,q1⟩=>?_)
  exact h2 pins s1 σ1 H1 _ _ Q I1 rr q1
noncomputable def FH (K:PySem.W.Frag) (n:Nat) (t:yN):TG:=fun v σ H Q=>∃ a xs,v=.ref a/\SqT K H a xs/\xs.length=n/\t xs σ H Q
theorem At {es:List Expr} {k:Nat} {t:yN} {n:Nat} (hc:X.calm=true) (h:PGs X es t)
  (hn:(assignEach es X.env).length=n:=by rfl) (hst:(assignEach es X.env).findIdx? (·.1)=none:=by rfl):PG X (.Tuple es k pos) (FH X.K n t):=by
 intro pins s σ H v u Q I r hw
 obtain ⟨a,xs,e1,hq,hl,hw⟩:=hw
 subst e1
 cases r
 obtain ⟨its,rv,ht,hz⟩:=I.tuple hq
 refine assign_Tuple_tuple (I.ok.hd hc) ht (by simp [hn,<- hl,rv.length]) hst fun h' hx=>?_
 have I1:Inv X pins σ H { s with heap:=h' }:=I.kept (t':=s.toks) fun b o e=>hx b o (Nat.ne_of_lt (Heap.lt_size e)) e
 exact h pins _ σ H xs _ Q I1 (by simpa using rv) hw
noncomputable def EU (te:TE) (g:TG):TS:=fun D σ H=>te σ H fun x H1=>g x σ H1 D.nx
theorem iS {i:Nat} {x:Str} {e:Expr} {te:TE} {pos':Pos} (hN:X.N.Nodup) (hi:X.N[i]? = some x) (hx:ur X.env.scope x) (he:PE X e te) (hs:swapsWith e (some (.Name x pos')) pos.line X.env=pure false:=by rfl) (hf:X.fn x=true\/X.env.scope.names.lookup x=some .local:=by first | exact .inl rfl | exact .inr rfl | assumption) :
  PS X (.Assign [.Name x pos'] e pos) (EU te (vX i)):=by
 intro pins s σ H D I h
 refine wpAny_Assign_Name (bU (he pins s σ H _ I h) fun v s1 ⟨y,H1,I1,r1,q1⟩=>?_) hs
 exact hJ I1 hN hi hx r1 (fun s2 I2=>⟨_,H1,I2,q1⟩) hf
end
section
variable {X:Cx} {pos:Pos}
end
structure It where
 go:Nat->Hp->Prop
 yld:Nat->Hp->V->Hp->Prop
 stop:Nat->Hp->Prop
noncomputable def gq (X:Cx) (pins:List (Addr×Obj)) (H:Hp) (b:Addr):Prop:=
 H b=none/\b≠X.env.locals/\b ∉ X.fs/\(b∈X.ex\/X.s₀.heap.objs.size<=b)/\(∀ x c,X.env.cells.lookup x=some c->c≠b)/\∀ p∈X.pn++pins,p.1≠b
theorem Inv.fpOk {X:Cx} {pins:List (Addr×Obj)} {σ:St} {H H':Hp} {s:Shared} {b:Addr} (I:Inv X pins σ H s) (hb:s.heap.objs.size<=b) (hn:H' b=none):gq X pins H' b:=by
 refine ⟨hn,Nat.ne_of_gt (Nat.lt_of_lt_of_le I.lt hb),I.nofs hb,.inr (Nat.le_trans I.sz hb),fun x c e z=>?_,fun p hp z=>?_⟩
 ·obtain ⟨v,q⟩:=I.cell x c e
  exact absurd (Nat.lt_of_lt_of_le q.lt (by rw [z]; exact hb)) (Nat.lt_irrefl _)
 ·exact absurd (Nat.lt_of_lt_of_le (Heap.lt_size (I.pin p hp).1) (by rw [z]; exact hb)) (Nat.lt_irrefl _)
structure TurnG (Cm:Cx->Prop) (P:Program) (w:World) (K:PySem.W.Frag) (tg:Expr) (J:It) (fp:List Addr) (it:Addr) (tn:Nat->Heap->Prop):Prop where
 mem:it∈fp
 obj:∀ i h,tn i h->∀ b∈fp,∃ o,h.get? b=some o/\∀ v,o.data≠.cell v
 keep:∀ i h h',tn i h->(∀ b∈fp,∀ o,h.get? b=some o->h'.get? b=some o)->tn i h'
 item:∀ (X:Cx),X.prog=P->X.w=w->X.K=K->Cm X->∀ (i:Nat) (pins:List (Addr×Obj)) (s:Shared) (σ:St) (H:Hp) (E:Value->Shared->Prop),Inv X pins σ H s->(∀ b∈fp,gq X pins H b)->tn i s.heap->J.go i H ->
  wpAny (model P w) X.A (pyNext (.ref it)) (fun r s1=>∃ u,r=some u /\
   wpAny (model P w) X.A (letOwnedTupleGo tg (.ref it) u) (fun _ s2=>∃ x H',Inv X pins σ H' s2/\RelV x u/\J.yld i H x H'/\tn (i+1) s2.heap/\∀ b∈fp,H' b=none) E s1) E s
 done:∀ (X:Cx),X.prog=P->X.w=w->X.K=K->Cm X->∀ (i:Nat) (pins:List (Addr×Obj)) (s:Shared) (σ:St) (H:Hp) (E:Value->Shared->Prop),Inv X pins σ H s->(∀ b∈fp,gq X pins H b)->tn i s.heap->J.stop i H ->
  wpAny (model P w) X.A (pyNext (.ref it)) (fun r s1=>r=none/\Inv X pins σ H s1) E s
 self:∀ (A:Around) (i:Nat) (s:Shared) (Q:Value->Shared->Prop) (E:Value->Shared->Prop),tn i s.heap->Q (.ref it) s->wpAny (model P w) A (pyIter (.ref it)) Q E s
noncomputable abbrev wB (P:Program) (w:World) (K:PySem.W.Frag) (tg:Expr) (J:It) (fp:List Addr) (it:Addr) (tn:Nat->Heap->Prop):Prop:=TurnG (fun X=>X.calm=true) P w K tg J fp it tn
noncomputable abbrev TI:=St->Hp->(It->Hp->Prop)->Prop
noncomputable def GJ (X:Cx) (pins:List (Addr×Obj)) (σ:St) (tg:Expr) (R:It->Hp->Prop) (itv:Value) (s2:Shared):Prop:=
 ∃ (it:Addr) (fp:List Addr) (tn:Nat->Heap->Prop) (J:It) (H':Hp),itv=.ref it/\Inv X pins σ H' s2/\wB X.prog X.w X.K tg J fp it tn/\tn 0 s2.heap/\(∀ b∈fp,gq X pins H' b)/\R J H'
noncomputable def PI (X:Cx) (tg iter:Expr) (wi:TI):Prop:=
 ∀ (pins:List (Addr×Obj)) (s:Shared) (σ:St) (H:Hp) (R:It->Hp->Prop),Inv X pins σ H s->wi σ H R ->
  wpAny (model X.prog X.w) X.A (eval iter X.env) (fun v s1=>wpAny (model X.prog X.w) X.A (pyIter v) (GJ X pins σ tg R) X.xe s1) X.xe s
theorem vU {M:Model} {A:Around} {E:Value->Shared->Prop} {s:Shared} {tg:Expr} {it:Addr} {u:Value} {o:Obj} {n:String} {vs:Array Value} {Q:Unit->Shared->Prop} (ho:s.heap.get? it=some o) (hc:o.cls=.type n) (hd:o.data=.fields vs)
  (hn:["enumerate","zip","dict_itemiterator","dict_reverseitemiterator","odict_iterator","itertools.zip_longest","itertools.pairwise"].contains n=false) (hQ:Q () s):wpAny M A (letOwnedTupleGo tg (.ref it) u) Q E s:=by
 unfold letOwnedTupleGo
 cases tg <;> first
  | exact wpAny_pure hQ
  | (cases u <;> first
    | exact wpAny_pure hQ
    | (refine wpAny_bind (wpAny_load ho ?_)
       rw [hc,hd]
       show wpAny M A (if (["enumerate","zip","dict_itemiterator","dict_reverseitemiterator","odict_iterator","itertools.zip_longest","itertools.pairwise"].contains n&&vs[0]? == some (rawInt _))=true then _ else _) Q E s
       rw [if_neg (by intro h; rw [hn,Bool.false_and] at h; cases h)]
       exact wpAny_pure hQ))
noncomputable def GL (K:PySem.W.Frag) (a:Addr):It:=
 ⟨fun i H=>∃ xs x,SqL K H a xs/\xs[i]? = some x,fun i H x H'=>H'=H/\∀ xs,SqL K H a xs->xs[i]? = some x,fun i H=>∃ xs,SqL K H a xs/\xs.length<=i⟩
noncomputable def GK (K:PySem.W.Frag) (a:Addr):It:=
 ⟨fun i H=>∃ xs x,SqT K H a xs/\xs[i]? = some x,fun i H x H'=>H'=H/\∀ xs,SqT K H a xs->xs[i]? = some x,fun i H=>∃ xs,SqT K H a xs/\xs.length<=i⟩
noncomputable def BZ (lo:Int) (n:Nat):It:=⟨fun i _=>i<n,fun i H x H'=>H'=H/\x=.int (lo+i),fun i _=>n<=i⟩
theorem sT {P:Program} {w:World} {K:PySem.W.Frag} {tg:Expr} (a it:Addr):wB P w K tg (GL K a) [it] it (fun i h=>h.IsListIter it a i) where
 mem:=by simp
 obj:=fun i h st b hb=>by
  have e:b=it:=by simpa using hb
  subst e
  obtain ⟨o,e,c,d⟩:=st
  exact ⟨o,e,fun v z=>by rw [d] at z; cases z⟩
 keep:=fun i h h' st k=>st.at fun o e=>k it (by simp) o e
 item:=by
  intro X hP hw hK hc i pins s σ H E I hf st hg
  subst hP hw hK
  obtain ⟨xs,x,hq,hx⟩:=hg
  obtain ⟨its,rv,p,hz⟩:=I.list hq
  obtain ⟨u,hu,ru⟩:=rv.get hx
  obtain ⟨f0,f1,f2,f3,f4,f5⟩:=hf it (by simp)
  refine wpAny_pyNext_list_item st p.isList (x:=u) (by simpa using hu) fun h' st' sb=>?_
  have I1:Inv X pins σ H { s with heap:=h' }:=I.turned (t':=s.toks) (fun b o hb e=>(sb.2 b hb).trans e) f0 f1 f3 f4 f5
  obtain ⟨o,e,c,d⟩:=id st'
  exact ⟨u,rfl,vU (s:={ s with heap:=h' }) e c d (by decide) ⟨x,H,I1,ru,⟨rfl,fun ys hy=>by rw [I.list_inj hy hq]; exact hx⟩,st',fun b hb=>(hf b hb).1⟩⟩
 done:=by
  intro X hP hw hK hc i pins s σ H E I hf st hg
  subst hP hw hK
  obtain ⟨xs,hq,hx⟩:=hg
  obtain ⟨its,rv,p,hz⟩:=I.list hq
  obtain ⟨f0,f1,f2,f3,f4,f5⟩:=hf it (by simp)
  have hl:=rv.length
  exact wpAny_pyNext_list_end (I.ok.hd hc) st p.isList (by simp; omega) fun h' eb=>⟨rfl,I.turned (t':=s.toks) (fun b o hb e=>eb b o hb e) f0 f1 f3 f4 f5⟩
 self:=fun _ _ _ _ _ st h=>wpAny_pyIter_listiter st h
theorem qo {P:Program} {w:World} {K:PySem.W.Frag} {tg:Expr} (a it:Addr):wB P w K tg (GK K a) [it] it (fun i h=>h.IsTupleIter it a i) where
 mem:=by simp
 obj:=fun i h st b hb=>by
  have e:b=it:=by simpa using hb
  subst e
  obtain ⟨o,e,c,d⟩:=st
  exact ⟨o,e,fun v z=>by rw [d] at z; cases z⟩
 keep:=fun i h h' st k=>st.at fun o e=>k it (by simp) o e
 item:=by
  intro X hP hw hK hc i pins s σ H E I hf st hg
  subst hP hw hK
  obtain ⟨xs,x,hq,hx⟩:=hg
  obtain ⟨its,rv,p,hz⟩:=I.tuple hq
  obtain ⟨u,hu,ru⟩:=rv.get hx
  obtain ⟨f0,f1,f2,f3,f4,f5⟩:=hf it (by simp)
  refine wpAny_pyNext_tuple_item st (show s.heap.IsTuple a its.toArray from p) (x:=u) (by simpa using hu) fun h' st' sb=>?_
  have I1:Inv X pins σ H { s with heap:=h' }:=I.turned (t':=s.toks) (fun b o hb e=>(sb.2 b hb).trans e) f0 f1 f3 f4 f5
  obtain ⟨o,e,c,d⟩:=id st'
  exact ⟨u,rfl,vU (s:={ s with heap:=h' }) e c d (by decide) ⟨x,H,I1,ru,⟨rfl,fun ys hy=>by rw [I.tuple_inj hy hq]; exact hx⟩,st',fun b hb=>(hf b hb).1⟩⟩
 done:=by
  intro X hP hw hK hc i pins s σ H E I hf st hg
  subst hP hw hK
  obtain ⟨xs,hq,hx⟩:=hg
  obtain ⟨its,rv,p,hz⟩:=I.tuple hq
  obtain ⟨f0,f1,f2,f3,f4,f5⟩:=hf it (by simp)
  have hl:=rv.length
  exact wpAny_pyNext_tuple_end (I.ok.hd hc) st (show s.heap.IsTuple a its.toArray from p) (by simp; omega) fun h' eb=>⟨rfl,I.turned (t':=s.toks) (fun b o hb e=>eb b o hb e) f0 f1 f3 f4 f5⟩
 self:=fun _ _ _ _ _ st h=>wpAny_pyIter_tupleiter st h
theorem qp {P:Program} {w:World} {K:PySem.W.Frag} {tg:Expr} (it:Addr) (lo:Int) (n:Nat):wB P w K tg (BZ lo n) [it] it (fun i h=>IsRangeIter h it (lo+(i:Nat)*1) ((n:Int)-(i:Nat)) 1) where
 mem:=by simp
 obj:=fun i h st b hb=>by
  have e:b=it:=by simpa using hb
  subst e
  exact ⟨_,st,fun v z=>by
   have z':Data.fields _=Data.cell v:=z
   cases z'⟩
 keep:=fun i h h' st k=>k it (by simp) _ st
 item:=by
  intro X hP hw hK hc i pins s σ H E I hf st hg
  subst hP hw hK
  obtain ⟨f0,f1,f2,f3,f4,f5⟩:=hf it (by simp)
  have W:=Walks.range (prog:=X.prog) (w:=X.w) (I.ok.hd hc) it lo 1 n
  refine W.item i s _ _ hg st fun v h' tk hv st' kk=>?_
  obtain ⟨t,rfl⟩:=hv
  have I1:Inv X pins σ H { s with heap:=h',toks:=tk }:=I.turned (fun b o hb e=>kk b o (by simpa using hb) e) f0 f1 f3 f4 f5
  refine ⟨_,rfl,vU (s:={ s with heap:=h',toks:=tk }) (n:="range_iterator") st' rfl rfl (by decide) ⟨.int (lo+i),H,I1,⟨t,?_⟩,⟨rfl,rfl⟩,st',fun b hb=>(hf b hb).1⟩⟩
  rw [Int.mul_one]
 done:=by
  intro X hP hw hK hc i pins s σ H E I hf st hg
  subst hP hw hK
  obtain ⟨f0,f1,f2,f3,f4,f5⟩:=hf it (by simp)
  exact wpAny_pyNext_range_end (I.ok.hd hc) st (by have:n<=i:=hg; omega) fun h' eb=>⟨rfl,I.turned (t':=s.toks) (fun b o hb e=>eb b o hb e) f0 f1 f3 f4 f5⟩
 self:=fun _ _ _ _ _ st h=>wpAny_pyIter_rangeiter st h
end L2
namespace L2
open PySem PySem.Spec PyProof.Rows
section
variable {X:Cx} {tg:Expr}
noncomputable def Dy (K:PySem.W.Frag) (tl:TE):TI:=fun σ H R=>tl σ H fun x H1=>∃ a,x=.ref a/\(∃ xs,SqL K H1 a xs)/\R (GL K a) H1
noncomputable def FC (K:PySem.W.Frag) (tl:TE):TI:=fun σ H R=>tl σ H fun x H1=>∃ a,x=.ref a/\(∃ xs,SqT K H1 a xs)/\R (GK K a) H1
theorem xF {l:Expr} {tl:TE} (hl:PE X l tl):PI X tg l (Dy X.K tl):=by
 intro pins s σ H R I h
 refine bU (hl pins s σ H _ I h) fun v s1 ⟨x,H1,I1,r1,q1⟩=>?_
 obtain ⟨a,e,⟨xs,hq⟩,q⟩:=q1
 subst e
 cases r1
 obtain ⟨its,rv,p,hz⟩:=I1.list hq
 refine wpAny_pyIter_list p.isList ?_
 refine ⟨s1.heap.objs.size,[s1.heap.objs.size],_,_,H1,rfl,I1.kept (t':=s1.toks) fun b o e=>Heap.get?_push_of_some _ e,sT a _,⟨_,Heap.get?_push_size _ rfl,rfl,rfl⟩,fun b hb=>?_,q⟩
 have e:b=s1.heap.objs.size:=by simpa using hb
 subst e
 exact I1.fpOk (Nat.le_refl _) (I1.hok.fresh (Nat.le_refl _))
theorem Ar {l:Expr} {tl:TE} (hl:PE X l tl):PI X tg l (FC X.K tl):=by
 intro pins s σ H R I h
 refine bU (hl pins s σ H _ I h) fun v s1 ⟨x,H1,I1,r1,q1⟩=>?_
 obtain ⟨a,e,⟨xs,hq⟩,q⟩:=q1
 subst e
 cases r1
 obtain ⟨its,rv,p,hz⟩:=I1.tuple hq
 refine wpAny_pyIter_tuple (show s1.heap.IsTuple a its.toArray from p) ?_
 refine ⟨s1.heap.objs.size,[s1.heap.objs.size],_,_,H1,rfl,I1.kept (t':=s1.toks) fun b o e=>Heap.get?_push_of_some _ e,qo a _,⟨_,Heap.get?_push_size _ rfl,rfl,rfl⟩,fun b hb=>?_,q⟩
 have e:b=s1.heap.objs.size:=by simpa using hb
 subst e
 exact I1.fpOk (Nat.le_refl _) (I1.hok.fresh (Nat.le_refl _))
theorem uZ {pins:List (Addr×Obj)} {σ:St} {H:Hp} {s:Shared} {R:It->Hp->Prop} {E:Value->Shared->Prop} {lo hi:Int} {t u v:Tok} {tk:Nat} (I:Inv X pins σ H s) (h1:-(2 ^ 62)<=lo) (h2:lo<2 ^ 62) (h3:-(2 ^ 62)<=hi) (h4:hi<2 ^ 62)
  (q:R (BZ lo (hi-lo).toNat) H):wpAny (model X.prog X.w) X.A (pyIter (.ref s.heap.objs.size)) (GJ X pins σ tg R) E { s with heap:=s.heap.push { cls:=.type "range",data:=.fields #[.int lo t,.int hi u,.int 1 v] },toks:=tk }:=by
 refine wpAny_pyIter_range (IsRange.new ..) (small_one h1 h2 h3 h4) ?_
 have I1:Inv X pins σ H { s with heap:=s.heap.push { cls:=.type "range",data:=.fields #[.int lo t,.int hi u,.int 1 v] },toks:=tk }:=I.kept fun b o e=>Heap.get?_push_of_some _ e
 refine ⟨(s.heap.push { cls:=.type "range",data:=.fields #[.int lo t,.int hi u,.int 1 v] }).objs.size,[(s.heap.push { cls:=.type "range",data:=.fields #[.int lo t,.int hi u,.int 1 v] }).objs.size],_,_,H,rfl,
  I1.kept (t':=tk) fun b o e=>Heap.get?_push_of_some _ e,qp _ lo (hi-lo).toNat,?_,fun b hb=>?_,q⟩
 ·have e1:lo+((0:Nat):Int)*1=lo:=by simp
  have e2:(((hi-lo).toNat:Nat):Int)-((0:Nat):Int)=Builtin.Range.rangeSize lo hi 1:=by rw [rangeSize_one]; split <;> omega
  show IsRangeIter _ _ (lo+((0:Nat):Int)*1) ((((hi-lo).toNat:Nat):Int)-((0:Nat):Int)) 1
  rw [e1,e2]
  exact Heap.get?_push_size _ rfl
 ·have e:b=(s.heap.push { cls:=.type "range",data:=.fields #[.int lo t,.int hi u,.int 1 v] }).objs.size:=by simpa using hb
  subst e
  exact I1.fpOk (Nat.le_refl _) (I1.hok.fresh (Nat.le_refl _))
noncomputable def Dx (ta:TA):TI:=fun σ H R=>ta σ H fun vs H1=>∃ j:Int,vs=[.int j] /\ -(2 ^ 62)<=j/\j<2 ^ 62/\R (BZ 0 j.toNat) H1
theorem tG {a:Expr} {ta:TA} {p pos:Pos} (hg:Gl X "range") (hm:X.mg "range" = none) (ha:PA X [a] ta) (hs:starEach [a] X.env=[(false,eval a X.env)]:=by rfl):PI X tg (.Call (.Name "range" p) [a] [] pos) (Dx ta):=by
 intro pins s σ H R I h
 refine Call_ (fh I hg hm boot_range (PyProof.Rows.callWith_type1 (bU (ha pos pins s σ H _ I h) fun us s1 ⟨vs,H1,I1,r1,q1⟩=>?_) hs rfl))
 obtain ⟨j,e,q1,q2,q⟩:=q1
 subst e
 cases r1 with
 | cons r rr=>
  cases rr
  obtain ⟨t,rfl⟩:=r
  exact call_range_1 (uZ I1 (by omega) (by omega) q1 q2 (by simpa using q))
noncomputable def ET (wi:TI) (g:TG) (tb:TS):TS:=fun D σ H=>wi σ H fun J H1=>∃ W:Nat->Nat->St->Hp->Prop,(∃ m,W 0 m σ H1)/\∀ i m σ H,W i m σ H ->
 (J.stop i H/\D.nx σ H)\/(J.go i H/\∃ N:St->Hp->Prop,(∀ σ' H',N σ' H'->∃ m',m'<m/\W (i+1) m' σ' H')/\∀ x H',J.yld i H x H'->g x σ H' fun σ2 H2=>tb { D with nx:=N,ct:=N,bk:=D.nx } σ2 H2)
noncomputable def nq (fp:List Addr) (h:Heap):List (Addr×Obj):=fp.filterMap fun b=>(h.get? b).map fun o=>(b,o)
theorem ce {fp:List Addr} {h:Heap} {b:Addr} {o:Obj} (hb:b∈fp) (e:h.get? b=some o):(b,o)∈nq fp h:=List.mem_filterMap.mpr ⟨b,hb,by rw [e]; rfl⟩
theorem tJ {fp:List Addr} {h:Heap} {p:Addr×Obj} (hp:p∈nq fp h):p.1∈fp/\h.get? p.1=some p.2:=by
 obtain ⟨b,hb,e⟩:=List.mem_filterMap.mp hp
 cases q:h.get? b with
 | none=>rw [q] at e; cases e
 | some o=>
  rw [q] at e
  have e':(b,o)=p:=Option.some.inj e
  subst e'
  exact ⟨hb,q⟩
theorem Inv.pinned {pins:List (Addr×Obj)} {σ:St} {H:Hp} {s:Shared} {fp:List Addr} (I:Inv X pins σ H s) (hf:∀ b∈fp,gq X pins H b) (ho:∀ b∈fp,∃ o,s.heap.get? b=some o/\∀ v,o.data≠.cell v):Inv X (pins++nq fp s.heap) σ H s:=
 I.pins_of fun p hp=>(List.mem_append.mp hp).elim (fun z=>I.pin p (List.mem_append_right _ z)) fun z=>by
  obtain ⟨hb,e⟩:=tJ z
  obtain ⟨f0,f1,f2,_⟩:=hf p.1 hb
  obtain ⟨o,e',d⟩:=ho p.1 hb
  rw [e] at e'; cases e'
  exact ⟨e,f0,f1,f2,d⟩
theorem Inv.unpinned {pins pl:List (Addr×Obj)} {σ:St} {H:Hp} {s:Shared} (I:Inv X (pins++pl) σ H s):Inv X pins σ H s:=I.pins_of fun p hp=>I.pin p (List.mem_append_right _ (List.mem_append_left _ hp))
theorem Aq {iter:Expr} {body:List Stmt} {wi:TI} {g:TG} {tb:TS} {pos:Pos} (hp:PassesOwn (model X.prog X.w) X.A X.env X.xe) (hc:X.calm=true) (hi:PI X tg iter wi) (hg:PG X tg g) (hb:PSs X body tb)
  (hs:∀ x,foldedSetIterable iter X.env x=pure x:=by intro _; rfl):PS X (.For tg iter body [] pos) (ET wi g tb):=by
 intro pins s σ H D I h
 refine wpAny_For (bU (hi pins s σ H _ I h) fun v s1 h1=>bU h1 fun itv s2 h2=>?_) hs
 obtain ⟨it,fp,tn,J,H2,e,I2,T,st2,f2,W,⟨m0,w0⟩,turn⟩:=h2
 subst e
 have stat:∀ {H':Hp},(∀ b∈fp,H' b=none)->∀ b∈fp,gq X pins H' b:=fun hn b hb=>⟨hn b hb,(f2 b hb).2⟩
 refine codeAny_forLoop_any (fun n s'=>∃ i σ' H',Inv X pins σ' H' s'/\tn i s'.heap/\(∀ b∈fp,H' b=none)/\W i n σ' H') ?_ m0 ⟨0,σ,H2,I2,st2,fun b hb=>(f2 b hb).1,w0⟩
 rintro n s3 ⟨i,σ3,H3,I3,st3,fr3,w3⟩
 rcases turn i n σ3 H3 w3 with ⟨stop,qn⟩ | ⟨go,N,hN,step⟩
 ·refine wpAny_passesOwn hp (bU (T.done X rfl rfl rfl hc i pins s3 σ3 H3 X.xe I3 (stat fr3) st3 stop) fun r s4 ⟨hr,I4⟩=>?_)
  subst hr
  exact wpAny_execs_nil ⟨σ3,H3,I4,qn⟩
 ·refine wpAny_passesOwn hp (bU (T.item X rfl rfl rfl hc i pins s3 σ3 H3 X.xe I3 (stat fr3) st3 go) fun r s4 ⟨u,hr,h4⟩=>?_)
  subst hr
  refine wpAny_passesOwn hp (bU h4 fun _ s5 ⟨x,H5,I5,r5,y5,st5,fr5⟩=>?_)
  have I5':=I5.pinned (stat fr5) (T.obj _ _ st5)
  refine wpAny_passesOwn hp (bU (hg _ s5 σ3 H5 x u _ I5' r5 (step x H5 y5)) fun _ s6 ⟨σ6,H6,I6,q6⟩=>?_)
  refine wpAny_passesOwn hp (bU (hb _ s6 σ6 H6 _ I6 q6) fun f s7 q7=>?_)
  have again:∀ {σ7:St} {H7:Hp},Inv X (pins++nq fp s5.heap) σ7 H7 s7->N σ7 H7->∃ m,m<n/\∃ i σ' H',Inv X pins σ' H' s7/\tn i s7.heap/\(∀ b∈fp,H' b=none)/\W i m σ' H':=fun {σ7 H7} I7 n7=>by
   obtain ⟨m',hm,w7⟩:=hN σ7 H7 n7
   refine ⟨m',hm,i+1,σ7,H7,I7.unpinned,T.keep _ _ _ st5 fun b hb o e=>(I7.pin (b,o) (List.mem_append_right _ (List.mem_append_right _ (ce hb e)))).1,fun b hb=>?_,w7⟩
   obtain ⟨o,e,d⟩:=T.obj _ _ st5 b hb
   exact (I7.pin (b,o) (List.mem_append_right _ (List.mem_append_right _ (ce hb e)))).2.1
  cases f with
  | next=>obtain ⟨σ7,H7,I7,n7⟩:=q7; exact again I7 n7
  | cont=>obtain ⟨σ7,H7,I7,n7⟩:=q7; exact again I7 n7
  | brk=>obtain ⟨σ7,H7,I7,q7⟩:=q7; exact ⟨σ7,H7,I7.unpinned,q7⟩
  | ret v=>obtain ⟨x7,σ7,H7,I7,r7,q7⟩:=q7; exact ⟨x7,σ7,H7,I7.unpinned,r7,q7⟩
end
end L2
namespace L2
open PySem PySem.Spec PyProof.Rows
noncomputable abbrev R2:=V->V->Hp->VK->Prop
noncomputable def OpR (X:Cx) (f:Value->Value->Sem Value) (r:R2):Prop:=
 ∀ (pins:List (Addr×Obj)) (s:Shared) (σ:St) (H:Hp) (x y:V) (v u:Value) (Q:VK),Inv X pins σ H s->RelV x v->RelV y u->r x y H Q ->
  wpAny (model X.prog X.w) X.A (f v u) (EP X pins σ Q) X.xe s
noncomputable def Ec (X:Cx) (f:Value->Sem Value) (r:V->Hp->VK->Prop):Prop:=
 ∀ (pins:List (Addr×Obj)) (s:Shared) (σ:St) (H:Hp) (x:V) (v:Value) (Q:VK),Inv X pins σ H s->RelV x v->r x H Q ->
  wpAny (model X.prog X.w) X.A (f v) (EP X pins σ Q) X.xe s
noncomputable def CallR (X:Cx) (f:Value) (r:List V->Hp->VK->Prop):Prop:=
 ∀ (pins:List (Addr×Obj)) (s:Shared) (σ:St) (H:Hp) (xs:List V) (us:List Value) (Q:VK),Inv X pins σ H s->Vals xs us->r xs H Q ->
  wpAny (model X.prog X.w) X.A (call f us) (EP X pins σ Q) X.xe s
noncomputable def B9 (r:R2) (ta tb:TE):TE:=fun σ H Q=>ta σ H fun x H1=>tb σ H1 fun y H2=>r x y H2 Q
noncomputable def GR (r:V->Hp->VK->Prop) (ta:TE):TE:=fun σ H Q=>ta σ H fun x H1=>r x H1 Q
noncomputable def rI (C:Int->Int->Prop) (g:Int->Int->V):R2:=fun x y H Q=>∃ i j,x=.int i/\y=.int j/\C i j/\Q (g i j) H
noncomputable def wI (g:Int->Int->V):R2:=fun x y H Q=>∃ i j,x=.int i/\y=.int j/\Q (g i j) H
noncomputable def rU (g:Int->V):V->Hp->VK->Prop:=fun x H Q=>∃ i,x=.int i/\Q (g i) H
section
variable {X:Cx} {a b c:Expr} {ta tb tc:TE} {pos:Pos}
theorem Bq (ha:PE X a ta) (hb:PE X b tb) {pins:List (Addr×Obj)} {s:Shared} {σ:St} {H:Hp} {R:V->V->Hp->Prop} (I:Inv X pins σ H s)
  (h:ta σ H fun x H1=>tb σ H1 fun y H2=>R x y H2) {Q:Value->Shared->Prop} {f:Value->Value->Sem Value}
  (hf:∀ v u s2 x y H2,Inv X pins σ H2 s2->RelV x v->RelV y u->R x y H2->wpAny (model X.prog X.w) X.A (f v u) Q X.xe s2) :
  wpAny (model X.prog X.w) X.A (eval a X.env) (fun v s₁=>wpAny (model X.prog X.w) X.A (eval b X.env) (fun u s₂=>wpAny (model X.prog X.w) X.A (f v u) Q X.xe s₂) X.xe s₁) X.xe s:=by
 refine bU (ha pins s σ H _ I h) fun v s1 ⟨x,H1,I1,r1,q1⟩=>?_
 refine bU (hb pins s1 σ H1 _ I1 q1) fun u s2 ⟨y,H2,I2,r2,q2⟩=>?_
 exact hf v u s2 x y H2 I2 r1 r2 q2
theorem CT {op:Operator} {r:R2} (ho:OpR X (binaryOp op) r) (ha:PE X a ta) (hb:PE X b tb):PE X (.BinOp a op b pos) (B9 r ta tb):=by
 intro pins s σ H Q I h
 exact wpAny_BinOp (Bq ha hb I h fun v u s2 x y H2 I2 rx ry q=>ho pins s2 σ H2 x y v u Q I2 rx ry q)
theorem CS {op:UnaryOp} {r:V->Hp->VK->Prop} (ho:Ec X (unaryOp op) r) (ha:PE X a ta):PE X (.UnaryOp op a pos) (GR r ta):=by
 intro pins s σ H Q I h
 exact UnaryOp_ (bU (ha pins s σ H _ I h) fun v s1 ⟨x,H1,I1,r1,q1⟩=>ho pins s1 σ H1 x v Q I1 r1 q1)
theorem BM {f:Value->Value->Sem Value} {C:Int->Int->Prop} {g:Int->Int->Int}
  (rule:∀ (i j:Int) (t u:Tok) (s:Shared) (Q:Value->Shared->Prop) (E:Value->Shared->Prop),C i j->Q (.int (g i j) s.toks) { s with toks:=s.toks+1 }->wpAny (model X.prog X.w) X.A (f (.int i t) (.int j u)) Q E s) :
  OpR X f (rI C fun i j=>.int (g i j)):=by
 intro pins s σ H x y v u Q I rx ry h
 obtain ⟨i,j,rfl,rfl,hc,q⟩:=h
 obtain ⟨t,rfl⟩:=rx
 obtain ⟨t',rfl⟩:=ry
 exact rule i j t t' s _ _ hc ⟨.int (g i j),H,I.tok _,⟨_,rfl⟩,q⟩
theorem xS {f:Value->Value->Sem Value} {g:Int->Int->Int}
  (rule:∀ (i j:Int) (t u:Tok) (s:Shared) (Q:Value->Shared->Prop) (E:Value->Shared->Prop),Q (.int (g i j) s.toks) { s with toks:=s.toks+1 }->wpAny (model X.prog X.w) X.A (f (.int i t) (.int j u)) Q E s) :
  OpR X f (wI fun i j=>.int (g i j)):=by
 intro pins s σ H x y v u Q I rx ry h
 obtain ⟨i,j,rfl,rfl,q⟩:=h
 obtain ⟨t,rfl⟩:=rx
 obtain ⟨t',rfl⟩:=ry
 exact rule i j t t' s _ _ ⟨.int (g i j),H,I.tok _,⟨_,rfl⟩,q⟩
theorem C4 {f:Value->Value->Sem Value} {g:Int->Int->Bool}
  (rule:∀ (i j:Int) (t u:Tok) (s:Shared) (Q:Value->Shared->Prop) (E:Value->Shared->Prop),Q (.bool (g i j)) s->wpAny (model X.prog X.w) X.A (f (.int i t) (.int j u)) Q E s) :
  OpR X f (wI fun i j=>.bl (g i j)):=by
 intro pins s σ H x y v u Q I rx ry h
 obtain ⟨i,j,rfl,rfl,q⟩:=h
 obtain ⟨t,rfl⟩:=rx
 obtain ⟨t',rfl⟩:=ry
 exact rule i j t t' s _ _ ⟨.bl (g i j),H,I,rfl,q⟩
noncomputable def F7 (i j:Int):Prop:=0<j/\j<1073741824
noncomputable def F6 (i j:Int):Prop:=0<=j/\j<=1000000/\i.natAbs<2 ^ 64
noncomputable def CMul (i j:Int):Prop:=(-(2 ^ 64)<i/\i<2 ^ 64)\/(-(2 ^ 64)<j/\j<2 ^ 64)
theorem CMul.ok {i j:Int} (h:CMul i j):IntMulOk i j:=by
 rcases h with ⟨h1,h2⟩ | ⟨h1,h2⟩
 ·exact .of_left (intBits_le_64 h1 h2)
 ·exact .of_right (intBits_le_64 h1 h2)
theorem qm (k:Nat):(0:Int)<=2 ^ k:=by
 rw [two_pow_cast]
 exact Int.natCast_nonneg _
theorem AI:OpR X (binaryOp .Add) (wI fun i j=>.int (i+j)):=xS fun _ _ _ _ _ _ _ q=>add_int q
theorem AD:OpR X (binaryOp .Sub) (wI fun i j=>.int (i-j)):=xS fun _ _ _ _ _ _ _ q=>sub_int q
theorem xQ:OpR X (binaryOp .FloorDiv) (rI F7 fun i j=>.int (i / j)):=BM fun i j _ _ _ _ _ hc q=>by
 have h1:(0:Int)<j:=hc.1
 have h2:j<1073741824:=hc.2
 exact floordiv_int (by omega) (by rw [Int.fdiv_eq_ediv_of_nonneg i (by omega)]; exact q) (.inl (PyProof.noPylong_small (by omega)))
theorem AG:OpR X (binaryOp .Mod) (rI (fun _ j=>0<j) fun i j=>.int (i % j)):=BM fun i j _ _ _ _ _ hc q=>by
 have h1:(0:Int)<j:=hc
 exact mod_int' (by omega) (by rw [Int.fmod_eq_emod_of_nonneg i (by omega)]; exact q)
theorem AF:OpR X (binaryOp .Pow) (rI F6 fun i j=>.int (i ^ j.toNat)):=BM fun _ _ _ _ _ _ _ hc q=>pow_int_small hc.1 hc.2.1 hc.2.2 q
theorem AE:OpR X (binaryOp .RShift) (rI (fun _ j=>0<=j) fun i j=>.int (i / 2 ^ j.toNat)):=BM fun i j _ _ _ _ _ hc q=>
 rshift_int hc (by rw [Int.fdiv_eq_ediv_of_nonneg i (qm _)]; exact q)
theorem AH:OpR X (binaryOp .BitAnd) (wI fun i j=>.int (Builtin.bitAnd i j)):=xS fun _ _ _ _ _ _ _ q=>and_int q
theorem AC:OpR X (binaryOp .BitXor) (wI fun i j=>.int (Builtin.bitXor i j)):=xS fun _ _ _ _ _ _ _ q=>xor_int q
theorem GO {f:Value->Sem Value} {g:Int->Int}
  (rule:∀ (i:Int) (t:Tok) (s:Shared) (Q:Value->Shared->Prop) (E:Value->Shared->Prop),Q (.int (g i) s.toks) { s with toks:=s.toks+1 }->wpAny (model X.prog X.w) X.A (f (.int i t)) Q E s) :
  Ec X f (rU fun i=>.int (g i)):=by
 intro pins s σ H x v Q I rx h
 obtain ⟨i,rfl,q⟩:=h
 obtain ⟨t,rfl⟩:=rx
 exact rule i t s _ _ ⟨.int (g i),H,I.tok _,⟨_,rfl⟩,q⟩
theorem zG:Ec X (unaryOp .USub) (rU fun i=>.int (-i)):=GO fun _ _ _ _ _ q=>neg_int q
end
section
variable {X:Cx} {a b c:Expr} {ta tb tc:TE} {pos:Pos}
theorem C1:OpR X (compareOp .Lt) (wI fun i j=>.bl (decide (i<j))):=C4 fun _ _ _ _ _ _ _ q=>lt_int q
theorem C3:OpR X (compareOp .Gt) (wI fun i j=>.bl (decide (j<i))):=C4 fun _ _ _ _ _ _ _ q=>gt_int q
theorem OpR.or {f:Value->Value->Sem Value} {r r':R2} (h:OpR X f r) (h':OpR X f r'):OpR X f (fun x y H Q=>r x y H Q\/r' x y H Q):=by
 intro pins s σ H x y v u Q I rx ry q
 rcases q with q | q
 ·exact h pins s σ H x y v u Q I rx ry q
 ·exact h' pins s σ H x y v u Q I rx ry q
theorem aG (b:Expr) {op:CmpOp} (h:op≠.In:=by decide) (h2:op≠.NotIn:=by decide):behindInMarks op b=false:=by
 have e1:(op==CmpOp.In)=false:=by cases op <;> first | rfl | exact absurd rfl h
 have e2:(op==CmpOp.NotIn)=false:=by cases op <;> first | rfl | exact absurd rfl h2
 cases b <;> simp [behindInMarks,e1,e2]
theorem xN {op:CmpOp} {r:R2} (ho:OpR X (compareOp op) r) (ha:PE X a ta) (hb:PE X b tb) (hm:behindInMarks op b=false):PE X (.Compare a [op] [b] pos) (B9 r ta tb):=by
 intro pins s σ H Q I h
 exact wpAny_Compare1 (Bq ha hb I h fun v u s2 x y H2 I2 rx ry q=>ho pins s2 σ H2 x y v u Q I2 rx ry q) hm
noncomputable def B6 (t:TE):TT:=fun σ H Q=>t σ H fun x H'=>∃ k,x=.bl k/\Q k H'
theorem xB {op:CmpOp} {r:R2} (ho:OpR X (compareOp op) r) (ha:PE X a ta) (hb:PE X b tb) (hm:behindInMarks op b=false):PT X (.Compare a [op] [b] pos) (B6 (B9 r ta tb)):=by
 intro pins s σ H Q I h
 refine wpAny_isTrue_Compare1 (bU (ha pins s σ H _ I h) fun v s1 ⟨x,H1,I1,r1,q1⟩=>bU (hb pins s1 σ H1 _ I1 q1) fun u s2 ⟨y,H2,I2,r2,q2⟩=>
  bU (ho pins s2 σ H2 x y v u _ I2 r1 r2 q2) fun c s3 ⟨z,H3,I3,r3,k,e,q3⟩=>?_) hm
 subst e
 cases r3
 exact wpAny_truthy_bool ⟨H3,I3,q3⟩
theorem qJ:(sizeLine:Nat)<2 ^ 63:=by rw [sizeLine_eq]; decide
theorem qE:OpR X (binaryOp .Add) (fun x y H Q=>∃ i j,x=.str i/\y=.str j/\i.length+j.length<=sizeLine/\Q (.str (i++j)) H):=by
 intro pins s σ H x y v u Q I rx ry h
 obtain ⟨i,j,rfl,rfl,hz,q⟩:=h
 obtain ⟨t,rfl⟩:=rx
 obtain ⟨t',rfl⟩:=ry
 exact add_str (fun t' tk=>⟨.str (i++j),H,I.tok _,⟨_,rfl⟩,q⟩) hz
theorem gr {x:V} {us:List Value} (r:Vals [x] us):∃ u,us=[u]/\RelV x u:=by
 cases r with
 | cons r1 r2=>cases r2; exact ⟨_,rfl,r1⟩
theorem oA {x y:V} {us:List Value} (r:Vals [x,y] us):∃ u w',us=[u,w']/\RelV x u/\RelV y w':=by
 cases r with
 | cons r1 r2=>
  cases r2 with
  | cons r3 r4=>cases r4; exact ⟨_,_,rfl,r1,r3⟩
theorem ul (hc:X.calm=true):CallR X (.builtin "min") (fun xs H Q=>∃ i j,xs=[.int i,.int j]/\Q (.int (if j<i then j else i)) H):=by
 intro pins s σ H xs us Q I r h
 obtain ⟨i,j,rfl,q⟩:=h
 obtain ⟨u,w',rfl,⟨t,rfl⟩,⟨t',rfl⟩⟩:=oA r
 refine min_two_ints (I.ok.hd hc) fun h' tk k=>⟨_,H,I.kept k,?_,q⟩
 by_cases hj:j<i
 ·rw [if_pos hj,if_pos hj]; exact ⟨_,rfl⟩
 ·rw [if_neg hj,if_neg hj]; exact ⟨_,rfl⟩
noncomputable def F5 (K:PySem.W.Frag) (x:V) (H:Hp) (n:Nat):Prop:=
 match x with
 | .str y=>y.length<=sizeLine/\n=y.length
 | .byt y=>y.size<=sizeLine/\n=y.size
 | .ref p=>(∃ xs,SqL K H p xs/\n=xs.length)\/∃ xs,SqT K H p xs/\n=xs.length
 | _=>False
theorem wk:CallR X (.builtin "len") (fun xs H Q=>∃ x n,xs=[x]/\F5 X.K x H n/\Q (.int n) H):=by
 intro pins s σ H xs us Q I r h
 obtain ⟨x,n,rfl,e,q⟩:=h
 obtain ⟨u,rfl,rx⟩:=gr r
 have hl:=qJ
 have hs:sizeLine=16777216:=sizeLine_eq
 cases x with
 | str y=>
  obtain ⟨t,rfl⟩:=rx
  obtain ⟨hy,e'⟩:y.length<=sizeLine/\n=y.length:=e
  subst e'
  exact len_str (by omega) ⟨.int _,H,I.tok _,⟨_,rfl⟩,q⟩
 | byt y=>
  obtain ⟨t,rfl⟩:=rx
  obtain ⟨hy,e'⟩:y.size<=sizeLine/\n=y.size:=e
  subst e'
  exact PySem.W.len_bytes (by omega) ⟨.int _,H,I.tok _,⟨_,rfl⟩,q⟩
 | ref p=>
  cases rx
  have e':(∃ xs,SqL X.K H p xs/\n=xs.length)\/∃ xs,SqT X.K H p xs/\n=xs.length:=e
  rcases e' with ⟨xs,hx,e'⟩ | ⟨xs,hx,e'⟩
  ·subst e'
   obtain ⟨its,r',pl,hz⟩:=I.list hx
   have hlen:=r'.length
   exact Calls.call_len_list pl.isList (by simp only [List.size_toArray]; omega) ⟨.int xs.length,H,I.tok _,⟨_,by simp only [List.size_toArray]; rw [hlen]⟩,q⟩
  ·subst e'
   obtain ⟨its,r',pl,hz⟩:=I.tuple hx
   have hlen:=r'.length
   exact len_tuple pl (by simp only [List.size_toArray]; omega) ⟨.int xs.length,H,I.tok _,⟨_,by simp only [List.size_toArray]; rw [hlen]⟩,q⟩
 | _=>exact (show False from e).elim
end
end L2
namespace L2
open PySem PySem.Spec PyProof.Rows
structure ObjM (h:Heap) (x dx C:Addr) (mA:Str->Option Value):Prop where
 obj:h.get? x=some (PySem.W.instObj C dx)
 ns:h.Ns1 dx mA
 ne:dx≠x
theorem tP {h:Heap} {dx:Addr} {mA:Str->Option Value} (n:h.Ns1 dx mA):∃ od,h.get? dx=some od/\∀ name,PySem.W.lookIn name od=some (mA name):=by
 obtain ⟨o,es,ep,ho,hd,hk,_,hm⟩:=n
 refine ⟨o,ho,fun name=>?_⟩
 have e:=hm name
 unfold nsFind findBy at e
 rw [<- Array.find?_toList] at e
 unfold PySem.W.lookIn
 rw [hd]
 dsimp only
 split
 ·rename_i y q
  rw [q] at e
  exact congrArg some e
 ·rename_i q
  rw [q] at e
  have a:es.toList.any (·.refKey)=false:=by
   rw [List.any_eq_false]
   intro y hy
   obtain ⟨z,t,hkey⟩:=hk y (Array.mem_toList_iff.mp hy)
   simp [DictEntry.refKey,hkey]
  have a':¬ es.toList.any (·.refKey)=true:=by rw [a]; exact Bool.false_ne_true
  rw [if_neg a']
  exact congrArg some e
theorem ObjM.look {h:Heap} {x dx C:Addr} {mA:Str->Option Value} (I:ObjM h x dx C mA):∃ od,PySem.W.InstAt h x (PySem.W.instObj C dx) C (some od)/\∀ name,PySem.W.lookIn name od=some (mA name):=
 let ⟨od,ho,hl⟩:=tP I.ns
 ⟨od,⟨I.obj,rfl,rfl,ho⟩,hl⟩
section
variable {prog:Program} {w:World} {A:Around} {E:Value->Shared->Prop} {s:Shared} {K:PySem.W.Frag} {x dx C f:Addr} {mA:Str->Option Value} {name:Str} {v:Value}
end
theorem RelO.some_of {v:V} {o:Option Value} (r:RelO (some v) o):∃ u,o=some u/\RelV v u:=by
 cases o with
 | none=>exact (show False from r).elim
 | some u=>exact ⟨u,rfl,r⟩
section
variable {P:Program} {w:World} {H H':Hp} {h h':Heap} {a C dx:Addr} {fs fs':List (Str×V)}
theorem yk (hok:HOk P w H h) (e:H a=some (.ins C dx fs)):∃ mA,ObjM h a dx C mA/\(∀ f,RelO (fs.lookup f) (mA f))/\PySem.Within mA (fs.map (·.1))/\fs.length<=1000/\H dx=some (.own a):=by
 obtain ⟨d,z,ne,ob,mA,n,r,q⟩:=(show ObjOk P w H h a (.ins C dx fs) from hok a _ e)
 exact ⟨mA,⟨ob,n,ne⟩,r,q,z,d⟩
end
structure Cls (K:PySem.W.Frag) (C:Addr):Prop where
 pg:PySem.W.plainGet K C Str.empty=true
 hd:PySem.W.hasDictIn K C=true
 po:PySem.W.plainOver K C=true
 sa:PySem.W.findIn K (.ref C) "__setattr__" = some (some (.builtin "object.__setattr__"))
theorem Cls.get {K:PySem.W.Frag} {C:Addr} (c:Cls K C) (f:Str):PySem.W.plainGet K C f=true:=c.pg
structure Con (K:PySem.W.Frag) (C:Addr) (f:Str) (v:V) (u:Value):Prop where
 at_:PySem.W.findIn K (.ref C) f=some (some u)
 rel:RelV v u
 get:PySem.W.specialIn K u "__get__" = some none
 cp:PySem.W.copiedNames.contains f=false
structure Meth (K:PySem.W.Frag) (C:Addr) (m:Str) (f:Addr):Prop where
 at_:PySem.W.findIn K (.ref C) m=some (some (.ref f))
 fn:PySem.W.isFn K (.ref f)=true
 kp:PySem.W.keepIn K (.ref f)=true
section
variable {X:Cx} {pins:List (Addr×Obj)} {σ:St} {H:Hp} {s:Shared} {a C dx:Addr} {fs:List (Str×V)} {f:Str} {v:V} {A:Around} {E:Value->Shared->Prop}
theorem Inv.made (I:Inv X pins σ H s):Inv X pins σ (upd (upd H s.heap.objs.size (.own (s.heap.objs.size+1))) (s.heap.objs.size+1) (.ins C s.heap.objs.size []))
  { s with heap:=(s.heap.push PySem.W.emptyDict).push (PySem.W.instObj C s.heap.objs.size) }:=by
 have e1:(s.heap.push PySem.W.emptyDict).get? s.heap.objs.size=some PySem.W.emptyDict:=Heap.get?_push_size s.heap rfl
 have e2:((s.heap.push PySem.W.emptyDict).push (PySem.W.instObj C s.heap.objs.size)).get? (s.heap.objs.size+1)=some (PySem.W.instObj C s.heap.objs.size):=by
  have:=Heap.get?_push_size (s.heap.push PySem.W.emptyDict) (o:=PySem.W.instObj C s.heap.objs.size) rfl
  rwa [Heap.size_push] at this
 have e3:(s.heap.push PySem.W.emptyDict).Ns s.heap.objs.size (fun _=>none):=⟨PySem.W.emptyDict,#[],_,e1,rfl,(fun e he=>absurd he (by simp)),fun _=>rfl⟩
 have I1:=I.laid (a:=s.heap.objs.size) (o:=.own (s.heap.objs.size+1)) (h':=s.heap.push PySem.W.emptyDict) (t':=s.toks) (fun b u q=>Heap.get?_push_of_some _ q) (Nat.le_refl _) ⟨_,e1⟩
 refine I1.laid (a:=s.heap.objs.size+1) (o:=.ins C s.heap.objs.size []) (t':=s.toks) (fun b u q=>Heap.get?_push_of_some _ q) (Nat.le_of_eq (Heap.size_push _ _)) ?_
 have ne:s.heap.objs.size≠s.heap.objs.size+1:=Nat.ne_of_lt (Nat.lt_succ_self _)
 refine ⟨by rw [ar ne,aw],Nat.zero_le _,ne,e2,fun _=>none,(Heap.Ns1.of_empty e3).at fun o q=>Heap.get?_push_of_some _ q,fun _=>True.intro,fun y hy=>absurd rfl hy⟩
end
section
variable {X:Cx} {o e value:Expr} {f:Str} {pos pos' tpos:Pos} {ta tv:TE}
end
section
variable {X:Cx} {pins:List (Addr×Obj)} {σ:St} {H:Hp} {s:Shared} {A:Around} {E:Value->Shared->Prop} {Q:Value->Shared->Prop} {c:Value} {b:Bool}
inductive TyOf (K:PySem.W.Frag) (H:Hp):V->Value->Prop where
 | non:TyOf K H .non (.type "NoneType")
 | bl (x:Bool):TyOf K H (.bl x) (.type "bool")
 | int (i:Int):TyOf K H (.int i) (.type "int")
 | str (x:Str):TyOf K H (.str x) (.type "str")
 | flt (x:UInt64):TyOf K H (.flt x) (.type "float")
 | lst {a:Addr} {xs:List V} (e:H a=some (.lst xs)):TyOf K H (.ref a) (.type "list")
 | frz {a:Addr} {o:Obj} {xs:List V} (e:H a=some (.frz o (.lst xs))):TyOf K H (.ref a) (.type "list")
 | tup {a:Addr} {xs:List V} (e:H a=some (.tup xs)):TyOf K H (.ref a) (.type "tuple")
 | dK {a:Addr} {kvs:List (ay×V)} (e:H a=some (.dK kvs)):TyOf K H (.ref a) (.type "dict")
 | dT {a:Addr} {kvs:List (List ay×V)} (e:H a=some (.dT kvs)):TyOf K H (.ref a) (.type "dict")
 | ins {a C dx:Addr} {fs:List (Str×V)} (e:H a=some (.ins C dx fs)) (cl:Cls K C) (ha:PySem.W.findIn K (.ref C) "__class__" = some (some (.builtin "object.__class__")))
   (hn:PySem.W.specialIn K (.builtin "object.__class__") "__get__" = some (some (.builtin "getset_descriptor.__get__"))) (htk:PySem.W.takesIn K (.builtin "object.__class__")=some true)
   (hm:PySem.W.mroIn K C (.type "object")=some true):TyOf K H (.ref a) (.ref C)
theorem gj {x:V} {u t:Value} (I:Inv X pins σ H s) (rx:RelV x u) (ty:TyOf X.K H x t) (e:PySem.W.kitOne X.K t c=some b) (h:∀ tk,Q (.bool b) { s with toks:=tk }) :
  wpAny (model X.prog X.w) A (call (.builtin "isinstance") [u,c]) Q E s:=by
 cases ty with
 | non=>cases (show u=Value.none from rx); exact PySem.W.kia_one PySem.W.kitx_none I.kIn True.intro e (fun z=>nomatch z) h
 | bl y=>cases (show u=Value.bool y from rx); exact PySem.W.kia_one PySem.W.kitx_bool I.kIn True.intro e (fun z=>nomatch z) h
 | int i=>obtain ⟨t,q⟩:=(show ∃ t,u=Value.int i t from rx); cases q; exact PySem.W.kia_one PySem.W.kitx_int I.kIn True.intro e (fun z=>nomatch z) h
 | str y=>obtain ⟨t,q⟩:=(show ∃ t,u=Value.str y t from rx); cases q; exact PySem.W.kia_one PySem.W.kitx_str I.kIn True.intro e (fun z=>nomatch z) h
 | flt y=>obtain ⟨t,q⟩:=(show ∃ t,u=Value.float y t from rx); cases q; exact PySem.W.kia_one PySem.W.kitx_float I.kIn True.intro e (fun z=>nomatch z) h
 | @lst a xs ea=>
  cases (show u=Value.ref a from rx)
  obtain ⟨_,_,n,_,h1⟩:=(show ObjOk X.prog X.w H s.heap a (.lst xs) from I.hok a _ ea)
  exact PySem.W.kia_one PySem.W.kitx_list I.kIn ⟨_,h1,rfl⟩ e (fun z=>nomatch z) h
 | @frz a ob xs ea=>
  cases (show u=Value.ref a from rx)
  obtain ⟨_,_,_,n,_,h1⟩:=(show ObjOk X.prog X.w H s.heap a (.frz ob (.lst xs)) from I.hok a _ ea)
  exact PySem.W.kia_one PySem.W.kitx_list I.kIn ⟨_,h1,rfl⟩ e (fun z=>nomatch z) h
 | @tup a xs ea=>
  cases (show u=Value.ref a from rx)
  obtain ⟨_,_,_,p⟩:=(show ObjOk X.prog X.w H s.heap a (.tup xs) from I.hok a _ ea)
  obtain ⟨o,h1,h2,_⟩:=p.1
  exact PySem.W.kia_one PySem.W.kitx_tuple I.kIn ⟨o,h1,h2⟩ e (fun z=>nomatch z) h
 | @dK a kvs ea=>
  cases (show u=Value.ref a from rx)
  obtain ⟨_,_,vs,_,p⟩:=(show ObjOk X.prog X.w H s.heap a (.dK kvs) from I.hok a _ ea)
  obtain ⟨o,es,ep,h1,h2,_⟩:=p
  exact PySem.W.kia_one PySem.W.kitx_dict I.kIn ⟨o,h1,h2.1⟩ e (fun z=>nomatch z) h
 | @dT a kvs ea=>
  cases (show u=Value.ref a from rx)
  obtain ⟨_,_,xs,_,o,es,ep,h1,h2,_⟩:=(show ObjOk X.prog X.w H s.heap a (.dT kvs) from I.hok a _ ea)
  exact PySem.W.kia_one PySem.W.kitx_dict I.kIn ⟨o,h1,h2.1⟩ e (fun z=>nomatch z) h
 | @ins a C dx fs ea cl ha hn htk hm=>
  cases (show u=Value.ref a from rx)
  obtain ⟨mA,O,_⟩:=yk I.hok ea
  obtain ⟨od,J,_⟩:=O.look
  exact PySem.W.kia_one (PySem.W.kitx_own (cl.get _) cl.hd ha hn htk hm) I.kIn J e (fun z=>nomatch z) h
end
end L2
namespace L2
open PySem PySem.Spec PyProof.Rows
structure Room (k:Nat) (A:Around):Prop where
 hd:A.handled=none
 dp:A.depth+3*k+5<recursionLimit
 un:A.units+16*k+200<cLine
theorem Room.mono {j k:Nat} {A:Around} (r:Room k A) (h:j<=k):Room j A:=⟨r.hd,by have:=r.dp; omega,by have:=r.un; omega⟩
theorem Room.deeper {k:Nat} {A:Around} (r:Room (k+1) A) (env:Env):Room k (A.deeper env):=
 ⟨r.hd,by have:=r.dp; show A.depth+1+3*k+5<_; omega,by have:=r.un; show A.units+3+16*k+200<_; omega⟩
theorem Room.in1 {k:Nat} {A:Around} (r:Room (k+1) A):Room k A.in1:=
 ⟨r.hd,by have:=r.dp; show A.depth+3*k+5<_; omega,by have:=r.un; show A.units+1+16*k+200<_; omega⟩
theorem Room.depth {k:Nat} {A:Around} (r:Room k A):A.depth<recursionLimit:=by have:=r.dp; omega
theorem Room.units {k:Nat} {A:Around} (r:Room k A):A.units+64<cLine:=by have:=r.un; omega
noncomputable def EQ:TA:=fun _ H Q=>Q [] H
noncomputable def Cg (ta:TE) (tr:TA):TA:=fun σ H Q=>ta σ H fun x H1=>tr σ H1 fun xs H2=>Q (x::xs) H2
section
variable {X:Cx} {e:Expr} {es:List Expr} {te:TE} {t:TA} {pos:Pos}
theorem dl:PA X [] EQ:=fun _ _ _ _ H Q I h=>Calls.spliced_nil ⟨[],H,I,.nil,h⟩
theorem bE (ha:PE X e te) (hr:PA X es t) (hs:starEach (e::es) X.env=(false,eval e X.env)::starEach es X.env:=by rfl):PA X (e::es) (Cg te t):=by
 intro pos pins s σ H Q I h
 rw [hs]
 show wpAny _ _ (spliced ((false,eval e X.env)::backTo pos (starEach es X.env))) _ _ s
 refine Calls.spliced_cons (bU (ha pins s σ H _ I h) fun u s1 ⟨x,H1,I1,r1,q1⟩=>?_)
 exact bU (hr pos pins s1 σ H1 _ I1 q1) fun us s2 ⟨xs,H2,I2,r2,q2⟩=>⟨x::xs,H2,I2,.cons r1 r2,q2⟩
noncomputable def EL (t:TA):TE:=fun σ H Q=>t σ H fun xs H1=>xs.length<=sizeLine/\∀ p,H1 p=none->Q (.ref p) (upd H1 p (.tup xs))
noncomputable def ER (t:TA):TE:=fun σ H Q=>t σ H fun xs H1=>xs.length<=sizeLine/\∀ p,H1 p=none->Q (.ref p) (upd H1 p (.lst xs))
theorem Au {x1} (h:PA X es t):PE X (.Tuple es x1 pos) (EL t):=by
 intro pins s σ H Q I hq
 refine wpAny_Tuple_spliced (bU (h pos pins s σ H _ I hq) fun us s1 ⟨xs,H1,I1,r,z,q⟩=>⟨by rw [<- r.length]; exact z,?_⟩)
 have hf:H1 s1.heap.objs.size=none:=I1.hok.fresh (Nat.le_refl _)
 refine ⟨.ref s1.heap.objs.size,upd H1 s1.heap.objs.size (.tup xs),I1.laid (t':=s1.toks) (fun b u e=>Heap.get?_push_of_some _ e) (Nat.le_refl _) ?_,rfl,q _ hf⟩
 exact ⟨z,us,r,⟨_,Heap.get?_push_size _ rfl,rfl,_,rfl⟩,NoDi.new _ _⟩
theorem u9 (h:PA X es t):PE X (.List es pos) (ER t):=by
 intro pins s σ H Q I hq
 refine wpAny_List_spliced (bU (h pos pins s σ H _ I hq) fun us s1 ⟨xs,H1,I1,r,z,q⟩=>⟨by rw [<- r.length]; exact z,?_⟩)
 have hf:H1 s1.heap.objs.size=none:=I1.hok.fresh (Nat.le_refl _)
 refine ⟨.ref s1.heap.objs.size,upd H1 s1.heap.objs.size (.lst xs),I1.laid (t':=s1.toks) (fun b u e=>Heap.get?_push_of_some _ e) (Nat.le_refl _) ?_,rfl,q _ hf⟩
 exact ⟨z,us,0,r,Heap.get?_push_size _ rfl⟩
end
noncomputable abbrev Sp:=List V->Hp->VK->XK->Prop
noncomputable abbrev qi:=List Env->Hp->Shared->XK->Value->Shared->Prop
structure Env0 (P:Program) (w:World) (K:PySem.W.Frag) (mg:Str->Option Value) (base:Heap) (A:Around) (outer:List Env) (s:Shared) (H:Hp):Prop where
 frames:A.frames=some outer
 mod:Mod K mg base
 bs:∀ b o,base.get? b=some o->s.heap.get? b=some o/\H b=none
 bsz:base.objs.size<=s.heap.objs.size
 funs:s.heap.FunFrames base outer
 frf:∀ b∈fT outer,H b=none
 hok:HOk P w H s.heap
 bare:AllBare s.gens
noncomputable def CE (outer:List Env) (P:Program) (w:World) (H:Hp) (s:Shared) (Q:VK) (u:Value) (s':Shared):Prop:=
 ∃ v H',s'.os=s.os/\AllBare s'.gens/\Un (fT outer) [] H H' s.heap s'.heap/\HOk P w H' s'.heap/\RelV v u/\Q v H'
noncomputable def CR (CX:qi) (outer:List Env) (P:Program) (w:World) (H:Hp) (s:Shared) (Q:VK) (E:XK) (r:Result) (s':Shared):Prop:=
 match r with
 | .ok (.ret u)=>CE outer P w H s Q u s'
 | .ok _=>False
 | .error e=>CX outer H s E e s'
structure FnOk (P:Program) (w:World) (K:PySem.W.Frag) (mg:Str->Option Value) (base:Heap) (CX:qi) (k:Nat) (f:Addr) (fd:FuncData) (ps:List Str) (sp:Sp):Prop where
 len:∀ vs H Q E,sp vs H Q E->vs.length=ps.length
 run:∀ (A:Around) (outer:List Env) (s:Shared) (H:Hp) (args:Args) (us:List Value) (vs:List V) (Q:VK) (E:XK),Room k A->Env0 P w K mg base A outer s H->BindsTo s fd args (ps.zip us)->Vals vs us->sp vs H Q E ->
  codeAny (model P w) A (.call (.ref f) args) (CR CX outer P w H s Q E) s
theorem FnOk.mono {P:Program} {w:World} {K:PySem.W.Frag} {mg:Str->Option Value} {base:Heap} {CX:qi} {j k:Nat} {f:Addr} {fd:FuncData} {ps:List Str} {sp:Sp} (F:FnOk P w K mg base CX j f fd ps sp) (h:j<=k) :
  FnOk P w K mg base CX k f fd ps sp:=⟨F.len,fun A outer s H args us vs Q E hr=>F.run A outer s H args us vs Q E (hr.mono h)⟩
theorem FnOk.imp {P:Program} {w:World} {K:PySem.W.Frag} {mg:Str->Option Value} {base:Heap} {CX:qi} {k:Nat} {f:Addr} {fd:FuncData} {ps:List Str} {sp sp':Sp} (F:FnOk P w K mg base CX k f fd ps sp)
  (h:∀ vs H Q E,sp' vs H Q E->sp vs H Q E):FnOk P w K mg base CX k f fd ps sp':=
 ⟨fun vs H Q E q=>F.len vs H Q E (h _ _ _ _ q),fun A outer s H args us vs Q E hr he hb hv hs=>F.run A outer s H args us vs Q E hr he hb hv (h _ _ _ _ hs)⟩
theorem Env0.in1 {P:Program} {w:World} {K:PySem.W.Frag} {mg:Str->Option Value} {base:Heap} {A:Around} {outer:List Env} {s:Shared} {H:Hp} (e:Env0 P w K mg base A outer s H) :
  Env0 P w K mg base A.in1 outer s H:=⟨e.frames,e.mod,e.bs,e.bsz,e.funs,e.frf,e.hok,e.bare⟩
section
variable {X:Cx} {pins:List (Addr×Obj)} {σ:St} {H:Hp} {s s':Shared}
theorem Inv.env0 (I:Inv X pins σ H s):Env0 X.prog X.w X.K X.mg X.base X.A X.stack s H:=
 ⟨I.ok.frames,I.ok.mod,I.bs,Nat.le_trans I.ok.bsz I.sz,I.stack,I.stkFree,I.hok,I.bare⟩
theorem Inv.after {Q:VK} {u:Value} (I:Inv X pins σ H s) (h:CE X.stack X.prog X.w H s Q u s'):EP X pins σ Q u s':=by
 obtain ⟨v,H',os,bare,un,hok,r,q⟩:=h
 obtain ⟨hh,g,d,t,os'⟩:=s'
 obtain rfl:os'=s.os:=os
 exact ⟨v,H',I.call (h':=hh) (g':=g) (d':=d) (t':=t) (ch:=[]) un hok bare (fun b z=>absurd z (by simp)),r,q⟩
end
noncomputable def Ch (sp:Sp) (dvs:List V) (E:XK) (t:TA):TE:=fun σ H Q=>t σ H fun vs H1=>sp (vs++dvs) H1 Q E
noncomputable def Binds (K:PySem.W.Frag) (fd:FuncData) (ps:List Str) (ds:List Value):Prop:=
 ∀ (s:Shared) (us:List Value),K.In s.heap->(us++ds).length=ps.length->BindsTo s fd ⟨us,[]⟩ (ps.zip (us++ds))
theorem Binds.all {K:PySem.W.Frag} {fd:FuncData} {ps:List Str} (h:∀ us:List Value,us.length=ps.length->bindArgs fd ⟨us,[]⟩=pure (ps.zip us)):Binds K fd ps []:=fun s us _ hl=>by
 rw [List.append_nil] at hl ⊢
 exact .of_eq (h us hl)
noncomputable def ou (CX:qi) (X:Cx) (E:XK):Prop:=∀ (pins:List (Addr×Obj)) (σ:St) (H:Hp) (s:Shared) (e:Value) (s':Shared),Inv X pins σ H s->CX X.stack H s E e s'->X.xe e s'
section
variable {X:Cx} {CX:qi} {k:Nat} {f C:Addr} {fd:FuncData} {ps:List Str} {sp:Sp} {dvs:List V} {ds:List Value} {E:XK} {x m:Str} {p pos apos:Pos} {e o:Expr} {es:List Expr} {ta:TE} {t:TA}
theorem Ag {pins:List (Addr×Obj)} {σ:St} {H:Hp} {s:Shared} {Q:VK} {us:List Value} {vs:List V} (F:FnOk X.prog X.w X.K X.mg X.base CX k f fd ps sp) (hr:Room k X.A) (hb:Binds X.K fd ps ds) (hd:Vals dvs ds) (hx:ou CX X E)
  (I:Inv X pins σ H s) (r:Vals vs us) (h:sp (vs++dvs) H Q E):wpAny (model X.prog X.w) X.A (call (.ref f) us) (EP X pins σ Q) X.xe s:=by
 have r2:Vals (vs++dvs) (us++ds):=r.append hd
 have hl:(us++ds).length=ps.length:=by rw [<- r2.length]; exact F.len _ _ _ _ h
 refine wpAny_call (codeAny_mono (F.run X.A X.stack s H ⟨us,[]⟩ (us++ds) (vs++dvs) Q E hr I.env0 (hb s us I.kIn hl) r2 h) fun r s' hq=>?_)
 cases r with
 | error e=>exact hx pins σ H s e s' I hq
 | ok fl=>
  cases fl with
  | ret u=>exact I.after hq
  | next=>exact False.elim hq
  | brk=>exact False.elim hq
  | cont=>exact False.elim hq
theorem rO (F:FnOk X.prog X.w X.K X.mg X.base CX k f fd ps sp) (hr:Room k X.A) (hg:Gl X x) (hm:X.mg x=some (.ref f)) (hk:PySem.W.keepIn X.K (.ref f)=true) (hb:Binds X.K fd ps ds) (hd:Vals dvs ds) (hx:ou CX X E)
  (ha:PA X (e::es) t) (hdb:(x==("__debug__":Str))=false:=by decide) (he:starEach (e::es) X.env=(false,eval e X.env)::starEach es X.env:=by rfl) (hpl:(backTo pos (starEach es X.env)).any (·.1)=false:=by rfl) :
  PE X (.Call (.Name x p) (e::es) [] pos) (Ch sp dvs E t):=by
 intro pins s σ H Q I h
 refine wpAny_Call_Name_kw (im I hg hm ?_ hdb)
 refine PySem.W.callWith_K (h₀:=X.base) I.ok.mod.kin hk (bU (ha pos pins s σ H _ I h) fun us s1 ⟨vs,H1,I1,r,q⟩=>⟨I1.kIn,?_⟩) he hpl
 exact Ag F hr hb hd hx I1 r q
structure Mk (K:PySem.W.Frag) (C f:Addr):Prop where
 makes:PySem.W.makesIn K C=true
 init:PySem.W.findIn K (.ref C) "__init__" = some (some (.ref f))
 fn:PySem.W.isFn K (.ref f)=true
 kp:PySem.W.keepIn K (.ref C)=true
end
section
variable {X:Cx} {CX:qi} {k:Nat} {f C:Addr} {fd:FuncData} {ps ks:List Str} {sp:Sp} {E:XK} {x m:Str} {p pos apos kpos:Pos} {e o:Expr} {es:List Expr} {kws:List Keyword} {te ta:TE} {t tk:TA} {nm:Option Str}
structure KBinds (K:PySem.W.Frag) (fd:FuncData) (ps ks:List Str) (g:List Value->List Value->List Value) (gV:List V->List V->List V):Prop where
 to:∀ (s:Shared) (us ws:List Value),K.In s.heap->(g us ws).length=ps.length->BindsTo s fd ⟨us,ks.zip ws⟩ (ps.zip (g us ws))
 rel:∀ {vs:List V} {us:List Value} {zs:List V} {ws:List Value},Vals vs us->Vals zs ws->Vals (gV vs zs) (g us ws)
variable {g:List Value->List Value->List Value} {gV:List V->List V->List V}
end
structure FnScope (N P:List Str) (sc:Scope):Prop where
 kind:sc.kind=.function
 co:sc.isCoroutine=false
 gen:sc.isGenerator=false
 nd:N.Nodup
 pre:N.take P.length=P
 par:∀ x∈P,sc.names.lookup x=some .local\/sc.names.lookup x=some .cell
 nofree:∀ y∈sc.names,y.2≠.free
theorem mT {kindOf:Str->Option NameKind} {x:Str}:∀ {binds:List (Str×Value)} {m:Str->Option Value},(∀ v,(x,v) ∉ binds)->bindL kindOf binds m x=m x
 | [],_,_=>rfl
 | (n,v)::r,m,h=>by
  unfold bindL
  rw [mT fun w hw=>h w (List.mem_cons_of_mem _ hw)]
  split
  ·have:x≠n:=by rintro rfl; exact h v List.mem_cons_self
   simp [this]
  ·rfl
theorem mV {kindOf:Str->Option NameKind} {x:Str}:∀ {binds:List (Str×Value)} {m:Str->Option Value},(∀ v,(x,v) ∉ binds)->bindC kindOf binds m x=m x
 | [],_,_=>rfl
 | (n,v)::r,m,h=>by
  unfold bindC
  rw [mV fun w hw=>h w (List.mem_cons_of_mem _ hw)]
  split
  ·rfl
  ·have:x≠n:=by rintro rfl; exact h v List.mem_cons_self
   simp [this]
theorem mU {kindOf:Str->Option NameKind} {x:Str} {v:Value}:∀ {P:List Str} {vs:List Value} {i:Nat} {m:Str->Option Value},P.Nodup->P[i]? = some x->vs[i]? = some v->kindOf x=some .local ->
  bindL kindOf (P.zip vs) m x=some v
 | [],_,_,_,_,h,_,_=>by simp at h
 | _::_,[],_,_,_,_,h,_=>by simp at h
 | p::P,w::vs,0,m,nd,h1,h2,hk=>by
  simp at h1 h2; subst h1; subst h2
  show bindL kindOf ((p,w)::P.zip vs) m p=_
  unfold bindL
  rw [mT fun v hv=>(List.nodup_cons.mp nd).1 (List.of_mem_zip hv).1,if_pos hk]
  simp
 | p::P,w::vs,i+1,m,nd,h1,h2,hk=>by
  show bindL kindOf ((p,w)::P.zip vs) m x=_
  unfold bindL
  exact mU (i:=i) (List.nodup_cons.mp nd).2 (by simpa using h1) (by simpa using h2) hk
theorem mW {kindOf:Str->Option NameKind} {x:Str} {v:Value}:∀ {P:List Str} {vs:List Value} {i:Nat} {m:Str->Option Value},P.Nodup->P[i]? = some x->vs[i]? = some v->kindOf x≠some .local ->
  bindC kindOf (P.zip vs) m x=some v
 | [],_,_,_,_,h,_,_=>by simp at h
 | _::_,[],_,_,_,_,h,_=>by simp at h
 | p::P,w::vs,0,m,nd,h1,h2,hk=>by
  simp at h1 h2; subst h1; subst h2
  show bindC kindOf ((p,w)::P.zip vs) m p=_
  unfold bindC
  rw [mV fun v hv=>(List.nodup_cons.mp nd).1 (List.of_mem_zip hv).1,if_neg hk]
  simp
 | p::P,w::vs,i+1,m,nd,h1,h2,hk=>by
  show bindC kindOf ((p,w)::P.zip vs) m x=_
  unfold bindC
  exact mW (i:=i) (List.nodup_cons.mp nd).2 (by simpa using h1) (by simpa using h2) hk
noncomputable def start (N:List Str) (vs:List V):St:=vs.map some++List.replicate (N.length-vs.length) none
noncomputable def d7 (CX:qi) (P:Program) (w:World) (K:PySem.W.Frag) (mg:Str->Option Value) (base:Heap) (N:List Str) (qual:Str) (scope:Scope) (f:Addr) (cd:Value) (A:Around) (outer:List Env) (s:Shared) (H:Hp) (E:XK):Cx where
 prog:=P
 w:=w
 K:=K
 mg:=mg
 base:=base
 A:=A.deeper (envOfC qual scope s.heap.objs.size f cd)
 N:=N
 s₀:=s
 H₀:=H
 env:=envOfC qual scope s.heap.objs.size f cd
 outer:=outer
 stack:=envOfC qual scope s.heap.objs.size f cd::outer
 ex:=[]
 calm:=true
 fn:=fun _=>true
 pn:=[]
 xe:=fun e s'=>wpAny (model P w) (A.deeper (envOfC qual scope s.heap.objs.size f cd)) (leaving (envOfC qual scope s.heap.objs.size f cd) e) (fun _ s''=>CX outer H s E e s'') (fun e' s''=>CX outer H s E e' s'') s'
theorem qb {sc:Scope} {n:Nat} {x:Str} (h:sc.names.lookup x=some .cell):∃ c,(cellsFrom n sc.names []).lookup x=some c:=by
 have q:=PySem.W.cellsFrom_some sc.names n [] (.inl h)
 exact Option.isSome_iff_exists.mp q
theorem tW {CX:qi} {P:Program} {w:World} {K:PySem.W.Frag} {mg:Str->Option Value} {base:Heap} {N ps:List Str} {qual:Str} {scope:Scope} {f:Addr} {cd:Value} {A:Around} {outer:List Env} {s s1:Shared} {H:Hp} {E:XK} {us:List Value} {vs:List V}
  (S:FnScope N ps scope) (hd:A.handled=none) (e0:Env0 P w K mg base A outer s H) (hl:vs.length=ps.length) (r:Vals vs us)
  (x:InCallC s s.heap.objs.size (bindL (envOfC qual scope s.heap.objs.size f cd).kindOf (ps.zip us) fun _=>none) (cellsFrom (s.heap.objs.size+1) scope.names []) (bindC (envOfC qual scope s.heap.objs.size f cd).kindOf (ps.zip us) fun _=>none) s1) :
  Inv (d7 CX P w K mg base N qual scope f cd A outer s H E) [] (start N vs) H s1:=by
 have hpl:ps.length<=N.length:=by have:=congrArg List.length S.pre; rw [List.length_take] at this; omega
 obtain ⟨h1,tk,rfl,hk⟩:=x.done
 have noA:∀ b:Addr,b ∉ (d7 CX P w K mg base N qual scope f cd A outer s H E).ex:=fun b z=>absurd (show b∈([]:List Addr) from z) (by simp)
 refine ⟨⟨e0.mod,S.kind,rfl,rfl,Nat.le_refl _,fun y z c h1 h2=>?_,fun y hy=>?_,fun y c _ h=>?_,fun _=>hd,Around.frames_deeper e0.frames,.inr ⟨rfl,rfl⟩,fun b z=>absurd z (noA b),e0.bs,e0.bsz,fun b _ _=>noA b,fun b z=>absurd z (noA b),e0.funs,e0.frf⟩,
  rfl,e0.bare,Un.kept hk,⟨_,x.toInCall.ns,fun i y v h1 h2 h3=>?_⟩,fun y c h=>⟨_,x.cell y c h⟩,e0.hok.fresh (Nat.le_refl _),fun y c h=>?_,fun p hp=>absurd (show p∈([]:List (Addr×Obj)) from hp) (by simp),e0.hok.kept hk,?_⟩
 ·exact name_of_addr x.apart (PySem.mem_of_lookup h1) (PySem.mem_of_lookup h2)
 ·have hy:scope.names.lookup y=some .cell\/scope.names.lookup y=some .free:=hy
  rcases hy with hy | hy
  ·exact qb hy
  ·exact absurd rfl (S.nofree _ (PySem.mem_of_lookup hy))
 ·exact Nat.le_of_lt (x.above y c (PySem.mem_of_lookup h))
 ·have hi:i<vs.length:=by
   unfold start at h2
   by_cases hi:i<vs.length
   ·exact hi
   ·rw [List.getElem?_append_right (by simpa using hi)] at h2
    rw [List.getElem?_replicate] at h2
    split at h2 <;> cases h2
  have ha:vs[i]? = some v:=by
   unfold start at h2
   rw [List.getElem?_append_left (by simpa using hi),List.getElem?_map] at h2
   cases e:vs[i]? with
   | none=>rw [e] at h2; cases h2
   | some a=>rw [e] at h2; cases h2; rfl
  obtain ⟨u,hu,rv⟩:=r.get ha
  have hp:ps[i]? = some y:=by
   rw [<- S.pre,List.getElem?_take_of_lt (by omega)]; exact h1
  have ndP:ps.Nodup:=by rw [<- S.pre]; exact S.nd.sublist (List.take_sublist _ _)
  refine ⟨u,rv,?_⟩
  rcases S.par y (List.mem_of_getElem? hp) with k | k
  ·exact .inl ⟨k,mU ndP hp hu k⟩
  ·obtain ⟨c,e⟩:=qb (n:=s.heap.objs.size+1) k
   refine .inr ⟨.inl k,c,e,?_⟩
   have q:=x.cell y c e
   rw [mW ndP hp hu (by show scope.names.lookup y≠_; rw [k]; decide)] at q
   exact q
 ·exact e0.hok.fresh (Nat.le_of_lt (x.above y c (PySem.mem_of_lookup h)))
 ·unfold start
  show _=N.length
  rw [List.length_append,List.length_map,List.length_replicate]
  omega
theorem sx {CX:qi} {P:Program} {w:World} {K:PySem.W.Frag} {mg:Str->Option Value} {base:Heap} {k:Nat} {f:Addr} {name qual:Str} {params:Arguments} {body:List Stmt} {scope:Scope} {dV kV doc pm cdv ct oc:Value} {an od:Option Addr}
  {osl:Array (Option Value)} {N ps:List Str} {sp:Sp} (lk:K.lookup f=some ⟨oc,od,.func (PySem.W.fnOf name qual params body scope dV kV doc pm an cdv ct),osl⟩) (hcd:PySem.W.codeIn K cdv qual=true) (S:FnScope N ps scope)
  (len:∀ vs H Q E,sp vs H Q E->vs.length=ps.length)
  (hbody:∀ (A:Around) (outer:List Env) (s:Shared) (H:Hp) (vs:List V) (Q:VK) (E:XK),Room k (A.deeper (envOfC qual scope s.heap.objs.size f cdv))->sp vs H Q E ->
   ∃ t,PSs (d7 CX P w K mg base N qual scope f cdv A outer s H E) body t/\t { nx:=fun _ H'=>Q .non H',rt:=Q } (start N vs) H) :
  FnOk P w K mg base CX (k+1) f (PySem.W.fnOf name qual params body scope dV kV doc pm an cdv ct) ps sp:=by
 refine ⟨len,fun A outer s H args us vs Q E hr e0 hb r hsp=>?_⟩
 have hl:=len _ _ _ _ hsp
 have KX:K.In s.heap:=e0.mod.kin.keeps fun b o e=>(e0.bs b o e).1
 have lim:s.heap.NoLimit:=e0.mod.nolimit.keeps fun b o e=>(e0.bs b o e).1
 have hkind:∀ y∈ps.zip us,scope.names.lookup y.1=some .local\/(scope.names.lookup y.1=some .cell/\((cellsFrom (s.heap.objs.size+1) scope.names []).lookup y.1).isSome=true):=fun ⟨n,v⟩ hy=>by
  rcases S.par n (List.of_mem_zip hy).1 with q | q
  ·exact .inl q
  ·exact .inr ⟨q,PySem.W.cellsFrom_some _ _ _ (.inl q)⟩
 refine codeAny_call_function hr.depth (KX _ _ lk) rfl S.co S.gen rfl (PySem.W.codeRec_of KX hcd) (hb _ _ _ _ ?_)
 refine wpAny_newFunctionEnv_cells S.kind hkind fun env he s1 x=>?_
 subst he
 refine ⟨lim.keeps x.toInCall.keep,codeAny_func ?_⟩
 obtain ⟨t,ht,hq⟩:=hbody A outer s H vs Q E (hr.deeper _) hsp
 have I:Inv (d7 CX P w K mg base N qual scope f cdv A outer s H E) [] (start N vs) H s1:=tW S hr.hd e0 hl r x
 refine wpAny_mono (ht [] s1 (start N vs) H _ I hq) (fun fl s' hs=>?_) fun e s' hs=>hs
 have fin:∀ {σ':St} {H':Hp} {v:V} {u:Value},Inv (d7 CX P w K mg base N qual scope f cdv A outer s H E) [] σ' H' s'->RelV v u->Q v H'->CE outer P w H s Q u s':=
  fun {σ' H' v u} J rv q=>⟨v,H',J.os,J.bare,J.base,J.hok,rv,q⟩
 cases fl with
 | ret u=>
  obtain ⟨v,σ',H',J,rv,q⟩:=hs
  exact fin J rv q
 | next=>
  obtain ⟨σ',H',J,q⟩:=hs
  exact fin (v:=V.non) (u:=Value.none) J rfl q
 | brk=>
  obtain ⟨_,_,_,q⟩:=hs
  exact False.elim q
 | cont=>
  obtain ⟨_,_,_,q⟩:=hs
  exact False.elim q
end L2
namespace L2
open PySem PySem.Spec PyProof.Rows
section
variable {X:Cx} {x:Str} {p pos:Pos} {e:Expr} {es:List Expr} {t:TA} {id T:String} {r:List V->Hp->VK->Prop}
noncomputable def Gr (r:List V->Hp->VK->Prop) (t:TA):TE:=fun σ H Q=>t σ H fun vs H1=>r vs H1 Q
theorem dR (hc:CallR X (.builtin id) r) (hg:Gl X x) (hm:X.mg x=none) (hv:bootBuiltins x=some (.builtin id)) (ha:PA X (e::es) t) (hn:x ≠ "__name__":=by decide) (hdb:(x==("__debug__":Str))=false:=by decide)
  (he:starEach (e::es) X.env=(false,eval e X.env)::starEach es X.env:=by rfl) (hpl:(backTo pos (starEach es X.env)).any (·.1)=false:=by rfl):PE X (.Call (.Name x p) (e::es) [] pos) (Gr r t):=by
 intro pins s σ H Q I h
 refine wpAny_Call_Name_kw (fh I hg hm hv ?_ hn hdb)
 exact PyProof.Rows.callWith_builtin1 (bU (ha pos pins s σ H _ I h) fun us s1 ⟨vs,H1,I1,r1,q1⟩=>hc pins s1 σ H1 vs us Q I1 r1 q1) he hpl
theorem mn (hc:CallR X (.type T) r) (hg:Gl X x) (hm:X.mg x=none) (hv:bootBuiltins x=some (.type T)) (ha:PA X (e::es) t) (hn:x ≠ "__name__":=by decide) (hdb:(x==("__debug__":Str))=false:=by decide)
  (he:starEach (e::es) X.env=(false,eval e X.env)::starEach es X.env:=by rfl) (hpl:(backTo pos (starEach es X.env)).any (·.1)=false:=by rfl):PE X (.Call (.Name x p) (e::es) [] pos) (Gr r t):=by
 intro pins s σ H Q I h
 refine wpAny_Call_Name_kw (fh I hg hm hv ?_ hn hdb)
 exact PyProof.Rows.callWith_type1 (bU (ha pos pins s σ H _ I h) fun us s1 ⟨vs,H1,I1,r1,q1⟩=>hc pins s1 σ H1 vs us Q I1 r1 q1) he hpl
end
end L2
namespace HT
open PySem PyProof.Rows
section
open PySem.SeqAt
open PySem.AutoSeq1 (wpAny_loadPart')
open PySem.MeetsSeq PySem.MeetsSeq2 PySem.MeetsSeq3
end
section
variable {prog:Program} {w:World} {A:Around} {E:Value->Shared->Prop} {s:Shared}
theorem yC {t b:Addr} {vs ws:List Value} {Q:Value->Shared->Prop} (ht:IsTup s.heap t vs.toArray) (hb:IsTup s.heap b ws.toArray) (hv:vs≠[])
  (h1:ws=[]->Q (.ref t) s) (h2:ws≠[]->Q (.ref s.heap.objs.size) { s with heap:=s.heap.push { cls:=.type "tuple",data:=.seq (vs++ws).toArray } })
  (hsz:vs.length+ws.length<=sizeLine):wpAny (model prog w) A (binaryOp .Add (.ref t) (.ref b)) Q E s:=by
 obtain ⟨⟨cls,dd,data,sl⟩,ho,hc,n,hd⟩:=id ht
 obtain ⟨⟨cls2,dd2,data2,sl2⟩,ho2,hc2,n2,hd2⟩:=id hb
 simp only at hc hd hc2 hd2
 subst hc hd hc2 hd2
 have e:vs.toArray++ws.toArray=(vs++ws).toArray:=by simp
 by_cases hw:ws=[]
 ·exact concat_meets ⟨_,ho,rfl⟩ ⟨_,ho2,rfl⟩ noFill_tuple_add seq_tuple_add PySem.F.slot_tuple_add PySem.F.entry_tuple_add (PySem.F.args_tuple_add_2 _ _)
   (tuple_addW1 t b vs.toArray ws.toArray n n2 dd dd2 sl sl2 (by simpa using hv) (by simp [hw])) ⟨ho,ho2,h1 hw⟩
 ·refine concat_meets ⟨_,ho,rfl⟩ ⟨_,ho2,rfl⟩ noFill_tuple_add seq_tuple_add PySem.F.slot_tuple_add PySem.F.entry_tuple_add (PySem.F.args_tuple_add_2 _ _)
   (tuple_addW2 t b vs.toArray ws.toArray n n2 dd dd2 sl sl2 (by simpa using hv) (by simpa using hw) (by rw [List.size_toArray,List.size_toArray]; exact hsz)) ⟨ho,ho2,?_⟩
  rw [e]
  exact h2 hw
noncomputable def sIx (n d:Nat):Option Int->Nat
 | none=>d
 | some v=>if v<0 then (v+(n:Int)).toNat else min v.toNat n
theorem Af (n d:Nat) (hd:d<=n) (o:Option Int):sIx n d o<=n:=by
 cases o with
 | none=>exact hd
 | some v=>
  show (if v<0 then (v+(n:Int)).toNat else min v.toNat n)<=n
  by_cases hv:v<0
  ·rw [if_pos hv]; omega
  ·rw [if_neg hv]; exact Nat.min_le_right _ _
theorem sF (v:Int) (n d:Nat):(if v<0 then max (v+(n:Int)) 0 else min v (n:Int))=((sIx n d (some v):Nat):Int):=by
 show (if v<0 then max (v+(n:Int)) 0 else min v (n:Int))=(((if v<0 then (v+(n:Int)).toNat else min v.toNat n):Nat):Int)
 by_cases hv:v<0
 ·simp only [if_pos hv]; omega
 ·simp only [if_neg hv]; omega
theorem re (lo hi:Option Int) (n:Nat):Builtin.Slice.sliceAdjust lo hi 1 (n:Int)=(((sIx n 0 lo:Nat):Int),((sIx n n hi:Nat):Int)):=by
 have h1:¬ ((1:Int)<0):=by omega
 unfold Builtin.Slice.sliceAdjust
 simp only [h1,if_false]
 refine Prod.ext ?_ ?_
 ·cases lo with
  | none=>rfl
  | some v=>exact sF v n 0
 ·cases hi with
  | none=>rfl
  | some v=>exact sF v n n
theorem qC (i j:Nat):Builtin.Slice.slicePlaces (i:Int) (j:Int) 1=j-i:=by
 unfold Builtin.Slice.slicePlaces
 have h1:(1:Int)>0:=by omega
 simp only [h1,if_true,Int.ediv_one]
 split <;> omega
theorem jZ {v:Value} {o:Option Int} {Q:Option Int->Shared->Prop} (p:IsPart v o) (h:Q o s):wpAny (model prog w) A (Builtin.Slice.slicePartIndex v) Q E s:=by
 cases p with
 | none=>exact slicePart_none h
 | int i t=>exact slicePart_int h
theorem eJ {sl:Addr} {vl vu:Value} {lo hi:Option Int} {n:Nat} {Q:Int×Int×Nat->Shared->Prop} (hs:s.heap.IsSliceOf sl vl vu .none) (pl:IsPart vl lo) (pu:IsPart vu hi)
  (h:Q (((sIx n 0 lo:Nat):Int),1,sIx n n hi-sIx n 0 lo) s):wpAny (model prog w) A (Builtin.Slice.sliceApplied (.ref sl) (pure (n:Int))) Q E s:=by
 obtain ⟨os,hos,hcs,hds⟩:=id hs
 unfold Builtin.Slice.sliceApplied Builtin.Slice.sliceFields
 refine wpAny_bind (wpAny_bind (wpAny_field hos hds (x:=vl) rfl (wpAny_bind (wpAny_field hos hds (x:=vu) rfl (wpAny_bind (wpAny_field hos hds (x:=.none) rfl (wpAny_pure ?_)))))))
 refine wpAny_bind (slicePart_none ?_)
 show wpAny _ _ (if ((1:Int)==0)=true then _ else _) _ _ s
 rw [if_neg (by decide)]
 refine wpAny_bind (jZ pl (wpAny_bind (jZ pu (wpAny_bind (wpAny_pure ?_)))))
 show wpAny _ _ (match Builtin.Slice.sliceAdjust lo hi 1 (n:Int) with | (lo,hi)=>pure (lo,(1:Int),Builtin.Slice.slicePlaces lo hi 1)) _ _ s
 rw [re lo hi n]
 show wpAny _ _ (pure (((sIx n 0 lo:Nat):Int),(1:Int),Builtin.Slice.slicePlaces ((sIx n 0 lo:Nat):Int) ((sIx n n hi:Nat):Int) 1)) _ _ s
 rw [qC]
 exact wpAny_pure h
theorem u6 (xs:Array Value) (i k:Nat):((List.range k).filterMap fun (m:Nat)=>xs[((i:Int)+(m:Int)*1).toNat]?).toArray=((xs.toList.drop i).take k).toArray:=by
 have e:(fun (m:Nat)=>xs[((i:Int)+(m:Int)*1).toNat]?)=fun m=>xs[i+m]?:=by
  funext m
  have:((i:Int)+(m:Int)*1).toNat=i+m:=by omega
  rw [this]
 rw [e]
 have:=pick_run xs i k
 rw [List.filterMap_map] at this
 have e2:((fun x=>xs[x]?) ∘ fun x=>i+x)=fun m=>xs[i+m]?:=rfl
 rw [e2] at this
 rw [this]
theorem iu {t sl:Addr} {items:Array Value} {vl vu:Value} {lo hi:Option Int} {Q:Value->Shared->Prop} (ht:IsTup s.heap t items) (hs:s.heap.IsSliceOf sl vl vu .none) (pl:IsPart vl lo) (pu:IsPart vu hi)
  (hw:¬ (sIx items.size 0 lo=0/\sIx items.size items.size hi=items.size))
  (h:Q (.ref s.heap.objs.size) { s with heap:=s.heap.push { cls:=.type "tuple",data:=.seq ((items.toList.drop (sIx items.size 0 lo)).take (sIx items.size items.size hi-sIx items.size 0 lo)).toArray } })
  (hsz:items.size<=sizeLine):wpAny (model prog w) A (getItem (.ref t) (.ref sl)) Q E s:=by
 have htake:sizeOk (.seq ((items.toList.drop (sIx items.size 0 lo)).take (sIx items.size items.size hi-sIx items.size 0 lo)).toArray):=by
  show ((items.toList.drop (sIx items.size 0 lo)).take (sIx items.size items.size hi-sIx items.size 0 lo)).toArray.size<=sizeLine
  rw [List.size_toArray,List.length_take,List.length_drop,Array.length_toList]
  omega
 have hj:sIx items.size items.size hi<=items.size:=Af _ _ (Nat.le_refl _) hi
 obtain ⟨os,hos,hcs,hds⟩:=id hs
 have hTs:s.TypeIs (.ref sl) "slice":=⟨os,hos,hcs⟩
 unfold getItem
 try with_reducible refine wpAny_holding ?_
 first | refine wpAny_bind (wpAny_pure ?_) | skip
 refine wpAny_bind (wpAny_sequenceKey ht.typeIs (by decide) ?_)
 refine wpAny_bind (wpAny_callSpecial?_slot (name:=Str.ofString "__getitem__") ht.typeIs PyProof.Rows.slot_tuple_getitem
  (wpAny_call_entry PyProof.Rows.slot_tuple_getitem ht.typeIs entry_tuple_getitem ?_ (args_tuple_getitem _ _)))
 show wpAny _ _ (Builtin.Tuple.tupleItemsOf (.ref t) >>= _) _ _ s
 refine wpAny_bind (tupleItemsOf_ ht ?_)
 refine wpAny_bind (wpAny_typeOf hTs ?_)
 rw [if_pos (by decide)]
 refine wpAny_bind (eJ hs pl pu ?_)
 have hno:¬ ((((sIx items.size 0 lo:Nat):Int)==0&&(1:Int)==1&&(sIx items.size items.size hi-sIx items.size 0 lo)==items.size)=true):=by
  intro q
  rw [Bool.and_eq_true,Bool.and_eq_true] at q
  have q1:((sIx items.size 0 lo:Nat):Int)=0:=eq_of_beq q.1.1
  have q2:sIx items.size items.size hi-sIx items.size 0 lo=items.size:=eq_of_beq q.2
  exact hw ⟨by omega,by omega⟩
 show wpAny _ _ (if (((sIx items.size 0 lo:Nat):Int)==0&&(1:Int)==1&&(sIx items.size items.size hi-sIx items.size 0 lo)==items.size)=true then _ else _) _ _ s
 rw [if_neg hno,u6]
 first
  | exact wpAny_bind (m:=Builtin.Tuple.tupleExact _) (wpAny_newObj_type (wpAny_pure ⟨_,rfl,wpAny_pure h⟩) htake)
  | exact wpAny_bind (m:=Builtin.Tuple.tupleExact _) (wpAny_newObj_type (wpAny_bind (wpAny_pure (wpAny_pure ⟨_,rfl,wpAny_pure h⟩))) htake)
  | exact wpAny_bind (wpAny_bind (m:=Builtin.Tuple.tupleExact _) (wpAny_newObj_type (wpAny_pure (wpAny_pure ⟨_,rfl,wpAny_pure h⟩)) htake))
  | exact wpAny_bind (wpAny_bind (m:=Builtin.Tuple.tupleExact _) (wpAny_newObj_type (wpAny_pure ⟨_,rfl,wpAny_pure h⟩) htake))
end
end HT
namespace L2
open PySem PySem.Spec PyProof.Rows
noncomputable abbrev TO:=St->Hp->(Option Int->Hp->Prop)->Prop
noncomputable def PO (X:Cx) (e:Option Expr) (t:TO):Prop:=
 ∀ (pins:List (Addr×Obj)) (s:Shared) (σ:St) (H:Hp) (Q:Option Int->Hp->Prop),Inv X pins σ H s->t σ H Q ->
  wpAny (model X.prog X.w) X.A (evalPart e X.env) (fun u s'=>∃ o H',Inv X pins σ H' s'/\IsPart u o/\Q o H') X.xe s
noncomputable def B8 (t:TE):TO:=fun σ H Q=>t σ H fun x H1=>∃ i,x=.int i/\Q (some i) H1
section
variable {X:Cx} {e:Expr} {te:TE} {lo hi:Option Expr} {tl th:TO} {pos p2:Pos}
theorem xD (h:PE X e te):PO X (some e) (B8 te):=by
 intro pins s σ H Q I hw
 rw [evalPart_some]
 refine bU (h pins s σ H _ I hw) fun u s1 ⟨x,H1,I1,r1,q1⟩=>?_
 obtain ⟨i,rfl,q⟩:=q1
 obtain ⟨t,rfl⟩:=r1
 exact ⟨some i,H1,I1,.int i t,q⟩
noncomputable def SlR (X:Cx) (r:V->Option Int->Option Int->Hp->VK->Prop):Prop:=
 ∀ (pins:List (Addr×Obj)) (s:Shared) (σ:St) (H:Hp) (x:V) (v vl vu:Value) (lo hi:Option Int) (sl:Addr) (Q:VK),Inv X pins σ H s->RelV x v->s.heap.IsSliceOf sl vl vu .none->IsPart vl lo->IsPart vu hi->r x lo hi H Q ->
  ∃ T id,typeLookup (.type T) "__getitem__" = pure (some (.builtin id))/\s.TypeIs v T/\wpAny (model X.prog X.w) X.A (getItem v (.ref sl)) (EP X pins σ Q) X.xe s
theorem SlR.or {r r':V->Option Int->Option Int->Hp->VK->Prop} (h:SlR X r) (h':SlR X r'):SlR X (fun x lo hi H Q=>r x lo hi H Q\/r' x lo hi H Q):=by
 intro pins s σ H x v vl vu lo hi sl Q I rx hs pl pu q
 rcases q with q | q
 ·exact h pins s σ H x v vl vu lo hi sl Q I rx hs pl pu q
 ·exact h' pins s σ H x v vl vu lo hi sl Q I rx hs pl pu q
noncomputable def GT (r:V->Option Int->Option Int->Hp->VK->Prop) (te:TE) (tl th:TO):TE:=fun σ H Q=>te σ H fun x H1=>tl σ H1 fun l H2=>th σ H2 fun u H3=>r x l u H3 Q
theorem u8 {r:V->Option Int->Option Int->Hp->VK->Prop} (hr:SlR X r) (he:PE X e te) (hl:PO X lo tl) (hu:PO X hi th):PE X (.Subscript e (.Slice lo hi none p2) pos) (GT r te tl th):=by
 intro pins s σ H Q I h
 refine Subscript_ (bU (he pins s σ H _ I h) fun v s1 ⟨x,H1,I1,r1,q1⟩=>?_)
 refine wpAny_Slice (bU (hl pins s1 σ H1 _ I1 q1) fun vl s2 ⟨l,H2,I2,pl,q2⟩=>bU (hu pins s2 σ H2 _ I2 q2) fun vu s3 ⟨u,H3,I3,pu,q3⟩=>?_)
 rw [evalPart_none]
 refine wpAny_pure ?_
 have I4:Inv X pins σ H3 { s3 with heap:=s3.heap.push { cls:=.type "slice",data:=.fields #[vl,vu,.none] } }:=I3.kept (t':=s3.toks) fun b ob q=>Heap.get?_push_of_some _ q
 obtain ⟨T,id,hT,ht,hg⟩:=hr pins { s3 with heap:=s3.heap.push { cls:=.type "slice",data:=.fields #[vl,vu,.none] } } σ H3 x v vl vu l u s3.heap.objs.size Q I4 r1 (Heap.IsSliceOf.new ..) pl pu q3
 show wpAny (model X.prog X.w) X.A (subscriptTail e (.Slice lo hi none p2) v (.ref s3.heap.objs.size)) (EP X pins σ Q) X.xe { s3 with heap:=s3.heap.push { cls:=.type "slice",data:=.fields #[vl,vu,.none] } }
 exact tail_any (ops:=[.ref s3.heap.objs.size,v]) ht hT hg (by with_unfolding_all rfl)
noncomputable def lP (xs:List V) (lo hi:Option Int):List V:=(xs.drop (HT.sIx xs.length 0 lo)).take (HT.sIx xs.length xs.length hi-HT.sIx xs.length 0 lo)
theorem jp (xs:List V) (lo hi:Option Int):(lP xs lo hi).length<=xs.length:=by
 unfold lP
 rw [List.length_take,List.length_drop]
 omega
noncomputable def E9 (K:PySem.W.Frag):V->Option Int->Option Int->Hp->VK->Prop:=fun x lo hi H Q=>∃ a xs,x=.ref a/\SqT K H a xs /\
 ¬ (HT.sIx xs.length 0 lo=0/\HT.sIx xs.length xs.length hi=xs.length)/\∀ p,H p=none->Q (.ref p) (upd H p (.tup (lP xs lo hi)))
theorem sl_tup:SlR X (E9 X.K):=by
 intro pins s σ H x v vl vu lo hi sl Q I rx hs pl pu h
 obtain ⟨a,xs,rfl,hx,hw,q⟩:=h
 cases rx
 obtain ⟨its,r,ht,hz⟩:=I.tuple hx
 have hlen:its.toArray.size=xs.length:=by rw [List.size_toArray]; exact r.length.symm
 refine ⟨"tuple",_,PyProof.Rows.slot_tuple_getitem.lookup,ht.typeIs,?_⟩
 refine HT.iu ht hs pl pu (by rw [hlen]; exact hw) ?_ (by rw [hlen]; exact hz)
 rw [hlen]
 refine ⟨.ref s.heap.objs.size,_,I.laid (t':=s.toks) (o:=.tup (lP xs lo hi)) (fun b ob q=>Heap.get?_push_of_some _ q) (Nat.le_refl _) ?_,rfl,q _ (I.hok.fresh (Nat.le_refl _))⟩
 exact ⟨Nat.le_trans (jp xs lo hi) hz,_,(r.drop (HT.sIx xs.length 0 lo)).take (HT.sIx xs.length xs.length hi-HT.sIx xs.length 0 lo),IsTup.new _ _,NoDi.new _ _⟩
noncomputable def CL (K:PySem.W.Frag):R2:=fun x y H Q=>∃ a b xs ys,x=.ref a/\y=.ref b/\SqT K H a xs/\SqT K H b ys/\xs≠[]/\xs.length+ys.length<=sizeLine /\
 (ys=[]->Q (.ref a) H)/\(ys≠[]->∀ p,H p=none->Q (.ref p) (upd H p (.tup (xs++ys))))
theorem Vals.nil_iff {xs:List V} {us:List Value} (r:Vals xs us):us=[]↔xs=[]:=by
 cases r with
 | nil=>simp
 | cons _ _=>simp
theorem xR:OpR X (binaryOp .Add) (CL X.K):=by
 intro pins s σ H x y v u Q I rx ry h
 obtain ⟨a,b,xs,ys,rfl,rfl,ha,hb,hx,hz,q1,q2⟩:=h
 cases rx
 cases ry
 obtain ⟨its,r1,p1,_⟩:=I.tuple ha
 obtain ⟨its2,r2,p2,_⟩:=I.tuple hb
 refine HT.yC p1 p2 (fun z=>hx (r1.nil_iff.mp z)) (fun z=>⟨.ref a,H,I,rfl,q1 (r2.nil_iff.mp z)⟩) (fun z=>?_) (by rw [<- r1.length,<- r2.length]; exact hz)
 refine ⟨.ref s.heap.objs.size,_,I.laid (t':=s.toks) (o:=.tup (xs++ys)) (fun b ob q=>Heap.get?_push_of_some _ q) (Nat.le_refl _) ?_,rfl,q2 (fun w=>z (r2.nil_iff.mpr w)) _ (I.hok.fresh (Nat.le_refl _))⟩
 exact ⟨by rw [List.length_append]; exact hz,_,r1.append r2,IsTup.new _ _,NoDi.new _ _⟩
end
end L2
namespace L2
open PySem PySem.Spec PyProof.Rows
noncomputable def Ba (n:Nat) (i:Int):Option Nat:=if 0<=i then (if i<n then some i.toNat else none) else if -(n:Int)<=i then some (i+n).toNat else none
noncomputable def jr {α:Type} (xs:List α) (i:Int):Option α:=(Ba xs.length i).bind fun j=>xs[j]?
theorem ye {n:Nat} {i:Int} {j:Nat} (h:Ba n i=some j):seqIndex? i n=some j/\j<n /\ -(n:Int)<=i/\i<n:=by
 unfold Ba at h
 by_cases h0:0<=i
 ·rw [if_pos h0] at h
  by_cases h1:i<n
  ·rw [if_pos h1] at h
   have e:i.toNat=j:=Option.some.inj h
   exact ⟨by rw [seqIndex_of h0 h1,e],by omega,by omega,h1⟩
  ·rw [if_neg h1] at h; cases h
 ·rw [if_neg h0] at h
  by_cases h1:-(n:Int)<=i
  ·rw [if_pos h1] at h
   have e:(i+n).toNat=j:=Option.some.inj h
   exact ⟨by rw [seqIndex_neg (by omega) h1,e],by omega,h1,by omega⟩
  ·rw [if_neg h1] at h; cases h
theorem sK {α:Type} {xs:List α} {i:Int} {v:α} (h:jr xs i=some v):∃ j,seqIndex? i xs.length=some j/\xs[j]? = some v/\j<xs.length /\ -(xs.length:Int)<=i/\i<xs.length:=by
 unfold jr at h
 cases e:Ba xs.length i with
 | none=>rw [e] at h; cases h
 | some j=>
  rw [e] at h
  obtain ⟨h1,h2,h3,h4⟩:=ye e
  exact ⟨j,h1,h,h2,h3,h4⟩
noncomputable def sO (b:Expr):Prop:=∀ o i,subscripted b false o i=operate [o,i] (getItem o i)
noncomputable def IxR (X:Cx) (r:R2):Prop:=
 ∀ (value slice:Expr) (pins:List (Addr×Obj)) (s:Shared) (σ:St) (H:Hp) (x y:V) (v u:Value) (Q:VK),Inv X pins σ H s->RelV x v->RelV y u->r x y H Q ->
  subscripted slice false v u=operate [v,u] (getItem v u)->wpAny (model X.prog X.w) X.A (subscriptTail value slice v u) (EP X pins σ Q) X.xe s
noncomputable def MtR (X:Cx) (id:String) (r:V->List V->Hp->VK->Prop):Prop:=
 ∀ (pins:List (Addr×Obj)) (s:Shared) (σ:St) (H:Hp) (x:V) (xs:List V) (v:Value) (us:List Value) (Q:VK),Inv X pins σ H s->RelV x v->Vals xs us->r x xs H Q ->
  wpAny (model X.prog X.w) X.A (call (.builtin id) (v::us)) (EP X pins σ Q) X.xe s
section
variable {X:Cx} {a b:Expr} {ta tb:TE} {pos:Pos}
theorem IxR.or {r r':R2} (h:IxR X r) (h':IxR X r'):IxR X (fun x y H Q=>r x y H Q\/r' x y H Q):=by
 intro value slice pins s σ H x y v u Q I rx ry q hs
 rcases q with q | q
 ·exact h value slice pins s σ H x y v u Q I rx ry q hs
 ·exact h' value slice pins s σ H x y v u Q I rx ry q hs
theorem MtR.or {id:String} {r r':V->List V->Hp->VK->Prop} (h:MtR X id r) (h':MtR X id r'):MtR X id (fun x xs H Q=>r x xs H Q\/r' x xs H Q):=by
 intro pins s σ H x xs v us Q I rx rs q
 rcases q with q | q
 ·exact h pins s σ H x xs v us Q I rx rs q
 ·exact h' pins s σ H x xs v us Q I rx rs q
theorem CU {r:R2} (hr:IxR X r) (ha:PE X a ta) (hb:PE X b tb) (hs:sO b):PE X (.Subscript a b pos) (B9 r ta tb):=by
 intro pins s σ H Q I h
 exact Subscript_ (Bq ha hb I h fun v u s2 x y H2 I2 rx ry q=>hr a b pins s2 σ H2 x y v u Q I2 rx ry q (hs _ _))
noncomputable def Fc (K:PySem.W.Frag):R2:=fun x y H Q=>∃ p xs i v,x=.ref p/\y=.int i/\SqL K H p xs/\jr xs i=some v/\Q v H
noncomputable def Fb (K:PySem.W.Frag):R2:=fun x y H Q=>∃ p xs i v,x=.ref p/\y=.int i/\SqT K H p xs/\jr xs i=some v/\Q v H
theorem ix_list:IxR X (Fc X.K):=by
 intro value slice pins s σ H x y v u Q I rx ry h hs
 obtain ⟨p,xs,i,z,rfl,rfl,hq,he,q⟩:=h
 cases rx
 obtain ⟨t,rfl⟩:=ry
 obtain ⟨its,r,pl,hz⟩:=I.list hq
 obtain ⟨j,h1,h2,h3,h4,h5⟩:=sK he
 obtain ⟨w,ew,rw'⟩:=r.get h2
 have hl:=r.length
 have hn:=qJ
 have fin:EP X pins σ Q w s:=⟨z,H,I,rw',q⟩
 by_cases h0:0<=i
 ·have hj:i.toNat=j:=by
   rw [seqIndex_of h0 h5] at h1
   exact Option.some.inj h1
  exact item_listR pl.isList h0 (by omega) (by rw [hj]; simpa using ew) fin hs
 ·have hj:(i+(its.toArray.size:Int)).toNat=j:=by
   rw [seqIndex_neg (by omega) h4] at h1
   rw [List.size_toArray,<- hl]
   exact Option.some.inj h1
  exact subscriptTail_builtinR (x:=w) pl.isList.typeIs slot_list_getitem.lookup
   (wpAny_getItem_list_neg (Q:=fun r s'=>r=w/\EP X pins σ Q r s') pl.isList (by omega) (by rw [List.size_toArray] <;> omega) (by omega) (by rw [hj]; simpa using ew) ⟨rfl,fin⟩) hs
theorem A9:IxR X (Fb X.K):=by
 intro value slice pins s σ H x y v u Q I rx ry h hs
 obtain ⟨p,xs,i,z,rfl,rfl,hq,he,q⟩:=h
 cases rx
 obtain ⟨t,rfl⟩:=ry
 obtain ⟨its,r,pl,hz⟩:=I.tuple hq
 obtain ⟨j,h1,h2,h3,h4,h5⟩:=sK he
 obtain ⟨w,ew,rw'⟩:=r.get h2
 have hl:=r.length
 have hn:=qJ
 have fin:EP X pins σ Q w s:=⟨z,H,I,rw',q⟩
 exact subscriptTail_builtinR (x:=w) pl.typeIs slot_tuple_getitem.lookup
  (getItem_tuple (j:=j) (Q:=fun r s'=>r=w/\EP X pins σ Q r s') pl (by omega) (by omega) (by rw [List.size_toArray,<- hl]; exact h1) (by simpa using ew) ⟨rfl,fin⟩) hs
theorem Inv.lst {pins:List (Addr×Obj)} {σ:St} {H:Hp} {s:Shared} {p:Addr} {xs:List V} (I:Inv X pins σ H s) (h:H p=some (.lst xs)) :
  ∃ (its:List Value) (n:Nat),Vals xs its/\s.heap.get? p=some { cls:=.type "list",data:=.seq its.toArray n }/\xs.length<=sizeLine:=by
 obtain ⟨z,its,n,r,e⟩:=I.hok p _ h
 exact ⟨its,n,r,e,z⟩
theorem nc (lo hi:Option Int) (n:Nat):(sliceBounds lo hi none n).1=((HT.sIx n 0 lo:Nat):Int)/\(sliceBounds lo hi none n).2.1=((HT.sIx n n hi:Nat):Int)/\(sliceBounds lo hi none n).2.2=1:=by
 refine ⟨?_,?_,rfl⟩
 ·cases lo with
  | none=>simp [sliceBounds,HT.sIx]
  | some i=>
   simp only [sliceBounds,HT.sIx,Option.getD_none,show (1:Int)>0 by decide,if_true]
   by_cases h:i<0
   ·simp only [h,if_true] <;> omega
   ·simp only [h,if_false] <;> omega
 ·cases hi with
  | none=>simp [sliceBounds,HT.sIx]
  | some i=>
   simp only [sliceBounds,HT.sIx,Option.getD_none,show (1:Int)>0 by decide,if_true]
   by_cases h:i<0
   ·simp only [h,if_true] <;> omega
   ·simp only [h,if_false] <;> omega
theorem lv (its:List Value) (lo hi:Option Int):slicePick its.toArray lo hi none=((its.drop (HT.sIx its.length 0 lo)).take (HT.sIx its.length its.length hi-HT.sIx its.length 0 lo)).toArray:=by
 obtain ⟨h1,h2,h3⟩:=nc lo hi its.toArray.size
 unfold slicePick
 rw [h1,h2,h3]
 simp only [sliceRange_one,pick_run,List.size_toArray] <;> rfl
noncomputable def Fa (K:PySem.W.Frag):V->Option Int->Option Int->Hp->VK->Prop:=fun x lo hi H Q=>∃ a xs,x=.ref a/\SqL K H a xs/\∀ p,H p=none->Q (.ref p) (upd H p (.lst (lP xs lo hi)))
theorem sl_list:SlR X (Fa X.K):=by
 intro pins s σ H x v vl vu lo hi sl Q I rx hs pl pu h
 obtain ⟨a,xs,rfl,hx,q⟩:=h
 cases rx
 obtain ⟨its,r,ht,hz⟩:=I.list hx
 have hlen:=r.length
 refine ⟨"list",_,slot_list_getitem.lookup,ht.isList.typeIs,?_⟩
 refine wpAny_getItem_list_slice ht.isList hs pl pu .none (by simp) ?_ (by rw [List.size_toArray] <;> omega)
 rw [lv,<- hlen]
 refine ⟨.ref s.heap.objs.size,_,I.laid (t':=s.toks) (o:=.lst (lP xs lo hi)) (fun b ob q=>Heap.get?_push_of_some _ q) (Nat.le_refl _) ?_,rfl,q _ (I.hok.fresh (Nat.le_refl _))⟩
 exact ⟨Nat.le_trans (jp xs lo hi) hz,_,0,(r.drop (HT.sIx xs.length 0 lo)).take (HT.sIx xs.length xs.length hi-HT.sIx xs.length 0 lo),Heap.get?_push_size _ rfl⟩
noncomputable def gC:V->Bool
 | .non=>true
 | .bl _=>true
 | .int _=>true
 | .str _=>true
 | _=>false
noncomputable def wL:V->V->Bool
 | .non,.non=>true
 | .bl a,.bl b=>a==b
 | .bl a,.int b=>(if a then 1 else 0)==b
 | .int a,.bl b=>a==(if b then 1 else 0)
 | .int a,.int b=>a==b
 | .str a,.str b=>a==b
 | _,_=>false
theorem Bm {A:Around} {s:Shared} {y x:V} {u v:Value} (ry:RelV y u) (rx:RelV x v) (fy:gC y=true) (fx:gC x=true):SeqAt.EqAt A s u v (wL y x):=by
 cases y with
 | non=>
  cases ry
  cases x with
  | non=>cases rx; exact SeqAt.EqAt.same _
  | bl b=>cases rx; exact SeqAt.EqAt.none_bool b
  | int b=>obtain ⟨t,rfl⟩:=rx; exact SeqAt.EqAt.none_int b t
  | str b=>obtain ⟨t,rfl⟩:=rx; exact SeqAt.EqAt.none_str b t
  | _=>exact absurd (show false=true from fx) Bool.false_ne_true
 | bl a=>
  cases ry
  cases x with
  | non=>cases rx; exact SeqAt.EqAt.bool_none a
  | bl b=>cases rx; exact SeqAt.EqAt.bool_bool a b
  | int b=>obtain ⟨t,rfl⟩:=rx; exact SeqAt.EqAt.bool_int a b t
  | str b=>obtain ⟨t,rfl⟩:=rx; exact SeqAt.EqAt.bool_str a b t
  | _=>exact absurd (show false=true from fx) Bool.false_ne_true
 | int a=>
  obtain ⟨t',rfl⟩:=ry
  cases x with
  | non=>cases rx; exact SeqAt.EqAt.int_none a t'
  | bl b=>cases rx; exact SeqAt.EqAt.int_bool a t' b
  | int b=>obtain ⟨t,rfl⟩:=rx; exact SeqAt.EqAt.int_int a t' b t
  | str b=>obtain ⟨t,rfl⟩:=rx; exact SeqAt.EqAt.int_str a t' b t
  | _=>exact absurd (show false=true from fx) Bool.false_ne_true
 | str a=>
  obtain ⟨t',rfl⟩:=ry
  cases x with
  | non=>cases rx; exact SeqAt.EqAt.str_none a t'
  | bl b=>cases rx; exact SeqAt.EqAt.str_bool a t' b
  | int b=>obtain ⟨t,rfl⟩:=rx; exact SeqAt.EqAt.str_int a t' b t
  | str b=>obtain ⟨t,rfl⟩:=rx; exact SeqAt.EqAt.str_str a t' b t
  | _=>exact absurd (show false=true from fx) Bool.false_ne_true
 | _=>exact absurd (show false=true from fy) Bool.false_ne_true
noncomputable def yw (x:V) (u:Value):Bool:=match u with
 | .none=>wL .non x
 | .bool b=>wL (.bl b) x
 | .int i _=>wL (.int i) x
 | .str z _=>wL (.str z) x
 | _=>false
theorem wa {x y:V} {u:Value} (r:RelV y u) (f:gC y=true):yw x u=wL y x:=by
 cases y with
 | non=>cases r; rfl
 | bl b=>cases r; rfl
 | int i=>obtain ⟨t,rfl⟩:=r; rfl
 | str z=>obtain ⟨t,rfl⟩:=r; rfl
 | _=>exact absurd (show false=true from f) Bool.false_ne_true
theorem ot {x:V}:∀ {xs:List V} {us:List Value},Vals xs us->xs.all gC=true->us.any (yw x)=xs.any fun y=>wL y x
 | _,_,.nil,_=>rfl
 | y::xs,u::us,.cons r t,f=>by
  rw [List.all_cons,Bool.and_eq_true] at f
  rw [List.any_cons,List.any_cons,wa r f.1,ot t f.2]
theorem kC {A:Around} {s:Shared} {x:V} {v:Value} (rx:RelV x v) (fx:gC x=true):∀ {xs:List V} {us:List Value},Vals xs us->xs.all gC=true->∀ u∈us,SeqAt.EqAt A s u v (yw x u)
 | _,_,.nil,_=>fun u hu=>by cases hu
 | y::xs,u::us,.cons r t,f=>fun u' hu=>by
  rw [List.all_cons,Bool.and_eq_true] at f
  rcases List.mem_cons.mp hu with rfl | hu
  ·rw [wa r f.1]; exact Bm r rx f.1 fx
  ·exact kC rx fx t f.2 u' hu
noncomputable def Eu (x:V) (xs:List V):Bool:=xs.any fun y=>wL y x
noncomputable def Fd (K:PySem.W.Frag) (neg:Bool):R2:=fun x y H Q=>∃ p xs,y=.ref p/\(SqL K H p xs\/SqT K H p xs)/\gC x=true/\xs.all gC=true/\Q (.bl (if neg then !Eu x xs else Eu x xs)) H
theorem tI:OpR X (compareOp .In) (Fd X.K false):=by
 intro pins s σ H x y v u Q I rx ry h
 obtain ⟨p,xs,rfl,hq,fx,fs,q⟩:=h
 cases ry
 rcases hq with hq | hq
 ·obtain ⟨its,r,pl,hz⟩:=I.list hq
  refine SeqAt.in_listAt (yw x) pl.isList (fun w hw=>kC rx fx r fs w (by simpa using hw)) ⟨.bl _,H,I,rfl,?_⟩
  rw [show its.toArray.any (yw x)=its.any (yw x) by simp,ot r fs]
  exact q
 ·obtain ⟨its,r,pl,hz⟩:=I.tuple hq
  refine SeqAt.in_tupleAt (yw x) pl (fun w hw=>kC rx fx r fs w (by simpa using hw)) ⟨.bl _,H,I,rfl,?_⟩
  rw [show its.toArray.any (yw x)=its.any (yw x) by simp,ot r fs]
  exact q
theorem CallR.or {f:Value} {r r':List V->Hp->VK->Prop} (h:CallR X f r) (h':CallR X f r'):CallR X f (fun xs H Q=>r xs H Q\/r' xs H Q):=by
 intro pins s σ H xs us Q I rs q
 rcases q with q | q
 ·exact h pins s σ H xs us Q I rs q
 ·exact h' pins s σ H xs us Q I rs q
theorem lQ:CallR X (.type "tuple") (fun xs H Q=>∃ p ys,xs=[.ref p]/\((SqL X.K H p ys/\∀ l,H l=none->Q (.ref l) (upd H l (.tup ys)))\/(SqT X.K H p ys/\Q (.ref p) H))):=by
 intro pins s σ H xs us Q I r h
 obtain ⟨p,ys,rfl,h⟩:=h
 obtain ⟨u,rfl,rx⟩:=gr r
 cases rx
 rcases h with ⟨hq,q⟩ | ⟨hq,q⟩
 ·obtain ⟨its,r',pl,hz⟩:=I.list hq
  have hlen:=r'.length
  refine call_tuple_list pl.isList (fun h' kp=>?_) (by simp only [List.size_toArray] <;> omega)
  have I1:Inv X pins σ H { s with heap:=h' }:=I.kept (t':=s.toks) kp
  have I2:Inv X pins σ (upd H h'.objs.size (.tup ys)) { s with heap:=h'.push { cls:=.type "tuple",data:=.seq its.toArray } }:=
   I1.laid (t':=s.toks) (fun b o e=>Heap.get?_push_of_some _ e) (Nat.le_refl _) (show ObjOk X.prog X.w _ _ _ (.tup ys) from ⟨hz,its,r',IsTup.new _ _,NoDi.new _ _⟩)
  exact ⟨.ref h'.objs.size,_,I2,rfl,q _ (I1.hok.fresh (Nat.le_refl _))⟩
 ·obtain ⟨its,r',pl,hz⟩:=I.tuple hq
  exact call_tuple_same pl ⟨.ref p,H,I,rfl,q⟩
noncomputable def Gd (K:PySem.W.Frag) (T:String) (x:V) (H:Hp):Prop:=match x with
 | .str _=>T = "str"
 | .int _=>T = "int"
 | .ref p=>(T = "list" /\ ∃ xs,SqL K H p xs)\/(T = "tuple" /\ ∃ o,K.lookup p=some o/\o.cls=.type "tuple" /\ o.dict=none) \/
   (T = "dict" /\ ((∃ kvs,H p=some (.dK kvs))\/∃ kvs,H p=some (.dT kvs)))\/(T = "set" /\ ∃ S n,H p=some (.set S n))
 | _=>False
theorem zH {pins:List (Addr×Obj)} {σ:St} {H:Hp} {s:Shared} {T:String} {x:V} {v:Value} (I:Inv X pins σ H s) (r:RelV x v) (ty:Gd X.K T x H) :
  s.TypeIs v T/\∀ a,v=.ref a->∃ ob,s.heap.get? a=some ob/\ob.dict=none:=by
 cases x with
 | str z=>
  obtain ⟨t,rfl⟩:=r
  cases (show T = "str" from ty)
  exact ⟨typeIs_str s z t,fun _ e=>nomatch e⟩
 | int i=>
  obtain ⟨t,rfl⟩:=r
  cases (show T = "int" from ty)
  exact ⟨typeIs_int s i t,fun _ e=>nomatch e⟩
 | ref p=>
  cases r
  rcases ty with ⟨rfl,xs,hq⟩ | ⟨rfl,o,hk,hc,hd⟩ | ⟨rfl,hk⟩ | ⟨rfl,S,n,hk⟩
  ·obtain ⟨its,_,pl,_⟩:=I.list hq
   refine ⟨pl.isList.typeIs,fun a e=>?_⟩
   cases e
   obtain ⟨o,n,e,c,hd,_⟩:=pl
   exact ⟨o,e,hd⟩
  ·refine ⟨⟨o,I.kIn p o hk,hc⟩,fun a e=>?_⟩
   cases e
   exact ⟨o,I.kIn _ o hk,hd⟩
  ·have z:∃ o,s.heap.get? p=some o/\o.ExactDict:=by
    rcases hk with ⟨kvs,hk⟩ | ⟨kvs,hk⟩
    ·obtain ⟨_,_,_,_,o,_,_,e,ex,_⟩:=I.hok p _ hk
     exact ⟨o,e,ex⟩
    ·obtain ⟨_,_,_,_,o,_,_,e,ex,_⟩:=I.hok p _ hk
     exact ⟨o,e,ex⟩
   obtain ⟨o,e,ex⟩:=z
   refine ⟨⟨o,e,ex.1⟩,fun a e2=>?_⟩
   cases e2
   exact ⟨o,e,ex.2.1⟩
  ·obtain ⟨o,_,_,_,e,ex,_⟩:=I.hok p _ hk
   refine ⟨⟨o,e,ex.1⟩,fun a e2=>?_⟩
   cases e2
   exact ⟨o,e,ex.2.1⟩
 | _=>exact False.elim ty
noncomputable def GY (K:PySem.W.Frag) (T:String) (r:V->List V->Hp->VK->Prop) (to:TE) (t:TA):TE:=fun σ H Q=>to σ H fun x H1=>Gd K T x H1/\t σ H1 fun xs H2=>r x xs H2 Q
variable {o e:Expr} {es:List Expr} {to:TE} {t:TA} {name:Str} {apos cpos:Pos} {T id:String} {r:V->List V->Hp->VK->Prop}
theorem CV (pa:PlainAttrs T) (slot:Slot T name id) (hty:typeOf (.builtin id)=pure (.type "method_descriptor")) (hm:MtR X id r) (ho:PE X o to) (ha:PA X (e::es) t)
  (hbase:attributeBase o name X.env (eval o X.env)=eval o X.env:=by rfl)
  (hfew:((backTo cpos (starEach (e::es) X.env)).all (fun x=>!x.1)&&(backToKw cpos (keywordEach [] X.env)).all (fun x=>x.1.isSome)
   && decide ((e::es).length+([]:List Keyword).length+(if ([]:List Keyword).isEmpty then 0 else 1)<30))=true:=by rfl)
  (hline:(apos.endLine==cpos.line)=true:=by rfl) (hs:starEach (e::es) X.env=(false,eval e X.env)::starEach es X.env:=by rfl) (hplain:(backTo cpos (starEach es X.env)).any (·.1)=false:=by rfl) :
  PE X (.Call (.Attribute o name apos) (e::es) [] cpos) (GY X.K T r to t):=by
 intro pins s σ H Q I h
 refine wpAny_Call_method_late hbase hfew hline rfl (bU (ho pins s σ H _ I h) fun v s1 ⟨x,H1,I1,r1,ty,q1⟩=>?_)
 obtain ⟨h1,h2⟩:=zH I1 r1 ty
 refine ⟨T,id,pa,slot,hty,h1,h2,?_⟩
 have hA:=ha cpos pins s1 σ H1 _ I1 q1
 rw [hs] at hA ⊢
 refine Calls.callWith_builtin (by show (false||(backTo cpos (starEach es X.env)).any (·.1))=false; rw [hplain] <;> rfl) (Calls.evalArgs_plain ?_)
 exact bU hA fun us s2 ⟨vs,H2,I2,r2,q2⟩=>hm pins s2 σ H2 x vs v us Q I2 r1 r2 q2
end
end L2
namespace L2
open PySem PySem.Spec PyProof.Rows
noncomputable def Hf (X:Cx) (id:String) (r:V->List V->Hp->VK->Prop):Prop:=
 ∀ (pins:List (Addr×Obj)) (s:Shared) (σ:St) (H:Hp) (x:V) (xs:List V) (v:Value) (us:List Value) (Q:VK),Inv X pins σ H s->RelV x v->Vals xs us->r x xs H Q ->
  wpAny (model X.prog X.w) X.A (call (.builtin id) (v::us)) (EP X pins σ Q) X.xe s
theorem Vals.one:∀ {x:V} {us:List Value},Vals [x] us->∃ u,us=[u]/\RelV x u
 | _,_,h=>by
  cases h with
  | cons r t=>
   cases t
   exact ⟨_,rfl,r⟩
theorem Vals.two:∀ {x y:V} {us:List Value},Vals [x,y] us->∃ u v,us=[u,v]/\RelV x u/\RelV y v
 | _,_,_,h=>by
  cases h with
  | cons r t=>
   cases t with
   | cons q t2=>
    cases t2
    exact ⟨_,_,rfl,r,q⟩
theorem Vals.zero:∀ {us:List Value},Vals [] us->us=[]
 | _,.nil=>rfl
theorem Vals.eraseIdx:∀ {xs:List V} {us:List Value} (i:Nat),Vals xs us->Vals (xs.eraseIdx i) (us.eraseIdx i)
 | _,_,_,.nil=>.nil
 | _,_,0,.cons _ t=>t
 | _,_,i+1,.cons r t=>.cons r (Vals.eraseIdx i t)
theorem Vals.reverse {xs:List V} {us:List Value} (h:Vals xs us):Vals xs.reverse us.reverse:=by
 induction h with
 | nil=>exact .nil
 | cons r t ih=>rw [List.reverse_cons,List.reverse_cons]; exact Vals.append ih (.cons r .nil)
section
variable {X:Cx} {pins:List (Addr×Obj)} {σ:St} {H:Hp} {s:Shared} {l b:Addr} {xs ys zs:List V}
theorem Inv.lset {its its':List Value} {n:Nat} {f:Array Value->Array Value} {t':Nat} (I:Inv X pins σ H s) (hH:H l=some (.lst xs))
  (e:s.heap.get? l=some { cls:=.type "list",data:=.seq its.toArray n }) (hf:f its.toArray=its'.toArray) (hv:Vals ys its') (hz:ys.length<=sizeLine) :
  Inv X pins σ (upd H l (.lst ys)) { s with heap:=s.heap.update l (Obj.mapSeq f),toks:=t' }:=by
 have q:=PySem.IsL.update e f
 rw [hf] at q
 refine I.write (x:=l) (e:=l) (by rw [hH]; exact trivial) (.inl rfl) (fun b' u hb hu=>(Heap.get?_update_other s.heap (Obj.mapSeq f) (Ne.symm hb)).trans hu) ⟨_,q⟩ ?_
 exact ⟨hz,its',_,hv,q⟩
theorem Inv.lnew {its:List Value} {t':Nat} (I:Inv X pins σ H s) (hv:Vals ys its) (hz:ys.length<=sizeLine) :
  Inv X pins σ (upd H s.heap.objs.size (.lst ys)) { s with heap:=s.heap.push { cls:=.type "list",data:=.seq its.toArray },toks:=t' }:=
 I.laid (fun _ _ q=>Heap.get?_push_of_some _ q) (Nat.le_refl _) ⟨hz,its,0,hv,Heap.get?_push_size _ rfl⟩
theorem Inv.fresh (I:Inv X pins σ H s):H s.heap.objs.size=none:=I.hok.fresh (Nat.le_refl _)
theorem Inv.lstM (I:Inv X pins σ H s) (hH:H l=some (.lst xs)):xs.length<=sizeLine/\∃ (its:List Value) (n:Nat),Vals xs its/\xs.length=its.length/\s.heap.get? l=some { cls:=.type "list",data:=.seq its.toArray n }:=by
 obtain ⟨z,its,n,r,e⟩:=I.hok l _ hH
 exact ⟨z,its,n,r,r.length,e⟩
end
section
variable {X:Cx}
noncomputable def xz:V->List V->Hp->VK->Prop:=fun x vs H Q=>∃ l xs y,x=.ref l/\vs=[y]/\H l=some (.lst xs)/\xs.length<sizeLine/\Q .non (upd H l (.lst (xs++[y])))
theorem tL:Hf X "list.append" xz:=by
 intro pins s σ H x vs v us Q I rx rv h
 obtain ⟨l,xs,y,rfl,rfl,hH,hz,q⟩:=h
 cases rx
 obtain ⟨u,rfl,ru⟩:=rv.one
 obtain ⟨z,its,n,r,hl,e⟩:=I.lstM hH
 refine call_meets F.slot_list_append ⟨_,e,rfl⟩ F.entry_list_append (F.args_list_append_2 _ _) (PySem.list_append l its.toArray n u (by rw [List.size_toArray]; omega)) ⟨e,?_⟩
 refine ⟨.non,_,I.lset (its':=its++[u]) hH e (by simp) (r.append (.cons ru .nil)) ?_,rfl,q⟩
 rw [List.length_append,List.length_singleton]
 omega
end
section
variable {prog:Program} {w:World} {A:Around} {E:Value->Shared->Prop} {s:Shared}
end
section
variable {X:Cx}
end
end L2
namespace Att
open PySem PySem.W PySem.Calls PyProof.Rows
theorem jD {P:Params} {h:Heap}:∀ (ns:List Int) (vs:List Value),WellAll P h vs (ns.map WData.int)->IntsAre vs ns:=by
 intro ns
 induction ns with
 | nil=>
  intro vs w
  rw [List.map_nil] at w
  cases w
  exact .nil
 | cons n ns ih=>
  intro vs w
  rw [List.map_cons] at w
  cases w with
  | cons a b=>
   cases a
   exact .cons _ _ (ih _ b)
theorem ti {l:OpenLaw} {n:Nat} (hn:l.most=some n) {P:Params} {h:Heap} {args:List WData} {vals:List Value}
  (hpre:l.row.toRowW.claim.pre args=true) (hwl:WellAll P h vals args) :
  ∃ a vs ns,vals=[Value.ref a]/\args=[WData.list (ns.map WData.int)]/\h.get? a=some { cls:=.type "list",data:=.seq vs.toArray }/\IntsAre vs ns/\ns.length<=n:=by
 have hsh:WShape.hasAll [] args [.list .int]=true:=(pre_splitW hpre).1
 have hc:l.pre.holds [] { args:=args }=true:=(pre_splitW hpre).2
 obtain ⟨d,r,rfl,h1,h2⟩:=hasAllW_cons hsh
 obtain rfl:=hasAllW_nil h2
 obtain ⟨xs,rfl,h3⟩:=hasW_list h1
 obtain ⟨ns,rfl⟩:=items_int h3
 have hlen:ns.length<=n:=by
  unfold OpenLaw.pre at hc
  have h4:(WTm.not (.lt (.lit (.int (n:Int))) (.len (.arg 0)))).holds [] { args:=[.list (ns.map .int)] }=true:=by
   have h4:=(holds_andW hc).1
   rw [hn] at h4
   exact h4
  have h5:=condW_of h4 (w_not (w_lt w_lit (w_len_list (w_arg rfl))))
  rw [List.length_map] at h5
  refine Nat.le_of_not_lt fun q=>?_
  have q':(n:Int)<((ns.length:Nat):Int):=by omega
  first
   | (rw [decide_eq_true q'] at h5; exact absurd h5 (by decide))
   | (simp at h5; omega)
 cases hwl with
 | cons w1 w2=>
  cases w2
  cases w1 with
  | list ho hall=>exact ⟨_,_,ns,rfl,rfl,ho,jD ns _ hall,hlen⟩
theorem tz (l:OpenLaw) (args:List WData):l.row.toRowW.claim.post args (.bool true) args=true:=
 postW_of (r:=l.row.toRowW) (X:=(true==true))
  (show WShape.has [] (.bool true) .bool=true by first | rfl | decide | simp [WShape.has,WShape.arms,WShape.armsAll])
  (show (WTm.eq .res (.lit (.bool true))).value [] { args:=args,res:=some (.bool true),after:=args }=some (.bool (true==true)) from w_eq_bool (w_res rfl) w_lit) rfl
theorem qg {l:OpenLaw} {n:Nat} {q:Program} {loose:List Str} {XP:(Str->Option Value)->Heap->Prop} {YP:World->Heap->Prop} {d:DefRec}
  (hn:l.most=some n) (hdf:d.params.defaults=[])
  (call:∀ (w:World) (s₀ s₁:Shared) (mg mb:Str->Option Value) (fa:Addr) (o:Obj) (pm cd doc:Value) (a:Addr) (vs:List Value) (ns:List Int),
   Ground q loose [] XP w s₀ mg mb s₁.heap->YP w s₁.heap ->
   s₁.heap.get? fa=some o->o.data=.func (docDef d.name d.params d.body d.scope pm cd doc)->s₁.heap.CodeRec cd d.name->mg d.name=some (.ref fa) ->
   s₁.heap.get? a=some { cls:=.type "list",data:=.seq vs.toArray }->IntsAre vs ns->ns.length<=n->s₁.gens = #[] ->
   codeAny (model l.prog w) callerA (.call (.ref fa) ⟨[.ref a],[]⟩) (fun r s'=>r=.ok (.ret (.bool true))/\OldK s₁.heap s'.heap/\s'.os=s₁.os/\AllBare s'.gens) s₁) :
  WalkO q loose XP YP l.row.toRowW d [] (fun f vs=>PySem.call f vs):=by
 intro w s₀ s₁ mg mb G Y fa o pm cd doc dV kV ho hd hcd hD hmg hg args vals as hpre hlay hrd hwl hlo
 obtain rfl:dV=.none:=Dflts.none hD hdf
 obtain rfl:kV=.none:=Dflts.noKw hD
 obtain ⟨a,vs,ns,rfl,rfl,hobj,hints,hlen⟩:=ti hn hpre hwl
 refine enter_call (codeAny_mono (call w s₀ s₁ mg mb fa o pm cd doc a vs ns G Y ho (fd_plain hd) hcd hmg hobj hints hlen hg) fun r s' hq=>?_)
 obtain ⟨rfl,h2,h3,h4⟩:=hq
 exact ⟨.inl ⟨.bool true,.bool true,[],rfl,fun _=>rfl,.bool true,tz l _,fun _=>⟨List.Pairwise.nil,fun _ hm=>(nomatch hm)⟩⟩,h2,h3,h4⟩
section
variable {prog:Program} {w:World} {A:Around} {E:Value->Shared->Prop} {s:Shared} {K:Frag}
noncomputable def Fq (h:Heap) (L d:Addr):List (Addr×Obj):=(List.range h.objs.size).filterMap fun a=>if a=L\/a=d then none else (h.get? a).map fun o=>(a,o)
end
end Att
namespace L2
open PySem PySem.Spec PyProof.Rows
theorem cU:∀ {vs:List Value} {ns:List Int},IntsAre vs ns->Vals (ns.map V.int) vs
 | _,_,.nil=>.nil
 | _,_,.cons n t h=>.cons ⟨t,rfl⟩ (cU h)
noncomputable def BE (H:Hp):Prop:=∀ b,H b=none\/∃ o xs,H b=some (.frz o (.lst xs))
theorem vC {P:Program} {w:World} {K:PySem.W.Frag} {mg mb:Str->Option Value} {CX:qi} {k:Nat} {fa a:Addr} {fd:FuncData} {x:Str} {sp:Sp} {s₁:Shared} {vs:List Value} {ns:List Int}
  (KX:K.In s₁.heap) (hns:s₁.heap.Ns mainGlobals mg) (hb:s₁.heap.Ns builtinsNs mb) (hbb:∀ x:Str,x ≠ "__name__" -> mb x=bootBuiltins x) (hlim:s₁.heap.NoLimit) (hg:s₁.gens = #[])
  (ha:s₁.heap.get? a=some { cls:=.type "list",data:=.seq vs.toArray }) (hi:IntsAre vs ns) (hl:ns.length<=sizeLine) (hr:Room k callerA)
  (F:∀ base:Heap,K.In base->base.Ns mainGlobals mg->FnOk P w K mg base CX k fa fd [x] sp) (hbind:∀ (s:Shared) (u:Value),BindsTo s fd ⟨[u],[]⟩ [(x,u)])
  (hsp:∀ H:Hp,BE H->SqL K H a (ns.map V.int)->sp [.ref a] H (fun v _=>v=.bl true) fun _ _ _=>False)
  (hCX:∀ H e s',CX [] H s₁ (fun _ _ _=>False) e s'->False) :
  codeAny (model P w) callerA (.call (.ref fa) ⟨[.ref a],[]⟩) (fun r s'=>r=.ok (.ret (.bool true))/\OldK s₁.heap s'.heap/\s'.os=s₁.os/\AllBare s'.gens) s₁:=by
 have rv:=cU hi
 have lenV:=hi.length
 have core:∀ H:Hp,BE H->SqL K H a (ns.map V.int)->HOk P w H s₁.heap->(∀ b,H b≠none->b=a)->(H a≠none->K.lookup a=none) ->
   codeAny (model P w) callerA (.call (.ref fa) ⟨[.ref a],[]⟩) (fun r s'=>r=.ok (.ret (.bool true))/\OldK s₁.heap s'.heap/\s'.os=s₁.os/\AllBare s'.gens) s₁:=by
  intro H hO hS hok hA hK
  have base_of:∀ {b:Addr} {o:Obj},s₁.heap.get? b=some o->H b=none->(nO s₁.heap H).get? b=some o:=fun e n=>vR e n
  have noA:∀ {b:Addr} {o:Obj} {es:Array DictEntry} {ep:Nat},s₁.heap.get? b=some o->o.data=.dict es ep->H b=none:=fun {b o es ep} e d=>by
   cases q:H b with
   | none=>rfl
   | some u=>
    have e':b=a:=hA b (by rw [q]; simp)
    subst e'
    rw [ha] at e; cases e
    have d':Data.seq vs.toArray _=Data.dict es ep:=d
    cases d'
  have nsK:∀ {b:Addr} {m:Str->Option Value},s₁.heap.Ns b m->(nO s₁.heap H).Ns b m:=fun {b m} ⟨o,es,ep,e,d,r⟩=>⟨o,es,ep,base_of e (noA e d),d,r⟩
  have hKb:K.In (nO s₁.heap H):=fun b o e=>base_of (KX b o e) (by
   cases q:H b with
   | none=>rfl
   | some u=>
    have e':b=a:=hA b (by rw [q]; simp)
    subst e'
    rw [hK (by rw [q]; simp)] at e; cases e)
  have hM:Mod K mg (nO s₁.heap H):=⟨hKb,nsK hns,⟨mb,nsK hb,hbb⟩,let ⟨mc,h1,h2⟩:=hlim; ⟨mc,nsK h1,h2⟩⟩
  have e0:Env0 P w K mg (nO s₁.heap H) callerA [] s₁ H:=⟨rfl,hM,fun b o e=>xU e,Nat.le_of_eq (t7 _ _),trivial,fun b hb=>absurd (show b∈([]:List Addr) from hb) (by simp),hok,.of_eq hg⟩
  refine codeAny_mono ((F _ hKb (nsK hns)).run callerA [] s₁ H ⟨[.ref a],[]⟩ [.ref a] [.ref a] _ _ hr e0 (hbind s₁ (.ref a)) (.cons rfl .nil) (hsp H hO hS)) fun r s' h=>?_
  cases r with
  | error e=>exact (hCX H e s' h).elim
  | ok fl=>
   cases fl with
   | next=>exact False.elim h
   | brk=>exact False.elim h
   | cont=>exact False.elim h
   | ret u=>
    obtain ⟨v,H',os,bare,un,hok',r',q⟩:=h
    have q':v=.bl true:=q
    subst q'
    obtain rfl:u=Value.bool true:=r'
    refine ⟨rfl,OldK.of_keep fun b o e=>?_,os,bare⟩
    cases q:H b with
    | none=>exact un.keep b o e q (by intro z; exact absurd (show b∈([]:List Addr) from z) (by simp)) (by simp)
    | some u=>
     rcases hO b with z | ⟨ob,xs,z⟩
     ·rw [q] at z; cases z
     ·have z2:=un.frzs b ob _ z
      obtain ⟨e1,_⟩:=hok b _ z
      obtain ⟨e2,_⟩:=hok' b _ z2
      rw [e] at e1; cases e1
      exact e2
 cases hk:K.lookup a with
 | some o=>
  have e:=KX a o hk
  rw [ha] at e
  cases e
  refine core (fun _=>none) (fun _=>.inl rfl) (.inr ⟨_,vs.toArray,_,hk,rfl,rfl,rfl,by rw [List.size_toArray,lenV]; exact hl,by simpa using rv⟩) (fun b u z=>by have z':(none:Option HO)=some u:=z; cases z') (fun b z=>absurd rfl z) fun z=>absurd rfl z
 | none=>
  refine core (fun b=>if b=a then some (.frz { cls:=.type "list",data:=.seq vs.toArray } (.lst (ns.map V.int))) else none) (fun b=>?_) (.inl (.inr ⟨{ cls:=.type "list",data:=.seq vs.toArray },if_pos rfl⟩)) (fun b u z=>?_) (fun b z=>?_) fun _=>hk
  ·by_cases hb:b=a
   ·exact .inr ⟨_,_,if_pos hb⟩
   ·exact .inl (if_neg hb)
  ·by_cases hb:b=a
   ·have z':=(if_pos hb).symm.trans z
    cases z'
    subst hb
    exact ⟨ha,by rw [List.length_map]; exact hl,vs,_,rv,ha⟩
   ·have z':=(if_neg hb).symm.trans z
    cases z'
  ·by_cases hb:b=a
   ·exact hb
   ·exact absurd (if_neg hb) z
end L2
namespace L2
open PySem PySem.Spec PyProof.Rows
noncomputable abbrev Ht {K:PySem.W.Frag} {h:Heap} (_:K.In h):PySem.W.Frag:=K
theorem wO {l:PySem.W.OpenLaw} {n k:Nat} {q:Program} {loose:List Str} {XP:(Str->Option Value)->Heap->Prop} {YP:World->Heap->Prop} {d:DefRec} {K:Params->PySem.W.Frag} {CX:World->qi} {sp:World->Sp} {x:Str}
  (hn:l.most=some n) (hn2:n<=sizeLine) (hdf:d.params.defaults=[]) (hr:Room k callerA)
  (hY:∀ (w:World) (h:Heap),YP w h->(K w.params).In h)
  (F:∀ (w:World) (mg:Str->Option Value) (fa:Addr) (h:Heap),(K w.params).In h->h.Ns mainGlobals mg->mg d.name=some (.ref fa) ->
   ∃ fd:FuncData,(∀ (s:Shared) (u:Value),BindsTo s fd ⟨[u],[]⟩ [(x,u)]) /\
    ∀ base:Heap,(K w.params).In base->base.Ns mainGlobals mg->FnOk l.prog w (K w.params) mg base (CX w) k fa fd [x] (sp w))
  (hsp:∀ (w:World) (H:Hp) (a:Addr) (ns:List Int),ns.length<=n->BE H->SqL (K w.params) H a (ns.map V.int)->sp w [.ref a] H (fun v _=>v=.bl true) fun _ _ _=>False)
  (hCX:∀ (w:World) (H:Hp) (s:Shared) (e:Value) (s':Shared),CX w [] H s (fun _ _ _=>False) e s'->False) :
  PySem.W.WalkO q loose XP YP l.row.toRowW d [] (fun f vs=>PySem.call f vs):=by
 refine Att.qg hn hdf fun w s₀ s₁ mg mb fa o pm cd doc a vs ns G Y ho hd hcd hmg hobj hints hlen hg=>?_
 have KX:=hY w _ Y
 obtain ⟨fd,hb,hF⟩:=F w mg fa _ KX G.T.g hmg
 exact vC KX G.T.g G.T.b G.T.builtins G.T.nolimit hg hobj hints (Nat.le_trans hlen hn2) hr hF hb (fun H hO hS=>hsp w H a ns hlen hO hS) fun H e s'=>hCX w H s₁ e s'
end L2
namespace L2
open PySem PySem.Spec PyProof.Rows
noncomputable def dc (s:Stmt):Arguments:=match s with
 | .FunctionDef _ a _ _ _ _ _ _ _ _=>a
 | _=>{ posonlyargs:=[],args:=[],vararg:=none,kwonlyargs:=[],kw_defaults:=[],kwarg:=none,defaults:=[] }
noncomputable def bS (s:Stmt):List Stmt:=match s with
 | .FunctionDef _ _ b _ _ _ _ _ _ _=>b
 | _=>[]
noncomputable def ah (s:Stmt):Scope:=match s with
 | .FunctionDef _ _ _ _ _ _ sc _ _ _=>sc
 | _=>{ kind:=.function,names:=[],isGenerator:=false,isCoroutine:=false }
noncomputable abbrev dJ:qi:=fun _ _ _ _ _ _=>False
noncomputable abbrev E0:XK:=fun _ _ _=>False
theorem y1 {X:Cx}:ou dJ X E0:=fun _ _ _ _ _ _ _ h=>h.elim
structure Fun (K:PySem.W.Frag) (x qual:Str) (st:Stmt) (f:Addr) (fd:FuncData):Prop where
 ex:∃ (oc:Value) (od:Option Addr) (kV doc pm:Value) (an:Option Addr) (cdv ct:Value) (osl:Array (Option Value)),
  fd=PySem.W.fnOf x qual (dc st) (bS st) (ah st) .none kV doc pm an cdv ct/\K.lookup f=some ⟨oc,od,.func fd,osl⟩/\PySem.W.codeIn K cdv qual=true
 kp:PySem.W.keepIn K (.ref f)=true
section
variable {P:Program} {w:World} {K:PySem.W.Frag} {mg:Str->Option Value} {base:Heap}
theorem Fun.ok {x qual:Str} {st:Stmt} {f:Addr} {fd:FuncData} {N ps:List Str} {k:Nat} {sp:Sp} (F:Fun K x qual st f fd) (S:FnScope N ps (ah st)) (len:∀ vs H Q E,sp vs H Q E->vs.length=ps.length)
  (hbody:∀ (cdv:Value) (A:Around) (outer:List Env) (s:Shared) (H:Hp) (vs:List V) (Q:VK) (E:XK),Room k (A.deeper (envOfC qual (ah st) s.heap.objs.size f cdv))->sp vs H Q E ->
   ∃ t,PSs (d7 dJ P w K mg base N qual (ah st) f cdv A outer s H E).nox (bS st) t/\t { nx:=fun _ H'=>Q .non H',rt:=Q } (start N vs) H):FnOk P w K mg base dJ (k+1) f fd ps sp:=by
 obtain ⟨oc,od,kV,doc,pm,an,cdv,ct,osl,rfl,lk,hcd⟩:=F.ex
 refine sx lk hcd S len fun A outer s H vs Q E hr hsp=>?_
 obtain ⟨t,h,q⟩:=hbody cdv A outer s H vs Q E hr hsp
 exact ⟨t,h.nox,q⟩
theorem Fun.binds {x qual:Str} {st:Stmt} {f:Addr} {fd:FuncData} {ps:List Str} (F:Fun K x qual st f fd)
  (h:∀ (kV doc pm:Value) (an:Option Addr) (cdv ct:Value) (us:List Value),us.length=ps.length->bindArgs (PySem.W.fnOf x qual (dc st) (bS st) (ah st) .none kV doc pm an cdv ct) ⟨us,[]⟩=pure (ps.zip us)):Binds K fd ps []:=by
 obtain ⟨oc,od,kV,doc,pm,an,cdv,ct,osl,rfl,lk,hcd⟩:=F.ex
 exact .all (h kV doc pm an cdv ct)
end
section
variable {X:Cx}
end
noncomputable def Same (H H':Hp):Prop:=∀ b o,H b=some o->H' b=some o
theorem Same.refl (H:Hp):Same H H:=fun _ _ h=>h
theorem Same.trans {H H1 H2:Hp} (a:Same H H1) (b:Same H1 H2):Same H H2:=fun c o h=>b c o (a c o h)
theorem Same.free {H H':Hp} (e:Same H H') {l:Addr} (h:H' l=Option.none):H l=Option.none:=by
 cases q:H l with
 | none=>rfl
 | some o=>
  rw [e l o q] at h
  cases h
theorem Same.seq {K:PySem.W.Frag} {H H':Hp} {a:Addr} {xs:List V} (e:Same H H') (h:SqL K H a xs):SqL K H' a xs:=by
 rcases h with (h | ⟨o,h⟩) | h
 ·exact .inl (.inl (e _ _ h))
 ·exact .inl (.inr ⟨o,e _ _ h⟩)
 ·exact .inr h
end L2
set_option Elab.async false
set_option linter.all false
set_option maxRecDepth 100000
set_option maxHeartbeats 4000000
namespace VL
open PySem L2
noncomputable abbrev D:=PyData
inductive Oc where
 | l (ds:List D) | d (es:List (ay×D))
inductive Sl where
 | un | fz (d:D) | own (c:Oc) | fr (ds:List D)
noncomputable abbrev Sl.ow (ds:List D):Sl:=.own (.l ds)
noncomputable abbrev Sl.od (es:List (ay×D)):Sl:=.own (.d es)
noncomputable def vI:ay->D
 | .inl i=>.int i
 | .inr x=>.str x
noncomputable def dctD (es:List (ay×Int)):List (D×D):=es.map fun p=>(vI p.1,.int p.2)
noncomputable abbrev Dv:=List Sl
inductive Fl where
 | nx | bk | ct | rt (d:D)
noncomputable abbrev Sf:=Dv->Option (Fl×Dv)
@[simp] noncomputable def o2 (f1 f2:Dv->Option D) (g:D->D->Option D):Dv->Option D:=fun δ=>(f1 δ).bind fun x=>(f2 δ).bind fun y=>g x y
@[simp] noncomputable def o1 (f:Dv->Option D) (g:D->Option D):Dv->Option D:=fun δ=>(f δ).bind g
@[simp] noncomputable def os (f:Dv->Option (List D)) (g:List D->Option D):Dv->Option D:=fun δ=>(f δ).bind g
noncomputable def asB:D->Option Bool
 | .bool b=>some b
 | _=>none
@[simp] theorem wv (b:Bool):asB (.bool b)=some b:=rfl
@[simp] noncomputable def ob (f:Dv->Option D):Dv->Option Bool:=fun δ=>(f δ).bind asB
@[simp] noncomputable def gM (t u:Dv->Option Bool):Dv->Option Bool:=fun δ=>(t δ).bind fun b=>if b=true then u δ else some false
@[simp] noncomputable def BN (t u:Dv->Option Bool):Dv->Option Bool:=fun δ=>(t δ).bind fun b=>if b=true then some true else u δ
@[simp] noncomputable def gK (t:Dv->Option Bool):Dv->Option Bool:=fun δ=>(t δ).map (!·)
@[simp] noncomputable def kw (f1 f2:Dv->Option D):Dv->Option D:=fun δ=>(f1 δ).bind fun x=>(asB x).bind fun b=>if b=true then f2 δ else some (.bool false)
@[simp] noncomputable def G5 (f1 f2:Dv->Option D):Dv->Option D:=fun δ=>(f1 δ).bind fun x=>(asB x).bind fun b=>if b=true then some (.bool true) else f2 δ
@[simp] noncomputable def vi (d:D):Option D:=(asB d).map fun b=>.bool (!b)
@[simp] noncomputable def Fh (t:Dv->Option Bool) (f1 f2:Dv->Option D):Dv->Option D:=fun δ=>(t δ).bind fun b=>if b=true then f1 δ else f2 δ
noncomputable def wG:Option Sl->Option D
 | some (.fz d)=>some d
 | some (.fr ds)=>some (.list ds)
 | _=>none
@[simp] theorem EZ (ds:List D):wG (some (.fr ds))=some (.list ds):=rfl
@[simp] theorem iP (d:D):wG (some (.fz d))=some d:=rfl
@[simp] noncomputable def oV (i:Nat):Dv->Option D:=fun δ=>wG δ[i]?
@[simp] noncomputable def oC (d:D):Dv->Option D:=fun _=>some d
@[simp] noncomputable def ax:Dv->Option (List D):=fun _=>some []
@[simp] noncomputable def ag (f:Dv->Option D) (fs:Dv->Option (List D)):Dv->Option (List D):=fun δ=>(f δ).bind fun x=>(fs δ).bind fun xs=>some (x::xs)
noncomputable def cg (ds:List D):Option D:=if ds.length<=sizeLine then some (.tuple ds) else none
noncomputable def fF (ds:List D):Option D:=if ds.length<=sizeLine then some (.list ds) else none
theorem d8 {ds:List D} (h:ds.length<=16777216):cg ds=some (.tuple ds):=if_pos h
theorem gi {ds:List D} (h:ds.length<=16777216):fF ds=some (.list ds):=if_pos h
@[simp] theorem Gk:cg []=some (.tuple []):=rfl
@[simp] theorem Gj (a:D):cg [a]=some (.tuple [a]):=d8 (by simp)
@[simp] theorem Gi (a b:D):cg [a,b]=some (.tuple [a,b]):=d8 (by simp)
@[simp] theorem Gh (a b c:D):cg [a,b,c]=some (.tuple [a,b,c]):=d8 (by simp)
@[simp] theorem Gg (a b c d:D):cg [a,b,c,d]=some (.tuple [a,b,c,d]):=d8 (by simp)
@[simp] theorem Gf (a b c d e:D):cg [a,b,c,d,e]=some (.tuple [a,b,c,d,e]):=d8 (by simp)
@[simp] theorem Ge (a b c d e f g h:D):cg [a,b,c,d,e,f,g,h]=some (.tuple [a,b,c,d,e,f,g,h]):=d8 (by simp)
@[simp] theorem GE:fF []=some (.list []):=rfl
@[simp] theorem GD (a:D):fF [a]=some (.list [a]):=gi (by simp)
@[simp] theorem GC (a b:D):fF [a,b]=some (.list [a,b]):=gi (by simp)
@[simp] theorem GB (a b c:D):fF [a,b,c]=some (.list [a,b,c]):=gi (by simp)
@[simp] theorem GA (a b c d:D):fF [a,b,c,d]=some (.list [a,b,c,d]):=gi (by simp)
@[simp] theorem Gz (a b c d e:D):fF [a,b,c,d,e]=some (.list [a,b,c,d,e]):=gi (by simp)
instance (i j:Int):Decidable (IntMulOk i j):=by unfold IntMulOk; infer_instance
noncomputable def iI (g:Int->Int->Int):D->D->Option D
 | .int i,.int j=>some (.int (g i j))
 | _,_=>none
noncomputable def iC (C:Int->Int->Bool) (g:Int->Int->Int):D->D->Option D
 | .int i,.int j=>if C i j=true then some (.int (g i j)) else none
 | _,_=>none
noncomputable def iB (g:Int->Int->Bool):D->D->Option D
 | .int i,.int j=>some (.bool (g i j))
 | _,_=>none
@[simp] theorem FD (g:Int->Int->Int) (i j:Int):iI g (.int i) (.int j)=some (.int (g i j)):=rfl
@[simp] theorem FE (g:Int->Int->Bool) (i j:Int):iB g (.int i) (.int j)=some (.bool (g i j)):=rfl
theorem i7 {C:Int->Int->Bool} {g:Int->Int->Int} {i j:Int} (h:C i j=true):iC C g (.int i) (.int j)=some (.int (g i j)):=if_pos h
noncomputable def FS (i j:Int):Bool:=decide (IntMulOk i j)
noncomputable def FU (i j:Int):Bool:=decide (0<j/\j<1073741824)
noncomputable def FT (i j:Int):Bool:=decide (0<j)
noncomputable def FR (i j:Int):Bool:=decide (0<=j/\j<=1000000/\i.natAbs<2 ^ 64)
noncomputable def FQ (i j:Int):Bool:=decide (0<=j/\(Builtin.Int.intBits i:Int)+j<=2 ^ 27)
noncomputable def FP (i j:Int):Bool:=decide (0<=j)
noncomputable abbrev fM:=iI fun i j=>i-j
noncomputable abbrev gO:=iC FS fun i j=>i*j
noncomputable abbrev dq:=iC FU fun i j=>i / j
noncomputable abbrev aV:=iC FT fun i j=>i % j
noncomputable abbrev tw:=iC FR fun i j=>i ^ j.toNat
noncomputable abbrev ju:=iC FQ fun i j=>i*2 ^ j.toNat
noncomputable abbrev j3:=iC FP fun i j=>i / 2 ^ j.toNat
noncomputable abbrev Bu:=iI Builtin.bitAnd
noncomputable abbrev mX:=iI Builtin.bitXor
noncomputable abbrev BO:=iB fun i j=>decide (i<j)
noncomputable abbrev vT:=iB fun i j=>decide (j<i)
@[simp] theorem pj {i j:Int} (h:IntMulOk i j):gO (.int i) (.int j)=some (.int (i*j)):=i7 (decide_eq_true h)
@[simp] theorem DN {i j:Int} (h:0<j) (h2:j<1073741824):dq (.int i) (.int j)=some (.int (i / j)):=i7 (decide_eq_true ⟨h,h2⟩)
@[simp] theorem pq {i j:Int} (h:0<j):aV (.int i) (.int j)=some (.int (i % j)):=i7 (decide_eq_true h)
@[simp] theorem CQ {i j:Int} (h:0<=j) (h2:j<=1000000) (h3:i.natAbs<2 ^ 64):tw (.int i) (.int j)=some (.int (i ^ j.toNat)):=i7 (decide_eq_true ⟨h,h2,h3⟩)
theorem uQ {i j:Int} (h:0<=j) (h2:(Builtin.Int.intBits i:Int)+j<=2 ^ 27):ju (.int i) (.int j)=some (.int (i*2 ^ j.toNat)):=i7 (decide_eq_true ⟨h,h2⟩)
@[simp] theorem uP {i j:Int} (h:0<=j):j3 (.int i) (.int j)=some (.int (i / 2 ^ j.toNat)):=i7 (decide_eq_true h)
noncomputable def negD:D->Option D
 | .int i=>some (.int (-i))
 | _=>none
@[simp] theorem C7 (i:Int):negD (.int i)=some (.int (-i)):=rfl
noncomputable def aR:D->D->Option D
 | .int i,.int j=>some (.int (i+j))
 | .str x,.str y=>if x.length+y.length<=sizeLine then some (.str (x++y)) else none
 | .list xs,.list ys=>if xs.length+ys.length<=sizeLine then some (.list (xs++ys)) else none
 | .tuple xs,.tuple ys=>if xs.length+ys.length<=sizeLine then some (.tuple (xs++ys)) else none
 | _,_=>none
@[simp] theorem Eb (i j:Int):aR (.int i) (.int j)=some (.int (i+j)):=rfl
theorem uo {xs ys:List D} (h:xs.length+ys.length<=16777216):aR (.list xs) (.list ys)=some (.list (xs++ys)):=if_pos h
theorem fY {xs ys:List D} (h:xs.length+ys.length<=16777216):aR (.tuple xs) (.tuple ys)=some (.tuple (xs++ys)):=if_pos h
noncomputable def wH (d:D):Bool:=PySem.SeqAt.shaped d
noncomputable def gn:D->D->Option D:=fun a b=>if wH a=true/\wH b=true then some (.bool (PyData.eqv a b)) else none
noncomputable def neD:D->D->Option D:=fun a b=>if wH a=true/\wH b=true then some (.bool (!PyData.eqv a b)) else none
@[simp] theorem sD (i j:Int):gn (.int i) (.int j)=some (.bool (i==j)):=rfl
@[simp] theorem Ep (i j:Int):neD (.int i) (.int j)=some (.bool (!(i==j))):=rfl
@[simp] theorem DL (i j:Bool):gn (.bool i) (.bool j)=some (.bool (i==j)):=rfl
@[simp] theorem C9 (i j:Bool):neD (.bool i) (.bool j)=some (.bool (!(i==j))):=rfl
noncomputable def BR (d:D):Bool:=match d with
 | .none=>true
 | _=>false
noncomputable def G7:D->D->Option D:=fun a b=>match b with
 | .none=>some (.bool (BR a))
 | _=>none
noncomputable def Dp:D->D->Option D:=fun a b=>match b with
 | .none=>some (.bool (!BR a))
 | _=>none
@[simp] theorem Dr (a:D):G7 a .none=some (.bool (BR a)):=rfl
@[simp] theorem Bd (a:D):Dp a .none=some (.bool (!BR a)):=rfl
@[simp] theorem Dq:BR .none=true:=rfl
@[simp] theorem Et (i:Int):BR (.int i)=false:=rfl
noncomputable def aK:D->D->Option D
 | .list xs,.int i=>jr xs i
 | .tuple xs,.int i=>jr xs i
 | _,_=>none
@[simp] theorem Dm (xs:List D) (i:Int):aK (.list xs) (.int i)=jr xs i:=rfl
@[simp] theorem BP (xs:List D) (i:Int):aK (.tuple xs) (.int i)=jr xs i:=rfl
theorem eI {α:Type} {xs:List α} {i:Int} {j:Nat} {v:α} (hi:i=j) (h:xs[j]? = some v):jr xs i=some v:=by
 have hl:j<xs.length:=(List.getElem?_eq_some_iff.mp h).1
 subst hi
 unfold jr Ba
 rw [if_pos (by omega),if_pos (by omega)]
 simpa using h
@[simp] theorem Hs {α:Type} (a:α) (r:List α):jr (a::r) 0=some a:=eI (j:=0) rfl rfl
@[simp] theorem Hr {α:Type} (a b:α) (r:List α):jr (a::b::r) 1=some b:=eI (j:=1) rfl rfl
@[simp] theorem Hq {α:Type} (a b c:α) (r:List α):jr (a::b::c::r) 2=some c:=eI (j:=2) rfl rfl
@[simp] theorem Ho {α:Type} (a b c d:α) (r:List α):jr (a::b::c::d::r) 3=some d:=eI (j:=3) rfl rfl
@[simp] theorem Hn {α:Type} (a b c d e:α) (r:List α):jr (a::b::c::d::e::r) 4=some e:=eI (j:=4) rfl rfl
@[simp] theorem Hm {α:Type} (a b c d e f:α) (r:List α):jr (a::b::c::d::e::f::r) 5=some f:=eI (j:=5) rfl rfl
@[simp] theorem Hl {α:Type} (a b c d e f g:α) (r:List α):jr (a::b::c::d::e::f::g::r) 6=some g:=eI (j:=6) rfl rfl
@[simp] theorem Hk {α:Type} (a b c d e f g h:α) (r:List α):jr (a::b::c::d::e::f::g::h::r) 7=some h:=eI (j:=7) rfl rfl
noncomputable def jA:List D->Option D
 | [.list xs]=>some (.int xs.length)
 | [.tuple xs]=>some (.int xs.length)
 | _=>none
@[simp] theorem mE (xs:List D):jA [.list xs]=some (.int xs.length):=rfl
@[simp] theorem AX (xs:List D):jA [.tuple xs]=some (.int xs.length):=rfl
noncomputable def vq:List D->Option D
 | [.int i,.int j]=>some (.int (if j<i then j else i))
 | _=>none
noncomputable def Fk:List D->Option D
 | [.int i,.int j]=>some (.int (if j>i then j else i))
 | _=>none
@[simp] theorem Db (i j:Int):vq [.int i,.int j]=some (.int (if j<i then j else i)):=rfl
@[simp] theorem Dc (i j:Int):Fk [.int i,.int j]=some (.int (if j>i then j else i)):=rfl
noncomputable def Du:List D->Option D
 | [.int i]=>some (.int i)
 | [.bool b]=>some (.int (if b then 1 else 0))
 | _=>none
@[simp] theorem Dt (i:Int):Du [.int i]=some (.int i):=rfl
@[simp] theorem BS (b:Bool):Du [.bool b]=some (.int (if b then 1 else 0)):=rfl
noncomputable def zg:List D->Option D
 | [.list xs]=>some (.list xs)
 | [.tuple xs]=>some (.list xs)
 | _=>none
@[simp] theorem AS (xs:List D):zg [.list xs]=some (.list xs):=rfl
@[simp] theorem zf (xs:List D):zg [.tuple xs]=some (.list xs):=rfl
noncomputable def bM:List D->Option D
 | [.list xs]=>some (.tuple xs)
 | [.tuple xs]=>some (.tuple xs)
 | _=>none
@[simp] theorem oJ (xs:List D):bM [.list xs]=some (.tuple xs):=rfl
@[simp] theorem wS (xs:List D):bM [.tuple xs]=some (.tuple xs):=rfl
noncomputable def DY:D->Option D
 | .int i=>some (.int (Builtin.Int.intBits i))
 | _=>none
@[simp] theorem BY (i:Int):DY (.int i)=some (.int (Builtin.Int.intBits i)):=rfl
noncomputable def tyN:D->String
 | .none=>"NoneType"
 | .bool _=>"bool"
 | .int _=>"int"
 | .str _=>"str"
 | .list _=>"list"
 | .tuple _=>"tuple"
 | .dict _=>"dict"
noncomputable def Bf (t T:String):Bool:=t==T||(t == "bool" && T == "int")
noncomputable def sg:D->Bool
 | .dict _=>true
 | _=>false
noncomputable def d4 (T:String) (d:D):Option D:=if sg d=true then none else if T = "int" \/ T = "bool" \/ T = "str" \/ T = "list" \/ T = "tuple" then some (.bool (Bf (tyN d) T)) else none
@[simp] theorem zl (i:Int):d4 "int" (.int i)=some (.bool true):=rfl
@[simp] theorem yj (i:Int):d4 "bool" (.int i)=some (.bool false):=rfl
@[simp] theorem yi (i:Bool):d4 "int" (.bool i)=some (.bool true):=rfl
@[simp] theorem wK (i:Bool):d4 "bool" (.bool i)=some (.bool true):=rfl
@[simp] theorem ut (xs:List D):d4 "tuple" (.tuple xs)=some (.bool true):=rfl
@[simp] theorem wJ (xs:List D):d4 "list" (.list xs)=some (.bool true):=rfl
@[simp] noncomputable def b0 (f:Dv->Option D):Sf:=fun δ=>(f δ).bind fun d=>some (.rt d,δ)
@[simp] noncomputable def aU (i:Nat) (f:Dv->Option D):Sf:=fun δ=>(f δ).bind fun d=>some (.nx,δ.set i (.fz d))
@[simp] noncomputable def yY (f:Dv->Option D):Sf:=fun δ=>(f δ).bind fun _=>some (.nx,δ)
@[simp] noncomputable def iR:Sf:=fun δ=>some (.nx,δ)
@[simp] noncomputable def Hh:Sf:=fun δ=>some (.bk,δ)
@[simp] noncomputable def Hg:Sf:=fun δ=>some (.ct,δ)
@[simp] noncomputable def az (s t:Sf):Sf:=fun δ=>(s δ).bind fun r=>match r with
 | (.nx,δ')=>t δ'
 | r=>some r
@[simp] noncomputable def dZ (t:Dv->Option Bool) (u w:Sf):Sf:=fun δ=>(t δ).bind fun c=>if c=true then u δ else w δ
noncomputable def BU (i:Nat) (δ:Dv):Dv:=match δ[i]? with
 | some (.own (.l ds))=>δ.set i (.fz (.list ds))
 | _=>δ
@[simp] noncomputable def gN (i:Nat):D->Dv->Option Dv:=fun d δ=>some (δ.set i (.fz d))
noncomputable def loop (g:D->Dv->Option Dv) (b:Sf):List D->Sf
 | [],δ=>some (.nx,δ)
 | d::ds,δ=>(g d δ).bind fun δ1=>(b δ1).bind fun r=>match r with
  | (.nx,δ2)=>loop g b ds δ2
  | (.ct,δ2)=>loop g b ds δ2
  | (.bk,δ2)=>some (.nx,δ2)
  | (.rt x,δ2)=>some (.rt x,δ2)
@[simp] theorem De (g:D->Dv->Option Dv) (b:Sf) (δ:Dv):loop g b [] δ = some (.nx,δ):=rfl
@[simp] noncomputable def fP (f:Dv->Option (List D)) (g:D->Dv->Option Dv) (b:Sf):Sf:=fun δ=>(f δ).bind fun ds=>loop g b ds δ
noncomputable def jw (lo:Int) (n:Nat):List D:=(List.range n).map fun k=>.int (lo+(k:Nat))
noncomputable def j9:List D->Option (List D)
 | [.int j]=>if j<2 ^ 62 /\ -(2 ^ 62)<=j then some (jw 0 j.toNat) else none
 | _=>none
theorem tu {j:Int} (h:j<4611686018427387904) (h2:-4611686018427387904<=j):j9 [.int j]=some (jw 0 j.toNat):=if_pos ⟨h,h2⟩
@[simp] noncomputable def oL (fs:Dv->Option (List D)) (g:List D->Option (List D)):Dv->Option (List D):=fun δ=>(fs δ).bind g
noncomputable def ba:D->Option (List D)
 | .list xs=>some xs
 | .tuple xs=>some xs
 | _=>none
@[simp] theorem BQ (xs:List D):ba (.list xs)=some xs:=rfl
@[simp] theorem Bc (xs:List D):ba (.tuple xs)=some xs:=rfl
noncomputable def Dd:D->Option (List D)
 | .list xs=>some xs
 | _=>none
noncomputable def EH:D->Option (List D)
 | .tuple xs=>some xs
 | _=>none
@[simp] noncomputable def oI (f:Dv->Option D) (g:D->Option (List D)):Dv->Option (List D):=fun δ=>(f δ).bind g
@[simp] noncomputable def Hi:Dv->Option (Option Int):=fun _=>some none
noncomputable def asI:D->Option (Option Int)
 | .int i=>some (some i)
 | _=>none
@[simp] theorem EC (i:Int):asI (.int i)=some (some i):=rfl
@[simp] noncomputable def oP (f:Dv->Option D):Dv->Option (Option Int):=fun δ=>(f δ).bind asI
noncomputable def p6 (xs:List D) (lo hi:Option Int):List D:=(xs.drop (HT.sIx xs.length 0 lo)).take (HT.sIx xs.length xs.length hi-HT.sIx xs.length 0 lo)
noncomputable def BK:D->Option Int->Option Int->Option D
 | .list xs,lo,hi=>some (.list (p6 xs lo hi))
 | .tuple xs,lo,hi=>some (.tuple (p6 xs lo hi))
 | _,_,_=>none
@[simp] noncomputable def Ff (f:Dv->Option D) (l u:Dv->Option (Option Int)):Dv->Option D:=fun δ=>(f δ).bind fun x=>(l δ).bind fun i=>(u δ).bind fun j=>BK x i j
noncomputable def aC (N:List Str) (as:List D):Dv:=as.map .fz++List.replicate (N.length-as.length) .un
noncomputable def aW (N:List Str) (n:Nat) (b:Sf):List D->Option D:=fun as=>if as.length=n then (b (aC N as)).bind fun r=>match r with
  | (.rt d,_)=>some d
  | (.nx,_)=>some .none
  | _=>none
 else none
theorem rZ {g:D->Dv->Option Dv} {b:Sf} (I:Dv->Prop):∀ (ds:List D),(∀ d∈ds,∀ δ,I δ -> ∃ δ1,g d δ = some δ1/\∃ δ2,b δ1=some (.nx,δ2)/\I δ2)->∀ δ,I δ -> ∃ δ',loop g b ds δ = some (.nx,δ')/\I δ'
 | [],_,δ,hI=>⟨δ,rfl,hI⟩
 | d::ds,h,δ,hI=>by
  obtain ⟨δ1,e1,δ2,e2,h2⟩:=h d List.mem_cons_self δ hI
  obtain ⟨δ',e3,h3⟩:=rZ I ds (fun d hd=>h d (List.mem_cons_of_mem _ hd)) δ2 h2
  refine ⟨δ',?_,h3⟩
  rw [loop,e1]
  show (b δ1).bind _=_
  rw [e2]
  exact e3
end VL
set_option Elab.async false
set_option linter.all false
set_option maxRecDepth 100000
set_option maxHeartbeats 4000000
namespace VL
open PySem PySem.Spec PyProof.Rows L2
noncomputable abbrev Fg:=PySem.W.Frag
noncomputable abbrev St:=L2.St
noncomputable def kQ (a C:Addr):HO:=.ext fun h=>∃ o,h.get? a=some o/\o.cls=.ref C/\∃ vs,o.data=.fields vs/\vs[2]? = some .none
theorem Rd.same {H H':Hp} {a:Addr} {u:HO} (h:Rd H a u) (s:Same H H'):Rd H' a u:=by
 rcases h with h | ⟨o,h⟩
 ·exact .inl (s _ _ h)
 ·exact .inr ⟨o,s _ _ h⟩
inductive Opq (K:Fg) (Z:Hp) (a:Addr):List (D×D)->Prop
 | exc {n:Str} {C:Addr}:PySem.W.nsIn K mainGlobals n=some (some (.ref C))->Rd Z a (kQ a C)->Opq K Z a [(.str "exc",.str n)]
 | fn {n:Str}:PySem.W.nsIn K mainGlobals n=some (some (.ref a))->Opq K Z a [(.str "fn",.str n)]
 | dct {kvs:List (D×D)} {es:List (ay×Int)}:kvs=dctD es->Z a=some (.dK (es.map fun p=>(p.1,V.int p.2)))->Opq K Z a kvs
theorem yz {es:List (ay×Int)} {a:D} {x:Str} {r:List (D×D)} (h:(a,PyData.str x)::r=dctD es):False:=by
 cases es with
 | nil=>cases h
 | cons e es=>simp [dctD] at h
theorem Opq.same {K:Fg} {Z Z':Hp} {a:Addr} {kvs:List (D×D)} (s:Same Z Z') (h:Opq K Z a kvs):Opq K Z' a kvs:=by
 cases h with
 | exc h1 h2=>exact .exc h1 (Rd.same h2 s)
 | fn h1=>exact .fn h1
 | dct h1 h2=>exact .dct h1 (s _ _ h2)
mutual
inductive Rep (K:Fg) (Z:Hp):V->D->Prop
 | non:Rep K Z .non .none
 | bl (b:Bool):Rep K Z (.bl b) (.bool b)
 | int (i:Int):Rep K Z (.int i) (.int i)
 | str (x:Str):Rep K Z (.str x) (.str x)
 | tup {a:Addr} {xs:List V} {ds:List D}:SqT K Z a xs->Reps K Z xs ds->Rep K Z (.ref a) (.tuple ds)
 | lst {a:Addr} {xs:List V} {ds:List D}:SqL K Z a xs->Reps K Z xs ds->Rep K Z (.ref a) (.list ds)
 | opq {a:Addr} {kvs:List (D×D)}:Opq K Z a kvs->Rep K Z (.ref a) (.dict kvs)
inductive Reps (K:Fg) (Z:Hp):List V->List D->Prop
 | nil:Reps K Z [] []
 | cons {v:V} {d:D} {vs:List V} {ds:List D}:Rep K Z v d->Reps K Z vs ds->Reps K Z (v::vs) (d::ds)
end
theorem SqT.same {K:Fg} {H H':Hp} {a:Addr} {xs:List V} (h:SqT K H a xs) (s:Same H H'):SqT K H' a xs:=by
 rcases h with h | h
 ·exact .inl (Rd.same h s)
 ·exact .inr h
theorem SqL.same {K:Fg} {H H':Hp} {a:Addr} {xs:List V} (h:SqL K H a xs) (s:Same H H'):SqL K H' a xs:=by
 rcases h with h | h
 ·exact .inl (Rd.same h s)
 ·exact .inr h
mutual
theorem Rep.same {K:Fg} {Z Z':Hp} (s:Same Z Z'):∀ {v:V} {d:D},Rep K Z v d->Rep K Z' v d
 | _,_,.non=>.non
 | _,_,.bl b=>.bl b
 | _,_,.int i=>.int i
 | _,_,.str x=>.str x
 | _,_,.tup h r=>.tup (SqT.same h s) (Reps.same s r)
 | _,_,.lst h r=>.lst (SqL.same h s) (Reps.same s r)
 | _,_,.opq h=>.opq (Opq.same s h)
theorem Reps.same {K:Fg} {Z Z':Hp} (s:Same Z Z'):∀ {vs:List V} {ds:List D},Reps K Z vs ds->Reps K Z' vs ds
 | _,_,.nil=>.nil
 | _,_,.cons h r=>.cons (Rep.same s h) (Reps.same s r)
end
theorem Reps.length {K:Fg} {Z:Hp}:∀ {vs:List V} {ds:List D},Reps K Z vs ds->vs.length=ds.length
 | _,_,.nil=>rfl
 | _,_,.cons _ r=>congrArg (· + 1) (Reps.length r)
theorem Reps.get {K:Fg} {Z:Hp}:∀ {vs:List V} {ds:List D} {i:Nat} {d:D},Reps K Z vs ds->ds[i]? = some d->∃ v,vs[i]? = some v/\Rep K Z v d
 | _,_,_,_,.nil,e=>by simp at e
 | _,_,0,_,.cons r _,e=>by simp at e; subst e; exact ⟨_,rfl,r⟩
 | _,_,i+1,d,.cons _ t,e=>by
  obtain ⟨u,h1,h2⟩:=Reps.get (i:=i) (d:=d) t (by simpa using e)
  exact ⟨u,by simpa using h1,h2⟩
theorem Reps.getV {K:Fg} {Z:Hp}:∀ {vs:List V} {ds:List D} {i:Nat} {v:V},Reps K Z vs ds->vs[i]? = some v->∃ d,ds[i]? = some d/\Rep K Z v d
 | _,_,_,_,.nil,e=>by simp at e
 | _,_,0,_,.cons r _,e=>by simp at e; subst e; exact ⟨_,rfl,r⟩
 | _,_,i+1,v,.cons _ t,e=>by
  obtain ⟨u,h1,h2⟩:=Reps.getV (i:=i) (v:=v) t (by simpa using e)
  exact ⟨u,by simpa using h1,h2⟩
theorem Reps.set {K:Fg} {Z:Hp} {x:V} {u:D} (r:Rep K Z x u):∀ {xs:List V} {us:List D} (i:Nat),Reps K Z xs us->Reps K Z (xs.set i x) (us.set i u)
 | _,_,_,.nil=>.nil
 | _,_,0,.cons _ t=>.cons r t
 | _,_,i+1,.cons q t=>.cons q (Reps.set r i t)
theorem Reps.append {K:Fg} {Z:Hp}:∀ {xs ys:List V} {us ws:List D},Reps K Z xs us->Reps K Z ys ws->Reps K Z (xs++ys) (us++ws)
 | _,_,_,_,.nil,s=>s
 | _,_,_,_,.cons r t,s=>.cons r (Reps.append t s)
theorem Reps.take {K:Fg} {Z:Hp}:∀ {xs:List V} {us:List D} (n:Nat),Reps K Z xs us->Reps K Z (xs.take n) (us.take n)
 | _,_,0,_=>.nil
 | _,_,_+1,.nil=>.nil
 | _,_,n+1,.cons r t=>.cons r (Reps.take n t)
theorem Reps.drop {K:Fg} {Z:Hp}:∀ {xs:List V} {us:List D} (n:Nat),Reps K Z xs us->Reps K Z (xs.drop n) (us.drop n)
 | _,_,0,r=>r
 | _,_,_+1,.nil=>.nil
 | _,_,n+1,.cons _ t=>Reps.drop n t
theorem Rep.int_eq {K:Fg} {Z:Hp} {v:V} {i:Int} (h:Rep K Z v (.int i)):v=.int i:=by cases h; rfl
theorem Rep.bl_eq {K:Fg} {Z:Hp} {v:V} {b:Bool} (h:Rep K Z v (.bool b)):v=.bl b:=by cases h; rfl
theorem Reps.ints {K:Fg} {Z:Hp}:∀ ns:List Int,Reps K Z (ns.map V.int) (ns.map PyData.int)
 | []=>.nil
 | n::r=>.cons (.int n) (Reps.ints r)
mutual
theorem Rep.reads {X:Cx} {pins:List (Addr×Obj)} {σ:St} {H Z:Hp} {s:Shared} (I:Inv X pins σ H s) (zh:Same Z H):∀ {v:V} {d:D} {u:Value},Rep X.K Z v d->RelV v u->d.canLay0=true->∃ as,Reads s.heap u d as
 | _,_,u,.non,r,_=>by cases (show u=Value.none from r); exact ⟨_,.none⟩
 | _,_,u,.bl b,r,_=>by cases (show u=Value.bool b from r); exact ⟨_,.bool b⟩
 | _,_,u,.int i,r,_=>by obtain ⟨t,rfl⟩:=(show ∃ t,u=Value.int i t from r); exact ⟨_,.int i t⟩
 | _,_,u,.str x,r,_=>by obtain ⟨t,rfl⟩:=(show ∃ t,u=Value.str x t from r); exact ⟨_,.str x t⟩
 | _,_,u,.tup (a:=a) h q,r,hc=>by
  cases (show u=Value.ref a from r)
  obtain ⟨its,rv,ht,_⟩:=I.tuple (SqT.same h zh)
  obtain ⟨as,ra⟩:=Reps.reads I zh q rv hc
  obtain ⟨o,e,c,n,dd⟩:=ht
  exact ⟨_,reads_tuple_at e c dd (by simpa using ra)⟩
 | _,_,u,.lst (a:=a) h q,r,hc=>by
  cases (show u=Value.ref a from r)
  obtain ⟨its,rv,ht,_⟩:=I.list (SqL.same h zh)
  obtain ⟨as,ra⟩:=Reps.reads I zh q rv hc
  obtain ⟨o,n,e,c,_,dd⟩:=ht
  exact ⟨_,reads_list_at e c dd (by simpa using ra)⟩
 | _,_,u,.opq h,r,hc=>by cases hc
theorem Reps.reads {X:Cx} {pins:List (Addr×Obj)} {σ:St} {H Z:Hp} {s:Shared} (I:Inv X pins σ H s) (zh:Same Z H):∀ {vs:List V} {ds:List D} {us:List Value},Reps X.K Z vs ds->Vals vs us->PyData.canLayAll0 ds=true->∃ as,ReadsAll s.heap us ds as
 | _,_,_,.nil,.nil,_=>⟨_,.nil⟩
 | _,_,_,.cons h q,.cons r t,hc=>by
  have hc':=Bool.and_eq_true_iff.mp hc
  obtain ⟨as,ha⟩:=Rep.reads I zh h r hc'.1
  obtain ⟨bs,hb⟩:=Reps.reads I zh q t hc'.2
  exact ⟨_,.cons ha hb⟩
end
noncomputable def xW:HO->Bool
 | .frz _ (.lst _)=>false
 | _=>true
noncomputable def NoF (Z Z':Hp):Prop:=∀ b o xs,Z' b=some (.frz o (.lst xs))->Z b=some (.frz o (.lst xs))
theorem NoF.refl (Z:Hp):NoF Z Z:=fun _ _ _ e=>e
theorem NoF.trans {Z Z1 Z2:Hp} (a:NoF Z Z1) (b:NoF Z1 Z2):NoF Z Z2:=fun c o xs e=>a c o xs (b c o xs e)
theorem NoF.upd {Z Z':Hp} (a:NoF Z Z') (p:Addr) {u:HO} (hu:xW u=true:=by rfl):NoF Z (upd Z' p u):=fun b o xs e=>by
 by_cases hb:b=p
 ·subst hb
  rw [aw] at e
  cases e
  cases hu
 ·rw [ar hb] at e
  exact a b o xs e
structure New (Z H Z' H':Hp):Prop where
 z:Same Z Z'
 h:Same H H'
 zh:Same Z' H'
 o:∀ b,H b≠none->Z' b=Z b
 nf:NoF Z Z'
theorem New.refl {Z H:Hp} (zh:Same Z H):New Z H Z H:=⟨Same.refl _,Same.refl _,zh,fun _ _=>rfl,NoF.refl _⟩
theorem New.trans {Z H Z1 H1 Z2 H2:Hp} (a:New Z H Z1 H1) (b:New Z1 H1 Z2 H2):New Z H Z2 H2:=
 ⟨a.z.trans b.z,a.h.trans b.h,b.zh,fun c hc=>by
  have:H1 c≠none:=by
   cases e:H c with
   | none=>exact absurd e hc
   | some o=>rw [a.h c o e]; intro z; cases z
  rw [b.o c this,a.o c hc],a.nf.trans b.nf⟩
theorem de {H:Hp} {p:Addr} {o:HO} (h:H p=none):Same H (upd H p o):=fun b u e=>by
 rw [ar (aD e h)]; exact e
theorem ix {Z H:Hp} (zh:Same Z H) {p:Addr} (h:H p=none):Z p=none:=by
 cases e:Z p with
 | none=>rfl
 | some o=>rw [zh p o e] at h; cases h
theorem New.add {Z H:Hp} (zh:Same Z H) {p:Addr} (hp:H p=none) (o:HO) (hf:xW o=true:=by rfl):New Z H (upd Z p o) (upd H p o) where
 nf:=(NoF.refl Z).upd p hf
 z:=de (ix zh hp)
 h:=de hp
 zh:=fun b u e=>by
  by_cases hb:b=p
  ·subst hb; rw [aw] at e ⊢; exact e
  ·rw [ar hb] at e ⊢; exact zh b u e
 o:=fun b hb=>by
  have:b≠p:=fun z=>hb (z ▸ hp)
  rw [ar this]
noncomputable def gp (K:Fg) (Z:Hp) (kvs:List (ay×V)) (es:List (ay×D)):Prop:=es.map (·.1)=kvs.map (·.1)/\Reps K Z (kvs.map (·.2)) (es.map (·.2))
inductive OwR (K:Fg) (Z:Hp):HO->Oc->Prop
 | lst {xs:List V} {ds:List D}:Reps K Z xs ds->OwR K Z (.lst xs) (.l ds)
 | dct {kvs:List (ay×V)} {es:List (ay×D)}:gp K Z kvs es->OwR K Z (.dK kvs) (.d es)
theorem OwR.same {K:Fg} {Z Z':Hp} {o:HO} {c:Oc} (h:OwR K Z o c) (s:Same Z Z'):OwR K Z' o c:=by
 cases h with
 | lst r=>exact .lst (r.same s)
 | dct r=>exact .dct ⟨r.1,r.2.same s⟩
noncomputable def FrOk (K:Fg) (H₀ Z₀ Z:Hp) (δ:Dv) (σ:St):Prop:=∀ (i:Nat) ds,δ[i]? = some (.fr ds)->∃ a xs,σ[i]? = some (some (.ref a))/\H₀ a=none/\Z₀ a=none/\Z a=some (.lst xs)/\Reps K Z xs ds
theorem FrOk.same {K:Fg} {H₀ Z₀ Z Z':Hp} {δ:Dv} {σ:St} (h:FrOk K H₀ Z₀ Z δ σ) (s:Same Z Z'):FrOk K H₀ Z₀ Z' δ σ:=fun i ds e=>
 let ⟨a,xs,h1,h2,h3,h4,h5⟩:=h i ds e; ⟨a,xs,h1,h2,h3,s _ _ h4,h5.same s⟩
theorem FrOk.put {K:Fg} {H₀ Z₀ Z:Hp} {δ:Dv} {σ σ':St} (h:FrOk K H₀ Z₀ Z δ σ) {i:Nat} {x:Sl} (hx:∀ ds,x≠Sl.fr ds) (hs:∀ j:Nat,i≠j -> σ'[j]? = σ[j]?):FrOk K H₀ Z₀ Z (δ.set i x) σ':=fun j ds e=>by
 by_cases hj:i=j
 ·subst hj
  have hl:i < δ.length:=by have:=(List.getElem?_eq_some_iff.mp e).1; simpa using this
  rw [List.getElem?_set_self hl] at e
  exact absurd (Option.some.inj e) (hx ds)
 ·rw [List.getElem?_set_ne hj] at e
  obtain ⟨a,xs,h1,r⟩:=h j ds e
  exact ⟨a,xs,by rw [hs j hj]; exact h1,r⟩
structure Hold (K:Fg) (H₀ Z₀ Z:Hp) (δ:Dv) (σ:St) (H:Hp):Prop where
 zh:Same Z H
 h0:Same H₀ H
 z0:Same Z₀ Z
 zb:∀ b,H₀ b≠none->Z b=Z₀ b
 len:δ.length = σ.length
 fz:∀ (i:Nat) d,δ[i]? = some (.fz d)->∃ v,σ[i]? = some (some v)/\Rep K Z v d
 own:∀ (i:Nat) c,δ[i]? = some (.own c)->∃ a o,σ[i]? = some (some (.ref a))/\H₀ a=none/\Z a=none/\H a=some o/\OwR K Z o c
 dja:∀ (i j:Nat) c c' a,i≠j -> δ[i]? = some (.own c) -> δ[j]? = some (.own c') -> σ[i]? = some (some (.ref a)) -> σ[j]? ≠ some (some (V.ref a))
 fr:FrOk K H₀ Z₀ Z δ σ
 nf:NoF Z₀ Z
section
variable {K:Fg} {H₀ Z₀ Z Z' H H':Hp} {δ:Dv} {σ:St}
theorem Hold.ow (h:Hold K H₀ Z₀ Z δ σ H) (i:Nat) (ds:List D) (e:δ[i]? = some (.ow ds)):∃ a xs,σ[i]? = some (some (.ref a))/\H₀ a=none/\Z a=none/\H a=some (.lst xs)/\Reps K Z xs ds:=by
 obtain ⟨a,o,h1,h2,h3,h4,h5⟩:=h.own i _ e
 cases h5 with
 | lst r=>exact ⟨a,_,h1,h2,h3,h4,r⟩
theorem Hold.od (h:Hold K H₀ Z₀ Z δ σ H) (i:Nat) (es:List (ay×D)) (e:δ[i]? = some (.od es)):∃ a kvs,σ[i]? = some (some (.ref a))/\H₀ a=none/\Z a=none/\H a=some (.dK kvs)/\gp K Z kvs es:=by
 obtain ⟨a,o,h1,h2,h3,h4,h5⟩:=h.own i _ e
 cases h5 with
 | dct r=>exact ⟨a,_,h1,h2,h3,h4,r⟩
theorem Hold.new (h:Hold K H₀ Z₀ Z δ σ H) (n:New Z H Z' H'):Hold K H₀ Z₀ Z' δ σ H' where
 zh:=n.zh
 h0:=h.h0.trans n.h
 z0:=h.z0.trans n.z
 zb:=fun b hb=>by
  have:H b≠none:=by
   cases e:H₀ b with
   | none=>exact absurd e hb
   | some o=>rw [h.h0 b o e]; intro z; cases z
  rw [n.o b this,h.zb b hb]
 len:=h.len
 fz:=fun i d e=>let ⟨v,a,r⟩:=h.fz i d e; ⟨v,a,r.same n.z⟩
 own:=fun i ds e=>by
  obtain ⟨a,xs,h1,h2,h3,h4,h5⟩:=h.own i ds e
  exact ⟨a,xs,h1,h2,by rw [n.o a (by rw [h4]; intro z; cases z)]; exact h3,n.h a _ h4,h5.same n.z⟩
 dja:=h.dja
 fr:=h.fr.same n.z
 nf:=h.nf.trans n.nf
theorem Hold.set (h:Hold K H₀ Z₀ Z δ σ H) {i:Nat} {v:V} {d:D} (r:Rep K Z v d):Hold K H₀ Z₀ Z (δ.set i (.fz d)) (σ.set i (some v)) H where
 zh:=h.zh
 h0:=h.h0
 z0:=h.z0
 zb:=h.zb
 len:=by simp [h.len]
 fz:=fun j e q=>by
  by_cases hj:i=j
  ·subst hj
   have hl:i < δ.length:=by
    have:=(List.getElem?_eq_some_iff.mp q).1
    simpa using this
   rw [List.getElem?_set_self hl] at q
   cases q
   exact ⟨v,List.getElem?_set_self (by rw [<- h.len]; exact hl),r⟩
  ·rw [List.getElem?_set_ne hj] at q
   obtain ⟨u,a,b⟩:=h.fz j e q
   exact ⟨u,by rw [List.getElem?_set_ne hj]; exact a,b⟩
 own:=fun j es q=>by
  by_cases hj:i=j
  ·subst hj
   have hl:i < δ.length:=by
    have:=(List.getElem?_eq_some_iff.mp q).1
    simpa using this
   rw [List.getElem?_set_self hl] at q
   cases q
  ·rw [List.getElem?_set_ne hj] at q ⊢
   exact h.own j es q
 dja:=fun j k ds es a hjk q1 q2=>by
  by_cases hj:i=j
  ·subst hj
   have hl:i < δ.length:=by
    have:=(List.getElem?_eq_some_iff.mp q1).1
    simpa using this
   rw [List.getElem?_set_self hl] at q1
   cases q1
  ·by_cases hk:i=k
   ·subst hk
    have hl:i < δ.length:=by
     have:=(List.getElem?_eq_some_iff.mp q2).1
     simpa using this
    rw [List.getElem?_set_self hl] at q2
    cases q2
   ·rw [List.getElem?_set_ne hj] at q1
    rw [List.getElem?_set_ne hk] at q2
    rw [List.getElem?_set_ne hj,List.getElem?_set_ne hk]
    exact h.dja j k ds es a hjk q1 q2
 fr:=h.fr.put (fun _ z=>nomatch z) fun _ hj=>List.getElem?_set_ne hj
 nf:=h.nf
theorem Hold.setW (h:Hold K H₀ Z₀ Z δ σ H) {i:Nat} {p:Addr} {o:HO} {c:Oc} (hp:H p=none) (r:OwR K Z o c):Hold K H₀ Z₀ Z (δ.set i (.own c)) (σ.set i (some (.ref p))) (upd H p o) where
 zh:=h.zh.trans (de hp)
 h0:=h.h0.trans (de hp)
 z0:=h.z0
 zb:=h.zb
 len:=by simp [h.len]
 fz:=fun j e q=>by
  by_cases hj:i=j
  ·subst hj
   have hl:i < δ.length:=by
    have:=(List.getElem?_eq_some_iff.mp q).1
    simpa using this
   rw [List.getElem?_set_self hl] at q
   cases q
  ·rw [List.getElem?_set_ne hj] at q
   obtain ⟨u,a,b⟩:=h.fz j e q
   exact ⟨u,by rw [List.getElem?_set_ne hj]; exact a,b⟩
 own:=fun j es q=>by
  by_cases hj:i=j
  ·subst hj
   have hl:i < δ.length:=by
    have:=(List.getElem?_eq_some_iff.mp q).1
    simpa using this
   rw [List.getElem?_set_self hl] at q
   cases q
   exact ⟨p,o,List.getElem?_set_self (by rw [<- h.len]; exact hl),ix h.h0 hp,ix h.zh hp,aw,r⟩
  ·rw [List.getElem?_set_ne hj] at q ⊢
   obtain ⟨a,ys,h1,h2,h3,h4,h5⟩:=h.own j es q
   exact ⟨a,ys,h1,h2,h3,by rw [ar (aD h4 hp)]; exact h4,h5⟩
 dja:=fun j k ds es a hjk q1 q2=>by
  have old:∀ {m:Nat} {fs:Oc},δ[m]? = some (.own fs) -> σ[m]? ≠ some (some (V.ref p)):=fun {m fs} q z=>by
   obtain ⟨b,ys,h1,h2,h3,h4,h5⟩:=h.own m fs q
   rw [h1] at z
   cases z
   rw [hp] at h4
   cases h4
  have hl:∀ {m:Nat} {x:Sl},(δ.set i x)[m]? ≠ none->m < σ.length:=fun {m x} q=>by
   have:m<(δ.set i x).length:=by
    rcases Nat.lt_or_ge m (δ.set i x).length with g | g
    ·exact g
    ·exact absurd (List.getElem?_eq_none_iff.mpr g) q
   rw [<- h.len]; simpa using this
  by_cases hj:i=j
  ·subst hj
   have h1:i < σ.length:=hl (by rw [q1]; intro z; cases z)
   rw [List.getElem?_set_self h1]
   intro e
   cases e
   rw [List.getElem?_set_ne hjk] at q2 ⊢
   exact old q2
  ·rw [List.getElem?_set_ne hj] at q1 ⊢
   by_cases hk:i=k
   ·subst hk
    have h1:i < σ.length:=hl (by rw [q2]; intro z; cases z)
    intro e z
    rw [List.getElem?_set_self h1] at z
    cases z
    exact old q1 e
   ·rw [List.getElem?_set_ne hk] at q2 ⊢
    exact h.dja j k ds es a hjk q1 q2
 fr:=h.fr.put (fun _ z=>nomatch z) fun _ hj=>List.getElem?_set_ne hj
 nf:=h.nf
theorem Hold.setO (h:Hold K H₀ Z₀ Z δ σ H) {i:Nat} {p:Addr} {xs:List V} {ds:List D} (hp:H p=none) (r:Reps K Z xs ds):Hold K H₀ Z₀ Z (δ.set i (.ow ds)) (σ.set i (some (.ref p))) (upd H p (.lst xs)):=h.setW hp (.lst r)
theorem Hold.chgW (h:Hold K H₀ Z₀ Z δ σ H) {i:Nat} {p:Addr} {o:HO} {ds es:Oc} (e:δ[i]? = some (.own ds)) (ep:σ[i]? = some (some (.ref p))) (r:OwR K Z o es):Hold K H₀ Z₀ Z (δ.set i (.own es)) σ (upd H p o):=by
 obtain ⟨a,zs,h1,h2,h3,h4,h5⟩:=h.own i ds e
 rw [ep] at h1
 cases h1
 have hl:i < δ.length:=(List.getElem?_eq_some_iff.mp e).1
 refine ⟨fun b o' q=>?_,fun b o' q=>?_,h.z0,h.zb,by simp [h.len],fun j d q=>?_,fun j d q=>?_,fun j k d1 d2 a hjk q1 q2=>?_,h.fr.put (fun _ z=>nomatch z) fun _ _=>rfl,h.nf⟩
 ·rw [ar (aD q h3)]; exact h.zh b o' q
 ·rw [ar (aD q h2)]; exact h.h0 b o' q
 ·by_cases hj:i=j
  ·subst hj
   rw [List.getElem?_set_self hl] at q
   cases q
  ·rw [List.getElem?_set_ne hj] at q
   exact h.fz j d q
 ·by_cases hj:i=j
  ·subst hj
   rw [List.getElem?_set_self hl] at q
   cases q
   exact ⟨p,o,ep,h2,h3,aw,r⟩
  ·rw [List.getElem?_set_ne hj] at q
   obtain ⟨b,ws,g1,g2,g3,g4,g5⟩:=h.own j d q
   refine ⟨b,ws,g1,g2,g3,?_,g5⟩
   have:b≠p:=fun z=>by subst z; exact h.dja i j ds d b hj e q ep g1
   rw [ar this]; exact g4
 ·have f:∀ {m:Nat} {dm:Oc},(δ.set i (.own es))[m]? = some (.own dm)->∃ dm',δ[m]? = some (.own dm'):=fun {m dm} q=>by
   by_cases hm:i=m
   ·subst hm; exact ⟨ds,e⟩
   ·rw [List.getElem?_set_ne hm] at q; exact ⟨dm,q⟩
  obtain ⟨e1,g1⟩:=f q1
  obtain ⟨e2,g2⟩:=f q2
  exact h.dja j k e1 e2 a hjk g1 g2
theorem Hold.chg (h:Hold K H₀ Z₀ Z δ σ H) {i:Nat} {p:Addr} {xs ys:List V} {ds es:List D} (e:δ[i]? = some (.ow ds)) (ep:σ[i]? = some (some (.ref p))) (r:Reps K Z ys es):Hold K H₀ Z₀ Z (δ.set i (.ow es)) σ (upd H p (.lst ys)):=h.chgW e ep (.lst r)
theorem Hold.frz (h:Hold K H₀ Z₀ Z δ σ H) {i:Nat} {ds:List D} (e:δ[i]? = some (.ow ds)):∃ Z',Same Z Z'/\Hold K H₀ Z₀ Z' (δ.set i (.fz (.list ds))) σ H:=by
 obtain ⟨a,xs,h1,h2,h3,h4,h5⟩:=h.ow i ds e
 have hl:i < δ.length:=(List.getElem?_eq_some_iff.mp e).1
 have sz:Same Z (upd Z a (.lst xs)):=de h3
 refine ⟨upd Z a (.lst xs),sz,fun b o q=>?_,h.h0,h.z0.trans sz,fun b hb=>?_,by simp [h.len],fun j d q=>?_,fun j d q=>?_,fun j k d1 d2 b hjk q1 q2=>?_,(h.fr.same sz).put (fun _ z=>nomatch z) fun _ _=>rfl,h.nf.upd a⟩
 ·by_cases hb:b=a
  ·subst hb; rw [aw] at q; cases q; exact h4
  ·rw [ar hb] at q; exact h.zh b o q
 ·rw [ar (fun z=>hb (by rw [z]; exact h2))]; exact h.zb b hb
 ·by_cases hj:i=j
  ·subst hj
   rw [List.getElem?_set_self hl] at q
   cases q
   exact ⟨.ref a,h1,.lst (SqL.of aw) (h5.same sz)⟩
  ·rw [List.getElem?_set_ne hj] at q
   obtain ⟨v,g1,g2⟩:=h.fz j d q
   exact ⟨v,g1,g2.same sz⟩
 ·by_cases hj:i=j
  ·subst hj
   rw [List.getElem?_set_self hl] at q
   cases q
  ·rw [List.getElem?_set_ne hj] at q
   obtain ⟨b,ws,g1,g2,g3,g4,g5⟩:=h.own j d q
   have:b≠a:=fun z=>by subst z; exact h.dja i j _ d b hj e q h1 g1
   exact ⟨b,ws,g1,g2,by rw [ar this]; exact g3,g4,g5.same sz⟩
 ·by_cases hj:i=j
  ·subst hj
   rw [List.getElem?_set_self hl] at q1
   cases q1
  ·by_cases hk:i=k
   ·subst hk
    rw [List.getElem?_set_self hl] at q2
    cases q2
   ·rw [List.getElem?_set_ne hj] at q1
    rw [List.getElem?_set_ne hk] at q2
    exact h.dja j k d1 d2 b hjk q1 q2
end
noncomputable def tV (K:Fg) (f:Dv->Option D):TE:=fun σ H Q=>∃ H₀ Z₀ Z δ d,Hold K H₀ Z₀ Z δ σ H/\f δ = some d/\∀ v Z' H',Hold K H₀ Z₀ Z' δ σ H'->Same Z Z'->Rep K Z' v d->Q v H'
noncomputable def BH (K:Fg) (f:Dv->Option Bool):TT:=fun σ H Q=>∃ H₀ Z₀ Z δ b,Hold K H₀ Z₀ Z δ σ H/\f δ = some b/\∀ Z' H',Hold K H₀ Z₀ Z' δ σ H'->Same Z Z'->Q b H'
noncomputable def Gq (K:Fg) (f:Dv->Option (List D)):TA:=fun σ H Q=>∃ H₀ Z₀ Z δ ds,Hold K H₀ Z₀ Z δ σ H/\f δ = some ds/\∀ vs Z' H',Hold K H₀ Z₀ Z' δ σ H'->Same Z Z'->Reps K Z' vs ds->Q vs H'
noncomputable def Fl.to (K:Fg) (Z:Hp) (D:Ends) (σ:St) (H:Hp):Fl->Prop
 | .nx=>D.nx σ H
 | .bk=>D.bk σ H
 | .ct=>D.ct σ H
 | .rt d=>∀ v,Rep K Z v d->D.rt v H
noncomputable def zL (K:Fg) (f:Dv->Option (Fl×Dv)):TS:=fun D σ H=>∃ H₀ Z₀ Z δ r,Hold K H₀ Z₀ Z δ σ H/\f δ = some r/\∀ σ' H' Z',Hold K H₀ Z₀ Z' r.2 σ' H'->Same Z Z'->r.1.to K Z' D σ' H'
noncomputable def EV (X:Cx) (e:Expr) (f:Dv->Option D):Prop:=PE X e (tV X.K f)
noncomputable def TV (X:Cx) (e:Expr) (f:Dv->Option Bool):Prop:=PT X e (BH X.K f)
noncomputable def AV (X:Cx) (es:List Expr) (f:Dv->Option (List D)):Prop:=PA X es (Gq X.K f)
noncomputable def SV (X:Cx) (st:Stmt) (f:Dv->Option (Fl×Dv)):Prop:=PS X st (zL X.K f)
noncomputable def BV (X:Cx) (st:List Stmt) (f:Dv->Option (Fl×Dv)):Prop:=PSs X st (zL X.K f)
theorem PE.imp {X:Cx} {e:Expr} {t t':TE} (h:PE X e t) (i:∀ σ H Q,t' σ H Q->t σ H Q):PE X e t':=fun pins s σ H Q I hw=>h pins s σ H Q I (i _ _ _ hw)
theorem PT.imp {X:Cx} {e:Expr} {t t':TT} (h:PT X e t) (i:∀ σ H Q,t' σ H Q->t σ H Q):PT X e t':=fun pins s σ H Q I hw=>h pins s σ H Q I (i _ _ _ hw)
theorem PA.imp {X:Cx} {es:List Expr} {t t':TA} (h:PA X es t) (i:∀ σ H Q,t' σ H Q->t σ H Q):PA X es t':=fun pos pins s σ H Q I hw=>h pos pins s σ H Q I (i _ _ _ hw)
theorem PS.imp {X:Cx} {st:Stmt} {t t':TS} (h:PS X st t) (i:∀ D σ H,t' D σ H->t D σ H):PS X st t':=fun pins s σ H D I hw=>h pins s σ H D I (i _ _ _ hw)
theorem PSs.imp {X:Cx} {st:List Stmt} {t t':TS} (h:PSs X st t) (i:∀ D σ H,t' D σ H->t D σ H):PSs X st t':=fun pins s σ H D I hw=>h pins s σ H D I (i _ _ _ hw)
theorem OpR.imp {X:Cx} {f:Value->Value->Sem Value} {r r':R2} (h:OpR X f r) (i:∀ x y H Q,r' x y H Q->r x y H Q):OpR X f r':=fun pins s σ H x y v u Q I rx ry q=>h pins s σ H x y v u Q I rx ry (i _ _ _ _ q)
theorem CallR.imp {X:Cx} {f:Value} {r r':List V->Hp->VK->Prop} (h:CallR X f r) (i:∀ xs H Q,r' xs H Q->r xs H Q):CallR X f r':=fun pins s σ H xs us Q I rx q=>h pins s σ H xs us Q I rx (i _ _ _ q)
noncomputable def rD (K:Fg) (g:D->D->Option D):R2:=fun x y H Q=>∃ Z a b d,Same Z H/\Rep K Z x a/\Rep K Z y b/\g a b=some d/\∀ v Z' H',New Z H Z' H'->Rep K Z' v d->Q v H'
noncomputable def Gw (K:Fg) (g:D->Option D):V->Hp->VK->Prop:=fun x H Q=>∃ Z a d,Same Z H/\Rep K Z x a/\g a=some d/\∀ v Z' H',New Z H Z' H'->Rep K Z' v d->Q v H'
noncomputable def u0 (K:Fg) (g:List D->Option D):List V->Hp->VK->Prop:=fun xs H Q=>∃ Z as d,Same Z H/\Reps K Z xs as/\g as=some d/\∀ v Z' H',New Z H Z' H'->Rep K Z' v d->Q v H'
noncomputable def gu (K:Fg) (g:List D->Option D):Sp:=fun vs H Q _=>u0 K g vs H Q
section
variable {X:Cx} {a b c e:Expr} {es:List Expr} {pos p:Pos} {f f1 f2 f3:Dv->Option D} {fs:Dv->Option (List D)} {ft fu:Dv->Option Bool}
theorem bind_some {α β:Type} {o:Option α} {k:α -> Option β} {r:β} (h:o.bind k=some r):∃ a,o=some a/\k a=some r:=by
 cases o with
 | none=>cases h
 | some a=>exact ⟨a,rfl,h⟩
theorem two {K:Fg} {g:D->D->Option D} {σ:St} {H:Hp} {Q:VK} {r:R2} (hr:∀ x y H Q,rD K g x y H Q->r x y H Q) (h:tV K (o2 f1 f2 g) σ H Q):B9 r (tV K f1) (tV K f2) σ H Q:=by
 obtain ⟨H₀,Z₀,Z,δ,d,hh,e,k⟩:=h
 obtain ⟨x,e1,e⟩:=bind_some e
 obtain ⟨y,e2,e⟩:=bind_some e
 refine ⟨H₀,Z₀,Z,δ,x,hh,e1,fun v Z1 H1 hh1 s1 r1=>⟨H₀,Z₀,Z1,δ,y,hh1,e2,fun u Z2 H2 hh2 s2 r2=>hr _ _ _ _ ⟨Z2,x,y,d,hh2.zh,r1.same s2,r2,e,fun w Z3 H3 n r3=>?_⟩⟩⟩
 exact k w Z3 H3 (hh2.new n) ((s1.trans s2).trans n.z) r3
theorem ak {op:Operator} {g:D->D->Option D} (ho:OpR X (binaryOp op) (rD X.K g)) (ha:EV X a f1) (hb:EV X b f2):EV X (.BinOp a op b pos) (o2 f1 f2 g):=
 PE.imp (CT ho ha hb) fun _ _ _ h=>two (fun _ _ _ _ q=>q) h
theorem DK {op:UnaryOp} {g:D->Option D} (ho:Ec X (unaryOp op) (Gw X.K g)) (ha:EV X a f):EV X (.UnaryOp op a pos) (o1 f g):=
 PE.imp (CS ho ha) fun σ H Q h=>by
  obtain ⟨H₀,Z₀,Z,δ,d,hh,e,k⟩:=h
  obtain ⟨x,e1,e⟩:=bind_some e
  exact ⟨H₀,Z₀,Z,δ,x,hh,e1,fun v Z1 H1 hh1 s1 r1=>⟨Z1,x,d,hh1.zh,r1,e,fun w Z3 H3 n r3=>k w Z3 H3 (hh1.new n) (s1.trans n.z) r3⟩⟩
theorem gR {op:CmpOp} {g:D->D->Option D} (ho:OpR X (compareOp op) (rD X.K g)) (ha:EV X a f1) (hb:EV X b f2) (hm:behindInMarks op b=false):EV X (.Compare a [op] [b] pos) (o2 f1 f2 g):=
 PE.imp (xN ho ha hb hm) fun _ _ _ h=>two (fun _ _ _ _ q=>q) h
theorem q9 {d:D} {b:Bool} (h:asB d=some b):d=.bool b:=by
 cases d <;> simp [asB] at h
 subst h; rfl
theorem Gm {K:Fg} {σ:St} {H:Hp} {Q:Bool->Hp->Prop} (h:BH K (ob f) σ H Q):tV K f σ H fun x H1=>∃ c,x=.bl c/\Q c H1:=by
 obtain ⟨H₀,Z₀,Z,δ,d,hh,e,k⟩:=h
 obtain ⟨x,e1,e⟩:=bind_some e
 have:=q9 e
 subst this
 exact ⟨H₀,Z₀,Z,δ,_,hh,e1,fun v Z1 H1 hh1 s1 r1=>⟨_,r1.bl_eq,k Z1 H1 hh1 s1⟩⟩
theorem aI {op:CmpOp} {g:D->D->Option D} (ho:OpR X (compareOp op) (rD X.K g)) (ha:EV X a f1) (hb:EV X b f2) (hm:behindInMarks op b=false):TV X (.Compare a [op] [b] pos) (ob (o2 f1 f2 g)):=
 PT.imp (xB ho ha hb hm) fun σ H Q h=>by
  have h':=Gm h
  exact two (f1:=f1) (f2:=f2) (g:=g) (fun _ _ _ _ q=>q) h'
theorem cu (ha:EV X a f) (he:∀ whole,isTrue a X.env whole=(do let v <- whole; standAt a.pos; holding [v] (truthy v)):=by intro _; rfl):TV X a (ob f):=
 PT.imp (An ha he) fun _ _ _ h=>Gm h
noncomputable def WV (X:Cx) (e:Expr) (f:Dv->Option Bool):Prop:=PW X e (BH X.K f)
theorem PW.imp {X:Cx} {e:Expr} {t t':TT} (h:PW X e t) (i:∀ σ H Q,t' σ H Q->t σ H Q):PW X e t':=fun whole pins s σ H Q I hw=>h whole pins s σ H Q I (i _ _ _ hw)
theorem jL (ha:TV X a ft):WV X (.BoolOp .And [a] pos) ft:=xA ha
theorem mY (ha:TV X a ft):WV X (.BoolOp .Or [a] pos) ft:=Al ha
theorem iM {rest:List Expr} (ha:TV X a ft) (hb:WV X (.BoolOp .And (b::rest) pos) fu):WV X (.BoolOp .And (a::b::rest) pos) (gM ft fu):=
 PW.imp (Am ha hb) fun σ H Q h=>by
  obtain ⟨H₀,Z₀,Z,δ,d,hh,e,k⟩:=h
  obtain ⟨x,e1,e⟩:=bind_some e
  refine ⟨H₀,Z₀,Z,δ,x,hh,e1,fun Z1 H1 hh1 s1=>?_⟩
  cases x with
  | true=>exact ⟨H₀,Z₀,Z1,δ,d,hh1,e,fun Z2 H2 hh2 s2=>k Z2 H2 hh2 (s1.trans s2)⟩
  | false=>cases e; exact k Z1 H1 hh1 s1
theorem oz {rest:List Expr} (ha:TV X a ft) (hb:WV X (.BoolOp .Or (b::rest) pos) fu):WV X (.BoolOp .Or (a::b::rest) pos) (BN ft fu):=
 PW.imp (CM ha hb) fun σ H Q h=>by
  obtain ⟨H₀,Z₀,Z,δ,d,hh,e,k⟩:=h
  obtain ⟨x,e1,e⟩:=bind_some e
  refine ⟨H₀,Z₀,Z,δ,x,hh,e1,fun Z1 H1 hh1 s1=>?_⟩
  cases x with
  | true=>cases e; exact k Z1 H1 hh1 s1
  | false=>exact ⟨H₀,Z₀,Z1,δ,d,hh1,e,fun Z2 H2 hh2 s2=>k Z2 H2 hh2 (s1.trans s2)⟩
theorem WV.tv (h:WV X a ft):TV X a ft:=PW.pt h
theorem dL (ha:TV X a ft):TV X (.UnaryOp .Not a pos) (gK ft):=
 PT.imp (Ao ha) fun σ H Q h=>by
  obtain ⟨H₀,Z₀,Z,δ,d,hh,e,k⟩:=h
  cases e1:ft δ with
  | none=>unfold gK at e; rw [e1] at e; cases e
  | some x=>
   unfold gK at e
   rw [e1] at e
   cases e
   exact ⟨H₀,Z₀,Z,δ,x,hh,e1,fun Z1 H1 hh1 s1=>k Z1 H1 hh1 s1⟩
theorem nV {op} (h:EV X a f):EV X (.BoolOp op [a] pos) f:=Aw h
theorem jb {rest:List Expr} (ha:EV X a f1) (hb:EV X (.BoolOp .And (b::rest) pos) f2):EV X (.BoolOp .And (a::b::rest) pos) (kw f1 f2):=
 PE.imp (Az ha hb) fun σ H Q h=>by
  obtain ⟨H₀,Z₀,Z,δ,d,hh,e,k⟩:=h
  obtain ⟨x,e1,e⟩:=bind_some e
  obtain ⟨c,e2,e⟩:=bind_some e
  have:=q9 e2
  subst this
  refine ⟨H₀,Z₀,Z,δ,_,hh,e1,fun v Z1 H1 hh1 s1 r1=>⟨c,r1.bl_eq,?_⟩⟩
  cases c with
  | true=>exact ⟨H₀,Z₀,Z1,δ,d,hh1,e,fun v Z2 H2 hh2 s2 r2=>k v Z2 H2 hh2 (s1.trans s2) r2⟩
  | false=>cases e; exact k _ Z1 H1 hh1 s1 (.bl false)
theorem v5 (ha:EV X a f):EV X (.UnaryOp .Not a pos) (o1 f vi):=
 PE.imp (Ax ha) fun σ H Q h=>by
  obtain ⟨H₀,Z₀,Z,δ,d,hh,e,k⟩:=h
  obtain ⟨x,e1,e⟩:=bind_some e
  cases e2:asB x with
  | none=>unfold vi at e; rw [e2] at e; cases e
  | some c=>
   unfold vi at e
   rw [e2] at e
   cases e
   have:=q9 e2
   subst this
   exact ⟨H₀,Z₀,Z,δ,_,hh,e1,fun v Z1 H1 hh1 s1 r1=>⟨c,r1.bl_eq,k _ Z1 H1 hh1 s1 (.bl _)⟩⟩
theorem v9 (hc:TV X c ft) (ha:EV X a f1) (hb:EV X b f2):EV X (.IfExp c a b pos) (Fh ft f1 f2):=
 PE.imp (va hc ha hb) fun σ H Q h=>by
  obtain ⟨H₀,Z₀,Z,δ,d,hh,e,k⟩:=h
  obtain ⟨x,e1,e⟩:=bind_some e
  refine ⟨H₀,Z₀,Z,δ,x,hh,e1,fun Z1 H1 hh1 s1=>?_⟩
  cases x with
  | true=>exact ⟨H₀,Z₀,Z1,δ,d,hh1,e,fun v Z2 H2 hh2 s2 r2=>k v Z2 H2 hh2 (s1.trans s2) r2⟩
  | false=>exact ⟨H₀,Z₀,Z1,δ,d,hh1,e,fun v Z2 H2 hh2 s2 r2=>k v Z2 H2 hh2 (s1.trans s2) r2⟩
theorem Hold.read {K:Fg} {H₀ Z₀ Z H:Hp} {δ:Dv} {σ:St} (hh:Hold K H₀ Z₀ Z δ σ H) {i:Nat} {d:D} (h:oV i δ = some d):∃ v,σ[i]? = some (some v)/\Rep K Z v d:=by
 unfold oV at h
 cases q:δ[i]? with
 | none=>rw [q] at h; cases h
 | some x=>
  rw [q] at h
  cases x with
  | fz e=>cases h; exact hh.fz i _ q
  | un=>cases h
  | own _=>cases h
  | fr ds=>
   cases h
   obtain ⟨a,xs,h1,_,_,h4,h5⟩:=hh.fr i ds q
   exact ⟨.ref a,h1,.lst (SqL.of h4) h5⟩
theorem ac (i:Nat) {x:Str} (hN:X.N[i]? = some x:=by rfl) (hv:uu X.env.scope x:=by first | exact Or.inl rfl | exact Or.inr (Or.inl rfl) | exact Or.inr (Or.inr rfl)) (hd:(x==("__debug__":Str))=false:=by decide) (hcd:(x==("__classdict__":Str))=false:=by decide) :
  EV X (.Name x pos) (oV i):=
 PE.imp (eA hN hv hd hcd) fun σ H Q h=>by
  obtain ⟨H₀,Z₀,Z,δ,d,hh,e,k⟩:=h
  obtain ⟨v,q,r⟩:=hh.read e
  exact ⟨v,q,k v Z H hh (Same.refl _) r⟩
theorem Bl {d:D} {v:V} (h:PE X e (tC v)) (r:∀ Z,Rep X.K Z v d):EV X e (oC d):=
 PE.imp h fun σ H Q h=>by
  obtain ⟨H₀,Z₀,Z,δ,d',hh,e,k⟩:=h
  cases e
  exact k v Z H hh (Same.refl _) (r Z)
theorem ae {i j}:EV X (.Constant (.int i) j pos) (oC (.int i)):=Bl Ay fun _=>.int i
theorem fU {i j}:EV X (.Constant (.bool i) j pos) (oC (.bool i)):=Bl CW fun _=>.bl i
theorem kR {i j}:EV X (.Constant (.str i) j pos) (oC (.str i)):=Bl Av fun _=>.str i
theorem aj:AV X [] ax:=
 PA.imp dl fun σ H Q h=>by
  obtain ⟨H₀,Z₀,Z,δ,d,hh,e,k⟩:=h
  cases e
  exact k [] Z H hh (Same.refl _) .nil
theorem af (ha:EV X e f) (hr:AV X es fs) (hs:starEach (e::es) X.env=(false,eval e X.env)::starEach es X.env:=by rfl):AV X (e::es) (ag f fs):=
 PA.imp (bE ha hr hs) fun σ H Q h=>by
  obtain ⟨H₀,Z₀,Z,δ,d,hh,e,k⟩:=h
  obtain ⟨x,e1,e⟩:=bind_some e
  obtain ⟨xs,e2,e⟩:=bind_some e
  cases e
  exact ⟨H₀,Z₀,Z,δ,x,hh,e1,fun v Z1 H1 hh1 s1 r1=>⟨H₀,Z₀,Z1,δ,xs,hh1,e2,fun vs Z2 H2 hh2 s2 r2=>k _ Z2 H2 hh2 (s1.trans s2) (.cons (r1.same s2) r2)⟩⟩
theorem b5 {x1} (h:AV X es fs):EV X (.Tuple es x1 pos) (os fs cg):=
 PE.imp (Au h) fun σ H Q h=>by
  obtain ⟨H₀,Z₀,Z,δ,d,hh,e,k⟩:=h
  obtain ⟨xs,e1,e⟩:=bind_some e
  refine ⟨H₀,Z₀,Z,δ,xs,hh,e1,fun vs Z1 H1 hh1 s1 r1=>?_⟩
  by_cases hl:xs.length<=sizeLine
  ·rw [cg,if_pos hl] at e
   cases e
   refine ⟨by rw [r1.length]; exact hl,fun p hp=>?_⟩
   have n:=New.add hh1.zh hp (.tup vs)
   exact k _ _ _ (hh1.new n) (s1.trans n.z) (.tup (SqT.of aw) (r1.same n.z))
  ·rw [cg,if_neg hl] at e; cases e
theorem ja (h:AV X es fs):EV X (.List es pos) (os fs fF):=
 PE.imp (u9 h) fun σ H Q h=>by
  obtain ⟨H₀,Z₀,Z,δ,d,hh,e,k⟩:=h
  obtain ⟨xs,e1,e⟩:=bind_some e
  refine ⟨H₀,Z₀,Z,δ,xs,hh,e1,fun vs Z1 H1 hh1 s1 r1=>?_⟩
  by_cases hl:xs.length<=sizeLine
  ·rw [fF,if_pos hl] at e
   cases e
   refine ⟨by rw [r1.length]; exact hl,fun p hp=>?_⟩
   have n:=New.add hh1.zh hp (.lst vs)
   exact k _ _ _ (hh1.new n) (s1.trans n.z) (.lst (SqL.of aw) (r1.same n.z))
  ·rw [fF,if_neg hl] at e; cases e
theorem args {K:Fg} {g:List D->Option D} {σ:St} {H:Hp} {Q:VK} (h:tV K (os fs g) σ H Q):Gq K fs σ H fun vs H1=>u0 K g vs H1 Q:=by
 obtain ⟨H₀,Z₀,Z,δ,d,hh,e,k⟩:=h
 obtain ⟨xs,e1,e⟩:=bind_some e
 exact ⟨H₀,Z₀,Z,δ,xs,hh,e1,fun vs Z1 H1 hh1 s1 r1=>⟨Z1,xs,d,hh1.zh,r1,e,fun w Z3 H3 n r3=>k w Z3 H3 (hh1.new n) (s1.trans n.z) r3⟩⟩
theorem cx {x:Str} {id:String} {g:List D->Option D} (hc:CallR X (.builtin id) (u0 X.K g)) (hg:Gl X x) (hm:X.mg x=none) (hv:bootBuiltins x=some (.builtin id)) (ha:AV X (e::es) fs) (hn:x ≠ "__name__":=by decide) (hdb:(x==("__debug__":Str))=false:=by decide)
  (he:starEach (e::es) X.env=(false,eval e X.env)::starEach es X.env:=by rfl) (hpl:(backTo pos (starEach es X.env)).any (·.1)=false:=by rfl):EV X (.Call (.Name x p) (e::es) [] pos) (os fs g):=
 PE.imp (dR hc hg hm hv ha hn hdb he hpl) fun _ _ _ h=>args h
theorem cq {x:Str} {id:String} {g:List D->Option D} (hc:CallR X (.type id) (u0 X.K g)) (hg:Gl X x) (hm:X.mg x=none) (hv:bootBuiltins x=some (.type id)) (ha:AV X (e::es) fs) (hn:x ≠ "__name__":=by decide) (hdb:(x==("__debug__":Str))=false:=by decide)
  (he:starEach (e::es) X.env=(false,eval e X.env)::starEach es X.env:=by rfl) (hpl:(backTo pos (starEach es X.env)).any (·.1)=false:=by rfl):EV X (.Call (.Name x p) (e::es) [] pos) (os fs g):=
 PE.imp (mn hc hg hm hv ha hn hdb he hpl) fun _ _ _ h=>args h
theorem yv {k:Nat} {fa:Addr} {fd:FuncData} {ps:List Str} {x:Str} {g:List D->Option D} {dd:List D} {dv:List V} {ds:List Value} (F:FnOk X.prog X.w X.K X.mg X.base dJ k fa fd ps (gu X.K g)) (hr:Room k X.A) (hg:Gl X x) (hm:X.mg x=some (.ref fa)) (hk:PySem.W.keepIn X.K (.ref fa)=true)
  (hb:Binds X.K fd ps ds) (hd:Vals dv ds) (hdd:∀ Z,Reps X.K Z dv dd) (hx:ou dJ X E0) (ha:AV X (e::es) fs) (hdb:(x==("__debug__":Str))=false:=by decide) (he:starEach (e::es) X.env=(false,eval e X.env)::starEach es X.env:=by rfl) (hpl:(backTo pos (starEach es X.env)).any (·.1)=false:=by rfl) :
  EV X (.Call (.Name x p) (e::es) [] pos) (os fs fun as=>g (as++dd)):=
 PE.imp (rO F hr hg hm hk hb hd hx ha hdb he hpl) fun σ H Q h=>by
  obtain ⟨H₀,Z₀,Z,δ,xs,hh,e1,q⟩:=args h
  refine ⟨H₀,Z₀,Z,δ,xs,hh,e1,fun vs Z1 H1 hh1 s1 r1=>?_⟩
  obtain ⟨Z2,as,d,zh,ra,eg,kk⟩:=q vs Z1 H1 hh1 s1 r1
  exact ⟨Z2,as++dd,d,zh,ra.append (hdd Z2),eg,kk⟩
theorem IxR.imp {r r':R2} (h:IxR X r) (i:∀ x y H Q,r' x y H Q->r x y H Q):IxR X r':=fun value slice pins s σ H x y v u Q I rx ry q hs=>h value slice pins s σ H x y v u Q I rx ry (i _ _ _ _ q) hs
theorem au {g:D->D->Option D} (ho:IxR X (rD X.K g)) (ha:EV X a f1) (hb:EV X b f2) (hs:sO b):EV X (.Subscript a b pos) (o2 f1 f2 g):=
 PE.imp (CU ho ha hb hs) fun _ _ _ h=>two (fun _ _ _ _ q=>q) h
end
end VL
set_option Elab.async false
set_option linter.all false
set_option maxRecDepth 100000
set_option maxHeartbeats 4000000
namespace VL
open PySem PySem.Spec PyProof.Rows L2
section
variable {X:Cx} {a b c e tg:Expr} {es:List Expr} {pos p:Pos} {f f1 f2 f3:Dv->Option D} {fs:Dv->Option (List D)} {ft fu:Dv->Option Bool} {st:Stmt} {sts body:List Stmt} {s1 s2:Dv->Option (Fl×Dv)}
theorem vf {F:Value->Value->Sem Value} {g:Int->Int->Int} (h:OpR X F (wI fun i j=>.int (g i j))):OpR X F (rD X.K (iI g)):=
 OpR.imp h fun x y H Q q=>by
  obtain ⟨Z,a,b,d,zh,ra,rb,e,k⟩:=q
  cases ra <;> cases rb <;> simp [iI] at e
  subst e
  exact ⟨_,_,rfl,rfl,k _ Z H (New.refl zh) (.int _)⟩
theorem zc {F:Value->Value->Sem Value} {g:Int->Int->Bool} (h:OpR X F (wI fun i j=>.bl (g i j))):OpR X F (rD X.K (iB g)):=
 OpR.imp h fun x y H Q q=>by
  obtain ⟨Z,a,b,d,zh,ra,rb,e,k⟩:=q
  cases ra <;> cases rb <;> simp [iB] at e
  subst e
  exact ⟨_,_,rfl,rfl,k _ Z H (New.refl zh) (.bl _)⟩
theorem mt {F:Value->Value->Sem Value} {P:Int->Int->Prop} {C:Int->Int->Bool} {g:Int->Int->Int} (h:OpR X F (rI P fun i j=>.int (g i j))) (hc:∀ i j,C i j=true->P i j):OpR X F (rD X.K (iC C g)):=
 OpR.imp h fun x y H Q q=>by
  obtain ⟨Z,a,b,d,zh,ra,rb,e,k⟩:=q
  cases ra with
  | int i=>
   cases rb with
   | int j=>
    by_cases hh:C i j=true
    ·simp only [iC,if_pos hh] at e
     cases e
     exact ⟨_,_,rfl,rfl,hc _ _ hh,k _ Z H (New.refl zh) (.int _)⟩
    ·simp only [iC,if_neg hh] at e
     cases e
   | _=>simp [iC] at e
  | _=>simp [iC] at e
theorem fD:OpR X (binaryOp .Sub) (rD X.K fM):=vf AD
theorem n3:OpR X (binaryOp .Mult) (rD X.K gO):=mt (P:=fun i j=>IntMulOk i j) (BM fun _ _ _ _ _ _ _ hc q=>mul_int q hc) fun i j h=>of_decide_eq_true h
theorem dW:OpR X (binaryOp .FloorDiv) (rD X.K dq):=mt xQ fun i j h=>(of_decide_eq_true h:0<j/\j<1073741824)
theorem bg:OpR X (binaryOp .Mod) (rD X.K aV):=mt AG fun i j h=>of_decide_eq_true h
theorem zt:OpR X (binaryOp .Pow) (rD X.K tw):=mt AF fun i j h=>(of_decide_eq_true h:0<=j/\j<=1000000/\i.natAbs<2 ^ 64)
theorem p4:OpR X (binaryOp .LShift) (rD X.K ju):=mt (P:=fun i j=>0<=j/\(Builtin.Int.intBits i:Int)+j<=2 ^ 27) (BM fun _ _ _ _ _ _ _ hc q=>lshift_int hc.1 hc.2 q) fun i j h=>of_decide_eq_true h
theorem pZ:OpR X (binaryOp .RShift) (rD X.K j3):=mt AE fun i j h=>of_decide_eq_true h
theorem zu:OpR X (binaryOp .BitAnd) (rD X.K Bu):=vf AH
theorem jo:OpR X (binaryOp .BitXor) (rD X.K mX):=vf AC
theorem Bo:OpR X (compareOp .Lt) (rD X.K BO):=zc C1
theorem ui:OpR X (compareOp .Gt) (rD X.K vT):=zc C3
theorem DQ:Ec X (unaryOp .USub) (Gw X.K negD):=by
 intro pins s σ H x v Q I rx q
 obtain ⟨Z,a,d,zh,ra,e,k⟩:=q
 cases ra <;> simp [negD] at e
 subst e
 exact zG pins s σ H _ v Q I rx ⟨_,rfl,k _ Z H (New.refl zh) (.int _)⟩
theorem Rep.str_eq {K:Fg} {Z:Hp} {v:V} {x:Str} (h:Rep K Z v (.str x)):v=.str x:=by cases h; rfl
theorem Rep.tup_ex {K:Fg} {Z:Hp} {v:V} {ds:List D} (h:Rep K Z v (.tuple ds)):∃ a xs,v=.ref a/\SqT K Z a xs/\Reps K Z xs ds:=by
 cases h with
 | tup p q=>exact ⟨_,_,rfl,p,q⟩
theorem Rep.lst_ex {K:Fg} {Z:Hp} {v:V} {ds:List D} (h:Rep K Z v (.list ds)):∃ a xs,v=.ref a/\SqL K Z a xs/\Reps K Z xs ds:=by
 cases h with
 | lst p q=>exact ⟨_,_,rfl,p,q⟩
theorem bX {p:Prop} [Decidable p] {α:Type} {x y:α} (h:(if p then some x else none)=some y):p/\x=y:=by
 by_cases q:p
 ·rw [if_pos q] at h; exact ⟨q,Option.some.inj h⟩
 ·rw [if_neg q] at h; cases h
theorem Bz {a b d:D} (h:aR a b=some d):(∃ i,a=.int i)\/(∃ x,a=.str x)\/(∃ xs,a=.list xs)\/∃ xs,a=.tuple xs:=by
 cases a with
 | int i=>exact .inl ⟨_,rfl⟩
 | str i=>exact .inr (.inl ⟨_,rfl⟩)
 | list i=>exact .inr (.inr (.inl ⟨_,rfl⟩))
 | tuple i=>exact .inr (.inr (.inr ⟨_,rfl⟩))
 | _=>cases h
theorem BA {i:Int} {b d:D} (h:aR (.int i) b=some d):∃ j,b=.int j/\d=.int (i+j):=by
 cases b with
 | int j=>exact ⟨j,rfl,(Option.some.inj h).symm⟩
 | _=>cases h
theorem Bx {i:Str} {b d:D} (h:aR (.str i) b=some d):∃ j,b=.str j/\i.length+j.length<=sizeLine/\d=.str (i++j):=by
 cases b with
 | str j=>obtain ⟨p,q⟩:=bX h; exact ⟨j,rfl,p,q.symm⟩
 | _=>cases h
theorem By {i:List D} {b d:D} (h:aR (.list i) b=some d):∃ j,b=.list j/\i.length+j.length<=sizeLine/\d=.list (i++j):=by
 cases b with
 | list j=>obtain ⟨p,q⟩:=bX h; exact ⟨j,rfl,p,q.symm⟩
 | _=>cases h
theorem Bw {i:List D} {b d:D} (h:aR (.tuple i) b=some d):∃ j,b=.tuple j/\i.length+j.length<=sizeLine/\d=.tuple (i++j):=by
 cases b with
 | tuple j=>obtain ⟨p,q⟩:=bX h; exact ⟨j,rfl,p,q.symm⟩
 | _=>cases h
theorem bY:OpR X (binaryOp .Add) (rD X.K aR):=by
 intro pins s σ H x y v u Q I rx ry q
 obtain ⟨Z,a,b,d,zh,ra,rb,e,k⟩:=q
 rcases Bz e with ⟨i,rfl⟩ | ⟨i,rfl⟩ | ⟨ds,rfl⟩ | ⟨ds,rfl⟩
 ·obtain ⟨j,rfl,rfl⟩:=BA e
  cases ra.int_eq
  cases rb.int_eq
  exact AI pins s σ H _ _ v u Q I rx ry ⟨_,_,rfl,rfl,k _ Z H (New.refl zh) (.int _)⟩
 ·obtain ⟨j,rfl,hl,rfl⟩:=Bx e
  cases ra.str_eq
  cases rb.str_eq
  exact qE pins s σ H _ _ v u Q I rx ry ⟨_,_,rfl,rfl,hl,k _ Z H (New.refl zh) (.str _)⟩
 ·obtain ⟨es,rfl,hl,rfl⟩:=By e
  obtain ⟨a,xs,rfl,h1,q1⟩:=ra.lst_ex
  obtain ⟨b,ys,rfl,h2,q2⟩:=rb.lst_ex
  cases rx
  cases ry
  obtain ⟨its,r1,p1,z1⟩:=I.list (SqL.same h1 zh)
  obtain ⟨its2,r2,p2,z2⟩:=I.list (SqL.same h2 zh)
  obtain ⟨⟨cls,dd,data,sl⟩,n1,ho,hc,hdd,hd⟩:=p1
  obtain ⟨⟨cls2,dd2,data2,sl2⟩,n2,ho2,hc2,hdd2,hd2⟩:=p2
  simp only at hc hd hc2 hd2
  subst hc hd hc2 hd2
  have hl1:=r1.length
  have hl2:=r2.length
  have ql1:=q1.length
  have ql2:=q2.length
  refine concat_meets ⟨_,ho,rfl⟩ ⟨_,ho2,rfl⟩ noFill_list_add seq_list_add PySem.F.slot_list_add PySem.F.entry_list_add (PySem.F.args_list_add_2 _ _) (list_addW a b its.toArray its2.toArray n1 n2 dd dd2 sl sl2 (by simp; omega)) ⟨ho,ho2,?_⟩
  have ea:its.toArray++its2.toArray=(its++its2).toArray:=by simp
  rw [ea]
  have n:=New.add zh I.fresh (.lst (xs++ys))
  exact ⟨.ref _,_,I.lnew (t':=s.toks) (r1.append r2) (by rw [List.length_append]; omega),rfl,k _ _ _ n (.lst (SqL.of aw) ((q1.append q2).same n.z))⟩
 ·obtain ⟨es,rfl,hl,rfl⟩:=Bw e
  obtain ⟨a,xs,rfl,h1,q1⟩:=ra.tup_ex
  obtain ⟨b,ys,rfl,h2,q2⟩:=rb.tup_ex
  by_cases h0:ds.length=0
  ·have hd0:ds=[]:=List.eq_nil_of_length_eq_zero h0
   subst hd0
   cases q1
   cases rx
   cases ry
   obtain ⟨its,r1,p1,z1⟩:=I.tuple (SqT.same h1 zh)
   obtain ⟨its2,r2,p2,z2⟩:=I.tuple (SqT.same h2 zh)
   cases r1
   obtain ⟨⟨cls,dd,data,sl⟩,ho,hc,n,hd⟩:=id p1
   obtain ⟨⟨cls2,dd2,data2,sl2⟩,ho2,hc2,n2,hd2⟩:=id p2
   simp only at hc hd hc2 hd2
   subst hc hd hc2 hd2
   exact concat_meets ⟨_,ho,rfl⟩ ⟨_,ho2,rfl⟩ noFill_tuple_add seq_tuple_add PySem.F.slot_tuple_add PySem.F.entry_tuple_add (PySem.F.args_tuple_add_2 _ _)
    (tuple_addW0 a b _ its2.toArray n n2 dd dd2 sl sl2 (by simp)) ⟨ho,ho2,⟨.ref b,H,I,rfl,k _ Z H (New.refl zh) (.tup h2 q2)⟩⟩
  refine xR pins s σ H _ _ v u Q I rx ry ⟨a,b,xs,ys,rfl,rfl,SqT.same h1 zh,SqT.same h2 zh,fun z=>h0 (by rw [<- q1.length,z]; rfl),by rw [q1.length,q2.length]; exact hl,fun z=>?_,fun z p hp=>?_⟩
  ·subst z
   cases q2
   rw [List.append_nil] at k
   exact k _ Z H (New.refl zh) (.tup h1 q1)
  ·have n:=New.add zh hp (.tup (xs++ys))
   exact k _ _ _ n (.tup (SqT.of aw) ((q1.append q2).same n.z))
theorem jO {d:D} (h:wH d=true):d.canLay0=true:=(Bool.and_eq_true_iff.mp h).1
theorem eE (hu:X.A.units+64<cLine):OpR X (compareOp .Eq) (rD X.K gn):=by
 intro pins s σ H x y v u Q I rx ry q
 obtain ⟨Z,a,b,d,zh,ra,rb,e,k⟩:=q
 by_cases hs:wH a=true/\wH b=true
 ·rw [gn,if_pos hs] at e
  cases e
  obtain ⟨as,r1⟩:=ra.reads I zh rx (jO hs.1)
  obtain ⟨bs,r2⟩:=rb.reads I zh ry (jO hs.2)
  exact eq_dataH r1 r2 hs.1 hs.2 hu ⟨.bl _,H,I,rfl,k _ Z H (New.refl zh) (.bl _)⟩
 ·rw [gn,if_neg hs] at e; cases e
theorem nZ (hu:X.A.units+64<cLine):OpR X (compareOp .NotEq) (rD X.K neD):=by
 intro pins s σ H x y v u Q I rx ry q
 obtain ⟨Z,a,b,d,zh,ra,rb,e,k⟩:=q
 by_cases hs:wH a=true/\wH b=true
 ·rw [neD,if_pos hs] at e
  cases e
  obtain ⟨as,r1⟩:=ra.reads I zh rx (jO hs.1)
  obtain ⟨bs,r2⟩:=rb.reads I zh ry (jO hs.2)
  exact ne_dataH r1 r2 hs.1 hs.2 hu ⟨.bl _,H,I,rfl,k _ Z H (New.refl zh) (.bl _)⟩
 ·rw [neD,if_neg hs] at e; cases e
theorem Reps.at {K:Fg} {Z:Hp} {vs:List V} {ds:List D} {i:Int} {d:D} (r:Reps K Z vs ds) (h:jr ds i=some d):∃ v,jr vs i=some v/\Rep K Z v d:=by
 unfold jr at h ⊢
 rw [r.length]
 obtain ⟨j,e,h⟩:=bind_some h
 obtain ⟨v,q,rr⟩:=r.get h
 exact ⟨v,by rw [e]; exact q,rr⟩
theorem Do {a b d:D} (h:aK a b=some d):(∃ xs,a=.list xs)\/∃ xs,a=.tuple xs:=by
 cases a with
 | list i=>exact .inl ⟨_,rfl⟩
 | tuple i=>exact .inr ⟨_,rfl⟩
 | _=>cases h
theorem zj {xs:List D} {b d:D} (h:aK (.list xs) b=some d):∃ i,b=.int i/\jr xs i=some d:=by
 cases b with
 | int i=>exact ⟨i,rfl,h⟩
 | _=>cases h
theorem aE:IxR X (rD X.K aK):=
 IxR.imp (ix_list.or A9) fun x y H Q q=>by
  obtain ⟨Z,a,b,d,zh,ra,rb,e,k⟩:=q
  rcases Do e with ⟨xs,rfl⟩ | ⟨xs,rfl⟩
  ·obtain ⟨i,rfl,e⟩:=zj e
   obtain ⟨a,vs,rfl,h1,q1⟩:=ra.lst_ex
   cases rb.int_eq
   obtain ⟨v,ev,rv⟩:=q1.at e
   exact .inl ⟨_,_,_,v,rfl,rfl,SqL.same h1 zh,ev,k v Z H (New.refl zh) rv⟩
  ·obtain ⟨i,rfl,e⟩:=zj (xs:=xs) (b:=b) (by cases b <;> exact e)
   obtain ⟨a,vs,rfl,h1,q1⟩:=ra.tup_ex
   cases rb.int_eq
   obtain ⟨v,ev,rv⟩:=q1.at e
   exact .inr ⟨_,_,_,v,rfl,rfl,SqT.same h1 zh,ev,k v Z H (New.refl zh) rv⟩
theorem qc:CallR X (.builtin "len") (u0 X.K jA):=
 CallR.imp wk fun xs H Q q=>by
  obtain ⟨Z,as,d,zh,ra,e,k⟩:=q
  cases ra with
  | nil=>cases e
  | cons r1 r2=>
   cases r2 with
   | cons _ _=>cases r1 <;> cases e
   | nil=>
    cases r1 with
    | lst h1 q1=>cases e; exact ⟨_,_,rfl,.inl ⟨_,SqL.same h1 zh,rfl⟩,k _ Z H (New.refl zh) (by rw [q1.length]; exact .int _)⟩
    | tup h1 q1=>cases e; exact ⟨_,_,rfl,.inr ⟨_,SqT.same h1 zh,rfl⟩,k _ Z H (New.refl zh) (by rw [q1.length]; exact .int _)⟩
    | _=>cases e
theorem ux {K:Fg} {Z:Hp} {xs:List V} {as:List D} {d:D} {g:List D->Option D} {h:Int->Int->Int} (hg:∀ as d,g as=some d->∃ i j,as=[.int i,.int j]/\d=.int (h i j)) (r:Reps K Z xs as) (e:g as=some d) :
  ∃ i j,xs=[.int i,.int j]/\d=.int (h i j):=by
 obtain ⟨i,j,rfl,rfl⟩:=hg _ _ e
 cases r with
 | cons r1 r2=>
  cases r2 with
  | cons r3 r4=>
   cases r4
   exact ⟨i,j,by rw [r1.int_eq,r3.int_eq],rfl⟩
theorem DS (hc:X.calm=true):CallR X (.builtin "min") (u0 X.K vq):=
 CallR.imp (ul hc) fun xs H Q q=>by
  obtain ⟨Z,as,d,zh,ra,e,k⟩:=q
  obtain ⟨i,j,rfl,rfl⟩:=ux (h:=fun i j=>if j<i then j else i) (fun as d h=>by unfold vq at h; split at h <;> cases h; exact ⟨_,_,rfl,rfl⟩) ra e
  exact ⟨i,j,rfl,k _ Z H (New.refl zh) (.int _)⟩
theorem dH:CallR X (.type "tuple") (u0 X.K bM):=
 CallR.imp lQ fun xs H Q q=>by
  obtain ⟨Z,as,d,zh,ra,e,k⟩:=q
  cases ra with
  | nil=>cases e
  | cons r1 r2=>
   cases r2 with
   | cons _ _=>cases r1 <;> cases e
   | nil=>
    cases r1 with
    | lst h1 q1=>cases e; exact ⟨_,_,rfl,.inl ⟨SqL.same h1 zh,fun l hl=>let n:=New.add zh hl (.tup _); k _ _ _ n (.tup (SqT.of aw) (q1.same n.z))⟩⟩
    | tup h1 q1=>cases e; exact ⟨_,_,rfl,.inr ⟨SqT.same h1 zh,k _ Z H (New.refl zh) (.tup h1 q1)⟩⟩
    | _=>cases e
theorem AZ (K:Fg) {t T:String} (ht:t = "NoneType" \/ t = "bool" \/ t = "int" \/ t = "str" \/ t = "list" \/ t = "tuple") (hT:T = "int" \/ T = "bool" \/ T = "str" \/ T = "list" \/ T = "tuple"):PySem.W.kitOne K (.type t) (.type T)=some (Bf t T):=by
 rcases ht with rfl | rfl | rfl | rfl | rfl | rfl <;> rcases hT with rfl | rfl | rfl | rfl | rfl <;> rfl
theorem Rep.ty {K:Fg} {Z H:Hp} {v:V} {d:D} (zh:Same Z H) (r:Rep K Z v d) (hD:¬sg d=true):(tyN d = "NoneType" \/ tyN d = "bool" \/ tyN d = "int" \/ tyN d = "str" \/ tyN d = "list" \/ tyN d = "tuple"):=by
 cases r <;> simp [tyN]
 exact absurd rfl hD
theorem Be {pins:List (Addr×Obj)} {σ:St} {H Z:Hp} {s:Shared} {x:V} {u:Value} {d:D} {T:String} {A:Around} {E:Value->Shared->Prop} {Q:Value->Shared->Prop} (I:Inv X pins σ H s) (zh:Same Z H) (rx:RelV x u) (r:Rep X.K Z x d) (hD:¬sg d=true)
  (hT:T = "int" \/ T = "bool" \/ T = "str" \/ T = "list" \/ T = "tuple") (h:∀ tk,Q (.bool (Bf (tyN d) T)) { s with toks:=tk }):wpAny (model X.prog X.w) A (call (.builtin "isinstance") [u,.type T]) Q E s:=by
 have ko:=AZ X.K (Rep.ty zh r hD) hT
 cases r with
 | non=>exact gj I rx (.non) ko h
 | bl b=>exact gj I rx (.bl b) ko h
 | int b=>exact gj I rx (.int b) ko h
 | str b=>exact gj I rx (.str b) ko h
 | @tup a xs ds h1 q1=>
  cases (show u=Value.ref a from rx)
  obtain ⟨its,_,p,_⟩:=I.tuple (SqT.same h1 zh)
  obtain ⟨o,h1,h2,_⟩:=p
  exact PySem.W.kia_one PySem.W.kitx_tuple I.kIn ⟨o,h1,h2⟩ ko (fun z=>nomatch z) h
 | @lst a xs ds h1 q1=>
  cases (show u=Value.ref a from rx)
  obtain ⟨its,_,p,_⟩:=I.list (SqL.same h1 zh)
  obtain ⟨o,n,h1,h2,_⟩:=p
  exact PySem.W.kia_one PySem.W.kitx_list I.kIn ⟨o,h1,h2⟩ ko (fun z=>nomatch z) h
 | opq h1=>exact absurd rfl hD
theorem DT (T:String):CallR X (.builtin "isinstance") (fun xs H Q=>∃ x Z d r,xs=[x,.ty T]/\Same Z H/\Rep X.K Z x d/\d4 T d=some r/\∃ b,r=.bool b/\Q (.bl b) H):=by
 intro pins s σ H xs us Q I rv h
 obtain ⟨x,Z,d,r,rfl,zh,rr,e,b,rfl,q⟩:=h
 obtain ⟨u,w',rfl,r1,r2⟩:=oA rv
 cases (show w'=Value.type T from r2)
 by_cases hD:sg d=true
 ·rw [d4,if_pos hD] at e; cases e
 by_cases hT:T = "int" \/ T = "bool" \/ T = "str" \/ T = "list" \/ T = "tuple"
 ·rw [d4,if_neg hD,if_pos hT] at e
  cases e
  exact Be I zh r1 rr hD hT fun tk=>⟨.bl _,H,I.tok _,rfl,q⟩
 ·rw [d4,if_neg hD,if_neg hT] at e; cases e
theorem kS {x:Str} {T:String} {p2:Pos} (hg:Gl X "isinstance") (hm:X.mg "isinstance" = none) (hgT:Gl X x) (hmT:X.mg x=none) (hvT:bootBuiltins x=some (.type T)) (hnT:x ≠ "__name__") (hdT:(x==("__debug__":Str))=false) (ha:EV X a f)
  (he:starEach (a::[.Name x p2]) X.env=(false,eval a X.env)::starEach [.Name x p2] X.env:=by rfl) (he2:starEach ((.Name x p2)::[]) X.env=(false,eval (.Name x p2) X.env)::starEach [] X.env:=by rfl) (hpl:(backTo pos (starEach [.Name x p2] X.env)).any (·.1)=false:=by rfl) :
  EV X (.Call (.Name "isinstance" p) [a,.Name x p2] [] pos) (o1 f (d4 T)):=
 PE.imp (dR (DT T) hg hm PyProof.Rows.boot_isinstance (bE ha (bE (rP (v:=.ty T) hgT hmT hvT rfl hnT hdT) dl he2) he) (by decide) (by decide) he hpl) fun σ H Q h=>by
  obtain ⟨H₀,Z₀,Z,δ,d,hh,e,k⟩:=h
  obtain ⟨y,e1,e⟩:=bind_some e
  refine ⟨H₀,Z₀,Z,δ,y,hh,e1,fun v Z1 H1 hh1 s1 r1=>⟨v,Z1,y,d,rfl,hh1.zh,r1,e,?_⟩⟩
  have:∃ b,d=.bool b:=by
   unfold d4 at e
   split at e
   ·cases e
   ·split at e
    ·cases e; exact ⟨_,rfl⟩
    ·cases e
  obtain ⟨b,rfl⟩:=this
  exact ⟨b,rfl,k _ Z1 H1 hh1 s1 (.bl b)⟩
end
end VL
set_option Elab.async false
set_option linter.all false
set_option maxRecDepth 100000
set_option maxHeartbeats 4000000
namespace VL
open PySem PySem.Spec PyProof.Rows L2
section
variable {X:Cx} {a b c e tg iter:Expr} {es:List Expr} {pos p:Pos} {f f1 f2 f3:Dv->Option D} {fs:Dv->Option (List D)} {ft fu:Dv->Option Bool} {st:Stmt} {sts body orelse:List Stmt} {s1 s2 s3:Sf}
theorem aM (he:EV X e f):SV X (.Return (some e) pos) (b0 f):=
 PS.imp (Ap he) fun D σ H h=>by
  obtain ⟨H₀,Z₀,Z,δ,r,hh,e,k⟩:=h
  obtain ⟨x,e1,e⟩:=bind_some e
  cases e
  exact ⟨H₀,Z₀,Z,δ,x,hh,e1,fun v Z1 H1 hh1 s1 r1=>k σ H1 Z1 hh1 s1 v r1⟩
theorem aJ (i:Nat) {x:Str} {pos':Pos} (hN:X.N.Nodup) (he:EV X e f) (hi:X.N[i]? = some x:=by rfl) (hx:ur X.env.scope x:=by first | exact Or.inl rfl | exact Or.inr rfl) (hs:swapsWith e (some (.Name x pos')) pos.line X.env=pure false:=by rfl)
  (hf:X.fn x=true\/X.env.scope.names.lookup x=some .local:=by first | exact .inl rfl | exact .inr rfl | assumption):SV X (.Assign [.Name x pos'] e pos) (aU i f):=
 PS.imp (iS hN hi hx he hs hf) fun D σ H h=>by
  obtain ⟨H₀,Z₀,Z,δ,r,hh,e,k⟩:=h
  obtain ⟨x,e1,e⟩:=bind_some e
  cases e
  exact ⟨H₀,Z₀,Z,δ,x,hh,e1,fun v Z1 H1 hh1 s1 r1=>k _ H1 Z1 (hh1.set r1) s1⟩
theorem xc (he:EV X e f) (hs:swapsWith e none pos.line X.env=pure false:=by rfl):SV X (.Expr e pos) (yY f):=
 PS.imp (jQ he hs) fun D σ H h=>by
  obtain ⟨H₀,Z₀,Z,δ,r,hh,e,k⟩:=h
  obtain ⟨x,e1,e⟩:=bind_some e
  cases e
  exact ⟨H₀,Z₀,Z,δ,x,hh,e1,fun v Z1 H1 hh1 s1 r1=>k σ H1 Z1 hh1 s1⟩
theorem C6 {D:Ends} {σ:St} {H:Hp} {K:Fg} (h:zL K iR D σ H):D.nx σ H:=by
 obtain ⟨H₀,Z₀,Z,δ,r,hh,e,k⟩:=h
 cases e
 exact k σ H Z hh (Same.refl _)
theorem bT:BV X [] iR:=PSs.imp rJ fun D σ H h=>C6 h
theorem ap (h1:SV X st s1) (h2:BV X sts s2):BV X (st::sts) (az s1 s2):=
 PSs.imp (kg h1 h2) fun D σ H h=>by
  obtain ⟨H₀,Z₀,Z,δ,r,hh,e,k⟩:=h
  obtain ⟨⟨fl,δ'⟩,e1,e⟩:=bind_some e
  refine ⟨H₀,Z₀,Z,δ,(fl,δ'),hh,e1,fun σ' H' Z' hh' s'=>?_⟩
  cases fl with
  | nx=>exact ⟨H₀,Z₀,Z',δ',r,hh',e,fun σ2 H2 Z2 hh2 s2=>by
    have:=k σ2 H2 Z2 hh2 (s'.trans s2)
    obtain ⟨fl,δ2⟩:=r
    cases fl <;> exact this⟩
  | bk=>cases e; exact k σ' H' Z' hh' s'
  | ct=>cases e; exact k σ' H' Z' hh' s'
  | rt d=>cases e; exact k σ' H' Z' hh' s'
theorem av (h1:SV X st s1):BV X [st] s1:=rH h1
theorem b8 (hc:TV X c ft) (ha:BV X body s1) (hb:BV X orelse s2):SV X (.If c body orelse pos) (dZ ft s1 s2):=
 PS.imp (u3 hc ha hb) fun D σ H h=>by
  obtain ⟨H₀,Z₀,Z,δ,r,hh,e,k⟩:=h
  obtain ⟨x,e1,e⟩:=bind_some e
  refine ⟨H₀,Z₀,Z,δ,x,hh,e1,fun Z1 H1 hh1 t1=>?_⟩
  cases x with
  | true=>exact ⟨H₀,Z₀,Z1,δ,r,hh1,e,fun σ2 H2 Z2 hh2 t2=>k σ2 H2 Z2 hh2 (t1.trans t2)⟩
  | false=>exact ⟨H₀,Z₀,Z1,δ,r,hh1,e,fun σ2 H2 Z2 hh2 t2=>k σ2 H2 Z2 hh2 (t1.trans t2)⟩
theorem DG {K:Fg} (i:Nat) {D:Ends} {σ:St} {H:Hp} (h:zL K (fun δ=>s1 (BU i δ)) D σ H):zL K s1 D σ H:=by
 obtain ⟨H₀,Z₀,Z,δ,r,hh,e,k⟩:=h
 have e:s1 (BU i δ)=some r:=e
 unfold BU at e
 split at e
 ·rename_i ds q
  obtain ⟨Z1,t1,hh1⟩:=hh.frz q
  exact ⟨H₀,Z₀,Z1,_,r,hh1,e,fun σ2 H2 Z2 hh2 t2=>k σ2 H2 Z2 hh2 (t1.trans t2)⟩
 ·exact ⟨H₀,Z₀,Z,_,r,hh,e,k⟩
theorem Co (i:Nat) (h:SV X st s1):SV X st (fun δ=>s1 (BU i δ)):=PS.imp h fun D σ H q=>DG i q
noncomputable def GQ (K:Fg) (g:D->Dv->Option Dv):TG:=fun v σ H Q=>∃ H₀ Z₀ Z δ d δ',Hold K H₀ Z₀ Z δ σ H/\Rep K Z v d/\g d δ = some δ'/\∀ σ' H' Z',Hold K H₀ Z₀ Z' δ' σ' H'->Same Z Z'->Q σ' H'
noncomputable def GV (X:Cx) (tg:Expr) (g:D->Dv->Option Dv):Prop:=PG X tg (GQ X.K g)
theorem PG.imp {t t':TG} (h:PG X tg t) (i:∀ v σ H Q,t' v σ H Q->t v σ H Q):PG X tg t':=fun pins s σ H x v Q I r q=>h pins s σ H x v Q I r (i _ _ _ _ q)
theorem cR (i:Nat) {x:Str} (hN:X.N.Nodup) (hi:X.N[i]? = some x:=by rfl) (hx:ur X.env.scope x:=by first | exact Or.inl rfl | exact Or.inr rfl)
  (hf:X.fn x=true\/X.env.scope.names.lookup x=some .local:=by first | exact .inl rfl | exact .inr rfl | assumption):GV X (.Name x pos) (gN i):=
 PG.imp (bq hN hi hx hf) fun v σ H Q h=>by
  obtain ⟨H₀,Z₀,Z,δ,d,δ',hh,r,e,k⟩:=h
  cases e
  exact k _ H Z (hh.set r) (Same.refl _)
structure ItOk (K:Fg) (Z:Hp) (J:It) (ds:List D):Prop where
 go:∀ (i:Nat) (H:Hp),Same Z H->i<ds.length->J.go i H
 yld:∀ (i:Nat) (H:Hp) x H' d,Same Z H->ds[i]? = some d->J.yld i H x H'->H'=H/\Rep K Z x d
 stop:∀ (i:Nat) (H:Hp),Same Z H->ds.length<=i->J.stop i H
noncomputable def EJ (K:Fg) (f:Dv->Option (List D)):TI:=fun σ H R=>∃ H₀ Z₀ Z δ ds,Hold K H₀ Z₀ Z δ σ H/\f δ = some ds/\∀ J Z' H',Hold K H₀ Z₀ Z' δ σ H'->Same Z Z'->ItOk K Z' J ds->R J H'
noncomputable def IV (X:Cx) (tg iter:Expr) (f:Dv->Option (List D)):Prop:=PI X tg iter (EJ X.K f)
theorem PI.imp {t t':TI} (h:PI X tg iter t) (i:∀ σ H R,t' σ H R->t σ H R):PI X tg iter t':=fun pins s σ H R I q=>h pins s σ H R I (i _ _ _ q)
theorem ez {g:D->Dv->Option Dv} (hp:PassesOwn (model X.prog X.w) X.A X.env X.xe) (hc:X.calm=true) (hi:IV X tg iter fs) (hg:GV X tg g) (hb:BV X body s1)
  (hs:∀ x,foldedSetIterable iter X.env x=pure x:=by intro _; rfl):SV X (.For tg iter body [] pos) (fP fs g s1):=
 PS.imp (Aq hp hc hi hg hb hs) fun D σ H h=>by
  obtain ⟨H₀,Z₀,Z,δ,r,hh,e,k⟩:=h
  obtain ⟨ds,e1,e⟩:=bind_some e
  refine ⟨H₀,Z₀,Z,δ,ds,hh,e1,fun J Z1 H1 hh1 t1 ok=>?_⟩
  refine ⟨fun i m σ H=>m=ds.length-i/\i<=ds.length/\∃ Zc δc,Hold X.K H₀ Z₀ Zc δc σ H/\Same Z1 Zc/\loop g s1 (ds.drop i) δc=some r,⟨ds.length,by simp,Nat.zero_le _,Z1,δ,hh1,Same.refl _,e⟩,?_⟩
  rintro i m σ2 H2 ⟨rfl,hi2,Zc,δc,hhc,tc,ec⟩
  have zh:Same Z1 H2:=tc.trans hhc.zh
  by_cases hlt:i<ds.length
  ·refine .inr ⟨ok.go i H2 zh hlt,fun σ3 H3=>∃ Zc δc,Hold X.K H₀ Z₀ Zc δc σ3 H3/\Same Z1 Zc/\loop g s1 (ds.drop (i+1)) δc=some r,fun σ3 H3 q=>⟨ds.length-(i+1),by omega,rfl,hlt,q⟩,fun x H3 y=>?_⟩
   have ed:ds[i]? = some ds[i]:=by simp [hlt]
   obtain ⟨rfl,rx⟩:=ok.yld i H2 x H3 _ zh ed y
   rw [List.drop_eq_getElem_cons hlt] at ec
   obtain ⟨δ1,g1,ec⟩:=bind_some ec
   obtain ⟨⟨fl,δ2⟩,g2,ec⟩:=bind_some ec
   refine ⟨H₀,Z₀,Zc,δc,_,δ1,hhc,rx.same tc,g1,fun σ4 H4 Z4 hh4 t4=>⟨H₀,Z₀,Z4,δ1,(fl,δ2),hh4,g2,fun σ5 H5 Z5 hh5 t5=>?_⟩⟩
   cases fl with
   | nx=>exact ⟨Z5,δ2,hh5,(tc.trans t4).trans t5,ec⟩
   | ct=>exact ⟨Z5,δ2,hh5,(tc.trans t4).trans t5,ec⟩
   | bk=>cases ec; exact k σ5 H5 Z5 hh5 (((t1.trans tc).trans t4).trans t5)
   | rt d=>cases ec; exact k σ5 H5 Z5 hh5 (((t1.trans tc).trans t4).trans t5)
  ·have e2:ds.drop i=[]:=List.drop_eq_nil_iff.mpr (by omega)
   rw [e2] at ec
   cases ec
   exact .inl ⟨ok.stop i H2 zh (by omega),k σ2 H2 Zc hhc (t1.trans tc)⟩
theorem vJ {K:Fg} {Z:Hp} {lo:Int} {n:Nat}:ItOk K Z (BZ lo n) (jw lo n) where
 go:=fun i H _ h=>by simpa [jw,BZ] using h
 yld:=fun i H x H' d _ e y=>by
  obtain ⟨rfl,rfl⟩:=y
  refine ⟨rfl,?_⟩
  unfold jw at e
  rw [List.getElem?_map] at e
  cases q:(List.range n)[i]? with
  | none=>rw [q] at e; cases e
  | some k=>
   rw [q] at e
   cases e
   have:k=i:=by
    obtain ⟨h,h2⟩:=List.getElem?_eq_some_iff.mp q
    simpa using h2.symm
   subst this
   exact .int _
 stop:=fun i H _ h=>by simpa [jw,BZ] using h
theorem mF (hg:Gl X "range") (hm:X.mg "range" = none) (ha:AV X [a] fs) (hs:starEach [a] X.env=[(false,eval a X.env)]:=by rfl):IV X tg (.Call (.Name "range" p) [a] [] pos) (oL fs j9):=
 PI.imp (tG hg hm ha hs) fun σ H R h=>by
  obtain ⟨H₀,Z₀,Z,δ,ds,hh,e,k⟩:=h
  obtain ⟨as,e1,e⟩:=bind_some e
  refine ⟨H₀,Z₀,Z,δ,as,hh,e1,fun vs Z1 H1 hh1 t1 r1=>?_⟩
  unfold j9 at e
  split at e
  ·rename_i j
   split at e
   ·rename_i hj
    cases e
    cases r1 with
    | cons q1 q2=>
     cases q2
     exact ⟨j,by rw [q1.int_eq],hj.2,hj.1,k _ Z1 H1 hh1 t1 vJ⟩
   ·cases e
  ·cases e
theorem yf (ha:EV X a f):IV X tg a (oI f Dd):=
 PI.imp (xF ha) fun σ H R h=>by
  obtain ⟨H₀,Z₀,Z,δ,ds,hh,e,k⟩:=h
  obtain ⟨y,e1,e⟩:=bind_some e
  refine ⟨H₀,Z₀,Z,δ,y,hh,e1,fun v Z1 H1 hh1 t1 r1=>?_⟩
  cases r1 with
  | @lst l xs ds' h1 q1=>
   cases e
   refine ⟨l,rfl,⟨xs,SqL.same h1 hh1.zh⟩,k _ Z1 H1 hh1 t1 ⟨fun i H2 z hi=>?_,fun i H2 x H3 d z ed y=>?_,fun i H2 z hi=>⟨xs,SqL.same h1 z,by rw [q1.length]; exact hi⟩⟩⟩
   ·have hi':i<xs.length:=by rw [q1.length]; exact hi
    exact ⟨xs,xs[i],SqL.same h1 z,by simp [hi']⟩
   ·obtain ⟨rfl,y⟩:=y
    obtain ⟨v,ev,rv⟩:=q1.get ed
    have:=y xs (SqL.same h1 z)
    rw [ev] at this
    cases this
    exact ⟨rfl,rv⟩
  | _=>cases e
theorem Bb (ha:EV X a f):IV X tg a (oI f EH):=
 PI.imp (Ar ha) fun σ H R h=>by
  obtain ⟨H₀,Z₀,Z,δ,ds,hh,e,k⟩:=h
  obtain ⟨y,e1,e⟩:=bind_some e
  refine ⟨H₀,Z₀,Z,δ,y,hh,e1,fun v Z1 H1 hh1 t1 r1=>?_⟩
  cases r1 with
  | @tup l xs ds' h1 q1=>
   cases e
   refine ⟨l,rfl,⟨xs,SqT.same h1 hh1.zh⟩,k _ Z1 H1 hh1 t1 ⟨fun i H2 z hi=>?_,fun i H2 x H3 d z ed y=>?_,fun i H2 z hi=>⟨xs,SqT.same h1 z,by rw [q1.length]; exact hi⟩⟩⟩
   ·have hi':i<xs.length:=by rw [q1.length]; exact hi
    exact ⟨xs,xs[i],SqT.same h1 z,by simp [hi']⟩
   ·obtain ⟨rfl,y⟩:=y
    obtain ⟨v,ev,rv⟩:=q1.get ed
    have:=y xs (SqT.same h1 z)
    rw [ev] at this
    cases this
    exact ⟨rfl,rv⟩
  | _=>cases e
end
section
variable {X:Cx} {a b c tg:Expr} {ta:TA} {p pos:Pos} {fs:Dv->Option (List D)}
end
section
variable {X:Cx} {e:Expr} {lo hi:Option Expr} {p2 pos:Pos} {f:Dv->Option D}
noncomputable def GP (K:Fg) (f:Dv->Option (Option Int)):TO:=fun σ H Q=>∃ H₀ Z₀ Z δ d,Hold K H₀ Z₀ Z δ σ H/\f δ = some d/\∀ Z' H',Hold K H₀ Z₀ Z' δ σ H'->Same Z Z'->Q d H'
noncomputable def OV (X:Cx) (e:Option Expr) (f:Dv->Option (Option Int)):Prop:=PO X e (GP X.K f)
theorem PO.imp {eo:Option Expr} {t t':TO} (h:PO X eo t) (i:∀ σ H Q,t' σ H Q->t σ H Q):PO X eo t':=fun pins s σ H Q I q=>h pins s σ H Q I (i _ _ _ q)
theorem jR (h:EV X e f):OV X (some e) (oP f):=PO.imp (xD h) fun σ H Q h=>by
 obtain ⟨H₀,Z₀,Z,δ,d,hh,e,k⟩:=h
 obtain ⟨x,e1,e⟩:=bind_some e
 refine ⟨H₀,Z₀,Z,δ,x,hh,e1,fun v Z1 H1 hh1 t1 r1=>?_⟩
 cases r1 <;> simp [asI] at e
 subst e
 exact ⟨_,rfl,k Z1 H1 hh1 t1⟩
theorem Reps.cut {K:Fg} {Z:Hp} {vs:List V} {ds:List D} (r:Reps K Z vs ds) (lo hi:Option Int):Reps K Z (lP vs lo hi) (p6 ds lo hi):=by
 unfold lP p6
 rw [r.length]
 exact (r.drop _).take _
theorem qS {ds:List D} {lo hi:Option Int} (h1:HT.sIx ds.length 0 lo=0) (h2:HT.sIx ds.length ds.length hi=ds.length):p6 ds lo hi=ds:=by
 unfold p6
 rw [h1,h2]
 simp
section
variable {prog:Program} {w:World} {A:Around} {E:Value->Shared->Prop} {s:Shared}
theorem m8 {t sl:Addr} {items:Array Value} {vl vu:Value} {lo hi:Option Int} {Q:Value->Shared->Prop} (ht:IsTup s.heap t items) (hs:s.heap.IsSliceOf sl vl vu .none) (pl:IsPart vl lo) (pu:IsPart vu hi)
  (h1:HT.sIx items.size 0 lo=0) (h2:HT.sIx items.size items.size hi=items.size) (h:Q (.ref t) s):wpAny (model prog w) A (getItem (.ref t) (.ref sl)) Q E s:=by
 obtain ⟨osl,hos,hcs,hds⟩:=id hs
 have ty:s.TypeIs (.ref sl) "slice":=⟨osl,hos,hcs⟩
 unfold getItem
 try with_reducible refine wpAny_holding ?_
 first | refine wpAny_bind (wpAny_pure ?_) | skip
 refine wpAny_bind (wpAny_sequenceKey ht.typeIs (by decide) ?_)
 refine wpAny_bind (wpAny_callSpecial?_slot (name:=Str.ofString "__getitem__") ht.typeIs PyProof.Rows.slot_tuple_getitem
  (wpAny_call_entry PyProof.Rows.slot_tuple_getitem ht.typeIs PyProof.Rows.entry_tuple_getitem ?_ (PyProof.Rows.args_tuple_getitem _ _)))
 show wpAny _ _ (Builtin.Tuple.tupleItemsOf (.ref t) >>= _) _ _ s
 refine wpAny_bind (tupleItemsOf_ ht ?_)
 refine wpAny_bind (wpAny_typeOf ty ?_)
 rw [if_pos (by decide)]
 refine wpAny_bind (HT.eJ hs pl pu ?_)
 have yes:(((((HT.sIx items.size 0 lo:Nat):Int)==0)&&((1:Int)==1))&&((HT.sIx items.size items.size hi-HT.sIx items.size 0 lo)==items.size))=true:=by
  rw [h1,h2]; simp
 show wpAny _ _ (if (((((HT.sIx items.size 0 lo:Nat):Int)==0)&&((1:Int)==1))&&((HT.sIx items.size items.size hi-HT.sIx items.size 0 lo)==items.size))=true then _ else _) _ _ s
 rw [if_pos yes]
 unfold Builtin.Tuple.tupleIsExact
 refine wpAny_bind (wpAny_bind (wpAny_typeOf ht.typeIs (wpAny_pure ?_)))
 rw [if_pos (by decide)]
 exact wpAny_bind (wpAny_rule (wpAny_pure ⟨_,rfl,wpAny_pure h⟩))
end
noncomputable def E8 (K:PySem.W.Frag):V->Option Int->Option Int->Hp->VK->Prop:=fun x lo hi H Q=>∃ a xs,x=.ref a/\SqT K H a xs/\HT.sIx xs.length 0 lo=0/\HT.sIx xs.length xs.length hi=xs.length/\Q (.ref a) H
theorem xp:SlR X (E8 X.K):=by
 intro pins s σ H x v vl vu lo hi sl Q I rx hs pl pu h
 obtain ⟨a,xs,rfl,hx,w1,w2,q⟩:=h
 cases rx
 obtain ⟨its,r,ht,hz⟩:=I.tuple hx
 have hlen:its.toArray.size=xs.length:=by rw [List.size_toArray]; exact r.length.symm
 refine ⟨"tuple",_,PyProof.Rows.slot_tuple_getitem.lookup,ht.typeIs,?_⟩
 exact m8 ht hs pl pu (by rw [hlen]; exact w1) (by rw [hlen]; exact w2) ⟨.ref a,H,I,rfl,q⟩
theorem pS {fl fu:Dv->Option (Option Int)} (he:EV X e f) (hl:OV X lo fl) (hu:OV X hi fu):EV X (.Subscript e (.Slice lo hi none p2) pos) (Ff f fl fu):=
 PE.imp (u8 (sl_list.or (sl_tup.or xp)) he hl hu) fun σ H Q h=>by
  obtain ⟨H₀,Z₀,Z,δ,d,hh,e,k⟩:=h
  obtain ⟨x,e1,e⟩:=bind_some e
  obtain ⟨i,e2,e⟩:=bind_some e
  obtain ⟨j,e3,e⟩:=bind_some e
  refine ⟨H₀,Z₀,Z,δ,x,hh,e1,fun v Z1 H1 hh1 t1 r1=>⟨H₀,Z₀,Z1,δ,i,hh1,e2,fun Z2 H2 hh2 t2=>⟨H₀,Z₀,Z2,δ,j,hh2,e3,fun Z3 H3 hh3 t3=>?_⟩⟩⟩
  have r3:=(r1.same t2).same t3
  have tt:=(t1.trans t2).trans t3
  cases r3 with
  | @lst a xs ds h1 q1=>
   cases e
   refine .inl ⟨_,_,rfl,SqL.same h1 hh3.zh,fun p hp=>?_⟩
   have n:=New.add hh3.zh hp (.lst (lP xs i j))
   exact k _ _ _ (hh3.new n) (tt.trans n.z) (.lst (SqL.of aw) ((q1.cut i j).same n.z))
  | @tup a xs ds h1 q1=>
   simp only [BK] at e
   cases e
   by_cases hw:HT.sIx ds.length 0 i=0/\HT.sIx ds.length ds.length j=ds.length
   ·refine .inr (.inr ⟨_,_,rfl,SqT.same h1 hh3.zh,by rw [q1.length]; exact hw.1,by rw [q1.length]; exact hw.2,?_⟩)
    refine k _ _ _ hh3 tt ?_
    rw [qS hw.1 hw.2]
    exact .tup h1 q1
   ·refine .inr (.inl ⟨_,_,rfl,SqT.same h1 hh3.zh,by rw [q1.length]; exact hw,fun p hp=>?_⟩)
    have n:=New.add hh3.zh hp (.tup (lP xs i j))
    exact k _ _ _ (hh3.new n) (tt.trans n.z) (.tup (SqT.of aw) ((q1.cut i j).same n.z))
  | _=>cases e
end
structure FunV (K:PySem.W.Frag) (x qual:Str) (st:Stmt) (f:Addr) (fd:FuncData) (dV:Value):Prop where
 ex:∃ (oc:Value) (od:Option Addr) (kV doc pm:Value) (an:Option Addr) (cdv ct:Value) (osl:Array (Option Value)),
  fd=PySem.W.fnOf x qual (dc st) (bS st) (ah st) dV kV doc pm an cdv ct/\K.lookup f=some ⟨oc,od,.func fd,osl⟩/\PySem.W.codeIn K cdv qual=true
 kp:PySem.W.keepIn K (.ref f)=true
section
variable {P:Program} {w:World} {K:PySem.W.Frag} {mg:Str->Option Value} {base:Heap}
theorem sW {N:List Str} {vs:List V} {as:List D} {Z:Hp} (r:Reps K Z vs as):∀ (i:Nat) d,(aC N as)[i]? = some (.fz d)->∃ v,(start N vs)[i]? = some (some v)/\Rep K Z v d:=by
 intro i d e
 unfold aC at e
 unfold L2.start
 by_cases hi:i<as.length
 ·rw [List.getElem?_append_left (by simpa using hi),List.getElem?_map] at e
  cases q:as[i]? with
  | none=>rw [q] at e; cases e
  | some d'=>
   rw [q] at e
   cases e
   obtain ⟨v,ev,rv⟩:=r.get q
   exact ⟨v,by rw [List.getElem?_append_left (by simpa [r.length] using hi),List.getElem?_map,ev]; rfl,rv⟩
 ·rw [List.getElem?_append_right (by simpa using hi),List.getElem?_replicate] at e
  split at e <;> cases e
theorem lY {N:List Str} {as:List D}:∀ (i:Nat) ds,(aC N as)[i]? ≠ some (.own ds):=by
 intro i ds e
 unfold aC at e
 by_cases hi:i<as.length
 ·rw [List.getElem?_append_left (by simpa using hi),List.getElem?_map] at e
  cases q:as[i]? with
  | none=>rw [q] at e; cases e
  | some d'=>rw [q] at e; cases e
 ·rw [List.getElem?_append_right (by simpa using hi),List.getElem?_replicate] at e
  split at e <;> cases e
theorem uF {N:List Str} {as:List D}:∀ (i:Nat) ds,(aC N as)[i]? ≠ some (.fr ds):=by
 intro i ds e
 unfold aC at e
 by_cases hi:i<as.length
 ·rw [List.getElem?_append_left (by simpa using hi),List.getElem?_map] at e
  cases q:as[i]? with
  | none=>rw [q] at e; cases e
  | some d'=>rw [q] at e; cases e
 ·rw [List.getElem?_append_right (by simpa using hi),List.getElem?_replicate] at e
  split at e <;> cases e
theorem gQ {N:List Str} {vs:List V} {as:List D} {Z H:Hp} (zh:Same Z H) (r:Reps K Z vs as):Hold K H Z Z (aC N as) (start N vs) H:=
 ⟨zh,Same.refl _,Same.refl _,fun _ _=>rfl,by simp [aC,L2.start,r.length],sW r,fun i ds e=>absurd e (lY i ds),fun i j ds es a _ e=>absurd e (lY i ds),fun i ds e=>absurd e (uF i ds),NoF.refl _⟩
theorem FL {x qual:Str} {st:Stmt} {f:Addr} {fd:FuncData} {dV:Value} {N ps:List Str} {k:Nat} {g:List D->Option D} {b:Sf} (F:FunV K x qual st f fd dV) (S:FnScope N ps (ah st)) (len:∀ as d,g as=some d->as.length=ps.length)
  (hb:∀ (cdv:Value) (A:Around) (outer:List Env) (s:Shared) (H:Hp) (E:XK),Room k (A.deeper (envOfC qual (ah st) s.heap.objs.size f cdv))->BV (d7 dJ P w K mg base N qual (ah st) f cdv A outer s H E).nox (bS st) b)
  (hg:∀ as d,g as=some d->∃ δ',b (aC N as)=some (.rt d,δ')\/(d=.none/\b (aC N as)=some (.nx,δ'))):FnOk P w K mg base dJ (k+1) f fd ps (gu K g):=by
 obtain ⟨oc,od,kV,doc,pm,an,cdv,ct,osl,rfl,lk,hcd⟩:=F.ex
 refine sx lk hcd S (fun vs H Q E h=>?_) fun A outer s H vs Q E hr hsp=>?_
 ·obtain ⟨Z,as,d,zh,r,e,_⟩:=h
  rw [r.length]
  exact len as d e
 ·refine ⟨_,PSs.nox (hb cdv A outer s H E hr),?_⟩
  obtain ⟨Z,as,d,zh,r,e,kk⟩:=hsp
  have hh:=gQ (N:=N) zh r
  have fin:∀ {σ':St} {H' Z':Hp} {δ':Dv},Hold K H Z Z' δ' σ' H'->Same Z Z'->New Z H Z' H':=fun h' z'=>⟨z',h'.h0,h'.zh,h'.zb,h'.nf⟩
  obtain ⟨δ',e2 | ⟨rfl,e2⟩⟩:=hg as d e
  ·exact ⟨H,Z,Z,_,_,hh,e2,fun σ' H' Z' h' z' v rv=>kk v Z' H' (fin h' z') rv⟩
  ·exact ⟨H,Z,Z,_,_,hh,e2,fun σ' H' Z' h' z'=>kk _ Z' H' (fin h' z') .non⟩
theorem FunV.binds {x qual:Str} {st:Stmt} {f:Addr} {fd:FuncData} {ps:List Str} (F:FunV K x qual st f fd .none)
  (h:∀ (kV doc pm:Value) (an:Option Addr) (cdv ct:Value) (us:List Value),us.length=ps.length->bindArgs (PySem.W.fnOf x qual (dc st) (bS st) (ah st) .none kV doc pm an cdv ct) ⟨us,[]⟩=pure (ps.zip us)):Binds K fd ps []:=by
 obtain ⟨oc,od,kV,doc,pm,an,cdv,ct,osl,rfl,lk,hcd⟩:=F.ex
 exact .all (h kV doc pm an cdv ct)
theorem sv {x qual:Str} {st:Stmt} {f:Addr} {dV oc:Value} {od an:Option Addr} {osl:Array (Option Value)} {kV doc pm cdv ct:Value} (l:K.lookup f=some ⟨oc,od,.func (PySem.W.fnOf x qual (dc st) (bS st) (ah st) dV kV doc pm an cdv ct),osl⟩)
  (c:PySem.W.codeIn K cdv qual=true) (k:PySem.W.keepIn K (.ref f)=true):FunV K x qual st f (PySem.W.fnOf x qual (dc st) (bS st) (ah st) dV kV doc pm an cdv ct) dV:=⟨⟨oc,od,kV,doc,pm,an,cdv,ct,osl,rfl,l,c⟩,k⟩
noncomputable def rq (K:PySem.W.Frag):Sp:=fun vs H Q _=>∃ (a:Addr) (ns:List Int),vs=[.ref a]/\SqL K H a (ns.map V.int)/\ns.length<=63/\∀ H',Q (.bl true) H'
theorem Dj {g:List D->Option D} {k:Nat} {f:Addr} {fd:FuncData} (F:FnOk P w K mg base dJ k f fd ["script"] (gu K g)) (hg:∀ ns:List Int,ns.length<=63->g [.list (ns.map .int)]=some (.bool true)):FnOk P w K mg base dJ k f fd ["script"] (rq K):=
 F.imp fun vs H Q E h=>by
  obtain ⟨a,ns,rfl,hS,hl,q⟩:=h
  exact ⟨H,[.list (ns.map .int)],.bool true,Same.refl _,.cons (.lst hS (Reps.ints ns)) .nil,hg ns hl,fun v Z' H' _ r=>by cases r; exact q H'⟩
end
theorem B5 {k:Nat} {l:PySem.W.OpenLaw} {q:Program} {loose:List Str} {XP:(Str->Option Value)->Heap->Prop} {YP:World->Heap->Prop} {d:DefRec} {K:Params->PySem.W.Frag} (hn:l.most=some 63) (hr:Room k callerA) (hdf:d.params.defaults=[])
  (hY:∀ (w:World) (h:Heap),YP w h->(K w.params).In h)
  (F:∀ (w:World) (mg:Str->Option Value) (fa:Addr) (h:Heap),(K w.params).In h->h.Ns mainGlobals mg->mg d.name=some (.ref fa) ->
   ∃ fd:FuncData,(∀ (s:Shared) (u:Value),BindsTo s fd ⟨[u],[]⟩ [("script",u)])/\∀ base:Heap,(K w.params).In base->base.Ns mainGlobals mg->FnOk l.prog w (K w.params) mg base dJ k fa fd ["script"] (rq (K w.params))) :
  PySem.W.WalkO q loose XP YP l.row.toRowW d [] (fun f vs=>PySem.call f vs):=
 L2.wO (n:=63) (k:=k) (x:="script") (CX:=fun _=>dJ) (sp:=fun w=>rq (K w.params)) hn (by decide) hdf hr hY F (fun _ _ a ns hl _ hS=>⟨a,ns,rfl,hS,hl,fun _=>rfl⟩) fun _ _ _ _ _ z=>z
section
variable {P:Program} {w:World} {K:PySem.W.Frag} {mg:Str->Option Value} {base:Heap}
theorem dU {x qual:Str} {st:Stmt} {f:Addr} {fd:FuncData} {dV:Value} {N ps:List Str} {k:Nat} {b:Sf} (F:FunV K x qual st f fd dV) (S:FnScope N ps (ah st))
  (hb:∀ (cdv:Value) (A:Around) (outer:List Env) (s:Shared) (H:Hp) (E:XK),Room k (A.deeper (envOfC qual (ah st) s.heap.objs.size f cdv))->BV (d7 dJ P w K mg base N qual (ah st) f cdv A outer s H E).nox (bS st) b) :
  FnOk P w K mg base dJ (k+1) f fd ps (gu K (aW N ps.length b)):=by
 refine FL F S (fun as d h=>?_) hb fun as d h=>?_
 ·unfold aW at h
  split at h
  ·assumption
  ·cases h
 ·unfold aW at h
  split at h
  ·obtain ⟨⟨fl,δ'⟩,e,h⟩:=bind_some h
   cases fl with
   | nx=>cases h; exact ⟨δ',.inr ⟨rfl,e⟩⟩
   | rt d=>cases h; exact ⟨δ',.inl e⟩
   | bk=>cases h
   | ct=>cases h
  ·cases h
structure Cal (P:Program) (w:World) (K:PySem.W.Frag) (mg:Str->Option Value) (base:Heap) (x:Str) (k:Nat) (g:List D->Option D) (dd:List D):Prop where
 ex:∃ (fa:Addr) (fd:FuncData) (ps:List Str) (ds:List Value) (dv:List V),FnOk P w K mg base dJ k fa fd ps (gu K g)/\mg x=some (.ref fa)/\PySem.W.keepIn K (.ref fa)=true/\Binds K fd ps ds/\Vals dv ds/\∀ Z,Reps K Z dv dd
theorem Cal.mk0 {x:Str} {k:Nat} {g:List D->Option D} {fa:Addr} {fd:FuncData} {ps:List Str} (F:FnOk P w K mg base dJ k fa fd ps (gu K g)) (hm:mg x=some (.ref fa)) (hk:PySem.W.keepIn K (.ref fa)=true) (hb:Binds K fd ps []):Cal P w K mg base x k g []:=
 ⟨⟨fa,fd,ps,[],[],F,hm,hk,hb,.nil,fun _=>.nil⟩⟩
end
section
variable {X:Cx} {e:Expr} {es:List Expr} {p pos:Pos} {fs:Dv->Option (List D)}
theorem Bk {k:Nat} {x:Str} {g:List D->Option D} {dd:List D} (C:Cal X.prog X.w X.K X.mg X.base x k g dd) (hr:Room k X.A) (hg:Gl X x) (ha:AV X (e::es) fs) (hdb:(x==("__debug__":Str))=false:=by decide) (he:starEach (e::es) X.env=(false,eval e X.env)::starEach es X.env:=by rfl)
  (hpl:(backTo pos (starEach es X.env)).any (·.1)=false:=by rfl):EV X (.Call (.Name x p) (e::es) [] pos) (os fs fun as=>g (as++dd)):=by
 obtain ⟨fa,fd,ps,ds,dv,F,hm,hk,hb,hd,hdd⟩:=C.ex
 exact yv F hr hg hm hk hb hd hdd y1 ha hdb he hpl
variable {tg a:Expr} {f:Dv->Option D}
theorem bh (ha:EV X a f):IV X tg a (oI f ba):=by
 intro pins s σ H R I h
 obtain ⟨H₀,Z₀,Z,δ,ds,hh,e,k⟩:=h
 obtain ⟨y,e1,e⟩:=bind_some e
 cases y with
 | list xs=>exact yf ha pins s σ H R I ⟨H₀,Z₀,Z,δ,ds,hh,by unfold oI; rw [e1]; exact e,k⟩
 | tuple xs=>exact Bb ha pins s σ H R I ⟨H₀,Z₀,Z,δ,ds,hh,by unfold oI; rw [e1]; exact e,k⟩
 | _=>cases e
end
end VL
set_option Elab.async false
set_option linter.all false
set_option maxRecDepth 100000
set_option maxHeartbeats 4000000
namespace VL
open PySem PySem.Spec PyProof.Rows L2
noncomputable def gU (env:Env):List (Str×NameKind)->List (Str×Addr)->List (Str×Addr)
 | [],cs=>cs
 | (n,k)::r,cs=>if k == .free then gU env r ((n,(env.cells.lookup n).getD 0)::cs) else gU env r cs
theorem kN {env:Env}:∀ (l:List (Str×NameKind)) (cs:List (Str×Addr)),(∀ y∈l,y.2=.free->∃ c,env.cells.lookup y.1=some c) ->
  (forIn l cs fun (x:Str×NameKind) (r:List (Str×Addr))=>(if (x.2==NameKind.free)=true then do let c <- cellOf env x.1; pure (ForInStep.yield ((x.1,c)::r)) else pure (ForInStep.yield r):Sem (ForInStep (List (Str×Addr)))))=pure (gU env l cs)
 | [],cs,_=>rfl
 | (n,k)::r,cs,h=>by
  have ih:=fun cs'=>kN r cs' fun y hy=>h y (List.mem_cons_of_mem _ hy)
  rw [List.forIn_cons]
  cases hk:k==NameKind.free with
  | true=>
   have hk':k=.free:=by simpa using hk
   obtain ⟨c,ec⟩:=h (n,k) List.mem_cons_self hk'
   have e1:cellOf env n=pure c:=by unfold cellOf; rw [ec]
   simp only [hk,if_true,e1,pure_bind,gU,ec,Option.getD_some]
   exact ih _
  | false=>
   simp only [hk,Bool.false_eq_true,if_false,pure_bind,gU]
   exact ih _
theorem eF {scope:Scope} {env:Env} (h:∀ y∈scope.names,y.2=.free->∃ c,env.cells.lookup y.1=some c):closureFor scope env=pure (gU env scope.names []):=by
 simp only [closureFor]
 have:=kN (env:=env) scope.names [] h
 first
  | (rw [this]; rfl)
  | (simp only [this]; rfl)
  | (unfold closureFor; simp_all)
theorem bj {env:Env}:∀ (l:List (Str×NameKind)) (cs:List (Str×Addr)) (y:Str) (c:Addr),(∀ z∈l,z.2=.free->∃ c,env.cells.lookup z.1=some c)->(gU env l cs).lookup y=some c->cs.lookup y=some c\/env.cells.lookup y=some c
 | [],cs,y,c,_,e=>.inl e
 | (n,k)::r,cs,y,c,h,e=>by
  unfold gU at e
  have hr:=fun z hz=>h z (List.mem_cons_of_mem _ hz)
  split at e
  ·rename_i hk
   rcases bj r _ y c hr e with q | q
   ·rw [List.lookup_cons] at q
    cases hy:y==n with
    | true=>
     have hy':y=n:=by simpa using hy
     subst hy'
     rw [hy] at q
     obtain ⟨c',ec⟩:=h (y,k) List.mem_cons_self (by simpa using hk)
     simp only [ec,Option.getD_some] at q
     cases q
     exact .inr ec
    | false=>rw [hy] at q; exact .inl q
   ·exact .inr q
  ·exact bj r cs y c hr e
theorem iA {env:Env}:∀ (l:List (Str×NameKind)) (cs:List (Str×Addr)) (y:Str),((y,NameKind.free)∈l\/(cs.lookup y).isSome=true)->((gU env l cs).lookup y).isSome=true
 | [],cs,y,h=>by
  rcases h with h | h
  ·cases h
  ·exact h
 | (n,k)::r,cs,y,h=>by
  unfold gU
  split
  ·rename_i hk
   refine iA r _ y ?_
   rcases h with h | h
   ·rcases List.mem_cons.mp h with e | e
    ·cases e; exact .inr (by simp [List.lookup_cons])
    ·exact .inl e
   ·refine .inr ?_
    rw [List.lookup_cons]
    cases hy:y==n with
    | true=>rfl
    | false=>exact h
  ·rename_i hk
   refine iA r cs y ?_
   rcases h with h | h
   ·rcases List.mem_cons.mp h with e | e
    ·cases e; exact absurd rfl hk
    ·exact .inl e
   ·exact .inr h
theorem dP {env:Env} {y:Str}:∀ (l:List (Str×NameKind)),(∀ z∈l,z.2≠.cell) ->
  (((l.map fun (n,k)=>if (k==NameKind.free&&env.scope.kind == .function&&env.kindOf n==some .cell) then (n,NameKind.cell) else (n,k)).lookup y=some .cell\/(l.map fun (n,k)=>if (k==NameKind.free&&env.scope.kind == .function&&env.kindOf n==some .cell) then (n,NameKind.cell) else (n,k)).lookup y=some .free)↔l.lookup y=some .free)
 | [],_=>by simp
 | (n,k)::r,h=>by
  have ih:=dP (env:=env) (y:=y) r fun z hz=>h z (List.mem_cons_of_mem _ hz)
  have hk:k≠.cell:=h (n,k) List.mem_cons_self
  rw [List.map_cons]
  cases hy:y==n with
  | true=>
   by_cases hc:(k==NameKind.free&&env.scope.kind == .function&&env.kindOf n==some .cell)=true
   ·have hf:k=.free:=by
     simp only [Bool.and_eq_true] at hc
     simpa using hc.1.1
    simp only [if_pos hc,List.lookup_cons,hy]
    simp [hf]
   ·simp only [if_neg hc,List.lookup_cons,hy]
    simp [hk]
  | false=>
   by_cases hc:(k==NameKind.free&&env.scope.kind == .function&&env.kindOf n==some .cell)=true
   ·simp only [if_pos hc,List.lookup_cons,hy]; exact ih
   ·simp only [if_neg hc,List.lookup_cons,hy]; exact ih
noncomputable def blk (X:Cx) (scope:Scope) (N:List Str) (C:Addr) (s₀:Shared) (H₀:Hp) (ex:List Addr):Cx:=
 { X with N:=N,s₀:=s₀,H₀:=H₀,env:=compEnvC scope (gU X.env scope.names []) C X.env,outer:=X.stack,stack:=X.stack,ex:=ex,fn:=fun _=>false,pn:=[],xe:=fun _ _=>False }
structure BlkOk (on:List (Str×NameKind)) (ON:List Str) (scope:Scope) (vars:List Str) (caps:List (Nat×Str)):Prop where
 kind:scope.kind=.function
 cell:∀ y∈scope.names,y.2≠.cell
 names:∀ y∈scope.names,y.2=.local->scope.names.lookup y.1=some .local
 free:∀ y∈scope.names,y.2=.free->on.lookup y.1=some .cell\/on.lookup y.1=some .free
 cap:∀ p∈caps,ON[p.1]? = some p.2/\scope.names.lookup p.2=some .free
section
variable {X:Cx} {pins:List (Addr×Obj)} {σ:St} {H H':Hp} {s s':Shared} {scope:Scope} {vars:List Str} {caps:List (Nat×Str)} {fp:List Addr} {C:Addr}
noncomputable def eG (σ:St) (caps:List (Nat×Str)):St:=caps.map fun p=>(σ[p.1]?).getD none
theorem BlkOk.cells (B:BlkOk X.env.scope.names X.N scope vars caps) (I:Inv X pins σ H s):∀ y∈scope.names,y.2=.free->∃ c,X.env.cells.lookup y.1=some c:=fun y hy e=>I.ok.has y.1 (B.free y hy e)
theorem qW (B:BlkOk X.env.scope.names X.N scope vars caps) (I:Inv X pins σ H s) (hf:∀ b∈fp,gq X pins H b) (hlt:∀ b∈fp,b<s.heap.objs.size) (hC:s.heap.objs.size<=C):(blk X scope (vars++caps.map (·.2)) C s H fp).Ok where
 mod:=I.ok.mod
 kind:=B.kind
 glob:=I.ok.glob
 blt:=I.ok.blt
 above:=hC
 inj:=fun x y c e1 e2=>by
  rcases bj _ _ _ _ (B.cells I) e1 with q1 | q1
  ·cases q1
  ·rcases bj _ _ _ _ (B.cells I) e2 with q2 | q2
   ·cases q2
   ·exact I.ok.inj x y c q1 q2
 has:=fun x e=>by
  have:scope.names.lookup x=some .free:=(dP scope.names B.cell).mp e
  have:=iA (env:=X.env) scope.names [] x (.inl (PySem.mem_of_lookup this))
  exact Option.isSome_iff_exists.mp this
 cab:=fun x c e=>nomatch e
 hd:=I.ok.hd
 frames:=I.ok.frames
 stk:=.inl rfl
 exf:=fun b hb=>⟨Nat.ne_of_lt (Nat.lt_of_lt_of_le (hlt b hb) hC),fun x c e=>by
  rcases bj _ _ _ _ (B.cells I) e with q | q
  ·cases q
  ·exact (hf b hb).2.2.2.2.1 x c q⟩
 bs:=I.bs
 bsz:=Nat.le_trans I.ok.bsz I.sz
 noex:=fun b o e hb=>by
  rcases (hf b hb).2.2.2.1 with z | z
  ·exact I.ok.noex b o e z
  ·exact absurd (Nat.lt_of_lt_of_le (Heap.lt_size e) (Nat.le_trans I.ok.bsz z)) (Nat.lt_irrefl _)
 exfs:=fun b hb z=>by
  rcases List.mem_cons.mp (I.stkSub b z) with q | q
  ·exact (hf b hb).2.1 q
  ·exact (hf b hb).2.2.1 q
 funs:=I.stack
 frf:=I.stkFree
theorem sJ (B:BlkOk X.env.scope.names X.N scope vars caps) (I:Inv X pins σ H s) (hf:∀ b∈fp,gq X pins H b) (hlt:∀ b∈fp,b<s.heap.objs.size) (hC:s.heap.objs.size<=C) {h₁:Heap} {m:Str->Option Value} {tk:Nat} (hns:h₁.Ns C m) (old:∀ b o,s.heap.get? b=some o->h₁.get? b=some o) :
  Inv (blk X scope (vars++caps.map (·.2)) C s H fp) [] (vars.map (fun _=>none)++eG σ caps) H { s with heap:=h₁,toks:=tk }:=by
 refine ⟨qW B I hf hlt hC,rfl,I.bare,Un.kept old,⟨m,hns,fun i x v e1 e2 e3=>?_⟩,fun x c e=>?_,I.hok.fresh hC,fun x c e=>?_,fun p hp=>absurd (show p∈([]:List (Addr×Obj)) from hp) (by simp),I.hok.kept old,?_⟩
 ·have e1:(vars++caps.map (·.2))[i]? = some x:=e1
  by_cases hi:i<vars.length
  ·rw [List.getElem?_append_left (by simpa using hi),List.getElem?_map] at e2
   cases q:vars[i]? <;> rw [q] at e2 <;> cases e2
  ·rw [List.getElem?_append_right (by simpa using hi)] at e1 e2
   simp only [List.length_map] at e2
   unfold eG at e2
   rw [List.getElem?_map] at e1 e2
   cases q:caps[i-vars.length]? with
   | none=>rw [q] at e1; cases e1
   | some p=>
    rw [q] at e1 e2
    cases e1
    have hp:=List.mem_of_getElem? q
    obtain ⟨g1,g2⟩:=B.cap p hp
    have gf:X.env.scope.names.lookup p.2=some .cell\/X.env.scope.names.lookup p.2=some .free:=B.free (p.2,.free) (PySem.mem_of_lookup g2) rfl
    have ev:σ[p.1]? = some (some v):=by
     have e2:(σ[p.1]?).getD none=some v:=Option.some.inj e2
     cases z:σ[p.1]? with
     | none=>rw [z] at e2; cases e2
     | some w=>rw [z] at e2; rw [show w=some v from e2]
    obtain ⟨m',_,hl⟩:=I.loc
    obtain ⟨u,r,l⟩:=hl p.1 p.2 v g1 ev (gf.elim (fun z=>.inr (.inl z)) fun z=>.inr (.inr z))
    refine ⟨u,r,.inr ⟨?_,?_⟩⟩
    ·exact (dP scope.names B.cell).mpr g2
    ·rcases l with ⟨z,_⟩ | ⟨_,c,ec,hc⟩
     ·have z:X.env.scope.names.lookup p.2=some .local:=z
      rcases gf with w | w <;> rw [z] at w <;> cases w
     ·obtain ⟨c',q'⟩:=Option.isSome_iff_exists.mp (iA (env:=X.env) scope.names [] p.2 (.inl (PySem.mem_of_lookup g2)))
      rcases bj _ _ _ _ (B.cells I) q' with w | w
      ·cases w
      ·rw [ec] at w
       cases w
       obtain ⟨o,ho,hd⟩:=hc
       exact ⟨c,q',o,old c o ho,hd⟩
 ·rcases bj _ _ _ _ (B.cells I) e with q | q
  ·cases q
  ·obtain ⟨v,o,ho,hd⟩:=I.cell x c q
   exact ⟨v,o,old c o ho,hd⟩
 ·rcases bj _ _ _ _ (B.cells I) e with q | q
  ·cases q
  ·exact I.freeC x c q
 ·simp [blk,eG]
theorem sI (I:Inv X pins σ H s) (hf:∀ b∈fp,gq X pins H b) {D:Addr} {s':Shared} {σ':St} {N:List Str} {ys:List V} {its:List Value} (hC:s.heap.objs.size<=C) (hD:s.heap.objs.size<=D) (hDC:D≠C)
  (J:Inv (blk X scope N C s H fp) [] σ' H' s') (hD':H' D=none) (hp:s'.heap.PlainList D its.toArray) (hv:Vals ys its) (hz:ys.length<=sizeLine) {h':Heap} (hs:Heap.SameBut C s'.heap h') :
  Inv X pins σ (upd H' D (.lst ys)) { s' with heap:=h' }:=by
 have U:Un (fT X.stack) fp H H' s.heap s'.heap:=J.base
 have neC:∀ b o,s.heap.get? b=some o->b≠C:=fun b o e=>Nat.ne_of_lt (Nat.lt_of_lt_of_le (Heap.lt_size e) hC)
 have neD:∀ b o,s.heap.get? b=some o->b≠D:=fun b o e=>Nat.ne_of_lt (Nat.lt_of_lt_of_le (Heap.lt_size e) hD)
 have mv:∀ b o,b≠C->s'.heap.get? b=some o->h'.get? b=some o:=fun b o hb e=>hs.extBut b o hb e
 have tD:∀ b o,H' b=some o->(upd H' D (.lst ys)) b=some o:=fun b o e=>by rw [ar (aD e hD')]; exact e
 refine I.call' (s':={ s' with heap:=h' }) (ch:=fp) J.os ⟨fun b o e n h1 h2=>mv b o (neC b o e) (U.keep b o e n h1 h2),fun b o e n h1 h2=>?_,fun b o e n h2=>?_,fun b o e h2=>?_,fun b xs e=>tD _ _ (U.tups b xs e),fun b o xs e=>tD _ _ (U.frzs b o xs e),fun b ps e=>?_⟩ (fun b o e=>?_) J.bare
  (fun b hb=>⟨(hf b hb).2.2.2.1,(hf b hb).2.1,(hf b hb).2.2.2.2.1,(hf b hb).2.2.2.2.2⟩)
 ·obtain ⟨sl,q⟩:=U.slot b o e n h1 h2
  exact ⟨sl,mv b _ (neC b o e) q⟩
 ·rw [ar (neD b o e)]; exact U.free b o e n h2
 ·obtain ⟨o',q⟩:=U.there b o e h2
  exact ⟨o',mv b _ (neC b o e) q⟩
 ·obtain ⟨more,q⟩:=U.tbls b ps e
  exact ⟨more,tD _ _ q⟩
 ·by_cases hb:b=D
  ·subst hb
   rw [aw] at e
   cases e
   obtain ⟨n,q⟩:=hp
   exact ⟨hz,its,n,hv,mv _ _ hDC q⟩
  ·rw [ar hb] at e
   refine (J.hok b o e).stay (fun c v hc q=>mv c v ?_ q) (fun c q=>tD _ _ q) fun c xs q=>tD _ _ q
   intro z
   have fc:H' C=none:=J.free
   rcases hc with w | w
   ·rw [<- w,z,fc] at e; cases e
   ·rw [z,fc] at w; cases w
theorem p7 (elt target iter:Expr) (scope:Scope) (pos:Pos) (it acc:Value) (env:Env) :
  compTurn (.ListComp elt [⟨target,iter,[],0⟩] scope pos) 0 it acc env=(standAt iter.pos >>= fun _=>pyNext it >>= fun r=>match r with
   | none=>pure (.done .next)
   | some v=>letOwnedTupleGo target it v >>= fun _=>assign target env v >>= fun _=>
    (eval elt env >>= fun x=>call (.builtin "list.append") [acc,x] >>= fun _=>pure ()) >>= fun _=>
     again (.compLoop (.ListComp elt [⟨target,iter,[],0⟩] scope pos) 0 it acc env)):=by rfl
noncomputable def sP (σ σ':St):Prop:=σ.length = σ'.length/\∀ (i:Nat) v,σ[i]? = some (some v) -> σ'[i]? = some (some v)
noncomputable def yV (wi:TI) (g:TG) (te:TE) (vars:List Str) (caps:List (Nat×Str)):TE:=fun σ H Q=>wi σ H fun J H1=>∃ W:Nat->Nat->List V->Hp->Prop,(∃ m,W 0 m [] H1)/\∀ i m ys H,W i m ys H ->
 (J.stop i H/\ys.length<=sizeLine/\∀ p,H p=none->Q (.ref p) (upd H p (.lst ys))) \/
 (J.go i H/\ys.length<sizeLine/\∀ x H',J.yld i H x H'->g x (vars.map (fun _=>none)++eG σ caps) H' fun σ2 H2=>sP (vars.map (fun _=>none)++eG σ caps) σ2/\te σ2 H2 fun y H3=>∃ m',m'<m/\W (i+1) m' (ys++[y]) H3)
theorem Inv.weaken {X:Cx} {pins:List (Addr×Obj)} {σ σ':St} {H:Hp} {s:Shared} (I:Inv X pins σ H s) (hl:σ'.length = σ.length) (w:∀ (i:Nat) v,σ'[i]? = some (some v) -> σ[i]? = some (some v)):Inv X pins σ' H s:=I.weak hl w
theorem jF {prog:Program} {w:World} {A:Around} {R:Result->Shared->Prop} {s:Shared} {elt target iter:Expr} {scope:Scope} {pos:Pos} {it acc:Value} {env:Env} (I:Nat->Shared->Prop)
  (turn:∀ n s,I n s->wpAny (model prog w) A (pyNext it) (fun r s₁=>match r with
   | none=>R (.ok .next) s₁
   | some v=>wpAny (model prog w) A (letOwnedTupleGo target it v) (fun _ s₁=>wpAny (model prog w) A (assign target env v) (fun _ s₂=>wpAny (model prog w) A (eval elt env) (fun x s₃=>
     wpAny (model prog w) A (call (.builtin "list.append") [acc,x]) (fun _ s₄=>∃ m,m<n/\I m s₄) (fun _ _=>False) s₃) (fun _ _=>False) s₂) (fun _ _=>False) s₁) (fun _ _=>False) s₁) (fun _ _=>False) s)
  (n:Nat) (h:I n s):codeAny (model prog w) A (.compLoop (.ListComp elt [⟨target,iter,[],0⟩] scope pos) 0 it acc env) R s:=by
 refine codeAny_loop rfl I (fun n s hI=>?_) n h
 show wpAny _ _ ((compTurn (.ListComp elt [⟨target,iter,[],0⟩] scope pos) 0 it acc env).onRaise (fun x=>do noteFrame x env; theTreesLotGoes x)) _ _ s
 refine wpAny_noted ?_
 rw [p7]
 refine wpAny_bind (wpAny_standAt (wpAny_bind (wpAny_mono (turn n s hI) (fun r s₁ h₁=>?_) fun _ _ h'=>h'.elim)))
 cases r with
 | none=>exact wpAny_pure h₁
 | some v=>
  refine wpAny_bind (wpAny_mono h₁ (fun _ s₁ h₁=>?_) fun _ _ h'=>h'.elim)
  exact wpAny_bind (wpAny_mono h₁ (fun _ s₂ h₂=>wpAny_bind (wpAny_bind (wpAny_mono h₂ (fun x s₃ h₃=>wpAny_bind (wpAny_mono h₃
   (fun _ s₄ h₄=>wpAny_pure (wpAny_pure ⟨rfl,h₄⟩)) fun _ _ h'=>h'.elim)) fun _ _ h'=>h'.elim))) fun _ _ h'=>h'.elim)
end
section
variable {X:Cx} {scope:Scope} {vars:List Str} {caps:List (Nat×Str)} {elt tg iter:Expr} {pos:Pos} {wi:TI} {g:TG} {te:TE}
theorem qT (B:BlkOk X.env.scope.names X.N scope vars caps) (hc:X.calm=true)
  (hg:∀ C s₀ H₀ ex,PG (blk X scope (vars++caps.map (·.2)) C s₀ H₀ ex) tg g) (he:∀ C s₀ H₀ ex,PE (blk X scope (vars++caps.map (·.2)) C s₀ H₀ ex) elt te)
  {pins:List (Addr×Obj)} {σ:St} {H2:Hp} {s2:Shared} {Q:VK} {it:Addr} {fp:List Addr} {tn:Nat->Heap->Prop} {J:It} (I2:Inv X pins σ H2 s2) (T:wB X.prog X.w X.K tg J fp it tn) (st2:tn 0 s2.heap) (f2:∀ b∈fp,gq X pins H2 b)
  {W:Nat->Nat->List V->Hp->Prop} {m0:Nat} (w0:W 0 m0 [] H2) (turn:∀ i m ys H,W i m ys H ->
   (J.stop i H/\ys.length<=sizeLine/\∀ p,H p=none->Q (.ref p) (upd H p (.lst ys))) \/
   (J.go i H/\ys.length<sizeLine/\∀ x H',J.yld i H x H'->g x (vars.map (fun _=>none)++eG σ caps) H' fun σ2 H2=>sP (vars.map (fun _=>none)++eG σ caps) σ2/\te σ2 H2 fun y H3=>∃ m',m'<m/\W (i+1) m' (ys++[y]) H3))
  {RR:Value->Addr->Result->Shared->Prop} {E:Value->Shared->Prop}
  (hRR:∀ D C s' m,s'.heap.Ns C m->D≠C->s2.heap.objs.size<=D->s2.heap.objs.size<=C->∀ H',H' C=none->(∀ h',Heap.SameBut C s'.heap h'->Inv X pins σ H' { s' with heap:=h' })->Q (.ref D) H'->RR (.ref D) C (.ok .next) s') :
  wpAny (model X.prog X.w) X.A (newList []) (fun acc s₃=>wpAny (model X.prog X.w) X.A (newFunctionEnv scope X.env.globals (gU X.env scope.names []) [] X.env.qual none .none (some X.env)) (fun cenv s₄=>
   codeAny (model X.prog X.w) X.A (.compStart (.ListComp elt [⟨tg,iter,[],0⟩] scope pos) 0 (.ref it) acc { cenv with scope:=relabel scope X.env }) (RR acc cenv.locals) s₄) E s₃) E s2:=by
 refine wpAny_newObj_type (wpAny_newFunctionEnv B.cell (by intro y hy; simp at hy) (fun h₁ hns₁ hsb₁=>?_) B.kind)
 dsimp only at hns₁ hsb₁ ⊢
 generalize hP:s2.heap.push { cls:=.type "list",dict:=none,data:=.seq ([]:List Value).toArray }=HP at hns₁ hsb₁ ⊢
 have hCs:HP.objs.size=s2.heap.objs.size+1:=by rw [<- hP,Heap.size_push]
 have hDC:s2.heap.objs.size≠HP.objs.size:=by rw [hCs]; exact Nat.ne_of_lt (Nat.lt_succ_self _)
 have hCle:s2.heap.objs.size<=HP.objs.size:=by rw [hCs]; exact Nat.le_succ _
 have old:∀ b o,s2.heap.get? b=some o->h₁.get? b=some o:=fun b o e=>hsb₁.extBut b o (Nat.ne_of_lt (Nat.lt_of_lt_of_le (Heap.lt_size e) hCle)) (Heap.get?_push_of_some _ (hP ▸ Heap.get?_push_of_some _ e))
 have hacc:h₁.PlainList s2.heap.objs.size #[]:=⟨_,hsb₁.extBut _ _ hDC (Heap.get?_push_of_some _ (hP ▸ Heap.get?_push_size _ rfl))⟩
 have flt:∀ b∈fp,b<s2.heap.objs.size:=fun b hb=>by
  obtain ⟨o,e,_⟩:=T.obj _ _ st2 b hb
  exact Heap.lt_size e
 have st1:tn 0 h₁:=T.keep _ _ _ st2 fun b _ o e=>old b o e
 have loop:∀ s3:Shared,s3={ s2 with heap:=h₁,toks:=s2.toks+([]:List (Str×Value)).length } ->
   codeAny (model X.prog X.w) X.A (.compLoop (.ListComp elt [⟨tg,iter,[],0⟩] scope pos) 0 (.ref it) (.ref s2.heap.objs.size) (compEnvC scope (gU X.env scope.names []) HP.objs.size X.env))
    (RR (.ref s2.heap.objs.size) HP.objs.size) s3:=by
  rintro s3 rfl
  have X':=blk X scope (vars++caps.map (·.2)) HP.objs.size s2 H2 fp
  have fpo:∀ {H':Hp},(∀ b∈fp,H' b=none)->∀ b∈fp,gq (blk X scope (vars++caps.map (·.2)) HP.objs.size s2 H2 fp) [] H' b:=fun hn b hb=>by
   have ok:=qW B I2 f2 flt hCle
   exact ⟨hn b hb,(ok.exf b hb).1,ok.exfs b hb,.inl hb,(ok.exf b hb).2,fun p hp=>absurd (show p∈([]:List (Addr×Obj)) from hp) (by simp)⟩
  refine jF (fun n s=>∃ i ys H its,Inv (blk X scope (vars++caps.map (·.2)) HP.objs.size s2 H2 fp) [] (vars.map (fun _=>none)++eG σ caps) H s/\tn i s.heap/\(∀ b∈fp,H b=none)/\s.heap.PlainList s2.heap.objs.size (List.toArray its)/\H s2.heap.objs.size=none/\Vals ys its/\W i n ys H) ?_ m0
   ⟨0,[],H2,[],sJ B I2 f2 flt hCle hns₁ old,st1,fun b hb=>(f2 b hb).1,hacc,I2.hok.fresh (Nat.le_refl _),.nil,w0⟩
  rintro n s4 ⟨i,ys,H4,its,I4,st4,fr4,pl4,nD4,v4,w4⟩
  obtain ⟨nn,eD⟩:=id pl4
  have DnL:s2.heap.objs.size≠(blk X scope (vars++caps.map (·.2)) HP.objs.size s2 H2 fp).env.locals:=hDC
  have Dfs:s2.heap.objs.size ∉ (blk X scope (vars++caps.map (·.2)) HP.objs.size s2 H2 fp).fs:=fun z=>by
   rcases List.mem_cons.mp (I2.stkSub _ z) with q | q
   ·have:=I2.lt; rw [<- q] at this; exact Nat.lt_irrefl _ this
   ·exact I2.nofs (Nat.le_refl _) q
  have Dfp:∀ b∈fp,s2.heap.objs.size≠b:=fun b hb z=>by have:=flt b hb; rw [<- z] at this; exact Nat.lt_irrefl _ this
  have DnC:∀ x c,(blk X scope (vars++caps.map (·.2)) HP.objs.size s2 H2 fp).env.cells.lookup x=some c->c≠s2.heap.objs.size:=fun x c e z=>by
   rcases bj _ _ _ _ (B.cells I2) e with q | q
   ·cases q
   ·obtain ⟨v,o,ho,_⟩:=I2.cell x c q
    have:=Heap.lt_size ho
    rw [z] at this
    exact Nat.lt_irrefl _ this
  have pinD:∀ {σ':St} {H':Hp} {s':Shared},Inv (blk X scope (vars++caps.map (·.2)) HP.objs.size s2 H2 fp) [(s2.heap.objs.size,{ cls:=.type "list",data:=.seq its.toArray nn })] σ' H' s'->s'.heap.PlainList s2.heap.objs.size its.toArray/\H' s2.heap.objs.size=none:=fun {σ' H' s'} I'=>by
   obtain ⟨q1,q2,_⟩:=I'.pin (s2.heap.objs.size,{ cls:=.type "list",data:=.seq its.toArray nn }) (by simp [blk])
   exact ⟨⟨nn,q1⟩,q2⟩
  have I4p:Inv (blk X scope (vars++caps.map (·.2)) HP.objs.size s2 H2 fp) [(s2.heap.objs.size,{ cls:=.type "list",data:=.seq its.toArray nn })] (vars.map (fun _=>none)++eG σ caps) H4 s4:=
   I4.pins_of fun p hp=>by
    have e:p=(s2.heap.objs.size,{ cls:=.type "list",data:=.seq its.toArray nn }):=by simpa [blk] using hp
    subst e
    exact ⟨eD,nD4,DnL,Dfs,fun v z=>by cases z⟩
  have fpo':∀ {H':Hp},(∀ b∈fp,H' b=none)->∀ b∈fp,gq (blk X scope (vars++caps.map (·.2)) HP.objs.size s2 H2 fp) [(s2.heap.objs.size,{ cls:=.type "list",data:=.seq its.toArray nn })] H' b:=fun hn b hb=>by
   obtain ⟨q1,q2,q3,q4,q5,_⟩:=fpo hn b hb
   exact ⟨q1,q2,q3,q4,q5,fun p hp=>by
    have e:p=(s2.heap.objs.size,{ cls:=.type "list",data:=.seq its.toArray nn }):=by simpa [blk] using hp
    subst e
    exact Dfp b hb⟩
  have unp:∀ {pl:List (Addr×Obj)} {σ':St} {H':Hp} {s':Shared},Inv (blk X scope (vars++caps.map (·.2)) HP.objs.size s2 H2 fp) pl σ' H' s'->Inv (blk X scope (vars++caps.map (·.2)) HP.objs.size s2 H2 fp) [] σ' H' s':=fun {pl σ' H' s'} I'=>
   I'.pins_of fun p hp=>absurd (show p∈([]:List (Addr×Obj)) from hp) (by simp)
  rcases turn i n ys H4 w4 with ⟨stop,hz,qn⟩ | ⟨go,hz,step⟩
  ·refine bU (T.done (blk X scope (vars++caps.map (·.2)) HP.objs.size s2 H2 fp) rfl rfl rfl hc i _ s4 _ H4 _ I4p (fpo' fr4) st4 stop) fun r s5 ⟨hr,I5⟩=>?_
   subst hr
   obtain ⟨p5,n5⟩:=pinD I5
   obtain ⟨m5,ns5,_⟩:=I5.loc
   refine hRR _ _ s5 m5 ns5 hDC (Nat.le_refl _) hCle _ ?_ (fun h' hs'=>sI I2 f2 hCle (Nat.le_refl _) hDC (unp I5) n5 p5 v4 hz hs') (qn _ n5)
   rw [ar hDC.symm]
   exact I5.free
  ·refine bU (T.item (blk X scope (vars++caps.map (·.2)) HP.objs.size s2 H2 fp) rfl rfl rfl hc i _ s4 _ H4 _ I4p (fpo' fr4) st4 go) fun r s5 ⟨u,hr,h5⟩=>?_
   subst hr
   refine bU h5 fun _ s6 ⟨x,H6,I6,rx,yx,st6,fr6⟩=>?_
   have I6p:=I6.pinned (fpo' fr6) (T.obj _ _ st6)
   refine bU (hg _ _ _ _ _ s6 _ H6 x u _ I6p rx (step x H6 yx)) fun _ s7 ⟨σ7,H7,I7,kp,q7⟩=>?_
   refine bU (he _ _ _ _ _ s7 σ7 H7 _ I7 q7) fun v s8 ⟨y,H8,I8,ry,m',hm,w8⟩=>?_
   obtain ⟨p8,n8⟩:=pinD I8.unpinned
   have st8:tn (i+1) s8.heap:=T.keep _ _ _ st6 fun b hb o e=>(I8.pin (b,o) (List.mem_append_right _ (List.mem_append_right _ (ce hb e)))).1
   have fr8:∀ b∈fp,H8 b=none:=fun b hb=>by
    obtain ⟨o,e,d⟩:=T.obj _ _ st6 b hb
    exact (I8.pin (b,o) (List.mem_append_right _ (List.mem_append_right _ (ce hb e)))).2.1
   have hl:=v4.length
   refine wpAny_list_append_plain p8 (fun h9 p9 sb9=>⟨m',hm,i+1,ys++[y],H8,its++[v],?_,?_,fr8,by simpa using p9,n8,v4.append (.cons ry .nil),w8⟩) (by simp; omega)
   ·have I9:Inv (blk X scope (vars++caps.map (·.2)) HP.objs.size s2 H2 fp) [] σ7 H8 { s8 with heap:=h9,toks:=s8.toks }:=
     (unp I8).turned (it:=s2.heap.objs.size) (fun b o hb e=>sb9.extBut b o hb e) n8 DnL (.inr (Nat.le_refl _)) DnC fun p hp=>absurd (show p∈([]:List (Addr×Obj)) from hp) (by simp)
    exact I9.weak kp.1 kp.2
   ·exact T.keep _ _ _ st8 fun b hb o e=>sb9.extBut b o (Dfp b hb).symm e
 exact codeAny_compStart_list (loop _ rfl) (T.self _ 0 _ _ _ st1 (loop _ rfl))
theorem xM (B:BlkOk X.env.scope.names X.N scope vars caps) (hc:X.calm=true) (hi:PI X tg iter wi)
  (hg:∀ C s₀ H₀ ex,PG (blk X scope (vars++caps.map (·.2)) C s₀ H₀ ex) tg g) (he:∀ C s₀ H₀ ex,PE (blk X scope (vars++caps.map (·.2)) C s₀ H₀ ex) elt te) (hs:∀ x,foldedSetIterable iter X.env x=pure x:=by intro _; rfl) :
  PE X (.ListComp elt [⟨tg,iter,[],0⟩] scope pos) (yV wi g te vars caps):=by
 intro pins s σ H Q I h
 rw [eval_ListComp]
 refine wpAny_comprehension_free (use:=none) rfl hs (eF (B.cells I)) B.kind B.names ?_
 show wpAny _ _ (eval iter X.env) _ _ s
 refine bU (hi pins s σ H _ I h) fun v s1 h1=>bU h1 fun itv s2 h2=>?_
 obtain ⟨it,fp,tn,J,H2,e,I2,T,st2,f2,W,⟨m0,w0⟩,turn⟩:=h2
 subst e
 exact qT B hc hg he I2 T st2 f2 w0 turn (RR:=fun acc C=>compPost (model X.prog X.w) X.A X.xe none (EP X pins σ Q) acc C) fun D C s' m ns _ _ _ H' _ k q=>⟨m,ns,fun h' hs'=>⟨.ref D,H',k h' hs',rfl,q⟩⟩
end
noncomputable def Cy:Option Sl->Sl
 | some (.fz d)=>.fz d
 | _=>.un
@[simp] theorem E2 (d:D):Cy (some (.fz d))=.fz d:=rfl
noncomputable def bC (δ:Dv) (caps:List (Nat×Str)):Dv:=caps.map fun p=>Cy δ[p.1]?
noncomputable def tN (f:D->Option D):List D->Option (List D)
 | []=>some []
 | d::ds=>(f d).bind fun e=>(tN f ds).bind fun es=>some (e::es)
noncomputable def ku (fi:Dv->Option (List D)) (caps:List (Nat×Str)) (bv:D->Option (List D)) (fe:Dv->Option D):Dv->Option D:=fun δ=>(fi δ).bind fun ds=>if ds.length<=sizeLine then (tN (fun d=>(bv d).bind fun vs=>fe (vs.map .fz++bC δ caps)) ds).bind fun es=>some (.list es) else none
noncomputable def mS:D->Option (List D):=fun d=>some [d]
theorem jl {f:D->Option D}:∀ {ds es:List D},tN f ds=some es->es.length=ds.length
 | [],es,h=>by cases h; rfl
 | d::ds,es,h=>by
  obtain ⟨e,_,h⟩:=bind_some h
  obtain ⟨es',h2,h⟩:=bind_some h
  cases h
  exact congrArg (· + 1) (jl h2)
theorem pA {f:D->Option D}:∀ {ds es:List D} {i:Nat} {d:D},tN f ds=some es->ds[i]? = some d->∃ e,f d=some e/\es[i]? = some e
 | [],es,i,d,h,q=>by simp at q
 | d::ds,es,i,d',h,q=>by
  obtain ⟨e,h1,h⟩:=bind_some h
  obtain ⟨es',h2,h⟩:=bind_some h
  cases h
  cases i with
  | zero=>simp at q; subst q; exact ⟨e,h1,rfl⟩
  | succ i=>simp at q; obtain ⟨e',g1,g2⟩:=pA (i:=i) h2 q; exact ⟨e',g1,by simpa using g2⟩
noncomputable def uq (K:Fg) (g:TG) (n:Nat) (bv:D->Option (List D)):Prop:=∀ (x:V) (Z:Hp) (d:D) (vs:List D) (σc:St) (H:Hp) (R:St->Hp->Prop),Rep K Z x d->Same Z H->bv d=some vs->(∀ us,Reps K Z us vs->us.length=n->R (us.map some ++ σc) H)->g x (List.replicate n none ++ σc) H R
theorem cv {K:Fg}:uq K (vX 0) 1 mS:=fun x Z d vs σc H R r zh e k=>by
 cases e
 exact k [x] (.cons r .nil) rfl
section
variable {X:Cx} {scope:Scope} {vars:List Str} {caps:List (Nat×Str)} {elt tg iter:Expr} {pos:Pos} {g:TG} {fi:Dv->Option (List D)} {fe:Dv->Option D} {bv:D->Option (List D)}
theorem wj {σ:St} {δ:Dv} {K:Fg} {H₀ Z₀ Z H:Hp} (hh:Hold K H₀ Z₀ Z δ σ H):∀ (j:Nat) d,(bC δ caps)[j]? = some (.fz d)->∃ v,(eG σ caps)[j]? = some (some v)/\Rep K Z v d:=fun j d e=>by
 unfold bC at e
 unfold eG
 rw [List.getElem?_map] at e ⊢
 cases q:caps[j]? with
 | none=>rw [q] at e; cases e
 | some p=>
  rw [q] at e
  have e:Cy δ[p.1]? = .fz d:=Option.some.inj e
  cases z:δ[p.1]? with
  | none=>rw [z] at e; cases e
  | some sl=>
   rw [z] at e
   cases sl with
   | fz d'=>
    cases e
    obtain ⟨v,g1,g2⟩:=hh.fz p.1 _ z
    exact ⟨v,by show some ((σ[p.1]?).getD none)=_; rw [g1]; rfl,g2⟩
   | un=>cases e
   | own _=>cases e
   | fr _=>cases e
theorem yD {δ:Dv}:∀ (j:Nat) ds,(bC δ caps)[j]? ≠ some (.own ds):=fun j ds e=>by
 unfold bC at e
 rw [List.getElem?_map] at e
 cases q:caps[j]? with
 | none=>rw [q] at e; cases e
 | some p=>
  rw [q] at e
  have e:Cy δ[p.1]? = .own ds:=Option.some.inj e
  cases z:δ[p.1]? with
  | none=>rw [z] at e; cases e
  | some sl=>rw [z] at e; cases sl <;> cases e
theorem yE {δ:Dv}:∀ (j:Nat) ds,(bC δ caps)[j]? ≠ some (.fr ds):=fun j ds e=>by
 unfold bC at e
 rw [List.getElem?_map] at e
 cases q:caps[j]? with
 | none=>rw [q] at e; cases e
 | some p=>
  rw [q] at e
  have e:Cy δ[p.1]? = .fr ds:=Option.some.inj e
  cases z:δ[p.1]? with
  | none=>rw [z] at e; cases e
  | some sl=>rw [z] at e; cases sl <;> cases e
theorem qd {σ:St} {δ:Dv} {K:Fg} {H₀ Z₀ Z H:Hp} (hh:Hold K H₀ Z₀ Z δ σ H) {us:List V} {vs:List D} (r:Reps K Z us vs):Hold K H Z Z (vs.map .fz++bC δ caps) (us.map some++eG σ caps) H:=by
 have hl:=r.length
 refine ⟨hh.zh,Same.refl _,Same.refl _,fun _ _=>rfl,by simp [bC,eG,hl],fun i d e=>?_,fun i ds e=>?_,fun i j ds es a _ e=>?_,fun i ds e=>?_,NoF.refl _⟩
 ·by_cases hi:i<vs.length
  ·rw [List.getElem?_append_left (by simpa using hi),List.getElem?_map] at e
   cases q:vs[i]? with
   | none=>rw [q] at e; cases e
   | some d'=>
    rw [q] at e
    cases e
    obtain ⟨v,g1,g2⟩:=r.get q
    exact ⟨v,by rw [List.getElem?_append_left (by simpa [hl] using hi),List.getElem?_map,g1]; rfl,g2⟩
  ·rw [List.getElem?_append_right (by simpa using hi)] at e
   obtain ⟨v,g1,g2⟩:=wj hh _ d e
   refine ⟨v,?_,g2⟩
   rw [List.getElem?_append_right (by simpa [hl] using hi)]
   simp only [List.length_map] at g1 ⊢
   rw [hl]; exact g1
 all_goals
  exfalso
  by_cases hi:i<vs.length
  ·rw [List.getElem?_append_left (by simpa using hi),List.getElem?_map] at e
   cases q:vs[i]? <;> rw [q] at e <;> cases e
  ·rw [List.getElem?_append_right (by simpa using hi)] at e
   first | exact yD _ _ e | exact yE _ _ e
theorem uk (tk:uq X.K g vars.length bv) {σ:St} {H:Hp} {Q:VK} (h:tV X.K (ku fi caps bv fe) σ H Q):yV (EJ X.K fi) g (tV X.K fe) vars caps σ H Q:=by
 obtain ⟨H₀,Z₀,Z,δ,d,hh,e,k⟩:=h
 obtain ⟨ds,e1,e⟩:=bind_some e
 by_cases hz:ds.length<=sizeLine
 ·rw [if_pos hz] at e
  obtain ⟨es,e2,e⟩:=bind_some e
  cases e
  have le:=jl e2
  have hv:vars.map (fun _=>(none:Option V))=List.replicate vars.length none:=by rw [List.map_const']
  refine ⟨H₀,Z₀,Z,δ,ds,hh,e1,fun J Z1 H1 hh1 t1 ok=>?_⟩
  refine ⟨fun i m ys H=>m=ds.length-i/\i<=ds.length/\∃ Zc,Hold X.K H₀ Z₀ Zc δ σ H/\Same Z1 Zc/\Reps X.K Zc ys (es.take i),⟨ds.length,by simp,Nat.zero_le _,Z1,hh1,Same.refl _,by simpa using .nil⟩,?_⟩
  rintro i m ys H2 ⟨rfl,hi2,Zc,hhc,tc,rc⟩
  have zh:Same Z1 H2:=tc.trans hhc.zh
  have ly:=rc.length
  rw [List.length_take] at ly
  by_cases hlt:i<ds.length
  ·refine .inr ⟨ok.go i H2 zh hlt,by omega,fun x H3 y=>?_⟩
   have ed:ds[i]? = some ds[i]:=by simp [hlt]
   obtain ⟨rfl,rx⟩:=ok.yld i H2 x H3 _ zh ed y
   obtain ⟨ei,f1,f2⟩:=pA e2 ed
   obtain ⟨vs,f3,f1⟩:=bind_some f1
   rw [hv]
   refine tk x Zc ds[i] vs (eG σ caps) H3 _ (rx.same tc) hhc.zh f3 fun us ru hn=>⟨⟨by simp [hn],fun j v q=>?_⟩,?_⟩
   ·by_cases hj:j<vars.length
    ·rw [List.getElem?_append_left (by simpa using hj),List.getElem?_replicate] at q
     split at q <;> cases q
    ·rw [List.getElem?_append_right (by simpa using hj)] at q
     rw [List.getElem?_append_right (by simpa [hn] using hj)]
     simpa [hn] using q
   ·refine ⟨H3,Zc,Zc,_,ei,qd hhc ru,f1,fun v Z4 H4 h4 t4 r4=>⟨ds.length-(i+1),by omega,rfl,hlt,Z4,hhc.new ⟨t4,h4.h0,h4.zh,h4.zb,h4.nf⟩,tc.trans t4,?_⟩⟩
    have:es.take (i+1)=es.take i++[ei]:=by
     rw [List.take_add_one,f2]; rfl
    rw [this]
    exact (rc.same t4).append (.cons r4 .nil)
  ·have hie:i=ds.length:=by omega
   subst hie
   refine .inl ⟨ok.stop _ H2 zh (Nat.le_refl _),by omega,fun p hp=>?_⟩
   rw [<- le,List.take_length] at rc
   have n:=New.add hhc.zh hp (.lst ys)
   exact k _ _ _ (hhc.new n) ((t1.trans tc).trans n.z) (.lst (SqL.of aw) (rc.same n.z))
 ·rw [if_neg hz] at e; cases e
theorem nW (B:BlkOk X.env.scope.names X.N scope vars caps) (hc:X.calm=true) (hi:IV X tg iter fi) (tk:uq X.K g vars.length bv)
  (hg:∀ C s₀ H₀ ex,PG (blk X scope (vars++caps.map (·.2)) C s₀ H₀ ex) tg g) (he:∀ C s₀ H₀ ex,EV (blk X scope (vars++caps.map (·.2)) C s₀ H₀ ex) elt fe) (hs:∀ x,foldedSetIterable iter X.env x=pure x:=by intro _; rfl) :
  EV X (.ListComp elt [⟨tg,iter,[],0⟩] scope pos) (ku fi caps bv fe):=
 PE.imp (xM (te:=tV X.K fe) B hc hi hg he hs) fun _ _ _ h=>uk tk h
end
end VL
set_option Elab.async false
set_option linter.all false
set_option maxRecDepth 100000
set_option maxHeartbeats 4000000
namespace VL
open PySem PySem.Spec PyProof.Rows L2
section
variable {X:Cx} {e:Expr} {es:List Expr} {p pos:Pos} {fs:Dv->Option (List D)}
theorem aB {k:Nat} {x:Str} {g:List D->Option D} (C:Cal X.prog X.w X.K X.mg X.base x k g []) (hr:Room k X.A) (hg:Gl X x) (ha:AV X (e::es) fs) (hdb:(x==("__debug__":Str))=false:=by decide) (he:starEach (e::es) X.env=(false,eval e X.env)::starEach es X.env:=by rfl)
  (hpl:(backTo pos (starEach es X.env)).any (·.1)=false:=by rfl):EV X (.Call (.Name x p) (e::es) [] pos) (os fs g):=by
 have h:=Bk C hr hg ha hdb he hpl (p:=p) (pos:=pos)
 have e:(fun as=>g (as++[]))=g:=by funext as; rw [List.append_nil]
 rw [e] at h
 exact h
end
structure TopV (K:Fg) (mg:Str->Option Value) (x:Str) (d:D):Prop where
 ex:∃ v u,mg x=some u/\RelV v u/\∀ Z,Rep K Z v d
theorem TopV.tup {K:Fg} {mg:Str->Option Value} {x:Str} {a:Addr} {its:Array Value} {tn:Nat} {ts:Array (Option Value)} {xs:List V} {ds:List D} (hm:mg x=some (.ref a)) (hk:K.lookup a=some ⟨.type "tuple",none,.seq its tn,ts⟩)
  (hz:its.size<=sizeLine) (hv:Vals xs its.toList) (hr:∀ Z,Reps K Z xs ds):TopV K mg x (.tuple ds):=⟨.ref a,.ref a,hm,rfl,fun Z=>.tup (.inr ⟨_,its,tn,hk,rfl,rfl,hz,hv,rfl⟩) (hr Z)⟩
theorem TopV.int {K:Fg} {mg:Str->Option Value} {x:Str} {i:Int} {t:Tok} (hm:mg x=some (.int i t)):TopV K mg x (.int i):=⟨.int i,.int i t,hm,⟨t,rfl⟩,fun _=>.int i⟩
noncomputable def xq:Option Sl->Option (List D)
 | some (.own (.l ds))=>some ds
 | _=>none
@[simp] theorem E1 (ds:List D):xq (some (.ow ds))=some ds:=rfl
theorem uM {o:Option Sl} {ds:List D} (h:xq o=some ds):o=some (.ow ds):=by
 cases o with
 | none=>cases h
 | some x=>
  cases x with
  | own c=>
   cases c with
   | l es=>cases h; rfl
   | d es=>cases h
  | un=>cases h
  | fz d=>cases h
  | fr _=>cases h
@[simp] noncomputable def CC (i:Nat) (fs:Dv->Option (List D)):Sf:=fun δ=>(fs δ).bind fun ds=>if ds.length<=sizeLine then some (.nx,δ.set i (.ow ds)) else none
@[simp] noncomputable def G6 (i:Nat) (f:Dv->Option D):Dv->Option D:=fun δ=>(xq δ[i]?).bind fun ds=>(f δ).bind fun k=>aK (.list ds) k
@[simp] noncomputable def Gy (i:Nat):Dv->Option D:=fun δ=>(xq δ[i]?).bind fun ds=>some (.int ds.length)
noncomputable def CP (ds:List D) (k v:D):Option (List D):=match k with
 | .int j=>(Ba ds.length j).map fun n=>ds.set n v
 | _=>none
@[simp] theorem CO (ds:List D) (j:Int) (v:D):CP ds (.int j) v=(Ba ds.length j).map fun n=>ds.set n v:=rfl
@[simp] noncomputable def G1 (i:Nat) (fk fv:Dv->Option D):Sf:=fun δ=>(fv δ).bind fun v=>(fk δ).bind fun k=>(xq δ[i]?).bind fun ds=>(CP ds k v).bind fun ds'=>some (.nx,δ.set i (.ow ds'))
@[simp] noncomputable def CG (i:Nat) (f:Dv->Option D):Sf:=fun δ=>(f δ).bind fun v=>(xq δ[i]?).bind fun ds=>if ds.length<sizeLine then some (.nx,δ.set i (.ow (ds++[v]))) else none
section
variable {X:Cx} {e b:Expr} {es:List Expr} {p pos tpos apos:Pos} {fs:Dv->Option (List D)} {f fk fv:Dv->Option D}
theorem zP (i:Nat) {x:Str} {pos':Pos} (hN:X.N.Nodup) (ha:AV X es fs) (hi:X.N[i]? = some x:=by rfl) (hx:ur X.env.scope x:=by first | exact Or.inl rfl | exact Or.inr rfl) (hs:swapsWith (.List es p) (some (.Name x pos')) pos.line X.env=pure false:=by rfl)
  (hf:X.fn x=true\/X.env.scope.names.lookup x=some .local:=by first | exact .inl rfl | exact .inr rfl | assumption):SV X (.Assign [.Name x pos'] (.List es p) pos) (CC i fs):=
 PS.imp (iS hN hi hx (u9 ha) hs hf) fun D σ H h=>by
  obtain ⟨H₀,Z₀,Z,δ,r,hh,e,k⟩:=h
  obtain ⟨ds,e1,e⟩:=bind_some e
  by_cases hl:ds.length<=sizeLine
  ·rw [if_pos hl] at e
   cases e
   exact ⟨H₀,Z₀,Z,δ,ds,hh,e1,fun vs Z1 H1 hh1 t1 r1=>⟨by rw [r1.length]; exact hl,fun p hp=>k _ _ Z1 (hh1.setO hp r1) t1⟩⟩
  ·rw [if_neg hl] at e; cases e
theorem y7 {K:Fg} {H₀ Z₀ Z:Hp} {δ:Dv} {σ:St} {H:Hp} (hh:Hold K H₀ Z₀ Z δ σ H) {i:Nat} {ds:List D} (h:xq δ[i]? = some ds):∃ a xs,σ[i]? = some (some (V.ref a))/\H a=some (.lst xs)/\Reps K Z xs ds:=by
 obtain ⟨a,xs,h1,_,_,h4,h5⟩:=hh.ow i ds (uM h)
 exact ⟨a,xs,h1,h4,h5⟩
theorem zQ (i:Nat) {x:Str} {cpos:Pos} (hv':EV X e f) (hN:X.N[i]? = some x:=by rfl) (hv:uu X.env.scope x:=by first | exact Or.inl rfl | exact Or.inr (Or.inl rfl) | exact Or.inr (Or.inr rfl)) (hd:(x==("__debug__":Str))=false:=by decide) (hcd:(x==("__classdict__":Str))=false:=by decide)
  (hbase:attributeBase (.Name x p) "append" X.env (eval (.Name x p) X.env)=eval (.Name x p) X.env:=by rfl)
  (hfew:((backTo cpos (starEach [e] X.env)).all (fun x=>!x.1)&&(backToKw cpos (keywordEach [] X.env)).all (fun x=>x.1.isSome)
   && decide ([e].length+([]:List Keyword).length+(if ([]:List Keyword).isEmpty then 0 else 1)<30))=true:=by rfl)
  (hline:(apos.endLine==cpos.line)=true:=by rfl) (hs:starEach [e] X.env=(false,eval e X.env)::starEach [] X.env:=by rfl) (hplain:(backTo cpos (starEach [] X.env)).any (·.1)=false:=by rfl)
  (hsw:swapsWith (.Call (.Attribute (.Name x p) "append" apos) [e] [] cpos) none pos.line X.env=pure false:=by rfl):SV X (.Expr (.Call (.Attribute (.Name x p) "append" apos) [e] [] cpos) pos) (CG i f):=
 PS.imp (jQ (CV PySem.F.plainAttrs_list PySem.F.slot_list_append PySem.F.type_list_append tL (eA hN hv hd hcd) (bE hv' dl hs) hbase hfew hline hs hplain) hsw) fun D σ H h=>by
  obtain ⟨H₀,Z₀,Z,δ,r,hh,e,k⟩:=h
  obtain ⟨v,e1,e⟩:=bind_some e
  obtain ⟨ds,e2,e⟩:=bind_some e
  by_cases hl:ds.length<sizeLine
  ·rw [if_pos hl] at e
   cases e
   obtain ⟨a,xs,h1,h4,h5⟩:=y7 hh e2
   refine ⟨_,h1,.inl ⟨rfl,xs,SqL.of h4⟩,H₀,Z₀,Z,δ,v,hh,e1,fun w Z1 H1 hh1 t1 r1=>?_⟩
   obtain ⟨a',xs',g1,g4,g5⟩:=y7 hh1 e2
   rw [h1] at g1
   cases g1
   exact ⟨a,xs',w,rfl,rfl,g4,by rw [g5.length]; exact hl,k σ _ Z1 (hh1.chg (xs:=xs') (uM e2) h1 (g5.append (.cons r1 .nil))) t1⟩
  ·rw [if_neg hl] at e; cases e
end
end VL
set_option Elab.async false
set_option linter.all false
set_option maxRecDepth 100000
set_option maxHeartbeats 4000000
namespace VL
open PySem PySem.Spec PyProof.Rows L2
section
noncomputable def qr (wi:TI) (g:TG) (tt:TT) (te:TE) (vars:List Str) (caps:List (Nat×Str)):TE:=fun σ H Q=>wi σ H fun J H1=>∃ W:Nat->Nat->List V->Hp->Prop,(∃ m,W 0 m [] H1)/\∀ i m ys H,W i m ys H ->
 (J.stop i H/\ys.length<=sizeLine/\∀ p,H p=none->Q (.ref p) (upd H p (.lst ys))) \/
 (J.go i H/\ys.length<sizeLine/\∀ x H',J.yld i H x H'->g x (vars.map (fun _=>none)++eG σ caps) H' fun σ2 H2=>sP (vars.map (fun _=>none)++eG σ caps) σ2/\tt σ2 H2 fun b H3=>if b=true then te σ2 H3 fun y H4=>∃ m',m'<m/\W (i+1) m' (ys++[y]) H4 else ∃ m',m'<m/\W (i+1) m' ys H3)
theorem jc {prog:Program} {w:World} {A:Around} {R:Result->Shared->Prop} {s:Shared} {elt target iter cnd:Expr} {scope:Scope} {pos:Pos} {it acc:Value} {env:Env} (I:Nat->Shared->Prop)
  (turn:∀ n s,I n s->wpAny (model prog w) A (pyNext it) (fun r s₁=>match r with
   | none=>R (.ok .next) s₁
   | some v=>wpAny (model prog w) A (letOwnedTupleGo target it v) (fun _ s₁=>wpAny (model prog w) A (assign target env v) (fun _ s₂=>wpAny (model prog w) A (isTrue cnd env (eval cnd env)) (fun ok s₂=>if ok=true then wpAny (model prog w) A (eval elt env) (fun x s₃=>
     wpAny (model prog w) A (call (.builtin "list.append") [acc,x]) (fun _ s₄=>∃ m,m<n/\I m s₄) (fun _ _=>False) s₃) (fun _ _=>False) s₂ else ∃ m,m<n/\I m s₂) (fun _ _=>False) s₂) (fun _ _=>False) s₁) (fun _ _=>False) s₁) (fun _ _=>False) s)
  (n:Nat) (h:I n s):codeAny (model prog w) A (.compLoop (.ListComp elt [⟨target,iter,[cnd],0⟩] scope pos) 0 it acc env) R s:=by
 refine codeAny_loop rfl I (fun n s hI=>?_) n h
 show wpAny _ _ ((compTurn (.ListComp elt [⟨target,iter,[cnd],0⟩] scope pos) 0 it acc env).onRaise (fun x=>do noteFrame x env; theTreesLotGoes x)) _ _ s
 refine wpAny_noted ?_
 rw [compTurn_list]
 refine wpAny_bind (wpAny_standAt (wpAny_bind (wpAny_mono (turn n s hI) (fun r s₁ h₁=>?_) fun _ _ h'=>h'.elim)))
 cases r with
 | none=>exact wpAny_pure h₁
 | some v=>
  refine wpAny_bind (wpAny_mono h₁ (fun _ s₁ h₁=>?_) fun _ _ h'=>h'.elim)
  refine wpAny_bind (wpAny_mono h₁ (fun _ s₂ h₂=>?_) fun _ _ h'=>h'.elim)
  refine wpAny_bind (wpAny_tests_one (wpAny_mono h₂ (fun okb s₃ h₃=>?_) fun _ _ h'=>h'.elim))
  cases okb with
  | false=>exact wpAny_pure ⟨rfl,h₃⟩
  | true=>exact wpAny_bind (wpAny_bind (wpAny_mono h₃ (fun x s₄ h₄=>wpAny_bind (wpAny_mono h₄ (fun _ s₅ h₅=>wpAny_pure (wpAny_pure ⟨rfl,h₅⟩)) fun _ _ h'=>h'.elim)) fun _ _ h'=>h'.elim))
end
section
variable {X:Cx} {scope:Scope} {vars:List Str} {caps:List (Nat×Str)} {elt tg iter cnd:Expr} {pos:Pos} {wi:TI} {g:TG} {tt:TT} {te:TE}
theorem jq {Cm:Cx->Prop} (B:BlkOk X.env.scope.names X.N scope vars caps)
  (hg:∀ C s₀ H₀ ex,PG (blk X scope (vars++caps.map (·.2)) C s₀ H₀ ex) tg g) (hb:∀ C s₀ H₀ ex,PT (blk X scope (vars++caps.map (·.2)) C s₀ H₀ ex) cnd tt) (he:∀ C s₀ H₀ ex,PE (blk X scope (vars++caps.map (·.2)) C s₀ H₀ ex) elt te)
  {pins:List (Addr×Obj)} {σ:St} {H2:Hp} {s2:Shared} {Q:VK} {it:Addr} {fp:List Addr} {tn:Nat->Heap->Prop} {J:It} (I2:Inv X pins σ H2 s2) (T:TurnG Cm X.prog X.w X.K tg J fp it tn) (st2:tn 0 s2.heap) (f2:∀ b∈fp,gq X pins H2 b) (hc:∀ C,Cm (blk X scope (vars++caps.map (·.2)) C s2 H2 fp))
  {W:Nat->Nat->List V->Hp->Prop} {m0:Nat} (w0:W 0 m0 [] H2) (turn:∀ i m ys H,W i m ys H ->
   (J.stop i H/\ys.length<=sizeLine/\∀ p,H p=none->Q (.ref p) (upd H p (.lst ys))) \/
   (J.go i H/\ys.length<sizeLine/\∀ x H',J.yld i H x H'->g x (vars.map (fun _=>none)++eG σ caps) H' fun σ2 H2=>sP (vars.map (fun _=>none)++eG σ caps) σ2/\tt σ2 H2 fun b H3=>if b=true then te σ2 H3 fun y H4=>∃ m',m'<m/\W (i+1) m' (ys++[y]) H4 else ∃ m',m'<m/\W (i+1) m' ys H3))
  {RR:Value->Addr->Result->Shared->Prop} {E:Value->Shared->Prop}
  (hRR:∀ D C s' m,s'.heap.Ns C m->D≠C->s2.heap.objs.size<=D->s2.heap.objs.size<=C->∀ H',H' C=none->(∀ h',Heap.SameBut C s'.heap h'->Inv X pins σ H' { s' with heap:=h' })->Q (.ref D) H'->RR (.ref D) C (.ok .next) s') :
  wpAny (model X.prog X.w) X.A (newList []) (fun acc s₃=>wpAny (model X.prog X.w) X.A (newFunctionEnv scope X.env.globals (gU X.env scope.names []) [] X.env.qual none .none (some X.env)) (fun cenv s₄=>
   codeAny (model X.prog X.w) X.A (.compStart (.ListComp elt [⟨tg,iter,[cnd],0⟩] scope pos) 0 (.ref it) acc { cenv with scope:=relabel scope X.env }) (RR acc cenv.locals) s₄) E s₃) E s2:=by
 refine wpAny_newObj_type (wpAny_newFunctionEnv B.cell (by intro y hy; simp at hy) (fun h₁ hns₁ hsb₁=>?_) B.kind)
 dsimp only at hns₁ hsb₁ ⊢
 generalize hP:s2.heap.push { cls:=.type "list",dict:=none,data:=.seq ([]:List Value).toArray }=HP at hns₁ hsb₁ ⊢
 have hCs:HP.objs.size=s2.heap.objs.size+1:=by rw [<- hP,Heap.size_push]
 have hDC:s2.heap.objs.size≠HP.objs.size:=by rw [hCs]; exact Nat.ne_of_lt (Nat.lt_succ_self _)
 have hCle:s2.heap.objs.size<=HP.objs.size:=by rw [hCs]; exact Nat.le_succ _
 have old:∀ b o,s2.heap.get? b=some o->h₁.get? b=some o:=fun b o e=>hsb₁.extBut b o (Nat.ne_of_lt (Nat.lt_of_lt_of_le (Heap.lt_size e) hCle)) (Heap.get?_push_of_some _ (hP ▸ Heap.get?_push_of_some _ e))
 have hacc:h₁.PlainList s2.heap.objs.size #[]:=⟨_,hsb₁.extBut _ _ hDC (Heap.get?_push_of_some _ (hP ▸ Heap.get?_push_size _ rfl))⟩
 have flt:∀ b∈fp,b<s2.heap.objs.size:=fun b hb=>by
  obtain ⟨o,e,_⟩:=T.obj _ _ st2 b hb
  exact Heap.lt_size e
 have st1:tn 0 h₁:=T.keep _ _ _ st2 fun b _ o e=>old b o e
 have loop:∀ s3:Shared,s3={ s2 with heap:=h₁,toks:=s2.toks+([]:List (Str×Value)).length } ->
   codeAny (model X.prog X.w) X.A (.compLoop (.ListComp elt [⟨tg,iter,[cnd],0⟩] scope pos) 0 (.ref it) (.ref s2.heap.objs.size) (compEnvC scope (gU X.env scope.names []) HP.objs.size X.env))
    (RR (.ref s2.heap.objs.size) HP.objs.size) s3:=by
  rintro s3 rfl
  have X':=blk X scope (vars++caps.map (·.2)) HP.objs.size s2 H2 fp
  have fpo:∀ {H':Hp},(∀ b∈fp,H' b=none)->∀ b∈fp,gq (blk X scope (vars++caps.map (·.2)) HP.objs.size s2 H2 fp) [] H' b:=fun hn b hb=>by
   have ok:=qW B I2 f2 flt hCle
   exact ⟨hn b hb,(ok.exf b hb).1,ok.exfs b hb,.inl hb,(ok.exf b hb).2,fun p hp=>absurd (show p∈([]:List (Addr×Obj)) from hp) (by simp)⟩
  refine jc (fun n s=>∃ i ys H its,Inv (blk X scope (vars++caps.map (·.2)) HP.objs.size s2 H2 fp) [] (vars.map (fun _=>none)++eG σ caps) H s/\tn i s.heap/\(∀ b∈fp,H b=none)/\s.heap.PlainList s2.heap.objs.size (List.toArray its)/\H s2.heap.objs.size=none/\Vals ys its/\W i n ys H) ?_ m0
   ⟨0,[],H2,[],sJ B I2 f2 flt hCle hns₁ old,st1,fun b hb=>(f2 b hb).1,hacc,I2.hok.fresh (Nat.le_refl _),.nil,w0⟩
  rintro n s4 ⟨i,ys,H4,its,I4,st4,fr4,pl4,nD4,v4,w4⟩
  obtain ⟨nn,eD⟩:=id pl4
  have DnL:s2.heap.objs.size≠(blk X scope (vars++caps.map (·.2)) HP.objs.size s2 H2 fp).env.locals:=hDC
  have Dfs:s2.heap.objs.size ∉ (blk X scope (vars++caps.map (·.2)) HP.objs.size s2 H2 fp).fs:=fun z=>by
   rcases List.mem_cons.mp (I2.stkSub _ z) with q | q
   ·have:=I2.lt; rw [<- q] at this; exact Nat.lt_irrefl _ this
   ·exact I2.nofs (Nat.le_refl _) q
  have Dfp:∀ b∈fp,s2.heap.objs.size≠b:=fun b hb z=>by have:=flt b hb; rw [<- z] at this; exact Nat.lt_irrefl _ this
  have DnC:∀ x c,(blk X scope (vars++caps.map (·.2)) HP.objs.size s2 H2 fp).env.cells.lookup x=some c->c≠s2.heap.objs.size:=fun x c e z=>by
   rcases bj _ _ _ _ (B.cells I2) e with q | q
   ·cases q
   ·obtain ⟨v,o,ho,_⟩:=I2.cell x c q
    have:=Heap.lt_size ho
    rw [z] at this
    exact Nat.lt_irrefl _ this
  have pinD:∀ {σ':St} {H':Hp} {s':Shared},Inv (blk X scope (vars++caps.map (·.2)) HP.objs.size s2 H2 fp) [(s2.heap.objs.size,{ cls:=.type "list",data:=.seq its.toArray nn })] σ' H' s'->s'.heap.PlainList s2.heap.objs.size its.toArray/\H' s2.heap.objs.size=none:=fun {σ' H' s'} I'=>by
   obtain ⟨q1,q2,_⟩:=I'.pin (s2.heap.objs.size,{ cls:=.type "list",data:=.seq its.toArray nn }) (by simp [blk])
   exact ⟨⟨nn,q1⟩,q2⟩
  have I4p:Inv (blk X scope (vars++caps.map (·.2)) HP.objs.size s2 H2 fp) [(s2.heap.objs.size,{ cls:=.type "list",data:=.seq its.toArray nn })] (vars.map (fun _=>none)++eG σ caps) H4 s4:=
   I4.pins_of fun p hp=>by
    have e:p=(s2.heap.objs.size,{ cls:=.type "list",data:=.seq its.toArray nn }):=by simpa [blk] using hp
    subst e
    exact ⟨eD,nD4,DnL,Dfs,fun v z=>by cases z⟩
  have fpo':∀ {H':Hp},(∀ b∈fp,H' b=none)->∀ b∈fp,gq (blk X scope (vars++caps.map (·.2)) HP.objs.size s2 H2 fp) [(s2.heap.objs.size,{ cls:=.type "list",data:=.seq its.toArray nn })] H' b:=fun hn b hb=>by
   obtain ⟨q1,q2,q3,q4,q5,_⟩:=fpo hn b hb
   exact ⟨q1,q2,q3,q4,q5,fun p hp=>by
    have e:p=(s2.heap.objs.size,{ cls:=.type "list",data:=.seq its.toArray nn }):=by simpa [blk] using hp
    subst e
    exact Dfp b hb⟩
  have unp:∀ {pl:List (Addr×Obj)} {σ':St} {H':Hp} {s':Shared},Inv (blk X scope (vars++caps.map (·.2)) HP.objs.size s2 H2 fp) pl σ' H' s'->Inv (blk X scope (vars++caps.map (·.2)) HP.objs.size s2 H2 fp) [] σ' H' s':=fun {pl σ' H' s'} I'=>
   I'.pins_of fun p hp=>absurd (show p∈([]:List (Addr×Obj)) from hp) (by simp)
  rcases turn i n ys H4 w4 with ⟨stop,hz,qn⟩ | ⟨go,hz,step⟩
  ·refine bU (T.done (blk X scope (vars++caps.map (·.2)) HP.objs.size s2 H2 fp) rfl rfl rfl (hc _) i _ s4 _ H4 _ I4p (fpo' fr4) st4 stop) fun r s5 ⟨hr,I5⟩=>?_
   subst hr
   obtain ⟨p5,n5⟩:=pinD I5
   obtain ⟨m5,ns5,_⟩:=I5.loc
   refine hRR _ _ s5 m5 ns5 hDC (Nat.le_refl _) hCle _ ?_ (fun h' hs'=>sI I2 f2 hCle (Nat.le_refl _) hDC (unp I5) n5 p5 v4 hz hs') (qn _ n5)
   rw [ar hDC.symm]
   exact I5.free
  ·refine bU (T.item (blk X scope (vars++caps.map (·.2)) HP.objs.size s2 H2 fp) rfl rfl rfl (hc _) i _ s4 _ H4 _ I4p (fpo' fr4) st4 go) fun r s5 ⟨u,hr,h5⟩=>?_
   subst hr
   refine bU h5 fun _ s6 ⟨x,H6,I6,rx,yx,st6,fr6⟩=>?_
   have I6p:=I6.pinned (fpo' fr6) (T.obj _ _ st6)
   refine bU (hg _ _ _ _ _ s6 _ H6 x u _ I6p rx (step x H6 yx)) fun _ s7 ⟨σ7,H7,I7,kp,q7⟩=>?_
   refine bU (hb _ _ _ _ _ s7 σ7 H7 _ I7 q7) fun okb s7' q7'=>?_
   obtain ⟨H7',I7',q7'⟩:=q7'
   cases okb with
   | false=>
    obtain ⟨m',hm,w8⟩:=q7'
    rw [if_neg (by decide)]
    obtain ⟨p8,n8⟩:=pinD I7'.unpinned
    have st8:tn (i+1) s7'.heap:=T.keep _ _ _ st6 fun b hb o e=>(I7'.pin (b,o) (List.mem_append_right _ (List.mem_append_right _ (ce hb e)))).1
    have fr8:∀ b∈fp,H7' b=none:=fun b hb=>by
     obtain ⟨o,e,d⟩:=T.obj _ _ st6 b hb
     exact (I7'.pin (b,o) (List.mem_append_right _ (List.mem_append_right _ (ce hb e)))).2.1
    exact ⟨m',hm,i+1,ys,H7',its,(unp I7').weak kp.1 kp.2,st8,fr8,p8,n8,v4,w8⟩
   | true=>
   rw [if_pos rfl]
   rw [if_pos rfl] at q7'
   refine bU (he _ _ _ _ _ s7' σ7 H7' _ I7' q7') fun v s8 ⟨y,H8,I8,ry,m',hm,w8⟩=>?_
   obtain ⟨p8,n8⟩:=pinD I8.unpinned
   have st8:tn (i+1) s8.heap:=T.keep _ _ _ st6 fun b hb o e=>(I8.pin (b,o) (List.mem_append_right _ (List.mem_append_right _ (ce hb e)))).1
   have fr8:∀ b∈fp,H8 b=none:=fun b hb=>by
    obtain ⟨o,e,d⟩:=T.obj _ _ st6 b hb
    exact (I8.pin (b,o) (List.mem_append_right _ (List.mem_append_right _ (ce hb e)))).2.1
   have hl:=v4.length
   refine wpAny_list_append_plain p8 (fun h9 p9 sb9=>⟨m',hm,i+1,ys++[y],H8,its++[v],?_,?_,fr8,by simpa using p9,n8,v4.append (.cons ry .nil),w8⟩) (by simp; omega)
   ·have I9:Inv (blk X scope (vars++caps.map (·.2)) HP.objs.size s2 H2 fp) [] σ7 H8 { s8 with heap:=h9,toks:=s8.toks }:=
     (unp I8).turned (it:=s2.heap.objs.size) (fun b o hb e=>sb9.extBut b o hb e) n8 DnL (.inr (Nat.le_refl _)) DnC fun p hp=>absurd (show p∈([]:List (Addr×Obj)) from hp) (by simp)
    exact I9.weak kp.1 kp.2
   ·exact T.keep _ _ _ st8 fun b hb o e=>sb9.extBut b o (Dfp b hb).symm e
 exact codeAny_compStart_list (loop _ rfl) (T.self _ 0 _ _ _ st1 (loop _ rfl))
theorem vd (B:BlkOk X.env.scope.names X.N scope vars caps) (hc:X.calm=true) (hi:PI X tg iter wi)
  (hg:∀ C s₀ H₀ ex,PG (blk X scope (vars++caps.map (·.2)) C s₀ H₀ ex) tg g) (hb:∀ C s₀ H₀ ex,PT (blk X scope (vars++caps.map (·.2)) C s₀ H₀ ex) cnd tt) (he:∀ C s₀ H₀ ex,PE (blk X scope (vars++caps.map (·.2)) C s₀ H₀ ex) elt te) (hs:∀ x,foldedSetIterable iter X.env x=pure x:=by intro _; rfl) :
  PE X (.ListComp elt [⟨tg,iter,[cnd],0⟩] scope pos) (qr wi g tt te vars caps):=by
 intro pins s σ H Q I h
 rw [eval_ListComp]
 refine wpAny_comprehension_free (use:=none) rfl hs (eF (B.cells I)) B.kind B.names ?_
 show wpAny _ _ (eval iter X.env) _ _ s
 refine bU (hi pins s σ H _ I h) fun v s1 h1=>bU h1 fun itv s2 h2=>?_
 obtain ⟨it,fp,tn,J,H2,e,I2,T,st2,f2,W,⟨m0,w0⟩,turn⟩:=h2
 subst e
 exact jq (Cm:=fun X=>X.calm=true) B hg hb he I2 T st2 f2 (fun _=>hc) w0 turn (RR:=fun acc C=>compPost (model X.prog X.w) X.A X.xe none (EP X pins σ Q) acc C) fun D C s' m ns _ _ _ H' _ k q=>⟨m,ns,fun h' hs'=>⟨.ref D,H',k h' hs',rfl,q⟩⟩
theorem u4 {i:Nat} {y:Str} {py spos:Pos} (B:BlkOk X.env.scope.names X.N scope vars caps) (hc:X.calm=true) (hi:PI X tg iter wi)
  (hg:∀ C s₀ H₀ ex,PG (blk X scope (vars++caps.map (·.2)) C s₀ H₀ ex) tg g) (hb:∀ C s₀ H₀ ex,PT (blk X scope (vars++caps.map (·.2)) C s₀ H₀ ex) cnd tt) (he:∀ C s₀ H₀ ex,PE (blk X scope (vars++caps.map (·.2)) C s₀ H₀ ex) elt te)
  (hN:X.N.Nodup) (hy:X.N[i]? = some y) (hx:ur X.env.scope y) (hsw:swapsWith (.ListComp elt [⟨tg,iter,[cnd],0⟩] scope pos) (some (.Name y py)) spos.line X.env=pure true)
  (hf:X.fn y=true\/X.env.scope.names.lookup y=some .local) (hs:∀ x,foldedSetIterable iter X.env x=pure x:=by intro _; rfl) :
  PS X (.Assign [.Name y py] (.ListComp elt [⟨tg,iter,[cnd],0⟩] scope pos) spos) (fun D σ H=>qr wi g tt te vars caps σ H fun v H1=>D.nx (σ.set i (some v)) H1):=by
 intro pins s σ H DE I h
 rw [exec_Assign_Name_used _ _ _ _ hsw]
 refine wpAny_bind (wpAny_standAt (wpAny_bind ?_))
 show wpAny _ X.A (do let _ <- comprehension (.ListComp elt [⟨tg,iter,[cnd],0⟩] scope pos) scope X.env _ (newList []) false (eval iter X.env) (some (assign (.Name y py) X.env))) _ _ s
 refine wpAny_bind (wpAny_mono (wpAny_comprehension_free (use:=some (assign (.Name y py) X.env)) (Q:=fun _ s'=>SP X pins DE .next s') rfl hs (eF (B.cells I)) B.kind B.names
  (bU (hi pins s σ H _ I h) fun v s1 h1=>bU h1 fun itv s2 h2=>?_)) (fun _ s' hq=>wpAny_pure (wpAny_pure hq)) fun _ _ e=>e)
 obtain ⟨it,fp,tn,J,H2,e,I2,T,st2,f2,W,⟨m0,w0⟩,turn⟩:=h2
 subst e
 refine jq (Cm:=fun X=>X.calm=true) (Q:=fun v H1=>DE.nx (σ.set i (some v)) H1) B hg hb he I2 T st2 f2 (fun _=>hc) w0 turn (RR:=fun acc C=>compPost (model X.prog X.w) X.A X.xe (some (assign (.Name y py) X.env)) (fun _ s'=>SP X pins DE .next s') acc C) ?_
 intro D C s' m ns hDC hD hC H' hHC k q
 obtain ⟨oC,es,ep,eC,dC,rC⟩:=ns
 have I':Inv X pins σ H' s':=k s'.heap (Heap.SameBut.refl ..)
 have nL:C≠X.env.locals:=fun z=>by have:=I2.lt; rw [<- z] at this; exact absurd (Nat.lt_of_lt_of_le this hC) (Nat.lt_irrefl _)
 have nF:C ∉ X.fs:=I2.nofs hC
 have nCell:∀ x c,X.env.cells.lookup x=some c->c≠C:=fun x c e z=>by
  obtain ⟨v,o,ho,_⟩:=I2.cell x c e
  have:=Heap.lt_size ho
  rw [z] at this
  exact absurd (Nat.lt_of_lt_of_le this hC) (Nat.lt_irrefl _)
 have nPin:∀ p∈X.pn++pins,p.1≠C:=fun p hp z=>by
  have:=Heap.lt_size (I2.pin p hp).1
  rw [z] at this
  exact absurd (Nat.lt_of_lt_of_le this hC) (Nat.lt_irrefl _)
 have Ip:Inv X (pins++[(C,oC)]) σ H' s':=I'.pins_of fun p hp=>by
  rcases List.mem_append.mp hp with z | z
  ·exact I'.pin p (List.mem_append_right _ z)
  ·have e:p=(C,oC):=by simpa using z
   subst e
   exact ⟨eC,hHC,nL,nF,fun v z=>by rw [dC] at z; cases z⟩
 refine bU (bq (pos:=py) hN hy hx hf _ s' σ H' (.ref D) (.ref D) (fun σ' H''=>σ' = σ.set i (some (.ref D))/\H''=H'/\DE.nx σ' H'') Ip rfl ⟨rfl,rfl,q⟩) fun _ s'' ⟨σ'',H'',I'',e1,e2,q''⟩=>?_
 subst e1 e2
 have eC'':s''.heap.get? C=some oC:=(I''.pin (C,oC) (List.mem_append_right _ (List.mem_append_right _ (by simp)))).1
 refine ⟨m,⟨oC,es,ep,eC'',dC,rC⟩,fun h' hs'=>⟨_,H'',?_,q''⟩⟩
 exact I''.unpinned.turned (t':=s''.toks) (it:=C) (fun b o hb e=>hs'.extBut b o hb e) hHC nL (.inr (Nat.le_trans I2.sz hC)) nCell nPin
end
noncomputable def fm (t:D->Option Bool) (f:D->Option D):List D->Option (List D)
 | []=>some []
 | d::ds=>(t d).bind fun b=>if b=true then (f d).bind fun e=>(fm t f ds).bind fun es=>some (e::es) else fm t f ds
@[simp] theorem DJ {t:D->Option Bool} {f:D->Option D}:fm t f []=some []:=rfl
noncomputable def bN (fi:Dv->Option (List D)) (caps:List (Nat×Str)) (bv:D->Option (List D)) (ft:Dv->Option Bool) (fe:Dv->Option D):Dv->Option D:=fun δ=>(fi δ).bind fun ds=>if ds.length<=sizeLine then (fm (fun d=>(bv d).bind fun vs=>ft (vs.map .fz++bC δ caps)) (fun d=>(bv d).bind fun vs=>fe (vs.map .fz++bC δ caps)) ds).bind fun es=>some (.list es) else none
theorem i9 {t:D->Option Bool} {f:D->Option D}:∀ {ds es:List D} {i:Nat} {d:D},fm t f ds=some es->ds[i]? = some d->∃ xs,fm t f (ds.take i)=some xs/\∃ b,t d=some b/\(b=false->fm t f (ds.take (i+1))=some xs)/\(b=true->∃ e,f d=some e/\fm t f (ds.take (i+1))=some (xs++[e]))
 | [],es,i,d,h,q=>by simp at q
 | d::ds,es,i,d',h,q=>by
  obtain ⟨b,h1,h⟩:=bind_some h
  cases i with
  | zero=>
   simp at q; subst q
   refine ⟨[],rfl,b,h1,fun hb=>?_,fun hb=>?_⟩
   ·subst hb; simp [fm,h1]
   ·subst hb
    rw [if_pos rfl] at h
    obtain ⟨e,h2,h⟩:=bind_some h
    exact ⟨e,h2,by simp [fm,h1,h2]⟩
  | succ i=>
   simp at q
   cases b with
   | false=>
    rw [if_neg (by decide)] at h
    obtain ⟨xs,g1,b',g2,g3,g4⟩:=i9 (i:=i) h q
    refine ⟨xs,by simp [fm,h1,g1],b',g2,fun hb=>by simpa [fm,h1] using g3 hb,fun hb=>?_⟩
    obtain ⟨e,k1,k2⟩:=g4 hb
    exact ⟨e,k1,by simpa [fm,h1] using k2⟩
   | true=>
    rw [if_pos rfl] at h
    obtain ⟨e0,h2,h⟩:=bind_some h
    obtain ⟨es',h3,h⟩:=bind_some h
    obtain ⟨xs,g1,b',g2,g3,g4⟩:=i9 (i:=i) h3 q
    refine ⟨e0::xs,by simp [fm,h1,h2,g1],b',g2,fun hb=>by simp [fm,h1,h2,g3 hb],fun hb=>?_⟩
    obtain ⟨e,k1,k2⟩:=g4 hb
    exact ⟨e,k1,by simp [fm,h1,h2,k2]⟩
theorem nU {t:D->Option Bool} {f:D->Option D}:∀ {ds es:List D},fm t f ds=some es->es.length<=ds.length
 | [],es,h=>by cases h; exact Nat.le_refl _
 | d::ds,es,h=>by
  obtain ⟨b,h1,h⟩:=bind_some h
  cases b with
  | false=>rw [if_neg (by decide)] at h; exact Nat.le_succ_of_le (nU h)
  | true=>
   rw [if_pos rfl] at h
   obtain ⟨e0,h2,h⟩:=bind_some h
   obtain ⟨es',h3,h⟩:=bind_some h
   cases h
   exact Nat.succ_le_succ (nU h3)
section
variable {X:Cx} {scope:Scope} {vars:List Str} {caps:List (Nat×Str)} {elt tg iter cnd:Expr} {pos:Pos} {g:TG} {fi:Dv->Option (List D)} {ft:Dv->Option Bool} {fe:Dv->Option D} {bv:D->Option (List D)}
theorem kT (tk:uq X.K g vars.length bv) {σ:St} {H:Hp} {Q:VK} (h:tV X.K (bN fi caps bv ft fe) σ H Q):qr (EJ X.K fi) g (BH X.K ft) (tV X.K fe) vars caps σ H Q:=by
 obtain ⟨H₀,Z₀,Z,δ,d,hh,e,k⟩:=h
 obtain ⟨ds,e1,e⟩:=bind_some e
 by_cases hz:ds.length<=sizeLine
 ·rw [if_pos hz] at e
  obtain ⟨es,e2,e⟩:=bind_some e
  cases e
  have hv:vars.map (fun _=>(none:Option V))=List.replicate vars.length none:=by rw [List.map_const']
  refine ⟨H₀,Z₀,Z,δ,ds,hh,e1,fun J Z1 H1 hh1 t1 ok=>?_⟩
  refine ⟨fun i m ys H=>m=ds.length-i/\i<=ds.length/\∃ Zc xs,Hold X.K H₀ Z₀ Zc δ σ H/\Same Z1 Zc/\fm (fun d=>(bv d).bind fun vs=>ft (vs.map .fz++bC δ caps)) (fun d=>(bv d).bind fun vs=>fe (vs.map .fz++bC δ caps)) (ds.take i)=some xs/\Reps X.K Zc ys xs,⟨ds.length,by simp,Nat.zero_le _,Z1,[],hh1,Same.refl _,rfl,.nil⟩,?_⟩
  rintro i m ys H2 ⟨rfl,hi2,Zc,xs,hhc,tc,fx,rc⟩
  have zh:Same Z1 H2:=tc.trans hhc.zh
  have ly:=rc.length
  have lx:=nU fx
  rw [List.length_take] at lx
  by_cases hlt:i<ds.length
  ·refine .inr ⟨ok.go i H2 zh hlt,by omega,fun x H3 y=>?_⟩
   have ed:ds[i]? = some ds[i]:=by simp [hlt]
   obtain ⟨rfl,rx⟩:=ok.yld i H2 x H3 _ zh ed y
   obtain ⟨xs',f0,b,fb,ff,ftr⟩:=i9 e2 ed
   rw [fx] at f0
   cases f0
   obtain ⟨vs,f3,f1⟩:=bind_some fb
   rw [hv]
   refine tk x Zc ds[i] vs (eG σ caps) H3 _ (rx.same tc) hhc.zh f3 fun us ru hn=>⟨⟨by simp [hn],fun j v q=>?_⟩,?_⟩
   ·by_cases hj:j<vars.length
    ·rw [List.getElem?_append_left (by simpa using hj),List.getElem?_replicate] at q
     split at q <;> cases q
    ·rw [List.getElem?_append_right (by simpa using hj)] at q
     rw [List.getElem?_append_right (by simpa [hn] using hj)]
     simpa [hn] using q
   ·refine ⟨H3,Zc,Zc,_,b,qd hhc ru,f1,fun Z3 H3' h3 t3=>?_⟩
    have hh3:=hhc.new ⟨t3,h3.h0,h3.zh,h3.zb,h3.nf⟩
    cases b with
    | false=>
     dsimp only
     rw [if_neg (by decide)]
     exact ⟨ds.length-(i+1),by omega,rfl,hlt,Z3,xs,hh3,tc.trans t3,ff rfl,rc.same t3⟩
    | true=>
     dsimp only
     rw [if_pos rfl]
     obtain ⟨ei,f2,f4⟩:=ftr rfl
     rw [f3] at f2
     refine ⟨H3,Zc,Z3,_,ei,h3,f2,fun v Z4 H4 h4 t4 r4=>⟨ds.length-(i+1),by omega,rfl,hlt,Z4,xs++[ei],?_,(tc.trans t3).trans t4,f4,((rc.same t3).same t4).append (.cons r4 .nil)⟩⟩
     exact hhc.new ⟨t3.trans t4,h4.h0,h4.zh,h4.zb,h4.nf⟩
  ·have hie:i=ds.length:=by omega
   subst hie
   refine .inl ⟨ok.stop _ H2 zh (Nat.le_refl _),by omega,fun p hp=>?_⟩
   rw [List.take_length,e2] at fx
   cases fx
   have n:=New.add hhc.zh hp (.lst ys)
   exact k _ _ _ (hhc.new n) ((t1.trans tc).trans n.z) (.lst (SqL.of aw) (rc.same n.z))
 ·rw [if_neg hz] at e; cases e
theorem cS (B:BlkOk X.env.scope.names X.N scope vars caps) (hc:X.calm=true) (hi:IV X tg iter fi) (tk:uq X.K g vars.length bv)
  (hg:∀ C s₀ H₀ ex,PG (blk X scope (vars++caps.map (·.2)) C s₀ H₀ ex) tg g) (hb:∀ C s₀ H₀ ex,TV (blk X scope (vars++caps.map (·.2)) C s₀ H₀ ex) cnd ft) (he:∀ C s₀ H₀ ex,EV (blk X scope (vars++caps.map (·.2)) C s₀ H₀ ex) elt fe) (hs:∀ x,foldedSetIterable iter X.env x=pure x:=by intro _; rfl) :
  EV X (.ListComp elt [⟨tg,iter,[cnd],0⟩] scope pos) (bN fi caps bv ft fe):=
 PE.imp (vd (tt:=BH X.K ft) (te:=tV X.K fe) B hc hi hg hb he hs) fun _ _ _ h=>kT tk h
theorem g8 (i:Nat) {y:Str} {py spos:Pos} (hN:X.N.Nodup) (B:BlkOk X.env.scope.names X.N scope vars caps) (hc:X.calm=true) (hi:IV X tg iter fi) (tk:uq X.K g vars.length bv)
  (hg:∀ C s₀ H₀ ex,PG (blk X scope (vars++caps.map (·.2)) C s₀ H₀ ex) tg g) (hb:∀ C s₀ H₀ ex,TV (blk X scope (vars++caps.map (·.2)) C s₀ H₀ ex) cnd ft) (he:∀ C s₀ H₀ ex,EV (blk X scope (vars++caps.map (·.2)) C s₀ H₀ ex) elt fe)
  (hy:X.N[i]? = some y:=by rfl) (hx:ur X.env.scope y:=by first | exact Or.inl rfl | exact Or.inr rfl) (hsw:swapsWith (.ListComp elt [⟨tg,iter,[cnd],0⟩] scope pos) (some (.Name y py)) spos.line X.env=pure true:=by rfl)
  (hf:X.fn y=true\/X.env.scope.names.lookup y=some .local:=by first | exact .inl rfl | exact .inr rfl | assumption) (hs:∀ x,foldedSetIterable iter X.env x=pure x:=by intro _; rfl) :
  SV X (.Assign [.Name y py] (.ListComp elt [⟨tg,iter,[cnd],0⟩] scope pos) spos) (aU i (bN fi caps bv ft fe)):=
 PS.imp (u4 (tt:=BH X.K ft) (te:=tV X.K fe) B hc hi hg hb he hN hy hx hsw hf hs) fun D σ H h=>by
  obtain ⟨H₀,Z₀,Z,δ,r,hh,e,k⟩:=h
  obtain ⟨x,e1,e⟩:=bind_some e
  cases e
  exact kT tk ⟨H₀,Z₀,Z,δ,x,hh,e1,fun v Z1 H1 hh1 s1 r1=>k _ H1 Z1 (hh1.set r1) s1⟩
end
end VL
set_option Elab.async false
set_option linter.all false
set_option maxRecDepth 100000
set_option maxHeartbeats 4000000
namespace VL
open PySem PySem.Spec PyProof.Rows L2
section
variable {X:Cx} {a b c:Expr} {pos:Pos} {f1 f2 f3:Dv->Option D}
end
noncomputable def ub:D->Bool
 | .none=>true
 | .bool _=>true
 | .int _=>true
 | .str _=>true
 | _=>false
noncomputable def ym (x:D) (ds:List D):Bool:=ds.any fun y=>PyData.eqv y x
noncomputable def zm (neg:Bool):D->D->Option D:=fun a b=>(ba b).bind fun ds=>if ub a=true/\ds.all ub=true then some (.bool (if neg=true then !ym a ds else ym a ds)) else none
theorem Rep.flat {K:Fg} {Z:Hp} {v:V} {d:D} (r:Rep K Z v d):gC v=ub d:=by cases r <;> rfl
theorem Rep.eqF {K:Fg} {Z:Hp} {v u:V} {d e:D} (r:Rep K Z v d) (q:Rep K Z u e) (h1:ub d=true) (h2:ub e=true):wL v u=PyData.eqv d e:=by
 cases r <;> first | (cases q <;> first | rfl | cases h2) | cases h1
theorem Reps.allF {K:Fg} {Z:Hp}:∀ {vs:List V} {ds:List D},Reps K Z vs ds->vs.all gC=ds.all ub
 | _,_,.nil=>rfl
 | _,_,.cons r t=>by rw [List.all_cons,List.all_cons,r.flat,t.allF]
theorem Reps.inF {K:Fg} {Z:Hp} {x:V} {a:D} (q:Rep K Z x a) (h:ub a=true):∀ {vs:List V} {ds:List D},Reps K Z vs ds->ds.all ub=true->Eu x vs=ym a ds
 | _,_,.nil,_=>rfl
 | _,_,.cons r t,f=>by
  rw [List.all_cons,Bool.and_eq_true] at f
  show (wL _ x||Eu x _)=(PyData.eqv _ a||ym a _)
  rw [r.eqF q f.1 h,t.inF q h f.2]
theorem yl {K:Fg} {neg:Bool} {x y:V} {H:Hp} {Q:VK} (h:rD K (zm neg) x y H Q):Fd K neg x y H Q:=by
 obtain ⟨Z,a,b,d,zh,ra,rb,e,k⟩:=h
 obtain ⟨ds,e1,e⟩:=bind_some e
 by_cases c:ub a=true/\ds.all ub=true
 ·rw [if_pos c] at e
  cases e
  have go:∀ (xs:List V),Reps K Z xs ds->(∃ p,y=.ref p/\(SqL K H p xs\/SqT K H p xs))->Fd K neg x y H Q:=fun xs r ⟨p,ey,hq⟩=>by
   refine ⟨p,xs,ey,hq,by rw [ra.flat]; exact c.1,by rw [r.allF]; exact c.2,?_⟩
   have:=r.inF ra c.1 c.2
   rw [this]
   exact k _ Z H (New.refl zh) (.bl _)
  cases rb with
  | lst h q=>cases e1; exact go _ q ⟨_,rfl,.inl (SqL.same h zh)⟩
  | tup h q=>cases e1; exact go _ q ⟨_,rfl,.inr (SqT.same h zh)⟩
  | _=>cases e1
 ·rw [if_neg c] at e; cases e
theorem wf {X:Cx}:OpR X (compareOp .In) (rD X.K (zm false)):=OpR.imp tI fun _ _ _ _ h=>yl h
noncomputable def gT:List (D->Dv->Option Dv)->List D->Dv->Option Dv
 | [],[],δ=>some δ
 | g::gs,d::ds,δ=>(g d δ).bind fun δ1=>gT gs ds δ1
 | _,_,_=>none
noncomputable def BT (gs:List (D->Dv->Option Dv)):D->Dv->Option Dv
 | .tuple ds,δ=>gT gs ds δ
 | _,_=>none
@[simp] theorem FI (δ:Dv):gT [] [] δ = some δ:=rfl
@[simp] theorem Ey (g:D->Dv->Option Dv) (gs:List (D->Dv->Option Dv)) (d:D) (ds:List D) (δ:Dv):gT (g::gs) (d::ds) δ = (g d δ).bind fun δ1=>gT gs ds δ1:=rfl
@[simp] theorem Ex (gs:List (D->Dv->Option Dv)) (ds:List D) (δ:Dv):BT gs (.tuple ds) δ = gT gs ds δ:=rfl
theorem vW:∀ {gs:List (D->Dv->Option Dv)} {ds:List D} {δ δ':Dv},gT gs ds δ = some δ'->ds.length=gs.length
 | [],[],_,_,_=>rfl
 | [],_::_,_,_,h=>by cases h
 | _::_,[],_,_,h=>by cases h
 | g::gs,d::ds,δ,δ',h=>by
  obtain ⟨δ1,_,h⟩:=bind_some h
  exact congrArg (· + 1) (vW h)
noncomputable def EK (K:Fg) (gs:List (D->Dv->Option Dv)):yN:=fun vs σ H Q=>∃ H₀ Z₀ Z δ ds δ',Hold K H₀ Z₀ Z δ σ H/\Reps K Z vs ds/\gT gs ds δ = some δ'/\∀ σ' H' Z',Hold K H₀ Z₀ Z' δ' σ' H'->Same Z Z'->Q σ' H'
noncomputable def EE (X:Cx) (es:List Expr) (gs:List (D->Dv->Option Dv)):Prop:=PGs X es (EK X.K gs)
section
variable {X:Cx} {pos:Pos} {e:Expr} {es:List Expr} {g:D->Dv->Option Dv} {gs:List (D->Dv->Option Dv)}
theorem PGs.imp {t t':yN} (h:PGs X es t) (i:∀ v σ H Q,t' v σ H Q->t v σ H Q):PGs X es t':=fun pins s σ H x v Q I r q=>h pins s σ H x v Q I r (i _ _ _ _ q)
theorem yn:EE X [] []:=PGs.imp xH fun vs σ H Q h=>by
 obtain ⟨H₀,Z₀,Z,δ,ds,δ',hh,r,e,k⟩:=h
 cases r with
 | nil=>cases e; exact ⟨rfl,k σ H Z hh (Same.refl _)⟩
 | cons _ _=>cases e
theorem pN (h1:GV X e g) (h2:EE X es gs) (hs:(assignEach (e::es) X.env).map (·.2)=assign e X.env::(assignEach es X.env).map (·.2):=by rfl):EE X (e::es) (g::gs):=
 PGs.imp (u7 h1 h2 hs) fun vs σ H Q h=>by
  obtain ⟨H₀,Z₀,Z,δ,ds,δ',hh,r,e,k⟩:=h
  cases r with
  | nil=>cases e
  | cons r t=>
   obtain ⟨δ1,e1,e⟩:=bind_some e
   exact ⟨_,_,rfl,H₀,Z₀,Z,δ,_,δ1,hh,r,e1,fun σ1 H1 Z1 hh1 s1=>⟨H₀,Z₀,Z1,δ1,_,δ',hh1,t.same s1,e,fun σ2 H2 Z2 hh2 s2=>k σ2 H2 Z2 hh2 (s1.trans s2)⟩⟩
theorem Bh {k:Nat} (hc:X.calm=true) (h:EE X es gs) (hn:(assignEach es X.env).length=gs.length:=by rfl) (hst:(assignEach es X.env).findIdx? (·.1)=none:=by rfl):GV X (.Tuple es k pos) (BT gs):=
 PG.imp (At hc h hn hst) fun v σ H Q h=>by
  obtain ⟨H₀,Z₀,Z,δ,d,δ',hh,r,e,k⟩:=h
  cases r with
  | tup q t=>
   have el:_=gs.length:=vW (gs:=gs) e
   exact ⟨_,_,rfl,SqT.same q hh.zh,by rw [t.length]; exact el,H₀,Z₀,Z,δ,_,δ',hh,t,e,k⟩
  | _=>cases e
end
theorem cn {g:D->Dv->Option Dv} {b:Sf} {d:D} {ds:List D} {δ δ1 δ2:Dv} (h1:g d δ = some δ1) (h2:b δ1=some (.nx,δ2)):loop g b (d::ds) δ = loop g b ds δ2:=by
 show ((g d δ).bind fun δ1=>_)=_
 rw [h1,Option.bind_some,h2]; rfl
end VL
set_option Elab.async false
set_option linter.all false
set_option maxRecDepth 100000
set_option maxHeartbeats 4000000
namespace VL
open PySem PySem.Spec PyProof.Rows L2
@[simp] noncomputable def Gs (i:Nat) (f:Dv->Option (List D)):Sf:=fun δ=>(f δ).bind fun ds=>some (.nx,δ.set i (.ow ds))
section
variable {X:Cx} {e:Expr} {es:List Expr} {p pos:Pos} {f:Dv->Option (List D)} {fs:Dv->Option (List D)}
end
section
variable {X:Cx} {scope:Scope} {vars:List Str} {caps:List (Nat×Str)} {elt tg iter cnd:Expr} {pos:Pos} {g:TG} {fi:Dv->Option (List D)} {ft:Dv->Option Bool} {fe:Dv->Option D} {bv:D->Option (List D)}
end
noncomputable def tf (t:Sf):Fl×Dv->Option (Fl×Dv)
 | (.nx,δ)=>t δ
 | r=>some r
@[simp] theorem Ek (t:Sf) (δ:Dv):tf t (.nx,δ)=t δ:=rfl
@[simp] theorem Ej (t:Sf) (d:D) (δ:Dv):tf t (.rt d,δ)=some (.rt d,δ):=rfl
@[simp] theorem Em (t:Sf) (δ:Dv):tf t (.bk,δ)=some (.bk,δ):=rfl
@[simp] theorem El (t:Sf) (δ:Dv):tf t (.ct,δ)=some (.ct,δ):=rfl
noncomputable def Dw (u w:Sf) (δ:Dv):Bool->Option (Fl×Dv)
 | true=>u δ
 | false=>w δ
@[simp] theorem GG (u w:Sf) (δ:Dv):Dw u w δ true=u δ:=rfl
@[simp] theorem GH (u w:Sf) (δ:Dv):Dw u w δ false=w δ:=rfl
theorem gI (s t:Sf) (δ:Dv):az s t δ = (s δ).bind (tf t):=by
 unfold az tf
 congr 1
theorem j7 (t:Dv->Option Bool) (u w:Sf) (δ:Dv):dZ t u w δ = (t δ).bind (Dw u w δ):=by
 unfold dZ
 congr 1
 funext c
 cases c <;> rfl
end VL
set_option Elab.async false
set_option linter.all false
set_option maxRecDepth 100000
set_option maxHeartbeats 4000000
namespace VL
open PySem PySem.Spec PyProof.Rows L2
noncomputable def jH:List D->Option (List Bool)
 | []=>some []
 | .bool b::r=>(jH r).map (b :: ·)
 | _=>none
noncomputable def yK:List D->Option D
 | [.list xs]=>(jH xs).map fun bs=>.bool (bs.all id)
 | _=>none
noncomputable def yI:List D->Option D
 | [.list xs]=>(jH xs).map fun bs=>.bool (bs.any id)
 | _=>none
noncomputable def ir:List D->Option (List Int)
 | []=>some []
 | .int b::r=>(ir r).map (b :: ·)
 | _=>none
noncomputable def jX:List D->Option D
 | [.list xs]=>(ir xs).map fun bs=>.int bs.sum
 | _=>none
theorem kZ {α:Type} (f:α -> Bool):∀ xs:List α,jH (xs.map fun a=>.bool (f a))=some (xs.map f)
 | []=>rfl
 | a::r=>by simp [jH,kZ f r]
theorem wz {α:Type} (f:α -> Bool) (xs:List α):yK [.list (xs.map fun a=>.bool (f a))]=some (.bool (xs.all f)):=by
 simp [yK,kZ,List.all_map]
theorem ww {α:Type} (f:α -> Bool) (xs:List α):yI [.list (xs.map fun a=>.bool (f a))]=some (.bool (xs.any f)):=by
 simp [yI,kZ,List.any_map]
theorem mI {α:Type} (f:α -> Int):∀ xs:List α,ir (xs.map fun a=>.int (f a))=some (xs.map f)
 | []=>rfl
 | a::r=>by simp [ir,mI f r]
theorem oO {α:Type} (f:α -> Int) (xs:List α):jX [.list (xs.map fun a=>.int (f a))]=some (.int (xs.map f).sum):=by
 simp [jX,mI]
noncomputable def CJ:D->Option D
 | .list xs=>some (.list xs.reverse)
 | _=>none
@[simp] theorem Aj (xs:List D):CJ (.list xs)=some (.list xs.reverse):=rfl
noncomputable def CK:D->Option (List D)
 | .list xs=>some xs.reverse
 | .tuple xs=>some xs.reverse
 | _=>none
@[simp] theorem BL (xs:List D):CK (.list xs)=some xs.reverse:=rfl
@[simp] theorem Ak (xs:List D):CK (.tuple xs)=some xs.reverse:=rfl
@[simp] noncomputable def Gu:Sf:=fun _=>none
@[simp] noncomputable def G2 (i:Nat) (f:Dv->Option D):Sf:=fun δ=>(f δ).bind fun v=>(ba v).bind fun es=>(xq δ[i]?).bind fun ds=>if ds.length+es.length<=sizeLine then some (.nx,δ.set i (.ow (ds++es))) else none
section
variable {X:Cx} {e:Expr} {es:List Expr} {p pos tpos apos:Pos} {f:Dv->Option D} {st:Stmt}
theorem oa {K:Fg} {Z:Hp}:∀ {xs:List V} {ds:List D} {bs:List Bool} {its:List Value},Reps K Z xs ds->Vals xs its->jH ds=some bs->its.length=bs.length/\∀ (i:Nat) (v:Value),its[i]? = some v->∃ b,bs[i]? = some b/\v=.bool b
 | _,_,bs,_,.nil,.nil,h=>by cases h; exact ⟨rfl,fun i v q=>by simp at q⟩
 | _,_,bs,_,.cons r t,.cons q u,h=>by
  cases r with
  | bl b=>
   unfold jH at h
   cases g:jH _ with
   | none=>rw [g] at h; cases h
   | some cs=>
    rw [g] at h
    cases h
    obtain ⟨h1,h2⟩:=oa t u g
    refine ⟨by simp [h1],fun i v e=>?_⟩
    cases i with
    | zero=>simp at e; subst e; exact ⟨b,rfl,q⟩
    | succ i=>simp at e; simpa using h2 i v e
  | _=>cases h
theorem pK {K:Fg} {Z:Hp}:∀ {xs:List V} {ds:List D} {bs:List Int} {its:List Value},Reps K Z xs ds->Vals xs its->ir ds=some bs->IntsAre its bs
 | _,_,bs,_,.nil,.nil,h=>by cases h; exact .nil
 | _,_,bs,_,.cons r t,.cons q u,h=>by
  cases r with
  | int b=>
   unfold ir at h
   cases g:ir _ with
   | none=>rw [g] at h; cases h
   | some cs=>
    rw [g] at h
    cases h
    obtain ⟨tk,rfl⟩:=q
    exact .cons _ _ (pK t u g)
  | _=>cases h
theorem DV (hc:X.calm=true):CallR X (.builtin "all") (u0 X.K yK):=by
 intro pins s σ H xs us Q I rs q
 obtain ⟨Z,as,d,zh,ra,e,k⟩:=q
 cases ra with
 | nil=>cases e
 | cons r1 r2=>
  cases r2 with
  | cons _ _=>cases r1 <;> cases e
  | nil=>
   cases r1 with
   | @lst l ys ds h1 q1=>
    have e:(jH ds).map (fun bs=>PyData.bool (bs.all id))=some d:=e
    cases g:jH ds with
    | none=>rw [g] at e; cases e
    | some bs=>
     rw [g] at e
     cases e
     obtain ⟨u,rfl,ru⟩:=gr rs
     cases ru
     obtain ⟨its,rv,pl,hz⟩:=I.list (SqL.same h1 zh)
     obtain ⟨hlen,hget⟩:=oa q1 rv g
     have hl:=pl.isList
     have hlt:l<s.heap.objs.size:=by obtain ⟨_,e,_⟩:=hl; exact Heap.lt_size e
     refine call_all_walk (wpAny_pyIter_list hl ?_)
     refine ⟨s.heap.objs.size,[s.heap.objs.size,l],[s.heap.objs.size],its.toArray.size,_,_,fun i=>(bs[i]?).getD true,rfl,Walks.list (A:=X.A.in1) (I.ok.hd hc) _ l (Nat.ne_of_lt hlt) its.toArray,
      ⟨⟨_,Heap.get?_push_size _ rfl,rfl,rfl⟩,hl.push _⟩,fun i v s' Q' E' hP hQ=>?_,fun h' tk hk=>?_⟩
     ·obtain ⟨b,e,rfl⟩:=hget i v (by simpa using hP)
      simp only [e,Option.getD_some] at hQ
      exact wpAny_truthy_bool hQ
     ·have e:((List.range its.toArray.size).all fun i=>(bs[i]?).getD true)=bs.all id:=by
       rw [List.size_toArray,hlen]; exact LSm.range_all bs
      rw [e]
      exact ⟨.bl _,H,I.kept (t':=tk) (LSm.kept_iter hk),rfl,k _ Z H (New.refl zh) (.bl _)⟩
   | _=>cases e
theorem DU (hc:X.calm=true):CallR X (.builtin "any") (u0 X.K yI):=by
 intro pins s σ H xs us Q I rs q
 obtain ⟨Z,as,d,zh,ra,e,k⟩:=q
 cases ra with
 | nil=>cases e
 | cons r1 r2=>
  cases r2 with
  | cons _ _=>cases r1 <;> cases e
  | nil=>
   cases r1 with
   | @lst l ys ds h1 q1=>
    have e:(jH ds).map (fun bs=>PyData.bool (bs.any id))=some d:=e
    cases g:jH ds with
    | none=>rw [g] at e; cases e
    | some bs=>
     rw [g] at e
     cases e
     obtain ⟨u,rfl,ru⟩:=gr rs
     cases ru
     obtain ⟨its,rv,pl,hz⟩:=I.list (SqL.same h1 zh)
     obtain ⟨hlen,hget⟩:=oa q1 rv g
     have hl:=pl.isList
     have hlt:l<s.heap.objs.size:=by obtain ⟨_,e,_⟩:=hl; exact Heap.lt_size e
     refine call_any_walk (wpAny_pyIter_list hl ?_)
     refine ⟨s.heap.objs.size,[s.heap.objs.size,l],[s.heap.objs.size],its.toArray.size,_,_,fun i=>(bs[i]?).getD false,rfl,Walks.list (A:=X.A.in1) (I.ok.hd hc) _ l (Nat.ne_of_lt hlt) its.toArray,
      ⟨⟨_,Heap.get?_push_size _ rfl,rfl,rfl⟩,hl.push _⟩,fun i v s' Q' E' hP hQ=>?_,fun h' tk hk=>?_⟩
     ·obtain ⟨b,e,rfl⟩:=hget i v (by simpa using hP)
      simp only [e,Option.getD_some] at hQ
      exact wpAny_truthy_bool hQ
     ·have e:((List.range its.toArray.size).any fun i=>(bs[i]?).getD false)=bs.any id:=by
       rw [List.size_toArray,hlen]; exact LSm.range_any bs
      rw [e]
      exact ⟨.bl _,H,I.kept (t':=tk) (LSm.kept_iter hk),rfl,k _ Z H (New.refl zh) (.bl _)⟩
   | _=>cases e
theorem zv (hc:X.calm=true):CallR X (.builtin "sum") (u0 X.K jX):=by
 intro pins s σ H xs us Q I rs q
 obtain ⟨Z,as,d,zh,ra,e,k⟩:=q
 cases ra with
 | nil=>cases e
 | cons r1 r2=>
  cases r2 with
  | cons _ _=>cases r1 <;> cases e
  | nil=>
   cases r1 with
   | @lst l ys ds h1 q1=>
    have e:(ir ds).map (fun bs=>PyData.int bs.sum)=some d:=e
    cases g:ir ds with
    | none=>rw [g] at e; cases e
    | some bs=>
     rw [g] at e
     cases e
     obtain ⟨u,rfl,ru⟩:=gr rs
     cases ru
     obtain ⟨its,rv,pl,hz⟩:=I.list (SqL.same h1 zh)
     have hi:=pK q1 rv g
     obtain ⟨zs,hx⟩:=hi.allInts.items
     have hl':s.heap.IsList l (intItems zs):=hx ▸ pl.isList
     refine sum_intListG (I.ok.hd hc) hl' fun h' tk t' hk=>?_
     have e1:bs=zs.toList.map (·.1):=by
      rw [<- nums_intItems,<- hx]
      exact (show numsOf its.toArray.toList=bs from hi.numsOf).symm
     have e2:preSum (numAt zs) zs.size=bs.sum:=by
      rw [preSum_eq,List.take_of_length_le (by simp),e1]
     rw [e2]
     exact ⟨.int _,H,I.kept (t':=tk) hk,⟨t',rfl⟩,k _ Z H (New.refl zh) (.int _)⟩
   | _=>cases e
theorem Cn {st:Stmt}:SV X st Gu:=fun pins s σ H D I h=>by
 obtain ⟨_,_,_,_,_,_,e,_⟩:=h
 cases e
end
end VL
set_option Elab.async false
set_option linter.all false
set_option maxRecDepth 100000
set_option maxHeartbeats 4000000
namespace VL
open PySem PySem.Spec PyProof.Rows L2
section
variable {prog:Program} {w:World} {A:Around} {s:Shared} {R:Result->Shared->Prop}
variable {I:Addr} {fp wr:List Addr} {G:Array GenState->Array GenState->Prop} {n:Nat} {P:Nat->Value->Prop} {St:Nat->Shared->Prop}
end
section
variable {prog:Program} {w:World} {A:Around} {E:Value->Shared->Prop} {s:Shared}
variable {I:Addr} {fp wr:List Addr} {G:Array GenState->Array GenState->Prop} {n:Nat} {P:Nat->Value->Prop} {St:Nat->Shared->Prop}
end
section
variable {X:Cx} {e:Expr} {p p2 pos pos2:Pos} {te:TE} {f:Dv->Option D}
end
end VL
set_option Elab.async false
set_option linter.all false
set_option maxRecDepth 100000
set_option maxHeartbeats 4000000
namespace VL
open PySem PySem.Spec PyProof.Rows L2
section
variable {prog:Program} {w:World} {A:Around} {E:Value->Shared->Prop} {s:Shared}
noncomputable def IsRv (h:Heap) (a l:Addr) (i:Int):Prop:=∃ o,h.get? a=some o/\o.cls=.type "reversed" /\ o.data=.fields #[.ref l,rawInt i]
theorem IsRv.typeIs {a l:Addr} {i:Int} (x:IsRv s.heap a l i):s.TypeIs (.ref a) "reversed":=let ⟨o,ho,hc,_⟩:=x; ⟨o,ho,hc⟩
theorem IsRv.at {h h':Heap} {a l:Addr} {i:Int} (x:IsRv h a l i) (e:∀ o,h.get? a=some o->h'.get? a=some o):IsRv h' a l i:=let ⟨o,ho,r⟩:=x; ⟨o,e _ ho,r⟩
end
noncomputable def E5:D->Option (List D)
 | .tuple xs=>some xs.reverse
 | _=>none
@[simp] theorem Ai (xs:List D):E5 (.tuple xs)=some xs.reverse:=rfl
section
variable {X:Cx} {tg e:Expr} {p pos:Pos} {te:TE} {f:Dv->Option D}
end
end VL
set_option Elab.async false
set_option linter.all false
set_option maxRecDepth 100000
set_option maxHeartbeats 4000000
namespace VL
open PySem PySem.Spec PyProof.Rows L2
noncomputable def F2 (h:Heap) (e:Addr):Prop:=∃ oe vs,h.get? e=some oe/\oe.data=.fields vs/\vs[2]? = some .none
noncomputable def FlyX (base:Heap) (l:List Env) (e:Addr) (cls a0:Value) (h:Heap):Prop:=Heap.FlyingW base l e cls a0 h/\F2 h e
noncomputable def zA (base:Heap) (l:List Env) (e:Addr) (cls a0:Value) (L:Addr) (h:Heap):Prop:=Heap.HeldW base l e cls a0 L h/\F2 h e
structure Put (l:List Env) (e T:Addr) (oe:Obj) (fl:Value) (h h':Heap):Prop where
 new:h.get? T=none
 ex:h'.get? e=some (oe.mapFields (·.setIfInBounds 1 (.ref T)))
 tb:∃ oT ts,h'.get? T=some oT/\oT.data=.fields ts/\ts[3]? = some fl
 keep:∀ b o,b≠e->b ∉ fT l->h.get? b=some o->h'.get? b=some o
 slot:∀ b o,b≠e->h.get? b=some o->∃ sl,h'.get? b=some { o with slots:=sl }
section
variable {M:Model} {A:Around} {E:Value->Shared->Prop} {s:Shared}
theorem mj {base:Heap} {env:Env} {outer:List Env} {L e:Addr} {oe:Obj} {vs:Array Value} {head:Value} {nx:Bool} {Q:Unit->Shared->Prop}
  (hfr:A.frames=some (env::outer)) (hl:s.heap.FunFrames base (env::outer)) (hf:env.frame=some L) (he:s.heap.get? e=some oe) (hd:oe.data=.fields vs) (hsz:1<vs.size)
  (h:∀ h' T,Put (env::outer) e T oe (rawInt L) s.heap h'->Q () { s with heap:=h' }) :
  wpAny M A (do let a <- frameOf env; let pl <- entryPlaceOf L nx; let b <- EntryCells.newEntry head a .none (rawInt L) .none pl; setField (.ref e) 1 b) Q E s:=by
 have hene:e ∉ fT (env::outer):=fun hm=>by
  obtain ⟨_,o,ho,hnf⟩:=hl.mem hm
  rw [he] at ho; cases ho; exact hnf vs hd
 refine wpAny_bind (wpAny_frameOf_fun hfr hl hf fun h₁ hs₁=>wpAny_bind (wpAny_entryPlaceOf fun pl hpl=>?_))
 unfold EntryCells.newEntry newFields
 refine wpAny_bind (wpAny_newObj_type ?_ (hpl.sizeOk5 _ _ _ _ _))
 have he₁:h₁.get? e=some oe:=(hs₁.2.1 e hene).trans he
 have nT:s.heap.get? h₁.objs.size=none:=by
  cases q:s.heap.get? h₁.objs.size with
  | none=>rfl
  | some o=>
   obtain ⟨sl,q2⟩:=hs₁.2.2 _ o q
   exact absurd (Heap.lt_size q2) (Nat.lt_irrefl _)
 refine wpAny_setField (Heap.get?_push_of_some _ he₁) hd hsz (h _ h₁.objs.size ⟨nT,?_,?_,fun b o hb hbf q=>?_,fun b o hb q=>?_⟩)
 ·exact Heap.get?_update_self _ (Heap.get?_push_of_some _ he₁) (Obj.isFreed_of_fields (Obj.data_mapFields hd _))
 ·refine ⟨_,_,(Heap.get?_update_other _ _ (Nat.ne_of_lt (Heap.lt_size he₁))).trans (Heap.get?_push_size h₁ rfl),rfl,?_⟩
  first | (simp; done) | (rcases hpl with rfl | ⟨_,_,_,_,_,_,_,rfl⟩ <;> simp)
 ·rw [Heap.get?_update_other _ _ (Ne.symm hb)]
  exact Heap.get?_push_of_some _ ((hs₁.2.1 b hbf).trans q)
 ·obtain ⟨sl,q2⟩:=hs₁.2.2 b o q
  exact ⟨sl,by rw [Heap.get?_update_other _ _ (Ne.symm hb)]; exact Heap.get?_push_of_some _ q2⟩
theorem Put.flies {base h h':Heap} {l:List Env} {e T:Addr} {oe:Obj} {vs:Array Value} {fl a0:Value} (p:Put l e T oe fl h h') (hkb:base.StaysIn h) (hl:h.FunFrames base l) (hen:base.get? e=none) (he:h.get? e=some oe) (hd:oe.data=.fields vs) (h0:vs[0]? = some a0) (h2:vs[2]? = some .none) :
  base.StaysIn h'/\h'.FunFrames base l/\h'.TracedAtW base e oe.cls a0 fl/\F2 h' e/\h.UpToSlots h':=by
 have hsz:2<vs.size:=(Array.getElem?_eq_some_iff.mp h2).1
 have hd3:=Obj.data_mapFields hd (·.setIfInBounds 1 (Value.ref T))
 have hTe:T≠e:=fun z=>by subst z; rw [p.new] at he; cases he
 obtain ⟨oT,ts,q1,q2,q3⟩:=p.tb
 have ne:∀ b o,h.get? b=some o->(∀ ws,o.data≠.fields ws)->b≠e:=fun b o hb hnf z=>by subst z; rw [he] at hb; cases hb; exact hnf _ hd
 have nT:base.get? T=none:=by
  cases q:base.get? T with
  | none=>rfl
  | some o=>have:=hkb _ _ q; rw [p.new] at this; cases this
 refine ⟨fun b o hb=>p.keep b o (fun z=>by subst z; rw [hen] at hb; cases hb) (fun z=>?_) (hkb b o hb),hl.of_keeps fun b o hb hnf=>?_,⟨_,_,T,oT,ts,p.ex,⟨Obj.cls_mapFields _ _,by rw [Array.getElem?_setIfInBounds_ne (by decide)]; exact h0⟩,hd3,by rw [Array.getElem?_setIfInBounds_self,if_pos (by omega)],nT,hTe,q1,q2,q3⟩,⟨_,_,p.ex,hd3,by rw [Array.getElem?_setIfInBounds_ne (by decide)]; exact h2⟩,fun b o hb hnf=>p.slot b o (ne b o hb hnf) hb⟩
 ·rw [(hl.mem z).1] at hb; cases hb
 ·obtain ⟨sl,q⟩:=p.slot b o (ne b o hb hnf) hb
  exact ⟨_,q,rfl⟩
theorem mK {base:Heap} {l:List Env} {e:Addr} {cls a0 fl:Value} {Q:Unit->Shared->Prop} (hkb:base.StaysIn s.heap) (hl:s.heap.FunFrames base l) (ht:s.heap.TracedAtW base e cls a0 fl) (h2:F2 s.heap e)
  (h:∀ h',base.StaysIn h'->h'.FunFrames base l->h'.TracedW base e cls a0->F2 h' e->s.heap.UpToSlots h'->Q () { s with heap:=h' }):wpAny M A (setFlight (.ref e) none) Q E s:=by
 obtain ⟨oe,vs,T,oT,ts,he,hcls,hd,h1,hnT,hTe,hT,hdT,h3⟩:=ht
 have hsz3:3<ts.size:=(Array.getElem?_eq_some_iff.mp h3).1
 have other:∀ b,b≠T->(s.heap.update T (Obj.mapFields (·.setIfInBounds 3 ((none:Option Addr).elim Value.none fun f=>rawInt f)))).get? b=s.heap.get? b:=fun b hb=>Heap.get?_update_other _ _ (Ne.symm hb)
 have noR:∀ b o,s.heap.get? b=some o->(∀ ws,o.data≠.fields ws)->b≠T:=fun b o hb hnf q=>by
  subst q; rw [hT] at hb; cases hb; exact hnf _ hdT
 unfold setFlight
 refine wpAny_bind (wpAny_field he hd h1 ?_)
 rw [if_pos (show (Value.ref T != Value.none)=true from by simp)]
 refine wpAny_setField hT hdT hsz3 (h _ (fun b o hb=>(other b fun q=>by subst q; rw [hnT] at hb; cases hb).trans (hkb b o hb)) (hl.of_keeps fun b o hb hnf=>⟨o,(other b (noR b o hb hnf)).trans hb,rfl⟩) ?_ ?_ fun b o hb hnf=>⟨o.slots,(other b (noR b o hb hnf)).trans hb⟩)
 ·exact ⟨oe,vs,T,_,_,(other e (Ne.symm hTe)).trans he,hcls,hd,h1,hnT,hTe,Heap.get?_update_self _ hT (Obj.isFreed_of_fields (Obj.data_mapFields hdT _)),Obj.data_mapFields hdT _,by simp [hsz3]⟩
 ·obtain ⟨o2,v2,q1,q2,q3⟩:=h2
  exact ⟨o2,v2,(other e (Ne.symm hTe)).trans q1,q2,q3⟩
theorem rY {base:Heap} {env:Env} {outer:List Env} {L e:Addr} {cls a0:Value} {Q:Unit->Shared->Prop} (hfr:A.frames=some (env::outer)) (hf:env.frame=some L) (hfl:FlyX base (env::outer) e cls a0 s.heap)
  (hQ:∀ h',zA base (env::outer) e cls a0 L h'->s.heap.UpToSlots h'->Q () { s with heap:=h' }):wpAny M A (noteFrame (.ref e) env) Q E s:=by
 obtain ⟨⟨hkb,hen,hl,oe,vs,T,oT,ts,he,⟨hcls,h0⟩,hd,h1,hnT,hTe,hT,hdT,h3⟩,h2⟩:=hfl
 subst hcls
 have h2:vs[2]? = some .none:=by
  obtain ⟨o2,v2,q1,q2,q3⟩:=h2
  rw [he] at q1; cases q1; rw [hd] at q2; cases q2; exact q3
 have other:∀ b,b≠T->(s.heap.update T (Obj.mapFields (·.setIfInBounds 3 Value.none))).get? b=s.heap.get? b:=fun b hb=>Heap.get?_update_other _ _ (Ne.symm hb)
 have noR:∀ b o,s.heap.get? b=some o->(∀ ws,o.data≠.fields ws)->b≠T:=fun b o hb hnf q=>by
  subst q; rw [hT] at hb; cases hb; exact hnf _ hdT
 unfold noteFrame
 simp only [hf]
 refine wpAny_bind (wpAny_field he hd h1 ?_)
 rw [if_pos (show (Value.ref T != Value.none)=true from by simp)]
 refine wpAny_bind (wpAny_field hT hdT h3 ?_)
 rw [if_neg (show ¬ ((Value.none==rawInt L)=true) from by simp [rawInt])]
 refine wpAny_bind (wpAny_setField hT hdT (Array.getElem?_eq_some_iff.mp h3).1 ?_)
 have hl':(s.heap.update T (Obj.mapFields (·.setIfInBounds 3 Value.none))).FunFrames base (env::outer):=hl.of_keeps fun b o hb hnf=>⟨o,(other b (noR b o hb hnf)).trans hb,rfl⟩
 have he':=(other e (Ne.symm hTe)).trans he
 refine mj hfr hl' hf he' hd (Array.getElem?_eq_some_iff.mp h1).1 fun h' T' p=>?_
 obtain ⟨k1,k2,k3,k4,k5⟩:=p.flies (fun b o hb=>(other b fun q=>by subst q; rw [hnT] at hb; cases hb).trans (hkb b o hb)) hl' hen he' hd h0 h2
 exact hQ h' ⟨⟨k1,hen,k2,k3⟩,k4⟩ fun b o hb hnf=>k5 b o ((other b (noR b o hb hnf)).trans hb) hnf
theorem nJ {base:Heap} {l:List Env} {e L:Addr} {cls a0:Value} {Q:Unit->Shared->Prop} (hh:zA base l e cls a0 L s.heap)
  (hQ:∀ h',FlyX base l e cls a0 h'->s.heap.UpToSlots h'->Q () { s with heap:=h' }):wpAny M A (setFlight (.ref e) none) Q E s:=by
 obtain ⟨⟨f1,f2,f3,f4⟩,f5⟩:=hh
 exact mK f1 f3 f4 f5 fun h' k1 k2 k3 k4 k5=>hQ h' ⟨⟨k1,f2,k2,k3⟩,k4⟩ k5
theorem lJ {base:Heap} {l:List Env} {e:Addr} {cls a0:Value} {Q:Unit->Shared->Prop} (hh:FlyX base l e cls a0 s.heap)
  (hQ:∀ h',FlyX base l e cls a0 h'->s.heap.UpToSlots h'->Q () { s with heap:=h' }):wpAny M A (setFlight (.ref e) none) Q E s:=by
 obtain ⟨⟨f1,f2,f3,f4⟩,f5⟩:=hh
 exact mK f1 f3 f4.at f5 fun h' k1 k2 k3 k4 k5=>hQ h' ⟨⟨k1,f2,k2,k3⟩,k4⟩ k5
theorem FlyX.pop {base h:Heap} {env:Env} {l:List Env} {e:Addr} {cls a0:Value} (x:FlyX base (env::l) e cls a0 h):FlyX base l e cls a0 h:=
 let ⟨⟨k1,k2,⟨_,_,k3⟩,k4⟩,k5⟩:=x; ⟨⟨k1,k2,k3,k4⟩,k5⟩
theorem pG {base:Heap} {env:Env} {outer:List Env} {L e:Addr} {cls a0:Value} {Q:Unit->Shared->Prop} (hfr:A.frames=some (env::outer)) (hf:env.frame=some L) (hfl:FlyX base (env::outer) e cls a0 s.heap)
  (hQ:∀ h',FlyX base outer e cls a0 h'->s.heap.UpToSlots h'->Q () { s with heap:=h' }):wpAny M A (leaving env (.ref e)) Q E s:=by
 unfold leaving
 refine wpAny_bind (rY hfr hf hfl fun h1 x1 u1=>?_)
 exact nJ (s:={ s with heap:=h1 }) x1 fun h2 x2 u2=>hQ h2 x2.pop (u1.trans u2)
theorem lH {base h:Heap} {env:Env} {outer:List Env} {L e:Addr} {cls:Value} {args:List Value} {Q:Unit->Shared->Prop}
  (hfr:A.frames=some (env::outer)) (hf:env.frame=some L) (hkb:base.StaysIn h) (hl:h.FunFrames base (env::outer)) (hx:Heap.MadeExcOf h s.heap e cls args)
  (hQ:∀ h' t,FlyX base outer e cls (.ref t) h'->s.heap.UpToSlots h'->Q () { s with heap:=h' }):wpAny M A (leaving env (.ref e)) Q E s:=by
 obtain ⟨t,he,htn,ht⟩:=hx.there
 have fresh:∀ b,h.get? b=none->base.get? b=none:=fun b hb=>by
  cases hq:base.get? b with
  | none=>rfl
  | some o'=>have:=hkb b o' hq; rw [hb] at this; cases this
 have hl2:s.heap.FunFrames base (env::outer):=hl.of_keeps fun b o hb _=>⟨o,hx.keeps b o hb,rfl⟩
 unfold leaving noteFrame
 simp only [hf]
 refine wpAny_bind (wpAny_bind (wpAny_field he rfl (x:=.none) rfl ?_))
 rw [if_neg (by decide)]
 refine mj hfr hl2 hf he rfl (by simp) fun h1 T p=>?_
 obtain ⟨k1,k2,k3,k4,k5⟩:=p.flies (a0:=.ref t) (fun b o hb=>hx.keeps b o (hkb b o hb)) hl2 (fresh e hx.new) he rfl rfl rfl
 exact nJ (s:={ s with heap:=h1 }) (L:=L) ⟨⟨k1,fresh e hx.new,k2,k3⟩,k4⟩ fun h2 x2 u2=>hQ h2 t x2.pop (k5.trans u2)
end
end VL
set_option Elab.async false
set_option linter.all false
set_option maxRecDepth 100000
set_option maxHeartbeats 4000000
namespace VL
open PySem PySem.Spec PyProof.Rows L2
noncomputable def zp (n:Str):D:=.dict [(.str "exc",.str n)]
noncomputable abbrev Xf:=Dv->Option (Str×Dv)
@[simp] noncomputable def F9:Xf:=fun _=>none
@[simp] noncomputable def uv (n:Str) (f:Dv->Option D):Xf:=fun δ=>(f δ).bind fun _=>some (n,δ)
@[simp] noncomputable def xE (f:Dv->Option Str):Xf:=fun δ=>(f δ).bind fun n=>some (n,δ)
@[simp] noncomputable def Ga (t:Dv->Option Bool) (u w:Xf):Xf:=fun δ=>(t δ).bind fun c=>if c=true then u δ else w δ
@[simp] noncomputable def EF (s:Sf) (u:Xf):Xf:=fun δ=>(s δ).bind fun r=>match r with
 | (.nx,δ')=>u δ'
 | _=>none
@[simp] noncomputable def Gb (u1:Xf) (s:Sf) (u:Xf):Xf:=fun δ=>match u1 δ with
 | some r=>some r
 | none=>EF s u δ
noncomputable def uU (N:List Str) (m:Nat) (fx:Xf):List D->Option Str:=fun as=>if as.length=m then (fx (aC N as)).bind fun r=>some r.1 else none
@[simp] noncomputable def Gx (fs:Dv->Option (List D)) (g:List D->Option Str):Dv->Option Str:=fun δ=>(fs δ).bind g
noncomputable def uS (i:Nat) (ns:List Str) (b:Sf) (bx:Xf) (bs:Sf):Sf:=fun δ=>match bx δ with
 | some (n,δ')=>if ns.contains n=true then (bs (δ'.set i (.fz (zp n)))).bind fun r=>some (r.1,r.2.set i .un) else none
 | none=>b δ
noncomputable def yg (t:List (Str×Bool)) (n:Str):Option D:=(t.lookup n).map .bool
noncomputable def iY (t:List (Str×Bool)):D->Option D
 | .dict [(.str k,.str n)]=>if k = "exc" then yg t n else none
 | _=>none
theorem yh (t:List (Str×Bool)) (n:Str):iY t (zp n)=yg t n:=by simp [iY,zp]
theorem jk {P:Program} {w:World} {H:Hp} {h:Heap} {a:Addr} {o:HO} (x:ObjOk P w H h a o):∃ ob,h.get? a=some ob:=by
 cases o with
 | lst xs=>obtain ⟨_,_,_,_,e⟩:=x; exact ⟨_,e⟩
 | tup xs=>obtain ⟨_,_,_,⟨ob,e,_⟩,_⟩:=x; exact ⟨_,e⟩
 | dK kvs=>obtain ⟨_,_,_,_,o,_,_,e,_⟩:=x; exact ⟨_,e⟩
 | dT kvs=>obtain ⟨_,_,_,_,o,_,_,e,_⟩:=x; exact ⟨_,e⟩
 | set S n=>obtain ⟨o,_,_,_,e,_⟩:=x; exact ⟨_,e⟩
 | ins C dx fs=>obtain ⟨_,_,_,e,_⟩:=x; exact ⟨_,e⟩
 | own y=>exact x
 | xd fs=>obtain ⟨_,⟨_,_,_,e,_⟩,_⟩:=x; exact ⟨_,e⟩
 | rng lo hi=>obtain ⟨_,_,_,e⟩:=x; exact ⟨_,e⟩
 | frz ob u=>exact ⟨_,x.1⟩
 | tbl ps=>exact ⟨_,x⟩
 | met f y=>exact ⟨_,x⟩
 | ext φ=>exact x.2.1
theorem vZ {P:Program} {w:World} {H:Hp} {h:Heap} {x C:Addr} {o:Obj} (e:h.get? x=some o) (c:o.cls=.ref C) (f:F2 h x):ObjOk P w H h x (kQ x C):=
 ⟨⟨o,e,c,by obtain ⟨o',vs,q1,q2⟩:=f; rw [e] at q1; cases q1; exact ⟨vs,q2⟩⟩,⟨o,e⟩,fun h1 h2 ⟨o',e',c'⟩ k=>⟨o',k o' e',c'⟩⟩
theorem FlyX.there {base h:Heap} {l:List Env} {e:Addr} {cls a0:Value} (x:FlyX base l e cls a0 h):∃ ob,h.get? e=some ob/\ob.cls=cls:=x.1.there
structure Thrown (P:Program) (w:World) (outer:List Env) (H:Hp) (s:Shared) (x C:Addr) (H':Hp) (s':Shared):Prop where
 os:s'.os=s.os
 bare:AllBare s'.gens
 un:Un (fT outer) [] H H' s.heap s'.heap
 hok:HOk P w H' s'.heap
 sm:Same H H'
 is:H' x=some (kQ x C)
 fly:∃ B t,FlyX B outer x (.ref C) t s'.heap/\(∀ b o,H' b=some o->b≠x->∃ ob,B.get? b=some ob)/\(∀ b o,s.heap.get? b=some o->H b=none->b ∉ fT outer->B.get? b=some o)
noncomputable def qh (P:Program) (w:World):qi:=fun outer H s E e s'=>∃ x C H',e=.ref x/\Thrown P w outer H s x C H' s'/\E (.ref C) (some x) H'
theorem sk {P:Program} {w:World} {H2:Hp} {B h2 h':Heap} {l l':List Env} {x C:Addr} {t t':Value} (ok:HOk P w H2 h2) (is:H2 x=some (kQ x C)) (k2:B.StaysIn h2) (fl':FlyX B l' x (.ref C) t' h')
  (hB:∀ b o,H2 b=some o->b≠x->∃ ob,B.get? b=some ob):HOk P w H2 h':=fun b o e=>by
 by_cases hb:b=x
 ·subst hb
  rw [is] at e; cases e
  obtain ⟨ob,h1,h2⟩:=fl'.there
  exact vZ h1 h2 fl'.2
 ·refine (ok b o e).stay (fun c u hc q=>?_) (fun _ q=>q) fun _ _ q=>q
  have:∃ ob,B.get? c=some ob:=by
   rcases hc with rfl | hc
   ·exact hB c o e hb
   ·refine hB c _ hc fun z=>?_
    subst z; rw [is] at hc; cases hc
  obtain ⟨ob,hob⟩:=this
  have:=k2 c ob hob
  rw [q] at this; cases this
  exact fl'.1.1 c _ hob
section
variable {P:Program} {w:World} {K:PySem.W.Frag} {mg:Str->Option Value} {base:Heap} {N:List Str} {qual:Str} {scope:Scope} {f:Addr} {cd:Value} {A:Around} {outer:List Env} {s:Shared} {H:Hp} {E:XK} {pins:List (Addr×Obj)} {σ:St} {H1 H2:Hp} {s1 s2:Shared} {x C:Addr}
theorem vB (I:Inv (d7 (qh P w) P w K mg base N qual scope f cd A outer s H E) pins σ H1 s1) (T:Thrown P w (d7 (qh P w) P w K mg base N qual scope f cd A outer s H E).stack H1 s1 x C H2 s2) (hE:E (.ref C) (some x) H2) (h0:Same H H2) :
  (d7 (qh P w) P w K mg base N qual scope f cd A outer s H E).xe (.ref x) s2:=by
 obtain ⟨B,t,fl,hB1,hB2⟩:=T.fly
 have hfr:=I.ok.frames
 have loc:∀ b o,s.heap.get? b=some o->b ∉ fT outer->b ∉ fT (d7 (qh P w) P w K mg base N qual scope f cd A outer s H E).stack:=fun b o q hb z=>by
  rcases List.mem_cons.mp (I.stkSub b z) with e | e
  ·exact absurd (Heap.lt_size q) (by rw [e]; exact Nat.not_lt.mpr I.ok.above)
  ·exact hb e
 have keep:∀ b o,s.heap.get? b=some o->H b=none->b ∉ fT outer->B.get? b=some o:=fun b o q n hb=>
  hB2 b o (I.base.keep b o q n hb (fun z=>nomatch z)) (I.base.free b o q n (fun z=>nomatch z)) (loc b o q hb)
 refine pG hfr rfl fl fun h' fl' sm=>?_
 have slot:∀ b o,s.heap.get? b=some o->H b=none->b∈fT outer->∃ sl,h'.get? b=some { o with slots:=sl }:=fun b o q n hb=>by
  obtain ⟨sl,e1⟩:=I.base.slot b o q n hb (fun z=>nomatch z)
  have hb':b∈fT (d7 (qh P w) P w K mg base N qual scope f cd A outer s H E).stack:=by
   show b∈List.filterMap _ (_::outer)
   exact List.mem_filterMap.mpr (by obtain ⟨env,he,hf⟩:=List.mem_filterMap.mp hb; exact ⟨env,List.mem_cons_of_mem _ he,hf⟩)
  obtain ⟨sl2,e2⟩:=T.un.slot b _ e1 (I.base.free b o q n (fun z=>nomatch z)) hb' (fun z=>nomatch z)
  obtain ⟨_,o',ho',hd⟩:=I.ok.funs.mem hb
  have ho2:s.heap.get? b=some o':=ho'
  rw [q] at ho2; cases ho2
  obtain ⟨sl3,e3⟩:=sm b _ e2 hd
  exact ⟨sl3,e3⟩
 refine ⟨x,C,H2,rfl,⟨T.os.trans I.os,T.bare,⟨fun b o q n hb _=>fl'.1.1 b o (keep b o q n hb),fun b o q n hb _=>slot b o q n hb,fun b o q n _=>?_,fun b o q _=>?_,fun b xs e=>T.un.tups b xs (I.base.tups b xs e),fun b o u e=>T.un.frzs b o u (I.base.frzs b o u e),fun b ps e=>?_⟩,sk (l:=[]) (t:=t) T.hok T.is fl.1.1 fl' hB1,h0,T.is,⟨B,t,fl',hB1,keep⟩⟩,hE⟩
 ·obtain ⟨o1,e1⟩:=I.base.there b o q (fun z=>nomatch z)
  exact T.un.free b o1 e1 (I.base.free b o q n (fun z=>nomatch z)) (fun z=>nomatch z)
 ·cases q2:H2 b with
  | some ho=>
   by_cases hb:b=x
   ·subst hb; obtain ⟨ob,e1,_⟩:=fl'.there; exact ⟨ob,e1⟩
   ·obtain ⟨ob,e1⟩:=hB1 b ho q2 hb; exact ⟨ob,fl'.1.1 b ob e1⟩
  | none=>
   have n:H b=none:=by
    cases e:H b with
    | none=>rfl
    | some z=>rw [h0 b z e] at q2; cases q2
   by_cases hb:b∈fT outer
   ·obtain ⟨sl,e⟩:=slot b o q n hb; exact ⟨_,e⟩
   ·exact ⟨o,fl'.1.1 b o (keep b o q n hb)⟩
 ·obtain ⟨m1,e1⟩:=I.base.tbls b ps e
  obtain ⟨m2,e2⟩:=T.un.tbls b _ e1
  exact ⟨m1++m2,by rw [e2,Array.append_assoc]⟩
theorem qK {vs:List Value} (I:Inv (d7 (qh P w) P w K mg base N qual scope f cd A outer s H E) pins σ H1 s1) (hs:s2={ s1 with heap:=s2.heap }) (hx:Heap.MadeExcOf s1.heap s2.heap x (.ref C) vs) (h0:Same H H1) (hE:H1 x=none->E (.ref C) (some x) (upd H1 x (kQ x C))) :
  (d7 (qh P w) P w K mg base N qual scope f cd A outer s H E).xe (.ref x) s2:=by
 have hfr:=I.ok.frames
 have n1:H1 x=none:=by
  cases e:H1 x with
  | none=>rfl
  | some o=>obtain ⟨ob,h⟩:=jk (I.hok x o e); rw [hx.new] at h; cases h
 have loc:∀ b o,s.heap.get? b=some o->b ∉ fT outer->b ∉ fT (d7 (qh P w) P w K mg base N qual scope f cd A outer s H E).stack:=fun b o q hb z=>by
  rcases List.mem_cons.mp (I.stkSub b z) with e | e
  ·exact absurd (Heap.lt_size q) (by rw [e]; exact Nat.not_lt.mpr I.ok.above)
  ·exact hb e
 have hin:∀ env∈(d7 (qh P w) P w K mg base N qual scope f cd A outer s H E).stack,∀ b,env.frame=some b->b∈fT (d7 (qh P w) P w K mg base N qual scope f cd A outer s H E).stack:=fun env he b hb=>List.mem_filterMap.mpr ⟨env,he,hb⟩
 have keep:∀ b o,s.heap.get? b=some o->H b=none->b ∉ fT outer->(PySem.W.hideAll s1.heap (fT (d7 (qh P w) P w K mg base N qual scope f cd A outer s H E).stack)).get? b=some o:=fun b o q n hb=>
  PySem.W.hideAll_get _ (I.base.keep b o q n hb (fun z=>nomatch z)) (loc b o q hb)
 have trk:∀ b o,H1 b=some o->∃ ob,(PySem.W.hideAll s1.heap (fT (d7 (qh P w) P w K mg base N qual scope f cd A outer s H E).stack)).get? b=some ob:=fun b o e=>by
  obtain ⟨ob,h⟩:=jk (I.hok b o e)
  refine ⟨ob,PySem.W.hideAll_get _ h fun z=>?_⟩
  rw [I.stkFree b z] at e; cases e
 refine lH hfr rfl (fun b o q=>PySem.W.of_hideAll _ q) (PySem.W.funFrames_hide I.stack hin) hx fun h' t fl sm=>?_
 have slot:∀ b o,s.heap.get? b=some o->H b=none->b∈fT outer->∃ sl,h'.get? b=some { o with slots:=sl }:=fun b o q n hb=>by
  obtain ⟨sl,e1⟩:=I.base.slot b o q n hb (fun z=>nomatch z)
  obtain ⟨_,o',ho',hd⟩:=I.ok.funs.mem hb
  have ho2:s.heap.get? b=some o':=ho'
  rw [q] at ho2; cases ho2
  obtain ⟨sl3,e3⟩:=sm b _ (hx.keeps b _ e1) hd
  exact ⟨sl3,e3⟩
 have ne:∀ b o,s1.heap.get? b=some o->b≠x:=fun b o q z=>by subst z; rw [hx.new] at q; cases q
 have os2:s2.os=s1.os:=by rw [hs]
 have g2:s2.gens=s1.gens:=by rw [hs]
 have hok2:HOk P w (upd H1 x (kQ x C)) h':=fun b o e=>by
  by_cases hb:b=x
  ·subst hb; rw [aw] at e; cases e; obtain ⟨ob,q1,q2⟩:=fl.there; exact vZ q1 q2 fl.2
  ·rw [ar hb] at e
   refine (I.hok b o e).stay (fun c u hc q=>?_) (fun c q=>?_) fun c xs q=>?_
   ·have:∃ ho,H1 c=some ho:=by rcases hc with rfl | hc; exact ⟨_,e⟩; exact ⟨_,hc⟩
    obtain ⟨ho,hc⟩:=this
    obtain ⟨ob,hob⟩:=trk c ho hc
    have:=PySem.W.of_hideAll _ hob
    rw [q] at this; cases this
    exact fl.1.1 c _ hob
   ·rw [ar (aD q n1)]; exact q
   ·rw [ar (aD q n1)]; exact q
 refine ⟨x,C,upd H1 x (kQ x C),rfl,⟨os2.trans I.os,by rw [show ({ s2 with heap:=h' }:Shared).gens=s1.gens from g2]; exact I.bare,⟨fun b o q n hb _=>fl.1.1 b o (keep b o q n hb),fun b o q n hb _=>slot b o q n hb,fun b o q n _=>?_,fun b o q _=>?_,fun b xs e=>?_,fun b o u e=>?_,fun b ps e=>?_⟩,hok2,h0.trans (de n1),aw,⟨_,_,fl,fun b o e hb=>?_,keep⟩⟩,hE n1⟩
 ·obtain ⟨o1,e1⟩:=I.base.there b o q (fun z=>nomatch z)
  rw [ar (ne b o1 e1)]
  exact I.base.free b o q n (fun z=>nomatch z)
 ·obtain ⟨o1,e1⟩:=I.base.there b o q (fun z=>nomatch z)
  cases q2:H1 b with
  | some ho=>obtain ⟨ob,e⟩:=trk b ho q2; exact ⟨ob,fl.1.1 b ob e⟩
  | none=>
   have n:H b=none:=by
    cases e:H b with
    | none=>rfl
    | some z=>rw [h0 b z e] at q2; cases q2
   by_cases hb:b∈fT outer
   ·obtain ⟨sl,e⟩:=slot b o q n hb; exact ⟨_,e⟩
   ·exact ⟨o,fl.1.1 b o (keep b o q n hb)⟩
 ·have:=I.base.tups b xs e
  rw [ar (aD this n1)]; exact this
 ·have:=I.base.frzs b o u e
  rw [ar (aD this n1)]; exact this
 ·obtain ⟨m1,e1⟩:=I.base.tbls b ps e
  exact ⟨m1,by rw [ar (aD e1 n1)]; exact e1⟩
 ·rw [ar hb] at e
  exact trk b o e
end
end VL
set_option Elab.async false
set_option linter.all false
set_option maxRecDepth 100000
set_option maxHeartbeats 4000000
namespace VL
open PySem PySem.Spec PyProof.Rows L2
noncomputable abbrev wQ:List Value:=[.type "ValueError",.type "Exception",.type "BaseException",.type "object"]
structure ExcC (K:Fg) (n:Str) (C:Addr):Prop where
 nm:PySem.W.nsIn K mainGlobals n=some (some (.ref C))
 ex:PySem.W.excIn K C wQ "ValueError.__new__" = true
 ga:PySem.W.findIn K (.ref C) "__getattribute__" = some (some (.builtin "BaseException.__getattribute__"))
 gt:PySem.W.findIn K (.ref C) "__getattr__" = some none
 cl:PySem.W.findIn K (.ref C) "__class__" = some (some (.builtin "object.__class__"))
 mo:PySem.W.mroIn K C (.type "object")=some true
 be:PySem.W.mroIn K C (.type "BaseException")=some true
theorem jT {K:Fg} {h:Heap} {C:Addr} {mB:List Value} {newId:String} (kin:K.In h) (q:PySem.W.excIn K C mB newId=true) :
  ∃ mr ns nm qn bs hd sn sub ab col dd a0 a1 a2 a3 a5 mN,h.get? C=some (excClassObj nm qn C ns bs mr hd sn sub ab col dd a0 a1 a2 a3 a5 newId)/\h.Ns ns mN/\mN "__init__" = none/\OwnTail h mB mr:=by
 unfold PySem.W.excIn at q
 split at q
 ·rename_i dct cda slo lk
  split at q
  ·rename_i C2 mr a0 a1 a2 a3 nw a5 em es
   simp only [Bool.and_eq_true,beq_iff_eq,Bool.not_eq_true'] at q
   obtain ⟨⟨⟨⟨⟨rfl,rfl⟩,nodel⟩,tl⟩,okn⟩,noini⟩:=q
   obtain ⟨nm,bs,mro,ns,qn,hd,sn,sub,ab,col,del⟩:=cda
   dsimp only at em nodel okn noini
   subst em nodel
   have esl:slo = #[a0,a1,a2,a3,some (.builtin nw),a5]:=by
    obtain ⟨ll⟩:=slo
    simp only at es
    rw [es]
   subst esl
   exact ⟨mr,ns,nm,qn,bs,hd,sn,sub,ab,col,dct,a0,a1,a2,a3,a5,_,kin _ _ lk,Heap.Ns.of_isNs (PySem.W.isNs_of_in kin okn),PySem.W.nsMap_none_of_in kin okn noini,PySem.W.tail_of_in kin tl⟩
  ·cases q
 ·cases q
section
variable {K:Fg} {n:Str} {C x:Addr}
theorem eM {M:Model} {h:Heap} {o:Obj} (e:h.get? x=some o) (c:o.cls=.ref C):PySem.W.Looks M h (typeOf (.ref x)) (.ref C):=c ▸ (PySem.W.Looks.ld e).andThen .now
variable {prog:Program} {w:World} {A:Around} {E:Value->Shared->Prop}
open Builtin Builtin.ObjectAttr Builtin.Getset_descriptor in
theorem yq {R:Result->Shared->Prop} {tp:Value} {o:Obj} {s:Shared} (F:ExcC K n C) (kin:K.In s.heap) (e:s.heap.get? x=some o) (c:o.cls=.ref C) (h:R (.ok (.ret (.ref C))) s) :
  codeAny (model prog w) A (.call (.builtin "getset_descriptor.__get__") ⟨[.builtin "object.__class__",.ref x,tp],[]⟩) R s:=by
 obtain ⟨hh,g,dr,t,os⟩:=s
 have L0:=eM (M:=model prog w) e c
 have L1:=PySem.W.looks_mroIn (M:=model prog w) kin F.mo
 refine codeAny_call_builtin PySem.W.KF.slot_gs.plain PySem.W.KF.entry_gs (PySem.W.KF.slot_gs.check _ _ _ _ _ _ _ _ PySem.W.KF.type_class (PySem.W.KF.args_gs _ _ _) ?_)
 unfold Builtin.«getset_descriptor.__get__» descrGet
 rw [PySem.W.dga_obj]
 refine wpAny_bind (wpAny_pure ?_)
 unfold descrGetter descrCheckInstance descrNameAndClass isInstance
 simp only [PySem.W.KF.owner_class]
 repeat lk
 refine ⟨Code.quiet_builtin _ (by decide +kernel),codeAny_builtin PySem.W.KF.entry_class ?_⟩
 unfold Builtin.«object.__class__» shownTypeOf
 repeat lk
 exact h
theorem uf {M:Model} {o:Obj} {s:Shared} {nameV:Value} {Q:Unit->Shared->Prop} (F:ExcC K n C) (kin:K.In s.heap) (e:s.heap.get? x=some o) (c:o.cls=.ref C) (h:Q () s) :
  wpAny M A (checkBuiltinCall "BaseException.__getattribute__" ⟨[.ref x,nameV],[]⟩) Q E s:=by
 obtain ⟨hh,g,dr,t,os⟩:=s
 have L0:=eM (M:=M) e c
 have L1:=PySem.W.looks_mroIn (M:=M) kin F.be
 have kd:builtinKind "BaseException.__getattribute__" = some .slot:=by decide +kernel
 have sp:splitId "BaseException.__getattribute__" = some ("BaseException","__getattribute__"):=by decide +kernel
 have ao:=PySem.F.args_bexc_ga (.ref x) nameV
 simp only [checkBuiltinCall,kd,sp]
 refine wpAny_bind ?_
 unfold isInstance
 refine wpAny_bind (L0.at (L1.at ?_))
 repeat wp_step
 exact h
theorem ud {tk:Tok} {o:Obj} {s:Shared} {Q:Fin->Shared->Prop} (F:ExcC K n C) (kin:K.In s.heap) (e:s.heap.get? x=some o) (c:o.cls=.ref C) (h:Q (.done (.ret (.ref C))) s) :
  wpAny (model prog w) A (Builtin.«object.__getattribute__» ⟨[.ref x,.str "__class__" tk],[]⟩) Q E s:=by
 obtain ⟨hh,g,dr,t,os⟩:=s
 have L0:=eM (M:=model prog w) e c
 have L1:=PySem.W.looks_findIn (M:=model prog w) kin F.cl
 have t5:(⟨hh,g,dr,t,os⟩:Shared).TypeIs (.builtin "object.__class__") "getset_descriptor":=PySem.F.typeOf_object_class
 have f5:=PySem.F.typeOf_object_class
 have f6:=PySem.F.slot_gs_get.lookup
 have f7:=PySem.F.slot_gs_set.lookup
 repeat (any_goals (first | assumption | with_reducible refine L0.at ?_ | with_reducible refine L1.at ?_ | wp_step))
 refine yq F kin e c ?_
 repeat (any_goals (first | assumption | wp_step))
end
end VL
set_option Elab.async false
set_option linter.all false
set_option maxRecDepth 100000
set_option maxHeartbeats 4000000
namespace VL
open PySem PySem.Spec PyProof.Rows L2
section
variable {K:Fg} {n:Str} {C x:Addr} {prog:Program} {w:World} {A:Around} {E:Value->Shared->Prop}
theorem ue {o:Obj} {s:Shared} {Q:Option Value->Shared->Prop} (F:ExcC K n C) (kin:K.In s.heap) (e:s.heap.get? x=some o) (c:o.cls=.ref C) (h:Q (some (.ref C)) { s with toks:=s.toks+1 }) :
  wpAny (model prog w) A (getAttr? (.ref x) "__class__") Q E s:=by
 obtain ⟨hh,g,dr,t,os⟩:=s
 have L0:=eM (M:=model prog w) e c
 have L1:=PySem.W.looks_findIn (M:=model prog w) kin F.ga
 have L2:=PySem.W.looks_findIn (M:=model prog w) kin F.gt
 have b3:=PySem.F.attr_ValueError.ga.bind (.ref x)
 have n2:(Value.builtin "BaseException.__getattribute__" == Value.builtin "object.__getattribute__")=false:=by decide +kernel
 have n1:(onTheHeap (Value.ref C)&&Value.builtin "BaseException.__getattribute__" == Value.builtin "object.__getattribute__")=false:=by rw [n2]; rfl
 have go:∀ {tk:Tok} {R:Result->Shared->Prop} {A':Around},R (.ok (.ret (.ref C))) ⟨hh,g,dr,t+1,os⟩->codeAny (model prog w) A' (.call (.builtin "BaseException.__getattribute__") ⟨[.ref x,.str "__class__" tk],[]⟩) R ⟨hh,g,dr,t+1,os⟩:=fun {tk R A'} q=>
  codeAny_call_builtin PySem.F.attr_ValueError.ga.plain PySem.F.entry_bexc_ga (uf (s:=⟨hh,g,dr,t+1,os⟩) F kin e c (ud (s:=⟨hh,g,dr,t+1,os⟩) F kin e c q))
 unfold getAttr? getAttrBy? getAttrBy
 repeat (any_goals (first | assumption | with_reducible refine L0.at ?_ | with_reducible refine L1.at ?_ | with_reducible refine L2.at ?_ | wp_step))
 refine go ?_
 repeat (any_goals (first | assumption | wp_step))
theorem nG {M:Model} {h:Heap} (F:ExcC K n C) (kin:K.In h):PySem.W.Looks M h (isType (.ref C)) true:=by
 obtain ⟨_,_,_,_,_,_,_,_,_,_,_,_,_,_,_,_,_,hC,_⟩:=jT kin F.ex
 intro A' Q' E' s' k q
 unfold isType loadHead
 exact wpAny_bind (wpAny_loadPart (k _ _ hC) (wpAny_pure q))
theorem vH (F:ExcC K n C):PySem.W.KitX K (.ref x) (.ref C) (fun h=>∃ o,h.get? x=some o/\o.cls=.ref C) where
 ty:=fun M h _ ⟨o,e,c⟩=>eM e c
 it:=fun M h kin _=>nG F kin
 ne:=fun h tp dd its m sl kin htp=>by
  obtain ⟨_,_,_,_,_,_,_,_,_,_,_,_,_,_,_,_,_,hC,_⟩:=jT kin F.ex
  refine Bool.eq_false_iff.mpr fun q=>?_
  have z:C=tp:=Value.ref.inj (beq_iff_eq.mp q)
  subst z
  rw [htp] at hC
  have z2:=congrArg (fun z:Option Obj=>z.map (·.cls)) hC
  simp [excClassObj] at z2
 ca:=fun {_ _ _ _ _ s} kin ⟨o,e,c⟩ k=>ue F kin e c k
end
inductive IsX (K:Fg) (D:Str):List (Str×Bool)->Prop
 | nil:IsX K D []
 | cons {n:Str} {b:Bool} {t:List (Str×Bool)} {C dC:Addr}:ExcC K n C->PySem.W.nsIn K mainGlobals D=some (some (.ref dC))->PySem.W.kitOne K (.ref C) (.ref dC)=some b->IsX K D t->IsX K D ((n,b)::t)
inductive IsT (K:Fg) (D:String):List (Str×Bool)->Prop
 | nil:IsT K D []
 | cons {n:Str} {b:Bool} {t:List (Str×Bool)} {C:Addr}:ExcC K n C->PySem.W.kitOne K (.ref C) (.type D)=some b->IsT K D t->IsT K D ((n,b)::t)
theorem eL {n m:Str} {b c:Bool} {t:List (Str×Bool)} (h:List.lookup m ((n,b)::t)=some c):(m=n/\c=b)\/List.lookup m t=some c:=by
 rw [List.lookup_cons] at h
 split at h
 ·rename_i q; cases h; exact .inl ⟨by simpa using q,rfl⟩
 ·exact .inr h
theorem IsX.get {K:Fg} {D:Str} {t:List (Str×Bool)} (h:IsX K D t) {n:Str} {b:Bool} (e:t.lookup n=some b):∃ C dC,ExcC K n C/\PySem.W.nsIn K mainGlobals D=some (some (.ref dC))/\PySem.W.kitOne K (.ref C) (.ref dC)=some b:=by
 induction h with
 | nil=>cases e
 | cons h1 h2 h3 _ ih=>
  rcases eL e with ⟨rfl,rfl⟩ | e
  ·exact ⟨_,_,h1,h2,h3⟩
  ·exact ih e
theorem IsT.get {K:Fg} {D:String} {t:List (Str×Bool)} (h:IsT K D t) {n:Str} {b:Bool} (e:t.lookup n=some b):∃ C,ExcC K n C/\PySem.W.kitOne K (.ref C) (.type D)=some b:=by
 induction h with
 | nil=>cases e
 | cons h1 h3 _ ih=>
  rcases eL e with ⟨rfl,rfl⟩ | e
  ·exact ⟨_,h1,h3⟩
  ·exact ih e
theorem mH {t:List (Str×Bool)} {d r:D} (h:iY t d=some r):∃ n b,d=.dict [(.str "exc",.str n)]/\t.lookup n=some b/\r=.bool b:=by
 unfold iY at h
 split at h
 ·rename_i k n
  split at h
  ·rename_i hk
   subst hk
   unfold yg at h
   cases e:List.lookup n t with
   | none=>rw [e] at h; cases h
   | some b=>rw [e] at h; cases h; exact ⟨n,b,rfl,e,rfl⟩
  ·cases h
 ·cases h
section
variable {X:Cx} {a:Expr} {f:Dv->Option D} {p pos:Pos}
theorem pJ {pins:List (Addr×Obj)} {σ:St} {H Z:Hp} {s:Shared} {x:Addr} {n:Str} {C:Addr} {c:Value} {b:Bool} {A:Around} {E:Value->Shared->Prop} {Q:Value->Shared->Prop} (I:Inv X pins σ H s) (zh:Same Z H) (r:Rep X.K Z (.ref x) (.dict [(.str "exc",.str n)])) (F:ExcC X.K n C) (ko:PySem.W.kitOne X.K (.ref C) c=some b)
  (h:∀ tk,Q (.bool b) { s with toks:=tk }):wpAny (model X.prog X.w) A (call (.builtin "isinstance") [.ref x,c]) Q E s:=by
 cases r with
 | opq q=>
  cases q with
  | @exc _ C' h1 h2=>
   have:C'=C:=by have:=h1.symm.trans F.nm; simpa using this
   subst this
   have q:ObjOk X.prog X.w H s.heap x (kQ x C'):=by
    rcases h2 with h2 | ⟨ob,h2⟩
    ·exact I.hok x _ (zh _ _ h2)
    ·exact (I.hok x _ (zh _ _ h2)).2
   obtain ⟨o,q1,q2,_⟩:=q.1
   exact PySem.W.kia_one (vH F) I.kIn ⟨o,q1,q2⟩ ko (fun z=>nomatch z) h
  | dct h1 _=>exact absurd h1 fun z=>yz z
theorem v6 {x:Str} {t:List (Str×Bool)} {p2:Pos} (T:IsX X.K x t) (hg:Gl X "isinstance") (hm:X.mg "isinstance" = none) (hgT:Gl X x) (ha:EV X a f) (hdT:(x==("__debug__":Str))=false:=by decide)
  (he:starEach (a::[.Name x p2]) X.env=(false,eval a X.env)::starEach [.Name x p2] X.env:=by rfl) (he2:starEach ((.Name x p2)::[]) X.env=(false,eval (.Name x p2) X.env)::starEach [] X.env:=by rfl) (hpl:(backTo pos (starEach [.Name x p2] X.env)).any (·.1)=false:=by rfl) :
  EV X (.Call (.Name "isinstance" p) [a,.Name x p2] [] pos) (o1 f (iY t)):=by
 intro pins s σ H Q I h
 obtain ⟨H₀,Z₀,Z,δ,d,hh,e,k⟩:=h
 obtain ⟨y,e1,e⟩:=bind_some e
 obtain ⟨n,b,rfl,e2,rfl⟩:=mH e
 obtain ⟨C,dC,F,hD,ko⟩:=T.get e2
 have hmT:=PySem.W.mg_of I.ok.mod.kin I.ok.mod.glob hD
 have cr:CallR X (.builtin "isinstance") (fun xs H Q=>∃ z Z,xs=[z,.ref dC]/\Same Z H/\Rep X.K Z z (.dict [(.str "exc",.str n)])/\Q (.bl b) H):=by
  intro pins s σ H xs us Q I rv h
  obtain ⟨z,Z,rfl,zh,r,q⟩:=h
  obtain ⟨u,w',rfl,r1,r2⟩:=oA rv
  cases (show w'=Value.ref dC from r2)
  cases r with
  | @opq a' _ q'=>
   cases (show u=Value.ref a' from r1)
   exact pJ I zh (.opq q') F ko fun tk=>⟨.bl b,H,I.tok _,rfl,q⟩
 exact dR cr hg hm PyProof.Rows.boot_isinstance (bE ha (bE (xK (v:=.ref dC) hgT hmT rfl hdT) dl he2) he) (by decide) (by decide) he hpl pins s σ H Q I
  ⟨H₀,Z₀,Z,δ,_,hh,e1,fun v Z1 H1 hh1 s1 r1=>⟨v,Z1,rfl,hh1.zh,r1,k _ Z1 H1 hh1 s1 (.bl b)⟩⟩
theorem yu {x:Str} {D:String} {t:List (Str×Bool)} {p2:Pos} (T:IsT X.K D t) (hg:Gl X "isinstance") (hm:X.mg "isinstance" = none) (hgT:Gl X x) (hmT:X.mg x=none) (ha:EV X a f) (hvT:bootBuiltins x=some (.type D):=by decide +kernel) (hnT:x ≠ "__name__":=by decide) (hdT:(x==("__debug__":Str))=false:=by decide)
  (he:starEach (a::[.Name x p2]) X.env=(false,eval a X.env)::starEach [.Name x p2] X.env:=by rfl) (he2:starEach ((.Name x p2)::[]) X.env=(false,eval (.Name x p2) X.env)::starEach [] X.env:=by rfl) (hpl:(backTo pos (starEach [.Name x p2] X.env)).any (·.1)=false:=by rfl) :
  EV X (.Call (.Name "isinstance" p) [a,.Name x p2] [] pos) (o1 f (iY t)):=by
 intro pins s σ H Q I h
 obtain ⟨H₀,Z₀,Z,δ,d,hh,e,k⟩:=h
 obtain ⟨y,e1,e⟩:=bind_some e
 obtain ⟨n,b,rfl,e2,rfl⟩:=mH e
 obtain ⟨C,F,ko⟩:=T.get e2
 have cr:CallR X (.builtin "isinstance") (fun xs H Q=>∃ z Z,xs=[z,.ty D]/\Same Z H/\Rep X.K Z z (.dict [(.str "exc",.str n)])/\Q (.bl b) H):=by
  intro pins s σ H xs us Q I rv h
  obtain ⟨z,Z,rfl,zh,r,q⟩:=h
  obtain ⟨u,w',rfl,r1,r2⟩:=oA rv
  cases (show w'=Value.type D from r2)
  cases r with
  | @opq a' _ q'=>
   cases (show u=Value.ref a' from r1)
   exact pJ I zh (.opq q') F ko fun tk=>⟨.bl b,H,I.tok _,rfl,q⟩
 exact dR cr hg hm PyProof.Rows.boot_isinstance (bE ha (bE (rP (v:=.ty D) hgT hmT hvT rfl hnT hdT) dl he2) he) (by decide) (by decide) he hpl pins s σ H Q I
  ⟨H₀,Z₀,Z,δ,_,hh,e1,fun v Z1 H1 hh1 s1 r1=>⟨v,Z1,rfl,hh1.zh,r1,k _ Z1 H1 hh1 s1 (.bl b)⟩⟩
end
end VL
set_option Elab.async false
set_option linter.all false
set_option maxRecDepth 100000
set_option maxHeartbeats 4000000
namespace VL
open PySem PySem.Spec PyProof.Rows L2
theorem dE {H H':Hp} {b:Addr} (s:Same H H') (h:H' b=none):H b=none:=by
 cases e:H b with
 | none=>rfl
 | some o=>rw [s b o e] at h; cases h
inductive Flung (m:Bool) (X:Cx) (n:Str) (Z H:Hp) (s:Shared) (e:Value) (s':Shared):Prop
 | made {x C:Addr} {vs:List Value}:m=true->PySem.W.nsIn X.K mainGlobals n=some (some (.ref C))->e=.ref x->s'={ s with heap:=s'.heap }->Heap.MadeExcOf s.heap s'.heap x (.ref C) vs->Flung m X n Z H s e s'
 | thrown {x C:Addr} {H' Z':Hp}:PySem.W.nsIn X.K mainGlobals n=some (some (.ref C))->e=.ref x->Thrown X.prog X.w X.stack H s x C H' s'->New Z H Z' H'->Z' x=some (kQ x C)->H x=none->Flung m X n Z H s e s'
noncomputable def Gp (m:Bool) (X:Cx) (f:Xf):TS:=fun _ σ H=>∃ H₀ Z₀ Z δ r,Hold X.K H₀ Z₀ Z δ σ H/\f δ = some r/\∀ pins σ' H' Z' s e s',Hold X.K H₀ Z₀ Z' r.2 σ' H'->Same Z Z'->Inv X pins σ' H' s->Flung m X r.1 Z' H' s e s'->X.xe e s'
noncomputable def GX (m:Bool) (X:Cx) (f:Dv->Option Str):TE:=fun σ H _=>∃ H₀ Z₀ Z δ n,Hold X.K H₀ Z₀ Z δ σ H/\f δ = some n/\∀ pins σ' H' Z' s e s',Hold X.K H₀ Z₀ Z' δ σ' H'->Same Z Z'->Inv X pins σ' H' s->Flung m X n Z' H' s e s'->X.xe e s'
noncomputable def SX (m:Bool) (X:Cx) (st:Stmt) (f:Xf):Prop:=PS X st (Gp m X f)
noncomputable def BX (m:Bool) (X:Cx) (st:List Stmt) (f:Xf):Prop:=PSs X st (Gp m X f)
noncomputable def EX (m:Bool) (X:Cx) (e:Expr) (f:Dv->Option Str):Prop:=PE X e (GX m X f)
section
variable {m:Bool} {X:Cx} {e c:Expr} {es:List Expr} {f:Dv->Option D} {fs:Dv->Option (List D)} {ft:Dv->Option Bool} {fx:Dv->Option Str} {st:Stmt} {sts body orelse:List Stmt} {s1:Sf} {u u1 u2:Xf} {pos p:Pos}
theorem SV.lift (h:SV X.nox st s1):SV X st s1:=fun pins s σ H D I hw=>
 wpAny_mono (h pins s σ H D (I.wish _) hw) (fun _ _ q=>q.unwish) fun _ _ z=>False.elim z
theorem BV.lift (h:BV X.nox sts s1):BV X sts s1:=PSs.nox h
theorem EV.lift (h:EV X.nox e f):EV X e f:=PE.nox h
theorem TV.lift (h:TV X.nox e ft):TV X e ft:=PT.nox h
theorem AV.lift (h:AV X.nox es fs):AV X es fs:=fun pos pins s σ H Q I hw=>
 wpAny_mono (h pos pins s σ H Q (I.wish _) hw) (fun _ _ ⟨vs,H',I',r,q⟩=>⟨vs,H',I'.unwish,r,q⟩) fun _ _ z=>False.elim z
theorem DX:BX m X sts F9:=fun _ _ _ _ _ _ ⟨_,_,_,_,_,_,e,_⟩=>nomatch e
theorem wY (h:EX m X e fx) (hs:swapsWith e none pos.line X.env=pure false:=by rfl):SX m X (.Expr e pos) (xE fx):=
 PS.imp (jQ h hs) fun D σ H q=>by
  obtain ⟨H₀,Z₀,Z,δ,r,hh,e,k⟩:=q
  obtain ⟨n,e1,e⟩:=bind_some e
  cases e
  exact ⟨H₀,Z₀,Z,δ,n,hh,e1,k⟩
theorem n6 (h:SX m X st u):BX m X (st::sts) u:=
 PSs.imp (kg h (u:=fun _ _ _=>False) fun _ _ _ _ _ _ z=>z.elim) fun D σ H q=>q
theorem Cl (hc:TV X c ft) (ha:BX m X body u1) (hb:BX m X orelse u2):SX m X (.If c body orelse pos) (Ga ft u1 u2):=
 PS.imp (u3 hc ha hb) fun D σ H q=>by
  obtain ⟨H₀,Z₀,Z,δ,r,hh,e,k⟩:=q
  obtain ⟨x,e1,e⟩:=bind_some e
  refine ⟨H₀,Z₀,Z,δ,x,hh,e1,fun Z1 H1 hh1 t1=>?_⟩
  cases x with
  | true=>exact ⟨H₀,Z₀,Z1,δ,r,hh1,e,fun pins σ2 H2 Z2 s e s' hh2 t2 I fl=>k pins σ2 H2 Z2 s e s' hh2 (t1.trans t2) I fl⟩
  | false=>exact ⟨H₀,Z₀,Z1,δ,r,hh1,e,fun pins σ2 H2 Z2 s e s' hh2 t2 I fl=>k pins σ2 H2 Z2 s e s' hh2 (t1.trans t2) I fl⟩
structure ExcX (K:Fg) (n:Str):Prop where
 ex:∃ C,ExcC K n C
theorem uA {x:Str} {np cpos:Pos} (O:ExcX X.K x) (hg:Gl X x) (hc:X.calm=true) (ha:EV X e f) (hdb:(x==("__debug__":Str))=false:=by decide)
  (he:starEach (e::[]) X.env=(false,eval e X.env)::starEach [] X.env:=by rfl) (hpl:(backTo cpos (starEach [] X.env)).any (·.1)=false:=by rfl) :
  SX true X (.Raise (some (.Call (.Name x np) [e] [] cpos)) none pos) (uv x f):=by
 intro pins s σ H D I h
 obtain ⟨H₀,Z₀,Z,δ,r,hh,e0,k⟩:=h
 obtain ⟨d,e1,e0⟩:=bind_some e0
 cases e0
 obtain ⟨C,F⟩:=O.ex
 obtain ⟨mr,ns,nm,qn,bs,hd,sn,sub,ab,col,dd,a0,a1,a2,a3,a5,mN,hC,hN,hni,TL⟩:=jT I.ok.mod.kin F.ex
 have hm:=PySem.W.mg_of I.ok.mod.kin I.ok.mod.glob F.nm
 refine wpAny_Raise_call_subU (C:=C) (nm:=nm) (q:=qn) (N:=ns) (bs:=bs) (bm:=mr) (hdct:=hd) (sn:=sn) (sub:=sub) (ab:=ab) (col:=col) (dd:=dd) (k0:=a0) (k1:=a1) (k2:=a2) (k3:=a3) (k5:=a5) (bmB:=wQ)
  PySem.F.excBase_ValueError (by decide +kernel) PySem.F.excBase_ValueError (mN:=mN) (TL.hasType (by decide +kernel)) (I.ok.hd hc) (by rw [he]; show (false||(backTo cpos (starEach [] X.env)).any (·.1))=false; rw [hpl]; rfl) hni (im I hg hm ⟨rfl,?_⟩ hdb)
 rw [he]
 have one:wpAny (model X.prog X.w) X.A (spliced (backTo cpos (starEach (e::[]) X.env))) (AP X pins σ fun vs H1=>vs.length=1/\∃ Z1,Hold X.K H₀ Z₀ Z1 δ σ H1/\Same Z Z1) X.xe s:=
  (bE ha dl he) cpos pins s σ H _ I ⟨H₀,Z₀,Z,δ,d,hh,e1,fun v Z1 H1 hh1 t1 r1=>⟨rfl,Z1,hh1,t1⟩⟩
 rw [he] at one
 refine Calls.evalArgs_plain (wpAny_mono one (fun us s2 z=>?_) fun _ _ y=>y)
 obtain ⟨vs,H1,I1,rv,hl,Z1,hh1,t1⟩:=z
 have lu:us.length=1:=by rw [<- rv.length]; exact hl
 refine ⟨rfl,by show us.length<=sizeLine; rw [lu]; decide,I1.bk _ _ hC,hN.keeps I1.bk,TL.keeps I1.bk,fun h' ex hmd=>?_⟩
 exact k pins σ H1 Z1 s2 _ _ hh1 t1 I1 (.made rfl F.nm rfl rfl hmd)
noncomputable def Cv (K:Fg) (g:List D->Option Str):Sp:=fun vs H _ E=>∃ Z as n,Same Z H/\Reps K Z vs as/\g as=some n/\∀ C x Z' H',PySem.W.nsIn K mainGlobals n=some (some (.ref C))->New Z H Z' H'->Z' x=some (kQ x C)->H x=none->E (.ref C) (some x) H'
structure CalX (P:Program) (w:World) (K:PySem.W.Frag) (mg:Str->Option Value) (base:Heap) (x:Str) (k:Nat) (g:List D->Option Str) (dd:List D):Prop where
 ex:∃ (fa:Addr) (fd:FuncData) (ps:List Str) (ds:List Value) (dv:List V),FnOk P w K mg base (qh P w) k fa fd ps (Cv K g)/\mg x=some (.ref fa)/\PySem.W.keepIn K (.ref fa)=true/\Binds K fd ps ds/\Vals dv ds/\∀ Z,Reps K Z dv dd
theorem Bj {k:Nat} {x:Str} {g:List D->Option Str} (Y:CalX X.prog X.w X.K X.mg X.base x k g []) (hr:Room k X.A) (hg:Gl X x) (ha:AV X (e::es) fs) (hdb:(x==("__debug__":Str))=false:=by decide) (he:starEach (e::es) X.env=(false,eval e X.env)::starEach es X.env:=by rfl)
  (hpl:(backTo pos (starEach es X.env)).any (·.1)=false:=by rfl):EX m X (.Call (.Name x p) (e::es) [] pos) (Gx fs g):=by
 obtain ⟨fa,fd,ps,ds,dv,F,hm,hk,hb,hd,hdd⟩:=Y.ex
 intro pins s σ H Q I h
 obtain ⟨H₀,Z₀,Z,δ,n,hh,e0,k⟩:=h
 obtain ⟨as,e1,e0⟩:=bind_some e0
 refine wpAny_Call_Name_kw (im I hg hm ?_ hdb)
 refine PySem.W.callWith_K (h₀:=X.base) I.ok.mod.kin hk (bU (ha pos pins s σ H (fun vs H1=>∃ Z1,Hold X.K H₀ Z₀ Z1 δ σ H1/\Same Z Z1/\Reps X.K Z1 vs as) I ⟨H₀,Z₀,Z,δ,as,hh,e1,fun vs Z1 H1 hh1 t1 r1=>⟨Z1,hh1,t1,r1⟩⟩) fun us s1 ⟨vs,H1,I1,r,Z1,hh1,t1,r1⟩=>⟨I1.kIn,?_⟩) he hpl
 have r2:Vals (vs++dv) (us++ds):=r.append hd
 have sp:Cv X.K g (vs++dv) H1 Q (fun c ox H2=>∃ C xx Z2,c=.ref C/\ox=some xx/\PySem.W.nsIn X.K mainGlobals n=some (some (.ref C))/\New Z1 H1 Z2 H2/\Z2 xx=some (kQ xx C)/\H1 xx=none):=⟨Z1,as++[],n,hh1.zh,r1.append (hdd Z1),by rw [List.append_nil]; exact e0,fun C xx Z2 H2 hC n2 h2 h3=>⟨C,xx,Z2,rfl,rfl,hC,n2,h2,h3⟩⟩
 have hl:(us++ds).length=ps.length:=by rw [<- r2.length]; exact F.len _ _ _ _ sp
 refine wpAny_call (codeAny_mono (F.run X.A X.stack s1 H1 ⟨us,[]⟩ (us++ds) (vs++dv) Q _ hr I1.env0 (hb s1 us I1.kIn hl) r2 sp) fun res s' hq=>?_)
 cases res with
 | error ee=>
  obtain ⟨xx,C',H2,rfl,T,C,xx',Z2,hC',hx',hC,n2,h2,h3⟩:=hq
  cases hx'
  cases hC'
  exact k pins σ H1 Z1 s1 _ s' hh1 t1 I1 (.thrown hC rfl T n2 h2 h3)
 | ok fl=>
  cases fl with
  | ret z=>exact I1.after hq
  | next=>exact False.elim hq
  | brk=>exact False.elim hq
  | cont=>exact False.elim hq
end
section
variable {P:Program} {w:World} {K:PySem.W.Frag} {mg:Str->Option Value} {base:Heap}
theorem FK {x qual:Str} {st:Stmt} {f:Addr} {fd:FuncData} {dV:Value} {N ps:List Str} {k:Nat} {fx:Xf} (F:FunV K x qual st f fd dV) (S:FnScope N ps (ah st))
  (hb:∀ (cdv:Value) (A:Around) (outer:List Env) (s:Shared) (H:Hp) (E:XK),Room k (A.deeper (envOfC qual (ah st) s.heap.objs.size f cdv))->BX true (d7 (qh P w) P w K mg base N qual (ah st) f cdv A outer s H E) (bS st) fx) :
  FnOk P w K mg base (qh P w) (k+1) f fd ps (Cv K (uU N ps.length fx)):=by
 obtain ⟨oc,od,kV,doc,pm,an,cdv,ct,osl,rfl,lk,hcd⟩:=F.ex
 have some_of:∀ {as:List D} {n:Str},uU N ps.length fx as=some n->as.length=ps.length/\∃ δ',fx (aC N as)=some (n,δ'):=fun {as n} h=>by
  unfold uU at h
  split at h
  ·rename_i hl
   obtain ⟨⟨n',δ'⟩,e,h⟩:=bind_some h
   cases h
   exact ⟨hl,δ',e⟩
  ·cases h
 refine sx lk hcd S (fun vs H Q E h=>?_) fun A outer s H vs Q E hr hsp=>?_
 ·obtain ⟨Z,as,n,zh,r,e,_⟩:=h
  rw [r.length]
  exact (some_of e).1
 ·refine ⟨_,hb cdv A outer s H E hr,?_⟩
  obtain ⟨Z,as,n,zh,r,e,kk⟩:=hsp
  obtain ⟨_,δ',e2⟩:=some_of e
  have hh:=gQ (N:=N) zh r
  refine ⟨H,Z,Z,_,(n,δ'),hh,e2,fun pins σ' H' Z' s1 ee s2 h' z' I fl=>?_⟩
  have nw:New Z H Z' H':=⟨z',h'.h0,h'.zh,h'.zb,h'.nf⟩
  cases fl with
  | @made xx C' vs' _ hC' he hs hmd=>
   subst he
   exact qK I hs hmd h'.h0 fun hn=>kk C' xx (upd Z' xx (kQ xx C')) _ hC' (nw.trans (New.add h'.zh hn _)) aw (dE h'.h0 hn)
  | @thrown xx C' H2 Z2 hC' he T n2 hx hn=>
   subst he
   exact vB I T (kk C' xx Z2 H2 hC' (nw.trans n2) hx (dE h'.h0 hn)) (h'.h0.trans n2.h)
end
end VL
set_option Elab.async false
set_option linter.all false
set_option maxRecDepth 100000
set_option maxHeartbeats 4000000
namespace VL
open PySem PySem.Spec PyProof.Rows L2
theorem uc {K:Fg} {n:Str} {M:Model} {A:Around} {E:Value->Shared->Prop} {s:Shared} {x C W:Addr} {o:Obj} {Q:Bool->Shared->Prop} (kin:K.In s.heap) (F:ExcC K n C) (FW:PySem.W.excIn K W wQ "ValueError.__new__" = true) (hs:PySem.W.subIn K (.ref C) (.ref W)=some true)
  (e:s.heap.get? x=some o) (c:o.cls=.ref C) (h:Q true s):wpAny M A (excMatches (.ref x) (.ref W)) Q E s:=by
 obtain ⟨mr,ns,nm,qn,bs,hd,sn,sub,ab,col,dd,a0,a1,a2,a3,a5,mN,hW,hN,hni,TL⟩:=jT kin FW
 obtain ⟨hh,g,d,t,os⟩:=s
 have cB:(Value.ref W::mr).contains (.type "BaseException")=true:=by rw [List.contains_cons,TL.hasType (b:=true) (by decide +kernel),Bool.or_true]
 have L:=PySem.W.looks_subIn (M:=M) kin hs
 have L0:=eM (M:=M) e c
 have nt:=tc_notTuple
 unfold excMatches
 repeat (first | with_reducible refine L0.at ?_ | with_reducible refine L.at ?_ | with_reducible refine wpAny_loadPart_at hW ?_ | (with_reducible refine wpAny_isSubtype_exc hW ?_; rw [cB]) | wp_step)
 exact h
inductive HndL (K:Fg) (W:Addr):List Str->Prop
 | nil:HndL K W []
 | cons {n:Str} {t:List Str} {C:Addr}:ExcC K n C->PySem.W.subIn K (.ref C) (.ref W)=some true->HndL K W t->HndL K W (n::t)
theorem HndL.get {K:Fg} {W:Addr} {t:List Str} (h:HndL K W t) {n:Str} (e:t.contains n=true):∃ C,ExcC K n C/\PySem.W.subIn K (.ref C) (.ref W)=some true:=by
 induction h with
 | nil=>cases e
 | cons h1 h2 _ ih=>
  rw [List.contains_cons,Bool.or_eq_true] at e
  rcases e with e | e
  ·have:=eq_of_beq e; subst this; exact ⟨_,h1,h2⟩
  ·exact ih e
structure Hnd (K:Fg) (W:Str) (ns:List Str):Prop where
 ex:∃ wC,PySem.W.nsIn K mainGlobals W=some (some (.ref wC))/\PySem.W.excIn K wC wQ "ValueError.__new__" = true/\HndL K wC ns
theorem Thrown.move {P:Program} {w:World} {l:List Env} {H H2:Hp} {s s2:Shared} {x C:Addr} (T:Thrown P w l H s x C H2 s2) (hf:∀ b∈fT l,∃ o,s.heap.get? b=some o/\∀ vs,o.data≠.fields vs) (hn:∀ b∈fT l,H b=none) :
  ∃ B t,FlyX B l x (.ref C) t s2.heap/\∀ h' t',FlyX B l x (.ref C) t' h'->s2.heap.UpToSlots h'->Thrown P w l H s x C H2 { s2 with heap:=h' }:=by
 obtain ⟨B,t,fl,hB1,hB2⟩:=T.fly
 refine ⟨B,t,fl,fun h' t' fl' sm=>?_⟩
 have slot:∀ b o,s.heap.get? b=some o->H b=none->b∈fT l->∃ sl,h'.get? b=some { o with slots:=sl }:=fun b o q n hb=>by
  obtain ⟨sl2,e2⟩:=T.un.slot b o q n hb (fun z=>nomatch z)
  obtain ⟨o',ho',hd⟩:=hf b hb
  rw [q] at ho'; cases ho'
  obtain ⟨sl3,e3⟩:=sm b _ e2 hd
  exact ⟨sl3,e3⟩
 refine ⟨T.os,T.bare,⟨fun b o q n hb _=>fl'.1.1 b o (hB2 b o q n hb),fun b o q n hb _=>slot b o q n hb,fun b o q n z=>T.un.free b o q n z,fun b o q _=>?_,T.un.tups,T.un.frzs,T.un.tbls⟩,sk (l:=[]) (t:=t) T.hok T.is fl.1.1 fl' hB1,T.sm,T.is,⟨B,t',fl',hB1,hB2⟩⟩
 cases q2:H2 b with
 | some ho=>
  by_cases hb:b=x
  ·subst hb; obtain ⟨ob,e1,_⟩:=fl'.there; exact ⟨ob,e1⟩
  ·obtain ⟨ob,e1⟩:=hB1 b ho q2 hb; exact ⟨ob,fl'.1.1 b ob e1⟩
 | none=>
  have n:H b=none:=by
   cases e:H b with
   | none=>rfl
   | some z=>rw [T.sm b z e] at q2; cases q2
  by_cases hb:b∈fT l
  ·obtain ⟨sl,e⟩:=slot b o q n hb; exact ⟨_,e⟩
  ·exact ⟨o,fl'.1.1 b o (hB2 b o q n hb)⟩
section
variable {X:Cx} {pins:List (Addr×Obj)} {σ:St} {H:Hp} {s:Shared}
theorem Bn {M:Model} {A:Around} {E:Value->Shared->Prop} {i:Nat} {x:Str} {v:V} {Q:Unit->Shared->Prop} (I:Inv X pins σ H s) (hN:X.N.Nodup) (hi:X.N[i]? = some x) (hk:X.env.scope.names.lookup x=some .local) (hv:σ[i]? = some (some v))
  (h:∀ s',Inv X pins (σ.set i none) H s'->Q () s'):wpAny M A (unbindName X.env x) Q E s:=by
 obtain ⟨m,hn,hl⟩:=id I.loc
 have hcls:(X.env.scope.kind == .class||(X.env.scope.kind == .module&&X.env.locals != X.env.globals))=false:=by rw [I.ok.kind]; rfl
 have hiσ:i < σ.length:=by rw [I.len]; exact (List.getElem?_eq_some_iff.mp hi).1
 have cne:=I.cne
 obtain ⟨u,rv,lk⟩:=hl i x v hi hv (.inl hk)
 have hmx:m x=some u:=by
  rcases lk with ⟨_,q⟩ | ⟨q,_⟩
  ·exact q
  ·rcases q with q | q
   ·rw [show X.env.kindOf x=some .local from hk] at q; cases q
   ·rw [show X.env.kindOf x=some .local from hk] at q; cases q
 refine wpAny_unbindName_local hk hn hmx hcls fun h' u' hn' hs=>?_
 obtain ⟨oL,_,_,hoL,_⟩:=id hn
 have tracked:HOk X.prog X.w H h':=fun b ob e=>by
  refine (I.hok b ob e).stay (fun c w' hc q=>(hs.2 c ?_).trans q) (fun _ q=>q) fun _ _ q=>q
  rintro rfl
  rcases hc with z | hc
  ·rw [<- z,I.free] at e; cases e
  ·rw [I.free] at hc; cases hc
 refine h _ ⟨I.ok,I.os,I.bare,⟨fun b o e n hb hx=>?_,fun b o e n hb hx=>?_,I.base.free,fun b o e hx=>?_,I.base.tups,I.base.frzs,I.base.tbls⟩,⟨_,hn',fun j y v' e1 e2 e3=>?_⟩,fun y c e=>?_,I.free,I.freeC,fun p hp=>?_,tracked,by simpa using I.len⟩
 ·exact (hs.2 b (Nat.ne_of_lt (Nat.lt_of_lt_of_le (Heap.lt_size e) I.ok.above))).trans (I.base.keep b o e n hb hx)
 ·obtain ⟨sl,e1⟩:=I.base.slot b o e n hb hx
  exact ⟨sl,(hs.2 b (Nat.ne_of_lt (Nat.lt_of_lt_of_le (Heap.lt_size e) I.ok.above))).trans e1⟩
 ·obtain ⟨o',e1⟩:=I.base.there b o e hx
  exact ⟨o',(hs.2 b (Nat.ne_of_lt (Nat.lt_of_lt_of_le (Heap.lt_size e) I.ok.above))).trans e1⟩
 ·by_cases hj:j=i
  ·subst hj
   rw [List.getElem?_set_self hiσ] at e2
   cases e2
  ·rw [List.getElem?_set_ne (Ne.symm hj)] at e2
   obtain ⟨z',r',q⟩:=hl j y v' e1 e2 e3
   refine ⟨z',r',?_⟩
   rcases q with ⟨k,e⟩ | ⟨k,c,e,z⟩
   ·refine .inl ⟨k,?_⟩
    have:y≠x:=fun e=>hj (kx hN e1 (e ▸ hi))
    simp [this,e]
   ·exact .inr ⟨k,c,e,z.sameBut hs (cne y c e)⟩
 ·obtain ⟨w',z⟩:=I.cell y c e
  exact ⟨w',z.sameBut hs (cne y c e)⟩
 ·obtain ⟨e,n,ne,nf,d⟩:=I.pin p hp
  exact ⟨(hs.2 p.1 ne).trans e,n,ne,nf,d⟩
theorem m7 {M:Model} {A:Around} {E:Value->Shared->Prop} {i:Nat} {x:Str} {pos:Pos} {Q:Unit->Shared->Prop} (I:Inv X pins σ H s) (hN:X.N.Nodup) (hi:X.N[i]? = some x) (hk:X.env.scope.names.lookup x=some .local)
  (h:∀ s',Inv X pins (σ.set i none) H s'->Q () s'):wpAny M A (do bindName X.env x .none; unbindBehindTheSuite X.env x pos) Q E s:=by
 have hiσ:i < σ.length:=by rw [I.len]; exact (List.getElem?_eq_some_iff.mp hi).1
 refine wpAny_bind (wpAny_bindName (hJ I hN hi (.inl hk) (v:=.non) (u:=.none) rfl (fun s1 I1=>?_) (.inr hk)))
 unfold unbindBehindTheSuite
 refine wpAny_onRaise ?_
 refine Bn (v:=.non) I1 hN hi hk (List.getElem?_set_self hiσ) fun s2 I2=>?_
 rw [List.set_set] at I2
 exact h s2 I2
end
theorem Hold.unset {K:Fg} {H₀ Z₀ Z H:Hp} {δ:Dv} {σ:St} (h:Hold K H₀ Z₀ Z δ σ H) (i:Nat):Hold K H₀ Z₀ Z (δ.set i .un) (σ.set i none) H where
 zh:=h.zh
 h0:=h.h0
 z0:=h.z0
 zb:=h.zb
 len:=by simp [h.len]
 fz:=fun j e q=>by
  by_cases hj:i=j
  ·subst hj
   have hl:i < δ.length:=by have:=(List.getElem?_eq_some_iff.mp q).1; simpa using this
   rw [List.getElem?_set_self hl] at q
   cases q
  ·rw [List.getElem?_set_ne hj] at q
   obtain ⟨u,a,b⟩:=h.fz j e q
   exact ⟨u,by rw [List.getElem?_set_ne hj]; exact a,b⟩
 own:=fun j es q=>by
  by_cases hj:i=j
  ·subst hj
   have hl:i < δ.length:=by have:=(List.getElem?_eq_some_iff.mp q).1; simpa using this
   rw [List.getElem?_set_self hl] at q
   cases q
  ·rw [List.getElem?_set_ne hj] at q ⊢
   exact h.own j es q
 dja:=fun j k ds es a hjk q1 q2=>by
  have f:∀ {m:Nat} {ds:Oc},(δ.set i .un)[m]? = some (.own ds)->i≠m /\ δ[m]? = some (.own ds):=fun {m ds} q=>by
   by_cases hm:i=m
   ·subst hm
    have hl:i < δ.length:=by have:=(List.getElem?_eq_some_iff.mp q).1; simpa using this
    rw [List.getElem?_set_self hl] at q
    cases q
   ·rw [List.getElem?_set_ne hm] at q; exact ⟨hm,q⟩
  obtain ⟨a1,b1⟩:=f q1
  obtain ⟨a2,b2⟩:=f q2
  rw [List.getElem?_set_ne a1,List.getElem?_set_ne a2]
  exact h.dja j k ds es a hjk b1 b2
 fr:=h.fr.put (fun _ z=>nomatch z) fun _ hj=>List.getElem?_set_ne hj
 nf:=h.nf
noncomputable abbrev EB (X:Cx) (pn:List (Addr×Obj)) (E:Value->Shared->Prop):Cx:={ X with pn:=pn,xe:=E }
noncomputable abbrev BW (X:Cx) (x:Addr):Cx:={ X with A:=X.A.mark (some (.ref x)),calm:=false,xe:=fun _ _=>False }
theorem Inv.toT {X:Cx} {pins:List (Addr×Obj)} {σ:St} {H:Hp} {s:Shared} (I:Inv X pins σ H s) (E:Value->Shared->Prop):Inv (EB X (X.pn++pins) E) [] σ H s:=
 ⟨⟨I.ok.mod,I.ok.kind,I.ok.glob,I.ok.blt,I.ok.above,I.ok.inj,I.ok.has,I.ok.cab,I.ok.hd,I.ok.frames,I.ok.stk,I.ok.exf,I.ok.bs,I.ok.bsz,I.ok.noex,I.ok.exfs,I.ok.funs,I.ok.frf⟩,I.os,I.bare,I.base,I.loc,I.cell,I.free,I.freeC,fun p hp=>I.pin p (by simpa using hp),I.hok,I.len⟩
theorem Inv.ofT {X:Cx} {pins pins':List (Addr×Obj)} {σ:St} {H:Hp} {s:Shared} {E:Value->Shared->Prop} (I:Inv (EB X (X.pn++pins) E) pins' σ H s):Inv X pins σ H s:=
 ⟨⟨I.ok.mod,I.ok.kind,I.ok.glob,I.ok.blt,I.ok.above,I.ok.inj,I.ok.has,I.ok.cab,I.ok.hd,I.ok.frames,I.ok.stk,I.ok.exf,I.ok.bs,I.ok.bsz,I.ok.noex,I.ok.exfs,I.ok.funs,I.ok.frf⟩,I.os,I.bare,I.base,I.loc,I.cell,I.free,I.freeC,fun p hp=>I.pin p (List.mem_append_left _ hp),I.hok,I.len⟩
theorem Inv.toH {X:Cx} {pins:List (Addr×Obj)} {σ:St} {H:Hp} {s:Shared} (I:Inv X pins σ H s) (x:Addr):Inv (BW X x) pins σ H s:=
 ⟨⟨I.ok.mod,I.ok.kind,I.ok.glob,I.ok.blt,I.ok.above,I.ok.inj,I.ok.has,I.ok.cab,(fun z=>(nomatch z)),I.ok.frames,I.ok.stk,I.ok.exf,I.ok.bs,I.ok.bsz,I.ok.noex,I.ok.exfs,I.ok.funs,I.ok.frf⟩,I.os,I.bare,I.base,I.loc,I.cell,I.free,I.freeC,I.pin,I.hok,I.len⟩
theorem Inv.ofH {X:Cx} {pins:List (Addr×Obj)} {σ:St} {H:Hp} {s:Shared} {x:Addr} (hc:X.A.handled=none) (I:Inv (BW X x) pins σ H s):Inv X pins σ H s:=
 ⟨⟨I.ok.mod,I.ok.kind,I.ok.glob,I.ok.blt,I.ok.above,I.ok.inj,I.ok.has,I.ok.cab,fun _=>hc,I.ok.frames,I.ok.stk,I.ok.exf,I.ok.bs,I.ok.bsz,I.ok.noex,I.ok.exfs,I.ok.funs,I.ok.frf⟩,I.os,I.bare,I.base,I.loc,I.cell,I.free,I.freeC,I.pin,I.hok,I.len⟩
theorem Inv.still {X:Cx} {pins:List (Addr×Obj)} {σ:St} {H:Hp} {s:Shared} {x C:Addr} {ob:Obj} (I:Inv X pins σ H s) (hx:H x=some (kQ x C)) (ho:s.heap.get? x=some ob):Inv X pins σ (upd H x (.frz ob (kQ x C))) s:=by
 have ne:∀ {b:Addr},H b=none->b≠x:=fun {b} h z=>by subst z; rw [hx] at h; cases h
 have up:∀ {b:Addr},H b=none->upd H x (.frz ob (kQ x C)) b=none:=fun {b} h=>by rw [ar (ne h)]; exact h
 refine ⟨I.ok,I.os,I.bare,⟨I.base.keep,I.base.slot,fun b o e n hb=>up (I.base.free b o e n hb),I.base.there,fun b xs e=>?_,fun b o u e=>?_,fun b ps e=>?_⟩,I.loc,I.cell,up I.free,fun y c e=>up (I.freeC y c e),fun p hp=>?_,fun b o e=>?_,I.len⟩
 ·have q:=I.base.tups b xs e
  by_cases hb:b=x
  ·subst hb; rw [hx] at q; cases q
  ·rw [ar hb]; exact q
 ·have q:=I.base.frzs b o u e
  by_cases hb:b=x
  ·subst hb; rw [hx] at q; cases q
  ·rw [ar hb]; exact q
 ·obtain ⟨m,q⟩:=I.base.tbls b ps e
  by_cases hb:b=x
  ·subst hb; rw [hx] at q; cases q
  ·exact ⟨m,by rw [ar hb]; exact q⟩
 ·obtain ⟨e,n,r⟩:=I.pin p hp
  exact ⟨e,up n,r⟩
 ·have st:∀ {b':Addr} {o':HO},ObjOk X.prog X.w H s.heap b' o'->ObjOk X.prog X.w (upd H x (.frz ob (kQ x C))) s.heap b' o':=fun {b' o'} q=>by
   refine q.stay (fun _ _ _ z=>z) (fun c z=>?_) fun c xs z=>?_
   ·by_cases hc:c=x
    ·subst hc; rw [hx] at z; cases z
    ·rw [ar hc]; exact z
   ·by_cases hc:c=x
    ·subst hc; rw [hx] at z; cases z
    ·rw [ar hc]; exact z
  by_cases hb:b=x
  ·subst hb
   rw [aw] at e
   cases e
   exact ⟨ho,st (I.hok b _ hx)⟩
  ·rw [ar hb] at e
   exact st (I.hok b o e)
theorem New.still {Z H Z2 H2:Hp} {x C:Addr} {ob:Obj} (n:New Z H Z2 H2) (zh:Same Z H) (hz:Z2 x=some (kQ x C)) (hn:H x=none):New Z H (upd Z2 x (.frz ob (kQ x C))) (upd H2 x (.frz ob (kQ x C))) where
 z:=fun b o e=>by rw [ar (aD (zh b o e) hn)]; exact n.z b o e
 h:=fun b o e=>by rw [ar (aD e hn)]; exact n.h b o e
 zh:=fun b o e=>by
  by_cases hb:b=x
  ·subst hb; rw [aw] at e ⊢; exact e
  ·rw [ar hb] at e ⊢; exact n.zh b o e
 o:=fun b hb=>by
  have:b≠x:=fun z=>hb (by rw [z]; exact hn)
  rw [ar this]; exact n.o b hb
 nf:=n.nf.upd x
noncomputable def GS (K:Fg) (x:Addr) (ob:Obj) (C:Addr) (f:Sf):TS:=fun D σ H=>∃ H₀ Z₀ Z δ r,Hold K H₀ Z₀ Z δ σ H/\Z x=some (.frz ob (kQ x C))/\f δ = some r/\∀ σ' H' Z',Hold K H₀ Z₀ Z' r.2 σ' H'->Same Z Z'->r.1.to K Z' D σ' H'
section
variable {X:Cx} {body suite:List Stmt} {b₀:Stmt} {b bs:Sf} {bx:Xf} {np hpos pos:Pos}
theorem xa (i:Nat) {n W:Str} {ns:List Str} (O:Hnd X.K W ns) (hgW:Gl X W) (hN:X.N.Nodup) (hi:X.N[i]? = some n) (hloc:X.env.scope.names.lookup n=some .local) (hcalm:X.calm=true) (hstk:X.stack=X.env::X.outer)
  (hb:BV X.nox body b) (hx:∀ pn E',BX false (EB X pn E') body bx) (hs:∀ x ob C,(∃ vs,ob.data=.fields vs/\vs[2]? = some .none)->PSs (BW X x) (b₀ :: suite) (GS X.K x ob C bs)) (hfrm:X.env.frame=some X.env.locals:=by rfl) (hdb:(W==("__debug__":Str))=false:=by decide) :
  SV X (.Try body [.ExceptHandler (some (.Name W np)) (some n) (b₀ :: suite) hpos] [] [] pos) (uS i ns b bx bs):=by
 intro pins s σ H D I h
 obtain ⟨H₀,Z₀,Z,δ,r,hh,e,k⟩:=h
 unfold uS at e
 cases hbx:bx δ with
 | none=>
  rw [hbx] at e
  refine wpAny_Try_except (wpAny_mono (hb pins s σ H D (I.wish _) ⟨H₀,Z₀,Z,δ,r,hh,e,k⟩) (fun f s1 q=>?_) fun _ _ z=>False.elim z)
  have q:=q.unwish
  cases f with
  | next=>exact wpAny_execs_nil q
  | brk=>exact q
  | cont=>exact q
  | ret u=>exact q
 | some pr=>
  obtain ⟨nm,δ'⟩:=pr
  rw [hbx] at e
  dsimp only at e
  split at e
  rotate_left
  ·cases e
  rename_i hcn
  obtain ⟨⟨fl,δ2⟩,e2,e⟩:=bind_some e
  cases e
  obtain ⟨wC,hW,FW,L⟩:=O.ex
  obtain ⟨C,F,hsub⟩:=L.get hcn
  have hhd:=I.ok.hd hcalm
  refine wpAny_Try_except (wpAny_mono (hx (X.pn++pins) _ [] s σ H ⟨fun _ _=>False,fun _ _=>False,fun _ _=>False,fun _ _=>False⟩ (Inv.toT I _) ⟨H₀,Z₀,Z,δ,(nm,δ'),hh,hbx,?_⟩) (fun f s1 q=>?_) fun _ _ z=>z)
  rotate_left
  ·cases f with
   | next=>obtain ⟨_,_,_,q⟩:=q; exact q.elim
   | brk=>obtain ⟨_,_,_,q⟩:=q; exact q.elim
   | cont=>obtain ⟨_,_,_,q⟩:=q; exact q.elim
   | ret u=>obtain ⟨_,_,_,_,_,q⟩:=q; exact q.elim
  intro pins' σ' H' Z' s1 e1 s2 hh' sm I1 fg
  cases fg with
  | made hm _ _ _ _=>cases hm
  | @thrown x C' H2 Z2 hC' he T nw hx2 hxn=>
   subst he
   have:C'=C:=by have:=hC'.symm.trans F.nm; simpa using this
   subst this
   have I1:Inv X pins σ' H' s1:=Inv.ofT I1
   have T:Thrown X.prog X.w X.stack H' s1 x C' H2 s2:=T
   have ff:∀ b∈fT X.stack,∃ o,s1.heap.get? b=some o/\∀ vs,o.data≠.fields vs:=fun b hb=>(I1.stack.mem hb).2
   obtain ⟨B,t,fl0,mv⟩:=T.move ff I1.stkFree
   have fl1:=fl0
   rw [hstk] at fl1
   refine rY (by rw [I1.ok.frames,hstk]) hfrm fl1 fun h4 held4 sm4=>?_
   refine nJ held4 fun h5 fl5 sm5=>?_
   have fl5':=fl5
   rw [<- hstk] at fl5'
   have T5:=mv h5 t fl5' (sm4.trans sm5)
   have I5:Inv X pins σ' H2 { s2 with heap:=h5 }:=I1.call' T5.os T5.un T5.hok T5.bare (fun _ z=>nomatch z)
   have hmW:=PySem.W.mg_of I.ok.mod.kin I.ok.mod.glob hW
   refine wpAny_handleBy_cons (codeAny_handlers_test (im (X:=BW X x) (Inv.toH I5 x) hgW hmW ?_ hdb)) (by intro q; cases q)
   obtain ⟨oe,hoe,hoec⟩:=fl5.there
   refine uc I5.kIn F FW hsub hoe hoec (codeAny_handlers_suite_as ?_)
   refine lJ fl5 fun h6 fl6 sm6=>?_
   have fl6':=fl6
   rw [<- hstk] at fl6'
   have T6:=mv h6 t fl6' ((sm4.trans sm5).trans sm6)
   have I6:Inv X pins σ' H2 { s2 with heap:=h6 }:=I1.call' T6.os T6.un T6.hok T6.bare (fun _ z=>nomatch z)
   obtain ⟨ob,hob,_,hF⟩:=(T6.hok x _ T6.is).1
   have I6':Inv X pins σ' (upd H2 x (.frz ob (kQ x C'))) { s2 with heap:=h6 }:=Inv.still I6 T.is hob
   refine hJ (X:=BW X x) (v:=.ref x) (u:=.ref x) (Inv.toH I6' x) hN hi (.inl hloc) rfl (fun s7 I7=>?_) (.inr hloc)
   have nw':=nw.still (ob:=ob) hh'.zh hx2 hxn
   have hh7:Hold X.K H₀ Z₀ (upd Z2 x (.frz ob (kQ x C'))) (δ'.set i (.fz (zp nm))) (σ'.set i (some (.ref x))) (upd H2 x (.frz ob (kQ x C'))):=(hh'.new nw').set (.opq (.exc hC' (.inr ⟨ob,aw⟩)))
   refine wpAny_mono (hs x ob C' hF pins s7 _ _ ⟨fun σ8 H8=>D.nx (σ8.set i none) H8,D.rt,fun σ8 H8=>D.bk (σ8.set i none) H8,fun σ8 H8=>D.ct (σ8.set i none) H8⟩ I7 ⟨H₀,Z₀,_,_,(fl,δ2),hh7,aw,e2,fun σ8 H8 Z8 hh8 t8=>?_⟩) (fun f s8 q=>?_) fun _ _ z=>False.elim z
   ·have:=k (σ8.set i none) H8 Z8 (hh8.unset i) ((sm.trans nw'.z).trans t8)
    cases fl <;> exact this
   ·cases f with
    | next=>
     obtain ⟨σ8,H8,I8,q⟩:=q
     exact m7 (Inv.ofH hhd I8) hN hi hloc fun s9 I9=>⟨_,H8,I9,q⟩
    | brk=>
     obtain ⟨σ8,H8,I8,q⟩:=q
     exact m7 (Inv.ofH hhd I8) hN hi hloc fun s9 I9=>⟨_,H8,I9,q⟩
    | cont=>
     obtain ⟨σ8,H8,I8,q⟩:=q
     exact m7 (Inv.ofH hhd I8) hN hi hloc fun s9 I9=>⟨_,H8,I9,q⟩
    | ret u=>
     obtain ⟨v,σ8,H8,I8,rv,q⟩:=q
     exact m7 (Inv.ofH hhd I8) hN hi hloc fun s9 I9=>⟨v,_,H8,I9,rv,q⟩
theorem zO (i:Nat) {n W:Str} {ns:List Str} (O:Hnd X.K W ns) (hgW:Gl X W) (hN:X.N.Nodup) (hi:X.N[i]? = some n) (hloc:X.env.scope.names.lookup n=some .local) (hcalm:X.calm=true) (hstk:X.stack=X.env::X.outer)
  (hb:BV X.nox body b) (hx:∀ pn E',BX false (EB X pn E') body bx) (hs:∀ x,BV (BW X x) (b₀ :: suite) bs) (hfrm:X.env.frame=some X.env.locals:=by rfl) (hdb:(W==("__debug__":Str))=false:=by decide) :
  SV X (.Try body [.ExceptHandler (some (.Name W np)) (some n) (b₀ :: suite) hpos] [] [] pos) (uS i ns b bx bs):=
 xa i O hgW hN hi hloc hcalm hstk hb hx (fun x _ _ _=>PSs.imp (hs x) fun D σ H h=>by
  obtain ⟨H₀,Z₀,Z,δ,r,hh,_,e,k⟩:=h
  exact ⟨H₀,Z₀,Z,δ,r,hh,e,k⟩) hfrm hdb
end
end VL
set_option Elab.async false
set_option linter.all false
set_option maxRecDepth 100000
set_option maxHeartbeats 4000000
namespace VL
open PySem PySem.Spec PyProof.Rows L2
noncomputable def tU:Sl->Bool
 | .own _=>true
 | _=>false
@[simp] theorem Es (d:D):tU (.fz d)=false:=rfl
@[simp] theorem Er:tU .un=false:=rfl
noncomputable def uL:Nat->Dv->Bool
 | _,[]=>true
 | 0,_::r=>r.all fun s=>!tU s
 | n+1,s::r=>!tU s&&uL n r
@[simp] theorem Cw (n:Nat):uL n []=true:=by cases n <;> rfl
@[simp] theorem BI (s:Sl) (r:Dv):uL 0 (s::r)=r.all fun s=>!tU s:=rfl
@[simp] theorem BJ (n:Nat) (s:Sl) (r:Dv):uL (n+1) (s::r)=(!tU s&&uL n r):=rfl
end VL
set_option Elab.async false
set_option linter.all false
set_option maxRecDepth 100000
set_option maxHeartbeats 4000000
namespace VL
open PySem PySem.Spec PyProof.Rows L2
@[simp] noncomputable def F8 (f:Dv->Option D) (u:Dv->Option Str):Dv->Option Str:=fun δ=>(f δ).bind fun _=>u δ
section
variable {X:Cx} {a b:Expr} {f1 f2:Dv->Option D} {pos apos:Pos}
variable {m:Bool} {e:Expr} {es:List Expr} {f:Dv->Option D} {fx:Dv->Option Str} {x1:Nat}
end
end VL
set_option Elab.async false
set_option linter.all false
set_option maxRecDepth 100000
set_option maxHeartbeats 4000000
namespace VL
open PySem PySem.Spec PyProof.Rows L2
@[simp] noncomputable def Gv (i:Nat) (f:Dv->Option D):Sf:=fun δ=>(f δ).bind fun v=>(Dd v).bind fun es=>(xq δ[i]?).bind fun ds=>if ds.length+es.length<=sizeLine then some (.nx,δ.set i (.ow (ds++es))) else none
structure CalF (P:Program) (w:World) (K:PySem.W.Frag) (mg:Str->Option Value) (base:Heap) (x:Str) (k:Nat) (g:List D->Option D):Prop where
 ex:∃ (fa:Addr) (fd:FuncData) (ps:List Str),FnOk P w K mg base dJ k fa fd ps (gu K g)/\PySem.W.nsIn K mainGlobals x=some (some (.ref fa))/\mg x=some (.ref fa)/\PySem.W.keepIn K (.ref fa)=true/\Binds K fd ps []
structure Fnm (K:PySem.W.Frag) (mg:Str->Option Value) (x:Str):Prop where
 ex:∃ fa,PySem.W.nsIn K mainGlobals x=some (some (.ref fa))/\mg x=some (.ref fa)
section
variable {X:Cx} {e:Expr} {es:List Expr} {p pos:Pos} {fs:Dv->Option (List D)}
end
section
variable {X:Cx}
end
section
variable {X:Cx} {e:Expr} {f:Dv->Option D} {p pos apos:Pos}
end
theorem BlkOk.none {on:List (Str×NameKind)} {ON:List Str} {scope:Scope} {vars:List Str} (hk:scope.kind=.function) (hc:∀ y∈scope.names,y.2≠.cell) (hn:∀ y∈scope.names,y.2=.local->scope.names.lookup y.1=some .local) (hf:∀ y∈scope.names,y.2≠.free):BlkOk on ON scope vars []:=
 ⟨hk,hc,hn,fun y hy e=>absurd e (hf y hy),fun p hp=>(nomatch hp)⟩
end VL
set_option Elab.async false
set_option linter.all false
set_option maxRecDepth 100000
set_option maxHeartbeats 4000000
namespace VL
open PySem PySem.Spec PyProof.Rows L2
section
variable {X:Cx}
variable {a b:Expr} {pos:Pos} {f1 f2:Dv->Option D}
end
end VL
set_option Elab.async false
set_option linter.all false
set_option maxRecDepth 100000
set_option maxHeartbeats 4000000
namespace VL
open PySem PySem.Spec PyProof.Rows L2
structure BlkOkC (on:List (Str×NameKind)) (ON:List Str) (scope:Scope) (m:Str) (vars:List Str) (caps:List (Nat×Str)):Prop where
 kind:scope.kind=.function
 one:(scope.names.filter fun y=>y.2==NameKind.cell)=[(m,NameKind.cell)]
 names:∀ y∈scope.names,y.2=.local->scope.names.lookup y.1=some .local
 free:∀ y∈scope.names,y.2=.free->on.lookup y.1=some .cell\/on.lookup y.1=some .free
 cap:∀ p∈caps,ON[p.1]? = some p.2/\scope.names.lookup p.2=some .free
 mc:scope.names.lookup m=some .cell
section
variable {X:Cx} {pins:List (Addr×Obj)} {σ:St} {H H':Hp} {s s':Shared} {scope:Scope} {m:Str} {vars:List Str} {caps:List (Nat×Str)} {fp:List Addr} {C:Addr}
theorem BlkOkC.cells (B:BlkOkC X.env.scope.names X.N scope m vars caps) (I:Inv X pins σ H s):∀ y∈scope.names,y.2=.free->∃ c,X.env.cells.lookup y.1=some c:=fun y hy e=>I.ok.has y.1 (B.free y hy e)
end
section
variable {X:Cx} {scope:Scope} {m:Str} {vars:List Str} {caps:List (Nat×Str)} {elt tg iter:Expr} {pos:Pos} {wi:TI} {g:TG} {te:TE}
end
section
variable {X:Cx} {scope:Scope} {m:Str} {vars:List Str} {caps:List (Nat×Str)} {elt tg iter:Expr} {pos:Pos} {g:TG} {fi:Dv->Option (List D)} {fe:Dv->Option D} {bv:D->Option (List D)}
end
end VL
set_option Elab.async false
set_option linter.all false
set_option maxRecDepth 100000
set_option maxHeartbeats 4000000
namespace VL
open PySem PySem.Spec PyProof.Rows L2
noncomputable def GZ (K:Fg) (g:List D->Option D):Sp:=fun vs H Q _=>∃ Z as ds,Same Z H/\Reps K Z vs as/\g as=some (.list ds)/\∀ p us Z' H',New Z H Z' H'->H' p=none->Reps K Z' us ds->Q (.ref p) (upd H' p (.lst us))
section
variable {X:Cx} {e:Expr} {es:List Expr} {p pos:Pos} {st:Stmt} {sts:List Stmt} {f:Dv->Option (List D)} {fs:Dv->Option (List D)} {s:Sf}
end
section
variable {P:Program} {w:World} {K:PySem.W.Frag} {mg:Str->Option Value} {base:Heap}
structure CalO (P:Program) (w:World) (K:PySem.W.Frag) (mg:Str->Option Value) (base:Heap) (x:Str) (k:Nat) (g:List D->Option D) (dd:List D):Prop where
 ex:∃ (fa:Addr) (fd:FuncData) (ps:List Str) (ds:List Value) (dv:List V),FnOk P w K mg base dJ k fa fd ps (GZ K g)/\mg x=some (.ref fa)/\PySem.W.keepIn K (.ref fa)=true/\Binds K fd ps ds/\Vals dv ds/\∀ Z,Reps K Z dv dd
end
section
variable {X:Cx} {e:Expr} {es:List Expr} {p pos:Pos} {fs:Dv->Option (List D)}
end
section
variable {X:Cx} {scope:Scope} {m:Str} {vars:List Str} {caps:List (Nat×Str)} {elt tg iter:Expr} {pos:Pos} {g:TG} {fi:Dv->Option (List D)} {fe:Dv->Option D} {bv:D->Option (List D)}
end
theorem pF {α:Type}:∀ {us:List α},us.length=1->∃ a,us=[a]
 | [a],_=>⟨a,rfl⟩
theorem jB {α:Type} {us:List α} (h:us.length=2):∃ a b,us=[a,b]:=by
 cases us with
 | nil=>cases h
 | cons a r=>
  obtain ⟨b,rfl⟩:=pF (Nat.succ.inj h)
  exact ⟨a,b,rfl⟩
theorem vA {α:Type} {us:List α} (h:us.length=3):∃ a b c,us=[a,b,c]:=by
 cases us with
 | nil=>cases h
 | cons a r=>
  obtain ⟨b,c,rfl⟩:=jB (Nat.succ.inj h)
  exact ⟨a,b,c,rfl⟩
end VL
set_option Elab.async false
set_option linter.all false
set_option maxRecDepth 100000
set_option maxHeartbeats 4000000
namespace VL
open PySem PySem.Spec PyProof.Rows L2
section
variable {X:Cx} {e:Expr} {es:List Expr} {p p' pos:Pos} {st:Stmt} {sts body:List Stmt} {f f1 f2:Dv->Option (List D)} {s:Sf} {c:Expr} {ft:Dv->Option Bool}
end
theorem SV.sub {X:Cx} {st:Stmt} {f f':Sf} (h:SV X st f) (w:∀ δ r,f' δ = some r->f δ = some r):SV X st f':=PS.imp h fun D σ H q=>by
 obtain ⟨H₀,Z₀,Z,δ,r,hh,e,k⟩:=q
 exact ⟨H₀,Z₀,Z,δ,r,hh,w _ _ e,k⟩
end VL
set_option Elab.async false
set_option linter.all false
set_option maxRecDepth 100000
set_option maxHeartbeats 4000000
namespace VL
open PySem PySem.Spec PyProof.Rows L2
section
variable {X:Cx}
end
end VL
set_option Elab.async false
set_option linter.all false
set_option maxRecDepth 100000
set_option maxHeartbeats 4000000
namespace VL
open PySem PySem.Spec PyProof.Rows L2
noncomputable def DefIn (K:PySem.W.Frag) (x y:Str) (st:Stmt):Prop:=∃ f fd,PySem.W.nsIn K mainGlobals x=some (some (.ref f))/\FunV K y y st f fd .none/\PySem.W.keepIn K (.ref f)=true
noncomputable def aP (x:Str) (st:Stmt) (ps:List Str):Prop:=∀ (kV doc pm:Value) (an:Option Addr) (cdv ct:Value) (us:List Value),us.length=ps.length->bindArgs (PySem.W.fnOf x x (dc st) (bS st) (ah st) .none kV doc pm an cdv ct) ⟨us,[]⟩=pure (ps.zip us)
section
variable {P:Program} {w:World} {K:PySem.W.Frag} {mg:Str->Option Value} {base h:Heap} {x y:Str} {st:Stmt} {k:Nat} {ps:List Str}
theorem DefIn.mk {f:Addr} {oc:Value} {od an:Option Addr} {osl:Array (Option Value)} {kV doc pm cdv ct:Value} (a:PySem.W.nsIn K mainGlobals x=some (some (.ref f))) (l:K.lookup f=some ⟨oc,od,.func (PySem.W.fnOf y y (dc st) (bS st) (ah st) .none kV doc pm an cdv ct),osl⟩)
  (c:PySem.W.codeIn K cdv y=true) (k:PySem.W.keepIn K (.ref f)=true):DefIn K x y st:=⟨_,_,a,sv l c k,k⟩
variable (D:DefIn K x y st) (X:K.In h) (G:h.Ns mainGlobals mg) (b:aP y st ps)
include D X G
include b
theorem DefIn.cal {g:List VL.D->Option VL.D} (ok:∀ f fd,FunV K y y st f fd .none->FnOk P w K mg base dJ k f fd ps (gu K g)):Cal P w K mg base x k g []:=by
 obtain ⟨f,fd,a,F,hk⟩:=D
 exact Cal.mk0 (ok f fd F) (PySem.W.mg_of X G a) hk (F.binds b)
theorem DefIn.calX {g:List VL.D->Option Str} (ok:∀ f fd,FunV K y y st f fd .none->FnOk P w K mg base (qh P w) k f fd ps (Cv K g)):CalX P w K mg base x k g []:=by
 obtain ⟨f,fd,a,F,hk⟩:=D
 exact ⟨⟨_,_,_,[],[],ok f fd F,PySem.W.mg_of X G a,hk,F.binds b,.nil,fun _=>.nil⟩⟩
end
end VL
set_option Elab.async false
set_option linter.all false
set_option maxRecDepth 100000
set_option maxHeartbeats 4000000
namespace VL
open PySem PySem.Spec PyProof.Rows L2
open AutoSeq1 (wpAny_loadPart')
section
variable {X:Cx}
end
end VL
set_option Elab.async false
set_option linter.all false
set_option maxRecDepth 100000
set_option maxHeartbeats 4000000
namespace VL
open PySem PySem.Spec PyProof.Rows L2
noncomputable def G8 (z:Bool):D->D->Option D
 | .bool a,.bool b=>some (.bool (z != (a==b)))
 | _,_=>none
@[simp] theorem Ds (z a b:Bool):G8 z (.bool a) (.bool b)=some (.bool (z != (a==b))):=rfl
section
variable {X:Cx}
end
end VL
set_option Elab.async false
set_option linter.all false
set_option maxRecDepth 100000
set_option maxHeartbeats 4000000
namespace VL
open PySem PySem.Spec PyProof.Rows L2
section
variable {m:Bool} {X:Cx} {e c:Expr} {es:List Expr} {f:Dv->Option D} {fs:Dv->Option (List D)} {ft:Dv->Option Bool} {fx:Dv->Option Str} {st:Stmt} {sts body orelse:List Stmt} {s1:Sf} {u u1 u2:Xf} {pos p:Pos}
end
end VL
set_option Elab.async false
set_option linter.all false
set_option maxRecDepth 100000
namespace L2
open PySem PySem.Spec PyProof.Rows
end L2
namespace L2
open PySem PySem.Spec PyProof.Rows
section
variable (P:Program) (w:World)
end
section
variable {P:Program} {w:World} {H H':Hp} {h h':Heap} {a:Addr} {o:HO}
end
section
variable {P:Program} {w:World} {H:Hp} {h h':Heap} {x e:Addr} {o':HO}
end
section
variable {fs fs' ex ex':List Addr} {H H1 H2:Hp} {h h1 h2 h':Heap} {a x e:Addr} {o:HO}
end
end L2
namespace L2
open PySem PySem.Spec PyProof.Rows
section
variable {X:Cx} {pins:List (Addr×Obj)} {σ:List (Option V)} {H H':Hp} {s:Shared} {h':Heap}
end
end L2
namespace L2
open PySem PySem.Spec PyProof.Rows
section
variable {X:Cx}
variable {a b:Expr} {ta tb:TE} {pos:Pos}
variable {tA tB':TT} {rest:List Expr}
end
end L2
namespace L2
open PySem PySem.Spec PyProof.Rows
section
variable {X:Cx} {pins:List (Addr×Obj)} {σ:St} {H:Hp} {s:Shared} {a:Addr} {xs ys:List V}
end
section
variable {X:Cx} {pins:List (Addr×Obj)} {σ:St} {H:Hp} {s:Shared} {E:Value->Shared->Prop}
end
section
variable {X:Cx} {st:Stmt} {rest:List Stmt} {t u:TS} {e:Expr} {te:TE} {pos:Pos}
end
section
variable {X:Cx} {pos:Pos}
end
section
variable {X:Cx} {pos:Pos}
end
end L2
namespace L2
open PySem PySem.Spec PyProof.Rows
section
variable {X:Cx} {tg:Expr}
end
end L2
namespace L2
open PySem PySem.Spec PyProof.Rows
section
variable {X:Cx} {a b c:Expr} {ta tb tc:TE} {pos:Pos}
end
section
variable {X:Cx} {a b c:Expr} {ta tb tc:TE} {pos:Pos}
end
end L2
namespace L2
open PySem PySem.Spec PyProof.Rows
section
variable {prog:Program} {w:World} {A:Around} {E:Value->Shared->Prop} {s:Shared} {K:PySem.W.Frag} {x dx C f:Addr} {mA:Str->Option Value} {name:Str} {v:Value}
end
section
variable {P:Program} {w:World} {H H':Hp} {h h':Heap} {a C dx:Addr} {fs fs':List (Str×V)}
end
section
variable {X:Cx} {pins:List (Addr×Obj)} {σ:St} {H:Hp} {s:Shared} {a C dx:Addr} {fs:List (Str×V)} {f:Str} {v:V} {A:Around} {E:Value->Shared->Prop}
end
section
variable {X:Cx} {o e value:Expr} {f:Str} {pos pos' tpos:Pos} {ta tv:TE}
end
section
variable {X:Cx} {pins:List (Addr×Obj)} {σ:St} {H:Hp} {s:Shared} {A:Around} {E:Value->Shared->Prop} {Q:Value->Shared->Prop} {c:Value} {b:Bool}
end
end L2
namespace L2
open PySem PySem.Spec PyProof.Rows
section
variable {X:Cx} {e:Expr} {es:List Expr} {te:TE} {t:TA} {pos:Pos}
end
section
variable {X:Cx} {pins:List (Addr×Obj)} {σ:St} {H:Hp} {s s':Shared}
end
section
variable {X:Cx} {CX:qi} {k:Nat} {f C:Addr} {fd:FuncData} {ps:List Str} {sp:Sp} {dvs:List V} {ds:List Value} {E:XK} {x m:Str} {p pos apos:Pos} {e o:Expr} {es:List Expr} {ta:TE} {t:TA}
end
section
variable {X:Cx} {CX:qi} {k:Nat} {f C:Addr} {fd:FuncData} {ps ks:List Str} {sp:Sp} {E:XK} {x m:Str} {p pos apos kpos:Pos} {e o:Expr} {es:List Expr} {kws:List Keyword} {te ta:TE} {t tk:TA} {nm:Option Str}
variable {g:List Value->List Value->List Value} {gV:List V->List V->List V}
end
end L2
namespace L2
open PySem PySem.Spec PyProof.Rows
section
variable {X:Cx} {x:Str} {p pos:Pos} {e:Expr} {es:List Expr} {t:TA} {id T:String} {r:List V->Hp->VK->Prop}
end
end L2
namespace L2
open PySem PySem.Spec PyProof.Rows
section
variable {κ:Type} [DecidableEq κ]
noncomputable def gE (kvs:List (κ × V)) (k:κ):Option V:=(kvs.find? fun kv=>decide (kv.1=k)).map (·.2)
noncomputable def dD (kvs:List (κ × V)) (k:κ) (v:V):List (κ × V):=
 if (kvs.any fun kv=>decide (kv.1=k))=true then kvs.map (fun kv=>if kv.1=k then (kv.1,v) else kv) else kvs++[(k,v)]
noncomputable def zq (kvs:List (κ × V)) (k:κ):List (κ × V):=kvs.filter fun kv=>decide (kv.1≠k)
theorem fH {p:κ × V} {r:List (κ × V)} {k:κ} (e:p.1=k):gE (p::r) k=some p.2:=by simp [gE,List.find?_cons,e]
theorem fI {p:κ × V} {r:List (κ × V)} {k:κ} (e:¬ p.1=k):gE (p::r) k=gE r k:=by simp [gE,List.find?_cons,e]
theorem oF (k:κ):∀ kvs:List (κ × V),(kvs.any fun kv=>decide (kv.1=k))=(gE kvs k).isSome
 | []=>rfl
 | p::r=>by
  rw [List.any_cons]
  by_cases e:p.1=k
  ·simp only [fH e,decide_eq_true e,Bool.true_or,Option.isSome_some]
  ·rw [fI e,decide_eq_false e,Bool.false_or]; exact oF k r
theorem ej (kvs:List (κ × V)) (k:κ) (v:V):(dD kvs k v).length<=kvs.length+1:=by
 unfold dD
 split
 ·rw [List.length_map]; omega
 ·rw [List.length_append,List.length_cons,List.length_nil]; omega
theorem RelO.isSome_eq {o:Option V} {u:Option Value} (r:RelO o u):o.isSome=u.isSome:=by
 cases o with
 | none=>cases u with
  | none=>rfl
  | some _=>exact (show False from r).elim
 | some _=>cases u with
  | none=>exact (show False from r).elim
  | some _=>rfl
theorem RelO.getD {o:Option V} {u:Option Value} {d:V} {d':Value} (r:RelO o u) (rd:RelV d d'):RelV (o.getD d) (u.getD d'):=by
 cases o with
 | none=>cases u with
  | none=>exact rd
  | some _=>exact (show False from r).elim
 | some _=>cases u with
  | none=>exact (show False from r).elim
  | some _=>exact r
theorem KV.val {kvs:List (κ × V)} {vs:List (κ × Value)} (r:KV kvs vs) (k:κ):RelO (gE kvs k) (valueAt vs k):=by
 unfold KV at r
 induction r with
 | nil=>exact True.intro
 | @cons p q ps qs h t ih=>
  obtain ⟨h1,h2⟩:=h
  by_cases e:p.1=k
  ·have e':q.1=k:=h1.symm.trans e
   have b:valueAt (q::qs) k=some q.2:=by simp [valueAt,List.find?_cons,e']
   rw [fH e,b]; exact h2
  ·have e':¬ q.1=k:=fun z=>e (h1.trans z)
   have b:valueAt (q::qs) k=valueAt qs k:=by simp [valueAt,List.find?_cons,e']
   rw [fI e,b]; exact ih
theorem KV.any {kvs:List (κ × V)} {vs:List (κ × Value)} (r:KV kvs vs) (k:κ):(kvs.any fun kv=>decide (kv.1=k))=vs.any fun kv=>decide (kv.1=k):=by
 unfold KV at r
 induction r with
 | nil=>rfl
 | cons h t ih=>rw [List.any_cons,List.any_cons,ih,h.1]
theorem KV.repl {kvs:List (κ × V)} {vs:List (κ × Value)} (r:KV kvs vs) (k:κ) {y:V} {u:Value} (ry:RelV y u) :
  KV (kvs.map fun kv=>if kv.1=k then (kv.1,y) else kv) (vs.map fun kv=>if kv.1=k then (kv.1,u) else kv):=by
 unfold KV at r ⊢
 induction r with
 | nil=>exact .nil
 | @cons p q ps qs h t ih=>
  rw [List.map_cons,List.map_cons]
  refine .cons ?_ ih
  obtain ⟨h1,h2⟩:=h
  by_cases e:p.1=k
  ·rw [if_pos e,if_pos (h1.symm.trans e)]; exact ⟨h1,ry⟩
  ·rw [if_neg e,if_neg (fun z=>e (h1.trans z))]; exact ⟨h1,h2⟩
theorem KV.put {kvs:List (κ × V)} {vs:List (κ × Value)} (r:KV kvs vs) (k:κ) {y:V} {u:Value} (ry:RelV y u):KV (dD kvs k y) (stored vs k u):=by
 unfold dD stored
 rw [r.any k]
 by_cases e:(vs.any fun kv=>decide (kv.1=k))=true
 ·rw [if_pos e,if_pos e]; exact r.repl k ry
 ·rw [if_neg e,if_neg e]; exact Paired.snoc r ⟨rfl,ry⟩
theorem KV.drop {kvs:List (κ × V)} {vs:List (κ × Value)} (r:KV kvs vs) (k:κ):KV (zq kvs k) (without vs k):=by
 unfold KV at r ⊢
 unfold zq without
 induction r with
 | nil=>exact .nil
 | @cons p q ps qs h t ih=>
  obtain ⟨h1,h2⟩:=h
  rw [List.filter_cons,List.filter_cons]
  by_cases e:p.1=k
  ·have a:¬ decide (p.1≠k)=true:=by simp [e]
   have b:¬ decide (q.1≠k)=true:=by simp [h1.symm.trans e]
   rw [if_neg a,if_neg b]; exact ih
  ·have e':¬ q.1=k:=fun z=>e (h1.trans z)
   have a:decide (p.1≠k)=true:=by simp [e]
   have b:decide (q.1≠k)=true:=by simp [e']
   rw [if_pos a,if_pos b]; exact .cons ⟨h1,h2⟩ ih
theorem KV.keys {kvs:List (κ × V)} {vs:List (κ × Value)} (r:KV kvs vs):kvs.map (·.1)=vs.map (·.1):=by
 unfold KV at r
 induction r with
 | nil=>rfl
 | cons h t ih=>rw [List.map_cons,List.map_cons,ih,h.1]
theorem KV.length {kvs:List (κ × V)} {vs:List (κ × Value)} (r:KV kvs vs):kvs.length=vs.length:=Paired.length r
end
theorem kG {P:Program} {w:World} {k:ay} {u:Value} (r:RelV (kV k) u):(aA P w).is k u=true:=by
 cases k with
 | inl i=>obtain ⟨t,e⟩:=(show ∃ t,u=Value.int i t from r); subst e; exact px P w i t
 | inr x=>obtain ⟨t,e⟩:=(show ∃ t,u=Value.str x t from r); subst e; exact pv P w x t
theorem mG {P:Program} {w:World}:∀ {ks:List ay} {us:List Value},Vals (ks.map kV) us->ItemsAre (aA P w) ks us
 | [],_,r=>by rw [List.map_nil] at r; cases r; exact .nil
 | k::ks,_,r=>by
  rw [List.map_cons] at r
  cases r with
  | cons h t=>exact .cons (kG h) (mG t)
noncomputable abbrev KT (H:Hp):List (List ay×V)->List (List ay×Addr×Value)->Prop:=Paired fun p q=>p.1=q.1/\H q.2.1=some (.tup (p.1.map kV))/\RelV p.2 q.2.2
theorem KT.val {H:Hp} {kvs:List (List ay×V)} {xs:List (List ay×Addr×Value)} (r:KT H kvs xs) (k:List ay):RelO (gE kvs k) ((atKey xs k).map (·.2)):=by
 induction r with
 | nil=>exact True.intro
 | @cons p q ps qs h t ih=>
  obtain ⟨h1,_,h2⟩:=h
  by_cases e:p.1=k
  ·have e':q.1=k:=h1.symm.trans e
   have b:atKey (q::qs) k=some q.2:=by simp [atKey,List.find?_cons,e']
   rw [fH e,b]; exact h2
  ·have e':¬ q.1=k:=fun z=>e (h1.trans z)
   have b:atKey (q::qs) k=atKey qs k:=by simp [atKey,List.find?_cons,e']
   rw [fI e,b]; exact ih
theorem KT.repl {H:Hp} {kvs:List (List ay×V)} {xs:List (List ay×Addr×Value)} (r:KT H kvs xs) (k:List ay) {y:V} {u:Value} (ry:RelV y u) :
  KT H (kvs.map fun kv=>if kv.1=k then (kv.1,y) else kv) (xs.map (putAt k u)):=by
 induction r with
 | nil=>exact .nil
 | @cons p q ps qs h t ih=>
  rw [List.map_cons,List.map_cons]
  refine .cons ?_ ih
  obtain ⟨h1,h2,h3⟩:=h
  unfold putAt
  by_cases e:p.1=k
  ·rw [if_pos e,if_pos (h1.symm.trans e)]; exact ⟨h1,h2,ry⟩
  ·rw [if_neg e,if_neg (fun z=>e (h1.trans z))]; exact ⟨h1,h2,h3⟩
theorem KT.put {H:Hp} {kvs:List (List ay×V)} {xs:List (List ay×Addr×Value)} (r:KT H kvs xs) (k:List ay) {b:Addr} {y:V} {u:Value} (hb:H b=some (.tup (k.map kV))) (ry:RelV y u) :
  KT H (dD kvs k y) (storedH xs k b u):=by
 have e:(kvs.any fun kv=>decide (kv.1=k))=(atKey xs k).isSome:=by
  rw [oF,(r.val k).isSome_eq,Option.isSome_map]
 unfold dD storedH
 rw [e]
 by_cases q:(atKey xs k).isSome=true
 ·rw [if_pos q,if_pos q]; exact r.repl k ry
 ·rw [if_neg q,if_neg q]; exact Paired.snoc r ⟨rfl,hb,ry⟩
theorem KT.keeps {H H':Hp} {kvs:List (List ay×V)} {xs:List (List ay×Addr×Value)} (r:KT H kvs xs) (ht:∀ b ys,H b=some (.tup ys)->H' b=some (.tup ys)):KT H' kvs xs:=
 Paired.mapP r fun _ _ z=>⟨z.1,ht _ _ z.2.1,z.2.2⟩
section
variable {P:Program} {w:World} {H:Hp} {h:Heap} {a:Addr}
theorem yZ {u:HO} (ok:HOk P w H h) (e:Rd H a u):ObjOk P w H h a u:=e.ok ok
theorem iz {kvs:List (ay×V)} (ok:HOk P w H h) (e:Rd H a (.dK kvs)):kvs.length<=sizeLine/\(a==sysModules)=false/\∃ vs,KV kvs vs/\h.DictOf (aA P w) a vs:=
 show ObjOk P w H h a (.dK kvs) from yZ ok e
theorem zr {kvs:List (ay×V)} (ok:HOk P w H h) (e:H a=some (.dK kvs)):kvs.length<=sizeLine/\(a==sysModules)=false/\∃ vs,KV kvs vs/\h.DictOf (aA P w) a vs:=iz ok (.inl e)
theorem kF {ks:List ay} (ok:HOk P w H h) (e:H a=some (.tup (ks.map kV))):(tupleKind (aA P w)).is h ks a:=by
 obtain ⟨_,its,r,⟨o,h1,h2,n,h3⟩,_⟩:=(show ObjOk P w H h a (.tup (ks.map kV)) from ok a _ e)
 exact ⟨o,its.toArray,n,h1,h2,h3,by simpa using mG r⟩
theorem mP {kvs:List (List ay×V)} (ok:HOk P w H h) (e:Rd H a (.dT kvs)):kvs.length<=sizeLine/\(a==sysModules)=false /\
  ∃ xs,KT H kvs xs/\h.DictOfH (tupleKind (aA P w)) a xs:=by
 obtain ⟨z,y,xs,r,o,es,ep,h1,h2,h3,h4,h5⟩:=(show ObjOk P w H h a (.dT kvs) from yZ ok e)
 refine ⟨z,y,xs,r,o,es,ep,h1,h2,h3,h4,fun x hx=>?_,h5⟩
 have all:∀ {l:List (List ay×V)} {m:List (List ay×Addr×Value)},KT H l m->∀ x∈m,(tupleKind (aA P w)).is h x.1 x.2.1:=by
  intro l m q
  induction q with
  | nil=>intro x hx; exact nomatch hx
  | @cons p q ps qs hq t ih=>
   intro x hx
   rcases List.mem_cons.mp hx with e | hx
   ·subst e
    exact kF ok (by rw [<- hq.1]; exact hq.2.1)
   ·exact ih x hx
 exact all r x hx
theorem DM {kvs:List (List ay×V)} (ok:HOk P w H h) (e:H a=some (.dT kvs)):kvs.length<=sizeLine/\(a==sysModules)=false /\
  ∃ xs,KT H kvs xs/\h.DictOfH (tupleKind (aA P w)) a xs:=mP ok (.inl e)
end
noncomputable def DGet (H:Hp) (a:Addr) (y:V) (r:Option V):Prop:=
 (∃ kvs k,Rd H a (.dK kvs)/\y=kV k/\r=gE kvs k)\/∃ kvs k b,Rd H a (.dT kvs)/\y=.ref b/\H b=some (.tup (k.map kV))/\r=gE kvs k
noncomputable def DPut (H:Hp) (a:Addr) (y v:V) (H':Hp):Prop:=
 (∃ kvs k,H a=some (.dK kvs)/\y=kV k/\kvs.length<sizeLine/\H'=upd H a (.dK (dD kvs k v))) \/
 ∃ kvs k b,H a=some (.dT kvs)/\y=.ref b/\H b=some (.tup (k.map kV))/\kvs.length<sizeLine/\H'=upd H a (.dT (dD kvs k v))
theorem DGet.k {H:Hp} {a:Addr} {kvs:List (ay×V)} {k:ay} (e:H a=some (.dK kvs)):DGet H a (kV k) (gE kvs k):=.inl ⟨kvs,k,.inl e,rfl,rfl⟩
theorem DGet.t {H:Hp} {a b:Addr} {kvs:List (List ay×V)} {k:List ay} (e:H a=some (.dT kvs)) (eb:H b=some (.tup (k.map kV))):DGet H a (.ref b) (gE kvs k):=.inr ⟨kvs,k,b,.inl e,rfl,eb,rfl⟩
theorem DPut.k {H:Hp} {a:Addr} {kvs:List (ay×V)} {k:ay} {v:V} (e:H a=some (.dK kvs)) (hl:kvs.length<sizeLine):DPut H a (kV k) v (upd H a (.dK (dD kvs k v))):=.inl ⟨kvs,k,e,rfl,hl,rfl⟩
theorem DPut.t {H:Hp} {a b:Addr} {kvs:List (List ay×V)} {k:List ay} {v:V} (e:H a=some (.dT kvs)) (eb:H b=some (.tup (k.map kV))) (hl:kvs.length<sizeLine) :
  DPut H a (.ref b) v (upd H a (.dT (dD kvs k v))):=.inr ⟨kvs,k,b,e,rfl,eb,hl,rfl⟩
section
variable {X:Cx} {pins:List (Addr×Obj)} {σ:St} {H:Hp} {s:Shared} {a:Addr} {y v:V} {u r:Value} {o:Option V} {A:Around} {E:Value->Shared->Prop}
theorem Inv.big (I:Inv X pins σ H s):sysModules<s.heap.objs.size:=by
 have h:mainGlobals<s.heap.objs.size:=(I.mod.glob.keeps I.bk).lt
 exact Nat.lt_trans (by decide) h
theorem uj {Q:Value->Shared->Prop} (hu:A.units+1<cLine) (I:Inv X pins σ H s) (g:DGet H a y (some v)) (ry:RelV y u) (h:∀ w' s',Inv X pins σ H s'->RelV v w'->Q w' s') :
  wpAny (model X.prog X.w) A (getItem (.ref a) u) Q E s:=by
 rcases g with ⟨kvs,k,e,ey,l⟩ | ⟨kvs,k,b,e,ey,eb,l⟩
 ·subst ey
  obtain ⟨z,hd,vs,rel,dd⟩:=iz I.hok e
  obtain ⟨w',hw,rw'⟩:=RelO.some_of (v:=v) (o:=valueAt vs k) (by rw [l]; exact rel.val k)
  exact wpAny_getItem_of (kG ry) dd.mapOf hw (h w' _ (I.tok _) rw')
 ·subst ey
  cases (show u=Value.ref b from ry)
  obtain ⟨z,hd,xs,rel,dd⟩:=mP I.hok e
  obtain ⟨w',hw,rw'⟩:=RelO.some_of (v:=v) (o:=(atKey xs k).map (·.2)) (by rw [l]; exact rel.val k)
  obtain ⟨p,hp,hp2⟩:=Option.map_eq_some_iff.mp hw
  refine wpAny_getItem_heap (tupleKind_room_in1 hu) (kF I.hok eb) dd hp ?_
  rw [hp2]
  exact h w' _ (I.tok _) rw'
theorem wf {Q:Value->Shared->Prop} (hu:A.units+1<cLine) (I:Inv X pins σ H s) (g:DGet H a y o) (ry:RelV y u) (h:∀ s',Inv X pins σ H s'->Q (.bool o.isSome) s') :
  wpAny (model X.prog X.w) A (compareOp .In u (.ref a)) Q E s:=by
 rcases g with ⟨kvs,k,e,ey,l⟩ | ⟨kvs,k,b,e,ey,eb,l⟩
 ·subst ey
  obtain ⟨z,hd,vs,rel,dd⟩:=iz I.hok e
  refine wpAny_in_of (kG ry) hd dd.mapOf ?_
  rw [<- (rel.val k).isSome_eq,<- l]
  exact h _ (I.tok _)
 ·subst ey
  cases (show u=Value.ref b from ry)
  obtain ⟨z,hd,xs,rel,dd⟩:=mP I.hok e
  refine wpAny_in_heap (tupleKind_room_in1 hu) (kF I.hok eb) hd dd ?_
  have q:=(rel.val k).isSome_eq
  rw [Option.isSome_map] at q
  rw [<- q,<- l]
  exact h _ (I.tok _)
theorem nY {h':Heap} {t':Nat} {ob:HO} (I:Inv X pins σ H s) (mu:Ee (H a)) (hs:Heap.SameBut a s.heap h') (he:∃ q,h'.get? a=some q) (new:ObjOk X.prog X.w (upd H a ob) h' a ob) :
  Inv X pins σ (upd H a ob) { s with heap:=h',toks:=t' }:=
 I.write (x:=a) (e:=a) mu (.inl rfl) (fun b q hb z=>(hs.2 b hb).trans z) he new
theorem qR {P:Program} {w:World} {H':Hp} {h':Heap} {kvs:List (ay×V)} {vs:List (ay×Value)} (z:kvs.length<=sizeLine) (hd:(a==sysModules)=false) (rel:KV kvs vs) (dd:h'.DictOf (aA P w) a vs) :
  ObjOk P w H' h' a (.dK kvs):=⟨z,hd,vs,rel,dd⟩
theorem uh {H':Hp} {Q:Unit->Shared->Prop} (hu:A.units+1<cLine) (I:Inv X pins σ H s) (g:DPut H a y v H') (ry:RelV y u) (rv:RelV v r) (h:∀ s',Inv X pins σ H' s'->Q () s') :
  wpAny (model X.prog X.w) A (setItem (.ref a) u r) Q E s:=by
 rcases g with ⟨kvs,k,e,ey,l,eH⟩ | ⟨kvs,k,b,e,ey,eb,l,eH⟩
 ·subst ey eH
  obtain ⟨z,hd,vs,rel,dd⟩:=zr I.hok e
  have hz:vs.length<=sizeLine:=by rw [<- rel.length]; exact z
  have hl:(dD kvs k v).length<=sizeLine:=by have:=ej kvs k v; omega
  refine wpAny_setItem_pairs (hsz:=hz) (kG ry) dd fun h' dd' hs=>h _ ?_
  have he:∃ q,h'.get? a=some q:=let ⟨q,_,_,hq,_⟩:=dd'; ⟨q,hq⟩
  exact nY I (by rw [e]; exact True.intro) hs he (qR hl hd (rel.put k rv) dd')
 ·subst ey eH
  cases (show u=Value.ref b from ry)
  obtain ⟨z,hd,xs,rel,dd⟩:=DM I.hok e
  have hz:xs.length<=sizeLine:=by rw [<- Paired.length rel]; exact z
  have hl:(dD kvs k v).length<=sizeLine:=by have:=ej kvs k v; omega
  refine wpAny_setItem_heap (hsz:=hz) (tupleKind_room_in1 hu) (kF I.hok eb) dd fun h' dd' hs=>h _ ?_
  obtain ⟨q,es,ep,hq,h2,h3,h4,_,h5⟩:=dd'
  refine nY I (by rw [e]; exact True.intro) hs ⟨q,hq⟩ ⟨hl,hd,_,(rel.put k eb rv).keeps fun c ys ec=>?_,q,es,ep,hq,h2,h3,h4,h5⟩
  rw [ar (C8 ec e (fun z=>nomatch z))]
  exact ec
end
section
variable {X:Cx} {pins:List (Addr×Obj)} {σ:St} {H:Hp} {s:Shared} {a:Addr} {kvs:List (ay×V)} {k:ay} {u:Value} {A:Around} {E:Value->Shared->Prop}
theorem DR {Q:Value->Shared->Prop} (I:Inv X pins σ H s) (e:Rd H a (.dK kvs)) (h:∀ t s',Inv X pins σ H s'->Q (.int kvs.length t) s'):wpAny (model X.prog X.w) A (call (.builtin "len") [.ref a]) Q E s:=by
 obtain ⟨z,hd,vs,rel,dd⟩:=iz I.hok e
 refine call_len_dict hd dd (by rw [<- rel.length]; rw [sizeLine_eq] at z; omega) ?_
 rw [<- rel.length]
 exact h _ _ (I.tok _)
end
noncomputable def yO (i:Expr):Prop:=∀ ov iv,subscripted i false ov iv=operate [ov,iv] (getItem ov iv)
theorem xi {prog:Program} {w:World} {A:Around} {E:Value->Shared->Prop} {s:Shared} {env:Env} {value slice:Expr} {pos:Pos} {T id:String} {Q:Value->Shared->Prop}
  (hl:typeLookup (.type T) "__getitem__" = pure (some (.builtin id))) (hs:yO slice)
  (h:wpAny (model prog w) A (eval value env) (fun o s₁=>wpAny (model prog w) A (eval slice env) (fun i s₂=>s₂.TypeIs o T/\wpAny (model prog w) A (getItem o i) Q E s₂) E s₁) E s) :
  wpAny (model prog w) A (eval (.Subscript value slice pos) env) Q E s:=by
 refine Subscript_ (wpAny_mono h (fun o s₁ h₁=>wpAny_mono h₁ (fun i s₂ h₂=>?_) fun _ _ x=>x) fun _ _ x=>x)
 obtain ⟨hT,h₂⟩:=h₂
 unfold subscriptTail
 refine wpAny_bind ?_
 rw [getitemInPython_of_ne hT.not_modules]
 refine wpAny_bind (wpAny_specialOf hT hl ?_)
 have fin:wpAny (model prog w) A (subscripted slice false o i) (fun r s₃=>wpAny (model prog w) A (letTemporaryGo value o r >>= fun _=>pure r) Q E s₃) E s₂:=by
  rw [hs o i]
  exact wpAny_operating (wpAny_mono h₂ (fun r s₃ h₃=>wpAny_bind (wpAny_letTemporaryGo (wpAny_pure h₃))) fun _ _ x=>x)
 first
  | exact wpAny_pure (wpAny_bind fin)
  | exact wpAny_bind (wpAny_pure (wpAny_bind fin))
  | exact wpAny_bind fin
theorem pY {X:Cx} {pins:List (Addr×Obj)} {σ:St} {H:Hp} {s:Shared} {a:Addr} {y:V} {o:Option V} (I:Inv X pins σ H s) (g:DGet H a y o):s.TypeIs (.ref a) "dict":=by
 rcases g with ⟨kvs,k,e,_,_⟩ | ⟨kvs,k,b,e,_,_,_⟩
 ·obtain ⟨_,_,vs,_,dd⟩:=iz I.hok e
  exact dd.typeIs
 ·obtain ⟨_,_,xs,_,dd⟩:=mP I.hok e
  exact dd.typeIs
noncomputable def Cf (td ty:TE):TE:=fun σ H Q=>td σ H fun x H1=>ty σ H1 fun y H2=>∃ a v,x=.ref a/\DGet H2 a y (some v)/\Q v H2
noncomputable def CD (td ty tv:TE):TS:=fun D σ H=>tv σ H fun v H1=>td σ H1 fun x H2=>ty σ H2 fun y H3=>∃ a H4,x=.ref a/\DPut H3 a y v H4/\D.nx σ H4
section
variable {X:Cx} {o i e value:Expr} {pos pos' tpos:Pos} {td ty tv:TE}
theorem rN (hu:X.A.units+1<cLine) (ho:PE X o td) (hi:PE X i ty) (hs:yO i):PE X (.Subscript o i pos) (Cf td ty):=by
 intro pins s σ H Q I h
 refine xi PySem.F.slot_dict_getitem.lookup hs (bU (ho pins s σ H _ I h) fun u s1 ⟨x,H1,I1,rx,q1⟩=>bU (hi pins s1 σ H1 _ I1 q1) fun iv s2 ⟨y,H2,I2,ry,a,v,ex,g,q2⟩=>?_)
 subst ex
 obtain rfl:u=Value.ref a:=rx
 exact ⟨pY I2 g,uj hu I2 g ry fun w' s3 I3 rw'=>⟨v,H2,I3,rw',q2⟩⟩
theorem rK (hu:X.A.units+1<cLine) (ho:PE X o td) (hi:PE X i ty) (hv:PE X value tv) (hs:swapsWith value (some (.Subscript o i pos')) pos.line X.env=pure false) :
  PS X (.Assign [.Subscript o i pos'] value pos) (CD td ty tv):=by
 intro pins s σ H D I h
 refine wpAny_Assign_Subscript (bU (hv pins s σ H _ I h) fun r s1 ⟨v,H1,I1,rv,q1⟩=>bU (ho pins s1 σ H1 _ I1 q1) fun u s2 ⟨x,H2,I2,rx,q2⟩=>bU (hi pins s2 σ H2 _ I2 q2) fun iv s3 ⟨y,H3,I3,ry,a,H4,ex,g,q3⟩=>?_) hs
 subst ex
 obtain rfl:u=Value.ref a:=rx
 exact uh hu I3 g ry rv fun s4 I4=>⟨σ,H4,I4,q3⟩
end
theorem pX {P:Program} {w:World} {H:Hp} (h:Heap) (hb:sysModules<h.objs.size):ObjOk P w H (h.push { cls:=.type "dict",data:=.dict #[] }) h.objs.size (.dK []):=
 ⟨Nat.zero_le _,beq_eq_false_iff_ne.mpr (Ne.symm (Nat.ne_of_lt hb)),[],.nil,Heap.DictOf.new h⟩
noncomputable def zM:TE:=fun _ H Q=>∀ p,H p=none->Q (.ref p) (upd H p (.dK []))
section
variable {X:Cx} {pos:Pos}
theorem vb:PE X (.Dict [] [] pos) zM:=fun pins s σ H Q I h=>
 wpAny_Dict_empty ⟨.ref s.heap.objs.size,_,I.laid (a:=s.heap.objs.size) (o:=.dK []) (t':=s.toks) (fun _ _ q=>Heap.get?_push_of_some _ q) (Nat.le_refl _) (pX s.heap I.big),rfl,h _ (I.hok.fresh (Nat.le_refl _))⟩
end
noncomputable def qq:List (TE×TE)->St->Hp->(List (V×V)->Hp->Prop)->Prop
 | [],_,H,Q=>Q [] H
 | (tk,tv)::r,σ,H,Q=>tk σ H fun x H1=>tv σ H1 fun y H2=>qq r σ H2 fun ps H3=>Q ((x,y)::ps) H3
noncomputable abbrev VV:List (V×V)->List (Value×Value)->Prop:=Paired fun p q=>RelV p.1 q.1/\RelV p.2 q.2
noncomputable def ED (X:Cx) (pos:Pos) (keys:List (Option Expr)) (values:List Expr) (trs:List (TE×TE)):Prop:=
 ∀ (pins:List (Addr×Obj)) (s:Shared) (σ:St) (H:Hp) (Q:List (V×V)->Hp->Prop),Inv X pins σ H s->qq trs σ H Q ->
  wpAny (model X.prog X.w) X.A (evalPairs (pairTrees keys values X.env pos)) (fun vs s'=>∃ ps H',Inv X pins σ H' s'/\VV ps vs/\Q ps H') X.xe s
theorem xC {X:Cx} {pos:Pos}:ED X pos [] [] []:=fun pins s σ H Q I h=>pairTrees_nil_walk ⟨[],H,I,.nil,h⟩
theorem u5 {X:Cx} {pos:Pos} {k v:Expr} {ks:List (Option Expr)} {vs:List Expr} {tk tv:TE} {trs:List (TE×TE)} (hk:PE X k tk) (hv:PE X v tv) (hr:ED X pos ks vs trs) :
  ED X pos (some k::ks) (v::vs) ((tk,tv)::trs):=fun pins s σ H Q I h=>
 pairTrees_cons_walk (bU (hk pins s σ H _ I h) fun u s1 ⟨x,H1,I1,rx,q1⟩=>bU (hv pins s1 σ H1 _ I1 q1) fun w2 s2 ⟨y,H2,I2,ry,q2⟩=>
  bU (hr pins s2 σ H2 _ I2 q2) fun ws s3 ⟨ps,H3,I3,rel,q3⟩=>⟨(x,y)::ps,H3,I3,.cons ⟨rx,ry⟩ rel,q3⟩)
noncomputable def kB (kvs more:List (ay×V)):List (ay×V):=more.foldl (fun acc kv=>dD acc kv.1 kv.2) kvs
theorem KV.merge:∀ {more:List (ay×V)} {rs:List (ay×Value)} {kvs:List (ay×V)} {vs:List (ay×Value)},KV more rs->KV kvs vs->KV (kB kvs more) (merged vs rs):=by
 intro more rs kvs vs r
 unfold KV at r
 induction r generalizing kvs vs with
 | nil=>intro q; exact q
 | @cons p q ps qs h t ih=>
  intro r0
  have e:KV (dD kvs p.1 p.2) (stored vs q.1 q.2):=by
   have:=r0.put p.1 h.2
   rw [<- h.1]; exact this
  exact ih e
theorem gA:∀ (more kvs:List (ay×V)),(kB kvs more).length<=kvs.length+more.length
 | [],kvs=>by show kvs.length<=kvs.length+0; omega
 | p::r,kvs=>by
  have h1:=gA r (dD kvs p.1 p.2)
  have h2:=ej kvs p.1 p.2
  show (kB (dD kvs p.1 p.2) r).length<=_
  rw [List.length_cons]; omega
theorem kX {P:Program} {w:World}:∀ {kvs:List (ay×V)} {ws:List (Value×Value)},VV (kvs.map fun kv=>(kV kv.1,kv.2)) ws->∃ rs,Carries (aA P w) ws rs/\KV kvs rs
 | [],_,r=>by rw [List.map_nil] at r; cases r; exact ⟨[],True.intro,.nil⟩
 | p::kvs,_,r=>by
  rw [List.map_cons] at r
  cases r with
  | @cons a b as bs h t=>
   obtain ⟨rs,c,q⟩:=kX (P:=P) (w:=w) t
   obtain ⟨b1,b2⟩:=b
   exact ⟨(p.1,b2)::rs,⟨kG h.1,rfl,c⟩,.cons ⟨rfl,h.2⟩ q⟩
noncomputable def Ce (trs:List (TE×TE)):TE:=fun σ H Q=>∀ p,H p=none->qq trs σ (upd H p (.dK [])) fun ps H2=>H2 p=some (.dK [])/\∃ kvs:List (ay×V),ps=kvs.map (fun kv=>(kV kv.1,kv.2))/\kvs.length<=15/\Q (.ref p) (upd H2 p (.dK (kB [] kvs)))
theorem xL {X:Cx} {pos:Pos} {keys:List (Option Expr)} {values:List Expr} {trs:List (TE×TE)} (h:ED X pos keys values trs) (hall:keys.all (·.isSome)=true) (hl:keys.length=values.length) (h0:keys≠[])
  (h15:keys.length<=15):PE X (.Dict keys values pos) (Ce trs):=by
 intro pins s σ H Q I q
 have hn:=I.hok.fresh (Nat.le_refl s.heap.objs.size)
 have I1:=I.laid (a:=s.heap.objs.size) (o:=.dK []) (h':=s.heap.push { cls:=.type "dict",data:=.dict #[] }) (t':=s.toks) (fun _ _ q=>Heap.get?_push_of_some _ q) (Nat.le_refl _) (pX s.heap I.big)
 refine wpAny_Dict_walk (knd:=aA X.prog X.w) hall hl h0 h15 (bU (h pins _ σ _ _ I1 (q _ hn)) fun ws s2 ⟨ps,H2,I2,rel,e,kvs,ep,lk,q2⟩=>?_)
 subst ep
 obtain ⟨rs,c,rk⟩:=kX (P:=X.prog) (w:=X.w) rel
 obtain ⟨z,hd,vs0,r0,dd⟩:=zr I2.hok e
 cases r0
 refine ⟨rs,c,dd,fun h' dd' hs=>⟨.ref s.heap.objs.size,_,?_,rfl,q2⟩⟩
 have hz:(kB [] kvs).length<=sizeLine:=by
  have h1:=gA kvs []
  rw [List.length_nil] at h1
  rw [sizeLine_eq]; omega
 have he:∃ q,h'.get? s.heap.objs.size=some q:=let ⟨q,_,_,hq,_⟩:=dd'; ⟨q,hq⟩
 exact nY I2 (by rw [e]; exact True.intro) hs he (qR hz hd (rk.merge .nil) dd')
structure M1 (X:Cx) (o:Expr) (m:Str) (apos:Pos) (e:Expr) (cpos:Pos):Prop where
 base:attributeBase o m X.env (eval o X.env)=eval o X.env
 few:((backTo cpos (starEach [e] X.env)).all (fun x=>!x.1)&&(backToKw cpos (keywordEach [] X.env)).all (fun x=>x.1.isSome)
  && decide (([e]:List Expr).length+([]:List Keyword).length+(if ([]:List Keyword).isEmpty then 0 else 1)<30))=true
 line:(apos.endLine==cpos.line)=true
 trees:backTo cpos (starEach [e] X.env)=[(false,eval e X.env)]
structure M2 (X:Cx) (o:Expr) (m:Str) (apos:Pos) (e f:Expr) (cpos:Pos):Prop where
 base:attributeBase o m X.env (eval o X.env)=eval o X.env
 few:((backTo cpos (starEach [e,f] X.env)).all (fun x=>!x.1)&&(backToKw cpos (keywordEach [] X.env)).all (fun x=>x.1.isSome)
  && decide (([e,f]:List Expr).length+([]:List Keyword).length+(if ([]:List Keyword).isEmpty then 0 else 1)<30))=true
 line:(apos.endLine==cpos.line)=true
 trees:backTo cpos (starEach [e,f] X.env)=[(false,eval e X.env),(false,eval f X.env)]
noncomputable def GM (H:Hp) (a:Addr):Prop:=(∃ kvs,Rd H a (.dK kvs))\/∃ kvs,Rd H a (.dT kvs)
theorem vM {X:Cx} {pins:List (Addr×Obj)} {σ:St} {H:Hp} {s:Shared} {a:Addr} (I:Inv X pins σ H s) (d:GM H a) :
  s.TypeIs (.ref a) "dict" /\ (∀ b,Value.ref a=.ref b->∃ ob,s.heap.get? b=some ob/\ob.dict=none)/\(a==sysModules)=false:=by
 rcases d with ⟨kvs,e⟩ | ⟨kvs,e⟩
 ·obtain ⟨_,hd,vs,_,dd⟩:=iz I.hok e
  refine ⟨dd.typeIs,fun b q=>?_,hd⟩
  cases q
  obtain ⟨ob,_,_,h1,h2,_⟩:=dd
  exact ⟨ob,h1,h2.2.1⟩
 ·obtain ⟨_,hd,xs,_,dd⟩:=mP I.hok e
  refine ⟨dd.typeIs,fun b q=>?_,hd⟩
  cases q
  obtain ⟨ob,_,_,h1,h2,_⟩:=dd
  exact ⟨ob,h1,h2.2.1⟩
section
variable {X:Cx} {pins:List (Addr×Obj)} {σ:St} {H:Hp} {s:Shared} {a:Addr} {y d:V} {u r:Value} {o:Option V} {A:Around} {E:Value->Shared->Prop}
theorem Bp {Q:Value->Shared->Prop} (hu:A.units+1<cLine) (I:Inv X pins σ H s) (g:DGet H a y o) (ry:RelV y u) (rd:RelV d r) (h:∀ w' s',Inv X pins σ H s'->RelV (o.getD d) w'->Q w' s') :
  wpAny (model X.prog X.w) A (call (.builtin "dict.get") [.ref a,u,r]) Q E s:=by
 rcases g with ⟨kvs,k,e,ey,l⟩ | ⟨kvs,k,b,e,ey,eb,l⟩
 ·subst ey
  obtain ⟨z,hd,vs,rel,dd⟩:=iz I.hok e
  refine call_meetsIn PySem.F.slot_dict_get dd.typeIs PySem.F.entry_dict_get (PySem.F.args_dict_get_3 _ _ _) (meets_dict_get_default (aA X.prog X.w) a (kG ry) hd r) ⟨_,dd.mapOf,h _ _ (I.tok _) ?_⟩
  rw [l]
  exact (rel.val k).getD rd
 ·subst ey
  cases (show u=Value.ref b from ry)
  obtain ⟨z,hd,xs,rel,dd⟩:=mP I.hok e
  refine call_meetsIn PySem.F.slot_dict_get dd.typeIs PySem.F.entry_dict_get (PySem.F.args_dict_get_3 _ _ _) (meetsH_dict_get_default (tupleKind (aA X.prog X.w)) a b hd r) ⟨tupleKind_room_in1 hu,k,xs,kF I.hok eb,dd,h _ _ (I.tok _) ?_⟩
  rw [l]
  exact (rel.val k).getD rd
end
noncomputable def zN (td ty tx:TE):TE:=fun σ H Q=>td σ H fun x H1=>∃ a,x=.ref a/\GM H1 a/\ty σ H1 fun y H2=>tx σ H2 fun z H3=>∃ o,DGet H3 a y o/\Q (o.getD z) H3
section
variable {X:Cx} {o e f:Expr} {apos cpos:Pos} {td ty tx:TE}
theorem vc (hu:X.A.units+1<cLine) (ho:PE X o td) (he:PE X e ty) (hf:PE X f tx) (m:M2 X o "get" apos e f cpos):PE X (.Call (.Attribute o "get" apos) [e,f] [] cpos) (zN td ty tx):=by
 intro pins s σ H Q I h
 refine wpAny_Call_method m.base m.few m.line PySem.F.plainAttrs_dict PySem.F.slot_dict_get PySem.F.type_dict_get (bU (ho pins s σ H _ I h) fun u s1 ⟨x,H1,I1,rx,a,ex,d,q1⟩=>?_)
 subst ex
 obtain rfl:u=Value.ref a:=rx
 obtain ⟨t1,t2,_⟩:=vM I1 d
 refine ⟨t1,t2,?_⟩
 rw [m.trees]
 refine Calls.callWith_builtin rfl (Calls.evalArgs_plain (Calls.spliced_cons (bU (he pins s1 σ H1 _ I1 q1) fun iv s2 ⟨y,H2,I2,ry,q2⟩=>
  Calls.spliced_cons (bU (hf pins s2 σ H2 _ I2 q2) fun fv s3 ⟨z,H3,I3,rz,ov,g,q3⟩=>Calls.spliced_nil ?_))))
 exact Bp hu I3 g ry rz fun w' s4 I4 rw'=>⟨_,H3,I4,rw',q3⟩
end
section
variable {X:Cx} {pins:List (Addr×Obj)} {σ:St} {H:Hp} {s:Shared} {a:Addr} {kvs:List (ay×V)} {A:Around} {E:Value->Shared->Prop}
end
section
variable {X:Cx} {pins:List (Addr×Obj)} {σ:St} {H:Hp} {s:Shared} {a:Addr} {y:V} {u:Value} {A:Around} {E:Value->Shared->Prop}
end
end L2
namespace Att
open PySem PySem.W PySem.Calls PyProof.Rows
section
variable {prog:Program} {w:World} {A:Around} {E:Value->Shared->Prop} {s:Shared} {K:Frag}
end
end Att
namespace L2
open PySem PySem.Spec PyProof.Rows
end L2
namespace L2
open PySem PySem.Spec PyProof.Rows
end L2
namespace L2
open PySem PySem.Spec PyProof.Rows
section
variable {P:Program} {w:World} {K:PySem.W.Frag} {mg:Str->Option Value} {base:Heap}
end
section
variable {X:Cx}
theorem um:CallR X (.builtin "len") (fun xs H Q=>∃ a kvs,xs=[V.ref a]/\H a=some (.dK kvs)/\Q (.int kvs.length) H):=by
 intro pins s σ H xs us Q I r h
 obtain ⟨a,kvs,rfl,ha,q⟩:=h
 obtain ⟨u,rfl,ru⟩:=gr r
 cases ru
 exact DR I (.inl ha) fun t s' I'=>⟨.int kvs.length,H,I',⟨t,rfl⟩,q⟩
end
section
variable {κ:Type} [DecidableEq κ]
end
end L2
set_option Elab.async false
set_option linter.all false
set_option maxRecDepth 100000
set_option maxHeartbeats 4000000
namespace VL
open PySem PySem.Spec PyProof.Rows L2
noncomputable def gP:D->Option ay
 | .int i=>some (.inl i)
 | .str x=>some (.inr x)
 | _=>none
@[simp] theorem pI (i:Int):gP (.int i)=some (.inl i):=rfl
noncomputable def qw:Option Sl->Option (List (ay×D))
 | some (.own (.d es))=>some es
 | _=>none
@[simp] theorem uN (es:List (ay×D)):qw (some (.od es))=some es:=rfl
noncomputable def di (es:List (ay×D)) (k:ay):Option D:=(es.find? fun p=>decide (p.1=k)).map (·.2)
noncomputable def dQ (es:List (ay×D)) (k:ay) (d:D):List (ay×D):=if (es.any fun p=>decide (p.1=k))=true then es.map (fun p=>if p.1=k then (p.1,d) else p) else es++[(k,d)]
noncomputable def j8 (i:Nat):Sf:=fun δ=>some (.nx,δ.set i (.od []))
noncomputable def kt (i:Nat) (fk:Dv->Option D):Dv->Option D:=fun δ=>(qw δ[i]?).bind fun es=>(fk δ).bind fun k=>(gP k).bind fun k=>di es k
noncomputable def gL (i:Nat) (fk fx:Dv->Option D):Dv->Option D:=fun δ=>(qw δ[i]?).bind fun es=>(fk δ).bind fun k=>(fx δ).bind fun y=>(gP k).bind fun k=>some ((di es k).getD y)
noncomputable def br (i:Nat) (fk fv:Dv->Option D):Sf:=fun δ=>(fv δ).bind fun v=>(qw δ[i]?).bind fun es=>(fk δ).bind fun k=>(gP k).bind fun k=>if es.length<sizeLine then some (.nx,δ.set i (.od (dQ es k v))) else none
noncomputable def kr (i:Nat):Dv->Option D:=fun δ=>(qw δ[i]?).bind fun es=>some (.int es.length)
theorem gH {o:Option Sl} {es:List (ay×D)} (h:qw o=some es):o=some (.od es):=by
 cases o with
 | none=>cases h
 | some x=>
  cases x with
  | own c=>
   cases c with
   | l ds=>cases h
   | d fs=>cases h; rfl
  | un=>cases h
  | fz d=>cases h
  | fr _=>cases h
theorem dS {K:Fg} {Z:Hp} {v:V} {d:D} {k:ay} (r:Rep K Z v d) (h:gP d=some k):v=kV k:=by
 cases d with
 | int i=>cases h; exact r.int_eq
 | str x=>cases h; exact r.str_eq
 | _=>cases h
theorem dO {K:Fg} {Z:Hp} {kvs:List (ay×V)} {es:List (ay×D)} (h:gp K Z kvs es):kvs.length=es.length:=by
 have:=congrArg List.length h.1
 rw [List.length_map,List.length_map] at this
 exact this.symm
theorem ge {K:Fg} {Z:Hp} {kv:ay×V} {kvs:List (ay×V)} {es:List (ay×D)} (h:gp K Z (kv::kvs) es):∃ d fs,es=(kv.1,d)::fs/\Rep K Z kv.2 d/\gp K Z kvs fs:=by
 obtain ⟨h1,h2⟩:=h
 cases es with
 | nil=>cases h1
 | cons e fs=>
  obtain ⟨k,d⟩:=e
  rw [List.map_cons,List.map_cons,List.cons.injEq] at h1
  cases h2 with
  | cons r q=>exact ⟨d,fs,by rw [<- h1.1],r,h1.2,q⟩
theorem kc {K:Fg} {Z:Hp} (k:ay):∀ {kvs:List (ay×V)} {es:List (ay×D)},gp K Z kvs es->(gE kvs k=none/\di es k=none)\/∃ v d,gE kvs k=some v/\di es k=some d/\Rep K Z v d
 | [],es,h=>by
  have:es=[]:=List.length_eq_zero_iff.mp (dO h).symm
  subst this
  exact .inl ⟨rfl,rfl⟩
 | kv::kvs,es,h=>by
  obtain ⟨d,fs,rfl,r,q⟩:=ge h
  by_cases e:kv.1=k
  ·exact .inr ⟨kv.2,d,fH e,by simp [di,List.find?_cons,e],r⟩
  ·rw [fI e]
   have:di ((kv.1,d)::fs) k=di fs k:=by simp [di,List.find?_cons,e]
   rw [this]
   exact kc k q
theorem kb {K:Fg} {Z:Hp} {kvs:List (ay×V)} {es:List (ay×D)} (h:gp K Z kvs es) (k:ay) {v:V} {d:D} (r:Rep K Z v d):gp K Z (dD kvs k v) (dQ es k d):=by
 have any:∀ {kvs:List (ay×V)} {es:List (ay×D)},gp K Z kvs es->(kvs.any fun kv=>decide (kv.1=k))=es.any fun p=>decide (p.1=k):=by
  intro kvs
  induction kvs with
  | nil=>
   intro es h
   have:es=[]:=List.length_eq_zero_iff.mp (dO h).symm
   subst this; rfl
  | cons kv kvs ih=>
   intro es h
   obtain ⟨d,fs,rfl,_,q⟩:=ge h
   rw [List.any_cons,List.any_cons,ih q]
 unfold dD dQ
 rw [any h]
 by_cases a:(es.any fun p=>decide (p.1=k))=true
 ·rw [if_pos a,if_pos a]
  clear a any
  revert es
  induction kvs with
  | nil=>
   intro es h
   have:es=[]:=List.length_eq_zero_iff.mp (dO h).symm
   subst this; exact ⟨rfl,.nil⟩
  | cons kv kvs ih=>
   intro es h
   obtain ⟨d',fs,rfl,r',q⟩:=ge h
   obtain ⟨i1,i2⟩:=ih q
   by_cases e:kv.1=k
   ·rw [List.map_cons,List.map_cons,if_pos e,if_pos e]
    exact ⟨by rw [List.map_cons,List.map_cons,i1],.cons r i2⟩
   ·rw [List.map_cons,List.map_cons,if_neg e,if_neg e]
    exact ⟨by rw [List.map_cons,List.map_cons,i1],.cons r' i2⟩
 ·rw [if_neg a,if_neg a]
  refine ⟨by rw [List.map_append,List.map_append,h.1]; rfl,?_⟩
  rw [List.map_append,List.map_append]
  exact h.2.append (.cons r .nil)
theorem qk {n:Nat} (h:n+64<cLine):n+1<cLine:=by omega
section
variable {X:Cx} {e b c:Expr} {p pos tpos apos cpos:Pos} {f fk fv fx:Dv->Option D}
theorem m9 (i:Nat) {x:Str} {pos':Pos} (hN:X.N.Nodup) (hi:X.N[i]? = some x:=by rfl) (hx:ur X.env.scope x:=by first | exact Or.inl rfl | exact Or.inr rfl) (hs:swapsWith (.Dict [] [] p) (some (.Name x pos')) pos.line X.env=pure false:=by rfl)
  (hf:X.fn x=true\/X.env.scope.names.lookup x=some .local:=by first | exact .inl rfl | exact .inr rfl | assumption):SV X (.Assign [.Name x pos'] (.Dict [] [] p) pos) (j8 i):=
 PS.imp (iS hN hi hx vb hs hf) fun D σ H h=>by
  obtain ⟨H₀,Z₀,Z,δ,r,hh,e,k⟩:=h
  cases e
  exact fun p hp=>k _ _ Z (hh.setW hp (.dct ⟨rfl,.nil⟩)) (Same.refl _)
theorem fQ {K:Fg} {H₀ Z₀ Z:Hp} {δ:Dv} {σ:St} {H:Hp} (hh:Hold K H₀ Z₀ Z δ σ H) {i:Nat} {es:List (ay×D)} (h:qw δ[i]? = some es):∃ a kvs,σ[i]? = some (some (V.ref a))/\H a=some (.dK kvs)/\gp K Z kvs es:=by
 obtain ⟨a,kvs,h1,_,_,h4,h5⟩:=hh.od i es (gH h)
 exact ⟨a,kvs,h1,h4,h5⟩
theorem sC (i:Nat) {x:Str} (hu:X.A.units+1<cLine) (hb:EV X b fk) (hsl:yO b) (hN:X.N[i]? = some x:=by rfl) (hv:uu X.env.scope x:=by first | exact Or.inl rfl | exact Or.inr (Or.inl rfl) | exact Or.inr (Or.inr rfl)) (hd:(x==("__debug__":Str))=false:=by decide) (hcd:(x==("__classdict__":Str))=false:=by decide) :
  EV X (.Subscript (.Name x p) b pos) (kt i fk):=
 PE.imp (rN hu (eA hN hv hd hcd) hb hsl) fun σ H Q h=>by
  obtain ⟨H₀,Z₀,Z,δ,d,hh,e,k⟩:=h
  obtain ⟨es,e1,e⟩:=bind_some e
  obtain ⟨y,e2,e⟩:=bind_some e
  obtain ⟨ky,e3,e⟩:=bind_some e
  obtain ⟨a,kvs,h1,h4,h5⟩:=fQ hh e1
  refine ⟨_,h1,H₀,Z₀,Z,δ,y,hh,e2,fun v Z1 H1 hh1 t1 r1=>?_⟩
  obtain ⟨a',kvs',g1,g4,g5⟩:=fQ hh1 e1
  rw [h1] at g1
  cases g1
  obtain rfl:=dS r1 e3
  rcases kc ky g5 with ⟨_,q⟩ | ⟨w,d',q1,q2,rw'⟩
  ·rw [e] at q; cases q
  ·rw [e] at q2
   cases q2
   exact ⟨a,w,rfl,q1 ▸ DGet.k g4,k w Z1 H1 hh1 t1 rw'⟩
theorem pU (i:Nat) {x:Str} (hu:X.A.units+1<cLine) (hb:EV X b fk) (hc:EV X c fx) (m:M2 X (.Name x p) "get" apos b c cpos) (hN:X.N[i]? = some x:=by rfl) (hv:uu X.env.scope x:=by first | exact Or.inl rfl | exact Or.inr (Or.inl rfl) | exact Or.inr (Or.inr rfl)) (hd:(x==("__debug__":Str))=false:=by decide) (hcd:(x==("__classdict__":Str))=false:=by decide) :
  EV X (.Call (.Attribute (.Name x p) "get" apos) [b,c] [] cpos) (gL i fk fx):=
 PE.imp (vc hu (eA hN hv hd hcd) hb hc m) fun σ H Q h=>by
  obtain ⟨H₀,Z₀,Z,δ,d,hh,e,k⟩:=h
  obtain ⟨es,e1,e⟩:=bind_some e
  obtain ⟨y,e2,e⟩:=bind_some e
  obtain ⟨z,e3,e⟩:=bind_some e
  obtain ⟨ky,e4,e⟩:=bind_some e
  cases e
  obtain ⟨a,kvs,h1,h4,h5⟩:=fQ hh e1
  refine ⟨_,h1,a,rfl,.inl ⟨kvs,.inl h4⟩,H₀,Z₀,Z,δ,y,hh,e2,fun v Z1 H1 hh1 t1 r1=>⟨H₀,Z₀,Z1,δ,z,hh1,e3,fun u Z2 H2 hh2 t2 r2=>?_⟩⟩
  obtain ⟨a',kvs',g1,g4,g5⟩:=fQ hh2 e1
  rw [h1] at g1
  cases g1
  obtain rfl:=dS r1 e4
  rcases kc ky g5 with ⟨q,q'⟩ | ⟨w,d',q1,q2,rw'⟩
  ·refine ⟨none,q ▸ DGet.k g4,k u Z2 H2 hh2 (t1.trans t2) ?_⟩
   rw [q']; exact r2
  ·refine ⟨some w,q1 ▸ DGet.k g4,k w Z2 H2 hh2 (t1.trans t2) ?_⟩
   rw [q2]; exact rw'
theorem g7 (i:Nat) {x:Str} (hu:X.A.units+1<cLine) (hb:EV X b fk) (hv':EV X e fv) (hN:X.N[i]? = some x:=by rfl) (hv:uu X.env.scope x:=by first | exact Or.inl rfl | exact Or.inr (Or.inl rfl) | exact Or.inr (Or.inr rfl)) (hd:(x==("__debug__":Str))=false:=by decide) (hcd:(x==("__classdict__":Str))=false:=by decide)
  (hs:swapsWith e (some (.Subscript (.Name x p) b tpos)) pos.line X.env=pure false:=by rfl):SV X (.Assign [.Subscript (.Name x p) b tpos] e pos) (br i fk fv):=
 PS.imp (rK hu (eA hN hv hd hcd) hb hv' hs) fun D σ H h=>by
  obtain ⟨H₀,Z₀,Z,δ,r,hh,e,k⟩:=h
  obtain ⟨v,e1,e⟩:=bind_some e
  obtain ⟨es,e2,e⟩:=bind_some e
  obtain ⟨y,e3,e⟩:=bind_some e
  obtain ⟨ky,e4,e⟩:=bind_some e
  obtain ⟨hl,e5⟩:=bX e
  cases e5
  refine ⟨H₀,Z₀,Z,δ,v,hh,e1,fun w Z1 H1 hh1 t1 r1=>?_⟩
  obtain ⟨a,kvs,h1,h4,h5⟩:=fQ hh1 e2
  refine ⟨_,h1,H₀,Z₀,Z1,δ,y,hh1,e3,fun u Z2 H2 hh2 t2 r2=>?_⟩
  obtain ⟨a',kvs',g1,g4,g5⟩:=fQ hh2 e2
  rw [h1] at g1
  cases g1
  obtain rfl:=dS r2 e4
  exact ⟨a,_,rfl,DPut.k g4 (by rw [dO g5]; exact hl),k σ _ Z2 (hh2.chgW (gH e2) h1 (.dct (kb g5 ky (r1.same t2)))) (t1.trans t2)⟩
theorem sy (i:Nat) {x:Str} {p2:Pos} (hg:Gl X "len") (hm:X.mg "len" = none) (hN:X.N[i]? = some x:=by rfl) (hv:uu X.env.scope x:=by first | exact Or.inl rfl | exact Or.inr (Or.inl rfl) | exact Or.inr (Or.inr rfl)) (hd:(x==("__debug__":Str))=false:=by decide) (hcd:(x==("__classdict__":Str))=false:=by decide)
  (he:starEach [.Name x p2] X.env=(false,eval (.Name x p2) X.env)::starEach [] X.env:=by rfl) (hpl:(backTo pos (starEach [] X.env)).any (·.1)=false:=by rfl):EV X (.Call (.Name "len" p) [.Name x p2] [] pos) (kr i):=
 PE.imp (dR um hg hm PySem.boot_len (bE (eA hN hv hd hcd) dl he) (by decide) (by decide) he hpl) fun σ H Q h=>by
  obtain ⟨H₀,Z₀,Z,δ,d,hh,e,k⟩:=h
  obtain ⟨es,e1,e⟩:=bind_some e
  cases e
  obtain ⟨a,kvs,h1,h4,h5⟩:=fQ hh e1
  exact ⟨_,h1,a,kvs,rfl,h4,k _ Z H hh (Same.refl _) (by rw [dO h5]; exact .int _)⟩
end
end VL
set_option Elab.async false
set_option linter.all false
set_option maxRecDepth 100000
set_option maxHeartbeats 4000000
namespace VL
open PySem PySem.Spec PyProof.Rows L2
noncomputable def qO (x:Int):List Int->List Int
 | []=>[x]
 | y::r=>if x<=y then x::y::r else y::qO x r
noncomputable def bo:List Int->List Int
 | []=>[]
 | x::r=>qO x (bo r)
theorem i6 (x:Int):∀ l:List Int,(qO x l).Perm (x::l)
 | []=>.refl _
 | y::r=>by
  unfold qO
  split
  ·exact .refl _
  ·exact ((i6 x r).cons y).trans (.swap x y r)
theorem dh:∀ l:List Int,(bo l).Perm l
 | []=>.refl _
 | x::r=>(i6 x _).trans ((dh r).cons x)
theorem sj (x:Int):∀ l:List Int,l.Pairwise (· <= ·)->(qO x l).Pairwise (· <= ·)
 | [],_=>by simp [qO]
 | y::r,h=>by
  obtain ⟨h1,h2⟩:=List.pairwise_cons.mp h
  unfold qO
  split
  ·rename_i hx
   exact List.pairwise_cons.mpr ⟨fun z hz=>by rcases List.mem_cons.mp hz with rfl | hz; exact hx; exact Int.le_trans hx (h1 z hz),h⟩
  ·rename_i hx
   refine List.pairwise_cons.mpr ⟨fun z hz=>?_,sj x r h2⟩
   rcases List.mem_cons.mp ((i6 x r).mem_iff.mp hz) with rfl | hz
   ·omega
   ·exact h1 z hz
theorem iZ:∀ l:List Int,(bo l).Pairwise (· <= ·)
 | []=>.nil
 | x::r=>sj x _ (iZ r)
theorem jY:∀ {a b:List Int},a.Perm b->a.Pairwise (· <= ·)->b.Pairwise (· <= ·)->a=b
 | [],b,p,_,_=>(List.nil_perm.mp p).symm
 | x::a,b,p,ha,hb=>by
  cases b with
  | nil=>exact absurd (List.perm_nil.mp p) (by simp)
  | cons y b=>
   obtain ⟨ha1,ha2⟩:=List.pairwise_cons.mp ha
   obtain ⟨hb1,hb2⟩:=List.pairwise_cons.mp hb
   have e:x=y:=by
    have h1:x∈y::b:=p.mem_iff.mp List.mem_cons_self
    have h2:y∈x::a:=p.mem_iff.mpr List.mem_cons_self
    rcases List.mem_cons.mp h1 with h1 | h1
    ·exact h1
    ·rcases List.mem_cons.mp h2 with h2 | h2
     ·exact h2.symm
     ·exact Int.le_antisymm (ha1 y h2) (hb1 x h1)
   subst e
   rw [jY (List.perm_cons x |>.mp p) ha2 hb2]
theorem i3 {a b:List Int} (p:a.Perm b) (h:a.Pairwise (· <= ·)):a=bo b:=jY (p.trans (dh b).symm) h (iZ b)
noncomputable def Dl:ay->Option Int
 | .inl i=>some i
 | .inr _=>none
noncomputable def gB:List (ay×D)->Option (List Int)
 | []=>some []
 | p::r=>(Dl p.1).bind fun i=>(gB r).bind fun l=>some (i::l)
noncomputable def fR (i:Nat):Dv->Option D:=fun δ=>(qw δ[i]?).bind fun es=>(gB es).bind fun l=>if l.length<64 then some (.list ((bo l).map .int)) else none
noncomputable def jm:D->Option D
 | .int j=>if j<=16777216 /\ -4611686018427387904<=j then some (.list (jw 0 j.toNat)) else none
 | _=>none
theorem fS:∀ {es:List (ay×D)} {l:List Int},gB es=some l->es.map (·.1)=l.map Sum.inl
 | [],_,h=>by cases h; rfl
 | (.inl i,d)::r,l,h=>by
  obtain ⟨m,hm,e⟩:=bind_some h
  cases hm
  obtain ⟨l',h',e⟩:=bind_some e
  cases e
  rw [List.map_cons,fS h']; rfl
 | (.inr x,d)::r,l,h=>by cases h
theorem si {P:Program} {w:World}:∀ {acc:List Value} {kvs:List (ay×Value)} {l:List Int},acc.length=kvs.length->(∀ (j:Nat) (v:Value),acc[j]? = some v->∃ k x,kvs[j]? = some (k,x)/\(aA P w).is k v=true)->kvs.map (·.1)=l.map Sum.inl->IntsAre acc l
 | [],kvs,l,h1,_,h3=>by
  have:kvs=[]:=List.length_eq_zero_iff.mp h1.symm
  subst this
  have:l=[]:=by simpa using h3.symm
  subst this; exact .nil
 | v::acc,kv::kvs,l,h1,h2,h3=>by
  cases l with
  | nil=>cases h3
  | cons i l=>
   rw [List.map_cons,List.map_cons,List.cons.injEq] at h3
   obtain ⟨k,x,e,hk⟩:=h2 0 v rfl
   cases e
   have hk':jn k v=true:=hk
   have h3':k=Sum.inl i:=h3.1
   subst h3'
   rcases bb hk' with ⟨i',t,e1,rfl⟩ | ⟨y,t,e1,rfl⟩
   ·cases e1
    exact .cons i t (si (P:=P) (w:=w) (by simpa using h1) (fun j v e=>h2 (j+1) v e) h3.2)
   ·cases e1
theorem cU:∀ {out:List Value} {l:List Int},IntsAre out l->Vals (l.map V.int) out
 | _,_,.nil=>.nil
 | _,_,.cons n t r=>.cons ⟨t,rfl⟩ (cU r)
theorem nK {κ:Type}:∀ {kvs:List (κ × V)} {vs:List (κ × Value)},KV kvs vs->vs.map (·.1)=kvs.map (·.1)
 | _,_,.nil=>rfl
 | _,_,.cons r q=>by rw [List.map_cons,List.map_cons,nK q,r.1]
theorem bz {h:Heap} {a b:Addr} {f:Obj->Obj} {o:Obj} (hab:b≠a) (e:h.get? b=some o):(h.update a f).get? b=some o:=(Heap.get?_update_other _ _ (Ne.symm hab)).trans e
theorem wA {acc:Array Value} {n:Nat} (h:ItemsOf (fun i v=>∃ t,v=.int ((0:Int)+i*1) t) acc n):Vals ((List.range n).map fun k=>V.int (k:Nat)) acc.toList:=by
 obtain ⟨h1,h2⟩:=h
 subst h1
 have key:∀ (l:List Value) (m:Nat),(∀ (j:Nat) (v:Value),l[j]? = some v->∃ t,v=Value.int ((m+j:Nat):Int) t)->Vals ((List.range' m l.length).map fun k=>V.int (k:Nat)) l:=by
  intro l
  induction l with
  | nil=>intro m _; exact .nil
  | cons v l ih=>
   intro m h
   obtain ⟨t,rfl⟩:=h 0 v rfl
   rw [List.length_cons,List.range'_succ]
   exact .cons ⟨t,rfl⟩ (ih (m+1) fun j v e=>by obtain ⟨t,q⟩:=h (j+1) v e; exact ⟨t,by rw [q]; congr 2; omega⟩)
 have:=key acc.toList 0 fun j v e=>by
  obtain ⟨t,q⟩:=h2 j v (by rw [<- Array.getElem?_toList]; exact e)
  exact ⟨t,by rw [q]; congr 1; omega⟩
 rwa [Array.length_toList,<- List.range_eq_range'] at this
section
variable {X:Cx}
theorem iD (hc:X.calm=true):CallR X (.builtin "sorted") (fun xs H Q=>∃ a kvs ns,xs=[V.ref a]/\H a=some (.dK kvs)/\kvs.map (·.1)=ns.map Sum.inl/\ns.length<64/\∀ l,H l=none->Q (.ref l) (upd H l (.lst ((bo ns).map V.int)))):=by
 intro pins s σ H xs us Q I r h
 obtain ⟨a,kvs,ns,rfl,ha,hk,h64,q⟩:=h
 obtain ⟨u,rfl,ru⟩:=gr r
 cases ru
 obtain ⟨z,hd,vs,rel,dd⟩:=iz I.hok (.inl ha)
 obtain ⟨ep,dat⟩:=dd.dictAt
 have hln:vs.length=ns.length:=by
  have:=congrArg List.length hk
  simp only [List.length_map] at this
  rw [<- rel.length,this]
 refine Calls.call_function_entry kind_sorted plain_sorted entry_sorted (args_sorted1 _) ?_
 unfold Builtin.«sorted»
 refine wpAny_bind (m:=checkCount "sorted" 1 1 _) (wpAny_pure ?_)
 refine wpAny_bind (PySem.W.kdu_collect (A:=X.A.in1) (PySem.W.kdl_dict (knd:=aA X.prog X.w) (kvs:=vs) (ep:=ep) hd) (I.ok.hd hc) dat (by rw [hln,sizeLine_eq]; omega) fun h' tk acc hk' hacc=>?_)
 have hal:acc.toList.length=vs.length:=by rw [Array.length_toList]; exact hacc.1
 have hI:IntsAre acc.toList ns:=si (P:=X.prog) (w:=X.w) hal (fun j v e=>hacc.2 j v (by rw [<- Array.getElem?_toList]; exact e)) (by rw [nK rel]; exact hk)
 refine wpAny_bind (wpAny_newList ?_ (by rw [hal,hln,sizeLine_eq]; omega))
 have hoL:(h'.push (seqObj "list" acc.toList.toArray 0)).get? h'.objs.size=some (seqObj "list" acc.toList.toArray 0):=Heap.get?_push_size _ rfl
 refine wpAny_bind (wpAny_holding (wpAny_call_entry slot_list_sort ⟨_,hoL,rfl⟩ entry_list_sort (list_sort_tree hoL hI (by rw [hal,hln]; exact h64) fun out ns' a1 a2 a3=>⟨_,rfl,?_⟩) (args_list_sort _)))
 refine wpAny_pure ⟨_,rfl,?_⟩
 have e:=i3 a2 a3
 subst e
 have I1:Inv X pins σ H { s with heap:=h',toks:=tk }:=I.kept hk'
 have kp:∀ b o,h'.get? b=some o->(sortedHeap (h'.push (seqObj "list" acc.toList.toArray 0)) h'.objs.size acc.toList out).get? b=some o:=fun b o eo=>by
  have hb:b≠h'.objs.size:=Nat.ne_of_lt (Heap.lt_size eo)
  exact bz hb (Heap.get?_push_of_some _ (Heap.get?_push_of_some _ (bz hb (Heap.get?_push_of_some _ eo))))
 have hlen:out.toList.length=ns.length:=by rw [(cU a1).length.symm,List.length_map,a2.length_eq]
 obtain ⟨e1,ho1⟩:∃ e1,((h'.push (seqObj "list" acc.toList.toArray 0)).update h'.objs.size (Obj.mapSeq fun _=>#[])).get? h'.objs.size=some (seqObj "list" #[] e1):=⟨_,get?_update_seq hoL (fun _=>#[])⟩
 have ho2:=Heap.get?_push_of_some (seqObj "list" #[] 0) (Heap.get?_push_of_some (seqObj "tuple" acc.toList.toArray 0) ho1)
 have ho3:=get?_update_seq ho2 (fun _=>out)
 have L:=I1.laid (h':=sortedHeap (h'.push (seqObj "list" acc.toList.toArray 0)) h'.objs.size acc.toList out) (a:=h'.objs.size) (o:=.lst ((bo ns).map V.int)) (t':=tk) kp (Nat.le_refl _)
  (show ObjOk X.prog X.w _ _ _ (.lst ((bo ns).map V.int)) from ⟨by rw [List.length_map,(dh ns).length_eq,sizeLine_eq]; omega,out.toList,_,cU a1,by rw [Array.toArray_toList]; exact ho3⟩)
 exact ⟨.ref h'.objs.size,_,L,rfl,q _ (I1.hok.fresh (Nat.le_refl _))⟩
variable {e:Expr} {p p2 pos pos2:Pos} {te:TE} {f:Dv->Option D}
theorem pT (i:Nat) {x:Str} (hg:Gl X "sorted") (hm:X.mg "sorted" = none) (hc:X.calm=true:=by rfl) (hN:X.N[i]? = some x:=by rfl) (hv:uu X.env.scope x:=by first | exact Or.inl rfl | exact Or.inr (Or.inl rfl) | exact Or.inr (Or.inr rfl)) (hd:(x==("__debug__":Str))=false:=by decide) (hcd:(x==("__classdict__":Str))=false:=by decide)
  (he:starEach [.Name x p2] X.env=(false,eval (.Name x p2) X.env)::starEach [] X.env:=by rfl) (hpl:(backTo pos (starEach [] X.env)).any (·.1)=false:=by rfl):EV X (.Call (.Name "sorted" p) [.Name x p2] [] pos) (fR i):=
 PE.imp (dR (iD hc) hg hm (by decide +kernel) (bE (eA hN hv hd hcd) dl he) (by decide) (by decide) he hpl) fun σ H Q h=>by
  obtain ⟨H₀,Z₀,Z,δ,d,hh,e,k⟩:=h
  obtain ⟨es,e1,e⟩:=bind_some e
  obtain ⟨l,e2,e⟩:=bind_some e
  obtain ⟨h64,e⟩:=bX e
  cases e
  obtain ⟨a,kvs,h1,h4,h5⟩:=fQ hh e1
  refine ⟨_,h1,a,kvs,l,rfl,h4,by rw [<- h5.1]; exact fS e2,h64,fun l' hl=>?_⟩
  have n:=New.add hh.zh hl (.lst ((bo l).map V.int))
  exact k _ _ _ (hh.new n) n.z (.lst (SqL.of aw) (Reps.ints _))
noncomputable def Cc (te:TE):TE:=fun σ H Q=>te σ H fun v H1=>∃ j:Int,[v]=[V.int j]/\j<=16777216 /\ -4611686018427387904<=j/\∀ l,H1 l=none->Q (.ref l) (upd H1 l (.lst ((List.range j.toNat).map fun k=>V.int (k:Nat))))
theorem xJ (hc:X.calm=true) (hg:Gl X "list") (hm:X.mg "list" = none) (hg':Gl X "range") (hm':X.mg "range" = none) (ha:PE X e te)
  (he:starEach [.Call (.Name "range" p2) [e] [] pos2] X.env=(false,eval (.Call (.Name "range" p2) [e] [] pos2) X.env)::starEach [] X.env:=by rfl)
  (he2:starEach [e] X.env=(false,eval e X.env)::starEach [] X.env:=by rfl) (hpl:(backTo pos (starEach [] X.env)).any (·.1)=false:=by rfl) (hpl2:(backTo pos2 (starEach [] X.env)).any (·.1)=false:=by rfl) :
  PE X (.Call (.Name "list" p) [.Call (.Name "range" p2) [e] [] pos2] [] pos) (Cc te):=by
 intro pins s σ H Q I h
 refine wpAny_Call_Name_kw (fh I hg hm (u:=.type "list") (by decide +kernel) ?_ (by decide) (by decide))
 refine PyProof.Rows.callWith_type1 ?_ he hpl
 rw [he]
 show wpAny _ _ (spliced ((false,eval _ X.env)::backTo pos (starEach [] X.env))) _ _ s
 refine Calls.spliced_cons ?_
 refine wpAny_Call_Name_kw (fh I hg' hm' (u:=.type "range") (by decide +kernel) ?_ (by decide) (by decide))
 refine PyProof.Rows.callWith_type1 (bU (bE ha dl he2 pos2 pins s σ H (fun xs H1=>∃ j:Int,xs=[V.int j]/\j<=16777216 /\ -4611686018427387904<=j/\∀ l,H1 l=none->Q (.ref l) (upd H1 l (.lst ((List.range j.toNat).map fun k=>V.int (k:Nat))))) I (by exact h)) fun us s1 ⟨vs,H1,I1,r1,q1⟩=>?_) he2 hpl2
 obtain ⟨j,e1,h1,h2,q⟩:=q1
 subst e1
 obtain ⟨u,rfl,rx⟩:=gr r1
 obtain ⟨t,rfl⟩:=rx
 refine call_range_1 ?_
 refine Calls.spliced_nil ?_
 refine call_list_range (I1.ok.hd hc) (IsRange.new ..) (small_one (by omega) (by omega) (by omega) (by omega)) (n:=j.toNat) (by rw [rangeSize_one]; split <;> omega) (by omega) fun h' tk acc c hk hS hacc=>?_
 have hal:=wA hacc
 have L:=I1.laid (h':=h') (a:=(s1.heap.push { cls:=.type "range",data:=.fields #[.int 0 s1.toks,.int j t,.int 1 (s1.toks+1)] }).objs.size) (o:=.lst ((List.range j.toNat).map fun k=>V.int (k:Nat))) (t':=tk) (fun b o eo=>hk b o (Heap.get?_push_of_some _ eo)) (by rw [Heap.size_push]; exact Nat.le_succ _)
  (show ObjOk X.prog X.w _ _ _ (.lst ((List.range j.toNat).map fun k=>V.int (k:Nat))) from ⟨by rw [List.length_map,List.length_range,sizeLine_eq]; omega,acc.toList,_,hal,by rw [Array.toArray_toList]; exact hS⟩)
 exact ⟨.ref _,_,L,rfl,q _ (I1.hok.fresh (by rw [Heap.size_push]; exact Nat.le_succ _))⟩
theorem yt (hg:Gl X "list") (hm:X.mg "list" = none) (hg':Gl X "range") (hm':X.mg "range" = none) (ha:EV X e f) (hc:X.calm=true:=by rfl)
  (he:starEach [.Call (.Name "range" p2) [e] [] pos2] X.env=(false,eval (.Call (.Name "range" p2) [e] [] pos2) X.env)::starEach [] X.env:=by rfl)
  (he2:starEach [e] X.env=(false,eval e X.env)::starEach [] X.env:=by rfl) (hpl:(backTo pos (starEach [] X.env)).any (·.1)=false:=by rfl) (hpl2:(backTo pos2 (starEach [] X.env)).any (·.1)=false:=by rfl) :
  EV X (.Call (.Name "list" p) [.Call (.Name "range" p2) [e] [] pos2] [] pos) (o1 f jm):=
 PE.imp (xJ hc hg hm hg' hm' ha he he2 hpl hpl2) fun σ H Q h=>by
  obtain ⟨H₀,Z₀,Z,δ,d,hh,e,k⟩:=h
  obtain ⟨d1,e1,e⟩:=bind_some e
  refine ⟨H₀,Z₀,Z,δ,d1,hh,e1,fun v Z1 H1 hh1 t1 r1=>?_⟩
  cases d1 with
  | int j=>
   obtain ⟨hj,e⟩:=bX e
   cases e
   refine ⟨j,by rw [r1.int_eq],hj.1,hj.2,fun l hl=>?_⟩
   have n:=New.add hh1.zh hl (.lst ((List.range j.toNat).map fun k=>V.int (k:Nat)))
   refine k _ _ _ (hh1.new n) (t1.trans n.z) (.lst (SqL.of aw) ?_)
   have:=Reps.ints (K:=X.K) (Z:=upd Z1 l (.lst ((List.range j.toNat).map fun k=>V.int (k:Nat)))) ((List.range j.toNat).map fun k=>((k:Nat):Int))
   simpa [jw,List.map_map,Function.comp_def] using this
  | _=>cases e
end
end VL
set_option Elab.async false
set_option linter.all false
set_option maxRecDepth 100000
set_option maxHeartbeats 4000000
namespace VL
open PySem PySem.Spec PyProof.Rows L2
section
variable {prog:Program} {w:World} {A:Around} {E:Value->Shared->Prop} {s:Shared}
structure ZG (xs ys:Array Value) (lo:Addr) (h:Heap) (as:List Addr):Prop where
 above:∀ a∈as,lo<=a
 rise:as.Pairwise (· < ·)
 pairs:∀ (j:Nat) (a:Addr),as[j]? = some a->∃ x y,xs[j]? = some x/\ys[j]? = some y/\IsPair h a x y
end
end VL
set_option Elab.async false
set_option linter.all false
set_option maxRecDepth 100000
set_option maxHeartbeats 4000000
namespace VL
open PySem PySem.Spec PyProof.Rows L2
noncomputable def B0:List D->Option D
 | [.list a,.list b]=>some (.list (List.zipWith (fun x y=>.tuple [x,y]) a b))
 | _=>none
@[simp] noncomputable def Hj (fs:Dv->Option (List D)) (g:List D->Option D):Dv->Option D:=fun δ=>(fs δ).bind g
@[simp] theorem Ef (a b:List D):B0 [.list a,.list b]=some (.list (List.zipWith (fun x y=>.tuple [x,y]) a b)):=rfl
section
variable {prog:Program} {w:World} {A:Around} {s:Shared} {R:Result->Shared->Prop} {z TI TO i1 i2 l1 l2 S lo:Addr} {xs ys:Array Value}
end
section
variable {prog:Program} {w:World} {A:Around} {E:Value->Shared->Prop} {s:Shared} {z TI TO i1 i2 l1 l2:Addr} {xs ys:Array Value}
end
theorem tX {X:Cx} {pins:List (Addr×Obj)} {σ:St} {H H':Hp} {s:Shared} {h':Heap} {t':Nat} (I:Inv X pins σ H s) (k:∀ b u,s.heap.get? b=some u->h'.get? b=some u) (ext:∀ b,H b≠none->H' b=H b)
  (new:∀ b o,H b=none->H' b=some o->s.heap.objs.size<=b/\ObjOk X.prog X.w H' h' b o):Inv X pins σ H' { s with heap:=h',toks:=t' }:=by
 have e':∀ {b:Addr} {u:HO},H b=some u->H' b=some u:=fun {b u} q=>by rw [ext b (by rw [q]; simp),q]
 refine I.un ⟨fun b u q _ _ _=>k b u q,fun b u q _ _ _=>⟨u.slots,k b u q⟩,fun b u q n _=>?_,fun b u q _=>⟨u,k b u q⟩,fun b xs q=>e' q,fun b u xs q=>e' q,fun b ps q=>⟨#[],by rw [e' q]; simp⟩⟩ fun b u e=>?_
 ·cases q':H' b with
  | none=>rfl
  | some o=>exact absurd (Heap.lt_size q) (Nat.not_lt.mpr (new b o n q').1)
 ·by_cases n:H b=none
  ·exact (new b u n e).2
  ·cases q:H b with
   | none=>exact absurd q n
   | some u'=>
    have:=e' q
    rw [e] at this
    cases this
    exact (I.hok b u q).stay (fun c v _ q=>k c v q) (fun c q=>e' q) fun c xs q=>e' q
noncomputable def tF:List Addr->List (List V)->Addr->Option HO
 | a::as,t::ts,b=>if b=a then some (.tup t) else tF as ts b
 | _,_,_=>none
theorem mm:∀ {as:List Addr} {ts:List (List V)} {b:Addr} {o:HO},tF as ts b=some o->∃ (j:Nat) (t:List V),as[j]? = some b/\ts[j]? = some t/\o=.tup t
 | [],_,_,_,h=>by cases h
 | _::_,[],_,_,h=>by cases h
 | a::as,t::ts,b,o,h=>by
  unfold tF at h
  split at h
  ·rename_i e
   cases h
   exact ⟨0,t,by rw [e]; rfl,rfl,rfl⟩
  ·obtain ⟨j,t',h1,h2,h3⟩:=mm h
   exact ⟨j+1,t',h1,h2,h3⟩
theorem oY:∀ {as:List Addr} {ts:List (List V)} {j:Nat} {a:Addr} {t:List V},as.Pairwise (· < ·)->as[j]? = some a->ts[j]? = some t->tF as ts a=some (.tup t)
 | [],_,_,_,_,_,h,_=>by simp at h
 | _::_,[],_,_,_,_,_,h=>by simp at h
 | a::as,t::ts,0,_,_,_,h1,h2=>by cases h1; cases h2; exact if_pos rfl
 | a::as,t::ts,j+1,b,u,h,h1,h2=>by
  obtain ⟨g1,g2⟩:=List.pairwise_cons.mp h
  have hb:=g1 b (List.mem_of_getElem? (by simpa using h1))
  unfold tF
  rw [if_neg (Nat.ne_of_gt hb)]
  exact oY g2 (by simpa using h1) (by simpa using h2)
section
variable {X:Cx} {e1 e2:Expr} {p p2 pos pos2:Pos} {ta:TA} {fs:Dv->Option (List D)}
noncomputable def BG:Option HO->Option HO
 | some (.frz _ (.lst _))=>none
 | o=>o
theorem oH {o:Option HO} {u:HO} (h:BG o=some u):o=some u/\xW u=true:=by
 unfold BG at h
 split at h
 ·cases h
 ·rename_i hn
  refine ⟨h,?_⟩
  unfold xW
  split
  ·exact absurd h (hn _ _)
  ·rfl
theorem New.many {Z H H':Hp} (zh:Same Z H) (ext:∀ b,H b≠none->H' b=H b):New Z H (fun b=>if H b=none then BG (H' b) else Z b) H' where
 z:=fun b u e=>by
  have:H b=some u:=zh b u e
  show (if H b=none then _ else _)=_
  rw [if_neg (by rw [this]; simp)]; exact e
 h:=fun b u e=>by rw [ext b (by rw [e]; simp),e]
 zh:=fun b u e=>by
  have e:(if H b=none then BG (H' b) else Z b)=some u:=e
  split at e
  ·exact (oH e).1
  ·rename_i n
   rw [ext b n]; exact zh b u e
 o:=fun b hb=>if_neg hb
 nf:=fun b o xs e=>by
  have e:(if H b=none then BG (H' b) else Z b)=_:=e
  split at e
  ·cases (oH e).2
  ·exact e
end
end VL
set_option Elab.async false
set_option linter.all false
set_option maxRecDepth 100000
set_option maxHeartbeats 4000000
namespace VL
open PySem PySem.Spec PyProof.Rows L2
noncomputable def kH:List (ay×D)->Option (List (ay×Int))
 | []=>some []
 | (k,.int i)::r=>(kH r).bind fun l=>some ((k,i)::l)
 | _=>none
noncomputable def lO (i:Nat) (δ:Dv):Dv:=match δ[i]? with
 | some (.own (.d es))=>match kH es with
  | some l=>δ.set i (.fz (.dict (dctD l)))
  | none=>δ
 | _=>δ
noncomputable def fK:List (D×D)->Option (List (ay×Int))
 | []=>some []
 | (k,.int i)::r=>(gP k).bind fun k=>(fK r).bind fun l=>some ((k,i)::l)
 | _=>none
theorem qL (k:ay):gP (vI k)=some k:=by cases k <;> rfl
@[simp] theorem cA:∀ es:List (ay×Int),fK (dctD es)=some es
 | []=>rfl
 | (k,i)::r=>by
  show (gP (vI k)).bind _=_
  rw [qL]
  show (fK (dctD r)).bind _=_
  rw [cA r]; rfl
noncomputable def kM (es:List (ay×Int)) (k:ay):Option Int:=(es.find? fun p=>decide (p.1=k)).map (·.2)
noncomputable def fC:D->D->Option D
 | .dict kvs,k=>(fK kvs).bind fun es=>(gP k).bind fun k=>(kM es k).map .int
 | _,_=>none
noncomputable def fN:D->Option D
 | .dict kvs=>(fK kvs).bind fun es=>(gB (es.map fun p=>(p.1,PyData.int p.2))).bind fun l=>if l.length<64 then some (.list ((bo l).map .int)) else none
 | _=>none
theorem pL:∀ {es:List (ay×D)} {l:List (ay×Int)},kH es=some l->es=l.map fun p=>(p.1,PyData.int p.2)
 | [],_,h=>by cases h; rfl
 | (k,.int i)::r,l,h=>by
  obtain ⟨m,hm,e⟩:=bind_some h
  cases e
  rw [pL hm]; rfl
 | (k,.none)::r,l,h=>by cases h
 | (k,.bool _)::r,l,h=>by cases h
 | (k,.str _)::r,l,h=>by cases h
 | (k,.tuple _)::r,l,h=>by cases h
 | (k,.list _)::r,l,h=>by cases h
 | (k,.dict _)::r,l,h=>by cases h
theorem mi {K:Fg} {Z:Hp}:∀ {kvs:List (ay×V)} {l:List (ay×Int)},gp K Z kvs (l.map fun p=>(p.1,PyData.int p.2))->kvs=l.map fun p=>(p.1,V.int p.2)
 | [],l,h=>by
  have:(l.map fun p=>(p.1,PyData.int p.2))=[]:=List.length_eq_zero_iff.mp (dO h).symm
  rw [List.map_eq_nil_iff.mp this]; rfl
 | kv::kvs,l,h=>by
  obtain ⟨d,fs,e,r,q⟩:=ge h
  cases l with
  | nil=>cases e
  | cons p l=>
   rw [List.map_cons,List.cons.injEq,Prod.mk.injEq] at e
   obtain ⟨⟨e1,e2⟩,e3⟩:=e
   subst e2
   subst e3
   obtain ⟨k,v⟩:=kv
   have e1:p.1=k:=e1
   have rv:v=V.int p.2:=r.int_eq
   subst rv
   rw [List.map_cons,<- mi q,e1]
theorem tZ {K:Fg} {H₀ Z₀ Z H:Hp} {δ:Dv} {σ:St} (h:Hold K H₀ Z₀ Z δ σ H) {i:Nat} {l:List (ay×Int)} (e:δ[i]? = some (.od (l.map fun p=>(p.1,PyData.int p.2)))):∃ Z',Same Z Z'/\Hold K H₀ Z₀ Z' (δ.set i (.fz (.dict (dctD l)))) σ H:=by
 obtain ⟨a,kvs,h1,h2,h3,h4,h5⟩:=h.od i _ e
 obtain rfl:=mi h5
 have hl:i < δ.length:=(List.getElem?_eq_some_iff.mp e).1
 have sz:Same Z (upd Z a (.dK (l.map fun p=>(p.1,V.int p.2)))):=de h3
 refine ⟨_,sz,fun b o q=>?_,h.h0,h.z0.trans sz,fun b hb=>?_,by simp [h.len],fun j d q=>?_,fun j d q=>?_,fun j k d1 d2 b hjk q1 q2=>?_,(h.fr.same sz).put (fun _ z=>nomatch z) fun _ _=>rfl,h.nf.upd a⟩
 ·by_cases hb:b=a
  ·subst hb; rw [aw] at q; cases q; exact h4
  ·rw [ar hb] at q; exact h.zh b o q
 ·rw [ar (fun z=>hb (by rw [z]; exact h2))]; exact h.zb b hb
 ·by_cases hj:i=j
  ·subst hj
   rw [List.getElem?_set_self hl] at q
   cases q
   exact ⟨.ref a,h1,.opq (.dct rfl aw)⟩
  ·rw [List.getElem?_set_ne hj] at q
   obtain ⟨v,g1,g2⟩:=h.fz j d q
   exact ⟨v,g1,g2.same sz⟩
 ·by_cases hj:i=j
  ·subst hj
   rw [List.getElem?_set_self hl] at q
   cases q
  ·rw [List.getElem?_set_ne hj] at q
   obtain ⟨b,ws,g1,g2,g3,g4,g5⟩:=h.own j d q
   have:b≠a:=fun z=>by subst z; exact h.dja i j _ d b hj e q h1 g1
   exact ⟨b,ws,g1,g2,by rw [ar this]; exact g3,g4,g5.same sz⟩
 ·by_cases hj:i=j
  ·subst hj
   rw [List.getElem?_set_self hl] at q1
   cases q1
  ·by_cases hk:i=k
   ·subst hk
    rw [List.getElem?_set_self hl] at q2
    cases q2
   ·rw [List.getElem?_set_ne hj] at q1
    rw [List.getElem?_set_ne hk] at q2
    exact h.dja j k d1 d2 b hjk q1 q2
section
variable {X:Cx} {st:Stmt} {s1:Sf} {a b:Expr} {f fk:Dv->Option D} {p pos:Pos}
theorem Bi {K:Fg} (i:Nat) {D:Ends} {σ:St} {H:Hp} (h:zL K (fun δ=>s1 (lO i δ)) D σ H):zL K s1 D σ H:=by
 obtain ⟨H₀,Z₀,Z,δ,r,hh,e,k⟩:=h
 have e:s1 (lO i δ)=some r:=e
 unfold lO at e
 split at e
 ·rename_i es q
  split at e
  ·rename_i l ql
   rw [pL ql] at q
   obtain ⟨Z1,t1,hh1⟩:=tZ hh q
   exact ⟨H₀,Z₀,Z1,_,r,hh1,e,fun σ2 H2 Z2 hh2 t2=>k σ2 H2 Z2 hh2 (t1.trans t2)⟩
  ·exact ⟨H₀,Z₀,Z,_,r,hh,e,k⟩
 ·exact ⟨H₀,Z₀,Z,_,r,hh,e,k⟩
theorem uD (i:Nat) (h:SV X st s1):SV X st (fun δ=>s1 (lO i δ)):=PS.imp h fun D σ H q=>Bi i q
theorem wc {K:Fg} {Z:Hp} {v:V} {kvs:List (D×D)} {es:List (ay×Int)} (r:Rep K Z v (.dict kvs)) (h:fK kvs=some es):∃ a,v=.ref a/\Z a=some (.dK (es.map fun p=>(p.1,V.int p.2))):=by
 cases r with
 | @opq a _ q=>
  cases q with
  | exc _ _=>cases h
  | fn _=>cases h
  | dct h1 h2=>
   subst h1
   rw [cA] at h
   cases h
   exact ⟨a,rfl,h2⟩
theorem lW (k:ay):∀ es:List (ay×Int),gE (es.map fun p=>(p.1,V.int p.2)) k=(kM es k).map V.int
 | []=>rfl
 | (k',i)::r=>by
  by_cases e:k'=k
  ·rw [List.map_cons,fH e]; simp [kM,List.find?_cons,e]
  ·rw [List.map_cons,fI e,lW k r]; simp [kM,List.find?_cons,e]
theorem iy (hu:X.A.units+1<cLine) (ha:EV X a f) (hb:EV X b fk) (hsl:yO b):EV X (.Subscript a b pos) (o2 f fk fC):=
 PE.imp (rN hu ha hb hsl) fun σ H Q h=>by
  obtain ⟨H₀,Z₀,Z,δ,d,hh,e,k⟩:=h
  obtain ⟨x,e1,e⟩:=bind_some e
  obtain ⟨y,e2,e⟩:=bind_some e
  cases x with
  | dict kvs=>
   obtain ⟨es,e3,e⟩:=bind_some e
   obtain ⟨ky,e4,e⟩:=bind_some e
   obtain ⟨i,e5,e⟩:=Option.map_eq_some_iff.mp e
   subst e
   refine ⟨H₀,Z₀,Z,δ,_,hh,e1,fun v Z1 H1 hh1 t1 r1=>⟨H₀,Z₀,Z1,δ,y,hh1,e2,fun u Z2 H2 hh2 t2 r2=>?_⟩⟩
   obtain ⟨ad,rfl,g⟩:=wc r1 e3
   obtain rfl:=dS r2 e4
   exact ⟨ad,V.int i,rfl,by have:=DGet.k (k:=ky) (hh2.zh _ _ (t2 _ _ g)); rw [lW,e5] at this; exact this,k _ Z2 H2 hh2 (t1.trans t2) (.int i)⟩
  | _=>cases e
theorem mM (hg:Gl X "sorted") (hm:X.mg "sorted" = none) (ha:EV X a f) (hc:X.calm=true:=by rfl)
  (he:starEach [a] X.env=(false,eval a X.env)::starEach [] X.env:=by rfl) (hpl:(backTo pos (starEach [] X.env)).any (·.1)=false:=by rfl):EV X (.Call (.Name "sorted" p) [a] [] pos) (o1 f fN):=
 PE.imp (dR (iD hc) hg hm (by decide +kernel) (bE ha dl he) (by decide) (by decide) he hpl) fun σ H Q h=>by
  obtain ⟨H₀,Z₀,Z,δ,d,hh,e,k⟩:=h
  obtain ⟨x,e1,e⟩:=bind_some e
  cases x with
  | dict kvs=>
   obtain ⟨es,e3,e⟩:=bind_some e
   obtain ⟨l,e4,e⟩:=bind_some e
   obtain ⟨h64,e⟩:=bX e
   cases e
   refine ⟨H₀,Z₀,Z,δ,_,hh,e1,fun v Z1 H1 hh1 t1 r1=>?_⟩
   obtain ⟨ad,rfl,g⟩:=wc r1 e3
   refine ⟨ad,_,l,rfl,hh1.zh _ _ g,by have:=fS e4; rw [<- this]; simp [List.map_map,Function.comp_def],h64,fun l' hl=>?_⟩
   have n:=New.add hh1.zh hl (.lst ((bo l).map V.int))
   exact k _ _ _ (hh1.new n) (t1.trans n.z) (.lst (SqL.of aw) (Reps.ints _))
  | _=>cases e
end
end VL
set_option Elab.async false
set_option linter.all false
set_option maxRecDepth 100000
set_option maxHeartbeats 4000000
namespace VL
open PySem PySem.Spec PyProof.Rows L2
section
variable {X:Cx}
end
section
variable {X:Cx} {e1 e2:Expr} {p p2 pos pos2:Pos} {ta:TA} {f g:Dv->Option D}
end
end VL
set_option Elab.async false
set_option linter.all false
set_option maxRecDepth 100000
set_option maxHeartbeats 4000000
namespace VL
open PySem PySem.Spec PyProof.Rows L2
section
variable {cmp:Nat->Nat->(Bool->Shared->Prop)->Shared->Prop} {N:Nat} {key:Nat->Int}
noncomputable def ky (key:Nat->Int) (p:Array Nat) (i:Nat):Int:=key (p.getD i 0)
structure Pm (N:Nat) (p:Array Nat):Prop where
 perm:p.toList.Perm (List.range N)
theorem Pm.size {p:Array Nat} (h:Pm N p):p.size=N:=by
 have:=h.perm.length_eq
 simpa using this
theorem Pm.lt {p:Array Nat} (h:Pm N p) (i:Nat) (hN:0<N):p.getD i 0<N:=by
 by_cases hi:i<p.size
 ·have e:p.getD i 0=p[i]:=by simp [Array.getD,hi]
  rw [e]
  have m:p[i]∈p.toList:=Array.getElem_mem_toList hi
  exact List.mem_range.mp (h.perm.mem_iff.mp m)
 ·have e:p.getD i 0=0:=by simp [Array.getD,hi]
  rw [e]; exact hN
theorem Pm.ne {p:Array Nat} (h:Pm N p) {i j:Nat} (hi:i<N) (hj:j<N) (e:p.getD i 0=p.getD j 0):i=j:=by
 have nd:p.toList.Nodup:=h.perm.nodup_iff.mpr List.nodup_range
 have hz:=h.size
 have e1:p.getD i 0=p.toList[i]'(by simpa [hz] using hi):=by simp [Array.getD,hz,hi]
 have e2:p.getD j 0=p.toList[j]'(by simpa [hz] using hj):=by simp [Array.getD,hz,hj]
 rw [e1,e2] at e
 have pw:=List.pairwise_iff_getElem.mp nd
 rcases Nat.lt_trichotomy i j with q | q | q
 ·exact absurd e (pw i j (by simpa [hz] using hi) (by simpa [hz] using hj) q)
 ·exact q
 ·exact absurd e.symm (pw j i (by simpa [hz] using hj) (by simpa [hz] using hi) q)
theorem Pm.of {p q:Array Nat} (h:Pm N p) (e:q.Perm p):Pm N q:=⟨(Array.perm_iff_toList_perm.mp e).trans h.perm⟩
variable {s:Shared} (hinj:∀ i j,i<N->j<N->key i=key j->i=j) (hc:∀ i j,i<N->j<N->i≠j->∀ C:Bool->Shared->Prop,C (decide (key i<key j)) s->cmp i j C s)
noncomputable def Up (key:Nat->Int) (p:Array Nat) (m:Nat):Prop:=∀ i j,i<j->j<m->ky key p i<ky key p j
noncomputable def Dn (key:Nat->Int) (p:Array Nat) (m:Nat):Prop:=∀ i j,i<j->j<m->ky key p j<ky key p i
include hinj in
theorem vF {p:Array Nat} (h:Pm N p) {i j:Nat} (hi:i<N) (hj:j<N) (hij:i≠j):ky key p i≠ky key p j:=fun e=>
 hij (h.ne hi hj (hinj _ _ (h.lt i (by omega)) (h.lt j (by omega)) e))
include hc in
theorem li {α:Type} {p:Array Nat} (h:Pm N p) (hN:0<N) (i j:Nat) (hi:i<N) (hj:j<N) (hij:i≠j) {k:Bool->PySem.W.KasT α} {Q:α -> Shared->Prop} (hk:(k (decide (ky key p i<ky key p j))).kasWp cmp Q s):(PySem.W.KasT.ask (p.getD i 0) (p.getD j 0) k).kasWp cmp Q s:=
 hc _ _ (h.lt i hN) (h.lt j hN) (fun e=>hij (h.ne hi hj e)) _ hk
include hinj hc in
theorem q8 {p:Array Nat} (h:Pm N p) {Q:Nat->Shared->Prop} {M:Nat} (hM:M<=N):∀ (f n:Nat),1<=n->n+f=M->Up key p n->(∀ m,n<=m->m<=M->Up key p m->(m=M\/ky key p m<ky key p (m-1))->Q m s)->(PySem.W.kas_asc p f n).kasWp cmp Q s
 | 0,n,h1,hf,up,q=>q n (Nat.le_refl _) (by omega) up (.inl (by omega))
 | f+1,n,h1,hf,up,q=>by
  refine li hc h (by omega) n (n-1) (by omega) (by omega) (by omega) ?_
  by_cases d:ky key p n<ky key p (n-1)
  ·rw [decide_eq_true d,if_pos rfl]
   exact q n (Nat.le_refl _) (by omega) up (.inr d)
  ·rw [decide_eq_false d,if_neg (by decide)]
   have ne:=vF hinj h (i:=n) (j:=n-1) (by omega) (by omega) (by omega)
   refine q8 h hM f (n+1) (by omega) (by omega) (fun i j hij hj=>?_) fun m a1 a2 a3 a4=>q m (by omega) a2 a3 a4
   by_cases hjn:j=n
   ·subst hjn
    by_cases hi:i=j-1
    ·subst hi; omega
    ·have:=up i (j-1) (by omega) (by omega); omega
   ·exact up i j hij (by omega)
include hinj hc in
theorem sE {p:Array Nat} (h:Pm N p) {Q:Array Nat×Nat×Nat->Shared->Prop} {M:Nat} (hM:M<=N):∀ (f n:Nat),1<=n->n+f=M->Dn key p n->(∀ m,n<=m->m<=M->Dn key p m->Q (p,m,0) s)->(PySem.W.kas_desc f p n 0).kasWp cmp Q s
 | 0,n,h1,hf,dn,q=>q n (Nat.le_refl _) (by omega) dn
 | f+1,n,h1,hf,dn,q=>by
  refine li hc h (by omega) n (n-1) (by omega) (by omega) (by omega) ?_
  have ne:=vF hinj h (i:=n) (j:=n-1) (by omega) (by omega) (by omega)
  by_cases d:ky key p n<ky key p (n-1)
  ·rw [decide_eq_true d,if_pos rfl,if_neg (by decide)]
   refine sE h hM f (n+1) (by omega) (by omega) (fun i j hij hj=>?_) fun m a1 a2 a3=>q m (by omega) a2 a3
   by_cases hjn:j=n
   ·subst hjn
    by_cases hi:i=j-1
    ·subst hi; omega
    ·have:=dn i (j-1) (by omega) (by omega); omega
   ·exact dn i j hij (by omega)
  ·rw [decide_eq_false d,if_neg (by decide)]
   refine li hc h (by omega) (n-1) n (by omega) (by omega) (by omega) ?_
   rw [decide_eq_true (show ky key p (n-1)<ky key p n by omega),if_pos rfl]
   exact q n (Nat.le_refl _) (by omega) dn
theorem uX {p:Array Nat} (h:Pm N p) (i j:Nat):Pm N (PySem.W.kas_rev p i j):=h.of (mirror_perm _ _ _ _)
theorem iw {p q:Array Nat} {i j:Nat} (e:p[i]? = q[j]?):p.getD i 0=q.getD j 0:=by
 rw [Array.getD_eq_getD_getElem?,Array.getD_eq_getD_getElem?,e]
theorem uY {p:Array Nat} (h:Pm N p) {n:Nat} (hn:n<=N) (k:Nat):ky key (PySem.W.kas_rev p 0 n) k=if k<n then ky key p (n-1-k) else ky key p k:=by
 have e:=getElem?_mirror_all (xs:=p) (i:=0) (j:=n) (by rw [h.size]; exact hn) k
 unfold ky PySem.W.kas_rev
 by_cases hk:k<n
 ·rw [if_pos ⟨Nat.zero_le _,hk⟩] at e
  rw [if_pos hk,iw e,Nat.zero_add]
 ·rw [if_neg (by omega)] at e
  rw [if_neg hk,iw e]
theorem Ah {p:Array Nat} (h:Pm N p) {n:Nat} (hn:n<=N) (dn:Dn key p n):Up key (PySem.W.kas_rev p 0 n) n:=fun i j hij hj=>by
 rw [uY h hn,uY h hn,if_pos (by omega),if_pos hj]
 exact dn _ _ (by omega) (by omega)
include hinj hc in
theorem wW {p:Array Nat} (h:Pm N p) {Q:Nat×Array Nat->Shared->Prop} {n:Nat} (h1:1<=n) (hn:n<=N) (dn:Dn key p n) (q:∀ m p',1<=m->m<=N->Pm N p'->Up key p' m->Q (m,p') s):(PySem.W.kas_tail3 n N p).kasWp cmp Q s:=by
 unfold PySem.W.kas_tail3
 rw [PySem.W.KasT.kasWp_bind]
 exact q8 hinj hc (uX h 0 n) (Nat.le_refl N) (N-n) n h1 (by omega) (Ah h hn dn) fun m a1 a2 a3 _=>q m _ (by omega) a2 (uX h 0 n) a3
include hinj hc in
theorem wg {p:Array Nat} (h:Pm N p) (hN:2<=N) {Q:Nat×Array Nat->Shared->Prop} (q:∀ m p',1<=m->m<=N->Pm N p'->Up key p' m->Q (m,p') s):(PySem.W.kas_count N p).kasWp cmp Q s:=by
 unfold PySem.W.kas_count
 rw [PySem.W.KasT.kasWp_bind]
 refine q8 hinj hc h (Nat.le_refl N) (N-1) 1 (Nat.le_refl _) (by omega) (fun i j a b=>by omega) fun n a1 a2 a3 a4=>?_
 by_cases e:(n==N)=true
 ·rw [if_pos e]
  exact q n p a1 a2 h a3
 ·rw [if_neg e]
  have hne:n≠N:=fun z=>e (by rw [z]; exact beq_self_eq_true _)
  by_cases e2:n>1
  ·rw [if_pos e2]
   refine li hc h (by omega) 0 (n-1) (by omega) (by omega) (by omega) ?_
   rw [decide_eq_true (a3 0 (n-1) (by omega) (by omega)),if_pos rfl]
   exact q n p a1 a2 h a3
  ·rw [if_neg e2]
   have hn1:n=1:=by omega
   subst hn1
   have d:ky key p 1<ky key p 0:=by
    rcases a4 with z | z
    ·exact absurd z hne
    ·exact z
   unfold PySem.W.kas_descPart
   rw [PySem.W.KasT.kasWp_bind]
   refine sE hinj hc h (Nat.le_refl N) (N-(1+1)) (1+1) (by omega) (by omega) (fun i j hij hj=>?_) fun m b1 b2 b3=>?_
   ·have:i=0:=by omega
    have:j=1:=by omega
    subst i; subst j; exact d
   ·rw [if_neg (by show ¬ (0>0); decide)]
    exact wW hinj hc h (show 1<=m from Nat.le_trans (by decide) b1) b2 b3 q
include hinj hc in
theorem kl {p:Array Nat} (h:Pm N p) {Q:Nat->Shared->Prop} {k:Nat} (hk:k<N) (up:Up key p k):∀ (f l r:Nat),r-l<=f->l<=r->r<=k->(∀ i,i<l->ky key p i<ky key p k)->(∀ i,r<=i->i<k->ky key p k<ky key p i) ->
  (∀ l',l'<=k->(∀ i,i<l'->ky key p i<ky key p k)->(∀ i,l'<=i->i<k->ky key p k<ky key p i)->Q l' s)->(PySem.W.kas_place p k f l r).kasWp cmp Q s
 | 0,l,r,hf,hlr,hr,lo,hi,q=>q l (by omega) lo fun i h1 h2=>hi i (by omega) h2
 | f+1,l,r,hf,hlr,hr,lo,hi,q=>by
  unfold PySem.W.kas_place
  by_cases e:l>=r
  ·rw [if_pos e]
   exact q l (by omega) lo fun i h1 h2=>hi i (by omega) h2
  ·rw [if_neg e]
   refine li hc h (by omega) k ((l+r) / 2) hk (by omega) (by omega) ?_
   have ne:=vF hinj h (i:=k) (j:=(l+r) / 2) hk (by omega) (by omega)
   by_cases d:ky key p k<ky key p ((l+r) / 2)
   ·rw [decide_eq_true d,if_pos rfl]
    refine kl h hk up f l ((l+r) / 2) (by omega) (by omega) (by omega) lo (fun i h1 h2=>?_) q
    by_cases z:i=(l+r) / 2
    ·subst z; exact d
    ·have:=up ((l+r) / 2) i (by omega) h2; omega
   ·rw [decide_eq_false d,if_neg (by decide)]
    refine kl h hk up f ((l+r) / 2+1) r (by omega) (by omega) hr (fun i h1=>?_) hi q
    by_cases z:i=(l+r) / 2
    ·subst z; omega
    ·have:=up i ((l+r) / 2) (by omega) (by omega); omega
theorem wm {p:Array Nat} (h:Pm N p) {k d:Nat} (hk:k<N) (hd:d<=k) (i:Nat):ky key (bubble p k d) i=if i=k-d then ky key p k else if k-d<i/\i<=k then ky key p (i-1) else ky key p i:=by
 have e:=getElem?_bubble (xs:=p) (src:=k) (by rw [h.size]; exact hk) d hd i
 unfold ky
 by_cases h1:i=k-d
 ·rw [if_pos h1] at e ⊢
  rw [iw e]
 ·rw [if_neg h1] at e ⊢
  by_cases h2:k-d<i/\i<=k
  ·rw [if_pos h2] at e ⊢
   rw [iw e]
  ·rw [if_neg h2] at e ⊢
   rw [iw e]
include hinj hc in
theorem wo {Q:Array Nat->Shared->Prop} (q:∀ p',Pm N p'->Up key p' N->Q p' s):∀ (f:Nat) (p:Array Nat) (k:Nat),k+f=N->Pm N p->Up key p k->(PySem.W.kas_bin f p k).kasWp cmp Q s
 | 0,p,k,hf,h,up=>q p h (by rw [show N=k by omega]; exact up)
 | f+1,p,k,hf,h,up=>by
  unfold PySem.W.kas_bin
  rw [PySem.W.KasT.kasWp_bind]
  refine kl hinj hc h (by omega) up k 0 k (by omega) (Nat.zero_le _) (Nat.le_refl _) (fun i hi=>by omega) (fun i h1 h2=>by omega) fun l hl lo hi=>?_
  refine wo q f (bubble p k (k-l)) (k+1) (by omega) (h.of (bubble_perm _ _ _)) fun i j hij hj=>?_
  rw [wm h (by omega) (by omega),wm h (by omega) (by omega),show k-(k-l)=l by omega]
  by_cases i1:i=l
  ·rw [if_pos i1,if_neg (by omega),if_pos (by omega)]
   exact hi (j-1) (by omega) (by omega)
  ·rw [if_neg i1]
   by_cases j1:j=l
   ·rw [if_pos j1,if_neg (by omega)]
    exact lo i (by omega)
   ·rw [if_neg j1]
    by_cases i2:l<i/\i<=k
    ·rw [if_pos i2,if_pos (by omega)]
     exact up (i-1) (j-1) (by omega) (by omega)
    ·rw [if_neg i2]
     by_cases j2:l<j/\j<=k
     ·rw [if_pos j2]
      by_cases z:i=j-1
      ·omega
      ·exact up i (j-1) (by omega) (by omega)
     ·rw [if_neg j2]
      exact up i j hij (by omega)
include hinj hc in
theorem xn (hN:2<=N) {Q:Array Nat->Shared->Prop} (q:∀ p',Pm N p'->Up key p' N->Q p' s):(PySem.W.kas_sort N).kasWp cmp Q s:=by
 unfold PySem.W.kas_sort
 rw [PySem.W.KasT.kasWp_bind]
 refine wg hinj hc (p:=List.toArray (List.range N)) ⟨List.Perm.refl _⟩ hN fun m p a1 a2 a3 a4=>?_
 dsimp only
 by_cases e:m<N
 ·rw [if_pos e]
  rw [show max m 1=m by omega]
  exact wo hinj hc q (N-m) p m (by omega) a3 a4
 ·rw [if_neg e]
  exact q p a3 (by rw [show N=m by omega]; exact a4)
end
end VL
set_option Elab.async false
set_option linter.all false
set_option maxRecDepth 100000
set_option maxHeartbeats 4000000
namespace VL
open PySem PySem.Spec PyProof.Rows L2
section
variable {prog:Program} {w:World} {A:Around} {E:Value->Shared->Prop} {s:Shared}
noncomputable def PairsAt (h:Heap) (key:Nat->Int) (vs:List Value):Prop:=∀ (j:Nat) (v:Value),vs[j]? = some v->∃ b t y,v=.ref b/\h.get? b=some { cls:=.type "tuple",data:=.seq #[.int (key j) t,y] }
theorem PairsAt.keeps {h h':Heap} {key:Nat->Int} {vs:List Value} (x:PairsAt h key vs) (k:∀ b o,o.cls=.type "tuple" -> h.get? b=some o->h'.get? b=some o):PairsAt h' key vs:=fun j v e=>by
 obtain ⟨b,t,y,e1,e2⟩:=x j v e
 exact ⟨b,t,y,e1,k b _ rfl e2⟩
theorem km {h:Heap}:∀ {vs:List Value} {key:Nat->Int},PairsAt h key vs->∃ fs:List Value,fs.length=vs.length/\PySem.W.KatTups h vs fs/\∀ v∈fs,∃ i t,v=Value.int i t
 | [],key,_=>⟨[],rfl,trivial,fun v h=>by cases h⟩
 | v::vs,key,x=>by
  obtain ⟨b,t,y,rfl,e⟩:=x 0 v rfl
  obtain ⟨fs,h1,h2,h3⟩:=km (vs:=vs) (key:=fun j=>key (j+1)) fun j u q=>x (j+1) u q
  refine ⟨.int (key 0) t::fs,by rw [List.length_cons,List.length_cons,h1],⟨⟨b,_,_,_,rfl,e,rfl,rfl,rfl⟩,h2⟩,fun u hu=>?_⟩
  rcases List.mem_cons.mp hu with rfl | hu
  ·exact ⟨_,_,rfl⟩
  ·exact h3 u hu
theorem ve {κ:SortKind} {key:Nat->Int} {vs:List Value} (hκ:κ = tuples' true) (x:PairsAt s.heap key vs) (hinj:∀ i j,i<vs.length->j<vs.length->key i=key j->i=j) {i j:Nat} (hi:i<vs.length) (hj:j<vs.length) (hij:i≠j) {C:Bool->Shared->Prop} (hC:C (decide (key i<key j)) s) :
  PySem.W.kas_ask prog w A κ vs i j C s:=by
 subst hκ
 obtain ⟨b,t,y,e1,e2⟩:=x i _ (List.getElem?_eq_getElem hi)
 obtain ⟨b',t',y',e1',e2'⟩:=x j _ (List.getElem?_eq_getElem hj)
 have g1:vs.getD i Value.none=.ref b:=by rw [List.getD_eq_getElem?_getD,List.getElem?_eq_getElem hi]; exact e1
 have g2:vs.getD j Value.none=.ref b':=by rw [List.getD_eq_getElem?_getD,List.getElem?_eq_getElem hj]; exact e1'
 unfold PySem.W.kas_ask
 rw [g1,g2]
 refine PySem.W.kat_lt e2 rfl e2' rfl (PySem.W.kat_cons ?_)
 have ne:(key i==key j)=false:=beq_eq_false_iff_ne.mpr fun e=>hij (hinj i j hi hj e)
 refine SeqAt.EqAt.int_int (key i) t (key j) t' _ _ _ _ ?_
 rw [ne]
 refine PySem.W.kat_no ?_
 exact PySem.W.kat_lt_int hC
theorem lG {a:Addr} {vs:List Value} {key:Nat->Int} {n:Nat} {P:PySem.Fin->Shared->Prop} (ho:s.heap.get? a=some (seqObj "list" vs.toArray n)) (x:PairsAt s.heap key vs) (hinj:∀ i j,i<vs.length->j<vs.length->key i=key j->i=j) (h64:vs.length<64)
  (h:∀ p:Array Nat,Pm vs.length p->Up key p vs.length->P (.done (.ret .none)) { s with heap:=sortedHeap s.heap a vs (List.toArray (p.toList.map fun i=>vs.getD i Value.none)) }) :
  wpAny (model prog w) A (Builtin.«list.sort» ⟨[.ref a],[]⟩) P E s:=by
 rw [list_sort_plain]
 have ha:a<s.heap.objs.size:=Heap.lt_size ho
 refine wpAny_bind (listItems_at ho rfl ?_)
 refine wpAny_bind (listUpdate_at ho rfl ?_)
 obtain ⟨e1,ho1⟩:∃ e1,(s.heap.update a (Obj.mapSeq fun _=>#[])).get? a=some (seqObj "list" #[] e1):=⟨_,get?_update_seq ho (fun _=>#[])⟩
 refine wpAny_bind (seqEpoch_at ho1 rfl ?_)
 refine wpAny_bind (wpAny_newTuple ?_)
 refine wpAny_bind (wpAny_newList ?_)
 refine wpAny_holding ?_
 have ho6:(((s.heap.update a (Obj.mapSeq fun _=>#[])).push (seqObj "tuple" vs.toArray 0)).push (seqObj "list" #[] 0)).get? a=some (seqObj "list" #[] e1):=Heap.get?_push_of_some _ (Heap.get?_push_of_some _ ho1)
 have kp:∀ b o,o.cls=.type "tuple" -> s.heap.get? b=some o->(((s.heap.update a (Obj.mapSeq fun _=>#[])).push (seqObj "tuple" vs.toArray 0)).push (seqObj "list" #[] 0)).get? b=some o:=fun b o hc eo=>by
  have hb:b≠a:=fun z=>by
   subst z
   rw [ho] at eo
   cases eo
   exact absurd hc (by intro z; injection z with z; exact absurd z (by decide))
  exact Heap.get?_push_of_some _ (Heap.get?_push_of_some _ (bz hb eo))
 have x6:=x.keeps kp
 show wpAny (model prog w) A _ P E { s with heap:=((s.heap.update a (Obj.mapSeq fun _=>#[])).push (seqObj "tuple" vs.toArray 0)).push (seqObj "list" #[] 0) }
 dsimp only
 have fin:∀ p:Array Nat,Pm vs.length p->Up key p vs.length->∀ st':SortSt,(arrOf st').map (·.2)=List.toArray (p.toList.map fun i=>vs.getD i Value.none)->failedOf st'=none ->
   wpAny (model prog w) A (do
    let sorted:=(arrOf st').map (·.2)
    let touched:=(<- seqEpoch a) != e1
    Builtin.List.listUpdate (.ref a) fun _=>sorted
    if let some e:=failedOf st' then rule "list.sort.comparison-raised"; throw e
    if touched then rule "list.sort.modified"; raiseError "ValueError" "list modified during sort"
    ret .none) P E { s with heap:=((s.heap.update a (Obj.mapSeq fun _=>#[])).push (seqObj "tuple" vs.toArray 0)).push (seqObj "list" #[] 0) }:=fun p hp hu st' ha' hf=>by
  have hsz:(List.toArray (p.toList.map fun i=>vs.getD i Value.none)).size=vs.length:=by rw [List.size_toArray,List.length_map,Array.length_toList,hp.size]
  refine wpAny_bind (seqEpoch_at ho6 rfl ?_)
  refine wpAny_bind (listUpdate_at ho6 rfl ?_ (hsz2:=by rw [ha',hsz,sizeLine_eq]; omega))
  rw [hf,ha']
  simp only [bne_self_eq_false,Bool.false_eq_true,if_false]
  exact wpAny_pure (h p hp hu)
 by_cases h2:vs.toArray.size<2
 ·rw [if_pos h2,if_pos h2]
  refine wpAny_bind (wpAny_pure ?_)
  rw [StateT.run_pure]
  refine wpAny_bind (wpAny_pure ?_)
  refine fin (List.toArray (List.range vs.length)) ⟨List.Perm.refl _⟩ (fun i j hij hj=>by simp at h2; omega) (SortSt.mk' general' (vs.toArray.zip vs.toArray) #[] 7 none) ?_ rfl
  apply Array.toList_inj.mp
  show ((vs.toArray.zip vs.toArray).map (·.2)).toList=_
  rw [Array.toList_map,Array.toList_zip]
  apply List.ext_getElem?
  intro k
  by_cases hk:k<vs.length
  ·simp [hk,List.getD_eq_getElem?_getD]
  ·simp [hk]
 ·rw [if_neg h2,if_neg h2]
  have hn2:2<=vs.length:=by simp at h2; omega
  obtain ⟨fs,f1,f2,f3⟩:=km x6
  refine wpAny_bind (PySem.W.kat_kind (s:={ s with heap:=((s.heap.update a (Obj.mapSeq fun _=>#[])).push (seqObj "tuple" vs.toArray 0)).push (seqObj "list" #[] 0) }) (T:=.type "int") f2 (by omega) (fun v hv=>?_) (by decide) ?_)
  ·obtain ⟨i,t,rfl⟩:=f3 v hv
   exact PySem.W.Looks.of_pure rfl
  ·refine wpAny_bind (wpAny_mono (PySem.W.kat_run (s:={ s with heap:=((s.heap.update a (Obj.mapSeq fun _=>#[])).push (seqObj "tuple" vs.toArray 0)).push (seqObj "list" #[] 0) })
    (Q:=fun st' s'=>∃ p:Array Nat,Pm vs.length p/\Up key p vs.length/\(arrOf st').map (·.2)=List.toArray (p.toList.map fun i=>vs.getD i Value.none)/\failedOf st'=none/\s'={ s with heap:=((s.heap.update a (Obj.mapSeq fun _=>#[])).push (seqObj "tuple" vs.toArray 0)).push (seqObj "list" #[] 0) })
    (G:=fun p s'=>Pm vs.length p/\Up key p vs.length/\s'={ s with heap:=((s.heap.update a (Obj.mapSeq fun _=>#[])).push (seqObj "tuple" vs.toArray 0)).push (seqObj "list" #[] 0) })
    (ks:=vs) (vs:=vs) rfl hn2 h64 (fun p st' s' a1 a2 a3 a4=>⟨p,a4.1,a4.2.1,PySem.W.kat_snds rfl a2,a3,a4.2.2⟩) ?_) ?_ fun _ _ e=>e)
   ·exact xn hinj (fun i j hi hj hij C hC=>ve rfl x6 hinj hi hj hij hC) hn2 fun p hp hu=>⟨hp,hu,rfl⟩
   ·rintro ⟨⟨⟩,st'⟩ s' ⟨p,hp,hu,har,hf,rfl⟩
    exact fin p hp hu st' har hf
end
end VL
set_option Elab.async false
set_option linter.all false
set_option maxRecDepth 100000
set_option maxHeartbeats 4000000
namespace VL
open PySem PySem.Spec PyProof.Rows L2
noncomputable def qM (es:List (ay×D)) (l:List Int):List D:=(bo l).map fun k=>.tuple [.int k,(di es (.inl k)).getD .none]
noncomputable def ik (i:Nat):Dv->Option D:=fun δ=>(qw δ[i]?).bind fun es=>(gB es).bind fun l=>if l.length<64/\l.Nodup then some (.list (qM es l)) else none
section
variable {X:Cx} {o:Expr} {p pos apos cpos:Pos} {td:TE}
noncomputable def wX (td:TE):TE:=fun σ H Q=>td σ H fun x H1=>∃ (a:Addr) (kvs:List (ay×V)) (ns:List Int),x=V.ref a/\H1 a=some (.dK kvs)/\kvs.map (·.1)=ns.map Sum.inl/\ns.length<64/\ns.Nodup /\
 ∀ (H':Hp) (l:Addr) (as:List Addr) (q:Array Nat),(∀ b,H1 b≠none->H' b=H1 b)->H1 l=none->Pm ns.length q->Up (fun j=>ns.getD j 0) q ns.length->as.length=ns.length->H' l=some (.lst (q.toList.map fun i=>V.ref (as.getD i 0))) ->
  (∀ (j:Nat) (b:Addr),as[j]? = some b->H1 b=none/\∃ k v,ns[j]? = some k/\kvs[j]? = some (.inl k,v)/\H' b=some (.tup [.int k,v]))->Q (.ref l) H'
theorem AR {ns:List Int} (h:ns.Nodup):∀ i j,i<ns.length->j<ns.length->ns.getD i 0=ns.getD j 0->i=j:=fun i j hi hj e=>by
 rw [List.getD_eq_getElem?_getD,List.getD_eq_getElem?_getD,List.getElem?_eq_getElem hi,List.getElem?_eq_getElem hj] at e
 have pw:=List.pairwise_iff_getElem.mp h
 rcases Nat.lt_trichotomy i j with q | q | q
 ·exact absurd e (pw i j hi hj q)
 ·exact q
 ·exact absurd e.symm (pw j i hj hi q)
theorem vG {κ:Type}:∀ (kvs:List (κ × V)) (vs:List (κ × Value)) (j:Nat) (k:κ) (u:Value),KV kvs vs->vs[j]? = some (k,u)->∃ v,kvs[j]? = some (k,v)/\RelV v u
 | [],vs,j,k,u,h,e=>by cases h; simp at e
 | p::kvs,[],j,k,u,h,e=>by simp at e
 | p::kvs,r::vs,0,k,u,h,e=>by
  cases h with
  | cons a b=>
   have e:r=(k,u):=by simpa using e
   subst e
   obtain ⟨a1,a2⟩:=a
   obtain ⟨k',v⟩:=p
   have a1:k'=k:=a1
   subst a1
   exact ⟨v,rfl,a2⟩
 | p::kvs,r::vs,j+1,k,u,h,e=>by
  cases h with
  | cons a b=>
   obtain ⟨v,h1,h2⟩:=vG kvs vs j k u b (by simpa using e)
   exact ⟨v,by simpa using h1,h2⟩
theorem AQ:∀ {l:List Int},l.Nodup->(l.map (Sum.inl:Int->ay)).Nodup:=fun {l} h=>by
 show List.Pairwise _ _
 rw [List.pairwise_map]
 exact List.Pairwise.imp (fun hne z=>hne (by cases z; rfl)) h
theorem sr:∀ {es:List (ay×D)} {i:Nat} {k:ay} {d:D},(es.map (·.1)).Nodup->es[i]? = some (k,d)->di es k=some d
 | [],i,k,d,_,h=>by simp at h
 | e::es,0,k,d,nd,h=>by
  have h:e=(k,d):=by simpa using h
  subst h
  simp [di,List.find?_cons]
 | e::es,i+1,k,d,nd,h=>by
  have h:es[i]? = some (k,d):=by simpa using h
  rw [List.map_cons] at nd
  obtain ⟨n1,n2⟩:=List.nodup_cons.mp nd
  have ne:¬ e.1=k:=fun z=>n1 (by rw [z]; exact List.mem_map.mpr ⟨(k,d),List.mem_of_getElem? h,rfl⟩)
  have:=sr n2 h
  unfold di at this ⊢
  rw [List.find?_cons,decide_eq_false ne]
  exact this
theorem tH (hc:X.calm=true) (hg:Gl X "sorted") (hm:X.mg "sorted" = none) (ho:PE X o td)
  (hbase:attributeBase o "items" X.env (eval o X.env)=eval o X.env:=by rfl) (hline:(apos.endLine==cpos.line)=true:=by rfl)
  (he:starEach [.Call (.Attribute o "items" apos) [] [] cpos] X.env=(false,eval (.Call (.Attribute o "items" apos) [] [] cpos) X.env)::starEach [] X.env:=by rfl) (hpl:(backTo pos (starEach [] X.env)).any (·.1)=false:=by rfl) :
  PE X (.Call (.Name "sorted" p) [.Call (.Attribute o "items" apos) [] [] cpos] [] pos) (wX td):=by
 intro pins s σ H Q I h
 refine wpAny_Call_Name_kw (fh I hg hm (u:=.builtin "sorted") (by decide +kernel) ?_ (by decide) (by decide))
 refine PyProof.Rows.callWith_builtin1 ?_ he hpl
 rw [he]
 show wpAny _ _ (spliced ((false,eval _ X.env)::backTo pos (starEach [] X.env))) _ _ s
 refine Calls.spliced_cons ?_
 refine wpAny_Call_method0_late hbase hline (bU (ho pins s σ H _ I h) fun v s1 ⟨x,H1,I1,r1,q1⟩=>?_)
 obtain ⟨a,kvs,ns,e1,ha,hk,h64,nd,q⟩:=q1
 subst e1
 cases r1
 obtain ⟨t1,t2,_⟩:=vM I1 (.inl ⟨kvs,.inl ha⟩)
 obtain ⟨z,hlo,vs,rel,dd⟩:=iz I1.hok (.inl ha)
 refine ⟨"dict","dict.items",PySem.F.plainAttrs_dict,PySem.F.slot_dict_items,PySem.F.type_dict_items,t1,t2,Calls.callWith_builtin rfl (PySem.evalArgs_none ?_)⟩
 refine call_meetsIn PySem.F.slot_dict_items dd.typeIs PySem.F.entry_dict_items (PySem.F.args_dict_items_1 _) (meets_dict_items (aA X.prog X.w) a hlo) ⟨⟨vs,dd⟩,?_⟩
 refine Calls.spliced_nil ?_
 have hln:vs.length=ns.length:=by
  have:=congrArg List.length hk
  simp only [List.length_map] at this
  rw [<- rel.length,this]
 have dd1:=dd.push { cls:=.type "dict_items",data:=.fields #[.ref a] }
 obtain ⟨ep,dat⟩:=dd1.dictAt
 refine Calls.call_function_entry kind_sorted plain_sorted entry_sorted (args_sorted1 _) ?_
 unfold Builtin.«sorted»
 refine wpAny_bind (m:=checkCount "sorted" 1 1 _) (wpAny_pure ?_)
 refine wpAny_bind (PySem.W.kdx_collect (A:=X.A.in1) (knd:=aA X.prog X.w) (kvs:=vs) (ep:=ep) (d:=a) (I1.ok.hd hc) ⟨_,Heap.get?_push_size _ rfl,rfl,rfl⟩ dat (by rw [hln,sizeLine_eq]; omega) fun h' tk as hk' hal hG=>?_)
 dsimp only at hk' hG ⊢
 have hasn:as.length=ns.length:=by rw [hal,hln]
 have kv:vs.map (·.1)=ns.map Sum.inl:=by rw [nK rel]; exact hk
 have at_:∀ (j:Nat) (b:Addr),as[j]? = some b->∃ k t u,ns[j]? = some k/\vs[j]? = some (.inl k,u)/\h'.get? b=some { cls:=.type "tuple",data:=.seq #[.int k t,u] }:=fun j b eb=>by
  obtain ⟨ky,k,u,e1,e2,e3⟩:=hG.pairs j b eb
  have e4:(vs.map (·.1))[j]? = some k:=by rw [List.getElem?_map,e1]; rfl
  rw [kv,List.getElem?_map] at e4
  cases e5:ns[j]? with
  | none=>rw [e5] at e4; cases e4
  | some i=>
   rw [e5] at e4
   have e4:Sum.inl i=k:=by simpa using e4
   subst e4
   rcases bb (show jn (.inl i) ky=true from e2) with ⟨i',t,q1,rfl⟩ | ⟨y,t,q1,rfl⟩
   ·cases q1
    exact ⟨i,t,u,rfl,e1,e3⟩
   ·cases q1
 refine wpAny_bind (wpAny_newList ?_ (by rw [List.length_map,hasn,sizeLine_eq]; omega))
 have hoL:(h'.push (seqObj "list" (as.map Value.ref).toArray 0)).get? h'.objs.size=some (seqObj "list" (as.map Value.ref).toArray 0):=Heap.get?_push_size _ rfl
 have pa:PairsAt (h'.push (seqObj "list" (as.map Value.ref).toArray 0)) (fun j=>ns.getD j 0) (as.map Value.ref):=fun j v ev=>by
  rw [List.getElem?_map] at ev
  cases eb:as[j]? with
  | none=>rw [eb] at ev; cases ev
  | some b=>
   rw [eb] at ev
   cases ev
   obtain ⟨k,t,u,e1,e2,e3⟩:=at_ j b eb
   have ek:ns.getD j 0=k:=by rw [List.getD_eq_getElem?_getD,e1]; rfl
   refine ⟨b,t,u,rfl,?_⟩
   show _=some ({ cls:=.type "tuple",data:=.seq #[.int (ns.getD j 0) t,u] }:Obj)
   rw [ek]
   exact Heap.get?_push_of_some _ e3
 have hlv:(as.map Value.ref).length=ns.length:=by rw [List.length_map,hasn]
 refine wpAny_bind (wpAny_holding (wpAny_call_entry slot_list_sort ⟨_,hoL,rfl⟩ entry_list_sort (lG hoL pa (by rw [hlv]; exact AR nd) (by rw [hlv]; exact h64) fun q' hp hu=>⟨_,rfl,?_⟩) (args_list_sort _)))
 refine wpAny_pure ⟨_,rfl,?_⟩
 rw [hlv] at hp hu
 generalize hout:List.toArray (q'.toList.map fun i=>(as.map Value.ref).getD i Value.none)=out
 have I2:Inv X pins σ H1 { s1 with heap:=h',toks:=tk }:=I1.kept fun b o eo=>hk' b o (Heap.get?_push_of_some _ eo)
 have kp:∀ b o,h'.get? b=some o->(sortedHeap (h'.push (seqObj "list" (as.map Value.ref).toArray 0)) h'.objs.size (as.map Value.ref) out).get? b=some o:=fun b o eo=>by
  have hb:b≠h'.objs.size:=Nat.ne_of_lt (Heap.lt_size eo)
  exact bz hb (Heap.get?_push_of_some _ (Heap.get?_push_of_some _ (bz hb (Heap.get?_push_of_some _ eo))))
 obtain ⟨e1,ho1⟩:∃ e1,((h'.push (seqObj "list" (as.map Value.ref).toArray 0)).update h'.objs.size (Obj.mapSeq fun _=>#[])).get? h'.objs.size=some (seqObj "list" #[] e1):=⟨_,get?_update_seq hoL (fun _=>#[])⟩
 have ho2:=Heap.get?_push_of_some (seqObj "list" #[] 0) (Heap.get?_push_of_some (seqObj "tuple" (as.map Value.ref).toArray 0) ho1)
 have ho3:=get?_update_seq ho2 (fun _=>out)
 generalize hts:((List.range ns.length).map fun j=>[V.int (ns.getD j 0),((kvs[j]?).map (·.2)).getD V.non])=ts
 have lo_:∀ (j:Nat) (b:Addr),as[j]? = some b->s1.heap.objs.size<b:=fun j b eb=>by
  have:=hG.above b (List.mem_of_getElem? eb)
  rw [Heap.size_push] at this
  exact Nat.lt_of_lt_of_le (Nat.lt_succ_self _) (Nat.le_of_lt this)
 have fr:∀ (j:Nat) (b:Addr),as[j]? = some b->H1 b=none/\b≠h'.objs.size/\s1.heap.objs.size<=b:=fun j b eb=>by
  obtain ⟨_,_,_,_,_,e3⟩:=at_ j b eb
  exact ⟨I1.hok.fresh (Nat.le_of_lt (lo_ j b eb)),Nat.ne_of_lt (Heap.lt_size e3),Nat.le_of_lt (lo_ j b eb)⟩
 have hD:H1 h'.objs.size=none:=I2.hok.fresh (Nat.le_refl _)
 have tsat:∀ (j:Nat) (b:Addr),as[j]? = some b->∃ k v u t,ns[j]? = some k/\kvs[j]? = some (.inl k,v)/\ts[j]? = some [V.int k,v]/\RelV v u/\h'.get? b=some { cls:=.type "tuple",data:=.seq #[.int k t,u] }:=fun j b eb=>by
  obtain ⟨k,t,u,e1,e2,e3⟩:=at_ j b eb
  obtain ⟨v,e4,e5⟩:=vG kvs vs j _ u rel e2
  have hj:j<ns.length:=(List.getElem?_eq_some_iff.mp e1).1
  refine ⟨k,v,u,t,e1,e4,?_,e5,e3⟩
  rw [<- hts,List.getElem?_map,List.getElem?_range hj]
  show some [V.int (ns.getD j 0),((kvs[j]?).map (·.2)).getD V.non]=_
  rw [e4,List.getD_eq_getElem?_getD,e1]; rfl
 have ext:∀ b,H1 b≠none->(fun b=>if H1 b≠none then H1 b else if b=h'.objs.size then some (HO.lst (q'.toList.map fun i=>V.ref (as.getD i 0))) else tF as ts b) b=H1 b:=fun b hb=>if_pos hb
 have le1:s1.heap.objs.size<=h'.objs.size:=by
  have v:=hk' s1.heap.objs.size _ (Heap.get?_push_size _ rfl)
  exact Nat.le_of_lt (Heap.lt_size v)
 have qlt:∀ i∈q'.toList,i<ns.length:=fun i hi=>List.mem_range.mp (hp.perm.mem_iff.mp hi)
 have gv:∀ i,i<ns.length->(as.map Value.ref).getD i Value.none=Value.ref (as.getD i 0):=fun i hi=>by
  rw [List.getD_eq_getElem?_getD,List.getElem?_map,List.getD_eq_getElem?_getD,List.getElem?_eq_getElem (by rw [hasn]; exact hi)]
  rfl
 have L:=tX (h':=sortedHeap (h'.push (seqObj "list" (as.map Value.ref).toArray 0)) h'.objs.size (as.map Value.ref) out) (t':=tk) I1 (fun b o eo=>kp b o (hk' b o (Heap.get?_push_of_some _ eo))) ext fun b o nb eb=>by
  simp only [nb,ne_eq,not_true,if_false] at eb
  split at eb
  ·rename_i ebs
   subst ebs
   cases eb
   refine ⟨le1,show ObjOk X.prog X.w _ _ _ (.lst (q'.toList.map fun i=>V.ref (as.getD i 0))) from ⟨by rw [List.length_map,Array.length_toList,hp.size,sizeLine_eq]; omega,out.toList,_,?_,by rw [Array.toArray_toList]; exact ho3⟩⟩
   rw [<- hout]
   show Vals _ (q'.toList.map fun i=>(as.map Value.ref).getD i Value.none)
   have key:∀ l:List Nat,(∀ i∈l,i<ns.length)->Vals (l.map fun i=>V.ref (as.getD i 0)) (l.map fun i=>(as.map Value.ref).getD i Value.none):=fun l=>by
    induction l with
    | nil=>intro _; exact .nil
    | cons x l ih=>
     intro hx
     exact .cons (gv x (hx x List.mem_cons_self)) (ih fun i hi=>hx i (List.mem_cons_of_mem _ hi))
   exact key _ qlt
  ·obtain ⟨j,t,h1',h2',rfl⟩:=mm eb
   obtain ⟨_,_,g⟩:=fr j b h1'
   obtain ⟨k,v,u,tt,_,_,e3,e4,e5⟩:=tsat j b h1'
   rw [e3] at h2'
   cases h2'
   exact ⟨g,show ObjOk X.prog X.w _ _ _ (.tup [V.int k,v]) from ⟨by rw [sizeLine_eq]; show 2<=16777216; decide,[.int k tt,u],.cons ⟨tt,rfl⟩ (.cons e4 .nil),⟨_,kp b _ e5,rfl,_,rfl⟩,_,kp b _ e5,rfl⟩⟩
 refine ⟨.ref h'.objs.size,_,L,rfl,q _ _ as q' ext hD hp hu hasn (by simp [hD]) fun j b eb=>?_⟩
 obtain ⟨g1,g2,g3⟩:=fr j b eb
 obtain ⟨k,v,u,tt,e1,e2,e3,_,_⟩:=tsat j b eb
 exact ⟨g1,k,v,e1,e2,by simp only [g1,ne_eq,not_true,if_false]; rw [if_neg g2]; exact oY hG.rise eb e3⟩
theorem ug (i:Nat) {x:Str} {p3:Pos} (hg:Gl X "sorted") (hm:X.mg "sorted" = none) (hc:X.calm=true:=by rfl) (hN:X.N[i]? = some x:=by rfl) (hv:uu X.env.scope x:=by first | exact Or.inl rfl | exact Or.inr (Or.inl rfl) | exact Or.inr (Or.inr rfl)) (hd:(x==("__debug__":Str))=false:=by decide) (hcd:(x==("__classdict__":Str))=false:=by decide)
  (hbase:attributeBase (.Name x p3) "items" X.env (eval (.Name x p3) X.env)=eval (.Name x p3) X.env:=by rfl) (hline:(apos.endLine==cpos.line)=true:=by rfl)
  (he:starEach [.Call (.Attribute (.Name x p3) "items" apos) [] [] cpos] X.env=(false,eval (.Call (.Attribute (.Name x p3) "items" apos) [] [] cpos) X.env)::starEach [] X.env:=by rfl) (hpl:(backTo pos (starEach [] X.env)).any (·.1)=false:=by rfl) :
  EV X (.Call (.Name "sorted" p) [.Call (.Attribute (.Name x p3) "items" apos) [] [] cpos] [] pos) (ik i):=
 PE.imp (tH hc hg hm (eA hN hv hd hcd) hbase hline he hpl) fun σ H Q h=>by
  obtain ⟨H₀,Z₀,Z,δ,d,hh,e,k⟩:=h
  obtain ⟨es,e1,e⟩:=bind_some e
  obtain ⟨l,e2,e⟩:=bind_some e
  obtain ⟨⟨h64,nd⟩,e⟩:=bX e
  cases e
  obtain ⟨a,kvs,h1,h4,h5⟩:=fQ hh e1
  have hkl:kvs.map (·.1)=l.map Sum.inl:=by rw [<- h5.1]; exact fS e2
  refine ⟨_,h1,a,kvs,l,rfl,h4,hkl,h64,nd,fun H' lo as q' ext hl hp hu hal hl' hpr=>?_⟩
  have n:=New.many (Z:=Z) (H':=H') hh.zh ext
  refine k _ _ _ (hh.new n) n.z (.lst (SqL.of (by rw [if_pos hl,hl']; rfl)) ?_)
  have ei:bo l=q'.toList.map fun i=>l.getD i 0:=by
   refine (i3 ?_ ?_).symm
   ·have:=hp.perm.map fun i=>l.getD i 0
    have e:((List.range l.length).map fun i=>l.getD i 0)=l:=by
     apply List.ext_getElem?
     intro j
     by_cases hj:j<l.length
     ·rw [List.getElem?_map,List.getElem?_range hj,List.getElem?_eq_getElem hj]
      show some (l.getD j 0)=_
      rw [List.getD_eq_getElem?_getD,List.getElem?_eq_getElem hj]; rfl
     ·rw [List.getElem?_eq_none (by simp; omega),List.getElem?_eq_none (by omega)]
    rw [e] at this
    exact this
   ·rw [List.pairwise_map,List.pairwise_iff_getElem]
    intro i j hi hj hij
    have hz:=hp.size
    have:=hu i j hij (by rw [Array.length_toList,hz] at hj; exact hj)
    unfold ky at this
    have e1:q'.getD i 0=q'.toList[i]:=by simp [Array.getD,show i<q'.size by simpa using hi]
    have e2:q'.getD j 0=q'.toList[j]:=by simp [Array.getD,show j<q'.size by simpa using hj]
    rw [e1,e2] at this
    exact Int.le_of_lt this
  unfold qM
  rw [ei,List.map_map]
  have qlt:∀ i∈q'.toList,i<l.length:=fun i hi=>List.mem_range.mp (hp.perm.mem_iff.mp hi)
  have key:∀ u:List Nat,(∀ i∈u,i<l.length)->Reps X.K (fun b=>if H b=none then BG (H' b) else Z b) (u.map fun i=>V.ref (as.getD i 0)) (u.map ((fun k=>PyData.tuple [.int k,(di es (.inl k)).getD .none]) ∘ fun i=>l.getD i 0)):=fun u=>by
   induction u with
   | nil=>intro _; exact .nil
   | cons i u ih=>
    intro hx
    refine .cons ?_ (ih fun j hj=>hx j (List.mem_cons_of_mem _ hj))
    have hi:=hx i List.mem_cons_self
    have eb:as[i]? = some (as.getD i 0):=by rw [List.getD_eq_getElem?_getD,List.getElem?_eq_getElem (by rw [hal]; exact hi)]; rfl
    obtain ⟨g1,k',v,g2,g3,g4⟩:=hpr i _ eb
    have el:l.getD i 0=k':=by rw [List.getD_eq_getElem?_getD,g2]; rfl
    have hkv:(kvs.map (·.2))[i]? = some v:=by rw [List.getElem?_map,g3]; rfl
    obtain ⟨d,q1,q2⟩:=h5.2.getV hkv
    have hek:(es.map (·.1))[i]? = some (.inl k'):=by rw [h5.1,List.getElem?_map,g3]; rfl
    have hes:es[i]? = some (.inl k',d):=by
     rw [List.getElem?_map] at q1 hek
     cases e:es[i]? with
     | none=>rw [e] at q1; cases q1
     | some z=>
      rw [e] at q1 hek
      obtain ⟨z1,z2⟩:=z
      have hek:z1=.inl k':=by simpa using hek
      have q1:z2=d:=by simpa using q1
      rw [hek,q1]
    have hgt:di es (.inl k')=some d:=sr (by rw [fS e2]; exact AQ nd) hes
    show Rep _ _ _ (.tuple [.int (l.getD i 0),(di es (.inl (l.getD i 0))).getD .none])
    rw [el,hgt]
    exact .tup (SqT.of (by rw [if_pos g1,g4]; rfl)) (.cons (.int k') (.cons (q2.same n.z) .nil))
  exact key _ qlt
end
end VL
set_option Elab.async false
set_option linter.all false
set_option maxRecDepth 100000
set_option maxHeartbeats 4000000
namespace VL
open PySem PySem.Spec PyProof.Rows L2
theorem nE:typeLookup (.type "tuple") "keys" = pure none:=by rw [typeLookup_type,builtinLookup_eq_fast]; kernel_rfl
theorem pi:typeLookup (.type "list") "keys" = pure none:=by rw [typeLookup_type,builtinLookup_eq_fast]; kernel_rfl
section
variable {prog:Program} {w:World} {A:Around} {E:Value->Shared->Prop} {s:Shared}
theorem jC {a:Addr} {o:Obj} {xs:Array Value} {k:Nat} {Q:Option Value->Shared->Prop} (hx:s.heap.get? a=some o) (hc:o.cls=.type "tuple") (hdat:o.data=.seq xs k) (hd:o.dict=none) (hA:A.handled=none)
  (h:∀ h' tk,(∀ b o,s.heap.get? b=some o->h'.get? b=some o)->Q none { s with heap:=h',toks:=tk }):wpAny (model prog w) A (getAttr? (.ref a) "keys") Q E s:=by
 obtain ⟨c,dct,dat,sl⟩:=o
 simp only at hc hdat hd
 subst hc hdat hd
 obtain ⟨hp,g,d,tk,os⟩:=s
 have hT:∀ tk',(⟨hp,g,d,tk',os⟩:Shared).TypeIs (.ref a) "tuple":=fun _=>⟨_,hx,rfl⟩
 have f1:=sub_AttributeError
 have f3:=PySem.F.slot_tuple_getattribute.lookup
 have f4:=PySem.F.slot_tuple_getattribute.bind (.ref a)
 have f5:=am_tuple_getattr_none
 unfold getAttr? getAttrBy? getAttrBy
 repeat (any_goals (first | assumption | exact hT _ | ((with_reducible show wpAny _ _ (call (Value.builtin "tuple.__getattribute__") _ _) _ _ _); refine call_meets PySem.F.slot_tuple_getattribute (hT _) am_entry_tuple_getattribute (PySem.F.args_tuple_getattribute_2 _ _) (meets_getattribute_miss_tuple a xs k sl "keys" _ nE (by decide +kernel) (by decide +kernel)) ⟨hx,hA,fun h' tk' e hx'=>?_⟩) | wp_step))
 obtain ⟨t',u',he⟩:=hx'.there
 show wpAny _ _ (getattributeRaised _ _ _ _ _ _ _) _ _ _
 unfold getattributeRaised
 repeat (any_goals (first | assumption | wp_step))
 exact h h' tk' hx'.of.keeps
theorem kE {a:Addr} {o:Obj} {xs:Array Value} {k:Nat} {Q:Option Value->Shared->Prop} (hx:s.heap.get? a=some o) (hc:o.cls=.type "list") (hdat:o.data=.seq xs k) (hd:o.dict=none) (hA:A.handled=none)
  (h:∀ h' tk,(∀ b o,s.heap.get? b=some o->h'.get? b=some o)->Q none { s with heap:=h',toks:=tk }):wpAny (model prog w) A (getAttr? (.ref a) "keys") Q E s:=by
 obtain ⟨c,dct,dat,sl⟩:=o
 simp only at hc hdat hd
 subst hc hdat hd
 obtain ⟨hp,g,d,tk,os⟩:=s
 have hT:∀ tk',(⟨hp,g,d,tk',os⟩:Shared).TypeIs (.ref a) "list":=fun _=>⟨_,hx,rfl⟩
 have f1:=sub_AttributeError
 have f3:=PySem.F.slot_list_getattribute.lookup
 have f4:=PySem.F.slot_list_getattribute.bind (.ref a)
 have f5:=am_list_getattr_none
 unfold getAttr? getAttrBy? getAttrBy
 repeat (any_goals (first | assumption | exact hT _ | ((with_reducible show wpAny _ _ (call (Value.builtin "list.__getattribute__") _ _) _ _ _); refine call_meets PySem.F.slot_list_getattribute (hT _) am_entry_list_getattribute (PySem.F.args_list_getattribute_2 _ _) (meets_getattribute_miss_list a xs k sl "keys" _ pi (by decide +kernel) (by decide +kernel)) ⟨hx,hA,fun h' tk' e hx'=>?_⟩) | wp_step))
 obtain ⟨t',u',he⟩:=hx'.there
 show wpAny _ _ (getattributeRaised _ _ _ _ _ _ _) _ _ _
 unfold getattributeRaised
 repeat (any_goals (first | assumption | wp_step))
 exact h h' tk' hx'.of.keeps
end
theorem fV:entryFor table "dict.update.loop" = some Builtin.«dict.update.loop»:=entryFor_of_tree (by kernel_rfl)
theorem cb:plainId "dict.update.loop" = true:=by decide +kernel
noncomputable def wx (kvs:List (ay×Value)) (ps:List (ay×Value)):List (ay×Value):=ps.foldl (fun acc p=>stored acc p.1 p.2) kvs
theorem qu (kvs:List (ay×Value)) (k:ay) (v:Value):(stored kvs k v).length<=kvs.length+1:=by
 unfold stored
 split
 ·rw [List.length_map]; omega
 ·simp
section
variable {prog:Program} {w:World} {A:Around} {R:Result->Shared->Prop} {I:Addr} {fp wr:List Addr} {G:Array GenState->Array GenState->Prop} {n:Nat} {P:Nat->Value->Prop} {St:Nat->Shared->Prop}
theorem oG (W:WalksS prog w A.in1 I fp wr G n P St) (S:Addr) (hSf:S ∉ fp) (res:Value) (ps:List (ay×Value)) (hn:ps.length=n) (hz:n<=100000) {h₁:Heap}
  (hP:∀ i v,P i v->∃ b key k u,v=.ref b/\b≠S/\b ∉ wr/\ps[i]? = some (k,u)/\(aA prog w).is k key=true/\IsTup h₁ b #[key,u]) :
  ∀ (m i:Nat) (s:Shared) (kvs:List (ay×Value)),n-i=m->i<=n->St i s->s.heap.DictOf (aA prog w) S kvs->kvs.length<=i->(∀ b o,b≠S->b ∉ wr->h₁.get? b=some o->s.heap.get? b=some o) ->
   (∀ s',Moved (S::wr) G s s'->s'.heap.DictOf (aA prog w) S (wx kvs (ps.drop i))->R (.ok (.ret res)) s') ->
   codeAny (model prog w) A (.builtin "dict.update.loop" ⟨[.ref S,.ref I,rawInt i,res],[]⟩) R s:=by
 have hSw:S ∉ wr:=fun h=>hSf (W.sub _ h)
 have hsub:∀ b∈wr,b∈S::wr:=fun b hb=>List.mem_cons_of_mem _ hb
 intro m
 induction m with
 | zero=>
  intro i s kvs hk hi hst hS hl hkp hR
  have hin:i=n:=by omega
  subst hin
  refine codeAny_builtin fV ?_
  rw [Around.under_plainId cb _]
  show wpAny _ A.in1 (pyNext (.ref I) >>= _) _ _ s
  refine wpAny_bind (W.done s _ _ hst fun s' hm=>?_)
  show wpAny _ A.in1 (Builtin.Dict.addKeywords S [] >>= _) _ _ _
  refine wpAny_bind (wpAny_pure (wpAny_pure (hR s' (hm.mono hsub) ?_)))
  rw [List.drop_of_length_le (by omega)]
  obtain ⟨o,es,ep,ho,r⟩:=hS
  exact ⟨o,es,ep,hm.heap S _ hSw ho,r⟩
 | succ m ih=>
  intro i s kvs hk hi hst hS hl hkp hR
  have hlt:i<n:=by omega
  refine codeAny_builtin fV ?_
  rw [Around.under_plainId cb _]
  show wpAny _ A.in1 (pyNext (.ref I) >>= _) _ _ s
  refine wpAny_bind (W.item i s _ _ hlt hst fun v s' hv hst' hm=>?_)
  obtain ⟨b,key,k,u,rfl,hbS,hbw,hpi,hkey,o,hb,hbc,nn,hbd⟩:=hP i v hv
  have hb':=hm.heap b _ hbw (hkp b _ hbS hbw hb)
  have hS':s'.heap.DictOf (aA prog w) S kvs:=by
   obtain ⟨o,es,ep,ho,r⟩:=hS
   exact ⟨o,es,ep,hm.heap S _ hSw ho,r⟩
  refine wpAny_bind (wpAny_holding ?_)
  refine wpAny_bind (wpAny_tryCatch ?_)
  unfold Builtin.Dict.pairItems
  refine wpAny_bind (wpAny_typeOf (T:="tuple") ⟨o,hb',hbc⟩ ?_)
  rw [if_pos (by decide)]
  refine wpAny_bind (wpAny_seqItems hb' hbd (wpAny_pure ?_))
  show wpAny _ A.in1 (holding [key,u] (dictSet S key u)) _ _ _
  refine wpAny_holding (wpAny_dictSet_pairs (hsz:=by rw [sizeLine_eq]; omega) hkey hS' fun h' hD hs=>?_)
  have hc:((i:Int)+1)=((i+1:Nat):Int):=by push_cast; rfl
  show wpAny _ A.in1 (again (.builtin "dict.update.loop" ⟨[.ref S,.ref I,rawInt ((i:Int)+1),res],[]⟩)) _ _ _
  rw [hc]
  refine wpAny_pure ⟨plainId_quiet cb _,ih (i+1) _ (stored kvs k u) (by omega) hlt (W.frame _ s' _ _ hst' (Nat.le_succ _) fun b hb o e=>hs.extBut b o (fun z=>hSf (z ▸ hb)) e) hD (by have:=qu kvs k u; omega) (fun b o h1 h2 e=>hs.extBut b o h1 (hm.heap b o h2 (hkp b o h1 h2 e))) fun s'' hm'' hD''=>?_⟩
  refine hR s'' (Moved.trans W.gtrans ((hm.mono hsub).then_heap (Nat.le_succ _) fun b o hb e=>hs.extBut b o (fun z=>hb (by rw [z]; exact List.mem_cons_self)) e) hm'') ?_
  have e:ps.drop i=(k,u)::ps.drop (i+1):=by
   obtain ⟨hx,hy⟩:=List.getElem?_eq_some_iff.mp hpi
   rw [List.drop_eq_getElem_cons hx,hy]
  rw [e]
  exact hD''
end
end VL
set_option Elab.async false
set_option linter.all false
set_option maxRecDepth 100000
set_option maxHeartbeats 4000000
namespace VL
open PySem PySem.Spec PyProof.Rows L2
section
variable {prog:Program} {w:World} {A:Around} {E:Value->Shared->Prop} {s:Shared} {α:Type}
end
noncomputable def Soft (X:Cx):Prop:=∃ x ob u vs,X.A.handled=some (.ref x)/\X.H₀ x=some (.frz ob u)/\ob.data=.fields vs/\vs[2]? = some .none
theorem Soft.blk {X:Cx} {pins:List (Addr×Obj)} {σ:St} {H:Hp} {s:Shared} {scope:Scope} {N:List Str} {C:Addr} {ex:List Addr} (I:Inv X pins σ H s) (h:Soft X):Soft (blk X scope N C s H ex):=by
 obtain ⟨x,ob,u,vs,h1,h2,h3,h4⟩:=h
 exact ⟨x,ob,u,vs,h1,I.base.frzs x ob u h2,h3,h4⟩
theorem Soft.at {X:Cx} {pins:List (Addr×Obj)} {σ:St} {H:Hp} {s:Shared} (I:Inv X pins σ H s) (h:Soft X):∃ x ob vs,X.A.handled=some (.ref x)/\s.heap.get? x=some ob/\ob.data=.fields vs/\vs[2]? = some .none:=by
 obtain ⟨x,ob,u,vs,h1,h2,h3,h4⟩:=h
 exact ⟨x,ob,vs,h1,(I.hok x _ (I.base.frzs x ob u h2)).1,h3,h4⟩
section
variable {X:Cx} {tg:Expr}
noncomputable def F3 (X:Cx) (pins:List (Addr×Obj)) (σ:St) (tg:Expr) (R:It->Hp->Prop) (itv:Value) (s2:Shared):Prop:=
 ∃ (it:Addr) (fp:List Addr) (tn:Nat->Heap->Prop) (J:It) (H':Hp),itv=.ref it/\Inv X pins σ H' s2/\TurnG Soft X.prog X.w X.K tg J fp it tn/\tn 0 s2.heap/\(∀ b∈fp,gq X pins H' b)/\R J H'
noncomputable def PIS (X:Cx) (tg iter:Expr) (wi:TI):Prop:=
 ∀ (pins:List (Addr×Obj)) (s:Shared) (σ:St) (H:Hp) (R:It->Hp->Prop),Inv X pins σ H s->wi σ H R ->
  wpAny (model X.prog X.w) X.A (eval iter X.env) (fun v s1=>wpAny (model X.prog X.w) X.A (pyIter v) (F3 X pins σ tg R) X.xe s1) X.xe s
theorem PIS.imp {iter:Expr} {t t':TI} (h:PIS X tg iter t) (i:∀ σ H R,t' σ H R->t σ H R):PIS X tg iter t':=fun pins s σ H R I q=>h pins s σ H R I (i _ _ _ q)
end
section
variable {X:Cx} {scope:Scope} {vars:List Str} {caps:List (Nat×Str)} {elt tg iter cnd:Expr} {pos:Pos} {g:TG} {fi:Dv->Option (List D)} {ft:Dv->Option Bool} {fe:Dv->Option D} {bv:D->Option (List D)}
end
structure RoomS (k:Nat) (A:Around):Prop where
 dp:A.depth+3*k+5<recursionLimit
 un:A.units+16*k+200<cLine
theorem RoomS.deeper {k:Nat} {A:Around} (r:RoomS (k+1) A) (env:Env):RoomS k (A.deeper env):=
 ⟨by have:=r.dp; show A.depth+1+3*k+5<_; omega,by have:=r.un; show A.units+3+16*k+200<_; omega⟩
theorem RoomS.depth {k:Nat} {A:Around} (r:RoomS k A):A.depth<recursionLimit:=by have:=r.dp; omega
theorem RoomS.units {k:Nat} {A:Around} (r:RoomS k A):A.units+64<cLine:=by have:=r.un; omega
structure FnS (P:Program) (w:World) (K:PySem.W.Frag) (mg:Str->Option Value) (base:Heap) (k:Nat) (f:Addr) (fd:FuncData) (ps:List Str) (g:List D->Option D):Prop where
 len:∀ as d,g as=some d->as.length=ps.length
 run:∀ (A:Around) (outer:List Env) (s:Shared) (H:Hp) (args:Args) (us:List Value) (vs:List V) (Q:VK) (x:Addr) (ob:Obj) (u:HO) (fl:Array Value),RoomS k A->Env0 P w K mg base A outer s H->A.handled=some (.ref x)->H x=some (.frz ob u)->ob.data=.fields fl->fl[2]? = some .none ->
  BindsTo s fd args (ps.zip us)->Vals vs us->u0 K g vs H Q->codeAny (model P w) A (.call (.ref f) args) (fun r s'=>match r with | .ok (.ret u)=>CE outer P w H s Q u s' | _=>False) s
section
variable {P:Program} {w:World} {K:PySem.W.Frag} {mg:Str->Option Value} {base:Heap}
structure CalS (P:Program) (w:World) (K:PySem.W.Frag) (mg:Str->Option Value) (base:Heap) (x:Str) (k:Nat) (g:List D->Option D):Prop where
 ex:∃ (fa:Addr) (fd:FuncData) (ps:List Str),FnS P w K mg base k fa fd ps g/\mg x=some (.ref fa)/\PySem.W.keepIn K (.ref fa)=true/\Binds K fd ps []
end
section
variable {X:Cx} {body:List Stmt} {b:Sf} {bx:Xf} {np hpos pos:Pos}
end
section
variable {P:Program} {w:World} {K:PySem.W.Frag} {mg:Str->Option Value} {base h:Heap} {x y:Str} {st:Stmt} {k:Nat} {ps:List Str}
end
end VL
set_option Elab.async false
set_option linter.all false
set_option maxRecDepth 100000
set_option maxHeartbeats 4000000
namespace VL
open PySem PySem.Spec PyProof.Rows L2
mutual
noncomputable def yc:D->Bool
 | .none=>true
 | .bool _=>true
 | .int _=>true
 | .str _=>true
 | .tuple xs=>lfA xs
 | _=>false
noncomputable def lfA:List D->Bool
 | []=>true
 | d::ds=>yc d&&lfA ds
end
section
variable {K:Fg} {Z:Hp} {a:Addr} {ys:List V} (ha:Z a=some (.lst ys))
include ha
end
theorem AW {xs:List D} (h:yc (.tuple xs)=true):lfA xs=true:=by simpa [yc] using h
theorem r6 {d:D} {ds:List D} (h:lfA (d::ds)=true):yc d=true/\lfA ds=true:=by
 rw [<- Bool.and_eq_true_iff]; simpa [lfA] using h
theorem ya {xs:List D} (h:yc (.list xs)=true):False:=by simp [yc] at h
theorem yb {xs:List (D×D)} (h:yc (.dict xs)=true):False:=by simp [yc] at h
section
variable {K:Fg} {H₀ Z₀ Z H:Hp} {δ:Dv} {σ:St}
end
section
variable {X:Cx} {e c:Expr} {st:Stmt} {sts:List Stmt} {s1 s2:Sf} {f:Dv->Option D} {p pos apos:Pos}
end
section
variable {P:Program} {w:World} {K:PySem.W.Frag} {mg:Str->Option Value} {base:Heap}
end
end VL
set_option Elab.async false
set_option linter.all false
set_option maxRecDepth 100000
set_option maxHeartbeats 4000000
namespace VL
open PySem PySem.Spec PyProof.Rows L2
theorem uI {K:Fg} {Z Z':Hp} (h:∀ b xs,Rd Z b (.tup xs)->Rd Z' b (.tup xs)) {b:Addr} {xs:List V} (r:SqT K Z b xs):SqT K Z' b xs:=by
 rcases r with r | r
 ·exact .inl (h b xs r)
 ·exact .inr r
mutual
theorem Rep.lf {K:Fg} {Z Z':Hp} (h:∀ b xs,Rd Z b (.tup xs)->Rd Z' b (.tup xs)):∀ {v:V} {d:D},Rep K Z v d->yc d=true->Rep K Z' v d
 | _,_,.non,_=>.non
 | _,_,.bl b,_=>.bl b
 | _,_,.int i,_=>.int i
 | _,_,.str x,_=>.str x
 | _,_,.tup q r,hl=>.tup (uI h q) (Reps.lf h r (AW hl))
 | _,_,.lst q r,hl=>(ya hl).elim
 | _,_,.opq q,hl=>(yb hl).elim
theorem Reps.lf {K:Fg} {Z Z':Hp} (h:∀ b xs,Rd Z b (.tup xs)->Rd Z' b (.tup xs)):∀ {vs:List V} {ds:List D},Reps K Z vs ds->lfA ds=true->Reps K Z' vs ds
 | _,_,.nil,_=>.nil
 | _,_,.cons q r,hl=>.cons (Rep.lf h q (r6 hl).1) (Reps.lf h r (r6 hl).2)
end
noncomputable def NoL (K:Fg):Prop:=∀ a o,K.lookup a=some o->o.cls≠.type "list"
noncomputable def FO:Value->Bool
 | .type s=>s == "list"
 | _=>false
theorem NoL.of {K:Fg} (h:(List.all K fun p=>!FO p.2.cls)=true):NoL K:=fun a o e hc=>by
 have m:∃ b,(b,o)∈K:=by
  clear h
  induction K with
  | nil=>cases e
  | cons q K ih=>
   obtain ⟨b,o'⟩:=q
   rw [List.lookup_cons] at e
   split at e
   ·cases e; exact ⟨b,List.mem_cons_self⟩
   ·obtain ⟨c,hm⟩:=ih e; exact ⟨c,List.mem_cons_of_mem _ hm⟩
 obtain ⟨b,m⟩:=m
 have:=List.all_eq_true.mp h _ m
 dsimp only at this
 rw [hc] at this
 cases this
section
variable {K:Fg} {H₀ Z₀ Z H:Hp} {δ:Dv} {σ:St}
end
section
variable {X:Cx} {e c b:Expr} {es:List Expr} {sts:List Stmt} {s2:Sf} {fk fv:Dv->Option D} {fs:Dv->Option (List D)} {ft:Dv->Option Bool} {p pos pos1 tpos:Pos}
end
end VL
set_option Elab.async false
set_option linter.all false
set_option maxRecDepth 100000
set_option maxHeartbeats 4000000
namespace VL
open PySem PySem.Spec PyProof.Rows L2
section
variable {prog:Program} {w:World} {A:Around} {E:Value->Shared->Prop} {s:Shared}
theorem jG {t:Addr} {items:Array Value} {ps:List (ay×Value)} {Q:Value->Shared->Prop} (ht:IsTup s.heap t items) (hnd:NoDi s.heap t) (hh:A.handled=none) (hn:ps.length=items.size) (hz:items.size<=100000)
  (hP:∀ (i:Nat) (v:Value),items[i]? = some v->∃ b key k u,v=.ref b/\ps[i]? = some (k,u)/\(aA prog w).is k key=true/\IsTup s.heap b #[key,u])
  (h:∀ s':Shared,(∀ b o,s.heap.get? b=some o->s'.heap.get? b=some o)->s'.gens=s.gens->s'.drawn=s.drawn->s'.os=s.os->s'.heap.DictOf (aA prog w) s.heap.objs.size (wx [] ps)->Q (.ref s.heap.objs.size) s') :
  wpAny (model prog w) A (call (.type "dict") [.ref t]) Q E s:=by
 refine callType_codes (Q₁:=fun obj s₁=>obj=.ref s.heap.objs.size/\s₁ = { s with heap:=s.heap.push { cls:=.type "dict",data:=.dict #[] } }) PySem.F.kt_called_dict (PySem.F.kt_typeCall_dict_1 _) PySem.F.entry_dict_init (kt_code_dict_new _ ⟨rfl,rfl⟩) ?_
 rintro obj s₁ ⟨rfl,rfl⟩
 have hnew:(s.heap.push { cls:=.type "dict",data:=.dict #[] }).DictOf (aA prog w) s.heap.objs.size []:=Heap.DictOf.new s.heap
 refine ⟨hnew.typeIs,PySem.F.args_dict_init_2 _ _,?_⟩
 unfold Builtin.«dict.__init__»
 refine wpAny_bind ?_
 unfold Builtin.Dict.selfAndRest
 refine wpAny_bind (wpAny_notOrdered_dict hnew.typeIs ?_)
 show wpAny _ _ (pure (s.heap.objs.size,[Value.ref t])) _ _ _
 refine wpAny_pure ?_
 show wpAny _ _ (Builtin.Dict.updateFrom "dict.__init__" s.heap.objs.size (.ref t) [] .none) _ _ _
 unfold Builtin.Dict.updateFrom
 obtain ⟨o,ho,hc,n0,hd⟩:=ht
 obtain ⟨o',ho',hdn⟩:=hnd
 rw [ho] at ho'
 cases ho'
 have ho1:=Heap.get?_push_of_some { cls:=.type "dict",data:=.dict #[] } ho
 refine wpAny_bind (wpAny_typeOf (T:="tuple") ⟨o,ho1,hc⟩ ?_)
 rw [if_pos (by decide)]
 refine wpAny_bind (jC ho1 hc hd hdn hh fun h' tk keep=>?_)
 rw [if_pos (show (none:Option Value).isNone=true from rfl)]
 refine wpAny_bind (wpAny_rule ?_)
 have ht1:h'.IsTuple t items:=⟨o,keep _ _ ho1,hc,n0,hd⟩
 refine wpAny_bind (wpAny_pyIter_tuple ht1 ?_)
 have hD1:h'.DictOf (aA prog w) s.heap.objs.size []:=by
  obtain ⟨o2,es,ep,e2,r2⟩:=hnew
  exact ⟨o2,es,ep,keep _ _ e2,r2⟩
 have old:∀ {b:Addr} {o:Obj},s.heap.get? b=some o->h'.get? b=some o:=fun {b o} e=>keep _ _ (Heap.get?_push_of_some _ e)
 have lt0:∀ {b:Addr} {o:Obj},s.heap.get? b=some o->b≠s.heap.objs.size:=fun {b o} e=>Nat.ne_of_lt (Heap.lt_size e)
 have lt1:∀ {b:Addr} {o:Obj},h'.get? b=some o->b≠h'.objs.size:=fun {b o} e=>Nat.ne_of_lt (Heap.lt_size e)
 have hSI:s.heap.objs.size≠h'.objs.size:=by
  obtain ⟨o2,es,ep,e2,r2⟩:=hD1
  exact lt1 e2
 have W:=(Walks.tuple (prog:=prog) (w:=w) (A:=A.in1.in1) hh h'.objs.size t (lt1 (old ho)) items).toS
 refine wpAny_pure ⟨plainId_quiet cb _,?_⟩
 refine oG W s.heap.objs.size (by simp [hSI]; exact fun z=>lt0 ho z.symm) .none ps hn hz (h₁:=h'.push { cls:=.type "tuple_iterator",data:=.fields #[.ref t,.int 0 0] }) (fun i v e=>?_) items.size 0 _ [] rfl (Nat.zero_le _) ⟨?_,?_⟩ ?_ (Nat.zero_le _) (fun b o _ _ e=>e) fun s' mv dd=>?_
 ·obtain ⟨b,key,k,u,rfl,h1,h2,o3,h3,h4⟩:=hP i v e
  exact ⟨b,key,k,u,rfl,lt0 h3,by simp; exact lt1 (old h3),h1,h2,o3,Heap.get?_push_of_some _ (old h3),h4⟩
 ·exact ⟨_,Heap.get?_push_size _ rfl,rfl,rfl⟩
 ·exact ⟨o,Heap.get?_push_of_some _ (keep _ _ ho1),hc,n0,hd⟩
 ·obtain ⟨o2,es,ep,e2,r2⟩:=hD1
  exact ⟨o2,es,ep,Heap.get?_push_of_some _ e2,r2⟩
 ·refine ⟨rfl,h s' (fun b o e=>mv.heap b o (by simp; exact ⟨lt0 e,lt1 (old e)⟩) (Heap.get?_push_of_some _ (old e))) mv.gens mv.drawn mv.os ?_⟩
  simpa using dd
theorem jd {t:Addr} {items:Array Value} {ps:List (ay×Value)} {Q:Value->Shared->Prop} (ht:PlainL s.heap t items) (hh:A.handled=none) (hn:ps.length=items.size) (hz:items.size<=100000)
  (hP:∀ (i:Nat) (v:Value),items[i]? = some v->∃ b key k u,v=.ref b/\ps[i]? = some (k,u)/\(aA prog w).is k key=true/\IsTup s.heap b #[key,u])
  (h:∀ s':Shared,(∀ b o,s.heap.get? b=some o->s'.heap.get? b=some o)->s'.gens=s.gens->s'.drawn=s.drawn->s'.os=s.os->s'.heap.DictOf (aA prog w) s.heap.objs.size (wx [] ps)->Q (.ref s.heap.objs.size) s') :
  wpAny (model prog w) A (call (.type "dict") [.ref t]) Q E s:=by
 refine callType_codes (Q₁:=fun obj s₁=>obj=.ref s.heap.objs.size/\s₁ = { s with heap:=s.heap.push { cls:=.type "dict",data:=.dict #[] } }) PySem.F.kt_called_dict (PySem.F.kt_typeCall_dict_1 _) PySem.F.entry_dict_init (kt_code_dict_new _ ⟨rfl,rfl⟩) ?_
 rintro obj s₁ ⟨rfl,rfl⟩
 have hnew:(s.heap.push { cls:=.type "dict",data:=.dict #[] }).DictOf (aA prog w) s.heap.objs.size []:=Heap.DictOf.new s.heap
 refine ⟨hnew.typeIs,PySem.F.args_dict_init_2 _ _,?_⟩
 unfold Builtin.«dict.__init__»
 refine wpAny_bind ?_
 unfold Builtin.Dict.selfAndRest
 refine wpAny_bind (wpAny_notOrdered_dict hnew.typeIs ?_)
 show wpAny _ _ (pure (s.heap.objs.size,[Value.ref t])) _ _ _
 refine wpAny_pure ?_
 show wpAny _ _ (Builtin.Dict.updateFrom "dict.__init__" s.heap.objs.size (.ref t) [] .none) _ _ _
 unfold Builtin.Dict.updateFrom
 obtain ⟨o,n0,ho,hc,hdn,hd⟩:=ht
 have ho1:=Heap.get?_push_of_some { cls:=.type "dict",data:=.dict #[] } ho
 refine wpAny_bind (wpAny_typeOf (T:="list") ⟨o,ho1,hc⟩ ?_)
 rw [if_pos (by decide)]
 refine wpAny_bind (kE ho1 hc hd hdn hh fun h' tk keep=>?_)
 rw [if_pos (show (none:Option Value).isNone=true from rfl)]
 refine wpAny_bind (wpAny_rule ?_)
 have ht1:h'.IsList t items:=⟨o,keep _ _ ho1,hc,n0,hd⟩
 refine wpAny_bind (wpAny_pyIter_list ht1 ?_)
 have hD1:h'.DictOf (aA prog w) s.heap.objs.size []:=by
  obtain ⟨o2,es,ep,e2,r2⟩:=hnew
  exact ⟨o2,es,ep,keep _ _ e2,r2⟩
 have old:∀ {b:Addr} {o:Obj},s.heap.get? b=some o->h'.get? b=some o:=fun {b o} e=>keep _ _ (Heap.get?_push_of_some _ e)
 have lt0:∀ {b:Addr} {o:Obj},s.heap.get? b=some o->b≠s.heap.objs.size:=fun {b o} e=>Nat.ne_of_lt (Heap.lt_size e)
 have lt1:∀ {b:Addr} {o:Obj},h'.get? b=some o->b≠h'.objs.size:=fun {b o} e=>Nat.ne_of_lt (Heap.lt_size e)
 have hSI:s.heap.objs.size≠h'.objs.size:=by
  obtain ⟨o2,es,ep,e2,r2⟩:=hD1
  exact lt1 e2
 have W:=(Walks.list (prog:=prog) (w:=w) (A:=A.in1.in1) hh h'.objs.size t (lt1 (old ho)) items).toS
 refine wpAny_pure ⟨plainId_quiet cb _,?_⟩
 refine oG W s.heap.objs.size (by simp [hSI]; exact fun z=>lt0 ho z.symm) .none ps hn hz (h₁:=h'.push { cls:=.type "list_iterator",data:=.fields #[.ref t,.int 0 0] }) (fun i v e=>?_) items.size 0 _ [] rfl (Nat.zero_le _) ⟨?_,?_⟩ ?_ (Nat.zero_le _) (fun b o _ _ e=>e) fun s' mv dd=>?_
 ·obtain ⟨b,key,k,u,rfl,h1,h2,o3,h3,h4⟩:=hP i v e
  exact ⟨b,key,k,u,rfl,lt0 h3,by simp; exact lt1 (old h3),h1,h2,o3,Heap.get?_push_of_some _ (old h3),h4⟩
 ·exact ⟨_,Heap.get?_push_size _ rfl,rfl,rfl⟩
 ·exact ⟨o,Heap.get?_push_of_some _ (keep _ _ ho1),hc,n0,hd⟩
 ·obtain ⟨o2,es,ep,e2,r2⟩:=hD1
  exact ⟨o2,es,ep,Heap.get?_push_of_some _ e2,r2⟩
 ·refine ⟨rfl,h s' (fun b o e=>mv.heap b o (by simp; exact ⟨lt0 e,lt1 (old e)⟩) (Heap.get?_push_of_some _ (old e))) mv.gens mv.drawn mv.os ?_⟩
  simpa using dd
end
noncomputable def rQ:D->Option (ay×D)
 | .tuple [k,v]=>(gP k).bind fun k=>some (k,v)
 | _=>none
noncomputable def gJ:List D->Option (List (ay×D))
 | []=>some []
 | d::ds=>(rQ d).bind fun p=>(gJ ds).bind fun ps=>some (p::ps)
noncomputable def mR:D->Option (List (ay×D))
 | .tuple ds=>(gJ ds).bind fun ps=>if ds.length<=1000 then some (ps.foldl (fun acc p=>dQ acc p.1 p.2) []) else none
 | .list ds=>(gJ ds).bind fun ps=>if ds.length<=1000 then some (ps.foldl (fun acc p=>dQ acc p.1 p.2) []) else none
 | _=>none
noncomputable def qz (i:Nat) (f:Dv->Option D):Sf:=fun δ=>(f δ).bind fun d=>(mR d).bind fun es=>some (.nx,δ.set i (.od es))
inductive PairsV (K:Fg) (H:Hp):List V->List (ay×V)->Prop
 | nil:PairsV K H [] []
 | cons {b:Addr} {k:ay} {v:V} {ts:List V} {ps:List (ay×V)}:SqT K H b [kV k,v]->PairsV K H ts ps->PairsV K H (.ref b::ts) ((k,v)::ps)
noncomputable def wy (ps:List (ay×V)):List (ay×V):=ps.foldl (fun acc p=>dD acc p.1 p.2) []
theorem PairsV.vals {X:Cx} {pins:List (Addr×Obj)} {σ:St} {H:Hp} {s:Shared} (I:Inv X pins σ H s):∀ {ts:List V} {ps:List (ay×V)} {us:List Value},PairsV X.K H ts ps->Vals ts us->∃ qs:List (ay×Value),KV ps qs/\qs.length=us.length/\∀ (i:Nat) (v:Value),us[i]? = some v->∃ b key k u,v=.ref b/\qs[i]? = some (k,u)/\(aA X.prog X.w).is k key=true/\IsTup s.heap b #[key,u]
 | _,_,_,.nil,.nil=>⟨[],.nil,rfl,fun i v e=>by simp at e⟩
 | _,_,_,.cons (b:=b) (k:=k) (v:=v) h r,.cons h1 r1=>by
  obtain ⟨qs,g1,g2,g3⟩:=PairsV.vals I r r1
  cases h1
  obtain ⟨its,rr,tp,_⟩:=I.tuple h
  obtain ⟨a1,a2,rfl,q1,q2⟩:=oA rr
  refine ⟨(k,a2)::qs,.cons ⟨rfl,q2⟩ g1,by simp [g2],fun i w e=>?_⟩
  cases i with
  | zero=>
   have e:Value.ref b=w:=by simpa using e
   subst e
   exact ⟨b,a1,k,a2,rfl,rfl,kG q1,tp⟩
  | succ i=>exact g3 i w (by simpa using e)
theorem AY {ps:List (ay×V)} {qs:List (ay×Value)} (r:KV ps qs):∀ {kvs:List (ay×V)} {vs:List (ay×Value)},KV kvs vs->KV (ps.foldl (fun acc p=>dD acc p.1 p.2) kvs) (wx vs qs):=by
 induction r with
 | nil=>intro kvs vs h; exact h
 | cons h r ih=>
  intro kvs vs g
  obtain ⟨h1,h2⟩:=h
  refine ih ?_
  dsimp only
  rw [<- h1]
  exact g.put _ h2
theorem sd:∀ (ps:List (ay×V)) (kvs:List (ay×V)),(ps.foldl (fun acc p=>dD acc p.1 p.2) kvs).length<=kvs.length+ps.length
 | [],kvs=>Nat.le_refl _
 | p::ps,kvs=>by
  have:=sd ps (dD kvs p.1 p.2)
  have:=ej kvs p.1 p.2
  show (ps.foldl _ (dD kvs p.1 p.2)).length<=_
  rw [List.length_cons]
  omega
theorem PairsV.length {K:Fg} {H:Hp} {ts:List V} {ps:List (ay×V)} (h:PairsV K H ts ps):ps.length=ts.length:=by
 induction h with
 | nil=>rfl
 | cons _ _ ih=>simp [ih]
section
variable {X:Cx}
theorem qU (hc:X.calm=true):CallR X (.type "dict") (fun xs H Q=>∃ a ts ps,xs=[V.ref a]/\(SqT X.K H a ts\/SqL X.K H a ts)/\PairsV X.K H ts ps/\ts.length<=1000/\∀ l,H l=none->Q (.ref l) (upd H l (.dK (wy ps)))):=by
 intro pins s σ H xs us Q I r h
 obtain ⟨a,ts,ps,rfl,ha,hp,hl,q⟩:=h
 obtain ⟨u,rfl,ru⟩:=gr r
 cases ru
 have fin:∀ {its:List Value} (r1:Vals ts its) {qs:List (ay×Value)} (g1:KV ps qs) (s':Shared) (kp:∀ b o,s.heap.get? b=some o->s'.heap.get? b=some o) (hg:s'.gens=s.gens) (hdr:s'.drawn=s.drawn) (hos:s'.os=s.os) (dd:s'.heap.DictOf (aA X.prog X.w) s.heap.objs.size (wx [] qs)),∃ v H',Inv X pins σ H' s'/\RelV v (.ref s.heap.objs.size)/\Q v H':=by
  intro its r1 qs g1 s' kp hg hdr hos dd
  have hf:H s.heap.objs.size=none:=I.hok.fresh (Nat.le_refl _)
  refine ⟨.ref s.heap.objs.size,upd H s.heap.objs.size (.dK (wy ps)),?_,rfl,q _ hf⟩
  have big:=I.big
  have L:=I.laid (h':=s'.heap) (a:=s.heap.objs.size) (o:=.dK (wy ps)) (t':=s'.toks) kp (Nat.le_refl _) (qR (by
    have:=sd ps []
    have:=hp.length
    show (wy ps).length<=sizeLine
    rw [sizeLine_eq]
    unfold wy
    simp only [List.length_nil] at *
    omega) (by rw [beq_eq_false_iff_ne]; exact fun z=>Nat.lt_irrefl _ (z ▸ big)) (AY g1 .nil) dd)
  obtain ⟨hp',g',d',t',o'⟩:=s'
  obtain ⟨hp0,g0,d0,t0,o0⟩:=s
  simp only at hg hdr hos
  subst hg hdr hos
  exact L
 rcases ha with ha | ha
 ·obtain ⟨its,r1,tp,_⟩:=I.tuple ha
  obtain ⟨qs,g1,g2,g3⟩:=hp.vals I r1
  have hlen:=r1.length
  have e1:its.toArray.size=its.length:=by simp
  exact jG tp (I.noDi ha) (I.ok.hd hc) (ps:=qs) (by rw [e1]; exact g2) (by rw [e1]; omega) (fun i v e=>g3 i v (by simpa using e)) (fin r1 g1)
 ·obtain ⟨its,r1,tp,_⟩:=I.list ha
  obtain ⟨qs,g1,g2,g3⟩:=hp.vals I r1
  have hlen:=r1.length
  have e1:its.toArray.size=its.length:=by simp
  exact jd tp (I.ok.hd hc) (ps:=qs) (by rw [e1]; exact g2) (by rw [e1]; omega) (fun i v e=>g3 i v (by simpa using e)) (fin r1 g1)
theorem xy {K:Fg} {Z H:Hp} (zh:Same Z H) {v:V} {d:D} {p:ay×D} (r:Rep K Z v d) (h:rQ d=some p):∃ b w,v=.ref b/\SqT K H b [kV p.1,w]/\Rep K Z w p.2:=by
 unfold rQ at h
 split at h
 rotate_left
 ·cases h
 rename_i dk dv
 obtain ⟨k,e1,h⟩:=bind_some h
 cases h
 cases r with
 | tup sq rs=>
  cases rs with
  | cons r1 rs=>
   cases rs with
   | cons r2 rs=>
    cases rs
    have:=dS r1 e1
    subst this
    exact ⟨_,_,rfl,SqT.same sq zh,r2⟩
theorem kf {K:Fg} {Z H:Hp} (zh:Same Z H):∀ {vs:List V} {ds:List D} {ps:List (ay×D)},Reps K Z vs ds->gJ ds=some ps->∃ qs:List (ay×V),PairsV K H vs qs/\qs.map (·.1)=ps.map (·.1)/\Reps K Z (qs.map (·.2)) (ps.map (·.2))
 | _,_,_,.nil,h=>by cases h; exact ⟨[],.nil,rfl,.nil⟩
 | _,_,_,.cons r rs,h=>by
  obtain ⟨p,e1,h⟩:=bind_some h
  obtain ⟨ps,e2,h⟩:=bind_some h
  cases h
  obtain ⟨b,w,rfl,g1,g2⟩:=xy zh r e1
  obtain ⟨qs,g3,g4,g5⟩:=kf zh rs e2
  exact ⟨(p.1,w)::qs,.cons g1 g3,by simp [g4],.cons g2 g5⟩
theorem ke {K:Fg} {Z:Hp}:∀ {qs:List (ay×V)} {ps:List (ay×D)},qs.map (·.1)=ps.map (·.1)->Reps K Z (qs.map (·.2)) (ps.map (·.2))->∀ {kvs:List (ay×V)} {es:List (ay×D)},gp K Z kvs es->gp K Z (qs.foldl (fun acc p=>dD acc p.1 p.2) kvs) (ps.foldl (fun acc p=>dQ acc p.1 p.2) es)
 | [],[],_,_,kvs,es,h=>h
 | [],_::_,e,_,_,_,_=>by simp at e
 | _::_,[],e,_,_,_,_=>by simp at e
 | q::qs,p::ps,e,r,kvs,es,h=>by
  simp only [List.map_cons,List.cons.injEq] at e
  cases r with
  | cons r1 r2=>
   refine ke e.2 r2 ?_
   dsimp only
   rw [e.1]
   exact kb h p.1 r1
theorem xg (i:Nat) {x:Str} {e:Expr} {f:Dv->Option D} {p pos pos' cpos:Pos} (hN:X.N.Nodup) (hg:Gl X "dict") (hm:X.mg "dict" = none) (he':EV X e f) (hc:X.calm=true:=by rfl) (hi:X.N[i]? = some x:=by rfl) (hx:ur X.env.scope x:=by first | exact Or.inl rfl | exact Or.inr rfl)
  (he:starEach [e] X.env=(false,eval e X.env)::starEach [] X.env:=by rfl) (hpl:(backTo cpos (starEach [] X.env)).any (·.1)=false:=by rfl)
  (hs:swapsWith (.Call (.Name "dict" p) [e] [] cpos) (some (.Name x pos')) pos.line X.env=pure false:=by rfl)
  (hf:X.fn x=true\/X.env.scope.names.lookup x=some .local:=by first | exact .inl rfl | exact .inr rfl | assumption):SV X (.Assign [.Name x pos'] (.Call (.Name "dict" p) [e] [] cpos) pos) (qz i f):=
 PS.imp (iS hN hi hx (mn (qU hc) hg hm (by decide +kernel) (bE he' dl he) (by decide) (by decide) he hpl) hs hf) fun D σ H h=>by
  obtain ⟨H₀,Z₀,Z,δ,r,hh,e,k⟩:=h
  obtain ⟨d,e1,e⟩:=bind_some e
  obtain ⟨es,e2,e⟩:=bind_some e
  cases e
  refine ⟨H₀,Z₀,Z,δ,d,hh,e1,fun v Z1 H1 hh1 t1 r1=>?_⟩
  unfold mR at e2
  split at e2
  ·rename_i ds
   obtain ⟨ps,e3,e2⟩:=bind_some e2
   obtain ⟨hl,e2⟩:=bX e2
   cases e2
   cases r1 with
   | tup sq rs=>
    obtain ⟨qs,g1,g2,g3⟩:=kf hh1.zh rs e3
    refine ⟨_,_,qs,rfl,.inl (SqT.same sq hh1.zh),g1,by rw [rs.length]; exact hl,fun l hl'=>?_⟩
    exact k _ _ Z1 (hh1.setW hl' (.dct (ke g2 g3 ⟨rfl,.nil⟩))) t1
  ·rename_i ds
   obtain ⟨ps,e3,e2⟩:=bind_some e2
   obtain ⟨hl,e2⟩:=bX e2
   cases e2
   cases r1 with
   | lst sq rs=>
    obtain ⟨qs,g1,g2,g3⟩:=kf hh1.zh rs e3
    refine ⟨_,_,qs,rfl,.inr (SqL.same sq hh1.zh),g1,by rw [rs.length]; exact hl,fun l hl'=>?_⟩
    exact k _ _ Z1 (hh1.setW hl' (.dct (ke g2 g3 ⟨rfl,.nil⟩))) t1
  ·cases e2
end
end VL
set_option Elab.async false
set_option linter.all false
set_option maxRecDepth 100000
set_option maxHeartbeats 4000000
namespace VL
open PySem PySem.Spec PyProof.Rows L2
noncomputable def mh (i:Nat) (fk fv:Dv->Option D):Sf:=fun δ=>(fk δ).bind fun k=>(fv δ).bind fun v=>(gP k).bind fun k=>some (.nx,δ.set i (.od [(k,v)]))
section
variable {K:Fg} {H₀ Z₀ Z H:Hp} {δ:Dv} {σ:St} {p:Addr} {o:HO}
theorem Hold.aside (h:Hold K H₀ Z₀ Z δ σ H) (hp:H p=none) (o:HO):Hold K (upd H₀ p o) Z₀ Z δ σ (upd H p o) where
 zh:=h.zh.trans (de hp)
 h0:=fun b u e=>by
  by_cases hb:b=p
  ·subst hb; rw [aw] at e ⊢; exact e
  ·rw [ar hb] at e ⊢; exact h.h0 b u e
 z0:=h.z0
 zb:=fun b hb=>by
  by_cases e:b=p
  ·subst e
   have z1:=ix h.zh hp
   rw [z1,dE h.z0 z1]
  ·rw [ar e] at hb; exact h.zb b hb
 len:=h.len
 fz:=h.fz
 own:=fun i c e=>by
  obtain ⟨a,u,h1,h2,h3,h4,h5⟩:=h.own i c e
  have:a≠p:=fun z=>by rw [z,hp] at h4; cases h4
  exact ⟨a,u,h1,by rw [ar this]; exact h2,h3,by rw [ar this]; exact h4,h5⟩
 dja:=h.dja
 fr:=fun i ds e=>by
  obtain ⟨a,xs,h1,h2,h3,h4,h5⟩:=h.fr i ds e
  have:a≠p:=fun z=>by have:=h.zh _ _ h4; rw [z,hp] at this; cases this
  exact ⟨a,xs,h1,by rw [ar this]; exact h2,h3,h4,h5⟩
 nf:=h.nf
theorem Hold.inside (h:Hold K (upd H₀ p o) Z₀ Z δ σ H) (h0:H₀ p=none) (hz:Z₀ p=none):H p=some o/\Hold K H₀ Z₀ Z δ σ (fun b=>if b=p then none else H b):=by
 have hzp:Z p=none:=by rw [h.zb p (by rw [aw]; intro z; cases z)]; exact hz
 refine ⟨h.h0 p o aw,fun b u e=>?_,fun b u e=>?_,h.z0,fun b hb=>?_,h.len,h.fz,fun i c e=>?_,h.dja,fun i ds e=>?_,h.nf⟩
 ·show (if b=p then none else H b)=some u
  rw [if_neg (aD e hzp)]; exact h.zh b u e
 ·show (if b=p then none else H b)=some u
  have:=aD e h0
  rw [if_neg this]; exact h.h0 b u (by rw [ar this]; exact e)
 ·exact h.zb b (by rw [ar (fun z=>hb (by rw [z]; exact h0))]; exact hb)
 ·obtain ⟨a,u,h1,h2,h3,h4,h5⟩:=h.own i c e
  have:a≠p:=fun z=>by rw [z,aw] at h2; cases h2
  exact ⟨a,u,h1,by rw [ar this] at h2; exact h2,h3,by show (if a=p then none else H a)=_; rw [if_neg this]; exact h4,h5⟩
 ·obtain ⟨a,xs,h1,h2,h3,h4,h5⟩:=h.fr i ds e
  have:a≠p:=fun z=>by rw [z,aw] at h2; cases h2
  exact ⟨a,xs,h1,by rw [ar this] at h2; exact h2,h3,h4,h5⟩
end
section
variable {X:Cx}
theorem xf (i:Nat) {x:Str} {k v:Expr} {fk fv:Dv->Option D} {pos pos' dpos:Pos} (hN:X.N.Nodup) (hk:EV X k fk) (hv':EV X v fv) (hi:X.N[i]? = some x:=by rfl) (hx:ur X.env.scope x:=by first | exact Or.inl rfl | exact Or.inr rfl)
  (hs:swapsWith (.Dict [some k] [v] dpos) (some (.Name x pos')) pos.line X.env=pure false:=by rfl)
  (hf:X.fn x=true\/X.env.scope.names.lookup x=some .local:=by first | exact .inl rfl | exact .inr rfl | assumption):SV X (.Assign [.Name x pos'] (.Dict [some k] [v] dpos) pos) (mh i fk fv):=
 PS.imp (iS hN hi hx (xL (u5 hk hv' xC) rfl rfl (by simp) (by simp)) hs hf) fun D σ H h=>by
  obtain ⟨H₀,Z₀,Z,δ,r,hh,e,kk⟩:=h
  obtain ⟨dk,e1,e⟩:=bind_some e
  obtain ⟨dv,e2,e⟩:=bind_some e
  obtain ⟨ky,e3,e⟩:=bind_some e
  cases e
  intro p hp
  have z0:=dE hh.z0 (ix hh.zh hp)
  have h0:H₀ p=none:=by
   cases e:H₀ p with
   | none=>rfl
   | some o=>rw [hh.h0 p o e] at hp; cases hp
  refine ⟨_,Z₀,Z,δ,dk,hh.aside hp (.dK []),e1,fun w1 Z1 H1 hh1 t1 r1=>⟨_,Z₀,Z1,δ,dv,hh1,e2,fun w2 Z2 H2 hh2 t2 r2=>?_⟩⟩
  obtain ⟨g1,g2⟩:=hh2.inside h0 z0
  have:=dS r1 e3
  subst this
  refine ⟨g1,[(ky,w2)],rfl,by simp,?_⟩
  have hn:(fun b=>if b=p then none else H2 b) p=none:=if_pos rfl
  have st:=g2.setW (i:=i) hn (.dct (K:=X.K) (Z:=Z2) (kvs:=[(ky,w2)]) (es:=[(ky,dv)]) ⟨rfl,.cons r2 .nil⟩)
  have eH:upd (fun b=>if b=p then none else H2 b) p (.dK [(ky,w2)])=upd H2 p (.dK [(ky,w2)]):=funext fun b=>by
   by_cases hb:b=p
   ·subst hb; rw [aw,aw]
   ·rw [ar hb,ar hb]; exact if_neg hb
  rw [eH] at st
  exact kk _ _ Z2 st (t1.trans t2)
end
end VL
set_option Elab.async false
set_option linter.all false
set_option maxRecDepth 100000
set_option maxHeartbeats 4000000
namespace VL
open PySem PySem.Spec PyProof.Rows L2
noncomputable def zR (N:List Str) (es:List (ay×D)) (as:List D):Dv:=(aC N (.none::as)).set 0 (.od es)
noncomputable def qA (N:List Str) (n:Nat) (b:Sf):List (ay×D)->List D->Option (List (ay×D)):=fun es as=>if as.length+1=n then (b (zR N es as)).bind fun r=>match r with
  | (.nx,δ)=>qw δ[0]?
  | _=>none
 else none
noncomputable def lC (i:Nat) (fs:Dv->Option (List D)) (g:List (ay×D)->List D->Option (List (ay×D))):Sf:=fun δ=>(qw δ[i]?).bind fun es=>(fs δ).bind fun as=>(g es as).bind fun es'=>some (.nx,δ.set i (.od es'))
noncomputable def iX (a:Addr) (H:Hp):Hp:=fun b=>if b=a then none else H b
theorem nI {a:Addr} {H:Hp}:iX a H a=none:=if_pos rfl
theorem eZ {a b:Addr} {H:Hp} (h:b≠a):iX a H b=H b:=if_neg h
theorem vx {a:Addr} {H:Hp}:Same (iX a H) H:=fun b o e=>by
 unfold iX at e
 split at e
 ·cases e
 ·exact e
theorem vw {a:Addr} {H:Hp} {o:HO} (e:H a=some o):upd (iX a H) a o=H:=funext fun b=>by
 by_cases hb:b=a
 ·subst hb; rw [aw,e]
 ·rw [ar hb,eZ hb]
theorem mD {a:Addr} {Z H:Hp} (z:Same Z H) (h:Z a=none):Same Z (iX a H):=fun b o e=>by rw [eZ (aD e h)]; exact z b o e
noncomputable def Ei (K:Fg) (g:List (ay×D)->List D->Option (List (ay×D))):Sp:=fun vs H Q _=>∃ Z a ws kvs es as es',vs=.ref a::ws/\Same Z H/\Z a=none/\H a=some (.dK kvs)/\gp K Z kvs es/\Reps K Z ws as/\g es as=some es' /\
 ∀ Z' H' kvs',New Z (iX a H) Z' (iX a H')->H' a=some (.dK kvs')->gp K Z' kvs' es'->Q .non H'
noncomputable def Go (K:Fg) (a:Addr) (f:Sf):TS:=fun D σ H=>∃ H₀ Z₀ Z δ r,Hold K H₀ Z₀ Z δ σ H /\ σ[0]? = some (some (.ref a))/\f δ = some r/\∀ σ' H' Z',Hold K H₀ Z₀ Z' r.2 σ' H' -> σ'[0]? = some (some (.ref a))->Same Z Z'->r.1.to K Z' D σ' H'
noncomputable def Ed (X:Cx) (st:Stmt) (f:Sf):Prop:=∀ a,PS X st (Go X.K a f)
noncomputable def BF (X:Cx) (sts:List Stmt) (f:Sf):Prop:=∀ a,PSs X sts (Go X.K a f)
section
variable {X:Cx} {e b c:Expr} {st:Stmt} {sts body orelse:List Stmt} {s1 s2:Sf} {f fk fv:Dv->Option D} {ft:Dv->Option Bool} {p pos tpos:Pos}
theorem ro (i:Nat) {x:Str} {pos':Pos} (hN:X.N.Nodup) (he:EV X e f) (h0:0<i) (hi:X.N[i]? = some x:=by rfl) (hx:ur X.env.scope x:=by first | exact Or.inl rfl | exact Or.inr rfl) (hs:swapsWith e (some (.Name x pos')) pos.line X.env=pure false:=by rfl)
  (hf:X.fn x=true\/X.env.scope.names.lookup x=some .local:=by first | exact .inl rfl | exact .inr rfl | assumption):Ed X (.Assign [.Name x pos'] e pos) (aU i f):=fun a=>
 PS.imp (iS hN hi hx he hs hf) fun D σ H h=>by
  obtain ⟨H₀,Z₀,Z,δ,r,hh,ha,e,k⟩:=h
  obtain ⟨x,e1,e⟩:=bind_some e
  cases e
  exact ⟨H₀,Z₀,Z,δ,x,hh,e1,fun v Z1 H1 hh1 s1 r1=>k _ H1 Z1 (hh1.set r1) (by rw [List.getElem?_set_ne (by omega)]; exact ha) s1⟩
theorem oK {x:Str} (hu:X.A.units+1<cLine) (hb:EV X b fk) (hv':EV X e fv) (hN:X.N[0]? = some x:=by rfl) (hv:uu X.env.scope x:=by first | exact Or.inl rfl | exact Or.inr (Or.inl rfl) | exact Or.inr (Or.inr rfl)) (hd:(x==("__debug__":Str))=false:=by decide) (hcd:(x==("__classdict__":Str))=false:=by decide)
  (hs:swapsWith e (some (.Subscript (.Name x p) b tpos)) pos.line X.env=pure false:=by rfl):Ed X (.Assign [.Subscript (.Name x p) b tpos] e pos) (br 0 fk fv):=fun a0=>
 PS.imp (rK hu (eA hN hv hd hcd) hb hv' hs) fun D σ H h=>by
  obtain ⟨H₀,Z₀,Z,δ,r,hh,ha0,e,k⟩:=h
  obtain ⟨v,e1,e⟩:=bind_some e
  obtain ⟨es,e2,e⟩:=bind_some e
  obtain ⟨y,e3,e⟩:=bind_some e
  obtain ⟨ky,e4,e⟩:=bind_some e
  obtain ⟨hl,e5⟩:=bX e
  cases e5
  refine ⟨H₀,Z₀,Z,δ,v,hh,e1,fun w Z1 H1 hh1 t1 r1=>?_⟩
  obtain ⟨a,kvs,h1,h4,h5⟩:=fQ hh1 e2
  refine ⟨_,h1,H₀,Z₀,Z1,δ,y,hh1,e3,fun u Z2 H2 hh2 t2 r2=>?_⟩
  obtain ⟨a',kvs',g1,g4,g5⟩:=fQ hh2 e2
  rw [h1] at g1
  cases g1
  obtain rfl:=dS r2 e4
  exact ⟨a,_,rfl,DPut.k g4 (by rw [dO g5]; exact hl),k σ _ Z2 (hh2.chgW (gH e2) h1 (.dct (kb g5 ky (r1.same t2)))) ha0 (t1.trans t2)⟩
theorem sH:BF X [] iR:=fun a=>PSs.imp rJ fun D σ H h=>by
 obtain ⟨H₀,Z₀,Z,δ,r,hh,ha,e,k⟩:=h
 cases e
 exact k σ H Z hh ha (Same.refl _)
theorem n9 (h1:Ed X st s1):BF X [st] s1:=fun a=>rH (h1 a)
theorem kY (h1:Ed X st s1) (h2:BF X sts s2):BF X (st::sts) (az s1 s2):=fun a=>
 PSs.imp (kg (h1 a) (h2 a)) fun D σ H h=>by
  obtain ⟨H₀,Z₀,Z,δ,r,hh,ha,e,k⟩:=h
  obtain ⟨⟨fl,δ'⟩,e1,e⟩:=bind_some e
  refine ⟨H₀,Z₀,Z,δ,(fl,δ'),hh,ha,e1,fun σ' H' Z' hh' ha' s'=>?_⟩
  cases fl with
  | nx=>exact ⟨H₀,Z₀,Z',δ',r,hh',ha',e,fun σ2 H2 Z2 hh2 ha2 s2=>by
    have:=k σ2 H2 Z2 hh2 ha2 (s'.trans s2)
    obtain ⟨fl,δ2⟩:=r
    cases fl <;> exact this⟩
  | bk=>cases e; exact k σ' H' Z' hh' ha' s'
  | ct=>cases e; exact k σ' H' Z' hh' ha' s'
  | rt d=>cases e; exact k σ' H' Z' hh' ha' s'
theorem uC (hc:TV X c ft) (ha:BF X body s1) (hb:BF X orelse s2):Ed X (.If c body orelse pos) (dZ ft s1 s2):=fun a=>
 PS.imp (u3 hc (ha a) (hb a)) fun D σ H h=>by
  obtain ⟨H₀,Z₀,Z,δ,r,hh,h0,e,k⟩:=h
  obtain ⟨x,e1,e⟩:=bind_some e
  refine ⟨H₀,Z₀,Z,δ,x,hh,e1,fun Z1 H1 hh1 t1=>?_⟩
  cases x with
  | true=>exact ⟨H₀,Z₀,Z1,δ,r,hh1,h0,e,fun σ2 H2 Z2 hh2 h2 t2=>k σ2 H2 Z2 hh2 h2 (t1.trans t2)⟩
  | false=>exact ⟨H₀,Z₀,Z1,δ,r,hh1,h0,e,fun σ2 H2 Z2 hh2 h2 t2=>k σ2 H2 Z2 hh2 h2 (t1.trans t2)⟩
end
section
variable {P:Program} {w:World} {K:PySem.W.Frag} {mg:Str->Option Value} {base:Heap}
theorem FM {x qual:Str} {st:Stmt} {f:Addr} {fd:FuncData} {dV:Value} {N ps:List Str} {k:Nat} {b:Sf} (F:FunV K x qual st f fd dV) (S:FnScope N ps (ah st)) (hn:0<N.length)
  (hb:∀ (cdv:Value) (A:Around) (outer:List Env) (s:Shared) (H:Hp) (E:XK),Room k (A.deeper (envOfC qual (ah st) s.heap.objs.size f cdv))->BF (d7 dJ P w K mg base N qual (ah st) f cdv A outer s H E).nox (bS st) b) :
  FnOk P w K mg base dJ (k+1) f fd ps (Ei K (qA N ps.length b)):=by
 obtain ⟨oc,od,kV,doc,pm,an,cdv,ct,osl,rfl,lk,hcd⟩:=F.ex
 have hlen:∀ es as es',qA N ps.length b es as=some es'->as.length+1=ps.length:=fun es as es' h=>by
  unfold qA at h
  split at h
  ·assumption
  ·cases h
 refine sx lk hcd S (fun vs H Q E h=>?_) fun A outer s H vs Q E hr hsp=>?_
 ·obtain ⟨Z,a,ws,kvs,es,as,es',rfl,zh,za,ha,r1,r2,e,_⟩:=h
  have:=hlen es as es' e
  have:=r2.length
  simp only [List.length_cons]
  omega
 ·obtain ⟨Z,a,ws,kvs,es,as,es',rfl,zh,za,ha,r1,r2,e,kk⟩:=hsp
  refine ⟨_,PSs.nox (hb cdv A outer s H E hr a),?_⟩
  have h1:=gQ (K:=K) (N:=N) (H:=iX a H) (mD zh za) (.cons (.non:Rep K Z .non .none) r2)
  have h2:=h1.setW (i:=0) (p:=a) nI (.dct r1)
  rw [vw ha] at h2
  have hl0:0<(start N (.non::ws)).length:=by simp [L2.start]
  have es0:(start N (.non::ws)).set 0 (some (.ref a))=start N (.ref a::ws):=by simp [L2.start]
  rw [es0] at h2
  unfold qA at e
  split at e
  rotate_left
  ·cases e
  obtain ⟨⟨fl,δ'⟩,e2,e⟩:=bind_some e
  cases fl with
  | nx=>
   refine ⟨iX a H,Z,Z,_,_,h2,by simp [L2.start],e2,fun σ' H' Z' h' a' s'=>?_⟩
   obtain ⟨a2,kvs',g1,g2,g3,g4,g5⟩:=h'.od 0 es' (gH e)
   rw [a'] at g1
   cases g1
   refine kk Z' H' kvs' ⟨s',fun b o q=>?_,mD h'.zh g3,h'.zb,h'.nf⟩ g4 g5
   have hb':b≠a:=fun z=>by rw [z,nI] at q; cases q
   rw [eZ hb']
   exact h'.h0 b o q
  | rt d=>cases e
  | bk=>cases e
  | ct=>cases e
structure CalM (P:Program) (w:World) (K:PySem.W.Frag) (mg:Str->Option Value) (base:Heap) (x:Str) (k:Nat) (g:List (ay×D)->List D->Option (List (ay×D))):Prop where
 ex:∃ (fa:Addr) (fd:FuncData) (ps:List Str),FnOk P w K mg base dJ k fa fd ps (Ei K g)/\mg x=some (.ref fa)/\PySem.W.keepIn K (.ref fa)=true/\Binds K fd ps []
end
section
variable {K:Fg} {H₀ Z₀ Z H:Hp} {δ:Dv} {σ:St}
theorem Hold.mod (h:Hold K H₀ Z₀ Z δ σ H) {i:Nat} {a:Addr} {es es':List (ay×D)} {kvs':List (ay×V)} {Z' H':Hp} (q:δ[i]? = some (.od es)) (h1:σ[i]? = some (some (.ref a))) (h2:H₀ a=none) (n:New Z (iX a H) Z' (iX a H')) (g4:H' a=some (.dK kvs')) (g5:gp K Z' kvs' es') :
  Hold K H₀ Z₀ Z' (δ.set i (.od es')) σ H':=by
 have hl:i < δ.length:=(List.getElem?_eq_some_iff.mp q).1
 have up:∀ {b:Addr} {o:HO},b≠a->H b=some o->H' b=some o:=fun {b o} hb e=>by
  have:=n.h b o (by rw [eZ hb]; exact e)
  rwa [eZ hb] at this
 have za:Z' a=none:=by
  cases e:Z' a with
  | none=>rfl
  | some o=>have:=n.zh a o e; rw [nI] at this; cases this
 refine ⟨n.zh.trans vx,fun b o e=>up (aD e h2) (h.h0 b o e),h.z0.trans n.z,fun b hb=>?_,by simp [h.len],fun j d e=>?_,fun j d e=>?_,fun j k d1 d2 c hjk q1 q2=>?_,(h.fr.same n.z).put (fun _ z=>nomatch z) fun _ _=>rfl,h.nf.trans n.nf⟩
 ·have hba:b≠a:=fun z=>hb (by rw [z]; exact h2)
  have:iX a H b≠none:=by
   rw [eZ hba]
   cases e:H₀ b with
   | none=>exact absurd e hb
   | some o=>rw [h.h0 b o e]; intro z; cases z
  rw [n.o b this,h.zb b hb]
 ·by_cases hj:i=j
  ·subst hj
   rw [List.getElem?_set_self hl] at e
   cases e
  ·rw [List.getElem?_set_ne hj] at e
   obtain ⟨v,g1,g2⟩:=h.fz j d e
   exact ⟨v,g1,g2.same n.z⟩
 ·by_cases hj:i=j
  ·subst hj
   rw [List.getElem?_set_self hl] at e
   cases e
   exact ⟨a,_,h1,h2,za,g4,.dct g5⟩
  ·rw [List.getElem?_set_ne hj] at e
   obtain ⟨c,o,f1,f2,f3,f4,f5⟩:=h.own j d e
   have hc:c≠a:=fun z=>by subst z; exact h.dja i j _ d c hj q e h1 f1
   exact ⟨c,o,f1,f2,by rw [n.o c (by rw [eZ hc,f4]; intro z; cases z)]; exact f3,up hc f4,f5.same n.z⟩
 ·have f:∀ {m:Nat} {dm:Oc},(δ.set i (.od es'))[m]? = some (.own dm)->∃ dm',δ[m]? = some (.own dm'):=fun {m dm} z=>by
   by_cases hm:i=m
   ·subst hm; exact ⟨_,q⟩
   ·rw [List.getElem?_set_ne hm] at z; exact ⟨dm,z⟩
  obtain ⟨e1,f1⟩:=f q1
  obtain ⟨e2,f2⟩:=f q2
  exact h.dja j k e1 e2 c hjk f1 f2
end
section
variable {X:Cx} {es:List Expr} {fs:Dv->Option (List D)} {p p2 pos cpos:Pos}
theorem qt (i:Nat) {k:Nat} {x fx:Str} {g:List (ay×D)->List D->Option (List (ay×D))} (C:CalM X.prog X.w X.K X.mg X.base fx k g) (hr:Room k X.A) (hg:Gl X fx) (ha:AV X es fs) (hi:X.N[i]? = some x:=by rfl) (hv:uu X.env.scope x:=by first | exact Or.inl rfl | exact Or.inr (Or.inl rfl) | exact Or.inr (Or.inr rfl)) (hd:(x==("__debug__":Str))=false:=by decide) (hcd:(x==("__classdict__":Str))=false:=by decide) (hdb:(fx==("__debug__":Str))=false:=by decide)
  (he:starEach (.Name x p2::es) X.env=(false,eval (.Name x p2) X.env)::starEach es X.env:=by rfl) (hpl:(backTo cpos (starEach es X.env)).any (·.1)=false:=by rfl)
  (hs:swapsWith (.Call (.Name fx p) (.Name x p2::es) [] cpos) none pos.line X.env=pure false:=by rfl):SV X (.Expr (.Call (.Name fx p) (.Name x p2::es) [] cpos) pos) (lC i fs g):=by
 obtain ⟨fa,fd,ps,F,hm,hk,hb⟩:=C.ex
 refine PS.imp (jQ (rO F hr hg hm hk hb .nil y1 (bE (eA hi hv hd hcd) ha he) hdb he hpl) hs) fun D σ H h=>?_
 obtain ⟨H₀,Z₀,Z,δ,r,hh,e,kk⟩:=h
 obtain ⟨es0,e1,e⟩:=bind_some e
 obtain ⟨as,e2,e⟩:=bind_some e
 obtain ⟨es',e3,e⟩:=bind_some e
 cases e
 obtain ⟨a,kvs,h1,h2,h3,h4,h5⟩:=hh.od i es0 (gH e1)
 refine ⟨.ref a,h1,H₀,Z₀,Z,δ,as,hh,e2,fun vs Z1 H1 hh1 t1 r1=>?_⟩
 obtain ⟨a',kvs1,g1,g2,g3,g4,g5⟩:=hh1.od i es0 (gH e1)
 rw [h1] at g1
 cases g1
 refine ⟨Z1,a,vs,kvs1,es0,as,es',by simp,hh1.zh,g3,g4,g5,r1,e3,fun Z' H' kvs' n f4 f5=>?_⟩
 exact kk σ H' Z' (hh1.mod (gH e1) h1 g2 n f4 f5) (t1.trans n.z)
end
end VL
set_option Elab.async false
set_option linter.all false
set_option maxRecDepth 100000
set_option maxHeartbeats 4000000
namespace VL
open PySem PySem.Spec PyProof.Rows L2
section
variable {P:Program} {w:World} {K:PySem.W.Frag} {mg:Str->Option Value} {base h:Heap} {x y:Str} {st:Stmt} {k:Nat} {ps:List Str}
theorem DefIn.calM (D:DefIn K x y st) (X:K.In h) (G:h.Ns mainGlobals mg) (b:aP y st ps) {g:List (ay×VL.D)->List VL.D->Option (List (ay×VL.D))} (ok:∀ f fd,FunV K y y st f fd .none->FnOk P w K mg base dJ k f fd ps (Ei K g)):CalM P w K mg base x k g:=by
 obtain ⟨f,fd,a,F,hk⟩:=D
 exact ⟨⟨_,_,_,ok f fd F,PySem.W.mg_of X G a,hk,F.binds b⟩⟩
end
end VL
set_option Elab.async false
set_option linter.all false
set_option maxRecDepth 100000
set_option maxHeartbeats 4000000
namespace VL
open PySem PySem.Spec PyProof.Rows L2
noncomputable def vN:List D->Option (List Int)
 | []=>some []
 | .int i::r=>(vN r).bind fun l=>some (i::l)
 | _::_=>none
noncomputable def cw (ns:List Int) (x:Int):List Int:=if x∈ns then ns else ns++[x]
noncomputable def fO (l:List Int):List Int:=l.foldl cw []
noncomputable def hU (d:D):Option D:=(ba d).bind fun ds=>(vN ds).bind fun l=>if l.length<64 then some (.list ((bo (fO l)).map .int)) else none
noncomputable def UpA (xs:Array Nat):Prop:=∀ i j (hi:i<xs.size) (hj:j<xs.size),i<j->xs[i]<xs[j]
theorem lg {xs:Array Nat} {j:Nat} (hu:UpA xs):∀ (f lo hi:Nat),hi-lo<=f->lo<=hi->hi<=xs.size ->
  (∀ i (h:i<xs.size),i<lo->xs[i]<j)->(∀ i (h:i<xs.size),hi<=i->j<=xs[i]) ->
  SetTable.below.go xs j f lo hi<=xs.size/\(∀ i (h:i<xs.size),i<SetTable.below.go xs j f lo hi->xs[i]<j)/\(∀ i (h:i<xs.size),SetTable.below.go xs j f lo hi<=i->j<=xs[i])
 | 0,lo,hi,h1,h2,h3,a,b=>by
  have:lo=hi:=by omega
  subst this
  exact ⟨h3,a,b⟩
 | f+1,lo,hi,h1,h2,h3,a,b=>by
  unfold SetTable.below.go
  by_cases h:lo<hi
  ·rw [if_pos h]
   have hm:(lo+hi) / 2<xs.size:=by omega
   have e:xs.getD ((lo+hi) / 2) j=xs[(lo+hi) / 2]:=by simp [Array.getD,hm]
   dsimp only
   rw [e]
   by_cases h':xs[(lo+hi) / 2]<j
   ·rw [if_pos h']
    refine lg hu f _ hi (by omega) (by omega) h3 (fun i hi' hl=>?_) b
    by_cases e2:i=(lo+hi) / 2
    ·subst e2; exact h'
    ·exact Nat.lt_trans (hu i _ hi' hm (by omega)) h'
   ·rw [if_neg h']
    refine lg hu f lo _ (by omega) (by omega) (by omega) a fun i hi' hl=>?_
    by_cases e2:i=(lo+hi) / 2
    ·subst e2; omega
    ·have:=hu _ i hm hi' (by omega); omega
  ·rw [if_neg h]
   have:lo=hi:=by omega
   subst this
   exact ⟨h3,a,b⟩
theorem lb {xs:Array Nat} (hu:UpA xs) (j:Nat):SetTable.below xs j<=xs.size/\(∀ i (h:i<xs.size),i<SetTable.below xs j->xs[i]<j)/\(∀ i (h:i<xs.size),SetTable.below xs j<=i->j<=xs[i]):=
 lg hu xs.size 0 xs.size (by omega) (by omega) (Nat.le_refl _) (fun i _ h=>absurd h (by omega)) (fun i h h'=>absurd h (by omega))
theorem nN {xs:Array Nat} {p x:Nat} (hp:p<=xs.size) (i:Nat):(SetTable.insertAt xs p x)[i]? = if i<p then xs[i]? else if i=p then some x else xs[i-1]?:=by
 rw [<- Array.getElem?_toList,SetTable.toList_insertAt]
 have hl:(xs.toList.take p).length=p:=by rw [List.length_take,Array.length_toList]; omega
 by_cases h1:i<p
 ·rw [if_pos h1,List.getElem?_append_left (by omega),List.getElem?_take_of_lt h1,Array.getElem?_toList]
 ·rw [if_neg h1,List.getElem?_append_right (by omega),hl]
  by_cases h2:i=p
  ·subst h2
   rw [if_pos rfl,Nat.sub_self,List.getElem?_cons_zero]
  ·rw [if_neg h2]
   obtain ⟨k,rfl⟩:∃ k,i=p+k+1:=⟨i-p-1,by omega⟩
   rw [show p+k+1-p=k+1 by omega,List.getElem?_cons_succ,List.getElem?_drop,Array.getElem?_toList]
   rfl
theorem UpA.iff {xs:Array Nat}:UpA xs↔∀ i j a b:Nat,i<j->xs[i]? = some a->xs[j]? = some b->a<b:=by
 constructor
 ·intro h i j a b hij ha hb
  obtain ⟨h1,rfl⟩:=Array.getElem?_eq_some_iff.mp ha
  obtain ⟨h2,rfl⟩:=Array.getElem?_eq_some_iff.mp hb
  exact h i j h1 h2 hij
 ·intro h i j hi hj hij
  exact h i j _ _ hij (Array.getElem?_eq_getElem hi) (Array.getElem?_eq_getElem hj)
theorem UpA.insert {xs:Array Nat} {j:Nat} (hu:UpA xs) (hn:xs[SetTable.below xs j]? ≠ some j):UpA (SetTable.insertAt xs (SetTable.below xs j) j):=by
 obtain ⟨h1,h2,h3⟩:=lb hu j
 have lo:∀ i a,i<SetTable.below xs j->xs[i]? = some a->a<j:=fun i a hi e=>by
  obtain ⟨q,rfl⟩:=Array.getElem?_eq_some_iff.mp e; exact h2 i q hi
 have hi:∀ i a,SetTable.below xs j<=i->xs[i]? = some a->j<a:=fun i a hi e=>by
  obtain ⟨q,rfl⟩:=Array.getElem?_eq_some_iff.mp e
  have hb:SetTable.below xs j<xs.size:=by omega
  have e1:j<=xs[SetTable.below xs j]:=h3 _ hb (Nat.le_refl _)
  have e2:xs[SetTable.below xs j]≠j:=fun z=>hn (by rw [Array.getElem?_eq_getElem hb,z])
  by_cases e3:i=SetTable.below xs j
  ·subst e3; omega
  ·have:=hu _ i hb q (by omega); omega
 rw [UpA.iff] at hu ⊢
 intro i k a b hik ha hb
 rw [nN h1] at ha hb
 split at ha <;> split at hb
 ·exact hu i k a b hik ha hb
 ·split at hb
  ·cases hb; exact lo i a ‹_› ha
  ·exact Nat.lt_trans (lo i a ‹_› ha) (hi _ b (by omega) hb)
 ·omega
 ·split at ha <;> split at hb
  ·omega
  ·cases ha; exact hi _ b (by omega) hb
  ·omega
  ·exact hu (i-1) (k-1) a b (by omega) ha hb
theorem mf {t:SetTable} {j:Nat} (h:t.slot j=.empty\/t.slot j=.dummy):t.place[SetTable.below t.place j]? ≠ some j:=by
 intro e
 unfold SetTable.slot at h
 simp [e] at h
theorem kh {t:SetTable} {f:Nat->Int} {h:Int}:∀ (n:Nat) (p:SetTable.Probe) (j:Nat) (d:Option Nat),(∀ x,p.dummy=some x->t.slot x=.dummy)->SetTable.probe.go t f h n p=some (.empty j d)->t.slot j=.empty/\∀ x,d=some x->t.slot x=.dummy
 | 0,p,j,d,hp,e=>by cases e
 | n+1,p,j,d,hp,e=>by
  unfold SetTable.probe.go at e
  have adv:∀ q:SetTable.Probe,(t.advance q).dummy=q.dummy:=fun q=>by unfold SetTable.advance; split <;> rfl
  split at e
  ·rename_i hs; cases e; exact ⟨hs,hp⟩
  ·rename_i hs
   refine kh n _ j d (fun x hx=>?_) e
   rw [adv] at hx
   cases hx; exact hs
  ·split at e
   ·cases e
   ·exact kh n _ j d (fun x hx=>hp x (by rwa [adv] at hx)) e
theorem lL {t:SetTable} {h:Int} {j:Nat} {b:Bool} (e:t.freeSlot h=some (j,b)):t.place[SetTable.below t.place j]? ≠ some j:=by
 unfold SetTable.freeSlot at e
 split at e
 ·rename_i j' d hq
  cases e
  have:=kh _ _ _ _ (fun x hx=>by cases hx) hq
  cases d with
  | none=>exact mf (.inl this.1)
  | some x=>exact mf (.inr (this.2 x rfl))
 ·cases e
structure WkT (led:Bool) (t:SetTable):Prop where
 led:t.led=led
 up:t.plain=true->UpA t.place
theorem WkT.fresh (led:Bool):WkT led (.fresh 0 0 led):=⟨rfl,fun _ i j hi=>absurd hi (by simp [SetTable.fresh])⟩
theorem WkT.standIn {led:Bool} {t:SetTable} (h:WkT led t) (n:Nat):WkT led (t.standIn n):=⟨h.led,fun e=>by cases e⟩
theorem WkT.orStandIn {led:Bool} {t:SetTable} (h:WkT led t) (n:Nat):WkT led (t.orStandIn n):=by
 unfold SetTable.orStandIn; split
 ·exact h
 ·exact h.standIn n
theorem WkT.put {led:Bool} {t:SetTable} (h:WkT led t) {x:Int} {j:Nat} {b:Bool} (e:t.freeSlot x=some (j,b)):WkT led (t.put j).1:=⟨h.led,fun q=>(h.up q).insert (lL e)⟩
theorem WkT.layNew {led:Bool} {t:SetTable} (h:WkT led t) (es:Array (Int×Value)) (x:Int) (v:Value):WkT led (layNew t es x v).2.1:=by
 unfold PySem.layNew
 split
 ·rename_i e; exact (h.put e).orStandIn _
 ·exact h.standIn _
theorem eR (f:Nat->Option Nat):∀ (l:List Nat),l.Pairwise (· < ·)->((l.filterMap fun j=>(f j).map (j,·)).map (·.1)).Pairwise (· < ·)
 | [],_=>.nil
 | a::l,h=>by
  obtain ⟨h1,h2⟩:=List.pairwise_cons.mp h
  rw [List.filterMap_cons]
  cases f a with
  | none=>exact eR f l h2
  | some b=>
   refine List.pairwise_cons.mpr ⟨fun z hz=>?_,eR f l h2⟩
   obtain ⟨q,hq,rfl⟩:=List.mem_map.mp hz
   obtain ⟨c,hc,e⟩:=List.mem_filterMap.mp hq
   obtain ⟨d,_,rfl⟩:=Option.map_eq_some_iff.mp e
   exact h1 _ hc
theorem WkT.relay {led:Bool} {t:SetTable} (h:WkT led t) (es:Array (Int×Value)) (n:Nat):WkT led (relayAll t es n).2.1:=by
 unfold relayAll
 split
 ·rename_i t' order e
  dsimp only
  split
  ·unfold SetTable.relaid SetTable.laid at e
   obtain ⟨o,_,e⟩:=Option.bind_eq_some_iff.mp e
   cases e
   refine ⟨h.led,fun _ i j hi hj hij=>?_⟩
   have:=eR (fun j=>o.getD j none) (List.range (SetTable.sizeAbove n-1+1)) List.pairwise_lt_range
   have:=List.pairwise_iff_getElem.mp this i j (by simpa using hi) (by simpa using hj) hij
   simpa using this
  ·exact h.standIn _
 ·exact h.standIn _
theorem lc {xs:Array Nat} (hu:UpA xs) {i:Nat} (hi:i<xs.size):SetTable.below xs (xs[i]+1)=i+1:=by
 obtain ⟨h1,h2,h3⟩:=lb hu (xs[i]+1)
 have a:i<SetTable.below xs (xs[i]+1):=by
  refine Nat.lt_of_not_le fun h=>?_
  have:=h3 i hi h; omega
 have b:¬ (i+1<SetTable.below xs (xs[i]+1)):=fun h=>by
  have q:=h2 (i+1) (by omega) h
  have:=hu i (i+1) hi (by omega) (by omega); omega
 omega
theorem la {xs:Array Nat} (hu:UpA xs):SetTable.below xs 0=0:=by
 obtain ⟨h1,h2,h3⟩:=lb hu 0
 refine Nat.eq_zero_of_not_pos fun h=>?_
 have:=h2 0 (by omega) h; omega
noncomputable def m6:Value->Int
 | .int k _=>k
 | _=>0
noncomputable def rf (e:Int×Value):Prop:=∃ k t,e=(hashInt k,Value.int k t)
noncomputable def SetJ (w:World) (h:Heap) (a:Addr) (ns:List Int):Prop:=∃ es ep t,h.get? a=some { cls:=.type "set",dict:=none,data:=.set es ep t,slots:=#[] }/\(∀ e∈es.toList,rf e)/\(es.toList.map fun e=>m6 e.2).Perm ns/\ns.length<scanBound/\t.fits es.size=true/\WkT (!w.params.followText "set-order") t
theorem SetJ.at {w:World} {h h':Heap} {a:Addr} {ns:List Int} (x:SetJ w h a ns) (e:∀ o,h.get? a=some o->h'.get? a=some o):SetJ w h' a ns:=
 let ⟨es,ep,t,ho,r⟩:=x
 ⟨es,ep,t,e _ ho,r⟩
theorem qy (ns:List Int) (x:Int):(cw ns x).length<=ns.length+1:=by
 unfold cw
 split
 ·omega
 ·simp
section
variable {prog:Program} {w:World} {A:Around} {E:Value->Shared->Prop} {s:Shared}
theorem kJ {es:Array (Int×Value)} (h:∀ e∈es.toList,rf e):ElemsOf (intKind prog w) es.toList:=fun e he=>by
 obtain ⟨k,t,rfl⟩:=h e he
 exact ⟨⟨k,intKind_is prog w k t,rfl⟩,rfl⟩
theorem tY {l:List (Int×Value)} (h:∀ e∈l,rf e) (k:Int):(l.findIdx? fun e=>(intKind prog w).is k e.2)=none↔k ∉ l.map fun e=>m6 e.2:=by
 rw [List.findIdx?_eq_none_iff]
 constructor
 ·intro q z
  obtain ⟨e,he,rfl⟩:=List.mem_map.mp z
  obtain ⟨k',t,rfl⟩:=h e he
  have:=q _ he
  rw [show (m6 (hashInt k',Value.int k' t).2)=k' from rfl,show ((hashInt k',Value.int k' t):Int×Value).2=Value.int k' t from rfl,intKind_is] at this
  cases this
 ·intro q e he
  obtain ⟨k',t,rfl⟩:=h e he
  have hne:k≠k':=fun z=>q (List.mem_map.mpr ⟨_,he,z.symm⟩)
  cases hx:(intKind prog w).is k ((hashInt k',Value.int k' t):Int×Value).2 with
  | false=>rfl
  | true=>exact absurd ((intKind prog w).inj _ _ _ hx (intKind_is prog w k' t)) hne
theorem oS {h:Heap} {a:Addr} {es es':Array (Int×Value)} {ep:Nat} {t t':SetTable} {ns:List Int} (ho:h.get? a=some { cls:=.type "set",dict:=none,data:=.set es ep t,slots:=#[] }) (h1:∀ e∈es'.toList,rf e) (h2:(es'.toList.map fun e=>m6 e.2).Perm ns) (h3:ns.length<scanBound) (h4:t'.fits es'.size=true) (h5:WkT (!w.params.followText "set-order") t') :
  (h.update a (Obj.putSet es' t')).get? a=some { cls:=.type "set",dict:=none,data:=.set es' (ep+1) t',slots:=#[] }/\SetJ w (h.update a (Obj.putSet es' t')) a ns:=by
 have g:=Heap.get?_update_self (Obj.putSet es' t') ho (by rw [putSet_of es' t' rfl]; rfl)
 rw [putSet_of es' t' rfl] at g
 exact ⟨g,es',ep+1,t',g,h1,h2,h3,h4,h5⟩
theorem oZ {l l':List (Int×Value)} (p:List.Perm l' l):(l'.map fun e=>m6 e.2).Perm (l.map fun e=>m6 e.2):=p.map _
theorem xt {a:Addr} {x:Int} {tk:Tok} {ns:List Int} {Q:Bool->Shared->Prop} (hS:SetJ w s.heap a ns) (hroom:ns.length+1<scanBound)
  (h:∀ h' b,Heap.SameBut a s.heap h'->SetJ w h' a (cw ns x)->Q b { s with heap:=h' }):wpAny (model prog w) A (setAddHashed a (.int x tk) (hashInt x)) Q E s:=by
 obtain ⟨es,ep,t,ho,hel,hp,hb,hf,hw⟩:=hS
 have hsz:es.size=ns.length:=by
  have:=hp.length_eq
  rw [List.length_map,Array.length_toList] at this
  exact this
 have fl:=tY (prog:=prog) (w:=w) hel x
 unfold setAddHashed setAddHashedIn
 refine wpAny_holding (wpAny_bind (wpAny_setState_of ho rfl hf ?_))
 dsimp only
 rw [byScan_of (knd:=intKind prog w) (x:=Value.int x tk) rfl (by omega) (kJ hel)]
 simp only [↓reduceIte]
 unfold setAddByScan
 refine wpAny_bind (wpAny_bind (wpAny_rule (wpAny_bind (wpAny_setScan_of (knd:=intKind prog w) (k:=x) (intKind_is prog w x tk) ho rfl hf (kJ hel) ?_))))
 cases hr:es.toList.findIdx? fun e=>(intKind prog w).is x e.2 with
 | some j=>
  have hin:x∈ns:=by
   refine hp.mem_iff.mp (Classical.byContradiction fun z=>?_)
   rw [fl.mpr z] at hr
   cases hr
  have e:cw ns x=ns:=if_pos hin
  rw [e] at h
  dsimp only
  exact wpAny_pure (wpAny_pure (h s.heap _ (Heap.SameBut.refl a s.heap) ⟨es,ep,t,ho,hel,hp,hb,hf,hw⟩))
 | none=>
  have hin:x ∉ ns:=fun z=>fl.mp hr (hp.mem_iff.mpr z)
  have e:cw ns x=ns++[x]:=if_neg hin
  rw [e] at h
  dsimp only
  have gw:∀ (b:Bool) {s1:Shared} {Q':Unit->Shared->Prop},Q' () s1->wpAny (model prog w) A (match b with
   | true=>rule "set.scan.the-table-gave-way"
   | false=>pure ()) Q' E s1:=fun b s1 Q' hq=>by
   cases b
   ·exact wpAny_pure hq
   ·exact wpAny_rule hq
  have q1:=layNew_perm t es (hashInt x) (.int x tk)
  have q2:=layNew_fits t es (hashInt x) (.int x tk)
  have q3:=hw.layNew es (hashInt x) (.int x tk)
  generalize hL:PySem.layNew t es (hashInt x) (.int x tk)=L at q1 q2 q3
  obtain ⟨es1,t1,wd,gv⟩:=L
  have hL':PySem.layNew t es ((intKind prog w).hash x) (.int x tk)=(es1,t1,wd,gv):=hL
  dsimp only at q1 q2 q3
  rw [Array.toList_push] at q1
  have el1:∀ e∈es1.toList,rf e:=fun e he=>by
   rcases List.mem_append.mp (q1.mem_iff.mp he) with he | he
   ·exact hel e he
   ·rw [List.mem_singleton.mp he]; exact ⟨x,tk,rfl⟩
  have pm1:(es1.toList.map fun e=>m6 e.2).Perm (ns++[x]):=(oZ q1).trans (by
   rw [List.map_append]
   exact hp.append_right _)
  have ln1:(ns++[x]).length<scanBound:=by simpa using hroom
  have sz1:es1.size=(ns++[x]).length:=by
   have:=pm1.length_eq
   rw [List.length_map,Array.length_toList] at this
   exact this
  dsimp only
  refine wpAny_bind (gw _ ?_)
  refine wpAny_ite_split (fun _=>?_) (fun _=>?_) <;> refine wpAny_bind (wpAny_of_eq (a:=true) rfl ?_) <;> simp only [↓reduceIte]
  all_goals
   obtain ⟨g1,g2⟩:=oS (w:=w) ho el1 pm1 ln1 q2 q3
   refine wpAny_bind (wpAny_storeSet_of ho rfl ?_ (fits_of_scanBound (by omega)))
   have sb:=Heap.SameBut.update s.heap a (Obj.putSet es1 t1)
   split
   ·have r1:=relayAll_perm t1 es1 (SetTable.grown es1.size)
    have r2:=relayAll_fits t1 es1 (SetTable.grown es1.size)
    have r3:=q3.relay es1 (SetTable.grown es1.size)
    generalize relayAll t1 es1 (SetTable.grown es1.size)=Rl at r1 r2 r3
    obtain ⟨es2,t2,gv2⟩:=Rl
    dsimp only at r1 r2 r3 ⊢
    have el2:∀ e∈es2.toList,rf e:=fun e he=>el1 e (r1.mem_iff.mp he)
    have pm2:(es2.toList.map fun e=>m6 e.2).Perm (ns++[x]):=(oZ r1).trans pm1
    have sz2:es2.size=(ns++[x]).length:=by
     have:=pm2.length_eq
     rw [List.length_map,Array.length_toList] at this
     exact this
    refine wpAny_bind (gw _ ?_)
    refine wpAny_bind (wpAny_storeSet_of g1 rfl ?_ (fits_of_scanBound (by omega)))
    exact wpAny_pure (wpAny_pure (h _ _ (sb.trans (Heap.SameBut.update _ a _)) (oS (w:=w) g1 el2 pm2 ln1 r2 r3).2))
   ·exact wpAny_pure (wpAny_pure (h _ _ sb g2))
end
theorem j4:∀ (l ns:List Int),(l.foldl cw ns).length<=ns.length+l.length
 | [],ns=>by simp
 | x::l,ns=>by
  have h1:=j4 l (cw ns x)
  have h2:=qy ns x
  show (l.foldl cw (cw ns x)).length<=_
  rw [List.length_cons]
  omega
theorem sZ {ns:List Int} {i:Nat} {k:Int} (h:ns[i]? = some k):fO (ns.take (i+1))=cw (fO (ns.take i)) k:=by
 unfold fO
 rw [List.take_succ,h,List.foldl_append]
 rfl
noncomputable abbrev bf (led:Bool):Obj:={ cls:=.type "set",dict:=none,data:=.set #[] 0 (.fresh 0 0 led) }
theorem setJ_fresh {w:World} {h:Heap}:SetJ w (h.push (bf (!w.params.followText "set-order"))) h.objs.size []:=
 ⟨#[],0,_,Heap.get?_push_size _ rfl,fun e he=>by simp at he,.refl _,by decide,rfl,WkT.fresh _⟩
section
variable {prog:Program} {w:World} {A:Around} {R:Result->Shared->Prop} {I:Addr} {fp wr:List Addr} {G:Array GenState->Array GenState->Prop} {n:Nat} {P:Nat->Value->Prop} {St:Nat->Shared->Prop}
theorem oR (W:WalksS prog w A.in1 I fp wr G n P St) (S:Addr) (hSf:S ∉ fp) (ns:List Int) (hn:ns.length=n) (hP:∀ i v,P i v->∃ k t,ns[i]? = some k/\v=.int k t) (hz:n+1<scanBound) :
  ∀ (k i:Nat) (s:Shared),n-i=k->i<=n->St i s->SetJ w s.heap S (fO (ns.take i))->(∀ s',Moved (S::wr) G s s'->SetJ w s'.heap S (fO ns)->R (.ok (.ret .none)) s') ->
   codeAny (model prog w) A (.builtin "set.update.loop" ⟨[.ref S,.ref I],[]⟩) R s:=by
 have nw:S ∉ wr:=fun h=>hSf (W.sub _ h)
 have up:∀ b∈wr,b∈S::wr:=fun b hb=>List.mem_cons_of_mem _ hb
 intro k
 induction k with
 | zero=>
  intro i s hk hi hst hS hR
  have e:i=n:=by omega
  subst e
  refine codeAny_builtin F.entry_set_update_loop ?_
  rw [Around.under_plainId F.plain_set_update_loop _]
  refine wpAny_bind (m:=pyNext (.ref I)) (W.done s _ _ hst fun s' hm=>?_)
  rw [<- hn,List.take_length] at hS
  exact wpAny_pure (hR s' (hm.mono up) (hS.at fun o e=>hm.heap S o nw e))
 | succ k ih=>
  intro i s hk hi hst hS hR
  have hlt:i<n:=by omega
  refine codeAny_builtin F.entry_set_update_loop ?_
  rw [Around.under_plainId F.plain_set_update_loop _]
  refine wpAny_bind (m:=pyNext (.ref I)) (W.item i s _ _ hlt hst fun v s' hPv hst' hm=>?_)
  obtain ⟨x,t,hx,rfl⟩:=hP i v hPv
  have hS':=hS.at fun o e=>hm.heap S o nw e
  refine wpAny_bind (m:=holding [Value.int x t] (setAdd S (.int x t))) (wpAny_holding ?_)
  unfold setAdd
  refine wpAny_holding (wpAny_bind ((intKind prog w).pyHash (k:=x) (intKind_is prog w x t) ?_))
  have ln:(fO (ns.take i)).length<=i:=by
   have:=j4 (ns.take i) []
   rw [List.length_take] at this
   unfold fO
   simp only [List.length_nil] at this
   omega
  refine xt (s:={ s' with toks:=s'.toks+1 }) hS' (by omega) fun h' b hsb hS2=>?_
  rw [<- sZ hx] at hS2
  refine wpAny_pure ⟨plainId_quiet F.plain_set_update_loop _,ih (i+1) _ (by omega) hlt (W.frame _ s' _ _ hst' (Nat.le_succ _) fun b hb o e=>?_) hS2 fun s'' hm'' hS''=>?_⟩
  ·rw [hsb.2 b (fun z=>hSf (z ▸ hb))]; exact e
  ·refine hR s'' (Moved.trans W.gtrans ((hm.mono up).then_heap (Nat.le_succ _) fun b o hb e=>?_) hm'') hS''
   rw [hsb.2 b (fun z=>hb (z ▸ List.mem_cons_self))]; exact e
end
section
variable {prog:Program} {w:World} {A:Around} {E:Value->Shared->Prop} {s:Shared}
theorem kW (a:Value) {Q:Value->Shared->Prop} (h:Q (.ref s.heap.objs.size) { s with heap:=s.heap.push (bf (!w.params.followText "set-order")) }) :
  codeAny (model prog w) A (.call (.builtin "set.__new__") ⟨[.type "set",a],[]⟩) (wants Q E) s:=by
 refine codeAny_of_tree ?_
 refine wpAny_bind (m:=checkBuiltinCall "set.__new__" ⟨[.type "set",a],[]⟩) (wpAny_of_eq (F.newCall_set_1 a) (wpAny_pure ⟨plainId_quiet F.plain_set_new _,codeAny_builtin F.entry_set_new ?_⟩))
 rw [Around.under_plainId F.plain_set_new _]
 unfold Builtin.«set.__new__» Builtin.Frozenset.newClass
 have f1:=sub_set_self
 obtain ⟨hp,g,d,tk,os⟩:=s
 dsimp only
 wp_walk
 refine wpAny_askSetting (wpAny_pure ?_)
 dsimp only
 simp only [newObj]
 exact wpAny_bind (wpAny_alloc (wpAny_pure (wpAny_pure h)))
theorem n4 {v:Value} {Q:Value->Shared->Prop}
  (h:∀ A':Around,A'.handled=A.handled->wpAny (model prog w) A' (Builtin.Frozenset.updateFrom "set.__init__" s.heap.objs.size v) (fun _ s2=>Q (.ref s.heap.objs.size) s2) E { s with heap:=s.heap.push (bf (!w.params.followText "set-order")) }) :
  wpAny (model prog w) A (call (.type "set") [v]) Q E s:=by
 obtain ⟨c,tl,hmro⟩:=F.called_set.mro
 have hmade:=F.called_set.made
 have hsub:=F.called_set.sub
 refine wpAny_call (codeAny_of_tree ?_)
 show wpAny _ _ (callAny (.type "set") _) _ _ _
 refine wpAny_pure ⟨Code.quiet_builtin _ (by decide +kernel),codeAny_builtin F.entry_type_call ?_⟩
 rw [Around.under_plain (weight_type_call_type "set" [v] []) rfl]
 have h1:=F.called_set.notType
 have h2:=F.called_set.canCreate
 have hct:=F.typeCall_set_1 v
 repeat (any_goals (first | assumption | wp_step))
 refine codeAny_mono (kW v (E:=E) (Q:=fun obj s1=>obj=.ref s.heap.objs.size/\s1={ s with heap:=s.heap.push (bf (!w.params.followText "set-order")) }) ⟨rfl,rfl⟩) fun r s1 hr=>?_
 cases r with
 | error e=>exact hr
 | ok fl=>
  cases fl with
  | ret obj=>
   obtain ⟨rfl,rfl⟩:=hr
   have hT:Shared.TypeIs { s with heap:=s.heap.push (bf (!w.params.followText "set-order")) } (.ref s.heap.objs.size) "set":=⟨_,Heap.get?_push_size _ rfl,rfl⟩
   have hS:(s.heap.push (bf (!w.params.followText "set-order"))).get? s.heap.objs.size=some (bf (!w.params.followText "set-order")):=Heap.get?_push_size _ rfl
   have hli:=F.called_set.init.lookup
   have hbi:=F.called_set.init.bind (.ref s.heap.objs.size)
   repeat (any_goals (first | assumption | wp_step))
   refine codeAny_mono (codeAny_call_builtin (R:=wants (fun r s2=>r=.none/\Q (.ref s.heap.objs.size) s2) E) F.called_set.init.plain F.entry_set_init (check_set_init_1 hT ?_)) fun r2 s2 hr2=>?_
   ·unfold Builtin.«set.__init__» noKeywords
    generalize hUF:Builtin.Frozenset.updateFrom=UF
    wp_walk
    subst hUF
    refine wpAny_mono (h _ (by simp)) (fun _ s2 q=>?_) fun _ _ e=>e
    exact wpAny_pure ⟨rfl,q⟩
   ·cases r2 with
    | error e=>exact hr2
    | ok fl2=>
     cases fl2 with
     | ret r=>
      obtain ⟨rfl,q⟩:=hr2
      repeat (any_goals (first | assumption | wp_step))
     | _=>exact hr2.elim
  | _=>exact hr.elim
end
theorem ls:isSubtype (.type "tuple") (.type "set")=pure false:=by rw [isSubtype_type]; kernel_rfl
theorem gm:isSubtype (.type "tuple") (.type "frozenset")=pure false:=by rw [isSubtype_type]; kernel_rfl
theorem qN {items:Array Value} {ns:List Int} (hi:IntsAre items.toList ns):ns.length=items.size/\∀ (i:Nat) (v:Value),items[i]? = some v->∃ k t,ns[i]? = some k/\v=Value.int k t:=by
 have hl:ns.length=items.size:=by
  have:=IntsAre.length hi
  rw [Array.length_toList] at this
  omega
 refine ⟨hl,fun i v e=>?_⟩
 obtain ⟨t,q⟩:=IntsAre.int_at hi i v (by rw [Array.getElem?_toList]; exact e)
 have h:i<ns.length:=by
  have:=(Array.getElem?_eq_some_iff.mp e).1
  omega
 exact ⟨ns[i],t,by simp [h],by rw [q,List.getD_eq_getElem?_getD]; simp [h]⟩
section
variable {prog:Program} {w:World} {A:Around} {E:Value->Shared->Prop} {s:Shared}
theorem lR {l:Addr} {items:Array Value} {ns:List Int} {Q:Value->Shared->Prop} (hh:A.handled=none) (hl:s.heap.IsList l items\/s.heap.IsTuple l items) (hi:IntsAre items.toList ns) (hb:items.size+1<scanBound)
  (h:∀ (h':Heap) (tk:Nat),SetJ w h' s.heap.objs.size (fO ns)->(∀ b o,s.heap.get? b=some o->h'.get? b=some o)->Q (.ref s.heap.objs.size) { s with heap:=h',toks:=tk }):wpAny (model prog w) A (call (.type "set") [.ref l]) Q E s:=by
 obtain ⟨hn,hP⟩:=qN hi
 refine n4 fun A' hA=>?_
 have hh':A'.handled=none:=hA.trans hh
 have fin:∀ (s':Shared) (I:Addr) (o:Obj),Moved [s.heap.objs.size,I] (fun a b=>b=a) { s with heap:=(s.heap.push (bf (!w.params.followText "set-order"))).push o } s'->I=(s.heap.push (bf (!w.params.followText "set-order"))).objs.size->SetJ w s'.heap s.heap.objs.size (fO ns)->Q (.ref s.heap.objs.size) s':=fun s' I o hm hI hS=>by
  obtain ⟨h',g',d',tk',os'⟩:=s'
  have eg:g'=s.gens:=hm.gens
  have ed:d'=s.drawn:=hm.drawn
  have eo:os'=s.os:=hm.os
  subst eg ed eo
  refine h h' tk' hS fun b o' e=>?_
  have lt:=Heap.lt_size e
  refine hm.heap b o' ?_ (Heap.get?_push_of_some _ (Heap.get?_push_of_some _ e))
  rw [hI,Heap.size_push]
  simp only [List.mem_cons,List.not_mem_nil,or_false,not_or]
  exact ⟨Nat.ne_of_lt lt,Nat.ne_of_lt (Nat.lt_succ_of_lt lt)⟩
 rcases hl with hl | hl
 ·obtain ⟨ol,hol,hcl,nl,hdl⟩:=hl
  obtain ⟨ocls,odict,odata,oslots⟩:=ol
  simp only at hcl hdl
  subst hcl hdl
  have lt:=Heap.lt_size hol
  have hol':=Heap.get?_push_of_some (bf (!w.params.followText "set-order")) hol
  have f1:=F.sub_list_set
  have f2:=F.sub_list_frozenset
  have f3:(Value.type "list" == Value.type "dict")=false:=by decide
  have hl1:(s.heap.push (bf (!w.params.followText "set-order"))).IsList l items:=⟨_,hol',rfl,nl,rfl⟩
  unfold Builtin.Frozenset.updateFrom
  generalize hPI:pyIter=PI
  wp_walk
  subst hPI
  refine wpAny_pyIter_list hl1 ?_
  refine wpAny_bind (wpAny_runValue ?_)
  have ne:l≠(s.heap.push (bf (!w.params.followText "set-order"))).objs.size:=by rw [Heap.size_push]; exact Nat.ne_of_lt (Nat.lt_succ_of_lt lt)
  have nf:s.heap.objs.size ∉ [(s.heap.push (bf (!w.params.followText "set-order"))).objs.size,l]:=by
   rw [Heap.size_push]
   simp only [List.mem_cons,List.not_mem_nil,or_false,not_or]
   exact ⟨Nat.ne_of_lt (Nat.lt_succ_self _),Nat.ne_of_gt lt⟩
  refine oR ((Walks.list (by simpa using hh') _ l ne items).toS) s.heap.objs.size nf ns hn hP hb items.size 0 _ (by omega) (Nat.zero_le _) ⟨⟨_,Heap.get?_push_size _ rfl,rfl,rfl⟩,hl1.push _⟩ (setJ_fresh.at fun o e=>Heap.get?_push_of_some _ e) fun s' hm hS=>?_
  exact wpAny_pure ((fin s' _ _ hm rfl hS))
 ·obtain ⟨ol,hol,hcl,nl,hdl⟩:=hl
  obtain ⟨ocls,odict,odata,oslots⟩:=ol
  simp only at hcl hdl
  subst hcl hdl
  have lt:=Heap.lt_size hol
  have hol':=Heap.get?_push_of_some (bf (!w.params.followText "set-order")) hol
  have f1:=ls
  have f2:=gm
  have f3:(Value.type "tuple" == Value.type "dict")=false:=by decide
  have hl1:(s.heap.push (bf (!w.params.followText "set-order"))).IsTuple l items:=⟨_,hol',rfl,nl,rfl⟩
  unfold Builtin.Frozenset.updateFrom
  generalize hPI:pyIter=PI
  wp_walk
  subst hPI
  refine wpAny_pyIter_tuple hl1 ?_
  refine wpAny_bind (wpAny_runValue ?_)
  have ne:l≠(s.heap.push (bf (!w.params.followText "set-order"))).objs.size:=by rw [Heap.size_push]; exact Nat.ne_of_lt (Nat.lt_succ_of_lt lt)
  have nf:s.heap.objs.size ∉ [(s.heap.push (bf (!w.params.followText "set-order"))).objs.size,l]:=by
   rw [Heap.size_push]
   simp only [List.mem_cons,List.not_mem_nil,or_false,not_or]
   exact ⟨Nat.ne_of_lt (Nat.lt_succ_self _),Nat.ne_of_gt lt⟩
  refine oR ((Walks.tuple (by simpa using hh') _ l ne items).toS) s.heap.objs.size nf ns hn hP hb items.size 0 _ (by omega) (Nat.zero_le _) ⟨⟨_,Heap.get?_push_size _ rfl,rfl,rfl⟩,hl1.push _⟩ (setJ_fresh.at fun o e=>Heap.get?_push_of_some _ e) fun s' hm hS=>?_
  exact wpAny_pure ((fin s' _ _ hm rfl hS))
end
theorem gS {α:Type}:∀ (l:List α) (i:Nat) (x:α),l[i]? = some x->l.Perm (x::l.eraseIdx i)
 | a::l,0,x,h=>by
  have:a=x:=by simpa using h
  subst this
  exact .refl _
 | a::l,i+1,x,h=>by
  have ih:=gS l i x (by simpa using h)
  rw [List.eraseIdx_cons_succ]
  exact (ih.cons a).trans (.swap x a _)
theorem rM {α:Type} (f:Nat->Nat):∀ (n k:Nat) (l:List α) (out:Array α),l.length=n->(pickOrder.go f n k l out).toList.Perm (out.toList++l)
 | 0,k,l,out,h=>by
  have:l=[]:=List.length_eq_zero_iff.mp h
  subst this
  unfold pickOrder.go
  simp
 | n+1,k,l,out,h=>by
  have hi:f k % l.length<l.length:=Nat.mod_lt _ (by omega)
  have hx:l[f k % l.length]? = some l[f k % l.length]:=by simp [hi]
  unfold pickOrder.go
  rw [hx]
  have ih:=rM f n (k+1) (l.eraseIdx (f k % l.length)) (out.push l[f k % l.length]) (by rw [List.length_eraseIdx,if_pos hi]; omega)
  refine ih.trans ?_
  rw [Array.toList_push,List.append_assoc]
  exact (gS l _ _ hx).symm.append_left _
theorem tE {α:Type} (f:Nat->Nat) (xs:Array α):(pickOrder f xs).toList.Perm xs.toList:=by
 have:=rM f xs.size 0 xs.toList #[] (by simp)
 simpa [pickOrder] using this
theorem slot_si_next:Slot "set_iterator" "__next__" "set_iterator.__next__":=
 .of (owner:="set_iterator") (n:="__next__") (by rw [typeLookup_type,builtinLookup_eq_fast]; kernel_rfl) (by decide +kernel) (by decide +kernel) (by decide +kernel)
  (by first | exact .inl (by decide +kernel) | exact .inr (by decide +kernel)) (by rw [isSubtype_type]; kernel_rfl)
theorem lM:entryFor table "set_iterator.__next__" = some Builtin.«set_iterator.__next__»:=entryFor_of_tree (by kernel_rfl)
theorem o7:Manifest.owners.lookup (String.ofList ['r','o','t','a','r','e','t','i','_','t','e','s'].reverse)=some Manifest.sig_set_iterator:=by kernel_rfl
theorem oo (a:Value):argsOk "set_iterator.__next__" ⟨[a],[]⟩:=by
 unfold argsOk; rw [signature?_of (id:="set_iterator.__next__") (n:=['_','_','t','x','e','n','_','_']) (o:=['r','o','t','a','r','e','t','i','_','t','e','s']) (by kernel_rfl) o7]; kernel_rfl
theorem jE:entryFor table "set.__iter__" = some Builtin.«frozenset.__iter__»:=
 entryFor_alias (id':="frozenset.__iter__") (by kernel_rfl) rfl (by decide +kernel) (by kernel_rfl)
section
variable {M:Model} {prog:Program} {w:World} {A:Around} {E:Value->Shared->Prop} {s:Shared}
theorem mZ {src:Source} {n:Nat} {Q:Nat->Shared->Prop} (hn:n≠0) (h:∀ k d,k<n->Q k { s with drawn:=d }):wpAny M A (choose src n) Q E s:=fun Γ p hΓ=>by
 show Sem.wp M Γ (.choose src n .pure) _ _ p s
 rw [Sem.wp_choose]
 exact ⟨hn,h _ _ (Nat.mod_lt _ (Nat.pos_of_ne_zero hn))⟩
theorem mQ {α:Type}:∀ (n:Nat) (xs:List α) (s:Shared) {Q:List α -> Shared->Prop},xs.length=n->(∀ ys d,ys.Perm xs->Q ys { s with drawn:=d })->wpAny M A (drawOrder n xs) Q E s
 | 0,xs,s,Q,hn,h=>by
  have:xs=[]:=List.length_eq_zero_iff.mp hn
  subst this
  unfold drawOrder
  exact wpAny_pure (h [] s.drawn (.refl _))
 | n+1,[],s,Q,hn,h=>by simp at hn
 | n+1,x::xs,s,Q,hn,h=>by
  unfold drawOrder
  refine wpAny_bind (mZ (by simp) fun k d hk=>?_)
  have hx:(x::xs)[k]? = some ((x::xs)[k]):=by simp [hk]
  rw [hx]
  refine wpAny_bind (mQ n ((x::xs).eraseIdx k) _ (by rw [List.length_eraseIdx,if_pos hk]; omega) fun ys d' p=>?_)
  exact wpAny_pure (h _ d' ((p.cons _).trans (gS _ _ _ hx).symm))
noncomputable abbrev nh (es:Array (Int×Value)) (ep:Nat) (t:SetTable):Obj:={ cls:=.type "set",dict:=none,data:=.set es ep t,slots:=#[] }
noncomputable def j0 (first:Value) (i:Int) (a:Addr) (n ep:Int):Obj:={ cls:=.type "set_iterator",data:=.fields #[first,rawInt i,.ref a,rawInt n,rawInt ep] }
theorem gk {Q:Bool->Shared->Prop} (h:Q (w.params.followText "set-order") s):wpAny (model prog w) A setsByText Q E s:=by
 unfold setsByText
 exact wpAny_bind (wpAny_askSetting (wpAny_pure h))
inductive Mode (w:World) (h:Heap) (a:Addr) (es:Array (Int×Value)) (ep:Nat) (t:SetTable) (vs:List Value):Nat->Value->Prop
 | text {i:Nat} {sl:Nat}:w.params.followText "set-order" = true->vs=(pickOrder (w.params.setOrder a ep) es).toList.map (·.2)->Mode w h a es ep t vs i (rawInt sl)
 | slots {i:Nat}:w.params.followText "set-order" = false->(!t.plain&&decide (es.size>1))=false->UpA t.place->vs=es.toList.map (·.2)->Mode w h a es ep t vs i (rawInt (if i=0 then 0 else t.place.getD (i-1) 0+1:Nat))
 | drawn {i:Nat} {tp:Addr} {o:Obj} {ps:List Nat} {k:Nat}:h.get? tp=some o->o.data=.seq (ps.map fun p:Nat=>rawInt (p:Int)).toArray k->vs.length=ps.length->(∀ (j p:Nat),ps[j]? = some p->∃ e:Int×Value,es[p]? = some e/\vs[j]? = some e.2)->Mode w h a es ep t vs i (.ref tp)
noncomputable def SWk (w:World) (h:Heap) (I a:Addr) (vs:List Value) (tp:Addr) (i:Nat):Prop:=∃ es ep t first,h.get? a=some (nh es ep t)/\t.fits es.size=true/\WkT (!w.params.followText "set-order") t/\vs.length=es.size/\h.get? I=some (j0 first i a es.size ep)/\(∀ b,first=.ref b->b=tp)/\Mode w h a es ep t vs i first
theorem Mode.keep {h h':Heap} {a tp:Addr} {es:Array (Int×Value)} {ep:Nat} {t:SetTable} {vs:List Value} {i:Nat} {first:Value} (m:Mode w h a es ep t vs i first) (hf:∀ b,first=.ref b->b=tp) (k:∀ o,h.get? tp=some o->h'.get? tp=some o):Mode w h' a es ep t vs i first:=by
 cases m with
 | text e1 e2=>exact .text e1 e2
 | slots e1 e2 e3 e4=>exact .slots e1 e2 e3 e4
 | drawn e1 e2 e3 e4=>
  have:=hf _ rfl
  subst this
  exact .drawn (k _ e1) e2 e3 e4
theorem dN {I:Addr} {first:Value} {i n ep:Int} {a:Addr} (h:s.heap.get? I=some (j0 first i a n ep)):s.TypeIs (.ref I) "set_iterator":=⟨_,h,rfl⟩
theorem rA {I a:Addr} {first:Value} {i n:Nat} {es:Array (Int×Value)} {ep:Nat} {t:SetTable} {Q:Option Value->Shared->Prop} (hI:s.heap.get? I=some (j0 first i a n ep)) (ha:s.heap.get? a=some (nh es ep t)) (hf:t.fits es.size=true) (hn:es.size=n)
  (h:wpAny (model prog w) A.in1 (if let .int slot _:=first then do
     match <- setNext a slot.toNat i ep with
     | some (x,next)=>
      setField (.ref I) 0 (rawInt next)
      setField (.ref I) 1 (rawInt ((i:Int)+1))
      ret x
     | none=>setField (.ref I) 2 .none; raiseNew (<- newExc (.type "StopIteration") [])
    else do
     let some places <- seqItems? first | unsupported "internal:set_iterator"
     match places[i]? with
     | some (.int place _)=>
      let x <- setNextDrawn a place.toNat ep
      setField (.ref I) 1 (rawInt ((i:Int)+1))
      ret x
     | some _=>unsupported "internal:set_iterator"
     | none=>setField (.ref I) 0 (rawInt 0); setField (.ref I) 2 .none; raiseNew (<- newExc (.type "StopIteration") []))
   (fun fin s'=>∃ r,fin=.done (.ret r)/\Q (some r) s') (fun e s'=>wpAny (model prog w) A (do if <- isInstance e (.type "StopIteration") then pure none else throw e) Q E s') s):wpAny (model prog w) A (pyNext (.ref I)) Q E s:=by
 unfold pyNext
 refine wpAny_bind (wpAny_attempt (wpAny_callSpecial?_slot (name:=Str.ofString "__next__") (dN hI) slot_si_next (wpAny_call_entry slot_si_next (dN hI) lM ?_ (oo _))))
 unfold Builtin.«set_iterator.__next__»
 refine wpAny_bind (wpAny_of_eq (a:=(Value.ref I,[])) rfl ?_)
 try dsimp only
 refine wpAny_bind (wpAny_fieldsOf hI rfl ?_)
 show wpAny _ _ (setEntries a >>= fun q=>_) _ _ s
 refine wpAny_bind (wpAny_setEntries_of ha rfl hf ?_)
 refine wpAny_ite_split (fun z=>absurd z (by simp [hn])) (fun _=>?_)
 simp only [Int.toNat_natCast]
 exact wpAny_mono h (fun fin s' q=>let ⟨r,e,q⟩:=q; ⟨r,e,wpAny_pure q⟩) fun _ _ e=>e
theorem ng {Q:Option Value->Shared->Prop} {P:PySem.Fin->Shared->Prop} (hh:A.handled=none) (h:∀ h',(∀ b o,s.heap.get? b=some o->h'.get? b=some o)->Q none { s with heap:=h' }) :
  wpAny (model prog w) A.in1 (do
   let x <- newExc (.type "StopIteration") []
   raiseNew x) P (fun e s'=>wpAny (model prog w) A (do if <- isInstance e (.type "StopIteration") then pure none else throw e) Q E s') s:=by
 refine wpAny_bind ?_
 simp only [newExc,newTuple]
 refine wpAny_bind (wpAny_newObj_type ?_ (by size_fits))
 refine wpAny_bind (m:=firstArgMember _ _) (wpAny_of_eq (a:=Value.none) (by first | rfl | (simp only [firstArgMember]; rfl)) ?_)
 refine wpAny_newObj_type ?_ (by size_fits)
 simp only [raiseNew]
 refine wpAny_bind (wpAny_handled ?_)
 rw [show A.in1.handled=none from hh]
 refine wpAny_bind (wpAny_pure (wpAny_throw ?_))
 refine wpAny_bind (wpAny_isInstance (T:="StopIteration") (b:=true) ⟨_,Heap.get?_push_size _ rfl,rfl⟩ isSubtype_stop ?_)
 exact wpAny_pure (h _ fun b o e=>Heap.get?_push_of_some _ (Heap.get?_push_of_some _ e))
theorem bn {h:Heap} {I b:Addr} {f:Obj->Obj} {o:Obj} (hb:b≠I) (e:h.get? b=some o):(h.update I f).get? b=some o:=(Heap.get?_update_other _ _ (Ne.symm hb)).trans e
theorem hZ {a:Addr} {es:Array (Int×Value)} {ep:Nat} {t:SetTable} {sl i:Nat} {Q:Option (Value×Nat)->Shared->Prop} (ha:s.heap.get? a=some (nh es ep t)) (hf:t.fits es.size=true) (hT:w.params.followText "set-order" = true) (h:Q (((pickOrder (w.params.setOrder a ep) es)[i]?).map fun e=>(e.2,sl)) s):wpAny (model prog w) A (setNext a sl i ep) Q E s:=by
 unfold setNext
 refine wpAny_bind (wpAny_setState_of ha rfl hf ?_)
 dsimp only
 refine wpAny_bind (gk ?_)
 rw [hT,if_pos rfl]
 refine wpAny_ite_split (fun z=>absurd z (by simp)) (fun _=>?_)
 unfold setWalk
 refine wpAny_bind (wpAny_bind (wpAny_setState_of ha rfl hf ?_))
 dsimp only
 refine wpAny_bind (gk ?_)
 rw [hT,if_pos rfl]
 refine wpAny_bind (wpAny_askSetting (wpAny_pure ?_))
 exact wpAny_pure h
theorem ia {a:Addr} {es:Array (Int×Value)} {ep:Nat} {t:SetTable} {sl i:Nat} {Q:Option (Value×Nat)->Shared->Prop} (ha:s.heap.get? a=some (nh es ep t)) (hf:t.fits es.size=true) (hT:w.params.followText "set-order" = false) (hp:(!t.plain&&decide (es.size>1))=false) (hw:t.led=true)
  (h:Q (match es[SetTable.below t.place sl]?,t.place[SetTable.below t.place sl]? with
   | some (_,x),some j=>some (x,j+1)
   | _,_=>none) s):wpAny (model prog w) A (setNext a sl i ep) Q E s:=by
 unfold setNext
 refine wpAny_bind (wpAny_setState_of ha rfl hf ?_)
 dsimp only
 refine wpAny_bind (gk ?_)
 rw [hT,if_neg (by decide)]
 show wpAny _ _ (if (!t.plain&&decide (es.size>1))=true then _ else _) _ _ _
 rw [hp,if_neg (by decide)]
 show wpAny _ _ ((if (!t.led && !es.isEmpty)=true then _ else _) >>= _) _ _ _
 rw [hw]
 simp only [Bool.not_true,Bool.false_and,Bool.false_eq_true,if_false]
 exact wpAny_bind (wpAny_pure (wpAny_pure h))
end
section
variable {prog:Program} {w:World} {A:Around} {E:Value->Shared->Prop} {s:Shared}
theorem i8 {t:SetTable} {n:Nat} (h:t.fits n=true):t.place.size=n:=by
 simp only [SetTable.fits,Bool.and_eq_true,beq_iff_eq] at h
 exact h.1
theorem uO {h:Heap} {I a:Addr} {first x:Value} {i n ep:Int} (hI:h.get? I=some (j0 first i a n ep)) (j:Int):((h.update I (Obj.mapFields (·.setIfInBounds 0 x))).update I (Obj.mapFields (·.setIfInBounds 1 (rawInt j)))).get? I=some (j0 x j a n ep):=by
 have h1:=Heap.get?_update_self (Obj.mapFields (·.setIfInBounds 0 x)) hI rfl
 exact Heap.get?_update_self (Obj.mapFields (·.setIfInBounds 1 (rawInt j))) h1 rfl
theorem Ac {h:Heap} {I a:Addr} {first:Value} {i n ep:Int} (hI:h.get? I=some (j0 first i a n ep)) (j:Int):(h.update I (Obj.mapFields (·.setIfInBounds 1 (rawInt j)))).get? I=some (j0 first j a n ep):=
 Heap.get?_update_self (Obj.mapFields (·.setIfInBounds 1 (rawInt j))) hI rfl
theorem wZ {I a tp:Addr} {vs:List Value} {i:Nat} {v:Value} {Q:Option Value->Shared->Prop} (ha:a≠I) (ht:tp≠I) (hW:SWk w s.heap I a vs tp i) (hv:vs[i]? = some v)
  (hQ:∀ h',SWk w h' I a vs tp (i+1)->(∀ b o,b≠I->s.heap.get? b=some o->h'.get? b=some o)->Q (some v) { s with heap:=h' }):wpAny (model prog w) A (pyNext (.ref I)) Q E s:=by
 obtain ⟨es,ep,t,first,e1,e2,e3,e4,e5,e6,e7⟩:=hW
 have hi:i<vs.length:=(List.getElem?_eq_some_iff.mp hv).1
 refine rA e5 e1 e2 rfl ?_
 cases e7 with
 | text m1 m2=>
  rename_i sl
  show wpAny _ _ (setNext a ((sl:Int)).toNat i ep >>= _) _ _ _
  rw [Int.toNat_natCast]
  have hx:∃ e,(pickOrder (w.params.setOrder a ep) es)[i]? = some e/\e.2=v:=by
   rw [m2,List.getElem?_map,Array.getElem?_toList] at hv
   exact Option.map_eq_some_iff.mp hv
  obtain ⟨e,q1,q2⟩:=hx
  refine wpAny_bind (hZ e1 e2 m1 ?_)
  rw [q1]
  dsimp only [Option.map]
  rw [q2]
  refine wpAny_bind (wpAny_setField e5 rfl (by simp) ?_)
  have g1:=Heap.get?_update_self (Obj.mapFields (·.setIfInBounds 0 (rawInt (sl:Int)))) e5 rfl
  refine wpAny_bind (wpAny_setField g1 rfl (by simp) (wpAny_pure ⟨v,rfl,hQ _ ?_ fun b o hb eo=>bn hb (bn hb eo)⟩))
  exact ⟨es,ep,t,rawInt sl,bn ha (bn ha e1),e2,e3,e4,uO e5 _,fun b z=>(by cases z),.text m1 m2⟩
 | slots m1 m2 m3 m4=>
  have hz:=i8 e2
  have hb:SetTable.below t.place (if i=0 then 0 else t.place.getD (i-1) 0+1)=i:=by
   by_cases z:i=0
   ·subst z; rw [if_pos rfl,la m3]
   ·rw [if_neg z]
    have:i-1<t.place.size:=by omega
    have e:t.place.getD (i-1) 0=t.place[i-1]:=by simp [Array.getD,this]
    rw [e,lc m3 this]
    omega
  have hp:t.place[i]? = some (t.place.getD i 0):=by
   have:i<t.place.size:=by omega
   simp [Array.getD,this]
  obtain ⟨e,q1,q2⟩:∃ e,es[i]? = some e/\e.2=v:=by
   rw [m4,List.getElem?_map,Array.getElem?_toList] at hv
   exact Option.map_eq_some_iff.mp hv
  obtain ⟨eh,ev⟩:=e
  have q2:ev=v:=q2
  subst q2
  show wpAny _ _ (setNext a (((if i=0 then 0 else t.place.getD (i-1) 0+1:Nat):Int)).toNat i ep >>= _) _ _ _
  rw [Int.toNat_natCast]
  refine wpAny_bind (ia e1 e2 m1 m2 (by rw [e3.led,m1]; rfl) ?_)
  rw [hb,q1,hp]
  dsimp only
  refine wpAny_bind (wpAny_setField e5 rfl (by simp) ?_)
  have g1:=Heap.get?_update_self (Obj.mapFields (·.setIfInBounds 0 (rawInt ((t.place.getD i 0+1:Nat):Int)))) e5 rfl
  refine wpAny_bind (wpAny_setField g1 rfl (by simp) (wpAny_pure ⟨ev,rfl,hQ _ ?_ fun b o hb eo=>bn hb (bn hb eo)⟩))
  have m:Mode w ((s.heap.update I (Obj.mapFields (·.setIfInBounds 0 (rawInt ((t.place.getD i 0+1:Nat):Int))))).update I (Obj.mapFields (·.setIfInBounds 1 (rawInt ((i:Int)+1))))) a es ep t vs (i+1) (rawInt (if i+1=0 then 0 else t.place.getD (i+1-1) 0+1:Nat)):=.slots m1 m2 m3 m4
  rw [if_neg (by omega),Nat.add_sub_cancel] at m
  exact ⟨es,ep,t,_,bn ha (bn ha e1),e2,e3,e4,uO e5 _,fun b z=>(by cases z),m⟩
 | drawn m1 m2 m3 m4=>
  rename_i tq o ps k
  have:=e6 _ rfl
  subst this
  have hj:i<ps.length:=by omega
  have hp:ps[i]? = some ps[i]:=by simp [hj]
  obtain ⟨e,q1,q2⟩:=m4 i _ hp
  rw [hv] at q2
  have q2:v=e.2:=by simpa using q2
  show wpAny _ _ (seqItems? (.ref tq) >>= _) _ _ _
  refine wpAny_bind (wpAny_seqItems m1 m2 ?_)
  dsimp only
  have pl:(ps.map fun p:Nat=>rawInt (p:Int)).toArray[i]? = some (rawInt (ps[i]:Int)):=by simp [hj]
  rw [pl]
  show wpAny _ _ (setNextDrawn a ((ps[i]:Int)).toNat ep >>= _) _ _ _
  rw [Int.toNat_natCast]
  unfold setNextDrawn
  refine wpAny_bind (wpAny_bind (wpAny_setState_of e1 rfl e2 ?_))
  dsimp only
  refine wpAny_ite_split (fun z=>absurd z (by simp)) (fun _=>?_)
  rw [q1]
  refine wpAny_pure ?_
  rw [<- q2]
  refine wpAny_bind (wpAny_setField e5 rfl (by simp) (wpAny_pure ⟨v,rfl,hQ _ ?_ fun b o hb eo=>bn hb eo⟩))
  exact ⟨es,ep,t,.ref tq,bn ha e1,e2,e3,e4,Ac e5 _,e6,.drawn (bn ht m1) m2 m3 m4⟩
theorem w9 {I a tp:Addr} {vs:List Value} {Q:Option Value->Shared->Prop} (hh:A.handled=none) (hW:SWk w s.heap I a vs tp vs.length)
  (hQ:∀ h',(∀ b o,b≠I->s.heap.get? b=some o->h'.get? b=some o)->Q none { s with heap:=h' }):wpAny (model prog w) A (pyNext (.ref I)) Q E s:=by
 obtain ⟨es,ep,t,first,e1,e2,e3,e4,e5,e6,e7⟩:=hW
 refine rA e5 e1 e2 rfl ?_
 cases e7 with
 | text m1 m2=>
  rename_i sl
  show wpAny _ _ (setNext a ((sl:Int)).toNat vs.length ep >>= _) _ _ _
  rw [Int.toNat_natCast]
  refine wpAny_bind (hZ e1 e2 m1 ?_)
  have hx:(pickOrder (w.params.setOrder a ep) es)[vs.length]? = none:=by
   rw [<- Array.getElem?_toList,List.getElem?_eq_none_iff,m2,List.length_map]
   exact Nat.le_refl _
  rw [hx]
  dsimp only [Option.map]
  refine wpAny_bind (wpAny_setField e5 rfl (by simp) ?_)
  exact ng hh fun h' kp=>hQ h' fun b o hb eo=>kp b o (bn hb eo)
 | slots m1 m2 m3 m4=>
  have hz:=i8 e2
  have hb:SetTable.below t.place (if vs.length=0 then 0 else t.place.getD (vs.length-1) 0+1)=vs.length:=by
   by_cases z:vs.length=0
   ·rw [if_pos z,la m3,z]
   ·rw [if_neg z]
    have:vs.length-1<t.place.size:=by omega
    have e:t.place.getD (vs.length-1) 0=t.place[vs.length-1]:=by simp [Array.getD,this]
    rw [e,lc m3 this]
    omega
  show wpAny _ _ (setNext a (((if vs.length=0 then 0 else t.place.getD (vs.length-1) 0+1:Nat):Int)).toNat vs.length ep >>= _) _ _ _
  rw [Int.toNat_natCast]
  refine wpAny_bind (ia e1 e2 m1 m2 (by rw [e3.led,m1]; rfl) ?_)
  rw [hb]
  have hx:es[vs.length]? = none:=by rw [e4]; simp
  rw [hx]
  dsimp only
  refine wpAny_bind (wpAny_setField e5 rfl (by simp) ?_)
  exact ng hh fun h' kp=>hQ h' fun b o hb eo=>kp b o (bn hb eo)
 | drawn m1 m2 m3 m4=>
  rename_i tq o ps k
  show wpAny _ _ (seqItems? (.ref tq) >>= _) _ _ _
  refine wpAny_bind (wpAny_seqItems m1 m2 ?_)
  dsimp only
  have pl:(ps.map fun p:Nat=>rawInt (p:Int)).toArray[vs.length]? = none:=by rw [m3]; simp
  rw [pl]
  dsimp only
  refine wpAny_bind (wpAny_setField e5 rfl (by simp) ?_)
  have g1:=Heap.get?_update_self (Obj.mapFields (·.setIfInBounds 0 (rawInt 0))) e5 rfl
  refine wpAny_bind (wpAny_setField g1 rfl (by simp) ?_)
  exact ng hh fun h' kp=>hQ h' fun b o hb eo=>kp b o (bn hb (bn hb eo))
theorem SWk.frame {h h':Heap} {I a tp:Addr} {vs:List Value} {i:Nat} (x:SWk w h I a vs tp i) (k:∀ b∈[I,a,tp],∀ o,h.get? b=some o->h'.get? b=some o):SWk w h' I a vs tp i:=
 let ⟨es,ep,t,first,e1,e2,e3,e4,e5,e6,e7⟩:=x
 ⟨es,ep,t,first,k a (by simp) _ e1,e2,e3,e4,k I (by simp) _ e5,e6,e7.keep e6 (k tp (by simp))⟩
theorem lN:entryFor table "set_iterator.__iter__" = some Builtin.«dict_keyiterator.__iter__»:=
 entryFor_alias (id':="dict_keyiterator.__iter__") (by kernel_rfl) (by first | rfl | decide +kernel | (unfold String.splitOn; simp +decide [String.splitOnAux])) (by decide +kernel) (by kernel_rfl)
theorem hX:Slot "set_iterator" "__iter__" "set_iterator.__iter__":=
 .of (owner:="set_iterator") (n:="__iter__") (by rw [typeLookup_type,builtinLookup_eq_fast]; kernel_rfl) (by decide +kernel) (by decide +kernel) (by decide +kernel)
  (by first | exact .inl (by decide +kernel) | exact .inr (by decide +kernel)) (by rw [isSubtype_type]; kernel_rfl)
theorem oq (a:Value):argsOk "set_iterator.__iter__" ⟨[a],[]⟩:=by
 unfold argsOk; rw [signature?_of (id:="set_iterator.__iter__") (n:=['_','_','r','e','t','i','_','_']) (o:=['r','o','t','a','r','e','t','i','_','t','e','s']) (by kernel_rfl) o7]; kernel_rfl
theorem uB (hh:A.handled=none) {I a tp:Addr} (ha:a≠I) (ht:tp≠I) (vs:List Value):Walks prog w A I [I,a,tp] [I] vs.length (fun i v=>vs[i]? = some v) (fun i h=>SWk w h I a vs tp i) where
 sub:=fun b hb=>by simp at hb; simp [hb]
 frame:=fun _ _ _ st hk=>st.frame hk
 item:=fun i s Q E hi st hQ=>wZ ha ht st (v:=vs[i]) (by simp [hi]) fun h' x k=>hQ _ h' s.toks (by simp [hi]) x fun b o hb e=>k b o (fun z=>hb (by simp [z])) e
 done:=fun s Q E st hQ=>w9 hh st fun h' k=>hQ h' s.toks fun b o hb e=>k b o (fun z=>hb (by simp [z])) e
 self:=fun i s Q E st hQ=>by
  obtain ⟨es,ep,t,first,e1,e2,e3,e4,e5,e6,e7⟩:=st
  refine wpAny_pyIter_slot (dN e5) hX (wpAny_call_entry hX (dN e5) lN ?_ (oq _))
  exact wpAny_pure ⟨_,rfl,"set_iterator",_,dN e5,slot_si_next.lookup,hQ⟩
end
theorem iq:∀ (l:List (Int×Value)),(∀ e∈l,rf e)->IntsAre (l.map (·.2)) (l.map fun e=>m6 e.2)
 | [],_=>.nil
 | e::l,h=>by
  obtain ⟨k,t,rfl⟩:=h e List.mem_cons_self
  exact .cons k t (iq l fun e he=>h e (List.mem_cons_of_mem _ he))
theorem qB (es:Array (Int×Value)):(List.range es.size).map (fun p=>es.getD p (0,.none))=es.toList:=by
 apply List.ext_getElem?
 intro i
 rw [List.getElem?_map]
 by_cases h:i<es.size
 ·rw [List.getElem?_range h]
  simp [Array.getD,h]
 ·rw [List.getElem?_eq_none (by rw [List.length_range]; omega),List.getElem?_eq_none (by rw [Array.length_toList]; omega)]
  rfl
section
variable {prog:Program} {w:World} {A:Around} {E:Value->Shared->Prop} {s:Shared}
theorem uR {a:Addr} {ns:List Int} {Q:Value->Shared->Prop} (hS:SetJ w s.heap a ns)
  (hQ:∀ I tp h1 d vs ms,tp≠I->a≠I->(∀ b o,s.heap.get? b=some o->h1.get? b=some o)->s.heap.objs.size<=I->I<h1.objs.size->(tp=a\/s.heap.objs.size<=tp)->SWk w h1 I a vs tp 0->IntsAre vs ms->ms.Perm ns->Q (.ref I) { s with heap:=h1,drawn:=d }):wpAny (model prog w) A (pyIter (.ref a)) Q E s:=by
 obtain ⟨es,ep,t,ho,hel,hp,hb,hf,hw⟩:=hS
 have hT:s.TypeIs (.ref a) "set":=⟨_,ho,rfl⟩
 have lt:=Heap.lt_size ho
 refine wpAny_pyIter_slot hT F.slot_set_iter (wpAny_call_entry F.slot_set_iter hT jE ?_ (F.args_set_iter_1 _))
 unfold Builtin.«frozenset.__iter__» Builtin.Frozenset.slot0
 refine wpAny_bind (wpAny_bind (wpAny_of_eq (a:=(Value.ref a,[])) rfl ?_))
 unfold Builtin.Frozenset.addrOf Builtin.Frozenset.sizeOf
 refine wpAny_pure ?_
 refine wpAny_bind (wpAny_bind (wpAny_setEntries_of ho rfl hf (wpAny_pure ?_)))
 unfold setDrawn
 refine wpAny_bind (wpAny_bind (wpAny_setState_of ho rfl hf ?_))
 dsimp only
 refine wpAny_bind (gk (wpAny_pure ?_))
 have plain:∀ vs ms,IntsAre vs ms->ms.Perm ns->vs.length=es.size->(∀ h1:Heap,Mode w h1 a es ep t vs 0 (rawInt (0:Nat)))->wpAny (model prog w) A.in1 (do
   let ep <- setEpoch a
   let x <- newFields "set_iterator" [rawInt 0,rawInt 0,.ref a,rawInt es.size,rawInt ep]
   ret x) (fun fin s'=>∃ v,fin=.done (.ret v)/\∃ T' r,s'.TypeIs v T'/\typeLookup (.type T') "__next__" = pure (some r)/\Q v s') E s:=fun vs ms q1 q2 q3 q4=>by
  refine wpAny_bind (wpAny_setEpoch_of ho rfl hf ?_)
  refine wpAny_bind (wpAny_newObj_type (wpAny_pure ⟨_,rfl,"set_iterator",_,⟨_,Heap.get?_push_size _ rfl,rfl⟩,slot_si_next.lookup,?_⟩))
  refine hQ s.heap.objs.size a _ s.drawn vs ms (Nat.ne_of_lt lt) (Nat.ne_of_lt lt) (fun b o e=>Heap.get?_push_of_some _ e) (Nat.le_refl _) (by rw [Heap.size_push]; exact Nat.lt_succ_self _) (.inl rfl) ⟨es,ep,t,rawInt (0:Nat),Heap.get?_push_of_some _ ho,hf,hw,q3,Heap.get?_push_size _ rfl,fun b z=>(by cases z),q4 _⟩ q1 q2
 cases hb1:w.params.followText "set-order" with
 | true=>
  simp only [Bool.not_true,Bool.false_and,Bool.false_eq_true,if_false]
  have pp:=tE (w.params.setOrder a ep) es
  refine plain ((pickOrder (w.params.setOrder a ep) es).toList.map (·.2)) _ (iq _ fun e he=>hel e (pp.mem_iff.mp he)) ((pp.map _).trans hp) (by rw [List.length_map,pp.length_eq,Array.length_toList]) fun h1=>.text hb1 rfl
 | false=>
  by_cases hd:(!t.plain&&decide (es.size>1))=true
  ·show wpAny _ _ (if (!false&&(!t.plain&&decide (es.size>1)))=true then _ else _) _ _ _
   rw [hd]
   simp only [Bool.not_false,Bool.and_self,if_true]
   refine wpAny_bind (mQ es.size (List.range es.size) s (List.length_range ..) fun ys d py=>?_)
   have hlen:ys.length=es.size:=by rw [py.length_eq,List.length_range]
   refine wpAny_bind (wpAny_newObj_type ?_ (by show (List.toArray _).size<=sizeLine; rw [List.size_toArray,List.length_map,hlen]; have:=hp.length_eq; rw [List.length_map,Array.length_toList] at this; exact fits_of_scanBound (by omega)))
   have ho1:=Heap.get?_push_of_some { cls:=.type "tuple",data:=.seq (ys.map fun i:Nat=>rawInt (i:Int)).toArray } ho
   refine wpAny_bind (wpAny_setEpoch_of ho1 rfl hf ?_)
   refine wpAny_bind (wpAny_newObj_type (wpAny_pure ⟨_,rfl,"set_iterator",_,⟨_,Heap.get?_push_size _ rfl,rfl⟩,slot_si_next.lookup,?_⟩))
   have pe:(ys.map fun p=>es.getD p (0,.none)).Perm es.toList:=by
    have:=py.map fun p=>es.getD p (0,.none)
    rwa [qB] at this
   refine hQ (s.heap.push { cls:=.type "tuple",data:=.seq (ys.map fun i:Nat=>rawInt (i:Int)).toArray }).objs.size s.heap.objs.size _ d ((ys.map fun p=>es.getD p (0,.none)).map (·.2)) _ ?_ ?_ (fun b o e=>Heap.get?_push_of_some _ (Heap.get?_push_of_some _ e)) (by rw [Heap.size_push]; exact Nat.le_succ _) (Heap.lt_size (Heap.get?_push_size _ rfl)) (.inr (Nat.le_refl _)) ⟨es,ep,t,.ref s.heap.objs.size,Heap.get?_push_of_some _ ho1,hf,hw,by simp [hlen],Heap.get?_push_size _ rfl,fun b z=>by injection z with z; exact z.symm,?_⟩ (iq _ fun e he=>hel e (pe.mem_iff.mp he)) ((pe.map _).trans hp)
   ·rw [Heap.size_push]; exact Nat.ne_of_lt (Nat.lt_succ_self _)
   ·rw [Heap.size_push]; exact Nat.ne_of_lt (Nat.lt_succ_of_lt lt)
   ·refine .drawn (ps:=ys) (Heap.get?_push_of_some _ (Heap.get?_push_size _ rfl)) rfl (by simp) fun j p hj=>?_
    have hpn:p<es.size:=List.mem_range.mp (py.mem_iff.mp (List.mem_of_getElem? hj))
    refine ⟨es.getD p (0,.none),by simp [Array.getD,hpn],?_⟩
    rw [List.getElem?_map,List.getElem?_map,hj]
    rfl
  ·show wpAny _ _ (if (!false&&(!t.plain&&decide (es.size>1)))=true then _ else _) _ _ _
   have hd':(!t.plain&&decide (es.size>1))=false:=by simpa using hd
   rw [hd']
   simp only [Bool.not_false,Bool.and_false,Bool.false_eq_true,if_false]
   have up:UpA t.place:=by
    cases hpl:t.plain with
    | true=>exact hw.up hpl
    | false=>
     rw [hpl] at hd'
     have h1:es.size<=1:=by simpa using hd'
     have h2:=i8 hf
     intro i j hi hj hij
     omega
   refine wpAny_bind (wpAny_pure ?_)
   refine plain (es.toList.map (·.2)) _ (iq _ hel) hp (by simp) fun h1=>?_
   have:=Mode.slots (w:=w) (h:=h1) (a:=a) (ep:=ep) (i:=0) hb1 hd' up (es:=es) rfl
   simpa using this
theorem vQ {r:Addr} {Q:Bool->Shared->Prop} (hT:s.TypeIs (.ref r) "set") (h:Q false s):wpAny (model prog w) A (Builtin.List.listLengthHint (.ref r)) Q E s:=by
 unfold Builtin.List.listLengthHint
 refine wpAny_bind (wpAny_specialOf hT PySem.F.slot_set_len.lookup ?_)
 generalize hid:("set.__len__":String)=id0
 wp_delta
 rw [show splitId id0=some ("set","__len__") from by subst hid; decide +kernel]
 subst hid
 refine wpAny_bind (wpAny_isInstance (T:="set") (b:=true) hT (by rw [isSubtype_type]; kernel_rfl) ?_)
 refine wpAny_ite_split (fun z=>absurd z (by decide)) (fun _=>wpAny_ite_split (fun _=>?_) (fun z=>absurd (by decide +kernel) z))
 exact wpAny_bind (wpAny_typeOf hT (wpAny_pure h))
end
end VL
set_option Elab.async false
set_option linter.all false
set_option maxRecDepth 100000
set_option maxHeartbeats 4000000
namespace VL
open PySem PySem.Spec PyProof.Rows L2
section
variable {prog:Program} {w:World} {A:Around} {E:Value->Shared->Prop} {s:Shared}
theorem vL {vs:List Value} {acc:Array Value} (h:ItemsOf (fun i v=>vs[i]? = some v) acc vs.length):acc.toList=vs:=by
 obtain ⟨h1,h2⟩:=h
 apply List.ext_getElem?
 intro i
 rw [Array.getElem?_toList]
 cases e:acc[i]? with
 | some v=>exact (h2 i v e).symm
 | none=>
  have:acc.size<=i:=by simpa using e
  rw [List.getElem?_eq_none (by omega)]
theorem qa {a:Addr} {ns:List Int} {R:List Value->Shared->Prop} (hh:A.handled=none) (hS:SetJ w s.heap a ns)
  (h:∀ h' d tk vs ms,(∀ b o,s.heap.get? b=some o->h'.get? b=some o)->IntsAre vs ms->ms.Perm ns->R vs { s with heap:=h',drawn:=d,toks:=tk }):wpAny (model prog w) A (collect (.ref a)) R E s:=by
 have hsz:ns.length<scanBound:=by obtain ⟨es,ep,t,ho,hel,hp,hb,hf,hw⟩:=hS; exact hb
 have lta:a<s.heap.objs.size:=by obtain ⟨es,ep,t,ho,hel,hp,hb,hf,hw⟩:=hS; exact Heap.lt_size ho
 unfold collect
 refine wpAny_bind (wpAny_runValue (codeAny_builtin entry_proto_collect' ?_))
 rw [Around.under_plainId PySem.F.plain_proto_collect _]
 refine wpAny_bind (m:=newList []) (wpAny_newObj_type ?_)
 refine wpAny_pure ⟨plainId_quiet PySem.F.plain_list_iadd _,codeAny_builtin entry_list_iadd' ?_⟩
 rw [Around.under_plainId PySem.F.plain_list_iadd _]
 show wpAny _ A.in1 (Builtin.List.listExtendWith (.ref s.heap.objs.size) (.ref a) (.ref s.heap.objs.size)) _ _ _
 unfold Builtin.List.listExtendWith
 have kp1:∀ b o,s.heap.get? b=some o->(s.heap.push { cls:=.type "list",data:=.seq ([]:List Value).toArray }).get? b=some o:=fun b o e=>Heap.get?_push_of_some _ e
 have hS1:=hS.at fun o e=>kp1 a o e
 have hL:(s.heap.push { cls:=.type "list",data:=.seq ([]:List Value).toArray }).get? s.heap.objs.size=some { cls:=.type "list",data:=.seq #[] 0 }:=Heap.get?_push_size _ rfl
 have hT:∀ {s1:Shared},SetJ w s1.heap a ns->s1.TypeIs (.ref a) "set":=fun q=>by obtain ⟨es,ep,t,ho,r⟩:=q; exact ⟨_,ho,rfl⟩
 refine wpAny_bind (wpAny_typeOf (T:="set") (hT hS1) ?_)
 have h1:Builtin.List.listSameRef (.ref s.heap.objs.size) (.ref a)=false:=by simp [Builtin.List.listSameRef]; exact Nat.ne_of_gt lta
 have h2:(Value.type "set" == Value.type "list")=false:=by decide
 have h3:(Value.type "set" == Value.type "tuple")=false:=by decide
 simp only [h1,h2,h3,Bool.or_false,Bool.false_eq_true,if_false]
 refine wpAny_bind (uR hS1 fun I tp h1 d vs ms htp haI kp2 hI hI2 htp2 sw iv pm=>?_)
 have ltL:s.heap.objs.size<(s.heap.push { cls:=.type "list",data:=.seq ([]:List Value).toArray }).objs.size:=Heap.lt_size hL
 have neI:s.heap.objs.size≠I:=fun z=>by
  have q:s.heap.objs.size<I:=Nat.lt_of_lt_of_le ltL hI
  rw [<- z] at q
  exact Nat.lt_irrefl _ q
 have neT:s.heap.objs.size≠tp:=fun z=>by
  rcases htp2 with q | q
  ·rw [q] at z; exact absurd lta (by rw [z]; exact Nat.lt_irrefl _)
  ·rw [<- z] at q; exact absurd ltL (Nat.not_lt.mpr q)
 have hL1:=kp2 _ _ hL
 refine wpAny_bind (wpAny_holding (vQ (hT (s1:={ s with heap:=h1,drawn:=d }) (hS1.at fun o e=>kp2 a o e)) ?_))
 have fin:∀ (RR:Result->Shared->Prop) (hR:∀ s',wpAny (model prog w) A (load s.heap.objs.size >>= fun o=>match o.data with
   | .seq xs _=>pure xs.toList
   | _=>unsupported "internal:collect") R E s'->RR (.ok (.ret (.ref s.heap.objs.size))) s') (h2:Heap) (c:Nat),h2.get? s.heap.objs.size=some { cls:=.type "list",data:=.seq #[] c }->(∀ b o,b≠s.heap.objs.size->h1.get? b=some o->h2.get? b=some o)->codeAny (model prog w) A (.builtin "list.extend.loop" ⟨[.ref s.heap.objs.size,.ref I,.ref s.heap.objs.size],[]⟩) RR { s with heap:=h2,drawn:=d }:=fun RR hR h2 c e2 k2=>by
  have W:=(uB (prog:=prog) (w:=w) (A:=A.in1) hh haI htp vs).toS
  have vl:vs.length=ns.length:=by rw [<- pm.length_eq]; exact IntsAre.length iv
  refine codeAny_extend_loopS W (by rw [vl]; exact fits_of_scanBound hsz) s.heap.objs.size (by simp only [List.mem_cons,List.not_mem_nil,or_false,not_or]; exact ⟨neI,Nat.ne_of_gt lta,neT⟩) (.ref s.heap.objs.size) vs.length 0 _ #[] c rfl (Nat.zero_le _) (sw.frame fun b hb o e=>?_) e2 (ItemsOf.nil _) fun s' acc c' hm hS' hacc=>?_
  ·refine k2 b o (fun z=>?_) e
   simp only [List.mem_cons,List.not_mem_nil,or_false] at hb
   rcases hb with rfl | rfl | rfl
   ·exact neI z.symm
   ·exact Nat.ne_of_lt lta z
   ·exact neT z.symm
  ·refine hR s' (wpAny_bind (wpAny_load hS' (wpAny_pure ?_)))
   rw [vL hacc]
   obtain ⟨h',g',d',tk',os'⟩:=s'
   have eg:g'=s.gens:=hm.gens
   have ed:d'=d:=hm.drawn
   have eo:os'=s.os:=hm.os
   subst eg ed eo
   refine h h' d' tk' vs ms (fun b o e=>?_) iv pm
   have lt:=Heap.lt_size e
   refine hm.heap b o ?_ (k2 b o (Nat.ne_of_lt lt) (kp2 b o (kp1 b o e)))
   simp only [List.mem_cons,List.not_mem_nil,or_false,not_or]
   exact ⟨Nat.ne_of_lt lt,fun z=>by
    have q:b<I:=Nat.lt_trans lt (Nat.lt_of_lt_of_le ltL hI)
    rw [z] at q
    exact Nat.lt_irrefl _ q⟩
 refine wpAny_ite_split (fun _=>?_) (fun _=>wpAny_pure ⟨plainId_quiet PySem.F.plain_extend_loop _,fin _ (fun s' q=>q) h1 0 hL1 fun b o _ e=>e⟩)
 refine wpAny_bind (wpAny_rule ?_)
 refine wpAny_bind ?_
 show wpAny _ _ (updateSeq s.heap.objs.size (·.push .none) >>= fun _=>updateSeq s.heap.objs.size (·.pop)) _ _ _
 refine wpAny_bind (wpAny_updateSeq hL1 rfl ?_)
 have g2:=Heap.get?_update_self (Obj.mapSeq (·.push Value.none)) hL1 rfl
 refine wpAny_updateSeq (hz:=by seq_fits) g2 rfl ?_
 have g3:=Heap.get?_update_self (Obj.mapSeq (·.pop)) g2 rfl
 exact wpAny_pure ⟨plainId_quiet PySem.F.plain_extend_loop _,fin _ (fun s' q=>q) _ _ g3 fun b o hb e=>bz hb (bz hb e)⟩
end
section
variable {X:Cx}
theorem Inv.keptD {pins:List (Addr×Obj)} {σ:St} {H:Hp} {s:Shared} {h':Heap} {t':Nat} {d:Drawn} (I:Inv X pins σ H s) (k:∀ b u,s.heap.get? b=some u->h'.get? b=some u):Inv X pins σ H { s with heap:=h',drawn:=d,toks:=t' }:=by
 obtain ⟨a1,a2,a3,a4,a5,a6,a7,a8,a9,a10,a11⟩:=I.kept (t':=t') k
 exact ⟨a1,a2,a3,a4,a5,a6,a7,a8,a9,a10,a11⟩
theorem qv (hc:X.calm=true) {pins:List (Addr×Obj)} {σ:St} {H:Hp} {s:Shared} {a:Addr} {ns:List Int} {Q:VK} (I:Inv X pins σ H s) (hS:SetJ X.w s.heap a ns) (h64:ns.length<64) (q:∀ l,H l=none->Q (.ref l) (upd H l (.lst ((bo ns).map V.int)))) :
  wpAny (model X.prog X.w) X.A (call (.builtin "sorted") [.ref a]) (EP X pins σ Q) X.xe s:=by
 refine Calls.call_function_entry kind_sorted plain_sorted entry_sorted (args_sorted1 _) ?_
 unfold Builtin.«sorted»
 refine wpAny_bind (m:=checkCount "sorted" 1 1 _) (wpAny_pure ?_)
 refine wpAny_bind (qa (I.ok.hd hc) hS fun h' d tk acc ms hk' hI pm=>?_)
 have hln:acc.length=ns.length:=by rw [<- pm.length_eq]; exact IntsAre.length hI
 refine wpAny_bind (wpAny_newList ?_ (by rw [hln,sizeLine_eq]; omega))
 have hoL:(h'.push (seqObj "list" acc.toArray 0)).get? h'.objs.size=some (seqObj "list" acc.toArray 0):=Heap.get?_push_size _ rfl
 refine wpAny_bind (wpAny_holding (wpAny_call_entry slot_list_sort ⟨_,hoL,rfl⟩ entry_list_sort (list_sort_tree hoL hI (by rw [hln]; exact h64) fun out ns' a1 a2 a3=>⟨_,rfl,?_⟩) (args_list_sort _)))
 refine wpAny_pure ⟨_,rfl,?_⟩
 have e:=i3 (a2.trans pm) a3
 subst e
 have I1:Inv X pins σ H { s with heap:=h',drawn:=d,toks:=tk }:=Inv.keptD I hk'
 have kp:∀ b o,h'.get? b=some o->(sortedHeap (h'.push (seqObj "list" acc.toArray 0)) h'.objs.size acc out).get? b=some o:=fun b o eo=>by
  have hb:b≠h'.objs.size:=Nat.ne_of_lt (Heap.lt_size eo)
  exact bz hb (Heap.get?_push_of_some _ (Heap.get?_push_of_some _ (bz hb (Heap.get?_push_of_some _ eo))))
 obtain ⟨e1,ho1⟩:∃ e1,((h'.push (seqObj "list" acc.toArray 0)).update h'.objs.size (Obj.mapSeq fun _=>#[])).get? h'.objs.size=some (seqObj "list" #[] e1):=⟨_,get?_update_seq hoL (fun _=>#[])⟩
 have ho2:=Heap.get?_push_of_some (seqObj "list" #[] 0) (Heap.get?_push_of_some (seqObj "tuple" acc.toArray 0) ho1)
 have ho3:=get?_update_seq ho2 (fun _=>out)
 have L:=I1.laid (h':=sortedHeap (h'.push (seqObj "list" acc.toArray 0)) h'.objs.size acc out) (a:=h'.objs.size) (o:=.lst ((bo ns).map V.int)) (t':=tk) kp (Nat.le_refl _)
  (show ObjOk X.prog X.w _ _ _ (.lst ((bo ns).map V.int)) from ⟨by rw [List.length_map,(dh ns).length_eq,sizeLine_eq]; omega,out.toList,_,cU a1,by rw [Array.toArray_toList]; exact ho3⟩)
 exact ⟨.ref h'.objs.size,_,L,rfl,q _ (I1.hok.fresh (Nat.le_refl _))⟩
variable {e:Expr} {p p2 pos pos2:Pos} {te:TE} {f:Dv->Option D}
noncomputable def B7 (X:Cx) (te:TE):TE:=fun σ H Q=>te σ H fun v H1=>∃ (a:Addr) (l:List Int),[v]=[V.ref a]/\(SqL X.K H1 a (l.map V.int)\/SqT X.K H1 a (l.map V.int))/\l.length<64/\∀ b,H1 b=none->Q (.ref b) (upd H1 b (.lst ((bo (fO l)).map V.int)))
theorem gD:∀ {l:List Int} {us:List Value},Vals (l.map V.int) us->IntsAre us l
 | [],[],.nil=>.nil
 | n::l,u::us,.cons h r=>by
  obtain ⟨t,rfl⟩:=h
  exact .cons n t (gD r)
theorem xI (hc:X.calm=true) (hg:Gl X "sorted") (hm:X.mg "sorted" = none) (hg':Gl X "set") (hm':X.mg "set" = none) (ha:PE X e te)
  (he:starEach [.Call (.Name "set" p2) [e] [] pos2] X.env=(false,eval (.Call (.Name "set" p2) [e] [] pos2) X.env)::starEach [] X.env:=by rfl)
  (he2:starEach [e] X.env=(false,eval e X.env)::starEach [] X.env:=by rfl) (hpl:(backTo pos (starEach [] X.env)).any (·.1)=false:=by rfl) (hpl2:(backTo pos2 (starEach [] X.env)).any (·.1)=false:=by rfl) :
  PE X (.Call (.Name "sorted" p) [.Call (.Name "set" p2) [e] [] pos2] [] pos) (B7 X te):=by
 intro pins s σ H Q I h
 refine wpAny_Call_Name_kw (fh I hg hm (u:=.builtin "sorted") (by decide +kernel) ?_ (by decide) (by decide))
 refine PyProof.Rows.callWith_builtin1 ?_ he hpl
 rw [he]
 show wpAny _ _ (spliced ((false,eval _ X.env)::backTo pos (starEach [] X.env))) _ _ s
 refine Calls.spliced_cons ?_
 refine wpAny_Call_Name_kw (fh I hg' hm' (u:=.type "set") (by decide +kernel) ?_ (by decide) (by decide))
 refine PyProof.Rows.callWith_type1 (bU (bE ha dl he2 pos2 pins s σ H (fun xs H1=>∃ (a:Addr) (l:List Int),xs=[V.ref a]/\(SqL X.K H1 a (l.map V.int)\/SqT X.K H1 a (l.map V.int))/\l.length<64/\∀ b,H1 b=none->Q (.ref b) (upd H1 b (.lst ((bo (fO l)).map V.int)))) I (by exact h)) fun us s1 ⟨vs,H1,I1,r1,q1⟩=>?_) he2 hpl2
 obtain ⟨a,l,e1,hsq,h64,q⟩:=q1
 subst e1
 obtain ⟨u,rfl,rx⟩:=gr r1
 cases rx
 obtain ⟨its,iv,hl,hz⟩:∃ its:List Value,IntsAre its l/\(s1.heap.IsList a its.toArray\/s1.heap.IsTuple a its.toArray)/\its.length=l.length:=by
  rcases hsq with hsq | hsq
  ·obtain ⟨its,r,⟨o,n,e1,e2,e3,e4⟩,z⟩:=I1.list hsq
   exact ⟨its,gD r,.inl ⟨o,e1,e2,n,e4⟩,by rw [<- r.length,List.length_map]⟩
  ·obtain ⟨its,r,⟨o,e1,e2,n,e3⟩,z⟩:=I1.tuple hsq
   exact ⟨its,gD r,.inr ⟨o,e1,e2,n,e3⟩,by rw [<- r.length,List.length_map]⟩
 refine lR (I1.ok.hd hc) hl (by simpa using iv) (by rw [List.size_toArray,hz]; unfold scanBound; omega) fun h' tk hS kp=>?_
 refine Calls.spliced_nil ?_
 have sl:(fO l).length<=l.length:=by
  have:=j4 l []
  simpa [fO] using this
 exact qv hc (I1.kept kp) hS (by omega) fun b hb=>q b hb
theorem kI {K:Fg} {Z:Hp}:∀ {vs:List V} {ds:List D} {l:List Int},Reps K Z vs ds->vN ds=some l->vs=l.map V.int
 | _,_,_,.nil,h=>by cases h; rfl
 | _,.int i::ds,l,.cons r rs,h=>by
  obtain ⟨l',e,h⟩:=bind_some h
  cases h
  rw [r.int_eq,kI rs e]
  rfl
 | _,.none::ds,l,.cons r rs,h=>by cases h
 | _,.bool _::ds,l,.cons r rs,h=>by cases h
 | _,.str _::ds,l,.cons r rs,h=>by cases h
 | _,.list _::ds,l,.cons r rs,h=>by cases h
 | _,.tuple _::ds,l,.cons r rs,h=>by cases h
 | _,.dict _::ds,l,.cons r rs,h=>by cases h
theorem yr (hg:Gl X "sorted") (hm:X.mg "sorted" = none) (hg':Gl X "set") (hm':X.mg "set" = none) (ha:EV X e f) (hc:X.calm=true:=by rfl)
  (he:starEach [.Call (.Name "set" p2) [e] [] pos2] X.env=(false,eval (.Call (.Name "set" p2) [e] [] pos2) X.env)::starEach [] X.env:=by rfl)
  (he2:starEach [e] X.env=(false,eval e X.env)::starEach [] X.env:=by rfl) (hpl:(backTo pos (starEach [] X.env)).any (·.1)=false:=by rfl) (hpl2:(backTo pos2 (starEach [] X.env)).any (·.1)=false:=by rfl) :
  EV X (.Call (.Name "sorted" p) [.Call (.Name "set" p2) [e] [] pos2] [] pos) (o1 f hU):=
 PE.imp (xI hc hg hm hg' hm' ha he he2 hpl hpl2) fun σ H Q h=>by
  obtain ⟨H₀,Z₀,Z,δ,d,hh,e,k⟩:=h
  obtain ⟨d1,e1,e⟩:=bind_some e
  refine ⟨H₀,Z₀,Z,δ,d1,hh,e1,fun v Z1 H1 hh1 t1 r1=>?_⟩
  unfold hU at e
  obtain ⟨ds,e2,e⟩:=bind_some e
  obtain ⟨l,e3,e⟩:=bind_some e
  obtain ⟨h64,e⟩:=bX e
  cases e
  have key:∀ b,H1 b=none->Q (.ref b) (upd H1 b (.lst ((bo (fO l)).map V.int))):=fun b hb=>by
   have n:=New.add hh1.zh hb (.lst ((bo (fO l)).map V.int))
   exact k _ _ _ (hh1.new n) (t1.trans n.z) (.lst (SqL.of aw) (Reps.ints _))
  cases r1 with
  | lst sq rs=>
   cases e2
   have:=kI rs e3
   subst this
   exact ⟨_,l,rfl,.inl (SqL.same sq hh1.zh),h64,key⟩
  | tup sq rs=>
   cases e2
   have:=kI rs e3
   subst this
   exact ⟨_,l,rfl,.inr (SqT.same sq hh1.zh),h64,key⟩
  | _=>cases e2
end
end VL
set_option Elab.async false
set_option linter.all false
set_option maxRecDepth 100000
set_option maxHeartbeats 4000000
namespace MA
open PySem
theorem mq (x y:Int):Builtin.bitOr x y=2*Builtin.bitOr (x / 2) (y / 2)+(if x % 2=0/\y % 2=0 then 0 else 1):=by
 unfold Builtin.bitOr Builtin.bitNot
 have h:=PySem.W.kbt_halves (-x-1) (-y-1)
 have hx:(-x-1) / 2 = -(x / 2)-1:=by omega
 have hy:(-y-1) / 2 = -(y / 2)-1:=by omega
 rw [hx,hy] at h
 rw [h]
 by_cases c:x % 2=0/\y % 2=0
 ·rw [if_pos c,if_pos (by omega)]; omega
 ·rw [if_neg c,if_neg (by omega)]; omega
theorem ki (n:Nat):(0:Int)<2 ^ n:=by
 induction n with
 | zero=>decide
 | succ n ih=>rw [Int.pow_succ]; omega
theorem fo (x:Int) (n:Nat):x / 2 ^ (n+1)=x / 2 / 2 ^ n:=by
 rw [Int.pow_succ,Int.mul_comm,Int.ediv_ediv_of_nonneg (by decide)]
theorem dG (x:Int) (n:Nat):2 ^ (n+1) ∣ x↔x % 2=0/\2 ^ n ∣ x / 2:=by
 constructor
 ·rintro ⟨c,rfl⟩
  rw [Int.pow_succ]
  refine ⟨?_,c,?_⟩
  ·rw [Int.mul_comm (2 ^ n) 2,Int.mul_assoc]; omega
  ·rw [Int.mul_comm (2 ^ n) 2,Int.mul_assoc,Int.mul_ediv_cancel_left _ (by decide)]
 ·rintro ⟨h,c,hc⟩
  refine ⟨c,?_⟩
  rw [Int.pow_succ,Int.mul_comm (2 ^ n) 2,Int.mul_assoc,<- hc]
  omega
theorem qD (n:Nat):∀ x y:Int,(2 ^ n ∣ Builtin.bitOr x y↔2 ^ n ∣ x/\2 ^ n ∣ y)/\(2 ^ n ∣ Builtin.bitOr x y->Builtin.bitOr x y / 2 ^ n=Builtin.bitOr (x / 2 ^ n) (y / 2 ^ n)):=by
 induction n with
 | zero=>intro x y; simp
 | succ n ih=>
  intro x y
  have h:=mq x y
  have hd:Builtin.bitOr x y / 2=Builtin.bitOr (x / 2) (y / 2):=by rw [h]; split <;> omega
  have hm:Builtin.bitOr x y % 2=0↔x % 2=0/\y % 2=0:=by
   rw [h]
   by_cases c:x % 2=0/\y % 2=0
   ·rw [if_pos c]; constructor
    ·intro _; exact c
    ·intro _; omega
   ·rw [if_neg c]; constructor
    ·intro z; omega
    ·intro z; exact absurd z c
  obtain ⟨i1,i2⟩:=ih (x / 2) (y / 2)
  constructor
  ·rw [dG,dG,dG,hd,hm,i1]
   constructor
   ·rintro ⟨⟨a,b⟩,c,d⟩; exact ⟨⟨a,c⟩,b,d⟩
   ·rintro ⟨⟨a,c⟩,b,d⟩; exact ⟨⟨a,b⟩,c,d⟩
  ·intro q
   rw [dG,hd] at q
   rw [fo,fo,fo,hd,i2 q.2]
theorem uK:∀ (n:Nat) (j:Int),j.natAbs<=n->j≠0->∃ (t:Nat) (a:Int),j=2 ^ t*(2*a+1)
 | 0,j,h,h0=>by omega
 | n+1,j,h,h0=>by
  by_cases c:j % 2=0
  ·obtain ⟨t,a,e⟩:=uK n (j / 2) (by omega) (by omega)
   refine ⟨t+1,a,?_⟩
   rw [Int.pow_succ,Int.mul_comm (2 ^ t) 2,Int.mul_assoc,<- e]
   omega
  ·exact ⟨0,j / 2,by simp; omega⟩
theorem wn (t:Nat):Builtin.Int.intBits (2 ^ t)=t+1:=by
 unfold Builtin.Int.intBits
 have h:(2:Int) ^ t≠0:=Int.ne_of_gt (ki t)
 have e:((2:Int) ^ t).natAbs=2 ^ t:=by
  have:((2 ^ t:Nat):Int)=(2:Int) ^ t:=by simp
  rw [<- this,Int.natAbs_natCast]
 rw [if_neg (by simpa using h),e,Nat.log2_two_pow]
noncomputable def wR (j most:Int):Int:=if j=0 then most else if (Builtin.Int.intBits (Builtin.bitAnd j (-j)):Int)-1<most then (Builtin.Int.intBits (Builtin.bitAnd j (-j)):Int)-1 else most
theorem sQ (j most:Int) (hm:0<=most):∃ t:Nat,wR j most=t/\(t:Int)<=most/\2 ^ t ∣ j/\((t:Int)<most->¬ j / 2 ^ t % 2=0):=by
 unfold wR
 by_cases h:j=0
 ·subst h
  refine ⟨most.toNat,by rw [if_pos rfl]; omega,by omega,Int.dvd_zero _,fun z=>by omega⟩
 ·obtain ⟨t,a,e⟩:=uK _ j (Nat.le_refl _) h
  have hb:Builtin.Int.intBits (Builtin.bitAnd j (-j))=t+1:=by rw [e,PySem.W.kbt_low,wn]
  rw [if_neg h,hb]
  have q:((t+1:Nat):Int)-1=t:=by omega
  rw [q]
  by_cases c:(t:Int)<most
  ·refine ⟨t,by rw [if_pos c],by omega,⟨_,e⟩,fun _=>?_⟩
   rw [e,Int.mul_ediv_cancel_left _ (Int.ne_of_gt (ki t))]
   omega
  ·refine ⟨most.toNat,by rw [if_neg c]; omega,by omega,?_,fun z=>by omega⟩
   refine Int.dvd_trans ?_ ⟨_,e⟩
   have:t=most.toNat+(t-most.toNat):=by omega
   rw [this,Int.pow_add]
   exact Int.dvd_mul_right _ _
theorem yF {a:Int} {m:Nat} (h:a.natAbs<2 ^ m):Builtin.Int.intBits a<=m:=by
 unfold Builtin.Int.intBits
 split
 ·exact Nat.zero_le _
 ·rename_i h0
  have h0:a≠0:=by simpa using h0
  have:a.natAbs.log2<m:=(Nat.log2_lt (by omega)).mpr h
  omega
structure Q4 where
 a:Int
 b:Int
 c:Int
 d:Int
namespace Q4
theorem ext' {x y:Q4} (h1:x.a=y.a) (h2:x.b=y.b) (h3:x.c=y.c) (h4:x.d=y.d):x=y:=by
 cases x; cases y; simp at h1 h2 h3 h4; subst h1 h2 h3 h4; rfl
noncomputable def add (x y:Q4):Q4:=⟨x.a+y.a,x.b+y.b,x.c+y.c,x.d+y.d⟩
noncomputable def neg (x:Q4):Q4:=⟨-x.a,-x.b,-x.c,-x.d⟩
noncomputable def mul (x y:Q4):Q4:=⟨x.a*y.a-x.b*y.d-x.c*y.c-x.d*y.b,x.a*y.b+x.b*y.a-x.c*y.d-x.d*y.c,x.a*y.c+x.b*y.b+x.c*y.a-x.d*y.d,x.a*y.d+x.b*y.c+x.c*y.b+x.d*y.a⟩
noncomputable def rt (x:Q4):Q4:=⟨x.b-x.d,x.a+x.c,x.b+x.d,x.c-x.a⟩
noncomputable def dbl (n:Int) (x:Q4):Q4:=⟨x.a*n,x.b*n,x.c*n,x.d*n⟩
noncomputable def tn (x:Q4):Q4:=⟨-x.d,x.a,x.b,x.c⟩
noncomputable def rtn:Nat->Q4->Q4
 | 0,x=>x
 | n+1,x=>rtn n (rt x)
theorem rtn_succ (n:Nat) (x:Q4):rtn (n+1) x=rt (rtn n x):=by
 induction n generalizing x with
 | zero=>rfl
 | succ n ih=>exact ih (rt x)
theorem rtn_add (m n:Nat) (x:Q4):rtn (m+n) x=rtn m (rtn n x):=by
 induction n generalizing x with
 | zero=>rfl
 | succ n ih=>exact ih (rt x)
theorem uV (x:Q4):rt (rt x)=dbl 2 x:=by
 apply ext' <;> simp [rt,dbl] <;> omega
theorem yA (m n:Int) (x:Q4):dbl m (dbl n x)=dbl (n*m) x:=by
 apply ext' <;> simp [dbl,Int.mul_assoc]
theorem rtn_two (t:Nat) (x:Q4):rtn (2*t) x=dbl (2 ^ t) x:=by
 induction t generalizing x with
 | zero=>apply ext' <;> simp [rtn,dbl]
 | succ t ih=>
  have e:2*(t+1)=2*t+1+1:=by omega
  rw [e]
  show rtn (2*t) (rt (rt x))=_
  rw [ih,uV,yA,Int.pow_succ,Int.mul_comm]
theorem rt_inj {x y:Q4} (h:rt x=rt y):x=y:=by
 have h1:=congrArg rt h
 rw [uV,uV] at h1
 have h2:=congrArg Q4.a h1
 have h3:=congrArg Q4.b h1
 have h4:=congrArg Q4.c h1
 have h5:=congrArg Q4.d h1
 simp only [dbl] at h2 h3 h4 h5
 apply ext' <;> omega
theorem rtn_inj {n:Nat} {x y:Q4} (h:rtn n x=rtn n y):x=y:=by
 induction n generalizing x y with
 | zero=>exact h
 | succ n ih=>exact rt_inj (ih h)
theorem rt_add (x y:Q4):rt (add x y)=add (rt x) (rt y):=by apply ext' <;> simp [rt,add] <;> omega
theorem rtn_addQ (n:Nat) (x y:Q4):rtn n (add x y)=add (rtn n x) (rtn n y):=by
 induction n generalizing x y with
 | zero=>rfl
 | succ n ih=>show rtn n (rt (add x y))=_; rw [rt_add,ih]; rfl
theorem rt_mul (x y:Q4):rt (mul x y)=mul (rt x) y:=by apply ext' <;> simp only [rt,mul] <;> grind
theorem rG (n:Nat) (x y:Q4):rtn n (mul x y)=mul (rtn n x) y:=by
 induction n generalizing x with
 | zero=>rfl
 | succ n ih=>show rtn n (rt (mul x y))=_; rw [rt_mul,ih]; rfl
theorem mul_comm (x y:Q4):mul x y=mul y x:=by apply ext' <;> simp only [mul] <;> grind
theorem mul_assoc (x y z:Q4):mul (mul x y) z=mul x (mul y z):=by apply ext' <;> simp only [mul] <;> grind
theorem mul_add (x y z:Q4):mul x (add y z)=add (mul x y) (mul x z):=by apply ext' <;> simp only [mul,add] <;> grind
theorem add_comm (x y:Q4):add x y=add y x:=by apply ext' <;> simp only [add] <;> omega
theorem add_assoc (x y z:Q4):add (add x y) z=add x (add y z):=by apply ext' <;> simp only [add] <;> omega
theorem rtn_mul2 (m n:Nat) (x y:Q4):rtn (m+n) (mul x y)=mul (rtn m x) (rtn n y):=by
 rw [rtn_add,mul_comm,rG,mul_comm,rG]
theorem tn_mul (x y:Q4):tn (mul x y)=mul x (tn y):=by apply ext' <;> simp only [mul,tn] <;> grind
theorem tn_rt (x:Q4):tn (rt x)=rt (tn x):=by apply ext' <;> simp only [rt,tn] <;> omega
noncomputable def Odd (x:Q4):Prop:=¬ ((x.a-x.c) % 2=0/\(x.b-x.d) % 2=0)
theorem xw (x:Q4):¬ Odd (rt x):=by
 unfold Odd rt
 simp only
 omega
noncomputable def Least (x:Q4) (k:Int):Prop:=0<=k/\(0<k->Odd x)
theorem Least.one {x y:Q4} {k l m:Nat} (hx:Least x k) (hy:Least y l) (h1:k<=m) (h2:l<=m) (h:rtn (m-k) x=rtn (m-l) y):x=y/\k=l:=by
 have key:∀ {x y:Q4} {k l:Nat},Least y l->k<=m->l<=m->k<l->rtn (m-k) x=rtn (m-l) y->False:=by
  intro x y k l hy h1 h2 hlt h
  have e:m-k=(m-l)+(l-k):=by omega
  rw [e,rtn_add] at h
  have h3:=rtn_inj h
  obtain ⟨n,hn⟩:∃ n,l-k=n+1:=⟨l-k-1,by omega⟩
  rw [hn,rtn_succ] at h3
  have:=hy.2 (by omega)
  rw [<- h3] at this
  exact xw _ this
 rcases Nat.lt_trichotomy k l with q | q | q
 ·exact (key hy h1 h2 q h).elim
 ·subst q; exact ⟨rtn_inj h,rfl⟩
 ·exact (key hx h2 h1 q h.symm).elim
end Q4
theorem sR (a b c d most:Int) (hm:0<=most):∃ t:Nat,wR (Builtin.bitOr (Builtin.bitOr (Builtin.bitOr a b) c) d) most=t/\(t:Int)<=most/\a=a / 2 ^ t*2 ^ t/\b=b / 2 ^ t*2 ^ t/\c=c / 2 ^ t*2 ^ t/\d=d / 2 ^ t*2 ^ t /\
  ((t:Int)<most->¬ (a / 2 ^ t % 2=0/\b / 2 ^ t % 2=0/\c / 2 ^ t % 2=0/\d / 2 ^ t % 2=0)):=by
 obtain ⟨t,e,h1,h2,h3⟩:=sQ (Builtin.bitOr (Builtin.bitOr (Builtin.bitOr a b) c) d) most hm
 have o1:=qD t (Builtin.bitOr (Builtin.bitOr a b) c) d
 have d1:=o1.1.mp h2
 have o2:=qD t (Builtin.bitOr a b) c
 have d2:=o2.1.mp d1.1
 have o3:=qD t a b
 have d3:=o3.1.mp d2.1
 refine ⟨t,e,h1,(Int.ediv_mul_cancel d3.1).symm,(Int.ediv_mul_cancel d3.2).symm,(Int.ediv_mul_cancel d2.2).symm,(Int.ediv_mul_cancel d1.2).symm,fun z w=>h3 z ?_⟩
 have ev:∀ x y:Int,x % 2=0->y % 2=0->Builtin.bitOr x y % 2=0:=fun x y hx hy=>by
  rw [mq,if_pos ⟨hx,hy⟩]; omega
 rw [o1.2 h2,o2.2 d1.1,o3.2 d2.1]
 exact ev _ _ (ev _ _ (ev _ _ w.1 w.2.1) w.2.2.1) w.2.2.2
noncomputable def rX (x:Q4) (k:Int):Q4×Int:=
 let t:=(wR (Builtin.bitOr (Builtin.bitOr (Builtin.bitOr x.a x.b) x.c) x.d) (k / 2)).toNat
 let y:Q4:=⟨x.a / 2 ^ t,x.b / 2 ^ t,x.c / 2 ^ t,x.d / 2 ^ t⟩
 if k-2*t=0\/(y.a-y.c) % 2=1\/(y.b-y.d) % 2=1 then (y,k-2*t) else (⟨(y.b-y.d) / 2,(y.a+y.c) / 2,(y.b+y.d) / 2,(y.c-y.a) / 2⟩,k-2*t-1)
theorem qQ {p q:Int} (h:(p-q) % 2=0):(p+q) / 2-(q-p) / 2=p/\(p+q) / 2+(q-p) / 2=q:=by omega
theorem qP {p q:Int} (h:(p-q) % 2=0):(p-q) / 2+(p+q) / 2=p/\(p+q) / 2-(p-q) / 2=q:=by omega
theorem AA {x y:Int} (h:(x-y) % 2=0) (k:y % 2=0):x % 2=0:=by omega
theorem xO {x y:Int} (h:(x-y) % 2=0) (k:x % 2=0):y % 2=0:=by omega
theorem vh {a b c d:Int} (g1:(a-c) % 2=0) (g2:(b-d) % 2=0) (h:¬ (a % 2=0/\b % 2=0/\c % 2=0/\d % 2=0)):Q4.Odd ⟨(b-d) / 2,(a+c) / 2,(b+d) / 2,(c-a) / 2⟩:=fun z=>by
 have z1:((b-d) / 2-(b+d) / 2) % 2=0:=z.1
 have z2:((a+c) / 2-(c-a) / 2) % 2=0:=z.2
 rw [(qQ g1).1] at z2
 have e:=(qP g2).2
 have z3:d % 2=0:=by omega
 exact h ⟨z2,AA g2 z3,xO g1 z2,z3⟩
theorem ph (x:Q4) (k:Int) (hk:0<=k):Q4.Least (rX x k).1 (rX x k).2/\(rX x k).2<=k/\Q4.rtn (k-(rX x k).2).toNat (rX x k).1=x:=by
 obtain ⟨t,e,h1,ha,hb,hc,hd,h3⟩:=sR x.a x.b x.c x.d (k / 2) (by omega)
 have l2:2*(t:Int)<=k:=by omega
 unfold rX
 simp only [e,Int.toNat_natCast]
 generalize x.a / 2 ^ t=a at *
 generalize x.b / 2 ^ t=b at *
 generalize x.c / 2 ^ t=c at *
 generalize x.d / 2 ^ t=d at *
 have e2:Q4.dbl (2 ^ t) ⟨a,b,c,d⟩=x:=Q4.ext' ha.symm hb.symm hc.symm hd.symm
 split
 ·rename_i h
  refine ⟨⟨Int.sub_nonneg_of_le l2,fun z=>?_⟩,Int.sub_le_self _ (by omega),?_⟩
  ·rcases h with h | h | h
   ·exact absurd h (Int.ne_of_gt z)
   ·exact fun w=>absurd (h.symm.trans w.1) (by decide)
   ·exact fun w=>absurd (h.symm.trans w.2) (by decide)
  ·have:(k-(k-2*(t:Int))).toNat=2*t:=by omega
   simp only [this]
   rw [Q4.rtn_two,e2]
 ·rename_i h
  have g0:k-2*(t:Int)≠0:=fun z=>h (.inl z)
  have g1:(a-c) % 2=0:=(Int.emod_two_eq (a-c)).resolve_right fun z=>h (.inr (.inl z))
  have g2:(b-d) % 2=0:=(Int.emod_two_eq (b-d)).resolve_right fun z=>h (.inr (.inr z))
  refine ⟨⟨(by omega:0<=k-2*(t:Int)-1),fun z=>vh g1 g2 (h3 ?_)⟩,(by omega:k-2*(t:Int)-1<=k),?_⟩
  ·have z:0<k-2*(t:Int)-1:=z
   omega
  ·have:(k-(k-2*(t:Int)-1)).toNat=2*t+1:=by omega
   simp only [this]
   show Q4.rtn (2*t) (Q4.rt _)=x
   rw [Q4.rtn_two]
   have e3:Q4.rt ⟨(b-d) / 2,(a+c) / 2,(b+d) / 2,(c-a) / 2⟩=⟨a,b,c,d⟩:=Q4.ext' (qQ g1).1 (qP g2).1 (qQ g1).2 (qP g2).2
   rw [e3,e2]
noncomputable def Q4.Le (M:Nat) (x:Q4):Prop:=x.a.natAbs<=M/\x.b.natAbs<=M/\x.c.natAbs<=M/\x.d.natAbs<=M
theorem Q4.Le.mono {x:Q4} {M N:Nat} (h:Q4.Le M x) (hl:M<=N):Q4.Le N x:=⟨Nat.le_trans h.1 hl,Nat.le_trans h.2.1 hl,Nat.le_trans h.2.2.1 hl,Nat.le_trans h.2.2.2 hl⟩
noncomputable def rL (x:Q4) (c:Int) (y:Q4) (d:Int):Q4×Int:=rX (Q4.add (Q4.rtn (max c d-c).toNat x) (Q4.rtn (max c d-d).toNat y)) (max c d)
noncomputable def jt:Nat->Q4->Q4
 | 0,x=>x
 | n+1,x=>Q4.tn (jt n x)
noncomputable def Is (x:Q4) (c:Nat) (u:Q4) (k:Nat):Prop:=Q4.Least x c/\Q4.rtn k x=Q4.rtn c u
theorem b9 (m n:Nat) (x:Q4):Q4.rtn m (Q4.rtn n x)=Q4.rtn n (Q4.rtn m x):=by rw [<- Q4.rtn_add,<- Q4.rtn_add,Nat.add_comm]
theorem Is.self {x:Q4} {c:Nat} (h:Q4.Least x c):Is x c x c:=⟨h,rfl⟩
theorem Is.one {x y u v:Q4} {c d k l:Nat} (hx:Is x c u k) (hy:Is y d v l) (h:Q4.rtn l u=Q4.rtn k v):x=y/\c=d:=by
 have e:Q4.rtn d x=Q4.rtn c y:=by
  refine Q4.rtn_inj (n:=k+l) ?_
  rw [Q4.rtn_add,Q4.rtn_add,b9 l d x,b9 k d,b9 k l,hx.2,b9 l c u,h,b9 l c y,hy.2,b9 k c,b9 k d v,b9 d c]
 exact Q4.Least.one (m:=c+d) hx.1 hy.1 (by omega) (by omega) (by rw [show c+d-c=d by omega,show c+d-d=c by omega]; exact e)
theorem Is.trans {x u v:Q4} {c k l:Nat} (h:Is x c u k) (e:Q4.rtn l u=Q4.rtn k v):Is x c v l:=by
 refine ⟨h.1,Q4.rtn_inj (n:=k) ?_⟩
 rw [b9,h.2,b9,e,b9]
theorem zI (n:Nat) (x:Q4):Q4.tn (Q4.rtn n x)=Q4.rtn n (Q4.tn x):=by
 induction n generalizing x with
 | zero=>rfl
 | succ n ih=>show Q4.tn (Q4.rtn n (Q4.rt x))=Q4.rtn n (Q4.rt (Q4.tn x)); rw [ih,Q4.tn_rt]
theorem wT (m n:Nat) (x:Q4):jt m (Q4.rtn n x)=Q4.rtn n (jt m x):=by
 induction m with
 | zero=>rfl
 | succ m ih=>show Q4.tn (jt m (Q4.rtn n x))=_; rw [ih,zI]; rfl
theorem rn (m n:Nat) (x:Q4):jt (m+n) x=jt m (jt n x):=by
 induction m with
 | zero=>rw [Nat.zero_add]; rfl
 | succ m ih=>rw [Nat.succ_add]; show Q4.tn (jt (m+n) x)=_; rw [ih]; rfl
theorem rm (n:Nat) (x y:Q4):jt n (Q4.mul x y)=Q4.mul x (jt n y):=by
 induction n with
 | zero=>rfl
 | succ n ih=>show Q4.tn (jt n (Q4.mul x y))=_; rw [ih,Q4.tn_mul]; rfl
structure S2 where
 p:Int
 q:Int
namespace S2
theorem ext' {x y:S2} (h1:x.p=y.p) (h2:x.q=y.q):x=y:=by
 cases x; cases y; simp at h1 h2; subst h1 h2; rfl
noncomputable def add (x y:S2):S2:=⟨x.p+y.p,x.q+y.q⟩
noncomputable def mul (x y:S2):S2:=⟨x.p*y.p+2*x.q*y.q,x.p*y.q+x.q*y.p⟩
noncomputable def sc (n:Nat) (x:S2):S2:=⟨x.p*2 ^ n,x.q*2 ^ n⟩
theorem j6 (m n:Nat) (x:S2):sc (m+n) x=sc m (sc n x):=by
 apply ext' <;> simp only [sc,Int.pow_add] <;> rw [Int.mul_assoc,Int.mul_comm (2 ^ n)]
theorem cL (m n:Nat) (x:S2):sc m (sc n x)=sc n (sc m x):=by rw [<- j6,<- j6,Nat.add_comm]
theorem ni {n:Nat} {x y:S2} (h:sc n x=sc n y):x=y:=by
 have pw:=ki n
 have h1:=congrArg S2.p h
 have h2:=congrArg S2.q h
 simp only [sc] at h1 h2
 exact ext' (Int.eq_of_mul_eq_mul_right (by omega) h1) (Int.eq_of_mul_eq_mul_right (by omega) h2)
noncomputable def Odd (x:S2):Prop:=¬ (x.p % 2=0/\x.q % 2=0)
theorem xv (n:Nat) (x:S2):¬ Odd (sc (n+1) x):=by
 unfold Odd sc
 rw [Int.pow_succ,<- Int.mul_assoc,<- Int.mul_assoc]
 simp only
 omega
noncomputable def Least (x:S2) (c:Nat):Prop:=0<c->Odd x
theorem Least.one {x y:S2} {k l m:Nat} (hx:Least x k) (hy:Least y l) (h1:k<=m) (h2:l<=m) (h:sc (m-k) x=sc (m-l) y):x=y/\k=l:=by
 have key:∀ {x y:S2} {k l:Nat},Least y l->k<=m->l<=m->k<l->sc (m-k) x=sc (m-l) y->False:=by
  intro x y k l hy h1 h2 hlt h
  have e:m-k=(m-l)+(l-k):=by omega
  rw [e,j6] at h
  have h3:=ni h
  obtain ⟨n,hn⟩:∃ n,l-k=n+1:=⟨l-k-1,by omega⟩
  rw [hn] at h3
  have:=hy (by omega)
  rw [<- h3] at this
  exact xv _ _ this
 rcases Nat.lt_trichotomy k l with q | q | q
 ·exact (key hy h1 h2 q h).elim
 ·subst q; exact ⟨ni h,rfl⟩
 ·exact (key hx h2 h1 q h.symm).elim
noncomputable def Le (M:Nat) (x:S2):Prop:=x.p.natAbs<=M/\x.q.natAbs<=M
theorem Le.mono {x:S2} {M N:Nat} (h:Le M x) (hl:M<=N):Le N x:=⟨Nat.le_trans h.1 hl,Nat.le_trans h.2 hl⟩
noncomputable def Is (x:S2) (c:Nat) (u:S2) (k:Nat):Prop:=Least x c/\sc k x=sc c u
theorem Is.one {x y u v:S2} {c d k l:Nat} (hx:Is x c u k) (hy:Is y d v l) (h:sc l u=sc k v):x=y/\c=d:=by
 have e:sc d x=sc c y:=by
  refine ni (n:=k+l) ?_
  rw [j6,j6,cL l d x,cL k d,cL k l,hx.2,cL l c u,h,cL l c y,hy.2,cL k c,cL k d v,cL d c]
 exact Least.one (m:=c+d) hx.1 hy.1 (by omega) (by omega) (by rw [show c+d-c=d by omega,show c+d-d=c by omega]; exact e)
theorem Is.trans {x u v:S2} {c k l:Nat} (h:Is x c u k) (e:sc l u=sc k v):Is x c v l:=by
 refine ⟨h.1,ni (n:=k) ?_⟩
 rw [cL,h.2,cL,e,cL]
end S2
noncomputable abbrev Nu:=Q4×Nat
inductive Row where
 | swing (j:Nat) | turn (j:Nat) (e:Nat) | flip (j:Nat) | tie (i j:Nat) | sign (i j:Nat) | cross (i j:Nat)
noncomputable def ig (u v:Nu):Nu:=((rL u.1 u.2 v.1 v.2).1,(rL u.1 u.2 v.1 v.2).2.toNat)
noncomputable def mJ (u:Nu):Nu:=((rX u.1 ((u.2+1:Nat):Int)).1,(rX u.1 ((u.2+1:Nat):Int)).2.toNat)
noncomputable def g6 (e:Nat) (u:Nu):Nu:=(jt (e % 8) u.1,u.2)
noncomputable def wt (n j:Nat):Nat:=2 ^ (n-1-j)
noncomputable def bit (w p:Nat):Nat:=p / w % 2
noncomputable def Ez (w p:Nat):Nat:=if bit w p=0 then p+w else p-w
noncomputable def DI (n:Nat):Row->Nat->Nat
 | .flip j,p=>Ez (wt n j) p
 | .tie i j,p=>if bit (wt n i) p=0 then p else Ez (wt n j) p
 | .cross i j,p=>if bit (wt n i) p=bit (wt n j) p then p else Ez (wt n j) (Ez (wt n i) p)
 | _,p=>p
noncomputable def nX (n:Nat) (f:Nat->Nu):Row->Nat->Nu
 | .swing j,p=>if bit (wt n j) p=0 then mJ (ig (f p) (f (p+wt n j))) else mJ (ig (f (p-wt n j)) (g6 4 (f p)))
 | .turn j e,p=>g6 (e*bit (wt n j) p) (f p)
 | .sign i j,p=>g6 (4*bit (wt n i) p*bit (wt n j) p) (f p)
 | r,p=>f (DI n r p)
noncomputable def Row.ok (n:Nat):Row->Prop
 | .swing j=>j<n
 | .turn j e=>j<n/\1<=e/\e<=7
 | .flip j=>j<n
 | .tie i j=>i<n/\j<n/\i≠j
 | .sign i j=>i<n/\j<n/\i≠j
 | .cross i j=>i<n/\j<n/\i≠j
theorem DZ (a b:Nat):Builtin.bitAnd (a:Int) (b:Int)=((a &&& b:Nat):Int):=by
 unfold Builtin.bitAnd
 simp
theorem sS {x y z:Nat} (h:x / 2=y / 2+z / 2) (m:x % 2=y % 2+z % 2):x=y+z:=by omega
theorem tM {u v w:Nat} {p q:Prop} (hu:u<2) (hv:v<2) (hw:w<2) (m1:u=1↔p\/q) (m2:v=1 ↔ ¬ (p↔q)) (m3:w=1↔p/\q):u=v+w:=by
 have z:∀ {x:Nat},x<2->¬ x=1->x=0:=fun h k=>by omega
 by_cases a:p <;> by_cases b:q
 ·rw [m1.mpr (.inl a),m3.mpr ⟨a,b⟩,z hv fun e=>m2.mp e ⟨fun _=>b,fun _=>a⟩]
 ·rw [m1.mpr (.inl a),m2.mpr fun e=>b (e.mp a),z hw fun e=>b (m3.mp e).2]
 ·rw [m1.mpr (.inr b),m2.mpr fun e=>a (e.mpr b),z hw fun e=>a (m3.mp e).1]
 ·rw [z hu fun e=>(m1.mp e).elim a b,z hv fun e=>m2.mp e ⟨fun c=>absurd c a,fun c=>absurd c b⟩,z hw fun e=>a (m3.mp e).1]
theorem lj:∀ (k a b:Nat),a<2 ^ k->b<2 ^ k->(a ||| b)=(a ^^^ b)+(a &&& b)
 | 0,a,b,ha,hb=>by
  have:a=0:=by simpa using ha
  have:b=0:=by simpa using hb
  subst a; subst b; rfl
 | k+1,a,b,ha,hb=>by
  have ih:=lj k (a / 2) (b / 2) (by rw [Nat.pow_succ] at ha; omega) (by rw [Nat.pow_succ] at hb; omega)
  have h1:=@Nat.or_div_two a b
  have h2:=@Nat.xor_div_two a b
  have h3:=@Nat.and_div_two a b
  have m1:=@Nat.or_mod_two_eq_one a b
  have m2:=@Nat.xor_mod_two_eq_one a b
  have m3:=@Nat.and_mod_two_eq_one a b
  rw [<- h1,<- h2,<- h3] at ih
  exact sS ih (tM (Nat.mod_lt _ (by decide)) (Nat.mod_lt _ (by decide)) (Nat.mod_lt _ (by decide)) m1 m2 m3)
theorem He (a b:Nat):Builtin.bitOr (a:Int) (b:Int)=((a ||| b:Nat):Int):=by
 have h1:¬ (0:Int)<=Builtin.bitNot (a:Int):=by unfold Builtin.bitNot; omega
 have h2:¬ (0:Int)<=Builtin.bitNot (b:Int):=by unfold Builtin.bitNot; omega
 have e1:(Builtin.bitNot (Builtin.bitNot (a:Int))).toNat=a:=by unfold Builtin.bitNot; omega
 have e2:(Builtin.bitNot (Builtin.bitNot (b:Int))).toNat=b:=by unfold Builtin.bitNot; omega
 unfold Builtin.bitOr Builtin.bitAnd
 rw [decide_eq_false h1,decide_eq_false h2]
 dsimp only
 rw [e1,e2]
 unfold Builtin.bitNot
 omega
theorem qV (a b:Nat):Builtin.bitXor (a:Int) (b:Int)=((a ^^^ b:Nat):Int):=by
 unfold Builtin.bitXor
 rw [He,DZ]
 have h:∀ n:Nat,n<2 ^ n:=fun n=>Nat.lt_two_pow_self
 have:=lj (max a b) a b (Nat.lt_of_lt_of_le (h a) (Nat.pow_le_pow_right (by decide) (by omega))) (Nat.lt_of_lt_of_le (h b) (Nat.pow_le_pow_right (by decide) (by omega)))
 omega
noncomputable def GI (n:Nat):Nat:=if n=0 then 0 else n % 2+GI (n / 2)
termination_by n
decreasing_by omega
noncomputable def par (n:Nat):Nat:=GI n % 2
structure Wd where
 x:Nat
 z:Nat
 s:Nat
noncomputable def Wd.ok (n:Nat) (w:Wd):Prop:=w.x<2 ^ n/\w.z<2 ^ n/\w.s<4
noncomputable def Sh (k:Nat) (d:PyData):Prop:=d.canLay0=true/\d.depth<=k
theorem Sh.int (k:Nat) (i:Int):Sh k (.int i):=⟨by simp [PyData.canLay0],by simp [PyData.depth]⟩
theorem Sh.all {k:Nat}:∀ (xs:List PyData),(∀ x∈xs,Sh k x)->PyData.canLayAll0 xs=true/\PyData.depthAll xs<=k
 | [],_=>⟨by simp [PyData.canLayAll0],by simp [PyData.depthAll]⟩
 | x::xs,h=>by
  obtain ⟨a,b⟩:=Sh.all xs fun y hy=>h y (List.mem_cons_of_mem _ hy)
  obtain ⟨c,d⟩:=h x List.mem_cons_self
  refine ⟨by simp [PyData.canLayAll0,a,c],?_⟩
  simp only [PyData.depthAll]
  omega
theorem Sh.tuple {k:Nat} {xs:List PyData} (h:∀ x∈xs,Sh k x):Sh (k+1) (.tuple xs):=by
 obtain ⟨a,b⟩:=Sh.all xs h
 exact ⟨by simp [PyData.canLay0,a],by simp only [PyData.depth]; omega⟩
theorem Sh.list {k:Nat} {xs:List PyData} (h:∀ x∈xs,Sh k x):Sh (k+1) (.list xs):=by
 obtain ⟨a,b⟩:=Sh.all xs h
 exact ⟨by simp [PyData.canLay0,a],by simp only [PyData.depth]; omega⟩
mutual
theorem pV:∀ d:PyData,d.canLay0=true->PyData.eqv d d=true
 | .none,_=>by simp [PyData.eqv]
 | .bool _,_=>by simp [PyData.eqv]
 | .int _,_=>by simp [PyData.eqv]
 | .str _,_=>by simp [PyData.eqv]
 | .list xs,h=>by
  simp only [PyData.eqv]
  exact eqvAll_self xs (by simpa [PyData.canLay0] using h)
 | .tuple xs,h=>by
  simp only [PyData.eqv]
  exact eqvAll_self xs (by simpa [PyData.canLay0] using h)
 | .dict _,h=>by simp [PyData.canLay0] at h
theorem eqvAll_self:∀ xs:List PyData,PyData.canLayAll0 xs=true->PyData.eqvAll xs xs=true
 | [],_=>by simp [PyData.eqvAll]
 | x::xs,h=>by
  have h':x.canLay0=true/\PyData.canLayAll0 xs=true:=by simpa [PyData.canLayAll0] using h
  simp only [PyData.eqvAll,pV x h'.1,eqvAll_self xs h'.2,Bool.and_self]
end
noncomputable def val (M:Nat) (u:Nu):Q4:=Q4.rtn (M-u.2) u.1
theorem rW (x:Q4) (k M:Nat) (h:k<=M):Q4.rtn (M-(rX x k).2.toNat) (rX x k).1=Q4.rtn (M-k) x:=by
 obtain ⟨s1,s2,s3⟩:=ph x k (by omega)
 have h0:=s1.1
 have e:M-(rX x (k:Int)).2.toNat=(M-k)+((k:Int)-(rX x (k:Int)).2).toNat:=by omega
 rw [e,Q4.rtn_add,s3]
theorem jU (M e:Nat) (u:Nu):val M (g6 e u)=jt (e % 8) (val M u):=by
 unfold val g6
 rw [wT]
theorem oD {M:Nat} {u v:Nu} (hu:u.2<=M) (hv:v.2<=M):val M (ig u v)=Q4.add (val M u) (val M v):=by
 unfold val ig rL
 have hk:max (u.2:Int) v.2=((max u.2 v.2:Nat):Int):=by omega
 rw [hk]
 simp only
 rw [rW _ _ M (by omega),Q4.rtn_addQ,<- Q4.rtn_add,<- Q4.rtn_add]
 congr 2 <;> congr 1 <;> omega
theorem oE {M:Nat} {u:Nu} (hu:u.2+1<=M):Q4.rt (val M (mJ u))=val M u:=by
 unfold val mJ
 rw [rW _ _ M hu,<- Q4.rtn_succ]
 congr 1
 omega
noncomputable def gG:Nat->(Nat->Int)->Int
 | 0,_=>0
 | n+1,F=>gG n F+F n
theorem dM {F G:Nat->Int}:∀ (n:Nat),(∀ p,p<n->F p=G p)->gG n F=gG n G
 | 0,_=>rfl
 | n+1,h=>by
  show gG n F+F n=gG n G+G n
  rw [dM n fun p hp=>h p (by omega),h n (by omega)]
theorem fL (F G:Nat->Int):∀ n:Nat,gG n (fun p=>F p+G p)=gG n F+gG n G
 | 0=>rfl
 | n+1=>by
  show gG n _+(F n+G n)=gG n F+F n+(gG n G+G n)
  rw [fL F G n]; omega
theorem ml (u v:Nu):(ig u v).2<=max u.2 v.2:=by
 have hk:max (u.2:Int) v.2=((max u.2 v.2:Nat):Int):=by omega
 unfold ig rL
 rw [hk]
 obtain ⟨s1,s2,s3⟩:=ph (Q4.add (Q4.rtn (((max u.2 v.2:Nat):Int)-u.2).toNat u.1) (Q4.rtn (((max u.2 v.2:Nat):Int)-v.2).toNat v.1)) ((max u.2 v.2:Nat):Int) (by omega)
 show (rX _ _).2.toNat<=_
 omega
noncomputable def g9 (N:Nat) (F:Nat->Q4):Q4:=⟨gG N (fun p=>(F p).a),gG N (fun p=>(F p).b),gG N (fun p=>(F p).c),gG N (fun p=>(F p).d)⟩
theorem iO (N:Nat) (F:Nat->Q4):g9 (N+1) F=Q4.add (g9 N F) (F N):=rfl
theorem gF {F G:Nat->Q4} (N:Nat) (h:∀ p,p<N->F p=G p):g9 N F=g9 N G:=by
 apply Q4.ext'
 ·exact dM N fun p hp=>by rw [h p hp]
 ·exact dM N fun p hp=>by rw [h p hp]
 ·exact dM N fun p hp=>by rw [h p hp]
 ·exact dM N fun p hp=>by rw [h p hp]
theorem oX:∀ k,Q4.rtn k ⟨0,0,0,0⟩=⟨0,0,0,0⟩
 | 0=>rfl
 | k+1=>by rw [Q4.rtn_succ,oX k]; rfl
theorem rp (F:Nat->Q4):∀ N:Nat,Q4.rt (g9 N F)=g9 N (fun p=>Q4.rt (F p))
 | 0=>by apply Q4.ext' <;> rfl
 | N+1=>by rw [iO,Q4.rt_add,rp F N]; rfl
theorem zJ (x y:Q4):Q4.tn (Q4.add x y)=Q4.add (Q4.tn x) (Q4.tn y):=by apply Q4.ext' <;> simp only [Q4.tn,Q4.add] <;> omega
theorem uz (e:Nat):∀ (x y:Q4),jt e (Q4.add x y)=Q4.add (jt e x) (jt e y):=by
 induction e with
 | zero=>intro x y; rfl
 | succ e ih=>
  intro x y
  have e1:∀ z,jt (e+1) z=jt e (Q4.tn z):=fun z=>by rw [rn e 1 z]; rfl
  rw [e1,e1,e1,zJ,ih]
theorem uy (e:Nat):jt e ⟨0,0,0,0⟩=⟨0,0,0,0⟩:=by
 induction e with
 | zero=>rfl
 | succ e ih=>
  have e1:∀ z,jt (e+1) z=jt e (Q4.tn z):=fun z=>by rw [rn e 1 z]; rfl
  rw [e1]
  exact ih
theorem jW (e:Nat) (F:Nat->Q4):∀ N:Nat,jt e (g9 N F)=g9 N (fun p=>jt e (F p))
 | 0=>uy e
 | N+1=>by rw [iO,uz,jW e F N]; rfl
theorem oN (F G:Nat->Q4) (N:Nat):g9 N (fun p=>Q4.add (F p) (G p))=Q4.add (g9 N F) (g9 N G):=by
 apply Q4.ext'
 ·exact fL (fun p=>(F p).a) (fun p=>(G p).a) N
 ·exact fL (fun p=>(F p).b) (fun p=>(G p).b) N
 ·exact fL (fun p=>(F p).c) (fun p=>(G p).c) N
 ·exact fL (fun p=>(F p).d) (fun p=>(G p).d) N
theorem lV {n M j:Nat} {f:Nat->Nu} (hf:∀ p,(f p).2+1<=M) (x:Nat):Q4.rt (val M (nX n f (.swing j) x))=if bit (wt n j) x=0 then Q4.add (val M (f x)) (val M (f (x+wt n j))) else Q4.add (val M (f (x-wt n j))) (jt 4 (val M (f x))):=by
 show Q4.rt (val M (if bit (wt n j) x=0 then mJ (ig (f x) (f (x+wt n j))) else mJ (ig (f (x-wt n j)) (g6 4 (f x)))))=_
 split
 ·have a:=hf x
  have b:=hf (x+wt n j)
  have l:=ml (f x) (f (x+wt n j))
  rw [oE (by omega),oD (by omega) (by omega)]
 ·have a:=hf x
  have b:=hf (x-wt n j)
  have l:(ig (f (x-wt n j)) (g6 4 (f x))).2<=max (f (x-wt n j)).2 (f x).2:=ml _ _
  rw [oE (by omega),oD (by omega) (by show (f x).2<=M; omega),jU]
noncomputable def Sup (N M K:Nat) (a:Nat->Q4) (c:Nat->Nat->Nu) (g:Nat->Nu):Prop:=∀ x,val N (g x)=g9 K (fun p=>Q4.mul (a p) (val M (c p x)))
theorem Sup.done {n N M K:Nat} {a:Nat->Q4} {c:Nat->Nat->Nu} {g:Nat->Nu} (h:Sup N M K a c g) (hg:∀ p,(g p).2+1<=N) (hc:∀ p x,(c p x).2+1<=M) (r:Row):Sup N M K a (fun p=>nX n (c p) r) (nX n g r):=by
 have tm:∀ (e:Nat) (x:Nat),val N (g6 e (g x))=g9 K (fun p=>Q4.mul (a p) (val M (g6 e (c p x)))):=fun e x=>by
  rw [jU,h x,jW]
  refine gF _ fun p _=>?_
  rw [rm,jU]
 intro x
 cases r with
 | swing j=>
  apply Q4.rt_inj
  rw [lV hg x,rp]
  have e:∀ p,Q4.rt (Q4.mul (a p) (val M (nX n (c p) (.swing j) x)))=Q4.mul (a p) (if bit (wt n j) x=0 then Q4.add (val M (c p x)) (val M (c p (x+wt n j))) else Q4.add (val M (c p (x-wt n j))) (jt 4 (val M (c p x)))):=fun p=>by
   rw [<- lV (hc p) x,Q4.mul_comm,Q4.rt_mul,Q4.mul_comm]
  simp only [e]
  split
  ·rw [h x,h (x+wt n j),<- oN]
   exact gF _ fun p _=>by rw [Q4.mul_add]
  ·rw [h x,h (x-wt n j),jW,<- oN]
   exact gF _ fun p _=>by rw [Q4.mul_add,rm]
 | turn j e=>exact tm _ x
 | sign i j=>exact tm _ x
 | flip j=>exact h _
 | tie i j=>exact h _
 | cross i j=>exact h _
noncomputable def rT (p:Nat):Nat->Nu:=fun q=>if q=p then (⟨1,0,0,0⟩,0) else (⟨0,0,0,0⟩,0)
theorem oM {F:Nat->Q4} {x:Nat} (hF:∀ p,p≠x->F p=⟨0,0,0,0⟩):∀ N:Nat,g9 N F=if x<N then F x else ⟨0,0,0,0⟩
 | 0=>by rw [if_neg (by omega)]; apply Q4.ext' <;> rfl
 | N+1=>by
  rw [iO,oM hF N]
  by_cases h:x<N
  ·rw [if_pos h,if_pos (by omega),hF N (by omega)]
   apply Q4.ext' <;> simp [Q4.add]
  ·by_cases h2:x=N
   ·subst h2
    rw [if_neg h,if_pos (by omega)]
    apply Q4.ext' <;> simp [Q4.add]
   ·rw [if_neg h,if_neg (by omega),hF N (Ne.symm h2)]
    apply Q4.ext' <;> simp [Q4.add]
theorem tK (x:Q4):Q4.mul x ⟨0,0,0,0⟩=⟨0,0,0,0⟩:=by apply Q4.ext' <;> simp [Q4.mul]
theorem vo (x:Q4):Q4.mul x ⟨1,0,0,0⟩=x:=by apply Q4.ext' <;> simp [Q4.mul]
theorem oB (M:Nat):val M (⟨0,0,0,0⟩,0)=⟨0,0,0,0⟩:=oX _
theorem Sup.start {n M:Nat} (s:Nat->Nu) (hs:∀ p,(s p).2<=M) (hz:∀ p,2 ^ n<=p->s p=(⟨0,0,0,0⟩,0)):Sup (M+M) M (2 ^ n) (fun p=>val M (s p)) rT s:=by
 intro x
 have hF:∀ p,p≠x->Q4.mul (val M (s p)) (val M (rT p x))=⟨0,0,0,0⟩:=fun p hp=>by
  unfold rT
  rw [if_neg (Ne.symm hp),oB,tK]
 rw [oM hF]
 by_cases h:x<2 ^ n
 ·rw [if_pos h]
  unfold rT
  rw [if_pos rfl]
  unfold val
  have:=hs x
  show Q4.rtn (M+M-(s x).2) (s x).1=Q4.mul (Q4.rtn (M-(s x).2) (s x).1) (Q4.rtn (M-0) ⟨1,0,0,0⟩)
  rw [<- Q4.rtn_mul2,vo]
  congr 1
  omega
 ·rw [if_neg h,hz x (by omega),oB]
end MA
namespace GN
open PySem L2 VL
noncomputable def jM (i:Nat):Stmt:=PySem.Challenge.pw_wavewires_k34_a_bit_summed_away.main.body.getD i (.Pass ⟨0,0,0,0⟩)
noncomputable def gd:List (Str×Bool):=[("NoStep",true)]
noncomputable def db:List (Str×Bool):=[("NoStep",true)]
noncomputable def d9:List (Str×Bool):=[("NoStep",false)]
noncomputable def dF:List Str:=["NoStep"]
noncomputable abbrev df:Stmt:=jM 5
noncomputable abbrev fZ:List Str:=["turn","turns","pairs","by_set","pair","bitset","e"]
noncomputable def eX:Dv->Option D:=bN (oI (ik 3) ba) [] mS (ob (o2 (o2 (oV 0) (oC (.int 1)) aK) (oC (.int 0)) neD)) (oV 0)
noncomputable def bO:Sf:=az (aU 5 (o2 (oV 4) (oC (.int 0)) aK)) (az (aU 6 (o2 (oV 4) (oC (.int 1)) aK)) (az (dZ (ob (o2 (o2 (oV 5) (oC (.int 1)) Bu) (oC (.int 1)) gn)) (az (aU 0 (o2 (oV 0) (oV 6) aR)) (az (aU 5 (o2 (oV 5) (oC (.int 1)) mX)) (aU 6 (o1 (oV 6) negD)))) (iR)) (dZ (ob (o2 (oV 5) (oC (.int 0)) neD)) (br 3 (oV 5) (o2 (o2 (gL 3 (oV 5) (oC (.int 0))) (oV 6) aR) (oC (.int 8)) aV)) (iR))))
noncomputable def fW:Sf:=az (qz 3 (oV 1)) (az (fP (oI (oV 2) ba) (gN 4) (bO)) (b0 (os (ag (o2 (oV 0) (oC (.int 8)) aV) (ag (os (ag (eX) (ax)) bM) (ax))) cg)))
noncomputable def bd:List D->Option D:=aW fZ 3 fW
noncomputable abbrev bV:Stmt:=jM 6
noncomputable abbrev dy:List Str:=["ties"]
noncomputable def cj:Dv->Option D:=bN (oI (o1 (oV 0) hU) ba) [] mS (ob (o2 (oV 0) (oC (.int 0)) neD)) (oV 0)
noncomputable def dt:Sf:=b0 (os (ag (cj) (ax)) bM)
noncomputable def aH:List D->Option D:=aW dy 1 dt
noncomputable abbrev rE:Stmt:=jM 8
noncomputable abbrev zz:List Str:=["bitset","bit"]
noncomputable def wu:Sf:=b0 (o2 (o2 (o2 (oV 0) (oV 1) j3) (oC (.int 1)) Bu) (oC (.int 1)) gn)
noncomputable def dz:List D->Option D:=aW zz 2 wu
noncomputable abbrev cE:Stmt:=jM 9
noncomputable abbrev eu:List Str:=["one","bit"]
noncomputable def eW:Dv->Option D:=ku (oI (o2 (oV 0) (oC (.int 4)) aK) ba) [(1,"bit")] mS (os (ag (oV 0) (ag (oV 1) (ax))) dz)
noncomputable def eU:Dv->Option D:=bN (oI (o2 (oV 0) (oC (.int 3)) aK) ba) [(1,"bit")] mS (ob (os (ag (o2 (oV 0) (oC (.int 0)) aK) (ag (oV 1) (ax))) dz)) (o2 (o2 (o2 (oV 0) (oC (.int 1)) aK) (oC (.int 2)) aV) (oC (.int 0)) gn)
noncomputable def en:Sf:=az (dZ (ob (os (ag (eW) (ax)) yI)) (b0 (oC (.bool false))) (iR)) (b0 (os (ag (eU) (ax)) yK))
noncomputable def cf:List D->Option D:=aW eu 2 en
noncomputable abbrev nk:Stmt:=jM 10
noncomputable abbrev wE:List Str:=["one","step"]
noncomputable def qZ:Sf:=az (dZ (ob (o2 (o2 (oV 1) (oC (.int 0)) aK) (oC (.str "away")) gn)) (b0 (kw (o2 (o2 (oV 1) (oC (.int 1)) aK) (o2 (oV 0) (oC (.int 5)) aK) (zm false)) (os (ag (oV 0) (ag (o2 (oV 1) (oC (.int 1)) aK) (ax))) cf))) (iR)) (b0 (kw (o2 (o2 (oV 1) (oC (.int 1)) aK) (o2 (oV 0) (oC (.int 4)) aK) (zm false)) (kw (o2 (o2 (oV 1) (oC (.int 2)) aK) (o2 (oV 0) (oC (.int 5)) aK) (zm false)) (os (ag (o2 (oV 1) (oC (.int 1)) aK) (ag (o2 (oV 1) (oC (.int 2)) aK) (ax))) dz))))
noncomputable def eB:List D->Option D:=aW wE 2 qZ
noncomputable abbrev cV:Stmt:=jM 11
noncomputable abbrev eO:List Str:=["one","bit","change","within","others","both"]
noncomputable def eV:Dv->Option D:=bN (oI (o2 (oV 0) (oC (.int 3)) aK) ba) [(1,"bit"),(2,"change")] mS (ob (os (ag (o2 (oV 0) (oC (.int 0)) aK) (ag (oV 1) (ax))) dz)) (os (ag (o2 (o2 (oV 0) (oC (.int 0)) aK) (oV 2) mX) (ag (o2 (oV 0) (oC (.int 1)) aK) (ax))) cg)
noncomputable def eT:Dv->Option D:=bN (oI (o2 (oV 0) (oC (.int 3)) aK) ba) [(1,"bit")] mS (gK (ob (os (ag (o2 (oV 0) (oC (.int 0)) aK) (ag (oV 1) (ax))) dz))) (oV 0)
noncomputable def eS:Dv->Option D:=bN (oI (o2 (oV 0) (oC (.int 5)) aK) ba) [(1,"bit")] mS (ob (o2 (oV 0) (oV 1) neD)) (oV 0)
noncomputable def ji:Sf:=az (aU 3 (eV)) (az (aU 4 (eT)) (az (aU 5 (os (ag (o2 (oV 0) (oC (.int 2)) aK) (ag (oV 4) (ag (oV 3) (ax)))) bd)) (b0 (os (ag (o2 (oV 0) (oC (.int 0)) aK) (ag (o2 (oV 0) (oC (.int 1)) aK) (ag (o2 (oV 5) (oC (.int 0)) aK) (ag (o2 (oV 5) (oC (.int 1)) aK) (ag (o2 (oV 0) (oC (.int 4)) aK) (ag (os (ag (eS) (ax)) bM) (ax))))))) cg))))
noncomputable def bK:List D->Option D:=aW eO 3 ji
noncomputable abbrev eP:Stmt:=jM 12
noncomputable abbrev lm:List Str:=["pairs","told","pair"]
noncomputable def cG:Sf:=dZ (ob (o2 (o2 (oV 2) (oC (.int 1)) aK) (os (ag (oC (.int 2)) (ag (oC (.int 6)) (ax))) cg) (zm false))) (aU 1 (o2 (oV 1) (o2 (oV 2) (oC (.int 0)) aK) mX)) (iR)
noncomputable def gX:Sf:=az (aU 1 (oC (.int 0))) (az (fP (oI (oV 0) ba) (gN 2) (cG)) (b0 (oV 1)))
noncomputable def bQ:List D->Option D:=aW lm 1 gX
noncomputable abbrev cD:Stmt:=jM 13
noncomputable abbrev er:List Str:=["one","bit","within","total","rest","left","tie","both"]
noncomputable def ck:Dv->Option D:=bN (oI (o2 (oV 0) (oC (.int 3)) aK) ba) [(1,"bit")] mS (ob (os (ag (o2 (oV 0) (oC (.int 0)) aK) (ag (oV 1) (ax))) dz)) (os (ag (o2 (o2 (oV 0) (oC (.int 0)) aK) (o2 (oC (.int 1)) (oV 1) ju) mX) (ag (o2 (oV 0) (oC (.int 1)) aK) (ax))) cg)
noncomputable def ci:Dv->Option D:=ku (oI (oV 2) ba) [] mS (o2 (oV 0) (oC (.int 1)) aK)
noncomputable def dj:Sf:=az (aU 2 (ck)) (az (aU 3 (o2 (os (ag (ci) (ax)) jX) (oC (.int 8)) aV)) (az (aU 4 (os (ag (oV 2) (ax)) bQ)) (az (aU 5 (os (ag (oV 0) (ag (oV 1) (ag (o2 (oC (.int 1)) (oV 1) ju) (ax)))) bK)) (az (dZ (ob (o2 (o2 (oV 3) (oC (.int 4)) aV) (oC (.int 0)) gn)) (az (aU 6 (o2 (oV 4) (o2 (oV 3) (oC (.int 4)) dq) mX)) (b0 (os (ag (o2 (oV 5) (oC (.int 0)) aK) (ag (o2 (o2 (oV 5) (oC (.int 1)) aK) (oC (.int 2)) fM) (ag (o2 (oV 5) (oC (.int 2)) aK) (ag (o2 (oV 5) (oC (.int 3)) aK) (ag (os (ag (o2 (o2 (oV 5) (oC (.int 4)) aK) (os (ag (oV 6) (ax)) cg) aR) (ax)) aH) (ag (o2 (oV 5) (oC (.int 5)) aK) (ax))))))) cg))) (iR)) (az (aU 7 (os (ag (o2 (o2 (oV 5) (oC (.int 2)) aK) (Fh (ob (o2 (oV 3) (oC (.int 2)) gn)) (oC (.int 1)) (oC (.int 7))) aR) (ag (o2 (oV 5) (oC (.int 3)) aK) (ag (os (ag (os (ag (oV 4) (ag (o2 (oC (.int 8)) (oV 3) fM) (ax))) cg) (ax)) fF) (ax)))) bd)) (b0 (os (ag (o2 (oV 5) (oC (.int 0)) aK) (ag (o2 (o2 (oV 5) (oC (.int 1)) aK) (oC (.int 1)) fM) (ag (o2 (oV 7) (oC (.int 0)) aK) (ag (o2 (oV 7) (oC (.int 1)) aK) (ag (o2 (oV 5) (oC (.int 4)) aK) (ag (o2 (oV 5) (oC (.int 5)) aK) (ax))))))) cg)))))))
noncomputable def aT:List D->Option D:=aW er 2 dj
noncomputable abbrev oW:Stmt:=jM 14
noncomputable abbrev wD:List Str:=["one","tie","bit","left","ties"]
noncomputable def AB:Dv->Option D:=bN (oI (o2 (oV 3) (oC (.int 4)) aK) ba) [(1,"tie"),(2,"bit")] mS (ob (o2 (oV 0) (oV 1) neD)) (Fh (ob (os (ag (oV 0) (ag (oV 2) (ax))) dz)) (o2 (oV 0) (oV 1) mX) (oV 0))
noncomputable def zw:Sf:=az (aU 3 (os (ag (oV 0) (ag (oV 2) (ag (oV 1) (ax)))) bK)) (az (aU 4 (AB)) (b0 (os (ag (o2 (oV 3) (oC (.int 0)) aK) (ag (o2 (oV 3) (oC (.int 1)) aK) (ag (o2 (oV 3) (oC (.int 2)) aK) (ag (o2 (oV 3) (oC (.int 3)) aK) (ag (os (ag (oV 4) (ax)) aH) (ag (o2 (oV 3) (oC (.int 5)) aK) (ax))))))) cg)))
noncomputable def pP:List D->Option D:=aW wD 3 zw
noncomputable abbrev eK:Stmt:=jM 15
noncomputable abbrev jj:List Str:=["one","step"]
noncomputable def jh:Sf:=az (dZ (gK (ob (os (ag (oV 0) (ag (oV 1) (ax))) eB))) (Gu) (iR)) (az (dZ (ob (o2 (o2 (oV 1) (oC (.int 0)) aK) (oC (.str "away")) gn)) (b0 (os (ag (oV 0) (ag (o2 (oV 1) (oC (.int 1)) aK) (ax))) aT)) (iR)) (b0 (os (ag (oV 0) (ag (o2 (oV 1) (oC (.int 1)) aK) (ag (o2 (oV 1) (oC (.int 2)) aK) (ax)))) pP)))
noncomputable def bZ:List D->Option D:=aW jj 2 jh
noncomputable def gW:Xf:=Ga (gK (ob (os (ag (oV 0) (ag (oV 1) (ax))) eB))) (uv "NoStep" (oC (.str "the step does not fit the sum"))) (F9)
noncomputable def dI:List D->Option Str:=uU jj 2 gW
noncomputable abbrev cO:Stmt:=jM 17
noncomputable abbrev gb:List Str:=["script","k"]
noncomputable def cT:Sf:=az (dZ (ob (o2 (oV 1) (os (ag (oV 0) (ax)) jA) BO)) (b0 (o2 (oV 0) (oV 1) aK)) (iR)) (b0 (oC (.int 0)))
noncomputable def aL:List D->Option D:=aW gb 2 cT
noncomputable abbrev dB:Stmt:=jM 18
noncomputable abbrev iJ:List Str:=["cell"]
noncomputable def fA:Sf:=b0 (o2 (o2 (o2 (o2 (oV 0) (o2 (oC (.int 10)) (oC (.int 60)) tw) aV) (oC (.int 48271)) gO) (oC (.int 12345)) aR) (oC (.int 2147483629)) aV)
noncomputable def bA:List D->Option D:=aW iJ 1 fA
noncomputable abbrev dA:Stmt:=jM 19
noncomputable abbrev iH:List Str:=["found"]
noncomputable def fq:Sf:=b0 (kw (o1 (oV 0) (d4 "int")) (o1 (o1 (oV 0) (d4 "bool")) vi))
noncomputable def bR:List D->Option D:=aW iH 1 fq
noncomputable abbrev eQ:Stmt:=jM 20
noncomputable abbrev gY:List Str:=["turns","bitset","e"]
noncomputable def bD:Sf:=az (dZ (ob (o2 (o2 (oV 1) (oC (.int 2)) aV) (oC (.int 1)) gn)) (az (br 0 (oC (.int 0)) (o2 (o2 (kt 0 (oC (.int 0))) (oV 2) aR) (oC (.int 8)) aV)) (az (aU 2 (o2 (oC (.int 0)) (oV 2) fM)) (aU 1 (o2 (oV 1) (oC (.int 1)) fM)))) (iR)) (dZ (ob (o2 (oV 1) (oC (.int 0)) vT)) (br 0 (oV 1) (o2 (o2 (gL 0 (oV 1) (oC (.int 0))) (oV 2) aR) (oC (.int 8)) aV)) (iR))
noncomputable def bc:List (ay×D)->List D->Option (List (ay×D)):=qA gY 3 bD
noncomputable abbrev cM:Stmt:=jM 21
noncomputable abbrev fB:List Str:=["turns"]
noncomputable def gx:Dv->Option D:=bN (oI (o1 (oV 0) fN) ba) [(0,"turns")] mS (gM (ob (o2 (oV 0) (oC (.int 0)) vT)) (ob (o2 (o2 (oV 1) (oV 0) fC) (oC (.int 0)) vT))) (os (ag (oV 0) (ag (o2 (oV 1) (oV 0) fC) (ax))) cg)
noncomputable def fw:Sf:=b0 (os (ag (gx) (ax)) bM)
noncomputable def bi:List D->Option D:=aW fB 1 fw
noncomputable abbrev cP:Stmt:=jM 22
noncomputable abbrev gc:List Str:=["head","cells","first","hidden","bit","k"]
noncomputable def bW:Sf:=az (aU 4 (o2 (o2 (oV 4) (oC (.int 1)) aR) (o2 (os (ag (oV 1) (ag (oV 5) (ax))) aL) (o2 (os (ag (oC (.int 1)) (ag (oC (.int 1)) (ag (oC (.int 2)) (ag (oC (.int 40)) (ax))))) fF) (o2 (o2 (oV 0) (oC (.int 45)) dq) (oC (.int 4)) aV) aK) aV) aR)) (CG 3 (oV 4))
noncomputable def dY:Sf:=az (CC 3 (ax)) (az (aU 4 (o2 (oV 2) (oC (.int 1)) fM)) (az (fP (oL (ag (o2 (o2 (oV 0) (oC (.int 9)) dq) (oC (.int 6)) aV) (ax)) j9) (gN 5) (bW)) (fun δ=>(b0 (oV 3)) (BU 3 δ))))
noncomputable def aS:List D->Option D:=aW gc 3 dY
noncomputable abbrev bt:Stmt:=jM 23
noncomputable abbrev cz:List Str:=["head","cells","wires","looks","hidden","allowed","turns","ties","cell","turn","bitset","halves","pairs_of"]
noncomputable def bI:Dv->Option D:=bN (oL (ag (os (ag (oV 5) (ax)) jA) (ax)) j9) [(5,"allowed"),(9,"turn")] mS (ob (o2 (o2 (o2 (oV 2) (o2 (oV 0) (oC (.int 6)) aR) j3) (oC (.int 2)) aV) (oC (.int 1)) gn)) (o2 (oC (.int 1)) (o2 (oV 1) (oV 0) aK) ju)
noncomputable def bH:Dv->Option D:=ku (oI (o1 (oV 6) fN) ba) [(6,"turns")] mS (os (ag (oV 0) (ag (o2 (oV 1) (oV 0) fC) (ax))) cg)
noncomputable def aX:Sf:=az (aU 9 (os (ag (oV 8) (ax)) bA)) (az (aU 10 (os (ag (bI) (ax)) jX)) (dZ (gM (ob (o2 (o2 (oV 9) (oC (.int 5)) aV) (oC (.int 1)) gn)) (gM (ob (o2 (kr 7) (oC (.int 4)) BO)) (ob (o2 (oV 10) (oC (.int 0)) vT)))) (br 7 (oV 10) (oC (.bool true))) (dZ (gM (ob (o2 (o2 (oV 9) (oC (.int 5)) aV) (oC (.int 1)) neD)) (gM (ob (o2 (oV 10) (oC (.int 1)) vT)) (ob (o2 (kr 6) (oC (.int 12)) BO)))) (br 6 (o2 (oV 10) (o2 (oV 10) (oC (.int 2)) aV) fM) (o2 (os (ag (o2 (oC (.int 1)) (o2 (o2 (oV 9) (oC (.int 5)) dq) (oC (.int 7)) aV) aR) (ag (o2 (oC (.int 2)) (o2 (oC (.int 2)) (o2 (o2 (oV 9) (oC (.int 5)) dq) (oC (.int 3)) aV) gO) aR) (ax))) fF) (os (ag (oC (.int 1)) (ag (o2 (o2 (oV 0) (oC (.int 11)) dq) (oC (.int 3)) aV) (ax))) vq) aK)) (iR))))
noncomputable def du:Sf:=az (aU 2 (o2 (oC (.int 1)) (o2 (oV 0) (oC (.int 3)) aV) aR)) (az (aU 3 (o2 (o2 (oV 0) (oC (.int 3)) dq) (oC (.int 3)) aV)) (az (aU 4 (os (ag (oV 0) (ag (oV 1) (ag (o2 (o2 (o2 (oC (.int 2)) (oV 2) gO) (oC (.int 1)) aR) (oV 3) aR) (ax)))) aS)) (az (aU 5 (o2 (o1 (o2 (o2 (o2 (oC (.int 2)) (oV 2) gO) (oC (.int 1)) aR) (oV 3) aR) jm) (oV 4) aR)) (az (j8 6) (az (j8 7) (az (fP (oI (oV 1) ba) (gN 8) (aX)) (az (aU 11 (o2 (o2 (o2 (oV 0) (oC (.int 180)) dq) (oC (.int 13)) aV) (oC (.int 6)) fM)) (az (dZ (ob (o2 (o2 (o2 (oV 0) (oC (.int 2340)) dq) (oC (.int 9)) aV) (oC (.int 1)) gn)) (aU 11 (o2 (o2 (o2 (oV 0) (oC (.int 2340)) dq) (oC (.int 401)) aV) (oC (.int 200)) fM)) (iR)) (az (fun δ=>(aU 12 (os (ag (bH) (ax)) bM)) (lO 6 δ)) (b0 (os (ag (os (ag (oV 2) (ag (oV 3) (ax))) cg) (ag (oV 11) (ag (o2 (o2 (oV 0) (oC (.int 7)) dq) (oC (.int 8)) aV) (ag (oV 12) (ag (os (ag (fR 7) (ax)) bM) (ag (os (ag (oV 4) (ax)) bM) (ax))))))) cg)))))))))))
noncomputable def bu:List D->Option D:=aW cz 2 du
noncomputable abbrev bF:Stmt:=jM 24
noncomputable abbrev cY:List Str:=["one","bit","tie"]
noncomputable def cQ:Dv->Option D:=bN (oI (o2 (oV 0) (oC (.int 3)) aK) ba) [(1,"bit")] mS (gM (ob (o2 (o2 (o2 (o2 (oV 0) (oC (.int 0)) aK) (oV 1) j3) (oC (.int 2)) aV) (oC (.int 1)) gn)) (ob (o2 (o2 (o2 (oV 0) (oC (.int 1)) aK) (oC (.int 2)) aV) (oC (.int 1)) gn))) (oV 0)
noncomputable def aF:Sf:=dZ (ob (o2 (o2 (o2 (oV 2) (oV 1) j3) (oC (.int 2)) aV) (oC (.int 1)) gn)) (b0 (oC (.bool false))) (iR)
noncomputable def eN:Sf:=az (fP (oI (o2 (oV 0) (oC (.int 4)) aK) ba) (gN 2) (aF)) (b0 (o2 (os (ag (cQ) (ax)) jA) (oC (.int 0)) gn))
noncomputable def aY:List D->Option D:=aW cY 2 eN
noncomputable abbrev ef:Stmt:=jM 25
noncomputable abbrev js:List Str:=["ties","kept","tie"]
noncomputable def bP:Sf:=dZ (ob (o2 (oV 2) (oC (.int 0)) vT)) (br 1 (oV 2) (oC (.bool true))) (iR)
noncomputable def fX:Sf:=az (j8 1) (az (fP (oI (oV 0) ba) (gN 2) (bP)) (b0 (os (ag (fR 1) (ax)) bM)))
noncomputable def bL:List D->Option D:=aW js 1 fX
noncomputable abbrev dg:Stmt:=jM 26
noncomputable abbrev f9:List Str:=["one","bit","turns","total","left","bitset","e","halves","ties"]
noncomputable def cm:Dv->Option D:=bN (oI (o2 (oV 0) (oC (.int 5)) aK) ba) [(1,"bit")] mS (ob (o2 (oV 0) (oV 1) neD)) (oV 0)
noncomputable def aZ:Sf:=dZ (ob (o2 (o2 (o2 (oV 5) (oV 1) j3) (oC (.int 2)) aV) (oC (.int 0)) gn)) (lC 2 (ag (oV 5) (ag (oV 6) (ax))) bc) (az (lC 2 (ag (o2 (oV 5) (o2 (oC (.int 1)) (oV 1) ju) fM) (ag (oV 6) (ax))) bc) (az (aU 3 (o2 (o2 (oV 3) (oV 6) aR) (oC (.int 8)) aV)) (dZ (BN (ob (o2 (oV 6) (oC (.int 2)) gn)) (ob (o2 (oV 6) (oC (.int 6)) gn))) (aU 4 (o2 (oV 4) (o2 (oV 5) (o2 (oC (.int 1)) (oV 1) ju) fM) mX)) (iR))))
noncomputable def cH:Sf:=az (mh 2 (oC (.int 0)) (o2 (oV 0) (oC (.int 2)) aK)) (az (aU 3 (oC (.int 0))) (az (aU 4 (oC (.int 0))) (az (fP (oI (o2 (oV 0) (oC (.int 3)) aK) ba) (BT [gN 5,gN 6]) (aZ)) (az (aU 7 (o2 (o2 (o2 (oV 0) (oC (.int 1)) aK) (oC (.int 2)) fM) (o2 (o2 (oV 3) (oC (.int 4)) aV) (oC (.int 2)) dq) aR)) (az (aU 8 (o2 (oV 0) (oC (.int 4)) aK)) (az (dZ (BN (ob (o2 (oV 3) (oC (.int 0)) gn)) (ob (o2 (oV 3) (oC (.int 4)) gn))) (aU 8 (os (ag (o2 (oV 8) (os (ag (o2 (oV 4) (o2 (oV 3) (oC (.int 4)) dq) mX) (ax)) cg) aR) (ax)) bL)) (az (br 2 (oC (.int 0)) (o2 (o2 (kt 2 (oC (.int 0))) (o2 (os (ag (oC (.int 1)) (ag (oC (.int 7)) (ax))) fF) (o2 (oV 3) (oC (.int 4)) dq) aK) aR) (oC (.int 8)) aV)) (lC 2 (ag (oV 4) (ag (o2 (os (ag (oC (.int 6)) (ag (oC (.int 2)) (ax))) fF) (o2 (oV 3) (oC (.int 4)) dq) aK) (ax))) bc))) (fun δ=>(b0 (os (ag (o2 (oV 0) (oC (.int 0)) aK) (ag (oV 7) (ag (o2 (oV 2) (oC (.int 0)) fC) (ag (os (ag (oV 2) (ax)) bi) (ag (oV 8) (ag (os (ag (cm) (ax)) bM) (ax))))))) cg)) (lO 2 δ))))))))
noncomputable def aQ:List D->Option D:=aW f9 2 cH
noncomputable abbrev cN:Stmt:=jM 27
noncomputable abbrev f8:List Str:=["one","step","good","e"]
noncomputable def dX:Sf:=az (aU 2 (oC (.bool false))) (az (uS 3 dF (yY (os (ag (oV 0) (ag (oV 1) (ax))) bZ)) (xE (Gx (ag (oV 0) (ag (oV 1) (ax))) dI)) (aU 2 (kw (o1 (oV 3) (iY gd)) (kw (o1 (oV 3) (iY db)) (o1 (o1 (oV 3) (iY d9)) vi))))) (b0 (oV 2)))
noncomputable def bp:List D->Option D:=aW f8 2 dX
noncomputable abbrev bG:Stmt:=jM 28
noncomputable abbrev cZ:List Str:=["parts"]
noncomputable def b6:Dv->Option D:=bN (oI (oV 0) ba) [] mS (gK (ob (os (ag (oV 0) (ax)) bR))) (oV 0)
noncomputable def cX:Sf:=b0 (o2 (os (ag (b6) (ax)) jA) (oC (.int 0)) gn)
noncomputable def aN:List D->Option D:=aW cZ 1 cX
noncomputable abbrev cy:Stmt:=jM 29
noncomputable abbrev fE:List Str:=["found","due","k","pair"]
noncomputable def cW:Sf:=dZ (gK (ob (o1 (o2 (oV 0) (oV 2) aK) (d4 "tuple")))) (b0 (oC (.bool false))) (iR)
noncomputable def bJ:Sf:=dZ (BN (gK (ob (o1 (oV 3) (d4 "tuple")))) (gK (ob (os (ag (oV 3) (ax)) aN)))) (b0 (oC (.bool false))) (iR)
noncomputable def dw:Sf:=az (dZ (BN (gK (ob (o1 (oV 0) (d4 "tuple")))) (BN (ob (o2 (os (ag (oV 0) (ax)) jA) (oC (.int 6)) neD)) (ob (o2 (oV 0) (oV 1) neD)))) (b0 (oC (.bool false))) (iR)) (az (fP (oI (os (ag (oC (.int 0)) (ag (oC (.int 3)) (ag (oC (.int 4)) (ag (oC (.int 5)) (ax))))) fF) ba) (gN 2) (cW)) (az (fP (oI (o2 (oV 0) (oC (.int 3)) aK) ba) (gN 3) (bJ)) (b0 (os (ag (o2 (o2 (o2 (o2 (oV 0) (oC (.int 0)) aK) (Ff (oV 0) (oP (oC (.int 1))) (oP (oC (.int 3)))) aR) (o2 (oV 0) (oC (.int 4)) aK) aR) (o2 (oV 0) (oC (.int 5)) aK) aR) (ax)) aN))))
noncomputable def aO:List D->Option D:=aW fE 2 dw
noncomputable abbrev ic:Stmt:=jM 30
noncomputable abbrev zy:List Str:=["script","head","one","bit"]
noncomputable def fj:Sf:=dZ (gK (ob (os (ag (oV 2) (ag (oV 3) (ax))) aY))) (dZ (gK (ob (os (ag (oV 2) (ag (os (ag (oC (.str "away")) (ag (oV 3) (ax))) cg) (ax))) bp))) (b0 (oC (.bool false))) (iR)) (dZ (gK (ob (os (ag (os (ag (oV 2) (ag (os (ag (oC (.str "away")) (ag (oV 3) (ax))) cg) (ax))) bZ) (ag (os (ag (oV 2) (ag (oV 3) (ax))) aQ) (ax))) aO))) (b0 (oC (.bool false))) (iR))
noncomputable def wq:Sf:=az (aU 1 (o2 (os (ag (oV 0) (ag (oC (.int 0)) (ax))) aL) (o2 (oC (.int 10)) (oC (.int 9)) tw) aV)) (az (aU 2 (os (ag (oV 1) (ag (Ff (oV 0) (oP (oC (.int 1))) (oP (oC (.int 61)))) (ax))) bu)) (az (fP (oI (o2 (oV 2) (oC (.int 5)) aK) ba) (gN 3) (fj)) (b0 (oC (.bool true)))))
noncomputable def pQ:List D->Option D:=aW zy 1 wq
theorem iW {s t:Sf} {δ δ':Dv} (h:s δ = some (.nx,δ')):az s t δ = t δ':=by simp only [az,h,Option.bind_some]
theorem Fi {s t:Sf} {δ δ':Dv} {d:D} (h:s δ = some (.rt d,δ')):az s t δ = some (.rt d,δ'):=by simp only [az,h,Option.bind_some]
theorem AN {N:List Str} {n:Nat} {b:Sf} {as:List D} {d:D} {δ':Dv} (hl:as.length=n) (h:b (aC N as)=some (.rt d,δ')):aW N n b as=some d:=by unfold aW; rw [if_pos hl,h]; rfl
theorem uT {t:Dv->Option Bool} {u w:Sf} {δ:Dv} (h:t δ = some true):dZ t u w δ = u δ:=by unfold dZ; rw [h]; rfl
theorem rF {t:Dv->Option Bool} {u w:Sf} {δ:Dv} (h:t δ = some false):dZ t u w δ = w δ:=by unfold dZ; rw [h]; rfl
theorem uE (g:Nat->Nat) (l:List Nat):(l.map fun p=>((g p:Nat):Int)).sum=((l.map g).sum:Nat):=by
 induction l with
 | nil=>rfl
 | cons x l ih=>rw [List.map_cons,List.map_cons,List.sum_cons,List.sum_cons,ih]; omega
theorem Ea (a:Nat):Builtin.bitAnd (a:Int) 1=((a % 2:Nat):Int):=by
 have:=MA.DZ a 1
 rw [show ((1:Nat):Int)=1 from rfl] at this
 rw [this,Nat.and_one_is_mod]
theorem jN (a h:Nat):j3 (.int (a:Int)) (.int (h:Int))=some (.int ((a / 2 ^ h:Nat):Int)):=by
 rw [uP (by omega),Int.toNat_natCast]
 congr 2
theorem xr {a:Nat} (k:Nat) (ha:a<2 ^ 100000) (hk:k<=100000):ju (.int (a:Int)) (.int (k:Int))=some (.int ((a*2 ^ k:Nat):Int)):=by
 have hb:(a:Int).natAbs<2 ^ 100000:=by rw [Int.natAbs_natCast]; exact ha
 have:=MA.yF hb
 rw [uQ (by omega) (by omega),Int.toNat_natCast]
 congr 2
theorem sY {a:Nat} (h:a<2 ^ 64):a<2 ^ 100000:=Nat.lt_of_lt_of_le h (Nat.pow_le_pow_right (by decide) (by decide))
noncomputable def ai (hs:List Nat):List D:=hs.map fun h=>.int ((h:Nat):Int)
theorem cF (hs:List Nat):(ai hs).length=hs.length:=by simp [ai]
theorem vn (hs:List Nat) {k:Nat} (h:k<hs.length):jr (ai hs) (k:Int)=some (.int (hs.getD k 0:Nat)):=by
 refine eI rfl ?_
 unfold ai
 rw [List.getElem?_map,List.getD_eq_getElem?_getD,List.getElem?_eq_getElem h]
 rfl
theorem CI {n:Nat} (hn:n<=16777216):j9 [.int (n:Int)]=some ((List.range n).map fun k:Nat=>PyData.int (0+(k:Int))):=tu (j:=(n:Int)) (by omega) (by omega)
theorem C5 {fs:Dv->Option (List D)} {g:List D->Option (List D)} {δ:Dv} {ds r:List D} (h:fs δ = some ds) (h2:g ds=some r):oL fs g δ = some r:=by unfold oL; rw [h]; exact h2
theorem xV {δ:Dv} {i:Nat} {xs:List D} (e:wG δ[i]? = some (.list xs)):(oI (oV i) ba) δ = some xs:=by unfold oI oV; rw [e]; rfl
noncomputable def prD (p:Nat×Int):D:=.tuple [.int p.1,.int p.2]
theorem xY (a:Nat) {k:Nat} (hk:0<k):aV (.int (a:Int)) (.int (k:Int))=some (.int ((a % k:Nat):Int)):=by
 rw [pq (by omega)]
 congr 2
theorem kA (a:Nat):aV (.int (a:Int)) (.int 2)=some (.int ((a % 2:Nat):Int)):=xY a (k:=2) (by decide)
theorem ie {k:Nat} (hk:k<=100000):ju (.int 1) (.int (k:Int))=some (.int ((2 ^ k:Nat):Int)):=by
 have:=xr (a:=1) k (sY (by decide)) hk
 rw [Nat.one_mul] at this
 exact this
theorem gh (a b:List Nat):ai (a++b)=ai a++ai b:=by simp [ai]
theorem pO {hs:List Nat} {i:Nat} (hi:i<hs.length):hs.getD i 0∈hs:=by
 rw [List.getD_eq_getElem?_getD,List.getElem?_eq_getElem hi]
 exact List.getElem_mem hi
noncomputable def oneD (w l:Nat) (hv:Int) (c:Nat) (ps:List (Nat×Int)) (ts hs:List Nat):D:=.tuple [.tuple [.int w,.int l],.int hv,.int c,.tuple (ps.map prD),.tuple (ai ts),.tuple (ai hs)]
theorem mz (w l:Nat) (hv:Int) (c:Nat) (ps:List (Nat×Int)) (ts hs:List Nat):aK (oneD w l hv c ps ts hs) (.int 0)=some (.tuple [.int w,.int l]):=rfl
theorem pb (w l:Nat) (hv:Int) (c:Nat) (ps:List (Nat×Int)) (ts hs:List Nat):aK (oneD w l hv c ps ts hs) (.int 1)=some (.int hv):=rfl
theorem o9 (w l:Nat) (hv:Int) (c:Nat) (ps:List (Nat×Int)) (ts hs:List Nat):aK (oneD w l hv c ps ts hs) (.int 2)=some (.int c):=rfl
theorem rS (w l:Nat) (hv:Int) (c:Nat) (ps:List (Nat×Int)) (ts hs:List Nat):aK (oneD w l hv c ps ts hs) (.int 3)=some (.tuple (ps.map prD)):=rfl
theorem mx (w l:Nat) (hv:Int) (c:Nat) (ps:List (Nat×Int)) (ts hs:List Nat):aK (oneD w l hv c ps ts hs) (.int 4)=some (.tuple (ai ts)):=rfl
theorem o8 (w l:Nat) (hv:Int) (c:Nat) (ps:List (Nat×Int)) (ts hs:List Nat):aK (oneD w l hv c ps ts hs) (.int 5)=some (.tuple (ai hs)):=rfl
@[simp] theorem Ew (u w:Sf) (δ:Dv) (a b:Int):Dw u w δ (a==b)=if a=b then u δ else w δ:=by
 by_cases h:a=b
 ·subst h; simp
 ·have:(a==b)=false:=by simpa using h
  rw [this,if_neg h]; rfl
theorem pz {α:Type} {f:D->Option D} {h k:α -> D}:∀ (xs:List α),(∀ x∈xs,f (h x)=some (k x))->tN f (xs.map h)=some (xs.map k)
 | [],_=>rfl
 | x::xs,H=>by
  show ((f (h x)).bind fun y=>_)=_
  rw [H x List.mem_cons_self]
  show ((tN f (xs.map h)).bind fun ys=>_)=_
  rw [pz xs fun y hy=>H y (List.mem_cons_of_mem _ hy)]
  rfl
theorem pR {α:Type} {t:D->Option Bool} {f:D->Option D} {h k:α -> D} {b:α -> Bool}:∀ (xs:List α),(∀ x∈xs,t (h x)=some (b x))->(∀ x∈xs,b x=true->f (h x)=some (k x))->fm t f (xs.map h)=some ((xs.filter b).map k)
 | [],_,_=>rfl
 | x::xs,H,G=>by
  have ih:=pR (k:=k) xs (fun y hy=>H y (List.mem_cons_of_mem _ hy)) (fun y hy=>G y (List.mem_cons_of_mem _ hy))
  show ((t (h x)).bind fun c=>_)=_
  rw [H x List.mem_cons_self,Option.bind_some]
  cases e:b x with
  | false=>simp [e,ih]
  | true=>simp [e,ih,G x List.mem_cons_self e]
theorem kU {α:Type} {fi:Dv->Option (List D)} {caps:List (Nat×Str)} {fe:Dv->Option D} {δ:Dv} {h k:α -> D} {xs:List α} (e:fi δ = some (xs.map h)) (hl:xs.length<=16777216) (H:∀ x∈xs,fe (.fz (h x)::bC δ caps)=some (k x)):ku fi caps mS fe δ = some (.list (xs.map k)):=by
 unfold ku
 rw [e,Option.bind_some,if_pos (by rw [List.length_map]; exact hl),pz xs (k:=k) fun x hx=>by
  show fe _=_
  exact H x hx]
 rfl
theorem bw {α:Type} {fi:Dv->Option (List D)} {caps:List (Nat×Str)} {ft:Dv->Option Bool} {fe:Dv->Option D} {δ:Dv} {h k:α -> D} {b:α -> Bool} {xs:List α} (e:fi δ = some (xs.map h)) (hl:xs.length<=16777216) (H:∀ x∈xs,ft (.fz (h x)::bC δ caps)=some (b x)) (G:∀ x∈xs,b x=true->fe (.fz (h x)::bC δ caps)=some (k x)):bN fi caps mS ft fe δ = some (.list ((xs.filter b).map k)):=by
 unfold bN
 rw [e,Option.bind_some,if_pos (by rw [List.length_map]; exact hl),pR xs (b:=b) (k:=k) (fun x hx=>by
  show ft _=_
  exact H x hx) (fun x hx hb=>by
  show fe _=_
  exact G x hx hb)]
 rfl
theorem vv {b:Sf} {k:Nat} (I:Nat->Dv->Prop) (n:Nat) (h:∀ i,i<n->∀ δ,I i δ -> ∃ δ2,b (δ.set k (.fz (.int i)))=some (.nx,δ2)/\I (i+1) δ2):∀ δ,I 0 δ -> ∃ δ',loop (gN k) b (jw 0 n) δ = some (.nx,δ')/\I n δ':=by
 have go:∀ (m i:Nat),i+m=n->∀ δ,I i δ -> ∃ δ',loop (gN k) b ((List.range' i m).map fun (k:Nat)=>PyData.int (0+(k:Int))) δ = some (.nx,δ')/\I n δ':=by
  intro m
  induction m with
  | zero=>intro i e δ h; exact ⟨δ,rfl,by rw [<- e]; exact h⟩
  | succ m ih=>
   intro i e δ hi
   obtain ⟨δ2,e2,h2⟩:=h i (by omega) δ hi
   obtain ⟨δ',e3,h3⟩:=ih (i+1) (by omega) δ2 h2
   refine ⟨δ',?_,h3⟩
   rw [<- e3,List.range'_succ,List.map_cons]
   exact cn (δ1:=δ.set k (.fz (.int i))) (by simp) e2
 intro δ h0
 have:=go n 0 (by omega) δ h0
 rw [<- List.range_eq_range'] at this
 exact this
theorem Ha:tw (.int 10) (.int 60)=some (.int 1000000000000000000000000000000000000000000000000000000000000):=rfl
theorem tQ (c:Int):∃ T:Nat,bA [.int c]=some (.int T):=by
 have m:IntMulOk (c % 1000000000000000000000000000000000000000000000000000000000000) 48271:=.of_right (by decide +kernel)
 have h2:0<=(c % 1000000000000000000000000000000000000000000000000000000000000*48271+12345) % 2147483629:=Int.emod_nonneg _ (by decide)
 refine ⟨((c % 1000000000000000000000000000000000000000000000000000000000000*48271+12345) % 2147483629).toNat,?_⟩
 rw [Int.toNat_of_nonneg h2]
 simp [bA,aW,fA,aC,Ha,m]
theorem sG (ns:List Int) (k:Int) (hk:0<=k):∃ c,aL [.list (ns.map .int),.int k]=some (.int c):=by
 by_cases h:k<ns.length
 ·have hk':k.toNat<ns.length:=by omega
  refine ⟨ns[k.toNat],?_⟩
  have e:jr (ns.map PyData.int) k=some (.int ns[k.toNat]):=eI (j:=k.toNat) (by omega) (by simp [hk'])
  simp [aL,aW,cT,aC,h,e]
 ·exact ⟨0,by simp [aL,aW,cT,aC,h]⟩
@[simp] theorem Ev (u w:Sf) (δ:Dv) (a b:Int):Dw u w δ (!(a==b))=if a=b then w δ else u δ:=by
 by_cases h:a=b
 ·subst h; simp
 ·have:(a==b)=false:=by simpa using h
  rw [this,if_neg h]; rfl
@[simp] theorem Fm (a b c d e f:D):fF [a,b,c,d,e,f]=some (.list [a,b,c,d,e,f]):=gi (by simp)
noncomputable abbrev As:=List (Nat×Nat)
noncomputable def vl (A:As) (k:Nat):Nat:=((A.find? fun p=>decide (p.1=k)).map (·.2)).getD 0
noncomputable def jP (A:As) (k v:Nat):As:=if (A.any fun p=>decide (p.1=k))=true then A.map (fun p=>if p.1=k then (p.1,v) else p) else A++[(k,v)]
noncomputable def bB (A:As):List (ay×D):=A.map fun p=>(.inl (p.1:Int),.int (p.2:Int))
noncomputable def aq (A:As):List Nat:=A.map (·.1)
theorem kK (a b:Nat):((Sum.inl (a:Int):ay)=.inl (b:Int))↔a=b:=by
 constructor
 ·intro h; exact Int.ofNat.inj (Sum.inl.inj h)
 ·intro h; rw [h]
theorem su (A:As) (k:Nat):di (bB A) (.inl (k:Int))=(A.find? fun p=>decide (p.1=k)).map fun p=>.int (p.2:Int):=by
 induction A with
 | nil=>rfl
 | cons p A ih=>
  unfold di bB at *
  rw [List.map_cons,List.find?_cons,List.find?_cons]
  by_cases h:p.1=k
  ·have:((Sum.inl (p.1:Int):ay)=.inl (k:Int)):=(kK _ _).mpr h
   simp [h]
  ·have:¬ ((Sum.inl (p.1:Int):ay)=.inl (k:Int)):=fun z=>h ((kK _ _).mp z)
   simp only [this,h,decide_false]
   exact ih
theorem vV (A:As) (k:Nat):(di (bB A) (.inl (k:Int))).getD (.int 0)=.int (vl A k:Int):=by
 rw [su]
 unfold vl
 cases A.find? fun p=>decide (p.1=k) with
 | none=>rfl
 | some p=>rfl
theorem Bt (A:As) (k:Nat):((bB A).any fun p=>decide (p.1=.inl (k:Int)))=A.any fun p=>decide (p.1=k):=by
 unfold bB
 rw [List.any_map]
 congr 1
 funext p
 simp only [Function.comp,decide_eq_decide]
 exact kK _ _
theorem gg (A:As) (k v:Nat):dQ (bB A) (.inl (k:Int)) (.int (v:Int))=bB (jP A k v):=by
 unfold dQ jP
 rw [Bt]
 split
 ·unfold bB
  rw [List.map_map,List.map_map]
  apply List.map_congr_left
  intro p _
  show (if (Sum.inl (p.1:Int):ay)=.inl (k:Int) then _ else _)=_
  by_cases h:p.1=k
  ·rw [if_pos ((kK _ _).mpr h)]
   simp [h]
  ·rw [if_neg (fun z=>h ((kK _ _).mp z))]
   simp [h]
 ·unfold bB
  rw [List.map_append]
  rfl
theorem gl (A:As) (k:Nat):(A.any fun p=>decide (p.1=k))=true↔k∈aq A:=by
 simp [aq,List.any_eq_true]
theorem da (p:Nat×Nat) (A:As) (k:Nat):vl (p::A) k=if p.1=k then p.2 else vl A k:=by
 unfold vl
 rw [List.find?_cons]
 by_cases h:p.1=k <;> simp [h]
theorem gZ {A:As} {k:Nat} (h:k ∉ aq A):vl A k=0:=by
 unfold vl
 have:(A.find? fun p=>decide (p.1=k))=none:=by
  rw [List.find?_eq_none]
  intro p hp
  simp only [decide_eq_true_eq]
  exact fun z=>h (List.mem_map.mpr ⟨p,hp,z⟩)
 rw [this]
 rfl
theorem zF (A:As) (k v j:Nat) (h:k ∉ aq A):vl (A++[(k,v)]) j=if j=k then v else vl A j:=by
 induction A with
 | nil=>
  rw [List.nil_append,da]
  by_cases e:k=j
  ·rw [if_pos e,if_pos e.symm]
  ·rw [if_neg e,if_neg (Ne.symm e)]
 | cons p A ih=>
  have h1:k≠p.1:=fun z=>h (by rw [z]; exact List.mem_cons_self)
  have h2:k ∉ aq A:=fun z=>h (List.mem_cons_of_mem _ z)
  rw [List.cons_append,da,da,ih h2]
  by_cases e:p.1=j
  ·rw [if_pos e,if_pos e,if_neg (fun z=>h1 (by rw [e]; exact z.symm))]
  ·rw [if_neg e,if_neg e]
theorem zE (A:As) (k v j:Nat) (h:k∈aq A):vl (A.map fun p=>if p.1=k then (p.1,v) else p) j=if j=k then v else vl A j:=by
 induction A with
 | nil=>cases h
 | cons p A ih=>
  rw [List.map_cons,da,da]
  by_cases hp:p.1=k
  ·rw [if_pos hp]
   show (if p.1=j then v else _)=_
   by_cases e:p.1=j
   ·rw [if_pos e,if_pos (by rw [<- e]; exact hp)]
   ·rw [if_neg e,if_neg e]
    by_cases hk:k∈aq A
    ·exact ih hk
    ·rw [if_neg (fun z=>e (by rw [hp]; exact z.symm))]
     congr 1
     have:∀ B:As,k ∉ aq B->(B.map fun p=>if p.1=k then (p.1,v) else p)=B:=fun B=>by
      induction B with
      | nil=>intro _; rfl
      | cons q B ihB=>
       intro hB
       rw [List.map_cons,ihB (fun z=>hB (List.mem_cons_of_mem _ z)),if_neg (fun z=>hB (by rw [<- z]; exact List.mem_cons_self))]
     exact this A hk
  ·rw [if_neg hp]
   have hk:k∈aq A:=by
    rcases List.mem_cons.mp h with z | z
    ·exact absurd z.symm hp
    ·exact z
   rw [ih hk]
   by_cases e:p.1=j
   ·rw [if_pos e,if_pos e,if_neg (fun z=>hp (by rw [e]; exact z))]
   ·rw [if_neg e,if_neg e]
theorem fG (A:As) (k v j:Nat):vl (jP A k v) j=if j=k then v else vl A j:=by
 unfold jP
 by_cases h:(A.any fun p=>decide (p.1=k))=true
 ·rw [if_pos h]; exact zE A k v j ((gl A k).mp h)
 ·rw [if_neg h]; exact zF A k v j fun z=>h ((gl A k).mpr z)
theorem kD (A:As) (k v:Nat):aq (jP A k v)=if k∈aq A then aq A else aq A++[k]:=by
 unfold jP
 by_cases h:k∈aq A
 ·rw [if_pos ((gl A k).mpr h),if_pos h]
  unfold aq
  rw [List.map_map]
  apply List.map_congr_left
  intro p _
  simp only [Function.comp]
  split <;> rfl
 ·rw [if_neg (fun z=>h ((gl A k).mp z)),if_neg h]
  unfold aq
  rw [List.map_append]
  rfl
theorem qH {A:As} (h:(aq A).Nodup) (k v:Nat):(aq (jP A k v)).Nodup:=by
 rw [kD]
 split
 ·exact h
 ·rename_i hk
  rw [List.nodup_append]
  exact ⟨h,by simp,fun a ha b hb=>by simp at hb; subst hb; exact fun z=>hk (by rw [<- z]; exact ha)⟩
theorem iN {A:As} (nd:(aq A).Nodup) {p:Nat×Nat} (h:p∈A):vl A p.1=p.2:=by
 induction A with
 | nil=>cases h
 | cons q A ih=>
  rw [da]
  have nd':=List.nodup_cons.mp (show (q.1::aq A).Nodup from nd)
  rcases List.mem_cons.mp h with rfl | h
  ·rw [if_pos rfl]
  ·rw [if_neg (fun z=>nd'.1 (by rw [z]; exact List.mem_map.mpr ⟨p,h,rfl⟩))]
   exact ih nd'.2 h
theorem ka:∀ {a b:List Nat},a.Pairwise (· < ·)->b.Pairwise (· < ·)->(∀ k,k∈a↔k∈b)->a=b
 | [],b,_,_,h=>by
  cases b with
  | nil=>rfl
  | cons y b=>exact absurd ((h y).mpr List.mem_cons_self) (by simp)
 | x::a,b,ha,hb,h=>by
  cases b with
  | nil=>exact absurd ((h x).mp List.mem_cons_self) (by simp)
  | cons y b=>
   obtain ⟨a1,a2⟩:=List.pairwise_cons.mp ha
   obtain ⟨b1,b2⟩:=List.pairwise_cons.mp hb
   have e:x=y:=by
    rcases List.mem_cons.mp ((h x).mp List.mem_cons_self) with z | z
    ·exact z
    ·rcases List.mem_cons.mp ((h y).mpr List.mem_cons_self) with w | w
     ·exact w.symm
     ·have:=b1 x z
      have:=a1 y w
      omega
   subst e
   rw [ka a2 b2 fun k=>?_]
   constructor
   ·intro z
    rcases List.mem_cons.mp ((h k).mp (List.mem_cons_of_mem _ z)) with w | w
    ·have:=a1 k z; omega
    ·exact w
   ·intro z
    rcases List.mem_cons.mp ((h k).mpr (List.mem_cons_of_mem _ z)) with w | w
    ·have:=b1 k z; omega
    ·exact w
noncomputable def cI (k:Nat):Int:=(k:Int)
noncomputable def pD (p:Nat×Nat):D:=.tuple [.int (p.1:Int),.int (p.2:Int)]
theorem kn:∀ S:As,gJ (S.map pD)=some (bB S)
 | []=>rfl
 | p::S=>by
  show (rQ (pD p)).bind _=_
  show (some ((Sum.inl (p.1:Int):ay),PyData.int (p.2:Int))).bind _=_
  rw [Option.bind_some,kn S]
  rfl
theorem nS:∀ (S A:As),(aq (A++S)).Nodup->(bB S).foldl (fun acc p=>dQ acc p.1 p.2) (bB A)=bB (A++S)
 | [],A,_=>by rw [List.append_nil]; rfl
 | p::S,A,h=>by
  show (bB S).foldl _ (dQ (bB A) (.inl (p.1:Int)) (.int (p.2:Int)))=_
  have hn:p.1 ∉ aq A:=fun z=>by
   unfold aq at h z
   rw [List.map_append,List.nodup_append] at h
   exact h.2.2 p.1 z p.1 (by simp) rfl
  rw [gg,show jP A p.1 p.2=A++[p] from if_neg (fun z=>hn ((gl A p.1).mp z)),nS S (A++[p]) (by rw [List.append_assoc]; exact h),List.append_assoc]
  rfl
theorem wb (S:As) (h:(aq S).Nodup) (hl:S.length<=1000):mR (.tuple (S.map pD))=some (bB S):=by
 show (gJ (S.map pD)).bind _=_
 rw [kn,Option.bind_some,List.length_map,if_pos hl]
 exact congrArg some (nS S [] h)
theorem ip:∀ A:As,gB (bB A)=some ((aq A).map cI)
 | []=>rfl
 | p::A=>by
  show (gB (bB A)).bind _=_
  rw [ip A]
  rfl
theorem hV (ks:List Nat) (nd:ks.Nodup):∃ rs:List Nat,bo (ks.map cI)=rs.map (cI)/\rs.Perm ks/\rs.Pairwise (· < ·):=by
 have pm:=dh (ks.map cI)
 have pw:=iZ (ks.map cI)
 obtain ⟨l,hl⟩:∃ l,bo (ks.map cI)=l:=⟨_,rfl⟩
 rw [hl] at pm pw ⊢
 have e:l=(l.map Int.toNat).map cI:=by
  rw [List.map_map]
  have:∀ x∈l,((cI) ∘ Int.toNat) x=x:=fun x hx=>by
   obtain ⟨k,_,rfl⟩:=List.mem_map.mp (pm.mem_iff.mp hx)
   simp [cI]
  rw [List.map_congr_left this,List.map_id']
 have p2:(l.map Int.toNat).Perm ks:=by
  have:=pm.map Int.toNat
  rw [List.map_map] at this
  have e2:ks.map (Int.toNat ∘ cI)=ks:=by
   have:∀ x∈ks,(Int.toNat ∘ cI) x=x:=fun x _=>by simp [cI]
   rw [List.map_congr_left this,List.map_id']
  rw [e2] at this
  exact this
 refine ⟨l.map Int.toNat,e,p2,?_⟩
 have nd2:(l.map Int.toNat).Nodup:=p2.nodup_iff.mpr nd
 rw [e,List.pairwise_map] at pw
 rw [List.nodup_iff_pairwise_ne] at nd2
 exact (pw.and nd2).imp fun {a b} h=>by
  have h1:(a:Int)<=(b:Int):=h.1
  have h2:=h.2
  omega
theorem nQ {A:As} {k:Nat} (h:k∈aq A):di (bB A) (.inl (k:Int))=some (.int (vl A k:Int)):=by
 rw [su]
 unfold vl
 cases e:A.find? fun p=>decide (p.1=k) with
 | none=>
  obtain ⟨p,hp,rfl⟩:=List.mem_map.mp h
  have:=List.find?_eq_none.mp e p hp
  simp at this
 | some p=>rfl
theorem vK (A:As) (nd:(aq A).Nodup) (hl:A.length<64):∃ rs:List Nat,rs.Perm (aq A)/\rs.Pairwise (· < ·)/\∀ (δ:Dv) (i:Nat),qw δ[i]? = some (bB A)->ik i δ = some (.list (rs.map fun k=>pD (k,vl A k))):=by
 obtain ⟨rs,e,p,pw⟩:=hV (aq A) nd
 refine ⟨rs,p,pw,fun δ i h=>?_⟩
 unfold ik
 rw [h,Option.bind_some,ip,Option.bind_some,if_pos ⟨by rw [List.length_map]; unfold aq; rw [List.length_map]; exact hl,by
  rw [List.nodup_iff_pairwise_ne,List.pairwise_map]
  rw [List.nodup_iff_pairwise_ne] at nd
  exact nd.imp fun {a b} h=>by unfold cI; omega⟩]
 unfold qM
 rw [e,List.map_map]
 congr 2
 apply List.map_congr_left
 intro k hk
 have hk:=p.mem_iff.mp hk
 show PyData.tuple [.int (k:Int),(di (bB A) (.inl (k:Int))).getD .none]=_
 rw [nQ hk]
 rfl
theorem F1 (b1 e1 G:Int) (es:List (ay×D)) (z0 z1 z2 z4:Sl) (hG:(di es (.inl b1)).getD (.int 0)=.int G) (hl:es.length<sizeLine):(if b1=0 then some (Fl.nx,[z0,z1,z2,.od es,z4,.fz (.int b1),.fz (.int e1)]) else br 3 (oV 5) (o2 (o2 (gL 3 (oV 5) (oC (.int 0))) (oV 6) aR) (oC (.int 8)) aV) [z0,z1,z2,.od es,z4,.fz (.int b1),.fz (.int e1)])=some (.nx,[z0,z1,z2,.od (if b1=0 then es else dQ es (.inl b1) (.int ((G+e1) % 8))),z4,.fz (.int b1),.fz (.int e1)]):=by
 by_cases h:b1=0
 ·rw [if_pos h,if_pos h]
 ·rw [if_neg h,if_neg h]
  simp [br,gL,hG,hl]
theorem yM (t b e a b1 e1 t1 G:Int) (es:List (ay×D)) (P:D) (z1 z2 z5 z6:Sl) (p0:aK P (.int 0)=some (.int b)) (p1:aK P (.int 1)=some (.int e)) (ha:Builtin.bitAnd b 1=a) (hb1:(if a=1 then Builtin.bitXor b 1 else b)=b1) (he1:(if a=1 then -e else e)=e1) (ht1:(if a=1 then t+e else t)=t1) (hG:(di es (.inl b1)).getD (.int 0)=.int G) (hl:es.length<sizeLine):bO [.fz (.int t),z1,z2,.od es,.fz P,z5,z6]=some (.nx,[.fz (.int t1),z1,z2,.od (if b1=0 then es else dQ es (.inl b1) (.int ((G+e1) % 8))),.fz P,.fz (.int b1),.fz (.int e1)]):=by
 have q:=F1 b1 e1 G es (.fz (.int t1)) z1 z2 (.fz P) hG hl
 by_cases h:a=1
 ·rw [if_pos h] at hb1 he1 ht1
  subst h hb1 he1 ht1
  simp [-az,-dZ,gI,j7,bO,p0,p1,ha]
  exact q
 ·rw [if_neg h] at hb1 he1 ht1
  subst hb1 he1 ht1
  have n:gn (.int a) (.int 1)=some (.bool false):=by simp [h]
  simp [-az,-dZ,gI,j7,bO,p0,p1,ha,n]
  exact q
noncomputable def ze (A:As) (rs:List Nat):As:=(rs.filter fun k=>decide (vl A k≠0)).map fun k=>(k,vl A k)
theorem C0 (A:As) (nd:(aq A).Nodup) (hl:A.length<64):∃ rs:List Nat,rs.Perm (aq A)/\rs.Pairwise (· < ·)/\∀ z0 z1 z2 z4 z5 z6,eX [z0,z1,z2,.od (bB A),z4,z5,z6]=some (.list ((ze A rs).map pD)):=by
 obtain ⟨rs,p,pw,it⟩:=vK A nd hl
 refine ⟨rs,p,pw,fun z0 z1 z2 z4 z5 z6=>?_⟩
 have hln:rs.length<=1000:=by rw [p.length_eq]; unfold aq; rw [List.length_map]; omega
 have:=bw (fi:=oI (ik 3) ba) (caps:=[]) (ft:=ob (o2 (o2 (oV 0) (oC (.int 1)) aK) (oC (.int 0)) neD)) (fe:=oV 0) (δ:=[z0,z1,z2,.od (bB A),z4,z5,z6]) (h:=fun k=>pD (k,vl A k)) (k:=fun k=>pD (k,vl A k)) (b:=fun k=>decide (vl A k≠0)) (xs:=rs) (by
  have:=it [z0,z1,z2,.od (bB A),z4,z5,z6] 3 rfl
  simp [this]) (by omega) (fun k _=>by
  have b1:aK (pD (k,vl A k)) (.int 1)=some (.int (vl A k:Int)):=rfl
  have e:neD (.int (vl A k:Int)) (.int 0)=some (.bool (decide (vl A k≠0))):=by
   by_cases h:vl A k=0
   ·rw [h]; rfl
   ·have:¬ ((vl A k:Int)=0):=by omega
    simp [h,this]
  simp only [bC,List.map_nil,List.append_nil]
  show (((aK (pD (k,vl A k)) (.int 1)).bind fun x=>neD x (.int 0)).bind asB)=_
  rw [b1,Option.bind_some,e]
  rfl) (fun k _ _=>by simp [bC])
 have e:(ze A rs).map pD=(rs.filter fun k=>decide (vl A k≠0)).map fun k=>pD (k,vl A k):=by unfold ze; rw [List.map_map]; rfl
 rw [e]
 exact this
theorem Ft (b e a b1 e1 G0 G:Int) (es es1:List (ay×D)) (hm:b % 2=a) (h0:di es (.inl 0)=some (.int G0)) (hes1:(if a=1 then dQ es (.inl 0) (.int ((G0+e) % 8)) else es)=es1) (hb1:(if a=1 then b-1 else b)=b1) (he1:(if a=1 then -e else e)=e1) (hG:(di es1 (.inl b1)).getD (.int 0)=.int G) (hl:es.length<sizeLine) (hl1:es1.length<sizeLine):bD [.od es,.fz (.int b),.fz (.int e)]=some (.nx,[.od (if 0<b1 then dQ es1 (.inl b1) (.int ((G+e1) % 8)) else es1),.fz (.int b1),.fz (.int e1)]):=by
 have Q:br 0 (oV 1) (o2 (o2 (gL 0 (oV 1) (oC (.int 0))) (oV 2) aR) (oC (.int 8)) aV) [.od es1,.fz (.int b1),.fz (.int e1)]=some (.nx,[.od (dQ es1 (.inl b1) (.int ((G+e1) % 8))),.fz (.int b1),.fz (.int e1)]):=by
  simp [br,gL,hG,hl1]
 by_cases h:a=1
 ·rw [if_pos h] at hb1 he1 hes1
  subst h hb1 he1
  have P:br 0 (oC (.int 0)) (o2 (o2 (kt 0 (oC (.int 0))) (oV 2) aR) (oC (.int 8)) aV) [.od es,.fz (.int b),.fz (.int e)]=some (.nx,[.od es1,.fz (.int b),.fz (.int e)]):=by
   simp [br,kt,h0,hl,hes1]
  by_cases hp:1<b
  ·simp [-az,-dZ,gI,j7,bD,hm,P,hp,Q]
  ·simp [-az,-dZ,gI,j7,bD,hm,P,hp]
 ·rw [if_neg h] at hb1 he1 hes1
  subst hb1 he1 hes1
  have n:gn (.int a) (.int 1)=some (.bool false):=by simp [h]
  by_cases hp:0<b
  ·simp [-az,-dZ,gI,j7,bD,hm,n,hp,Q]
  ·simp [-az,-dZ,gI,j7,bD,hm,n,hp]
theorem Fs (b e:Int) (es es2:List (ay×D)) (b1 e1:Int) (h:bD [.od es,.fz (.int b),.fz (.int e)]=some (.nx,[.od es2,.fz (.int b1),.fz (.int e1)])):bc es [.int b,.int e]=some es2:=by
 show qA gY 3 bD es [.int b,.int e]=_
 unfold qA
 rw [if_pos (show [PyData.int b,PyData.int e].length+1=3 from rfl)]
 show (bD [.od es,.fz (.int b),.fz (.int e)]).bind _=_
 rw [h]
 rfl
noncomputable def lI (A:As):List (ay×Int):=A.map fun p=>(.inl (p.1:Int),(p.2:Int))
theorem nM:∀ A:As,kH (bB A)=some (lI A)
 | []=>rfl
 | p::A=>by
  show (kH (bB A)).bind _=_
  rw [nM A]
  rfl
theorem vE (A:As):(lI A).map (fun p=>(p.1,PyData.int p.2))=bB A:=by
 unfold lI bB
 rw [List.map_map]
 rfl
theorem nP {A:As} {k:Nat} (h:k∈aq A):kM (lI A) (.inl (k:Int))=some (vl A k:Int):=by
 have g:=nQ h
 rw [<- vE] at g
 unfold di at g
 unfold kM
 rw [List.find?_map] at g
 have e:((fun p:ay×D=>decide (p.1=Sum.inl (k:Int))) ∘ fun p:ay×Int=>(p.1,PyData.int p.2))=fun p=>decide (p.1=Sum.inl (k:Int)):=rfl
 rw [e] at g
 cases q:(lI A).find? fun p=>decide (p.1=Sum.inl (k:Int)) with
 | none=>rw [q] at g; cases g
 | some p=>
  rw [q] at g
  have g:PyData.int p.2=PyData.int (vl A k:Int):=Option.some.inj g
  show some p.2=_
  rw [PyData.int.inj g]
noncomputable def kj (A:As) (rs:List Nat):As:=(rs.filter fun k=>decide (0<k/\0<vl A k)).map fun k=>(k,vl A k)
theorem Fn (T:D) (L:List D) (p:gx [.fz T]=some (.list L)):bi [T]=some (.tuple L):=by
 simp [bi,aW,fw,aC,p]
theorem o6 (A:As) (nd:(aq A).Nodup) (hl:A.length<64):∃ rs:List Nat,rs.Perm (aq A)/\rs.Pairwise (· < ·)/\bi [.dict (dctD (lI A))]=some (.tuple ((kj A rs).map pD)):=by
 obtain ⟨rs,e,p,pw⟩:=hV (aq A) nd
 refine ⟨rs,p,pw,Fn _ _ ?_⟩
 have hln:rs.length<64:=by rw [p.length_eq]; unfold aq; rw [List.length_map]; exact hl
 have so:fN (.dict (dctD (lI A)))=some (.list (rs.map fun k:Nat=>PyData.int (k:Int))):=by
  show (fK (dctD (lI A))).bind _=_
  rw [cA,Option.bind_some,vE,ip,Option.bind_some,if_pos (by rw [List.length_map]; unfold aq; rw [List.length_map]; exact hl),e,List.map_map]
  rfl
 have gf:∀ k∈rs,fC (.dict (dctD (lI A))) (.int (k:Int))=some (.int (vl A k:Int)):=fun k hk=>by
  show (fK (dctD (lI A))).bind _=_
  rw [cA,Option.bind_some]
  show (kM (lI A) (.inl (k:Int))).map PyData.int=_
  rw [nP (p.mem_iff.mp hk)]
  rfl
 have:=bw (fi:=oI (o1 (oV 0) fN) ba) (caps:=[(0,"turns")]) (ft:=gM (ob (o2 (oV 0) (oC (.int 0)) vT)) (ob (o2 (o2 (oV 1) (oV 0) fC) (oC (.int 0)) vT))) (fe:=VL.os (ag (oV 0) (ag (o2 (oV 1) (oV 0) fC) (ax))) cg) (δ:=[.fz (.dict (dctD (lI A)))]) (h:=fun k:Nat=>PyData.int (k:Int)) (k:=fun k=>pD (k,vl A k)) (b:=fun k=>decide (0<k/\0<vl A k)) (xs:=rs) (by simp [so]) (by omega) (fun k hk=>by
  have g:=gf k hk
  by_cases h1:0<k
  ·have h1':(0:Int)<(k:Int):=by omega
   by_cases h2:0<vl A k
   ·have h2':(0:Int)<(vl A k:Int):=by omega
    simp [bC,g,h1,h2]
   ·have h2':¬ (0:Int)<(vl A k:Int):=by omega
    simp [bC,g,h1,h2]
  ·have h1':¬ (0:Int)<(k:Int):=by omega
   simp [bC,h1]) (fun k hk _=>by
  have g:=gf k hk
  simp [bC,g,pD])
 have e2:(kj A rs).map pD=(rs.filter fun k=>decide (0<k/\0<vl A k)).map fun k=>pD (k,vl A k):=by unfold kj; rw [List.map_map]; rfl
 rw [e2]
 exact this
theorem B4 (b:Nat) (h:b % 2=1):b ^^^ 1=b-1:=by
 have h1:(b ^^^ 1) / 2=b / 2:=by rw [Nat.xor_div_two,show 1 / 2=0 from rfl,Nat.xor_zero]
 have h2:¬ (b ^^^ 1) % 2=1:=fun z=>by
  rw [Nat.xor_mod_two_eq_one] at z
  exact z ⟨fun _=>rfl,fun _=>h⟩
 omega
theorem DW (b:Nat) (h:b % 2=1):Builtin.bitXor (b:Int) 1=((b-1:Nat):Int):=by
 have:=MA.qV b 1
 rw [B4 b h] at this
 exact this
noncomputable def nv (x:Nat) (e:Int):Nat:=(((x:Int)+e) % 8).toNat
theorem gy (x:Nat) (e:Int):((nv x e:Nat):Int)=((x:Int)+e) % 8:=by unfold nv; omega
theorem rV (x:Nat) (e:Int):nv x e<8:=by unfold nv; omega
structure OkA (A:As):Prop where
 nd:(aq A).Nodup
 z:0∈aq A
 lt:∀ k,vl A k<8
noncomputable def hb (b:Nat):Nat:=b-b % 2
noncomputable def he (b:Nat) (e:Int):Int:=if b % 2=1 then -e else e
noncomputable def lK (A:As) (b:Nat) (e:Int):As:=if b % 2=1 then jP A 0 (nv (vl A 0) e) else A
noncomputable def oy (A:As) (b:Nat) (e:Int):As:=if 0<hb b then jP (lK A b e) (hb b) (nv (vl (lK A b e) (hb b)) (he b e)) else lK A b e
theorem nD {A:As} (h:OkA A) (k v:Nat) (hv:v<8):OkA (jP A k v):=by
 refine ⟨qH h.nd k v,?_,fun j=>?_⟩
 ·rw [kD]
  split
  ·exact h.z
  ·exact List.mem_append_left _ h.z
 ·rw [fG]
  split
  ·exact hv
  ·exact h.lt j
theorem ok1 {A:As} (h:OkA A) (b:Nat) (e:Int):OkA (lK A b e):=by
 unfold lK
 split
 ·exact nD h _ _ (rV _ _)
 ·exact h
theorem AM {A:As} (h:OkA A) (b:Nat) (e:Int):OkA (oy A b e):=by
 unfold oy
 split
 ·exact nD (ok1 h b e) _ _ (rV _ _)
 ·exact ok1 h b e
theorem jS (A:As) (k v:Nat):(jP A k v).length<=A.length+1:=by
 unfold jP
 split
 ·rw [List.length_map]; omega
 ·simp
theorem vy {A:As} (h:0∈aq A) (v:Nat):(jP A 0 v).length=A.length:=by
 unfold jP
 rw [if_pos ((gl A 0).mpr h),List.length_map]
theorem pE {A:As} (h:OkA A) (b:Nat) (e:Int):(lK A b e).length=A.length/\(oy A b e).length<=A.length+1:=by
 have l1:(lK A b e).length=A.length:=by
  unfold lK
  split
  ·exact vy h.z _
  ·rfl
 refine ⟨l1,?_⟩
 unfold oy
 split
 ·have:=jS (lK A b e) (hb b) (nv (vl (lK A b e) (hb b)) (he b e)); omega
 ·omega
theorem Dz {b:Nat} (h:0<hb b):0≠hb b:=by omega
theorem EG (A:As) (b:Nat) (e:Int) (k:Nat) (hk:0<k):vl (lK A b e) k=vl A k:=by
 unfold lK
 split
 ·rw [fG,if_neg (by omega)]
 ·rfl
theorem yR (A:As) (b:Nat) (e:Int):vl (oy A b e) 0=if b % 2=1 then nv (vl A 0) e else vl A 0:=by
 have q:vl (lK A b e) 0=if b % 2=1 then nv (vl A 0) e else vl A 0:=by
  unfold lK
  split
  ·rw [fG,if_pos rfl]
  ·rfl
 unfold oy
 split
 ·rename_i h
  rw [fG,if_neg (Dz h),q]
 ·exact q
theorem Gc (A:As) (b:Nat) (e:Int) (k:Nat) (hk:0<k):vl (oy A b e) k=if k=hb b then nv (vl A k) (he b e) else vl A k:=by
 unfold oy
 split
 ·rename_i h
  rw [fG,EG A b e _ h,EG A b e _ hk]
  split
  ·rename_i z; rw [z]
  ·rfl
 ·rename_i h
  rw [if_neg (by omega),EG A b e _ hk]
theorem vD {A:As} (h:OkA A) (hl:A.length<1000) (b:Nat) (e:Int):bc (bB A) [.int b,.int e]=some (bB (oy A b e)):=by
 have l:=pE h b e
 have sz:sizeLine>=1001:=by decide
 have e1:(if ((b % 2:Nat):Int)=1 then dQ (bB A) (.inl 0) (.int (((vl A 0:Nat)+e) % 8)) else bB A)=bB (lK A b e):=by
  unfold lK
  by_cases o:b % 2=1
  ·rw [if_pos o,if_pos (by omega),<- gy]
   exact gg A 0 _
  ·rw [if_neg o,if_neg (by omega)]
 have e2:(if ((b % 2:Nat):Int)=1 then (b:Int)-1 else b)=((hb b:Nat):Int):=by
  unfold hb
  by_cases o:b % 2=1
  ·rw [if_pos (by omega)]; omega
  ·rw [if_neg (by omega)]; omega
 have e3:(if ((b % 2:Nat):Int)=1 then -e else e)=he b e:=by
  unfold he
  by_cases o:b % 2=1
  ·rw [if_pos o,if_pos (by omega)]
  ·rw [if_neg o,if_neg (by omega)]
 have q:=Ft b e ((b % 2:Nat):Int) (hb b:Nat) (he b e) (vl A 0:Nat) (vl (lK A b e) (hb b):Nat) (bB A) (bB (lK A b e)) (by omega) (nQ h.z) e1 e2 e3 (vV _ _) (by unfold bB; rw [List.length_map]; omega) (by unfold bB; rw [List.length_map]; omega)
 have e4:(if (0:Int)<((hb b:Nat):Int) then dQ (bB (lK A b e)) (.inl (hb b:Nat)) (.int (((vl (lK A b e) (hb b):Nat)+he b e) % 8)) else bB (lK A b e))=bB (oy A b e):=by
  unfold oy
  by_cases o:0<hb b
  ·rw [if_pos o,if_pos (by omega),<- gy]
   exact gg _ _ _
  ·rw [if_neg o,if_neg (by omega)]
 rw [e4] at q
 exact Fs _ _ _ _ _ _ q
theorem io (A:As) (rs:List Nat):aq (kj A rs)=rs.filter fun k=>decide (0<k/\0<vl A k):=by
 unfold aq kj
 rw [List.map_map]
 exact List.map_id' _
theorem AO {A:As} (h:OkA A) {rs:List Nat} (p:rs.Perm (aq A)):(aq (kj A rs)).Nodup:=by
 rw [io]
 exact List.Nodup.sublist List.filter_sublist (p.nodup_iff.mpr h.nd)
theorem qI {A:As} {k:Nat} (h:vl A k≠0):k∈aq A:=Classical.byContradiction fun z=>h (gZ z)
theorem zB {A:As} (h:OkA A) {rs:List Nat} (p:rs.Perm (aq A)) (k:Nat):vl (kj A rs) k=if 0<k then vl A k else 0:=by
 by_cases hk:k∈aq (kj A rs)
 ·have hk':=hk
  rw [io,List.mem_filter] at hk'
  obtain ⟨h1,h2⟩:=hk'
  have h2:0<k/\0<vl A k:=by simpa using h2
  rw [if_pos h2.1]
  exact iN (AO h p) (p:=(k,vl A k)) (List.mem_map.mpr ⟨k,List.mem_filter.mpr ⟨h1,by simpa using h2⟩,rfl⟩)
 ·rw [gZ hk]
  by_cases h0:0<k
  ·rw [if_pos h0]
   refine Classical.byContradiction fun z=>hk ?_
   rw [io,List.mem_filter]
   exact ⟨p.mem_iff.mpr (qI (Ne.symm z)),by simp [h0]; omega⟩
  ·rw [if_neg h0]
noncomputable def pB (S:As) (b:Nat) (e:Int):As:=if hb b=0 then S else jP S (hb b) (nv (vl S (hb b)) (he b e))
structure HB (first:Nat) (hs:List Nat) (bit:Int) (i:Nat):Prop where
 len:hs.length=i
 pw:hs.Pairwise (· < ·)
 lo:∀ h∈hs,first<=h
 hi:∀ h∈hs,(h:Int)<=bit
 b1:(first:Int)-1<=bit
 b2:bit<=(first:Int)-1+41*i
theorem HB.more {first i:Nat} {hs:List Nat} {bit:Int} (h:HB first hs bit i) (d:Int) (h0:0<=d) (h1:d<=40):HB first (hs++[(bit+1+d).toNat]) (bit+1+d) (i+1) where
 len:=by rw [List.length_append,h.len]; rfl
 pw:=by
  refine List.pairwise_append.mpr ⟨h.pw,List.pairwise_singleton _ _,fun a ha b hb=>?_⟩
  rw [List.mem_singleton.mp hb]
  have:=h.hi a ha
  omega
 lo:=fun a ha=>by
  rcases List.mem_append.mp ha with ha | ha
  ·exact h.lo a ha
  ·rw [List.mem_singleton.mp ha]; have:=h.b1; omega
 hi:=fun a ha=>by
  rcases List.mem_append.mp ha with ha | ha
  ·have:=h.hi a ha; omega
  ·rw [List.mem_singleton.mp ha]; have:=h.b1; omega
 b1:=by have:=h.b1; omega
 b2:=by have:=h.b2; omega
theorem FX (hd bit k c m z v:Int) (C:D) (W:List D) (x2:Sl) (g:aL [C,.int k]=some (.int c)) (hz:hd / 45 % 4=z) (ha:jr [PyData.int 1,.int 1,.int 2,.int 40] z=some (.int m)) (hm:0<m) (hv:bit+1+c % m=v) (hl:W.length<sizeLine) :
  bW [.fz (.int hd),.fz C,x2,.ow W,.fz (.int bit),.fz (.int k)]=some (.nx,[.fz (.int hd),.fz C,x2,.ow (W++[.int v]),.fz (.int v),.fz (.int k)]):=by
 have hmod:=pq (i:=c) hm
 simp [bW,g,hz,ha,hmod,hv,hl]
theorem FV (hd n f:Int) (C:D) (L W:List D) (x4 x5:Sl) (hn:hd / 9 % 6=n) (r:j9 [.int n]=some L) (lp:loop (gN 5) bW L [.fz (.int hd),.fz C,.fz (.int f),.ow [],.fz (.int (f-1)),.un]=some (.nx,[.fz (.int hd),.fz C,.fz (.int f),.ow W,x4,x5])):aS [.int hd,C,.int f]=some (.list W):=by
 simp [aS,aW,dY,aC,hn,r,lp,BU]
theorem qX (hd first:Nat) (cells:List Int):∃ hs:List Nat,aS [.int hd,.list (cells.map .int),.int first]=some (.list (ai hs))/\hs.length<=5/\hs.Pairwise (· < ·)/\∀ h∈hs,first<=h/\h<=first+205:=by
 obtain ⟨n,hn⟩:∃ n:Nat,(hd:Int) / 9 % 6=n:=⟨hd / 9 % 6,by omega⟩
 have hn4:n<=5:=by omega
 have r:=CI (n:=n) (by omega)
 obtain ⟨δ,e,hs,bit,x5,hb,rfl⟩:=vv (b:=bW) (k:=5) (fun i δ=>∃ (hs:List Nat) (bit:Int) (x5:Sl),HB first hs bit i /\ δ = [.fz (.int hd),.fz (.list (cells.map .int)),.fz (.int first),.ow (ai hs),.fz (.int bit),x5]) n (fun i hi δ hdl=>by
  obtain ⟨hs,bit,x5,hb,rfl⟩:=hdl
  obtain ⟨c,hc⟩:=sG cells i (by omega)
  obtain ⟨z,hz⟩:∃ z:Nat,(hd:Int) / 45 % 4=z:=⟨hd / 45 % 4,by omega⟩
  obtain ⟨m,ha,hm,hm2⟩:∃ m:Int,jr [PyData.int 1,.int 1,.int 2,.int 40] (z:Int)=some (.int m)/\0<m/\m<=40:=by
   have:z=0\/z=1\/z=2\/z=3:=by omega
   rcases this with rfl | rfl | rfl | rfl
   ·exact ⟨1,rfl,by decide,by decide⟩
   ·exact ⟨1,rfl,by decide,by decide⟩
   ·exact ⟨2,rfl,by decide,by decide⟩
   ·exact ⟨40,rfl,by decide,by decide⟩
  have d0:0<=c % m:=Int.emod_nonneg _ (by omega)
  have d1:c % m<m:=Int.emod_lt_of_pos _ hm
  refine ⟨_,FX hd bit i c m z _ _ (ai hs) _ hc hz ha hm rfl (by rw [cF,hb.len,sizeLine_eq]; omega),hs++[(bit+1+c % m).toNat],bit+1+c % m,.fz (.int i),hb.more _ d0 (by omega),?_⟩
  have:ai (hs++[(bit+1+c % m).toNat])=ai hs++[.int (bit+1+c % m)]:=by
   rw [gh]
   unfold ai
   rw [List.map_cons,List.map_nil,Int.toNat_of_nonneg (by have:=hb.b1; omega)]
  rw [this]) [.fz (.int hd),.fz (.list (cells.map .int)),.fz (.int first),.ow [],.fz (.int ((first:Int)-1)),.un] ⟨[],_,.un,⟨rfl,.nil,fun h q=>(by cases q),fun h q=>(by cases q),Int.le_refl _,by omega⟩,rfl⟩
 refine ⟨hs,FV hd n first _ _ _ _ _ hn r e,by rw [hb.len]; exact hn4,hb.pw,fun h hh=>⟨hb.lo h hh,?_⟩⟩
 have:=hb.hi h hh
 have:=hb.b2
 omega
noncomputable def b7 (l:List Nat):List (ay×D):=l.map fun p:Nat=>(.inl ((p:Nat):Int),.bool true)
theorem mO:∀ l:List Nat,gB (b7 l)=some (l.map fun p:Nat=>((p:Nat):Int))
 | []=>rfl
 | p::r=>by
  show ((Dl (Sum.inl (p:Int))).bind fun i=>(gB (b7 r)).bind fun l=>some (i::l))=_
  rw [mO r]; rfl
noncomputable def zX:Sf:=aU 2 (o2 (oC (.int 1)) (o2 (oV 0) (oC (.int 3)) aV) aR)
noncomputable def zW:Sf:=aU 3 (o2 (o2 (oV 0) (oC (.int 3)) dq) (oC (.int 3)) aV)
noncomputable def zV:Sf:=aU 4 (VL.os (ag (oV 0) (ag (oV 1) (ag (o2 (o2 (o2 (oC (.int 2)) (oV 2) gO) (oC (.int 1)) aR) (oV 3) aR) (ax)))) aS)
noncomputable def zU:Sf:=aU 5 (o2 (o1 (o2 (o2 (o2 (oC (.int 2)) (oV 2) gO) (oC (.int 1)) aR) (oV 3) aR) jm) (oV 4) aR)
noncomputable def Cs:Sf:=j8 6
noncomputable def Cr:Sf:=j8 7
noncomputable def zT:Sf:=fP (oI (oV 1) ba) (gN 8) (aX)
noncomputable def zS:Sf:=aU 11 (o2 (o2 (o2 (oV 0) (oC (.int 180)) dq) (oC (.int 13)) aV) (oC (.int 6)) fM)
noncomputable def sX:Sf:=dZ (ob (o2 (o2 (o2 (oV 0) (oC (.int 2340)) dq) (oC (.int 9)) aV) (oC (.int 1)) gn)) (aU 11 (o2 (o2 (o2 (oV 0) (oC (.int 2340)) dq) (oC (.int 401)) aV) (oC (.int 200)) fM)) (iR)
noncomputable def yX:Sf:=fun δ=>(aU 12 (VL.os (ag (bH) (ax)) bM)) (lO 6 δ)
noncomputable def uJ:Sf:=b0 (VL.os (ag (VL.os (ag (oV 2) (ag (oV 3) (ax))) cg) (ag (oV 11) (ag (o2 (o2 (oV 0) (oC (.int 7)) dq) (oC (.int 8)) aV) (ag (oV 12) (ag (VL.os (ag (fR 7) (ax)) bM) (ag (VL.os (ag (oV 4) (ax)) bM) (ax))))))) cg)
theorem Cp:du=az zX (az zW (az zV (az zU (az Cs (az Cr (az zT (az zS (az sX (az yX (uJ)))))))))):=rfl
theorem y0 (al:List Nat) (hb:∀ a∈al,a<=1000):∀ l:List Nat,(∀ k∈l,k<al.length)->(l.map fun k=>2 ^ al.getD k 0).sum<=l.length*2 ^ 1000
 | [],_=>by simp
 | k::l,h=>by
  have h1:=y0 al hb l fun k hk=>h k (List.mem_cons_of_mem _ hk)
  have h2:2 ^ al.getD k 0<=2 ^ 1000:=Nat.pow_le_pow_right (by decide) (hb _ (pO (h k List.mem_cons_self)))
  rw [List.map_cons,List.sum_cons,List.length_cons,Nat.add_mul,Nat.one_mul]
  omega
noncomputable def lq:Nat:=2 ^ 1100
theorem CN (al:List Nat) (hb:∀ a∈al,a<=1000) (l:List Nat) (h:∀ k∈l,k<al.length) (hl:l.length<=1000):(l.map fun k=>2 ^ al.getD k 0).sum<lq:=by
 have h1:=y0 al hb l h
 have h2:l.length*2 ^ 1000<=1000*2 ^ 1000:=Nat.mul_le_mul_right _ hl
 have h3:1000*2 ^ 1000<lq:=by decide +kernel
 omega
theorem Cq (al:List Nat) (T:Nat) (x0 x1 x2 x3 x4 x6 x7 x8 x10 x11 x12:Sl) (hl:al.length<=1000) (hb:∀ a∈al,a<=1000):∃ (S:D) (b:Nat),b<lq/\bI [x0,x1,x2,x3,x4,.fz (.list (ai al)),x6,x7,x8,.fz (.int T),x10,x11,x12]=some S/\jX [S]=some (.int (b:Int)):=by
 have hs:=uE (fun k=>2 ^ al.getD k 0) ((List.range al.length).filter fun k=>decide (T / 2 ^ (k+6) % 2=1))
 have hlt:=CN al hb ((List.range al.length).filter fun k=>decide (T / 2 ^ (k+6) % 2=1)) (fun k hk=>List.mem_range.mp (List.mem_filter.mp hk).1) (by
  have:=List.length_filter_le (fun k=>decide (T / 2 ^ (k+6) % 2=1)) (List.range al.length)
  rw [List.length_range] at this; omega)
 generalize (((List.range al.length).filter fun k=>decide (T / 2 ^ (k+6) % 2=1)).map fun k=>2 ^ al.getD k 0).sum=b at hs hlt
 refine ⟨.list (((List.range al.length).filter fun k=>decide (T / 2 ^ (k+6) % 2=1)).map fun k=>.int ((2 ^ al.getD k 0:Nat):Int)),b,hlt,?_,by rw [oO (fun k=>((2 ^ al.getD k 0:Nat):Int)),hs]⟩
 unfold bI
 refine bw (xs:=List.range al.length) (h:=fun k:Nat=>PyData.int (0+(k:Int))) ?_ (by rw [List.length_range]; omega) (fun k hk=>?_) fun k hk _=>?_
 ·have h1:jA [.list (ai al)]=some (.int (al.length:Int)):=by rw [mE,cF]
  refine C5 (ds:=[.int (al.length:Int)]) ?_ (CI (by omega))
  simp only [ag,VL.os,oV,ax]
  show (((some (PyData.list (ai al))).bind fun x=>some [x]).bind jA).bind _=_
  simp only [Option.bind_some,h1]
 ·have s:=jN T (k+6)
  have m:=kA (T / 2 ^ (k+6))
  rw [show ((k+6:Nat):Int)=(k:Int)+6 by omega] at s
  have d:decide (T / 2 ^ (k+6) % 2=1)=(((T / 2 ^ (k+6) % 2:Nat):Int)==1):=by
   rcases Nat.mod_two_eq_zero_or_one (T / 2 ^ (k+6)) with h | h <;> rw [h] <;> rfl
  rw [d]
  generalize T / 2 ^ (k+6) % 2=z at *
  generalize T / 2 ^ (k+6)=y at *
  rw [Int.zero_add]
  simp only [ob,o2,oV,oC,bC]
  simp [s,m]
 ·have hk':=List.mem_range.mp hk
  have a:=vn al hk'
  have p:=ie (k:=al.getD k 0) (by have:=hb _ (pO hk'); omega)
  rw [Int.zero_add]
  generalize 2 ^ al.getD k 0=z at *
  generalize al.getD k 0=y at *
  simp [bC,a,p]
noncomputable def sA:Sf:=aU 9 (VL.os (ag (oV 8) (ax)) bA)
noncomputable def sB:Sf:=aU 10 (VL.os (ag (bI) (ax)) jX)
noncomputable def Eh:Dv->Option Bool:=gM (ob (o2 (o2 (oV 9) (oC (.int 5)) aV) (oC (.int 1)) gn)) (gM (ob (o2 (kr 7) (oC (.int 4)) BO)) (ob (o2 (oV 10) (oC (.int 0)) vT)))
noncomputable def Eg:Dv->Option Bool:=gM (ob (o2 (o2 (oV 9) (oC (.int 5)) aV) (oC (.int 1)) neD)) (gM (ob (o2 (oV 10) (oC (.int 1)) vT)) (ob (o2 (kr 6) (oC (.int 12)) BO)))
noncomputable def En:Sf:=br 7 (oV 10) (oC (.bool true))
noncomputable def zo:Dv->Option D:=o2 (VL.os (ag (o2 (oC (.int 1)) (o2 (o2 (oV 9) (oC (.int 5)) dq) (oC (.int 7)) aV) aR) (ag (o2 (oC (.int 2)) (o2 (oC (.int 2)) (o2 (o2 (oV 9) (oC (.int 5)) dq) (oC (.int 3)) aV) gO) aR) (ax))) fF) (VL.os (ag (oC (.int 1)) (ag (o2 (o2 (oV 0) (oC (.int 11)) dq) (oC (.int 3)) aV) (ax))) vq) aK
noncomputable def Eo:Sf:=br 6 (o2 (oV 10) (o2 (oV 10) (oC (.int 2)) aV) fM) zo
theorem tR:aX=az sA (az sB (dZ Eh En (dZ Eg Eo iR))):=rfl
section
variable (x0 x1 x2 x3 x4 x5 x6 x7 x8 x9 x10 x11 x12:Sl) (E6 E7:List (ay×D)) (T b:Int)
theorem CH (cell T:Int) (h:bA [.int cell]=some (.int T)):sA [x0,x1,x2,x3,x4,x5,x6,x7,.fz (.int cell),x9,x10,x11,x12]=some (.nx,[x0,x1,x2,x3,x4,x5,x6,x7,.fz (.int cell),.fz (.int T),x10,x11,x12]):=by simp [sA,h]
theorem CF (S:D) (hp:bI [x0,x1,x2,x3,x4,x5,x6,x7,x8,x9,x10,x11,x12]=some S) (hs:jX [S]=some (.int b)):sB [x0,x1,x2,x3,x4,x5,x6,x7,x8,x9,x10,x11,x12]=some (.nx,[x0,x1,x2,x3,x4,x5,x6,x7,x8,x9,.fz (.int b),x11,x12]):=by simp [sB,hp,hs]
theorem Hb:kr 7 [x0,x1,x2,x3,x4,x5,x6,.od E7,x8,x9,x10,x11,x12]=some (.int (E7.length:Int)):=rfl
theorem Hc:kr 6 [x0,x1,x2,x3,x4,x5,.od E6,x7,x8,x9,x10,x11,x12]=some (.int (E6.length:Int)):=rfl
theorem Ck (n:Int) (hn:(E7.length:Int)=n):Eh [x0,x1,x2,x3,x4,x5,x6,.od E7,x8,.fz (.int T),.fz (.int b),x11,x12]=some (decide (T % 5=1)&&(decide (n<4)&&decide (0<b))):=by
 have l:=Hb x0 x1 x2 x3 x4 x5 x6 x8 (.fz (.int T)) (.fz (.int b)) x11 x12 E7
 rw [hn] at l
 unfold Eh
 simp only [gM,ob,o2,l]
 by_cases h1:T % 5=1 <;> by_cases h2:n<4 <;> by_cases h3:0<b <;> simp [h1,h2,h3]
theorem Cj (n:Int) (hn:(E6.length:Int)=n):Eg [x0,x1,x2,x3,x4,x5,.od E6,x7,x8,.fz (.int T),.fz (.int b),x11,x12]=some (decide (¬ T % 5=1)&&(decide (1<b)&&decide (n<12))):=by
 have l:=Hc x0 x1 x2 x3 x4 x5 x7 x8 (.fz (.int T)) (.fz (.int b)) x11 x12 E6
 rw [hn] at l
 unfold Eg
 simp only [gM,ob,o2,l]
 by_cases h1:T % 5=1 <;> by_cases h2:n<12 <;> by_cases h3:1<b <;> simp [h1,h2,h3]
theorem CY (E7':List (ay×D)) (hl:E7.length<sizeLine) (hp:dQ E7 (.inl b) (.bool true)=E7'):En [x0,x1,x2,x3,x4,x5,x6,.od E7,x8,x9,.fz (.int b),x11,x12]=some (.nx,[x0,x1,x2,x3,x4,x5,x6,.od E7',x8,x9,.fz (.int b),x11,x12]):=by
 subst hp
 have k:gP (.int b)=some (.inl b):=rfl
 simp only [En,br,oC,oV,Option.bind_some]
 show (qw (some (.od E7))).bind _=_
 rw [uN,Option.bind_some]
 show (wG (some (.fz (.int b)))).bind _=_
 rw [iP,Option.bind_some,k,Option.bind_some,if_pos hl]
 rfl
theorem DH (hd:Int):∃ v:Nat,1<=v/\v<=7/\zo [.fz (.int hd),x1,x2,x3,x4,x5,x6,x7,x8,.fz (.int T),x10,x11,x12]=some (.int v):=by
 have mk:gO (.int 2) (.int (T / 5 % 3))=some (.int (2*(T / 5 % 3))):=pj (.of_left (by decide))
 have hz:hd / 11 % 3=0\/hd / 11 % 3=1\/hd / 11 % 3=2:=by omega
 have key:∀ u:Int,1<=u->u<=7->zo [.fz (.int hd),x1,x2,x3,x4,x5,x6,x7,x8,.fz (.int T),x10,x11,x12]=some (.int u)->∃ v:Nat,1<=v/\v<=7/\zo [.fz (.int hd),x1,x2,x3,x4,x5,x6,x7,x8,.fz (.int T),x10,x11,x12]=some (.int v):=fun u h1 h2 e=>⟨u.toNat,by omega,by omega,by rw [e,Int.toNat_of_nonneg (by omega)]⟩
 rcases hz with h | h | h
 ·exact key (1+T / 5 % 7) (by omega) (by omega) (by simp [zo,mk,h])
 ·exact key (2+2*(T / 5 % 3)) (by omega) (by omega) (by simp [zo,mk,h])
 ·exact key (2+2*(T / 5 % 3)) (by omega) (by omega) (by simp [zo,mk,h])
theorem CZ (E6':List (ay×D)) (k v:Int) (hl:E6.length<sizeLine) (hk:b-b % 2=k) (hv:zo [x0,x1,x2,x3,x4,x5,.od E6,x7,x8,.fz (.int T),.fz (.int b),x11,x12]=some (.int v)) (hp:dQ E6 (.inl k) (.int v)=E6'):Eo [x0,x1,x2,x3,x4,x5,.od E6,x7,x8,.fz (.int T),.fz (.int b),x11,x12]=some (.nx,[x0,x1,x2,x3,x4,x5,.od E6',x7,x8,.fz (.int T),.fz (.int b),x11,x12]):=by
 subst hp
 have kk:gP (.int k)=some (.inl k):=rfl
 have f1:(o2 (oV 10) (o2 (oV 10) (oC (.int 2)) aV) fM) [x0,x1,x2,x3,x4,x5,.od E6,x7,x8,.fz (.int T),.fz (.int b),x11,x12]=some (.int k):=by simp [hk]
 simp only [Eo,br,f1,hv,Option.bind_some]
 show (qw (some (.od E6))).bind _=_
 rw [uN,Option.bind_some,kk,Option.bind_some,if_pos hl]
 rfl
end
structure OkT (A:As) (n:Nat):Prop where
 nd:(aq A).Nodup
 e:∀ p∈A,2<=p.1/\p.1 % 2=0/\p.1<lq/\1<=p.2/\p.2<=7
 l:A.length<=n
structure OkU (ts:List Nat) (n:Nat):Prop where
 nd:ts.Nodup
 e:∀ t∈ts,0<t/\t<lq
 l:ts.length<=n
theorem xZ {A:As} {k v:Nat} {q:Nat×Nat} (h:q∈jP A k v):q∈A\/q=(k,v):=by
 unfold jP at h
 split at h
 ·obtain ⟨p,hp,rfl⟩:=List.mem_map.mp h
  by_cases e:p.1=k
  ·rw [if_pos e,e]; exact .inr rfl
  ·rw [if_neg e]; exact .inl hp
 ·rcases List.mem_append.mp h with h | h
  ·exact .inl h
  ·exact .inr (List.mem_singleton.mp h)
theorem OkT.put {A:As} {n k v:Nat} (h:OkT A n) (h1:2<=k/\k % 2=0/\k<lq/\1<=v/\v<=7):OkT (jP A k v) (n+1) where
 nd:=qH h.nd k v
 e:=fun p hp=>by
  rcases xZ hp with hp | rfl
  ·exact h.e p hp
  ·exact h1
 l:=by
  have:=h.l
  have:=jS A k v
  omega
noncomputable def iL (ts:List Nat) (k:Nat):List Nat:=if k∈ts then ts else ts++[k]
theorem OkU.put {ts:List Nat} {n k:Nat} (h:OkU ts n) (h1:0<k/\k<lq):OkU (iL ts k) (n+1):=by
 unfold iL
 split
 ·exact ⟨h.nd,h.e,by have:=h.l; omega⟩
 ·rename_i z
  refine ⟨?_,fun t ht=>?_,by rw [List.length_append]; have:=h.l; simp; omega⟩
  ·rw [List.nodup_append]
   exact ⟨h.nd,by simp,fun a ha b hb=>by rw [List.mem_singleton.mp hb]; exact fun q=>z (q ▸ ha)⟩
  ·rcases List.mem_append.mp ht with ht | ht
   ·exact h.e t ht
   ·rw [List.mem_singleton.mp ht]; exact h1
theorem pW (l:List Nat) (k:Nat):dQ (b7 l) (.inl (k:Int)) (.bool true)=b7 (iL l k):=by
 have e:∀ l:List Nat,((b7 l).any fun p=>decide (p.1=.inl (k:Int)))=decide (k∈l):=fun l=>by
  induction l with
  | nil=>rfl
  | cons a l ih=>
   have h:b7 (a::l)=(.inl (a:Int),.bool true)::b7 l:=rfl
   rw [h,List.any_cons,ih]
   by_cases q:k=a
   ·subst q; simp
   ·have:¬ ((Sum.inl (a:Int):ay)=.inl (k:Int)):=fun z=>q (by injection z with z; omega)
    simp [q,this]
 unfold dQ iL
 rw [e l]
 by_cases h:k∈l
 ·simp only [h,decide_true,if_true]
  unfold b7
  rw [List.map_map]
  apply List.map_congr_left
  intro a _
  show (if _ then _ else _)=_
  split
  ·rename_i z
   have z:(Sum.inl (a:Int):ay)=.inl (k:Int):=by simpa using z
   show (Sum.inl (a:Int),_)=_
   rw [z]
  ·rfl
 ·simp only [h,decide_false,if_false]
  unfold b7
  rw [List.map_append]
  rfl
theorem xj (hd:Int) (C W L Hd:D) (al:List Nat) (l6:As) (l7:List Nat) (cell:Int) (x9 x10 x11 x12:Sl) (hl:al.length<=1000) (hb:∀ a∈al,a<=1000) (h6:OkT l6 12) (h7:OkU l7 4) :
  ∃ (l6':As) (l7':List Nat) (y9 y10:Sl),OkT l6' 12/\OkU l7' 4/\aX [.fz (.int hd),.fz C,.fz W,.fz L,.fz Hd,.fz (.list (ai al)),.od (bB l6),.od (b7 l7),.fz (.int cell),x9,x10,x11,x12]=some (.nx,[.fz (.int hd),.fz C,.fz W,.fz L,.fz Hd,.fz (.list (ai al)),.od (bB l6'),.od (b7 l7'),.fz (.int cell),y9,y10,x11,x12]):=by
 obtain ⟨T,hT⟩:=tQ cell
 obtain ⟨S,b,hlt,hp,hs⟩:=Cq al T (.fz (.int hd)) (.fz C) (.fz W) (.fz L) (.fz Hd) (.od (bB l6)) (.od (b7 l7)) (.fz (.int cell)) x10 x11 x12 hl hb
 have e6:(bB l6).length=l6.length:=by simp [bB]
 have e7:(b7 l7).length=l7.length:=by simp [b7]
 have z6:(bB l6).length<sizeLine:=by rw [e6,sizeLine_eq]; have:=h6.l; omega
 have z7:(b7 l7).length<sizeLine:=by rw [e7,sizeLine_eq]; have:=h7.l; omega
 have go:aX [.fz (.int hd),.fz C,.fz W,.fz L,.fz Hd,.fz (.list (ai al)),.od (bB l6),.od (b7 l7),.fz (.int cell),x9,x10,x11,x12]=(dZ Eh En (dZ Eg Eo iR)) [.fz (.int hd),.fz C,.fz W,.fz L,.fz Hd,.fz (.list (ai al)),.od (bB l6),.od (b7 l7),.fz (.int cell),.fz (.int T),.fz (.int b),x11,x12]:=by
  rw [tR]
  exact (iW (CH _ _ _ _ _ _ _ _ _ _ _ _ cell T hT)).trans (iW (CF _ _ _ _ _ _ _ _ _ _ _ _ _ b S hp hs))
 have t1:=Ck (.fz (.int hd)) (.fz C) (.fz W) (.fz L) (.fz Hd) (.fz (.list (ai al))) (.od (bB l6)) (.fz (.int cell)) x11 x12 (b7 l7) T b l7.length (by rw [e7])
 have t2:=Cj (.fz (.int hd)) (.fz C) (.fz W) (.fz L) (.fz Hd) (.fz (.list (ai al))) (.od (b7 l7)) (.fz (.int cell)) x11 x12 (bB l6) T b l6.length (by rw [e6])
 rw [go]
 cases q1:(decide ((T:Int) % 5=1)&&(decide ((l7.length:Int)<4)&&decide ((0:Int)<b))) with
 | true=>
  rw [q1] at t1
  simp only [Bool.and_eq_true,decide_eq_true_eq] at q1
  have u:=(OkU.put (n:=3) ⟨h7.nd,h7.e,by omega⟩ (k:=b) ⟨by omega,hlt⟩)
  exact ⟨l6,_,_,_,h6,u,(uT t1).trans (CY _ _ _ _ _ _ _ _ _ _ _ _ _ _ z7 (pW l7 b))⟩
 | false=>
  rw [q1] at t1
  cases q2:(decide (¬ (T:Int) % 5=1)&&(decide ((1:Int)<b)&&decide ((l6.length:Int)<12))) with
  | true=>
   rw [q2] at t2
   simp only [Bool.and_eq_true,decide_eq_true_eq] at q2
   obtain ⟨k,hk⟩:∃ k:Nat,(b:Int)-(b:Int) % 2=k:=⟨b-b % 2,by omega⟩
   obtain ⟨v,v1,v7,hv⟩:=DH (.fz C) (.fz W) (.fz L) (.fz Hd) (.fz (.list (ai al))) (.od (bB l6)) (.od (b7 l7)) (.fz (.int cell)) (.fz (.int b)) x11 x12 T hd
   have u:=(OkT.put (n:=11) ⟨h6.nd,h6.e,by omega⟩ (k:=k) (v:=v) ⟨by omega,by omega,by omega,v1,v7⟩)
   exact ⟨_,l7,_,_,u,h7,(rF t1).trans ((uT t2).trans (CZ _ _ _ _ _ _ _ _ _ _ _ _ _ _ k _ z6 hk hv (gg l6 k v)))⟩
  | false=>
   rw [q2] at t2
   exact ⟨l6,l7,_,_,h6,h7,(rF t1).trans ((rF t2).trans rfl)⟩
theorem xk (hd:Int) (W L Hd:D) (al:List Nat) (cells:List Int) (x11 x12:Sl) (hl:al.length<=1000) (hb:∀ a∈al,a<=1000):∃ (l6:As) (l7:List Nat) (y8 y9 y10:Sl),OkT l6 12/\OkU l7 4 /\
  loop (gN 8) aX (cells.map .int) [.fz (.int hd),.fz (.list (cells.map .int)),.fz W,.fz L,.fz Hd,.fz (.list (ai al)),.od [],.od [],.un,.un,.un,x11,x12]=some (.nx,[.fz (.int hd),.fz (.list (cells.map .int)),.fz W,.fz L,.fz Hd,.fz (.list (ai al)),.od (bB l6),.od (b7 l7),y8,y9,y10,x11,x12]):=by
 obtain ⟨δ',e,l6,l7,y8,y9,y10,h6,h7,rfl⟩:=rZ (g:=gN 8) (b:=aX) (fun δ=>∃ (l6:As) (l7:List Nat) (y8 y9 y10:Sl),OkT l6 12/\OkU l7 4 /\ δ = [.fz (.int hd),.fz (.list (cells.map .int)),.fz W,.fz L,.fz Hd,.fz (.list (ai al)),.od (bB l6),.od (b7 l7),y8,y9,y10,x11,x12]) (cells.map .int) (fun d hdm δ hI=>by
  obtain ⟨l6,l7,y8,y9,y10,h6,h7,rfl⟩:=hI
  obtain ⟨cell,_,rfl⟩:=List.mem_map.mp hdm
  obtain ⟨l6',l7',z9,z10,k6,k7,q⟩:=xj hd (.list (cells.map .int)) W L Hd al l6 l7 cell y9 y10 x11 x12 hl hb h6 h7
  exact ⟨_,rfl,_,q,l6',l7',_,_,_,k6,k7,rfl⟩) [.fz (.int hd),.fz (.list (cells.map .int)),.fz W,.fz L,.fz Hd,.fz (.list (ai al)),.od [],.od [],.un,.un,.un,x11,x12] ⟨[],[],_,_,_,⟨.nil,fun p hp=>(by cases hp),by simp⟩,⟨.nil,fun p hp=>(by cases hp),by simp⟩,rfl⟩
 exact ⟨l6,l7,y8,y9,y10,h6,h7,e⟩
theorem il (rs:List Nat):(rs.map cI).map PyData.int=ai rs:=by
 unfold ai cI
 rw [List.map_map]
 rfl
theorem xo (A:As) (nd:(aq A).Nodup) (hl:A.length<=50):∃ rs:List Nat,fN (.dict (dctD (lI A)))=some (.list (ai rs))/\rs.Perm (aq A)/\rs.Pairwise (· < ·):=by
 obtain ⟨rs,e,p,pw⟩:=hV (aq A) nd
 refine ⟨rs,?_,p,pw⟩
 show (fK (dctD (lI A))).bind _=_
 rw [cA,Option.bind_some,vE,ip,Option.bind_some,if_pos (by rw [List.length_map]; unfold aq; rw [List.length_map]; omega),e,il]
theorem ma (l:List Nat) (nd:l.Nodup) (hl:l.length<=50):∃ ss:List Nat,(∀ (δ:Dv) (i:Nat),qw δ[i]? = some (b7 l)->fR i δ = some (.list (ai ss)))/\ss.Perm l/\ss.Pairwise (· < ·):=by
 obtain ⟨ss,e,p,pw⟩:=hV l nd
 refine ⟨ss,fun δ i h=>?_,p,pw⟩
 have k:gB (b7 l)=some (l.map cI):=mO l
 unfold fR
 rw [h,Option.bind_some,k,Option.bind_some,if_pos (by rw [List.length_map]; omega),e,il]
theorem FN (l:As) (x0 x1 x2 x3 x4 x5 x7 x8 x9 x10 x11 x12:Sl):lO 6 [x0,x1,x2,x3,x4,x5,.od (bB l),x7,x8,x9,x10,x11,x12]=[x0,x1,x2,x3,x4,x5,.fz (.dict (dctD (lI l))),x7,x8,x9,x10,x11,x12]:=by
 have h:=nM l
 show (match kH (bB l) with | some l'=>_ | none=>_)=_
 rw [h]
 rfl
theorem xm (l:As) (h:OkT l 12) (x0 x1 x2 x3 x4 x5 x7 x8 x9 x10 x11 x12:Sl):∃ rs:List Nat,rs.Perm (aq l)/\rs.Pairwise (· < ·)/\yX [x0,x1,x2,x3,x4,x5,.od (bB l),x7,x8,x9,x10,x11,x12]=some (.nx,[x0,x1,x2,x3,x4,x5,.fz (.dict (dctD (lI l))),x7,x8,x9,x10,x11,.fz (.tuple ((rs.map fun k=>(k,vl l k)).map pD))]):=by
 have hl:=h.l
 obtain ⟨ss,h1,h2,h3⟩:=xo l h.nd (by omega)
 refine ⟨ss,h2,h3,?_⟩
 show (aU 12 (VL.os (ag (bH) (ax)) bM)) (lO 6 [x0,x1,x2,x3,x4,x5,.od (bB l),x7,x8,x9,x10,x11,x12])=_
 rw [FN]
 have p:bH [x0,x1,x2,x3,x4,x5,.fz (.dict (dctD (lI l))),x7,x8,x9,x10,x11,x12]=some (.list ((ss.map fun k=>(k,vl l k)).map pD)):=by
  unfold bH
  rw [List.map_map]
  refine kU (xs:=ss) (h:=fun s=>.int ((s:Nat):Int)) ?_ (by have:=h2.length_eq; unfold aq at this; rw [List.length_map] at this; omega) fun s hs=>?_
  ·have:(oI (o1 (oV 6) fN) ba) [x0,x1,x2,x3,x4,x5,.fz (.dict (dctD (lI l))),x7,x8,x9,x10,x11,x12]=some (ai ss):=by
    show ((fN (.dict (dctD (lI l))))).bind ba=_
    rw [h1]; rfl
   exact this
  ·have hv:=nP (h2.mem_iff.mp hs)
   have g:fC (.dict (dctD (lI l))) (.int (s:Int))=some (.int (vl l s:Int)):=by
    show (fK (dctD (lI l))).bind _=_
    rw [cA,Option.bind_some]
    show (gP (.int (s:Int))).bind _=_
    rw [pI,Option.bind_some,hv]; rfl
   generalize PyData.dict (dctD (lI l))=Z at *
   simp [bC,g,pD]
 simp only [aU,VL.os,ag,ax,p,Option.bind_some,oJ]
 rfl
noncomputable def cC (A:As):List (Nat×Int):=A.map fun p=>(p.1,(p.2:Int))
theorem fJ (A:As):(cC A).map prD=A.map pD:=by
 unfold cC
 rw [List.map_map]
 rfl
theorem qj (A:As):(cC A).length=A.length:=by simp [cC]
theorem xl (hd w l:Nat) (hv:Int) (ps:List (Nat×Int)) (ts hs:List Nat) (x1 x5 x6 x7 x8 x9 x10:Sl) (q:fR 7 [.fz (.int hd),x1,.fz (.int w),.fz (.int l),.fz (.list (ai hs)),x5,x6,x7,x8,x9,x10,.fz (.int hv),.fz (.tuple (ps.map prD))]=some (.list (ai ts))) :
  uJ [.fz (.int hd),x1,.fz (.int w),.fz (.int l),.fz (.list (ai hs)),x5,x6,x7,x8,x9,x10,.fz (.int hv),.fz (.tuple (ps.map prD))]=some (.rt (oneD w l hv (hd / 7 % 8) ps ts hs),[.fz (.int hd),x1,.fz (.int w),.fz (.int l),.fz (.list (ai hs)),x5,x6,x7,x8,x9,x10,.fz (.int hv),.fz (.tuple (ps.map prD))]):=by
 have t6:∀ a b c d e f:D,cg [a,b,c,d,e,f]=some (.tuple [a,b,c,d,e,f]):=fun a b c d e f=>d8 (by simp)
 have hc:(hd:Int) / 7 % 8=((hd / 7 % 8:Nat):Int):=by omega
 unfold oneD
 generalize ai hs=HS at *
 generalize ai ts=TS at *
 generalize ps.map prD=PS at *
 generalize hd / 7 % 8=c at *
 simp [uJ,q,t6,hc]
structure Sm (w l:Nat) (hv:Int) (c:Nat) (ps:As) (ts hs:List Nat) (n m:Nat):Prop where
 w1:1<=w
 w3:w<=3
 l2:l<=2
 v1:-1000<=hv
 v2:hv<=1000
 c8:c<8
 pk:(aq ps).Pairwise (· < ·)
 pe:∀ p∈ps,2<=p.1/\p.1 % 2=0/\p.1<lq/\1<=p.2/\p.2<=7
 pl:ps.length<=m
 tk:ts.Pairwise (· < ·)
 te:∀ t∈ts,0<t/\t<lq
 tl:ts.length<=m
 hl:hs.length<=n
 pw:hs.Pairwise (· < ·)
 hb:∀ h∈hs,2*w+1+l<=h/\h<900
theorem yd (l:As) (rs:List Nat):aq (rs.map fun k=>(k,vl l k))=rs:=by
 unfold aq
 rw [List.map_map]
 exact List.map_id' rs
theorem E4 {l:As} {n:Nat} (h:OkT l n) {rs:List Nat} (p:rs.Perm (aq l)):∀ q∈(rs.map fun k=>(k,vl l k)),2<=q.1/\q.1 % 2=0/\q.1<lq/\1<=q.2/\q.2<=7:=fun q hq=>by
 obtain ⟨k,hk,rfl⟩:=List.mem_map.mp hq
 obtain ⟨r,hr,rfl⟩:=List.mem_map.mp (p.mem_iff.mp hk)
 have:=h.e r hr
 rw [iN h.nd hr]
 exact this
section
variable (C:D) (x3 x4 x5 x6 x7 x8 x9 x10 x11 x12:Sl)
theorem Ab (hd w:Int) (hw:1+hd % 3=w) (x2:Sl):zX [.fz (.int hd),.fz C,x2,x3,x4,x5,x6,x7,x8,x9,x10,x11,x12]=some (.nx,[.fz (.int hd),.fz C,.fz (.int w),x3,x4,x5,x6,x7,x8,x9,x10,x11,x12]):=by simp [zX,hw]
theorem Aa (hd l:Int) (hl:hd / 3 % 3=l) (x2:Sl):zW [.fz (.int hd),.fz C,x2,x3,x4,x5,x6,x7,x8,x9,x10,x11,x12]=some (.nx,[.fz (.int hd),.fz C,x2,.fz (.int l),x4,x5,x6,x7,x8,x9,x10,x11,x12]):=by simp [zW,hl]
theorem z8 (hd w l f m:Int) (B:D) (mw:gO (.int 2) (.int w)=some (.int m)) (hf:m+1+l=f) (b1:aS [.int hd,C,.int f]=some B):zV [.fz (.int hd),.fz C,.fz (.int w),.fz (.int l),x4,x5,x6,x7,x8,x9,x10,x11,x12]=some (.nx,[.fz (.int hd),.fz C,.fz (.int w),.fz (.int l),.fz B,x5,x6,x7,x8,x9,x10,x11,x12]):=by simp [zV,mw,hf,b1]
theorem zZ (H:D) (w l f m:Int) (B R A:D) (mw:gO (.int 2) (.int w)=some (.int m)) (hf:m+1+l=f) (lr:jm (.int f)=some R) (al:aR R B=some A):zU [.fz H,.fz C,.fz (.int w),.fz (.int l),.fz B,x5,x6,x7,x8,x9,x10,x11,x12]=some (.nx,[.fz H,.fz C,.fz (.int w),.fz (.int l),.fz B,.fz A,x6,x7,x8,x9,x10,x11,x12]):=by
 have e:(o2 (o2 (o2 (oC (.int 2)) (oV 2) gO) (oC (.int 1)) aR) (oV 3) aR) [.fz H,.fz C,.fz (.int w),.fz (.int l),.fz B,x5,x6,x7,x8,x9,x10,x11,x12]=some (.int f):=by simp [mw,hf]
 have e2:(o1 (o2 (o2 (o2 (oC (.int 2)) (oV 2) gO) (oC (.int 1)) aR) (oV 3) aR) jm) [.fz H,.fz C,.fz (.int w),.fz (.int l),.fz B,x5,x6,x7,x8,x9,x10,x11,x12]=some R:=by
  unfold o1
  rw [e]
  exact lr
 unfold zU aU
 show ((((o1 _ jm) _).bind fun x=>((some B).bind fun y=>aR x y)).bind _)=_
 rw [e2,Option.bind_some,Option.bind_some,al]
 rfl
theorem zY (hd h0:Int) (h:hd / 180 % 13-6=h0) (x1 x2:Sl):zS [.fz (.int hd),x1,x2,x3,x4,x5,x6,x7,x8,x9,x10,x11,x12]=some (.nx,[.fz (.int hd),x1,x2,x3,x4,x5,x6,x7,x8,x9,x10,.fz (.int h0),x12]):=by simp [zS,h]
theorem Ct (hd h1:Int) (q:hd / 2340 % 9=1) (h:hd / 2340 % 401-200=h1) (x1 x2:Sl):sX [.fz (.int hd),x1,x2,x3,x4,x5,x6,x7,x8,x9,x10,x11,x12]=some (.nx,[.fz (.int hd),x1,x2,x3,x4,x5,x6,x7,x8,x9,x10,.fz (.int h1),x12]):=by simp [sX,q,h]
theorem Cu (hd:Int) (q:¬ hd / 2340 % 9=1) (x1 x2:Sl):sX [.fz (.int hd),x1,x2,x3,x4,x5,x6,x7,x8,x9,x10,x11,x12]=some (.nx,[.fz (.int hd),x1,x2,x3,x4,x5,x6,x7,x8,x9,x10,x11,x12]):=by simp [sX,q]
end
theorem tO {j:Int} (h:j<=16777216) (h2:-4611686018427387904<=j):jm (.int j)=some (.list (jw 0 j.toNat)):=if_pos ⟨h,h2⟩
theorem tj (f:Nat):jw 0 f=ai (List.range f):=by
 unfold jw ai
 simp
theorem vt {f:Nat} (h:f<=1000):jm (.int (f:Int))=some (.list (ai (List.range f))):=by
 rw [tO (by omega) (by omega),Int.toNat_natCast,tj]
theorem oQ (hd:Nat) (cells:List Int):∃ (w l:Nat) (hv:Int) (c:Nat) (ps:As) (ts hs:List Nat),bu [.int hd,.list (cells.map .int)]=some (oneD w l hv c (cC ps) ts hs)/\Sm w l hv c ps ts hs 5 12:=by
 obtain ⟨w,hw⟩:∃ w:Nat,1+(hd:Int) % 3=w:=⟨1+hd % 3,by omega⟩
 obtain ⟨l,hl⟩:∃ l:Nat,(hd:Int) / 3 % 3=l:=⟨hd / 3 % 3,by omega⟩
 obtain ⟨f,hf⟩:∃ f:Nat,2*(w:Int)+1+l=f:=⟨2*w+1+l,by omega⟩
 obtain ⟨hs,b1,b2,b3,b4⟩:=qX hd f cells
 have mw:gO (.int 2) (.int (w:Int))=some (.int (2*(w:Int))):=pj (.of_left (by decide))
 have lr:=vt (f:=f) (by omega)
 have al:aR (.list (ai (List.range f))) (.list (ai hs))=some (.list (ai (List.range f++hs))):=by
  rw [uo (by rw [cF,cF,List.length_range]; omega),gh]
 obtain ⟨l6,l7,y8,y9,y10,h6,h7,lp⟩:=xk hd (.int w) (.int l) (.list (ai hs)) (List.range f++hs) cells .un .un (by rw [List.length_append,List.length_range]; omega) (fun a ha=>by
  rcases List.mem_append.mp ha with ha | ha
  ·have:=List.mem_range.mp ha; omega
  ·have:=(b4 a ha).2; omega)
 have s7:zT [.fz (.int hd),.fz (.list (cells.map .int)),.fz (.int w),.fz (.int l),.fz (.list (ai hs)),.fz (.list (ai (List.range f++hs))),.od [],.od [],.un,.un,.un,.un,.un]=some (.nx,[.fz (.int hd),.fz (.list (cells.map .int)),.fz (.int w),.fz (.int l),.fz (.list (ai hs)),.fz (.list (ai (List.range f++hs))),.od (bB l6),.od (b7 l7),y8,y9,y10,.un,.un]):=by
  unfold zT fP
  rw [xV rfl,Option.bind_some]
  exact lp
 obtain ⟨h0,hh0⟩:∃ h0:Int,(hd:Int) / 180 % 13-6=h0:=⟨_,rfl⟩
 obtain ⟨hv,v1,v2,s9⟩:∃ hv:Int,-1000<=hv/\hv<=1000/\∀ x1 x2 x3 x4 x5 x6 x7,sX [.fz (.int hd),x1,x2,x3,x4,x5,x6,x7,y8,y9,y10,.fz (.int h0),.un]=some (.nx,[.fz (.int hd),x1,x2,x3,x4,x5,x6,x7,y8,y9,y10,.fz (.int hv),.un]):=by
  by_cases q:(hd:Int) / 2340 % 9=1
  ·exact ⟨(hd:Int) / 2340 % 401-200,by omega,by omega,fun x1 x2 x3 x4 x5 x6 x7=>Ct _ _ _ _ _ _ _ _ _ _ hd _ q rfl _ _⟩
  ·exact ⟨h0,by omega,by omega,fun x1 x2 x3 x4 x5 x6 x7=>Cu _ _ _ _ _ _ _ _ _ _ hd q _ _⟩
 obtain ⟨rs,p1,p2,s10⟩:=xm l6 h6 (.fz (.int hd)) (.fz (.list (cells.map .int))) (.fz (.int w)) (.fz (.int l)) (.fz (.list (ai hs))) (.fz (.list (ai (List.range f++hs)))) (.od (b7 l7)) y8 y9 y10 (.fz (.int hv)) .un
 obtain ⟨ps,hps⟩:∃ ps:As,rs.map (fun k=>(k,vl l6 k))=ps:=⟨_,rfl⟩
 rw [hps,<- fJ] at s10
 have hpl:ps.length<=12:=by
  have:=p1.length_eq
  have:=h6.l
  unfold aq at *
  rw [<- hps,List.length_map]
  rw [List.length_map] at *
  omega
 obtain ⟨ts,hts,q1,q2⟩:=ma l7 h7.nd (by have:=h7.l; omega)
 have hts:=hts [.fz (.int hd),.fz (.list (cells.map .int)),.fz (.int w),.fz (.int l),.fz (.list (ai hs)),.fz (.list (ai (List.range f++hs))),.fz (.dict (dctD (lI l6))),.od (b7 l7),y8,y9,y10,.fz (.int hv),.fz (.tuple ((cC ps).map prD))] 7 rfl
 have s11:=xl hd w l hv (cC ps) ts hs (.fz (.list (cells.map .int))) (.fz (.list (ai (List.range f++hs)))) (.fz (.dict (dctD (lI l6)))) (.od (b7 l7)) y8 y9 y10 hts
 have d5:Cs [.fz (.int hd),.fz (.list (cells.map .int)),.fz (.int w),.fz (.int l),.fz (.list (ai hs)),.fz (.list (ai (List.range f++hs))),.un,.un,.un,.un,.un,.un,.un]=some (.nx,[.fz (.int hd),.fz (.list (cells.map .int)),.fz (.int w),.fz (.int l),.fz (.list (ai hs)),.fz (.list (ai (List.range f++hs))),.od [],.un,.un,.un,.un,.un,.un]):=rfl
 have d6:Cr [.fz (.int hd),.fz (.list (cells.map .int)),.fz (.int w),.fz (.int l),.fz (.list (ai hs)),.fz (.list (ai (List.range f++hs))),.od [],.un,.un,.un,.un,.un,.un]=some (.nx,[.fz (.int hd),.fz (.list (cells.map .int)),.fz (.int w),.fz (.int l),.fz (.list (ai hs)),.fz (.list (ai (List.range f++hs))),.od [],.od [],.un,.un,.un,.un,.un]):=rfl
 refine ⟨w,l,hv,hd / 7 % 8,ps,ts,hs,AN (δ':=[.fz (.int hd),.fz (.list (cells.map .int)),.fz (.int w),.fz (.int l),.fz (.list (ai hs)),.fz (.list (ai (List.range f++hs))),.fz (.dict (dctD (lI l6))),.od (b7 l7),y8,y9,y10,.fz (.int hv),.fz (.tuple ((cC ps).map prD))]) rfl ?_,⟨by omega,by omega,by omega,v1,v2,by omega,by rw [<- hps,yd]; exact p2,by rw [<- hps]; exact E4 h6 p1,hpl,q2,fun t ht=>h7.e t (q1.mem_iff.mp ht),by rw [q1.length_eq]; have:=h7.l; omega,by omega,b3,fun h hh=>?_⟩⟩
 ·rw [Cp]
  exact (iW (Ab _ _ _ _ _ _ _ _ _ _ _ hd w hw _)).trans ((iW (Aa _ _ _ _ _ _ _ _ _ _ _ hd l hl _)).trans ((iW (z8 _ _ _ _ _ _ _ _ _ _ hd w l f _ _ mw hf b1)).trans ((iW (zZ _ _ _ _ _ _ _ _ _ _ w l f _ _ _ _ mw hf lr al)).trans ((iW d5).trans ((iW d6).trans ((iW s7).trans ((iW (zY _ _ _ _ _ _ _ _ _ _ hd h0 hh0 _ _)).trans ((iW (s9 _ _ _ _ _ _ _)).trans ((iW s10).trans s11)))))))))
 ·have:=b4 h hh; omega
noncomputable def lZ (S:As):List (Nat×Int)->As
 | []=>S
 | q::Q=>lZ (pB S q.1 q.2) Q
noncomputable def tv:List (Nat×Int)->Int
 | []=>0
 | q::Q=>(if q.1 % 2=1 then q.2 else 0)+tv Q
noncomputable def kv (k:Nat):List (Nat×Int)->Int
 | []=>0
 | q::Q=>(if hb q.1=k then he q.1 q.2 else 0)+kv k Q
theorem zC (S:As) (b:Nat) (e:Int) {k:Nat} (hk:0<k):vl (pB S b e) k=if hb b=k then nv (vl S k) (he b e) else vl S k:=by
 unfold pB
 by_cases z:hb b=0
 ·rw [if_pos z,if_neg (by omega)]
 ·rw [if_neg z,fG]
  by_cases y:hb b=k
  ·rw [if_pos y,if_pos y.symm,y]
  ·rw [if_neg y,if_neg (fun q=>y q.symm)]
theorem uw {k:Nat} (hk:0<k):∀ (Q:List (Nat×Int)) (S:As),vl S k<8->(vl (lZ S Q) k:Int)=((vl S k:Int)+kv k Q) % 8
 | [],S,h=>by
  show (vl S k:Int)=(_+0) % 8
  omega
 | q::Q,S,h=>by
  have ih:=uw hk Q (pB S q.1 q.2)
  have e:=zC S q.1 q.2 hk
  show (vl (lZ (pB S q.1 q.2) Q) k:Int)=((vl S k:Int)+((if hb q.1=k then he q.1 q.2 else 0)+kv k Q)) % 8
  by_cases y:hb q.1=k
  ·rw [if_pos y] at e ⊢
   have h2:=rV (vl S k) (he q.1 q.2)
   have h3:=gy (vl S k) (he q.1 q.2)
   rw [ih (by omega),e,h3]
   omega
  ·rw [if_neg y] at e ⊢
   rw [ih (by omega),e]
   omega
theorem Da {S:As} (h:(aq S).Nodup) (b:Nat) (e:Int):(aq (pB S b e)).Nodup:=by
 unfold pB
 split
 ·exact h
 ·exact qH h _ _
theorem vz (S:As) (b:Nat) (e:Int):(pB S b e).length<=S.length+1:=by
 unfold pB
 split
 ·omega
 ·exact jS S _ _
theorem vm:∀ (Q:List (Nat×Int)) {S:As},(aq S).Nodup->(aq (lZ S Q)).Nodup
 | [],_,h=>h
 | q::Q,_,h=>vm Q (Da h q.1 q.2)
theorem r8:∀ (Q:List (Nat×Int)) (S:As),(lZ S Q).length<=S.length+Q.length
 | [],S=>Nat.le_refl _
 | q::Q,S=>by
  have:=r8 Q (pB S q.1 q.2)
  have:=vz S q.1 q.2
  show (lZ (pB S q.1 q.2) Q).length<=_
  rw [List.length_cons]
  omega
theorem BC (t:Int) (S:As) (b:Nat) (e:Int) (z1 z2 z5 z6:Sl) (hl:S.length<1000):∃ y5 y6,bO [.fz (.int t),z1,z2,.od (bB S),.fz (prD (b,e)),z5,z6]=some (.nx,[.fz (.int (t+if b % 2=1 then e else 0)),z1,z2,.od (bB (pB S b e)),.fz (prD (b,e)),y5,y6]):=by
 have e2:(if ((b % 2:Nat):Int)=1 then Builtin.bitXor (b:Int) 1 else b)=((hb b:Nat):Int):=by
  unfold hb
  by_cases o:b % 2=1
  ·rw [if_pos (by omega),DW b o,o]
  ·rw [if_neg (by omega)]; omega
 have e3:(if ((b % 2:Nat):Int)=1 then -e else e)=he b e:=by
  unfold he
  by_cases o:b % 2=1
  ·rw [if_pos o,if_pos (by omega)]
  ·rw [if_neg o,if_neg (by omega)]
 have e4:(if ((hb b:Nat):Int)=0 then bB S else dQ (bB S) (.inl (hb b:Nat)) (.int (((vl S (hb b):Nat)+he b e) % 8)))=bB (pB S b e):=by
  unfold pB
  by_cases o:hb b=0
  ·rw [if_pos o,if_pos (by omega)]
  ·rw [if_neg o,if_neg (by omega),<- gy]
   exact gg _ _ _
 have e5:(if ((b % 2:Nat):Int)=1 then t+e else t)=t+if b % 2=1 then e else 0:=by
  by_cases o:b % 2=1
  ·rw [if_pos o,if_pos (by omega)]
  ·rw [if_neg o,if_neg (by omega)]; omega
 have sz:sizeLine>=1001:=by decide
 have st:=yM t b e ((b % 2:Nat):Int) (hb b:Nat) (he b e) _ (vl S (hb b):Nat) (bB S) (prD (b,e)) z1 z2 z5 z6 rfl rfl (Ea b) e2 e3 e5 (vV _ _) (by unfold bB; rw [List.length_map]; omega)
 rw [e4] at st
 exact ⟨_,_,st⟩
theorem sN (z1 z2:Sl):∀ (Q:List (Nat×Int)) (t:Int) (S:As) (z4 z5 z6:Sl),S.length+Q.length<1000->∃ y4 y5 y6,loop (gN 4) bO (Q.map prD) [.fz (.int t),z1,z2,.od (bB S),z4,z5,z6]=some (.nx,[.fz (.int (t+tv Q)),z1,z2,.od (bB (lZ S Q)),y4,y5,y6])
 | [],t,S,z4,z5,z6,_=>⟨z4,z5,z6,by
  show some (Fl.nx,[Sl.fz (.int t),z1,z2,.od (bB S),z4,z5,z6])=some (.nx,[.fz (.int (t+0)),z1,z2,.od (bB S),z4,z5,z6])
  rw [Int.add_zero]⟩
 | q::Q,t,S,z4,z5,z6,h=>by
  rw [List.length_cons] at h
  obtain ⟨w5,w6,e1⟩:=BC t S q.1 q.2 z1 z2 z5 z6 (by omega)
  have hl:=vz S q.1 q.2
  obtain ⟨y4,y5,y6,e2⟩:=sN z1 z2 Q (t+if q.1 % 2=1 then q.2 else 0) (pB S q.1 q.2) (.fz (prD q)) w5 w6 (by omega)
  refine ⟨y4,y5,y6,?_⟩
  rw [List.map_cons,cn (δ1:=[.fz (.int t),z1,z2,.od (bB S),.fz (prD q),z5,z6]) (by simp) e1,e2,Int.add_assoc]
  rfl
structure RR (R:As) (f:Nat->Int):Prop where
 pk:(aq R).Pairwise (· < ·)
 val:∀ k,0<k->(vl R k:Int)=f k % 8
 nz:∀ p∈R,0<p.1/\p.2≠0
theorem mC {l:List Nat} (h:l.Pairwise (· < ·)):l.Nodup:=by
 rw [List.nodup_iff_pairwise_ne]
 exact h.imp fun {a b} q=>by omega
theorem RR.keys {R:As} {f:Nat->Int} (h:RR R f) (k:Nat):k∈aq R↔0<k/\f k % 8≠0:=by
 constructor
 ·intro hk
  obtain ⟨p,hp,rfl⟩:=List.mem_map.mp hk
  have h1:=h.nz p hp
  have h2:=h.val p.1 h1.1
  rw [iN (mC h.pk) hp] at h2
  exact ⟨h1.1,by omega⟩
 ·intro ⟨h0,hk⟩
  have h2:=h.val k h0
  exact qI (by omega)
theorem sL:∀ {R:As},(aq R).Nodup->R=(aq R).map fun k=>(k,vl R k):=fun {R} nd=>by
 unfold aq
 rw [List.map_map]
 refine (List.map_id R).symm.trans (List.map_congr_left fun p hp=>?_)
 show p=(p.1,vl R p.1)
 rw [iN nd hp]
theorem RR.one {R R':As} {f g:Nat->Int} (h:RR R f) (h':RR R' g) (e:∀ k,0<k->f k % 8=g k % 8):R=R':=by
 have k1:aq R=aq R':=ka h.pk h'.pk fun k=>by
  rw [h.keys,h'.keys]
  constructor
  ·intro ⟨a,b⟩; exact ⟨a,by rw [<- e k a]; exact b⟩
  ·intro ⟨a,b⟩; exact ⟨a,by rw [e k a]; exact b⟩
 rw [sL (mC h.pk),sL (mC h'.pk),k1]
 refine List.map_congr_left fun k hk=>?_
 have h0:0<k:=((h'.keys k).mp hk).1
 have h1:=h.val k h0
 have h2:=h'.val k h0
 have:=e k h0
 congr 1
 omega
theorem yy (S:As) (h:(aq S).Nodup) (hl:S.length<=1000):mR (.list (S.map pD))=some (bB S):=by
 show (gJ (S.map pD)).bind _=_
 rw [kn,Option.bind_some,List.length_map,if_pos hl]
 exact congrArg some (nS S [] h)
theorem BD (t t':Int) (T:D) (Q L:List D) (es es':List (ay×D)) (y4 y5 y6:Sl) (hT:mR T=some es) (lp:loop (gN 4) bO Q [.fz (.int t),.fz T,.fz (.list Q),.od es,.un,.un,.un]=some (.nx,[.fz (.int t'),.fz T,.fz (.list Q),.od es',y4,y5,y6])) (p:eX [.fz (.int t'),.fz T,.fz (.list Q),.od es',y4,y5,y6]=some (.list L)):bd [.int t,T,.list Q]=some (.tuple [.int (t' % 8),.tuple L]):=by
 simp [-az,-dZ,gI,j7,bd,aW,fW,aC,qz,hT,lp,p]
theorem zk:∀ (Q:List (Nat×Int)) {S:As},0 ∉ aq S->0 ∉ aq (lZ S Q)
 | [],_,h=>h
 | q::Q,S,h=>zk Q (by
  unfold pB
  split
  ·exact h
  ·rename_i z
   rw [kD]
   split
   ·exact h
   ·intro y
    rcases List.mem_append.mp y with y | y
    ·exact h y
    ·exact z (List.mem_singleton.mp y).symm)
theorem iG (t:Int) (S:As) (hk:(aq S).Nodup) (h8:∀ k,vl S k<8) (Q:List (Nat×Int)) (hl:S.length+Q.length<64) (h0:0 ∉ aq S):∃ R:As,RR R (fun k=>(vl S k:Int)+kv k Q)/\R.length<=S.length+Q.length/\∀ T,mR T=some (bB S)->bd [.int t,T,.list (Q.map prD)]=some (.tuple [.int ((t+tv Q) % 8),.tuple (R.map pD)]):=by
 have nd:=vm Q hk
 have ln:=r8 Q S
 obtain ⟨rs,p,pw,hp⟩:=C0 (lZ S Q) nd (by omega)
 refine ⟨ze (lZ S Q) rs,⟨?_,fun k h=>?_,fun q hq=>?_⟩,?_,fun T hT=>?_⟩
 ·unfold ze aq
  rw [List.map_map]
  have:(rs.filter fun k=>decide (vl (lZ S Q) k≠0)).map ((fun p:Nat×Nat=>p.1) ∘ fun k=>(k,vl (lZ S Q) k))=rs.filter fun k=>decide (vl (lZ S Q) k≠0):=List.map_id' _
  rw [this]
  exact pw.sublist List.filter_sublist
 ·rw [<- uw h Q S (h8 k)]
  congr 1
  by_cases z:vl (lZ S Q) k=0
  ·rw [z]
   refine gZ fun hq=>?_
   obtain ⟨r,hr,rfl⟩:=List.mem_map.mp hq
   obtain ⟨j,hj,rfl⟩:=List.mem_map.mp hr
   have:=(List.mem_filter.mp hj).2
   simp at this
   exact this z
  ·have nd2:(aq (ze (lZ S Q) rs)).Nodup:=by
    unfold ze aq
    rw [List.map_map]
    have:(rs.filter fun k=>decide (vl (lZ S Q) k≠0)).map ((fun p:Nat×Nat=>p.1) ∘ fun k=>(k,vl (lZ S Q) k))=rs.filter fun k=>decide (vl (lZ S Q) k≠0):=List.map_id' _
    rw [this]
    exact List.Nodup.sublist List.filter_sublist (p.nodup_iff.mpr nd)
   exact iN nd2 (p:=(k,vl (lZ S Q) k)) (List.mem_map.mpr ⟨k,List.mem_filter.mpr ⟨p.mem_iff.mpr (qI z),by simpa using z⟩,rfl⟩)
 ·obtain ⟨j,hj,rfl⟩:=List.mem_map.mp hq
  have:=List.mem_filter.mp hj
  refine ⟨?_,by simpa using this.2⟩
  refine Nat.pos_of_ne_zero fun z=>?_
  subst z
  exact zk Q h0 (p.mem_iff.mp this.1)
 ·unfold ze
  rw [List.length_map]
  have:=List.length_filter_le (fun k=>decide (vl (lZ S Q) k≠0)) rs
  have h2:=p.length_eq
  unfold aq at h2
  rw [List.length_map] at h2
  omega
 ·obtain ⟨y4,y5,y6,lp⟩:=sN (.fz T) (.fz (.list (Q.map prD))) Q t S .un .un .un (by omega)
  exact BD _ _ _ _ _ _ _ _ _ _ hT lp (hp _ _ _ _ _ _)
noncomputable def uG (A:As):List (Nat×Int)->As
 | []=>A
 | q::Q=>uG (oy A q.1 q.2) Q
theorem vg:∀ (Q:List (Nat×Int)) {A:As},OkA A->OkA (uG A Q)
 | [],_,h=>h
 | q::Q,_,h=>vg Q (AM h q.1 q.2)
theorem r9:∀ (Q:List (Nat×Int)) {A:As},OkA A->(uG A Q).length<=A.length+Q.length
 | [],A,_=>Nat.le_refl _
 | q::Q,A,h=>by
  have h1:=r9 Q (AM h q.1 q.2)
  have h2:=(pE h q.1 q.2).2
  show (uG (oy A q.1 q.2) Q).length<=_
  rw [List.length_cons]
  omega
theorem ri:∀ (Q:List (Nat×Int)) {A:As},OkA A->(vl (uG A Q) 0:Int)=((vl A 0:Int)+tv Q) % 8
 | [],A,h=>by
  have:=h.lt 0
  show (vl A 0:Int)=(_+0) % 8
  omega
 | q::Q,A,h=>by
  have ih:=ri Q (AM h q.1 q.2)
  have e:=yR A q.1 q.2
  show (vl (uG (oy A q.1 q.2) Q) 0:Int)=((vl A 0:Int)+((if q.1 % 2=1 then q.2 else 0)+tv Q)) % 8
  rw [ih,e]
  by_cases o:q.1 % 2=1
  ·rw [if_pos o,if_pos o,gy]; omega
  ·rw [if_neg o,if_neg o]; omega
theorem rh {k:Nat} (hk:0<k):∀ (Q:List (Nat×Int)) {A:As},OkA A->(vl (uG A Q) k:Int)=((vl A k:Int)+kv k Q) % 8
 | [],A,h=>by
  have:=h.lt k
  show (vl A k:Int)=(_+0) % 8
  omega
 | q::Q,A,h=>by
  have ih:=rh hk Q (AM h q.1 q.2)
  have e:=Gc A q.1 q.2 k hk
  show (vl (uG (oy A q.1 q.2) Q) k:Int)=((vl A k:Int)+((if hb q.1=k then he q.1 q.2 else 0)+kv k Q)) % 8
  rw [ih,e]
  by_cases o:hb q.1=k
  ·rw [if_pos o,if_pos o.symm,gy]; omega
  ·rw [if_neg o,if_neg (fun z=>o z.symm)]; omega
theorem uW {A:As} (h:OkA A) {rs:List Nat} (p:rs.Perm (aq A)) (pw:rs.Pairwise (· < ·)) {f:Nat->Int} (hf:∀ k,0<k->(vl A k:Int)=f k % 8):RR (kj A rs) f where
 pk:=by
  rw [io]
  exact pw.sublist List.filter_sublist
 val:=fun k hk=>by
  rw [zB h p,if_pos hk]
  exact hf k hk
 nz:=fun q hq=>by
  obtain ⟨k,hk,rfl⟩:=List.mem_map.mp hq
  have:=(List.mem_filter.mp hk).2
  have:0<k/\0<vl A k:=by simpa using this
  exact ⟨this.1,by omega⟩
theorem kq {c:Nat} (h:c<8):OkA [(0,c)] where
 nd:=by simp [aq]
 z:=by simp [aq]
 lt:=fun k=>by
  rw [da]
  split
  ·exact h
  ·rw [gZ (by simp [aq])]; omega
theorem zD (c:Nat) {k:Nat} (hk:0<k):vl [(0,c)] k=0:=by
 rw [da,if_neg (by show ¬ 0=k; omega),gZ (by simp [aq])]
theorem wP (c:Nat):vl [(0,c)] 0=c:=by rw [da,if_pos rfl]
noncomputable def EA (xs:List Nat):List Nat:=xs.foldl iL []
theorem BB {ts:List Nat} (h:ts.Nodup) (k:Nat):(iL ts k).Nodup:=by
 unfold iL
 split
 ·exact h
 ·rename_i z
  rw [List.nodup_append]
  exact ⟨h,by simp,fun a ha b hb=>by rw [List.mem_singleton.mp hb]; exact fun q=>z (q ▸ ha)⟩
theorem yL (ts:List Nat) (k a:Nat):a∈iL ts k↔a∈ts\/a=k:=by
 unfold iL
 split
 ·rename_i z
  exact ⟨.inl,fun h=>h.elim id fun e=>e ▸ z⟩
 ·simp
theorem nR:∀ (xs:List Nat) {ts:List Nat},ts.Nodup->(xs.foldl iL ts).Nodup
 | [],_,h=>h
 | x::xs,_,h=>nR xs (BB h x)
theorem kO:∀ (xs ts:List Nat) (a:Nat),a∈xs.foldl iL ts↔a∈ts\/a∈xs
 | [],ts,a=>by simp
 | x::xs,ts,a=>by
  show a∈xs.foldl iL (iL ts x)↔_
  rw [kO xs,yL,List.mem_cons,or_assoc]
theorem sM (ts:List Nat) (k:Nat):(iL ts k).length<=ts.length+1:=by
 unfold iL
 split
 ·omega
 ·simp
theorem kP:∀ (xs ts:List Nat),(xs.foldl iL ts).length<=ts.length+xs.length
 | [],ts=>by simp
 | x::xs,ts=>by
  have:=kP xs (iL ts x)
  have:=sM ts x
  show (xs.foldl iL (iL ts x)).length<=_
  rw [List.length_cons]
  omega
theorem s0 (ts:List Nat) (k:Nat):cw (ts.map cI) (cI k)=(iL ts k).map cI:=by
 have e:cI k∈ts.map cI↔k∈ts:=by
  rw [List.mem_map]
  exact ⟨fun ⟨a,ha,q⟩=>(show a=k by unfold cI at q; omega) ▸ ha,fun h=>⟨k,h,rfl⟩⟩
 unfold cw iL
 by_cases h:k∈ts
 ·rw [if_pos h,if_pos (e.mpr h)]
 ·rw [if_neg h,if_neg (fun z=>h (e.mp z)),List.map_append]
  rfl
theorem rB:∀ (xs ts:List Nat),(xs.map cI).foldl cw (ts.map cI)=(xs.foldl iL ts).map cI
 | [],_=>rfl
 | x::xs,ts=>by
  show (xs.map cI).foldl cw (cw (ts.map cI) (cI x))=(xs.foldl iL (iL ts x)).map cI
  rw [s0,rB]
theorem pM:∀ xs:List Nat,vN (ai xs)=some (xs.map cI)
 | []=>rfl
 | x::xs=>by
  show (vN (ai xs)).bind _=_
  rw [pM xs]
  rfl
theorem uH (xs:List Nat) (hl:xs.length<64):∃ rs:List Nat,rs.Pairwise (· < ·)/\(∀ t,t∈rs↔t∈xs)/\rs.length<=xs.length/\hU (.list (ai xs))=some (.list (ai rs))/\hU (.tuple (ai xs))=some (.list (ai rs)):=by
 obtain ⟨rs,e,p,pw⟩:=hV (EA xs) (nR xs .nil)
 have s:fO (xs.map cI)=(EA xs).map cI:=rB xs []
 have ln:=kP xs []
 have key:∀ d,ba d=some (ai xs)->hU d=some (.list (ai rs)):=fun d h=>by
  unfold hU
  rw [h,Option.bind_some,pM,Option.bind_some,if_pos (by rw [List.length_map]; exact hl),s,e,il]
 refine ⟨rs,pw,fun t=>?_,by rw [p.length_eq]; simpa [EA] using ln,key _ rfl,key _ rfl⟩
 rw [p.mem_iff,EA,kO]
 simp
theorem eY (rs:List Nat) (f:Nat->Bool):ai (rs.filter f)=(rs.filter f).map fun k:Nat=>PyData.int (k:Int):=rfl
theorem yU (xs rs:List Nat) (T:D) (hr:rs.length<=1000) (hs:hU T=some (.list (ai rs))):cj [.fz T]=some (.list (ai (rs.filter fun k=>decide (0<k)))):=by
 unfold cj
 rw [eY]
 refine bw (xs:=rs) (h:=fun k:Nat=>PyData.int (k:Int)) ?_ (by omega) (fun k _=>?_) fun k _ _=>?_
 ·show ((hU T).bind ba)=_
  rw [hs]; rfl
 ·have:neD (.int (k:Int)) (.int 0)=some (.bool (decide (0<k))):=by
   by_cases h:k=0
   ·subst h; rfl
   ·have h1:¬ ((k:Int)=0):=by omega
    have h2:0<k:=by omega
    simp [h,h1,h2]
  simp only [bC,List.map_nil,List.append_nil]
  show (neD (.int (k:Int)) (.int 0)).bind asB=_
  rw [this]; rfl
 ·simp [bC]
theorem yT (T:D) (L:List D) (p:cj [.fz T]=some (.list L)):aH [T]=some (.tuple L):=by
 simp [aH,aW,dt,aC,p]
structure TT (ss:List Nat) (xs:List Nat):Prop where
 pw:ss.Pairwise (· < ·)
 mem:∀ t,t∈ss↔t∈xs/\0<t
theorem TT.one {ss ss' xs ys:List Nat} (h:TT ss xs) (h':TT ss' ys) (e:∀ t,0<t->(t∈xs↔t∈ys)):ss=ss':=
 ka h.pw h'.pw fun t=>by
  rw [h.mem,h'.mem]
  exact ⟨fun ⟨a,b⟩=>⟨(e t b).mp a,b⟩,fun ⟨a,b⟩=>⟨(e t b).mpr a,b⟩⟩
theorem wU (xs:List Nat) (hl:xs.length<64):∃ ss:List Nat,TT ss xs/\ss.length<=xs.length/\aH [.list (ai xs)]=some (.tuple (ai ss))/\aH [.tuple (ai xs)]=some (.tuple (ai ss)):=by
 obtain ⟨rs,h1,h2,h3,h4,h5⟩:=uH xs hl
 refine ⟨rs.filter fun k=>decide (0<k),⟨h1.sublist List.filter_sublist,fun t=>?_⟩,?_,yT _ _ (yU xs rs _ (by omega) h4),yT _ _ (yU xs rs _ (by omega) h5)⟩
 ·rw [List.mem_filter,h2]
  simp
 ·have:=List.length_filter_le (fun k=>decide (0<k)) rs
  omega
theorem sU (t:Nat) (ts:List Nat) (z0:Sl) (hl:ts.length<1000):bP [z0,.od (b7 ts),.fz (.int (t:Int))]=some (.nx,[z0,.od (b7 (if 0<t then iL ts t else ts)),.fz (.int (t:Int))]):=by
 have sz:sizeLine>=1001:=by decide
 have he:(b7 ts).length<sizeLine:=by unfold b7; rw [List.length_map]; omega
 by_cases h:0<t
 ·have g:(0:Int)<(t:Int):=by omega
  have e:=pW ts t
  rw [if_pos h,<- e]
  simp [bP,g,br,he]
  omega
 ·have g:¬ (0:Int)<(t:Int):=by omega
  rw [if_neg h]
  simp [bP,g]
  omega
theorem lX (z0:Sl):∀ (xs ts:List Nat) (z2:Sl),ts.length+xs.length<1000->∃ y2,loop (gN 2) bP (ai xs) [z0,.od (b7 ts),z2]=some (.nx,[z0,.od (b7 ((xs.filter fun t=>decide (0<t)).foldl iL ts)),y2])
 | [],ts,z2,_=>⟨z2,rfl⟩
 | x::xs,ts,z2,h=>by
  rw [List.length_cons] at h
  have s:=sU x ts z0 (by omega)
  have hl:=sM ts x
  obtain ⟨y2,e⟩:=lX z0 xs (if 0<x then iL ts x else ts) (.fz (.int (x:Int))) (by split <;> omega)
  refine ⟨y2,?_⟩
  show loop (gN 2) bP (PyData.int (x:Int)::ai xs) _=_
  rw [cn (δ1:=[z0,.od (b7 ts),.fz (.int (x:Int))]) (by simp) s,e]
  by_cases q:0<x
  ·rw [if_pos q,List.filter_cons_of_pos (by simpa using q)]; rfl
  ·rw [if_neg q,List.filter_cons_of_neg (by simpa using q)]
theorem zK (T:D) (L M:List D) (es:List (ay×D)) (y:Sl) (hT:ba T=some L) (lp:loop (gN 2) bP L [.fz T,.od [],.un]=some (.nx,[.fz T,.od es,y])) (s:fR 1 [.fz T,.od es,y]=some (.list M)):bL [T]=some (.tuple M):=by
 simp [bL,aW,fX,aC,j8,hT,lp,s]
theorem wV (xs:List Nat) (hl:xs.length<50):∃ ss:List Nat,TT ss xs/\∀ T,ba T=some (ai xs)->bL [T]=some (.tuple (ai ss)):=by
 have hfl:=List.length_filter_le (fun t=>decide (0<t)) xs
 have hln:=kP (xs.filter fun t=>decide (0<t)) []
 simp only [List.length_nil] at hln
 obtain ⟨ss,h1,h2,h3⟩:=ma ((xs.filter fun t=>decide (0<t)).foldl iL []) (nR _ .nil) (by omega)
 refine ⟨ss,⟨h3,fun t=>?_⟩,fun T hT=>?_⟩
 ·rw [h2.mem_iff,kO,List.mem_filter]
  simp
 ·obtain ⟨y2,lp⟩:=lX (.fz T) xs [] .un (by simp; omega)
  exact zK _ _ _ _ _ hT lp (h1 _ 1 rfl)
noncomputable def hasB (b k:Nat):Bool:=decide (b / 2 ^ k % 2=1)
theorem vS (b k:Nat):(((b / 2 ^ k % 2:Nat):Int)==1)=hasB b k:=by
 unfold hasB
 rcases Nat.mod_two_eq_zero_or_one (b / 2 ^ k) with h | h <;> rw [h] <;> rfl
theorem kL (b k:Nat):dz [.int b,.int k]=some (.bool (hasB b k)):=by
 have s:=jN b k
 have o:=Ea (b / 2 ^ k)
 have h:=vS b k
 generalize b / 2 ^ k % 2=z at *
 generalize b / 2 ^ k=y at *
 simp [dz,aW,wu,aC,s,o,h]
noncomputable def cK (ps:As) (bit ch:Nat):List (Nat×Int):=(ps.filter fun p=>hasB p.1 bit).map fun p=>(p.1 ^^^ ch,(p.2:Int))
noncomputable def iK (ps:As) (bit:Nat):As:=ps.filter fun p=>!hasB p.1 bit
noncomputable def vP (hs:List Nat) (bit:Nat):List Nat:=hs.filter fun h=>decide (h≠bit)
theorem t6 (a b c d e f:D):cg [a,b,c,d,e,f]=some (.tuple [a,b,c,d,e,f]):=d8 (by simp)
section
variable (w l:Nat) (hv:Int) (c:Nat) (ps:As) (ts hs:List Nat)
theorem o3:(oI (o2 (oV 0) (oC (.int 3)) aK) ba) (.fz (oneD w l hv c (cC ps) ts hs)::r)=some (ps.map pD):=by
 have:aK (oneD w l hv c (cC ps) ts hs) (.int 3)=some (.tuple (ps.map pD)):=by rw [rS,fJ]
 show (aK (oneD w l hv c (cC ps) ts hs) (.int 3)).bind ba=_
 rw [this]; rfl
theorem CB (bit ch:Nat) (hp:ps.length<=1000) (x3 x4 x5:Sl):eV [.fz (oneD w l hv c (cC ps) ts hs),.fz (.int (bit:Int)),.fz (.int (ch:Int)),x3,x4,x5]=some (.list ((cK ps bit ch).map prD)):=by
 unfold eV cK
 rw [List.map_map]
 refine bw (xs:=ps) (h:=pD) (o3 w l hv c ps ts hs) (by omega) (fun p _=>?_) fun p _ _=>?_
 ·have h:=kL p.1 bit
  generalize hasB p.1 bit=z at *
  simp [bC,pD,h]
 ·have x:=MA.qV p.1 ch
  simp [bC,pD,prD,x]
theorem CA (bit:Nat) (hp:ps.length<=1000) (x2 x3 x4 x5:Sl):eT [.fz (oneD w l hv c (cC ps) ts hs),.fz (.int (bit:Int)),x2,x3,x4,x5]=some (.list ((iK ps bit).map pD)):=by
 unfold eT iK
 refine bw (xs:=ps) (h:=pD) (o3 w l hv c ps ts hs) (by omega) (fun p _=>?_) fun p _ _=>?_
 ·have h:=kL p.1 bit
  generalize hasB p.1 bit=z at *
  simp [bC,pD,h]
 ·simp [bC]
theorem vj (h bit:Nat):neD (.int (h:Int)) (.int (bit:Int))=some (.bool (decide (h≠bit))):=by
 by_cases e:h=bit
 ·subst e; simp
 ·have:¬ ((h:Int)=(bit:Int)):=by omega
  simp [e,this]
theorem Cz (bit:Nat) (hh:hs.length<=1000) (x2 x3 x4 x5:Sl):eS [.fz (oneD w l hv c (cC ps) ts hs),.fz (.int (bit:Int)),x2,x3,x4,x5]=some (.list (ai (vP hs bit))):=by
 unfold eS vP
 rw [eY]
 refine bw (xs:=hs) (h:=fun h:Nat=>PyData.int (h:Int)) (by
  have:(oI (o2 (oV 0) (oC (.int 5)) aK) ba) [.fz (oneD w l hv c (cC ps) ts hs),.fz (.int (bit:Int)),x2,x3,x4,x5]=some (ai hs):=rfl
  exact this) (by omega) (fun p _=>?_) fun p _ _=>?_
 ·have h:=vj p bit
  generalize decide (p≠bit)=z at *
  simp only [bC]
  show (((wG (some (Sl.fz (.int (p:Int))))).bind fun x=>(wG (some (Sl.fz (.int (bit:Int))))).bind fun y=>neD x y).bind asB)=_
  rw [iP,iP,Option.bind_some,Option.bind_some,h]
  rfl
 ·simp [bC]
theorem E3 (O W S H R A4 A0 A1:D) (bit ch t c':Int) (p1:∀ x3 x4 x5,eV [.fz O,.fz (.int bit),.fz (.int ch),x3,x4,x5]=some W) (p2:∀ x3 x4 x5,eT [.fz O,.fz (.int bit),.fz (.int ch),x3,x4,x5]=some S) (hp:∀ x3 x4 x5,eS [.fz O,.fz (.int bit),.fz (.int ch),x3,x4,x5]=some H) (o0:aK O (.int 0)=some A0) (o1:aK O (.int 1)=some A1) (o2:aK O (.int 2)=some (.int c')) (o4:aK O (.int 4)=some A4) (g:bd [.int c',S,W]=some (.tuple [.int t,R])) (HT:D) (hH:bM [H]=some HT):bK [O,.int bit,.int ch]=some (.tuple [A0,A1,.int t,R,A4,HT]):=by
 simp [bK,aW,ji,aC,p1,p2,hp,o0,o1,o2,o4,g,hH,t6]
end
theorem zi {k:Nat} (hk:0<k):∀ {S:As},(aq S).Nodup->(∀ p∈S,p.1 % 2=0)->kv k (cC S)=(vl S k:Int)
 | [],_,_=>by rw [gZ (by simp [aq])]; rfl
 | p::S,nd,h=>by
  have h1:=h p List.mem_cons_self
  have nd':(aq S).Nodup:=(List.nodup_cons.mp nd).2
  have ih:=zi hk nd' fun q hq=>h q (List.mem_cons_of_mem _ hq)
  have e1:hb p.1=p.1:=by unfold hb; omega
  have e2:he p.1 (p.2:Int)=(p.2:Int):=by unfold he; rw [if_neg (by omega)]
  show (if hb p.1=k then he p.1 (p.2:Int) else 0)+kv k (cC S)=_
  rw [ih,e1,e2,da]
  by_cases q:p.1=k
  ·rw [if_pos q,if_pos q]
   have:vl S k=0:=gZ (q ▸ (List.nodup_cons.mp nd).1)
   omega
  ·rw [if_neg q,if_neg q]; omega
theorem yS:∀ {S:As},(∀ p∈S,p.1 % 2=0)->tv (cC S)=0
 | [],_=>rfl
 | p::S,h=>by
  have h1:=h p List.mem_cons_self
  show (if p.1 % 2=1 then (p.2:Int) else 0)+tv (cC S)=0
  rw [yS fun q hq=>h q (List.mem_cons_of_mem _ hq),if_neg (by omega)]
  rfl
noncomputable def xb (bit ch:Nat) (p:Nat×Nat):Nat×Int:=(if hasB p.1 bit then p.1 ^^^ ch else p.1,(p.2:Int))
theorem sf (bit ch k:Nat):∀ ps:As,kv k (ps.map (xb bit ch))=kv k (cC (iK ps bit))+kv k (cK ps bit ch)
 | []=>rfl
 | p::ps=>by
  have ih:=sf bit ch k ps
  show (if hb (xb bit ch p).1=k then he (xb bit ch p).1 (xb bit ch p).2 else 0)+kv k (ps.map (xb bit ch))=_
  rw [ih]
  cases h:hasB p.1 bit with
  | true=>
   have e1:iK (p::ps) bit=iK ps bit:=by unfold iK; rw [List.filter_cons_of_neg (by simp [h])]
   have e2:cK (p::ps) bit ch=(p.1 ^^^ ch,(p.2:Int))::cK ps bit ch:=by unfold cK; rw [List.filter_cons_of_pos (by simp [h])]; rfl
   have e3:xb bit ch p=(p.1 ^^^ ch,(p.2:Int)):=by unfold xb; rw [h]; rfl
   rw [e1,e2,e3]
   show (if hb (p.1 ^^^ ch)=k then he (p.1 ^^^ ch) (p.2:Int) else 0)+_=_+((if hb (p.1 ^^^ ch)=k then he (p.1 ^^^ ch) (p.2:Int) else 0)+kv k (cK ps bit ch))
   omega
  | false=>
   have e1:iK (p::ps) bit=p::iK ps bit:=by unfold iK; rw [List.filter_cons_of_pos (by simp [h])]
   have e2:cK (p::ps) bit ch=cK ps bit ch:=by unfold cK; rw [List.filter_cons_of_neg (by simp [h])]
   have e3:xb bit ch p=(p.1,(p.2:Int)):=by unfold xb; rw [h]; rfl
   rw [e1,e2,e3]
   show (if hb p.1=k then he p.1 (p.2:Int) else 0)+_=((if hb p.1=k then he p.1 (p.2:Int) else 0)+kv k (cC (iK ps bit)))+_
   omega
theorem rj (bit ch:Nat):∀ ps:As,tv (ps.map (xb bit ch))=tv (cC (iK ps bit))+tv (cK ps bit ch)
 | []=>rfl
 | p::ps=>by
  have ih:=rj bit ch ps
  show (if (xb bit ch p).1 % 2=1 then (xb bit ch p).2 else 0)+tv (ps.map (xb bit ch))=_
  rw [ih]
  cases h:hasB p.1 bit with
  | true=>
   have e1:iK (p::ps) bit=iK ps bit:=by unfold iK; rw [List.filter_cons_of_neg (by simp [h])]
   have e2:cK (p::ps) bit ch=(p.1 ^^^ ch,(p.2:Int))::cK ps bit ch:=by unfold cK; rw [List.filter_cons_of_pos (by simp [h])]; rfl
   have e3:xb bit ch p=(p.1 ^^^ ch,(p.2:Int)):=by unfold xb; rw [h]; rfl
   rw [e1,e2,e3]
   show _=_+((if (p.1 ^^^ ch) % 2=1 then (p.2:Int) else 0)+tv (cK ps bit ch))
   omega
  | false=>
   have e1:iK (p::ps) bit=p::iK ps bit:=by unfold iK; rw [List.filter_cons_of_pos (by simp [h])]
   have e2:cK (p::ps) bit ch=cK ps bit ch:=by unfold cK; rw [List.filter_cons_of_neg (by simp [h])]
   have e3:xb bit ch p=(p.1,(p.2:Int)):=by unfold xb; rw [h]; rfl
   rw [e1,e2,e3]
   show _=((if p.1 % 2=1 then (p.2:Int) else 0)+tv (cC (iK ps bit)))+_
   omega
theorem vY (ps:As) (bit:Nat):(ps.filter fun p=>!hasB p.1 bit).length+(ps.filter fun p=>hasB p.1 bit).length=ps.length:=by
 induction ps with
 | nil=>rfl
 | cons p ps ih=>
  cases h:hasB p.1 bit with
  | true=>rw [List.filter_cons_of_neg (by simp [h]),List.filter_cons_of_pos (by simp [h]),List.length_cons,List.length_cons]; omega
  | false=>rw [List.filter_cons_of_pos (by simp [h]),List.filter_cons_of_neg (by simp [h]),List.length_cons,List.length_cons]; omega
theorem qx {w l:Nat} {hv:Int} {c:Nat} {ps:As} {ts hs:List Nat} {n m:Nat} (S:Sm w l hv c ps ts hs n m) (hm:m<32) (hn:n<=100) (bit ch:Nat):∃ (T:Nat) (R:As),(T:Int)=((c:Int)+tv (ps.map (xb bit ch))) % 8/\RR R (fun k=>kv k (ps.map (xb bit ch)))/\R.length<=ps.length/\bK [oneD w l hv c (cC ps) ts hs,.int (bit:Int),.int (ch:Int)]=some (oneD w l hv T (cC R) ts (vP hs bit)):=by
 have nd:=mC S.pk
 have pl:=S.pl
 have hl:=S.hl
 have ndo:(aq (iK ps bit)).Nodup:=List.Nodup.sublist (List.filter_sublist.map _) nd
 have ev:∀ p∈iK ps bit,p.1 % 2=0:=fun p hp=>(S.pe p (List.mem_filter.mp hp).1).2.1
 have ln:(iK ps bit).length+(cK ps bit ch).length=ps.length:=by
  unfold iK cK
  rw [List.length_map]
  exact vY ps bit
 have v8:∀ k,vl (iK ps bit) k<8:=fun k=>by
  by_cases h:k∈aq (iK ps bit)
  ·obtain ⟨p,hp,rfl⟩:=List.mem_map.mp h
   rw [iN ndo hp]
   have:=S.pe p (List.mem_filter.mp hp).1
   omega
  ·rw [gZ h]; omega
 have n0:0 ∉ aq (iK ps bit):=fun h=>by
  obtain ⟨p,hp,e⟩:=List.mem_map.mp h
  have:=S.pe p (List.mem_filter.mp hp).1
  omega
 obtain ⟨R,h1,h2,h3⟩:=iG c (iK ps bit) ndo v8 (cK ps bit ch) (by omega) n0
 have h3:=h3 (.list ((iK ps bit).map pD)) (yy _ ndo (by omega))
 have et:tv (ps.map (xb bit ch))=tv (cK ps bit ch):=by rw [rj,yS ev]; omega
 have x:=E3 (oneD w l hv c (cC ps) ts hs) (.list ((cK ps bit ch).map prD)) (.list ((iK ps bit).map pD)) (.list (ai (vP hs bit))) (.tuple (R.map pD)) (.tuple (ai ts)) (.tuple [.int w,.int l]) (.int hv) bit ch _ c (fun x3 x4 x5=>CB w l hv c ps ts hs bit ch (by omega) x3 x4 x5) (fun x3 x4 x5=>CA w l hv c ps ts hs bit (by omega) _ x3 x4 x5) (fun x3 x4 x5=>Cz w l hv c ps ts hs bit (by omega) _ x3 x4 x5) (mz ..) (pb ..) (o9 ..) (mx ..) h3 _ rfl
 refine ⟨(((c:Int)+tv (cK ps bit ch)) % 8).toNat,R,by rw [et]; omega,⟨h1.pk,fun k hk=>?_,h1.nz⟩,by omega,?_⟩
 ·rw [h1.val k hk,sf,zi hk ndo ev]
 ·rw [x]
  unfold oneD
  rw [fJ,Int.toNat_of_nonneg (by omega)]
theorem xX {d:D} {k:Nat} (h:MA.Sh k d) (hk:k<=64):neD d d=some (.bool false):=by
 have hs:wH d=true:=by
  show (d.canLay0&&decide (d.depth<=64))=true
  rw [h.1,decide_eq_true (Nat.le_trans h.2 hk)]; rfl
 unfold neD
 rw [if_pos ⟨hs,hs⟩,MA.pV d h.1]
 rfl
noncomputable def wM (h:Int):D:=.tuple [.str "away",.int h]
theorem G9 (hs:List Nat) (b:Int):zm false (.int b) (.tuple (ai hs))=some (.bool (hs.any fun h=>((h:Nat):Int)==b)):=by
 have f:(ai hs).all ub=true:=by
  rw [List.all_eq_true]
  intro d hd
  obtain ⟨h,_,rfl⟩:=List.mem_map.mp hd
  rfl
 show (if ub (.int b)=true/\(ai hs).all ub=true then some (PyData.bool (if false=true then !ym (.int b) (ai hs) else ym (.int b) (ai hs))) else none)=_
 rw [if_pos ⟨rfl,f⟩,if_neg (by decide)]
 unfold ym ai
 rw [List.any_map]
 simp only [Function.comp_def,PyData.eqv]
theorem GF:gn (.str "away") (.str "away")=some (.bool true):=by
 unfold gn
 rw [if_pos ⟨by decide +kernel,by decide +kernel⟩]
 simp [PyData.eqv]
theorem Bg:("NoStep":Str)∈dF:=List.mem_cons_self
theorem Fx (t:List (Str×Bool)) (n:Str) (b:Bool) (h:t.lookup n=some b):iY t (zp n)=some (.bool b):=by
 rw [yh]; unfold yg; rw [h]; rfl
theorem FB:iY gd (zp "NoStep")=some (.bool true):=Fx _ _ _ (by decide +kernel)
theorem Fz:iY db (zp "NoStep")=some (.bool true):=Fx _ _ _ (by decide +kernel)
theorem FA:iY d9 (zp "NoStep")=some (.bool false):=Fx _ _ _ (by decide +kernel)
theorem Fj (O s:D) (h:eB [O,s]=some (.bool false)):bp [O,s]=some (.bool true):=by
 have x:dI [O,s]=some ("NoStep":Str):=by simp [dI,uU,gW,aC,h]
 simp [bp,aW,dX,aC,uS,x,Bg,FB,Fz,FA]
theorem wN (i:Int):bR [.int i]=some (.bool true):=by simp [bR,aW,fq,aC]
theorem FZ (T:D) (is:List Int) (hl:is.length<=1000) (hT:ba T=some (is.map PyData.int)):b6 [.fz T]=some (.list []):=by
 unfold b6
 have:bN (oI (oV 0) ba) [] mS (gK (ob (VL.os (ag (oV 0) (ax)) bR))) (oV 0) [.fz T]=some (.list ((is.filter fun _=>false).map PyData.int)):=by
  refine bw (xs:=is) (h:=PyData.int) ?_ (by omega) (fun i _=>?_) fun i _ h=>by cases h
  ·show ((wG (some (Sl.fz T))).bind ba)=_
   rw [iP,Option.bind_some,hT]
  ·have:=wN i
   simp [bC,this]
 rw [this]
 have e:(is.filter fun _=>false)=[]:=by simp
 rw [e]
 rfl
theorem FY (T:D) (p:b6 [.fz T]=some (.list [])):aN [T]=some (.bool true):=by
 simp [aN,aW,cX,aC,p]
theorem zx (T:D) (is:List Int) (hl:is.length<=1000) (hT:ba T=some (is.map PyData.int)):aN [T]=some (.bool true):=FY T (FZ T is hl hT)
theorem yW (O O':D) (x2:Sl):∀ (ps:As) (x3:Sl),∃ y3,loop (gN 3) bJ (ps.map pD) [.fz O,.fz O',x2,x3]=some (.nx,[.fz O,.fz O',x2,y3])
 | [],x3=>⟨x3,rfl⟩
 | p::ps,x3=>by
  have a:=zx (pD p) [(p.1:Int),(p.2:Int)] (by simp) rfl
  have i:d4 "tuple" (pD p)=some (.bool true):=rfl
  have st:bJ [.fz O,.fz O',x2,.fz (pD p)]=some (.nx,[.fz O,.fz O',x2,.fz (pD p)]):=by
   generalize pD p=P at *
   simp [bJ,i,a]
  obtain ⟨y3,e⟩:=yW O O' x2 ps (.fz (pD p))
  refine ⟨y3,?_⟩
  rw [List.map_cons,cn (δ1:=[.fz O,.fz O',x2,.fz (pD p)]) (by simp) st,e]
theorem EY (O:D) (A0 A3 A4 A5 A12 B1 B2 B3:D) (PL:List D) (y3:Sl) (i:d4 "tuple" O=some (.bool true)) (ln:jA [O]=some (.int 6)) (n:neD O O=some (.bool false)) (o0:aK O (.int 0)=some A0) (o3:aK O (.int 3)=some (.tuple PL)) (o4:aK O (.int 4)=some A4) (o5:aK O (.int 5)=some A5) (i0:d4 "tuple" A0=some (.bool true)) (i4:d4 "tuple" A4=some (.bool true)) (i5:d4 "tuple" A5=some (.bool true))
  (lp:loop (gN 3) bJ PL [.fz O,.fz O,.fz (.int 5),.un]=some (.nx,[.fz O,.fz O,.fz (.int 5),y3])) (sl:BK O (some 1) (some 3)=some A12) (a1:aR A0 A12=some B1) (a2:aR B1 A4=some B2) (a3:aR B2 A5=some B3) (w:aN [B3]=some (.bool true)):aO [O,O]=some (.bool true):=by
 have l1:loop (gN 2) cW [.int 0,.int 3,.int 4,.int 5] [.fz O,.fz O,.un,.un]=some (.nx,[.fz O,.fz O,.fz (.int 5),.un]):=by
  simp [loop,cW,o0,o3,o4,o5,i0,i4,i5]
 simp [aO,aW,dw,aC,i,ln,n,l1,o0,o3,o4,o5,lp,sl,a1,a2,a3,w]
theorem Ad (w l:Nat) (hv:Int) (c:Nat) (ps:As) (ts hs:List Nat):MA.Sh 4 (oneD w l hv c (cC ps) ts hs):=by
 unfold oneD
 refine MA.Sh.tuple fun x hx=>?_
 simp only [List.mem_cons,List.not_mem_nil,or_false] at hx
 rcases hx with rfl | rfl | rfl | rfl | rfl | rfl
 ·refine MA.Sh.tuple fun x hx=>?_
  simp only [List.mem_cons,List.not_mem_nil,or_false] at hx
  rcases hx with rfl | rfl <;> exact MA.Sh.int 2 _
 ·exact MA.Sh.int 3 _
 ·exact MA.Sh.int 3 _
 ·rw [fJ]
  refine MA.Sh.tuple fun x hx=>?_
  obtain ⟨p,_,rfl⟩:=List.mem_map.mp hx
  refine MA.Sh.tuple fun x hx=>?_
  simp only [List.mem_cons,List.not_mem_nil,or_false] at hx
  rcases hx with rfl | rfl <;> exact MA.Sh.int 1 _
 ·refine MA.Sh.tuple fun x hx=>?_
  obtain ⟨h,_,rfl⟩:=List.mem_map.mp hx
  exact MA.Sh.int 2 _
 ·refine MA.Sh.tuple fun x hx=>?_
  obtain ⟨h,_,rfl⟩:=List.mem_map.mp hx
  exact MA.Sh.int 2 _
theorem kz (hs:List Nat):ai hs=(hs.map cI).map PyData.int:=(il hs).symm
theorem oU (w l:Nat) (hv:Int) (c:Nat) (ps:As) (ts hs:List Nat) (ht:ts.length<=200) (hh:hs.length<=200):aO [oneD w l hv c (cC ps) ts hs,oneD w l hv c (cC ps) ts hs]=some (.bool true):=by
 obtain ⟨y3,lp⟩:=yW (oneD w l hv c (cC ps) ts hs) (oneD w l hv c (cC ps) ts hs) (.fz (.int 5)) ps .un
 have o3:aK (oneD w l hv c (cC ps) ts hs) (.int 3)=some (.tuple (ps.map pD)):=by rw [rS,fJ]
 have sl:BK (oneD w l hv c (cC ps) ts hs) (some 1) (some 3)=some (.tuple [.int hv,.int c]):=rfl
 have a1:aR (.tuple [.int w,.int l]) (.tuple [.int hv,.int c])=some (.tuple [.int w,.int l,.int hv,.int c]):=fY (by simp)
 have a2:aR (.tuple [.int w,.int l,.int hv,.int c]) (.tuple (ai ts))=some (.tuple ([.int w,.int l,.int hv,.int c]++ai ts)):=fY (by simp [cF]; omega)
 have a3:aR (.tuple ([.int w,.int l,.int hv,.int c]++ai ts)) (.tuple (ai hs))=some (.tuple (([.int w,.int l,.int hv,.int c]++ai ts)++ai hs)):=fY (by simp [cF]; omega)
 refine EY _ (.tuple [.int w,.int l]) .none (.tuple (ai ts)) (.tuple (ai hs)) _ _ _ _ _ y3 rfl rfl (xX (Ad w l hv c ps ts hs) (by decide)) (mz ..) o3 (mx ..) (o8 ..) rfl rfl rfl lp sl a1 a2 a3 (zx _ ([(w:Int),(l:Int),hv,(c:Int)]++ts.map cI++hs.map cI) (by simp; omega) ?_)
 rw [List.map_append,List.map_append,<- kz,<- kz]
 rfl
theorem zd (b k:Nat) {δ:Dv} {f1 f2:Dv->Option D} (h1:f1 δ = some (.int b)) (h2:f2 δ = some (.int k)):(ob (o2 (o2 (o2 f1 f2 j3) (oC (.int 2)) aV) (oC (.int 1)) gn)) δ = some (hasB b k):=by
 have s:=jN b k
 have m:=kA (b / 2 ^ k)
 have h:=vS b k
 generalize b / 2 ^ k % 2=z at *
 generalize b / 2 ^ k=y at *
 simp only [ob,o2,oC,h1,h2,Option.bind_some,s,m,sD,wv,h]
noncomputable def fa (ps:List (Nat×Int)) (ts:List Nat) (k:Nat):Bool:=if (ts.any fun t=>hasB t k)=true then false else (ps.filter fun p=>hasB p.1 k).all fun p=>p.2 % 2==0
section
variable (w l:Nat) (hv:Int) (c:Nat) (ps:List (Nat×Int)) (ts hs:List Nat)
theorem DD (k:Nat) (ht:ts.length<=1000):eW [.fz (oneD w l hv c ps ts hs),.fz (.int k)]=some (.list (ts.map fun t=>.bool (hasB t k))):=by
 unfold eW
 refine kU (xs:=ts) (h:=fun t=>.int ((t:Nat):Int)) ?_ (by omega) fun t _=>?_
 ·have:(oI (o2 (oV 0) (oC (.int 4)) aK) ba) [.fz (oneD w l hv c ps ts hs),.fz (.int k)]=some (ai ts):=rfl
  exact this
 ·have h:=kL t k
  generalize hasB t k=z at *
  simp [bC,h]
theorem DC (k:Nat) (hp:ps.length<=1000):eU [.fz (oneD w l hv c ps ts hs),.fz (.int k)]=some (.list ((ps.filter fun p=>hasB p.1 k).map fun p=>.bool (p.2 % 2==0))):=by
 unfold eU
 refine bw (xs:=ps) (h:=prD) ?_ (by omega) (fun p _=>?_) fun p _ _=>?_
 ·have:(oI (o2 (oV 0) (oC (.int 3)) aK) ba) [.fz (oneD w l hv c ps ts hs),.fz (.int k)]=some (ps.map prD):=rfl
  exact this
 ·have h:=kL p.1 k
  generalize hasB p.1 k=z at *
  simp [bC,prD,h]
 ·simp [bC,prD]
theorem yp (k:Nat) (ht:ts.length<=1000) (hp:ps.length<=1000):cf [oneD w l hv c ps ts hs,.int k]=some (.bool (fa ps ts k)):=by
 have p1:=DD w l hv c ps ts hs k ht
 have p2:=DC w l hv c ps ts hs k hp
 have a1:=ww (fun t=>hasB t k) ts
 have a2:=wz (fun p:Nat×Int=>p.2 % 2==0) (ps.filter fun p=>hasB p.1 k)
 unfold fa
 generalize oneD w l hv c ps ts hs=O at *
 generalize (ps.filter fun p=>hasB p.1 k).all (fun p:Nat×Int=>p.2 % 2==0)=r at *
 generalize ((ps.filter fun p=>hasB p.1 k).map fun p=>PyData.bool (p.2 % 2==0))=L2 at *
 generalize (ts.map fun t=>PyData.bool (hasB t k))=L1 at *
 cases h:ts.any fun t=>hasB t k with
 | true=>
  rw [h] at a1
  simp [cf,aW,en,aC,p1,a1]
 | false=>
  rw [h] at a1
  simp [cf,aW,en,aC,p1,a1,p2,a2]
theorem pC (O:D) (k:Nat):∀ (ts:List Nat) (x2:Sl),(∃ y2,(ts.any fun t=>hasB t k)=false/\loop (gN 2) aF (ai ts) [.fz O,.fz (.int k),x2]=some (.nx,[.fz O,.fz (.int k),y2]))\/∃ δ,(ts.any fun t=>hasB t k)=true/\loop (gN 2) aF (ai ts) [.fz O,.fz (.int k),x2]=some (.rt (.bool false),δ)
 | [],x2=>.inl ⟨x2,rfl,rfl⟩
 | t::r,x2=>by
  have te:=zd t k (δ:=[.fz O,.fz (.int k),.fz (.int t)]) (f1:=oV 2) (f2:=oV 1) rfl rfl
  cases h:hasB t k with
  | true=>
   rw [h] at te
   have b:aF [.fz O,.fz (.int k),.fz (.int t)]=some (.rt (.bool false),[.fz O,.fz (.int k),.fz (.int t)]):=(uT te).trans rfl
   refine .inr ⟨[.fz O,.fz (.int k),.fz (.int t)],by rw [List.any_cons,h]; rfl,?_⟩
   show ((gN 2 (.int t) [.fz O,.fz (.int k),x2]).bind _)=_
   show ((aF [.fz O,.fz (.int k),.fz (.int t)]).bind _)=_
   rw [b]; rfl
  | false=>
   rw [h] at te
   have b:aF [.fz O,.fz (.int k),.fz (.int t)]=some (.nx,[.fz O,.fz (.int k),.fz (.int t)]):=(rF te).trans rfl
   have e:loop (gN 2) aF (ai (t::r)) [.fz O,.fz (.int k),x2]=loop (gN 2) aF (ai r) [.fz O,.fz (.int k),.fz (.int t)]:=cn rfl b
   rw [e,List.any_cons,h,Bool.false_or]
   exact pC O k r _
theorem AT (k:Nat) (hp:ps.length<=1000) (x2:Sl):cQ [.fz (oneD w l hv c ps ts hs),.fz (.int k),x2]=some (.list ((ps.filter fun p=>hasB p.1 k&&(p.2 % 2==1)).map prD)):=by
 unfold cQ
 refine bw (xs:=ps) (h:=prD) ?_ (by omega) (fun p _=>?_) fun p _ _=>?_
 ·have:(oI (o2 (oV 0) (oC (.int 3)) aK) ba) [.fz (oneD w l hv c ps ts hs),.fz (.int k),x2]=some (ps.map prD):=rfl
  exact this
 ·have te:=zd p.1 k (δ:=.fz (prD p)::bC [.fz (oneD w l hv c ps ts hs),.fz (.int k),x2] [(1,"bit")]) (f1:=o2 (oV 0) (oC (.int 0)) aK) (f2:=oV 1) rfl rfl
  unfold gM
  rw [te,Option.bind_some]
  cases h:hasB p.1 k with
  | true=>simp [prD]
  | false=>rfl
 ·rfl
theorem v3 (ps:List (Nat×Int)) (k:Nat):(((ps.filter fun p=>hasB p.1 k&&(p.2 % 2==1)).length:Int)==0)=(ps.filter fun p=>hasB p.1 k).all fun p=>p.2 % 2==0:=by
 induction ps with
 | nil=>rfl
 | cons p r ih=>
  rw [List.filter_cons,List.filter_cons]
  cases h:hasB p.1 k with
  | false=>simpa using ih
  | true=>
   by_cases q:p.2 % 2=1
   ·have q0:¬ p.2 % 2=0:=by omega
    have e1:(p.2 % 2==1)=true:=by simpa using q
    have e0:(p.2 % 2==0)=false:=by simpa using q0
    simp only [Bool.true_and,e1,if_true,List.length_cons,List.all_cons,e0,Bool.false_and]
    rw [beq_eq_false_iff_ne]
    omega
   ·have q0:p.2 % 2=0:=by omega
    have e1:(p.2 % 2==1)=false:=by simpa using q
    have e0:(p.2 % 2==0)=true:=by simpa using q0
    simp only [Bool.true_and,e1,if_true,List.all_cons,e0]
    simpa using ih
theorem AU (k:Nat) (hp:ps.length<=1000):aY [oneD w l hv c ps ts hs,.int k]=some (.bool (fa ps ts k)):=by
 have it:(oI (o2 (oV 0) (oC (.int 4)) aK) ba) [.fz (oneD w l hv c ps ts hs),.fz (.int k),.un]=some (ai ts):=rfl
 unfold fa
 rcases pC (oneD w l hv c ps ts hs) k ts .un with ⟨y2,h,e⟩ | ⟨δ,h,e⟩
 ·rw [if_neg (by rw [h]; decide)]
  have p:=AT w l hv c ps ts hs k hp y2
  have z:=v3 ps k
  have s1:(fP (oI (o2 (oV 0) (oC (.int 4)) aK) ba) (gN 2) (aF)) [.fz (oneD w l hv c ps ts hs),.fz (.int k),.un]=some (.nx,[.fz (oneD w l hv c ps ts hs),.fz (.int k),y2]):=by
   unfold fP; rw [it]; exact e
  refine AN (δ':=[.fz (oneD w l hv c ps ts hs),.fz (.int k),y2]) rfl ((iW s1).trans ?_)
  have ln:jA [.list ((ps.filter fun p=>hasB p.1 k&&(p.2 % 2==1)).map prD)]=some (.int ((ps.filter fun p=>hasB p.1 k&&(p.2 % 2==1)).length:Int)):=by rw [mE,List.length_map]
  simp only [b0,o2,VL.os,ag,ax,oC,p,Option.bind_some,ln,sD,z]
 ·rw [if_pos h]
  have s1:(fP (oI (o2 (oV 0) (oC (.int 4)) aK) ba) (gN 2) (aF)) [.fz (oneD w l hv c ps ts hs),.fz (.int k),.un]=some (.rt (.bool false),δ):=by
   unfold fP; rw [it]; exact e
  exact AN (δ':=δ) rfl (Fi s1)
end
theorem t9 (b k:Nat):hasB b (k+1)=hasB (b / 2) k:=by
 unfold hasB
 rw [Nat.pow_succ,Nat.mul_comm,<- Nat.div_div_eq_div_mul]
theorem rg:∀ (k b:Nat),hasB b k=true->2 ^ k<=b/\b ^^^ 2 ^ k=b-2 ^ k
 | 0,b,h=>by
  have h:b % 2=1:=by unfold hasB at h; simpa using h
  exact ⟨by rw [Nat.pow_zero]; omega,B4 b h⟩
 | k+1,b,h=>by
  rw [t9] at h
  obtain ⟨h1,h2⟩:=rg k (b / 2) h
  have e1:(b ^^^ 2 ^ (k+1)) / 2=b / 2 ^^^ 2 ^ k:=by
   rw [Nat.xor_div_two,Nat.pow_succ,Nat.mul_div_cancel _ (by decide)]
  have e2:(b ^^^ 2 ^ (k+1)) % 2=b % 2:=by
   have:(2 ^ (k+1)) % 2=0:=by rw [Nat.pow_succ]; omega
   have q:=Nat.xor_mod_two_eq_one (a:=b) (b:=2 ^ (k+1))
   rcases Nat.mod_two_eq_zero_or_one b with z | z <;> rcases Nat.mod_two_eq_zero_or_one (b ^^^ 2 ^ (k+1)) with y | y <;> simp_all
  have e3:(2:Nat) ^ (k+1)=2*2 ^ k:=by rw [Nat.pow_succ]; omega
  rw [h2] at e1
  rw [e3] at e1 e2 ⊢
  omega
noncomputable def op:Nat->List (Nat×Int)->Nat
 | x,[]=>x
 | x,q::Q=>op (if q.2=2\/q.2=6 then x ^^^ q.1 else x) Q
noncomputable def cJ:List (Nat×Int)->Int
 | []=>0
 | q::Q=>q.2+cJ Q
theorem Fy (e:Int):zm false (.int e) (.tuple [.int 2,.int 6])=some (.bool (decide (e=2\/e=6))):=by
 show some (PyData.bool (ym (.int e) [.int 2,.int 6]))=_
 congr 2
 unfold ym
 simp only [List.any_cons,List.any_nil,PyData.eqv,Bool.or_false]
 by_cases h1:e=2
 ·subst h1; rfl
 ·by_cases h2:e=6
  ·subst h2; rfl
  ·simp [h1,h2]
   omega
theorem xP (x b:Nat) (e:Int) (z0:Sl):cG [z0,.fz (.int (x:Int)),.fz (prD (b,e))]=some (.nx,[z0,.fz (.int ((if e=2\/e=6 then x ^^^ b else x:Nat):Int)),.fz (prD (b,e))]):=by
 have i:=Fy e
 have y:=MA.qV x b
 by_cases h:e=2\/e=6
 ·rw [decide_eq_true h] at i
  rw [if_pos h,<- y]
  simp [cG,prD,i]
 ·rw [decide_eq_false h] at i
  rw [if_neg h]
  simp [cG,prD,i]
theorem rR (z0:Sl):∀ (Q:List (Nat×Int)) (x:Nat) (z2:Sl),∃ y2,loop (gN 2) cG (Q.map prD) [z0,.fz (.int (x:Int)),z2]=some (.nx,[z0,.fz (.int (op x Q:Nat)),y2])
 | [],x,z2=>⟨z2,rfl⟩
 | q::Q,x,z2=>by
  obtain ⟨y2,e⟩:=rR z0 Q (if q.2=2\/q.2=6 then x ^^^ q.1 else x) (.fz (prD q))
  refine ⟨y2,?_⟩
  rw [List.map_cons,cn (δ1:=[z0,.fz (.int (x:Int)),.fz (prD q)]) (by simp) (xP x q.1 q.2 z0),e]
  rfl
theorem Fe (L:List D) (r:Int) (y:Sl) (lp:loop (gN 2) cG L [.fz (.list L),.fz (.int 0),.un]=some (.nx,[.fz (.list L),.fz (.int r),y])):bQ [.list L]=some (.int r):=by
 simp [bQ,aW,gX,aC,lp]
theorem pf (Q:List (Nat×Int)):bQ [.list (Q.map prD)]=some (.int (op 0 Q:Nat)):=by
 obtain ⟨y,lp⟩:=rR (.fz (.list (Q.map prD))) Q 0 .un
 exact Fe _ _ y lp
theorem FF (w l:Nat) (hv:Int) (c:Nat) (ps:As) (ts hs:List Nat) (bit:Nat) (hb:bit<=1000) (hp:ps.length<=1000) (r:Dv):ck (.fz (oneD w l hv c (cC ps) ts hs) :: .fz (.int (bit:Int))::r)=some (.list ((cK ps bit (2 ^ bit)).map prD)):=by
 unfold ck cK
 rw [List.map_map]
 have sh:=ie (k:=bit) (by omega)
 generalize 2 ^ bit=N at *
 refine bw (xs:=ps) (h:=pD) (o3 w l hv c ps ts hs) (by omega) (fun p _=>?_) fun p _ _=>?_
 ·have h:=kL p.1 bit
  generalize hasB p.1 bit=z at *
  simp [bC,pD,h]
 ·have x:=MA.qV p.1 N
  simp [bC,pD,prD,x,sh]
theorem FG (Q:List (Nat×Int)) (hl:Q.length<=1000) (z0 z1:Sl) (r:Dv):ci (z0::z1 :: .fz (.list (Q.map prD))::r)=some (.list (Q.map fun q=>PyData.int q.2)):=by
 unfold ci
 refine kU (xs:=Q) (h:=prD) rfl (by omega) fun q _=>?_
 simp [bC,prD]
theorem rl:∀ Q:List (Nat×Int),(Q.map fun q=>q.2).sum=cJ Q
 | []=>rfl
 | q::Q=>by rw [List.map_cons,List.sum_cons,rl Q]; rfl
theorem xh (Q:List (Nat×Int)):jX [.list (Q.map fun q=>PyData.int q.2)]=some (.int (cJ Q)):=by
 have:=oO (fun q:Nat×Int=>q.2) Q
 rw [this,rl]
theorem DB (O L W E A0 A3 A4 A5 TT SS:D) (bit N tt t4 r h c' tie:Int) (p1:∀ x2 x3 x4 x5 x6 x7,ck [.fz O,.fz (.int bit),x2,x3,x4,x5,x6,x7]=some W) (p2:∀ x3 x4 x5 x6 x7,ci [.fz O,.fz (.int bit),.fz W,x3,x4,x5,x6,x7]=some E) (sm:jX [E]=some (.int tt)) (ht:tt % 8=t4) (h4:t4 % 4=0) (od:bQ [W]=some (.int r)) (sh:ju (.int 1) (.int bit)=some (.int N)) (gs:bK [O,.int bit,.int N]=some L) (hx:Builtin.bitXor r (t4 / 4)=tie)
  (o0:aK L (.int 0)=some A0) (o1:aK L (.int 1)=some (.int h)) (o2:aK L (.int 2)=some (.int c')) (o3:aK L (.int 3)=some A3) (o4:aK L (.int 4)=some A4) (o5:aK L (.int 5)=some A5) (ad:aR A4 (.tuple [.int tie])=some TT) (gt:aH [TT]=some SS):aT [O,.int bit]=some (.tuple [A0,.int (h-2),.int c',A3,SS,A5]):=by
 simp [aT,aW,dj,aC,p1,p2,sm,ht,h4,od,sh,gs,hx,o0,o1,o2,o3,o4,o5,ad,gt,t6]
theorem DA (O L W E A0 A3 A4 A5 R:D) (bit N tt t4 r h c' x t2 e8:Int) (he8:8-t4=e8) (p1:∀ x2 x3 x4 x5 x6 x7,ck [.fz O,.fz (.int bit),x2,x3,x4,x5,x6,x7]=some W) (p2:∀ x3 x4 x5 x6 x7,ci [.fz O,.fz (.int bit),.fz W,x3,x4,x5,x6,x7]=some E) (sm:jX [E]=some (.int tt)) (ht:tt % 8=t4) (h4:¬ t4 % 4=0) (od:bQ [W]=some (.int r)) (sh:ju (.int 1) (.int bit)=some (.int N)) (gs:bK [O,.int bit,.int N]=some L) (hx:(if t4=2 then 1 else 7)=x)
  (o0:aK L (.int 0)=some A0) (o1:aK L (.int 1)=some (.int h)) (o2:aK L (.int 2)=some (.int c')) (o3:aK L (.int 3)=some A3) (o4:aK L (.int 4)=some A4) (o5:aK L (.int 5)=some A5) (aa:bd [.int (c'+x),A3,.list [.tuple [.int r,.int e8]]]=some (.tuple [.int t2,R])):aT [O,.int bit]=some (.tuple [A0,.int (h-1),.int t2,R,A4,A5]):=by
 by_cases q:t4=2
 ·rw [if_pos q] at hx
  have z:e8=6:=by omega
  subst q hx z
  simp [aT,aW,dj,aC,p1,p2,sm,ht,od,sh,gs,o0,o1,o2,o3,o4,o5,aa,t6]
 ·rw [if_neg q] at hx
  subst hx
  simp [aT,aW,dj,aC,p1,p2,sm,ht,h4,q,he8,od,sh,gs,o0,o1,o2,o3,o4,o5,aa,t6]
noncomputable def vO (hv t:Int):Int:=if t % 4=0 then hv-2 else hv-1
noncomputable def wF (ts:List Nat) (r:Nat) (t:Int):List Nat:=ts++[r ^^^ (t / 4).toNat]
noncomputable def xG (t:Int):Int:=if t=2 then 1 else 7
structure Gn (w l:Nat) (hv:Int) (c:Nat) (ps:As) (ts hs:List Nat) (bit:Nat) (hv':Int) (c':Nat) (R:As) (ss:List Nat):Prop where
 h:hv'=vO hv (cJ (cK ps bit (2 ^ bit)) % 8)
 a:cJ (cK ps bit (2 ^ bit)) % 4=0->(c':Int)=((c:Int)+tv (ps.map (xb bit (2 ^ bit)))) % 8/\RR R (fun k=>kv k (ps.map (xb bit (2 ^ bit))))/\TT ss (wF ts (op 0 (cK ps bit (2 ^ bit))) (cJ (cK ps bit (2 ^ bit)) % 8))
 b:¬ cJ (cK ps bit (2 ^ bit)) % 4=0->(c':Int)=((c:Int)+tv (ps.map (xb bit (2 ^ bit)))+xG (cJ (cK ps bit (2 ^ bit)) % 8)+tv [(op 0 (cK ps bit (2 ^ bit)),8-cJ (cK ps bit (2 ^ bit)) % 8)]) % 8/\RR R (fun k=>kv k (ps.map (xb bit (2 ^ bit)))+kv k [(op 0 (cK ps bit (2 ^ bit)),8-cJ (cK ps bit (2 ^ bit)) % 8)])/\ss=ts
theorem Gn.one {w l:Nat} {hv:Int} {c:Nat} {ps:As} {ts hs:List Nat} {bit:Nat} {hv' hv'':Int} {c' c'':Nat} {R R':As} {ss ss':List Nat} (g:Gn w l hv c ps ts hs bit hv' c' R ss) (g':Gn w l hv c ps ts hs bit hv'' c'' R' ss'):hv'=hv''/\c'=c''/\R=R'/\ss=ss':=by
 refine ⟨g.h.trans g'.h.symm,?_⟩
 by_cases q:cJ (cK ps bit (2 ^ bit)) % 4=0
 ·obtain ⟨a1,a2,a3⟩:=g.a q
  obtain ⟨b1,b2,b3⟩:=g'.a q
  exact ⟨by omega,a2.one b2 fun k _=>rfl,a3.one b3 fun t _=>.rfl⟩
 ·obtain ⟨a1,a2,a3⟩:=g.b q
  obtain ⟨b1,b2,b3⟩:=g'.b q
  exact ⟨by omega,a2.one b2 fun k _=>rfl,a3.trans b3.symm⟩
theorem DO (t:Int):(((t % 8) / 4).toNat:Int)=t % 8 / 4:=by omega
theorem G3 {R:As} {f:Nat->Int} (h:RR R f) (k:Nat):vl R k<8:=by
 by_cases hk:0<k
 ·have:=h.val k hk; omega
 ·have:k=0:=by omega
  subst this
  rw [gZ fun q=>by
   obtain ⟨p,hp,e⟩:=List.mem_map.mp q
   have:=(h.nz p hp).1
   omega]
  omega
theorem G4 {R:As} {f:Nat->Int} (h:RR R f):0 ∉ aq R:=fun q=>by
 obtain ⟨p,hp,e⟩:=List.mem_map.mp q
 have:=(h.nz p hp).1
 omega
theorem yo {w l:Nat} {hv:Int} {c:Nat} {ps:As} {ts hs:List Nat} {n m:Nat} (S:Sm w l hv c ps ts hs n m) (hm:m<32) (hn:n<=100) (bit:Nat) (hb:bit<=1000):∃ (hv':Int) (c':Nat) (R:As) (ss:List Nat),Gn w l hv c ps ts hs bit hv' c' R ss/\R.length<=ps.length+1/\ss.length<=ts.length+1/\aT [oneD w l hv c (cC ps) ts hs,.int (bit:Int)]=some (oneD w l hv' c' (cC R) ss (vP hs bit)):=by
 obtain ⟨T,R,h1,h2,h3,h4⟩:=qx S hm hn bit (2 ^ bit)
 have tl:=S.tl
 have pl:=S.pl
 have wl:(cK ps bit (2 ^ bit)).length<=ps.length:=by unfold cK; rw [List.length_map]; exact List.length_filter_le _ _
 have p1:∀ x2 x3 x4 x5 x6 x7,ck [.fz (oneD w l hv c (cC ps) ts hs),.fz (.int (bit:Int)),x2,x3,x4,x5,x6,x7]=some (.list ((cK ps bit (2 ^ bit)).map prD)):=fun x2 x3 x4 x5 x6 x7=>FF w l hv c ps ts hs bit hb (by omega) _
 have p2:∀ x3 x4 x5 x6 x7,ci [.fz (oneD w l hv c (cC ps) ts hs),.fz (.int (bit:Int)),.fz (.list ((cK ps bit (2 ^ bit)).map prD)),x3,x4,x5,x6,x7]=_:=fun x3 x4 x5 x6 x7=>FG (cK ps bit (2 ^ bit)) (by omega) _ _ _
 have o3:aK (oneD w l hv T (cC R) ts (vP hs bit)) (.int 3)=some (.tuple (R.map pD)):=by rw [rS,fJ]
 have od:=pf (cK ps bit (2 ^ bit))
 have sm:=xh (cK ps bit (2 ^ bit))
 have sh:=ie (k:=bit) (by omega)
 obtain ⟨W,hW⟩:∃ W,cK ps bit (2 ^ bit)=W:=⟨_,rfl⟩
 rw [hW] at wl p1 p2 od sm
 by_cases q:cJ W % 4=0
 ·obtain ⟨ss,g1,g2,_,g3⟩:=wU (wF ts (op 0 W) (cJ W % 8)) (by unfold wF; rw [List.length_append]; simp; omega)
  have hx:Builtin.bitXor ((op 0 W:Nat):Int) (cJ W % 8 / 4)=((op 0 W ^^^ (cJ W % 8 / 4).toNat:Nat):Int):=by
   have:=MA.qV (op 0 W) (cJ W % 8 / 4).toNat
   rw [DO] at this
   exact this
  have ad:aR (.tuple (ai ts)) (.tuple [.int ((op 0 W ^^^ (cJ W % 8 / 4).toNat:Nat):Int)])=some (.tuple (ai (wF ts (op 0 W) (cJ W % 8)))):=by
   rw [fY (by simp [cF]; omega)]
   unfold wF
   rw [gh]
   rfl
  have x:=DB _ _ _ _ _ _ _ _ _ _ bit _ _ _ _ _ _ _ p1 p2 sm rfl (by omega) od sh h4 hx (mz ..) (pb ..) (o9 ..) o3 (mx ..) (o8 ..) ad g3
  refine ⟨vO hv (cJ W % 8),T,R,ss,⟨by rw [hW],fun _=>⟨h1,h2,by rw [hW]; exact g1⟩,fun z=>absurd (hW ▸ q) z⟩,by omega,by unfold wF at g2; rw [List.length_append] at g2; simpa using g2,?_⟩
  rw [x]
  unfold oneD vO
  rw [fJ,if_pos (by omega)]
 ·obtain ⟨R2,g1,g2,g3⟩:=iG (T+xG (cJ W % 8)) R (mC h2.pk) (G3 h2) [(op 0 W,8-cJ W % 8)] (by simp; omega) (G4 h2)
  have g3:=g3 (.tuple (R.map pD)) (wb R (mC h2.pk) (by omega))
  have x:=DA _ _ _ _ _ _ _ _ _ bit _ _ _ _ _ _ (xG (cJ W % 8)) _ _ rfl p1 p2 sm rfl (by omega) od sh h4 rfl (mz ..) (pb ..) (o9 ..) o3 (mx ..) (o8 ..) g3
  refine ⟨vO hv (cJ W % 8),(((T:Int)+xG (cJ W % 8)+tv [(op 0 W,8-cJ W % 8)]) % 8).toNat,R2,ts,⟨by rw [hW],fun z=>absurd (hW ▸ z) q,fun _=>⟨?_,⟨g1.pk,fun k hk=>?_,g1.nz⟩,rfl⟩⟩,by simpa using Nat.le_trans g2 (by simp; omega),by omega,?_⟩
  ·rw [hW]; omega
  ·rw [g1.val k hk,hW,h2.val k hk]; omega
  ·rw [x]
   unfold oneD vO
   rw [fJ,if_neg (by omega),Int.toNat_of_nonneg (by omega)]
theorem Fp (O:D) (bit b e y t lf:Int) (es es':List (ay×D)) (x7 x8:Sl) (s:j3 (.int b) (.int bit)=some (.int y)) (m:aV (.int y) (.int 2)=some (.int 0)) (g:bc es [.int b,.int e]=some es'):aZ [.fz O,.fz (.int bit),.od es,.fz (.int t),.fz (.int lf),.fz (.int b),.fz (.int e),x7,x8]=some (.nx,[.fz O,.fz (.int bit),.od es',.fz (.int t),.fz (.int lf),.fz (.int b),.fz (.int e),x7,x8]):=by
 simp [aZ,lC,s,m,g]
theorem Fo (O:D) (bit b e y t lf N v t' lf':Int) (es es':List (ay×D)) (x7 x8:Sl) (s:j3 (.int b) (.int bit)=some (.int y)) (m:aV (.int y) (.int 2)=some (.int 1)) (sh:ju (.int 1) (.int bit)=some (.int N)) (hv:b-N=v) (g:bc es [.int v,.int e]=some es') (ht:(t+e) % 8=t') (hl:(if e=2\/e=6 then Builtin.bitXor lf v else lf)=lf'):aZ [.fz O,.fz (.int bit),.od es,.fz (.int t),.fz (.int lf),.fz (.int b),.fz (.int e),x7,x8]=some (.nx,[.fz O,.fz (.int bit),.od es',.fz (.int t'),.fz (.int lf'),.fz (.int b),.fz (.int e),x7,x8]):=by
 by_cases h:e=2
 ·subst h
  rw [if_pos (.inl rfl)] at hl
  simp [aZ,lC,s,m,sh,hv,g,ht,hl]
 ·by_cases h6:e=6
  ·subst h6
   rw [if_pos (.inr rfl)] at hl
   simp [aZ,lC,s,m,sh,hv,g,ht,hl]
  ·rw [if_neg (by omega)] at hl
   subst hl
   simp [aZ,lC,s,m,sh,hv,g,ht,h,h6]
theorem yP {p:Nat×Nat} {bit:Nat} (ps:As) (ch:Nat) (h:hasB p.1 bit=true):cK (p::ps) bit ch=(p.1 ^^^ ch,(p.2:Int))::cK ps bit ch:=by unfold cK; rw [List.filter_cons_of_pos (by simp [h])]; rfl
theorem yQ {p:Nat×Nat} {bit:Nat} (ps:As) (ch:Nat) (h:hasB p.1 bit=false):cK (p::ps) bit ch=cK ps bit ch:=by unfold cK; rw [List.filter_cons_of_neg (by simp [h])]
theorem nH (O:D) (bit:Nat) (hb:bit<=1000) (x7 x8:Sl):∀ (ps A:As) (t:Int) (lf:Nat) (x5 x6:Sl),OkA A->A.length+ps.length<1000->0<=t->t<8->∃ y5 y6,loop (BT [gN 5,gN 6]) aZ (ps.map pD) [.fz O,.fz (.int (bit:Int)),.od (bB A),.fz (.int t),.fz (.int (lf:Int)),x5,x6,x7,x8]=some (.nx,[.fz O,.fz (.int (bit:Int)),.od (bB (uG A (ps.map (xb bit (2 ^ bit))))),.fz (.int ((t+cJ (cK ps bit (2 ^ bit))) % 8)),.fz (.int (op lf (cK ps bit (2 ^ bit)):Nat)),y5,y6,x7,x8])
 | [],A,t,lf,x5,x6,_,_,h0,h8=>⟨x5,x6,by
  show some (Fl.nx,_)=some (Fl.nx,[_,_,_,Sl.fz (.int ((t+0) % 8)),_,_,_,_,_])
  rw [show (t+0) % 8=t by omega]
  rfl⟩
 | p::ps,A,t,lf,x5,x6,h,hl,h0,h8=>by
  rw [List.length_cons] at hl
  have s:=jN p.1 bit
  have md:=kA (p.1 / 2 ^ bit)
  cases q:hasB p.1 bit with
  | true=>
   obtain ⟨z1,z2⟩:=rg bit p.1 q
   have e3:xb bit (2 ^ bit) p=(p.1 ^^^ 2 ^ bit,(p.2:Int)):=by unfold xb; rw [q]; rfl
   have m1:p.1 / 2 ^ bit % 2=1:=by unfold hasB at q; simpa using q
   rw [m1] at md
   have g:=vD h (by omega) (p.1 ^^^ 2 ^ bit) (p.2:Int)
   have l2:=(pE h (p.1 ^^^ 2 ^ bit) (p.2:Int)).2
   have lfx:(if ((p.2:Int)=2\/(p.2:Int)=6) then Builtin.bitXor (lf:Int) ((p.1 ^^^ 2 ^ bit:Nat):Int) else (lf:Int))=((if (p.2:Int)=2\/(p.2:Int)=6 then lf ^^^ (p.1 ^^^ 2 ^ bit) else lf:Nat):Int):=by
    split
    ·rw [MA.qV]
    ·rfl
   have st:=Fo O bit p.1 p.2 _ t lf _ ((p.1 ^^^ 2 ^ bit:Nat):Int) _ _ (bB A) _ x7 x8 s md (ie (k:=bit) (by omega)) (by rw [z2]; omega) g rfl lfx
   obtain ⟨y5,y6,e⟩:=nH O bit hb x7 x8 ps (oy A (p.1 ^^^ 2 ^ bit) (p.2:Int)) ((t+(p.2:Int)) % 8) (if (p.2:Int)=2\/(p.2:Int)=6 then lf ^^^ (p.1 ^^^ 2 ^ bit) else lf) (.fz (.int (p.1:Int))) (.fz (.int (p.2:Int))) (AM h _ _) (by omega) (by omega) (by omega)
   refine ⟨y5,y6,?_⟩
   rw [List.map_cons,cn (δ1:=[.fz O,.fz (.int (bit:Int)),.od (bB A),.fz (.int t),.fz (.int (lf:Int)),.fz (.int (p.1:Int)),.fz (.int (p.2:Int)),x7,x8]) (by simp [pD]) st,e,yP ps _ q,List.map_cons,e3]
   have tt:((t+(p.2:Int)) % 8+cJ (cK ps bit (2 ^ bit))) % 8=(t+cJ ((p.1 ^^^ 2 ^ bit,(p.2:Int))::cK ps bit (2 ^ bit))) % 8:=by
    show _=(t+((p.2:Int)+cJ (cK ps bit (2 ^ bit)))) % 8
    omega
   rw [tt]
   rfl
  | false=>
   have e3:xb bit (2 ^ bit) p=(p.1,(p.2:Int)):=by unfold xb; rw [q]; rfl
   have m1:p.1 / 2 ^ bit % 2=0:=by
    have:¬ p.1 / 2 ^ bit % 2=1:=by unfold hasB at q; simpa using q
    omega
   rw [m1] at md
   have g:=vD h (by omega) p.1 (p.2:Int)
   have l2:=(pE h p.1 (p.2:Int)).2
   have st:=Fp O bit p.1 p.2 _ t lf (bB A) _ x7 x8 s md g
   obtain ⟨y5,y6,e⟩:=nH O bit hb x7 x8 ps (oy A p.1 (p.2:Int)) t lf (.fz (.int (p.1:Int))) (.fz (.int (p.2:Int))) (AM h _ _) (by omega) h0 h8
   refine ⟨y5,y6,?_⟩
   rw [List.map_cons,cn (δ1:=[.fz O,.fz (.int (bit:Int)),.od (bB A),.fz (.int t),.fz (.int (lf:Int)),.fz (.int (p.1:Int)),.fz (.int (p.2:Int)),x7,x8]) (by simp [pD]) st,e,yQ ps _ q,List.map_cons,e3]
   rfl
theorem Dh (w l:Nat) (hv:Int) (c:Nat) (ps:As) (ts hs:List Nat) (bit:Nat) (hh:hs.length<=1000) (r:Dv):cm (.fz (oneD w l hv c (cC ps) ts hs) :: .fz (.int (bit:Int))::r)=some (.list (ai (vP hs bit))):=by
 unfold cm vP
 rw [eY]
 refine bw (xs:=hs) (h:=fun h:Nat=>PyData.int (h:Int)) (by
  have:(oI (o2 (oV 0) (oC (.int 5)) aK) ba) (.fz (oneD w l hv c (cC ps) ts hs) :: .fz (.int (bit:Int))::r)=some (ai hs):=rfl
  exact this) (by omega) (fun p _=>?_) fun p _ _=>?_
 ·have h:=vj p bit
  generalize decide (p≠bit)=z at *
  simp only [bC]
  show (((wG (some (Sl.fz (.int (p:Int))))).bind fun x=>(wG (some (Sl.fz (.int (bit:Int))))).bind fun y=>neD x y).bind asB)=_
  rw [iP,iP,Option.bind_some,Option.bind_some,h]
  rfl
 ·simp [bC]
theorem DP (A:As) (x0 x1 x3 x4 x5 x6 x7 x8:Sl):lO 2 [x0,x1,.od (bB A),x3,x4,x5,x6,x7,x8]=[x0,x1,.fz (.dict (dctD (lI A))),x3,x4,x5,x6,x7,x8]:=by
 have h:=nM A
 show (match kH (bB A) with | some l'=>_ | none=>_)=_
 rw [h]
 rfl
theorem zn {A:As} {k:Nat} (h:k∈aq A):fC (.dict (dctD (lI A))) (.int (k:Int))=some (.int (vl A k:Int)):=by
 show (fK (dctD (lI A))).bind _=_
 rw [cA,Option.bind_some]
 show (gP (.int (k:Int))).bind _=_
 rw [pI,Option.bind_some,nP h]; rfl
theorem Dg (O A0 Q5 A4 X SS PP:D) (PL:List D) (A:As) (bit c t h h' v0 r tie:Int) (y5 y6:Sl) (o2:aK O (.int 2)=some (.int c)) (o3:aK O (.int 3)=some (.tuple PL)) (lp:loop (BT [gN 5,gN 6]) aZ PL [.fz O,.fz (.int bit),.od [(.inl 0,.int c)],.fz (.int 0),.fz (.int 0),.un,.un,.un,.un]=some (.nx,[.fz O,.fz (.int bit),.od (bB A),.fz (.int t),.fz (.int r),y5,y6,.un,.un]))
  (o1:aK O (.int 1)=some (.int h)) (hh:h-2+t % 4 / 2=h') (o4:aK O (.int 4)=some A4) (ht:t=0\/t=4) (hx:Builtin.bitXor r (t / 4)=tie) (ad:aR A4 (.tuple [.int tie])=some X) (td:bL [X]=some SS) (p1:∀ x2 x3 x4 x5 x6 x7 x8,cm [.fz O,.fz (.int bit),x2,x3,x4,x5,x6,x7,x8]=some Q5) (o0:aK O (.int 0)=some A0) (g0:fC (.dict (dctD (lI A))) (.int 0)=some (.int v0)) (pp:bi [.dict (dctD (lI A))]=some PP) (QT:D) (hQ:bM [Q5]=some QT):aQ [O,.int bit]=some (.tuple [A0,.int h',.int v0,PP,SS,QT]):=by
 have d:=DP A (.fz O) (.fz (.int bit)) (.fz (.int t)) (.fz (.int r)) y5 y6 (.fz (.int h')) (.fz SS)
 rcases ht with rfl | rfl
 ·have hx:Builtin.bitXor r 0=tie:=hx
  have hh:h-2=h':=by omega
  simp [aQ,aW,cH,aC,mh,o2,o3,lp,o1,hh,o4,hx,ad,td,p1,d,o0,g0,pp,hQ,t6]
 ·have hx:Builtin.bitXor r 1=tie:=hx
  have hh:h-2=h':=by omega
  simp [aQ,aW,cH,aC,mh,o2,o3,lp,o1,hh,o4,hx,ad,td,p1,d,o0,g0,pp,hQ,t6]
theorem Df (O A0 Q5 A4 PP:D) (PL:List D) (A B:As) (es1:List (ay×D)) (bit c t h h' v0 v1 r x e8:Int) (y5 y6:Sl) (o2:aK O (.int 2)=some (.int c)) (o3:aK O (.int 3)=some (.tuple PL)) (lp:loop (BT [gN 5,gN 6]) aZ PL [.fz O,.fz (.int bit),.od [(.inl 0,.int c)],.fz (.int 0),.fz (.int 0),.un,.un,.un,.un]=some (.nx,[.fz O,.fz (.int bit),.od (bB A),.fz (.int t),.fz (.int r),y5,y6,.un,.un]))
  (o1:aK O (.int 1)=some (.int h)) (hh:h-2+t % 4 / 2=h') (o4:aK O (.int 4)=some A4) (ht:t=2/\x=1/\e8=6\/t=6/\x=7/\e8=2) (gz:di (bB A) (.inl 0)=some (.int v0)) (hl:(bB A).length<sizeLine) (hp:dQ (bB A) (.inl 0) (.int ((v0+x) % 8))=es1) (ga:bc es1 [.int r,.int e8]=some (bB B)) (p1:∀ x2 x3 x4 x5 x6 x7 x8,cm [.fz O,.fz (.int bit),x2,x3,x4,x5,x6,x7,x8]=some Q5) (o0:aK O (.int 0)=some A0) (g0:fC (.dict (dctD (lI B))) (.int 0)=some (.int v1)) (pp:bi [.dict (dctD (lI B))]=some PP) (QT:D) (hQ:bM [Q5]=some QT):aQ [O,.int bit]=some (.tuple [A0,.int h',.int v1,PP,A4,QT]):=by
 have d:=DP B (.fz O) (.fz (.int bit)) (.fz (.int t)) (.fz (.int r)) y5 y6 (.fz (.int h')) (.fz A4)
 rcases ht with ⟨rfl,rfl,rfl⟩ | ⟨rfl,rfl,rfl⟩
 ·have hh:h-2+1=h':=by omega
  simp [aQ,aW,cH,aC,mh,br,kt,lC,o2,o3,lp,o1,hh,o4,gz,hl,hp,ga,p1,d,o0,g0,pp,hQ,t6]
 ·have hh:h-2+1=h':=by omega
  simp [aQ,aW,cH,aC,mh,br,kt,lC,o2,o3,lp,o1,hh,o4,gz,hl,hp,ga,p1,d,o0,g0,pp,hQ,t6]
theorem pH {w l:Nat} {hv:Int} {c:Nat} {ps:As} {ts hs:List Nat} {n m:Nat} (S:Sm w l hv c ps ts hs n m) (hm:m<32) (hn:n<=100) (bit:Nat) (hb:bit<=1000) (ev:cJ (cK ps bit (2 ^ bit)) % 2=0):∃ (hv':Int) (c':Nat) (R:As) (ss:List Nat),Gn w l hv c ps ts hs bit hv' c' R ss/\aQ [oneD w l hv c (cC ps) ts hs,.int (bit:Int)]=some (oneD w l hv' c' (cC R) ss (vP hs bit)):=by
 have tl:=S.tl
 have pl:=S.pl
 have hl:=S.hl
 have ok:=vg (ps.map (xb bit (2 ^ bit))) (kq S.c8)
 have ln:=r9 (ps.map (xb bit (2 ^ bit))) (kq S.c8)
 simp only [List.length_map,List.length_cons,List.length_nil] at ln
 have v0:=ri (ps.map (xb bit (2 ^ bit))) (kq S.c8)
 rw [wP] at v0
 have vk:∀ k,0<k->(vl (uG [(0,c)] (ps.map (xb bit (2 ^ bit)))) k:Int)=kv k (ps.map (xb bit (2 ^ bit))) % 8:=fun k hk=>by
  rw [rh hk _ (kq S.c8),zD c hk]
  show ((0:Nat)+_:Int) % 8=_
  rw [show ((0:Nat):Int)=0 from rfl,Int.zero_add]
 obtain ⟨y5,y6,lp⟩:=nH (oneD w l hv c (cC ps) ts hs) bit hb .un .un ps [(0,c)] 0 0 .un .un (kq S.c8) (by simp; omega) (by decide) (by decide)
 rw [Int.zero_add] at lp
 have o3:aK (oneD w l hv c (cC ps) ts hs) (.int 3)=some (.tuple (ps.map pD)):=by rw [rS,fJ]
 have p1:∀ x2 x3 x4 x5 x6 x7 x8,cm [.fz (oneD w l hv c (cC ps) ts hs),.fz (.int (bit:Int)),x2,x3,x4,x5,x6,x7,x8]=some (.list (ai (vP hs bit))):=fun x2 x3 x4 x5 x6 x7 x8=>Dh w l hv c ps ts hs bit (by omega) _
 obtain ⟨A,hA⟩:∃ A,uG [(0,c)] (ps.map (xb bit (2 ^ bit)))=A:=⟨_,rfl⟩
 rw [hA] at ok ln v0 lp
 simp only [hA] at vk
 obtain ⟨W,hW⟩:∃ W,cK ps bit (2 ^ bit)=W:=⟨_,rfl⟩
 rw [hW] at lp ev
 by_cases q:cJ W % 4=0
 ·obtain ⟨rs,p,pw,e⟩:=o6 A ok.nd (by omega)
  obtain ⟨ss,g1,g2⟩:=wV (wF ts (op 0 W) (cJ W % 8)) (by unfold wF; rw [List.length_append]; simp; omega)
  have hx:Builtin.bitXor ((op 0 W:Nat):Int) (cJ W % 8 / 4)=((op 0 W ^^^ (cJ W % 8 / 4).toNat:Nat):Int):=by
   have:=MA.qV (op 0 W) (cJ W % 8 / 4).toNat
   rw [DO] at this
   exact this
  have ad:aR (.tuple (ai ts)) (.tuple [.int ((op 0 W ^^^ (cJ W % 8 / 4).toNat:Nat):Int)])=some (.tuple (ai (wF ts (op 0 W) (cJ W % 8)))):=by
   rw [fY (by simp [cF]; omega)]
   unfold wF
   rw [gh]
   rfl
  have x:=Dg _ _ _ _ _ _ _ _ A bit c _ hv (vO hv (cJ W % 8)) _ _ _ y5 y6 (o9 ..) o3 lp (pb ..) (by unfold vO; rw [if_pos (by omega)]; omega) (mx ..) (by omega) hx ad (g2 _ rfl) p1 (mz ..) (zn (k:=0) ok.z) e _ rfl
  refine ⟨vO hv (cJ W % 8),vl A 0,kj A rs,ss,⟨by rw [hW],fun _=>⟨v0,uW ok p pw vk,by rw [hW]; exact g1⟩,fun z=>absurd (hW ▸ q) z⟩,?_⟩
  rw [x]
  unfold oneD
  rw [fJ]
 ·have ok1:OkA (jP A 0 (nv (vl A 0) (xG (cJ W % 8)))):=nD ok 0 _ (rV _ _)
  have okB:=AM ok1 (op 0 W) (8-cJ W % 8)
  have l1:=jS A 0 (nv (vl A 0) (xG (cJ W % 8)))
  have lB:=(pE ok1 (op 0 W) (8-cJ W % 8)).2
  have ga:=vD ok1 (by omega) (op 0 W) (8-cJ W % 8)
  obtain ⟨B,hB⟩:∃ B,oy (jP A 0 (nv (vl A 0) (xG (cJ W % 8)))) (op 0 W) (8-cJ W % 8)=B:=⟨_,rfl⟩
  have vB0:=yR (jP A 0 (nv (vl A 0) (xG (cJ W % 8)))) (op 0 W) (8-cJ W % 8)
  have vBk:=Gc (jP A 0 (nv (vl A 0) (xG (cJ W % 8)))) (op 0 W) (8-cJ W % 8)
  rw [hB] at okB lB ga vB0
  simp only [hB] at vBk
  rw [fG,if_pos rfl] at vB0
  obtain ⟨rs,p,pw,e⟩:=o6 B okB.nd (by omega)
  have sz:sizeLine>=1001:=by decide
  have x:=Df _ _ _ _ _ _ A B _ bit c _ hv (vO hv (cJ W % 8)) _ _ _ (xG (cJ W % 8)) (8-cJ W % 8) y5 y6 (o9 ..) o3 lp (pb ..) (by unfold vO; rw [if_neg (by omega)]; omega) (mx ..) (by
   unfold xG
   by_cases z:cJ W % 8=2
   ·rw [if_pos z]; omega
   ·rw [if_neg z]; omega) (nQ ok.z) (by unfold bB; rw [List.length_map]; omega) (by rw [<- gy]; exact gg A 0 _) ga p1 (mz ..) (zn (k:=0) okB.z) e _ rfl
  refine ⟨vO hv (cJ W % 8),vl B 0,kj B rs,ts,⟨by rw [hW],fun z=>absurd (hW ▸ z) q,fun _=>⟨?_,uW okB p pw fun k hk=>?_,rfl⟩⟩,?_⟩
  ·rw [hW,vB0]
   have n1:=gy (vl A 0) (xG (cJ W % 8))
   show _=(_+((if op 0 W % 2=1 then 8-cJ W % 8 else 0)+0)) % 8
   by_cases o:op 0 W % 2=1
   ·rw [if_pos o,if_pos o,gy]; omega
   ·rw [if_neg o,if_neg o]; omega
  ·have vp:vl (jP A 0 (nv (vl A 0) (xG (cJ W % 8)))) k=vl A k:=by rw [fG,if_neg (by omega)]
   rw [hW,vBk k hk,vp]
   have:=vk k hk
   show _=(_+((if GN.hb (op 0 W)=k then he (op 0 W) (8-cJ W % 8) else 0)+0)) % 8
   by_cases o:GN.hb (op 0 W)=k
   ·rw [if_pos o,if_pos o.symm,gy]; omega
   ·rw [if_neg o,if_neg (fun z=>o z.symm)]; omega
  ·rw [x]
   unfold oneD
   rw [fJ]
theorem yB (ns:List Int) (lo hi:Option Int):∃ ms:List Int,ms.length<=ns.length/\BK (.list (ns.map .int)) lo hi=some (.list (ms.map .int)):=by
 refine ⟨(ns.drop (HT.sIx ns.length 0 lo)).take (HT.sIx ns.length ns.length hi-HT.sIx ns.length 0 lo),?_,?_⟩
 ·rw [List.length_take,List.length_drop]; omega
 ·show some (PyData.list (p6 _ _ _))=_
  unfold p6
  rw [List.length_map,<- List.map_drop,<- List.map_take]
theorem yH {hs:List Nat} {h:Nat} (m:h∈hs):(hs.any fun x=>((x:Nat):Int)==(h:Int))=true:=List.any_eq_true.mpr ⟨h,m,by simp⟩
theorem mL {w l:Nat} {hv:Int} {c:Nat} {ps:List (Nat×Int)} {ts hs:List Nat} {h:Nat} (hh:h∈hs) (ht:ts.length<=1000) (hp:ps.length<=1000):eB [oneD w l hv c ps ts hs,wM (h:Int)]=some (.bool (fa ps ts h)):=by
 have i2:=G9 hs (h:Int)
 rw [yH hh] at i2
 have a:=GF
 have o5:=o8 w l hv c ps ts hs
 have g:=yp w l hv c ps ts hs h ht hp
 generalize oneD w l hv c ps ts hs=O at *
 generalize fa ps ts h=r at *
 simp [eB,aW,qZ,aC,wM,a,o5,i2,g]
theorem na (O R:D) (h:Int) (f:eB [O,wM h]=some (.bool true)) (g:aT [O,.int h]=some R):bZ [O,wM h]=some R:=by
 have a:=GF
 unfold wM at *
 simp [bZ,aW,jh,aC,a,f,g]
theorem jV (bit ch:Nat):∀ ps:As,((cC ps).filter fun p=>hasB p.1 bit).all (fun p=>p.2 % 2==0)=true->cJ (cK ps bit ch) % 2=0
 | [],_=>rfl
 | p::ps,h=>by
  have e0:cC (p::ps)=(p.1,(p.2:Int))::cC ps:=rfl
  rw [e0] at h
  cases q:hasB p.1 bit with
  | true=>
   rw [List.filter_cons_of_pos (by simp [q]),List.all_cons,Bool.and_eq_true] at h
   have ih:=jV bit ch ps h.2
   have h1:(p.2:Int) % 2=0:=by simpa using h.1
   rw [yP ps ch q]
   show ((p.2:Int)+cJ (cK ps bit ch)) % 2=0
   omega
  | false=>
   rw [List.filter_cons_of_neg (by simp [q])] at h
   rw [yQ ps ch q]
   exact jV bit ch ps h
theorem ua {w l:Nat} {hv:Int} {c:Nat} {ps:As} {ts hs:List Nat} {n m:Nat} (S:Sm w l hv c ps ts hs n m) (hm:m<32) (hn:n<=100) {bit:Nat} (hbit:bit∈hs) (hf:fa (cC ps) ts bit=true):∃ X,bZ [oneD w l hv c (cC ps) ts hs,wM (bit:Int)]=some X/\aQ [oneD w l hv c (cC ps) ts hs,.int (bit:Int)]=some X/\aO [X,X]=some (.bool true):=by
 have hb9:=(S.hb bit hbit).2
 have tl:=S.tl
 have pl:=S.pl
 have hl:=S.hl
 have ev:((cC ps).filter fun p=>hasB p.1 bit).all (fun p=>p.2 % 2==0)=true:=by
  unfold fa at hf
  split at hf
  ·cases hf
  ·exact hf
 obtain ⟨hv',c',R,ss,a1,a2,a3,a4⟩:=yo S hm hn bit (by omega)
 obtain ⟨hv'',c'',R',ss',b1,b2⟩:=pH S hm hn bit (by omega) (jV bit _ ps ev)
 obtain ⟨rfl,rfl,rfl,rfl⟩:=a1.one b1
 have hx:(vP hs bit).length<=hs.length:=List.length_filter_le _ _
 have f:=mL (w:=w) (l:=l) (hv:=hv) (c:=c) (ps:=cC ps) hbit (ts:=ts) (by omega) (by rw [qj]; omega)
 rw [hf] at f
 exact ⟨_,na _ _ _ f a4,b2,oU _ _ _ _ _ _ _ (by omega) (by omega)⟩
theorem Fv (O:D) (h:Int) (z0 z1:Sl) (f:aY [O,.int h]=some (.bool false)) (g:bp [O,wM h]=some (.bool true)):fj [z0,z1,.fz O,.fz (.int h)]=some (.nx,[z0,z1,.fz O,.fz (.int h)]):=by
 unfold wM at g
 simp [fj,f,g]
theorem Fu (O X:D) (h:Int) (z0 z1:Sl) (f:aY [O,.int h]=some (.bool true)) (g1:bZ [O,wM h]=some X) (g2:aQ [O,.int h]=some X) (g3:aO [X,X]=some (.bool true)):fj [z0,z1,.fz O,.fz (.int h)]=some (.nx,[z0,z1,.fz O,.fz (.int h)]):=by
 unfold wM at g1
 simp [fj,f,g1,g2,g3]
theorem Dk {w l:Nat} {hv:Int} {c:Nat} {ps:As} {ts hs:List Nat} {n m:Nat} (S:Sm w l hv c ps ts hs n m) (hm:m<32) (hn:n<=100) {bit:Nat} (hbit:bit∈hs) (z0 z1:Sl):fj [z0,z1,.fz (oneD w l hv c (cC ps) ts hs),.fz (.int (bit:Int))]=some (.nx,[z0,z1,.fz (oneD w l hv c (cC ps) ts hs),.fz (.int (bit:Int))]):=by
 have tl:=S.tl
 have pl:=S.pl
 have lf:=AU w l hv c (cC ps) ts hs bit (by rw [qj]; omega)
 cases h:fa (cC ps) ts bit with
 | true=>
  rw [h] at lf
  obtain ⟨X,g1,g2,g3⟩:=ua S hm hn hbit h
  exact Fu _ X _ z0 z1 lf g1 g2 g3
 | false=>
  rw [h] at lf
  have f:=mL (w:=w) (l:=l) (hv:=hv) (c:=c) (ps:=cC ps) hbit (ts:=ts) (by omega) (by rw [qj]; omega)
  rw [h] at f
  exact Fv _ _ z0 z1 lf (Fj _ _ f)
theorem se {w l:Nat} {hv:Int} {c:Nat} {ps:As} {ts hs:List Nat} {n m:Nat} (S:Sm w l hv c ps ts hs n m) (hm:m<32) (hn:n<=100) (z0 z1:Sl):∀ (us:List Nat) (x3:Sl),(∀ u∈us,u∈hs)->∃ y3,loop (gN 3) fj (ai us) [z0,z1,.fz (oneD w l hv c (cC ps) ts hs),x3]=some (.nx,[z0,z1,.fz (oneD w l hv c (cC ps) ts hs),y3])
 | [],x3,_=>⟨x3,rfl⟩
 | u::us,x3,h=>by
  have st:=Dk S hm hn (h u List.mem_cons_self) z0 z1
  obtain ⟨y3,e⟩:=se S hm hn z0 z1 us (.fz (.int (u:Int))) fun v hv=>h v (List.mem_cons_of_mem _ hv)
  refine ⟨y3,?_⟩
  show loop (gN 3) fj (PyData.int (u:Int)::ai us) _=_
  rw [cn (δ1:=[z0,z1,.fz (oneD w l hv c (cC ps) ts hs),.fz (.int (u:Int))]) (by simp) st,e]
theorem e9:tw (.int 10) (.int 9)=some (.int 1000000000):=rfl
theorem Di (Sc A O:D) (c h:Int) (PL:List D) (y3:Sl) (g:aL [Sc,.int 0]=some (.int c)) (hh:c % 1000000000=h) (s:BK Sc (some 1) (some 61)=some A) (g2:bu [.int h,A]=some O) (o5:aK O (.int 5)=some (.tuple PL)) (lp:loop (gN 3) fj PL [.fz Sc,.fz (.int h),.fz O,.un]=some (.nx,[.fz Sc,.fz (.int h),.fz O,y3])):pQ [Sc]=some (.bool true):=by
 simp [pQ,aW,wq,aC,g,e9,hh,s,g2,o5,lp]
theorem law_true (ns:List Int) (hl:ns.length<=63):pQ [.list (ns.map .int)]=some (.bool true):=by
 obtain ⟨c,hc⟩:=sG ns 0 (by decide)
 obtain ⟨h,hh⟩:∃ h:Nat,c % 1000000000=h:=⟨(c % 1000000000).toNat,by omega⟩
 obtain ⟨ms,_,hs⟩:=yB ns (some 1) (some 61)
 obtain ⟨w,l,hv,cc,ps,ts,hs',e,S⟩:=oQ h ms
 obtain ⟨y3,lp⟩:=se S (by decide) (by decide) (.fz (.list (ns.map .int))) (.fz (.int (h:Int))) hs' .un fun u hu=>hu
 exact Di _ _ _ c h _ y3 hc hh hs e (o8 ..) lp
end GN
namespace GN
open PySem PySem.Spec PyProof.Rows L2 VL
structure Txt (mg:Str->Option Value):Prop where
 dict:mg "dict" = none
 tuple:mg "tuple" = none
 sorted:mg "sorted" = none
 set_:mg "set" = none
 any:mg "any" = none
 all:mg "all" = none
 sum:mg "sum" = none
 len:mg "len" = none
 isinstance:mg "isinstance" = none
 int:mg "int" = none
 bool:mg "bool" = none
 range:mg "range" = none
 list:mg "list" = none
 min:mg "min" = none
 ValueError:mg "ValueError" = none
section
variable {P:Program} {w:World} {K:PySem.W.Frag} {mg:Str->Option Value} {base:Heap}
theorem sc_all_added:FnScope fZ ["turn","turns","pairs"] (ah df):=⟨rfl,rfl,rfl,by decide +kernel,rfl,by decide +kernel,by decide +kernel⟩
theorem nA {f:Addr} {fd:FuncData} {dV:Value} (F:FunV K "all_added" "all_added" df f fd dV) (T:Txt mg):FnOk P w K mg base dJ 1 f fd ["turn","turns","pairs"] (gu K bd):=
 dU (k:=0) (b:=fW) F sc_all_added fun cdv A outer s H E hr=>(ap (xg 3 sc_all_added.nd rfl T.dict (ac 1)) (ap (ez PassesOwn.never rfl (bh (ac 2)) (cR 4 sc_all_added.nd) (ap (aJ 5 sc_all_added.nd (au aE (ac 4) ae (fun _ _=>rfl))) (ap (aJ 6 sc_all_added.nd (au aE (ac 4) ae (fun _ _=>rfl))) (ap (b8 (aI (eE hr.units) (ak zu (ac 5) ae) ae (aG _)) (ap (aJ 0 sc_all_added.nd (ak bY (ac 0) (ac 6))) (ap (aJ 5 sc_all_added.nd (ak jo (ac 5) ae)) (av (aJ 6 sc_all_added.nd (DK DQ (ac 6)))))) bT) (av (b8 (aI (nZ hr.units) (ac 5) ae (aG _)) (av (g7 3 (qk hr.units) (ac 5) (ak bg (ak bY (pU 3 (qk hr.units) (ac 5) ae ⟨rfl,rfl,rfl,rfl⟩) (ac 6)) ae))) bT)))))) (av (aM (b5 (af (ak bg (ac 0) ae) (af (cq dH rfl T.tuple (by decide +kernel) (af (cS (vars:=["pair"]) (caps:=[]) (by change BlkOk (ah df).names fZ _ _ _; exact ⟨rfl,by decide +kernel,by decide +kernel,by decide +kernel,by decide +kernel⟩) rfl (bh (ug 3 rfl T.sorted)) cv (fun _ _ _ _=>bq (i:=0) (show (["pair"]:List Str).Nodup by decide +kernel) rfl (Or.inl rfl) (.inr rfl)) (fun _ _ _ _=>(aI (nZ hr.units) (au aE (ac 0) ae (fun _ _=>rfl)) ae (aG _))) (fun _ _ _ _=>(ac 0))) aj)) aj)))))))
theorem iQ:FnScope dy ["ties"] (ah bV):=⟨rfl,rfl,rfl,by decide +kernel,rfl,by decide +kernel,by decide +kernel⟩
theorem iT {f:Addr} {fd:FuncData} {dV:Value} (F:FunV K "ties_in_order" "ties_in_order" bV f fd dV) (T:Txt mg):FnOk P w K mg base dJ 1 f fd ["ties"] (gu K aH):=
 dU (k:=0) (b:=dt) F iQ fun cdv A outer s H E hr=>(av (aM (cq dH rfl T.tuple (by decide +kernel) (af (cS (vars:=["tie"]) (caps:=[]) (by change BlkOk (ah bV).names dy _ _ _; exact ⟨rfl,by decide +kernel,by decide +kernel,by decide +kernel,by decide +kernel⟩) rfl (bh (yr rfl T.sorted rfl T.set_ (ac 0))) cv (fun _ _ _ _=>bq (i:=0) (show (["tie"]:List Str).Nodup by decide +kernel) rfl (Or.inl rfl) (.inr rfl)) (fun _ _ _ _=>(aI (nZ hr.units) (ac 0) ae (aG _))) (fun _ _ _ _=>(ac 0))) aj))))
theorem Ae:FnScope zz ["bitset","bit"] (ah rE):=⟨rfl,rfl,rfl,by decide +kernel,rfl,by decide +kernel,by decide +kernel⟩
theorem AL {f:Addr} {fd:FuncData} {dV:Value} (F:FunV K "has" "has" rE f fd dV) (T:Txt mg):FnOk P w K mg base dJ 1 f fd ["bitset","bit"] (gu K dz):=
 dU (k:=0) (b:=wu) F Ae fun cdv A outer s H E hr=>(av (aM (gR (eE hr.units) (ak zu (ak pZ (ac 0) (ac 1)) ae) ae (aG _))))
theorem nj:FnScope eu ["one","bit"] (ah cE):=⟨rfl,rfl,rfl,by decide +kernel,rfl,by decide +kernel,by decide +kernel⟩
theorem ny {f:Addr} {fd:FuncData} {dV:Value} (F:FunV K "goes_away" "goes_away" cE f fd dV) (T:Txt mg) (C_has:Cal P w K mg base "has" 1 dz []):FnOk P w K mg base dJ 2 f fd ["one","bit"] (gu K cf):=
 dU (k:=1) (b:=en) F nj fun cdv A outer s H E hr=>(ap (b8 (cu (cx (DU rfl) rfl T.any (by decide +kernel) (af (nW (vars:=["tie"]) (caps:=[(1,"bit")]) (by change BlkOk (ah cE).names eu _ _ _; exact ⟨rfl,by decide +kernel,by decide +kernel,by decide +kernel,by decide +kernel⟩) rfl (bh (au aE (ac 0) ae (fun _ _=>rfl))) cv (fun _ _ _ _=>bq (i:=0) (show (["tie","bit"]:List Str).Nodup by decide +kernel) rfl (Or.inl rfl) (.inr rfl)) (fun _ _ _ _=>(aB C_has (hr.mono (by decide)) rfl (af (ac 0) (af (ac 1) aj))))) aj))) (av (aM fU)) bT) (av (aM (cx (DV rfl) rfl T.all (by decide +kernel) (af (cS (vars:=["pair"]) (caps:=[(1,"bit")]) (by change BlkOk (ah cE).names eu _ _ _; exact ⟨rfl,by decide +kernel,by decide +kernel,by decide +kernel,by decide +kernel⟩) rfl (bh (au aE (ac 0) ae (fun _ _=>rfl))) cv (fun _ _ _ _=>bq (i:=0) (show (["pair","bit"]:List Str).Nodup by decide +kernel) rfl (Or.inl rfl) (.inr rfl)) (fun _ _ _ _=>(cu (aB C_has (hr.mono (by decide)) rfl (af (au aE (ac 0) ae (fun _ _=>rfl)) (af (ac 1) aj))))) (fun _ _ _ _=>(gR (eE hr.units) (ak bg (au aE (ac 0) ae (fun _ _=>rfl)) ae) ae (aG _)))) aj)))))
theorem xu:FnScope wE ["one","step"] (ah nk):=⟨rfl,rfl,rfl,by decide +kernel,rfl,by decide +kernel,by decide +kernel⟩
theorem xT {f:Addr} {fd:FuncData} {dV:Value} (F:FunV K "fits" "fits" nk f fd dV) (T:Txt mg) (C_has:Cal P w K mg base "has" 1 dz []) (C_goes_away:Cal P w K mg base "goes_away" 2 cf []):FnOk P w K mg base dJ 3 f fd ["one","step"] (gu K eB):=
 dU (k:=2) (b:=qZ) F xu fun cdv A outer s H E hr=>(ap (b8 (aI (eE hr.units) (au aE (ac 1) ae (fun _ _=>rfl)) kR (aG _)) (av (aM (jb (gR wf (au aE (ac 1) ae (fun _ _=>rfl)) (au aE (ac 0) ae (fun _ _=>rfl)) (by with_unfolding_all rfl)) (nV (aB C_goes_away (hr.mono (by decide)) rfl (af (ac 0) (af (au aE (ac 1) ae (fun _ _=>rfl)) aj))))))) bT) (av (aM (jb (gR wf (au aE (ac 1) ae (fun _ _=>rfl)) (au aE (ac 0) ae (fun _ _=>rfl)) (by with_unfolding_all rfl)) (jb (gR wf (au aE (ac 1) ae (fun _ _=>rfl)) (au aE (ac 0) ae (fun _ _=>rfl)) (by with_unfolding_all rfl)) (nV (aB C_has (hr.mono (by decide)) rfl (af (au aE (ac 1) ae (fun _ _=>rfl)) (af (au aE (ac 1) ae (fun _ _=>rfl)) aj)))))))))
theorem sc_shorter:FnScope eO ["one","bit","change"] (ah cV):=⟨rfl,rfl,rfl,by decide +kernel,rfl,by decide +kernel,by decide +kernel⟩
theorem qG {f:Addr} {fd:FuncData} {dV:Value} (F:FunV K "shorter" "shorter" cV f fd dV) (T:Txt mg) (C_all_added:Cal P w K mg base "all_added" 1 bd []) (C_has:Cal P w K mg base "has" 1 dz []):FnOk P w K mg base dJ 2 f fd ["one","bit","change"] (gu K bK):=
 dU (k:=1) (b:=ji) F sc_shorter fun cdv A outer s H E hr=>(ap (g8 3 sc_shorter.nd (vars:=["pair"]) (caps:=[(1,"bit"),(2,"change")]) (by change BlkOk (ah cV).names eO _ _ _; exact ⟨rfl,by decide +kernel,by decide +kernel,by decide +kernel,by decide +kernel⟩) rfl (bh (au aE (ac 0) ae (fun _ _=>rfl))) cv (fun _ _ _ _=>bq (i:=0) (show (["pair","bit","change"]:List Str).Nodup by decide +kernel) rfl (Or.inl rfl) (.inr rfl)) (fun _ _ _ _=>(cu (aB C_has (hr.mono (by decide)) rfl (af (au aE (ac 0) ae (fun _ _=>rfl)) (af (ac 1) aj))))) (fun _ _ _ _=>(b5 (af (ak jo (au aE (ac 0) ae (fun _ _=>rfl)) (ac 2)) (af (au aE (ac 0) ae (fun _ _=>rfl)) aj))))) (ap (g8 4 sc_shorter.nd (vars:=["pair"]) (caps:=[(1,"bit")]) (by change BlkOk (ah cV).names eO _ _ _; exact ⟨rfl,by decide +kernel,by decide +kernel,by decide +kernel,by decide +kernel⟩) rfl (bh (au aE (ac 0) ae (fun _ _=>rfl))) cv (fun _ _ _ _=>bq (i:=0) (show (["pair","bit"]:List Str).Nodup by decide +kernel) rfl (Or.inl rfl) (.inr rfl)) (fun _ _ _ _=>(dL (cu (aB C_has (hr.mono (by decide)) rfl (af (au aE (ac 0) ae (fun _ _=>rfl)) (af (ac 1) aj)))))) (fun _ _ _ _=>(ac 0))) (ap (aJ 5 sc_shorter.nd (aB C_all_added (hr.mono (by decide)) rfl (af (au aE (ac 0) ae (fun _ _=>rfl)) (af (ac 4) (af (ac 3) aj))))) (av (aM (b5 (af (au aE (ac 0) ae (fun _ _=>rfl)) (af (au aE (ac 0) ae (fun _ _=>rfl)) (af (au aE (ac 5) ae (fun _ _=>rfl)) (af (au aE (ac 5) ae (fun _ _=>rfl)) (af (au aE (ac 0) ae (fun _ _=>rfl)) (af (cq dH rfl T.tuple (by decide +kernel) (af (cS (vars:=["other"]) (caps:=[(1,"bit")]) (by change BlkOk (ah cV).names eO _ _ _; exact ⟨rfl,by decide +kernel,by decide +kernel,by decide +kernel,by decide +kernel⟩) rfl (bh (au aE (ac 0) ae (fun _ _=>rfl))) cv (fun _ _ _ _=>bq (i:=0) (show (["other","bit"]:List Str).Nodup by decide +kernel) rfl (Or.inl rfl) (.inr rfl)) (fun _ _ _ _=>(aI (nZ hr.units) (ac 0) (ac 1) (aG _))) (fun _ _ _ _=>(ac 0))) aj)) aj))))))))))))
theorem sc_odd_part:FnScope lm ["pairs"] (ah eP):=⟨rfl,rfl,rfl,by decide +kernel,rfl,by decide +kernel,by decide +kernel⟩
theorem pd {f:Addr} {fd:FuncData} {dV:Value} (F:FunV K "odd_part" "odd_part" eP f fd dV) (T:Txt mg):FnOk P w K mg base dJ 1 f fd ["pairs"] (gu K bQ):=
 dU (k:=0) (b:=gX) F sc_odd_part fun cdv A outer s H E hr=>(ap (aJ 1 sc_odd_part.nd ae) (ap (ez PassesOwn.never rfl (bh (ac 0)) (cR 2 sc_odd_part.nd) (av (b8 (aI wf (au aE (ac 2) ae (fun _ _=>rfl)) (b5 (af ae (af ae aj))) (by with_unfolding_all rfl)) (av (aJ 1 sc_odd_part.nd (ak jo (ac 1) (au aE (ac 2) ae (fun _ _=>rfl))))) bT))) (av (aM (ac 1)))))
theorem sc_gone_away:FnScope er ["one","bit"] (ah cD):=⟨rfl,rfl,rfl,by decide +kernel,rfl,by decide +kernel,by decide +kernel⟩
theorem nu {f:Addr} {fd:FuncData} {dV:Value} (F:FunV K "gone_away" "gone_away" cD f fd dV) (T:Txt mg) (C_odd_part:Cal P w K mg base "odd_part" 1 bQ []) (C_shorter:Cal P w K mg base "shorter" 2 bK []) (C_all_added:Cal P w K mg base "all_added" 1 bd []) (C_has:Cal P w K mg base "has" 1 dz []) (C_ties_in_order:Cal P w K mg base "ties_in_order" 1 aH []):FnOk P w K mg base dJ 3 f fd ["one","bit"] (gu K aT):=
 dU (k:=2) (b:=dj) F sc_gone_away fun cdv A outer s H E hr=>(ap (g8 2 sc_gone_away.nd (vars:=["pair"]) (caps:=[(1,"bit")]) (by change BlkOk (ah cD).names er _ _ _; exact ⟨rfl,by decide +kernel,by decide +kernel,by decide +kernel,by decide +kernel⟩) rfl (bh (au aE (ac 0) ae (fun _ _=>rfl))) cv (fun _ _ _ _=>bq (i:=0) (show (["pair","bit"]:List Str).Nodup by decide +kernel) rfl (Or.inl rfl) (.inr rfl)) (fun _ _ _ _=>(cu (aB C_has (hr.mono (by decide)) rfl (af (au aE (ac 0) ae (fun _ _=>rfl)) (af (ac 1) aj))))) (fun _ _ _ _=>(b5 (af (ak jo (au aE (ac 0) ae (fun _ _=>rfl)) (ak p4 ae (ac 1))) (af (au aE (ac 0) ae (fun _ _=>rfl)) aj))))) (ap (aJ 3 sc_gone_away.nd (ak bg (cx (zv rfl) rfl T.sum (by decide +kernel) (af (nW (vars:=["pair"]) (caps:=[]) (by change BlkOk (ah cD).names er _ _ _; exact ⟨rfl,by decide +kernel,by decide +kernel,by decide +kernel,by decide +kernel⟩) rfl (bh (ac 2)) cv (fun _ _ _ _=>bq (i:=0) (show (["pair"]:List Str).Nodup by decide +kernel) rfl (Or.inl rfl) (.inr rfl)) (fun _ _ _ _=>(au aE (ac 0) ae (fun _ _=>rfl)))) aj)) ae)) (ap (aJ 4 sc_gone_away.nd (aB C_odd_part (hr.mono (by decide)) rfl (af (ac 2) aj))) (ap (aJ 5 sc_gone_away.nd (aB C_shorter (hr.mono (by decide)) rfl (af (ac 0) (af (ac 1) (af (ak p4 ae (ac 1)) aj))))) (ap (b8 (aI (eE hr.units) (ak bg (ac 3) ae) ae (aG _)) (ap (aJ 6 sc_gone_away.nd (ak jo (ac 4) (ak dW (ac 3) ae))) (av (aM (b5 (af (au aE (ac 5) ae (fun _ _=>rfl)) (af (ak fD (au aE (ac 5) ae (fun _ _=>rfl)) ae) (af (au aE (ac 5) ae (fun _ _=>rfl)) (af (au aE (ac 5) ae (fun _ _=>rfl)) (af (aB C_ties_in_order (hr.mono (by decide)) rfl (af (ak bY (au aE (ac 5) ae (fun _ _=>rfl)) (b5 (af (ac 6) aj))) aj)) (af (au aE (ac 5) ae (fun _ _=>rfl)) aj)))))))))) bT) (ap (aJ 7 sc_gone_away.nd (aB C_all_added (hr.mono (by decide)) rfl (af (ak bY (au aE (ac 5) ae (fun _ _=>rfl)) (v9 (aI (eE hr.units) (ac 3) ae (aG _)) ae ae)) (af (au aE (ac 5) ae (fun _ _=>rfl)) (af (ja (af (b5 (af (ac 4) (af (ak fD ae (ac 3)) aj))) aj)) aj))))) (av (aM (b5 (af (au aE (ac 5) ae (fun _ _=>rfl)) (af (ak fD (au aE (ac 5) ae (fun _ _=>rfl)) ae) (af (au aE (ac 7) ae (fun _ _=>rfl)) (af (au aE (ac 7) ae (fun _ _=>rfl)) (af (au aE (ac 5) ae (fun _ _=>rfl)) (af (au aE (ac 5) ae (fun _ _=>rfl)) aj)))))))))))))))
theorem sc_put:FnScope wD ["one","tie","bit"] (ah oW):=⟨rfl,rfl,rfl,by decide +kernel,rfl,by decide +kernel,by decide +kernel⟩
theorem AJ {f:Addr} {fd:FuncData} {dV:Value} (F:FunV K "put" "put" oW f fd dV) (T:Txt mg) (C_shorter:Cal P w K mg base "shorter" 2 bK []) (C_ties_in_order:Cal P w K mg base "ties_in_order" 1 aH []) (C_has:Cal P w K mg base "has" 1 dz []):FnOk P w K mg base dJ 3 f fd ["one","tie","bit"] (gu K pP):=
 dU (k:=2) (b:=zw) F sc_put fun cdv A outer s H E hr=>(ap (aJ 3 sc_put.nd (aB C_shorter (hr.mono (by decide)) rfl (af (ac 0) (af (ac 2) (af (ac 1) aj))))) (ap (g8 4 sc_put.nd (vars:=["other"]) (caps:=[(1,"tie"),(2,"bit")]) (by change BlkOk (ah oW).names wD _ _ _; exact ⟨rfl,by decide +kernel,by decide +kernel,by decide +kernel,by decide +kernel⟩) rfl (bh (au aE (ac 3) ae (fun _ _=>rfl))) cv (fun _ _ _ _=>bq (i:=0) (show (["other","tie","bit"]:List Str).Nodup by decide +kernel) rfl (Or.inl rfl) (.inr rfl)) (fun _ _ _ _=>(aI (nZ hr.units) (ac 0) (ac 1) (aG _))) (fun _ _ _ _=>(v9 (cu (aB C_has (hr.mono (by decide)) rfl (af (ac 0) (af (ac 2) aj)))) (ak jo (ac 0) (ac 1)) (ac 0)))) (av (aM (b5 (af (au aE (ac 3) ae (fun _ _=>rfl)) (af (au aE (ac 3) ae (fun _ _=>rfl)) (af (au aE (ac 3) ae (fun _ _=>rfl)) (af (au aE (ac 3) ae (fun _ _=>rfl)) (af (aB C_ties_in_order (hr.mono (by decide)) rfl (af (ac 4) aj)) (af (au aE (ac 3) ae (fun _ _=>rfl)) aj)))))))))))
theorem j5:FnScope jj ["one","step"] (ah eK):=⟨rfl,rfl,rfl,by decide +kernel,rfl,by decide +kernel,by decide +kernel⟩
theorem pc {f:Addr} {fd:FuncData} {dV:Value} (F:FunV K "stepped" "stepped" eK f fd dV) (T:Txt mg) (C_put:Cal P w K mg base "put" 3 pP []) (C_fits:Cal P w K mg base "fits" 3 eB []) (C_gone_away:Cal P w K mg base "gone_away" 3 aT []) (E_NoStep:ExcX K "NoStep"):FnOk P w K mg base (qh P w) 4 f fd ["one","step"] (Cv K dI):=
 FK (k:=3) (fx:=gW) F j5 fun cdv A outer s H E hr=>(n6 (Cl (TV.lift (dL (cu (aB C_fits (hr.mono (by decide)) rfl (af (ac 0) (af (ac 1) aj)))))) (n6 (uA E_NoStep rfl rfl (EV.lift kR))) DX))
theorem qF {f:Addr} {fd:FuncData} {dV:Value} (F:FunV K "stepped" "stepped" eK f fd dV) (T:Txt mg) (C_put:Cal P w K mg base "put" 3 pP []) (C_fits:Cal P w K mg base "fits" 3 eB []) (C_gone_away:Cal P w K mg base "gone_away" 3 aT []):FnOk P w K mg base dJ 4 f fd ["one","step"] (gu K bZ):=
 dU (k:=3) (b:=jh) F j5 fun cdv A outer s H E hr=>(ap (b8 (dL (cu (aB C_fits (hr.mono (by decide)) rfl (af (ac 0) (af (ac 1) aj))))) (av Cn) bT) (ap (b8 (aI (eE hr.units) (au aE (ac 1) ae (fun _ _=>rfl)) kR (aG _)) (av (aM (aB C_gone_away (hr.mono (by decide)) rfl (af (ac 0) (af (au aE (ac 1) ae (fun _ _=>rfl)) aj))))) bT) (av (aM (aB C_put (hr.mono (by decide)) rfl (af (ac 0) (af (au aE (ac 1) ae (fun _ _=>rfl)) (af (au aE (ac 1) ae (fun _ _=>rfl)) aj))))))))
theorem jv:FnScope gb ["script","k"] (ah cO):=⟨rfl,rfl,rfl,by decide +kernel,rfl,by decide +kernel,by decide +kernel⟩
theorem jy {f:Addr} {fd:FuncData} {dV:Value} (F:FunV K "_law_cell_at" "_law_cell_at" cO f fd dV) (T:Txt mg):FnOk P w K mg base dJ 1 f fd ["script","k"] (gu K aL):=
 dU (k:=0) (b:=cT) F jv fun cdv A outer s H E hr=>(ap (b8 (aI Bo (ac 1) (cx qc rfl T.len (by decide +kernel) (af (ac 0) aj)) (aG _)) (av (aM (au aE (ac 0) (ac 1) (fun _ _=>rfl)))) bT) (av (aM ae)))
theorem lA:FnScope iJ ["cell"] (ah dB):=⟨rfl,rfl,rfl,by decide +kernel,rfl,by decide +kernel,by decide +kernel⟩
theorem lF {f:Addr} {fd:FuncData} {dV:Value} (F:FunV K "_law_mixed" "_law_mixed" dB f fd dV) (T:Txt mg):FnOk P w K mg base dJ 1 f fd ["cell"] (gu K bA):=
 dU (k:=0) (b:=fA) F lA fun cdv A outer s H E hr=>(av (aM (ak bg (ak bY (ak n3 (ak bg (ac 0) (ak zt ae ae)) ae) ae) ae)))
theorem lw:FnScope iH ["found"] (ah dA):=⟨rfl,rfl,rfl,by decide +kernel,rfl,by decide +kernel,by decide +kernel⟩
theorem lD {f:Addr} {fd:FuncData} {dV:Value} (F:FunV K "_law_whole" "_law_whole" dA f fd dV) (T:Txt mg):FnOk P w K mg base dJ 1 f fd ["found"] (gu K bR):=
 dU (k:=0) (b:=fq) F lw fun cdv A outer s H E hr=>(av (aM (jb (kS (T:="int") rfl T.isinstance rfl T.int (by decide +kernel) (by decide) (by decide) (ac 0)) (nV (v5 (kS (T:="bool") rfl T.isinstance rfl T.bool (by decide +kernel) (by decide) (by decide) (ac 0)))))))
theorem sc__law_add:FnScope gY ["turns","bitset","e"] (ah eQ):=⟨rfl,rfl,rfl,by decide +kernel,rfl,by decide +kernel,by decide +kernel⟩
theorem nr {f:Addr} {fd:FuncData} {dV:Value} (F:FunV K "_law_add" "_law_add" eQ f fd dV) (T:Txt mg):FnOk P w K mg base dJ 1 f fd ["turns","bitset","e"] (Ei K bc):=
 FM (k:=0) (b:=bD) F sc__law_add (by decide) fun cdv A outer s H E hr=>(kY (uC (aI (eE hr.units) (ak bg (ac 1) ae) ae (aG _)) (kY (oK (qk hr.units) ae (ak bg (ak bY (sC 0 (qk hr.units) ae (fun _ _=>rfl)) (ac 2)) ae)) (kY (ro 2 sc__law_add.nd (ak fD ae (ac 2)) (by decide)) (n9 (ro 1 sc__law_add.nd (ak fD (ac 1) ae) (by decide))))) sH) (n9 (uC (aI ui (ac 1) ae (aG _)) (n9 (oK (qk hr.units) (ac 1) (ak bg (ak bY (pU 0 (qk hr.units) (ac 1) ae ⟨rfl,rfl,rfl,rfl⟩) (ac 2)) ae))) sH)))
theorem lz:FnScope fB ["turns"] (ah cM):=⟨rfl,rfl,rfl,by decide +kernel,rfl,by decide +kernel,by decide +kernel⟩
theorem lE {f:Addr} {fd:FuncData} {dV:Value} (F:FunV K "_law_pairs" "_law_pairs" cM f fd dV) (T:Txt mg):FnOk P w K mg base dJ 1 f fd ["turns"] (gu K bi):=
 dU (k:=0) (b:=fw) F lz fun cdv A outer s H E hr=>(av (aM (cq dH rfl T.tuple (by decide +kernel) (af (cS (vars:=["bitset"]) (caps:=[(0,"turns")]) (by change BlkOk (ah cM).names fB _ _ _; exact ⟨rfl,by decide +kernel,by decide +kernel,by decide +kernel,by decide +kernel⟩) rfl (bh (mM rfl T.sorted (ac 0))) cv (fun _ _ _ _=>bq (i:=0) (show (["bitset","turns"]:List Str).Nodup by decide +kernel) rfl (Or.inl rfl) (.inr rfl)) (fun _ _ _ _=>(WV.tv (iM (aI ui (ac 0) ae (aG _)) (jL (aI ui (iy (qk hr.units) (ac 1) (ac 0) (fun _ _=>rfl)) ae (aG _)))))) (fun _ _ _ _=>(b5 (af (ac 0) (af (iy (qk hr.units) (ac 1) (ac 0) (fun _ _=>rfl)) aj))))) aj))))
theorem sc__law_bits_by:FnScope gc ["head","cells","first"] (ah cP):=⟨rfl,rfl,rfl,by decide +kernel,rfl,by decide +kernel,by decide +kernel⟩
theorem jz {f:Addr} {fd:FuncData} {dV:Value} (F:FunV K "_law_bits_by" "_law_bits_by" cP f fd dV) (T:Txt mg) (C__law_cell_at:Cal P w K mg base "_law_cell_at" 1 aL []):FnOk P w K mg base dJ 2 f fd ["head","cells","first"] (gu K aS):=
 dU (k:=1) (b:=dY) F sc__law_bits_by fun cdv A outer s H E hr=>(ap (zP 3 sc__law_bits_by.nd aj) (ap (aJ 4 sc__law_bits_by.nd (ak fD (ac 2) ae)) (ap (ez PassesOwn.never rfl (mF rfl T.range (af (ak bg (ak dW (ac 0) ae) ae) aj)) (cR 5 sc__law_bits_by.nd) (ap (aJ 4 sc__law_bits_by.nd (ak bY (ak bY (ac 4) ae) (ak bg (aB C__law_cell_at (hr.mono (by decide)) rfl (af (ac 1) (af (ac 5) aj))) (au aE (ja (af ae (af ae (af ae (af ae aj))))) (ak bg (ak dW (ac 0) ae) ae) (fun _ _=>rfl))))) (av (zQ 3 (ac 4))))) (av (Co 3 (aM (ac 3)))))))
theorem sc__law_some_sum:FnScope cz ["head","cells"] (ah bt):=⟨rfl,rfl,rfl,by decide +kernel,rfl,by decide +kernel,by decide +kernel⟩
theorem iU {f:Addr} {fd:FuncData} {dV:Value} (F:FunV K "_law_some_sum" "_law_some_sum" bt f fd dV) (T:Txt mg) (C__law_bits_by:Cal P w K mg base "_law_bits_by" 2 aS []) (C__law_mixed:Cal P w K mg base "_law_mixed" 1 bA []):FnOk P w K mg base dJ 3 f fd ["head","cells"] (gu K bu):=
 dU (k:=2) (b:=du) F sc__law_some_sum fun cdv A outer s H E hr=>(ap (aJ 2 sc__law_some_sum.nd (ak bY ae (ak bg (ac 0) ae))) (ap (aJ 3 sc__law_some_sum.nd (ak bg (ak dW (ac 0) ae) ae)) (ap (aJ 4 sc__law_some_sum.nd (aB C__law_bits_by (hr.mono (by decide)) rfl (af (ac 0) (af (ac 1) (af (ak bY (ak bY (ak n3 ae (ac 2)) ae) (ac 3)) aj))))) (ap (aJ 5 sc__law_some_sum.nd (ak bY (yt rfl T.list rfl T.range (ak bY (ak bY (ak n3 ae (ac 2)) ae) (ac 3))) (ac 4))) (ap (m9 6 sc__law_some_sum.nd) (ap (m9 7 sc__law_some_sum.nd) (ap (ez PassesOwn.never rfl (bh (ac 1)) (cR 8 sc__law_some_sum.nd) (ap (aJ 9 sc__law_some_sum.nd (aB C__law_mixed (hr.mono (by decide)) rfl (af (ac 8) aj))) (ap (aJ 10 sc__law_some_sum.nd (cx (zv rfl) rfl T.sum (by decide +kernel) (af (cS (vars:=["k"]) (caps:=[(5,"allowed"),(9,"turn")]) (by change BlkOk (ah bt).names cz _ _ _; exact ⟨rfl,by decide +kernel,by decide +kernel,by decide +kernel,by decide +kernel⟩) rfl (mF rfl T.range (af (cx qc rfl T.len (by decide +kernel) (af (ac 5) aj)) aj)) cv (fun _ _ _ _=>bq (i:=0) (show (["k","allowed","turn"]:List Str).Nodup by decide +kernel) rfl (Or.inl rfl) (.inr rfl)) (fun _ _ _ _=>(aI (eE hr.units) (ak bg (ak pZ (ac 2) (ak bY (ac 0) ae)) ae) ae (aG _))) (fun _ _ _ _=>(ak p4 ae (au aE (ac 1) (ac 0) (fun _ _=>rfl))))) aj))) (av (b8 (WV.tv (iM (aI (eE hr.units) (ak bg (ac 9) ae) ae (aG _)) (iM (aI Bo (sy 7 rfl T.len) ae (aG _)) (jL (aI ui (ac 10) ae (aG _)))))) (av (g7 7 (qk hr.units) (ac 10) fU)) (av (b8 (WV.tv (iM (aI (nZ hr.units) (ak bg (ac 9) ae) ae (aG _)) (iM (aI ui (ac 10) ae (aG _)) (jL (aI Bo (sy 6 rfl T.len) ae (aG _)))))) (av (g7 6 (qk hr.units) (ak fD (ac 10) (ak bg (ac 10) ae)) (au aE (ja (af (ak bY ae (ak bg (ak dW (ac 9) ae) ae)) (af (ak bY ae (ak n3 ae (ak bg (ak dW (ac 9) ae) ae))) aj))) (cx (DS rfl) rfl T.min (by decide +kernel) (af ae (af (ak bg (ak dW (ac 0) ae) ae) aj))) (fun _ _=>rfl)))) bT))))))) (ap (aJ 11 sc__law_some_sum.nd (ak fD (ak bg (ak dW (ac 0) ae) ae) ae)) (ap (b8 (aI (eE hr.units) (ak bg (ak dW (ac 0) ae) ae) ae (aG _)) (av (aJ 11 sc__law_some_sum.nd (ak fD (ak bg (ak dW (ac 0) ae) ae) ae))) bT) (ap (uD 6 (aJ 12 sc__law_some_sum.nd (cq dH rfl T.tuple (by decide +kernel) (af (nW (vars:=["bitset"]) (caps:=[(6,"turns")]) (by change BlkOk (ah bt).names cz _ _ _; exact ⟨rfl,by decide +kernel,by decide +kernel,by decide +kernel,by decide +kernel⟩) rfl (bh (mM rfl T.sorted (ac 6))) cv (fun _ _ _ _=>bq (i:=0) (show (["bitset","turns"]:List Str).Nodup by decide +kernel) rfl (Or.inl rfl) (.inr rfl)) (fun _ _ _ _=>(b5 (af (ac 0) (af (iy (qk hr.units) (ac 1) (ac 0) (fun _ _=>rfl)) aj))))) aj)))) (av (aM (b5 (af (b5 (af (ac 2) (af (ac 3) aj))) (af (ac 11) (af (ak bg (ak dW (ac 0) ae) ae) (af (ac 12) (af (cq dH rfl T.tuple (by decide +kernel) (af (pT 7 rfl T.sorted) aj)) (af (cq dH rfl T.tuple (by decide +kernel) (af (ac 4) aj)) aj)))))))))))))))))))
theorem sc__law_fits_away:FnScope cY ["one","bit"] (ah bF):=⟨rfl,rfl,rfl,by decide +kernel,rfl,by decide +kernel,by decide +kernel⟩
theorem ii {f:Addr} {fd:FuncData} {dV:Value} (F:FunV K "_law_fits_away" "_law_fits_away" bF f fd dV) (T:Txt mg):FnOk P w K mg base dJ 1 f fd ["one","bit"] (gu K aY):=
 dU (k:=0) (b:=eN) F sc__law_fits_away fun cdv A outer s H E hr=>(ap (ez PassesOwn.never rfl (bh (au aE (ac 0) ae (fun _ _=>rfl))) (cR 2 sc__law_fits_away.nd) (av (b8 (aI (eE hr.units) (ak bg (ak pZ (ac 2) (ac 1)) ae) ae (aG _)) (av (aM fU)) bT))) (av (aM (gR (eE hr.units) (cx qc rfl T.len (by decide +kernel) (af (cS (vars:=["pair"]) (caps:=[(1,"bit")]) (by change BlkOk (ah bF).names cY _ _ _; exact ⟨rfl,by decide +kernel,by decide +kernel,by decide +kernel,by decide +kernel⟩) rfl (bh (au aE (ac 0) ae (fun _ _=>rfl))) cv (fun _ _ _ _=>bq (i:=0) (show (["pair","bit"]:List Str).Nodup by decide +kernel) rfl (Or.inl rfl) (.inr rfl)) (fun _ _ _ _=>(WV.tv (iM (aI (eE hr.units) (ak bg (ak pZ (au aE (ac 0) ae (fun _ _=>rfl)) (ac 1)) ae) ae (aG _)) (jL (aI (eE hr.units) (ak bg (au aE (ac 0) ae (fun _ _=>rfl)) ae) ae (aG _)))))) (fun _ _ _ _=>(ac 0))) aj)) ae (aG _)))))
theorem sc__law_tied:FnScope js ["ties"] (ah ef):=⟨rfl,rfl,rfl,by decide +kernel,rfl,by decide +kernel,by decide +kernel⟩
theorem nB {f:Addr} {fd:FuncData} {dV:Value} (F:FunV K "_law_tied" "_law_tied" ef f fd dV) (T:Txt mg):FnOk P w K mg base dJ 1 f fd ["ties"] (gu K bL):=
 dU (k:=0) (b:=fX) F sc__law_tied fun cdv A outer s H E hr=>(ap (m9 1 sc__law_tied.nd) (ap (ez PassesOwn.never rfl (bh (ac 0)) (cR 2 sc__law_tied.nd) (av (b8 (aI ui (ac 2) ae (aG _)) (av (g7 1 (qk hr.units) (ac 2) fU)) bT))) (av (aM (cq dH rfl T.tuple (by decide +kernel) (af (pT 1 rfl T.sorted) aj))))))
theorem sc__law_gone:FnScope f9 ["one","bit"] (ah dg):=⟨rfl,rfl,rfl,by decide +kernel,rfl,by decide +kernel,by decide +kernel⟩
theorem nC {f:Addr} {fd:FuncData} {dV:Value} (F:FunV K "_law_gone" "_law_gone" dg f fd dV) (T:Txt mg) (C__law_tied:Cal P w K mg base "_law_tied" 1 bL []) (C__law_pairs:Cal P w K mg base "_law_pairs" 1 bi []) (M__law_add:CalM P w K mg base "_law_add" 1 bc):FnOk P w K mg base dJ 2 f fd ["one","bit"] (gu K aQ):=
 dU (k:=1) (b:=cH) F sc__law_gone fun cdv A outer s H E hr=>(ap (xf 2 sc__law_gone.nd ae (au aE (ac 0) ae (fun _ _=>rfl))) (ap (aJ 3 sc__law_gone.nd ae) (ap (aJ 4 sc__law_gone.nd ae) (ap (ez PassesOwn.never rfl (bh (au aE (ac 0) ae (fun _ _=>rfl))) (Bh rfl (pN (cR 5 sc__law_gone.nd) (pN (cR 6 sc__law_gone.nd) yn))) (av (b8 (aI (eE hr.units) (ak bg (ak pZ (ac 5) (ac 1)) ae) ae (aG _)) (av (qt 2 M__law_add (hr.mono (by decide)) rfl (af (ac 5) (af (ac 6) aj)))) (ap (qt 2 M__law_add (hr.mono (by decide)) rfl (af (ak fD (ac 5) (ak p4 ae (ac 1))) (af (ac 6) aj))) (ap (aJ 3 sc__law_gone.nd (ak bg (ak bY (ac 3) (ac 6)) ae)) (av (b8 (WV.tv (oz (aI (eE hr.units) (ac 6) ae (aG _)) (mY (aI (eE hr.units) (ac 6) ae (aG _))))) (av (aJ 4 sc__law_gone.nd (ak jo (ac 4) (ak fD (ac 5) (ak p4 ae (ac 1)))))) bT))))))) (ap (aJ 7 sc__law_gone.nd (ak bY (ak fD (au aE (ac 0) ae (fun _ _=>rfl)) ae) (ak dW (ak bg (ac 3) ae) ae))) (ap (aJ 8 sc__law_gone.nd (au aE (ac 0) ae (fun _ _=>rfl))) (ap (b8 (WV.tv (oz (aI (eE hr.units) (ac 3) ae (aG _)) (mY (aI (eE hr.units) (ac 3) ae (aG _))))) (av (aJ 8 sc__law_gone.nd (aB C__law_tied (hr.mono (by decide)) rfl (af (ak bY (ac 8) (b5 (af (ak jo (ac 4) (ak dW (ac 3) ae)) aj))) aj)))) (ap (g7 2 (qk hr.units) ae (ak bg (ak bY (sC 2 (qk hr.units) ae (fun _ _=>rfl)) (au aE (ja (af ae (af ae aj))) (ak dW (ac 3) ae) (fun _ _=>rfl))) ae)) (av (qt 2 M__law_add (hr.mono (by decide)) rfl (af (ac 4) (af (au aE (ja (af ae (af ae aj))) (ak dW (ac 3) ae) (fun _ _=>rfl)) aj)))))) (av (uD 2 (aM (b5 (af (au aE (ac 0) ae (fun _ _=>rfl)) (af (ac 7) (af (iy (qk hr.units) (ac 2) ae (fun _ _=>rfl)) (af (aB C__law_pairs (hr.mono (by decide)) rfl (af (ac 2) aj)) (af (ac 8) (af (cq dH rfl T.tuple (by decide +kernel) (af (cS (vars:=["b"]) (caps:=[(1,"bit")]) (by change BlkOk (ah dg).names f9 _ _ _; exact ⟨rfl,by decide +kernel,by decide +kernel,by decide +kernel,by decide +kernel⟩) rfl (bh (au aE (ac 0) ae (fun _ _=>rfl))) cv (fun _ _ _ _=>bq (i:=0) (show (["b","bit"]:List Str).Nodup by decide +kernel) rfl (Or.inl rfl) (.inr rfl)) (fun _ _ _ _=>(aI (nZ hr.units) (ac 0) (ac 1) (aG _))) (fun _ _ _ _=>(ac 0))) aj)) aj)))))))))))))))))
theorem sc__law_no_step:FnScope f8 ["one","step"] (ah cN):=⟨rfl,rfl,rfl,by decide +kernel,rfl,by decide +kernel,by decide +kernel⟩
theorem jx {f:Addr} {fd:FuncData} {dV:Value} (F:FunV K "_law_no_step" "_law_no_step" cN f fd dV) (T:Txt mg) (C_stepped:Cal P w K mg base "stepped" 4 bZ []) (Y_stepped:CalX P w K mg base "stepped" 4 dI []) (I_TooGreat:IsX K "TooGreat" d9) (I_ValueError:IsT K "ValueError" db) (I_NoStep:IsX K "NoStep" gd) (H_WaveError:Hnd K "WaveError" dF):FnOk P w K mg base dJ 5 f fd ["one","step"] (gu K bp):=
 dU (k:=4) (b:=dX) F sc__law_no_step fun cdv A outer s H E hr=>(ap (aJ 2 sc__law_no_step.nd fU) (ap (zO 3 H_WaveError rfl sc__law_no_step.nd rfl rfl rfl rfl (av (xc (aB C_stepped (hr.mono (by decide)) rfl (af (ac 0) (af (ac 1) aj))))) (fun _ _=>(n6 (wY (Bj Y_stepped (hr.mono (by decide)) rfl (AV.lift (af (ac 0) (af (ac 1) aj))))))) (fun _=>(av (aJ 2 sc__law_no_step.nd (jb (v6 I_NoStep rfl T.isinstance rfl (ac 3)) (jb (yu I_ValueError rfl T.isinstance rfl T.ValueError (ac 3)) (nV (v5 (v6 I_TooGreat rfl T.isinstance rfl (ac 3)))))))))) (av (aM (ac 2)))))
theorem ib:FnScope cZ ["parts"] (ah bG):=⟨rfl,rfl,rfl,by decide +kernel,rfl,by decide +kernel,by decide +kernel⟩
theorem ij {f:Addr} {fd:FuncData} {dV:Value} (F:FunV K "_law_all_whole" "_law_all_whole" bG f fd dV) (T:Txt mg) (C__law_whole:Cal P w K mg base "_law_whole" 1 bR []):FnOk P w K mg base dJ 2 f fd ["parts"] (gu K aN):=
 dU (k:=1) (b:=cX) F ib fun cdv A outer s H E hr=>(av (aM (gR (eE hr.units) (cx qc rfl T.len (by decide +kernel) (af (cS (vars:=["part"]) (caps:=[]) (by change BlkOk (ah bG).names cZ _ _ _; exact ⟨rfl,by decide +kernel,by decide +kernel,by decide +kernel,by decide +kernel⟩) rfl (bh (ac 0)) cv (fun _ _ _ _=>bq (i:=0) (show (["part"]:List Str).Nodup by decide +kernel) rfl (Or.inl rfl) (.inr rfl)) (fun _ _ _ _=>(dL (cu (aB C__law_whole (hr.mono (by decide)) rfl (af (ac 0) aj))))) (fun _ _ _ _=>(ac 0))) aj)) ae (aG _))))
theorem sc__law_same_sum:FnScope fE ["found","due"] (ah cy):=⟨rfl,rfl,rfl,by decide +kernel,rfl,by decide +kernel,by decide +kernel⟩
theorem iV {f:Addr} {fd:FuncData} {dV:Value} (F:FunV K "_law_same_sum" "_law_same_sum" cy f fd dV) (T:Txt mg) (C__law_all_whole:Cal P w K mg base "_law_all_whole" 2 aN []):FnOk P w K mg base dJ 3 f fd ["found","due"] (gu K aO):=
 dU (k:=2) (b:=dw) F sc__law_same_sum fun cdv A outer s H E hr=>(ap (b8 (WV.tv (oz (dL (cu (kS (T:="tuple") rfl T.isinstance rfl T.tuple (by decide +kernel) (by decide) (by decide) (ac 0)))) (oz (aI (nZ hr.units) (cx qc rfl T.len (by decide +kernel) (af (ac 0) aj)) ae (aG _)) (mY (aI (nZ hr.units) (ac 0) (ac 1) (aG _)))))) (av (aM fU)) bT) (ap (ez PassesOwn.never rfl (bh (ja (af ae (af ae (af ae (af ae aj)))))) (cR 2 sc__law_same_sum.nd) (av (b8 (dL (cu (kS (T:="tuple") rfl T.isinstance rfl T.tuple (by decide +kernel) (by decide) (by decide) (au aE (ac 0) (ac 2) (fun _ _=>rfl))))) (av (aM fU)) bT))) (ap (ez PassesOwn.never rfl (bh (au aE (ac 0) ae (fun _ _=>rfl))) (cR 3 sc__law_same_sum.nd) (av (b8 (WV.tv (oz (dL (cu (kS (T:="tuple") rfl T.isinstance rfl T.tuple (by decide +kernel) (by decide) (by decide) (ac 3)))) (mY (dL (cu (aB C__law_all_whole (hr.mono (by decide)) rfl (af (ac 3) aj))))))) (av (aM fU)) bT))) (av (aM (aB C__law_all_whole (hr.mono (by decide)) rfl (af (ak bY (ak bY (ak bY (au aE (ac 0) ae (fun _ _=>rfl)) (pS (ac 0) (jR ae) (jR ae))) (au aE (ac 0) ae (fun _ _=>rfl))) (au aE (ac 0) ae (fun _ _=>rfl))) aj)))))))
theorem sc_law:FnScope zy ["script"] (ah ic):=⟨rfl,rfl,rfl,by decide +kernel,rfl,by decide +kernel,by decide +kernel⟩
theorem AK {f:Addr} {fd:FuncData} {dV:Value} (F:FunV K "law" "law" ic f fd dV) (T:Txt mg) (C__law_some_sum:Cal P w K mg base "_law_some_sum" 3 bu []) (C__law_cell_at:Cal P w K mg base "_law_cell_at" 1 aL []) (C__law_fits_away:Cal P w K mg base "_law_fits_away" 1 aY []) (C__law_no_step:Cal P w K mg base "_law_no_step" 5 bp []) (C__law_same_sum:Cal P w K mg base "_law_same_sum" 3 aO []) (C_stepped:Cal P w K mg base "stepped" 4 bZ []) (C__law_gone:Cal P w K mg base "_law_gone" 2 aQ []):FnOk P w K mg base dJ 6 f fd ["script"] (gu K pQ):=
 dU (k:=5) (b:=wq) F sc_law fun cdv A outer s H E hr=>(ap (aJ 1 sc_law.nd (ak bg (aB C__law_cell_at (hr.mono (by decide)) rfl (af (ac 0) (af ae aj))) (ak zt ae ae))) (ap (aJ 2 sc_law.nd (aB C__law_some_sum (hr.mono (by decide)) rfl (af (ac 1) (af (pS (ac 0) (jR ae) (jR ae)) aj)))) (ap (ez PassesOwn.never rfl (bh (au aE (ac 2) ae (fun _ _=>rfl))) (cR 3 sc_law.nd) (av (b8 (dL (cu (aB C__law_fits_away (hr.mono (by decide)) rfl (af (ac 2) (af (ac 3) aj))))) (av (b8 (dL (cu (aB C__law_no_step (hr.mono (by decide)) rfl (af (ac 2) (af (b5 (af kR (af (ac 3) aj))) aj))))) (av (aM fU)) bT)) (av (b8 (dL (cu (aB C__law_same_sum (hr.mono (by decide)) rfl (af (aB C_stepped (hr.mono (by decide)) rfl (af (ac 2) (af (b5 (af kR (af (ac 3) aj))) aj))) (af (aB C__law_gone (hr.mono (by decide)) rfl (af (ac 2) (af (ac 3) aj))) aj))))) (av (aM fU)) bT))))) (av (aM fU)))))
end
theorem oi:aP "all_added" df ["turn","turns","pairs"]:=fun _ _ _ _ _ _ us hl=>by obtain ⟨_,_,_,rfl⟩:=vA hl; exact rfl
theorem je:aP "ties_in_order" bV ["ties"]:=fun _ _ _ _ _ _ us hl=>by obtain ⟨_,rfl⟩:=pF hl; exact rfl
theorem Bs:aP "has" rE ["bitset","bit"]:=fun _ _ _ _ _ _ us hl=>by obtain ⟨_,_,rfl⟩:=jB hl; exact rfl
theorem oh:aP "goes_away" cE ["one","bit"]:=fun _ _ _ _ _ _ us hl=>by obtain ⟨_,_,rfl⟩:=jB hl; exact rfl
theorem yG:aP "fits" nk ["one","step"]:=fun _ _ _ _ _ _ us hl=>by obtain ⟨_,_,rfl⟩:=jB hl; exact rfl
theorem qY:aP "shorter" cV ["one","bit","change"]:=fun _ _ _ _ _ _ us hl=>by obtain ⟨_,_,_,rfl⟩:=vA hl; exact rfl
theorem qe:aP "odd_part" eP ["pairs"]:=fun _ _ _ _ _ _ us hl=>by obtain ⟨_,rfl⟩:=pF hl; exact rfl
theorem og:aP "gone_away" cD ["one","bit"]:=fun _ _ _ _ _ _ us hl=>by obtain ⟨_,_,rfl⟩:=jB hl; exact rfl
theorem Br:aP "put" oW ["one","tie","bit"]:=fun _ _ _ _ _ _ us hl=>by obtain ⟨_,_,_,rfl⟩:=vA hl; exact rfl
theorem lh:aP "stepped" eK ["one","step"]:=fun _ _ _ _ _ _ us hl=>by obtain ⟨_,_,rfl⟩:=jB hl; exact rfl
theorem jJ:aP "_law_cell_at" cO ["script","k"]:=fun _ _ _ _ _ _ us hl=>by obtain ⟨_,_,rfl⟩:=jB hl; exact rfl
theorem lU:aP "_law_mixed" dB ["cell"]:=fun _ _ _ _ _ _ us hl=>by obtain ⟨_,rfl⟩:=pF hl; exact rfl
theorem lS:aP "_law_whole" dA ["found"]:=fun _ _ _ _ _ _ us hl=>by obtain ⟨_,rfl⟩:=pF hl; exact rfl
theorem qf:aP "_law_add" eQ ["turns","bitset","e"]:=fun _ _ _ _ _ _ us hl=>by obtain ⟨_,_,_,rfl⟩:=vA hl; exact rfl
theorem lT:aP "_law_pairs" cM ["turns"]:=fun _ _ _ _ _ _ us hl=>by obtain ⟨_,rfl⟩:=pF hl; exact rfl
theorem jK:aP "_law_bits_by" cP ["head","cells","first"]:=fun _ _ _ _ _ _ us hl=>by obtain ⟨_,_,_,rfl⟩:=vA hl; exact rfl
theorem jf:aP "_law_some_sum" bt ["head","cells"]:=fun _ _ _ _ _ _ us hl=>by obtain ⟨_,_,rfl⟩:=jB hl; exact rfl
theorem iE:aP "_law_fits_away" bF ["one","bit"]:=fun _ _ _ _ _ _ us hl=>by obtain ⟨_,_,rfl⟩:=jB hl; exact rfl
theorem oj:aP "_law_tied" ef ["ties"]:=fun _ _ _ _ _ _ us hl=>by obtain ⟨_,rfl⟩:=pF hl; exact rfl
theorem om:aP "_law_gone" dg ["one","bit"]:=fun _ _ _ _ _ _ us hl=>by obtain ⟨_,_,rfl⟩:=jB hl; exact rfl
theorem jI:aP "_law_no_step" cN ["one","step"]:=fun _ _ _ _ _ _ us hl=>by obtain ⟨_,_,rfl⟩:=jB hl; exact rfl
theorem iF:aP "_law_all_whole" bG ["parts"]:=fun _ _ _ _ _ _ us hl=>by obtain ⟨_,rfl⟩:=pF hl; exact rfl
theorem jg:aP "_law_same_sum" cy ["found","due"]:=fun _ _ _ _ _ _ us hl=>by obtain ⟨_,_,rfl⟩:=jB hl; exact rfl
theorem Bv {l:PySem.W.OpenLaw} {w:World} {K:PySem.W.Frag} {h:Heap} {mg:Str->Option Value} {fa f23 xc_TooGreat xc_NoStep xc_WaveError:Addr} {od23 an23:Option Addr} {sl23:Array (Option Value)} {oc23 kV23 dc23 pm23 cd23 ct23:Value} (X:K.In h) (G:h.Ns mainGlobals mg) (hfa:mg "law" = some (.ref fa))
  (D0:DefIn K "all_added" "all_added" df)
  (D1:DefIn K "ties_in_order" "ties_in_order" bV)
  (D2:DefIn K "has" "has" rE)
  (D3:DefIn K "goes_away" "goes_away" cE)
  (D4:DefIn K "fits" "fits" nk)
  (D5:DefIn K "shorter" "shorter" cV)
  (D6:DefIn K "odd_part" "odd_part" eP)
  (D7:DefIn K "gone_away" "gone_away" cD)
  (D8:DefIn K "put" "put" oW)
  (D9:DefIn K "stepped" "stepped" eK)
  (D10:DefIn K "_law_cell_at" "_law_cell_at" cO)
  (D11:DefIn K "_law_mixed" "_law_mixed" dB)
  (D12:DefIn K "_law_whole" "_law_whole" dA)
  (D13:DefIn K "_law_add" "_law_add" eQ)
  (D14:DefIn K "_law_pairs" "_law_pairs" cM)
  (D15:DefIn K "_law_bits_by" "_law_bits_by" cP)
  (D16:DefIn K "_law_some_sum" "_law_some_sum" bt)
  (D17:DefIn K "_law_fits_away" "_law_fits_away" bF)
  (D18:DefIn K "_law_tied" "_law_tied" ef)
  (D19:DefIn K "_law_gone" "_law_gone" dg)
  (D20:DefIn K "_law_no_step" "_law_no_step" cN)
  (D21:DefIn K "_law_all_whole" "_law_all_whole" bG)
  (D22:DefIn K "_law_same_sum" "_law_same_sum" cy)
  (a23:PySem.W.nsIn K mainGlobals "law" = some (some (.ref f23))) (l23:K.lookup f23=some ⟨oc23,od23,.func (PySem.W.fnOf "law" "law" (dc ic) (bS ic) (ah ic) .none kV23 dc23 pm23 an23 cd23 ct23),sl23⟩) (c23:PySem.W.codeIn K cd23 "law" = true) (k23:PySem.W.keepIn K (.ref f23)=true)
  (z_dict:PySem.W.nsIn K mainGlobals "dict" = some none)
  (z_tuple:PySem.W.nsIn K mainGlobals "tuple" = some none)
  (z_sorted:PySem.W.nsIn K mainGlobals "sorted" = some none)
  (z_set:PySem.W.nsIn K mainGlobals "set" = some none)
  (z_any:PySem.W.nsIn K mainGlobals "any" = some none)
  (z_all:PySem.W.nsIn K mainGlobals "all" = some none)
  (z_sum:PySem.W.nsIn K mainGlobals "sum" = some none)
  (z_len:PySem.W.nsIn K mainGlobals "len" = some none)
  (z_isinstance:PySem.W.nsIn K mainGlobals "isinstance" = some none)
  (z_int:PySem.W.nsIn K mainGlobals "int" = some none)
  (z_bool:PySem.W.nsIn K mainGlobals "bool" = some none)
  (z_range:PySem.W.nsIn K mainGlobals "range" = some none)
  (z_list:PySem.W.nsIn K mainGlobals "list" = some none)
  (z_min:PySem.W.nsIn K mainGlobals "min" = some none)
  (z_ValueError:PySem.W.nsIn K mainGlobals "ValueError" = some none)
  (xn_TooGreat:PySem.W.nsIn K mainGlobals "TooGreat" = some (some (.ref xc_TooGreat)))
  (xn_NoStep:PySem.W.nsIn K mainGlobals "NoStep" = some (some (.ref xc_NoStep)))
  (xn_WaveError:PySem.W.nsIn K mainGlobals "WaveError" = some (some (.ref xc_WaveError)))
  (xe_NoStep:PySem.W.excIn K xc_NoStep [.type "ValueError",.type "Exception",.type "BaseException",.type "object"] "ValueError.__new__" = true)
  (xe_WaveError:PySem.W.excIn K xc_WaveError [.type "ValueError",.type "Exception",.type "BaseException",.type "object"] "ValueError.__new__" = true)
  (xga_NoStep:PySem.W.findIn K (.ref xc_NoStep) "__getattribute__" = some (some (.builtin "BaseException.__getattribute__")))
  (xgt_NoStep:PySem.W.findIn K (.ref xc_NoStep) "__getattr__" = some none)
  (xcl_NoStep:PySem.W.findIn K (.ref xc_NoStep) "__class__" = some (some (.builtin "object.__class__")))
  (xmo_NoStep:PySem.W.mroIn K xc_NoStep (.type "object")=some true)
  (xbe_NoStep:PySem.W.mroIn K xc_NoStep (.type "BaseException")=some true)
  (xk_NoStep_TooGreat:PySem.W.kitOne K (.ref xc_NoStep) (.ref xc_TooGreat)=some false)
  (xk_NoStep_ValueError:PySem.W.kitOne K (.ref xc_NoStep) (.type "ValueError")=some true)
  (xk_NoStep_NoStep:PySem.W.kitOne K (.ref xc_NoStep) (.ref xc_NoStep)=some true)
  (xs_NoStep_WaveError:PySem.W.subIn K (.ref xc_NoStep) (.ref xc_WaveError)=some true)
   :∃ fd:FuncData,(∀ (s:Shared) (v:Value),BindsTo s fd ⟨[v],[]⟩ [("script",v)])/\∀ base:Heap,K.In base->base.Ns mainGlobals mg->FnOk l.prog w K mg base dJ 6 fa fd ["script"] (rq K):=by
 have e:=hfa.symm.trans (PySem.W.mg_of X G a23)
 cases e
 have T:Txt mg:=⟨PySem.W.mg_none_of X G z_dict,PySem.W.mg_none_of X G z_tuple,PySem.W.mg_none_of X G z_sorted,PySem.W.mg_none_of X G z_set,PySem.W.mg_none_of X G z_any,PySem.W.mg_none_of X G z_all,PySem.W.mg_none_of X G z_sum,PySem.W.mg_none_of X G z_len,PySem.W.mg_none_of X G z_isinstance,PySem.W.mg_none_of X G z_int,PySem.W.mg_none_of X G z_bool,PySem.W.mg_none_of X G z_range,PySem.W.mg_none_of X G z_list,PySem.W.mg_none_of X G z_min,PySem.W.mg_none_of X G z_ValueError⟩
 have F23:=sv (st:=ic) l23 c23 k23
 have F_NoStep:ExcC K "NoStep" xc_NoStep:=⟨xn_NoStep,xe_NoStep,xga_NoStep,xgt_NoStep,xcl_NoStep,xmo_NoStep,xbe_NoStep⟩
 have E_NoStep:ExcX K "NoStep":=⟨⟨_,F_NoStep⟩⟩
 have I_TooGreat:IsX K "TooGreat" d9:=(.cons F_NoStep xn_TooGreat xk_NoStep_TooGreat .nil)
 have I_ValueError:IsT K "ValueError" db:=(.cons F_NoStep xk_NoStep_ValueError .nil)
 have I_NoStep:IsX K "NoStep" gd:=(.cons F_NoStep xn_NoStep xk_NoStep_NoStep .nil)
 have H_WaveError:Hnd K "WaveError" dF:=⟨⟨_,xn_WaveError,xe_WaveError,(.cons F_NoStep xs_NoStep_WaveError .nil)⟩⟩
 refine ⟨PySem.W.fnOf "law" "law" (dc ic) (bS ic) (ah ic) .none kV23 dc23 pm23 an23 cd23 ct23,fun s v=>.of_eq rfl,fun base _ _=>?_⟩
 have C_all_added:Cal l.prog w K mg base "all_added" 1 bd []:=D0.cal X G oi fun _ _ F=>nA F T
 have C_ties_in_order:Cal l.prog w K mg base "ties_in_order" 1 aH []:=D1.cal X G je fun _ _ F=>iT F T
 have C_has:Cal l.prog w K mg base "has" 1 dz []:=D2.cal X G Bs fun _ _ F=>AL F T
 have C_goes_away:Cal l.prog w K mg base "goes_away" 2 cf []:=D3.cal X G oh fun _ _ F=>ny F T C_has
 have C_fits:Cal l.prog w K mg base "fits" 3 eB []:=D4.cal X G yG fun _ _ F=>xT F T C_has C_goes_away
 have C_shorter:Cal l.prog w K mg base "shorter" 2 bK []:=D5.cal X G qY fun _ _ F=>qG F T C_all_added C_has
 have C_odd_part:Cal l.prog w K mg base "odd_part" 1 bQ []:=D6.cal X G qe fun _ _ F=>pd F T
 have C_gone_away:Cal l.prog w K mg base "gone_away" 3 aT []:=D7.cal X G og fun _ _ F=>nu F T C_odd_part C_shorter C_all_added C_has C_ties_in_order
 have C_put:Cal l.prog w K mg base "put" 3 pP []:=D8.cal X G Br fun _ _ F=>AJ F T C_shorter C_ties_in_order C_has
 have Y_stepped:CalX l.prog w K mg base "stepped" 4 dI []:=D9.calX X G lh fun _ _ F=>pc F T C_put C_fits C_gone_away E_NoStep
 have C_stepped:Cal l.prog w K mg base "stepped" 4 bZ []:=D9.cal X G lh fun _ _ F=>qF F T C_put C_fits C_gone_away
 have C__law_cell_at:Cal l.prog w K mg base "_law_cell_at" 1 aL []:=D10.cal X G jJ fun _ _ F=>jy F T
 have C__law_mixed:Cal l.prog w K mg base "_law_mixed" 1 bA []:=D11.cal X G lU fun _ _ F=>lF F T
 have C__law_whole:Cal l.prog w K mg base "_law_whole" 1 bR []:=D12.cal X G lS fun _ _ F=>lD F T
 have M__law_add:CalM l.prog w K mg base "_law_add" 1 bc:=D13.calM X G qf fun _ _ F=>nr F T
 have C__law_pairs:Cal l.prog w K mg base "_law_pairs" 1 bi []:=D14.cal X G lT fun _ _ F=>lE F T
 have C__law_bits_by:Cal l.prog w K mg base "_law_bits_by" 2 aS []:=D15.cal X G jK fun _ _ F=>jz F T C__law_cell_at
 have C__law_some_sum:Cal l.prog w K mg base "_law_some_sum" 3 bu []:=D16.cal X G jf fun _ _ F=>iU F T C__law_bits_by C__law_mixed
 have C__law_fits_away:Cal l.prog w K mg base "_law_fits_away" 1 aY []:=D17.cal X G iE fun _ _ F=>ii F T
 have C__law_tied:Cal l.prog w K mg base "_law_tied" 1 bL []:=D18.cal X G oj fun _ _ F=>nB F T
 have C__law_gone:Cal l.prog w K mg base "_law_gone" 2 aQ []:=D19.cal X G om fun _ _ F=>nC F T C__law_tied C__law_pairs M__law_add
 have C__law_no_step:Cal l.prog w K mg base "_law_no_step" 5 bp []:=D20.cal X G jI fun _ _ F=>jx F T C_stepped Y_stepped I_TooGreat I_ValueError I_NoStep H_WaveError
 have C__law_all_whole:Cal l.prog w K mg base "_law_all_whole" 2 aN []:=D21.cal X G iF fun _ _ F=>ij F T C__law_whole
 have C__law_same_sum:Cal l.prog w K mg base "_law_same_sum" 3 aO []:=D22.cal X G jg fun _ _ F=>iV F T C__law_all_whole
 have O23:FnOk l.prog w K mg base dJ 6 _ _ _ (gu K pQ):=AK F23 T C__law_some_sum C__law_cell_at C__law_fits_away C__law_no_step C__law_same_sum C_stepped C__law_gone
 exact Dj O23 fun ns hl=>law_true ns hl
end GN
open PySem PySem.W PyProof.Rows
set_option maxRecDepth 1000000 in
set_option maxHeartbeats 0 in
theorem PySem.Challenge.cw_wavewires_k34_a_bit_summed_away_holds : PySem.Challenge.rw_wavewires_k34_a_bit_summed_away.Holds := by
  refine topT ?_
  k_fill
  refine VL.B5 (k := 6) (l := PySem.Challenge.rw_wavewires_k34_a_bit_summed_away) rfl ⟨rfl, by decide, by decide⟩ rfl (fun w h Y => PySem.W.kIn_of Y) ?F
  case F =>
    intro w mg fa h KX G hmg
    refine' GN.Bv KX G hmg (VL.DefIn.mk ?a0 ?l0 ?c0 ?k0) (VL.DefIn.mk ?a1 ?l1 ?c1 ?k1) (VL.DefIn.mk ?a2 ?l2 ?c2 ?k2) (VL.DefIn.mk ?a3 ?l3 ?c3 ?k3) (VL.DefIn.mk ?a4 ?l4 ?c4 ?k4) (VL.DefIn.mk ?a5 ?l5 ?c5 ?k5) (VL.DefIn.mk ?a6 ?l6 ?c6 ?k6) (VL.DefIn.mk ?a7 ?l7 ?c7 ?k7) (VL.DefIn.mk ?a8 ?l8 ?c8 ?k8) (VL.DefIn.mk ?a9 ?l9 ?c9 ?k9) (VL.DefIn.mk ?a10 ?l10 ?c10 ?k10) (VL.DefIn.mk ?a11 ?l11 ?c11 ?k11) (VL.DefIn.mk ?a12 ?l12 ?c12 ?k12) (VL.DefIn.mk ?a13 ?l13 ?c13 ?k13) (VL.DefIn.mk ?a14 ?l14 ?c14 ?k14) (VL.DefIn.mk ?a15 ?l15 ?c15 ?k15) (VL.DefIn.mk ?a16 ?l16 ?c16 ?k16) (VL.DefIn.mk ?a17 ?l17 ?c17 ?k17) (VL.DefIn.mk ?a18 ?l18 ?c18 ?k18) (VL.DefIn.mk ?a19 ?l19 ?c19 ?k19) (VL.DefIn.mk ?a20 ?l20 ?c20 ?k20) (VL.DefIn.mk ?a21 ?l21 ?c21 ?k21) (VL.DefIn.mk ?a22 ?l22 ?c22 ?k22) ?a23 ?l23 ?c23 ?k23 ?z_dict ?z_tuple ?z_sorted ?z_set ?z_any ?z_all ?z_sum ?z_len ?z_isinstance ?z_int ?z_bool ?z_range ?z_list ?z_min ?z_ValueError ?xn_TooGreat ?xn_NoStep ?xn_WaveError ?xe_NoStep ?xe_WaveError ?xga_NoStep ?xgt_NoStep ?xcl_NoStep ?xmo_NoStep ?xbe_NoStep ?xk_NoStep_TooGreat ?xk_NoStep_ValueError ?xk_NoStep_NoStep ?xs_NoStep_WaveError
    (case a0 => k_is)
    (case l0 => k_is)
    (case c0 => k_is)
    (case k0 => k_is)
    (case a1 => k_is)
    (case l1 => k_is)
    (case c1 => k_is)
    (case k1 => k_is)
    (case a2 => k_is)
    (case l2 => k_is)
    (case c2 => k_is)
    (case k2 => k_is)
    (case a3 => k_is)
    (case l3 => k_is)
    (case c3 => k_is)
    (case k3 => k_is)
    (case a4 => k_is)
    (case l4 => k_is)
    (case c4 => k_is)
    (case k4 => k_is)
    (case a5 => k_is)
    (case l5 => k_is)
    (case c5 => k_is)
    (case k5 => k_is)
    (case a6 => k_is)
    (case l6 => k_is)
    (case c6 => k_is)
    (case k6 => k_is)
    (case a7 => k_is)
    (case l7 => k_is)
    (case c7 => k_is)
    (case k7 => k_is)
    (case a8 => k_is)
    (case l8 => k_is)
    (case c8 => k_is)
    (case k8 => k_is)
    (case a9 => k_is)
    (case l9 => k_is)
    (case c9 => k_is)
    (case k9 => k_is)
    (case a10 => k_is)
    (case l10 => k_is)
    (case c10 => k_is)
    (case k10 => k_is)
    (case a11 => k_is)
    (case l11 => k_is)
    (case c11 => k_is)
    (case k11 => k_is)
    (case a12 => k_is)
    (case l12 => k_is)
    (case c12 => k_is)
    (case k12 => k_is)
    (case a13 => k_is)
    (case l13 => k_is)
    (case c13 => k_is)
    (case k13 => k_is)
    (case a14 => k_is)
    (case l14 => k_is)
    (case c14 => k_is)
    (case k14 => k_is)
    (case a15 => k_is)
    (case l15 => k_is)
    (case c15 => k_is)
    (case k15 => k_is)
    (case a16 => k_is)
    (case l16 => k_is)
    (case c16 => k_is)
    (case k16 => k_is)
    (case a17 => k_is)
    (case l17 => k_is)
    (case c17 => k_is)
    (case k17 => k_is)
    (case a18 => k_is)
    (case l18 => k_is)
    (case c18 => k_is)
    (case k18 => k_is)
    (case a19 => k_is)
    (case l19 => k_is)
    (case c19 => k_is)
    (case k19 => k_is)
    (case a20 => k_is)
    (case l20 => k_is)
    (case c20 => k_is)
    (case k20 => k_is)
    (case a21 => k_is)
    (case l21 => k_is)
    (case c21 => k_is)
    (case k21 => k_is)
    (case a22 => k_is)
    (case l22 => k_is)
    (case c22 => k_is)
    (case k22 => k_is)
    (case a23 => k_is)
    (case l23 => k_is)
    (case c23 => k_is)
    (case k23 => k_is)
    (case z_dict => k_is)
    (case z_tuple => k_is)
    (case z_sorted => k_is)
    (case z_set => k_is)
    (case z_any => k_is)
    (case z_all => k_is)
    (case z_sum => k_is)
    (case z_len => k_is)
    (case z_isinstance => k_is)
    (case z_int => k_is)
    (case z_bool => k_is)
    (case z_range => k_is)
    (case z_list => k_is)
    (case z_min => k_is)
    (case z_ValueError => k_is)
    (case xn_TooGreat => k_is)
    (case xn_NoStep => k_is)
    (case xn_WaveError => k_is)
    (case xe_NoStep => k_exc)
    (case xe_WaveError => k_exc)
    (case xga_NoStep => k_is)
    (case xgt_NoStep => k_is)
    (case xcl_NoStep => k_is)
    (case xmo_NoStep => k_is)
    (case xbe_NoStep => k_is)
    (case xk_NoStep_TooGreat => kit_is)
    (case xk_NoStep_ValueError => kit_is)
    (case xk_NoStep_NoStep => kit_is)
    (case xs_NoStep_WaveError => k_is)
