import PyProof.Rows.All
import Wide.All
import OpenK.AllK
import Wide.FinOn
import Lean
import PyProof.EqAt
import PyProof.EqKinds
import PyProof.TupleCall
import PySem.Challenge.RW_wavewires_k37_whole_steps_keep_the_numbe
section TopS
set_option Elab.async false
set_option linter.all false
open PySem PySem.W PyProof.Rows
noncomputable def viewQ : Program := view PySem.Challenge.rw_wavewires_k37_whole_steps_keep_the_numbe.prog [1, 2, 4, 5, 7, 8, 9, 10, 11, 12, 13, 14, 15, 17, 18, 19, 20, 21, 22, 23, 24, 25, 26, 27, 28, 29]
local macro_rules
  | `(tactic| o_head $H) => do
    let hw := Lean.mkIdent `hw
    let hc := Lean.mkIdent `hc
    `(tactic| refine holds_open (q := viewQ) (loose := []) (Xt := fun s => xlAt viewQ [] s && recOk (RowW.records (OpenRow.toRowW PySem.Challenge.rw_wavewires_k37_whole_steps_keep_the_numbe.row)) s) (XP := XL viewQ []) (Yf := Hook.obs $H) (Ya := Hook.val $H) (YP := Hook.says $H) (N := 6000) (fun w => by (unfold openEnds fencedOpening topFrom; rw [Fast.te10274390034422433532, Fast.te14082659384304107361, Fast.te1435165496053646825, Fast.te14289696077712309145, Fast.te14364793385576792824, Fast.te4187177175401517315, Fast.te5923862056798008813]; kernel_rfl)) (Hook.of $H) (Hook.keeps $H) (fun s e => xl_of s (Bool.and_eq_true_iff.mp e).1) XL.keeps (by rfl) (by rfl) (by rfl) (fun s e => recFacts_of (Bool.and_eq_true_iff.mp e).2) (by rfl) (by first | assumption | decide +kernel) (by decide +kernel) ⟨rfl, rfl, rfl, rfl, rfl, by decide +kernel⟩ ?$hw ?$hc)
set_option maxRecDepth 1000000 in
set_option maxHeartbeats 0 in
open_top topT for PySem.Challenge.rw_wavewires_k37_whole_steps_keep_the_numbe
end TopS
set_option Elab.async false
set_option linter.all false
set_option maxRecDepth 100000
namespace L2
open PySem PySem.Spec PyProof.Rows
noncomputable abbrev aE:=Sum Int Str
noncomputable def jB:aE->Value->Bool
 | .inl k,v=>Value.isInt k v
 | .inr x,v=>Value.isStrOf x v
noncomputable def Hl (w:World):aE->Int
 | .inl k=>hashInt k
 | .inr x=>hashStr w x
theorem aZ:∀ {k:aE} {v:Value},jB k v=true->(∃ i t,k=Sum.inl i/\v=Value.int i t)\/(∃ x t,k=Sum.inr x/\v=Value.str x t)
 | .inl i,v,h=>by
  obtain ⟨t,e⟩:=Value.isInt_shape (k:=i) (v:=v) h
  exact .inl ⟨i,t,rfl,e⟩
 | .inr x,v,h=>by
  obtain ⟨t,e⟩:=Value.isStrOf_shape (x:=x) (v:=v) h
  exact .inr ⟨x,t,rfl,e⟩
theorem uV (i:Int) (t:Tok):jB (.inl i) (.int i t)=true:=by simp [jB,Value.isInt]
theorem uU (x:Str) (t:Tok):jB (.inr x) (.str x t)=true:=by simp [jB,Value.isStrOf]
theorem CW (a b:Int):decide ((Sum.inl a:aE)=Sum.inl b)=(a==b):=by
 by_cases e:a=b
 ·subst e; simp
 ·have h:¬ (Sum.inl a:aE)=Sum.inl b:=fun q=>e (Sum.inl.inj q)
  rw [decide_eq_false h]
  exact (beq_eq_false_iff_ne.mpr e).symm
theorem CT (a b:Str):decide ((Sum.inr a:aE)=Sum.inr b)=decide (a=b):=by
 by_cases e:a=b
 ·subst e; simp
 ·have h:¬ (Sum.inr a:aE)=Sum.inr b:=fun q=>e (Sum.inr.inj q)
  rw [decide_eq_false h,decide_eq_false e]
theorem CV (a:Int) (b:Str):decide ((Sum.inl a:aE)=Sum.inr b)=false:=decide_eq_false (fun q=>nomatch q)
theorem CU (a:Str) (b:Int):decide ((Sum.inr a:aE)=Sum.inl b)=false:=decide_eq_false (fun q=>nomatch q)
noncomputable def aD (prog:Program) (w:World):PySem.KeyKind prog w aE where
 is:=jB
 hash:=Hl w
 inj:=fun v a b ha hb=>by
  rcases aZ ha with ⟨i,t,rfl,rfl⟩ | ⟨x,t,rfl,rfl⟩
  ·rcases aZ hb with ⟨j,u,rfl,e⟩ | ⟨y,u,rfl,e⟩
   ·injection e with e1 _; rw [e1]
   ·exact nomatch e
  ·rcases aZ hb with ⟨j,u,rfl,e⟩ | ⟨y,u,rfl,e⟩
   ·exact nomatch e
   ·injection e with e1 _; rw [e1]
 byValue:=fun k v h=>by
  rcases aZ h with ⟨i,t,rfl,rfl⟩ | ⟨x,t,rfl,rfl⟩ <;> rfl
 pyHash:=fun hv h=>by
  rcases aZ hv with ⟨i,t,rfl,rfl⟩ | ⟨x,t,rfl,rfl⟩
  ·exact wpAny_pyHash_int h
  ·exact wpAny_pyHash_str h
 eqBool:=fun hu hv h=>by
  rcases aZ hu with ⟨i,t,rfl,rfl⟩ | ⟨x,t,rfl,rfl⟩
  ·rcases aZ hv with ⟨j,u,rfl,rfl⟩ | ⟨y,u,rfl,rfl⟩
   ·rw [CW] at h; exact wpAny_eqBool_int h
   ·rw [CV] at h; exact SeqAt.EqAt.int_str i t y u _ _ _ _ h
  ·rcases aZ hv with ⟨j,u,rfl,rfl⟩ | ⟨y,u,rfl,rfl⟩
   ·rw [CU] at h; exact SeqAt.EqAt.str_int x t j u _ _ _ _ h
   ·rw [CT] at h; exact wpAny_eqBool_str h
 «strs»:=fun k x t v h=>by
  rcases aZ h with ⟨i,u,rfl,e⟩ | ⟨y,u,rfl,e⟩
  ·exact nomatch e
  ·injection e with e1 _
   subst e1
   cases v <;> rfl
theorem pT (prog:Program) (w:World) (i:Int) (t:Tok):(aD prog w).is (.inl i) (.int i t)=true:=uV i t
theorem pS (prog:Program) (w:World) (x:Str) (t:Tok):(aD prog w).is (.inr x) (.str x t)=true:=uU x t
end L2
namespace L2
open PySem PySem.Spec PyProof.Rows
inductive V where
 | non | bl (b:Bool) | int (i:Int) | str (x:Str) | byt (b:Array UInt8) | flt (b:UInt64) | ref (a:Addr) | ty (n:String)
 deriving DecidableEq
noncomputable def RelV:V->Value->Prop
 | .non,u=>u=Value.none
 | .bl b,u=>u=Value.bool b
 | .int i,u=>∃ t,u=Value.int i t
 | .str x,u=>∃ t,u=Value.str x t
 | .byt b,u=>∃ t,u=Value.bytes b t
 | .flt b,u=>∃ t,u=Value.float b t
 | .ref a,u=>u=Value.ref a
 | .ty n,u=>u=Value.type n
noncomputable abbrev Vals:List V->List Value->Prop:=Paired RelV
theorem Vals.length {xs:List V} {us:List Value} (r:Vals xs us):xs.length=us.length:=Paired.length r
theorem Vals.get:∀ {xs:List V} {us:List Value} {i:Nat} {x:V},Vals xs us->xs[i]? = some x->∃ u,us[i]? = some u/\RelV x u
 | _,_,_,_,.nil,e=>by simp at e
 | _,_,0,_,.cons r _,e=>by simp at e; subst e; exact ⟨_,rfl,r⟩
 | _,_,i+1,x,.cons _ t,e=>by
  obtain ⟨u,h1,h2⟩:=Vals.get (i:=i) (x:=x) t (by simpa using e)
  exact ⟨u,by simpa using h1,h2⟩
theorem Vals.set {x:V} {u:Value} (r:RelV x u):∀ {xs:List V} {us:List Value} (i:Nat),Vals xs us->Vals (xs.set i x) (us.set i u)
 | _,_,_,.nil=>.nil
 | _,_,0,.cons _ t=>.cons r t
 | _,_,i+1,.cons q t=>.cons q (Vals.set r i t)
theorem Vals.append:∀ {xs ys:List V} {us ws:List Value},Vals xs us->Vals ys ws->Vals (xs++ys) (us++ws)
 | _,_,_,_,.nil,s=>s
 | _,_,_,_,.cons r t,s=>.cons r (Vals.append t s)
theorem Vals.take:∀ {xs:List V} {us:List Value} (n:Nat),Vals xs us->Vals (xs.take n) (us.take n)
 | _,_,0,_=>.nil
 | _,_,_+1,.nil=>.nil
 | _,_,n+1,.cons r t=>.cons r (Vals.take n t)
theorem Vals.drop:∀ {xs:List V} {us:List Value} (n:Nat),Vals xs us->Vals (xs.drop n) (us.drop n)
 | _,_,0,r=>r
 | _,_,_+1,.nil=>.nil
 | _,_,n+1,.cons _ t=>Vals.drop n t
noncomputable def RelO:Option V->Option Value->Prop
 | some v,some u=>RelV v u
 | none,none=>True
 | _,_=>False
noncomputable def KV {κ:Type}:List (κ × V)->List (κ × Value)->Prop:=Paired fun (p:κ × V) (q:κ × Value)=>p.1=q.1/\RelV p.2 q.2
noncomputable def kV:aE->V
 | .inl i=>.int i
 | .inr x=>.str x
inductive HO where
 | lst (xs:List V)
 | tup (xs:List V)
 | dK (kvs:List (aE×V)) | dT (kvs:List (List aE×V))
 | set (S:Int->Bool) (n:Nat)
 | ins (C dx:Addr) (fs:List (Str×V))
 | own (x:Addr)
 | xd (fs:List (Str×V))
 | met (f x:Addr)
 | rng (lo hi:Int)
 | frz (o:Obj) (u:HO)
 | tbl (ps:Array Value)
 | ext (φ:Heap->Prop)
noncomputable abbrev Hp:=Addr->Option HO
noncomputable def upd (H:Hp) (a:Addr) (o:HO):Hp:=fun b=>if b=a then some o else H b
theorem aC {H:Hp} {a:Addr} {o:HO}:upd H a o a=some o:=by unfold upd; rw [if_pos rfl]
theorem aB {H:Hp} {a b:Addr} {o:HO} (h:b≠a):upd H a o b=H b:=by unfold upd; rw [if_neg h]
theorem Fc {H:Hp} {a b:Addr} {o u:HO} (h:H a=some o) (h':H b=some u) (d:o≠u):a≠b:=by
 intro e; subst e; rw [h] at h'; exact d (Option.some.inj h')
theorem aX {H:Hp} {a b:Addr} {o:HO} (h:H a=some o) (h':H b=none):a≠b:=by
 intro e; subst e; rw [h] at h'; cases h'
section
variable (P:Program) (w:World)
noncomputable def NoDi (h:Heap) (a:Addr):Prop:=∃ o,h.get? a=some o/\o.dict=none
theorem NoDi.new (h:Heap) (o:Obj) (e:o.dict=none:=by rfl) (f:o.isFreed=false:=by rfl):NoDi (h.push o) h.objs.size:=⟨o,Heap.get?_push_size h f,e⟩
noncomputable def ObjOk (H:Hp) (h:Heap) (a:Addr):HO->Prop
 | .lst xs=>xs.length<=sizeLine/\∃ (its:List Value) (n:Nat),Vals xs its/\h.get? a=some { cls:=.type "list",data:=.seq its.toArray n }
 | .tup xs=>xs.length<=sizeLine/\∃ its:List Value,Vals xs its/\IsTup h a its.toArray/\NoDi h a
 | .dK kvs=>kvs.length<=sizeLine/\(a==sysModules)=false/\∃ vs,KV kvs vs/\h.DictOf (aD P w) a vs
 | .dT kvs=>kvs.length<=sizeLine/\(a==sysModules)=false/\∃ xs:List (List aE×Addr×Value),
   Paired (fun (p:List aE×V) (q:List aE×Addr×Value)=>p.1=q.1/\H q.2.1=some (.tup (p.1.map kV))/\RelV p.2 q.2.2) kvs xs /\
   ∃ o es ep,h.get? a=some o/\o.ExactDict/\o.data=.dict es ep/\es.toList=xs.map (entryOfKey (tupleKind (aD P w)))/\(xs.map (·.1)).Nodup
 | .set S n=>h.SetOf (intKind P w) a S n
 | .ins C dx fs=>H dx=some (.own a)/\fs.length<=1000/\dx≠a/\h.get? a=some (PySem.W.instObj C dx) /\
   ∃ mA,h.Ns1 dx mA/\(∀ f,RelO (fs.lookup f) (mA f))/\PySem.Within mA (fs.map (·.1))
 | .own _=>∃ o,h.get? a=some o
 | .xd fs=>∃ mA,h.Ns1 a mA/\∀ f,RelO (fs.lookup f) (mA f)
 | .rng lo hi=>∃ t u v,h.get? a=some { cls:=.type "range",data:=.fields #[.int lo t,.int hi u,.int 1 v] }
 | .frz o u=>h.get? a=some o/\ObjOk H h a u
 | .tbl ps=>h.get? a=some { cls:=.none,data:=.fields ps }
 | .met f x=>h.get? a=some (PySem.W.methodObj (.ref f) (.ref x))
 | .ext φ=>φ h/\(∃ o,h.get? a=some o)/\∀ h1 h2:Heap,φ h1->(∀ o,h1.get? a=some o->h2.get? a=some o) -> φ h2
noncomputable def HOk (H:Hp) (h:Heap):Prop:=∀ a o,H a=some o->ObjOk P w H h a o
end
section
variable {P:Program} {w:World} {H H':Hp} {h h':Heap} {a:Addr} {o:HO}
theorem ObjOk.lt (x:ObjOk P w H h a o):a<h.objs.size:=by
 cases o with
 | lst xs=>obtain ⟨_,_,_,_,e⟩:=x; exact Heap.lt_size e
 | tup xs=>obtain ⟨_,_,_,p⟩:=x; exact p.1.lt
 | dK kvs=>obtain ⟨_,_,_,_,o,_,_,e,_⟩:=x; exact Heap.lt_size e
 | dT kvs=>obtain ⟨_,_,_,_,o,_,_,e,_⟩:=x; exact Heap.lt_size e
 | set S n=>obtain ⟨o,_,_,_,e,_⟩:=x; exact Heap.lt_size e
 | ins C dx fs=>obtain ⟨_,_,_,e,_⟩:=x; exact Heap.lt_size e
 | own y=>obtain ⟨_,e⟩:=x; exact Heap.lt_size e
 | xd fs=>obtain ⟨_,⟨_,_,_,e,_⟩,_⟩:=x; exact Heap.lt_size e
 | rng lo hi=>obtain ⟨_,_,_,e⟩:=x; exact Heap.lt_size e
 | frz ob u=>obtain ⟨e,_⟩:=x; exact Heap.lt_size e
 | tbl ps=>exact Heap.lt_size (show h.get? a=some _ from x)
 | met f y=>exact Heap.lt_size (show h.get? a=some _ from x)
 | ext φ=>obtain ⟨_,⟨_,e⟩,_⟩:=x; exact Heap.lt_size e
theorem Paired.mapP {α β:Type} {F G:α -> β -> Prop}:∀ {l₁:List α} {l₂:List β},Paired F l₁ l₂ -> (∀ a b,F a b->G a b)->Paired G l₁ l₂
 | _,_,.nil,_=>.nil
 | _,_,.cons r t,f=>.cons (f _ _ r) (Paired.mapP t f)
theorem ObjOk.stay (x:ObjOk P w H h a o) (k:∀ b u,(b=a\/H b=some (.own a))->h.get? b=some u->h'.get? b=some u)
  (ho:∀ b,H b=some (.own a)->H' b=some (.own a)) (ht:∀ b xs,H b=some (.tup xs)->H' b=some (.tup xs)):ObjOk P w H' h' a o:=by
 induction o with
 | lst xs=>obtain ⟨z,its,n,r,e⟩:=x; exact ⟨z,its,n,r,k _ _ (.inl rfl) e⟩
 | tup xs=>obtain ⟨z,its,r,⟨ob,e,c⟩,od,e',c'⟩:=x; exact ⟨z,its,r,⟨ob,k _ _ (.inl rfl) e,c⟩,od,k _ _ (.inl rfl) e',c'⟩
 | dK kvs=>obtain ⟨z,y,vs,r,ob,es,ep,e,c⟩:=x; exact ⟨z,y,vs,r,ob,es,ep,k _ _ (.inl rfl) e,c⟩
 | dT kvs=>
  obtain ⟨z,y,xs,r,ob,es,ep,e,c⟩:=x
  exact ⟨z,y,xs,Paired.mapP r fun p q z=>⟨z.1,ht _ _ z.2.1,z.2.2⟩,ob,es,ep,k _ _ (.inl rfl) e,c⟩
 | set S n=>obtain ⟨ob,es,ep,t,e,c⟩:=x; exact ⟨ob,es,ep,t,k _ _ (.inl rfl) e,c⟩
 | ins C dx fs=>
  obtain ⟨d,z,ne,e,mA,⟨od,es,ep,e2,c⟩,r⟩:=x
  exact ⟨ho _ d,z,ne,k _ _ (.inl rfl) e,mA,⟨od,es,ep,k _ _ (.inr d) e2,c⟩,r⟩
 | own y=>obtain ⟨ob,e⟩:=x; exact ⟨ob,k _ _ (.inl rfl) e⟩
 | xd fs=>obtain ⟨mA,⟨od,es,ep,e,c⟩,r⟩:=x; exact ⟨mA,⟨od,es,ep,k _ _ (.inl rfl) e,c⟩,r⟩
 | rng lo hi=>obtain ⟨t,u,v,e⟩:=x; exact ⟨t,u,v,k _ _ (.inl rfl) e⟩
 | frz ob u ih=>obtain ⟨e,q⟩:=x; exact ⟨k _ _ (.inl rfl) e,ih q⟩
 | tbl ps=>
  have e:h.get? a=some { cls:=.none,data:=.fields ps }:=x
  show h'.get? a=some { cls:=.none,data:=.fields ps }
  exact k a _ (.inl rfl) e
 | met f y=>
  have e:h.get? a=some (PySem.W.methodObj (.ref f) (.ref y)):=x
  show h'.get? a=some (PySem.W.methodObj (.ref f) (.ref y))
  exact k a _ (.inl rfl) e
 | ext φ=>obtain ⟨p,⟨o,e⟩,st⟩:=x; exact ⟨st _ _ p fun o q=>k _ _ (.inl rfl) q,⟨o,k _ _ (.inl rfl) e⟩,st⟩
theorem HOk.lt (x:HOk P w H h) (e:H a=some o):a<h.objs.size:=(x a o e).lt
theorem HOk.fresh (x:HOk P w H h) (e:h.objs.size<=a):H a=none:=by
 cases q:H a with
 | none=>rfl
 | some u=>exact absurd (Nat.lt_of_lt_of_le (x.lt q) e) (Nat.lt_irrefl _)
theorem HOk.kept (x:HOk P w H h) (k:∀ b u,h.get? b=some u->h'.get? b=some u):HOk P w H h':=fun a o e=>
 (x a o e).stay (fun b u _ q=>k b u q) (fun _ q=>q) fun _ _ q=>q
theorem HOk.laid (x:HOk P w H h) (k:∀ b u,h.get? b=some u->h'.get? b=some u) (hp:h.objs.size<=a) (new:ObjOk P w (upd H a o) h' a o):HOk P w (upd H a o) h':=fun b u e=>by
 have hn:=x.fresh hp
 by_cases hb:b=a
 ·subst hb; rw [aC] at e; cases e; exact new
 ·rw [aB hb] at e
  exact (x b u e).stay (fun c v _ q=>k c v q) (fun c q=>by rw [aB (aX q hn)]; exact q) fun c xs q=>by rw [aB (aX q hn)]; exact q
end
noncomputable def Rd (H:Hp) (a:Addr) (u:HO):Prop:=H a=some u\/∃ o,H a=some (.frz o u)
theorem Rd.of {H:Hp} {a:Addr} {u:HO} (h:H a=some u):Rd H a u:=.inl h
theorem Rd.ok {P:Program} {w:World} {H:Hp} {h:Heap} {a:Addr} {u:HO} (r:Rd H a u) (x:HOk P w H h):ObjOk P w H h a u:=by
 rcases r with r | ⟨o,r⟩
 ·exact x a u r
 ·obtain ⟨_,q⟩:=x a _ r
  exact q
noncomputable def F4:Option HO->Prop
 | some (.lst _)=>True
 | some (.dK _)=>True
 | some (.dT _)=>True
 | some (.set _ _)=>True
 | some (.ins _ _ _)=>True
 | some (.ext _)=>True
 | _=>False
section
variable {P:Program} {w:World} {H:Hp} {h h':Heap} {x e:Addr} {o':HO}
theorem HOk.write (ok:HOk P w H h) (mu:F4 (H x)) (he:e=x\/H e=some (.own x)) (k:∀ b u,b≠e->h.get? b=some u->h'.get? b=some u) (heo:∃ u,h'.get? e=some u)
  (new:ObjOk P w (upd H x o') h' x o'):HOk P w (upd H x o') h':=fun b u q=>by
 have nown:∀ c y,H c=some (.own y)->c≠x:=fun c y r z=>by subst z; rw [r] at mu; exact mu
 have ntup:∀ c xs,H c=some (.tup xs)->c≠x:=fun c xs r z=>by subst z; rw [r] at mu; exact mu
 by_cases hb:b=x
 ·subst hb; rw [aC] at q; cases q; exact new
 ·rw [aB hb] at q
  by_cases hbe:b=e
  ·have q':H b=some (.own x):=by
    rcases he with z | z
    ·exact absurd (hbe.trans z) hb
    ·rw [hbe]; exact z
   rw [q] at q'; cases q'
   obtain ⟨v,hv⟩:=heo
   exact ⟨v,by rw [hbe]; exact hv⟩
  ·refine (ok b u q).stay (fun c v hc r=>k c v ?_ r) (fun c r=>by rw [aB (nown c b r)]; exact r) fun c xs r=>by rw [aB (ntup c xs r)]; exact r
   rcases hc with rfl | hc
   ·exact hbe
   ·rintro rfl
    rcases he with z | z
    ·exact nown c b hc z
    ·rw [hc] at z; cases z; exact hb rfl
end
structure Un (fs ex:List Addr) (H H':Hp) (h h':Heap):Prop where
 keep:∀ b o,h.get? b=some o->H b=none->b ∉ fs->b ∉ ex->h'.get? b=some o
 slot:∀ b o,h.get? b=some o->H b=none->b∈fs->b ∉ ex->∃ sl,h'.get? b=some { o with slots:=sl }
 free:∀ b o,h.get? b=some o->H b=none->b ∉ ex->H' b=none
 there:∀ b o,h.get? b=some o->b ∉ ex->∃ o',h'.get? b=some o'
 tups:∀ b xs,H b=some (.tup xs)->H' b=some (.tup xs)
 frzs:∀ b o u,H b=some (.frz o u)->H' b=some (.frz o u)
 tbls:∀ b ps,H b=some (.tbl ps)->∃ more,H' b=some (.tbl (ps++more))
section
variable {fs fs' ex ex':List Addr} {H H1 H2:Hp} {h h1 h2 h':Heap} {a x e:Addr} {o:HO}
theorem Un.any (u:Un fs ex H H1 h h1) {b:Addr} {ob:Obj} (q:h.get? b=some ob) (n:H b=none) (hx:b ∉ ex):∃ sl,h1.get? b=some { ob with slots:=sl }:=by
 by_cases hb:b∈fs
 ·exact u.slot b ob q n hb hx
 ·exact ⟨ob.slots,u.keep b ob q n hb hx⟩
theorem Un.trans (a:Un fs ex H H1 h h1) (b:Un fs ex H1 H2 h1 h2):Un fs ex H H2 h h2 where
 keep:=fun c ob q n hc hx=>b.keep c ob (a.keep c ob q n hc hx) (a.free c ob q n hx) hc hx
 slot:=fun c ob q n hc hx=>by
  obtain ⟨sl,e1⟩:=a.slot c ob q n hc hx
  obtain ⟨sl',e2⟩:=b.slot c _ e1 (a.free c ob q n hx) hc hx
  exact ⟨sl',e2⟩
 free:=fun c ob q n hx=>by
  obtain ⟨o',e1⟩:=a.there c ob q hx
  exact b.free c o' e1 (a.free c ob q n hx) hx
 there:=fun c ob q hx=>by
  obtain ⟨o',e1⟩:=a.there c ob q hx
  exact b.there c o' e1 hx
 tups:=fun c xs q=>b.tups c xs (a.tups c xs q)
 frzs:=fun c ob xs q=>b.frzs c ob xs (a.frzs c ob xs q)
 tbls:=fun c ps q=>by
  obtain ⟨m1,e1⟩:=a.tbls c ps q
  obtain ⟨m2,e2⟩:=b.tbls c _ e1
  exact ⟨m1++m2,by rw [e2,Array.append_assoc]⟩
theorem Un.kept (k:∀ b u,h.get? b=some u->h'.get? b=some u):Un fs ex H H h h':=
 ⟨fun b ob q _ _ _=>k b ob q,fun b ob q _ _ _=>⟨ob.slots,k b ob q⟩,fun _ _ _ n _=>n,fun b ob q _=>⟨ob,k b ob q⟩,fun _ _ q=>q,fun _ _ _ q=>q,fun _ ps q=>⟨#[],by rw [q]; simp⟩⟩
theorem Un.refl:Un fs ex H H h h:=Un.kept fun _ _ q=>q
theorem Un.laid (k:∀ b u,h.get? b=some u->h'.get? b=some u) (hp:h.objs.size<=a) (hn:H a=none):Un fs ex H (upd H a o) h h' where
 keep:=fun b u q _ _ _=>k b u q
 slot:=fun b u q _ _ _=>⟨u.slots,k b u q⟩
 free:=fun b u q n _=>by rw [aB (Nat.ne_of_lt (Nat.lt_of_lt_of_le (Heap.lt_size q) hp))]; exact n
 there:=fun b u q _=>⟨u,k b u q⟩
 tups:=fun b xs q=>by rw [aB (aX q hn)]; exact q
 frzs:=fun b u xs q=>by rw [aB (aX q hn)]; exact q
 tbls:=fun b ps q=>⟨#[],by rw [aB (aX q hn),q]; simp⟩
theorem Un.write (mu:F4 (H x)) (he:e=x\/H e=some (.own x)) (k:∀ b u,b≠e->h.get? b=some u->h'.get? b=some u) (heo:∃ u,h'.get? e=some u):Un fs ex H (upd H x o) h h':=by
 have hx:∀ b,H b=none->b≠x:=fun b n z=>by subst z; rw [n] at mu; exact mu
 have hb:∀ b,H b=none->b≠e:=fun b n z=>by
  subst z
  rcases he with r | r
  ·exact hx b n r
  ·rw [n] at r; cases r
 have hm:∀ b u,H b=some u->¬ F4 (some u)->b≠x:=fun b u q nm z=>by subst z; rw [q] at mu; exact nm mu
 refine ⟨fun b u q n _ _=>k b u (hb b n) q,fun b u q n _ _=>⟨u.slots,k b u (hb b n) q⟩,fun b u q n _=>by rw [aB (hx b n)]; exact n,fun b u q _=>?_,
  fun b xs q=>by rw [aB (hm b _ q fun z=>z)]; exact q,fun b u xs q=>by rw [aB (hm b _ q fun z=>z)]; exact q,fun b ps q=>⟨#[],by rw [aB (hm b _ q fun z=>z),q]; simp⟩⟩
 by_cases hbe:b=e
 ·subst hbe; exact heo
 ·exact ⟨u,k b u hbe q⟩
theorem Un.mono (u:Un fs ex H H1 h h1) (hs:∀ b∈fs,b∈fs') (hx:∀ b∈ex,b∈ex'):Un fs' ex' H H1 h h1:=
 ⟨fun b ob q n hb he=>u.keep b ob q n (fun z=>hb (hs b z)) fun z=>he (hx b z),fun _ _ q n _ he=>u.any q n fun z=>he (hx _ z),fun b ob q n he=>u.free b ob q n fun z=>he (hx b z),fun b ob q he=>u.there b ob q fun z=>he (hx b z),u.tups,u.frzs,u.tbls⟩
end
noncomputable def F6 (h:Heap) (H:Hp):List Addr:=(List.range h.objs.size).filter fun a=>(H a).isSome
noncomputable def og (h:Heap) (H:Hp):Heap:=PySem.W.hideAll h (F6 h H)
theorem u3 (h:Heap) (H:Hp):(og h H).objs.size=h.objs.size:=PySem.W.hideAll_size _ _
theorem xu {h:Heap} {H:Hp} {b:Addr} {o:Obj} (e:h.get? b=some o) (n:H b=none):(og h H).get? b=some o:=
 PySem.W.hideAll_get _ e fun hm=>by
  have q:(H b).isSome=true:=(List.mem_filter.mp hm).2
  rw [n] at q; simp at q
theorem zR {h:Heap} {H:Hp} {b:Addr} {o:Obj} (e:(og h H).get? b=some o):h.get? b=some o/\H b=none:=by
 have e':h.get? b=some o:=PySem.W.of_hideAll (F6 h H) e
 refine ⟨e',?_⟩
 cases q:H b with
 | none=>rfl
 | some x=>
  have hm:b∈F6 h H:=List.mem_filter.mpr ⟨List.mem_range.mpr (Heap.lt_size e'),by simp [q]⟩
  have z:(og h H).get? b=none:=PySem.W.hideAll_none (F6 h H) hm
  rw [z] at e; cases e
noncomputable def AE (g h:Heap) (L:Addr):List (Addr×Obj):=(List.range h.objs.size).filterMap fun a=>if a=L\/(g.get? a).isSome=true then none else (h.get? a).map fun o=>(a,o)
noncomputable def rest (g h:Heap) (L d:Addr):List (Addr×Obj):=(AE g h L).filter fun p=>decide (p.1≠d)
end L2
namespace L2
open PySem PySem.Spec PyProof.Rows
structure Mod (K:PySem.W.Frag) (mg:Str->Option Value) (base:Heap):Prop where
 kin:K.In base
 glob:base.Ns mainGlobals mg
 blt:∃ mb,base.Ns builtinsNs mb/\∀ x:Str,x ≠ "__name__" -> mb x=bootBuiltins x
 nolimit:base.NoLimit
structure Cx where
 prog:Program
 w:World
 K:PySem.W.Frag
 mg:Str->Option Value
 base:Heap
 A:Around
 N:List Str
 s₀:Shared
 H₀:Hp
 env:Env
 outer:List Env
 stack:List Env
 ex:List Addr
 fn:Str->Bool
 calm:Bool
 pn:List (Addr×Obj)
 xe:Value->Shared->Prop
noncomputable def rp (l:List Env):List Addr:=l.filterMap (·.frame)
noncomputable abbrev Cx.fs (X:Cx):List Addr:=rp X.outer
noncomputable def vt (sc:Scope) (x:Str):Prop:=sc.names.lookup x=some .local\/sc.names.lookup x=some .cell\/sc.names.lookup x=some .free
noncomputable def vv (sc:Scope) (x:Str):Prop:=sc.names.lookup x=some .local\/sc.names.lookup x=some .cell
noncomputable def HW (env:Env) (h:Heap) (m:Str->Option Value) (x:Str) (u:Value):Prop:=
 (env.kindOf x=some .local/\m x=some u)\/((env.kindOf x=some .cell\/env.kindOf x=some .free)/\∃ c,env.cells.lookup x=some c/\h.IsCell c (some u))
structure Cx.Ok (X:Cx):Prop where
 mod:Mod X.K X.mg X.base
 kind:X.env.scope.kind=.function
 glob:X.env.globals=mainGlobals
 blt:X.env.builtins=builtinsNs
 above:X.s₀.heap.objs.size<=X.env.locals
 inj:∀ x y c,X.env.cells.lookup x=some c->X.env.cells.lookup y=some c->x=y
 has:∀ x,(X.env.kindOf x=some .cell\/X.env.kindOf x=some .free)->∃ c,X.env.cells.lookup x=some c
 cab:∀ x c,X.fn x=true->X.env.cells.lookup x=some c->X.s₀.heap.objs.size<=c
 hd:X.calm=true->X.A.handled=none
 frames:X.A.frames=some X.stack
 stk:X.stack=X.outer\/(X.stack=X.env::X.outer/\X.env.frame=some X.env.locals)
 exf:∀ b∈X.ex,b≠X.env.locals/\∀ x c,X.env.cells.lookup x=some c->c≠b
 bs:∀ b o,X.base.get? b=some o->X.s₀.heap.get? b=some o/\X.H₀ b=none
 bsz:X.base.objs.size<=X.s₀.heap.objs.size
 noex:∀ b o,X.base.get? b=some o->b ∉ X.ex
 exfs:∀ b∈X.ex,b ∉ X.fs
 funs:X.s₀.heap.FunFrames X.base X.outer
 frf:∀ b∈X.fs,X.H₀ b=none
structure Inv (X:Cx) (pins:List (Addr×Obj)) (σ:List (Option V)) (H:Hp) (s:Shared):Prop where
 ok:X.Ok
 os:s.os=X.s₀.os
 bare:AllBare s.gens
 base:Un X.fs X.ex X.H₀ H X.s₀.heap s.heap
 loc:∃ m,s.heap.Ns X.env.locals m/\∀ (i:Nat) (x:Str) (v:V),X.N[i]? = some x -> σ[i]? = some (some v)->vt X.env.scope x->∃ u,RelV v u/\HW X.env s.heap m x u
 cell:∀ x c,X.env.cells.lookup x=some c->∃ v,s.heap.IsCell c v
 free:H X.env.locals=none
 freeC:∀ x c,X.env.cells.lookup x=some c->H c=none
 pin:∀ p∈X.pn++pins,s.heap.get? p.1=some p.2/\H p.1=none/\p.1≠X.env.locals/\p.1 ∉ X.fs/\∀ v,p.2.data≠.cell v
 hok:HOk X.prog X.w H s.heap
 len:σ.length=X.N.length
section
variable {X:Cx} {pins:List (Addr×Obj)} {σ:List (Option V)} {H H':Hp} {s:Shared} {h':Heap}
theorem Cx.Ok.nofr (ok:X.Ok) {b:Addr} {o:Obj} (e:X.base.get? b=some o):b ∉ X.fs:=fun hb=>by
 have:=(ok.funs.mem hb).1
 rw [e] at this; cases this
theorem Inv.bs (I:Inv X pins σ H s):∀ b o,X.base.get? b=some o->s.heap.get? b=some o/\H b=none:=fun b o e=>
 ⟨I.base.keep b o (I.ok.bs b o e).1 (I.ok.bs b o e).2 (I.ok.nofr e) (I.ok.noex b o e),I.base.free b o (I.ok.bs b o e).1 (I.ok.bs b o e).2 (I.ok.noex b o e)⟩
theorem Inv.bk (I:Inv X pins σ H s):∀ b o,X.base.get? b=some o->s.heap.get? b=some o:=fun b o e=>(I.bs b o e).1
theorem Inv.mod (I:Inv X pins σ H s):Mod X.K X.mg X.base:=I.ok.mod
theorem Inv.kIn (I:Inv X pins σ H s):X.K.In s.heap:=I.ok.mod.kin.keeps I.bk
theorem Inv.nolimit (I:Inv X pins σ H s):s.heap.NoLimit:=I.ok.mod.nolimit.keeps I.bk
theorem Inv.fr (I:Inv X pins σ H s):∃ m,Fr X.base X.env.locals s.heap m:=
 let ⟨m,hn,_⟩:=I.loc
 ⟨m,hn,I.bk,Nat.le_trans I.ok.bsz I.ok.above⟩
theorem Inv.lt (I:Inv X pins σ H s):X.env.locals<s.heap.objs.size:=let ⟨_,hn,_⟩:=I.loc; hn.lt
theorem Inv.sz (I:Inv X pins σ H s):X.s₀.heap.objs.size<=s.heap.objs.size:=Nat.le_trans I.ok.above (Nat.le_of_lt I.lt)
theorem Inv.nofs (I:Inv X pins σ H s) {a:Addr} (h:s.heap.objs.size<=a):a ∉ X.fs:=fun hb=>by
 obtain ⟨_,o,ho,_⟩:=I.ok.funs.mem hb
 exact absurd (Nat.lt_of_lt_of_le (Heap.lt_size ho) (Nat.le_trans I.sz h)) (Nat.lt_irrefl _)
theorem Inv.cne (I:Inv X pins σ H s):∀ x c,X.env.cells.lookup x=some c->c≠X.env.locals:=fun x c e z=>by
 obtain ⟨v,o,ho,hd⟩:=I.cell x c e
 obtain ⟨m,⟨o',es,ep,ho',hd',_⟩,_⟩:=I.loc
 rw [z,ho'] at ho; cases ho; rw [hd'] at hd; cases hd
theorem Inv.funs (I:Inv X pins σ H s):s.heap.FunFrames X.base X.outer:=by
 have all:∀ (l:List Env),(∀ b∈rp l,b∈X.fs)->X.s₀.heap.FunFrames X.base l->s.heap.FunFrames X.base l:=by
  intro l
  induction l with
  | nil=>intro _ _; trivial
  | cons env r ih=>
   intro hs hl
   obtain ⟨hk,⟨L,o,hf,hn,ho,hd⟩,hr⟩:=hl
   have hL:L∈X.fs:=hs L (by unfold rp; rw [List.filterMap_cons,hf]; exact List.mem_cons_self)
   obtain ⟨sl,e⟩:=I.base.slot L o ho (I.ok.frf L hL) hL fun z=>I.ok.exfs L z hL
   exact ⟨hk,⟨L,_,hf,hn,e,hd⟩,ih (fun b hb=>hs b (by unfold rp; rw [List.filterMap_cons,hf]; exact List.mem_cons_of_mem _ hb)) hr⟩
 exact all X.outer (fun _ hb=>hb) I.ok.funs
theorem Inv.stack (I:Inv X pins σ H s):s.heap.FunFrames X.base X.stack:=by
 rcases I.ok.stk with e | ⟨e,hf⟩
 ·rw [e]; exact I.funs
 ·rw [e]
  obtain ⟨m,hn,_⟩:=I.loc
  refine .cons (by rw [I.ok.kind]; decide) hf hn ?_ I.funs
  exact Heap.get?_none_of_le (Nat.le_trans I.ok.bsz I.ok.above)
theorem Inv.stkSub (I:Inv X pins σ H s):∀ b∈rp X.stack,b∈X.env.locals::X.fs:=fun b hb=>by
 rcases I.ok.stk with e | ⟨e,hf⟩
 ·rw [e] at hb; exact List.mem_cons_of_mem _ hb
 ·rw [e] at hb
  unfold rp at hb
  rw [List.filterMap_cons,hf] at hb
  exact hb
theorem Inv.stkFree (I:Inv X pins σ H s):∀ b∈rp X.stack,H b=none:=fun b hb=>by
 rcases List.mem_cons.mp (I.stkSub b hb) with e | hb
 ·rw [e]; exact I.free
 ·obtain ⟨_,o,ho,_⟩:=I.ok.funs.mem hb
  exact I.base.free b o ho (I.ok.frf b hb) fun z=>I.ok.exfs b z hb
theorem Inv.step {g':Array GenState} {t':Nat} {d':Drawn} {ch:List Addr} (I:Inv X pins σ H s)
  (hch:∀ b∈ch,(b∈X.ex\/X.s₀.heap.objs.size<=b)/\b≠X.env.locals/\(∀ x c,X.env.cells.lookup x=some c->c≠b)/\∀ p∈X.pn++pins,p.1≠b)
  (keep:∀ b o,b≠X.env.locals->b ∉ X.fs->b ∉ ch->s.heap.get? b=some o->H b=none->h'.get? b=some o)
  (slot:∀ b o,b≠X.env.locals->b∈X.fs->b ∉ ch->s.heap.get? b=some o->H b=none->∃ sl,h'.get? b=some { o with slots:=sl }) (free:∀ b o,b ∉ ch->s.heap.get? b=some o->H b=none->H' b=none)
  (there:∀ b o,b ∉ ch->s.heap.get? b=some o->∃ o',h'.get? b=some o')
  (tups:∀ b xs,H b=some (.tup xs)->H' b=some (.tup xs)) (frzs:∀ b o u,H b=some (.frz o u)->H' b=some (.frz o u)) (tbls:∀ b ps,H b=some (.tbl ps)->∃ more,H' b=some (.tbl (ps++more)))
  (ns:∀ m,s.heap.Ns X.env.locals m->h'.Ns X.env.locals m) (hok:HOk X.prog X.w H' h') (hg:AllBare g') :
  Inv X pins σ H' { s with heap:=h',gens:=g',drawn:=d',toks:=t' }:=by
 have neL:∀ b o,X.s₀.heap.get? b=some o->b≠X.env.locals:=fun b o e=>Nat.ne_of_lt (Nat.lt_of_lt_of_le (Heap.lt_size e) I.ok.above)
 have neC:∀ b o,X.s₀.heap.get? b=some o->b ∉ X.ex->b ∉ ch:=fun b o e hx hb=>by
  rcases (hch b hb).1 with z | z
  ·exact hx z
  ·exact absurd (Nat.lt_of_lt_of_le (Heap.lt_size e) z) (Nat.lt_irrefl _)
 have cellK:∀ x c,X.env.cells.lookup x=some c->∀ v,s.heap.IsCell c v->h'.IsCell c v:=fun x c e v ⟨o,ho,hd⟩=>by
  have nch:c ∉ ch:=fun z=>(hch c z).2.2.1 x c e rfl
  by_cases hc:c∈X.fs
  ·obtain ⟨sl,q⟩:=slot c o (I.cne x c e) hc nch ho (I.freeC x c e)
   exact ⟨_,q,hd⟩
  ·exact ⟨o,keep c o (I.cne x c e) hc nch ho (I.freeC x c e),hd⟩
 refine ⟨I.ok,I.os,hg,⟨fun b o e n hb hx=>?_,fun b o e n hb hx=>?_,fun b o e n hx=>?_,fun b o e hx=>?_,fun b xs e=>tups b xs (I.base.tups b xs e),fun b o xs e=>frzs b o xs (I.base.frzs b o xs e),fun b ps e=>?_⟩,?_,fun x c e=>?_,?_,fun x c e=>?_,fun p hp=>?_,hok,I.len⟩
 ·exact keep b o (neL b o e) hb (neC b o e hx) (I.base.keep b o e n hb hx) (I.base.free b o e n hx)
 ·obtain ⟨sl,e1⟩:=I.base.slot b o e n hb hx
  obtain ⟨sl',e2⟩:=slot b _ (neL b o e) hb (neC b o e hx) e1 (I.base.free b o e n hx)
  exact ⟨sl',e2⟩
 ·obtain ⟨o',e1⟩:=I.base.there b o e hx
  exact free b o' (neC b o e hx) e1 (I.base.free b o e n hx)
 ·obtain ⟨o',e1⟩:=I.base.there b o e hx
  exact there b o' (neC b o e hx) e1
 ·obtain ⟨m1,e1⟩:=I.base.tbls b ps e
  obtain ⟨m2,e2⟩:=tbls b _ e1
  exact ⟨m1++m2,by rw [e2,Array.append_assoc]⟩
 ·obtain ⟨m,hn,hl⟩:=I.loc
  refine ⟨m,ns m hn,fun i x v e1 e2 e3=>?_⟩
  obtain ⟨u,r,l⟩:=hl i x v e1 e2 e3
  refine ⟨u,r,?_⟩
  rcases l with l | ⟨k,c,e,z⟩
  ·exact .inl l
  ·exact .inr ⟨k,c,e,cellK x c e _ z⟩
 ·obtain ⟨v,z⟩:=I.cell x c e
  exact ⟨v,cellK x c e v z⟩
 ·obtain ⟨m,⟨o,_,_,ho,_⟩,_⟩:=I.loc
  exact free _ o (fun z=>(hch _ z).2.1 rfl) ho I.free
 ·obtain ⟨v,o,ho,hd⟩:=I.cell x c e
  exact free c o (fun z=>(hch c z).2.2.1 x c e rfl) ho (I.freeC x c e)
 ·obtain ⟨e,n,ne,nf,d⟩:=I.pin p hp
  have nch:p.1 ∉ ch:=fun z=>(hch p.1 z).2.2.2 p hp rfl
  exact ⟨keep p.1 p.2 ne nf nch e n,free p.1 p.2 nch e n,ne,nf,d⟩
theorem Inv.un {t':Nat} (I:Inv X pins σ H s) (u:Un X.fs [] H H' s.heap h') (hok:HOk X.prog X.w H' h'):Inv X pins σ H' { s with heap:=h',toks:=t' }:=by
 obtain ⟨m,⟨o,es,ep,ho,r⟩,_⟩:=id I.loc
 obtain ⟨sl,hL⟩:=u.any ho I.free (by simp)
 exact I.step (g':=s.gens) (d':=s.drawn) (ch:=[]) (fun _ z=>nomatch z) (fun b o _ hb _ e n=>u.keep b o e n hb (by simp)) (fun b o _ hb _ e n=>u.slot b o e n hb (by simp)) (fun b o _ e n=>u.free b o e n (by simp)) (fun b o _ e=>u.there b o e (by simp)) u.tups u.frzs u.tbls (fun m' hm=>by
  obtain ⟨o',es',ep',ho',r'⟩:=hm
  rw [ho] at ho'; cases ho'
  exact ⟨_,es',ep',hL,r'⟩) hok I.bare
theorem Inv.call {g':Array GenState} {t':Nat} {d':Drawn} {ch:List Addr} (I:Inv X pins σ H s) (u:Un (rp X.stack) ch H H' s.heap h') (hok:HOk X.prog X.w H' h') (hg:AllBare g')
  (hch:∀ b∈ch,(b∈X.ex\/X.s₀.heap.objs.size<=b)/\b≠X.env.locals/\(∀ x c,X.env.cells.lookup x=some c->c≠b)/\∀ p∈X.pn++pins,p.1≠b) :
  Inv X pins σ H' { s with heap:=h',gens:=g',drawn:=d',toks:=t' }:=by
 obtain ⟨m,⟨o,es,ep,ho,r⟩,_⟩:=id I.loc
 obtain ⟨sl,hL⟩:=u.any ho I.free fun z=>(hch _ z).2.1 rfl
 exact I.step (ch:=ch) hch (fun b o hL hb hc e n=>u.keep b o e n (fun z=>(List.mem_cons.mp (I.stkSub b z)).elim hL hb) hc) (fun b o _ _ hc e n=>u.any e n hc) (fun b o hc e n=>u.free b o e n hc) (fun b o hc e=>u.there b o e hc) u.tups u.frzs u.tbls (fun m' hm=>by
  obtain ⟨o',es',ep',ho',r'⟩:=hm
  rw [ho] at ho'; cases ho'
  exact ⟨_,es',ep',hL,r'⟩) hok hg
theorem Inv.turned {t':Nat} {it:Addr} (I:Inv X pins σ H s) (k:∀ b o,b≠it->s.heap.get? b=some o->h'.get? b=some o) (hn:H it=none) (hL:it≠X.env.locals)
  (h1:it∈X.ex\/X.s₀.heap.objs.size<=it) (h2:∀ x c,X.env.cells.lookup x=some c->c≠it) (h3:∀ p∈X.pn++pins,p.1≠it):Inv X pins σ H { s with heap:=h',toks:=t' }:=by
 have nit:∀ b u,H b=some u->b≠it:=fun b u e z=>by rw [z,hn] at e; cases e
 refine I.step (g':=s.gens) (d':=s.drawn) (ch:=[it]) (fun b hb=>?_) (fun b o _ _ hc e _=>k b o (fun z=>hc (by simp [z])) e) (fun b o _ _ hc e _=>⟨o.slots,k b o (fun z=>hc (by simp [z])) e⟩) (fun _ _ _ _ n=>n)
  (fun b o hc e=>⟨o,k b o (fun z=>hc (by simp [z])) e⟩) (fun _ _ e=>e) (fun _ _ _ e=>e) (fun b ps e=>⟨#[],by rw [e]; simp⟩) (fun m hm=>?_) (fun b u e=>?_) I.bare
 ·have e:b=it:=by simpa using hb
  subst e
  exact ⟨h1,hL,h2,h3⟩
 ·obtain ⟨o,es,ep,ho,r⟩:=hm
  exact ⟨o,es,ep,k _ o (Ne.symm hL) ho,r⟩
 ·refine (I.hok b u e).stay (fun c v hc q=>k c v ?_ q) (fun _ q=>q) fun _ _ q=>q
  rcases hc with z | z
  ·rw [z]; exact nit b u e
  ·exact nit c _ z
theorem Inv.tok (I:Inv X pins σ H s) (t:Nat):Inv X pins σ H { s with toks:=t }:=I.un (h':=s.heap) (t':=t) Un.refl I.hok
theorem Inv.kept {t':Nat} (I:Inv X pins σ H s) (k:∀ b u,s.heap.get? b=some u->h'.get? b=some u):Inv X pins σ H { s with heap:=h',toks:=t' }:=I.un (Un.kept k) (I.hok.kept k)
theorem Inv.laid {a:Addr} {o:HO} {t':Nat} (I:Inv X pins σ H s) (k:∀ b u,s.heap.get? b=some u->h'.get? b=some u) (hp:s.heap.objs.size<=a) (new:ObjOk X.prog X.w (upd H a o) h' a o) :
  Inv X pins σ (upd H a o) { s with heap:=h',toks:=t' }:=I.un (Un.laid k hp (I.hok.fresh hp)) (I.hok.laid k hp new)
theorem Inv.write {x e:Addr} {o:HO} {t':Nat} (I:Inv X pins σ H s) (mu:F4 (H x)) (he:e=x\/H e=some (.own x)) (k:∀ b u,b≠e->s.heap.get? b=some u->h'.get? b=some u) (heo:∃ u,h'.get? e=some u)
  (new:ObjOk X.prog X.w (upd H x o) h' x o):Inv X pins σ (upd H x o) { s with heap:=h',toks:=t' }:=I.un (Un.write mu he k heo) (I.hok.write mu he k heo new)
theorem Inv.weak {σ':List (Option V)} (I:Inv X pins σ H s) (hl:σ'.length = σ.length) (w:∀ (i:Nat) v,σ'[i]? = some (some v) -> σ[i]? = some (some v)):Inv X pins σ' H s:=
 ⟨I.ok,I.os,I.bare,I.base,let ⟨m,hn,hl'⟩:=I.loc; ⟨m,hn,fun i x v e1 e2 e3=>hl' i x v e1 (w i v e2) e3⟩,I.cell,I.free,I.freeC,I.pin,I.hok,hl.trans I.len⟩
theorem Inv.pins_of {pins':List (Addr×Obj)} (I:Inv X pins σ H s) (h:∀ p∈pins',s.heap.get? p.1=some p.2/\H p.1=none/\p.1≠X.env.locals/\p.1 ∉ X.fs/\∀ v,p.2.data≠.cell v):Inv X pins' σ H s:=
 ⟨I.ok,I.os,I.bare,I.base,I.loc,I.cell,I.free,I.freeC,fun p hp=>(List.mem_append.mp hp).elim (fun z=>I.pin p (List.mem_append_left _ z)) (h p),I.hok,I.len⟩
theorem pR {N:List Str} (hN:N.Nodup) {i j:Nat} {x:Str} (a:N[i]? = some x) (b:N[j]? = some x):i=j:=by
 obtain ⟨h1,e1⟩:=List.getElem?_eq_some_iff.mp a
 obtain ⟨h2,e2⟩:=List.getElem?_eq_some_iff.mp b
 exact (List.getElem_inj hN).mp (e1.trans e2.symm)
theorem ul {M:Model} {A:Around} {E:Value->Shared->Prop} {i:Nat} {x:Str} {v:V} {u:Value} {Q:Unit->Shared->Prop} (I:Inv X pins σ H s) (hN:X.N.Nodup) (hi:X.N[i]? = some x) (hx:vv X.env.scope x) (r:RelV v u)
  (h:∀ s',Inv X pins (σ.set i (some v)) H s'->(∃ a,Heap.SameBut a s.heap s'.heap/\(a=X.env.locals\/X.env.cells.lookup x=some a))->Q () s') (hf:X.fn x=true\/X.env.scope.names.lookup x=some .local:=by first | exact .inl rfl | exact .inr rfl | assumption):wpAny M A (storeName X.env x u) Q E s:=by
 obtain ⟨m,hn,hl⟩:=id I.loc
 have hcls:(X.env.scope.kind == .class||(X.env.scope.kind == .module&&X.env.locals != X.env.globals))=false:=by rw [I.ok.kind]; rfl
 have hiσ:i < σ.length:=by rw [I.len]; exact (List.getElem?_eq_some_iff.mp hi).1
 have cne:=I.cne
 have tracked:∀ {a:Addr} {h':Heap},(∃ o,s.heap.get? a=some o/\H a=none)->Heap.SameBut a s.heap h'->HOk X.prog X.w H h':=fun {a h'} ha hs b ob e=>by
  obtain ⟨_,_,hfree⟩:=ha
  refine (I.hok b ob e).stay (fun c w' hc q=>(hs.2 c ?_).trans q) (fun _ q=>q) fun _ _ q=>q
  rintro rfl
  rcases hc with rfl | hc
  ·rw [hfree] at e; cases e
  ·rw [hfree] at hc; cases hc
 rcases hx with hk | hk
 ·refine wpAny_storeName_local hk hn (fun h' hn' hs=>?_) hcls
  obtain ⟨oL,_,_,hoL,_⟩:=id hn
  refine h _ ⟨I.ok,I.os,I.bare,⟨fun b o e n hb hx=>?_,fun b o e n hb hx=>?_,I.base.free,fun b o e hx=>?_,I.base.tups,I.base.frzs,I.base.tbls⟩,⟨_,hn',fun j y v' e1 e2 e3=>?_⟩,fun y c e=>?_,I.free,I.freeC,fun p hp=>?_,tracked ⟨oL,hoL,I.free⟩ hs,by simpa using I.len⟩ ⟨_,hs,.inl rfl⟩
  ·exact (hs.2 b (Nat.ne_of_lt (Nat.lt_of_lt_of_le (Heap.lt_size e) I.ok.above))).trans (I.base.keep b o e n hb hx)
  ·obtain ⟨sl,e1⟩:=I.base.slot b o e n hb hx
   exact ⟨sl,(hs.2 b (Nat.ne_of_lt (Nat.lt_of_lt_of_le (Heap.lt_size e) I.ok.above))).trans e1⟩
  ·obtain ⟨o',e1⟩:=I.base.there b o e hx
   exact ⟨o',(hs.2 b (Nat.ne_of_lt (Nat.lt_of_lt_of_le (Heap.lt_size e) I.ok.above))).trans e1⟩
  ·by_cases hj:j=i
   ·subst hj
    rw [hi] at e1; cases e1
    rw [List.getElem?_set_self hiσ] at e2
    cases e2
    exact ⟨u,r,.inl ⟨hk,by simp⟩⟩
   ·rw [List.getElem?_set_ne (Ne.symm hj)] at e2
    obtain ⟨u',r',q⟩:=hl j y v' e1 e2 e3
    refine ⟨u',r',?_⟩
    rcases q with ⟨k,e⟩ | ⟨k,c,e,z⟩
    ·refine .inl ⟨k,?_⟩
     have:y≠x:=fun e=>hj (pR hN e1 (e ▸ hi))
     simp [this,e]
    ·exact .inr ⟨k,c,e,z.sameBut hs (cne y c e)⟩
  ·obtain ⟨w',z⟩:=I.cell y c e
   exact ⟨w',z.sameBut hs (cne y c e)⟩
  ·obtain ⟨e,n,ne,nf,d⟩:=I.pin p hp
   exact ⟨(hs.2 p.1 ne).trans e,n,ne,nf,d⟩
 ·have hfn:X.fn x=true:=by
   rcases hf with z | z
   ·exact z
   ·rw [z] at hk; cases hk
  obtain ⟨c,hc⟩:=I.ok.has x (.inl hk)
  obtain ⟨w',z⟩:=I.cell x c hc
  refine wpAny_storeName_cell I.ok.kind hk hc z (fun h' hc' hs=>?_)
  obtain ⟨oc,hoc,hocd⟩:=id z
  refine h { s with heap:=h' } ⟨I.ok,I.os,I.bare,⟨fun b o e n hb hx=>?_,fun b o e n hb hx=>?_,I.base.free,fun b o e hx=>?_,I.base.tups,I.base.frzs,I.base.tbls⟩,⟨m,hn.sameBut hs (Ne.symm (cne x c hc)),fun j y v' e1 e2 e3=>?_⟩,fun y c' e=>?_,I.free,I.freeC,fun p hp=>?_,tracked ⟨oc,hoc,I.freeC x c hc⟩ hs,by simpa using I.len⟩ ⟨c,hs,.inr hc⟩
  ·exact (hs.2 b (Nat.ne_of_lt (Nat.lt_of_lt_of_le (Heap.lt_size e) (I.ok.cab x c hfn hc)))).trans (I.base.keep b o e n hb hx)
  ·obtain ⟨sl,e1⟩:=I.base.slot b o e n hb hx
   exact ⟨sl,(hs.2 b (Nat.ne_of_lt (Nat.lt_of_lt_of_le (Heap.lt_size e) (I.ok.cab x c hfn hc)))).trans e1⟩
  ·obtain ⟨o',e1⟩:=I.base.there b o e hx
   exact ⟨o',(hs.2 b (Nat.ne_of_lt (Nat.lt_of_lt_of_le (Heap.lt_size e) (I.ok.cab x c hfn hc)))).trans e1⟩
  ·by_cases hj:j=i
   ·subst hj
    rw [hi] at e1; cases e1
    rw [List.getElem?_set_self hiσ] at e2
    cases e2
    exact ⟨u,r,.inr ⟨.inl hk,c,hc,hc'⟩⟩
   ·rw [List.getElem?_set_ne (Ne.symm hj)] at e2
    obtain ⟨u',r',q⟩:=hl j y v' e1 e2 e3
    refine ⟨u',r',?_⟩
    rcases q with q | ⟨k,c',e,z'⟩
    ·exact .inl q
    ·refine .inr ⟨k,c',e,z'.sameBut hs ?_⟩
     rintro rfl
     exact hj (pR hN e1 (I.ok.inj _ _ _ e hc ▸ hi))
  ·by_cases hcc:c'=c
   ·subst hcc; exact ⟨_,hc'⟩
   ·obtain ⟨w2,z2⟩:=I.cell y c' e
    exact ⟨w2,z2.sameBut hs hcc⟩
  ·obtain ⟨e,n,ne,nf,d⟩:=I.pin p hp
   refine ⟨(hs.2 p.1 ?_).trans e,n,ne,nf,d⟩
   intro q
   rw [q,hoc] at e
   have q':oc=p.2:=Option.some.inj e
   exact d w' (by rw [<- q']; exact hocd)
theorem o7 {M:Model} {A:Around} {E:Value->Shared->Prop} {i:Nat} {x:Str} {v:V} {u:Value} {Q:Unit->Shared->Prop} (I:Inv X pins σ H s) (hN:X.N.Nodup) (hi:X.N[i]? = some x) (hx:vv X.env.scope x) (r:RelV v u)
  (h:∀ s',Inv X pins (σ.set i (some v)) H s'->Q () s') (hf:X.fn x=true\/X.env.scope.names.lookup x=some .local:=by first | exact .inl rfl | exact .inr rfl | assumption):wpAny M A (storeName X.env x u) Q E s:=
 ul I hN hi hx r (fun s' I' _=>h s' I') hf
theorem Inv.call' {s':Shared} {ch:List Addr} (I:Inv X pins σ H s) (ho:s'.os=s.os) (u:Un (rp X.stack) ch H H' s.heap s'.heap) (hok:HOk X.prog X.w H' s'.heap) (hg:AllBare s'.gens)
  (hch:∀ b∈ch,(b∈X.ex\/X.s₀.heap.objs.size<=b)/\b≠X.env.locals/\(∀ x c,X.env.cells.lookup x=some c->c≠b)/\∀ p∈X.pn++pins,p.1≠b):Inv X pins σ H' s':=by
 obtain ⟨h',g',d',t',o'⟩:=s'
 have e:o'=s.os:=ho
 subst e
 exact I.call (g':=g') (t':=t') (d':=d') u hok hg hch
end
noncomputable abbrev XK:=Value->Option Addr->Hp->Prop
noncomputable abbrev St:=List (Option V)
noncomputable abbrev VK:=V->Hp->Prop
noncomputable abbrev TE:=St->Hp->VK->Prop
noncomputable abbrev TT:=St->Hp->(Bool->Hp->Prop)->Prop
noncomputable abbrev TA:=St->Hp->(List V->Hp->Prop)->Prop
structure Ends where
 nx:St->Hp->Prop
 rt:VK
 bk:St->Hp->Prop:=fun _ _=>False
 ct:St->Hp->Prop:=fun _ _=>False
noncomputable abbrev TS:=Ends->St->Hp->Prop
noncomputable def EP (X:Cx) (pins:List (Addr×Obj)) (σ:St) (Q:VK) (u:Value) (s':Shared):Prop:=∃ v H',Inv X pins σ H' s'/\RelV v u/\Q v H'
noncomputable def TP (X:Cx) (pins:List (Addr×Obj)) (σ:St) (Q:Bool->Hp->Prop) (b:Bool) (s':Shared):Prop:=∃ H',Inv X pins σ H' s'/\Q b H'
noncomputable def AP (X:Cx) (pins:List (Addr×Obj)) (σ:St) (Q:List V->Hp->Prop) (us:List Value) (s':Shared):Prop:=∃ vs H',Inv X pins σ H' s'/\Vals vs us/\Q vs H'
noncomputable def SP (X:Cx) (pins:List (Addr×Obj)) (D:Ends) (f:Flow) (s':Shared):Prop:=
 match f with
 | .next=>∃ σ' H',Inv X pins σ' H' s'/\D.nx σ' H'
 | .brk=>∃ σ' H',Inv X pins σ' H' s'/\D.bk σ' H'
 | .cont=>∃ σ' H',Inv X pins σ' H' s'/\D.ct σ' H'
 | .ret u=>∃ v σ' H',Inv X pins σ' H' s'/\RelV v u/\D.rt v H'
noncomputable def PE (X:Cx) (e:Expr) (t:TE):Prop:=
 ∀ (pins:List (Addr×Obj)) (s:Shared) (σ:St) (H:Hp) (Q:VK),Inv X pins σ H s->t σ H Q->wpAny (model X.prog X.w) X.A (eval e X.env) (EP X pins σ Q) X.xe s
noncomputable def PT (X:Cx) (e:Expr) (t:TT):Prop:=
 ∀ (pins:List (Addr×Obj)) (s:Shared) (σ:St) (H:Hp) (Q:Bool->Hp->Prop),Inv X pins σ H s->t σ H Q->wpAny (model X.prog X.w) X.A (isTrue e X.env (eval e X.env)) (TP X pins σ Q) X.xe s
noncomputable def PW (X:Cx) (e:Expr) (t:TT):Prop:=
 ∀ (whole:Sem Value) (pins:List (Addr×Obj)) (s:Shared) (σ:St) (H:Hp) (Q:Bool->Hp->Prop),Inv X pins σ H s->t σ H Q->wpAny (model X.prog X.w) X.A (isTrue e X.env whole) (TP X pins σ Q) X.xe s
theorem PW.pt {X:Cx} {e:Expr} {t:TT} (h:PW X e t):PT X e t:=h _
noncomputable def PA (X:Cx) (es:List Expr) (t:TA):Prop:=
 ∀ (pos:Pos) (pins:List (Addr×Obj)) (s:Shared) (σ:St) (H:Hp) (Q:List V->Hp->Prop),Inv X pins σ H s->t σ H Q->wpAny (model X.prog X.w) X.A (spliced (backTo pos (starEach es X.env))) (AP X pins σ Q) X.xe s
noncomputable def PS (X:Cx) (st:Stmt) (t:TS):Prop:=
 ∀ (pins:List (Addr×Obj)) (s:Shared) (σ:St) (H:Hp) (D:Ends),Inv X pins σ H s->t D σ H->wpAny (model X.prog X.w) X.A (exec st X.env) (SP X pins D) X.xe s
noncomputable def PSs (X:Cx) (st:List Stmt) (t:TS):Prop:=
 ∀ (pins:List (Addr×Obj)) (s:Shared) (σ:St) (H:Hp) (D:Ends),Inv X pins σ H s->t D σ H->wpAny (model X.prog X.w) X.A (execs st X.env) (SP X pins D) X.xe s
theorem bN {α:Type} {t:Sem α} {Q Q':α -> Shared->Prop} {M:Model} {A:Around} {E:Value->Shared->Prop} {s:Shared} (h:wpAny M A t Q E s) (hQ:∀ a s,Q a s->Q' a s):wpAny M A t Q' E s:=wpAny_mono h hQ fun _ _ x=>x
end L2
namespace L2
open PySem PySem.Spec PyProof.Rows
section
variable {X:Cx}
noncomputable def GF (i:Nat):TE:=fun σ H Q=>∃ v,σ[i]? = some (some v)/\Q v H
noncomputable def tC (v:V):TE:=fun _ H Q=>Q v H
theorem eG {i:Nat} {x:Str} {pos:Pos} (hN:X.N[i]? = some x) (hv:vt X.env.scope x) (hd:(x==("__debug__":Str))=false:=by decide) (hcd:(x==("__classdict__":Str))=false:=by decide):PE X (.Name x pos) (GF i):=by
 intro pins s σ H Q I h
 obtain ⟨v,e,h⟩:=h
 obtain ⟨m,hn,hl⟩:=I.loc
 obtain ⟨u,r,l⟩:=hl i x v hN e hv
 have fin:EP X pins σ Q u s:=⟨v,H,I,r,h⟩
 rcases l with ⟨hk,hm⟩ | ⟨hk,c,hc,hcell⟩
 ·exact wpAny_Name (wpAny_loadName_local I.ok.kind hk hn hm fin) hd
 ·rcases hk with hk | hk
  ·exact wpAny_Name (wpAny_loadName_cell I.ok.kind hk hc hcell fin) hd
  ·exact wpAny_Name (wpAny_loadName_free I.ok.kind hk hc hcell fin hcd) hd
theorem Cq {i j pos}:PE X (.Constant (.int i) j pos) (tC (.int i)):=fun _ _ _ H _ I h=>wpAny_Constant_int ⟨.int i,H,I.tok _,⟨_,rfl⟩,h⟩
theorem ES {b j pos}:PE X (.Constant (.bool b) j pos) (tC (.bl b)):=fun _ _ _ H _ I h=>Constant_bool ⟨.bl b,H,I,rfl,h⟩
theorem Cn {x j pos}:PE X (.Constant (.str x) j pos) (tC (.str x)):=fun _ _ _ H _ I h=>Calls.Constant_str ⟨.str x,H,I.tok _,⟨_,rfl⟩,h⟩
noncomputable def Gl (X:Cx) (x:Str):Prop:=X.env.kindOf x=some .globalImplicit
theorem Aa {E:Value->Shared->Prop} {pins:List (Addr×Obj)} {s:Shared} {σ:St} {H:Hp} {x:Str} {u:Value} {pos:Pos} {Q:Value->Shared->Prop} (I:Inv X pins σ H s) (hg:Gl X x) (hm:X.mg x=some u) (h:Q u s)
  (hd:(x==("__debug__":Str))=false:=by decide):wpAny (model X.prog X.w) X.A (eval (.Name x pos) X.env) Q E s:=
 Calls.Name_function_global I.ok.kind hg (Calls.loadGlobal_global (by rw [I.ok.glob]; exact I.mod.glob.keeps I.bk) hm h) hd
theorem fG {E:Value->Shared->Prop} {pins:List (Addr×Obj)} {s:Shared} {σ:St} {H:Hp} {x:Str} {u:Value} {pos:Pos} {Q:Value->Shared->Prop} (I:Inv X pins σ H s) (hg:Gl X x) (hm:X.mg x=none) (hv:bootBuiltins x=some u) (h:Q u s)
  (hn:x ≠ "__name__":=by decide) (hd:(x==("__debug__":Str))=false:=by decide):wpAny (model X.prog X.w) X.A (eval (.Name x pos) X.env) Q E s:=by
 obtain ⟨mb,h1,h2⟩:=I.mod.blt
 exact Calls.Name_function_global I.ok.kind hg (Calls.loadGlobal_builtin (by rw [I.ok.glob]; exact I.mod.glob.keeps I.bk) hm (by rw [I.ok.blt]; exact h1.keeps I.bk) ((h2 x hn).trans hv) h) hd
theorem zG {x:Str} {v:V} {u:Value} {pos:Pos} (hg:Gl X x) (hm:X.mg x=none) (hv:bootBuiltins x=some u) (r:RelV v u) (hn:x ≠ "__name__":=by decide) (hd:(x==("__debug__":Str))=false:=by decide):PE X (.Name x pos) (tC v):=
 fun _ _ _ H _ I h=>fG I hg hm hv ⟨v,H,I,r,h⟩ hn hd
variable {a b:Expr} {ta tb:TE} {pos:Pos}
noncomputable def tB (t:TE):TT:=fun σ H Q=>t σ H fun x H1=>∃ c,x=.bl c/\Q c H1
theorem Ce {e:Expr} {t:TE} (h:PE X e t) (he:∀ whole,isTrue e X.env whole=(do let v <- whole; standAt e.pos; holding [v] (truthy v)):=by intro _; rfl):PT X e (tB t):=by
 intro pins s σ H Q I hw
 refine isTrue_plain (bN (h pins s σ H _ I hw) fun v s1 ⟨x,H1,I1,r1,q1⟩=>?_) (he _)
 obtain ⟨d,rfl,q⟩:=q1
 cases r1
 exact wpAny_truthy_bool ⟨H1,I1,q⟩
variable {tA tB':TT} {rest:List Expr}
noncomputable def GQ (t u:TT):TT:=fun σ H Q=>t σ H fun c H1=>if c=true then u σ H1 Q else Q false H1
noncomputable def IS (t u:TT):TT:=fun σ H Q=>t σ H fun c H1=>if c=true then Q true H1 else u σ H1 Q
noncomputable def GK (t:TT):TT:=fun σ H Q=>t σ H fun c H1=>Q (!c) H1
theorem zo (ha:PT X a tA):PW X (.BoolOp .And [a] pos) tA:=by
 intro wh pins s σ H Q I h
 refine isTrue_and (bN (ha pins s σ H Q I h) fun c s1 e=>?_)
 cases c with
 | true=>exact isTrue_and_nil e
 | false=>exact e
theorem Ca (ha:PT X a tA):PW X (.BoolOp .Or [a] pos) tA:=by
 intro wh pins s σ H Q I h
 refine isTrue_or (bN (ha pins s σ H Q I h) fun c s1 e=>?_)
 cases c with
 | false=>exact isTrue_or_nil e
 | true=>exact e
theorem Cb (ha:PT X a tA) (hb:PW X (.BoolOp .And (b::rest) pos) tB'):PW X (.BoolOp .And (a::b::rest) pos) (GQ tA tB'):=by
 intro wh pins s σ H Q I h
 refine isTrue_and (bN (ha pins s σ H _ I h) fun c s1 ⟨H1,I1,q1⟩=>?_)
 cases c with
 | true=>exact hb wh pins s1 σ H1 Q I1 q1
 | false=>exact ⟨H1,I1,q1⟩
theorem EK (ha:PT X a tA) (hb:PW X (.BoolOp .Or (b::rest) pos) tB'):PW X (.BoolOp .Or (a::b::rest) pos) (IS tA tB'):=by
 intro wh pins s σ H Q I h
 refine isTrue_or (bN (ha pins s σ H _ I h) fun c s1 ⟨H1,I1,q1⟩=>?_)
 cases c with
 | true=>exact ⟨H1,I1,q1⟩
 | false=>exact hb wh pins s1 σ H1 Q I1 q1
theorem Cf (ha:PT X a tA):PT X (.UnaryOp .Not a pos) (GK tA):=by
 intro pins s σ H Q I h
 exact isTrue_not (ha pins s σ H (fun c H1=>Q (!c) H1) I h)
noncomputable def Eh (ta tb:TE):TE:=fun σ H Q=>ta σ H fun x H1=>∃ c,x=.bl c/\if c=true then tb σ H1 Q else Q (.bl false) H1
noncomputable def DZ (ta:TE):TE:=fun σ H Q=>ta σ H fun x H1=>∃ c,x=.bl c/\Q (.bl (!c)) H1
theorem Co {op} {t:TE} (h:PE X a t):PE X (.BoolOp op [a] pos) t:=fun pins s σ H Q I hw=>BoolOp_one (h pins s σ H Q I hw)
theorem Cr (ha:PE X a ta) (hb:PE X (.BoolOp .And (b::rest) pos) tb):PE X (.BoolOp .And (a::b::rest) pos) (Eh ta tb):=by
 intro pins s σ H Q I h
 refine BoolOp_and (bN (ha pins s σ H _ I h) fun v s1 ⟨x,H1,I1,r1,q1⟩=>?_)
 obtain ⟨c,rfl,q1⟩:=q1
 cases r1
 refine wpAny_truthy_bool ?_
 cases c with
 | true=>exact hb pins s1 σ H1 Q I1 q1
 | false=>exact ⟨.bl false,H1,I1,rfl,q1⟩
theorem Cp (ha:PE X a ta):PE X (.UnaryOp .Not a pos) (DZ ta):=by
 intro pins s σ H Q I h
 refine UnaryOp_ (bN (ha pins s σ H _ I h) fun v s1 ⟨x,H1,I1,r1,q1⟩=>?_)
 obtain ⟨c,rfl,q1⟩:=q1
 cases r1
 exact not_of (wpAny_truthy_bool ⟨.bl (!c),H1,I1,rfl,q1⟩)
noncomputable def IT (t:TT) (ta tb:TE):TE:=fun σ H Q=>t σ H fun c H1=>if c=true then ta σ H1 Q else tb σ H1 Q
theorem wD {c:Expr} (hc:PT X c tA) (ha:PE X a ta) (hb:PE X b tb):PE X (.IfExp c a b pos) (IT tA ta tb):=by
 intro pins s σ H Q I h
 refine wpAny_IfExp (bN (hc pins s σ H _ I h) fun d s1 ⟨H1,I1,q1⟩=>?_)
 cases d with
 | true=>exact ha pins s1 σ H1 Q I1 q1
 | false=>exact hb pins s1 σ H1 Q I1 q1
end
end L2
namespace L2
open PySem PySem.Spec PyProof.Rows
noncomputable def SqL (K:PySem.W.Frag) (H:Hp) (a:Addr) (xs:List V):Prop:=
 Rd H a (.lst xs) \/
  ∃ (o:Obj) (its:Array Value) (n:Nat),K.lookup a=some o/\o.cls=.type "list" /\ o.dict=none/\o.data=.seq its n/\its.size<=sizeLine/\Vals xs its.toList
noncomputable def SqT (K:PySem.W.Frag) (H:Hp) (a:Addr) (xs:List V):Prop:=
 Rd H a (.tup xs) \/
  ∃ (o:Obj) (its:Array Value) (n:Nat),K.lookup a=some o/\o.cls=.type "tuple" /\ o.data=.seq its n/\its.size<=sizeLine/\Vals xs its.toList/\o.dict=none
noncomputable def HR:Value->Option V
 | .none=>some .non
 | .bool b=>some (.bl b)
 | .int i _=>some (.int i)
 | .str x _=>some (.str x)
 | .bytes b _=>some (.byt b)
 | .float b _=>some (.flt b)
 | .ref a=>some (.ref a)
 | .type n=>some (.ty n)
 | _=>none
theorem RelV.abs {x:V} {u:Value} (r:RelV x u):HR u=some x:=by
 cases x with
 | non=>cases r; rfl
 | bl _=>cases r; rfl
 | int _=>obtain ⟨t,rfl⟩:=r; rfl
 | str _=>obtain ⟨t,rfl⟩:=r; rfl
 | byt _=>obtain ⟨t,rfl⟩:=r; rfl
 | flt _=>obtain ⟨t,rfl⟩:=r; rfl
 | ref _=>cases r; rfl
 | ty _=>cases r; rfl
theorem RelV.inj {x y:V} {u:Value} (r:RelV x u) (q:RelV y u):x=y:=Option.some.inj (r.abs.symm.trans q.abs)
theorem Vals.inj:∀ {xs ys:List V} {us:List Value},Vals xs us->Vals ys us->xs=ys
 | _,_,_,.nil,.nil=>rfl
 | _,_,_,.cons r t,.cons r' t'=>by rw [r.inj r',Vals.inj t t']
section
variable {X:Cx} {pins:List (Addr×Obj)} {σ:St} {H:Hp} {s:Shared} {a:Addr} {xs ys:List V}
theorem SqL.of {K:PySem.W.Frag} (h:H a=some (.lst xs)):SqL K H a xs:=.inl (.inl h)
theorem SqT.of {K:PySem.W.Frag} (h:H a=some (.tup xs)):SqT K H a xs:=.inl (.inl h)
theorem Inv.list (I:Inv X pins σ H s) (h:SqL X.K H a xs):∃ its:List Value,Vals xs its/\PlainL s.heap a its.toArray/\xs.length<=sizeLine:=by
 rcases h with h | ⟨o,its,n,hk,hc,hd,hs,hz,r⟩
 ·obtain ⟨z,its,n,r,e⟩:=h.ok I.hok
  exact ⟨its,r,⟨_,n,e,rfl,rfl,rfl⟩,z⟩
 ·refine ⟨its.toList,r,⟨o,n,I.kIn a o hk,hc,hd,by simpa using hs⟩,?_⟩
  have e:=r.length
  simp only [Array.length_toList] at e
  omega
theorem Inv.tuple (I:Inv X pins σ H s) (h:SqT X.K H a xs):∃ its:List Value,Vals xs its/\IsTup s.heap a its.toArray/\xs.length<=sizeLine:=by
 rcases h with h | ⟨o,its,n,hk,hc,hs,hz,r,hd⟩
 ·obtain ⟨z,its,r,p⟩:=h.ok I.hok
  exact ⟨its,r,p.1,z⟩
 ·refine ⟨its.toList,r,⟨o,I.kIn a o hk,hc,n,by simpa using hs⟩,?_⟩
  have e:=r.length
  simp only [Array.length_toList] at e
  omega
theorem Inv.noDi (I:Inv X pins σ H s) (h:SqT X.K H a xs):NoDi s.heap a:=by
 rcases h with h | ⟨o,its,n,hk,hc,hs,hz,r,hd⟩
 ·obtain ⟨z,its,r,p⟩:=h.ok I.hok
  exact p.2
 ·exact ⟨o,I.kIn a o hk,hd⟩
theorem Inv.list_inj (I:Inv X pins σ H s) (h:SqL X.K H a xs) (h':SqL X.K H a ys):xs=ys:=by
 obtain ⟨its,r,⟨o,n,e,_,_,d⟩,_⟩:=I.list h
 obtain ⟨its',r',⟨o',n',e',_,_,d'⟩,_⟩:=I.list h'
 rw [e] at e'; cases e'
 rw [d] at d'
 injection d' with d1 _
 have:its=its':=by simpa using congrArg Array.toList d1
 subst this
 exact r.inj r'
theorem Inv.tuple_inj (I:Inv X pins σ H s) (h:SqT X.K H a xs) (h':SqT X.K H a ys):xs=ys:=by
 obtain ⟨its,r,⟨o,e,_,n,d⟩,_⟩:=I.tuple h
 obtain ⟨its',r',⟨o',e',_,n',d'⟩,_⟩:=I.tuple h'
 rw [e] at e'; cases e'
 rw [d] at d'
 injection d' with d1 _
 have:its=its':=by simpa using congrArg Array.toList d1
 subst this
 exact r.inj r'
end
noncomputable abbrev Cx.wish (X:Cx) (E:Value->Shared->Prop):Cx:={ X with xe:=E }
noncomputable abbrev Cx.nox (X:Cx):Cx:=X.wish fun _ _=>False
theorem Cx.Ok.wish {X:Cx} (ok:X.Ok) (E:Value->Shared->Prop):(X.wish E).Ok:=
 ⟨ok.mod,ok.kind,ok.glob,ok.blt,ok.above,ok.inj,ok.has,ok.cab,ok.hd,ok.frames,ok.stk,ok.exf,ok.bs,ok.bsz,ok.noex,ok.exfs,ok.funs,ok.frf⟩
theorem Cx.Ok.unwish {X:Cx} {E:Value->Shared->Prop} (ok:(X.wish E).Ok):X.Ok:=
 ⟨ok.mod,ok.kind,ok.glob,ok.blt,ok.above,ok.inj,ok.has,ok.cab,ok.hd,ok.frames,ok.stk,ok.exf,ok.bs,ok.bsz,ok.noex,ok.exfs,ok.funs,ok.frf⟩
section
variable {X:Cx} {pins:List (Addr×Obj)} {σ:St} {H:Hp} {s:Shared} {E:Value->Shared->Prop}
theorem Inv.wish (I:Inv X pins σ H s) (E:Value->Shared->Prop):Inv (X.wish E) pins σ H s:=⟨I.ok.wish E,I.os,I.bare,I.base,I.loc,I.cell,I.free,I.freeC,I.pin,I.hok,I.len⟩
theorem Inv.unwish (I:Inv (X.wish E) pins σ H s):Inv X pins σ H s:=⟨I.ok.unwish,I.os,I.bare,I.base,I.loc,I.cell,I.free,I.freeC,I.pin,I.hok,I.len⟩
theorem SP.unwish {D:Ends} {f:Flow} {s':Shared} (h:SP (X.wish E) pins D f s'):SP X pins D f s':=by
 cases f with
 | next=>obtain ⟨σ',H',I,q⟩:=h; exact ⟨σ',H',I.unwish,q⟩
 | brk=>obtain ⟨σ',H',I,q⟩:=h; exact ⟨σ',H',I.unwish,q⟩
 | cont=>obtain ⟨σ',H',I,q⟩:=h; exact ⟨σ',H',I.unwish,q⟩
 | ret u=>obtain ⟨v,σ',H',I,r,q⟩:=h; exact ⟨v,σ',H',I.unwish,r,q⟩
theorem PE.nox {e:Expr} {t:TE} (h:PE X.nox e t):PE X e t:=fun pins s σ H Q I hw=>
 wpAny_mono (h pins s σ H Q (I.wish _) hw) (fun _ _ ⟨v,H',I',r,q⟩=>⟨v,H',I'.unwish,r,q⟩) fun _ _ z=>False.elim z
theorem PT.nox {e:Expr} {t:TT} (h:PT X.nox e t):PT X e t:=fun pins s σ H Q I hw=>
 wpAny_mono (h pins s σ H Q (I.wish _) hw) (fun _ _ ⟨H',I',q⟩=>⟨H',I'.unwish,q⟩) fun _ _ z=>False.elim z
theorem PSs.nox {st:List Stmt} {t:TS} (h:PSs X.nox st t):PSs X st t:=fun pins s σ H D I hw=>
 wpAny_mono (h pins s σ H D (I.wish _) hw) (fun _ _ q=>q.unwish) fun _ _ z=>False.elim z
end
section
variable {X:Cx} {st:Stmt} {rest:List Stmt} {t u:TS} {e:Expr} {te:TE} {pos:Pos}
noncomputable def Ea:TS:=fun D σ H=>D.nx σ H
noncomputable def GI (t u:TS):TS:=fun D σ H=>t { D with nx:=u D } σ H
theorem zt:PSs X [] Ea:=fun _ _ σ H _ I h=>wpAny_execs_nil ⟨σ,H,I,h⟩
theorem wn (h1:PS X st t) (h2:PSs X rest u):PSs X (st::rest) (GI t u):=by
 intro pins s σ H D I h
 refine wpAny_execs_cons (bN (h1 pins s σ H { D with nx:=u D } I h) fun f s1 q=>?_)
 cases f with
 | next=>
  obtain ⟨σ',H',I',q⟩:=q
  exact h2 pins s1 σ' H' D I' q
 | ret v=>exact q
 | brk=>exact q
 | cont=>exact q
theorem zr (h1:PS X st t):PSs X [st] t:=by
 intro pins s σ H D I h
 refine wpAny_execs_cons (bN (h1 pins s σ H D I h) fun f s1 q=>?_)
 cases f with
 | next=>exact wpAny_execs_nil q
 | ret v=>exact q
 | brk=>exact q
 | cont=>exact q
theorem Inv.quiet {pins:List (Addr×Obj)} {σ:St} {H:Hp} {s:Shared} (I:Inv X pins σ H s):interactive X.env=false:=by simp [interactive,I.ok.kind]
noncomputable def Ec (te:TE):TS:=fun D σ H=>te σ H fun _ H1=>D.nx σ H1
theorem sI (he:PE X e te) (hs:swapsWith e none pos.line X.env=pure false:=by rfl):PS X (.Expr e pos) (Ec te):=by
 intro pins s σ H D I h
 exact wpAny_Expr_any (bN (he pins s σ H _ I h) fun v s1 ⟨x,H1,I1,r1,q1⟩=>⟨σ,H1,I1,q1⟩) I.quiet hs
noncomputable def GJ (te:TE):TS:=fun D σ H=>te σ H D.rt
theorem Cg (he:PE X e te):PS X (.Return (some e) pos) (GJ te):=by
 intro pins s σ H D I h
 exact wpAny_Return_some (bN (he pins s σ H _ I h) fun v s1 ⟨x,H1,I1,r1,q1⟩=>⟨x,σ,H1,I1,r1,q1⟩)
noncomputable def GO (c:TT) (t u:TS):TS:=fun D σ H=>c σ H fun b H1=>if b=true then t D σ H1 else u D σ H1
theorem EN {c:Expr} {a b:List Stmt} {tc:TT} (hc:PT X c tc) (ha:PSs X a t) (hb:PSs X b u):PS X (.If c a b pos) (GO tc t u):=by
 intro pins s σ H D I h
 refine wpAny_If (bN (hc pins s σ H _ I h) fun d s1 ⟨H1,I1,q1⟩=>?_)
 cases d with
 | true=>exact ha pins s1 σ H1 D I1 q1
 | false=>exact hb pins s1 σ H1 D I1 q1
end
noncomputable abbrev TG:=V->St->Hp->(St->Hp->Prop)->Prop
noncomputable abbrev AJ:=List V->St->Hp->(St->Hp->Prop)->Prop
noncomputable def PG (X:Cx) (target:Expr) (t:TG):Prop:=
 ∀ (pins:List (Addr×Obj)) (s:Shared) (σ:St) (H:Hp) (v:V) (u:Value) (Q:St->Hp->Prop),Inv X pins σ H s->RelV v u->t v σ H Q ->
  wpAny (model X.prog X.w) X.A (assign target X.env u) (fun _ s'=>∃ σ' H',Inv X pins σ' H' s'/\Q σ' H') X.xe s
noncomputable def PGs (X:Cx) (ts:List Expr) (t:AJ):Prop:=
 ∀ (pins:List (Addr×Obj)) (s:Shared) (σ:St) (H:Hp) (vs:List V) (us:List Value) (Q:St->Hp->Prop),Inv X pins σ H s->Vals vs us->t vs σ H Q ->
  wpAny (model X.prog X.w) X.A (assignInOrder ((assignEach ts X.env).map (·.2)) us) (fun _ s'=>∃ σ' H',Inv X pins σ' H' s'/\Q σ' H') X.xe s
noncomputable abbrev DA:=V->V->V->Hp->(Hp->Prop)->Prop
noncomputable def F3 (X:Cx) (t:DA):Prop:=
 ∀ (pins:List (Addr×Obj)) (s:Shared) (σ:St) (H:Hp) (o i v:V) (ov iv u:Value) (Q:Hp->Prop),Inv X pins σ H s->RelV o ov->RelV i iv->RelV v u->t o i v H Q ->
  wpAny (model X.prog X.w) X.A (setItem ov iv u) (fun _ s'=>∃ H',Inv X pins σ H' s'/\Q H') X.xe s
section
variable {X:Cx} {pos:Pos}
noncomputable def xz (i:Nat):TG:=fun v σ H Q=>Q (σ.set i (some v)) H
theorem bg {i:Nat} {x:Str} (hN:X.N.Nodup) (hi:X.N[i]? = some x) (hx:vv X.env.scope x) (hf:X.fn x=true\/X.env.scope.names.lookup x=some .local:=by first | exact .inl rfl | exact .inr rfl | assumption):PG X (.Name x pos) (xz i):=by
 intro pins s σ H v u Q I r h
 exact wpAny_assign_Name (o7 I hN hi hx r (fun s' I'=>⟨_,H,I',h⟩) hf)
noncomputable def Hx:AJ:=fun vs σ H Q=>vs=[]/\Q σ H
noncomputable def FE (t:TG) (u:AJ):AJ:=fun vs σ H Q=>∃ v r,vs=v::r/\t v σ H fun σ' H'=>u r σ' H' Q
theorem zz:PGs X [] Hx:=by
 intro pins s σ H vs us Q I r h
 obtain ⟨e,h⟩:=h
 subst e
 cases r
 exact assignInOrder_nil ⟨σ,H,I,h⟩
theorem wy {e:Expr} {es:List Expr} {t:TG} {u:AJ} (h1:PG X e t) (h2:PGs X es u)
  (hs:(assignEach (e::es) X.env).map (·.2)=assign e X.env::(assignEach es X.env).map (·.2):=by rfl):PGs X (e::es) (FE t u):=by
 intro pins s σ H vs us Q I r h
 obtain ⟨v,vr,e1,h⟩:=h
 subst e1
 cases r with
 | cons r rr=>
  rw [hs]
  refine assignInOrder_cons (bN (h1 pins s σ H _ _ _ I r h) fun _ s1 ⟨σ1,H1,I1,q1⟩=>?_)
  exact h2 pins s1 σ1 H1 _ _ Q I1 rr q1
noncomputable def Ht (K:PySem.W.Frag) (n:Nat) (t:AJ):TG:=fun v σ H Q=>∃ a xs,v=.ref a/\SqT K H a xs/\xs.length=n/\t xs σ H Q
theorem Cj {es:List Expr} {k:Nat} {t:AJ} {n:Nat} (hc:X.calm=true) (h:PGs X es t)
  (hn:(assignEach es X.env).length=n:=by rfl) (hst:(assignEach es X.env).findIdx? (·.1)=none:=by rfl):PG X (.Tuple es k pos) (Ht X.K n t):=by
 intro pins s σ H v u Q I r hw
 obtain ⟨a,xs,e1,hq,hl,hw⟩:=hw
 subst e1
 cases r
 obtain ⟨its,rv,ht,hz⟩:=I.tuple hq
 refine assign_Tuple_tuple (I.ok.hd hc) ht (by simp [hn,<- hl,rv.length]) hst fun h' hx=>?_
 have I1:Inv X pins σ H { s with heap:=h' }:=I.kept (t':=s.toks) fun b o e=>hx b o (Nat.ne_of_lt (Heap.lt_size e)) e
 exact h pins _ σ H xs _ Q I1 (by simpa using rv) hw
noncomputable def Hw (to ti:TE) (t:DA):TG:=fun v σ H Q=>to σ H fun o H1=>ti σ H1 fun i H2=>t o i v H2 fun H3=>Q σ H3
theorem Ck {o i:Expr} {to ti:TE} {t:DA} (ho:PE X o to) (hi:PE X i ti) (hs:F3 X t)
  (ha:∀ v,assign (.Subscript o i pos) X.env v=(do
   let ov <- holding [v] (eval o X.env)
   let iv <- holding [v,ov] (eval i X.env)
   standAt pos
   holding [v,ov,iv] (setItem ov iv v)
   release [v,ov,iv] []):=by intro _; rfl):PG X (.Subscript o i pos) (Hw to ti t):=by
 intro pins s σ H v u Q I r h
 rw [ha]
 refine wpAny_bind (wpAny_holding (bN (ho pins s σ H _ I h) fun ov s1 ⟨x,H1,I1,r1,q1⟩=>?_))
 refine wpAny_bind (wpAny_holding (bN (hi pins s1 σ H1 _ I1 q1) fun iv s2 ⟨y,H2,I2,r2,q2⟩=>?_))
 refine wpAny_bind (wpAny_standAt (wpAny_bind (wpAny_holding (bN (hs pins s2 σ H2 x y v ov iv u _ I2 r1 r2 r q2) fun _ s3 ⟨H3,I3,q3⟩=>?_))))
 exact wpAny_release ⟨σ,H3,I3,q3⟩
noncomputable def Eg (te:TE) (g:TG):TS:=fun D σ H=>te σ H fun x H1=>g x σ H1 D.nx
theorem wu {tg e:Expr} {te:TE} {g:TG} (he:PE X e te) (hg:PG X tg g) (hs:swapsWithSole [tg] e pos.line X.env=pure false:=by rfl) (hw:swappedStores [tg] e X.env=pure none:=by rfl)
  (h1:(assignEach [tg] X.env).map (·.2)=[assign tg X.env]:=by rfl):PS X (.Assign [tg] e pos) (Eg te g):=by
 intro pins s σ H D I h
 refine wpAny_Assign_stores (bN (he pins s σ H _ I h) fun v s1 ⟨x,H1,I1,r1,q1⟩=>?_) hs hw
 rw [h1]
 exact bN (hg pins s1 σ H1 x v _ I1 r1 q1) fun _ s2 q=>q
theorem nI {i:Nat} {x:Str} {e:Expr} {te:TE} {pos':Pos} (hN:X.N.Nodup) (hi:X.N[i]? = some x) (hx:vv X.env.scope x) (he:PE X e te) (hs:swapsWith e (some (.Name x pos')) pos.line X.env=pure false:=by rfl) (hf:X.fn x=true\/X.env.scope.names.lookup x=some .local:=by first | exact .inl rfl | exact .inr rfl | assumption) :
  PS X (.Assign [.Name x pos'] e pos) (Eg te (xz i)):=by
 intro pins s σ H D I h
 refine wpAny_Assign_Name (bN (he pins s σ H _ I h) fun v s1 ⟨y,H1,I1,r1,q1⟩=>?_) hs
 exact o7 I1 hN hi hx r1 (fun s2 I2=>⟨_,H1,I2,q1⟩) hf
end
section
variable {X:Cx} {pos:Pos}
noncomputable def BC (c:TT) (tb:TS):TS:=fun D σ H=>∃ W:Nat->St->Hp->Prop,(∃ m,W m σ H)/\∀ m σ H,W m σ H ->
 c σ H fun b H1=>if b=true then ∃ N:St->Hp->Prop,(∀ σ' H',N σ' H'->∃ m',m'<m/\W m' σ' H')/\tb { D with nx:=N,ct:=N,bk:=D.nx } σ H1 else D.nx σ H1
theorem wq {c:Expr} {body:List Stmt} {tc:TT} {tb:TS} (hp:PassesOwn (model X.prog X.w) X.A X.env X.xe) (hc:PT X c tc) (hb:PSs X body tb):PS X (.While c body [] pos) (BC tc tb):=by
 intro pins s σ H D I h
 obtain ⟨W,⟨m0,w0⟩,turn⟩:=h
 refine wpAny_While (codeAny_whileLoop (fun n s'=>∃ σ' H',Inv X pins σ' H' s'/\W n σ' H') ?_ m0 ⟨σ,H,I,w0⟩)
 rintro n s1 ⟨σ1,H1,I1,w1⟩
 refine wpAny_passesOwn hp (bN (hc pins s1 σ1 H1 _ I1 (turn n σ1 H1 w1)) fun b s2 ⟨H2,I2,q2⟩=>?_)
 cases b with
 | true=>
  obtain ⟨N,hN,q2⟩:=q2
  rw [if_pos rfl]
  refine wpAny_passesOwn hp (bN (hb pins s2 σ1 H2 _ I2 q2) fun f s3 q3=>?_)
  cases f with
  | next=>
   obtain ⟨σ3,H3,I3,n3⟩:=q3
   obtain ⟨m',hm,w3⟩:=hN σ3 H3 n3
   exact ⟨m',hm,σ3,H3,I3,w3⟩
  | cont=>
   obtain ⟨σ3,H3,I3,n3⟩:=q3
   obtain ⟨m',hm,w3⟩:=hN σ3 H3 n3
   exact ⟨m',hm,σ3,H3,I3,w3⟩
  | brk=>exact q3
  | ret v=>exact q3
 | false=>
  rw [if_neg Bool.false_ne_true]
  exact wpAny_execs_nil ⟨σ1,H2,I2,q2⟩
end
structure It where
 go:Nat->Hp->Prop
 yld:Nat->Hp->V->Hp->Prop
 stop:Nat->Hp->Prop
noncomputable def gH (X:Cx) (pins:List (Addr×Obj)) (H:Hp) (b:Addr):Prop:=
 H b=none/\b≠X.env.locals/\b ∉ X.fs/\(b∈X.ex\/X.s₀.heap.objs.size<=b)/\(∀ x c,X.env.cells.lookup x=some c->c≠b)/\∀ p∈X.pn++pins,p.1≠b
theorem Inv.fpOk {X:Cx} {pins:List (Addr×Obj)} {σ:St} {H H':Hp} {s:Shared} {b:Addr} (I:Inv X pins σ H s) (hb:s.heap.objs.size<=b) (hn:H' b=none):gH X pins H' b:=by
 refine ⟨hn,Nat.ne_of_gt (Nat.lt_of_lt_of_le I.lt hb),I.nofs hb,.inr (Nat.le_trans I.sz hb),fun x c e z=>?_,fun p hp z=>?_⟩
 ·obtain ⟨v,q⟩:=I.cell x c e
  exact absurd (Nat.lt_of_lt_of_le q.lt (by rw [z]; exact hb)) (Nat.lt_irrefl _)
 ·exact absurd (Nat.lt_of_lt_of_le (Heap.lt_size (I.pin p hp).1) (by rw [z]; exact hb)) (Nat.lt_irrefl _)
structure TurnG (Cm:Cx->Prop) (P:Program) (w:World) (K:PySem.W.Frag) (tg:Expr) (J:It) (fp:List Addr) (it:Addr) (tn:Nat->Heap->Prop):Prop where
 mem:it∈fp
 obj:∀ i h,tn i h->∀ b∈fp,∃ o,h.get? b=some o/\∀ v,o.data≠.cell v
 keep:∀ i h h',tn i h->(∀ b∈fp,∀ o,h.get? b=some o->h'.get? b=some o)->tn i h'
 item:∀ (X:Cx),X.prog=P->X.w=w->X.K=K->Cm X->∀ (i:Nat) (pins:List (Addr×Obj)) (s:Shared) (σ:St) (H:Hp) (E:Value->Shared->Prop),Inv X pins σ H s->(∀ b∈fp,gH X pins H b)->tn i s.heap->J.go i H ->
  wpAny (model P w) X.A (pyNext (.ref it)) (fun r s1=>∃ u,r=some u /\
   wpAny (model P w) X.A (letOwnedTupleGo tg (.ref it) u) (fun _ s2=>∃ x H',Inv X pins σ H' s2/\RelV x u/\J.yld i H x H'/\tn (i+1) s2.heap/\∀ b∈fp,H' b=none) E s1) E s
 done:∀ (X:Cx),X.prog=P->X.w=w->X.K=K->Cm X->∀ (i:Nat) (pins:List (Addr×Obj)) (s:Shared) (σ:St) (H:Hp) (E:Value->Shared->Prop),Inv X pins σ H s->(∀ b∈fp,gH X pins H b)->tn i s.heap->J.stop i H ->
  wpAny (model P w) X.A (pyNext (.ref it)) (fun r s1=>r=none/\Inv X pins σ H s1) E s
 self:∀ (A:Around) (i:Nat) (s:Shared) (Q:Value->Shared->Prop) (E:Value->Shared->Prop),tn i s.heap->Q (.ref it) s->wpAny (model P w) A (pyIter (.ref it)) Q E s
noncomputable abbrev yl (P:Program) (w:World) (K:PySem.W.Frag) (tg:Expr) (J:It) (fp:List Addr) (it:Addr) (tn:Nat->Heap->Prop):Prop:=TurnG (fun X=>X.calm=true) P w K tg J fp it tn
noncomputable abbrev TI:=St->Hp->(It->Hp->Prop)->Prop
noncomputable def IG (X:Cx) (pins:List (Addr×Obj)) (σ:St) (tg:Expr) (R:It->Hp->Prop) (itv:Value) (s2:Shared):Prop:=
 ∃ (it:Addr) (fp:List Addr) (tn:Nat->Heap->Prop) (J:It) (H':Hp),itv=.ref it/\Inv X pins σ H' s2/\yl X.prog X.w X.K tg J fp it tn/\tn 0 s2.heap/\(∀ b∈fp,gH X pins H' b)/\R J H'
noncomputable def PI (X:Cx) (tg iter:Expr) (wi:TI):Prop:=
 ∀ (pins:List (Addr×Obj)) (s:Shared) (σ:St) (H:Hp) (R:It->Hp->Prop),Inv X pins σ H s->wi σ H R ->
  wpAny (model X.prog X.w) X.A (eval iter X.env) (fun v s1=>wpAny (model X.prog X.w) X.A (pyIter v) (IG X pins σ tg R) X.xe s1) X.xe s
theorem xv {M:Model} {A:Around} {E:Value->Shared->Prop} {s:Shared} {tg:Expr} {it:Addr} {u:Value} {o:Obj} {n:String} {vs:Array Value} {Q:Unit->Shared->Prop} (ho:s.heap.get? it=some o) (hc:o.cls=.type n) (hd:o.data=.fields vs)
  (hn:["enumerate","zip","dict_itemiterator","dict_reverseitemiterator","odict_iterator","itertools.zip_longest","itertools.pairwise"].contains n=false) (hQ:Q () s):wpAny M A (letOwnedTupleGo tg (.ref it) u) Q E s:=by
 unfold letOwnedTupleGo
 cases tg <;> first
  | exact wpAny_pure hQ
  | (cases u <;> first
    | exact wpAny_pure hQ
    | (refine wpAny_bind (wpAny_load ho ?_)
       rw [hc,hd]
       show wpAny M A (if (["enumerate","zip","dict_itemiterator","dict_reverseitemiterator","odict_iterator","itertools.zip_longest","itertools.pairwise"].contains n&&vs[0]? == some (rawInt _))=true then _ else _) Q E s
       rw [if_neg (by intro h; rw [hn,Bool.false_and] at h; cases h)]
       exact wpAny_pure hQ))
noncomputable def IJ (K:PySem.W.Frag) (a:Addr):It:=
 ⟨fun i H=>∃ xs x,SqL K H a xs/\xs[i]? = some x,fun i H x H'=>H'=H/\∀ xs,SqL K H a xs->xs[i]? = some x,fun i H=>∃ xs,SqL K H a xs/\xs.length<=i⟩
noncomputable def II (K:PySem.W.Frag) (a:Addr):It:=
 ⟨fun i H=>∃ xs x,SqT K H a xs/\xs[i]? = some x,fun i H x H'=>H'=H/\∀ xs,SqT K H a xs->xs[i]? = some x,fun i H=>∃ xs,SqT K H a xs/\xs.length<=i⟩
noncomputable def DO (lo:Int) (n:Nat):It:=⟨fun i _=>i<n,fun i H x H'=>H'=H/\x=.int (lo+i),fun i _=>n<=i⟩
theorem ug {P:Program} {w:World} {K:PySem.W.Frag} {tg:Expr} (a it:Addr):yl P w K tg (IJ K a) [it] it (fun i h=>h.IsListIter it a i) where
 mem:=by simp
 obj:=fun i h st b hb=>by
  have e:b=it:=by simpa using hb
  subst e
  obtain ⟨o,e,c,d⟩:=st
  exact ⟨o,e,fun v z=>by rw [d] at z; cases z⟩
 keep:=fun i h h' st k=>st.at fun o e=>k it (by simp) o e
 item:=by
  intro X hP hw hK hc i pins s σ H E I hf st hg
  subst hP hw hK
  obtain ⟨xs,x,hq,hx⟩:=hg
  obtain ⟨its,rv,p,hz⟩:=I.list hq
  obtain ⟨u,hu,ru⟩:=rv.get hx
  obtain ⟨f0,f1,f2,f3,f4,f5⟩:=hf it (by simp)
  refine wpAny_pyNext_list_item st p.isList (x:=u) (by simpa using hu) fun h' st' sb=>?_
  have I1:Inv X pins σ H { s with heap:=h' }:=I.turned (t':=s.toks) (fun b o hb e=>(sb.2 b hb).trans e) f0 f1 f3 f4 f5
  obtain ⟨o,e,c,d⟩:=id st'
  exact ⟨u,rfl,xv (s:={ s with heap:=h' }) e c d (by decide) ⟨x,H,I1,ru,⟨rfl,fun ys hy=>by rw [I.list_inj hy hq]; exact hx⟩,st',fun b hb=>(hf b hb).1⟩⟩
 done:=by
  intro X hP hw hK hc i pins s σ H E I hf st hg
  subst hP hw hK
  obtain ⟨xs,hq,hx⟩:=hg
  obtain ⟨its,rv,p,hz⟩:=I.list hq
  obtain ⟨f0,f1,f2,f3,f4,f5⟩:=hf it (by simp)
  have hl:=rv.length
  exact wpAny_pyNext_list_end (I.ok.hd hc) st p.isList (by simp; omega) fun h' eb=>⟨rfl,I.turned (t':=s.toks) (fun b o hb e=>eb b o hb e) f0 f1 f3 f4 f5⟩
 self:=fun _ _ _ _ _ st h=>wpAny_pyIter_listiter st h
theorem qD {P:Program} {w:World} {K:PySem.W.Frag} {tg:Expr} (a it:Addr):yl P w K tg (II K a) [it] it (fun i h=>h.IsTupleIter it a i) where
 mem:=by simp
 obj:=fun i h st b hb=>by
  have e:b=it:=by simpa using hb
  subst e
  obtain ⟨o,e,c,d⟩:=st
  exact ⟨o,e,fun v z=>by rw [d] at z; cases z⟩
 keep:=fun i h h' st k=>st.at fun o e=>k it (by simp) o e
 item:=by
  intro X hP hw hK hc i pins s σ H E I hf st hg
  subst hP hw hK
  obtain ⟨xs,x,hq,hx⟩:=hg
  obtain ⟨its,rv,p,hz⟩:=I.tuple hq
  obtain ⟨u,hu,ru⟩:=rv.get hx
  obtain ⟨f0,f1,f2,f3,f4,f5⟩:=hf it (by simp)
  refine wpAny_pyNext_tuple_item st (show s.heap.IsTuple a its.toArray from p) (x:=u) (by simpa using hu) fun h' st' sb=>?_
  have I1:Inv X pins σ H { s with heap:=h' }:=I.turned (t':=s.toks) (fun b o hb e=>(sb.2 b hb).trans e) f0 f1 f3 f4 f5
  obtain ⟨o,e,c,d⟩:=id st'
  exact ⟨u,rfl,xv (s:={ s with heap:=h' }) e c d (by decide) ⟨x,H,I1,ru,⟨rfl,fun ys hy=>by rw [I.tuple_inj hy hq]; exact hx⟩,st',fun b hb=>(hf b hb).1⟩⟩
 done:=by
  intro X hP hw hK hc i pins s σ H E I hf st hg
  subst hP hw hK
  obtain ⟨xs,hq,hx⟩:=hg
  obtain ⟨its,rv,p,hz⟩:=I.tuple hq
  obtain ⟨f0,f1,f2,f3,f4,f5⟩:=hf it (by simp)
  have hl:=rv.length
  exact wpAny_pyNext_tuple_end (I.ok.hd hc) st (show s.heap.IsTuple a its.toArray from p) (by simp; omega) fun h' eb=>⟨rfl,I.turned (t':=s.toks) (fun b o hb e=>eb b o hb e) f0 f1 f3 f4 f5⟩
 self:=fun _ _ _ _ _ st h=>wpAny_pyIter_tupleiter st h
theorem qE {P:Program} {w:World} {K:PySem.W.Frag} {tg:Expr} (it:Addr) (lo:Int) (n:Nat):yl P w K tg (DO lo n) [it] it (fun i h=>IsRangeIter h it (lo+(i:Nat)*1) ((n:Int)-(i:Nat)) 1) where
 mem:=by simp
 obj:=fun i h st b hb=>by
  have e:b=it:=by simpa using hb
  subst e
  exact ⟨_,st,fun v z=>by
   have z':Data.fields _=Data.cell v:=z
   cases z'⟩
 keep:=fun i h h' st k=>k it (by simp) _ st
 item:=by
  intro X hP hw hK hc i pins s σ H E I hf st hg
  subst hP hw hK
  obtain ⟨f0,f1,f2,f3,f4,f5⟩:=hf it (by simp)
  have W:=Walks.range (prog:=X.prog) (w:=X.w) (I.ok.hd hc) it lo 1 n
  refine W.item i s _ _ hg st fun v h' tk hv st' kk=>?_
  obtain ⟨t,rfl⟩:=hv
  have I1:Inv X pins σ H { s with heap:=h',toks:=tk }:=I.turned (fun b o hb e=>kk b o (by simpa using hb) e) f0 f1 f3 f4 f5
  refine ⟨_,rfl,xv (s:={ s with heap:=h',toks:=tk }) (n:="range_iterator") st' rfl rfl (by decide) ⟨.int (lo+i),H,I1,⟨t,?_⟩,⟨rfl,rfl⟩,st',fun b hb=>(hf b hb).1⟩⟩
  rw [Int.mul_one]
 done:=by
  intro X hP hw hK hc i pins s σ H E I hf st hg
  subst hP hw hK
  obtain ⟨f0,f1,f2,f3,f4,f5⟩:=hf it (by simp)
  exact wpAny_pyNext_range_end (I.ok.hd hc) st (by have:n<=i:=hg; omega) fun h' eb=>⟨rfl,I.turned (t':=s.toks) (fun b o hb e=>eb b o hb e) f0 f1 f3 f4 f5⟩
 self:=fun _ _ _ _ _ st h=>wpAny_pyIter_rangeiter st h
end L2
namespace L2
open PySem PySem.Spec PyProof.Rows
section
variable {X:Cx} {tg:Expr}
noncomputable def Fx (K:PySem.W.Frag) (tl:TE):TI:=fun σ H R=>tl σ H fun x H1=>∃ a,x=.ref a/\(∃ xs,SqL K H1 a xs)/\R (IJ K a) H1
noncomputable def Ho (K:PySem.W.Frag) (tl:TE):TI:=fun σ H R=>tl σ H fun x H1=>∃ a,x=.ref a/\(∃ xs,SqT K H1 a xs)/\R (II K a) H1
theorem zy {l:Expr} {tl:TE} (hl:PE X l tl):PI X tg l (Fx X.K tl):=by
 intro pins s σ H R I h
 refine bN (hl pins s σ H _ I h) fun v s1 ⟨x,H1,I1,r1,q1⟩=>?_
 obtain ⟨a,e,⟨xs,hq⟩,q⟩:=q1
 subst e
 cases r1
 obtain ⟨its,rv,p,hz⟩:=I1.list hq
 refine wpAny_pyIter_list p.isList ?_
 refine ⟨s1.heap.objs.size,[s1.heap.objs.size],_,_,H1,rfl,I1.kept (t':=s1.toks) fun b o e=>Heap.get?_push_of_some _ e,ug a _,⟨_,Heap.get?_push_size _ rfl,rfl,rfl⟩,fun b hb=>?_,q⟩
 have e:b=s1.heap.objs.size:=by simpa using hb
 subst e
 exact I1.fpOk (Nat.le_refl _) (I1.hok.fresh (Nat.le_refl _))
theorem Ci {l:Expr} {tl:TE} (hl:PE X l tl):PI X tg l (Ho X.K tl):=by
 intro pins s σ H R I h
 refine bN (hl pins s σ H _ I h) fun v s1 ⟨x,H1,I1,r1,q1⟩=>?_
 obtain ⟨a,e,⟨xs,hq⟩,q⟩:=q1
 subst e
 cases r1
 obtain ⟨its,rv,p,hz⟩:=I1.tuple hq
 refine wpAny_pyIter_tuple (show s1.heap.IsTuple a its.toArray from p) ?_
 refine ⟨s1.heap.objs.size,[s1.heap.objs.size],_,_,H1,rfl,I1.kept (t':=s1.toks) fun b o e=>Heap.get?_push_of_some _ e,qD a _,⟨_,Heap.get?_push_size _ rfl,rfl,rfl⟩,fun b hb=>?_,q⟩
 have e:b=s1.heap.objs.size:=by simpa using hb
 subst e
 exact I1.fpOk (Nat.le_refl _) (I1.hok.fresh (Nat.le_refl _))
theorem wj {pins:List (Addr×Obj)} {σ:St} {H:Hp} {s:Shared} {R:It->Hp->Prop} {E:Value->Shared->Prop} {lo hi:Int} {t u v:Tok} {tk:Nat} (I:Inv X pins σ H s) (h1:-(2 ^ 62)<=lo) (h2:lo<2 ^ 62) (h3:-(2 ^ 62)<=hi) (h4:hi<2 ^ 62)
  (q:R (DO lo (hi-lo).toNat) H):wpAny (model X.prog X.w) X.A (pyIter (.ref s.heap.objs.size)) (IG X pins σ tg R) E { s with heap:=s.heap.push { cls:=.type "range",data:=.fields #[.int lo t,.int hi u,.int 1 v] },toks:=tk }:=by
 refine wpAny_pyIter_range (IsRange.new ..) (small_one h1 h2 h3 h4) ?_
 have I1:Inv X pins σ H { s with heap:=s.heap.push { cls:=.type "range",data:=.fields #[.int lo t,.int hi u,.int 1 v] },toks:=tk }:=I.kept fun b o e=>Heap.get?_push_of_some _ e
 refine ⟨(s.heap.push { cls:=.type "range",data:=.fields #[.int lo t,.int hi u,.int 1 v] }).objs.size,[(s.heap.push { cls:=.type "range",data:=.fields #[.int lo t,.int hi u,.int 1 v] }).objs.size],_,_,H,rfl,
  I1.kept (t':=tk) fun b o e=>Heap.get?_push_of_some _ e,qE _ lo (hi-lo).toNat,?_,fun b hb=>?_,q⟩
 ·have e1:lo+((0:Nat):Int)*1=lo:=by simp
  have e2:(((hi-lo).toNat:Nat):Int)-((0:Nat):Int)=Builtin.Range.rangeSize lo hi 1:=by rw [rangeSize_one]; split <;> omega
  show IsRangeIter _ _ (lo+((0:Nat):Int)*1) ((((hi-lo).toNat:Nat):Int)-((0:Nat):Int)) 1
  rw [e1,e2]
  exact Heap.get?_push_size _ rfl
 ·have e:b=(s.heap.push { cls:=.type "range",data:=.fields #[.int lo t,.int hi u,.int 1 v] }).objs.size:=by simpa using hb
  subst e
  exact I1.fpOk (Nat.le_refl _) (I1.hok.fresh (Nat.le_refl _))
noncomputable def Fw (ta:TA):TI:=fun σ H R=>ta σ H fun vs H1=>∃ j:Int,vs=[.int j] /\ -(2 ^ 62)<=j/\j<2 ^ 62/\R (DO 0 j.toNat) H1
theorem uE {a:Expr} {ta:TA} {p pos:Pos} (hg:Gl X "range") (hm:X.mg "range" = none) (ha:PA X [a] ta) (hs:starEach [a] X.env=[(false,eval a X.env)]:=by rfl):PI X tg (.Call (.Name "range" p) [a] [] pos) (Fw ta):=by
 intro pins s σ H R I h
 refine Call_ (fG I hg hm boot_range (PyProof.Rows.callWith_type1 (bN (ha pos pins s σ H _ I h) fun us s1 ⟨vs,H1,I1,r1,q1⟩=>?_) hs rfl))
 obtain ⟨j,e,q1,q2,q⟩:=q1
 subst e
 cases r1 with
 | cons r rr=>
  cases rr
  obtain ⟨t,rfl⟩:=r
  exact call_range_1 (wj I1 (by omega) (by omega) q1 q2 (by simpa using q))
noncomputable def GP (wi:TI) (g:TG) (tb:TS):TS:=fun D σ H=>wi σ H fun J H1=>∃ W:Nat->Nat->St->Hp->Prop,(∃ m,W 0 m σ H1)/\∀ i m σ H,W i m σ H ->
 (J.stop i H/\D.nx σ H)\/(J.go i H/\∃ N:St->Hp->Prop,(∀ σ' H',N σ' H'->∃ m',m'<m/\W (i+1) m' σ' H')/\∀ x H',J.yld i H x H'->g x σ H' fun σ2 H2=>tb { D with nx:=N,ct:=N,bk:=D.nx } σ2 H2)
noncomputable def nJ (fp:List Addr) (h:Heap):List (Addr×Obj):=fp.filterMap fun b=>(h.get? b).map fun o=>(b,o)
theorem b9 {fp:List Addr} {h:Heap} {b:Addr} {o:Obj} (hb:b∈fp) (e:h.get? b=some o):(b,o)∈nJ fp h:=List.mem_filterMap.mpr ⟨b,hb,by rw [e]; rfl⟩
theorem uH {fp:List Addr} {h:Heap} {p:Addr×Obj} (hp:p∈nJ fp h):p.1∈fp/\h.get? p.1=some p.2:=by
 obtain ⟨b,hb,e⟩:=List.mem_filterMap.mp hp
 cases q:h.get? b with
 | none=>rw [q] at e; cases e
 | some o=>
  rw [q] at e
  have e':(b,o)=p:=Option.some.inj e
  subst e'
  exact ⟨hb,q⟩
theorem Inv.pinned {pins:List (Addr×Obj)} {σ:St} {H:Hp} {s:Shared} {fp:List Addr} (I:Inv X pins σ H s) (hf:∀ b∈fp,gH X pins H b) (ho:∀ b∈fp,∃ o,s.heap.get? b=some o/\∀ v,o.data≠.cell v):Inv X (pins++nJ fp s.heap) σ H s:=
 I.pins_of fun p hp=>(List.mem_append.mp hp).elim (fun z=>I.pin p (List.mem_append_right _ z)) fun z=>by
  obtain ⟨hb,e⟩:=uH z
  obtain ⟨f0,f1,f2,_⟩:=hf p.1 hb
  obtain ⟨o,e',d⟩:=ho p.1 hb
  rw [e] at e'; cases e'
  exact ⟨e,f0,f1,f2,d⟩
theorem Inv.unpinned {pins pl:List (Addr×Obj)} {σ:St} {H:Hp} {s:Shared} (I:Inv X (pins++pl) σ H s):Inv X pins σ H s:=I.pins_of fun p hp=>I.pin p (List.mem_append_right _ (List.mem_append_left _ hp))
theorem Ch {iter:Expr} {body:List Stmt} {wi:TI} {g:TG} {tb:TS} {pos:Pos} (hp:PassesOwn (model X.prog X.w) X.A X.env X.xe) (hc:X.calm=true) (hi:PI X tg iter wi) (hg:PG X tg g) (hb:PSs X body tb)
  (hs:∀ x,foldedSetIterable iter X.env x=pure x:=by intro _; rfl):PS X (.For tg iter body [] pos) (GP wi g tb):=by
 intro pins s σ H D I h
 refine wpAny_For (bN (hi pins s σ H _ I h) fun v s1 h1=>bN h1 fun itv s2 h2=>?_) hs
 obtain ⟨it,fp,tn,J,H2,e,I2,T,st2,f2,W,⟨m0,w0⟩,turn⟩:=h2
 subst e
 have stat:∀ {H':Hp},(∀ b∈fp,H' b=none)->∀ b∈fp,gH X pins H' b:=fun hn b hb=>⟨hn b hb,(f2 b hb).2⟩
 refine codeAny_forLoop_any (fun n s'=>∃ i σ' H',Inv X pins σ' H' s'/\tn i s'.heap/\(∀ b∈fp,H' b=none)/\W i n σ' H') ?_ m0 ⟨0,σ,H2,I2,st2,fun b hb=>(f2 b hb).1,w0⟩
 rintro n s3 ⟨i,σ3,H3,I3,st3,fr3,w3⟩
 rcases turn i n σ3 H3 w3 with ⟨stop,qn⟩ | ⟨go,N,hN,step⟩
 ·refine wpAny_passesOwn hp (bN (T.done X rfl rfl rfl hc i pins s3 σ3 H3 X.xe I3 (stat fr3) st3 stop) fun r s4 ⟨hr,I4⟩=>?_)
  subst hr
  exact wpAny_execs_nil ⟨σ3,H3,I4,qn⟩
 ·refine wpAny_passesOwn hp (bN (T.item X rfl rfl rfl hc i pins s3 σ3 H3 X.xe I3 (stat fr3) st3 go) fun r s4 ⟨u,hr,h4⟩=>?_)
  subst hr
  refine wpAny_passesOwn hp (bN h4 fun _ s5 ⟨x,H5,I5,r5,y5,st5,fr5⟩=>?_)
  have I5':=I5.pinned (stat fr5) (T.obj _ _ st5)
  refine wpAny_passesOwn hp (bN (hg _ s5 σ3 H5 x u _ I5' r5 (step x H5 y5)) fun _ s6 ⟨σ6,H6,I6,q6⟩=>?_)
  refine wpAny_passesOwn hp (bN (hb _ s6 σ6 H6 _ I6 q6) fun f s7 q7=>?_)
  have again:∀ {σ7:St} {H7:Hp},Inv X (pins++nJ fp s5.heap) σ7 H7 s7->N σ7 H7->∃ m,m<n/\∃ i σ' H',Inv X pins σ' H' s7/\tn i s7.heap/\(∀ b∈fp,H' b=none)/\W i m σ' H':=fun {σ7 H7} I7 n7=>by
   obtain ⟨m',hm,w7⟩:=hN σ7 H7 n7
   refine ⟨m',hm,i+1,σ7,H7,I7.unpinned,T.keep _ _ _ st5 fun b hb o e=>(I7.pin (b,o) (List.mem_append_right _ (List.mem_append_right _ (b9 hb e)))).1,fun b hb=>?_,w7⟩
   obtain ⟨o,e,d⟩:=T.obj _ _ st5 b hb
   exact (I7.pin (b,o) (List.mem_append_right _ (List.mem_append_right _ (b9 hb e)))).2.1
  cases f with
  | next=>obtain ⟨σ7,H7,I7,n7⟩:=q7; exact again I7 n7
  | cont=>obtain ⟨σ7,H7,I7,n7⟩:=q7; exact again I7 n7
  | brk=>obtain ⟨σ7,H7,I7,q7⟩:=q7; exact ⟨σ7,H7,I7.unpinned,q7⟩
  | ret v=>obtain ⟨x7,σ7,H7,I7,r7,q7⟩:=q7; exact ⟨x7,σ7,H7,I7.unpinned,r7,q7⟩
end
end L2
namespace L2
open PySem PySem.Spec PyProof.Rows
noncomputable abbrev R2:=V->V->Hp->VK->Prop
noncomputable def OpR (X:Cx) (f:Value->Value->Sem Value) (r:R2):Prop:=
 ∀ (pins:List (Addr×Obj)) (s:Shared) (σ:St) (H:Hp) (x y:V) (v u:Value) (Q:VK),Inv X pins σ H s->RelV x v->RelV y u->r x y H Q ->
  wpAny (model X.prog X.w) X.A (f v u) (EP X pins σ Q) X.xe s
noncomputable def FZ (X:Cx) (f:Value->Sem Value) (r:V->Hp->VK->Prop):Prop:=
 ∀ (pins:List (Addr×Obj)) (s:Shared) (σ:St) (H:Hp) (x:V) (v:Value) (Q:VK),Inv X pins σ H s->RelV x v->r x H Q ->
  wpAny (model X.prog X.w) X.A (f v) (EP X pins σ Q) X.xe s
noncomputable def CallR (X:Cx) (f:Value) (r:List V->Hp->VK->Prop):Prop:=
 ∀ (pins:List (Addr×Obj)) (s:Shared) (σ:St) (H:Hp) (xs:List V) (us:List Value) (Q:VK),Inv X pins σ H s->Vals xs us->r xs H Q ->
  wpAny (model X.prog X.w) X.A (call f us) (EP X pins σ Q) X.xe s
noncomputable def DY (r:R2) (ta tb:TE):TE:=fun σ H Q=>ta σ H fun x H1=>tb σ H1 fun y H2=>r x y H2 Q
noncomputable def IQ (r:V->Hp->VK->Prop) (ta:TE):TE:=fun σ H Q=>ta σ H fun x H1=>r x H1 Q
noncomputable def rI (C:Int->Int->Prop) (g:Int->Int->V):R2:=fun x y H Q=>∃ i j,x=.int i/\y=.int j/\C i j/\Q (g i j) H
noncomputable def wk (g:Int->Int->V):R2:=fun x y H Q=>∃ i j,x=.int i/\y=.int j/\Q (g i j) H
noncomputable def rU (g:Int->V):V->Hp->VK->Prop:=fun x H Q=>∃ i,x=.int i/\Q (g i) H
section
variable {X:Cx} {a b c:Expr} {ta tb tc:TE} {pos:Pos}
theorem Dk (ha:PE X a ta) (hb:PE X b tb) {pins:List (Addr×Obj)} {s:Shared} {σ:St} {H:Hp} {R:V->V->Hp->Prop} (I:Inv X pins σ H s)
  (h:ta σ H fun x H1=>tb σ H1 fun y H2=>R x y H2) {Q:Value->Shared->Prop} {f:Value->Value->Sem Value}
  (hf:∀ v u s2 x y H2,Inv X pins σ H2 s2->RelV x v->RelV y u->R x y H2->wpAny (model X.prog X.w) X.A (f v u) Q X.xe s2) :
  wpAny (model X.prog X.w) X.A (eval a X.env) (fun v s₁=>wpAny (model X.prog X.w) X.A (eval b X.env) (fun u s₂=>wpAny (model X.prog X.w) X.A (f v u) Q X.xe s₂) X.xe s₁) X.xe s:=by
 refine bN (ha pins s σ H _ I h) fun v s1 ⟨x,H1,I1,r1,q1⟩=>?_
 refine bN (hb pins s1 σ H1 _ I1 q1) fun u s2 ⟨y,H2,I2,r2,q2⟩=>?_
 exact hf v u s2 x y H2 I2 r1 r2 q2
theorem ER {op:Operator} {r:R2} (ho:OpR X (binaryOp op) r) (ha:PE X a ta) (hb:PE X b tb):PE X (.BinOp a op b pos) (DY r ta tb):=by
 intro pins s σ H Q I h
 exact wpAny_BinOp (Dk ha hb I h fun v u s2 x y H2 I2 rx ry q=>ho pins s2 σ H2 x y v u Q I2 rx ry q)
theorem EQ {op:UnaryOp} {r:V->Hp->VK->Prop} (ho:FZ X (unaryOp op) r) (ha:PE X a ta):PE X (.UnaryOp op a pos) (IQ r ta):=by
 intro pins s σ H Q I h
 exact UnaryOp_ (bN (ha pins s σ H _ I h) fun v s1 ⟨x,H1,I1,r1,q1⟩=>ho pins s1 σ H1 x v Q I1 r1 q1)
theorem DI {f:Value->Value->Sem Value} {C:Int->Int->Prop} {g:Int->Int->Int}
  (rule:∀ (i j:Int) (t u:Tok) (s:Shared) (Q:Value->Shared->Prop) (E:Value->Shared->Prop),C i j->Q (.int (g i j) s.toks) { s with toks:=s.toks+1 }->wpAny (model X.prog X.w) X.A (f (.int i t) (.int j u)) Q E s) :
  OpR X f (rI C fun i j=>.int (g i j)):=by
 intro pins s σ H x y v u Q I rx ry h
 obtain ⟨i,j,rfl,rfl,hc,q⟩:=h
 obtain ⟨t,rfl⟩:=rx
 obtain ⟨t',rfl⟩:=ry
 exact rule i j t t' s _ _ hc ⟨.int (g i j),H,I.tok _,⟨_,rfl⟩,q⟩
theorem zO {f:Value->Value->Sem Value} {g:Int->Int->Int}
  (rule:∀ (i j:Int) (t u:Tok) (s:Shared) (Q:Value->Shared->Prop) (E:Value->Shared->Prop),Q (.int (g i j) s.toks) { s with toks:=s.toks+1 }->wpAny (model X.prog X.w) X.A (f (.int i t) (.int j u)) Q E s) :
  OpR X f (wk fun i j=>.int (g i j)):=by
 intro pins s σ H x y v u Q I rx ry h
 obtain ⟨i,j,rfl,rfl,q⟩:=h
 obtain ⟨t,rfl⟩:=rx
 obtain ⟨t',rfl⟩:=ry
 exact rule i j t t' s _ _ ⟨.int (g i j),H,I.tok _,⟨_,rfl⟩,q⟩
theorem CB {f:Value->Value->Sem Value} {g:Int->Int->Bool}
  (rule:∀ (i j:Int) (t u:Tok) (s:Shared) (Q:Value->Shared->Prop) (E:Value->Shared->Prop),Q (.bool (g i j)) s->wpAny (model X.prog X.w) X.A (f (.int i t) (.int j u)) Q E s) :
  OpR X f (wk fun i j=>.bl (g i j)):=by
 intro pins s σ H x y v u Q I rx ry h
 obtain ⟨i,j,rfl,rfl,q⟩:=h
 obtain ⟨t,rfl⟩:=rx
 obtain ⟨t',rfl⟩:=ry
 exact rule i j t t' s _ _ ⟨.bl (g i j),H,I,rfl,q⟩
noncomputable def HZ (i j:Int):Prop:=0<j/\j<1073741824
noncomputable def HY (i j:Int):Prop:=0<=j/\j<=1000000/\i.natAbs<2 ^ 64
noncomputable def CMul (i j:Int):Prop:=(-(2 ^ 64)<i/\i<2 ^ 64)\/(-(2 ^ 64)<j/\j<2 ^ 64)
theorem CMul.ok {i j:Int} (h:CMul i j):IntMulOk i j:=by
 rcases h with ⟨h1,h2⟩ | ⟨h1,h2⟩
 ·exact .of_left (intBits_le_64 h1 h2)
 ·exact .of_right (intBits_le_64 h1 h2)
theorem qC (k:Nat):(0:Int)<=2 ^ k:=by
 rw [two_pow_cast]
 exact Int.natCast_nonneg _
theorem CA:OpR X (binaryOp .Add) (wk fun i j=>.int (i+j)):=zO fun _ _ _ _ _ _ _ q=>add_int q
theorem Cu:OpR X (binaryOp .Sub) (wk fun i j=>.int (i-j)):=zO fun _ _ _ _ _ _ _ q=>sub_int q
theorem zM:OpR X (binaryOp .FloorDiv) (rI HZ fun i j=>.int (i / j)):=DI fun i j _ _ _ _ _ hc q=>by
 have h1:(0:Int)<j:=hc.1
 have h2:j<1073741824:=hc.2
 exact floordiv_int (by omega) (by rw [Int.fdiv_eq_ediv_of_nonneg i (by omega)]; exact q) (.inl (PyProof.noPylong_small (by omega)))
theorem Cy:OpR X (binaryOp .Mod) (rI (fun _ j=>0<j) fun i j=>.int (i % j)):=DI fun i j _ _ _ _ _ hc q=>by
 have h1:(0:Int)<j:=hc
 exact mod_int' (by omega) (by rw [Int.fmod_eq_emod_of_nonneg i (by omega)]; exact q)
theorem Cw:OpR X (binaryOp .Pow) (rI HY fun i j=>.int (i ^ j.toNat)):=DI fun _ _ _ _ _ _ _ hc q=>pow_int_small hc.1 hc.2.1 hc.2.2 q
theorem Cv:OpR X (binaryOp .RShift) (rI (fun _ j=>0<=j) fun i j=>.int (i / 2 ^ j.toNat)):=DI fun i j _ _ _ _ _ hc q=>
 rshift_int hc (by rw [Int.fdiv_eq_ediv_of_nonneg i (qC _)]; exact q)
theorem Cz:OpR X (binaryOp .BitAnd) (wk fun i j=>.int (Builtin.bitAnd i j)):=zO fun _ _ _ _ _ _ _ q=>and_int q
theorem Ct:OpR X (binaryOp .BitXor) (wk fun i j=>.int (Builtin.bitXor i j)):=zO fun _ _ _ _ _ _ _ q=>xor_int q
theorem IM {f:Value->Sem Value} {g:Int->Int}
  (rule:∀ (i:Int) (t:Tok) (s:Shared) (Q:Value->Shared->Prop) (E:Value->Shared->Prop),Q (.int (g i) s.toks) { s with toks:=s.toks+1 }->wpAny (model X.prog X.w) X.A (f (.int i t)) Q E s) :
  FZ X f (rU fun i=>.int (g i)):=by
 intro pins s σ H x v Q I rx h
 obtain ⟨i,rfl,q⟩:=h
 obtain ⟨t,rfl⟩:=rx
 exact rule i t s _ _ ⟨.int (g i),H,I.tok _,⟨_,rfl⟩,q⟩
theorem Bx:FZ X (unaryOp .USub) (rU fun i=>.int (-i)):=IM fun _ _ _ _ _ q=>neg_int q
end
section
variable {X:Cx} {a b c:Expr} {ta tb tc:TE} {pos:Pos}
theorem sP:OpR X (compareOp .Lt) (wk fun i j=>.bl (decide (i<j))):=CB fun _ _ _ _ _ _ _ q=>lt_int q
theorem E2:OpR X (compareOp .LtE) (wk fun i j=>.bl (decide (i<=j))):=CB fun _ _ _ _ _ _ _ q=>le_int q
theorem E3:OpR X (compareOp .Gt) (wk fun i j=>.bl (decide (j<i))):=CB fun _ _ _ _ _ _ _ q=>gt_int q
theorem OpR.or {f:Value->Value->Sem Value} {r r':R2} (h:OpR X f r) (h':OpR X f r'):OpR X f (fun x y H Q=>r x y H Q\/r' x y H Q):=by
 intro pins s σ H x y v u Q I rx ry q
 rcases q with q | q
 ·exact h pins s σ H x y v u Q I rx ry q
 ·exact h' pins s σ H x y v u Q I rx ry q
theorem aJ (b:Expr) {op:CmpOp} (h:op≠.In:=by decide) (h2:op≠.NotIn:=by decide):behindInMarks op b=false:=by
 have e1:(op==CmpOp.In)=false:=by cases op <;> first | rfl | exact absurd rfl h
 have e2:(op==CmpOp.NotIn)=false:=by cases op <;> first | rfl | exact absurd rfl h2
 cases b <;> simp [behindInMarks,e1,e2]
theorem zE {op:CmpOp} {r:R2} (ho:OpR X (compareOp op) r) (ha:PE X a ta) (hb:PE X b tb) (hm:behindInMarks op b=false):PE X (.Compare a [op] [b] pos) (DY r ta tb):=by
 intro pins s σ H Q I h
 exact wpAny_Compare1 (Dk ha hb I h fun v u s2 x y H2 I2 rx ry q=>ho pins s2 σ H2 x y v u Q I2 rx ry q) hm
noncomputable def DV (t:TE):TT:=fun σ H Q=>t σ H fun x H'=>∃ k,x=.bl k/\Q k H'
theorem zq {op:CmpOp} {r:R2} (ho:OpR X (compareOp op) r) (ha:PE X a ta) (hb:PE X b tb) (hm:behindInMarks op b=false):PT X (.Compare a [op] [b] pos) (DV (DY r ta tb)):=by
 intro pins s σ H Q I h
 refine wpAny_isTrue_Compare1 (bN (ha pins s σ H _ I h) fun v s1 ⟨x,H1,I1,r1,q1⟩=>bN (hb pins s1 σ H1 _ I1 q1) fun u s2 ⟨y,H2,I2,r2,q2⟩=>
  bN (ho pins s2 σ H2 x y v u _ I2 r1 r2 q2) fun c s3 ⟨z,H3,I3,r3,k,e,q3⟩=>?_) hm
 subst e
 cases r3
 exact wpAny_truthy_bool ⟨H3,I3,q3⟩
theorem nY:(sizeLine:Nat)<2 ^ 63:=by rw [sizeLine_eq]; decide
theorem qU:OpR X (binaryOp .Add) (fun x y H Q=>∃ i j,x=.str i/\y=.str j/\i.length+j.length<=sizeLine/\Q (.str (i++j)) H):=by
 intro pins s σ H x y v u Q I rx ry h
 obtain ⟨i,j,rfl,rfl,hz,q⟩:=h
 obtain ⟨t,rfl⟩:=rx
 obtain ⟨t',rfl⟩:=ry
 exact add_str (fun t' tk=>⟨.str (i++j),H,I.tok _,⟨_,rfl⟩,q⟩) hz
theorem fU {x:V} {us:List Value} (r:Vals [x] us):∃ u,us=[u]/\RelV x u:=by
 cases r with
 | cons r1 r2=>cases r2; exact ⟨_,rfl,r1⟩
theorem rY {x y:V} {us:List Value} (r:Vals [x,y] us):∃ u w',us=[u,w']/\RelV x u/\RelV y w':=by
 cases r with
 | cons r1 r2=>
  cases r2 with
  | cons r3 r4=>cases r4; exact ⟨_,_,rfl,r1,r3⟩
theorem vf (hc:X.calm=true):CallR X (.builtin "max") (fun xs H Q=>∃ i j,xs=[.int i,.int j]/\Q (.int (if j>i then j else i)) H):=by
 intro pins s σ H xs us Q I r h
 obtain ⟨i,j,rfl,q⟩:=h
 obtain ⟨u,w',rfl,⟨t,rfl⟩,⟨t',rfl⟩⟩:=rY r
 refine max_two_ints (I.ok.hd hc) fun h' tk k=>⟨_,H,I.kept k,?_,q⟩
 by_cases hj:j>i
 ·rw [if_pos hj,if_pos hj]; exact ⟨_,rfl⟩
 ·rw [if_neg hj,if_neg hj]; exact ⟨_,rfl⟩
theorem ve (hc:X.calm=true):CallR X (.builtin "min") (fun xs H Q=>∃ i j,xs=[.int i,.int j]/\Q (.int (if j<i then j else i)) H):=by
 intro pins s σ H xs us Q I r h
 obtain ⟨i,j,rfl,q⟩:=h
 obtain ⟨u,w',rfl,⟨t,rfl⟩,⟨t',rfl⟩⟩:=rY r
 refine min_two_ints (I.ok.hd hc) fun h' tk k=>⟨_,H,I.kept k,?_,q⟩
 by_cases hj:j<i
 ·rw [if_pos hj,if_pos hj]; exact ⟨_,rfl⟩
 ·rw [if_neg hj,if_neg hj]; exact ⟨_,rfl⟩
noncomputable def HX (K:PySem.W.Frag) (x:V) (H:Hp) (n:Nat):Prop:=
 match x with
 | .str y=>y.length<=sizeLine/\n=y.length
 | .byt y=>y.size<=sizeLine/\n=y.size
 | .ref p=>(∃ xs,SqL K H p xs/\n=xs.length)\/∃ xs,SqT K H p xs/\n=xs.length
 | _=>False
theorem xV:CallR X (.builtin "len") (fun xs H Q=>∃ x n,xs=[x]/\HX X.K x H n/\Q (.int n) H):=by
 intro pins s σ H xs us Q I r h
 obtain ⟨x,n,rfl,e,q⟩:=h
 obtain ⟨u,rfl,rx⟩:=fU r
 have hl:=nY
 have hs:sizeLine=16777216:=sizeLine_eq
 cases x with
 | str y=>
  obtain ⟨t,rfl⟩:=rx
  obtain ⟨hy,e'⟩:y.length<=sizeLine/\n=y.length:=e
  subst e'
  exact len_str (by omega) ⟨.int _,H,I.tok _,⟨_,rfl⟩,q⟩
 | byt y=>
  obtain ⟨t,rfl⟩:=rx
  obtain ⟨hy,e'⟩:y.size<=sizeLine/\n=y.size:=e
  subst e'
  exact PySem.W.len_bytes (by omega) ⟨.int _,H,I.tok _,⟨_,rfl⟩,q⟩
 | ref p=>
  cases rx
  have e':(∃ xs,SqL X.K H p xs/\n=xs.length)\/∃ xs,SqT X.K H p xs/\n=xs.length:=e
  rcases e' with ⟨xs,hx,e'⟩ | ⟨xs,hx,e'⟩
  ·subst e'
   obtain ⟨its,r',pl,hz⟩:=I.list hx
   have hlen:=r'.length
   exact Calls.call_len_list pl.isList (by simp only [List.size_toArray]; omega) ⟨.int xs.length,H,I.tok _,⟨_,by simp only [List.size_toArray]; rw [hlen]⟩,q⟩
  ·subst e'
   obtain ⟨its,r',pl,hz⟩:=I.tuple hx
   have hlen:=r'.length
   exact len_tuple pl (by simp only [List.size_toArray]; omega) ⟨.int xs.length,H,I.tok _,⟨_,by simp only [List.size_toArray]; rw [hlen]⟩,q⟩
 | _=>exact (show False from e).elim
end
end L2
namespace L2
open PySem PySem.Spec PyProof.Rows
structure ObjM (h:Heap) (x dx C:Addr) (mA:Str->Option Value):Prop where
 obj:h.get? x=some (PySem.W.instObj C dx)
 ns:h.Ns1 dx mA
 ne:dx≠x
theorem uP {h:Heap} {dx:Addr} {mA:Str->Option Value} (n:h.Ns1 dx mA):∃ od,h.get? dx=some od/\∀ name,PySem.W.lookIn name od=some (mA name):=by
 obtain ⟨o,es,ep,ho,hd,hk,_,hm⟩:=n
 refine ⟨o,ho,fun name=>?_⟩
 have e:=hm name
 unfold nsFind findBy at e
 rw [<- Array.find?_toList] at e
 unfold PySem.W.lookIn
 rw [hd]
 dsimp only
 split
 ·rename_i y q
  rw [q] at e
  exact congrArg some e
 ·rename_i q
  rw [q] at e
  have a:es.toList.any (·.refKey)=false:=by
   rw [List.any_eq_false]
   intro y hy
   obtain ⟨z,t,hkey⟩:=hk y (Array.mem_toList_iff.mp hy)
   simp [DictEntry.refKey,hkey]
  have a':¬ es.toList.any (·.refKey)=true:=by rw [a]; exact Bool.false_ne_true
  rw [if_neg a']
  exact congrArg some e
theorem ObjM.look {h:Heap} {x dx C:Addr} {mA:Str->Option Value} (I:ObjM h x dx C mA):∃ od,PySem.W.InstAt h x (PySem.W.instObj C dx) C (some od)/\∀ name,PySem.W.lookIn name od=some (mA name):=
 let ⟨od,ho,hl⟩:=uP I.ns
 ⟨od,⟨I.obj,rfl,rfl,ho⟩,hl⟩
section
variable {prog:Program} {w:World} {A:Around} {E:Value->Shared->Prop} {s:Shared} {K:PySem.W.Frag} {x dx C f:Addr} {mA:Str->Option Value} {name:Str} {v:Value}
end
theorem RelO.some_of {v:V} {o:Option Value} (r:RelO (some v) o):∃ u,o=some u/\RelV v u:=by
 cases o with
 | none=>exact (show False from r).elim
 | some u=>exact ⟨u,rfl,r⟩
section
variable {P:Program} {w:World} {H H':Hp} {h h':Heap} {a C dx:Addr} {fs fs':List (Str×V)}
theorem Ag (hok:HOk P w H h) (e:H a=some (.ins C dx fs)):∃ mA,ObjM h a dx C mA/\(∀ f,RelO (fs.lookup f) (mA f))/\PySem.Within mA (fs.map (·.1))/\fs.length<=1000/\H dx=some (.own a):=by
 obtain ⟨d,z,ne,ob,mA,n,r,q⟩:=(show ObjOk P w H h a (.ins C dx fs) from hok a _ e)
 exact ⟨mA,⟨ob,n,ne⟩,r,q,z,d⟩
end
structure Cls (K:PySem.W.Frag) (C:Addr):Prop where
 pg:PySem.W.plainGet K C Str.empty=true
 hd:PySem.W.hasDictIn K C=true
 po:PySem.W.plainOver K C=true
 sa:PySem.W.findIn K (.ref C) "__setattr__" = some (some (.builtin "object.__setattr__"))
theorem Cls.get {K:PySem.W.Frag} {C:Addr} (c:Cls K C) (f:Str):PySem.W.plainGet K C f=true:=c.pg
structure Con (K:PySem.W.Frag) (C:Addr) (f:Str) (v:V) (u:Value):Prop where
 at_:PySem.W.findIn K (.ref C) f=some (some u)
 rel:RelV v u
 get:PySem.W.specialIn K u "__get__" = some none
 cp:PySem.W.copiedNames.contains f=false
structure Meth (K:PySem.W.Frag) (C:Addr) (m:Str) (f:Addr):Prop where
 at_:PySem.W.findIn K (.ref C) m=some (some (.ref f))
 fn:PySem.W.isFn K (.ref f)=true
 kp:PySem.W.keepIn K (.ref f)=true
section
variable {X:Cx} {pins:List (Addr×Obj)} {σ:St} {H:Hp} {s:Shared} {a C dx:Addr} {fs:List (Str×V)} {f:Str} {v:V} {A:Around} {E:Value->Shared->Prop}
theorem Inv.made (I:Inv X pins σ H s):Inv X pins σ (upd (upd H s.heap.objs.size (.own (s.heap.objs.size+1))) (s.heap.objs.size+1) (.ins C s.heap.objs.size []))
  { s with heap:=(s.heap.push PySem.W.emptyDict).push (PySem.W.instObj C s.heap.objs.size) }:=by
 have e1:(s.heap.push PySem.W.emptyDict).get? s.heap.objs.size=some PySem.W.emptyDict:=Heap.get?_push_size s.heap rfl
 have e2:((s.heap.push PySem.W.emptyDict).push (PySem.W.instObj C s.heap.objs.size)).get? (s.heap.objs.size+1)=some (PySem.W.instObj C s.heap.objs.size):=by
  have:=Heap.get?_push_size (s.heap.push PySem.W.emptyDict) (o:=PySem.W.instObj C s.heap.objs.size) rfl
  rwa [Heap.size_push] at this
 have e3:(s.heap.push PySem.W.emptyDict).Ns s.heap.objs.size (fun _=>none):=⟨PySem.W.emptyDict,#[],_,e1,rfl,(fun e he=>absurd he (by simp)),fun _=>rfl⟩
 have I1:=I.laid (a:=s.heap.objs.size) (o:=.own (s.heap.objs.size+1)) (h':=s.heap.push PySem.W.emptyDict) (t':=s.toks) (fun b u q=>Heap.get?_push_of_some _ q) (Nat.le_refl _) ⟨_,e1⟩
 refine I1.laid (a:=s.heap.objs.size+1) (o:=.ins C s.heap.objs.size []) (t':=s.toks) (fun b u q=>Heap.get?_push_of_some _ q) (Nat.le_of_eq (Heap.size_push _ _)) ?_
 have ne:s.heap.objs.size≠s.heap.objs.size+1:=Nat.ne_of_lt (Nat.lt_succ_self _)
 refine ⟨by rw [aB ne,aC],Nat.zero_le _,ne,e2,fun _=>none,(Heap.Ns1.of_empty e3).at fun o q=>Heap.get?_push_of_some _ q,fun _=>True.intro,fun y hy=>absurd rfl hy⟩
end
section
variable {X:Cx} {o e value:Expr} {f:Str} {pos pos' tpos:Pos} {ta tv:TE}
end
section
variable {X:Cx} {pins:List (Addr×Obj)} {σ:St} {H:Hp} {s:Shared} {A:Around} {E:Value->Shared->Prop} {Q:Value->Shared->Prop} {c:Value} {b:Bool}
inductive TyOf (K:PySem.W.Frag) (H:Hp):V->Value->Prop where
 | non:TyOf K H .non (.type "NoneType")
 | bl (x:Bool):TyOf K H (.bl x) (.type "bool")
 | int (i:Int):TyOf K H (.int i) (.type "int")
 | str (x:Str):TyOf K H (.str x) (.type "str")
 | flt (x:UInt64):TyOf K H (.flt x) (.type "float")
 | lst {a:Addr} {xs:List V} (e:H a=some (.lst xs)):TyOf K H (.ref a) (.type "list")
 | frz {a:Addr} {o:Obj} {xs:List V} (e:H a=some (.frz o (.lst xs))):TyOf K H (.ref a) (.type "list")
 | tup {a:Addr} {xs:List V} (e:H a=some (.tup xs)):TyOf K H (.ref a) (.type "tuple")
 | dK {a:Addr} {kvs:List (aE×V)} (e:H a=some (.dK kvs)):TyOf K H (.ref a) (.type "dict")
 | dT {a:Addr} {kvs:List (List aE×V)} (e:H a=some (.dT kvs)):TyOf K H (.ref a) (.type "dict")
 | ins {a C dx:Addr} {fs:List (Str×V)} (e:H a=some (.ins C dx fs)) (cl:Cls K C) (ha:PySem.W.findIn K (.ref C) "__class__" = some (some (.builtin "object.__class__")))
   (hn:PySem.W.specialIn K (.builtin "object.__class__") "__get__" = some (some (.builtin "getset_descriptor.__get__"))) (htk:PySem.W.takesIn K (.builtin "object.__class__")=some true)
   (hm:PySem.W.mroIn K C (.type "object")=some true):TyOf K H (.ref a) (.ref C)
theorem gy {x:V} {u t:Value} (I:Inv X pins σ H s) (rx:RelV x u) (ty:TyOf X.K H x t) (e:PySem.W.kitOne X.K t c=some b) (h:∀ tk,Q (.bool b) { s with toks:=tk }) :
  wpAny (model X.prog X.w) A (call (.builtin "isinstance") [u,c]) Q E s:=by
 cases ty with
 | non=>cases (show u=Value.none from rx); exact PySem.W.kia_one PySem.W.kitx_none I.kIn True.intro e (fun z=>nomatch z) h
 | bl y=>cases (show u=Value.bool y from rx); exact PySem.W.kia_one PySem.W.kitx_bool I.kIn True.intro e (fun z=>nomatch z) h
 | int i=>obtain ⟨t,q⟩:=(show ∃ t,u=Value.int i t from rx); cases q; exact PySem.W.kia_one PySem.W.kitx_int I.kIn True.intro e (fun z=>nomatch z) h
 | str y=>obtain ⟨t,q⟩:=(show ∃ t,u=Value.str y t from rx); cases q; exact PySem.W.kia_one PySem.W.kitx_str I.kIn True.intro e (fun z=>nomatch z) h
 | flt y=>obtain ⟨t,q⟩:=(show ∃ t,u=Value.float y t from rx); cases q; exact PySem.W.kia_one PySem.W.kitx_float I.kIn True.intro e (fun z=>nomatch z) h
 | @lst a xs ea=>
  cases (show u=Value.ref a from rx)
  obtain ⟨_,_,n,_,h1⟩:=(show ObjOk X.prog X.w H s.heap a (.lst xs) from I.hok a _ ea)
  exact PySem.W.kia_one PySem.W.kitx_list I.kIn ⟨_,h1,rfl⟩ e (fun z=>nomatch z) h
 | @frz a ob xs ea=>
  cases (show u=Value.ref a from rx)
  obtain ⟨_,_,_,n,_,h1⟩:=(show ObjOk X.prog X.w H s.heap a (.frz ob (.lst xs)) from I.hok a _ ea)
  exact PySem.W.kia_one PySem.W.kitx_list I.kIn ⟨_,h1,rfl⟩ e (fun z=>nomatch z) h
 | @tup a xs ea=>
  cases (show u=Value.ref a from rx)
  obtain ⟨_,_,_,p⟩:=(show ObjOk X.prog X.w H s.heap a (.tup xs) from I.hok a _ ea)
  obtain ⟨o,h1,h2,_⟩:=p.1
  exact PySem.W.kia_one PySem.W.kitx_tuple I.kIn ⟨o,h1,h2⟩ e (fun z=>nomatch z) h
 | @dK a kvs ea=>
  cases (show u=Value.ref a from rx)
  obtain ⟨_,_,vs,_,p⟩:=(show ObjOk X.prog X.w H s.heap a (.dK kvs) from I.hok a _ ea)
  obtain ⟨o,es,ep,h1,h2,_⟩:=p
  exact PySem.W.kia_one PySem.W.kitx_dict I.kIn ⟨o,h1,h2.1⟩ e (fun z=>nomatch z) h
 | @dT a kvs ea=>
  cases (show u=Value.ref a from rx)
  obtain ⟨_,_,xs,_,o,es,ep,h1,h2,_⟩:=(show ObjOk X.prog X.w H s.heap a (.dT kvs) from I.hok a _ ea)
  exact PySem.W.kia_one PySem.W.kitx_dict I.kIn ⟨o,h1,h2.1⟩ e (fun z=>nomatch z) h
 | @ins a C dx fs ea cl ha hn htk hm=>
  cases (show u=Value.ref a from rx)
  obtain ⟨mA,O,_⟩:=Ag I.hok ea
  obtain ⟨od,J,_⟩:=O.look
  exact PySem.W.kia_one (PySem.W.kitx_own (cl.get _) cl.hd ha hn htk hm) I.kIn J e (fun z=>nomatch z) h
end
end L2
namespace L2
open PySem PySem.Spec PyProof.Rows
structure Room (k:Nat) (A:Around):Prop where
 hd:A.handled=none
 dp:A.depth+3*k+5<recursionLimit
 un:A.units+16*k+200<cLine
theorem Room.mono {j k:Nat} {A:Around} (r:Room k A) (h:j<=k):Room j A:=⟨r.hd,by have:=r.dp; omega,by have:=r.un; omega⟩
theorem Room.deeper {k:Nat} {A:Around} (r:Room (k+1) A) (env:Env):Room k (A.deeper env):=
 ⟨r.hd,by have:=r.dp; show A.depth+1+3*k+5<_; omega,by have:=r.un; show A.units+3+16*k+200<_; omega⟩
theorem Room.in1 {k:Nat} {A:Around} (r:Room (k+1) A):Room k A.in1:=
 ⟨r.hd,by have:=r.dp; show A.depth+3*k+5<_; omega,by have:=r.un; show A.units+1+16*k+200<_; omega⟩
theorem Room.depth {k:Nat} {A:Around} (r:Room k A):A.depth<recursionLimit:=by have:=r.dp; omega
theorem Room.units {k:Nat} {A:Around} (r:Room k A):A.units+64<cLine:=by have:=r.un; omega
noncomputable def GL:TA:=fun _ H Q=>Q [] H
noncomputable def Ee (ta:TE) (tr:TA):TA:=fun σ H Q=>ta σ H fun x H1=>tr σ H1 fun xs H2=>Q (x::xs) H2
section
variable {X:Cx} {e:Expr} {es:List Expr} {te:TE} {t:TA} {pos:Pos}
theorem eI:PA X [] GL:=fun _ _ _ _ H Q I h=>Calls.spliced_nil ⟨[],H,I,.nil,h⟩
theorem cU (ha:PE X e te) (hr:PA X es t) (hs:starEach (e::es) X.env=(false,eval e X.env)::starEach es X.env:=by rfl):PA X (e::es) (Ee te t):=by
 intro pos pins s σ H Q I h
 rw [hs]
 show wpAny _ _ (spliced ((false,eval e X.env)::backTo pos (starEach es X.env))) _ _ s
 refine Calls.spliced_cons (bN (ha pins s σ H _ I h) fun u s1 ⟨x,H1,I1,r1,q1⟩=>?_)
 exact bN (hr pos pins s1 σ H1 _ I1 q1) fun us s2 ⟨xs,H2,I2,r2,q2⟩=>⟨x::xs,H2,I2,.cons r1 r2,q2⟩
noncomputable def GH (t:TA):TE:=fun σ H Q=>t σ H fun xs H1=>xs.length<=sizeLine/\∀ p,H1 p=none->Q (.ref p) (upd H1 p (.tup xs))
noncomputable def GM (t:TA):TE:=fun σ H Q=>t σ H fun xs H1=>xs.length<=sizeLine/\∀ p,H1 p=none->Q (.ref p) (upd H1 p (.lst xs))
theorem Cl {x1} (h:PA X es t):PE X (.Tuple es x1 pos) (GH t):=by
 intro pins s σ H Q I hq
 refine wpAny_Tuple_spliced (bN (h pos pins s σ H _ I hq) fun us s1 ⟨xs,H1,I1,r,z,q⟩=>⟨by rw [<- r.length]; exact z,?_⟩)
 have hf:H1 s1.heap.objs.size=none:=I1.hok.fresh (Nat.le_refl _)
 refine ⟨.ref s1.heap.objs.size,upd H1 s1.heap.objs.size (.tup xs),I1.laid (t':=s1.toks) (fun b u e=>Heap.get?_push_of_some _ e) (Nat.le_refl _) ?_,rfl,q _ hf⟩
 exact ⟨z,us,r,⟨_,Heap.get?_push_size _ rfl,rfl,_,rfl⟩,NoDi.new _ _⟩
theorem wA (h:PA X es t):PE X (.List es pos) (GM t):=by
 intro pins s σ H Q I hq
 refine wpAny_List_spliced (bN (h pos pins s σ H _ I hq) fun us s1 ⟨xs,H1,I1,r,z,q⟩=>⟨by rw [<- r.length]; exact z,?_⟩)
 have hf:H1 s1.heap.objs.size=none:=I1.hok.fresh (Nat.le_refl _)
 refine ⟨.ref s1.heap.objs.size,upd H1 s1.heap.objs.size (.lst xs),I1.laid (t':=s1.toks) (fun b u e=>Heap.get?_push_of_some _ e) (Nat.le_refl _) ?_,rfl,q _ hf⟩
 exact ⟨z,us,0,r,Heap.get?_push_size _ rfl⟩
end
noncomputable abbrev Sp:=List V->Hp->VK->XK->Prop
noncomputable abbrev qz:=List Env->Hp->Shared->XK->Value->Shared->Prop
structure Env0 (P:Program) (w:World) (K:PySem.W.Frag) (mg:Str->Option Value) (base:Heap) (A:Around) (outer:List Env) (s:Shared) (H:Hp):Prop where
 frames:A.frames=some outer
 mod:Mod K mg base
 bs:∀ b o,base.get? b=some o->s.heap.get? b=some o/\H b=none
 bsz:base.objs.size<=s.heap.objs.size
 funs:s.heap.FunFrames base outer
 frf:∀ b∈rp outer,H b=none
 hok:HOk P w H s.heap
 bare:AllBare s.gens
noncomputable def CE (outer:List Env) (P:Program) (w:World) (H:Hp) (s:Shared) (Q:VK) (u:Value) (s':Shared):Prop:=
 ∃ v H',s'.os=s.os/\AllBare s'.gens/\Un (rp outer) [] H H' s.heap s'.heap/\HOk P w H' s'.heap/\RelV v u/\Q v H'
noncomputable def CR (CX:qz) (outer:List Env) (P:Program) (w:World) (H:Hp) (s:Shared) (Q:VK) (E:XK) (r:Result) (s':Shared):Prop:=
 match r with
 | .ok (.ret u)=>CE outer P w H s Q u s'
 | .ok _=>False
 | .error e=>CX outer H s E e s'
structure FnOk (P:Program) (w:World) (K:PySem.W.Frag) (mg:Str->Option Value) (base:Heap) (CX:qz) (k:Nat) (f:Addr) (fd:FuncData) (ps:List Str) (sp:Sp):Prop where
 len:∀ vs H Q E,sp vs H Q E->vs.length=ps.length
 run:∀ (A:Around) (outer:List Env) (s:Shared) (H:Hp) (args:Args) (us:List Value) (vs:List V) (Q:VK) (E:XK),Room k A->Env0 P w K mg base A outer s H->BindsTo s fd args (ps.zip us)->Vals vs us->sp vs H Q E ->
  codeAny (model P w) A (.call (.ref f) args) (CR CX outer P w H s Q E) s
theorem FnOk.mono {P:Program} {w:World} {K:PySem.W.Frag} {mg:Str->Option Value} {base:Heap} {CX:qz} {j k:Nat} {f:Addr} {fd:FuncData} {ps:List Str} {sp:Sp} (F:FnOk P w K mg base CX j f fd ps sp) (h:j<=k) :
  FnOk P w K mg base CX k f fd ps sp:=⟨F.len,fun A outer s H args us vs Q E hr=>F.run A outer s H args us vs Q E (hr.mono h)⟩
theorem FnOk.imp {P:Program} {w:World} {K:PySem.W.Frag} {mg:Str->Option Value} {base:Heap} {CX:qz} {k:Nat} {f:Addr} {fd:FuncData} {ps:List Str} {sp sp':Sp} (F:FnOk P w K mg base CX k f fd ps sp)
  (h:∀ vs H Q E,sp' vs H Q E->sp vs H Q E):FnOk P w K mg base CX k f fd ps sp':=
 ⟨fun vs H Q E q=>F.len vs H Q E (h _ _ _ _ q),fun A outer s H args us vs Q E hr he hb hv hs=>F.run A outer s H args us vs Q E hr he hb hv (h _ _ _ _ hs)⟩
theorem Env0.in1 {P:Program} {w:World} {K:PySem.W.Frag} {mg:Str->Option Value} {base:Heap} {A:Around} {outer:List Env} {s:Shared} {H:Hp} (e:Env0 P w K mg base A outer s H) :
  Env0 P w K mg base A.in1 outer s H:=⟨e.frames,e.mod,e.bs,e.bsz,e.funs,e.frf,e.hok,e.bare⟩
section
variable {X:Cx} {pins:List (Addr×Obj)} {σ:St} {H:Hp} {s s':Shared}
theorem Inv.env0 (I:Inv X pins σ H s):Env0 X.prog X.w X.K X.mg X.base X.A X.stack s H:=
 ⟨I.ok.frames,I.ok.mod,I.bs,Nat.le_trans I.ok.bsz I.sz,I.stack,I.stkFree,I.hok,I.bare⟩
theorem Inv.after {Q:VK} {u:Value} (I:Inv X pins σ H s) (h:CE X.stack X.prog X.w H s Q u s'):EP X pins σ Q u s':=by
 obtain ⟨v,H',os,bare,un,hok,r,q⟩:=h
 obtain ⟨hh,g,d,t,os'⟩:=s'
 obtain rfl:os'=s.os:=os
 exact ⟨v,H',I.call (h':=hh) (g':=g) (d':=d) (t':=t) (ch:=[]) un hok bare (fun b z=>absurd z (by simp)),r,q⟩
end
noncomputable def Ef (sp:Sp) (dvs:List V) (E:XK) (t:TA):TE:=fun σ H Q=>t σ H fun vs H1=>sp (vs++dvs) H1 Q E
noncomputable def Binds (K:PySem.W.Frag) (fd:FuncData) (ps:List Str) (ds:List Value):Prop:=
 ∀ (s:Shared) (us:List Value),K.In s.heap->(us++ds).length=ps.length->BindsTo s fd ⟨us,[]⟩ (ps.zip (us++ds))
theorem Binds.all {K:PySem.W.Frag} {fd:FuncData} {ps:List Str} (h:∀ us:List Value,us.length=ps.length->bindArgs fd ⟨us,[]⟩=pure (ps.zip us)):Binds K fd ps []:=fun s us _ hl=>by
 rw [List.append_nil] at hl ⊢
 exact .of_eq (h us hl)
noncomputable def oN (CX:qz) (X:Cx) (E:XK):Prop:=∀ (pins:List (Addr×Obj)) (σ:St) (H:Hp) (s:Shared) (e:Value) (s':Shared),Inv X pins σ H s->CX X.stack H s E e s'->X.xe e s'
section
variable {X:Cx} {CX:qz} {k:Nat} {f C:Addr} {fd:FuncData} {ps:List Str} {sp:Sp} {dvs:List V} {ds:List Value} {E:XK} {x m:Str} {p pos apos:Pos} {e o:Expr} {es:List Expr} {ta:TE} {t:TA}
theorem B2 {pins:List (Addr×Obj)} {σ:St} {H:Hp} {s:Shared} {Q:VK} {us:List Value} {vs:List V} (F:FnOk X.prog X.w X.K X.mg X.base CX k f fd ps sp) (hr:Room k X.A) (hb:Binds X.K fd ps ds) (hd:Vals dvs ds) (hx:oN CX X E)
  (I:Inv X pins σ H s) (r:Vals vs us) (h:sp (vs++dvs) H Q E):wpAny (model X.prog X.w) X.A (call (.ref f) us) (EP X pins σ Q) X.xe s:=by
 have r2:Vals (vs++dvs) (us++ds):=r.append hd
 have hl:(us++ds).length=ps.length:=by rw [<- r2.length]; exact F.len _ _ _ _ h
 refine wpAny_call (codeAny_mono (F.run X.A X.stack s H ⟨us,[]⟩ (us++ds) (vs++dvs) Q E hr I.env0 (hb s us I.kIn hl) r2 h) fun r s' hq=>?_)
 cases r with
 | error e=>exact hx pins σ H s e s' I hq
 | ok fl=>
  cases fl with
  | ret u=>exact I.after hq
  | next=>exact False.elim hq
  | brk=>exact False.elim hq
  | cont=>exact False.elim hq
theorem zF (F:FnOk X.prog X.w X.K X.mg X.base CX k f fd ps sp) (hr:Room k X.A) (hg:Gl X x) (hm:X.mg x=some (.ref f)) (hk:PySem.W.keepIn X.K (.ref f)=true) (hb:Binds X.K fd ps ds) (hd:Vals dvs ds) (hx:oN CX X E)
  (ha:PA X (e::es) t) (hdb:(x==("__debug__":Str))=false:=by decide) (he:starEach (e::es) X.env=(false,eval e X.env)::starEach es X.env:=by rfl) (hpl:(backTo pos (starEach es X.env)).any (·.1)=false:=by rfl) :
  PE X (.Call (.Name x p) (e::es) [] pos) (Ef sp dvs E t):=by
 intro pins s σ H Q I h
 refine wpAny_Call_Name_kw (Aa I hg hm ?_ hdb)
 refine PySem.W.callWith_K (h₀:=X.base) I.ok.mod.kin hk (bN (ha pos pins s σ H _ I h) fun us s1 ⟨vs,H1,I1,r,q⟩=>⟨I1.kIn,?_⟩) he hpl
 exact B2 F hr hb hd hx I1 r q
structure Mk (K:PySem.W.Frag) (C f:Addr):Prop where
 makes:PySem.W.makesIn K C=true
 init:PySem.W.findIn K (.ref C) "__init__" = some (some (.ref f))
 fn:PySem.W.isFn K (.ref f)=true
 kp:PySem.W.keepIn K (.ref C)=true
end
section
variable {X:Cx} {CX:qz} {k:Nat} {f C:Addr} {fd:FuncData} {ps ks:List Str} {sp:Sp} {E:XK} {x m:Str} {p pos apos kpos:Pos} {e o:Expr} {es:List Expr} {kws:List Keyword} {te ta:TE} {t tk:TA} {nm:Option Str}
structure KBinds (K:PySem.W.Frag) (fd:FuncData) (ps ks:List Str) (g:List Value->List Value->List Value) (gV:List V->List V->List V):Prop where
 to:∀ (s:Shared) (us ws:List Value),K.In s.heap->(g us ws).length=ps.length->BindsTo s fd ⟨us,ks.zip ws⟩ (ps.zip (g us ws))
 rel:∀ {vs:List V} {us:List Value} {zs:List V} {ws:List Value},Vals vs us->Vals zs ws->Vals (gV vs zs) (g us ws)
variable {g:List Value->List Value->List Value} {gV:List V->List V->List V}
end
structure FnScope (N P:List Str) (sc:Scope):Prop where
 kind:sc.kind=.function
 co:sc.isCoroutine=false
 gen:sc.isGenerator=false
 nd:N.Nodup
 pre:N.take P.length=P
 par:∀ x∈P,sc.names.lookup x=some .local\/sc.names.lookup x=some .cell
 nofree:∀ y∈sc.names,y.2≠.free
theorem mV {kindOf:Str->Option NameKind} {x:Str}:∀ {binds:List (Str×Value)} {m:Str->Option Value},(∀ v,(x,v) ∉ binds)->bindL kindOf binds m x=m x
 | [],_,_=>rfl
 | (n,v)::r,m,h=>by
  unfold bindL
  rw [mV fun w hw=>h w (List.mem_cons_of_mem _ hw)]
  split
  ·have:x≠n:=by rintro rfl; exact h v List.mem_cons_self
   simp [this]
  ·rfl
theorem mX {kindOf:Str->Option NameKind} {x:Str}:∀ {binds:List (Str×Value)} {m:Str->Option Value},(∀ v,(x,v) ∉ binds)->bindC kindOf binds m x=m x
 | [],_,_=>rfl
 | (n,v)::r,m,h=>by
  unfold bindC
  rw [mX fun w hw=>h w (List.mem_cons_of_mem _ hw)]
  split
  ·rfl
  ·have:x≠n:=by rintro rfl; exact h v List.mem_cons_self
   simp [this]
theorem mW {kindOf:Str->Option NameKind} {x:Str} {v:Value}:∀ {P:List Str} {vs:List Value} {i:Nat} {m:Str->Option Value},P.Nodup->P[i]? = some x->vs[i]? = some v->kindOf x=some .local ->
  bindL kindOf (P.zip vs) m x=some v
 | [],_,_,_,_,h,_,_=>by simp at h
 | _::_,[],_,_,_,_,h,_=>by simp at h
 | p::P,w::vs,0,m,nd,h1,h2,hk=>by
  simp at h1 h2; subst h1; subst h2
  show bindL kindOf ((p,w)::P.zip vs) m p=_
  unfold bindL
  rw [mV fun v hv=>(List.nodup_cons.mp nd).1 (List.of_mem_zip hv).1,if_pos hk]
  simp
 | p::P,w::vs,i+1,m,nd,h1,h2,hk=>by
  show bindL kindOf ((p,w)::P.zip vs) m x=_
  unfold bindL
  exact mW (i:=i) (List.nodup_cons.mp nd).2 (by simpa using h1) (by simpa using h2) hk
theorem mY {kindOf:Str->Option NameKind} {x:Str} {v:Value}:∀ {P:List Str} {vs:List Value} {i:Nat} {m:Str->Option Value},P.Nodup->P[i]? = some x->vs[i]? = some v->kindOf x≠some .local ->
  bindC kindOf (P.zip vs) m x=some v
 | [],_,_,_,_,h,_,_=>by simp at h
 | _::_,[],_,_,_,_,h,_=>by simp at h
 | p::P,w::vs,0,m,nd,h1,h2,hk=>by
  simp at h1 h2; subst h1; subst h2
  show bindC kindOf ((p,w)::P.zip vs) m p=_
  unfold bindC
  rw [mX fun v hv=>(List.nodup_cons.mp nd).1 (List.of_mem_zip hv).1,if_neg hk]
  simp
 | p::P,w::vs,i+1,m,nd,h1,h2,hk=>by
  show bindC kindOf ((p,w)::P.zip vs) m x=_
  unfold bindC
  exact mY (i:=i) (List.nodup_cons.mp nd).2 (by simpa using h1) (by simpa using h2) hk
noncomputable def start (N:List Str) (vs:List V):St:=vs.map some++List.replicate (N.length-vs.length) none
noncomputable def qh (CX:qz) (P:Program) (w:World) (K:PySem.W.Frag) (mg:Str->Option Value) (base:Heap) (N:List Str) (qual:Str) (scope:Scope) (f:Addr) (cd:Value) (A:Around) (outer:List Env) (s:Shared) (H:Hp) (E:XK):Cx where
 prog:=P
 w:=w
 K:=K
 mg:=mg
 base:=base
 A:=A.deeper (envOfC qual scope s.heap.objs.size f cd)
 N:=N
 s₀:=s
 H₀:=H
 env:=envOfC qual scope s.heap.objs.size f cd
 outer:=outer
 stack:=envOfC qual scope s.heap.objs.size f cd::outer
 ex:=[]
 calm:=true
 fn:=fun _=>true
 pn:=[]
 xe:=fun e s'=>wpAny (model P w) (A.deeper (envOfC qual scope s.heap.objs.size f cd)) (leaving (envOfC qual scope s.heap.objs.size f cd) e) (fun _ s''=>CX outer H s E e s'') (fun e' s''=>CX outer H s E e' s'') s'
theorem qo {sc:Scope} {n:Nat} {x:Str} (h:sc.names.lookup x=some .cell):∃ c,(cellsFrom n sc.names []).lookup x=some c:=by
 have q:=PySem.W.cellsFrom_some sc.names n [] (.inl h)
 exact Option.isSome_iff_exists.mp q
theorem uX {CX:qz} {P:Program} {w:World} {K:PySem.W.Frag} {mg:Str->Option Value} {base:Heap} {N ps:List Str} {qual:Str} {scope:Scope} {f:Addr} {cd:Value} {A:Around} {outer:List Env} {s s1:Shared} {H:Hp} {E:XK} {us:List Value} {vs:List V}
  (S:FnScope N ps scope) (hd:A.handled=none) (e0:Env0 P w K mg base A outer s H) (hl:vs.length=ps.length) (r:Vals vs us)
  (x:InCallC s s.heap.objs.size (bindL (envOfC qual scope s.heap.objs.size f cd).kindOf (ps.zip us) fun _=>none) (cellsFrom (s.heap.objs.size+1) scope.names []) (bindC (envOfC qual scope s.heap.objs.size f cd).kindOf (ps.zip us) fun _=>none) s1) :
  Inv (qh CX P w K mg base N qual scope f cd A outer s H E) [] (start N vs) H s1:=by
 have hpl:ps.length<=N.length:=by have:=congrArg List.length S.pre; rw [List.length_take] at this; omega
 obtain ⟨h1,tk,rfl,hk⟩:=x.done
 have noA:∀ b:Addr,b ∉ (qh CX P w K mg base N qual scope f cd A outer s H E).ex:=fun b z=>absurd (show b∈([]:List Addr) from z) (by simp)
 refine ⟨⟨e0.mod,S.kind,rfl,rfl,Nat.le_refl _,fun y z c h1 h2=>?_,fun y hy=>?_,fun y c _ h=>?_,fun _=>hd,Around.frames_deeper e0.frames,.inr ⟨rfl,rfl⟩,fun b z=>absurd z (noA b),e0.bs,e0.bsz,fun b _ _=>noA b,fun b z=>absurd z (noA b),e0.funs,e0.frf⟩,
  rfl,e0.bare,Un.kept hk,⟨_,x.toInCall.ns,fun i y v h1 h2 h3=>?_⟩,fun y c h=>⟨_,x.cell y c h⟩,e0.hok.fresh (Nat.le_refl _),fun y c h=>?_,fun p hp=>absurd (show p∈([]:List (Addr×Obj)) from hp) (by simp),e0.hok.kept hk,?_⟩
 ·exact name_of_addr x.apart (PySem.mem_of_lookup h1) (PySem.mem_of_lookup h2)
 ·have hy:scope.names.lookup y=some .cell\/scope.names.lookup y=some .free:=hy
  rcases hy with hy | hy
  ·exact qo hy
  ·exact absurd rfl (S.nofree _ (PySem.mem_of_lookup hy))
 ·exact Nat.le_of_lt (x.above y c (PySem.mem_of_lookup h))
 ·have hi:i<vs.length:=by
   unfold start at h2
   by_cases hi:i<vs.length
   ·exact hi
   ·rw [List.getElem?_append_right (by simpa using hi)] at h2
    rw [List.getElem?_replicate] at h2
    split at h2 <;> cases h2
  have ha:vs[i]? = some v:=by
   unfold start at h2
   rw [List.getElem?_append_left (by simpa using hi),List.getElem?_map] at h2
   cases e:vs[i]? with
   | none=>rw [e] at h2; cases h2
   | some a=>rw [e] at h2; cases h2; rfl
  obtain ⟨u,hu,rv⟩:=r.get ha
  have hp:ps[i]? = some y:=by
   rw [<- S.pre,List.getElem?_take_of_lt (by omega)]; exact h1
  have ndP:ps.Nodup:=by rw [<- S.pre]; exact S.nd.sublist (List.take_sublist _ _)
  refine ⟨u,rv,?_⟩
  rcases S.par y (List.mem_of_getElem? hp) with k | k
  ·exact .inl ⟨k,mW ndP hp hu k⟩
  ·obtain ⟨c,e⟩:=qo (n:=s.heap.objs.size+1) k
   refine .inr ⟨.inl k,c,e,?_⟩
   have q:=x.cell y c e
   rw [mY ndP hp hu (by show scope.names.lookup y≠_; rw [k]; decide)] at q
   exact q
 ·exact e0.hok.fresh (Nat.le_of_lt (x.above y c (PySem.mem_of_lookup h)))
 ·unfold start
  show _=N.length
  rw [List.length_append,List.length_map,List.length_replicate]
  omega
theorem Bj {CX:qz} {P:Program} {w:World} {K:PySem.W.Frag} {mg:Str->Option Value} {base:Heap} {k:Nat} {f:Addr} {name qual:Str} {params:Arguments} {body:List Stmt} {scope:Scope} {dV kV doc pm cdv ct oc:Value} {an od:Option Addr}
  {osl:Array (Option Value)} {N ps:List Str} {sp:Sp} (lk:K.lookup f=some ⟨oc,od,.func (PySem.W.fnOf name qual params body scope dV kV doc pm an cdv ct),osl⟩) (hcd:PySem.W.codeIn K cdv qual=true) (S:FnScope N ps scope)
  (len:∀ vs H Q E,sp vs H Q E->vs.length=ps.length)
  (hbody:∀ (A:Around) (outer:List Env) (s:Shared) (H:Hp) (vs:List V) (Q:VK) (E:XK),Room k (A.deeper (envOfC qual scope s.heap.objs.size f cdv))->sp vs H Q E ->
   ∃ t,PSs (qh CX P w K mg base N qual scope f cdv A outer s H E) body t/\t { nx:=fun _ H'=>Q .non H',rt:=Q } (start N vs) H) :
  FnOk P w K mg base CX (k+1) f (PySem.W.fnOf name qual params body scope dV kV doc pm an cdv ct) ps sp:=by
 refine ⟨len,fun A outer s H args us vs Q E hr e0 hb r hsp=>?_⟩
 have hl:=len _ _ _ _ hsp
 have KX:K.In s.heap:=e0.mod.kin.keeps fun b o e=>(e0.bs b o e).1
 have lim:s.heap.NoLimit:=e0.mod.nolimit.keeps fun b o e=>(e0.bs b o e).1
 have hkind:∀ y∈ps.zip us,scope.names.lookup y.1=some .local\/(scope.names.lookup y.1=some .cell/\((cellsFrom (s.heap.objs.size+1) scope.names []).lookup y.1).isSome=true):=fun ⟨n,v⟩ hy=>by
  rcases S.par n (List.of_mem_zip hy).1 with q | q
  ·exact .inl q
  ·exact .inr ⟨q,PySem.W.cellsFrom_some _ _ _ (.inl q)⟩
 refine codeAny_call_function hr.depth (KX _ _ lk) rfl S.co S.gen rfl (PySem.W.codeRec_of KX hcd) (hb _ _ _ _ ?_)
 refine wpAny_newFunctionEnv_cells S.kind hkind fun env he s1 x=>?_
 subst he
 refine ⟨lim.keeps x.toInCall.keep,codeAny_func ?_⟩
 obtain ⟨t,ht,hq⟩:=hbody A outer s H vs Q E (hr.deeper _) hsp
 have I:Inv (qh CX P w K mg base N qual scope f cdv A outer s H E) [] (start N vs) H s1:=uX S hr.hd e0 hl r x
 refine wpAny_mono (ht [] s1 (start N vs) H _ I hq) (fun fl s' hs=>?_) fun e s' hs=>hs
 have fin:∀ {σ':St} {H':Hp} {v:V} {u:Value},Inv (qh CX P w K mg base N qual scope f cdv A outer s H E) [] σ' H' s'->RelV v u->Q v H'->CE outer P w H s Q u s':=
  fun {σ' H' v u} J rv q=>⟨v,H',J.os,J.bare,J.base,J.hok,rv,q⟩
 cases fl with
 | ret u=>
  obtain ⟨v,σ',H',J,rv,q⟩:=hs
  exact fin J rv q
 | next=>
  obtain ⟨σ',H',J,q⟩:=hs
  exact fin (v:=V.non) (u:=Value.none) J rfl q
 | brk=>
  obtain ⟨_,_,_,q⟩:=hs
  exact False.elim q
 | cont=>
  obtain ⟨_,_,_,q⟩:=hs
  exact False.elim q
end L2
namespace L2
open PySem PySem.Spec PyProof.Rows
section
variable {X:Cx} {x:Str} {p pos:Pos} {e:Expr} {es:List Expr} {t:TA} {id T:String} {r:List V->Hp->VK->Prop}
noncomputable def Il (r:List V->Hp->VK->Prop) (t:TA):TE:=fun σ H Q=>t σ H fun vs H1=>r vs H1 Q
theorem f7 (hc:CallR X (.builtin id) r) (hg:Gl X x) (hm:X.mg x=none) (hv:bootBuiltins x=some (.builtin id)) (ha:PA X (e::es) t) (hn:x ≠ "__name__":=by decide) (hdb:(x==("__debug__":Str))=false:=by decide)
  (he:starEach (e::es) X.env=(false,eval e X.env)::starEach es X.env:=by rfl) (hpl:(backTo pos (starEach es X.env)).any (·.1)=false:=by rfl):PE X (.Call (.Name x p) (e::es) [] pos) (Il r t):=by
 intro pins s σ H Q I h
 refine wpAny_Call_Name_kw (fG I hg hm hv ?_ hn hdb)
 exact PyProof.Rows.callWith_builtin1 (bN (ha pos pins s σ H _ I h) fun us s1 ⟨vs,H1,I1,r1,q1⟩=>hc pins s1 σ H1 vs us Q I1 r1 q1) he hpl
theorem mB (hc:CallR X (.type T) r) (hg:Gl X x) (hm:X.mg x=none) (hv:bootBuiltins x=some (.type T)) (ha:PA X (e::es) t) (hn:x ≠ "__name__":=by decide) (hdb:(x==("__debug__":Str))=false:=by decide)
  (he:starEach (e::es) X.env=(false,eval e X.env)::starEach es X.env:=by rfl) (hpl:(backTo pos (starEach es X.env)).any (·.1)=false:=by rfl):PE X (.Call (.Name x p) (e::es) [] pos) (Il r t):=by
 intro pins s σ H Q I h
 refine wpAny_Call_Name_kw (fG I hg hm hv ?_ hn hdb)
 exact PyProof.Rows.callWith_type1 (bN (ha pos pins s σ H _ I h) fun us s1 ⟨vs,H1,I1,r1,q1⟩=>hc pins s1 σ H1 vs us Q I1 r1 q1) he hpl
end
end L2
namespace HT
open PySem PyProof.Rows
section
open PySem.SeqAt
open PySem.AutoSeq1 (wpAny_loadPart')
open PySem.MeetsSeq PySem.MeetsSeq2 PySem.MeetsSeq3
end
section
variable {prog:Program} {w:World} {A:Around} {E:Value->Shared->Prop} {s:Shared}
theorem Ax {t b:Addr} {vs ws:List Value} {Q:Value->Shared->Prop} (ht:IsTup s.heap t vs.toArray) (hb:IsTup s.heap b ws.toArray) (hv:vs≠[])
  (h1:ws=[]->Q (.ref t) s) (h2:ws≠[]->Q (.ref s.heap.objs.size) { s with heap:=s.heap.push { cls:=.type "tuple",data:=.seq (vs++ws).toArray } })
  (hsz:vs.length+ws.length<=sizeLine):wpAny (model prog w) A (binaryOp .Add (.ref t) (.ref b)) Q E s:=by
 obtain ⟨⟨cls,dd,data,sl⟩,ho,hc,n,hd⟩:=id ht
 obtain ⟨⟨cls2,dd2,data2,sl2⟩,ho2,hc2,n2,hd2⟩:=id hb
 simp only at hc hd hc2 hd2
 subst hc hd hc2 hd2
 have e:vs.toArray++ws.toArray=(vs++ws).toArray:=by simp
 by_cases hw:ws=[]
 ·exact concat_meets ⟨_,ho,rfl⟩ ⟨_,ho2,rfl⟩ noFill_tuple_add seq_tuple_add PySem.F.slot_tuple_add PySem.F.entry_tuple_add (PySem.F.args_tuple_add_2 _ _)
   (tuple_addW1 t b vs.toArray ws.toArray n n2 dd dd2 sl sl2 (by simpa using hv) (by simp [hw])) ⟨ho,ho2,h1 hw⟩
 ·refine concat_meets ⟨_,ho,rfl⟩ ⟨_,ho2,rfl⟩ noFill_tuple_add seq_tuple_add PySem.F.slot_tuple_add PySem.F.entry_tuple_add (PySem.F.args_tuple_add_2 _ _)
   (tuple_addW2 t b vs.toArray ws.toArray n n2 dd dd2 sl sl2 (by simpa using hv) (by simpa using hw) (by rw [List.size_toArray,List.size_toArray]; exact hsz)) ⟨ho,ho2,?_⟩
  rw [e]
  exact h2 hw
noncomputable def sIx (n d:Nat):Option Int->Nat
 | none=>d
 | some v=>if v<0 then (v+(n:Int)).toNat else min v.toNat n
theorem BZ (n d:Nat) (hd:d<=n) (o:Option Int):sIx n d o<=n:=by
 cases o with
 | none=>exact hd
 | some v=>
  show (if v<0 then (v+(n:Int)).toNat else min v.toNat n)<=n
  by_cases hv:v<0
  ·rw [if_pos hv]; omega
  ·rw [if_neg hv]; exact Nat.min_le_right _ _
theorem tU (v:Int) (n d:Nat):(if v<0 then max (v+(n:Int)) 0 else min v (n:Int))=((sIx n d (some v):Nat):Int):=by
 show (if v<0 then max (v+(n:Int)) 0 else min v (n:Int))=(((if v<0 then (v+(n:Int)).toNat else min v.toNat n):Nat):Int)
 by_cases hv:v<0
 ·simp only [if_pos hv]; omega
 ·simp only [if_neg hv]; omega
theorem rR (lo hi:Option Int) (n:Nat):Builtin.Slice.sliceAdjust lo hi 1 (n:Int)=(((sIx n 0 lo:Nat):Int),((sIx n n hi:Nat):Int)):=by
 have h1:¬ ((1:Int)<0):=by omega
 unfold Builtin.Slice.sliceAdjust
 simp only [h1,if_false]
 refine Prod.ext ?_ ?_
 ·cases lo with
  | none=>rfl
  | some v=>exact tU v n 0
 ·cases hi with
  | none=>rfl
  | some v=>exact tU v n n
theorem qR (i j:Nat):Builtin.Slice.slicePlaces (i:Int) (j:Int) 1=j-i:=by
 unfold Builtin.Slice.slicePlaces
 have h1:(1:Int)>0:=by omega
 simp only [h1,if_true,Int.ediv_one]
 split <;> omega
theorem ki {v:Value} {o:Option Int} {Q:Option Int->Shared->Prop} (p:IsPart v o) (h:Q o s):wpAny (model prog w) A (Builtin.Slice.slicePartIndex v) Q E s:=by
 cases p with
 | none=>exact slicePart_none h
 | int i t=>exact slicePart_int h
theorem eO {sl:Addr} {vl vu:Value} {lo hi:Option Int} {n:Nat} {Q:Int×Int×Nat->Shared->Prop} (hs:s.heap.IsSliceOf sl vl vu .none) (pl:IsPart vl lo) (pu:IsPart vu hi)
  (h:Q (((sIx n 0 lo:Nat):Int),1,sIx n n hi-sIx n 0 lo) s):wpAny (model prog w) A (Builtin.Slice.sliceApplied (.ref sl) (pure (n:Int))) Q E s:=by
 obtain ⟨os,hos,hcs,hds⟩:=id hs
 unfold Builtin.Slice.sliceApplied Builtin.Slice.sliceFields
 refine wpAny_bind (wpAny_bind (wpAny_field hos hds (x:=vl) rfl (wpAny_bind (wpAny_field hos hds (x:=vu) rfl (wpAny_bind (wpAny_field hos hds (x:=.none) rfl (wpAny_pure ?_)))))))
 refine wpAny_bind (slicePart_none ?_)
 show wpAny _ _ (if ((1:Int)==0)=true then _ else _) _ _ s
 rw [if_neg (by decide)]
 refine wpAny_bind (ki pl (wpAny_bind (ki pu (wpAny_bind (wpAny_pure ?_)))))
 show wpAny _ _ (match Builtin.Slice.sliceAdjust lo hi 1 (n:Int) with | (lo,hi)=>pure (lo,(1:Int),Builtin.Slice.slicePlaces lo hi 1)) _ _ s
 rw [rR lo hi n]
 show wpAny _ _ (pure (((sIx n 0 lo:Nat):Int),(1:Int),Builtin.Slice.slicePlaces ((sIx n 0 lo:Nat):Int) ((sIx n n hi:Nat):Int) 1)) _ _ s
 rw [qR]
 exact wpAny_pure h
theorem wx (xs:Array Value) (i k:Nat):((List.range k).filterMap fun (m:Nat)=>xs[((i:Int)+(m:Int)*1).toNat]?).toArray=((xs.toList.drop i).take k).toArray:=by
 have e:(fun (m:Nat)=>xs[((i:Int)+(m:Int)*1).toNat]?)=fun m=>xs[i+m]?:=by
  funext m
  have:((i:Int)+(m:Int)*1).toNat=i+m:=by omega
  rw [this]
 rw [e]
 have:=pick_run xs i k
 rw [List.filterMap_map] at this
 have e2:((fun x=>xs[x]?) ∘ fun x=>i+x)=fun m=>xs[i+m]?:=rfl
 rw [e2] at this
 rw [this]
theorem iH {t sl:Addr} {items:Array Value} {vl vu:Value} {lo hi:Option Int} {Q:Value->Shared->Prop} (ht:IsTup s.heap t items) (hs:s.heap.IsSliceOf sl vl vu .none) (pl:IsPart vl lo) (pu:IsPart vu hi)
  (hw:¬ (sIx items.size 0 lo=0/\sIx items.size items.size hi=items.size))
  (h:Q (.ref s.heap.objs.size) { s with heap:=s.heap.push { cls:=.type "tuple",data:=.seq ((items.toList.drop (sIx items.size 0 lo)).take (sIx items.size items.size hi-sIx items.size 0 lo)).toArray } })
  (hsz:items.size<=sizeLine):wpAny (model prog w) A (getItem (.ref t) (.ref sl)) Q E s:=by
 have htake:sizeOk (.seq ((items.toList.drop (sIx items.size 0 lo)).take (sIx items.size items.size hi-sIx items.size 0 lo)).toArray):=by
  show ((items.toList.drop (sIx items.size 0 lo)).take (sIx items.size items.size hi-sIx items.size 0 lo)).toArray.size<=sizeLine
  rw [List.size_toArray,List.length_take,List.length_drop,Array.length_toList]
  omega
 have hj:sIx items.size items.size hi<=items.size:=BZ _ _ (Nat.le_refl _) hi
 obtain ⟨os,hos,hcs,hds⟩:=id hs
 have hTs:s.TypeIs (.ref sl) "slice":=⟨os,hos,hcs⟩
 unfold getItem
 try with_reducible refine wpAny_holding ?_
 first | refine wpAny_bind (wpAny_pure ?_) | skip
 refine wpAny_bind (wpAny_sequenceKey ht.typeIs (by decide) ?_)
 refine wpAny_bind (wpAny_callSpecial?_slot (name:=Str.ofString "__getitem__") ht.typeIs PyProof.Rows.slot_tuple_getitem
  (wpAny_call_entry PyProof.Rows.slot_tuple_getitem ht.typeIs entry_tuple_getitem ?_ (args_tuple_getitem _ _)))
 show wpAny _ _ (Builtin.Tuple.tupleItemsOf (.ref t) >>= _) _ _ s
 refine wpAny_bind (tupleItemsOf_ ht ?_)
 refine wpAny_bind (wpAny_typeOf hTs ?_)
 rw [if_pos (by decide)]
 refine wpAny_bind (eO hs pl pu ?_)
 have hno:¬ ((((sIx items.size 0 lo:Nat):Int)==0&&(1:Int)==1&&(sIx items.size items.size hi-sIx items.size 0 lo)==items.size)=true):=by
  intro q
  rw [Bool.and_eq_true,Bool.and_eq_true] at q
  have q1:((sIx items.size 0 lo:Nat):Int)=0:=eq_of_beq q.1.1
  have q2:sIx items.size items.size hi-sIx items.size 0 lo=items.size:=eq_of_beq q.2
  exact hw ⟨by omega,by omega⟩
 show wpAny _ _ (if (((sIx items.size 0 lo:Nat):Int)==0&&(1:Int)==1&&(sIx items.size items.size hi-sIx items.size 0 lo)==items.size)=true then _ else _) _ _ s
 rw [if_neg hno,wx]
 first
  | exact wpAny_bind (m:=Builtin.Tuple.tupleExact _) (wpAny_newObj_type (wpAny_pure ⟨_,rfl,wpAny_pure h⟩) htake)
  | exact wpAny_bind (m:=Builtin.Tuple.tupleExact _) (wpAny_newObj_type (wpAny_bind (wpAny_pure (wpAny_pure ⟨_,rfl,wpAny_pure h⟩))) htake)
  | exact wpAny_bind (wpAny_bind (m:=Builtin.Tuple.tupleExact _) (wpAny_newObj_type (wpAny_pure (wpAny_pure ⟨_,rfl,wpAny_pure h⟩)) htake))
  | exact wpAny_bind (wpAny_bind (m:=Builtin.Tuple.tupleExact _) (wpAny_newObj_type (wpAny_pure ⟨_,rfl,wpAny_pure h⟩) htake))
end
end HT
namespace L2
open PySem PySem.Spec PyProof.Rows
noncomputable abbrev TO:=St->Hp->(Option Int->Hp->Prop)->Prop
noncomputable def PO (X:Cx) (e:Option Expr) (t:TO):Prop:=
 ∀ (pins:List (Addr×Obj)) (s:Shared) (σ:St) (H:Hp) (Q:Option Int->Hp->Prop),Inv X pins σ H s->t σ H Q ->
  wpAny (model X.prog X.w) X.A (evalPart e X.env) (fun u s'=>∃ o H',Inv X pins σ H' s'/\IsPart u o/\Q o H') X.xe s
noncomputable def yJ:TO:=fun _ H Q=>Q none H
noncomputable def DX (t:TE):TO:=fun σ H Q=>t σ H fun x H1=>∃ i,x=.int i/\Q (some i) H1
section
variable {X:Cx} {e:Expr} {te:TE} {lo hi:Option Expr} {tl th:TO} {pos p2:Pos}
theorem zx:PO X none yJ:=by
 intro pins s σ H Q I h
 rw [evalPart_none]
 exact wpAny_pure ⟨none,H,I,.none,h⟩
theorem zw (h:PE X e te):PO X (some e) (DX te):=by
 intro pins s σ H Q I hw
 rw [evalPart_some]
 refine bN (h pins s σ H _ I hw) fun u s1 ⟨x,H1,I1,r1,q1⟩=>?_
 obtain ⟨i,rfl,q⟩:=q1
 obtain ⟨t,rfl⟩:=r1
 exact ⟨some i,H1,I1,.int i t,q⟩
noncomputable def SlR (X:Cx) (r:V->Option Int->Option Int->Hp->VK->Prop):Prop:=
 ∀ (pins:List (Addr×Obj)) (s:Shared) (σ:St) (H:Hp) (x:V) (v vl vu:Value) (lo hi:Option Int) (sl:Addr) (Q:VK),Inv X pins σ H s->RelV x v->s.heap.IsSliceOf sl vl vu .none->IsPart vl lo->IsPart vu hi->r x lo hi H Q ->
  ∃ T id,typeLookup (.type T) "__getitem__" = pure (some (.builtin id))/\s.TypeIs v T/\wpAny (model X.prog X.w) X.A (getItem v (.ref sl)) (EP X pins σ Q) X.xe s
theorem SlR.or {r r':V->Option Int->Option Int->Hp->VK->Prop} (h:SlR X r) (h':SlR X r'):SlR X (fun x lo hi H Q=>r x lo hi H Q\/r' x lo hi H Q):=by
 intro pins s σ H x v vl vu lo hi sl Q I rx hs pl pu q
 rcases q with q | q
 ·exact h pins s σ H x v vl vu lo hi sl Q I rx hs pl pu q
 ·exact h' pins s σ H x v vl vu lo hi sl Q I rx hs pl pu q
noncomputable def IR (r:V->Option Int->Option Int->Hp->VK->Prop) (te:TE) (tl th:TO):TE:=fun σ H Q=>te σ H fun x H1=>tl σ H1 fun l H2=>th σ H2 fun u H3=>r x l u H3 Q
theorem wz {r:V->Option Int->Option Int->Hp->VK->Prop} (hr:SlR X r) (he:PE X e te) (hl:PO X lo tl) (hu:PO X hi th):PE X (.Subscript e (.Slice lo hi none p2) pos) (IR r te tl th):=by
 intro pins s σ H Q I h
 refine Subscript_ (bN (he pins s σ H _ I h) fun v s1 ⟨x,H1,I1,r1,q1⟩=>?_)
 refine wpAny_Slice (bN (hl pins s1 σ H1 _ I1 q1) fun vl s2 ⟨l,H2,I2,pl,q2⟩=>bN (hu pins s2 σ H2 _ I2 q2) fun vu s3 ⟨u,H3,I3,pu,q3⟩=>?_)
 rw [evalPart_none]
 refine wpAny_pure ?_
 have I4:Inv X pins σ H3 { s3 with heap:=s3.heap.push { cls:=.type "slice",data:=.fields #[vl,vu,.none] } }:=I3.kept (t':=s3.toks) fun b ob q=>Heap.get?_push_of_some _ q
 obtain ⟨T,id,hT,ht,hg⟩:=hr pins { s3 with heap:=s3.heap.push { cls:=.type "slice",data:=.fields #[vl,vu,.none] } } σ H3 x v vl vu l u s3.heap.objs.size Q I4 r1 (Heap.IsSliceOf.new ..) pl pu q3
 show wpAny (model X.prog X.w) X.A (subscriptTail e (.Slice lo hi none p2) v (.ref s3.heap.objs.size)) (EP X pins σ Q) X.xe { s3 with heap:=s3.heap.push { cls:=.type "slice",data:=.fields #[vl,vu,.none] } }
 exact tail_any (ops:=[.ref s3.heap.objs.size,v]) ht hT hg (by with_unfolding_all rfl)
noncomputable def lU (xs:List V) (lo hi:Option Int):List V:=(xs.drop (HT.sIx xs.length 0 lo)).take (HT.sIx xs.length xs.length hi-HT.sIx xs.length 0 lo)
theorem jD (xs:List V) (lo hi:Option Int):(lU xs lo hi).length<=xs.length:=by
 unfold lU
 rw [List.length_take,List.length_drop]
 omega
noncomputable def GZ (K:PySem.W.Frag):V->Option Int->Option Int->Hp->VK->Prop:=fun x lo hi H Q=>∃ a xs,x=.ref a/\SqT K H a xs /\
 ¬ (HT.sIx xs.length 0 lo=0/\HT.sIx xs.length xs.length hi=xs.length)/\∀ p,H p=none->Q (.ref p) (upd H p (.tup (lU xs lo hi)))
theorem sl_tup:SlR X (GZ X.K):=by
 intro pins s σ H x v vl vu lo hi sl Q I rx hs pl pu h
 obtain ⟨a,xs,rfl,hx,hw,q⟩:=h
 cases rx
 obtain ⟨its,r,ht,hz⟩:=I.tuple hx
 have hlen:its.toArray.size=xs.length:=by rw [List.size_toArray]; exact r.length.symm
 refine ⟨"tuple",_,PyProof.Rows.slot_tuple_getitem.lookup,ht.typeIs,?_⟩
 refine HT.iH ht hs pl pu (by rw [hlen]; exact hw) ?_ (by rw [hlen]; exact hz)
 rw [hlen]
 refine ⟨.ref s.heap.objs.size,_,I.laid (t':=s.toks) (o:=.tup (lU xs lo hi)) (fun b ob q=>Heap.get?_push_of_some _ q) (Nat.le_refl _) ?_,rfl,q _ (I.hok.fresh (Nat.le_refl _))⟩
 exact ⟨Nat.le_trans (jD xs lo hi) hz,_,(r.drop (HT.sIx xs.length 0 lo)).take (HT.sIx xs.length xs.length hi-HT.sIx xs.length 0 lo),IsTup.new _ _,NoDi.new _ _⟩
noncomputable def EI (K:PySem.W.Frag):R2:=fun x y H Q=>∃ a b xs ys,x=.ref a/\y=.ref b/\SqT K H a xs/\SqT K H b ys/\xs≠[]/\xs.length+ys.length<=sizeLine /\
 (ys=[]->Q (.ref a) H)/\(ys≠[]->∀ p,H p=none->Q (.ref p) (upd H p (.tup (xs++ys))))
theorem Vals.nil_iff {xs:List V} {us:List Value} (r:Vals xs us):us=[]↔xs=[]:=by
 cases r with
 | nil=>simp
 | cons _ _=>simp
theorem zN:OpR X (binaryOp .Add) (EI X.K):=by
 intro pins s σ H x y v u Q I rx ry h
 obtain ⟨a,b,xs,ys,rfl,rfl,ha,hb,hx,hz,q1,q2⟩:=h
 cases rx
 cases ry
 obtain ⟨its,r1,p1,_⟩:=I.tuple ha
 obtain ⟨its2,r2,p2,_⟩:=I.tuple hb
 refine HT.Ax p1 p2 (fun z=>hx (r1.nil_iff.mp z)) (fun z=>⟨.ref a,H,I,rfl,q1 (r2.nil_iff.mp z)⟩) (fun z=>?_) (by rw [<- r1.length,<- r2.length]; exact hz)
 refine ⟨.ref s.heap.objs.size,_,I.laid (t':=s.toks) (o:=.tup (xs++ys)) (fun b ob q=>Heap.get?_push_of_some _ q) (Nat.le_refl _) ?_,rfl,q2 (fun w=>z (r2.nil_iff.mpr w)) _ (I.hok.fresh (Nat.le_refl _))⟩
 exact ⟨by rw [List.length_append]; exact hz,_,r1.append r2,IsTup.new _ _,NoDi.new _ _⟩
end
end L2
namespace L2
open PySem PySem.Spec PyProof.Rows
noncomputable def yt (n:Nat) (i:Int):Option Nat:=if 0<=i then (if i<n then some i.toNat else none) else if -(n:Int)<=i then some (i+n).toNat else none
noncomputable def gO {α:Type} (xs:List α) (i:Int):Option α:=(yt xs.length i).bind fun j=>xs[j]?
theorem tu {n:Nat} {i:Int} {j:Nat} (h:yt n i=some j):seqIndex? i n=some j/\j<n /\ -(n:Int)<=i/\i<n:=by
 unfold yt at h
 by_cases h0:0<=i
 ·rw [if_pos h0] at h
  by_cases h1:i<n
  ·rw [if_pos h1] at h
   have e:i.toNat=j:=Option.some.inj h
   exact ⟨by rw [seqIndex_of h0 h1,e],by omega,by omega,h1⟩
  ·rw [if_neg h1] at h; cases h
 ·rw [if_neg h0] at h
  by_cases h1:-(n:Int)<=i
  ·rw [if_pos h1] at h
   have e:(i+n).toNat=j:=Option.some.inj h
   exact ⟨by rw [seqIndex_neg (by omega) h1,e],by omega,h1,by omega⟩
  ·rw [if_neg h1] at h; cases h
theorem t7 {α:Type} {xs:List α} {i:Int} {v:α} (h:gO xs i=some v):∃ j,seqIndex? i xs.length=some j/\xs[j]? = some v/\j<xs.length /\ -(xs.length:Int)<=i/\i<xs.length:=by
 unfold gO at h
 cases e:yt xs.length i with
 | none=>rw [e] at h; cases h
 | some j=>
  rw [e] at h
  obtain ⟨h1,h2,h3,h4⟩:=tu e
  exact ⟨j,h1,h,h2,h3,h4⟩
noncomputable def oM (b:Expr):Prop:=∀ o i,subscripted b false o i=operate [o,i] (getItem o i)
noncomputable def IxR (X:Cx) (r:R2):Prop:=
 ∀ (value slice:Expr) (pins:List (Addr×Obj)) (s:Shared) (σ:St) (H:Hp) (x y:V) (v u:Value) (Q:VK),Inv X pins σ H s->RelV x v->RelV y u->r x y H Q ->
  subscripted slice false v u=operate [v,u] (getItem v u)->wpAny (model X.prog X.w) X.A (subscriptTail value slice v u) (EP X pins σ Q) X.xe s
noncomputable def MtR (X:Cx) (id:String) (r:V->List V->Hp->VK->Prop):Prop:=
 ∀ (pins:List (Addr×Obj)) (s:Shared) (σ:St) (H:Hp) (x:V) (xs:List V) (v:Value) (us:List Value) (Q:VK),Inv X pins σ H s->RelV x v->Vals xs us->r x xs H Q ->
  wpAny (model X.prog X.w) X.A (call (.builtin id) (v::us)) (EP X pins σ Q) X.xe s
section
variable {X:Cx} {a b:Expr} {ta tb:TE} {pos:Pos}
theorem IxR.or {r r':R2} (h:IxR X r) (h':IxR X r'):IxR X (fun x y H Q=>r x y H Q\/r' x y H Q):=by
 intro value slice pins s σ H x y v u Q I rx ry q hs
 rcases q with q | q
 ·exact h value slice pins s σ H x y v u Q I rx ry q hs
 ·exact h' value slice pins s σ H x y v u Q I rx ry q hs
theorem MtR.or {id:String} {r r':V->List V->Hp->VK->Prop} (h:MtR X id r) (h':MtR X id r'):MtR X id (fun x xs H Q=>r x xs H Q\/r' x xs H Q):=by
 intro pins s σ H x xs v us Q I rx rs q
 rcases q with q | q
 ·exact h pins s σ H x xs v us Q I rx rs q
 ·exact h' pins s σ H x xs v us Q I rx rs q
theorem A6 {r:R2} (hr:IxR X r) (ha:PE X a ta) (hb:PE X b tb) (hs:oM b):PE X (.Subscript a b pos) (DY r ta tb):=by
 intro pins s σ H Q I h
 exact Subscript_ (Dk ha hb I h fun v u s2 x y H2 I2 rx ry q=>hr a b pins s2 σ H2 x y v u Q I2 rx ry q (hs _ _))
noncomputable def G2 (K:PySem.W.Frag):R2:=fun x y H Q=>∃ p xs i v,x=.ref p/\y=.int i/\SqL K H p xs/\gO xs i=some v/\Q v H
noncomputable def G1 (K:PySem.W.Frag):R2:=fun x y H Q=>∃ p xs i v,x=.ref p/\y=.int i/\SqT K H p xs/\gO xs i=some v/\Q v H
theorem ix_list:IxR X (G2 X.K):=by
 intro value slice pins s σ H x y v u Q I rx ry h hs
 obtain ⟨p,xs,i,z,rfl,rfl,hq,he,q⟩:=h
 cases rx
 obtain ⟨t,rfl⟩:=ry
 obtain ⟨its,r,pl,hz⟩:=I.list hq
 obtain ⟨j,h1,h2,h3,h4,h5⟩:=t7 he
 obtain ⟨w,ew,rw'⟩:=r.get h2
 have hl:=r.length
 have hn:=nY
 have fin:EP X pins σ Q w s:=⟨z,H,I,rw',q⟩
 by_cases h0:0<=i
 ·have hj:i.toNat=j:=by
   rw [seqIndex_of h0 h5] at h1
   exact Option.some.inj h1
  exact item_listR pl.isList h0 (by omega) (by rw [hj]; simpa using ew) fin hs
 ·have hj:(i+(its.toArray.size:Int)).toNat=j:=by
   rw [seqIndex_neg (by omega) h4] at h1
   rw [List.size_toArray,<- hl]
   exact Option.some.inj h1
  exact subscriptTail_builtinR (x:=w) pl.isList.typeIs slot_list_getitem.lookup
   (wpAny_getItem_list_neg (Q:=fun r s'=>r=w/\EP X pins σ Q r s') pl.isList (by omega) (by rw [List.size_toArray] <;> omega) (by omega) (by rw [hj]; simpa using ew) ⟨rfl,fin⟩) hs
theorem CY:IxR X (G1 X.K):=by
 intro value slice pins s σ H x y v u Q I rx ry h hs
 obtain ⟨p,xs,i,z,rfl,rfl,hq,he,q⟩:=h
 cases rx
 obtain ⟨t,rfl⟩:=ry
 obtain ⟨its,r,pl,hz⟩:=I.tuple hq
 obtain ⟨j,h1,h2,h3,h4,h5⟩:=t7 he
 obtain ⟨w,ew,rw'⟩:=r.get h2
 have hl:=r.length
 have hn:=nY
 have fin:EP X pins σ Q w s:=⟨z,H,I,rw',q⟩
 exact subscriptTail_builtinR (x:=w) pl.typeIs slot_tuple_getitem.lookup
  (getItem_tuple (j:=j) (Q:=fun r s'=>r=w/\EP X pins σ Q r s') pl (by omega) (by omega) (by rw [List.size_toArray,<- hl]; exact h1) (by simpa using ew) ⟨rfl,fin⟩) hs
theorem re (its:List Value) (n j:Nat) (u:Value):Obj.mapSeq (·.setIfInBounds j u) { cls:=.type "list",data:=.seq its.toArray n }={ cls:=.type "list",data:=.seq (its.set j u).toArray n }:=by
 simp [Obj.mapSeq]
theorem Inv.lst {pins:List (Addr×Obj)} {σ:St} {H:Hp} {s:Shared} {p:Addr} {xs:List V} (I:Inv X pins σ H s) (h:H p=some (.lst xs)) :
  ∃ (its:List Value) (n:Nat),Vals xs its/\s.heap.get? p=some { cls:=.type "list",data:=.seq its.toArray n }/\xs.length<=sizeLine:=by
 obtain ⟨z,its,n,r,e⟩:=I.hok p _ h
 exact ⟨its,n,r,e,z⟩
theorem Inv.lstUpd {pins:List (Addr×Obj)} {σ:St} {H:Hp} {s:Shared} {p:Addr} {xs ys:List V} {its its':List Value} {n n':Nat} {f:Obj->Obj} (I:Inv X pins σ H s) (h:H p=some (.lst xs))
  (ho:s.heap.get? p=some { cls:=.type "list",data:=.seq its.toArray n }) (hf:f { cls:=.type "list",data:=.seq its.toArray n }={ cls:=.type "list",data:=.seq its'.toArray n' }) (r:Vals ys its') (hz:ys.length<=sizeLine) (t:Nat) :
  Inv X pins σ (upd H p (.lst ys)) { s with heap:=s.heap.update p f,toks:=t }:=by
 have e:(s.heap.update p f).get? p=some { cls:=.type "list",data:=.seq its'.toArray n' }:=by
  rw [Heap.get?_update_self f ho (by rw [hf] <;> rfl),hf]
 refine I.write (x:=p) (e:=p) (by rw [h]; trivial) (.inl rfl) (fun b u hb q=>(Heap.get?_update_other _ _ (Ne.symm hb)).trans q) ⟨_,e⟩ ?_
 exact ⟨hz,its',n',r,e⟩
noncomputable def EG:V->V->V->Hp->(Hp->Prop)->Prop:=fun o i v H Q=>∃ p xs k j,o=.ref p/\i=.int k/\H p=some (.lst xs)/\yt xs.length k=some j/\Q (upd H p (.lst (xs.set j v)))
theorem vZ:F3 X EG:=by
 intro pins s σ H o i v ov iv u Q I ro ri rv h
 obtain ⟨p,xs,k,j,rfl,rfl,hp,hj,q⟩:=h
 cases ro
 obtain ⟨t,rfl⟩:=ri
 obtain ⟨its,n,r,ho,hz⟩:=I.lst hp
 obtain ⟨h1,h2,h3,h4⟩:=tu hj
 have hl:=r.length
 have hn:=nY
 have I':Inv X pins σ (upd H p (.lst (xs.set j v))) { s with heap:=s.heap.update p (Obj.mapSeq (·.setIfInBounds j u)) }:=
  I.lstUpd hp ho (re its n j u) (r.set rv j) (by rw [List.length_set]; exact hz) s.toks
 by_cases h0:0<=k
 ·have hk:k.toNat=j:=by
   rw [seqIndex_of h0 h4] at h1
   exact Option.some.inj h1
  exact PySem.W.ki_setAt ho h0 (by omega) (by rw [List.size_toArray,<- hl]; exact h4) (by rw [hk]; exact ⟨_,I',q⟩)
 ·have hk:(k+(its.toArray.size:Int)).toNat=j:=by
   rw [seqIndex_neg (by omega) h3] at h1
   rw [List.size_toArray,<- hl]
   exact Option.some.inj h1
  exact PySem.W.ki_setBack ho (by omega) (by rw [List.size_toArray,<- hl]; exact h3) (by omega) (by rw [hk]; exact ⟨_,I',q⟩)
theorem nr (lo hi:Option Int) (n:Nat):(sliceBounds lo hi none n).1=((HT.sIx n 0 lo:Nat):Int)/\(sliceBounds lo hi none n).2.1=((HT.sIx n n hi:Nat):Int)/\(sliceBounds lo hi none n).2.2=1:=by
 refine ⟨?_,?_,rfl⟩
 ·cases lo with
  | none=>simp [sliceBounds,HT.sIx]
  | some i=>
   simp only [sliceBounds,HT.sIx,Option.getD_none,show (1:Int)>0 by decide,if_true]
   by_cases h:i<0
   ·simp only [h,if_true] <;> omega
   ·simp only [h,if_false] <;> omega
 ·cases hi with
  | none=>simp [sliceBounds,HT.sIx]
  | some i=>
   simp only [sliceBounds,HT.sIx,Option.getD_none,show (1:Int)>0 by decide,if_true]
   by_cases h:i<0
   ·simp only [h,if_true] <;> omega
   ·simp only [h,if_false] <;> omega
theorem lE (its:List Value) (lo hi:Option Int):slicePick its.toArray lo hi none=((its.drop (HT.sIx its.length 0 lo)).take (HT.sIx its.length its.length hi-HT.sIx its.length 0 lo)).toArray:=by
 obtain ⟨h1,h2,h3⟩:=nr lo hi its.toArray.size
 unfold slicePick
 rw [h1,h2,h3]
 simp only [sliceRange_one,pick_run,List.size_toArray] <;> rfl
noncomputable def G0 (K:PySem.W.Frag):V->Option Int->Option Int->Hp->VK->Prop:=fun x lo hi H Q=>∃ a xs,x=.ref a/\SqL K H a xs/\∀ p,H p=none->Q (.ref p) (upd H p (.lst (lU xs lo hi)))
theorem sl_list:SlR X (G0 X.K):=by
 intro pins s σ H x v vl vu lo hi sl Q I rx hs pl pu h
 obtain ⟨a,xs,rfl,hx,q⟩:=h
 cases rx
 obtain ⟨its,r,ht,hz⟩:=I.list hx
 have hlen:=r.length
 refine ⟨"list",_,slot_list_getitem.lookup,ht.isList.typeIs,?_⟩
 refine wpAny_getItem_list_slice ht.isList hs pl pu .none (by simp) ?_ (by rw [List.size_toArray] <;> omega)
 rw [lE,<- hlen]
 refine ⟨.ref s.heap.objs.size,_,I.laid (t':=s.toks) (o:=.lst (lU xs lo hi)) (fun b ob q=>Heap.get?_push_of_some _ q) (Nat.le_refl _) ?_,rfl,q _ (I.hok.fresh (Nat.le_refl _))⟩
 exact ⟨Nat.le_trans (jD xs lo hi) hz,_,0,(r.drop (HT.sIx xs.length 0 lo)).take (HT.sIx xs.length xs.length hi-HT.sIx xs.length 0 lo),Heap.get?_push_size _ rfl⟩
noncomputable def gM:V->Bool
 | .non=>true
 | .bl _=>true
 | .int _=>true
 | .str _=>true
 | _=>false
noncomputable def yy:V->V->Bool
 | .non,.non=>true
 | .bl a,.bl b=>a==b
 | .bl a,.int b=>(if a then 1 else 0)==b
 | .int a,.bl b=>a==(if b then 1 else 0)
 | .int a,.int b=>a==b
 | .str a,.str b=>a==b
 | _,_=>false
theorem Df {A:Around} {s:Shared} {y x:V} {u v:Value} (ry:RelV y u) (rx:RelV x v) (fy:gM y=true) (fx:gM x=true):SeqAt.EqAt A s u v (yy y x):=by
 cases y with
 | non=>
  cases ry
  cases x with
  | non=>cases rx; exact SeqAt.EqAt.same _
  | bl b=>cases rx; exact SeqAt.EqAt.none_bool b
  | int b=>obtain ⟨t,rfl⟩:=rx; exact SeqAt.EqAt.none_int b t
  | str b=>obtain ⟨t,rfl⟩:=rx; exact SeqAt.EqAt.none_str b t
  | _=>exact absurd (show false=true from fx) Bool.false_ne_true
 | bl a=>
  cases ry
  cases x with
  | non=>cases rx; exact SeqAt.EqAt.bool_none a
  | bl b=>cases rx; exact SeqAt.EqAt.bool_bool a b
  | int b=>obtain ⟨t,rfl⟩:=rx; exact SeqAt.EqAt.bool_int a b t
  | str b=>obtain ⟨t,rfl⟩:=rx; exact SeqAt.EqAt.bool_str a b t
  | _=>exact absurd (show false=true from fx) Bool.false_ne_true
 | int a=>
  obtain ⟨t',rfl⟩:=ry
  cases x with
  | non=>cases rx; exact SeqAt.EqAt.int_none a t'
  | bl b=>cases rx; exact SeqAt.EqAt.int_bool a t' b
  | int b=>obtain ⟨t,rfl⟩:=rx; exact SeqAt.EqAt.int_int a t' b t
  | str b=>obtain ⟨t,rfl⟩:=rx; exact SeqAt.EqAt.int_str a t' b t
  | _=>exact absurd (show false=true from fx) Bool.false_ne_true
 | str a=>
  obtain ⟨t',rfl⟩:=ry
  cases x with
  | non=>cases rx; exact SeqAt.EqAt.str_none a t'
  | bl b=>cases rx; exact SeqAt.EqAt.str_bool a t' b
  | int b=>obtain ⟨t,rfl⟩:=rx; exact SeqAt.EqAt.str_int a t' b t
  | str b=>obtain ⟨t,rfl⟩:=rx; exact SeqAt.EqAt.str_str a t' b t
  | _=>exact absurd (show false=true from fx) Bool.false_ne_true
 | _=>exact absurd (show false=true from fy) Bool.false_ne_true
noncomputable def rE (x:V) (u:Value):Bool:=match u with
 | .none=>yy .non x
 | .bool b=>yy (.bl b) x
 | .int i _=>yy (.int i) x
 | .str z _=>yy (.str z) x
 | _=>false
theorem xJ {x y:V} {u:Value} (r:RelV y u) (f:gM y=true):rE x u=yy y x:=by
 cases y with
 | non=>cases r; rfl
 | bl b=>cases r; rfl
 | int i=>obtain ⟨t,rfl⟩:=r; rfl
 | str z=>obtain ⟨t,rfl⟩:=r; rfl
 | _=>exact absurd (show false=true from f) Bool.false_ne_true
theorem iU {x:V}:∀ {xs:List V} {us:List Value},Vals xs us->xs.all gM=true->us.any (rE x)=xs.any fun y=>yy y x
 | _,_,.nil,_=>rfl
 | y::xs,u::us,.cons r t,f=>by
  rw [List.all_cons,Bool.and_eq_true] at f
  rw [List.any_cons,List.any_cons,xJ r f.1,iU t f.2]
theorem gd {A:Around} {s:Shared} {x:V} {v:Value} (rx:RelV x v) (fx:gM x=true):∀ {xs:List V} {us:List Value},Vals xs us->xs.all gM=true->∀ u∈us,SeqAt.EqAt A s u v (rE x u)
 | _,_,.nil,_=>fun u hu=>by cases hu
 | y::xs,u::us,.cons r t,f=>fun u' hu=>by
  rw [List.all_cons,Bool.and_eq_true] at f
  rcases List.mem_cons.mp hu with rfl | hu
  ·rw [xJ r f.1]; exact Df r rx f.1 fx
  ·exact gd rx fx t f.2 u' hu
noncomputable def Go (x:V) (xs:List V):Bool:=xs.any fun y=>yy y x
noncomputable def Ge (K:PySem.W.Frag) (neg:Bool):R2:=fun x y H Q=>∃ p xs,y=.ref p/\(SqL K H p xs\/SqT K H p xs)/\gM x=true/\xs.all gM=true/\Q (.bl (if neg then !Go x xs else Go x xs)) H
theorem uG:OpR X (compareOp .In) (Ge X.K false):=by
 intro pins s σ H x y v u Q I rx ry h
 obtain ⟨p,xs,rfl,hq,fx,fs,q⟩:=h
 cases ry
 rcases hq with hq | hq
 ·obtain ⟨its,r,pl,hz⟩:=I.list hq
  refine SeqAt.in_listAt (rE x) pl.isList (fun w hw=>gd rx fx r fs w (by simpa using hw)) ⟨.bl _,H,I,rfl,?_⟩
  rw [show its.toArray.any (rE x)=its.any (rE x) by simp,iU r fs]
  exact q
 ·obtain ⟨its,r,pl,hz⟩:=I.tuple hq
  refine SeqAt.in_tupleAt (rE x) pl (fun w hw=>gd rx fx r fs w (by simpa using hw)) ⟨.bl _,H,I,rfl,?_⟩
  rw [show its.toArray.any (rE x)=its.any (rE x) by simp,iU r fs]
  exact q
theorem nN:OpR X (compareOp .NotIn) (Ge X.K true):=by
 intro pins s σ H x y v u Q I rx ry h
 obtain ⟨p,xs,rfl,hq,fx,fs,q⟩:=h
 cases ry
 rcases hq with hq | hq
 ·obtain ⟨its,r,pl,hz⟩:=I.list hq
  refine SeqAt.notIn_listAt (rE x) pl.isList (fun w hw=>gd rx fx r fs w (by simpa using hw)) ⟨.bl _,H,I,rfl,?_⟩
  rw [show its.toArray.any (rE x)=its.any (rE x) by simp,iU r fs]
  exact q
 ·obtain ⟨its,r,pl,hz⟩:=I.tuple hq
  refine SeqAt.notIn_tupleAt (rE x) pl (fun w hw=>gd rx fx r fs w (by simpa using hw)) ⟨.bl _,H,I,rfl,?_⟩
  rw [show its.toArray.any (rE x)=its.any (rE x) by simp,iU r fs]
  exact q
theorem CallR.or {f:Value} {r r':List V->Hp->VK->Prop} (h:CallR X f r) (h':CallR X f r'):CallR X f (fun xs H Q=>r xs H Q\/r' xs H Q):=by
 intro pins s σ H xs us Q I rs q
 rcases q with q | q
 ·exact h pins s σ H xs us Q I rs q
 ·exact h' pins s σ H xs us Q I rs q
theorem ox:CallR X (.type "list") (fun xs H Q=>∃ p ys,xs=[.ref p]/\(SqL X.K H p ys\/SqT X.K H p ys)/\∀ l,H l=none->Q (.ref l) (upd H l (.lst ys))):=by
 intro pins s σ H xs us Q I r h
 obtain ⟨p,ys,rfl,hq,q⟩:=h
 obtain ⟨u,rfl,rx⟩:=fU r
 cases rx
 have fin:∀ (its:List Value),Vals ys its->ys.length<=sizeLine->∀ (h':Heap) (c':Nat),(∀ b o',s.heap.get? b=some o'->h'.get? b=some o') ->
   h'.get? s.heap.objs.size=some { cls:=.type "list",dict:=none,data:=.seq its.toArray c',slots:=#[] }->EP X pins σ Q (.ref s.heap.objs.size) { s with heap:=h' }:=fun its r' hz h' c' kp e=>
  ⟨.ref s.heap.objs.size,_,I.laid (t':=s.toks) kp (Nat.le_refl _) (show ObjOk X.prog X.w _ h' _ (.lst ys) from ⟨hz,its,c',r',e⟩),rfl,q _ (I.hok.fresh (Nat.le_refl _))⟩
 rcases hq with hq | hq
 ·obtain ⟨its,r',pl,hz⟩:=I.list hq
  have hlen:=r'.length
  obtain ⟨o,ho,hc,n,hd⟩:=pl.isList
  exact call_list_seq p (.inl rfl) ho hc hd (fun h' c' kp e=>fin its r' hz h' c' kp e) (by simp only [List.size_toArray] <;> omega)
 ·obtain ⟨its,r',pl,hz⟩:=I.tuple hq
  have hlen:=r'.length
  obtain ⟨o,ho,hc,n,hd⟩:=pl
  exact call_list_seq p (.inr rfl) ho hc hd (fun h' c' kp e=>fin its r' hz h' c' kp e) (by simp only [List.size_toArray] <;> omega)
theorem lV:CallR X (.type "tuple") (fun xs H Q=>∃ p ys,xs=[.ref p]/\((SqL X.K H p ys/\∀ l,H l=none->Q (.ref l) (upd H l (.tup ys)))\/(SqT X.K H p ys/\Q (.ref p) H))):=by
 intro pins s σ H xs us Q I r h
 obtain ⟨p,ys,rfl,h⟩:=h
 obtain ⟨u,rfl,rx⟩:=fU r
 cases rx
 rcases h with ⟨hq,q⟩ | ⟨hq,q⟩
 ·obtain ⟨its,r',pl,hz⟩:=I.list hq
  have hlen:=r'.length
  refine call_tuple_list pl.isList (fun h' kp=>?_) (by simp only [List.size_toArray] <;> omega)
  have I1:Inv X pins σ H { s with heap:=h' }:=I.kept (t':=s.toks) kp
  have I2:Inv X pins σ (upd H h'.objs.size (.tup ys)) { s with heap:=h'.push { cls:=.type "tuple",data:=.seq its.toArray } }:=
   I1.laid (t':=s.toks) (fun b o e=>Heap.get?_push_of_some _ e) (Nat.le_refl _) (show ObjOk X.prog X.w _ _ _ (.tup ys) from ⟨hz,its,r',IsTup.new _ _,NoDi.new _ _⟩)
  exact ⟨.ref h'.objs.size,_,I2,rfl,q _ (I1.hok.fresh (Nat.le_refl _))⟩
 ·obtain ⟨its,r',pl,hz⟩:=I.tuple hq
  exact call_tuple_same pl ⟨.ref p,H,I,rfl,q⟩
noncomputable def Ia (K:PySem.W.Frag) (T:String) (x:V) (H:Hp):Prop:=match x with
 | .str _=>T = "str"
 | .int _=>T = "int"
 | .ref p=>(T = "list" /\ ∃ xs,SqL K H p xs)\/(T = "tuple" /\ ∃ o,K.lookup p=some o/\o.cls=.type "tuple" /\ o.dict=none) \/
   (T = "dict" /\ ((∃ kvs,H p=some (.dK kvs))\/∃ kvs,H p=some (.dT kvs)))\/(T = "set" /\ ∃ S n,H p=some (.set S n))
 | _=>False
theorem By {pins:List (Addr×Obj)} {σ:St} {H:Hp} {s:Shared} {T:String} {x:V} {v:Value} (I:Inv X pins σ H s) (r:RelV x v) (ty:Ia X.K T x H) :
  s.TypeIs v T/\∀ a,v=.ref a->∃ ob,s.heap.get? a=some ob/\ob.dict=none:=by
 cases x with
 | str z=>
  obtain ⟨t,rfl⟩:=r
  cases (show T = "str" from ty)
  exact ⟨typeIs_str s z t,fun _ e=>nomatch e⟩
 | int i=>
  obtain ⟨t,rfl⟩:=r
  cases (show T = "int" from ty)
  exact ⟨typeIs_int s i t,fun _ e=>nomatch e⟩
 | ref p=>
  cases r
  rcases ty with ⟨rfl,xs,hq⟩ | ⟨rfl,o,hk,hc,hd⟩ | ⟨rfl,hk⟩ | ⟨rfl,S,n,hk⟩
  ·obtain ⟨its,_,pl,_⟩:=I.list hq
   refine ⟨pl.isList.typeIs,fun a e=>?_⟩
   cases e
   obtain ⟨o,n,e,c,hd,_⟩:=pl
   exact ⟨o,e,hd⟩
  ·refine ⟨⟨o,I.kIn p o hk,hc⟩,fun a e=>?_⟩
   cases e
   exact ⟨o,I.kIn _ o hk,hd⟩
  ·have z:∃ o,s.heap.get? p=some o/\o.ExactDict:=by
    rcases hk with ⟨kvs,hk⟩ | ⟨kvs,hk⟩
    ·obtain ⟨_,_,_,_,o,_,_,e,ex,_⟩:=I.hok p _ hk
     exact ⟨o,e,ex⟩
    ·obtain ⟨_,_,_,_,o,_,_,e,ex,_⟩:=I.hok p _ hk
     exact ⟨o,e,ex⟩
   obtain ⟨o,e,ex⟩:=z
   refine ⟨⟨o,e,ex.1⟩,fun a e2=>?_⟩
   cases e2
   exact ⟨o,e,ex.2.1⟩
  ·obtain ⟨o,_,_,_,e,ex,_⟩:=I.hok p _ hk
   refine ⟨⟨o,e,ex.1⟩,fun a e2=>?_⟩
   cases e2
   exact ⟨o,e,ex.2.1⟩
 | _=>exact False.elim ty
noncomputable def IU (K:PySem.W.Frag) (T:String) (r:V->List V->Hp->VK->Prop) (to:TE) (t:TA):TE:=fun σ H Q=>to σ H fun x H1=>Ia K T x H1/\t σ H1 fun xs H2=>r x xs H2 Q
variable {o e:Expr} {es:List Expr} {to:TE} {t:TA} {name:Str} {apos cpos:Pos} {T id:String} {r:V->List V->Hp->VK->Prop}
theorem A7 (pa:PlainAttrs T) (slot:Slot T name id) (hty:typeOf (.builtin id)=pure (.type "method_descriptor")) (hm:MtR X id r) (ho:PE X o to) (ha:PA X (e::es) t)
  (hbase:attributeBase o name X.env (eval o X.env)=eval o X.env:=by rfl)
  (hfew:((backTo cpos (starEach (e::es) X.env)).all (fun x=>!x.1)&&(backToKw cpos (keywordEach [] X.env)).all (fun x=>x.1.isSome)
   && decide ((e::es).length+([]:List Keyword).length+(if ([]:List Keyword).isEmpty then 0 else 1)<30))=true:=by rfl)
  (hline:(apos.endLine==cpos.line)=true:=by rfl) (hs:starEach (e::es) X.env=(false,eval e X.env)::starEach es X.env:=by rfl) (hplain:(backTo cpos (starEach es X.env)).any (·.1)=false:=by rfl) :
  PE X (.Call (.Attribute o name apos) (e::es) [] cpos) (IU X.K T r to t):=by
 intro pins s σ H Q I h
 refine wpAny_Call_method_late hbase hfew hline rfl (bN (ho pins s σ H _ I h) fun v s1 ⟨x,H1,I1,r1,ty,q1⟩=>?_)
 obtain ⟨h1,h2⟩:=By I1 r1 ty
 refine ⟨T,id,pa,slot,hty,h1,h2,?_⟩
 have hA:=ha cpos pins s1 σ H1 _ I1 q1
 rw [hs] at hA ⊢
 refine Calls.callWith_builtin (by show (false||(backTo cpos (starEach es X.env)).any (·.1))=false; rw [hplain] <;> rfl) (Calls.evalArgs_plain ?_)
 exact bN hA fun us s2 ⟨vs,H2,I2,r2,q2⟩=>hm pins s2 σ H2 x vs v us Q I2 r1 r2 q2
end
end L2
namespace L2
open PySem PySem.Spec PyProof.Rows
noncomputable def IH (X:Cx) (id:String) (r:V->List V->Hp->VK->Prop):Prop:=
 ∀ (pins:List (Addr×Obj)) (s:Shared) (σ:St) (H:Hp) (x:V) (xs:List V) (v:Value) (us:List Value) (Q:VK),Inv X pins σ H s->RelV x v->Vals xs us->r x xs H Q ->
  wpAny (model X.prog X.w) X.A (call (.builtin id) (v::us)) (EP X pins σ Q) X.xe s
theorem Vals.one:∀ {x:V} {us:List Value},Vals [x] us->∃ u,us=[u]/\RelV x u
 | _,_,h=>by
  cases h with
  | cons r t=>
   cases t
   exact ⟨_,rfl,r⟩
theorem Vals.two:∀ {x y:V} {us:List Value},Vals [x,y] us->∃ u v,us=[u,v]/\RelV x u/\RelV y v
 | _,_,_,h=>by
  cases h with
  | cons r t=>
   cases t with
   | cons q t2=>
    cases t2
    exact ⟨_,_,rfl,r,q⟩
theorem Vals.zero:∀ {us:List Value},Vals [] us->us=[]
 | _,.nil=>rfl
theorem Vals.eraseIdx:∀ {xs:List V} {us:List Value} (i:Nat),Vals xs us->Vals (xs.eraseIdx i) (us.eraseIdx i)
 | _,_,_,.nil=>.nil
 | _,_,0,.cons _ t=>t
 | _,_,i+1,.cons r t=>.cons r (Vals.eraseIdx i t)
theorem Vals.reverse {xs:List V} {us:List Value} (h:Vals xs us):Vals xs.reverse us.reverse:=by
 induction h with
 | nil=>exact .nil
 | cons r t ih=>rw [List.reverse_cons,List.reverse_cons]; exact Vals.append ih (.cons r .nil)
section
variable {X:Cx} {pins:List (Addr×Obj)} {σ:St} {H:Hp} {s:Shared} {l b:Addr} {xs ys zs:List V}
theorem Inv.lset {its its':List Value} {n:Nat} {f:Array Value->Array Value} {t':Nat} (I:Inv X pins σ H s) (hH:H l=some (.lst xs))
  (e:s.heap.get? l=some { cls:=.type "list",data:=.seq its.toArray n }) (hf:f its.toArray=its'.toArray) (hv:Vals ys its') (hz:ys.length<=sizeLine) :
  Inv X pins σ (upd H l (.lst ys)) { s with heap:=s.heap.update l (Obj.mapSeq f),toks:=t' }:=by
 have q:=PySem.IsL.update e f
 rw [hf] at q
 refine I.write (x:=l) (e:=l) (by rw [hH]; exact trivial) (.inl rfl) (fun b' u hb hu=>(Heap.get?_update_other s.heap (Obj.mapSeq f) (Ne.symm hb)).trans hu) ⟨_,q⟩ ?_
 exact ⟨hz,its',_,hv,q⟩
theorem Inv.lnew {its:List Value} {t':Nat} (I:Inv X pins σ H s) (hv:Vals ys its) (hz:ys.length<=sizeLine) :
  Inv X pins σ (upd H s.heap.objs.size (.lst ys)) { s with heap:=s.heap.push { cls:=.type "list",data:=.seq its.toArray },toks:=t' }:=
 I.laid (fun _ _ q=>Heap.get?_push_of_some _ q) (Nat.le_refl _) ⟨hz,its,0,hv,Heap.get?_push_size _ rfl⟩
theorem Inv.fresh (I:Inv X pins σ H s):H s.heap.objs.size=none:=I.hok.fresh (Nat.le_refl _)
theorem Inv.lstM (I:Inv X pins σ H s) (hH:H l=some (.lst xs)):xs.length<=sizeLine/\∃ (its:List Value) (n:Nat),Vals xs its/\xs.length=its.length/\s.heap.get? l=some { cls:=.type "list",data:=.seq its.toArray n }:=by
 obtain ⟨z,its,n,r,e⟩:=I.hok l _ hH
 exact ⟨z,its,n,r,r.length,e⟩
theorem wT {n:Nat} (h:n<=sizeLine):Builtin.List.listTooLong n=false:=by
 unfold Builtin.List.listTooLong
 exact decide_eq_false (by omega)
end
section
variable {X:Cx}
noncomputable def zm:V->List V->Hp->VK->Prop:=fun x vs H Q=>∃ l xs y,x=.ref l/\vs=[y]/\H l=some (.lst xs)/\xs.length<sizeLine/\Q .non (upd H l (.lst (xs++[y])))
theorem uL:IH X "list.append" zm:=by
 intro pins s σ H x vs v us Q I rx rv h
 obtain ⟨l,xs,y,rfl,rfl,hH,hz,q⟩:=h
 cases rx
 obtain ⟨u,rfl,ru⟩:=rv.one
 obtain ⟨z,its,n,r,hl,e⟩:=I.lstM hH
 refine call_meets F.slot_list_append ⟨_,e,rfl⟩ F.entry_list_append (F.args_list_append_2 _ _) (PySem.list_append l its.toArray n u (by rw [List.size_toArray]; omega)) ⟨e,?_⟩
 refine ⟨.non,_,I.lset (its':=its++[u]) hH e (by simp) (r.append (.cons ru .nil)) ?_,rfl,q⟩
 rw [List.length_append,List.length_singleton]
 omega
end
section
variable {prog:Program} {w:World} {A:Around} {E:Value->Shared->Prop} {s:Shared}
end
section
variable {X:Cx}
end
end L2
namespace Att
open PySem PySem.W PySem.Calls PyProof.Rows
theorem jN {P:Params} {h:Heap}:∀ (ns:List Int) (vs:List Value),WellAll P h vs (ns.map WData.int)->IntsAre vs ns:=by
 intro ns
 induction ns with
 | nil=>
  intro vs w
  rw [List.map_nil] at w
  cases w
  exact .nil
 | cons n ns ih=>
  intro vs w
  rw [List.map_cons] at w
  cases w with
  | cons a b=>
   cases a
   exact .cons _ _ (ih _ b)
theorem ux {l:OpenLaw} {n:Nat} (hn:l.most=some n) {P:Params} {h:Heap} {args:List WData} {vals:List Value}
  (hpre:l.row.toRowW.claim.pre args=true) (hwl:WellAll P h vals args) :
  ∃ a vs ns,vals=[Value.ref a]/\args=[WData.list (ns.map WData.int)]/\h.get? a=some { cls:=.type "list",data:=.seq vs.toArray }/\IntsAre vs ns/\ns.length<=n:=by
 have hsh:WShape.hasAll [] args [.list .int]=true:=(pre_splitW hpre).1
 have hc:l.pre.holds [] { args:=args }=true:=(pre_splitW hpre).2
 obtain ⟨d,r,rfl,h1,h2⟩:=hasAllW_cons hsh
 obtain rfl:=hasAllW_nil h2
 obtain ⟨xs,rfl,h3⟩:=hasW_list h1
 obtain ⟨ns,rfl⟩:=items_int h3
 have hlen:ns.length<=n:=by
  unfold OpenLaw.pre at hc
  have h4:(WTm.not (.lt (.lit (.int (n:Int))) (.len (.arg 0)))).holds [] { args:=[.list (ns.map .int)] }=true:=by
   have h4:=(holds_andW hc).1
   rw [hn] at h4
   exact h4
  have h5:=condW_of h4 (w_not (w_lt w_lit (w_len_list (w_arg rfl))))
  rw [List.length_map] at h5
  refine Nat.le_of_not_lt fun q=>?_
  have q':(n:Int)<((ns.length:Nat):Int):=by omega
  first
   | (rw [decide_eq_true q'] at h5; exact absurd h5 (by decide))
   | (simp at h5; omega)
 cases hwl with
 | cons w1 w2=>
  cases w2
  cases w1 with
  | list ho hall=>exact ⟨_,_,ns,rfl,rfl,ho,jN ns _ hall,hlen⟩
theorem uB (l:OpenLaw) (args:List WData):l.row.toRowW.claim.post args (.bool true) args=true:=
 postW_of (r:=l.row.toRowW) (X:=(true==true))
  (show WShape.has [] (.bool true) .bool=true by first | rfl | decide | simp [WShape.has,WShape.arms,WShape.armsAll])
  (show (WTm.eq .res (.lit (.bool true))).value [] { args:=args,res:=some (.bool true),after:=args }=some (.bool (true==true)) from w_eq_bool (w_res rfl) w_lit) rfl
theorem qt {l:OpenLaw} {n:Nat} {q:Program} {loose:List Str} {XP:(Str->Option Value)->Heap->Prop} {YP:World->Heap->Prop} {d:DefRec}
  (hn:l.most=some n) (hdf:d.params.defaults=[])
  (call:∀ (w:World) (s₀ s₁:Shared) (mg mb:Str->Option Value) (fa:Addr) (o:Obj) (pm cd doc:Value) (a:Addr) (vs:List Value) (ns:List Int),
   Ground q loose [] XP w s₀ mg mb s₁.heap->YP w s₁.heap ->
   s₁.heap.get? fa=some o->o.data=.func (docDef d.name d.params d.body d.scope pm cd doc)->s₁.heap.CodeRec cd d.name->mg d.name=some (.ref fa) ->
   s₁.heap.get? a=some { cls:=.type "list",data:=.seq vs.toArray }->IntsAre vs ns->ns.length<=n->s₁.gens = #[] ->
   codeAny (model l.prog w) callerA (.call (.ref fa) ⟨[.ref a],[]⟩) (fun r s'=>r=.ok (.ret (.bool true))/\OldK s₁.heap s'.heap/\s'.os=s₁.os/\AllBare s'.gens) s₁) :
  WalkO q loose XP YP l.row.toRowW d [] (fun f vs=>PySem.call f vs):=by
 intro w s₀ s₁ mg mb G Y fa o pm cd doc dV kV ho hd hcd hD hmg hg args vals as hpre hlay hrd hwl hlo
 obtain rfl:dV=.none:=Dflts.none hD hdf
 obtain rfl:kV=.none:=Dflts.noKw hD
 obtain ⟨a,vs,ns,rfl,rfl,hobj,hints,hlen⟩:=ux hn hpre hwl
 refine enter_call (codeAny_mono (call w s₀ s₁ mg mb fa o pm cd doc a vs ns G Y ho (fd_plain hd) hcd hmg hobj hints hlen hg) fun r s' hq=>?_)
 obtain ⟨rfl,h2,h3,h4⟩:=hq
 exact ⟨.inl ⟨.bool true,.bool true,[],rfl,fun _=>rfl,.bool true,uB l _,fun _=>⟨List.Pairwise.nil,fun _ hm=>(nomatch hm)⟩⟩,h2,h3,h4⟩
section
variable {prog:Program} {w:World} {A:Around} {E:Value->Shared->Prop} {s:Shared} {K:Frag}
noncomputable def Hi (h:Heap) (L d:Addr):List (Addr×Obj):=(List.range h.objs.size).filterMap fun a=>if a=L\/a=d then none else (h.get? a).map fun o=>(a,o)
end
end Att
namespace L2
open PySem PySem.Spec PyProof.Rows
theorem db:∀ {vs:List Value} {ns:List Int},IntsAre vs ns->Vals (ns.map V.int) vs
 | _,_,.nil=>.nil
 | _,_,.cons n t h=>.cons ⟨t,rfl⟩ (db h)
noncomputable def DB (H:Hp):Prop:=∀ b,H b=none\/∃ o xs,H b=some (.frz o (.lst xs))
theorem xg {P:Program} {w:World} {K:PySem.W.Frag} {mg mb:Str->Option Value} {CX:qz} {k:Nat} {fa a:Addr} {fd:FuncData} {x:Str} {sp:Sp} {s₁:Shared} {vs:List Value} {ns:List Int}
  (KX:K.In s₁.heap) (hns:s₁.heap.Ns mainGlobals mg) (hb:s₁.heap.Ns builtinsNs mb) (hbb:∀ x:Str,x ≠ "__name__" -> mb x=bootBuiltins x) (hlim:s₁.heap.NoLimit) (hg:s₁.gens = #[])
  (ha:s₁.heap.get? a=some { cls:=.type "list",data:=.seq vs.toArray }) (hi:IntsAre vs ns) (hl:ns.length<=sizeLine) (hr:Room k callerA)
  (F:∀ base:Heap,K.In base->base.Ns mainGlobals mg->FnOk P w K mg base CX k fa fd [x] sp) (hbind:∀ (s:Shared) (u:Value),BindsTo s fd ⟨[u],[]⟩ [(x,u)])
  (hsp:∀ H:Hp,DB H->SqL K H a (ns.map V.int)->sp [.ref a] H (fun v _=>v=.bl true) fun _ _ _=>False)
  (hCX:∀ H e s',CX [] H s₁ (fun _ _ _=>False) e s'->False) :
  codeAny (model P w) callerA (.call (.ref fa) ⟨[.ref a],[]⟩) (fun r s'=>r=.ok (.ret (.bool true))/\OldK s₁.heap s'.heap/\s'.os=s₁.os/\AllBare s'.gens) s₁:=by
 have rv:=db hi
 have lenV:=hi.length
 have core:∀ H:Hp,DB H->SqL K H a (ns.map V.int)->HOk P w H s₁.heap->(∀ b,H b≠none->b=a)->(H a≠none->K.lookup a=none) ->
   codeAny (model P w) callerA (.call (.ref fa) ⟨[.ref a],[]⟩) (fun r s'=>r=.ok (.ret (.bool true))/\OldK s₁.heap s'.heap/\s'.os=s₁.os/\AllBare s'.gens) s₁:=by
  intro H hO hS hok hA hK
  have base_of:∀ {b:Addr} {o:Obj},s₁.heap.get? b=some o->H b=none->(og s₁.heap H).get? b=some o:=fun e n=>xu e n
  have noA:∀ {b:Addr} {o:Obj} {es:Array DictEntry} {ep:Nat},s₁.heap.get? b=some o->o.data=.dict es ep->H b=none:=fun {b o es ep} e d=>by
   cases q:H b with
   | none=>rfl
   | some u=>
    have e':b=a:=hA b (by rw [q]; simp)
    subst e'
    rw [ha] at e; cases e
    have d':Data.seq vs.toArray _=Data.dict es ep:=d
    cases d'
  have nsK:∀ {b:Addr} {m:Str->Option Value},s₁.heap.Ns b m->(og s₁.heap H).Ns b m:=fun {b m} ⟨o,es,ep,e,d,r⟩=>⟨o,es,ep,base_of e (noA e d),d,r⟩
  have hKb:K.In (og s₁.heap H):=fun b o e=>base_of (KX b o e) (by
   cases q:H b with
   | none=>rfl
   | some u=>
    have e':b=a:=hA b (by rw [q]; simp)
    subst e'
    rw [hK (by rw [q]; simp)] at e; cases e)
  have hM:Mod K mg (og s₁.heap H):=⟨hKb,nsK hns,⟨mb,nsK hb,hbb⟩,let ⟨mc,h1,h2⟩:=hlim; ⟨mc,nsK h1,h2⟩⟩
  have e0:Env0 P w K mg (og s₁.heap H) callerA [] s₁ H:=⟨rfl,hM,fun b o e=>zR e,Nat.le_of_eq (u3 _ _),trivial,fun b hb=>absurd (show b∈([]:List Addr) from hb) (by simp),hok,.of_eq hg⟩
  refine codeAny_mono ((F _ hKb (nsK hns)).run callerA [] s₁ H ⟨[.ref a],[]⟩ [.ref a] [.ref a] _ _ hr e0 (hbind s₁ (.ref a)) (.cons rfl .nil) (hsp H hO hS)) fun r s' h=>?_
  cases r with
  | error e=>exact (hCX H e s' h).elim
  | ok fl=>
   cases fl with
   | next=>exact False.elim h
   | brk=>exact False.elim h
   | cont=>exact False.elim h
   | ret u=>
    obtain ⟨v,H',os,bare,un,hok',r',q⟩:=h
    have q':v=.bl true:=q
    subst q'
    obtain rfl:u=Value.bool true:=r'
    refine ⟨rfl,OldK.of_keep fun b o e=>?_,os,bare⟩
    cases q:H b with
    | none=>exact un.keep b o e q (by intro z; exact absurd (show b∈([]:List Addr) from z) (by simp)) (by simp)
    | some u=>
     rcases hO b with z | ⟨ob,xs,z⟩
     ·rw [q] at z; cases z
     ·have z2:=un.frzs b ob _ z
      obtain ⟨e1,_⟩:=hok b _ z
      obtain ⟨e2,_⟩:=hok' b _ z2
      rw [e] at e1; cases e1
      exact e2
 cases hk:K.lookup a with
 | some o=>
  have e:=KX a o hk
  rw [ha] at e
  cases e
  refine core (fun _=>none) (fun _=>.inl rfl) (.inr ⟨_,vs.toArray,_,hk,rfl,rfl,rfl,by rw [List.size_toArray,lenV]; exact hl,by simpa using rv⟩) (fun b u z=>by have z':(none:Option HO)=some u:=z; cases z') (fun b z=>absurd rfl z) fun z=>absurd rfl z
 | none=>
  refine core (fun b=>if b=a then some (.frz { cls:=.type "list",data:=.seq vs.toArray } (.lst (ns.map V.int))) else none) (fun b=>?_) (.inl (.inr ⟨{ cls:=.type "list",data:=.seq vs.toArray },if_pos rfl⟩)) (fun b u z=>?_) (fun b z=>?_) fun _=>hk
  ·by_cases hb:b=a
   ·exact .inr ⟨_,_,if_pos hb⟩
   ·exact .inl (if_neg hb)
  ·by_cases hb:b=a
   ·have z':=(if_pos hb).symm.trans z
    cases z'
    subst hb
    exact ⟨ha,by rw [List.length_map]; exact hl,vs,_,rv,ha⟩
   ·have z':=(if_neg hb).symm.trans z
    cases z'
  ·by_cases hb:b=a
   ·exact hb
   ·exact absurd (if_neg hb) z
end L2
namespace L2
open PySem PySem.Spec PyProof.Rows
noncomputable abbrev Jx {K:PySem.W.Frag} {h:Heap} (_:K.In h):PySem.W.Frag:=K
theorem yC {l:PySem.W.OpenLaw} {n k:Nat} {q:Program} {loose:List Str} {XP:(Str->Option Value)->Heap->Prop} {YP:World->Heap->Prop} {d:DefRec} {K:Params->PySem.W.Frag} {CX:World->qz} {sp:World->Sp} {x:Str}
  (hn:l.most=some n) (hn2:n<=sizeLine) (hdf:d.params.defaults=[]) (hr:Room k callerA)
  (hY:∀ (w:World) (h:Heap),YP w h->(K w.params).In h)
  (F:∀ (w:World) (mg:Str->Option Value) (fa:Addr) (h:Heap),(K w.params).In h->h.Ns mainGlobals mg->mg d.name=some (.ref fa) ->
   ∃ fd:FuncData,(∀ (s:Shared) (u:Value),BindsTo s fd ⟨[u],[]⟩ [(x,u)]) /\
    ∀ base:Heap,(K w.params).In base->base.Ns mainGlobals mg->FnOk l.prog w (K w.params) mg base (CX w) k fa fd [x] (sp w))
  (hsp:∀ (w:World) (H:Hp) (a:Addr) (ns:List Int),ns.length<=n->DB H->SqL (K w.params) H a (ns.map V.int)->sp w [.ref a] H (fun v _=>v=.bl true) fun _ _ _=>False)
  (hCX:∀ (w:World) (H:Hp) (s:Shared) (e:Value) (s':Shared),CX w [] H s (fun _ _ _=>False) e s'->False) :
  PySem.W.WalkO q loose XP YP l.row.toRowW d [] (fun f vs=>PySem.call f vs):=by
 refine Att.qt hn hdf fun w s₀ s₁ mg mb fa o pm cd doc a vs ns G Y ho hd hcd hmg hobj hints hlen hg=>?_
 have KX:=hY w _ Y
 obtain ⟨fd,hb,hF⟩:=F w mg fa _ KX G.T.g hmg
 exact xg KX G.T.g G.T.b G.T.builtins G.T.nolimit hg hobj hints (Nat.le_trans hlen hn2) hr hF hb (fun H hO hS=>hsp w H a ns hlen hO hS) fun H e s'=>hCX w H s₁ e s'
end L2
namespace L2
open PySem PySem.Spec PyProof.Rows
noncomputable def dt (s:Stmt):Arguments:=match s with
 | .FunctionDef _ a _ _ _ _ _ _ _ _=>a
 | _=>{ posonlyargs:=[],args:=[],vararg:=none,kwonlyargs:=[],kw_defaults:=[],kwarg:=none,defaults:=[] }
noncomputable def cq (s:Stmt):List Stmt:=match s with
 | .FunctionDef _ _ b _ _ _ _ _ _ _=>b
 | _=>[]
noncomputable def ap (s:Stmt):Scope:=match s with
 | .FunctionDef _ _ _ _ _ _ sc _ _ _=>sc
 | _=>{ kind:=.function,names:=[],isGenerator:=false,isCoroutine:=false }
noncomputable abbrev em:qz:=fun _ _ _ _ _ _=>False
noncomputable abbrev E0:XK:=fun _ _ _=>False
theorem ET {X:Cx}:oN em X E0:=fun _ _ _ _ _ _ _ h=>h.elim
structure Fun (K:PySem.W.Frag) (x qual:Str) (st:Stmt) (f:Addr) (fd:FuncData):Prop where
 ex:∃ (oc:Value) (od:Option Addr) (kV doc pm:Value) (an:Option Addr) (cdv ct:Value) (osl:Array (Option Value)),
  fd=PySem.W.fnOf x qual (dt st) (cq st) (ap st) .none kV doc pm an cdv ct/\K.lookup f=some ⟨oc,od,.func fd,osl⟩/\PySem.W.codeIn K cdv qual=true
 kp:PySem.W.keepIn K (.ref f)=true
section
variable {P:Program} {w:World} {K:PySem.W.Frag} {mg:Str->Option Value} {base:Heap}
theorem Fun.ok {x qual:Str} {st:Stmt} {f:Addr} {fd:FuncData} {N ps:List Str} {k:Nat} {sp:Sp} (F:Fun K x qual st f fd) (S:FnScope N ps (ap st)) (len:∀ vs H Q E,sp vs H Q E->vs.length=ps.length)
  (hbody:∀ (cdv:Value) (A:Around) (outer:List Env) (s:Shared) (H:Hp) (vs:List V) (Q:VK) (E:XK),Room k (A.deeper (envOfC qual (ap st) s.heap.objs.size f cdv))->sp vs H Q E ->
   ∃ t,PSs (qh em P w K mg base N qual (ap st) f cdv A outer s H E).nox (cq st) t/\t { nx:=fun _ H'=>Q .non H',rt:=Q } (start N vs) H):FnOk P w K mg base em (k+1) f fd ps sp:=by
 obtain ⟨oc,od,kV,doc,pm,an,cdv,ct,osl,rfl,lk,hcd⟩:=F.ex
 refine Bj lk hcd S len fun A outer s H vs Q E hr hsp=>?_
 obtain ⟨t,h,q⟩:=hbody cdv A outer s H vs Q E hr hsp
 exact ⟨t,h.nox,q⟩
theorem Fun.binds {x qual:Str} {st:Stmt} {f:Addr} {fd:FuncData} {ps:List Str} (F:Fun K x qual st f fd)
  (h:∀ (kV doc pm:Value) (an:Option Addr) (cdv ct:Value) (us:List Value),us.length=ps.length->bindArgs (PySem.W.fnOf x qual (dt st) (cq st) (ap st) .none kV doc pm an cdv ct) ⟨us,[]⟩=pure (ps.zip us)):Binds K fd ps []:=by
 obtain ⟨oc,od,kV,doc,pm,an,cdv,ct,osl,rfl,lk,hcd⟩:=F.ex
 exact .all (h kV doc pm an cdv ct)
end
section
variable {X:Cx}
end
noncomputable def Same (H H':Hp):Prop:=∀ b o,H b=some o->H' b=some o
theorem Same.refl (H:Hp):Same H H:=fun _ _ h=>h
theorem Same.trans {H H1 H2:Hp} (a:Same H H1) (b:Same H1 H2):Same H H2:=fun c o h=>b c o (a c o h)
theorem Same.free {H H':Hp} (e:Same H H') {l:Addr} (h:H' l=Option.none):H l=Option.none:=by
 cases q:H l with
 | none=>rfl
 | some o=>
  rw [e l o q] at h
  cases h
theorem Same.seq {K:PySem.W.Frag} {H H':Hp} {a:Addr} {xs:List V} (e:Same H H') (h:SqL K H a xs):SqL K H' a xs:=by
 rcases h with (h | ⟨o,h⟩) | h
 ·exact .inl (.inl (e _ _ h))
 ·exact .inl (.inr ⟨o,e _ _ h⟩)
 ·exact .inr h
end L2
set_option Elab.async false
set_option linter.all false
set_option maxRecDepth 100000
set_option maxHeartbeats 4000000
namespace VL
open PySem L2
noncomputable abbrev D:=PyData
inductive Oc where
 | l (ds:List D) | d (es:List (aE×D))
inductive Sl where
 | un | fz (d:D) | own (c:Oc) | fr (ds:List D)
noncomputable abbrev Sl.ow (ds:List D):Sl:=.own (.l ds)
noncomputable abbrev Sl.od (es:List (aE×D)):Sl:=.own (.d es)
noncomputable def xl:aE->D
 | .inl i=>.int i
 | .inr x=>.str x
noncomputable def dctD (es:List (aE×Int)):List (D×D):=es.map fun p=>(xl p.1,.int p.2)
noncomputable abbrev Dv:=List Sl
inductive Fl where
 | nx | bk | ct | rt (d:D)
noncomputable abbrev Sf:=Dv->Option (Fl×Dv)
@[simp] noncomputable def o2 (f1 f2:Dv->Option D) (g:D->D->Option D):Dv->Option D:=fun δ=>(f1 δ).bind fun x=>(f2 δ).bind fun y=>g x y
@[simp] noncomputable def o1 (f:Dv->Option D) (g:D->Option D):Dv->Option D:=fun δ=>(f δ).bind g
@[simp] noncomputable def os (f:Dv->Option (List D)) (g:List D->Option D):Dv->Option D:=fun δ=>(f δ).bind g
noncomputable def asB:D->Option Bool
 | .bool b=>some b
 | _=>none
@[simp] theorem FW (b:Bool):asB (.bool b)=some b:=rfl
@[simp] noncomputable def ob (f:Dv->Option D):Dv->Option Bool:=fun δ=>(f δ).bind asB
@[simp] noncomputable def jh (t u:Dv->Option Bool):Dv->Option Bool:=fun δ=>(t δ).bind fun b=>if b=true then u δ else some false
@[simp] noncomputable def wQ (t u:Dv->Option Bool):Dv->Option Bool:=fun δ=>(t δ).bind fun b=>if b=true then some true else u δ
@[simp] noncomputable def nT (t:Dv->Option Bool):Dv->Option Bool:=fun δ=>(t δ).map (!·)
@[simp] noncomputable def mE (f1 f2:Dv->Option D):Dv->Option D:=fun δ=>(f1 δ).bind fun x=>(asB x).bind fun b=>if b=true then f2 δ else some (.bool false)
@[simp] noncomputable def Jb (f1 f2:Dv->Option D):Dv->Option D:=fun δ=>(f1 δ).bind fun x=>(asB x).bind fun b=>if b=true then some (.bool true) else f2 δ
@[simp] noncomputable def zU (d:D):Option D:=(asB d).map fun b=>.bool (!b)
@[simp] noncomputable def G7 (t:Dv->Option Bool) (f1 f2:Dv->Option D):Dv->Option D:=fun δ=>(t δ).bind fun b=>if b=true then f1 δ else f2 δ
noncomputable def zc:Option Sl->Option D
 | some (.fz d)=>some d
 | some (.fr ds)=>some (.list ds)
 | _=>none
@[simp] theorem GR (ds:List D):zc (some (.fr ds))=some (.list ds):=rfl
@[simp] theorem kj (d:D):zc (some (.fz d))=some d:=rfl
@[simp] noncomputable def oV (i:Nat):Dv->Option D:=fun δ=>zc δ[i]?
@[simp] noncomputable def oC (d:D):Dv->Option D:=fun _=>some d
@[simp] noncomputable def au:Dv->Option (List D):=fun _=>some []
@[simp] noncomputable def af (f:Dv->Option D) (fs:Dv->Option (List D)):Dv->Option (List D):=fun δ=>(f δ).bind fun x=>(fs δ).bind fun xs=>some (x::xs)
noncomputable def cg (ds:List D):Option D:=if ds.length<=sizeLine then some (.tuple ds) else none
noncomputable def gE (ds:List D):Option D:=if ds.length<=sizeLine then some (.list ds) else none
theorem en {ds:List D} (h:ds.length<=16777216):cg ds=some (.tuple ds):=if_pos h
theorem gx {ds:List D} (h:ds.length<=16777216):gE ds=some (.list ds):=if_pos h
@[simp] theorem Ii:cg []=some (.tuple []):=rfl
@[simp] theorem Ih (a:D):cg [a]=some (.tuple [a]):=en (by simp)
@[simp] theorem Ig (a b:D):cg [a,b]=some (.tuple [a,b]):=en (by simp)
@[simp] theorem Ie (a b c:D):cg [a,b,c]=some (.tuple [a,b,c]):=en (by simp)
@[simp] theorem Id (a b c d:D):cg [a,b,c,d]=some (.tuple [a,b,c,d]):=en (by simp)
@[simp] theorem Ic (a b c d e:D):cg [a,b,c,d,e]=some (.tuple [a,b,c,d,e]):=en (by simp)
@[simp] theorem Ib (a b c d e f g h:D):cg [a,b,c,d,e,f,g,h]=some (.tuple [a,b,c,d,e,f,g,h]):=en (by simp)
@[simp] theorem IA:gE []=some (.list []):=rfl
@[simp] theorem Iz (a:D):gE [a]=some (.list [a]):=gx (by simp)
@[simp] theorem Iy (a b:D):gE [a,b]=some (.list [a,b]):=gx (by simp)
@[simp] theorem Ix (a b c:D):gE [a,b,c]=some (.list [a,b,c]):=gx (by simp)
@[simp] theorem Iw (a b c d:D):gE [a,b,c,d]=some (.list [a,b,c,d]):=gx (by simp)
@[simp] theorem Iv (a b c d e:D):gE [a,b,c,d,e]=some (.list [a,b,c,d,e]):=gx (by simp)
instance (i j:Int):Decidable (IntMulOk i j):=by unfold IntMulOk; infer_instance
noncomputable def iI (g:Int->Int->Int):D->D->Option D
 | .int i,.int j=>some (.int (g i j))
 | _,_=>none
noncomputable def iC (C:Int->Int->Bool) (g:Int->Int->Int):D->D->Option D
 | .int i,.int j=>if C i j=true then some (.int (g i j)) else none
 | _,_=>none
noncomputable def iB (g:Int->Int->Bool):D->D->Option D
 | .int i,.int j=>some (.bool (g i j))
 | _,_=>none
@[simp] theorem C4 (g:Int->Int->Int) (i j:Int):iI g (.int i) (.int j)=some (.int (g i j)):=rfl
@[simp] theorem Hq (g:Int->Int->Bool) (i j:Int):iB g (.int i) (.int j)=some (.bool (g i j)):=rfl
theorem jn {C:Int->Int->Bool} {g:Int->Int->Int} {i j:Int} (h:C i j=true):iC C g (.int i) (.int j)=some (.int (g i j)):=if_pos h
noncomputable def HJ (i j:Int):Bool:=decide (IntMulOk i j)
noncomputable def HL (i j:Int):Bool:=decide (0<j/\j<1073741824)
noncomputable def HK (i j:Int):Bool:=decide (0<j)
noncomputable def HI (i j:Int):Bool:=decide (0<=j/\j<=1000000/\i.natAbs<2 ^ 64)
noncomputable def HH (i j:Int):Bool:=decide (0<=j/\(Builtin.Int.intBits i:Int)+j<=2 ^ 27)
noncomputable def HG (i j:Int):Bool:=decide (0<=j)
noncomputable abbrev de:=iI fun i j=>i-j
noncomputable abbrev cA:=iC HJ fun i j=>i*j
noncomputable abbrev cM:=iC HL fun i j=>i / j
noncomputable abbrev aR:=iC HK fun i j=>i % j
noncomputable abbrev uA:=iC HI fun i j=>i ^ j.toNat
noncomputable abbrev eP:=iC HH fun i j=>i*2 ^ j.toNat
noncomputable abbrev pc:=iC HG fun i j=>i / 2 ^ j.toNat
noncomputable abbrev yf:=iI Builtin.bitAnd
noncomputable abbrev qA:=iI Builtin.bitXor
noncomputable abbrev Bc:=iB fun i j=>decide (i<j)
noncomputable abbrev IB:=iB fun i j=>decide (i<=j)
noncomputable abbrev yw:=iB fun i j=>decide (j<i)
@[simp] theorem dB {i j:Int} (h:IntMulOk i j):cA (.int i) (.int j)=some (.int (i*j)):=jn (decide_eq_true h)
@[simp] theorem xO {i j:Int} (h:0<j) (h2:j<1073741824):cM (.int i) (.int j)=some (.int (i / j)):=jn (decide_eq_true ⟨h,h2⟩)
@[simp] theorem kL {i j:Int} (h:0<j):aR (.int i) (.int j)=some (.int (i % j)):=jn (decide_eq_true h)
@[simp] theorem EO {i j:Int} (h:0<=j) (h2:j<=1000000) (h3:i.natAbs<2 ^ 64):uA (.int i) (.int j)=some (.int (i ^ j.toNat)):=jn (decide_eq_true ⟨h,h2,h3⟩)
theorem vY {i j:Int} (h:0<=j) (h2:(Builtin.Int.intBits i:Int)+j<=2 ^ 27):eP (.int i) (.int j)=some (.int (i*2 ^ j.toNat)):=jn (decide_eq_true ⟨h,h2⟩)
@[simp] theorem vW {i j:Int} (h:0<=j):pc (.int i) (.int j)=some (.int (i / 2 ^ j.toNat)):=jn (decide_eq_true h)
noncomputable def negD:D->Option D
 | .int i=>some (.int (-i))
 | _=>none
@[simp] theorem Fb (i:Int):negD (.int i)=some (.int (-i)):=rfl
noncomputable def aN:D->D->Option D
 | .int i,.int j=>some (.int (i+j))
 | .str x,.str y=>if x.length+y.length<=sizeLine then some (.str (x++y)) else none
 | .list xs,.list ys=>if xs.length+ys.length<=sizeLine then some (.list (xs++ys)) else none
 | .tuple xs,.tuple ys=>if xs.length+ys.length<=sizeLine then some (.tuple (xs++ys)) else none
 | _,_=>none
@[simp] theorem iW (i j:Int):aN (.int i) (.int j)=some (.int (i+j)):=rfl
theorem mZ {xs ys:List D} (h:xs.length+ys.length<=16777216):aN (.list xs) (.list ys)=some (.list (xs++ys)):=if_pos h
theorem yj {xs ys:List D} (h:xs.length+ys.length<=16777216):aN (.tuple xs) (.tuple ys)=some (.tuple (xs++ys)):=if_pos h
noncomputable def vX (d:D):Bool:=PySem.SeqAt.shaped d
noncomputable def g9:D->D->Option D:=fun a b=>if vX a=true/\vX b=true then some (.bool (PyData.eqv a b)) else none
noncomputable def neD:D->D->Option D:=fun a b=>if vX a=true/\vX b=true then some (.bool (!PyData.eqv a b)) else none
@[simp] theorem Gv (i j:Int):g9 (.int i) (.int j)=some (.bool (i==j)):=rfl
@[simp] theorem Gi (i j:Int):neD (.int i) (.int j)=some (.bool (!(i==j))):=rfl
@[simp] theorem FK (i j:Bool):g9 (.bool i) (.bool j)=some (.bool (i==j)):=rfl
@[simp] theorem Fd (i j:Bool):neD (.bool i) (.bool j)=some (.bool (!(i==j))):=rfl
noncomputable def DL (d:D):Bool:=match d with
 | .none=>true
 | _=>false
noncomputable def Jc:D->D->Option D:=fun a b=>match b with
 | .none=>some (.bool (DL a))
 | _=>none
noncomputable def Fo:D->D->Option D:=fun a b=>match b with
 | .none=>some (.bool (!DL a))
 | _=>none
@[simp] theorem Fq (a:D):Jc a .none=some (.bool (DL a)):=rfl
@[simp] theorem C1 (a:D):Fo a .none=some (.bool (!DL a)):=rfl
@[simp] theorem Fp:DL .none=true:=rfl
@[simp] theorem Gm (i:Int):DL (.int i)=false:=rfl
noncomputable def az:D->D->Option D
 | .list xs,.int i=>gO xs i
 | .tuple xs,.int i=>gO xs i
 | _,_=>none
@[simp] theorem Fm (xs:List D) (i:Int):az (.list xs) (.int i)=gO xs i:=rfl
@[simp] theorem DJ (xs:List D) (i:Int):az (.tuple xs) (.int i)=gO xs i:=rfl
theorem dM {α:Type} {xs:List α} {i:Int} {j:Nat} {v:α} (hi:i=j) (h:xs[j]? = some v):gO xs i=some v:=by
 have hl:j<xs.length:=(List.getElem?_eq_some_iff.mp h).1
 subst hi
 unfold gO yt
 rw [if_pos (by omega),if_pos (by omega)]
 simpa using h
@[simp] theorem Jw {α:Type} (a:α) (r:List α):gO (a::r) 0=some a:=dM (j:=0) rfl rfl
@[simp] theorem Jv {α:Type} (a b:α) (r:List α):gO (a::b::r) 1=some b:=dM (j:=1) rfl rfl
@[simp] theorem Ju {α:Type} (a b c:α) (r:List α):gO (a::b::c::r) 2=some c:=dM (j:=2) rfl rfl
@[simp] theorem Jt {α:Type} (a b c d:α) (r:List α):gO (a::b::c::d::r) 3=some d:=dM (j:=3) rfl rfl
@[simp] theorem Js {α:Type} (a b c d e:α) (r:List α):gO (a::b::c::d::e::r) 4=some e:=dM (j:=4) rfl rfl
@[simp] theorem Jr {α:Type} (a b c d e f:α) (r:List α):gO (a::b::c::d::e::f::r) 5=some f:=dM (j:=5) rfl rfl
@[simp] theorem Jq {α:Type} (a b c d e f g:α) (r:List α):gO (a::b::c::d::e::f::g::r) 6=some g:=dM (j:=6) rfl rfl
@[simp] theorem Jp {α:Type} (a b c d e f g h:α) (r:List α):gO (a::b::c::d::e::f::g::h::r) 7=some h:=dM (j:=7) rfl rfl
noncomputable def g6:List D->Option D
 | [.list xs]=>some (.int xs.length)
 | [.tuple xs]=>some (.int xs.length)
 | _=>none
@[simp] theorem uQ (xs:List D):g6 [.list xs]=some (.int xs.length):=rfl
@[simp] theorem CP (xs:List D):g6 [.tuple xs]=some (.int xs.length):=rfl
noncomputable def wY:List D->Option D
 | [.int i,.int j]=>some (.int (if j<i then j else i))
 | _=>none
noncomputable def q9:List D->Option D
 | [.int i,.int j]=>some (.int (if j>i then j else i))
 | _=>none
@[simp] theorem Ff (i j:Int):wY [.int i,.int j]=some (.int (if j<i then j else i)):=rfl
@[simp] theorem kM (i j:Int):q9 [.int i,.int j]=some (.int (if j>i then j else i)):=rfl
noncomputable def Fu:List D->Option D
 | [.int i]=>some (.int i)
 | [.bool b]=>some (.int (if b then 1 else 0))
 | _=>none
@[simp] theorem Ft (i:Int):Fu [.int i]=some (.int i):=rfl
@[simp] theorem DM (b:Bool):Fu [.bool b]=some (.int (if b then 1 else 0)):=rfl
noncomputable def sX:List D->Option D
 | [.list xs]=>some (.list xs)
 | [.tuple xs]=>some (.list xs)
 | _=>none
@[simp] theorem CO (xs:List D):sX [.list xs]=some (.list xs):=rfl
@[simp] theorem Bd (xs:List D):sX [.tuple xs]=some (.list xs):=rfl
noncomputable def cE:List D->Option D
 | [.list xs]=>some (.tuple xs)
 | [.tuple xs]=>some (.tuple xs)
 | _=>none
@[simp] theorem oY (xs:List D):cE [.list xs]=some (.tuple xs):=rfl
@[simp] theorem yE (xs:List D):cE [.tuple xs]=some (.tuple xs):=rfl
noncomputable def FU:D->Option D
 | .int i=>some (.int (Builtin.Int.intBits i))
 | _=>none
@[simp] theorem DN (i:Int):FU (.int i)=some (.int (Builtin.Int.intBits i)):=rfl
noncomputable def tyN:D->String
 | .none=>"NoneType"
 | .bool _=>"bool"
 | .int _=>"int"
 | .str _=>"str"
 | .list _=>"list"
 | .tuple _=>"tuple"
 | .dict _=>"dict"
noncomputable def C3 (t T:String):Bool:=t==T||(t == "bool" && T == "int")
noncomputable def tw:D->Bool
 | .dict _=>true
 | _=>false
noncomputable def gF (T:String) (d:D):Option D:=if tw d=true then none else if T = "int" \/ T = "bool" \/ T = "str" \/ T = "list" \/ T = "tuple" then some (.bool (C3 (tyN d) T)) else none
@[simp] theorem Bh (i:Int):gF "int" (.int i)=some (.bool true):=rfl
@[simp] theorem Af (i:Int):gF "bool" (.int i)=some (.bool false):=rfl
@[simp] theorem Ae (i:Bool):gF "int" (.bool i)=some (.bool true):=rfl
@[simp] theorem yv (i:Bool):gF "bool" (.bool i)=some (.bool true):=rfl
@[simp] theorem vo (xs:List D):gF "tuple" (.tuple xs)=some (.bool true):=rfl
@[simp] theorem yu (xs:List D):gF "list" (.list xs)=some (.bool true):=rfl
@[simp] noncomputable def b5 (f:Dv->Option D):Sf:=fun δ=>(f δ).bind fun d=>some (.rt d,δ)
@[simp] noncomputable def aI (i:Nat) (f:Dv->Option D):Sf:=fun δ=>(f δ).bind fun d=>some (.nx,δ.set i (.fz d))
@[simp] noncomputable def Io (f:Dv->Option D):Sf:=fun δ=>(f δ).bind fun _=>some (.nx,δ)
@[simp] noncomputable def lH:Sf:=fun δ=>some (.nx,δ)
@[simp] noncomputable def Jm:Sf:=fun δ=>some (.bk,δ)
@[simp] noncomputable def Jl:Sf:=fun δ=>some (.ct,δ)
@[simp] noncomputable def ay (s t:Sf):Sf:=fun δ=>(s δ).bind fun r=>match r with
 | (.nx,δ')=>t δ'
 | r=>some r
@[simp] noncomputable def gK (t:Dv->Option Bool) (u w:Sf):Sf:=fun δ=>(t δ).bind fun c=>if c=true then u δ else w δ
noncomputable def yz (i:Nat) (δ:Dv):Dv:=match δ[i]? with
 | some (.own (.l ds))=>δ.set i (.fz (.list ds))
 | _=>δ
@[simp] noncomputable def gN (i:Nat):D->Dv->Option Dv:=fun d δ=>some (δ.set i (.fz d))
noncomputable def loop (g:D->Dv->Option Dv) (b:Sf):List D->Sf
 | [],δ=>some (.nx,δ)
 | d::ds,δ=>(g d δ).bind fun δ1=>(b δ1).bind fun r=>match r with
  | (.nx,δ2)=>loop g b ds δ2
  | (.ct,δ2)=>loop g b ds δ2
  | (.bk,δ2)=>some (.nx,δ2)
  | (.rt x,δ2)=>some (.rt x,δ2)
@[simp] theorem Fh (g:D->Dv->Option Dv) (b:Sf) (δ:Dv):loop g b [] δ = some (.nx,δ):=rfl
@[simp] noncomputable def fS (f:Dv->Option (List D)) (g:D->Dv->Option Dv) (b:Sf):Sf:=fun δ=>(f δ).bind fun ds=>loop g b ds δ
noncomputable def cY (t:Dv->Option Bool) (b:Sf):Nat->Sf
 | 0,_=>none
 | n+1,δ=>(t δ).bind fun c=>if c=true then (b δ).bind fun r=>match r with
   | (.nx,δ2)=>cY t b n δ2
   | (.ct,δ2)=>cY t b n δ2
   | (.bk,δ2)=>some (.nx,δ2)
   | (.rt x,δ2)=>some (.rt x,δ2)
  else some (.nx,δ)
noncomputable def jb (lo:Int) (n:Nat):List D:=(List.range n).map fun k=>.int (lo+(k:Nat))
noncomputable def cz:List D->Option (List D)
 | [.int j]=>if j<2 ^ 62 /\ -(2 ^ 62)<=j then some (jb 0 j.toNat) else none
 | _=>none
theorem mq {j:Int} (h:j<4611686018427387904) (h2:-4611686018427387904<=j):cz [.int j]=some (jb 0 j.toNat):=if_pos ⟨h,h2⟩
@[simp] noncomputable def oL (fs:Dv->Option (List D)) (g:List D->Option (List D)):Dv->Option (List D):=fun δ=>(fs δ).bind g
noncomputable def bu:D->Option (List D)
 | .list xs=>some xs
 | .tuple xs=>some xs
 | _=>none
@[simp] theorem DK (xs:List D):bu (.list xs)=some xs:=rfl
@[simp] theorem C0 (xs:List D):bu (.tuple xs)=some xs:=rfl
noncomputable def w9:D->Option (List D)
 | .list xs=>some xs
 | _=>none
noncomputable def GB:D->Option (List D)
 | .tuple xs=>some xs
 | _=>none
@[simp] noncomputable def oI (f:Dv->Option D) (g:D->Option (List D)):Dv->Option (List D):=fun δ=>(f δ).bind g
@[simp] noncomputable def Ir:Dv->Option (Option Int):=fun _=>some none
noncomputable def asI:D->Option (Option Int)
 | .int i=>some (some i)
 | _=>none
@[simp] theorem Gx (i:Int):asI (.int i)=some (some i):=rfl
@[simp] noncomputable def oP (f:Dv->Option D):Dv->Option (Option Int):=fun δ=>(f δ).bind asI
noncomputable def qi (xs:List D) (lo hi:Option Int):List D:=(xs.drop (HT.sIx xs.length 0 lo)).take (HT.sIx xs.length xs.length hi-HT.sIx xs.length 0 lo)
noncomputable def Ew:D->Option Int->Option Int->Option D
 | .list xs,lo,hi=>some (.list (qi xs lo hi))
 | .tuple xs,lo,hi=>some (.tuple (qi xs lo hi))
 | _,_,_=>none
@[simp] noncomputable def G6 (f:Dv->Option D) (l u:Dv->Option (Option Int)):Dv->Option D:=fun δ=>(f δ).bind fun x=>(l δ).bind fun i=>(u δ).bind fun j=>Ew x i j
noncomputable def aH (N:List Str) (as:List D):Dv:=as.map .fz++List.replicate (N.length-as.length) .un
noncomputable def aV (N:List Str) (n:Nat) (b:Sf):List D->Option D:=fun as=>if as.length=n then (b (aH N as)).bind fun r=>match r with
  | (.rt d,_)=>some d
  | (.nx,_)=>some .none
  | _=>none
 else none
theorem sW {g:D->Dv->Option Dv} {b:Sf} (I:Dv->Prop):∀ (ds:List D),(∀ d∈ds,∀ δ,I δ -> ∃ δ1,g d δ = some δ1/\∃ δ2,b δ1=some (.nx,δ2)/\I δ2)->∀ δ,I δ -> ∃ δ',loop g b ds δ = some (.nx,δ')/\I δ'
 | [],_,δ,hI=>⟨δ,rfl,hI⟩
 | d::ds,h,δ,hI=>by
  obtain ⟨δ1,e1,δ2,e2,h2⟩:=h d List.mem_cons_self δ hI
  obtain ⟨δ',e3,h3⟩:=sW I ds (fun d hd=>h d (List.mem_cons_of_mem _ hd)) δ2 h2
  refine ⟨δ',?_,h3⟩
  rw [loop,e1]
  show (b δ1).bind _=_
  rw [e2]
  exact e3
end VL
set_option Elab.async false
set_option linter.all false
set_option maxRecDepth 100000
set_option maxHeartbeats 4000000
namespace VL
open PySem PySem.Spec PyProof.Rows L2
noncomputable abbrev Fg:=PySem.W.Frag
noncomputable abbrev St:=L2.St
noncomputable def xC (a C:Addr):HO:=.ext fun h=>∃ o,h.get? a=some o/\o.cls=.ref C/\∃ vs,o.data=.fields vs/\vs[2]? = some .none
theorem Rd.same {H H':Hp} {a:Addr} {u:HO} (h:Rd H a u) (s:Same H H'):Rd H' a u:=by
 rcases h with h | ⟨o,h⟩
 ·exact .inl (s _ _ h)
 ·exact .inr ⟨o,s _ _ h⟩
inductive Opq (K:Fg) (Z:Hp) (a:Addr):List (D×D)->Prop
 | exc {n:Str} {C:Addr}:PySem.W.nsIn K mainGlobals n=some (some (.ref C))->Rd Z a (xC a C)->Opq K Z a [(.str "exc",.str n)]
 | fn {n:Str}:PySem.W.nsIn K mainGlobals n=some (some (.ref a))->Opq K Z a [(.str "fn",.str n)]
 | dct {kvs:List (D×D)} {es:List (aE×Int)}:kvs=dctD es->Z a=some (.dK (es.map fun p=>(p.1,V.int p.2)))->Opq K Z a kvs
theorem Opq.same {K:Fg} {Z Z':Hp} {a:Addr} {kvs:List (D×D)} (s:Same Z Z') (h:Opq K Z a kvs):Opq K Z' a kvs:=by
 cases h with
 | exc h1 h2=>exact .exc h1 (Rd.same h2 s)
 | fn h1=>exact .fn h1
 | dct h1 h2=>exact .dct h1 (s _ _ h2)
mutual
inductive Rep (K:Fg) (Z:Hp):V->D->Prop
 | non:Rep K Z .non .none
 | bl (b:Bool):Rep K Z (.bl b) (.bool b)
 | int (i:Int):Rep K Z (.int i) (.int i)
 | str (x:Str):Rep K Z (.str x) (.str x)
 | tup {a:Addr} {xs:List V} {ds:List D}:SqT K Z a xs->Reps K Z xs ds->Rep K Z (.ref a) (.tuple ds)
 | lst {a:Addr} {xs:List V} {ds:List D}:SqL K Z a xs->Reps K Z xs ds->Rep K Z (.ref a) (.list ds)
 | opq {a:Addr} {kvs:List (D×D)}:Opq K Z a kvs->Rep K Z (.ref a) (.dict kvs)
inductive Reps (K:Fg) (Z:Hp):List V->List D->Prop
 | nil:Reps K Z [] []
 | cons {v:V} {d:D} {vs:List V} {ds:List D}:Rep K Z v d->Reps K Z vs ds->Reps K Z (v::vs) (d::ds)
end
theorem SqT.same {K:Fg} {H H':Hp} {a:Addr} {xs:List V} (h:SqT K H a xs) (s:Same H H'):SqT K H' a xs:=by
 rcases h with h | h
 ·exact .inl (Rd.same h s)
 ·exact .inr h
theorem SqL.same {K:Fg} {H H':Hp} {a:Addr} {xs:List V} (h:SqL K H a xs) (s:Same H H'):SqL K H' a xs:=by
 rcases h with h | h
 ·exact .inl (Rd.same h s)
 ·exact .inr h
mutual
theorem Rep.same {K:Fg} {Z Z':Hp} (s:Same Z Z'):∀ {v:V} {d:D},Rep K Z v d->Rep K Z' v d
 | _,_,.non=>.non
 | _,_,.bl b=>.bl b
 | _,_,.int i=>.int i
 | _,_,.str x=>.str x
 | _,_,.tup h r=>.tup (SqT.same h s) (Reps.same s r)
 | _,_,.lst h r=>.lst (SqL.same h s) (Reps.same s r)
 | _,_,.opq h=>.opq (Opq.same s h)
theorem Reps.same {K:Fg} {Z Z':Hp} (s:Same Z Z'):∀ {vs:List V} {ds:List D},Reps K Z vs ds->Reps K Z' vs ds
 | _,_,.nil=>.nil
 | _,_,.cons h r=>.cons (Rep.same s h) (Reps.same s r)
end
theorem Reps.length {K:Fg} {Z:Hp}:∀ {vs:List V} {ds:List D},Reps K Z vs ds->vs.length=ds.length
 | _,_,.nil=>rfl
 | _,_,.cons _ r=>congrArg (· + 1) (Reps.length r)
theorem Reps.get {K:Fg} {Z:Hp}:∀ {vs:List V} {ds:List D} {i:Nat} {d:D},Reps K Z vs ds->ds[i]? = some d->∃ v,vs[i]? = some v/\Rep K Z v d
 | _,_,_,_,.nil,e=>by simp at e
 | _,_,0,_,.cons r _,e=>by simp at e; subst e; exact ⟨_,rfl,r⟩
 | _,_,i+1,d,.cons _ t,e=>by
  obtain ⟨u,h1,h2⟩:=Reps.get (i:=i) (d:=d) t (by simpa using e)
  exact ⟨u,by simpa using h1,h2⟩
theorem Reps.getV {K:Fg} {Z:Hp}:∀ {vs:List V} {ds:List D} {i:Nat} {v:V},Reps K Z vs ds->vs[i]? = some v->∃ d,ds[i]? = some d/\Rep K Z v d
 | _,_,_,_,.nil,e=>by simp at e
 | _,_,0,_,.cons r _,e=>by simp at e; subst e; exact ⟨_,rfl,r⟩
 | _,_,i+1,v,.cons _ t,e=>by
  obtain ⟨u,h1,h2⟩:=Reps.getV (i:=i) (v:=v) t (by simpa using e)
  exact ⟨u,by simpa using h1,h2⟩
theorem Reps.set {K:Fg} {Z:Hp} {x:V} {u:D} (r:Rep K Z x u):∀ {xs:List V} {us:List D} (i:Nat),Reps K Z xs us->Reps K Z (xs.set i x) (us.set i u)
 | _,_,_,.nil=>.nil
 | _,_,0,.cons _ t=>.cons r t
 | _,_,i+1,.cons q t=>.cons q (Reps.set r i t)
theorem Reps.append {K:Fg} {Z:Hp}:∀ {xs ys:List V} {us ws:List D},Reps K Z xs us->Reps K Z ys ws->Reps K Z (xs++ys) (us++ws)
 | _,_,_,_,.nil,s=>s
 | _,_,_,_,.cons r t,s=>.cons r (Reps.append t s)
theorem Reps.take {K:Fg} {Z:Hp}:∀ {xs:List V} {us:List D} (n:Nat),Reps K Z xs us->Reps K Z (xs.take n) (us.take n)
 | _,_,0,_=>.nil
 | _,_,_+1,.nil=>.nil
 | _,_,n+1,.cons r t=>.cons r (Reps.take n t)
theorem Reps.drop {K:Fg} {Z:Hp}:∀ {xs:List V} {us:List D} (n:Nat),Reps K Z xs us->Reps K Z (xs.drop n) (us.drop n)
 | _,_,0,r=>r
 | _,_,_+1,.nil=>.nil
 | _,_,n+1,.cons _ t=>Reps.drop n t
theorem Rep.int_eq {K:Fg} {Z:Hp} {v:V} {i:Int} (h:Rep K Z v (.int i)):v=.int i:=by cases h; rfl
theorem Rep.bl_eq {K:Fg} {Z:Hp} {v:V} {b:Bool} (h:Rep K Z v (.bool b)):v=.bl b:=by cases h; rfl
theorem Reps.ints {K:Fg} {Z:Hp}:∀ ns:List Int,Reps K Z (ns.map V.int) (ns.map PyData.int)
 | []=>.nil
 | n::r=>.cons (.int n) (Reps.ints r)
mutual
theorem Rep.reads {X:Cx} {pins:List (Addr×Obj)} {σ:St} {H Z:Hp} {s:Shared} (I:Inv X pins σ H s) (zh:Same Z H):∀ {v:V} {d:D} {u:Value},Rep X.K Z v d->RelV v u->d.canLay0=true->∃ as,Reads s.heap u d as
 | _,_,u,.non,r,_=>by cases (show u=Value.none from r); exact ⟨_,.none⟩
 | _,_,u,.bl b,r,_=>by cases (show u=Value.bool b from r); exact ⟨_,.bool b⟩
 | _,_,u,.int i,r,_=>by obtain ⟨t,rfl⟩:=(show ∃ t,u=Value.int i t from r); exact ⟨_,.int i t⟩
 | _,_,u,.str x,r,_=>by obtain ⟨t,rfl⟩:=(show ∃ t,u=Value.str x t from r); exact ⟨_,.str x t⟩
 | _,_,u,.tup (a:=a) h q,r,hc=>by
  cases (show u=Value.ref a from r)
  obtain ⟨its,rv,ht,_⟩:=I.tuple (SqT.same h zh)
  obtain ⟨as,ra⟩:=Reps.reads I zh q rv hc
  obtain ⟨o,e,c,n,dd⟩:=ht
  exact ⟨_,reads_tuple_at e c dd (by simpa using ra)⟩
 | _,_,u,.lst (a:=a) h q,r,hc=>by
  cases (show u=Value.ref a from r)
  obtain ⟨its,rv,ht,_⟩:=I.list (SqL.same h zh)
  obtain ⟨as,ra⟩:=Reps.reads I zh q rv hc
  obtain ⟨o,n,e,c,_,dd⟩:=ht
  exact ⟨_,reads_list_at e c dd (by simpa using ra)⟩
 | _,_,u,.opq h,r,hc=>by cases hc
theorem Reps.reads {X:Cx} {pins:List (Addr×Obj)} {σ:St} {H Z:Hp} {s:Shared} (I:Inv X pins σ H s) (zh:Same Z H):∀ {vs:List V} {ds:List D} {us:List Value},Reps X.K Z vs ds->Vals vs us->PyData.canLayAll0 ds=true->∃ as,ReadsAll s.heap us ds as
 | _,_,_,.nil,.nil,_=>⟨_,.nil⟩
 | _,_,_,.cons h q,.cons r t,hc=>by
  have hc':=Bool.and_eq_true_iff.mp hc
  obtain ⟨as,ha⟩:=Rep.reads I zh h r hc'.1
  obtain ⟨bs,hb⟩:=Reps.reads I zh q t hc'.2
  exact ⟨_,.cons ha hb⟩
end
noncomputable def zV:HO->Bool
 | .frz _ (.lst _)=>false
 | _=>true
noncomputable def NoF (Z Z':Hp):Prop:=∀ b o xs,Z' b=some (.frz o (.lst xs))->Z b=some (.frz o (.lst xs))
theorem NoF.refl (Z:Hp):NoF Z Z:=fun _ _ _ e=>e
theorem NoF.trans {Z Z1 Z2:Hp} (a:NoF Z Z1) (b:NoF Z1 Z2):NoF Z Z2:=fun c o xs e=>a c o xs (b c o xs e)
theorem NoF.upd {Z Z':Hp} (a:NoF Z Z') (p:Addr) {u:HO} (hu:zV u=true:=by rfl):NoF Z (upd Z' p u):=fun b o xs e=>by
 by_cases hb:b=p
 ·subst hb
  rw [aC] at e
  cases e
  cases hu
 ·rw [aB hb] at e
  exact a b o xs e
structure New (Z H Z' H':Hp):Prop where
 z:Same Z Z'
 h:Same H H'
 zh:Same Z' H'
 o:∀ b,H b≠none->Z' b=Z b
 nf:NoF Z Z'
theorem New.refl {Z H:Hp} (zh:Same Z H):New Z H Z H:=⟨Same.refl _,Same.refl _,zh,fun _ _=>rfl,NoF.refl _⟩
theorem New.trans {Z H Z1 H1 Z2 H2:Hp} (a:New Z H Z1 H1) (b:New Z1 H1 Z2 H2):New Z H Z2 H2:=
 ⟨a.z.trans b.z,a.h.trans b.h,b.zh,fun c hc=>by
  have:H1 c≠none:=by
   cases e:H c with
   | none=>exact absurd e hc
   | some o=>rw [a.h c o e]; intro z; cases z
  rw [b.o c this,a.o c hc],a.nf.trans b.nf⟩
theorem eQ {H:Hp} {p:Addr} {o:HO} (h:H p=none):Same H (upd H p o):=fun b u e=>by
 rw [aB (aX e h)]; exact e
theorem oh {Z H:Hp} (zh:Same Z H) {p:Addr} (h:H p=none):Z p=none:=by
 cases e:Z p with
 | none=>rfl
 | some o=>rw [zh p o e] at h; cases h
theorem New.add {Z H:Hp} (zh:Same Z H) {p:Addr} (hp:H p=none) (o:HO) (hf:zV o=true:=by rfl):New Z H (upd Z p o) (upd H p o) where
 nf:=(NoF.refl Z).upd p hf
 z:=eQ (oh zh hp)
 h:=eQ hp
 zh:=fun b u e=>by
  by_cases hb:b=p
  ·subst hb; rw [aC] at e ⊢; exact e
  ·rw [aB hb] at e ⊢; exact zh b u e
 o:=fun b hb=>by
  have:b≠p:=fun z=>hb (z ▸ hp)
  rw [aB this]
noncomputable def gG (K:Fg) (Z:Hp) (kvs:List (aE×V)) (es:List (aE×D)):Prop:=es.map (·.1)=kvs.map (·.1)/\Reps K Z (kvs.map (·.2)) (es.map (·.2))
inductive OwR (K:Fg) (Z:Hp):HO->Oc->Prop
 | lst {xs:List V} {ds:List D}:Reps K Z xs ds->OwR K Z (.lst xs) (.l ds)
 | dct {kvs:List (aE×V)} {es:List (aE×D)}:gG K Z kvs es->OwR K Z (.dK kvs) (.d es)
theorem OwR.same {K:Fg} {Z Z':Hp} {o:HO} {c:Oc} (h:OwR K Z o c) (s:Same Z Z'):OwR K Z' o c:=by
 cases h with
 | lst r=>exact .lst (r.same s)
 | dct r=>exact .dct ⟨r.1,r.2.same s⟩
noncomputable def FrOk (K:Fg) (H₀ Z₀ Z:Hp) (δ:Dv) (σ:St):Prop:=∀ (i:Nat) ds,δ[i]? = some (.fr ds)->∃ a xs,σ[i]? = some (some (.ref a))/\H₀ a=none/\Z₀ a=none/\Z a=some (.lst xs)/\Reps K Z xs ds
theorem FrOk.same {K:Fg} {H₀ Z₀ Z Z':Hp} {δ:Dv} {σ:St} (h:FrOk K H₀ Z₀ Z δ σ) (s:Same Z Z'):FrOk K H₀ Z₀ Z' δ σ:=fun i ds e=>
 let ⟨a,xs,h1,h2,h3,h4,h5⟩:=h i ds e; ⟨a,xs,h1,h2,h3,s _ _ h4,h5.same s⟩
theorem FrOk.put {K:Fg} {H₀ Z₀ Z:Hp} {δ:Dv} {σ σ':St} (h:FrOk K H₀ Z₀ Z δ σ) {i:Nat} {x:Sl} (hx:∀ ds,x≠Sl.fr ds) (hs:∀ j:Nat,i≠j -> σ'[j]? = σ[j]?):FrOk K H₀ Z₀ Z (δ.set i x) σ':=fun j ds e=>by
 by_cases hj:i=j
 ·subst hj
  have hl:i < δ.length:=by have:=(List.getElem?_eq_some_iff.mp e).1; simpa using this
  rw [List.getElem?_set_self hl] at e
  exact absurd (Option.some.inj e) (hx ds)
 ·rw [List.getElem?_set_ne hj] at e
  obtain ⟨a,xs,h1,r⟩:=h j ds e
  exact ⟨a,xs,by rw [hs j hj]; exact h1,r⟩
structure Hold (K:Fg) (H₀ Z₀ Z:Hp) (δ:Dv) (σ:St) (H:Hp):Prop where
 zh:Same Z H
 h0:Same H₀ H
 z0:Same Z₀ Z
 zb:∀ b,H₀ b≠none->Z b=Z₀ b
 len:δ.length = σ.length
 fz:∀ (i:Nat) d,δ[i]? = some (.fz d)->∃ v,σ[i]? = some (some v)/\Rep K Z v d
 own:∀ (i:Nat) c,δ[i]? = some (.own c)->∃ a o,σ[i]? = some (some (.ref a))/\H₀ a=none/\Z a=none/\H a=some o/\OwR K Z o c
 dja:∀ (i j:Nat) c c' a,i≠j -> δ[i]? = some (.own c) -> δ[j]? = some (.own c') -> σ[i]? = some (some (.ref a)) -> σ[j]? ≠ some (some (V.ref a))
 fr:FrOk K H₀ Z₀ Z δ σ
 nf:NoF Z₀ Z
section
variable {K:Fg} {H₀ Z₀ Z Z' H H':Hp} {δ:Dv} {σ:St}
theorem Hold.ow (h:Hold K H₀ Z₀ Z δ σ H) (i:Nat) (ds:List D) (e:δ[i]? = some (.ow ds)):∃ a xs,σ[i]? = some (some (.ref a))/\H₀ a=none/\Z a=none/\H a=some (.lst xs)/\Reps K Z xs ds:=by
 obtain ⟨a,o,h1,h2,h3,h4,h5⟩:=h.own i _ e
 cases h5 with
 | lst r=>exact ⟨a,_,h1,h2,h3,h4,r⟩
theorem Hold.od (h:Hold K H₀ Z₀ Z δ σ H) (i:Nat) (es:List (aE×D)) (e:δ[i]? = some (.od es)):∃ a kvs,σ[i]? = some (some (.ref a))/\H₀ a=none/\Z a=none/\H a=some (.dK kvs)/\gG K Z kvs es:=by
 obtain ⟨a,o,h1,h2,h3,h4,h5⟩:=h.own i _ e
 cases h5 with
 | dct r=>exact ⟨a,_,h1,h2,h3,h4,r⟩
theorem Hold.new (h:Hold K H₀ Z₀ Z δ σ H) (n:New Z H Z' H'):Hold K H₀ Z₀ Z' δ σ H' where
 zh:=n.zh
 h0:=h.h0.trans n.h
 z0:=h.z0.trans n.z
 zb:=fun b hb=>by
  have:H b≠none:=by
   cases e:H₀ b with
   | none=>exact absurd e hb
   | some o=>rw [h.h0 b o e]; intro z; cases z
  rw [n.o b this,h.zb b hb]
 len:=h.len
 fz:=fun i d e=>let ⟨v,a,r⟩:=h.fz i d e; ⟨v,a,r.same n.z⟩
 own:=fun i ds e=>by
  obtain ⟨a,xs,h1,h2,h3,h4,h5⟩:=h.own i ds e
  exact ⟨a,xs,h1,h2,by rw [n.o a (by rw [h4]; intro z; cases z)]; exact h3,n.h a _ h4,h5.same n.z⟩
 dja:=h.dja
 fr:=h.fr.same n.z
 nf:=h.nf.trans n.nf
theorem Hold.set (h:Hold K H₀ Z₀ Z δ σ H) {i:Nat} {v:V} {d:D} (r:Rep K Z v d):Hold K H₀ Z₀ Z (δ.set i (.fz d)) (σ.set i (some v)) H where
 zh:=h.zh
 h0:=h.h0
 z0:=h.z0
 zb:=h.zb
 len:=by simp [h.len]
 fz:=fun j e q=>by
  by_cases hj:i=j
  ·subst hj
   have hl:i < δ.length:=by
    have:=(List.getElem?_eq_some_iff.mp q).1
    simpa using this
   rw [List.getElem?_set_self hl] at q
   cases q
   exact ⟨v,List.getElem?_set_self (by rw [<- h.len]; exact hl),r⟩
  ·rw [List.getElem?_set_ne hj] at q
   obtain ⟨u,a,b⟩:=h.fz j e q
   exact ⟨u,by rw [List.getElem?_set_ne hj]; exact a,b⟩
 own:=fun j es q=>by
  by_cases hj:i=j
  ·subst hj
   have hl:i < δ.length:=by
    have:=(List.getElem?_eq_some_iff.mp q).1
    simpa using this
   rw [List.getElem?_set_self hl] at q
   cases q
  ·rw [List.getElem?_set_ne hj] at q ⊢
   exact h.own j es q
 dja:=fun j k ds es a hjk q1 q2=>by
  by_cases hj:i=j
  ·subst hj
   have hl:i < δ.length:=by
    have:=(List.getElem?_eq_some_iff.mp q1).1
    simpa using this
   rw [List.getElem?_set_self hl] at q1
   cases q1
  ·by_cases hk:i=k
   ·subst hk
    have hl:i < δ.length:=by
     have:=(List.getElem?_eq_some_iff.mp q2).1
     simpa using this
    rw [List.getElem?_set_self hl] at q2
    cases q2
   ·rw [List.getElem?_set_ne hj] at q1
    rw [List.getElem?_set_ne hk] at q2
    rw [List.getElem?_set_ne hj,List.getElem?_set_ne hk]
    exact h.dja j k ds es a hjk q1 q2
 fr:=h.fr.put (fun _ z=>nomatch z) fun _ hj=>List.getElem?_set_ne hj
 nf:=h.nf
theorem Hold.setW (h:Hold K H₀ Z₀ Z δ σ H) {i:Nat} {p:Addr} {o:HO} {c:Oc} (hp:H p=none) (r:OwR K Z o c):Hold K H₀ Z₀ Z (δ.set i (.own c)) (σ.set i (some (.ref p))) (upd H p o) where
 zh:=h.zh.trans (eQ hp)
 h0:=h.h0.trans (eQ hp)
 z0:=h.z0
 zb:=h.zb
 len:=by simp [h.len]
 fz:=fun j e q=>by
  by_cases hj:i=j
  ·subst hj
   have hl:i < δ.length:=by
    have:=(List.getElem?_eq_some_iff.mp q).1
    simpa using this
   rw [List.getElem?_set_self hl] at q
   cases q
  ·rw [List.getElem?_set_ne hj] at q
   obtain ⟨u,a,b⟩:=h.fz j e q
   exact ⟨u,by rw [List.getElem?_set_ne hj]; exact a,b⟩
 own:=fun j es q=>by
  by_cases hj:i=j
  ·subst hj
   have hl:i < δ.length:=by
    have:=(List.getElem?_eq_some_iff.mp q).1
    simpa using this
   rw [List.getElem?_set_self hl] at q
   cases q
   exact ⟨p,o,List.getElem?_set_self (by rw [<- h.len]; exact hl),oh h.h0 hp,oh h.zh hp,aC,r⟩
  ·rw [List.getElem?_set_ne hj] at q ⊢
   obtain ⟨a,ys,h1,h2,h3,h4,h5⟩:=h.own j es q
   exact ⟨a,ys,h1,h2,h3,by rw [aB (aX h4 hp)]; exact h4,h5⟩
 dja:=fun j k ds es a hjk q1 q2=>by
  have old:∀ {m:Nat} {fs:Oc},δ[m]? = some (.own fs) -> σ[m]? ≠ some (some (V.ref p)):=fun {m fs} q z=>by
   obtain ⟨b,ys,h1,h2,h3,h4,h5⟩:=h.own m fs q
   rw [h1] at z
   cases z
   rw [hp] at h4
   cases h4
  have hl:∀ {m:Nat} {x:Sl},(δ.set i x)[m]? ≠ none->m < σ.length:=fun {m x} q=>by
   have:m<(δ.set i x).length:=by
    rcases Nat.lt_or_ge m (δ.set i x).length with g | g
    ·exact g
    ·exact absurd (List.getElem?_eq_none_iff.mpr g) q
   rw [<- h.len]; simpa using this
  by_cases hj:i=j
  ·subst hj
   have h1:i < σ.length:=hl (by rw [q1]; intro z; cases z)
   rw [List.getElem?_set_self h1]
   intro e
   cases e
   rw [List.getElem?_set_ne hjk] at q2 ⊢
   exact old q2
  ·rw [List.getElem?_set_ne hj] at q1 ⊢
   by_cases hk:i=k
   ·subst hk
    have h1:i < σ.length:=hl (by rw [q2]; intro z; cases z)
    intro e z
    rw [List.getElem?_set_self h1] at z
    cases z
    exact old q1 e
   ·rw [List.getElem?_set_ne hk] at q2 ⊢
    exact h.dja j k ds es a hjk q1 q2
 fr:=h.fr.put (fun _ z=>nomatch z) fun _ hj=>List.getElem?_set_ne hj
 nf:=h.nf
theorem Hold.setO (h:Hold K H₀ Z₀ Z δ σ H) {i:Nat} {p:Addr} {xs:List V} {ds:List D} (hp:H p=none) (r:Reps K Z xs ds):Hold K H₀ Z₀ Z (δ.set i (.ow ds)) (σ.set i (some (.ref p))) (upd H p (.lst xs)):=h.setW hp (.lst r)
theorem Hold.chgW (h:Hold K H₀ Z₀ Z δ σ H) {i:Nat} {p:Addr} {o:HO} {ds es:Oc} (e:δ[i]? = some (.own ds)) (ep:σ[i]? = some (some (.ref p))) (r:OwR K Z o es):Hold K H₀ Z₀ Z (δ.set i (.own es)) σ (upd H p o):=by
 obtain ⟨a,zs,h1,h2,h3,h4,h5⟩:=h.own i ds e
 rw [ep] at h1
 cases h1
 have hl:i < δ.length:=(List.getElem?_eq_some_iff.mp e).1
 refine ⟨fun b o' q=>?_,fun b o' q=>?_,h.z0,h.zb,by simp [h.len],fun j d q=>?_,fun j d q=>?_,fun j k d1 d2 a hjk q1 q2=>?_,h.fr.put (fun _ z=>nomatch z) fun _ _=>rfl,h.nf⟩
 ·rw [aB (aX q h3)]; exact h.zh b o' q
 ·rw [aB (aX q h2)]; exact h.h0 b o' q
 ·by_cases hj:i=j
  ·subst hj
   rw [List.getElem?_set_self hl] at q
   cases q
  ·rw [List.getElem?_set_ne hj] at q
   exact h.fz j d q
 ·by_cases hj:i=j
  ·subst hj
   rw [List.getElem?_set_self hl] at q
   cases q
   exact ⟨p,o,ep,h2,h3,aC,r⟩
  ·rw [List.getElem?_set_ne hj] at q
   obtain ⟨b,ws,g1,g2,g3,g4,g5⟩:=h.own j d q
   refine ⟨b,ws,g1,g2,g3,?_,g5⟩
   have:b≠p:=fun z=>by subst z; exact h.dja i j ds d b hj e q ep g1
   rw [aB this]; exact g4
 ·have f:∀ {m:Nat} {dm:Oc},(δ.set i (.own es))[m]? = some (.own dm)->∃ dm',δ[m]? = some (.own dm'):=fun {m dm} q=>by
   by_cases hm:i=m
   ·subst hm; exact ⟨ds,e⟩
   ·rw [List.getElem?_set_ne hm] at q; exact ⟨dm,q⟩
  obtain ⟨e1,g1⟩:=f q1
  obtain ⟨e2,g2⟩:=f q2
  exact h.dja j k e1 e2 a hjk g1 g2
theorem Hold.chg (h:Hold K H₀ Z₀ Z δ σ H) {i:Nat} {p:Addr} {xs ys:List V} {ds es:List D} (e:δ[i]? = some (.ow ds)) (ep:σ[i]? = some (some (.ref p))) (r:Reps K Z ys es):Hold K H₀ Z₀ Z (δ.set i (.ow es)) σ (upd H p (.lst ys)):=h.chgW e ep (.lst r)
theorem Hold.frz (h:Hold K H₀ Z₀ Z δ σ H) {i:Nat} {ds:List D} (e:δ[i]? = some (.ow ds)):∃ Z',Same Z Z'/\Hold K H₀ Z₀ Z' (δ.set i (.fz (.list ds))) σ H:=by
 obtain ⟨a,xs,h1,h2,h3,h4,h5⟩:=h.ow i ds e
 have hl:i < δ.length:=(List.getElem?_eq_some_iff.mp e).1
 have sz:Same Z (upd Z a (.lst xs)):=eQ h3
 refine ⟨upd Z a (.lst xs),sz,fun b o q=>?_,h.h0,h.z0.trans sz,fun b hb=>?_,by simp [h.len],fun j d q=>?_,fun j d q=>?_,fun j k d1 d2 b hjk q1 q2=>?_,(h.fr.same sz).put (fun _ z=>nomatch z) fun _ _=>rfl,h.nf.upd a⟩
 ·by_cases hb:b=a
  ·subst hb; rw [aC] at q; cases q; exact h4
  ·rw [aB hb] at q; exact h.zh b o q
 ·rw [aB (fun z=>hb (by rw [z]; exact h2))]; exact h.zb b hb
 ·by_cases hj:i=j
  ·subst hj
   rw [List.getElem?_set_self hl] at q
   cases q
   exact ⟨.ref a,h1,.lst (SqL.of aC) (h5.same sz)⟩
  ·rw [List.getElem?_set_ne hj] at q
   obtain ⟨v,g1,g2⟩:=h.fz j d q
   exact ⟨v,g1,g2.same sz⟩
 ·by_cases hj:i=j
  ·subst hj
   rw [List.getElem?_set_self hl] at q
   cases q
  ·rw [List.getElem?_set_ne hj] at q
   obtain ⟨b,ws,g1,g2,g3,g4,g5⟩:=h.own j d q
   have:b≠a:=fun z=>by subst z; exact h.dja i j _ d b hj e q h1 g1
   exact ⟨b,ws,g1,g2,by rw [aB this]; exact g3,g4,g5.same sz⟩
 ·by_cases hj:i=j
  ·subst hj
   rw [List.getElem?_set_self hl] at q1
   cases q1
  ·by_cases hk:i=k
   ·subst hk
    rw [List.getElem?_set_self hl] at q2
    cases q2
   ·rw [List.getElem?_set_ne hj] at q1
    rw [List.getElem?_set_ne hk] at q2
    exact h.dja j k d1 d2 b hjk q1 q2
end
noncomputable def tV (K:Fg) (f:Dv->Option D):TE:=fun σ H Q=>∃ H₀ Z₀ Z δ d,Hold K H₀ Z₀ Z δ σ H/\f δ = some d/\∀ v Z' H',Hold K H₀ Z₀ Z' δ σ H'->Same Z Z'->Rep K Z' v d->Q v H'
noncomputable def AR (K:Fg) (f:Dv->Option Bool):TT:=fun σ H Q=>∃ H₀ Z₀ Z δ b,Hold K H₀ Z₀ Z δ σ H/\f δ = some b/\∀ Z' H',Hold K H₀ Z₀ Z' δ σ H'->Same Z Z'->Q b H'
noncomputable def Ik (K:Fg) (f:Dv->Option (List D)):TA:=fun σ H Q=>∃ H₀ Z₀ Z δ ds,Hold K H₀ Z₀ Z δ σ H/\f δ = some ds/\∀ vs Z' H',Hold K H₀ Z₀ Z' δ σ H'->Same Z Z'->Reps K Z' vs ds->Q vs H'
noncomputable def Fl.to (K:Fg) (Z:Hp) (D:Ends) (σ:St) (H:Hp):Fl->Prop
 | .nx=>D.nx σ H
 | .bk=>D.bk σ H
 | .ct=>D.ct σ H
 | .rt d=>∀ v,Rep K Z v d->D.rt v H
noncomputable def AS (K:Fg) (f:Dv->Option (Fl×Dv)):TS:=fun D σ H=>∃ H₀ Z₀ Z δ r,Hold K H₀ Z₀ Z δ σ H/\f δ = some r/\∀ σ' H' Z',Hold K H₀ Z₀ Z' r.2 σ' H'->Same Z Z'->r.1.to K Z' D σ' H'
noncomputable def EV (X:Cx) (e:Expr) (f:Dv->Option D):Prop:=PE X e (tV X.K f)
noncomputable def TV (X:Cx) (e:Expr) (f:Dv->Option Bool):Prop:=PT X e (AR X.K f)
noncomputable def AV (X:Cx) (es:List Expr) (f:Dv->Option (List D)):Prop:=PA X es (Ik X.K f)
noncomputable def SV (X:Cx) (st:Stmt) (f:Dv->Option (Fl×Dv)):Prop:=PS X st (AS X.K f)
noncomputable def BV (X:Cx) (st:List Stmt) (f:Dv->Option (Fl×Dv)):Prop:=PSs X st (AS X.K f)
theorem PE.imp {X:Cx} {e:Expr} {t t':TE} (h:PE X e t) (i:∀ σ H Q,t' σ H Q->t σ H Q):PE X e t':=fun pins s σ H Q I hw=>h pins s σ H Q I (i _ _ _ hw)
theorem PT.imp {X:Cx} {e:Expr} {t t':TT} (h:PT X e t) (i:∀ σ H Q,t' σ H Q->t σ H Q):PT X e t':=fun pins s σ H Q I hw=>h pins s σ H Q I (i _ _ _ hw)
theorem PA.imp {X:Cx} {es:List Expr} {t t':TA} (h:PA X es t) (i:∀ σ H Q,t' σ H Q->t σ H Q):PA X es t':=fun pos pins s σ H Q I hw=>h pos pins s σ H Q I (i _ _ _ hw)
theorem PS.imp {X:Cx} {st:Stmt} {t t':TS} (h:PS X st t) (i:∀ D σ H,t' D σ H->t D σ H):PS X st t':=fun pins s σ H D I hw=>h pins s σ H D I (i _ _ _ hw)
theorem PSs.imp {X:Cx} {st:List Stmt} {t t':TS} (h:PSs X st t) (i:∀ D σ H,t' D σ H->t D σ H):PSs X st t':=fun pins s σ H D I hw=>h pins s σ H D I (i _ _ _ hw)
theorem OpR.imp {X:Cx} {f:Value->Value->Sem Value} {r r':R2} (h:OpR X f r) (i:∀ x y H Q,r' x y H Q->r x y H Q):OpR X f r':=fun pins s σ H x y v u Q I rx ry q=>h pins s σ H x y v u Q I rx ry (i _ _ _ _ q)
theorem CallR.imp {X:Cx} {f:Value} {r r':List V->Hp->VK->Prop} (h:CallR X f r) (i:∀ xs H Q,r' xs H Q->r xs H Q):CallR X f r':=fun pins s σ H xs us Q I rx q=>h pins s σ H xs us Q I rx (i _ _ _ q)
noncomputable def rD (K:Fg) (g:D->D->Option D):R2:=fun x y H Q=>∃ Z a b d,Same Z H/\Rep K Z x a/\Rep K Z y b/\g a b=some d/\∀ v Z' H',New Z H Z' H'->Rep K Z' v d->Q v H'
noncomputable def Iq (K:Fg) (g:D->Option D):V->Hp->VK->Prop:=fun x H Q=>∃ Z a d,Same Z H/\Rep K Z x a/\g a=some d/\∀ v Z' H',New Z H Z' H'->Rep K Z' v d->Q v H'
noncomputable def uz (K:Fg) (g:List D->Option D):List V->Hp->VK->Prop:=fun xs H Q=>∃ Z as d,Same Z H/\Reps K Z xs as/\g as=some d/\∀ v Z' H',New Z H Z' H'->Rep K Z' v d->Q v H'
noncomputable def gD (K:Fg) (g:List D->Option D):Sp:=fun vs H Q _=>uz K g vs H Q
section
variable {X:Cx} {a b c e:Expr} {es:List Expr} {pos p:Pos} {f f1 f2 f3:Dv->Option D} {fs:Dv->Option (List D)} {ft fu:Dv->Option Bool}
theorem bind_some {α β:Type} {o:Option α} {k:α -> Option β} {r:β} (h:o.bind k=some r):∃ a,o=some a/\k a=some r:=by
 cases o with
 | none=>cases h
 | some a=>exact ⟨a,rfl,h⟩
theorem two {K:Fg} {g:D->D->Option D} {σ:St} {H:Hp} {Q:VK} {r:R2} (hr:∀ x y H Q,rD K g x y H Q->r x y H Q) (h:tV K (o2 f1 f2 g) σ H Q):DY r (tV K f1) (tV K f2) σ H Q:=by
 obtain ⟨H₀,Z₀,Z,δ,d,hh,e,k⟩:=h
 obtain ⟨x,e1,e⟩:=bind_some e
 obtain ⟨y,e2,e⟩:=bind_some e
 refine ⟨H₀,Z₀,Z,δ,x,hh,e1,fun v Z1 H1 hh1 s1 r1=>⟨H₀,Z₀,Z1,δ,y,hh1,e2,fun u Z2 H2 hh2 s2 r2=>hr _ _ _ _ ⟨Z2,x,y,d,hh2.zh,r1.same s2,r2,e,fun w Z3 H3 n r3=>?_⟩⟩⟩
 exact k w Z3 H3 (hh2.new n) ((s1.trans s2).trans n.z) r3
theorem ag {op:Operator} {g:D->D->Option D} (ho:OpR X (binaryOp op) (rD X.K g)) (ha:EV X a f1) (hb:EV X b f2):EV X (.BinOp a op b pos) (o2 f1 f2 g):=
 PE.imp (ER ho ha hb) fun _ _ _ h=>two (fun _ _ _ _ q=>q) h
theorem Bk {op:UnaryOp} {g:D->Option D} (ho:FZ X (unaryOp op) (Iq X.K g)) (ha:EV X a f):EV X (.UnaryOp op a pos) (o1 f g):=
 PE.imp (EQ ho ha) fun σ H Q h=>by
  obtain ⟨H₀,Z₀,Z,δ,d,hh,e,k⟩:=h
  obtain ⟨x,e1,e⟩:=bind_some e
  exact ⟨H₀,Z₀,Z,δ,x,hh,e1,fun v Z1 H1 hh1 s1 r1=>⟨Z1,x,d,hh1.zh,r1,e,fun w Z3 H3 n r3=>k w Z3 H3 (hh1.new n) (s1.trans n.z) r3⟩⟩
theorem g7 {op:CmpOp} {g:D->D->Option D} (ho:OpR X (compareOp op) (rD X.K g)) (ha:EV X a f1) (hb:EV X b f2) (hm:behindInMarks op b=false):EV X (.Compare a [op] [b] pos) (o2 f1 f2 g):=
 PE.imp (zE ho ha hb hm) fun _ _ _ h=>two (fun _ _ _ _ q=>q) h
theorem rQ {d:D} {b:Bool} (h:asB d=some b):d=.bool b:=by
 cases d <;> simp [asB] at h
 subst h; rfl
theorem Ij {K:Fg} {σ:St} {H:Hp} {Q:Bool->Hp->Prop} (h:AR K (ob f) σ H Q):tV K f σ H fun x H1=>∃ c,x=.bl c/\Q c H1:=by
 obtain ⟨H₀,Z₀,Z,δ,d,hh,e,k⟩:=h
 obtain ⟨x,e1,e⟩:=bind_some e
 have:=rQ e
 subst this
 exact ⟨H₀,Z₀,Z,δ,_,hh,e1,fun v Z1 H1 hh1 s1 r1=>⟨_,r1.bl_eq,k Z1 H1 hh1 s1⟩⟩
theorem aL {op:CmpOp} {g:D->D->Option D} (ho:OpR X (compareOp op) (rD X.K g)) (ha:EV X a f1) (hb:EV X b f2) (hm:behindInMarks op b=false):TV X (.Compare a [op] [b] pos) (ob (o2 f1 f2 g)):=
 PT.imp (zq ho ha hb hm) fun σ H Q h=>by
  have h':=Ij h
  exact two (f1:=f1) (f2:=f2) (g:=g) (fun _ _ _ _ q=>q) h'
theorem dc (ha:EV X a f) (he:∀ whole,isTrue a X.env whole=(do let v <- whole; standAt a.pos; holding [v] (truthy v)):=by intro _; rfl):TV X a (ob f):=
 PT.imp (Ce ha he) fun _ _ _ h=>Ij h
noncomputable def WV (X:Cx) (e:Expr) (f:Dv->Option Bool):Prop:=PW X e (AR X.K f)
theorem PW.imp {X:Cx} {e:Expr} {t t':TT} (h:PW X e t) (i:∀ σ H Q,t' σ H Q->t σ H Q):PW X e t':=fun whole pins s σ H Q I hw=>h whole pins s σ H Q I (i _ _ _ hw)
theorem m8 (ha:TV X a ft):WV X (.BoolOp .And [a] pos) ft:=zo ha
theorem m7 (ha:TV X a ft):WV X (.BoolOp .Or [a] pos) ft:=Ca ha
theorem i5 {rest:List Expr} (ha:TV X a ft) (hb:WV X (.BoolOp .And (b::rest) pos) fu):WV X (.BoolOp .And (a::b::rest) pos) (jh ft fu):=
 PW.imp (Cb ha hb) fun σ H Q h=>by
  obtain ⟨H₀,Z₀,Z,δ,d,hh,e,k⟩:=h
  obtain ⟨x,e1,e⟩:=bind_some e
  refine ⟨H₀,Z₀,Z,δ,x,hh,e1,fun Z1 H1 hh1 s1=>?_⟩
  cases x with
  | true=>exact ⟨H₀,Z₀,Z1,δ,d,hh1,e,fun Z2 H2 hh2 s2=>k Z2 H2 hh2 (s1.trans s2)⟩
  | false=>cases e; exact k Z1 H1 hh1 s1
theorem gI {rest:List Expr} (ha:TV X a ft) (hb:WV X (.BoolOp .Or (b::rest) pos) fu):WV X (.BoolOp .Or (a::b::rest) pos) (wQ ft fu):=
 PW.imp (EK ha hb) fun σ H Q h=>by
  obtain ⟨H₀,Z₀,Z,δ,d,hh,e,k⟩:=h
  obtain ⟨x,e1,e⟩:=bind_some e
  refine ⟨H₀,Z₀,Z,δ,x,hh,e1,fun Z1 H1 hh1 s1=>?_⟩
  cases x with
  | true=>cases e; exact k Z1 H1 hh1 s1
  | false=>exact ⟨H₀,Z₀,Z1,δ,d,hh1,e,fun Z2 H2 hh2 s2=>k Z2 H2 hh2 (s1.trans s2)⟩
theorem WV.tv (h:WV X a ft):TV X a ft:=PW.pt h
theorem i7 (ha:TV X a ft):TV X (.UnaryOp .Not a pos) (nT ft):=
 PT.imp (Cf ha) fun σ H Q h=>by
  obtain ⟨H₀,Z₀,Z,δ,d,hh,e,k⟩:=h
  cases e1:ft δ with
  | none=>unfold nT at e; rw [e1] at e; cases e
  | some x=>
   unfold nT at e
   rw [e1] at e
   cases e
   exact ⟨H₀,Z₀,Z,δ,x,hh,e1,fun Z1 H1 hh1 s1=>k Z1 H1 hh1 s1⟩
theorem om {op} (h:EV X a f):EV X (.BoolOp op [a] pos) f:=Co h
theorem lc {rest:List Expr} (ha:EV X a f1) (hb:EV X (.BoolOp .And (b::rest) pos) f2):EV X (.BoolOp .And (a::b::rest) pos) (mE f1 f2):=
 PE.imp (Cr ha hb) fun σ H Q h=>by
  obtain ⟨H₀,Z₀,Z,δ,d,hh,e,k⟩:=h
  obtain ⟨x,e1,e⟩:=bind_some e
  obtain ⟨c,e2,e⟩:=bind_some e
  have:=rQ e2
  subst this
  refine ⟨H₀,Z₀,Z,δ,_,hh,e1,fun v Z1 H1 hh1 s1 r1=>⟨c,r1.bl_eq,?_⟩⟩
  cases c with
  | true=>exact ⟨H₀,Z₀,Z1,δ,d,hh1,e,fun v Z2 H2 hh2 s2 r2=>k v Z2 H2 hh2 (s1.trans s2) r2⟩
  | false=>cases e; exact k _ Z1 H1 hh1 s1 (.bl false)
theorem Dc (ha:EV X a f):EV X (.UnaryOp .Not a pos) (o1 f zU):=
 PE.imp (Cp ha) fun σ H Q h=>by
  obtain ⟨H₀,Z₀,Z,δ,d,hh,e,k⟩:=h
  obtain ⟨x,e1,e⟩:=bind_some e
  cases e2:asB x with
  | none=>unfold zU at e; rw [e2] at e; cases e
  | some c=>
   unfold zU at e
   rw [e2] at e
   cases e
   have:=rQ e2
   subst this
   exact ⟨H₀,Z₀,Z,δ,_,hh,e1,fun v Z1 H1 hh1 s1 r1=>⟨c,r1.bl_eq,k _ Z1 H1 hh1 s1 (.bl _)⟩⟩
theorem xD (hc:TV X c ft) (ha:EV X a f1) (hb:EV X b f2):EV X (.IfExp c a b pos) (G7 ft f1 f2):=
 PE.imp (wD hc ha hb) fun σ H Q h=>by
  obtain ⟨H₀,Z₀,Z,δ,d,hh,e,k⟩:=h
  obtain ⟨x,e1,e⟩:=bind_some e
  refine ⟨H₀,Z₀,Z,δ,x,hh,e1,fun Z1 H1 hh1 s1=>?_⟩
  cases x with
  | true=>exact ⟨H₀,Z₀,Z1,δ,d,hh1,e,fun v Z2 H2 hh2 s2 r2=>k v Z2 H2 hh2 (s1.trans s2) r2⟩
  | false=>exact ⟨H₀,Z₀,Z1,δ,d,hh1,e,fun v Z2 H2 hh2 s2 r2=>k v Z2 H2 hh2 (s1.trans s2) r2⟩
theorem Hold.read {K:Fg} {H₀ Z₀ Z H:Hp} {δ:Dv} {σ:St} (hh:Hold K H₀ Z₀ Z δ σ H) {i:Nat} {d:D} (h:oV i δ = some d):∃ v,σ[i]? = some (some v)/\Rep K Z v d:=by
 unfold oV at h
 cases q:δ[i]? with
 | none=>rw [q] at h; cases h
 | some x=>
  rw [q] at h
  cases x with
  | fz e=>cases h; exact hh.fz i _ q
  | un=>cases h
  | own _=>cases h
  | fr ds=>
   cases h
   obtain ⟨a,xs,h1,_,_,h4,h5⟩:=hh.fr i ds q
   exact ⟨.ref a,h1,.lst (SqL.of h4) h5⟩
theorem ab (i:Nat) {x:Str} (hN:X.N[i]? = some x:=by rfl) (hv:vt X.env.scope x:=by first | exact Or.inl rfl | exact Or.inr (Or.inl rfl) | exact Or.inr (Or.inr rfl)) (hd:(x==("__debug__":Str))=false:=by decide) (hcd:(x==("__classdict__":Str))=false:=by decide) :
  EV X (.Name x pos) (oV i):=
 PE.imp (eG hN hv hd hcd) fun σ H Q h=>by
  obtain ⟨H₀,Z₀,Z,δ,d,hh,e,k⟩:=h
  obtain ⟨v,q,r⟩:=hh.read e
  exact ⟨v,q,k v Z H hh (Same.refl _) r⟩
theorem De {d:D} {v:V} (h:PE X e (tC v)) (r:∀ Z,Rep X.K Z v d):EV X e (oC d):=
 PE.imp h fun σ H Q h=>by
  obtain ⟨H₀,Z₀,Z,δ,d',hh,e,k⟩:=h
  cases e
  exact k v Z H hh (Same.refl _) (r Z)
theorem ac {i j}:EV X (.Constant (.int i) j pos) (oC (.int i)):=De Cq fun _=>.int i
theorem lb {i j}:EV X (.Constant (.bool i) j pos) (oC (.bool i)):=De ES fun _=>.bl i
theorem oj {i j}:EV X (.Constant (.str i) j pos) (oC (.str i)):=De Cn fun _=>.str i
theorem aj:AV X [] au:=
 PA.imp eI fun σ H Q h=>by
  obtain ⟨H₀,Z₀,Z,δ,d,hh,e,k⟩:=h
  cases e
  exact k [] Z H hh (Same.refl _) .nil
theorem ae (ha:EV X e f) (hr:AV X es fs) (hs:starEach (e::es) X.env=(false,eval e X.env)::starEach es X.env:=by rfl):AV X (e::es) (af f fs):=
 PA.imp (cU ha hr hs) fun σ H Q h=>by
  obtain ⟨H₀,Z₀,Z,δ,d,hh,e,k⟩:=h
  obtain ⟨x,e1,e⟩:=bind_some e
  obtain ⟨xs,e2,e⟩:=bind_some e
  cases e
  exact ⟨H₀,Z₀,Z,δ,x,hh,e1,fun v Z1 H1 hh1 s1 r1=>⟨H₀,Z₀,Z1,δ,xs,hh1,e2,fun vs Z2 H2 hh2 s2 r2=>k _ Z2 H2 hh2 (s1.trans s2) (.cons (r1.same s2) r2)⟩⟩
theorem bR {x1} (h:AV X es fs):EV X (.Tuple es x1 pos) (os fs cg):=
 PE.imp (Cl h) fun σ H Q h=>by
  obtain ⟨H₀,Z₀,Z,δ,d,hh,e,k⟩:=h
  obtain ⟨xs,e1,e⟩:=bind_some e
  refine ⟨H₀,Z₀,Z,δ,xs,hh,e1,fun vs Z1 H1 hh1 s1 r1=>?_⟩
  by_cases hl:xs.length<=sizeLine
  ·rw [cg,if_pos hl] at e
   cases e
   refine ⟨by rw [r1.length]; exact hl,fun p hp=>?_⟩
   have n:=New.add hh1.zh hp (.tup vs)
   exact k _ _ _ (hh1.new n) (s1.trans n.z) (.tup (SqT.of aC) (r1.same n.z))
  ·rw [cg,if_neg hl] at e; cases e
theorem oo (h:AV X es fs):EV X (.List es pos) (os fs gE):=
 PE.imp (wA h) fun σ H Q h=>by
  obtain ⟨H₀,Z₀,Z,δ,d,hh,e,k⟩:=h
  obtain ⟨xs,e1,e⟩:=bind_some e
  refine ⟨H₀,Z₀,Z,δ,xs,hh,e1,fun vs Z1 H1 hh1 s1 r1=>?_⟩
  by_cases hl:xs.length<=sizeLine
  ·rw [gE,if_pos hl] at e
   cases e
   refine ⟨by rw [r1.length]; exact hl,fun p hp=>?_⟩
   have n:=New.add hh1.zh hp (.lst vs)
   exact k _ _ _ (hh1.new n) (s1.trans n.z) (.lst (SqL.of aC) (r1.same n.z))
  ·rw [gE,if_neg hl] at e; cases e
theorem args {K:Fg} {g:List D->Option D} {σ:St} {H:Hp} {Q:VK} (h:tV K (os fs g) σ H Q):Ik K fs σ H fun vs H1=>uz K g vs H1 Q:=by
 obtain ⟨H₀,Z₀,Z,δ,d,hh,e,k⟩:=h
 obtain ⟨xs,e1,e⟩:=bind_some e
 exact ⟨H₀,Z₀,Z,δ,xs,hh,e1,fun vs Z1 H1 hh1 s1 r1=>⟨Z1,xs,d,hh1.zh,r1,e,fun w Z3 H3 n r3=>k w Z3 H3 (hh1.new n) (s1.trans n.z) r3⟩⟩
theorem bd {x:Str} {id:String} {g:List D->Option D} (hc:CallR X (.builtin id) (uz X.K g)) (hg:Gl X x) (hm:X.mg x=none) (hv:bootBuiltins x=some (.builtin id)) (ha:AV X (e::es) fs) (hn:x ≠ "__name__":=by decide) (hdb:(x==("__debug__":Str))=false:=by decide)
  (he:starEach (e::es) X.env=(false,eval e X.env)::starEach es X.env:=by rfl) (hpl:(backTo pos (starEach es X.env)).any (·.1)=false:=by rfl):EV X (.Call (.Name x p) (e::es) [] pos) (os fs g):=
 PE.imp (f7 hc hg hm hv ha hn hdb he hpl) fun _ _ _ h=>args h
theorem cL {x:Str} {id:String} {g:List D->Option D} (hc:CallR X (.type id) (uz X.K g)) (hg:Gl X x) (hm:X.mg x=none) (hv:bootBuiltins x=some (.type id)) (ha:AV X (e::es) fs) (hn:x ≠ "__name__":=by decide) (hdb:(x==("__debug__":Str))=false:=by decide)
  (he:starEach (e::es) X.env=(false,eval e X.env)::starEach es X.env:=by rfl) (hpl:(backTo pos (starEach es X.env)).any (·.1)=false:=by rfl):EV X (.Call (.Name x p) (e::es) [] pos) (os fs g):=
 PE.imp (mB hc hg hm hv ha hn hdb he hpl) fun _ _ _ h=>args h
theorem Ao {k:Nat} {fa:Addr} {fd:FuncData} {ps:List Str} {x:Str} {g:List D->Option D} {dd:List D} {dv:List V} {ds:List Value} (F:FnOk X.prog X.w X.K X.mg X.base em k fa fd ps (gD X.K g)) (hr:Room k X.A) (hg:Gl X x) (hm:X.mg x=some (.ref fa)) (hk:PySem.W.keepIn X.K (.ref fa)=true)
  (hb:Binds X.K fd ps ds) (hd:Vals dv ds) (hdd:∀ Z,Reps X.K Z dv dd) (hx:oN em X E0) (ha:AV X (e::es) fs) (hdb:(x==("__debug__":Str))=false:=by decide) (he:starEach (e::es) X.env=(false,eval e X.env)::starEach es X.env:=by rfl) (hpl:(backTo pos (starEach es X.env)).any (·.1)=false:=by rfl) :
  EV X (.Call (.Name x p) (e::es) [] pos) (os fs fun as=>g (as++dd)):=
 PE.imp (zF F hr hg hm hk hb hd hx ha hdb he hpl) fun σ H Q h=>by
  obtain ⟨H₀,Z₀,Z,δ,xs,hh,e1,q⟩:=args h
  refine ⟨H₀,Z₀,Z,δ,xs,hh,e1,fun vs Z1 H1 hh1 s1 r1=>?_⟩
  obtain ⟨Z2,as,d,zh,ra,eg,kk⟩:=q vs Z1 H1 hh1 s1 r1
  exact ⟨Z2,as++dd,d,zh,ra.append (hdd Z2),eg,kk⟩
theorem IxR.imp {r r':R2} (h:IxR X r) (i:∀ x y H Q,r' x y H Q->r x y H Q):IxR X r':=fun value slice pins s σ H x y v u Q I rx ry q hs=>h value slice pins s σ H x y v u Q I rx ry (i _ _ _ _ q) hs
theorem ak {g:D->D->Option D} (ho:IxR X (rD X.K g)) (ha:EV X a f1) (hb:EV X b f2) (hs:oM b):EV X (.Subscript a b pos) (o2 f1 f2 g):=
 PE.imp (A6 ho ha hb hs) fun _ _ _ h=>two (fun _ _ _ _ q=>q) h
end
end VL
set_option Elab.async false
set_option linter.all false
set_option maxRecDepth 100000
set_option maxHeartbeats 4000000
namespace VL
open PySem PySem.Spec PyProof.Rows L2
section
variable {X:Cx} {a b c e tg:Expr} {es:List Expr} {pos p:Pos} {f f1 f2 f3:Dv->Option D} {fs:Dv->Option (List D)} {ft fu:Dv->Option Bool} {st:Stmt} {sts body:List Stmt} {s1 s2:Dv->Option (Fl×Dv)}
theorem wJ {F:Value->Value->Sem Value} {g:Int->Int->Int} (h:OpR X F (wk fun i j=>.int (g i j))):OpR X F (rD X.K (iI g)):=
 OpR.imp h fun x y H Q q=>by
  obtain ⟨Z,a,b,d,zh,ra,rb,e,k⟩:=q
  cases ra <;> cases rb <;> simp [iI] at e
  subst e
  exact ⟨_,_,rfl,rfl,k _ Z H (New.refl zh) (.int _)⟩
theorem wK {F:Value->Value->Sem Value} {g:Int->Int->Bool} (h:OpR X F (wk fun i j=>.bl (g i j))):OpR X F (rD X.K (iB g)):=
 OpR.imp h fun x y H Q q=>by
  obtain ⟨Z,a,b,d,zh,ra,rb,e,k⟩:=q
  cases ra <;> cases rb <;> simp [iB] at e
  subst e
  exact ⟨_,_,rfl,rfl,k _ Z H (New.refl zh) (.bl _)⟩
theorem mD {F:Value->Value->Sem Value} {P:Int->Int->Prop} {C:Int->Int->Bool} {g:Int->Int->Int} (h:OpR X F (rI P fun i j=>.int (g i j))) (hc:∀ i j,C i j=true->P i j):OpR X F (rD X.K (iC C g)):=
 OpR.imp h fun x y H Q q=>by
  obtain ⟨Z,a,b,d,zh,ra,rb,e,k⟩:=q
  cases ra with
  | int i=>
   cases rb with
   | int j=>
    by_cases hh:C i j=true
    ·simp only [iC,if_pos hh] at e
     cases e
     exact ⟨_,_,rfl,rfl,hc _ _ hh,k _ Z H (New.refl zh) (.int _)⟩
    ·simp only [iC,if_neg hh] at e
     cases e
   | _=>simp [iC] at e
  | _=>simp [iC] at e
theorem cC:OpR X (binaryOp .Sub) (rD X.K de):=wJ Cu
theorem di:OpR X (binaryOp .Mult) (rD X.K cA):=mD (P:=fun i j=>IntMulOk i j) (DI fun _ _ _ _ _ _ _ hc q=>mul_int q hc) fun i j h=>of_decide_eq_true h
theorem cW:OpR X (binaryOp .FloorDiv) (rD X.K cM):=mD zM fun i j h=>(of_decide_eq_true h:0<j/\j<1073741824)
theorem aW:OpR X (binaryOp .Mod) (rD X.K aR):=mD Cy fun i j h=>of_decide_eq_true h
theorem Bm:OpR X (binaryOp .Pow) (rD X.K uA):=mD Cw fun i j h=>(of_decide_eq_true h:0<=j/\j<=1000000/\i.natAbs<2 ^ 64)
theorem gk:OpR X (binaryOp .LShift) (rD X.K eP):=mD (P:=fun i j=>0<=j/\(Builtin.Int.intBits i:Int)+j<=2 ^ 27) (DI fun _ _ _ _ _ _ _ hc q=>lshift_int hc.1 hc.2 q) fun i j h=>of_decide_eq_true h
theorem qf:OpR X (binaryOp .RShift) (rD X.K pc):=mD Cv fun i j h=>of_decide_eq_true h
theorem tS:OpR X (binaryOp .BitAnd) (rD X.K yf):=wJ Cz
theorem mT:OpR X (binaryOp .BitXor) (rD X.K qA):=wJ Ct
theorem xR:OpR X (compareOp .Lt) (rD X.K Bc):=wK sP
theorem HE:OpR X (compareOp .LtE) (rD X.K IB):=wK E2
theorem rF:OpR X (compareOp .Gt) (rD X.K yw):=wK E3
theorem Bn:FZ X (unaryOp .USub) (Iq X.K negD):=by
 intro pins s σ H x v Q I rx q
 obtain ⟨Z,a,d,zh,ra,e,k⟩:=q
 cases ra <;> simp [negD] at e
 subst e
 exact Bx pins s σ H _ v Q I rx ⟨_,rfl,k _ Z H (New.refl zh) (.int _)⟩
theorem Rep.str_eq {K:Fg} {Z:Hp} {v:V} {x:Str} (h:Rep K Z v (.str x)):v=.str x:=by cases h; rfl
theorem Rep.tup_ex {K:Fg} {Z:Hp} {v:V} {ds:List D} (h:Rep K Z v (.tuple ds)):∃ a xs,v=.ref a/\SqT K Z a xs/\Reps K Z xs ds:=by
 cases h with
 | tup p q=>exact ⟨_,_,rfl,p,q⟩
theorem Rep.lst_ex {K:Fg} {Z:Hp} {v:V} {ds:List D} (h:Rep K Z v (.list ds)):∃ a xs,v=.ref a/\SqL K Z a xs/\Reps K Z xs ds:=by
 cases h with
 | lst p q=>exact ⟨_,_,rfl,p,q⟩
theorem ce {p:Prop} [Decidable p] {α:Type} {x y:α} (h:(if p then some x else none)=some y):p/\x=y:=by
 by_cases q:p
 ·rw [if_pos q] at h; exact ⟨q,Option.some.inj h⟩
 ·rw [if_neg q] at h; cases h
theorem Du {a b d:D} (h:aN a b=some d):(∃ i,a=.int i)\/(∃ x,a=.str x)\/(∃ xs,a=.list xs)\/∃ xs,a=.tuple xs:=by
 cases a with
 | int i=>exact .inl ⟨_,rfl⟩
 | str i=>exact .inr (.inl ⟨_,rfl⟩)
 | list i=>exact .inr (.inr (.inl ⟨_,rfl⟩))
 | tuple i=>exact .inr (.inr (.inr ⟨_,rfl⟩))
 | _=>cases h
theorem Dw {i:Int} {b d:D} (h:aN (.int i) b=some d):∃ j,b=.int j/\d=.int (i+j):=by
 cases b with
 | int j=>exact ⟨j,rfl,(Option.some.inj h).symm⟩
 | _=>cases h
theorem Ds {i:Str} {b d:D} (h:aN (.str i) b=some d):∃ j,b=.str j/\i.length+j.length<=sizeLine/\d=.str (i++j):=by
 cases b with
 | str j=>obtain ⟨p,q⟩:=ce h; exact ⟨j,rfl,p,q.symm⟩
 | _=>cases h
theorem Dt {i:List D} {b d:D} (h:aN (.list i) b=some d):∃ j,b=.list j/\i.length+j.length<=sizeLine/\d=.list (i++j):=by
 cases b with
 | list j=>obtain ⟨p,q⟩:=ce h; exact ⟨j,rfl,p,q.symm⟩
 | _=>cases h
theorem Dr {i:List D} {b d:D} (h:aN (.tuple i) b=some d):∃ j,b=.tuple j/\i.length+j.length<=sizeLine/\d=.tuple (i++j):=by
 cases b with
 | tuple j=>obtain ⟨p,q⟩:=ce h; exact ⟨j,rfl,p,q.symm⟩
 | _=>cases h
theorem bf:OpR X (binaryOp .Add) (rD X.K aN):=by
 intro pins s σ H x y v u Q I rx ry q
 obtain ⟨Z,a,b,d,zh,ra,rb,e,k⟩:=q
 rcases Du e with ⟨i,rfl⟩ | ⟨i,rfl⟩ | ⟨ds,rfl⟩ | ⟨ds,rfl⟩
 ·obtain ⟨j,rfl,rfl⟩:=Dw e
  cases ra.int_eq
  cases rb.int_eq
  exact CA pins s σ H _ _ v u Q I rx ry ⟨_,_,rfl,rfl,k _ Z H (New.refl zh) (.int _)⟩
 ·obtain ⟨j,rfl,hl,rfl⟩:=Ds e
  cases ra.str_eq
  cases rb.str_eq
  exact qU pins s σ H _ _ v u Q I rx ry ⟨_,_,rfl,rfl,hl,k _ Z H (New.refl zh) (.str _)⟩
 ·obtain ⟨es,rfl,hl,rfl⟩:=Dt e
  obtain ⟨a,xs,rfl,h1,q1⟩:=ra.lst_ex
  obtain ⟨b,ys,rfl,h2,q2⟩:=rb.lst_ex
  cases rx
  cases ry
  obtain ⟨its,r1,p1,z1⟩:=I.list (SqL.same h1 zh)
  obtain ⟨its2,r2,p2,z2⟩:=I.list (SqL.same h2 zh)
  obtain ⟨⟨cls,dd,data,sl⟩,n1,ho,hc,hdd,hd⟩:=p1
  obtain ⟨⟨cls2,dd2,data2,sl2⟩,n2,ho2,hc2,hdd2,hd2⟩:=p2
  simp only at hc hd hc2 hd2
  subst hc hd hc2 hd2
  have hl1:=r1.length
  have hl2:=r2.length
  have ql1:=q1.length
  have ql2:=q2.length
  refine concat_meets ⟨_,ho,rfl⟩ ⟨_,ho2,rfl⟩ noFill_list_add seq_list_add PySem.F.slot_list_add PySem.F.entry_list_add (PySem.F.args_list_add_2 _ _) (list_addW a b its.toArray its2.toArray n1 n2 dd dd2 sl sl2 (by simp; omega)) ⟨ho,ho2,?_⟩
  have ea:its.toArray++its2.toArray=(its++its2).toArray:=by simp
  rw [ea]
  have n:=New.add zh I.fresh (.lst (xs++ys))
  exact ⟨.ref _,_,I.lnew (t':=s.toks) (r1.append r2) (by rw [List.length_append]; omega),rfl,k _ _ _ n (.lst (SqL.of aC) ((q1.append q2).same n.z))⟩
 ·obtain ⟨es,rfl,hl,rfl⟩:=Dr e
  obtain ⟨a,xs,rfl,h1,q1⟩:=ra.tup_ex
  obtain ⟨b,ys,rfl,h2,q2⟩:=rb.tup_ex
  by_cases h0:ds.length=0
  ·have hd0:ds=[]:=List.eq_nil_of_length_eq_zero h0
   subst hd0
   cases q1
   cases rx
   cases ry
   obtain ⟨its,r1,p1,z1⟩:=I.tuple (SqT.same h1 zh)
   obtain ⟨its2,r2,p2,z2⟩:=I.tuple (SqT.same h2 zh)
   cases r1
   obtain ⟨⟨cls,dd,data,sl⟩,ho,hc,n,hd⟩:=id p1
   obtain ⟨⟨cls2,dd2,data2,sl2⟩,ho2,hc2,n2,hd2⟩:=id p2
   simp only at hc hd hc2 hd2
   subst hc hd hc2 hd2
   exact concat_meets ⟨_,ho,rfl⟩ ⟨_,ho2,rfl⟩ noFill_tuple_add seq_tuple_add PySem.F.slot_tuple_add PySem.F.entry_tuple_add (PySem.F.args_tuple_add_2 _ _)
    (tuple_addW0 a b _ its2.toArray n n2 dd dd2 sl sl2 (by simp)) ⟨ho,ho2,⟨.ref b,H,I,rfl,k _ Z H (New.refl zh) (.tup h2 q2)⟩⟩
  refine zN pins s σ H _ _ v u Q I rx ry ⟨a,b,xs,ys,rfl,rfl,SqT.same h1 zh,SqT.same h2 zh,fun z=>h0 (by rw [<- q1.length,z]; rfl),by rw [q1.length,q2.length]; exact hl,fun z=>?_,fun z p hp=>?_⟩
  ·subst z
   cases q2
   rw [List.append_nil] at k
   exact k _ Z H (New.refl zh) (.tup h1 q1)
  ·have n:=New.add zh hp (.tup (xs++ys))
   exact k _ _ _ n (.tup (SqT.of aC) ((q1.append q2).same n.z))
theorem jW {d:D} (h:vX d=true):d.canLay0=true:=(Bool.and_eq_true_iff.mp h).1
theorem hE (hu:X.A.units+64<cLine):OpR X (compareOp .Eq) (rD X.K g9):=by
 intro pins s σ H x y v u Q I rx ry q
 obtain ⟨Z,a,b,d,zh,ra,rb,e,k⟩:=q
 by_cases hs:vX a=true/\vX b=true
 ·rw [g9,if_pos hs] at e
  cases e
  obtain ⟨as,r1⟩:=ra.reads I zh rx (jW hs.1)
  obtain ⟨bs,r2⟩:=rb.reads I zh ry (jW hs.2)
  exact eq_dataH r1 r2 hs.1 hs.2 hu ⟨.bl _,H,I,rfl,k _ Z H (New.refl zh) (.bl _)⟩
 ·rw [g9,if_neg hs] at e; cases e
theorem lT (hu:X.A.units+64<cLine):OpR X (compareOp .NotEq) (rD X.K neD):=by
 intro pins s σ H x y v u Q I rx ry q
 obtain ⟨Z,a,b,d,zh,ra,rb,e,k⟩:=q
 by_cases hs:vX a=true/\vX b=true
 ·rw [neD,if_pos hs] at e
  cases e
  obtain ⟨as,r1⟩:=ra.reads I zh rx (jW hs.1)
  obtain ⟨bs,r2⟩:=rb.reads I zh ry (jW hs.2)
  exact ne_dataH r1 r2 hs.1 hs.2 hu ⟨.bl _,H,I,rfl,k _ Z H (New.refl zh) (.bl _)⟩
 ·rw [neD,if_neg hs] at e; cases e
theorem Reps.at {K:Fg} {Z:Hp} {vs:List V} {ds:List D} {i:Int} {d:D} (r:Reps K Z vs ds) (h:gO ds i=some d):∃ v,gO vs i=some v/\Rep K Z v d:=by
 unfold gO at h ⊢
 rw [r.length]
 obtain ⟨j,e,h⟩:=bind_some h
 obtain ⟨v,q,rr⟩:=r.get h
 exact ⟨v,by rw [e]; exact q,rr⟩
theorem Fn {a b d:D} (h:az a b=some d):(∃ xs,a=.list xs)\/∃ xs,a=.tuple xs:=by
 cases a with
 | list i=>exact .inl ⟨_,rfl⟩
 | tuple i=>exact .inr ⟨_,rfl⟩
 | _=>cases h
theorem Bg {xs:List D} {b d:D} (h:az (.list xs) b=some d):∃ i,b=.int i/\gO xs i=some d:=by
 cases b with
 | int i=>exact ⟨i,rfl,h⟩
 | _=>cases h
theorem ar:IxR X (rD X.K az):=
 IxR.imp (ix_list.or CY) fun x y H Q q=>by
  obtain ⟨Z,a,b,d,zh,ra,rb,e,k⟩:=q
  rcases Fn e with ⟨xs,rfl⟩ | ⟨xs,rfl⟩
  ·obtain ⟨i,rfl,e⟩:=Bg e
   obtain ⟨a,vs,rfl,h1,q1⟩:=ra.lst_ex
   cases rb.int_eq
   obtain ⟨v,ev,rv⟩:=q1.at e
   exact .inl ⟨_,_,_,v,rfl,rfl,SqL.same h1 zh,ev,k v Z H (New.refl zh) rv⟩
  ·obtain ⟨i,rfl,e⟩:=Bg (xs:=xs) (b:=b) (by cases b <;> exact e)
   obtain ⟨a,vs,rfl,h1,q1⟩:=ra.tup_ex
   cases rb.int_eq
   obtain ⟨v,ev,rv⟩:=q1.at e
   exact .inr ⟨_,_,_,v,rfl,rfl,SqT.same h1 zh,ev,k v Z H (New.refl zh) rv⟩
theorem iQ:CallR X (.builtin "len") (uz X.K g6):=
 CallR.imp xV fun xs H Q q=>by
  obtain ⟨Z,as,d,zh,ra,e,k⟩:=q
  cases ra with
  | nil=>cases e
  | cons r1 r2=>
   cases r2 with
   | cons _ _=>cases r1 <;> cases e
   | nil=>
    cases r1 with
    | lst h1 q1=>cases e; exact ⟨_,_,rfl,.inl ⟨_,SqL.same h1 zh,rfl⟩,k _ Z H (New.refl zh) (by rw [q1.length]; exact .int _)⟩
    | tup h1 q1=>cases e; exact ⟨_,_,rfl,.inr ⟨_,SqT.same h1 zh,rfl⟩,k _ Z H (New.refl zh) (by rw [q1.length]; exact .int _)⟩
    | _=>cases e
theorem oX {K:Fg} {Z:Hp} {xs:List V} {as:List D} {d:D} {g:List D->Option D} {h:Int->Int->Int} (hg:∀ as d,g as=some d->∃ i j,as=[.int i,.int j]/\d=.int (h i j)) (r:Reps K Z xs as) (e:g as=some d) :
  ∃ i j,xs=[.int i,.int j]/\d=.int (h i j):=by
 obtain ⟨i,j,rfl,rfl⟩:=hg _ _ e
 cases r with
 | cons r1 r2=>
  cases r2 with
  | cons r3 r4=>
   cases r4
   exact ⟨i,j,by rw [r1.int_eq,r3.int_eq],rfl⟩
theorem FO (hc:X.calm=true):CallR X (.builtin "min") (uz X.K wY):=
 CallR.imp (ve hc) fun xs H Q q=>by
  obtain ⟨Z,as,d,zh,ra,e,k⟩:=q
  obtain ⟨i,j,rfl,rfl⟩:=oX (h:=fun i j=>if j<i then j else i) (fun as d h=>by unfold wY at h; split at h <;> cases h; exact ⟨_,_,rfl,rfl⟩) ra e
  exact ⟨i,j,rfl,k _ Z H (New.refl zh) (.int _)⟩
theorem FP (hc:X.calm=true):CallR X (.builtin "max") (uz X.K q9):=
 CallR.imp (vf hc) fun xs H Q q=>by
  obtain ⟨Z,as,d,zh,ra,e,k⟩:=q
  obtain ⟨i,j,rfl,rfl⟩:=oX (h:=fun i j=>if j>i then j else i) (fun as d h=>by unfold q9 at h; split at h <;> cases h; exact ⟨_,_,rfl,rfl⟩) ra e
  exact ⟨i,j,rfl,k _ Z H (New.refl zh) (.int _)⟩
theorem Di:CallR X (.type "list") (uz X.K sX):=
 CallR.imp ox fun xs H Q q=>by
  obtain ⟨Z,as,d,zh,ra,e,k⟩:=q
  cases ra with
  | nil=>cases e
  | cons r1 r2=>
   cases r2 with
   | cons _ _=>cases r1 <;> cases e
   | nil=>
    cases r1 with
    | lst h1 q1=>cases e; exact ⟨_,_,rfl,.inl (SqL.same h1 zh),fun l hl=>let n:=New.add zh hl (.lst _); k _ _ _ n (.lst (SqL.of aC) (q1.same n.z))⟩
    | tup h1 q1=>cases e; exact ⟨_,_,rfl,.inr (SqT.same h1 zh),fun l hl=>let n:=New.add zh hl (.lst _); k _ _ _ n (.lst (SqL.of aC) (q1.same n.z))⟩
    | _=>cases e
theorem fJ:CallR X (.type "tuple") (uz X.K cE):=
 CallR.imp lV fun xs H Q q=>by
  obtain ⟨Z,as,d,zh,ra,e,k⟩:=q
  cases ra with
  | nil=>cases e
  | cons r1 r2=>
   cases r2 with
   | cons _ _=>cases r1 <;> cases e
   | nil=>
    cases r1 with
    | lst h1 q1=>cases e; exact ⟨_,_,rfl,.inl ⟨SqL.same h1 zh,fun l hl=>let n:=New.add zh hl (.tup _); k _ _ _ n (.tup (SqT.of aC) (q1.same n.z))⟩⟩
    | tup h1 q1=>cases e; exact ⟨_,_,rfl,.inr ⟨SqT.same h1 zh,k _ Z H (New.refl zh) (.tup h1 q1)⟩⟩
    | _=>cases e
theorem CS (K:Fg) {t T:String} (ht:t = "NoneType" \/ t = "bool" \/ t = "int" \/ t = "str" \/ t = "list" \/ t = "tuple") (hT:T = "int" \/ T = "bool" \/ T = "str" \/ T = "list" \/ T = "tuple"):PySem.W.kitOne K (.type t) (.type T)=some (C3 t T):=by
 rcases ht with rfl | rfl | rfl | rfl | rfl | rfl <;> rcases hT with rfl | rfl | rfl | rfl | rfl <;> rfl
theorem Rep.ty {K:Fg} {Z H:Hp} {v:V} {d:D} (zh:Same Z H) (r:Rep K Z v d) (hD:¬tw d=true):(tyN d = "NoneType" \/ tyN d = "bool" \/ tyN d = "int" \/ tyN d = "str" \/ tyN d = "list" \/ tyN d = "tuple"):=by
 cases r <;> simp [tyN]
 exact absurd rfl hD
theorem C2 {pins:List (Addr×Obj)} {σ:St} {H Z:Hp} {s:Shared} {x:V} {u:Value} {d:D} {T:String} {A:Around} {E:Value->Shared->Prop} {Q:Value->Shared->Prop} (I:Inv X pins σ H s) (zh:Same Z H) (rx:RelV x u) (r:Rep X.K Z x d) (hD:¬tw d=true)
  (hT:T = "int" \/ T = "bool" \/ T = "str" \/ T = "list" \/ T = "tuple") (h:∀ tk,Q (.bool (C3 (tyN d) T)) { s with toks:=tk }):wpAny (model X.prog X.w) A (call (.builtin "isinstance") [u,.type T]) Q E s:=by
 have ko:=CS X.K (Rep.ty zh r hD) hT
 cases r with
 | non=>exact gy I rx (.non) ko h
 | bl b=>exact gy I rx (.bl b) ko h
 | int b=>exact gy I rx (.int b) ko h
 | str b=>exact gy I rx (.str b) ko h
 | @tup a xs ds h1 q1=>
  cases (show u=Value.ref a from rx)
  obtain ⟨its,_,p,_⟩:=I.tuple (SqT.same h1 zh)
  obtain ⟨o,h1,h2,_⟩:=p
  exact PySem.W.kia_one PySem.W.kitx_tuple I.kIn ⟨o,h1,h2⟩ ko (fun z=>nomatch z) h
 | @lst a xs ds h1 q1=>
  cases (show u=Value.ref a from rx)
  obtain ⟨its,_,p,_⟩:=I.list (SqL.same h1 zh)
  obtain ⟨o,n,h1,h2,_⟩:=p
  exact PySem.W.kia_one PySem.W.kitx_list I.kIn ⟨o,h1,h2⟩ ko (fun z=>nomatch z) h
 | opq h1=>exact absurd rfl hD
theorem FQ (T:String):CallR X (.builtin "isinstance") (fun xs H Q=>∃ x Z d r,xs=[x,.ty T]/\Same Z H/\Rep X.K Z x d/\gF T d=some r/\∃ b,r=.bool b/\Q (.bl b) H):=by
 intro pins s σ H xs us Q I rv h
 obtain ⟨x,Z,d,r,rfl,zh,rr,e,b,rfl,q⟩:=h
 obtain ⟨u,w',rfl,r1,r2⟩:=rY rv
 cases (show w'=Value.type T from r2)
 by_cases hD:tw d=true
 ·rw [gF,if_pos hD] at e; cases e
 by_cases hT:T = "int" \/ T = "bool" \/ T = "str" \/ T = "list" \/ T = "tuple"
 ·rw [gF,if_neg hD,if_pos hT] at e
  cases e
  exact C2 I zh r1 rr hD hT fun tk=>⟨.bl _,H,I.tok _,rfl,q⟩
 ·rw [gF,if_neg hD,if_neg hT] at e; cases e
theorem rB {x:Str} {T:String} {p2:Pos} (hg:Gl X "isinstance") (hm:X.mg "isinstance" = none) (hgT:Gl X x) (hmT:X.mg x=none) (hvT:bootBuiltins x=some (.type T)) (hnT:x ≠ "__name__") (hdT:(x==("__debug__":Str))=false) (ha:EV X a f)
  (he:starEach (a::[.Name x p2]) X.env=(false,eval a X.env)::starEach [.Name x p2] X.env:=by rfl) (he2:starEach ((.Name x p2)::[]) X.env=(false,eval (.Name x p2) X.env)::starEach [] X.env:=by rfl) (hpl:(backTo pos (starEach [.Name x p2] X.env)).any (·.1)=false:=by rfl) :
  EV X (.Call (.Name "isinstance" p) [a,.Name x p2] [] pos) (o1 f (gF T)):=
 PE.imp (f7 (FQ T) hg hm PyProof.Rows.boot_isinstance (cU ha (cU (zG (v:=.ty T) hgT hmT hvT rfl hnT hdT) eI he2) he) (by decide) (by decide) he hpl) fun σ H Q h=>by
  obtain ⟨H₀,Z₀,Z,δ,d,hh,e,k⟩:=h
  obtain ⟨y,e1,e⟩:=bind_some e
  refine ⟨H₀,Z₀,Z,δ,y,hh,e1,fun v Z1 H1 hh1 s1 r1=>⟨v,Z1,y,d,rfl,hh1.zh,r1,e,?_⟩⟩
  have:∃ b,d=.bool b:=by
   unfold gF at e
   split at e
   ·cases e
   ·split at e
    ·cases e; exact ⟨_,rfl⟩
    ·cases e
  obtain ⟨b,rfl⟩:=this
  exact ⟨b,rfl,k _ Z1 H1 hh1 s1 (.bl b)⟩
end
end VL
set_option Elab.async false
set_option linter.all false
set_option maxRecDepth 100000
set_option maxHeartbeats 4000000
namespace VL
open PySem PySem.Spec PyProof.Rows L2
section
variable {X:Cx} {a b c e tg iter:Expr} {es:List Expr} {pos p:Pos} {f f1 f2 f3:Dv->Option D} {fs:Dv->Option (List D)} {ft fu:Dv->Option Bool} {st:Stmt} {sts body orelse:List Stmt} {s1 s2 s3:Sf}
theorem aO (he:EV X e f):SV X (.Return (some e) pos) (b5 f):=
 PS.imp (Cg he) fun D σ H h=>by
  obtain ⟨H₀,Z₀,Z,δ,r,hh,e,k⟩:=h
  obtain ⟨x,e1,e⟩:=bind_some e
  cases e
  exact ⟨H₀,Z₀,Z,δ,x,hh,e1,fun v Z1 H1 hh1 s1 r1=>k σ H1 Z1 hh1 s1 v r1⟩
theorem ax (i:Nat) {x:Str} {pos':Pos} (hN:X.N.Nodup) (he:EV X e f) (hi:X.N[i]? = some x:=by rfl) (hx:vv X.env.scope x:=by first | exact Or.inl rfl | exact Or.inr rfl) (hs:swapsWith e (some (.Name x pos')) pos.line X.env=pure false:=by rfl)
  (hf:X.fn x=true\/X.env.scope.names.lookup x=some .local:=by first | exact .inl rfl | exact .inr rfl | assumption):SV X (.Assign [.Name x pos'] e pos) (aI i f):=
 PS.imp (nI hN hi hx he hs hf) fun D σ H h=>by
  obtain ⟨H₀,Z₀,Z,δ,r,hh,e,k⟩:=h
  obtain ⟨x,e1,e⟩:=bind_some e
  cases e
  exact ⟨H₀,Z₀,Z,δ,x,hh,e1,fun v Z1 H1 hh1 s1 r1=>k _ H1 Z1 (hh1.set r1) s1⟩
theorem E5 {D:Ends} {σ:St} {H:Hp} {K:Fg} (h:AS K lH D σ H):D.nx σ H:=by
 obtain ⟨H₀,Z₀,Z,δ,r,hh,e,k⟩:=h
 cases e
 exact k σ H Z hh (Same.refl _)
theorem cv:BV X [] lH:=PSs.imp zt fun D σ H h=>E5 h
theorem ah (h1:SV X st s1) (h2:BV X sts s2):BV X (st::sts) (ay s1 s2):=
 PSs.imp (wn h1 h2) fun D σ H h=>by
  obtain ⟨H₀,Z₀,Z,δ,r,hh,e,k⟩:=h
  obtain ⟨⟨fl,δ'⟩,e1,e⟩:=bind_some e
  refine ⟨H₀,Z₀,Z,δ,(fl,δ'),hh,e1,fun σ' H' Z' hh' s'=>?_⟩
  cases fl with
  | nx=>exact ⟨H₀,Z₀,Z',δ',r,hh',e,fun σ2 H2 Z2 hh2 s2=>by
    have:=k σ2 H2 Z2 hh2 (s'.trans s2)
    obtain ⟨fl,δ2⟩:=r
    cases fl <;> exact this⟩
  | bk=>cases e; exact k σ' H' Z' hh' s'
  | ct=>cases e; exact k σ' H' Z' hh' s'
  | rt d=>cases e; exact k σ' H' Z' hh' s'
theorem av (h1:SV X st s1):BV X [st] s1:=zr h1
theorem dy (hc:TV X c ft) (ha:BV X body s1) (hb:BV X orelse s2):SV X (.If c body orelse pos) (gK ft s1 s2):=
 PS.imp (EN hc ha hb) fun D σ H h=>by
  obtain ⟨H₀,Z₀,Z,δ,r,hh,e,k⟩:=h
  obtain ⟨x,e1,e⟩:=bind_some e
  refine ⟨H₀,Z₀,Z,δ,x,hh,e1,fun Z1 H1 hh1 t1=>?_⟩
  cases x with
  | true=>exact ⟨H₀,Z₀,Z1,δ,r,hh1,e,fun σ2 H2 Z2 hh2 t2=>k σ2 H2 Z2 hh2 (t1.trans t2)⟩
  | false=>exact ⟨H₀,Z₀,Z1,δ,r,hh1,e,fun σ2 H2 Z2 hh2 t2=>k σ2 H2 Z2 hh2 (t1.trans t2)⟩
theorem FG {K:Fg} (i:Nat) {D:Ends} {σ:St} {H:Hp} (h:AS K (fun δ=>s1 (yz i δ)) D σ H):AS K s1 D σ H:=by
 obtain ⟨H₀,Z₀,Z,δ,r,hh,e,k⟩:=h
 have e:s1 (yz i δ)=some r:=e
 unfold yz at e
 split at e
 ·rename_i ds q
  obtain ⟨Z1,t1,hh1⟩:=hh.frz q
  exact ⟨H₀,Z₀,Z1,_,r,hh1,e,fun σ2 H2 Z2 hh2 t2=>k σ2 H2 Z2 hh2 (t1.trans t2)⟩
 ·exact ⟨H₀,Z₀,Z,_,r,hh,e,k⟩
theorem vF (i:Nat) (h:SV X st s1):SV X st (fun δ=>s1 (yz i δ)):=PS.imp h fun D σ H q=>FG i q
noncomputable def IP (K:Fg) (g:D->Dv->Option Dv):TG:=fun v σ H Q=>∃ H₀ Z₀ Z δ d δ',Hold K H₀ Z₀ Z δ σ H/\Rep K Z v d/\g d δ = some δ'/\∀ σ' H' Z',Hold K H₀ Z₀ Z' δ' σ' H'->Same Z Z'->Q σ' H'
noncomputable def GV (X:Cx) (tg:Expr) (g:D->Dv->Option Dv):Prop:=PG X tg (IP X.K g)
theorem PG.imp {t t':TG} (h:PG X tg t) (i:∀ v σ H Q,t' v σ H Q->t v σ H Q):PG X tg t':=fun pins s σ H x v Q I r q=>h pins s σ H x v Q I r (i _ _ _ _ q)
theorem b0 (i:Nat) {x:Str} (hN:X.N.Nodup) (hi:X.N[i]? = some x:=by rfl) (hx:vv X.env.scope x:=by first | exact Or.inl rfl | exact Or.inr rfl)
  (hf:X.fn x=true\/X.env.scope.names.lookup x=some .local:=by first | exact .inl rfl | exact .inr rfl | assumption):GV X (.Name x pos) (gN i):=
 PG.imp (bg hN hi hx hf) fun v σ H Q h=>by
  obtain ⟨H₀,Z₀,Z,δ,d,δ',hh,r,e,k⟩:=h
  cases e
  exact k _ H Z (hh.set r) (Same.refl _)
structure ItOk (K:Fg) (Z:Hp) (J:It) (ds:List D):Prop where
 go:∀ (i:Nat) (H:Hp),Same Z H->i<ds.length->J.go i H
 yld:∀ (i:Nat) (H:Hp) x H' d,Same Z H->ds[i]? = some d->J.yld i H x H'->H'=H/\Rep K Z x d
 stop:∀ (i:Nat) (H:Hp),Same Z H->ds.length<=i->J.stop i H
noncomputable def F7 (K:Fg) (f:Dv->Option (List D)):TI:=fun σ H R=>∃ H₀ Z₀ Z δ ds,Hold K H₀ Z₀ Z δ σ H/\f δ = some ds/\∀ J Z' H',Hold K H₀ Z₀ Z' δ σ H'->Same Z Z'->ItOk K Z' J ds->R J H'
noncomputable def IV (X:Cx) (tg iter:Expr) (f:Dv->Option (List D)):Prop:=PI X tg iter (F7 X.K f)
theorem PI.imp {t t':TI} (h:PI X tg iter t) (i:∀ σ H R,t' σ H R->t σ H R):PI X tg iter t':=fun pins s σ H R I q=>h pins s σ H R I (i _ _ _ q)
theorem dG {g:D->Dv->Option Dv} (hp:PassesOwn (model X.prog X.w) X.A X.env X.xe) (hc:X.calm=true) (hi:IV X tg iter fs) (hg:GV X tg g) (hb:BV X body s1)
  (hs:∀ x,foldedSetIterable iter X.env x=pure x:=by intro _; rfl):SV X (.For tg iter body [] pos) (fS fs g s1):=
 PS.imp (Ch hp hc hi hg hb hs) fun D σ H h=>by
  obtain ⟨H₀,Z₀,Z,δ,r,hh,e,k⟩:=h
  obtain ⟨ds,e1,e⟩:=bind_some e
  refine ⟨H₀,Z₀,Z,δ,ds,hh,e1,fun J Z1 H1 hh1 t1 ok=>?_⟩
  refine ⟨fun i m σ H=>m=ds.length-i/\i<=ds.length/\∃ Zc δc,Hold X.K H₀ Z₀ Zc δc σ H/\Same Z1 Zc/\loop g s1 (ds.drop i) δc=some r,⟨ds.length,by simp,Nat.zero_le _,Z1,δ,hh1,Same.refl _,e⟩,?_⟩
  rintro i m σ2 H2 ⟨rfl,hi2,Zc,δc,hhc,tc,ec⟩
  have zh:Same Z1 H2:=tc.trans hhc.zh
  by_cases hlt:i<ds.length
  ·refine .inr ⟨ok.go i H2 zh hlt,fun σ3 H3=>∃ Zc δc,Hold X.K H₀ Z₀ Zc δc σ3 H3/\Same Z1 Zc/\loop g s1 (ds.drop (i+1)) δc=some r,fun σ3 H3 q=>⟨ds.length-(i+1),by omega,rfl,hlt,q⟩,fun x H3 y=>?_⟩
   have ed:ds[i]? = some ds[i]:=by simp [hlt]
   obtain ⟨rfl,rx⟩:=ok.yld i H2 x H3 _ zh ed y
   rw [List.drop_eq_getElem_cons hlt] at ec
   obtain ⟨δ1,g1,ec⟩:=bind_some ec
   obtain ⟨⟨fl,δ2⟩,g2,ec⟩:=bind_some ec
   refine ⟨H₀,Z₀,Zc,δc,_,δ1,hhc,rx.same tc,g1,fun σ4 H4 Z4 hh4 t4=>⟨H₀,Z₀,Z4,δ1,(fl,δ2),hh4,g2,fun σ5 H5 Z5 hh5 t5=>?_⟩⟩
   cases fl with
   | nx=>exact ⟨Z5,δ2,hh5,(tc.trans t4).trans t5,ec⟩
   | ct=>exact ⟨Z5,δ2,hh5,(tc.trans t4).trans t5,ec⟩
   | bk=>cases ec; exact k σ5 H5 Z5 hh5 (((t1.trans tc).trans t4).trans t5)
   | rt d=>cases ec; exact k σ5 H5 Z5 hh5 (((t1.trans tc).trans t4).trans t5)
  ·have e2:ds.drop i=[]:=List.drop_eq_nil_iff.mpr (by omega)
   rw [e2] at ec
   cases ec
   exact .inl ⟨ok.stop i H2 zh (by omega),k σ2 H2 Zc hhc (t1.trans tc)⟩
theorem ke (n:Dv->Nat) (hp:PassesOwn (model X.prog X.w) X.A X.env X.xe) (hc:TV X c ft) (hb:BV X body s1):SV X (.While c body [] pos) (fun δ=>cY ft s1 (n δ) δ):=
 PS.imp (wq hp hc hb) fun D σ H h=>by
  obtain ⟨H₀,Z₀,Z,δ,r,hh,e,k⟩:=h
  refine ⟨fun m σ H=>∃ Zc δc,Hold X.K H₀ Z₀ Zc δc σ H/\Same Z Zc/\cY ft s1 m δc=some r,⟨n δ,Z,δ,hh,Same.refl _,e⟩,?_⟩
  rintro m σ2 H2 ⟨Zc,δc,hhc,tc,ec⟩
  cases m with
  | zero=>cases ec
  | succ m=>
   obtain ⟨cc,g1,ec⟩:=bind_some ec
   refine ⟨H₀,Z₀,Zc,δc,cc,hhc,g1,fun Z3 H3 hh3 t3=>?_⟩
   cases cc with
   | false=>cases ec; exact k σ2 H3 Z3 hh3 (tc.trans t3)
   | true=>
    obtain ⟨⟨fl,δ2⟩,g2,ec⟩:=bind_some ec
    refine ⟨fun σ4 H4=>∃ Zc δc,Hold X.K H₀ Z₀ Zc δc σ4 H4/\Same Z Zc/\cY ft s1 m δc=some r,fun σ4 H4 q=>⟨m,Nat.lt_succ_self m,q⟩,?_⟩
    refine ⟨H₀,Z₀,Z3,δc,(fl,δ2),hh3,g2,fun σ5 H5 Z5 hh5 t5=>?_⟩
    cases fl with
    | nx=>exact ⟨Z5,δ2,hh5,(tc.trans t3).trans t5,ec⟩
    | ct=>exact ⟨Z5,δ2,hh5,(tc.trans t3).trans t5,ec⟩
    | bk=>cases ec; exact k σ5 H5 Z5 hh5 ((tc.trans t3).trans t5)
    | rt d=>cases ec; exact k σ5 H5 Z5 hh5 ((tc.trans t3).trans t5)
theorem xm {K:Fg} {Z:Hp} {lo:Int} {n:Nat}:ItOk K Z (DO lo n) (jb lo n) where
 go:=fun i H _ h=>by simpa [jb,DO] using h
 yld:=fun i H x H' d _ e y=>by
  obtain ⟨rfl,rfl⟩:=y
  refine ⟨rfl,?_⟩
  unfold jb at e
  rw [List.getElem?_map] at e
  cases q:(List.range n)[i]? with
  | none=>rw [q] at e; cases e
  | some k=>
   rw [q] at e
   cases e
   have:k=i:=by
    obtain ⟨h,h2⟩:=List.getElem?_eq_some_iff.mp q
    simpa using h2.symm
   subst this
   exact .int _
 stop:=fun i H _ h=>by simpa [jb,DO] using h
theorem cn (hg:Gl X "range") (hm:X.mg "range" = none) (ha:AV X [a] fs) (hs:starEach [a] X.env=[(false,eval a X.env)]:=by rfl):IV X tg (.Call (.Name "range" p) [a] [] pos) (oL fs cz):=
 PI.imp (uE hg hm ha hs) fun σ H R h=>by
  obtain ⟨H₀,Z₀,Z,δ,ds,hh,e,k⟩:=h
  obtain ⟨as,e1,e⟩:=bind_some e
  refine ⟨H₀,Z₀,Z,δ,as,hh,e1,fun vs Z1 H1 hh1 t1 r1=>?_⟩
  unfold cz at e
  split at e
  ·rename_i j
   split at e
   ·rename_i hj
    cases e
    cases r1 with
    | cons q1 q2=>
     cases q2
     exact ⟨j,by rw [q1.int_eq],hj.2,hj.1,k _ Z1 H1 hh1 t1 xm⟩
   ·cases e
  ·cases e
theorem Ad (ha:EV X a f):IV X tg a (oI f w9):=
 PI.imp (zy ha) fun σ H R h=>by
  obtain ⟨H₀,Z₀,Z,δ,ds,hh,e,k⟩:=h
  obtain ⟨y,e1,e⟩:=bind_some e
  refine ⟨H₀,Z₀,Z,δ,y,hh,e1,fun v Z1 H1 hh1 t1 r1=>?_⟩
  cases r1 with
  | @lst l xs ds' h1 q1=>
   cases e
   refine ⟨l,rfl,⟨xs,SqL.same h1 hh1.zh⟩,k _ Z1 H1 hh1 t1 ⟨fun i H2 z hi=>?_,fun i H2 x H3 d z ed y=>?_,fun i H2 z hi=>⟨xs,SqL.same h1 z,by rw [q1.length]; exact hi⟩⟩⟩
   ·have hi':i<xs.length:=by rw [q1.length]; exact hi
    exact ⟨xs,xs[i],SqL.same h1 z,by simp [hi']⟩
   ·obtain ⟨rfl,y⟩:=y
    obtain ⟨v,ev,rv⟩:=q1.get ed
    have:=y xs (SqL.same h1 z)
    rw [ev] at this
    cases this
    exact ⟨rfl,rv⟩
  | _=>cases e
theorem CZ (ha:EV X a f):IV X tg a (oI f GB):=
 PI.imp (Ci ha) fun σ H R h=>by
  obtain ⟨H₀,Z₀,Z,δ,ds,hh,e,k⟩:=h
  obtain ⟨y,e1,e⟩:=bind_some e
  refine ⟨H₀,Z₀,Z,δ,y,hh,e1,fun v Z1 H1 hh1 t1 r1=>?_⟩
  cases r1 with
  | @tup l xs ds' h1 q1=>
   cases e
   refine ⟨l,rfl,⟨xs,SqT.same h1 hh1.zh⟩,k _ Z1 H1 hh1 t1 ⟨fun i H2 z hi=>?_,fun i H2 x H3 d z ed y=>?_,fun i H2 z hi=>⟨xs,SqT.same h1 z,by rw [q1.length]; exact hi⟩⟩⟩
   ·have hi':i<xs.length:=by rw [q1.length]; exact hi
    exact ⟨xs,xs[i],SqT.same h1 z,by simp [hi']⟩
   ·obtain ⟨rfl,y⟩:=y
    obtain ⟨v,ev,rv⟩:=q1.get ed
    have:=y xs (SqT.same h1 z)
    rw [ev] at this
    cases this
    exact ⟨rfl,rv⟩
  | _=>cases e
end
section
variable {X:Cx} {a b c tg:Expr} {ta:TA} {p pos:Pos} {fs:Dv->Option (List D)}
end
section
variable {X:Cx} {e:Expr} {lo hi:Option Expr} {p2 pos:Pos} {f:Dv->Option D}
noncomputable def IN (K:Fg) (f:Dv->Option (Option Int)):TO:=fun σ H Q=>∃ H₀ Z₀ Z δ d,Hold K H₀ Z₀ Z δ σ H/\f δ = some d/\∀ Z' H',Hold K H₀ Z₀ Z' δ σ H'->Same Z Z'->Q d H'
noncomputable def OV (X:Cx) (e:Option Expr) (f:Dv->Option (Option Int)):Prop:=PO X e (IN X.K f)
theorem PO.imp {eo:Option Expr} {t t':TO} (h:PO X eo t) (i:∀ σ H Q,t' σ H Q->t σ H Q):PO X eo t':=fun pins s σ H Q I q=>h pins s σ H Q I (i _ _ _ q)
theorem zK:OV X none Ir:=PO.imp zx fun σ H Q h=>by
 obtain ⟨H₀,Z₀,Z,δ,d,hh,e,k⟩:=h
 cases e
 exact k Z H hh (Same.refl _)
theorem nM (h:EV X e f):OV X (some e) (oP f):=PO.imp (zw h) fun σ H Q h=>by
 obtain ⟨H₀,Z₀,Z,δ,d,hh,e,k⟩:=h
 obtain ⟨x,e1,e⟩:=bind_some e
 refine ⟨H₀,Z₀,Z,δ,x,hh,e1,fun v Z1 H1 hh1 t1 r1=>?_⟩
 cases r1 <;> simp [asI] at e
 subst e
 exact ⟨_,rfl,k Z1 H1 hh1 t1⟩
theorem Reps.cut {K:Fg} {Z:Hp} {vs:List V} {ds:List D} (r:Reps K Z vs ds) (lo hi:Option Int):Reps K Z (lU vs lo hi) (qi ds lo hi):=by
 unfold lU qi
 rw [r.length]
 exact (r.drop _).take _
theorem rG {ds:List D} {lo hi:Option Int} (h1:HT.sIx ds.length 0 lo=0) (h2:HT.sIx ds.length ds.length hi=ds.length):qi ds lo hi=ds:=by
 unfold qi
 rw [h1,h2]
 simp
section
variable {prog:Program} {w:World} {A:Around} {E:Value->Shared->Prop} {s:Shared}
theorem nh {t sl:Addr} {items:Array Value} {vl vu:Value} {lo hi:Option Int} {Q:Value->Shared->Prop} (ht:IsTup s.heap t items) (hs:s.heap.IsSliceOf sl vl vu .none) (pl:IsPart vl lo) (pu:IsPart vu hi)
  (h1:HT.sIx items.size 0 lo=0) (h2:HT.sIx items.size items.size hi=items.size) (h:Q (.ref t) s):wpAny (model prog w) A (getItem (.ref t) (.ref sl)) Q E s:=by
 obtain ⟨osl,hos,hcs,hds⟩:=id hs
 have ty:s.TypeIs (.ref sl) "slice":=⟨osl,hos,hcs⟩
 unfold getItem
 try with_reducible refine wpAny_holding ?_
 first | refine wpAny_bind (wpAny_pure ?_) | skip
 refine wpAny_bind (wpAny_sequenceKey ht.typeIs (by decide) ?_)
 refine wpAny_bind (wpAny_callSpecial?_slot (name:=Str.ofString "__getitem__") ht.typeIs PyProof.Rows.slot_tuple_getitem
  (wpAny_call_entry PyProof.Rows.slot_tuple_getitem ht.typeIs PyProof.Rows.entry_tuple_getitem ?_ (PyProof.Rows.args_tuple_getitem _ _)))
 show wpAny _ _ (Builtin.Tuple.tupleItemsOf (.ref t) >>= _) _ _ s
 refine wpAny_bind (tupleItemsOf_ ht ?_)
 refine wpAny_bind (wpAny_typeOf ty ?_)
 rw [if_pos (by decide)]
 refine wpAny_bind (HT.eO hs pl pu ?_)
 have yes:(((((HT.sIx items.size 0 lo:Nat):Int)==0)&&((1:Int)==1))&&((HT.sIx items.size items.size hi-HT.sIx items.size 0 lo)==items.size))=true:=by
  rw [h1,h2]; simp
 show wpAny _ _ (if (((((HT.sIx items.size 0 lo:Nat):Int)==0)&&((1:Int)==1))&&((HT.sIx items.size items.size hi-HT.sIx items.size 0 lo)==items.size))=true then _ else _) _ _ s
 rw [if_pos yes]
 unfold Builtin.Tuple.tupleIsExact
 refine wpAny_bind (wpAny_bind (wpAny_typeOf ht.typeIs (wpAny_pure ?_)))
 rw [if_pos (by decide)]
 exact wpAny_bind (wpAny_rule (wpAny_pure ⟨_,rfl,wpAny_pure h⟩))
end
noncomputable def GY (K:PySem.W.Frag):V->Option Int->Option Int->Hp->VK->Prop:=fun x lo hi H Q=>∃ a xs,x=.ref a/\SqT K H a xs/\HT.sIx xs.length 0 lo=0/\HT.sIx xs.length xs.length hi=xs.length/\Q (.ref a) H
theorem y1:SlR X (GY X.K):=by
 intro pins s σ H x v vl vu lo hi sl Q I rx hs pl pu h
 obtain ⟨a,xs,rfl,hx,w1,w2,q⟩:=h
 cases rx
 obtain ⟨its,r,ht,hz⟩:=I.tuple hx
 have hlen:its.toArray.size=xs.length:=by rw [List.size_toArray]; exact r.length.symm
 refine ⟨"tuple",_,PyProof.Rows.slot_tuple_getitem.lookup,ht.typeIs,?_⟩
 exact nh ht hs pl pu (by rw [hlen]; exact w1) (by rw [hlen]; exact w2) ⟨.ref a,H,I,rfl,q⟩
theorem qd {fl fu:Dv->Option (Option Int)} (he:EV X e f) (hl:OV X lo fl) (hu:OV X hi fu):EV X (.Subscript e (.Slice lo hi none p2) pos) (G6 f fl fu):=
 PE.imp (wz (sl_list.or (sl_tup.or y1)) he hl hu) fun σ H Q h=>by
  obtain ⟨H₀,Z₀,Z,δ,d,hh,e,k⟩:=h
  obtain ⟨x,e1,e⟩:=bind_some e
  obtain ⟨i,e2,e⟩:=bind_some e
  obtain ⟨j,e3,e⟩:=bind_some e
  refine ⟨H₀,Z₀,Z,δ,x,hh,e1,fun v Z1 H1 hh1 t1 r1=>⟨H₀,Z₀,Z1,δ,i,hh1,e2,fun Z2 H2 hh2 t2=>⟨H₀,Z₀,Z2,δ,j,hh2,e3,fun Z3 H3 hh3 t3=>?_⟩⟩⟩
  have r3:=(r1.same t2).same t3
  have tt:=(t1.trans t2).trans t3
  cases r3 with
  | @lst a xs ds h1 q1=>
   cases e
   refine .inl ⟨_,_,rfl,SqL.same h1 hh3.zh,fun p hp=>?_⟩
   have n:=New.add hh3.zh hp (.lst (lU xs i j))
   exact k _ _ _ (hh3.new n) (tt.trans n.z) (.lst (SqL.of aC) ((q1.cut i j).same n.z))
  | @tup a xs ds h1 q1=>
   simp only [Ew] at e
   cases e
   by_cases hw:HT.sIx ds.length 0 i=0/\HT.sIx ds.length ds.length j=ds.length
   ·refine .inr (.inr ⟨_,_,rfl,SqT.same h1 hh3.zh,by rw [q1.length]; exact hw.1,by rw [q1.length]; exact hw.2,?_⟩)
    refine k _ _ _ hh3 tt ?_
    rw [rG hw.1 hw.2]
    exact .tup h1 q1
   ·refine .inr (.inl ⟨_,_,rfl,SqT.same h1 hh3.zh,by rw [q1.length]; exact hw,fun p hp=>?_⟩)
    have n:=New.add hh3.zh hp (.tup (lU xs i j))
    exact k _ _ _ (hh3.new n) (tt.trans n.z) (.tup (SqT.of aC) ((q1.cut i j).same n.z))
  | _=>cases e
end
structure FunV (K:PySem.W.Frag) (x qual:Str) (st:Stmt) (f:Addr) (fd:FuncData) (dV:Value):Prop where
 ex:∃ (oc:Value) (od:Option Addr) (kV doc pm:Value) (an:Option Addr) (cdv ct:Value) (osl:Array (Option Value)),
  fd=PySem.W.fnOf x qual (dt st) (cq st) (ap st) dV kV doc pm an cdv ct/\K.lookup f=some ⟨oc,od,.func fd,osl⟩/\PySem.W.codeIn K cdv qual=true
 kp:PySem.W.keepIn K (.ref f)=true
section
variable {P:Program} {w:World} {K:PySem.W.Frag} {mg:Str->Option Value} {base:Heap}
theorem uo {N:List Str} {vs:List V} {as:List D} {Z:Hp} (r:Reps K Z vs as):∀ (i:Nat) d,(aH N as)[i]? = some (.fz d)->∃ v,(start N vs)[i]? = some (some v)/\Rep K Z v d:=by
 intro i d e
 unfold aH at e
 unfold L2.start
 by_cases hi:i<as.length
 ·rw [List.getElem?_append_left (by simpa using hi),List.getElem?_map] at e
  cases q:as[i]? with
  | none=>rw [q] at e; cases e
  | some d'=>
   rw [q] at e
   cases e
   obtain ⟨v,ev,rv⟩:=r.get q
   exact ⟨v,by rw [List.getElem?_append_left (by simpa [r.length] using hi),List.getElem?_map,ev]; rfl,rv⟩
 ·rw [List.getElem?_append_right (by simpa using hi),List.getElem?_replicate] at e
  split at e <;> cases e
theorem mj {N:List Str} {as:List D}:∀ (i:Nat) ds,(aH N as)[i]? ≠ some (.own ds):=by
 intro i ds e
 unfold aH at e
 by_cases hi:i<as.length
 ·rw [List.getElem?_append_left (by simpa using hi),List.getElem?_map] at e
  cases q:as[i]? with
  | none=>rw [q] at e; cases e
  | some d'=>rw [q] at e; cases e
 ·rw [List.getElem?_append_right (by simpa using hi),List.getElem?_replicate] at e
  split at e <;> cases e
theorem vJ {N:List Str} {as:List D}:∀ (i:Nat) ds,(aH N as)[i]? ≠ some (.fr ds):=by
 intro i ds e
 unfold aH at e
 by_cases hi:i<as.length
 ·rw [List.getElem?_append_left (by simpa using hi),List.getElem?_map] at e
  cases q:as[i]? with
  | none=>rw [q] at e; cases e
  | some d'=>rw [q] at e; cases e
 ·rw [List.getElem?_append_right (by simpa using hi),List.getElem?_replicate] at e
  split at e <;> cases e
theorem rl {N:List Str} {vs:List V} {as:List D} {Z H:Hp} (zh:Same Z H) (r:Reps K Z vs as):Hold K H Z Z (aH N as) (start N vs) H:=
 ⟨zh,Same.refl _,Same.refl _,fun _ _=>rfl,by simp [aH,L2.start,r.length],uo r,fun i ds e=>absurd e (mj i ds),fun i j ds es a _ e=>absurd e (mj i ds),fun i ds e=>absurd e (vJ i ds),NoF.refl _⟩
theorem Hy {x qual:Str} {st:Stmt} {f:Addr} {fd:FuncData} {dV:Value} {N ps:List Str} {k:Nat} {g:List D->Option D} {b:Sf} (F:FunV K x qual st f fd dV) (S:FnScope N ps (ap st)) (len:∀ as d,g as=some d->as.length=ps.length)
  (hb:∀ (cdv:Value) (A:Around) (outer:List Env) (s:Shared) (H:Hp) (E:XK),Room k (A.deeper (envOfC qual (ap st) s.heap.objs.size f cdv))->BV (qh em P w K mg base N qual (ap st) f cdv A outer s H E).nox (cq st) b)
  (hg:∀ as d,g as=some d->∃ δ',b (aH N as)=some (.rt d,δ')\/(d=.none/\b (aH N as)=some (.nx,δ'))):FnOk P w K mg base em (k+1) f fd ps (gD K g):=by
 obtain ⟨oc,od,kV,doc,pm,an,cdv,ct,osl,rfl,lk,hcd⟩:=F.ex
 refine Bj lk hcd S (fun vs H Q E h=>?_) fun A outer s H vs Q E hr hsp=>?_
 ·obtain ⟨Z,as,d,zh,r,e,_⟩:=h
  rw [r.length]
  exact len as d e
 ·refine ⟨_,PSs.nox (hb cdv A outer s H E hr),?_⟩
  obtain ⟨Z,as,d,zh,r,e,kk⟩:=hsp
  have hh:=rl (N:=N) zh r
  have fin:∀ {σ':St} {H' Z':Hp} {δ':Dv},Hold K H Z Z' δ' σ' H'->Same Z Z'->New Z H Z' H':=fun h' z'=>⟨z',h'.h0,h'.zh,h'.zb,h'.nf⟩
  obtain ⟨δ',e2 | ⟨rfl,e2⟩⟩:=hg as d e
  ·exact ⟨H,Z,Z,_,_,hh,e2,fun σ' H' Z' h' z' v rv=>kk v Z' H' (fin h' z') rv⟩
  ·exact ⟨H,Z,Z,_,_,hh,e2,fun σ' H' Z' h' z'=>kk _ Z' H' (fin h' z') .non⟩
theorem FunV.binds {x qual:Str} {st:Stmt} {f:Addr} {fd:FuncData} {ps:List Str} (F:FunV K x qual st f fd .none)
  (h:∀ (kV doc pm:Value) (an:Option Addr) (cdv ct:Value) (us:List Value),us.length=ps.length->bindArgs (PySem.W.fnOf x qual (dt st) (cq st) (ap st) .none kV doc pm an cdv ct) ⟨us,[]⟩=pure (ps.zip us)):Binds K fd ps []:=by
 obtain ⟨oc,od,kV,doc,pm,an,cdv,ct,osl,rfl,lk,hcd⟩:=F.ex
 exact .all (h kV doc pm an cdv ct)
theorem tK {x qual:Str} {st:Stmt} {f:Addr} {dV oc:Value} {od an:Option Addr} {osl:Array (Option Value)} {kV doc pm cdv ct:Value} (l:K.lookup f=some ⟨oc,od,.func (PySem.W.fnOf x qual (dt st) (cq st) (ap st) dV kV doc pm an cdv ct),osl⟩)
  (c:PySem.W.codeIn K cdv qual=true) (k:PySem.W.keepIn K (.ref f)=true):FunV K x qual st f (PySem.W.fnOf x qual (dt st) (cq st) (ap st) dV kV doc pm an cdv ct) dV:=⟨⟨oc,od,kV,doc,pm,an,cdv,ct,osl,rfl,l,c⟩,k⟩
noncomputable def su (K:PySem.W.Frag):Sp:=fun vs H Q _=>∃ (a:Addr) (ns:List Int),vs=[.ref a]/\SqL K H a (ns.map V.int)/\ns.length<=63/\∀ H',Q (.bl true) H'
theorem Fj {g:List D->Option D} {k:Nat} {f:Addr} {fd:FuncData} (F:FnOk P w K mg base em k f fd ["script"] (gD K g)) (hg:∀ ns:List Int,ns.length<=63->g [.list (ns.map .int)]=some (.bool true)):FnOk P w K mg base em k f fd ["script"] (su K):=
 F.imp fun vs H Q E h=>by
  obtain ⟨a,ns,rfl,hS,hl,q⟩:=h
  exact ⟨H,[.list (ns.map .int)],.bool true,Same.refl _,.cons (.lst hS (Reps.ints ns)) .nil,hg ns hl,fun v Z' H' _ r=>by cases r; exact q H'⟩
end
theorem DR {k:Nat} {l:PySem.W.OpenLaw} {q:Program} {loose:List Str} {XP:(Str->Option Value)->Heap->Prop} {YP:World->Heap->Prop} {d:DefRec} {K:Params->PySem.W.Frag} (hn:l.most=some 63) (hr:Room k callerA) (hdf:d.params.defaults=[])
  (hY:∀ (w:World) (h:Heap),YP w h->(K w.params).In h)
  (F:∀ (w:World) (mg:Str->Option Value) (fa:Addr) (h:Heap),(K w.params).In h->h.Ns mainGlobals mg->mg d.name=some (.ref fa) ->
   ∃ fd:FuncData,(∀ (s:Shared) (u:Value),BindsTo s fd ⟨[u],[]⟩ [("script",u)])/\∀ base:Heap,(K w.params).In base->base.Ns mainGlobals mg->FnOk l.prog w (K w.params) mg base em k fa fd ["script"] (su (K w.params))) :
  PySem.W.WalkO q loose XP YP l.row.toRowW d [] (fun f vs=>PySem.call f vs):=
 L2.yC (n:=63) (k:=k) (x:="script") (CX:=fun _=>em) (sp:=fun w=>su (K w.params)) hn (by decide) hdf hr hY F (fun _ _ a ns hl _ hS=>⟨a,ns,rfl,hS,hl,fun _=>rfl⟩) fun _ _ _ _ _ z=>z
section
variable {P:Program} {w:World} {K:PySem.W.Frag} {mg:Str->Option Value} {base:Heap}
theorem dR {x qual:Str} {st:Stmt} {f:Addr} {fd:FuncData} {dV:Value} {N ps:List Str} {k:Nat} {b:Sf} (F:FunV K x qual st f fd dV) (S:FnScope N ps (ap st))
  (hb:∀ (cdv:Value) (A:Around) (outer:List Env) (s:Shared) (H:Hp) (E:XK),Room k (A.deeper (envOfC qual (ap st) s.heap.objs.size f cdv))->BV (qh em P w K mg base N qual (ap st) f cdv A outer s H E).nox (cq st) b) :
  FnOk P w K mg base em (k+1) f fd ps (gD K (aV N ps.length b)):=by
 refine Hy F S (fun as d h=>?_) hb fun as d h=>?_
 ·unfold aV at h
  split at h
  ·assumption
  ·cases h
 ·unfold aV at h
  split at h
  ·obtain ⟨⟨fl,δ'⟩,e,h⟩:=bind_some h
   cases fl with
   | nx=>cases h; exact ⟨δ',.inr ⟨rfl,e⟩⟩
   | rt d=>cases h; exact ⟨δ',.inl e⟩
   | bk=>cases h
   | ct=>cases h
  ·cases h
structure Cal (P:Program) (w:World) (K:PySem.W.Frag) (mg:Str->Option Value) (base:Heap) (x:Str) (k:Nat) (g:List D->Option D) (dd:List D):Prop where
 ex:∃ (fa:Addr) (fd:FuncData) (ps:List Str) (ds:List Value) (dv:List V),FnOk P w K mg base em k fa fd ps (gD K g)/\mg x=some (.ref fa)/\PySem.W.keepIn K (.ref fa)=true/\Binds K fd ps ds/\Vals dv ds/\∀ Z,Reps K Z dv dd
theorem Cal.mk0 {x:Str} {k:Nat} {g:List D->Option D} {fa:Addr} {fd:FuncData} {ps:List Str} (F:FnOk P w K mg base em k fa fd ps (gD K g)) (hm:mg x=some (.ref fa)) (hk:PySem.W.keepIn K (.ref fa)=true) (hb:Binds K fd ps []):Cal P w K mg base x k g []:=
 ⟨⟨fa,fd,ps,[],[],F,hm,hk,hb,.nil,fun _=>.nil⟩⟩
end
section
variable {X:Cx} {e:Expr} {es:List Expr} {p pos:Pos} {fs:Dv->Option (List D)}
theorem Dd {k:Nat} {x:Str} {g:List D->Option D} {dd:List D} (C:Cal X.prog X.w X.K X.mg X.base x k g dd) (hr:Room k X.A) (hg:Gl X x) (ha:AV X (e::es) fs) (hdb:(x==("__debug__":Str))=false:=by decide) (he:starEach (e::es) X.env=(false,eval e X.env)::starEach es X.env:=by rfl)
  (hpl:(backTo pos (starEach es X.env)).any (·.1)=false:=by rfl):EV X (.Call (.Name x p) (e::es) [] pos) (os fs fun as=>g (as++dd)):=by
 obtain ⟨fa,fd,ps,ds,dv,F,hm,hk,hb,hd,hdd⟩:=C.ex
 exact Ao F hr hg hm hk hb hd hdd ET ha hdb he hpl
variable {tg a:Expr} {f:Dv->Option D}
theorem bJ (ha:EV X a f):IV X tg a (oI f bu):=by
 intro pins s σ H R I h
 obtain ⟨H₀,Z₀,Z,δ,ds,hh,e,k⟩:=h
 obtain ⟨y,e1,e⟩:=bind_some e
 cases y with
 | list xs=>exact Ad ha pins s σ H R I ⟨H₀,Z₀,Z,δ,ds,hh,by unfold oI; rw [e1]; exact e,k⟩
 | tuple xs=>exact CZ ha pins s σ H R I ⟨H₀,Z₀,Z,δ,ds,hh,by unfold oI; rw [e1]; exact e,k⟩
 | _=>cases e
end
end VL
set_option Elab.async false
set_option linter.all false
set_option maxRecDepth 100000
set_option maxHeartbeats 4000000
namespace VL
open PySem PySem.Spec PyProof.Rows L2
noncomputable def hJ (env:Env):List (Str×NameKind)->List (Str×Addr)->List (Str×Addr)
 | [],cs=>cs
 | (n,k)::r,cs=>if k == .free then hJ env r ((n,(env.cells.lookup n).getD 0)::cs) else hJ env r cs
theorem kZ {env:Env}:∀ (l:List (Str×NameKind)) (cs:List (Str×Addr)),(∀ y∈l,y.2=.free->∃ c,env.cells.lookup y.1=some c) ->
  (forIn l cs fun (x:Str×NameKind) (r:List (Str×Addr))=>(if (x.2==NameKind.free)=true then do let c <- cellOf env x.1; pure (ForInStep.yield ((x.1,c)::r)) else pure (ForInStep.yield r):Sem (ForInStep (List (Str×Addr)))))=pure (hJ env l cs)
 | [],cs,_=>rfl
 | (n,k)::r,cs,h=>by
  have ih:=fun cs'=>kZ r cs' fun y hy=>h y (List.mem_cons_of_mem _ hy)
  rw [List.forIn_cons]
  cases hk:k==NameKind.free with
  | true=>
   have hk':k=.free:=by simpa using hk
   obtain ⟨c,ec⟩:=h (n,k) List.mem_cons_self hk'
   have e1:cellOf env n=pure c:=by unfold cellOf; rw [ec]
   simp only [hk,if_true,e1,pure_bind,hJ,ec,Option.getD_some]
   exact ih _
  | false=>
   simp only [hk,Bool.false_eq_true,if_false,pure_bind,hJ]
   exact ih _
theorem eL {scope:Scope} {env:Env} (h:∀ y∈scope.names,y.2=.free->∃ c,env.cells.lookup y.1=some c):closureFor scope env=pure (hJ env scope.names []):=by
 simp only [closureFor]
 have:=kZ (env:=env) scope.names [] h
 first
  | (rw [this]; rfl)
  | (simp only [this]; rfl)
  | (unfold closureFor; simp_all)
theorem bm {env:Env}:∀ (l:List (Str×NameKind)) (cs:List (Str×Addr)) (y:Str) (c:Addr),(∀ z∈l,z.2=.free->∃ c,env.cells.lookup z.1=some c)->(hJ env l cs).lookup y=some c->cs.lookup y=some c\/env.cells.lookup y=some c
 | [],cs,y,c,_,e=>.inl e
 | (n,k)::r,cs,y,c,h,e=>by
  unfold hJ at e
  have hr:=fun z hz=>h z (List.mem_cons_of_mem _ hz)
  split at e
  ·rename_i hk
   rcases bm r _ y c hr e with q | q
   ·rw [List.lookup_cons] at q
    cases hy:y==n with
    | true=>
     have hy':y=n:=by simpa using hy
     subst hy'
     rw [hy] at q
     obtain ⟨c',ec⟩:=h (y,k) List.mem_cons_self (by simpa using hk)
     simp only [ec,Option.getD_some] at q
     cases q
     exact .inr ec
    | false=>rw [hy] at q; exact .inl q
   ·exact .inr q
  ·exact bm r cs y c hr e
theorem iO {env:Env}:∀ (l:List (Str×NameKind)) (cs:List (Str×Addr)) (y:Str),((y,NameKind.free)∈l\/(cs.lookup y).isSome=true)->((hJ env l cs).lookup y).isSome=true
 | [],cs,y,h=>by
  rcases h with h | h
  ·cases h
  ·exact h
 | (n,k)::r,cs,y,h=>by
  unfold hJ
  split
  ·rename_i hk
   refine iO r _ y ?_
   rcases h with h | h
   ·rcases List.mem_cons.mp h with e | e
    ·cases e; exact .inr (by simp [List.lookup_cons])
    ·exact .inl e
   ·refine .inr ?_
    rw [List.lookup_cons]
    cases hy:y==n with
    | true=>rfl
    | false=>exact h
  ·rename_i hk
   refine iO r cs y ?_
   rcases h with h | h
   ·rcases List.mem_cons.mp h with e | e
    ·cases e; exact absurd rfl hk
    ·exact .inl e
   ·exact .inr h
theorem dY {env:Env} {y:Str}:∀ (l:List (Str×NameKind)),(∀ z∈l,z.2≠.cell) ->
  (((l.map fun (n,k)=>if (k==NameKind.free&&env.scope.kind == .function&&env.kindOf n==some .cell) then (n,NameKind.cell) else (n,k)).lookup y=some .cell\/(l.map fun (n,k)=>if (k==NameKind.free&&env.scope.kind == .function&&env.kindOf n==some .cell) then (n,NameKind.cell) else (n,k)).lookup y=some .free)↔l.lookup y=some .free)
 | [],_=>by simp
 | (n,k)::r,h=>by
  have ih:=dY (env:=env) (y:=y) r fun z hz=>h z (List.mem_cons_of_mem _ hz)
  have hk:k≠.cell:=h (n,k) List.mem_cons_self
  rw [List.map_cons]
  cases hy:y==n with
  | true=>
   by_cases hc:(k==NameKind.free&&env.scope.kind == .function&&env.kindOf n==some .cell)=true
   ·have hf:k=.free:=by
     simp only [Bool.and_eq_true] at hc
     simpa using hc.1.1
    simp only [if_pos hc,List.lookup_cons,hy]
    simp [hf]
   ·simp only [if_neg hc,List.lookup_cons,hy]
    simp [hk]
  | false=>
   by_cases hc:(k==NameKind.free&&env.scope.kind == .function&&env.kindOf n==some .cell)=true
   ·simp only [if_pos hc,List.lookup_cons,hy]; exact ih
   ·simp only [if_neg hc,List.lookup_cons,hy]; exact ih
noncomputable def blk (X:Cx) (scope:Scope) (N:List Str) (C:Addr) (s₀:Shared) (H₀:Hp) (ex:List Addr):Cx:=
 { X with N:=N,s₀:=s₀,H₀:=H₀,env:=compEnvC scope (hJ X.env scope.names []) C X.env,outer:=X.stack,stack:=X.stack,ex:=ex,fn:=fun _=>false,pn:=[],xe:=fun _ _=>False }
structure BlkOk (on:List (Str×NameKind)) (ON:List Str) (scope:Scope) (vars:List Str) (caps:List (Nat×Str)):Prop where
 kind:scope.kind=.function
 cell:∀ y∈scope.names,y.2≠.cell
 names:∀ y∈scope.names,y.2=.local->scope.names.lookup y.1=some .local
 free:∀ y∈scope.names,y.2=.free->on.lookup y.1=some .cell\/on.lookup y.1=some .free
 cap:∀ p∈caps,ON[p.1]? = some p.2/\scope.names.lookup p.2=some .free
section
variable {X:Cx} {pins:List (Addr×Obj)} {σ:St} {H H':Hp} {s s':Shared} {scope:Scope} {vars:List Str} {caps:List (Nat×Str)} {fp:List Addr} {C:Addr}
noncomputable def ej (σ:St) (caps:List (Nat×Str)):St:=caps.map fun p=>(σ[p.1]?).getD none
theorem BlkOk.cells (B:BlkOk X.env.scope.names X.N scope vars caps) (I:Inv X pins σ H s):∀ y∈scope.names,y.2=.free->∃ c,X.env.cells.lookup y.1=some c:=fun y hy e=>I.ok.has y.1 (B.free y hy e)
theorem rL (B:BlkOk X.env.scope.names X.N scope vars caps) (I:Inv X pins σ H s) (hf:∀ b∈fp,gH X pins H b) (hlt:∀ b∈fp,b<s.heap.objs.size) (hC:s.heap.objs.size<=C):(blk X scope (vars++caps.map (·.2)) C s H fp).Ok where
 mod:=I.ok.mod
 kind:=B.kind
 glob:=I.ok.glob
 blt:=I.ok.blt
 above:=hC
 inj:=fun x y c e1 e2=>by
  rcases bm _ _ _ _ (B.cells I) e1 with q1 | q1
  ·cases q1
  ·rcases bm _ _ _ _ (B.cells I) e2 with q2 | q2
   ·cases q2
   ·exact I.ok.inj x y c q1 q2
 has:=fun x e=>by
  have:scope.names.lookup x=some .free:=(dY scope.names B.cell).mp e
  have:=iO (env:=X.env) scope.names [] x (.inl (PySem.mem_of_lookup this))
  exact Option.isSome_iff_exists.mp this
 cab:=fun x c e=>nomatch e
 hd:=I.ok.hd
 frames:=I.ok.frames
 stk:=.inl rfl
 exf:=fun b hb=>⟨Nat.ne_of_lt (Nat.lt_of_lt_of_le (hlt b hb) hC),fun x c e=>by
  rcases bm _ _ _ _ (B.cells I) e with q | q
  ·cases q
  ·exact (hf b hb).2.2.2.2.1 x c q⟩
 bs:=I.bs
 bsz:=Nat.le_trans I.ok.bsz I.sz
 noex:=fun b o e hb=>by
  rcases (hf b hb).2.2.2.1 with z | z
  ·exact I.ok.noex b o e z
  ·exact absurd (Nat.lt_of_lt_of_le (Heap.lt_size e) (Nat.le_trans I.ok.bsz z)) (Nat.lt_irrefl _)
 exfs:=fun b hb z=>by
  rcases List.mem_cons.mp (I.stkSub b z) with q | q
  ·exact (hf b hb).2.1 q
  ·exact (hf b hb).2.2.1 q
 funs:=I.stack
 frf:=I.stkFree
theorem tZ (B:BlkOk X.env.scope.names X.N scope vars caps) (I:Inv X pins σ H s) (hf:∀ b∈fp,gH X pins H b) (hlt:∀ b∈fp,b<s.heap.objs.size) (hC:s.heap.objs.size<=C) {h₁:Heap} {m:Str->Option Value} {tk:Nat} (hns:h₁.Ns C m) (old:∀ b o,s.heap.get? b=some o->h₁.get? b=some o) :
  Inv (blk X scope (vars++caps.map (·.2)) C s H fp) [] (vars.map (fun _=>none)++ej σ caps) H { s with heap:=h₁,toks:=tk }:=by
 refine ⟨rL B I hf hlt hC,rfl,I.bare,Un.kept old,⟨m,hns,fun i x v e1 e2 e3=>?_⟩,fun x c e=>?_,I.hok.fresh hC,fun x c e=>?_,fun p hp=>absurd (show p∈([]:List (Addr×Obj)) from hp) (by simp),I.hok.kept old,?_⟩
 ·have e1:(vars++caps.map (·.2))[i]? = some x:=e1
  by_cases hi:i<vars.length
  ·rw [List.getElem?_append_left (by simpa using hi),List.getElem?_map] at e2
   cases q:vars[i]? <;> rw [q] at e2 <;> cases e2
  ·rw [List.getElem?_append_right (by simpa using hi)] at e1 e2
   simp only [List.length_map] at e2
   unfold ej at e2
   rw [List.getElem?_map] at e1 e2
   cases q:caps[i-vars.length]? with
   | none=>rw [q] at e1; cases e1
   | some p=>
    rw [q] at e1 e2
    cases e1
    have hp:=List.mem_of_getElem? q
    obtain ⟨g1,g2⟩:=B.cap p hp
    have gf:X.env.scope.names.lookup p.2=some .cell\/X.env.scope.names.lookup p.2=some .free:=B.free (p.2,.free) (PySem.mem_of_lookup g2) rfl
    have ev:σ[p.1]? = some (some v):=by
     have e2:(σ[p.1]?).getD none=some v:=Option.some.inj e2
     cases z:σ[p.1]? with
     | none=>rw [z] at e2; cases e2
     | some w=>rw [z] at e2; rw [show w=some v from e2]
    obtain ⟨m',_,hl⟩:=I.loc
    obtain ⟨u,r,l⟩:=hl p.1 p.2 v g1 ev (gf.elim (fun z=>.inr (.inl z)) fun z=>.inr (.inr z))
    refine ⟨u,r,.inr ⟨?_,?_⟩⟩
    ·exact (dY scope.names B.cell).mpr g2
    ·rcases l with ⟨z,_⟩ | ⟨_,c,ec,hc⟩
     ·have z:X.env.scope.names.lookup p.2=some .local:=z
      rcases gf with w | w <;> rw [z] at w <;> cases w
     ·obtain ⟨c',q'⟩:=Option.isSome_iff_exists.mp (iO (env:=X.env) scope.names [] p.2 (.inl (PySem.mem_of_lookup g2)))
      rcases bm _ _ _ _ (B.cells I) q' with w | w
      ·cases w
      ·rw [ec] at w
       cases w
       obtain ⟨o,ho,hd⟩:=hc
       exact ⟨c,q',o,old c o ho,hd⟩
 ·rcases bm _ _ _ _ (B.cells I) e with q | q
  ·cases q
  ·obtain ⟨v,o,ho,hd⟩:=I.cell x c q
   exact ⟨v,o,old c o ho,hd⟩
 ·rcases bm _ _ _ _ (B.cells I) e with q | q
  ·cases q
  ·exact I.freeC x c q
 ·simp [blk,ej]
theorem tY (I:Inv X pins σ H s) (hf:∀ b∈fp,gH X pins H b) {D:Addr} {s':Shared} {σ':St} {N:List Str} {ys:List V} {its:List Value} (hC:s.heap.objs.size<=C) (hD:s.heap.objs.size<=D) (hDC:D≠C)
  (J:Inv (blk X scope N C s H fp) [] σ' H' s') (hD':H' D=none) (hp:s'.heap.PlainList D its.toArray) (hv:Vals ys its) (hz:ys.length<=sizeLine) {h':Heap} (hs:Heap.SameBut C s'.heap h') :
  Inv X pins σ (upd H' D (.lst ys)) { s' with heap:=h' }:=by
 have U:Un (rp X.stack) fp H H' s.heap s'.heap:=J.base
 have neC:∀ b o,s.heap.get? b=some o->b≠C:=fun b o e=>Nat.ne_of_lt (Nat.lt_of_lt_of_le (Heap.lt_size e) hC)
 have neD:∀ b o,s.heap.get? b=some o->b≠D:=fun b o e=>Nat.ne_of_lt (Nat.lt_of_lt_of_le (Heap.lt_size e) hD)
 have mv:∀ b o,b≠C->s'.heap.get? b=some o->h'.get? b=some o:=fun b o hb e=>hs.extBut b o hb e
 have tD:∀ b o,H' b=some o->(upd H' D (.lst ys)) b=some o:=fun b o e=>by rw [aB (aX e hD')]; exact e
 refine I.call' (s':={ s' with heap:=h' }) (ch:=fp) J.os ⟨fun b o e n h1 h2=>mv b o (neC b o e) (U.keep b o e n h1 h2),fun b o e n h1 h2=>?_,fun b o e n h2=>?_,fun b o e h2=>?_,fun b xs e=>tD _ _ (U.tups b xs e),fun b o xs e=>tD _ _ (U.frzs b o xs e),fun b ps e=>?_⟩ (fun b o e=>?_) J.bare
  (fun b hb=>⟨(hf b hb).2.2.2.1,(hf b hb).2.1,(hf b hb).2.2.2.2.1,(hf b hb).2.2.2.2.2⟩)
 ·obtain ⟨sl,q⟩:=U.slot b o e n h1 h2
  exact ⟨sl,mv b _ (neC b o e) q⟩
 ·rw [aB (neD b o e)]; exact U.free b o e n h2
 ·obtain ⟨o',q⟩:=U.there b o e h2
  exact ⟨o',mv b _ (neC b o e) q⟩
 ·obtain ⟨more,q⟩:=U.tbls b ps e
  exact ⟨more,tD _ _ q⟩
 ·by_cases hb:b=D
  ·subst hb
   rw [aC] at e
   cases e
   obtain ⟨n,q⟩:=hp
   exact ⟨hz,its,n,hv,mv _ _ hDC q⟩
  ·rw [aB hb] at e
   refine (J.hok b o e).stay (fun c v hc q=>mv c v ?_ q) (fun c q=>tD _ _ q) fun c xs q=>tD _ _ q
   intro z
   have fc:H' C=none:=J.free
   rcases hc with w | w
   ·rw [<- w,z,fc] at e; cases e
   ·rw [z,fc] at w; cases w
theorem qk (elt target iter:Expr) (scope:Scope) (pos:Pos) (it acc:Value) (env:Env) :
  compTurn (.ListComp elt [⟨target,iter,[],0⟩] scope pos) 0 it acc env=(standAt iter.pos >>= fun _=>pyNext it >>= fun r=>match r with
   | none=>pure (.done .next)
   | some v=>letOwnedTupleGo target it v >>= fun _=>assign target env v >>= fun _=>
    (eval elt env >>= fun x=>call (.builtin "list.append") [acc,x] >>= fun _=>pure ()) >>= fun _=>
     again (.compLoop (.ListComp elt [⟨target,iter,[],0⟩] scope pos) 0 it acc env)):=by rfl
noncomputable def ub (σ σ':St):Prop:=σ.length = σ'.length/\∀ (i:Nat) v,σ[i]? = some (some v) -> σ'[i]? = some (some v)
noncomputable def AT (wi:TI) (g:TG) (te:TE) (vars:List Str) (caps:List (Nat×Str)):TE:=fun σ H Q=>wi σ H fun J H1=>∃ W:Nat->Nat->List V->Hp->Prop,(∃ m,W 0 m [] H1)/\∀ i m ys H,W i m ys H ->
 (J.stop i H/\ys.length<=sizeLine/\∀ p,H p=none->Q (.ref p) (upd H p (.lst ys))) \/
 (J.go i H/\ys.length<sizeLine/\∀ x H',J.yld i H x H'->g x (vars.map (fun _=>none)++ej σ caps) H' fun σ2 H2=>ub (vars.map (fun _=>none)++ej σ caps) σ2/\te σ2 H2 fun y H3=>∃ m',m'<m/\W (i+1) m' (ys++[y]) H3)
theorem Inv.weaken {X:Cx} {pins:List (Addr×Obj)} {σ σ':St} {H:Hp} {s:Shared} (I:Inv X pins σ H s) (hl:σ'.length = σ.length) (w:∀ (i:Nat) v,σ'[i]? = some (some v) -> σ[i]? = some (some v)):Inv X pins σ' H s:=I.weak hl w
theorem jP {prog:Program} {w:World} {A:Around} {R:Result->Shared->Prop} {s:Shared} {elt target iter:Expr} {scope:Scope} {pos:Pos} {it acc:Value} {env:Env} (I:Nat->Shared->Prop)
  (turn:∀ n s,I n s->wpAny (model prog w) A (pyNext it) (fun r s₁=>match r with
   | none=>R (.ok .next) s₁
   | some v=>wpAny (model prog w) A (letOwnedTupleGo target it v) (fun _ s₁=>wpAny (model prog w) A (assign target env v) (fun _ s₂=>wpAny (model prog w) A (eval elt env) (fun x s₃=>
     wpAny (model prog w) A (call (.builtin "list.append") [acc,x]) (fun _ s₄=>∃ m,m<n/\I m s₄) (fun _ _=>False) s₃) (fun _ _=>False) s₂) (fun _ _=>False) s₁) (fun _ _=>False) s₁) (fun _ _=>False) s)
  (n:Nat) (h:I n s):codeAny (model prog w) A (.compLoop (.ListComp elt [⟨target,iter,[],0⟩] scope pos) 0 it acc env) R s:=by
 refine codeAny_loop rfl I (fun n s hI=>?_) n h
 show wpAny _ _ ((compTurn (.ListComp elt [⟨target,iter,[],0⟩] scope pos) 0 it acc env).onRaise (fun x=>do noteFrame x env; theTreesLotGoes x)) _ _ s
 refine wpAny_noted ?_
 rw [qk]
 refine wpAny_bind (wpAny_standAt (wpAny_bind (wpAny_mono (turn n s hI) (fun r s₁ h₁=>?_) fun _ _ h'=>h'.elim)))
 cases r with
 | none=>exact wpAny_pure h₁
 | some v=>
  refine wpAny_bind (wpAny_mono h₁ (fun _ s₁ h₁=>?_) fun _ _ h'=>h'.elim)
  exact wpAny_bind (wpAny_mono h₁ (fun _ s₂ h₂=>wpAny_bind (wpAny_bind (wpAny_mono h₂ (fun x s₃ h₃=>wpAny_bind (wpAny_mono h₃
   (fun _ s₄ h₄=>wpAny_pure (wpAny_pure ⟨rfl,h₄⟩)) fun _ _ h'=>h'.elim)) fun _ _ h'=>h'.elim))) fun _ _ h'=>h'.elim)
end
section
variable {X:Cx} {scope:Scope} {vars:List Str} {caps:List (Nat×Str)} {elt tg iter:Expr} {pos:Pos} {wi:TI} {g:TG} {te:TE}
theorem rH (B:BlkOk X.env.scope.names X.N scope vars caps) (hc:X.calm=true)
  (hg:∀ C s₀ H₀ ex,PG (blk X scope (vars++caps.map (·.2)) C s₀ H₀ ex) tg g) (he:∀ C s₀ H₀ ex,PE (blk X scope (vars++caps.map (·.2)) C s₀ H₀ ex) elt te)
  {pins:List (Addr×Obj)} {σ:St} {H2:Hp} {s2:Shared} {Q:VK} {it:Addr} {fp:List Addr} {tn:Nat->Heap->Prop} {J:It} (I2:Inv X pins σ H2 s2) (T:yl X.prog X.w X.K tg J fp it tn) (st2:tn 0 s2.heap) (f2:∀ b∈fp,gH X pins H2 b)
  {W:Nat->Nat->List V->Hp->Prop} {m0:Nat} (w0:W 0 m0 [] H2) (turn:∀ i m ys H,W i m ys H ->
   (J.stop i H/\ys.length<=sizeLine/\∀ p,H p=none->Q (.ref p) (upd H p (.lst ys))) \/
   (J.go i H/\ys.length<sizeLine/\∀ x H',J.yld i H x H'->g x (vars.map (fun _=>none)++ej σ caps) H' fun σ2 H2=>ub (vars.map (fun _=>none)++ej σ caps) σ2/\te σ2 H2 fun y H3=>∃ m',m'<m/\W (i+1) m' (ys++[y]) H3))
  {RR:Value->Addr->Result->Shared->Prop} {E:Value->Shared->Prop}
  (hRR:∀ D C s' m,s'.heap.Ns C m->D≠C->s2.heap.objs.size<=D->s2.heap.objs.size<=C->∀ H',H' C=none->(∀ h',Heap.SameBut C s'.heap h'->Inv X pins σ H' { s' with heap:=h' })->Q (.ref D) H'->RR (.ref D) C (.ok .next) s') :
  wpAny (model X.prog X.w) X.A (newList []) (fun acc s₃=>wpAny (model X.prog X.w) X.A (newFunctionEnv scope X.env.globals (hJ X.env scope.names []) [] X.env.qual none .none (some X.env)) (fun cenv s₄=>
   codeAny (model X.prog X.w) X.A (.compStart (.ListComp elt [⟨tg,iter,[],0⟩] scope pos) 0 (.ref it) acc { cenv with scope:=relabel scope X.env }) (RR acc cenv.locals) s₄) E s₃) E s2:=by
 refine wpAny_newObj_type (wpAny_newFunctionEnv B.cell (by intro y hy; simp at hy) (fun h₁ hns₁ hsb₁=>?_) B.kind)
 dsimp only at hns₁ hsb₁ ⊢
 generalize hP:s2.heap.push { cls:=.type "list",dict:=none,data:=.seq ([]:List Value).toArray }=HP at hns₁ hsb₁ ⊢
 have hCs:HP.objs.size=s2.heap.objs.size+1:=by rw [<- hP,Heap.size_push]
 have hDC:s2.heap.objs.size≠HP.objs.size:=by rw [hCs]; exact Nat.ne_of_lt (Nat.lt_succ_self _)
 have hCle:s2.heap.objs.size<=HP.objs.size:=by rw [hCs]; exact Nat.le_succ _
 have old:∀ b o,s2.heap.get? b=some o->h₁.get? b=some o:=fun b o e=>hsb₁.extBut b o (Nat.ne_of_lt (Nat.lt_of_lt_of_le (Heap.lt_size e) hCle)) (Heap.get?_push_of_some _ (hP ▸ Heap.get?_push_of_some _ e))
 have hacc:h₁.PlainList s2.heap.objs.size #[]:=⟨_,hsb₁.extBut _ _ hDC (Heap.get?_push_of_some _ (hP ▸ Heap.get?_push_size _ rfl))⟩
 have flt:∀ b∈fp,b<s2.heap.objs.size:=fun b hb=>by
  obtain ⟨o,e,_⟩:=T.obj _ _ st2 b hb
  exact Heap.lt_size e
 have st1:tn 0 h₁:=T.keep _ _ _ st2 fun b _ o e=>old b o e
 have loop:∀ s3:Shared,s3={ s2 with heap:=h₁,toks:=s2.toks+([]:List (Str×Value)).length } ->
   codeAny (model X.prog X.w) X.A (.compLoop (.ListComp elt [⟨tg,iter,[],0⟩] scope pos) 0 (.ref it) (.ref s2.heap.objs.size) (compEnvC scope (hJ X.env scope.names []) HP.objs.size X.env))
    (RR (.ref s2.heap.objs.size) HP.objs.size) s3:=by
  rintro s3 rfl
  have X':=blk X scope (vars++caps.map (·.2)) HP.objs.size s2 H2 fp
  have fpo:∀ {H':Hp},(∀ b∈fp,H' b=none)->∀ b∈fp,gH (blk X scope (vars++caps.map (·.2)) HP.objs.size s2 H2 fp) [] H' b:=fun hn b hb=>by
   have ok:=rL B I2 f2 flt hCle
   exact ⟨hn b hb,(ok.exf b hb).1,ok.exfs b hb,.inl hb,(ok.exf b hb).2,fun p hp=>absurd (show p∈([]:List (Addr×Obj)) from hp) (by simp)⟩
  refine jP (fun n s=>∃ i ys H its,Inv (blk X scope (vars++caps.map (·.2)) HP.objs.size s2 H2 fp) [] (vars.map (fun _=>none)++ej σ caps) H s/\tn i s.heap/\(∀ b∈fp,H b=none)/\s.heap.PlainList s2.heap.objs.size (List.toArray its)/\H s2.heap.objs.size=none/\Vals ys its/\W i n ys H) ?_ m0
   ⟨0,[],H2,[],tZ B I2 f2 flt hCle hns₁ old,st1,fun b hb=>(f2 b hb).1,hacc,I2.hok.fresh (Nat.le_refl _),.nil,w0⟩
  rintro n s4 ⟨i,ys,H4,its,I4,st4,fr4,pl4,nD4,v4,w4⟩
  obtain ⟨nn,eD⟩:=id pl4
  have DnL:s2.heap.objs.size≠(blk X scope (vars++caps.map (·.2)) HP.objs.size s2 H2 fp).env.locals:=hDC
  have Dfs:s2.heap.objs.size ∉ (blk X scope (vars++caps.map (·.2)) HP.objs.size s2 H2 fp).fs:=fun z=>by
   rcases List.mem_cons.mp (I2.stkSub _ z) with q | q
   ·have:=I2.lt; rw [<- q] at this; exact Nat.lt_irrefl _ this
   ·exact I2.nofs (Nat.le_refl _) q
  have Dfp:∀ b∈fp,s2.heap.objs.size≠b:=fun b hb z=>by have:=flt b hb; rw [<- z] at this; exact Nat.lt_irrefl _ this
  have DnC:∀ x c,(blk X scope (vars++caps.map (·.2)) HP.objs.size s2 H2 fp).env.cells.lookup x=some c->c≠s2.heap.objs.size:=fun x c e z=>by
   rcases bm _ _ _ _ (B.cells I2) e with q | q
   ·cases q
   ·obtain ⟨v,o,ho,_⟩:=I2.cell x c q
    have:=Heap.lt_size ho
    rw [z] at this
    exact Nat.lt_irrefl _ this
  have pinD:∀ {σ':St} {H':Hp} {s':Shared},Inv (blk X scope (vars++caps.map (·.2)) HP.objs.size s2 H2 fp) [(s2.heap.objs.size,{ cls:=.type "list",data:=.seq its.toArray nn })] σ' H' s'->s'.heap.PlainList s2.heap.objs.size its.toArray/\H' s2.heap.objs.size=none:=fun {σ' H' s'} I'=>by
   obtain ⟨q1,q2,_⟩:=I'.pin (s2.heap.objs.size,{ cls:=.type "list",data:=.seq its.toArray nn }) (by simp [blk])
   exact ⟨⟨nn,q1⟩,q2⟩
  have I4p:Inv (blk X scope (vars++caps.map (·.2)) HP.objs.size s2 H2 fp) [(s2.heap.objs.size,{ cls:=.type "list",data:=.seq its.toArray nn })] (vars.map (fun _=>none)++ej σ caps) H4 s4:=
   I4.pins_of fun p hp=>by
    have e:p=(s2.heap.objs.size,{ cls:=.type "list",data:=.seq its.toArray nn }):=by simpa [blk] using hp
    subst e
    exact ⟨eD,nD4,DnL,Dfs,fun v z=>by cases z⟩
  have fpo':∀ {H':Hp},(∀ b∈fp,H' b=none)->∀ b∈fp,gH (blk X scope (vars++caps.map (·.2)) HP.objs.size s2 H2 fp) [(s2.heap.objs.size,{ cls:=.type "list",data:=.seq its.toArray nn })] H' b:=fun hn b hb=>by
   obtain ⟨q1,q2,q3,q4,q5,_⟩:=fpo hn b hb
   exact ⟨q1,q2,q3,q4,q5,fun p hp=>by
    have e:p=(s2.heap.objs.size,{ cls:=.type "list",data:=.seq its.toArray nn }):=by simpa [blk] using hp
    subst e
    exact Dfp b hb⟩
  have unp:∀ {pl:List (Addr×Obj)} {σ':St} {H':Hp} {s':Shared},Inv (blk X scope (vars++caps.map (·.2)) HP.objs.size s2 H2 fp) pl σ' H' s'->Inv (blk X scope (vars++caps.map (·.2)) HP.objs.size s2 H2 fp) [] σ' H' s':=fun {pl σ' H' s'} I'=>
   I'.pins_of fun p hp=>absurd (show p∈([]:List (Addr×Obj)) from hp) (by simp)
  rcases turn i n ys H4 w4 with ⟨stop,hz,qn⟩ | ⟨go,hz,step⟩
  ·refine bN (T.done (blk X scope (vars++caps.map (·.2)) HP.objs.size s2 H2 fp) rfl rfl rfl hc i _ s4 _ H4 _ I4p (fpo' fr4) st4 stop) fun r s5 ⟨hr,I5⟩=>?_
   subst hr
   obtain ⟨p5,n5⟩:=pinD I5
   obtain ⟨m5,ns5,_⟩:=I5.loc
   refine hRR _ _ s5 m5 ns5 hDC (Nat.le_refl _) hCle _ ?_ (fun h' hs'=>tY I2 f2 hCle (Nat.le_refl _) hDC (unp I5) n5 p5 v4 hz hs') (qn _ n5)
   rw [aB hDC.symm]
   exact I5.free
  ·refine bN (T.item (blk X scope (vars++caps.map (·.2)) HP.objs.size s2 H2 fp) rfl rfl rfl hc i _ s4 _ H4 _ I4p (fpo' fr4) st4 go) fun r s5 ⟨u,hr,h5⟩=>?_
   subst hr
   refine bN h5 fun _ s6 ⟨x,H6,I6,rx,yx,st6,fr6⟩=>?_
   have I6p:=I6.pinned (fpo' fr6) (T.obj _ _ st6)
   refine bN (hg _ _ _ _ _ s6 _ H6 x u _ I6p rx (step x H6 yx)) fun _ s7 ⟨σ7,H7,I7,kp,q7⟩=>?_
   refine bN (he _ _ _ _ _ s7 σ7 H7 _ I7 q7) fun v s8 ⟨y,H8,I8,ry,m',hm,w8⟩=>?_
   obtain ⟨p8,n8⟩:=pinD I8.unpinned
   have st8:tn (i+1) s8.heap:=T.keep _ _ _ st6 fun b hb o e=>(I8.pin (b,o) (List.mem_append_right _ (List.mem_append_right _ (b9 hb e)))).1
   have fr8:∀ b∈fp,H8 b=none:=fun b hb=>by
    obtain ⟨o,e,d⟩:=T.obj _ _ st6 b hb
    exact (I8.pin (b,o) (List.mem_append_right _ (List.mem_append_right _ (b9 hb e)))).2.1
   have hl:=v4.length
   refine wpAny_list_append_plain p8 (fun h9 p9 sb9=>⟨m',hm,i+1,ys++[y],H8,its++[v],?_,?_,fr8,by simpa using p9,n8,v4.append (.cons ry .nil),w8⟩) (by simp; omega)
   ·have I9:Inv (blk X scope (vars++caps.map (·.2)) HP.objs.size s2 H2 fp) [] σ7 H8 { s8 with heap:=h9,toks:=s8.toks }:=
     (unp I8).turned (it:=s2.heap.objs.size) (fun b o hb e=>sb9.extBut b o hb e) n8 DnL (.inr (Nat.le_refl _)) DnC fun p hp=>absurd (show p∈([]:List (Addr×Obj)) from hp) (by simp)
    exact I9.weak kp.1 kp.2
   ·exact T.keep _ _ _ st8 fun b hb o e=>sb9.extBut b o (Dfp b hb).symm e
 exact codeAny_compStart_list (loop _ rfl) (T.self _ 0 _ _ _ st1 (loop _ rfl))
theorem zD (B:BlkOk X.env.scope.names X.N scope vars caps) (hc:X.calm=true) (hi:PI X tg iter wi)
  (hg:∀ C s₀ H₀ ex,PG (blk X scope (vars++caps.map (·.2)) C s₀ H₀ ex) tg g) (he:∀ C s₀ H₀ ex,PE (blk X scope (vars++caps.map (·.2)) C s₀ H₀ ex) elt te) (hs:∀ x,foldedSetIterable iter X.env x=pure x:=by intro _; rfl) :
  PE X (.ListComp elt [⟨tg,iter,[],0⟩] scope pos) (AT wi g te vars caps):=by
 intro pins s σ H Q I h
 rw [eval_ListComp]
 refine wpAny_comprehension_free (use:=none) rfl hs (eL (B.cells I)) B.kind B.names ?_
 show wpAny _ _ (eval iter X.env) _ _ s
 refine bN (hi pins s σ H _ I h) fun v s1 h1=>bN h1 fun itv s2 h2=>?_
 obtain ⟨it,fp,tn,J,H2,e,I2,T,st2,f2,W,⟨m0,w0⟩,turn⟩:=h2
 subst e
 exact rH B hc hg he I2 T st2 f2 w0 turn (RR:=fun acc C=>compPost (model X.prog X.w) X.A X.xe none (EP X pins σ Q) acc C) fun D C s' m ns _ _ _ H' _ k q=>⟨m,ns,fun h' hs'=>⟨.ref D,H',k h' hs',rfl,q⟩⟩
end
noncomputable def Ev:Option Sl->Sl
 | some (.fz d)=>.fz d
 | _=>.un
@[simp] theorem GT (d:D):Ev (some (.fz d))=.fz d:=rfl
noncomputable def bt (δ:Dv) (caps:List (Nat×Str)):Dv:=caps.map fun p=>Ev δ[p.1]?
noncomputable def uN (f:D->Option D):List D->Option (List D)
 | []=>some []
 | d::ds=>(f d).bind fun e=>(uN f ds).bind fun es=>some (e::es)
noncomputable def fR (fi:Dv->Option (List D)) (caps:List (Nat×Str)) (bv:D->Option (List D)) (fe:Dv->Option D):Dv->Option D:=fun δ=>(fi δ).bind fun ds=>if ds.length<=sizeLine then (uN (fun d=>(bv d).bind fun vs=>fe (vs.map .fz++bt δ caps)) ds).bind fun es=>some (.list es) else none
noncomputable def lC:D->Option (List D):=fun d=>some [d]
theorem jz {f:D->Option D}:∀ {ds es:List D},uN f ds=some es->es.length=ds.length
 | [],es,h=>by cases h; rfl
 | d::ds,es,h=>by
  obtain ⟨e,_,h⟩:=bind_some h
  obtain ⟨es',h2,h⟩:=bind_some h
  cases h
  exact congrArg (· + 1) (jz h2)
theorem pV {f:D->Option D}:∀ {ds es:List D} {i:Nat} {d:D},uN f ds=some es->ds[i]? = some d->∃ e,f d=some e/\es[i]? = some e
 | [],es,i,d,h,q=>by simp at q
 | d::ds,es,i,d',h,q=>by
  obtain ⟨e,h1,h⟩:=bind_some h
  obtain ⟨es',h2,h⟩:=bind_some h
  cases h
  cases i with
  | zero=>simp at q; subst q; exact ⟨e,h1,rfl⟩
  | succ i=>simp at q; obtain ⟨e',g1,g2⟩:=pV (i:=i) h2 q; exact ⟨e',g1,by simpa using g2⟩
noncomputable def qv (K:Fg) (g:TG) (n:Nat) (bv:D->Option (List D)):Prop:=∀ (x:V) (Z:Hp) (d:D) (vs:List D) (σc:St) (H:Hp) (R:St->Hp->Prop),Rep K Z x d->Same Z H->bv d=some vs->(∀ us,Reps K Z us vs->us.length=n->R (us.map some ++ σc) H)->g x (List.replicate n none ++ σc) H R
theorem bW {K:Fg}:qv K (xz 0) 1 lC:=fun x Z d vs σc H R r zh e k=>by
 cases e
 exact k [x] (.cons r .nil) rfl
section
variable {X:Cx} {scope:Scope} {vars:List Str} {caps:List (Nat×Str)} {elt tg iter:Expr} {pos:Pos} {g:TG} {fi:Dv->Option (List D)} {fe:Dv->Option D} {bv:D->Option (List D)}
theorem xU {σ:St} {δ:Dv} {K:Fg} {H₀ Z₀ Z H:Hp} (hh:Hold K H₀ Z₀ Z δ σ H):∀ (j:Nat) d,(bt δ caps)[j]? = some (.fz d)->∃ v,(ej σ caps)[j]? = some (some v)/\Rep K Z v d:=fun j d e=>by
 unfold bt at e
 unfold ej
 rw [List.getElem?_map] at e ⊢
 cases q:caps[j]? with
 | none=>rw [q] at e; cases e
 | some p=>
  rw [q] at e
  have e:Ev δ[p.1]? = .fz d:=Option.some.inj e
  cases z:δ[p.1]? with
  | none=>rw [z] at e; cases e
  | some sl=>
   rw [z] at e
   cases sl with
   | fz d'=>
    cases e
    obtain ⟨v,g1,g2⟩:=hh.fz p.1 _ z
    exact ⟨v,by show some ((σ[p.1]?).getD none)=_; rw [g1]; rfl,g2⟩
   | un=>cases e
   | own _=>cases e
   | fr _=>cases e
theorem Ay {δ:Dv}:∀ (j:Nat) ds,(bt δ caps)[j]? ≠ some (.own ds):=fun j ds e=>by
 unfold bt at e
 rw [List.getElem?_map] at e
 cases q:caps[j]? with
 | none=>rw [q] at e; cases e
 | some p=>
  rw [q] at e
  have e:Ev δ[p.1]? = .own ds:=Option.some.inj e
  cases z:δ[p.1]? with
  | none=>rw [z] at e; cases e
  | some sl=>rw [z] at e; cases sl <;> cases e
theorem Az {δ:Dv}:∀ (j:Nat) ds,(bt δ caps)[j]? ≠ some (.fr ds):=fun j ds e=>by
 unfold bt at e
 rw [List.getElem?_map] at e
 cases q:caps[j]? with
 | none=>rw [q] at e; cases e
 | some p=>
  rw [q] at e
  have e:Ev δ[p.1]? = .fr ds:=Option.some.inj e
  cases z:δ[p.1]? with
  | none=>rw [z] at e; cases e
  | some sl=>rw [z] at e; cases sl <;> cases e
theorem lj {σ:St} {δ:Dv} {K:Fg} {H₀ Z₀ Z H:Hp} (hh:Hold K H₀ Z₀ Z δ σ H) {us:List V} {vs:List D} (r:Reps K Z us vs):Hold K H Z Z (vs.map .fz++bt δ caps) (us.map some++ej σ caps) H:=by
 have hl:=r.length
 refine ⟨hh.zh,Same.refl _,Same.refl _,fun _ _=>rfl,by simp [bt,ej,hl],fun i d e=>?_,fun i ds e=>?_,fun i j ds es a _ e=>?_,fun i ds e=>?_,NoF.refl _⟩
 ·by_cases hi:i<vs.length
  ·rw [List.getElem?_append_left (by simpa using hi),List.getElem?_map] at e
   cases q:vs[i]? with
   | none=>rw [q] at e; cases e
   | some d'=>
    rw [q] at e
    cases e
    obtain ⟨v,g1,g2⟩:=r.get q
    exact ⟨v,by rw [List.getElem?_append_left (by simpa [hl] using hi),List.getElem?_map,g1]; rfl,g2⟩
  ·rw [List.getElem?_append_right (by simpa using hi)] at e
   obtain ⟨v,g1,g2⟩:=xU hh _ d e
   refine ⟨v,?_,g2⟩
   rw [List.getElem?_append_right (by simpa [hl] using hi)]
   simp only [List.length_map] at g1 ⊢
   rw [hl]; exact g1
 all_goals
  exfalso
  by_cases hi:i<vs.length
  ·rw [List.getElem?_append_left (by simpa using hi),List.getElem?_map] at e
   cases q:vs[i]? <;> rw [q] at e <;> cases e
  ·rw [List.getElem?_append_right (by simpa using hi)] at e
   first | exact Ay _ _ e | exact Az _ _ e
theorem vd (tk:qv X.K g vars.length bv) {σ:St} {H:Hp} {Q:VK} (h:tV X.K (fR fi caps bv fe) σ H Q):AT (F7 X.K fi) g (tV X.K fe) vars caps σ H Q:=by
 obtain ⟨H₀,Z₀,Z,δ,d,hh,e,k⟩:=h
 obtain ⟨ds,e1,e⟩:=bind_some e
 by_cases hz:ds.length<=sizeLine
 ·rw [if_pos hz] at e
  obtain ⟨es,e2,e⟩:=bind_some e
  cases e
  have le:=jz e2
  have hv:vars.map (fun _=>(none:Option V))=List.replicate vars.length none:=by rw [List.map_const']
  refine ⟨H₀,Z₀,Z,δ,ds,hh,e1,fun J Z1 H1 hh1 t1 ok=>?_⟩
  refine ⟨fun i m ys H=>m=ds.length-i/\i<=ds.length/\∃ Zc,Hold X.K H₀ Z₀ Zc δ σ H/\Same Z1 Zc/\Reps X.K Zc ys (es.take i),⟨ds.length,by simp,Nat.zero_le _,Z1,hh1,Same.refl _,by simpa using .nil⟩,?_⟩
  rintro i m ys H2 ⟨rfl,hi2,Zc,hhc,tc,rc⟩
  have zh:Same Z1 H2:=tc.trans hhc.zh
  have ly:=rc.length
  rw [List.length_take] at ly
  by_cases hlt:i<ds.length
  ·refine .inr ⟨ok.go i H2 zh hlt,by omega,fun x H3 y=>?_⟩
   have ed:ds[i]? = some ds[i]:=by simp [hlt]
   obtain ⟨rfl,rx⟩:=ok.yld i H2 x H3 _ zh ed y
   obtain ⟨ei,f1,f2⟩:=pV e2 ed
   obtain ⟨vs,f3,f1⟩:=bind_some f1
   rw [hv]
   refine tk x Zc ds[i] vs (ej σ caps) H3 _ (rx.same tc) hhc.zh f3 fun us ru hn=>⟨⟨by simp [hn],fun j v q=>?_⟩,?_⟩
   ·by_cases hj:j<vars.length
    ·rw [List.getElem?_append_left (by simpa using hj),List.getElem?_replicate] at q
     split at q <;> cases q
    ·rw [List.getElem?_append_right (by simpa using hj)] at q
     rw [List.getElem?_append_right (by simpa [hn] using hj)]
     simpa [hn] using q
   ·refine ⟨H3,Zc,Zc,_,ei,lj hhc ru,f1,fun v Z4 H4 h4 t4 r4=>⟨ds.length-(i+1),by omega,rfl,hlt,Z4,hhc.new ⟨t4,h4.h0,h4.zh,h4.zb,h4.nf⟩,tc.trans t4,?_⟩⟩
    have:es.take (i+1)=es.take i++[ei]:=by
     rw [List.take_add_one,f2]; rfl
    rw [this]
    exact (rc.same t4).append (.cons r4 .nil)
  ·have hie:i=ds.length:=by omega
   subst hie
   refine .inl ⟨ok.stop _ H2 zh (Nat.le_refl _),by omega,fun p hp=>?_⟩
   rw [<- le,List.take_length] at rc
   have n:=New.add hhc.zh hp (.lst ys)
   exact k _ _ _ (hhc.new n) ((t1.trans tc).trans n.z) (.lst (SqL.of aC) (rc.same n.z))
 ·rw [if_neg hz] at e; cases e
theorem fH (B:BlkOk X.env.scope.names X.N scope vars caps) (hc:X.calm=true) (hi:IV X tg iter fi) (tk:qv X.K g vars.length bv)
  (hg:∀ C s₀ H₀ ex,PG (blk X scope (vars++caps.map (·.2)) C s₀ H₀ ex) tg g) (he:∀ C s₀ H₀ ex,EV (blk X scope (vars++caps.map (·.2)) C s₀ H₀ ex) elt fe) (hs:∀ x,foldedSetIterable iter X.env x=pure x:=by intro _; rfl) :
  EV X (.ListComp elt [⟨tg,iter,[],0⟩] scope pos) (fR fi caps bv fe):=
 PE.imp (zD (te:=tV X.K fe) B hc hi hg he hs) fun _ _ _ h=>vd tk h
end
end VL
set_option Elab.async false
set_option linter.all false
set_option maxRecDepth 100000
set_option maxHeartbeats 4000000
namespace VL
open PySem PySem.Spec PyProof.Rows L2
section
variable {X:Cx} {e:Expr} {es:List Expr} {p pos:Pos} {fs:Dv->Option (List D)}
theorem aA {k:Nat} {x:Str} {g:List D->Option D} (C:Cal X.prog X.w X.K X.mg X.base x k g []) (hr:Room k X.A) (hg:Gl X x) (ha:AV X (e::es) fs) (hdb:(x==("__debug__":Str))=false:=by decide) (he:starEach (e::es) X.env=(false,eval e X.env)::starEach es X.env:=by rfl)
  (hpl:(backTo pos (starEach es X.env)).any (·.1)=false:=by rfl):EV X (.Call (.Name x p) (e::es) [] pos) (os fs g):=by
 have h:=Dd C hr hg ha hdb he hpl (p:=p) (pos:=pos)
 have e:(fun as=>g (as++[]))=g:=by funext as; rw [List.append_nil]
 rw [e] at h
 exact h
end
structure TopV (K:Fg) (mg:Str->Option Value) (x:Str) (d:D):Prop where
 ex:∃ v u,mg x=some u/\RelV v u/\∀ Z,Rep K Z v d
theorem TopV.tup {K:Fg} {mg:Str->Option Value} {x:Str} {a:Addr} {its:Array Value} {tn:Nat} {ts:Array (Option Value)} {xs:List V} {ds:List D} (hm:mg x=some (.ref a)) (hk:K.lookup a=some ⟨.type "tuple",none,.seq its tn,ts⟩)
  (hz:its.size<=sizeLine) (hv:Vals xs its.toList) (hr:∀ Z,Reps K Z xs ds):TopV K mg x (.tuple ds):=⟨.ref a,.ref a,hm,rfl,fun Z=>.tup (.inr ⟨_,its,tn,hk,rfl,rfl,hz,hv,rfl⟩) (hr Z)⟩
theorem TopV.int {K:Fg} {mg:Str->Option Value} {x:Str} {i:Int} {t:Tok} (hm:mg x=some (.int i t)):TopV K mg x (.int i):=⟨.int i,.int i t,hm,⟨t,rfl⟩,fun _=>.int i⟩
noncomputable def zd:Option Sl->Option (List D)
 | some (.own (.l ds))=>some ds
 | _=>none
@[simp] theorem GS (ds:List D):zd (some (.ow ds))=some ds:=rfl
theorem nu {o:Option Sl} {ds:List D} (h:zd o=some ds):o=some (.ow ds):=by
 cases o with
 | none=>cases h
 | some x=>
  cases x with
  | own c=>
   cases c with
   | l es=>cases h; rfl
   | d es=>cases h
  | un=>cases h
  | fz d=>cases h
  | fr _=>cases h
@[simp] noncomputable def v5 (i:Nat) (fs:Dv->Option (List D)):Sf:=fun δ=>(fs δ).bind fun ds=>if ds.length<=sizeLine then some (.nx,δ.set i (.ow ds)) else none
@[simp] noncomputable def qX (i:Nat) (f:Dv->Option D):Dv->Option D:=fun δ=>(zd δ[i]?).bind fun ds=>(f δ).bind fun k=>az (.list ds) k
@[simp] noncomputable def Iu (i:Nat):Dv->Option D:=fun δ=>(zd δ[i]?).bind fun ds=>some (.int ds.length)
noncomputable def zp (ds:List D) (k v:D):Option (List D):=match k with
 | .int j=>(yt ds.length j).map fun n=>ds.set n v
 | _=>none
@[simp] theorem io (ds:List D) (j:Int) (v:D):zp ds (.int j) v=(yt ds.length j).map fun n=>ds.set n v:=rfl
@[simp] noncomputable def EA (i:Nat) (fk fv:Dv->Option D):Sf:=fun δ=>(fv δ).bind fun v=>(fk δ).bind fun k=>(zd δ[i]?).bind fun ds=>(zp ds k v).bind fun ds'=>some (.nx,δ.set i (.ow ds'))
@[simp] noncomputable def B1 (i:Nat) (f:Dv->Option D):Sf:=fun δ=>(f δ).bind fun v=>(zd δ[i]?).bind fun ds=>if ds.length<sizeLine then some (.nx,δ.set i (.ow (ds++[v]))) else none
section
variable {X:Cx} {e b:Expr} {es:List Expr} {p pos tpos apos:Pos} {fs:Dv->Option (List D)} {f fk fv:Dv->Option D}
theorem qG (i:Nat) {x:Str} {pos':Pos} (hN:X.N.Nodup) (ha:AV X es fs) (hi:X.N[i]? = some x:=by rfl) (hx:vv X.env.scope x:=by first | exact Or.inl rfl | exact Or.inr rfl) (hs:swapsWith (.List es p) (some (.Name x pos')) pos.line X.env=pure false:=by rfl)
  (hf:X.fn x=true\/X.env.scope.names.lookup x=some .local:=by first | exact .inl rfl | exact .inr rfl | assumption):SV X (.Assign [.Name x pos'] (.List es p) pos) (v5 i fs):=
 PS.imp (nI hN hi hx (wA ha) hs hf) fun D σ H h=>by
  obtain ⟨H₀,Z₀,Z,δ,r,hh,e,k⟩:=h
  obtain ⟨ds,e1,e⟩:=bind_some e
  by_cases hl:ds.length<=sizeLine
  ·rw [if_pos hl] at e
   cases e
   exact ⟨H₀,Z₀,Z,δ,ds,hh,e1,fun vs Z1 H1 hh1 t1 r1=>⟨by rw [r1.length]; exact hl,fun p hp=>k _ _ Z1 (hh1.setO hp r1) t1⟩⟩
  ·rw [if_neg hl] at e; cases e
theorem jx {K:Fg} {H₀ Z₀ Z:Hp} {δ:Dv} {σ:St} {H:Hp} (hh:Hold K H₀ Z₀ Z δ σ H) {i:Nat} {ds:List D} (h:zd δ[i]? = some ds):∃ a xs,σ[i]? = some (some (V.ref a))/\H a=some (.lst xs)/\Reps K Z xs ds:=by
 obtain ⟨a,xs,h1,_,_,h4,h5⟩:=hh.ow i ds (nu h)
 exact ⟨a,xs,h1,h4,h5⟩
theorem la (i:Nat) {x:Str} (hb:EV X b f) (hs:oM b) (hN:X.N[i]? = some x:=by rfl) (hv:vt X.env.scope x:=by first | exact Or.inl rfl | exact Or.inr (Or.inl rfl) | exact Or.inr (Or.inr rfl)) (hd:(x==("__debug__":Str))=false:=by decide) (hcd:(x==("__classdict__":Str))=false:=by decide) :
  EV X (.Subscript (.Name x p) b pos) (qX i f):=
 PE.imp (A6 ix_list (eG hN hv hd hcd) hb hs) fun σ H Q h=>by
  obtain ⟨H₀,Z₀,Z,δ,d,hh,e,k⟩:=h
  obtain ⟨ds,e1,e⟩:=bind_some e
  obtain ⟨y,e2,e⟩:=bind_some e
  obtain ⟨a,xs,h1,h4,h5⟩:=jx hh e1
  refine ⟨_,h1,H₀,Z₀,Z,δ,y,hh,e2,fun v Z1 H1 hh1 t1 r1=>?_⟩
  obtain ⟨a',xs',g1,g4,g5⟩:=jx hh1 e1
  rw [h1] at g1
  cases g1
  cases r1 with
  | int j=>
   obtain ⟨w,ew,rw'⟩:=g5.at e
   exact ⟨_,_,_,w,rfl,rfl,SqL.of g4,ew,k w Z1 H1 hh1 t1 rw'⟩
  | _=>cases e
theorem BF (i:Nat) {x:Str} (hb:EV X b fk) (hv':EV X e fv) (hN:X.N[i]? = some x:=by rfl) (hv:vt X.env.scope x:=by first | exact Or.inl rfl | exact Or.inr (Or.inl rfl) | exact Or.inr (Or.inr rfl)) (hd:(x==("__debug__":Str))=false:=by decide) (hcd:(x==("__classdict__":Str))=false:=by decide)
  (hs:swapsWithSole [.Subscript (.Name x p) b tpos] e pos.line X.env=pure false:=by rfl) (hw:swappedStores [.Subscript (.Name x p) b tpos] e X.env=pure none:=by rfl)
  (ha:∀ v,assign (.Subscript (.Name x p) b tpos) X.env v=(do
   let ov <- holding [v] (eval (.Name x p) X.env)
   let iv <- holding [v,ov] (eval b X.env)
   standAt tpos
   holding [v,ov,iv] (setItem ov iv v)
   release [v,ov,iv] []):=by intro _; rfl):SV X (.Assign [.Subscript (.Name x p) b tpos] e pos) (EA i fk fv):=
 PS.imp (wu hv' (Ck (eG hN hv hd hcd) hb vZ ha) hs hw) fun D σ H h=>by
  obtain ⟨H₀,Z₀,Z,δ,r,hh,e,k⟩:=h
  obtain ⟨v,e1,e⟩:=bind_some e
  obtain ⟨y,e2,e⟩:=bind_some e
  obtain ⟨ds,e3,e⟩:=bind_some e
  obtain ⟨ds',e4,e⟩:=bind_some e
  cases e
  refine ⟨H₀,Z₀,Z,δ,v,hh,e1,fun w Z1 H1 hh1 t1 r1=>?_⟩
  obtain ⟨a,xs,h1,h4,h5⟩:=jx hh1 e3
  refine ⟨_,h1,H₀,Z₀,Z1,δ,y,hh1,e2,fun u Z2 H2 hh2 t2 r2=>?_⟩
  obtain ⟨a',xs',g1,g4,g5⟩:=jx hh2 e3
  rw [h1] at g1
  cases g1
  cases r2 with
  | int j=>
   rw [io] at e4
   cases q:yt ds.length j with
   | none=>rw [q] at e4; cases e4
   | some n=>
    rw [q] at e4
    cases e4
    refine ⟨a,xs',j,n,rfl,rfl,g4,by rw [g5.length]; exact q,?_⟩
    exact k σ _ Z2 (hh2.chg (xs:=xs') (nu e3) h1 (g5.set (r1.same t2) n)) (t1.trans t2)
  | _=>cases e4
theorem vG (i:Nat) {x:Str} {cpos:Pos} (hv':EV X e f) (hN:X.N[i]? = some x:=by rfl) (hv:vt X.env.scope x:=by first | exact Or.inl rfl | exact Or.inr (Or.inl rfl) | exact Or.inr (Or.inr rfl)) (hd:(x==("__debug__":Str))=false:=by decide) (hcd:(x==("__classdict__":Str))=false:=by decide)
  (hbase:attributeBase (.Name x p) "append" X.env (eval (.Name x p) X.env)=eval (.Name x p) X.env:=by rfl)
  (hfew:((backTo cpos (starEach [e] X.env)).all (fun x=>!x.1)&&(backToKw cpos (keywordEach [] X.env)).all (fun x=>x.1.isSome)
   && decide ([e].length+([]:List Keyword).length+(if ([]:List Keyword).isEmpty then 0 else 1)<30))=true:=by rfl)
  (hline:(apos.endLine==cpos.line)=true:=by rfl) (hs:starEach [e] X.env=(false,eval e X.env)::starEach [] X.env:=by rfl) (hplain:(backTo cpos (starEach [] X.env)).any (·.1)=false:=by rfl)
  (hsw:swapsWith (.Call (.Attribute (.Name x p) "append" apos) [e] [] cpos) none pos.line X.env=pure false:=by rfl):SV X (.Expr (.Call (.Attribute (.Name x p) "append" apos) [e] [] cpos) pos) (B1 i f):=
 PS.imp (sI (A7 PySem.F.plainAttrs_list PySem.F.slot_list_append PySem.F.type_list_append uL (eG hN hv hd hcd) (cU hv' eI hs) hbase hfew hline hs hplain) hsw) fun D σ H h=>by
  obtain ⟨H₀,Z₀,Z,δ,r,hh,e,k⟩:=h
  obtain ⟨v,e1,e⟩:=bind_some e
  obtain ⟨ds,e2,e⟩:=bind_some e
  by_cases hl:ds.length<sizeLine
  ·rw [if_pos hl] at e
   cases e
   obtain ⟨a,xs,h1,h4,h5⟩:=jx hh e2
   refine ⟨_,h1,.inl ⟨rfl,xs,SqL.of h4⟩,H₀,Z₀,Z,δ,v,hh,e1,fun w Z1 H1 hh1 t1 r1=>?_⟩
   obtain ⟨a',xs',g1,g4,g5⟩:=jx hh1 e2
   rw [h1] at g1
   cases g1
   exact ⟨a,xs',w,rfl,rfl,g4,by rw [g5.length]; exact hl,k σ _ Z1 (hh1.chg (xs:=xs') (nu e2) h1 (g5.append (.cons r1 .nil))) t1⟩
  ·rw [if_neg hl] at e; cases e
end
end VL
set_option Elab.async false
set_option linter.all false
set_option maxRecDepth 100000
set_option maxHeartbeats 4000000
namespace VL
open PySem PySem.Spec PyProof.Rows L2
section
noncomputable def ni (wi:TI) (g:TG) (tt:TT) (te:TE) (vars:List Str) (caps:List (Nat×Str)):TE:=fun σ H Q=>wi σ H fun J H1=>∃ W:Nat->Nat->List V->Hp->Prop,(∃ m,W 0 m [] H1)/\∀ i m ys H,W i m ys H ->
 (J.stop i H/\ys.length<=sizeLine/\∀ p,H p=none->Q (.ref p) (upd H p (.lst ys))) \/
 (J.go i H/\ys.length<sizeLine/\∀ x H',J.yld i H x H'->g x (vars.map (fun _=>none)++ej σ caps) H' fun σ2 H2=>ub (vars.map (fun _=>none)++ej σ caps) σ2/\tt σ2 H2 fun b H3=>if b=true then te σ2 H3 fun y H4=>∃ m',m'<m/\W (i+1) m' (ys++[y]) H4 else ∃ m',m'<m/\W (i+1) m' ys H3)
theorem jp {prog:Program} {w:World} {A:Around} {R:Result->Shared->Prop} {s:Shared} {elt target iter cnd:Expr} {scope:Scope} {pos:Pos} {it acc:Value} {env:Env} (I:Nat->Shared->Prop)
  (turn:∀ n s,I n s->wpAny (model prog w) A (pyNext it) (fun r s₁=>match r with
   | none=>R (.ok .next) s₁
   | some v=>wpAny (model prog w) A (letOwnedTupleGo target it v) (fun _ s₁=>wpAny (model prog w) A (assign target env v) (fun _ s₂=>wpAny (model prog w) A (isTrue cnd env (eval cnd env)) (fun ok s₂=>if ok=true then wpAny (model prog w) A (eval elt env) (fun x s₃=>
     wpAny (model prog w) A (call (.builtin "list.append") [acc,x]) (fun _ s₄=>∃ m,m<n/\I m s₄) (fun _ _=>False) s₃) (fun _ _=>False) s₂ else ∃ m,m<n/\I m s₂) (fun _ _=>False) s₂) (fun _ _=>False) s₁) (fun _ _=>False) s₁) (fun _ _=>False) s)
  (n:Nat) (h:I n s):codeAny (model prog w) A (.compLoop (.ListComp elt [⟨target,iter,[cnd],0⟩] scope pos) 0 it acc env) R s:=by
 refine codeAny_loop rfl I (fun n s hI=>?_) n h
 show wpAny _ _ ((compTurn (.ListComp elt [⟨target,iter,[cnd],0⟩] scope pos) 0 it acc env).onRaise (fun x=>do noteFrame x env; theTreesLotGoes x)) _ _ s
 refine wpAny_noted ?_
 rw [compTurn_list]
 refine wpAny_bind (wpAny_standAt (wpAny_bind (wpAny_mono (turn n s hI) (fun r s₁ h₁=>?_) fun _ _ h'=>h'.elim)))
 cases r with
 | none=>exact wpAny_pure h₁
 | some v=>
  refine wpAny_bind (wpAny_mono h₁ (fun _ s₁ h₁=>?_) fun _ _ h'=>h'.elim)
  refine wpAny_bind (wpAny_mono h₁ (fun _ s₂ h₂=>?_) fun _ _ h'=>h'.elim)
  refine wpAny_bind (wpAny_tests_one (wpAny_mono h₂ (fun okb s₃ h₃=>?_) fun _ _ h'=>h'.elim))
  cases okb with
  | false=>exact wpAny_pure ⟨rfl,h₃⟩
  | true=>exact wpAny_bind (wpAny_bind (wpAny_mono h₃ (fun x s₄ h₄=>wpAny_bind (wpAny_mono h₄ (fun _ s₅ h₅=>wpAny_pure (wpAny_pure ⟨rfl,h₅⟩)) fun _ _ h'=>h'.elim)) fun _ _ h'=>h'.elim))
end
section
variable {X:Cx} {scope:Scope} {vars:List Str} {caps:List (Nat×Str)} {elt tg iter cnd:Expr} {pos:Pos} {wi:TI} {g:TG} {tt:TT} {te:TE}
theorem jE {Cm:Cx->Prop} (B:BlkOk X.env.scope.names X.N scope vars caps)
  (hg:∀ C s₀ H₀ ex,PG (blk X scope (vars++caps.map (·.2)) C s₀ H₀ ex) tg g) (hb:∀ C s₀ H₀ ex,PT (blk X scope (vars++caps.map (·.2)) C s₀ H₀ ex) cnd tt) (he:∀ C s₀ H₀ ex,PE (blk X scope (vars++caps.map (·.2)) C s₀ H₀ ex) elt te)
  {pins:List (Addr×Obj)} {σ:St} {H2:Hp} {s2:Shared} {Q:VK} {it:Addr} {fp:List Addr} {tn:Nat->Heap->Prop} {J:It} (I2:Inv X pins σ H2 s2) (T:TurnG Cm X.prog X.w X.K tg J fp it tn) (st2:tn 0 s2.heap) (f2:∀ b∈fp,gH X pins H2 b) (hc:∀ C,Cm (blk X scope (vars++caps.map (·.2)) C s2 H2 fp))
  {W:Nat->Nat->List V->Hp->Prop} {m0:Nat} (w0:W 0 m0 [] H2) (turn:∀ i m ys H,W i m ys H ->
   (J.stop i H/\ys.length<=sizeLine/\∀ p,H p=none->Q (.ref p) (upd H p (.lst ys))) \/
   (J.go i H/\ys.length<sizeLine/\∀ x H',J.yld i H x H'->g x (vars.map (fun _=>none)++ej σ caps) H' fun σ2 H2=>ub (vars.map (fun _=>none)++ej σ caps) σ2/\tt σ2 H2 fun b H3=>if b=true then te σ2 H3 fun y H4=>∃ m',m'<m/\W (i+1) m' (ys++[y]) H4 else ∃ m',m'<m/\W (i+1) m' ys H3))
  {RR:Value->Addr->Result->Shared->Prop} {E:Value->Shared->Prop}
  (hRR:∀ D C s' m,s'.heap.Ns C m->D≠C->s2.heap.objs.size<=D->s2.heap.objs.size<=C->∀ H',H' C=none->(∀ h',Heap.SameBut C s'.heap h'->Inv X pins σ H' { s' with heap:=h' })->Q (.ref D) H'->RR (.ref D) C (.ok .next) s') :
  wpAny (model X.prog X.w) X.A (newList []) (fun acc s₃=>wpAny (model X.prog X.w) X.A (newFunctionEnv scope X.env.globals (hJ X.env scope.names []) [] X.env.qual none .none (some X.env)) (fun cenv s₄=>
   codeAny (model X.prog X.w) X.A (.compStart (.ListComp elt [⟨tg,iter,[cnd],0⟩] scope pos) 0 (.ref it) acc { cenv with scope:=relabel scope X.env }) (RR acc cenv.locals) s₄) E s₃) E s2:=by
 refine wpAny_newObj_type (wpAny_newFunctionEnv B.cell (by intro y hy; simp at hy) (fun h₁ hns₁ hsb₁=>?_) B.kind)
 dsimp only at hns₁ hsb₁ ⊢
 generalize hP:s2.heap.push { cls:=.type "list",dict:=none,data:=.seq ([]:List Value).toArray }=HP at hns₁ hsb₁ ⊢
 have hCs:HP.objs.size=s2.heap.objs.size+1:=by rw [<- hP,Heap.size_push]
 have hDC:s2.heap.objs.size≠HP.objs.size:=by rw [hCs]; exact Nat.ne_of_lt (Nat.lt_succ_self _)
 have hCle:s2.heap.objs.size<=HP.objs.size:=by rw [hCs]; exact Nat.le_succ _
 have old:∀ b o,s2.heap.get? b=some o->h₁.get? b=some o:=fun b o e=>hsb₁.extBut b o (Nat.ne_of_lt (Nat.lt_of_lt_of_le (Heap.lt_size e) hCle)) (Heap.get?_push_of_some _ (hP ▸ Heap.get?_push_of_some _ e))
 have hacc:h₁.PlainList s2.heap.objs.size #[]:=⟨_,hsb₁.extBut _ _ hDC (Heap.get?_push_of_some _ (hP ▸ Heap.get?_push_size _ rfl))⟩
 have flt:∀ b∈fp,b<s2.heap.objs.size:=fun b hb=>by
  obtain ⟨o,e,_⟩:=T.obj _ _ st2 b hb
  exact Heap.lt_size e
 have st1:tn 0 h₁:=T.keep _ _ _ st2 fun b _ o e=>old b o e
 have loop:∀ s3:Shared,s3={ s2 with heap:=h₁,toks:=s2.toks+([]:List (Str×Value)).length } ->
   codeAny (model X.prog X.w) X.A (.compLoop (.ListComp elt [⟨tg,iter,[cnd],0⟩] scope pos) 0 (.ref it) (.ref s2.heap.objs.size) (compEnvC scope (hJ X.env scope.names []) HP.objs.size X.env))
    (RR (.ref s2.heap.objs.size) HP.objs.size) s3:=by
  rintro s3 rfl
  have X':=blk X scope (vars++caps.map (·.2)) HP.objs.size s2 H2 fp
  have fpo:∀ {H':Hp},(∀ b∈fp,H' b=none)->∀ b∈fp,gH (blk X scope (vars++caps.map (·.2)) HP.objs.size s2 H2 fp) [] H' b:=fun hn b hb=>by
   have ok:=rL B I2 f2 flt hCle
   exact ⟨hn b hb,(ok.exf b hb).1,ok.exfs b hb,.inl hb,(ok.exf b hb).2,fun p hp=>absurd (show p∈([]:List (Addr×Obj)) from hp) (by simp)⟩
  refine jp (fun n s=>∃ i ys H its,Inv (blk X scope (vars++caps.map (·.2)) HP.objs.size s2 H2 fp) [] (vars.map (fun _=>none)++ej σ caps) H s/\tn i s.heap/\(∀ b∈fp,H b=none)/\s.heap.PlainList s2.heap.objs.size (List.toArray its)/\H s2.heap.objs.size=none/\Vals ys its/\W i n ys H) ?_ m0
   ⟨0,[],H2,[],tZ B I2 f2 flt hCle hns₁ old,st1,fun b hb=>(f2 b hb).1,hacc,I2.hok.fresh (Nat.le_refl _),.nil,w0⟩
  rintro n s4 ⟨i,ys,H4,its,I4,st4,fr4,pl4,nD4,v4,w4⟩
  obtain ⟨nn,eD⟩:=id pl4
  have DnL:s2.heap.objs.size≠(blk X scope (vars++caps.map (·.2)) HP.objs.size s2 H2 fp).env.locals:=hDC
  have Dfs:s2.heap.objs.size ∉ (blk X scope (vars++caps.map (·.2)) HP.objs.size s2 H2 fp).fs:=fun z=>by
   rcases List.mem_cons.mp (I2.stkSub _ z) with q | q
   ·have:=I2.lt; rw [<- q] at this; exact Nat.lt_irrefl _ this
   ·exact I2.nofs (Nat.le_refl _) q
  have Dfp:∀ b∈fp,s2.heap.objs.size≠b:=fun b hb z=>by have:=flt b hb; rw [<- z] at this; exact Nat.lt_irrefl _ this
  have DnC:∀ x c,(blk X scope (vars++caps.map (·.2)) HP.objs.size s2 H2 fp).env.cells.lookup x=some c->c≠s2.heap.objs.size:=fun x c e z=>by
   rcases bm _ _ _ _ (B.cells I2) e with q | q
   ·cases q
   ·obtain ⟨v,o,ho,_⟩:=I2.cell x c q
    have:=Heap.lt_size ho
    rw [z] at this
    exact Nat.lt_irrefl _ this
  have pinD:∀ {σ':St} {H':Hp} {s':Shared},Inv (blk X scope (vars++caps.map (·.2)) HP.objs.size s2 H2 fp) [(s2.heap.objs.size,{ cls:=.type "list",data:=.seq its.toArray nn })] σ' H' s'->s'.heap.PlainList s2.heap.objs.size its.toArray/\H' s2.heap.objs.size=none:=fun {σ' H' s'} I'=>by
   obtain ⟨q1,q2,_⟩:=I'.pin (s2.heap.objs.size,{ cls:=.type "list",data:=.seq its.toArray nn }) (by simp [blk])
   exact ⟨⟨nn,q1⟩,q2⟩
  have I4p:Inv (blk X scope (vars++caps.map (·.2)) HP.objs.size s2 H2 fp) [(s2.heap.objs.size,{ cls:=.type "list",data:=.seq its.toArray nn })] (vars.map (fun _=>none)++ej σ caps) H4 s4:=
   I4.pins_of fun p hp=>by
    have e:p=(s2.heap.objs.size,{ cls:=.type "list",data:=.seq its.toArray nn }):=by simpa [blk] using hp
    subst e
    exact ⟨eD,nD4,DnL,Dfs,fun v z=>by cases z⟩
  have fpo':∀ {H':Hp},(∀ b∈fp,H' b=none)->∀ b∈fp,gH (blk X scope (vars++caps.map (·.2)) HP.objs.size s2 H2 fp) [(s2.heap.objs.size,{ cls:=.type "list",data:=.seq its.toArray nn })] H' b:=fun hn b hb=>by
   obtain ⟨q1,q2,q3,q4,q5,_⟩:=fpo hn b hb
   exact ⟨q1,q2,q3,q4,q5,fun p hp=>by
    have e:p=(s2.heap.objs.size,{ cls:=.type "list",data:=.seq its.toArray nn }):=by simpa [blk] using hp
    subst e
    exact Dfp b hb⟩
  have unp:∀ {pl:List (Addr×Obj)} {σ':St} {H':Hp} {s':Shared},Inv (blk X scope (vars++caps.map (·.2)) HP.objs.size s2 H2 fp) pl σ' H' s'->Inv (blk X scope (vars++caps.map (·.2)) HP.objs.size s2 H2 fp) [] σ' H' s':=fun {pl σ' H' s'} I'=>
   I'.pins_of fun p hp=>absurd (show p∈([]:List (Addr×Obj)) from hp) (by simp)
  rcases turn i n ys H4 w4 with ⟨stop,hz,qn⟩ | ⟨go,hz,step⟩
  ·refine bN (T.done (blk X scope (vars++caps.map (·.2)) HP.objs.size s2 H2 fp) rfl rfl rfl (hc _) i _ s4 _ H4 _ I4p (fpo' fr4) st4 stop) fun r s5 ⟨hr,I5⟩=>?_
   subst hr
   obtain ⟨p5,n5⟩:=pinD I5
   obtain ⟨m5,ns5,_⟩:=I5.loc
   refine hRR _ _ s5 m5 ns5 hDC (Nat.le_refl _) hCle _ ?_ (fun h' hs'=>tY I2 f2 hCle (Nat.le_refl _) hDC (unp I5) n5 p5 v4 hz hs') (qn _ n5)
   rw [aB hDC.symm]
   exact I5.free
  ·refine bN (T.item (blk X scope (vars++caps.map (·.2)) HP.objs.size s2 H2 fp) rfl rfl rfl (hc _) i _ s4 _ H4 _ I4p (fpo' fr4) st4 go) fun r s5 ⟨u,hr,h5⟩=>?_
   subst hr
   refine bN h5 fun _ s6 ⟨x,H6,I6,rx,yx,st6,fr6⟩=>?_
   have I6p:=I6.pinned (fpo' fr6) (T.obj _ _ st6)
   refine bN (hg _ _ _ _ _ s6 _ H6 x u _ I6p rx (step x H6 yx)) fun _ s7 ⟨σ7,H7,I7,kp,q7⟩=>?_
   refine bN (hb _ _ _ _ _ s7 σ7 H7 _ I7 q7) fun okb s7' q7'=>?_
   obtain ⟨H7',I7',q7'⟩:=q7'
   cases okb with
   | false=>
    obtain ⟨m',hm,w8⟩:=q7'
    rw [if_neg (by decide)]
    obtain ⟨p8,n8⟩:=pinD I7'.unpinned
    have st8:tn (i+1) s7'.heap:=T.keep _ _ _ st6 fun b hb o e=>(I7'.pin (b,o) (List.mem_append_right _ (List.mem_append_right _ (b9 hb e)))).1
    have fr8:∀ b∈fp,H7' b=none:=fun b hb=>by
     obtain ⟨o,e,d⟩:=T.obj _ _ st6 b hb
     exact (I7'.pin (b,o) (List.mem_append_right _ (List.mem_append_right _ (b9 hb e)))).2.1
    exact ⟨m',hm,i+1,ys,H7',its,(unp I7').weak kp.1 kp.2,st8,fr8,p8,n8,v4,w8⟩
   | true=>
   rw [if_pos rfl]
   rw [if_pos rfl] at q7'
   refine bN (he _ _ _ _ _ s7' σ7 H7' _ I7' q7') fun v s8 ⟨y,H8,I8,ry,m',hm,w8⟩=>?_
   obtain ⟨p8,n8⟩:=pinD I8.unpinned
   have st8:tn (i+1) s8.heap:=T.keep _ _ _ st6 fun b hb o e=>(I8.pin (b,o) (List.mem_append_right _ (List.mem_append_right _ (b9 hb e)))).1
   have fr8:∀ b∈fp,H8 b=none:=fun b hb=>by
    obtain ⟨o,e,d⟩:=T.obj _ _ st6 b hb
    exact (I8.pin (b,o) (List.mem_append_right _ (List.mem_append_right _ (b9 hb e)))).2.1
   have hl:=v4.length
   refine wpAny_list_append_plain p8 (fun h9 p9 sb9=>⟨m',hm,i+1,ys++[y],H8,its++[v],?_,?_,fr8,by simpa using p9,n8,v4.append (.cons ry .nil),w8⟩) (by simp; omega)
   ·have I9:Inv (blk X scope (vars++caps.map (·.2)) HP.objs.size s2 H2 fp) [] σ7 H8 { s8 with heap:=h9,toks:=s8.toks }:=
     (unp I8).turned (it:=s2.heap.objs.size) (fun b o hb e=>sb9.extBut b o hb e) n8 DnL (.inr (Nat.le_refl _)) DnC fun p hp=>absurd (show p∈([]:List (Addr×Obj)) from hp) (by simp)
    exact I9.weak kp.1 kp.2
   ·exact T.keep _ _ _ st8 fun b hb o e=>sb9.extBut b o (Dfp b hb).symm e
 exact codeAny_compStart_list (loop _ rfl) (T.self _ 0 _ _ _ st1 (loop _ rfl))
theorem wG (B:BlkOk X.env.scope.names X.N scope vars caps) (hc:X.calm=true) (hi:PI X tg iter wi)
  (hg:∀ C s₀ H₀ ex,PG (blk X scope (vars++caps.map (·.2)) C s₀ H₀ ex) tg g) (hb:∀ C s₀ H₀ ex,PT (blk X scope (vars++caps.map (·.2)) C s₀ H₀ ex) cnd tt) (he:∀ C s₀ H₀ ex,PE (blk X scope (vars++caps.map (·.2)) C s₀ H₀ ex) elt te) (hs:∀ x,foldedSetIterable iter X.env x=pure x:=by intro _; rfl) :
  PE X (.ListComp elt [⟨tg,iter,[cnd],0⟩] scope pos) (ni wi g tt te vars caps):=by
 intro pins s σ H Q I h
 rw [eval_ListComp]
 refine wpAny_comprehension_free (use:=none) rfl hs (eL (B.cells I)) B.kind B.names ?_
 show wpAny _ _ (eval iter X.env) _ _ s
 refine bN (hi pins s σ H _ I h) fun v s1 h1=>bN h1 fun itv s2 h2=>?_
 obtain ⟨it,fp,tn,J,H2,e,I2,T,st2,f2,W,⟨m0,w0⟩,turn⟩:=h2
 subst e
 exact jE (Cm:=fun X=>X.calm=true) B hg hb he I2 T st2 f2 (fun _=>hc) w0 turn (RR:=fun acc C=>compPost (model X.prog X.w) X.A X.xe none (EP X pins σ Q) acc C) fun D C s' m ns _ _ _ H' _ k q=>⟨m,ns,fun h' hs'=>⟨.ref D,H',k h' hs',rfl,q⟩⟩
theorem pC {i:Nat} {y:Str} {py spos:Pos} (B:BlkOk X.env.scope.names X.N scope vars caps) (hc:X.calm=true) (hi:PI X tg iter wi)
  (hg:∀ C s₀ H₀ ex,PG (blk X scope (vars++caps.map (·.2)) C s₀ H₀ ex) tg g) (hb:∀ C s₀ H₀ ex,PT (blk X scope (vars++caps.map (·.2)) C s₀ H₀ ex) cnd tt) (he:∀ C s₀ H₀ ex,PE (blk X scope (vars++caps.map (·.2)) C s₀ H₀ ex) elt te)
  (hN:X.N.Nodup) (hy:X.N[i]? = some y) (hx:vv X.env.scope y) (hsw:swapsWith (.ListComp elt [⟨tg,iter,[cnd],0⟩] scope pos) (some (.Name y py)) spos.line X.env=pure true)
  (hf:X.fn y=true\/X.env.scope.names.lookup y=some .local) (hs:∀ x,foldedSetIterable iter X.env x=pure x:=by intro _; rfl) :
  PS X (.Assign [.Name y py] (.ListComp elt [⟨tg,iter,[cnd],0⟩] scope pos) spos) (fun D σ H=>ni wi g tt te vars caps σ H fun v H1=>D.nx (σ.set i (some v)) H1):=by
 intro pins s σ H DE I h
 rw [exec_Assign_Name_used _ _ _ _ hsw]
 refine wpAny_bind (wpAny_standAt (wpAny_bind ?_))
 show wpAny _ X.A (do let _ <- comprehension (.ListComp elt [⟨tg,iter,[cnd],0⟩] scope pos) scope X.env _ (newList []) false (eval iter X.env) (some (assign (.Name y py) X.env))) _ _ s
 refine wpAny_bind (wpAny_mono (wpAny_comprehension_free (use:=some (assign (.Name y py) X.env)) (Q:=fun _ s'=>SP X pins DE .next s') rfl hs (eL (B.cells I)) B.kind B.names
  (bN (hi pins s σ H _ I h) fun v s1 h1=>bN h1 fun itv s2 h2=>?_)) (fun _ s' hq=>wpAny_pure (wpAny_pure hq)) fun _ _ e=>e)
 obtain ⟨it,fp,tn,J,H2,e,I2,T,st2,f2,W,⟨m0,w0⟩,turn⟩:=h2
 subst e
 refine jE (Cm:=fun X=>X.calm=true) (Q:=fun v H1=>DE.nx (σ.set i (some v)) H1) B hg hb he I2 T st2 f2 (fun _=>hc) w0 turn (RR:=fun acc C=>compPost (model X.prog X.w) X.A X.xe (some (assign (.Name y py) X.env)) (fun _ s'=>SP X pins DE .next s') acc C) ?_
 intro D C s' m ns hDC hD hC H' hHC k q
 obtain ⟨oC,es,ep,eC,dC,rC⟩:=ns
 have I':Inv X pins σ H' s':=k s'.heap (Heap.SameBut.refl ..)
 have nL:C≠X.env.locals:=fun z=>by have:=I2.lt; rw [<- z] at this; exact absurd (Nat.lt_of_lt_of_le this hC) (Nat.lt_irrefl _)
 have nF:C ∉ X.fs:=I2.nofs hC
 have nCell:∀ x c,X.env.cells.lookup x=some c->c≠C:=fun x c e z=>by
  obtain ⟨v,o,ho,_⟩:=I2.cell x c e
  have:=Heap.lt_size ho
  rw [z] at this
  exact absurd (Nat.lt_of_lt_of_le this hC) (Nat.lt_irrefl _)
 have nPin:∀ p∈X.pn++pins,p.1≠C:=fun p hp z=>by
  have:=Heap.lt_size (I2.pin p hp).1
  rw [z] at this
  exact absurd (Nat.lt_of_lt_of_le this hC) (Nat.lt_irrefl _)
 have Ip:Inv X (pins++[(C,oC)]) σ H' s':=I'.pins_of fun p hp=>by
  rcases List.mem_append.mp hp with z | z
  ·exact I'.pin p (List.mem_append_right _ z)
  ·have e:p=(C,oC):=by simpa using z
   subst e
   exact ⟨eC,hHC,nL,nF,fun v z=>by rw [dC] at z; cases z⟩
 refine bN (bg (pos:=py) hN hy hx hf _ s' σ H' (.ref D) (.ref D) (fun σ' H''=>σ' = σ.set i (some (.ref D))/\H''=H'/\DE.nx σ' H'') Ip rfl ⟨rfl,rfl,q⟩) fun _ s'' ⟨σ'',H'',I'',e1,e2,q''⟩=>?_
 subst e1 e2
 have eC'':s''.heap.get? C=some oC:=(I''.pin (C,oC) (List.mem_append_right _ (List.mem_append_right _ (by simp)))).1
 refine ⟨m,⟨oC,es,ep,eC'',dC,rC⟩,fun h' hs'=>⟨_,H'',?_,q''⟩⟩
 exact I''.unpinned.turned (t':=s''.toks) (it:=C) (fun b o hb e=>hs'.extBut b o hb e) hHC nL (.inr (Nat.le_trans I2.sz hC)) nCell nPin
end
noncomputable def eW (t:D->Option Bool) (f:D->Option D):List D->Option (List D)
 | []=>some []
 | d::ds=>(t d).bind fun b=>if b=true then (f d).bind fun e=>(eW t f ds).bind fun es=>some (e::es) else eW t f ds
@[simp] theorem FJ {t:D->Option Bool} {f:D->Option D}:eW t f []=some []:=rfl
noncomputable def bX (fi:Dv->Option (List D)) (caps:List (Nat×Str)) (bv:D->Option (List D)) (ft:Dv->Option Bool) (fe:Dv->Option D):Dv->Option D:=fun δ=>(fi δ).bind fun ds=>if ds.length<=sizeLine then (eW (fun d=>(bv d).bind fun vs=>ft (vs.map .fz++bt δ caps)) (fun d=>(bv d).bind fun vs=>fe (vs.map .fz++bt δ caps)) ds).bind fun es=>some (.list es) else none
theorem gz {t:D->Option Bool} {f:D->Option D}:∀ {ds es:List D} {i:Nat} {d:D},eW t f ds=some es->ds[i]? = some d->∃ xs,eW t f (ds.take i)=some xs/\∃ b,t d=some b/\(b=false->eW t f (ds.take (i+1))=some xs)/\(b=true->∃ e,f d=some e/\eW t f (ds.take (i+1))=some (xs++[e]))
 | [],es,i,d,h,q=>by simp at q
 | d::ds,es,i,d',h,q=>by
  obtain ⟨b,h1,h⟩:=bind_some h
  cases i with
  | zero=>
   simp at q; subst q
   refine ⟨[],rfl,b,h1,fun hb=>?_,fun hb=>?_⟩
   ·subst hb; simp [eW,h1]
   ·subst hb
    rw [if_pos rfl] at h
    obtain ⟨e,h2,h⟩:=bind_some h
    exact ⟨e,h2,by simp [eW,h1,h2]⟩
  | succ i=>
   simp at q
   cases b with
   | false=>
    rw [if_neg (by decide)] at h
    obtain ⟨xs,g1,b',g2,g3,g4⟩:=gz (i:=i) h q
    refine ⟨xs,by simp [eW,h1,g1],b',g2,fun hb=>by simpa [eW,h1] using g3 hb,fun hb=>?_⟩
    obtain ⟨e,k1,k2⟩:=g4 hb
    exact ⟨e,k1,by simpa [eW,h1] using k2⟩
   | true=>
    rw [if_pos rfl] at h
    obtain ⟨e0,h2,h⟩:=bind_some h
    obtain ⟨es',h3,h⟩:=bind_some h
    obtain ⟨xs,g1,b',g2,g3,g4⟩:=gz (i:=i) h3 q
    refine ⟨e0::xs,by simp [eW,h1,h2,g1],b',g2,fun hb=>by simp [eW,h1,h2,g3 hb],fun hb=>?_⟩
    obtain ⟨e,k1,k2⟩:=g4 hb
    exact ⟨e,k1,by simp [eW,h1,h2,k2]⟩
theorem j0 {t:D->Option Bool} {f:D->Option D}:∀ {ds es:List D},eW t f ds=some es->es.length<=ds.length
 | [],es,h=>by cases h; exact Nat.le_refl _
 | d::ds,es,h=>by
  obtain ⟨b,h1,h⟩:=bind_some h
  cases b with
  | false=>rw [if_neg (by decide)] at h; exact Nat.le_succ_of_le (j0 h)
  | true=>
   rw [if_pos rfl] at h
   obtain ⟨e0,h2,h⟩:=bind_some h
   obtain ⟨es',h3,h⟩:=bind_some h
   cases h
   exact Nat.succ_le_succ (j0 h3)
section
variable {X:Cx} {scope:Scope} {vars:List Str} {caps:List (Nat×Str)} {elt tg iter cnd:Expr} {pos:Pos} {g:TG} {fi:Dv->Option (List D)} {ft:Dv->Option Bool} {fe:Dv->Option D} {bv:D->Option (List D)}
theorem lf (tk:qv X.K g vars.length bv) {σ:St} {H:Hp} {Q:VK} (h:tV X.K (bX fi caps bv ft fe) σ H Q):ni (F7 X.K fi) g (AR X.K ft) (tV X.K fe) vars caps σ H Q:=by
 obtain ⟨H₀,Z₀,Z,δ,d,hh,e,k⟩:=h
 obtain ⟨ds,e1,e⟩:=bind_some e
 by_cases hz:ds.length<=sizeLine
 ·rw [if_pos hz] at e
  obtain ⟨es,e2,e⟩:=bind_some e
  cases e
  have hv:vars.map (fun _=>(none:Option V))=List.replicate vars.length none:=by rw [List.map_const']
  refine ⟨H₀,Z₀,Z,δ,ds,hh,e1,fun J Z1 H1 hh1 t1 ok=>?_⟩
  refine ⟨fun i m ys H=>m=ds.length-i/\i<=ds.length/\∃ Zc xs,Hold X.K H₀ Z₀ Zc δ σ H/\Same Z1 Zc/\eW (fun d=>(bv d).bind fun vs=>ft (vs.map .fz++bt δ caps)) (fun d=>(bv d).bind fun vs=>fe (vs.map .fz++bt δ caps)) (ds.take i)=some xs/\Reps X.K Zc ys xs,⟨ds.length,by simp,Nat.zero_le _,Z1,[],hh1,Same.refl _,rfl,.nil⟩,?_⟩
  rintro i m ys H2 ⟨rfl,hi2,Zc,xs,hhc,tc,fx,rc⟩
  have zh:Same Z1 H2:=tc.trans hhc.zh
  have ly:=rc.length
  have lx:=j0 fx
  rw [List.length_take] at lx
  by_cases hlt:i<ds.length
  ·refine .inr ⟨ok.go i H2 zh hlt,by omega,fun x H3 y=>?_⟩
   have ed:ds[i]? = some ds[i]:=by simp [hlt]
   obtain ⟨rfl,rx⟩:=ok.yld i H2 x H3 _ zh ed y
   obtain ⟨xs',f0,b,fb,ff,ftr⟩:=gz e2 ed
   rw [fx] at f0
   cases f0
   obtain ⟨vs,f3,f1⟩:=bind_some fb
   rw [hv]
   refine tk x Zc ds[i] vs (ej σ caps) H3 _ (rx.same tc) hhc.zh f3 fun us ru hn=>⟨⟨by simp [hn],fun j v q=>?_⟩,?_⟩
   ·by_cases hj:j<vars.length
    ·rw [List.getElem?_append_left (by simpa using hj),List.getElem?_replicate] at q
     split at q <;> cases q
    ·rw [List.getElem?_append_right (by simpa using hj)] at q
     rw [List.getElem?_append_right (by simpa [hn] using hj)]
     simpa [hn] using q
   ·refine ⟨H3,Zc,Zc,_,b,lj hhc ru,f1,fun Z3 H3' h3 t3=>?_⟩
    have hh3:=hhc.new ⟨t3,h3.h0,h3.zh,h3.zb,h3.nf⟩
    cases b with
    | false=>
     dsimp only
     rw [if_neg (by decide)]
     exact ⟨ds.length-(i+1),by omega,rfl,hlt,Z3,xs,hh3,tc.trans t3,ff rfl,rc.same t3⟩
    | true=>
     dsimp only
     rw [if_pos rfl]
     obtain ⟨ei,f2,f4⟩:=ftr rfl
     rw [f3] at f2
     refine ⟨H3,Zc,Z3,_,ei,h3,f2,fun v Z4 H4 h4 t4 r4=>⟨ds.length-(i+1),by omega,rfl,hlt,Z4,xs++[ei],?_,(tc.trans t3).trans t4,f4,((rc.same t3).same t4).append (.cons r4 .nil)⟩⟩
     exact hhc.new ⟨t3.trans t4,h4.h0,h4.zh,h4.zb,h4.nf⟩
  ·have hie:i=ds.length:=by omega
   subst hie
   refine .inl ⟨ok.stop _ H2 zh (Nat.le_refl _),by omega,fun p hp=>?_⟩
   rw [List.take_length,e2] at fx
   cases fx
   have n:=New.add hhc.zh hp (.lst ys)
   exact k _ _ _ (hhc.new n) ((t1.trans tc).trans n.z) (.lst (SqL.of aC) (rc.same n.z))
 ·rw [if_neg hz] at e; cases e
theorem eX (B:BlkOk X.env.scope.names X.N scope vars caps) (hc:X.calm=true) (hi:IV X tg iter fi) (tk:qv X.K g vars.length bv)
  (hg:∀ C s₀ H₀ ex,PG (blk X scope (vars++caps.map (·.2)) C s₀ H₀ ex) tg g) (hb:∀ C s₀ H₀ ex,TV (blk X scope (vars++caps.map (·.2)) C s₀ H₀ ex) cnd ft) (he:∀ C s₀ H₀ ex,EV (blk X scope (vars++caps.map (·.2)) C s₀ H₀ ex) elt fe) (hs:∀ x,foldedSetIterable iter X.env x=pure x:=by intro _; rfl) :
  EV X (.ListComp elt [⟨tg,iter,[cnd],0⟩] scope pos) (bX fi caps bv ft fe):=
 PE.imp (wG (tt:=AR X.K ft) (te:=tV X.K fe) B hc hi hg hb he hs) fun _ _ _ h=>lf tk h
theorem ia (i:Nat) {y:Str} {py spos:Pos} (hN:X.N.Nodup) (B:BlkOk X.env.scope.names X.N scope vars caps) (hc:X.calm=true) (hi:IV X tg iter fi) (tk:qv X.K g vars.length bv)
  (hg:∀ C s₀ H₀ ex,PG (blk X scope (vars++caps.map (·.2)) C s₀ H₀ ex) tg g) (hb:∀ C s₀ H₀ ex,TV (blk X scope (vars++caps.map (·.2)) C s₀ H₀ ex) cnd ft) (he:∀ C s₀ H₀ ex,EV (blk X scope (vars++caps.map (·.2)) C s₀ H₀ ex) elt fe)
  (hy:X.N[i]? = some y:=by rfl) (hx:vv X.env.scope y:=by first | exact Or.inl rfl | exact Or.inr rfl) (hsw:swapsWith (.ListComp elt [⟨tg,iter,[cnd],0⟩] scope pos) (some (.Name y py)) spos.line X.env=pure true:=by rfl)
  (hf:X.fn y=true\/X.env.scope.names.lookup y=some .local:=by first | exact .inl rfl | exact .inr rfl | assumption) (hs:∀ x,foldedSetIterable iter X.env x=pure x:=by intro _; rfl) :
  SV X (.Assign [.Name y py] (.ListComp elt [⟨tg,iter,[cnd],0⟩] scope pos) spos) (aI i (bX fi caps bv ft fe)):=
 PS.imp (pC (tt:=AR X.K ft) (te:=tV X.K fe) B hc hi hg hb he hN hy hx hsw hf hs) fun D σ H h=>by
  obtain ⟨H₀,Z₀,Z,δ,r,hh,e,k⟩:=h
  obtain ⟨x,e1,e⟩:=bind_some e
  cases e
  exact lf tk ⟨H₀,Z₀,Z,δ,x,hh,e1,fun v Z1 H1 hh1 s1 r1=>k _ H1 Z1 (hh1.set r1) s1⟩
end
end VL
set_option Elab.async false
set_option linter.all false
set_option maxRecDepth 100000
set_option maxHeartbeats 4000000
namespace VL
open PySem PySem.Spec PyProof.Rows L2
section
variable {X:Cx} {a b c:Expr} {pos:Pos} {f1 f2 f3:Dv->Option D}
end
noncomputable def qx:D->Bool
 | .none=>true
 | .bool _=>true
 | .int _=>true
 | .str _=>true
 | _=>false
noncomputable def vp (x:D) (ds:List D):Bool:=ds.any fun y=>PyData.eqv y x
noncomputable def vq (neg:Bool):D->D->Option D:=fun a b=>(bu b).bind fun ds=>if qx a=true/\ds.all qx=true then some (.bool (if neg=true then !vp a ds else vp a ds)) else none
theorem Rep.flat {K:Fg} {Z:Hp} {v:V} {d:D} (r:Rep K Z v d):gM v=qx d:=by cases r <;> rfl
theorem Rep.eqF {K:Fg} {Z:Hp} {v u:V} {d e:D} (r:Rep K Z v d) (q:Rep K Z u e) (h1:qx d=true) (h2:qx e=true):yy v u=PyData.eqv d e:=by
 cases r <;> first | (cases q <;> first | rfl | cases h2) | cases h1
theorem Reps.allF {K:Fg} {Z:Hp}:∀ {vs:List V} {ds:List D},Reps K Z vs ds->vs.all gM=ds.all qx
 | _,_,.nil=>rfl
 | _,_,.cons r t=>by rw [List.all_cons,List.all_cons,r.flat,t.allF]
theorem Reps.inF {K:Fg} {Z:Hp} {x:V} {a:D} (q:Rep K Z x a) (h:qx a=true):∀ {vs:List V} {ds:List D},Reps K Z vs ds->ds.all qx=true->Go x vs=vp a ds
 | _,_,.nil,_=>rfl
 | _,_,.cons r t,f=>by
  rw [List.all_cons,Bool.and_eq_true] at f
  show (yy _ x||Go x _)=(PyData.eqv _ a||vp a _)
  rw [r.eqF q f.1 h,t.inF q h f.2]
theorem tG {K:Fg} {neg:Bool} {x y:V} {H:Hp} {Q:VK} (h:rD K (vq neg) x y H Q):Ge K neg x y H Q:=by
 obtain ⟨Z,a,b,d,zh,ra,rb,e,k⟩:=h
 obtain ⟨ds,e1,e⟩:=bind_some e
 by_cases c:qx a=true/\ds.all qx=true
 ·rw [if_pos c] at e
  cases e
  have go:∀ (xs:List V),Reps K Z xs ds->(∃ p,y=.ref p/\(SqL K H p xs\/SqT K H p xs))->Ge K neg x y H Q:=fun xs r ⟨p,ey,hq⟩=>by
   refine ⟨p,xs,ey,hq,by rw [ra.flat]; exact c.1,by rw [r.allF]; exact c.2,?_⟩
   have:=r.inF ra c.1 c.2
   rw [this]
   exact k _ Z H (New.refl zh) (.bl _)
  cases rb with
  | lst h q=>cases e1; exact go _ q ⟨_,rfl,.inl (SqL.same h zh)⟩
  | tup h q=>cases e1; exact go _ q ⟨_,rfl,.inr (SqT.same h zh)⟩
  | _=>cases e1
 ·rw [if_neg c] at e; cases e
theorem xS {X:Cx}:OpR X (compareOp .In) (rD X.K (vq false)):=OpR.imp uG fun _ _ _ _ h=>tG h
theorem Au {X:Cx}:OpR X (compareOp .NotIn) (rD X.K (vq true)):=OpR.imp nN fun _ _ _ _ h=>tG h
noncomputable def gT:List (D->Dv->Option Dv)->List D->Dv->Option Dv
 | [],[],δ=>some δ
 | g::gs,d::ds,δ=>(g d δ).bind fun δ1=>gT gs ds δ1
 | _,_,_=>none
noncomputable def Hu (gs:List (D->Dv->Option Dv)):D->Dv->Option Dv
 | .tuple ds,δ=>gT gs ds δ
 | _,_=>none
@[simp] theorem Hv (δ:Dv):gT [] [] δ = some δ:=rfl
@[simp] theorem Gs (g:D->Dv->Option Dv) (gs:List (D->Dv->Option Dv)) (d:D) (ds:List D) (δ:Dv):gT (g::gs) (d::ds) δ = (g d δ).bind fun δ1=>gT gs ds δ1:=rfl
@[simp] theorem Gr (gs:List (D->Dv->Option Dv)) (ds:List D) (δ:Dv):Hu gs (.tuple ds) δ = gT gs ds δ:=rfl
theorem xy:∀ {gs:List (D->Dv->Option Dv)} {ds:List D} {δ δ':Dv},gT gs ds δ = some δ'->ds.length=gs.length
 | [],[],_,_,_=>rfl
 | [],_::_,_,_,h=>by cases h
 | _::_,[],_,_,h=>by cases h
 | g::gs,d::ds,δ,δ',h=>by
  obtain ⟨δ1,_,h⟩:=bind_some h
  exact congrArg (· + 1) (xy h)
noncomputable def GG (K:Fg) (gs:List (D->Dv->Option Dv)):AJ:=fun vs σ H Q=>∃ H₀ Z₀ Z δ ds δ',Hold K H₀ Z₀ Z δ σ H/\Reps K Z vs ds/\gT gs ds δ = some δ'/\∀ σ' H' Z',Hold K H₀ Z₀ Z' δ' σ' H'->Same Z Z'->Q σ' H'
noncomputable def Gy (X:Cx) (es:List Expr) (gs:List (D->Dv->Option Dv)):Prop:=PGs X es (GG X.K gs)
section
variable {X:Cx} {pos:Pos} {e:Expr} {es:List Expr} {g:D->Dv->Option Dv} {gs:List (D->Dv->Option Dv)}
theorem PGs.imp {t t':AJ} (h:PGs X es t) (i:∀ v σ H Q,t' v σ H Q->t v σ H Q):PGs X es t':=fun pins s σ H x v Q I r q=>h pins s σ H x v Q I r (i _ _ _ _ q)
theorem Aj:Gy X [] []:=PGs.imp zz fun vs σ H Q h=>by
 obtain ⟨H₀,Z₀,Z,δ,ds,δ',hh,r,e,k⟩:=h
 cases r with
 | nil=>cases e; exact ⟨rfl,k σ H Z hh (Same.refl _)⟩
 | cons _ _=>cases e
theorem p6 (h1:GV X e g) (h2:Gy X es gs) (hs:(assignEach (e::es) X.env).map (·.2)=assign e X.env::(assignEach es X.env).map (·.2):=by rfl):Gy X (e::es) (g::gs):=
 PGs.imp (wy h1 h2 hs) fun vs σ H Q h=>by
  obtain ⟨H₀,Z₀,Z,δ,ds,δ',hh,r,e,k⟩:=h
  cases r with
  | nil=>cases e
  | cons r t=>
   obtain ⟨δ1,e1,e⟩:=bind_some e
   exact ⟨_,_,rfl,H₀,Z₀,Z,δ,_,δ1,hh,r,e1,fun σ1 H1 Z1 hh1 s1=>⟨H₀,Z₀,Z1,δ1,_,δ',hh1,t.same s1,e,fun σ2 H2 Z2 hh2 s2=>k σ2 H2 Z2 hh2 (s1.trans s2)⟩⟩
theorem C7 {k:Nat} (hc:X.calm=true) (h:Gy X es gs) (hn:(assignEach es X.env).length=gs.length:=by rfl) (hst:(assignEach es X.env).findIdx? (·.1)=none:=by rfl):GV X (.Tuple es k pos) (Hu gs):=
 PG.imp (Cj hc h hn hst) fun v σ H Q h=>by
  obtain ⟨H₀,Z₀,Z,δ,d,δ',hh,r,e,k⟩:=h
  cases r with
  | tup q t=>
   have el:_=gs.length:=xy (gs:=gs) e
   exact ⟨_,_,rfl,SqT.same q hh.zh,by rw [t.length]; exact el,H₀,Z₀,Z,δ,_,δ',hh,t,e,k⟩
  | _=>cases e
noncomputable def B0 (f:Dv->Option D) (g:D->Dv->Option Dv):Sf:=fun δ=>(f δ).bind fun d=>(g d δ).bind fun δ'=>some (.nx,δ')
theorem BH {tg:Expr} {f:Dv->Option D} (he:EV X e f) (hg:GV X tg g) (hs:swapsWithSole [tg] e pos.line X.env=pure false:=by rfl) (hw:swappedStores [tg] e X.env=pure none:=by rfl)
  (h1:(assignEach [tg] X.env).map (·.2)=[assign tg X.env]:=by rfl):SV X (.Assign [tg] e pos) (B0 f g):=
 PS.imp (wu he hg hs hw h1) fun D σ H h=>by
  obtain ⟨H₀,Z₀,Z,δ,r,hh,e,k⟩:=h
  obtain ⟨d,e1,e⟩:=bind_some e
  obtain ⟨δ',e2,e⟩:=bind_some e
  cases e
  exact ⟨H₀,Z₀,Z,δ,d,hh,e1,fun v Z1 H1 hh1 s1 r1=>⟨H₀,Z₀,Z1,δ,d,δ',hh1,r1,e2,fun σ' H' Z' hh' s'=>k σ' H' Z' hh' (s1.trans s')⟩⟩
end
noncomputable def wN:Nat:=1000000
theorem dU {t:Dv->Option Bool} {b:Sf}:∀ {n m:Nat} {δ:Dv} {r:Fl×Dv},cY t b n δ = some r->n<=m->cY t b m δ = some r
 | 0,_,_,_,h,_=>by cases h
 | n+1,0,_,_,_,hm=>by omega
 | n+1,m+1,δ,r,h,hm=>by
  have hm:n<=m:=by omega
  obtain ⟨c,h1,h⟩:=bind_some h
  show ((t δ).bind fun c=>_)=_
  rw [h1,Option.bind_some]
  cases c with
  | false=>exact h
  | true=>
   rw [if_pos rfl] at h ⊢
   obtain ⟨⟨fl,δ2⟩,h2,h⟩:=bind_some h
   rw [h2,Option.bind_some]
   cases fl with
   | nx=>exact dU h hm
   | ct=>exact dU h hm
   | bk=>exact h
   | rt d=>exact h
theorem da {t:Dv->Option Bool} {b:Sf} {δ:Dv} (n:Nat) (h:t δ = some false):cY t b (n+1) δ = some (.nx,δ):=by
 show ((t δ).bind fun c=>_)=_
 rw [h]; rfl
theorem j8 {t:Dv->Option Bool} {b:Sf} {δ δ2:Dv} {r:Fl×Dv} (n:Nat) (h:t δ = some true) (h2:b δ = some (.nx,δ2)) (h3:cY t b n δ2=some r):cY t b (n+1) δ = some r:=by
 show ((t δ).bind fun c=>_)=_
 rw [h,Option.bind_some,if_pos rfl,h2,Option.bind_some]
 exact h3
theorem cJ {g:D->Dv->Option Dv} {b:Sf} {d:D} {ds:List D} {δ δ1 δ2:Dv} (h1:g d δ = some δ1) (h2:b δ1=some (.nx,δ2)):loop g b (d::ds) δ = loop g b ds δ2:=by
 show ((g d δ).bind fun δ1=>_)=_
 rw [h1,Option.bind_some,h2]; rfl
end VL
set_option Elab.async false
set_option linter.all false
set_option maxRecDepth 100000
set_option maxHeartbeats 4000000
namespace VL
open PySem PySem.Spec PyProof.Rows L2
noncomputable def tO (K:Fg) (f:Dv->Option (List D)):TE:=fun σ H Q=>∃ H₀ Z₀ Z δ ds,Hold K H₀ Z₀ Z δ σ H/\f δ = some ds/\∀ p vs Z' H',Hold K H₀ Z₀ Z' δ σ H'->Same Z Z'->H' p=none->Reps K Z' vs ds->Q (.ref p) (upd H' p (.lst vs))
noncomputable def E4 (f:Dv->Option D):Dv->Option (List D):=fun δ=>(f δ).bind w9
@[simp] noncomputable def pj (i:Nat) (f:Dv->Option (List D)):Sf:=fun δ=>(f δ).bind fun ds=>some (.nx,δ.set i (.ow ds))
section
variable {X:Cx} {e:Expr} {es:List Expr} {p pos:Pos} {f:Dv->Option (List D)} {fs:Dv->Option (List D)}
theorem wI {K:Fg} {D:Ends} {i:Nat} {σ:St} {H:Hp} (h:AS K (pj i f) D σ H):tO K f σ H fun v H1=>D.nx (σ.set i (some v)) H1:=by
 obtain ⟨H₀,Z₀,Z,δ,r,hh,e,k⟩:=h
 obtain ⟨ds,e1,e⟩:=bind_some e
 cases e
 exact ⟨H₀,Z₀,Z,δ,ds,hh,e1,fun p vs Z1 H1 hh1 t1 hp r1=>k _ _ Z1 (hh1.setO hp r1) t1⟩
end
section
variable {X:Cx} {scope:Scope} {vars:List Str} {caps:List (Nat×Str)} {elt tg iter cnd:Expr} {pos:Pos} {g:TG} {fi:Dv->Option (List D)} {ft:Dv->Option Bool} {fe:Dv->Option D} {bv:D->Option (List D)}
theorem qj (tk:qv X.K g vars.length bv) {σ:St} {H:Hp} {Q:VK} (h:tO X.K (E4 (bX fi caps bv ft fe)) σ H Q):ni (F7 X.K fi) g (AR X.K ft) (tV X.K fe) vars caps σ H Q:=by
 obtain ⟨H₀,Z₀,Z,δ,d0,hh,e0,k⟩:=h
 obtain ⟨d,e,e0⟩:=bind_some e0
 obtain ⟨ds,e1,e⟩:=bind_some e
 by_cases hz:ds.length<=sizeLine
 ·rw [if_pos hz] at e
  obtain ⟨es,e2,e⟩:=bind_some e
  cases e
  obtain rfl:es=d0:=Option.some.inj e0
  have hv:vars.map (fun _=>(none:Option V))=List.replicate vars.length none:=by rw [List.map_const']
  refine ⟨H₀,Z₀,Z,δ,ds,hh,e1,fun J Z1 H1 hh1 t1 ok=>?_⟩
  refine ⟨fun i m ys H=>m=ds.length-i/\i<=ds.length/\∃ Zc xs,Hold X.K H₀ Z₀ Zc δ σ H/\Same Z1 Zc/\eW (fun d=>(bv d).bind fun vs=>ft (vs.map .fz++bt δ caps)) (fun d=>(bv d).bind fun vs=>fe (vs.map .fz++bt δ caps)) (ds.take i)=some xs/\Reps X.K Zc ys xs,⟨ds.length,by simp,Nat.zero_le _,Z1,[],hh1,Same.refl _,rfl,.nil⟩,?_⟩
  rintro i m ys H2 ⟨rfl,hi2,Zc,xs,hhc,tc,fx,rc⟩
  have zh:Same Z1 H2:=tc.trans hhc.zh
  have ly:=rc.length
  have lx:=j0 fx
  rw [List.length_take] at lx
  by_cases hlt:i<ds.length
  ·refine .inr ⟨ok.go i H2 zh hlt,by omega,fun x H3 y=>?_⟩
   have ed:ds[i]? = some ds[i]:=by simp [hlt]
   obtain ⟨rfl,rx⟩:=ok.yld i H2 x H3 _ zh ed y
   obtain ⟨xs',f0,b,fb,ff,ftr⟩:=gz e2 ed
   rw [fx] at f0
   cases f0
   obtain ⟨vs,f3,f1⟩:=bind_some fb
   rw [hv]
   refine tk x Zc ds[i] vs (ej σ caps) H3 _ (rx.same tc) hhc.zh f3 fun us ru hn=>⟨⟨by simp [hn],fun j v q=>?_⟩,?_⟩
   ·by_cases hj:j<vars.length
    ·rw [List.getElem?_append_left (by simpa using hj),List.getElem?_replicate] at q
     split at q <;> cases q
    ·rw [List.getElem?_append_right (by simpa using hj)] at q
     rw [List.getElem?_append_right (by simpa [hn] using hj)]
     simpa [hn] using q
   ·refine ⟨H3,Zc,Zc,_,b,lj hhc ru,f1,fun Z3 H3' h3 t3=>?_⟩
    have hh3:=hhc.new ⟨t3,h3.h0,h3.zh,h3.zb,h3.nf⟩
    cases b with
    | false=>
     dsimp only
     rw [if_neg (by decide)]
     exact ⟨ds.length-(i+1),by omega,rfl,hlt,Z3,xs,hh3,tc.trans t3,ff rfl,rc.same t3⟩
    | true=>
     dsimp only
     rw [if_pos rfl]
     obtain ⟨ei,f2,f4⟩:=ftr rfl
     rw [f3] at f2
     refine ⟨H3,Zc,Z3,_,ei,h3,f2,fun v Z4 H4 h4 t4 r4=>⟨ds.length-(i+1),by omega,rfl,hlt,Z4,xs++[ei],?_,(tc.trans t3).trans t4,f4,((rc.same t3).same t4).append (.cons r4 .nil)⟩⟩
     exact hhc.new ⟨t3.trans t4,h4.h0,h4.zh,h4.zb,h4.nf⟩
  ·have hie:i=ds.length:=by omega
   subst hie
   refine .inl ⟨ok.stop _ H2 zh (Nat.le_refl _),by omega,fun p hp=>?_⟩
   rw [List.take_length,e2] at fx
   cases fx
   exact k p ys Zc _ hhc (t1.trans tc) hp rc
 ·rw [if_neg hz] at e; cases e
theorem ui (i:Nat) {y:Str} {py spos:Pos} (hN:X.N.Nodup) (B:BlkOk X.env.scope.names X.N scope vars caps) (hc:X.calm=true) (hi:IV X tg iter fi) (tk:qv X.K g vars.length bv)
  (hg:∀ C s₀ H₀ ex,PG (blk X scope (vars++caps.map (·.2)) C s₀ H₀ ex) tg g) (hb:∀ C s₀ H₀ ex,TV (blk X scope (vars++caps.map (·.2)) C s₀ H₀ ex) cnd ft) (he:∀ C s₀ H₀ ex,EV (blk X scope (vars++caps.map (·.2)) C s₀ H₀ ex) elt fe)
  (hy:X.N[i]? = some y:=by rfl) (hx:vv X.env.scope y:=by first | exact Or.inl rfl | exact Or.inr rfl) (hsw:swapsWith (.ListComp elt [⟨tg,iter,[cnd],0⟩] scope pos) (some (.Name y py)) spos.line X.env=pure true:=by rfl)
  (hf:X.fn y=true\/X.env.scope.names.lookup y=some .local:=by first | exact .inl rfl | exact .inr rfl | assumption) (hs:∀ x,foldedSetIterable iter X.env x=pure x:=by intro _; rfl) :
  SV X (.Assign [.Name y py] (.ListComp elt [⟨tg,iter,[cnd],0⟩] scope pos) spos) (pj i (E4 (bX fi caps bv ft fe))):=
 PS.imp (pC (tt:=AR X.K ft) (te:=tV X.K fe) B hc hi hg hb he hN hy hx hsw hf hs) fun D σ H h=>qj tk (wI h)
end
noncomputable def uw (t:Sf):Fl×Dv->Option (Fl×Dv)
 | (.nx,δ)=>t δ
 | r=>some r
@[simp] theorem Gb (t:Sf) (δ:Dv):uw t (.nx,δ)=t δ:=rfl
@[simp] theorem Ga (t:Sf) (d:D) (δ:Dv):uw t (.rt d,δ)=some (.rt d,δ):=rfl
@[simp] theorem Gd (t:Sf) (δ:Dv):uw t (.bk,δ)=some (.bk,δ):=rfl
@[simp] theorem Gc (t:Sf) (δ:Dv):uw t (.ct,δ)=some (.ct,δ):=rfl
noncomputable def Fv (u w:Sf) (δ:Dv):Bool->Option (Fl×Dv)
 | true=>u δ
 | false=>w δ
@[simp] theorem IE (u w:Sf) (δ:Dv):Fv u w δ true=u δ:=rfl
@[simp] theorem IF (u w:Sf) (δ:Dv):Fv u w δ false=w δ:=rfl
theorem qM (s t:Sf) (δ:Dv):ay s t δ = (s δ).bind (uw t):=by
 unfold ay uw
 congr 1
theorem v6 (t:Dv->Option Bool) (u w:Sf) (δ:Dv):gK t u w δ = (t δ).bind (Fv u w δ):=by
 unfold gK
 congr 1
 funext c
 cases c <;> rfl
end VL
set_option Elab.async false
set_option linter.all false
set_option maxRecDepth 100000
set_option maxHeartbeats 4000000
namespace VL
open PySem PySem.Spec PyProof.Rows L2
noncomputable def jR:List D->Option (List Bool)
 | []=>some []
 | .bool b::r=>(jR r).map (b :: ·)
 | _=>none
noncomputable def AF:List D->Option D
 | [.list xs]=>(jR xs).map fun bs=>.bool (bs.all id)
 | _=>none
noncomputable def AD:List D->Option D
 | [.list xs]=>(jR xs).map fun bs=>.bool (bs.any id)
 | _=>none
noncomputable def iG:List D->Option (List Int)
 | []=>some []
 | .int b::r=>(iG r).map (b :: ·)
 | _=>none
noncomputable def gX:List D->Option D
 | [.list xs]=>(iG xs).map fun bs=>.int bs.sum
 | _=>none
theorem li {α:Type} (f:α -> Bool):∀ xs:List α,jR (xs.map fun a=>.bool (f a))=some (xs.map f)
 | []=>rfl
 | a::r=>by simp [jR,li f r]
theorem yi {α:Type} (f:α -> Bool) (xs:List α):AF [.list (xs.map fun a=>.bool (f a))]=some (.bool (xs.all f)):=by
 simp [AF,li,List.all_map]
theorem ye {α:Type} (f:α -> Bool) (xs:List α):AD [.list (xs.map fun a=>.bool (f a))]=some (.bool (xs.any f)):=by
 simp [AD,li,List.any_map]
theorem mK {α:Type} (f:α -> Int):∀ xs:List α,iG (xs.map fun a=>.int (f a))=some (xs.map f)
 | []=>rfl
 | a::r=>by simp [iG,mK f r]
theorem ic {α:Type} (f:α -> Int) (xs:List α):gX [.list (xs.map fun a=>.int (f a))]=some (.int (xs.map f).sum):=by
 simp [gX,mK]
noncomputable def EE:D->Option D
 | .list xs=>some (.list xs.reverse)
 | _=>none
@[simp] theorem B6 (xs:List D):EE (.list xs)=some (.list xs.reverse):=rfl
noncomputable def EF:D->Option (List D)
 | .list xs=>some xs.reverse
 | .tuple xs=>some xs.reverse
 | _=>none
@[simp] theorem DH (xs:List D):EF (.list xs)=some xs.reverse:=rfl
@[simp] theorem B7 (xs:List D):EF (.tuple xs)=some xs.reverse:=rfl
@[simp] noncomputable def Im:Sf:=fun _=>none
@[simp] noncomputable def IZ (i:Nat) (f:Dv->Option D):Sf:=fun δ=>(f δ).bind fun v=>(bu v).bind fun es=>(zd δ[i]?).bind fun ds=>if ds.length+es.length<=sizeLine then some (.nx,δ.set i (.ow (ds++es))) else none
section
variable {X:Cx} {e:Expr} {es:List Expr} {p pos tpos apos:Pos} {f:Dv->Option D} {st:Stmt}
theorem oy {K:Fg} {Z:Hp}:∀ {xs:List V} {ds:List D} {bs:List Bool} {its:List Value},Reps K Z xs ds->Vals xs its->jR ds=some bs->its.length=bs.length/\∀ (i:Nat) (v:Value),its[i]? = some v->∃ b,bs[i]? = some b/\v=.bool b
 | _,_,bs,_,.nil,.nil,h=>by cases h; exact ⟨rfl,fun i v q=>by simp at q⟩
 | _,_,bs,_,.cons r t,.cons q u,h=>by
  cases r with
  | bl b=>
   unfold jR at h
   cases g:jR _ with
   | none=>rw [g] at h; cases h
   | some cs=>
    rw [g] at h
    cases h
    obtain ⟨h1,h2⟩:=oy t u g
    refine ⟨by simp [h1],fun i v e=>?_⟩
    cases i with
    | zero=>simp at e; subst e; exact ⟨b,rfl,q⟩
    | succ i=>simp at e; simpa using h2 i v e
  | _=>cases h
theorem pY {K:Fg} {Z:Hp}:∀ {xs:List V} {ds:List D} {bs:List Int} {its:List Value},Reps K Z xs ds->Vals xs its->iG ds=some bs->IntsAre its bs
 | _,_,bs,_,.nil,.nil,h=>by cases h; exact .nil
 | _,_,bs,_,.cons r t,.cons q u,h=>by
  cases r with
  | int b=>
   unfold iG at h
   cases g:iG _ with
   | none=>rw [g] at h; cases h
   | some cs=>
    rw [g] at h
    cases h
    obtain ⟨tk,rfl⟩:=q
    exact .cons _ _ (pY t u g)
  | _=>cases h
theorem FS (hc:X.calm=true):CallR X (.builtin "all") (uz X.K AF):=by
 intro pins s σ H xs us Q I rs q
 obtain ⟨Z,as,d,zh,ra,e,k⟩:=q
 cases ra with
 | nil=>cases e
 | cons r1 r2=>
  cases r2 with
  | cons _ _=>cases r1 <;> cases e
  | nil=>
   cases r1 with
   | @lst l ys ds h1 q1=>
    have e:(jR ds).map (fun bs=>PyData.bool (bs.all id))=some d:=e
    cases g:jR ds with
    | none=>rw [g] at e; cases e
    | some bs=>
     rw [g] at e
     cases e
     obtain ⟨u,rfl,ru⟩:=fU rs
     cases ru
     obtain ⟨its,rv,pl,hz⟩:=I.list (SqL.same h1 zh)
     obtain ⟨hlen,hget⟩:=oy q1 rv g
     have hl:=pl.isList
     have hlt:l<s.heap.objs.size:=by obtain ⟨_,e,_⟩:=hl; exact Heap.lt_size e
     refine call_all_walk (wpAny_pyIter_list hl ?_)
     refine ⟨s.heap.objs.size,[s.heap.objs.size,l],[s.heap.objs.size],its.toArray.size,_,_,fun i=>(bs[i]?).getD true,rfl,Walks.list (A:=X.A.in1) (I.ok.hd hc) _ l (Nat.ne_of_lt hlt) its.toArray,
      ⟨⟨_,Heap.get?_push_size _ rfl,rfl,rfl⟩,hl.push _⟩,fun i v s' Q' E' hP hQ=>?_,fun h' tk hk=>?_⟩
     ·obtain ⟨b,e,rfl⟩:=hget i v (by simpa using hP)
      simp only [e,Option.getD_some] at hQ
      exact wpAny_truthy_bool hQ
     ·have e:((List.range its.toArray.size).all fun i=>(bs[i]?).getD true)=bs.all id:=by
       rw [List.size_toArray,hlen]; exact LSm.range_all bs
      rw [e]
      exact ⟨.bl _,H,I.kept (t':=tk) (LSm.kept_iter hk),rfl,k _ Z H (New.refl zh) (.bl _)⟩
   | _=>cases e
theorem FR (hc:X.calm=true):CallR X (.builtin "any") (uz X.K AD):=by
 intro pins s σ H xs us Q I rs q
 obtain ⟨Z,as,d,zh,ra,e,k⟩:=q
 cases ra with
 | nil=>cases e
 | cons r1 r2=>
  cases r2 with
  | cons _ _=>cases r1 <;> cases e
  | nil=>
   cases r1 with
   | @lst l ys ds h1 q1=>
    have e:(jR ds).map (fun bs=>PyData.bool (bs.any id))=some d:=e
    cases g:jR ds with
    | none=>rw [g] at e; cases e
    | some bs=>
     rw [g] at e
     cases e
     obtain ⟨u,rfl,ru⟩:=fU rs
     cases ru
     obtain ⟨its,rv,pl,hz⟩:=I.list (SqL.same h1 zh)
     obtain ⟨hlen,hget⟩:=oy q1 rv g
     have hl:=pl.isList
     have hlt:l<s.heap.objs.size:=by obtain ⟨_,e,_⟩:=hl; exact Heap.lt_size e
     refine call_any_walk (wpAny_pyIter_list hl ?_)
     refine ⟨s.heap.objs.size,[s.heap.objs.size,l],[s.heap.objs.size],its.toArray.size,_,_,fun i=>(bs[i]?).getD false,rfl,Walks.list (A:=X.A.in1) (I.ok.hd hc) _ l (Nat.ne_of_lt hlt) its.toArray,
      ⟨⟨_,Heap.get?_push_size _ rfl,rfl,rfl⟩,hl.push _⟩,fun i v s' Q' E' hP hQ=>?_,fun h' tk hk=>?_⟩
     ·obtain ⟨b,e,rfl⟩:=hget i v (by simpa using hP)
      simp only [e,Option.getD_some] at hQ
      exact wpAny_truthy_bool hQ
     ·have e:((List.range its.toArray.size).any fun i=>(bs[i]?).getD false)=bs.any id:=by
       rw [List.size_toArray,hlen]; exact LSm.range_any bs
      rw [e]
      exact ⟨.bl _,H,I.kept (t':=tk) (LSm.kept_iter hk),rfl,k _ Z H (New.refl zh) (.bl _)⟩
   | _=>cases e
theorem tX (hc:X.calm=true):CallR X (.builtin "sum") (uz X.K gX):=by
 intro pins s σ H xs us Q I rs q
 obtain ⟨Z,as,d,zh,ra,e,k⟩:=q
 cases ra with
 | nil=>cases e
 | cons r1 r2=>
  cases r2 with
  | cons _ _=>cases r1 <;> cases e
  | nil=>
   cases r1 with
   | @lst l ys ds h1 q1=>
    have e:(iG ds).map (fun bs=>PyData.int bs.sum)=some d:=e
    cases g:iG ds with
    | none=>rw [g] at e; cases e
    | some bs=>
     rw [g] at e
     cases e
     obtain ⟨u,rfl,ru⟩:=fU rs
     cases ru
     obtain ⟨its,rv,pl,hz⟩:=I.list (SqL.same h1 zh)
     have hi:=pY q1 rv g
     obtain ⟨zs,hx⟩:=hi.allInts.items
     have hl':s.heap.IsList l (intItems zs):=hx ▸ pl.isList
     refine sum_intListG (I.ok.hd hc) hl' fun h' tk t' hk=>?_
     have e1:bs=zs.toList.map (·.1):=by
      rw [<- nums_intItems,<- hx]
      exact (show numsOf its.toArray.toList=bs from hi.numsOf).symm
     have e2:preSum (numAt zs) zs.size=bs.sum:=by
      rw [preSum_eq,List.take_of_length_le (by simp),e1]
     rw [e2]
     exact ⟨.int _,H,I.kept (t':=tk) hk,⟨t',rfl⟩,k _ Z H (New.refl zh) (.int _)⟩
   | _=>cases e
theorem Ek {st:Stmt}:SV X st Im:=fun pins s σ H D I h=>by
 obtain ⟨_,_,_,_,_,_,e,_⟩:=h
 cases e
end
end VL
set_option Elab.async false
set_option linter.all false
set_option maxRecDepth 100000
set_option maxHeartbeats 4000000
namespace VL
open PySem PySem.Spec PyProof.Rows L2
section
variable {prog:Program} {w:World} {A:Around} {s:Shared} {R:Result->Shared->Prop}
variable {I:Addr} {fp wr:List Addr} {G:Array GenState->Array GenState->Prop} {n:Nat} {P:Nat->Value->Prop} {St:Nat->Shared->Prop}
end
section
variable {prog:Program} {w:World} {A:Around} {E:Value->Shared->Prop} {s:Shared}
variable {I:Addr} {fp wr:List Addr} {G:Array GenState->Array GenState->Prop} {n:Nat} {P:Nat->Value->Prop} {St:Nat->Shared->Prop}
end
section
variable {X:Cx} {e:Expr} {p p2 pos pos2:Pos} {te:TE} {f:Dv->Option D}
end
end VL
set_option Elab.async false
set_option linter.all false
set_option maxRecDepth 100000
set_option maxHeartbeats 4000000
namespace VL
open PySem PySem.Spec PyProof.Rows L2
section
variable {prog:Program} {w:World} {A:Around} {E:Value->Shared->Prop} {s:Shared}
noncomputable def IsRv (h:Heap) (a l:Addr) (i:Int):Prop:=∃ o,h.get? a=some o/\o.cls=.type "reversed" /\ o.data=.fields #[.ref l,rawInt i]
theorem IsRv.typeIs {a l:Addr} {i:Int} (x:IsRv s.heap a l i):s.TypeIs (.ref a) "reversed":=let ⟨o,ho,hc,_⟩:=x; ⟨o,ho,hc⟩
theorem IsRv.at {h h':Heap} {a l:Addr} {i:Int} (x:IsRv h a l i) (e:∀ o,h.get? a=some o->h'.get? a=some o):IsRv h' a l i:=let ⟨o,ho,r⟩:=x; ⟨o,e _ ho,r⟩
end
noncomputable def GX:D->Option (List D)
 | .tuple xs=>some xs.reverse
 | _=>none
@[simp] theorem B5 (xs:List D):GX (.tuple xs)=some xs.reverse:=rfl
section
variable {X:Cx} {tg e:Expr} {p pos:Pos} {te:TE} {f:Dv->Option D}
end
end VL
set_option Elab.async false
set_option linter.all false
set_option maxRecDepth 100000
set_option maxHeartbeats 4000000
namespace VL
open PySem PySem.Spec PyProof.Rows L2
noncomputable def F2 (h:Heap) (e:Addr):Prop:=∃ oe vs,h.get? e=some oe/\oe.data=.fields vs/\vs[2]? = some .none
noncomputable def FlyX (base:Heap) (l:List Env) (e:Addr) (cls a0:Value) (h:Heap):Prop:=Heap.FlyingW base l e cls a0 h/\F2 h e
structure Put (l:List Env) (e T:Addr) (oe:Obj) (fl:Value) (h h':Heap):Prop where
 new:h.get? T=none
 ex:h'.get? e=some (oe.mapFields (·.setIfInBounds 1 (.ref T)))
 tb:∃ oT ts,h'.get? T=some oT/\oT.data=.fields ts/\ts[3]? = some fl
 keep:∀ b o,b≠e->b ∉ rp l->h.get? b=some o->h'.get? b=some o
 slot:∀ b o,b≠e->h.get? b=some o->∃ sl,h'.get? b=some { o with slots:=sl }
section
variable {M:Model} {A:Around} {E:Value->Shared->Prop} {s:Shared}
theorem FlyX.pop {base h:Heap} {env:Env} {l:List Env} {e:Addr} {cls a0:Value} (x:FlyX base (env::l) e cls a0 h):FlyX base l e cls a0 h:=
 let ⟨⟨k1,k2,⟨_,_,k3⟩,k4⟩,k5⟩:=x; ⟨⟨k1,k2,k3,k4⟩,k5⟩
end
end VL
set_option Elab.async false
set_option linter.all false
set_option maxRecDepth 100000
set_option maxHeartbeats 4000000
namespace VL
open PySem PySem.Spec PyProof.Rows L2
noncomputable abbrev Xf:=Dv->Option (Str×Dv)
@[simp] noncomputable def Jj:Xf:=fun _=>none
@[simp] noncomputable def GA (n:Str) (f:Dv->Option D):Xf:=fun δ=>(f δ).bind fun _=>some (n,δ)
@[simp] noncomputable def xE (f:Dv->Option Str):Xf:=fun δ=>(f δ).bind fun n=>some (n,δ)
@[simp] noncomputable def Jk (t:Dv->Option Bool) (u w:Xf):Xf:=fun δ=>(t δ).bind fun c=>if c=true then u δ else w δ
@[simp] noncomputable def Gz (s:Sf) (u:Xf):Xf:=fun δ=>(s δ).bind fun r=>match r with
 | (.nx,δ')=>u δ'
 | _=>none
@[simp] noncomputable def H9 (u1:Xf) (s:Sf) (u:Xf):Xf:=fun δ=>match u1 δ with
 | some r=>some r
 | none=>Gz s u δ
@[simp] noncomputable def Jn (fs:Dv->Option (List D)) (g:List D->Option Str):Dv->Option Str:=fun δ=>(fs δ).bind g
theorem FlyX.there {base h:Heap} {l:List Env} {e:Addr} {cls a0:Value} (x:FlyX base l e cls a0 h):∃ ob,h.get? e=some ob/\ob.cls=cls:=x.1.there
structure Thrown (P:Program) (w:World) (outer:List Env) (H:Hp) (s:Shared) (x C:Addr) (H':Hp) (s':Shared):Prop where
 os:s'.os=s.os
 bare:AllBare s'.gens
 un:Un (rp outer) [] H H' s.heap s'.heap
 hok:HOk P w H' s'.heap
 sm:Same H H'
 is:H' x=some (xC x C)
 fly:∃ B t,FlyX B outer x (.ref C) t s'.heap/\(∀ b o,H' b=some o->b≠x->∃ ob,B.get? b=some ob)/\(∀ b o,s.heap.get? b=some o->H b=none->b ∉ rp outer->B.get? b=some o)
noncomputable def Ji (P:Program) (w:World):qz:=fun outer H s E e s'=>∃ x C H',e=.ref x/\Thrown P w outer H s x C H' s'/\E (.ref C) (some x) H'
section
variable {P:Program} {w:World} {K:PySem.W.Frag} {mg:Str->Option Value} {base:Heap} {N:List Str} {qual:Str} {scope:Scope} {f:Addr} {cd:Value} {A:Around} {outer:List Env} {s:Shared} {H:Hp} {E:XK} {pins:List (Addr×Obj)} {σ:St} {H1 H2:Hp} {s1 s2:Shared} {x C:Addr}
end
end VL
set_option Elab.async false
set_option linter.all false
set_option maxRecDepth 100000
set_option maxHeartbeats 4000000
namespace VL
open PySem PySem.Spec PyProof.Rows L2
noncomputable abbrev DT:List Value:=[.type "ValueError",.type "Exception",.type "BaseException",.type "object"]
structure ExcC (K:Fg) (n:Str) (C:Addr):Prop where
 nm:PySem.W.nsIn K mainGlobals n=some (some (.ref C))
 ex:PySem.W.excIn K C DT "ValueError.__new__" = true
 ga:PySem.W.findIn K (.ref C) "__getattribute__" = some (some (.builtin "BaseException.__getattribute__"))
 gt:PySem.W.findIn K (.ref C) "__getattr__" = some none
 cl:PySem.W.findIn K (.ref C) "__class__" = some (some (.builtin "object.__class__"))
 mo:PySem.W.mroIn K C (.type "object")=some true
 be:PySem.W.mroIn K C (.type "BaseException")=some true
section
variable {K:Fg} {n:Str} {C x:Addr}
variable {prog:Program} {w:World} {A:Around} {E:Value->Shared->Prop}
open Builtin Builtin.ObjectAttr Builtin.Getset_descriptor in
end
end VL
set_option Elab.async false
set_option linter.all false
set_option maxRecDepth 100000
set_option maxHeartbeats 4000000
namespace VL
open PySem PySem.Spec PyProof.Rows L2
section
variable {K:Fg} {n:Str} {C x:Addr} {prog:Program} {w:World} {A:Around} {E:Value->Shared->Prop}
end
inductive IsX (K:Fg) (D:Str):List (Str×Bool)->Prop
 | nil:IsX K D []
 | cons {n:Str} {b:Bool} {t:List (Str×Bool)} {C dC:Addr}:ExcC K n C->PySem.W.nsIn K mainGlobals D=some (some (.ref dC))->PySem.W.kitOne K (.ref C) (.ref dC)=some b->IsX K D t->IsX K D ((n,b)::t)
inductive IsT (K:Fg) (D:String):List (Str×Bool)->Prop
 | nil:IsT K D []
 | cons {n:Str} {b:Bool} {t:List (Str×Bool)} {C:Addr}:ExcC K n C->PySem.W.kitOne K (.ref C) (.type D)=some b->IsT K D t->IsT K D ((n,b)::t)
theorem eV {n m:Str} {b c:Bool} {t:List (Str×Bool)} (h:List.lookup m ((n,b)::t)=some c):(m=n/\c=b)\/List.lookup m t=some c:=by
 rw [List.lookup_cons] at h
 split at h
 ·rename_i q; cases h; exact .inl ⟨by simpa using q,rfl⟩
 ·exact .inr h
theorem IsX.get {K:Fg} {D:Str} {t:List (Str×Bool)} (h:IsX K D t) {n:Str} {b:Bool} (e:t.lookup n=some b):∃ C dC,ExcC K n C/\PySem.W.nsIn K mainGlobals D=some (some (.ref dC))/\PySem.W.kitOne K (.ref C) (.ref dC)=some b:=by
 induction h with
 | nil=>cases e
 | cons h1 h2 h3 _ ih=>
  rcases eV e with ⟨rfl,rfl⟩ | e
  ·exact ⟨_,_,h1,h2,h3⟩
  ·exact ih e
theorem IsT.get {K:Fg} {D:String} {t:List (Str×Bool)} (h:IsT K D t) {n:Str} {b:Bool} (e:t.lookup n=some b):∃ C,ExcC K n C/\PySem.W.kitOne K (.ref C) (.type D)=some b:=by
 induction h with
 | nil=>cases e
 | cons h1 h3 _ ih=>
  rcases eV e with ⟨rfl,rfl⟩ | e
  ·exact ⟨_,h1,h3⟩
  ·exact ih e
section
variable {X:Cx} {a:Expr} {f:Dv->Option D} {p pos:Pos}
end
end VL
set_option Elab.async false
set_option linter.all false
set_option maxRecDepth 100000
set_option maxHeartbeats 4000000
namespace VL
open PySem PySem.Spec PyProof.Rows L2
inductive Flung (m:Bool) (X:Cx) (n:Str) (Z H:Hp) (s:Shared) (e:Value) (s':Shared):Prop
 | made {x C:Addr} {vs:List Value}:m=true->PySem.W.nsIn X.K mainGlobals n=some (some (.ref C))->e=.ref x->s'={ s with heap:=s'.heap }->Heap.MadeExcOf s.heap s'.heap x (.ref C) vs->Flung m X n Z H s e s'
 | thrown {x C:Addr} {H' Z':Hp}:PySem.W.nsIn X.K mainGlobals n=some (some (.ref C))->e=.ref x->Thrown X.prog X.w X.stack H s x C H' s'->New Z H Z' H'->Z' x=some (xC x C)->H x=none->Flung m X n Z H s e s'
section
variable {m:Bool} {X:Cx} {e c:Expr} {es:List Expr} {f:Dv->Option D} {fs:Dv->Option (List D)} {ft:Dv->Option Bool} {fx:Dv->Option Str} {st:Stmt} {sts body orelse:List Stmt} {s1:Sf} {u u1 u2:Xf} {pos p:Pos}
structure ExcX (K:Fg) (n:Str):Prop where
 ex:∃ C,ExcC K n C
noncomputable def IW (K:Fg) (g:List D->Option Str):Sp:=fun vs H _ E=>∃ Z as n,Same Z H/\Reps K Z vs as/\g as=some n/\∀ C x Z' H',PySem.W.nsIn K mainGlobals n=some (some (.ref C))->New Z H Z' H'->Z' x=some (xC x C)->H x=none->E (.ref C) (some x) H'
structure CalX (P:Program) (w:World) (K:PySem.W.Frag) (mg:Str->Option Value) (base:Heap) (x:Str) (k:Nat) (g:List D->Option Str) (dd:List D):Prop where
 ex:∃ (fa:Addr) (fd:FuncData) (ps:List Str) (ds:List Value) (dv:List V),FnOk P w K mg base (Ji P w) k fa fd ps (IW K g)/\mg x=some (.ref fa)/\PySem.W.keepIn K (.ref fa)=true/\Binds K fd ps ds/\Vals dv ds/\∀ Z,Reps K Z dv dd
end
section
variable {P:Program} {w:World} {K:PySem.W.Frag} {mg:Str->Option Value} {base:Heap}
end
end VL
set_option Elab.async false
set_option linter.all false
set_option maxRecDepth 100000
set_option maxHeartbeats 4000000
namespace VL
open PySem PySem.Spec PyProof.Rows L2
inductive HndL (K:Fg) (W:Addr):List Str->Prop
 | nil:HndL K W []
 | cons {n:Str} {t:List Str} {C:Addr}:ExcC K n C->PySem.W.subIn K (.ref C) (.ref W)=some true->HndL K W t->HndL K W (n::t)
theorem HndL.get {K:Fg} {W:Addr} {t:List Str} (h:HndL K W t) {n:Str} (e:t.contains n=true):∃ C,ExcC K n C/\PySem.W.subIn K (.ref C) (.ref W)=some true:=by
 induction h with
 | nil=>cases e
 | cons h1 h2 _ ih=>
  rw [List.contains_cons,Bool.or_eq_true] at e
  rcases e with e | e
  ·have:=eq_of_beq e; subst this; exact ⟨_,h1,h2⟩
  ·exact ih e
structure Hnd (K:Fg) (W:Str) (ns:List Str):Prop where
 ex:∃ wC,PySem.W.nsIn K mainGlobals W=some (some (.ref wC))/\PySem.W.excIn K wC DT "ValueError.__new__" = true/\HndL K wC ns
section
variable {X:Cx} {pins:List (Addr×Obj)} {σ:St} {H:Hp} {s:Shared}
end
theorem Inv.still {X:Cx} {pins:List (Addr×Obj)} {σ:St} {H:Hp} {s:Shared} {x C:Addr} {ob:Obj} (I:Inv X pins σ H s) (hx:H x=some (xC x C)) (ho:s.heap.get? x=some ob):Inv X pins σ (upd H x (.frz ob (xC x C))) s:=by
 have ne:∀ {b:Addr},H b=none->b≠x:=fun {b} h z=>by subst z; rw [hx] at h; cases h
 have up:∀ {b:Addr},H b=none->upd H x (.frz ob (xC x C)) b=none:=fun {b} h=>by rw [aB (ne h)]; exact h
 refine ⟨I.ok,I.os,I.bare,⟨I.base.keep,I.base.slot,fun b o e n hb=>up (I.base.free b o e n hb),I.base.there,fun b xs e=>?_,fun b o u e=>?_,fun b ps e=>?_⟩,I.loc,I.cell,up I.free,fun y c e=>up (I.freeC y c e),fun p hp=>?_,fun b o e=>?_,I.len⟩
 ·have q:=I.base.tups b xs e
  by_cases hb:b=x
  ·subst hb; rw [hx] at q; cases q
  ·rw [aB hb]; exact q
 ·have q:=I.base.frzs b o u e
  by_cases hb:b=x
  ·subst hb; rw [hx] at q; cases q
  ·rw [aB hb]; exact q
 ·obtain ⟨m,q⟩:=I.base.tbls b ps e
  by_cases hb:b=x
  ·subst hb; rw [hx] at q; cases q
  ·exact ⟨m,by rw [aB hb]; exact q⟩
 ·obtain ⟨e,n,r⟩:=I.pin p hp
  exact ⟨e,up n,r⟩
 ·have st:∀ {b':Addr} {o':HO},ObjOk X.prog X.w H s.heap b' o'->ObjOk X.prog X.w (upd H x (.frz ob (xC x C))) s.heap b' o':=fun {b' o'} q=>by
   refine q.stay (fun _ _ _ z=>z) (fun c z=>?_) fun c xs z=>?_
   ·by_cases hc:c=x
    ·subst hc; rw [hx] at z; cases z
    ·rw [aB hc]; exact z
   ·by_cases hc:c=x
    ·subst hc; rw [hx] at z; cases z
    ·rw [aB hc]; exact z
  by_cases hb:b=x
  ·subst hb
   rw [aC] at e
   cases e
   exact ⟨ho,st (I.hok b _ hx)⟩
  ·rw [aB hb] at e
   exact st (I.hok b o e)
theorem New.still {Z H Z2 H2:Hp} {x C:Addr} {ob:Obj} (n:New Z H Z2 H2) (zh:Same Z H) (hz:Z2 x=some (xC x C)) (hn:H x=none):New Z H (upd Z2 x (.frz ob (xC x C))) (upd H2 x (.frz ob (xC x C))) where
 z:=fun b o e=>by rw [aB (aX (zh b o e) hn)]; exact n.z b o e
 h:=fun b o e=>by rw [aB (aX e hn)]; exact n.h b o e
 zh:=fun b o e=>by
  by_cases hb:b=x
  ·subst hb; rw [aC] at e ⊢; exact e
  ·rw [aB hb] at e ⊢; exact n.zh b o e
 o:=fun b hb=>by
  have:b≠x:=fun z=>hb (by rw [z]; exact hn)
  rw [aB this]; exact n.o b hb
 nf:=n.nf.upd x
section
variable {X:Cx} {body suite:List Stmt} {b₀:Stmt} {b bs:Sf} {bx:Xf} {np hpos pos:Pos}
end
end VL
set_option Elab.async false
set_option linter.all false
set_option maxRecDepth 100000
set_option maxHeartbeats 4000000
namespace VL
open PySem PySem.Spec PyProof.Rows L2
noncomputable def uW:Sl->Bool
 | .own _=>true
 | _=>false
@[simp] theorem Gk (d:D):uW (.fz d)=false:=rfl
@[simp] theorem Gj:uW .un=false:=rfl
noncomputable def vN:Nat->Dv->Bool
 | _,[]=>true
 | 0,_::r=>r.all fun s=>!uW s
 | n+1,s::r=>!uW s&&vN n r
@[simp] theorem Es (n:Nat):vN n []=true:=by cases n <;> rfl
@[simp] theorem DF (s:Sl) (r:Dv):vN 0 (s::r)=r.all fun s=>!uW s:=rfl
@[simp] theorem DG (n:Nat) (s:Sl) (r:Dv):vN (n+1) (s::r)=(!uW s&&vN n r):=rfl
end VL
set_option Elab.async false
set_option linter.all false
set_option maxRecDepth 100000
set_option maxHeartbeats 4000000
namespace VL
open PySem PySem.Spec PyProof.Rows L2
@[simp] noncomputable def H0 (f:Dv->Option D) (u:Dv->Option Str):Dv->Option Str:=fun δ=>(f δ).bind fun _=>u δ
section
variable {X:Cx} {a b:Expr} {f1 f2:Dv->Option D} {pos apos:Pos}
variable {m:Bool} {e:Expr} {es:List Expr} {f:Dv->Option D} {fx:Dv->Option Str} {x1:Nat}
end
end VL
set_option Elab.async false
set_option linter.all false
set_option maxRecDepth 100000
set_option maxHeartbeats 4000000
namespace VL
open PySem PySem.Spec PyProof.Rows L2
@[simp] noncomputable def AX (i:Nat) (f:Dv->Option D):Sf:=fun δ=>(f δ).bind fun v=>(w9 v).bind fun es=>(zd δ[i]?).bind fun ds=>if ds.length+es.length<=sizeLine then some (.nx,δ.set i (.ow (ds++es))) else none
structure CalF (P:Program) (w:World) (K:PySem.W.Frag) (mg:Str->Option Value) (base:Heap) (x:Str) (k:Nat) (g:List D->Option D):Prop where
 ex:∃ (fa:Addr) (fd:FuncData) (ps:List Str),FnOk P w K mg base em k fa fd ps (gD K g)/\PySem.W.nsIn K mainGlobals x=some (some (.ref fa))/\mg x=some (.ref fa)/\PySem.W.keepIn K (.ref fa)=true/\Binds K fd ps []
structure Fnm (K:PySem.W.Frag) (mg:Str->Option Value) (x:Str):Prop where
 ex:∃ fa,PySem.W.nsIn K mainGlobals x=some (some (.ref fa))/\mg x=some (.ref fa)
section
variable {X:Cx} {e:Expr} {es:List Expr} {p pos:Pos} {fs:Dv->Option (List D)}
end
theorem rA (l:Addr) (items:Array Value) (n:Nat) (b:Addr) (items2:Array Value) (n2:Nat) (sl:Array (Option Value)) (hc0:¬(!items.isEmpty&&Builtin.List.listTooLong (items.size+items2.size))=true) (hc1:items.size<=sizeLine) (hs2:items.size+items2.size<=sizeLine+1) :
  Meets (Builtin.«list.extend» ⟨[.ref l,.ref b],[]⟩) (fun _ R s=>s.heap.get? l=some { cls:=.type "list",dict:=none,data:=.seq items n,slots:=#[] }/\s.heap.get? b=some { cls:=.type "list",dict:=none,data:=.seq items2 n2,slots:=sl }/\R (.ok (.ret Value.none)) { s with heap:=s.heap.update l (Obj.mapSeq fun x=>x++items2),toks:=s.toks }):=
 .of_wp fun prog w A R s h=>by
  obtain ⟨hp,g,d,tk,os⟩:=s; obtain ⟨hl,hb,h⟩:=h; have f1:=AutoSeq1.idx_int; have f2:=AutoSeq1.sub_tuple_tuple; have f3:=AutoSeq1.sub_list_list; have f4:=AutoSeq1.sub_tuple_list; have f5:=AutoSeq1.sub_list_tuple;
  have hz':(items++items2).size<=sizeLine+1:=by rw [Array.size_append]; exact hs2
  wp_walk using (wpAny_updateSeq hl rfl (hz:=hc1) (_hz':=hz')),AutoSeq1.wpAny_loadPart' hl,AutoSeq1.wpAny_loadPart' hb; exact ⟨_,rfl,h⟩
noncomputable def EH (K:Fg):V->List V->Hp->VK->Prop:=fun x vs H Q=>∃ l b xs zs,x=.ref l/\vs=[.ref b]/\H l=some (.lst xs)/\SqL K H b zs/\xs.length+zs.length<=sizeLine/\Q .non (upd H l (.lst (xs++zs)))
section
variable {X:Cx}
theorem zW:IH X "list.extend" (EH X.K):=by
 intro pins s σ H x vs v us Q I rx rv h
 obtain ⟨l,b,xs,zs,rfl,rfl,hH,hB,hz,q⟩:=h
 cases rx
 obtain ⟨u,rfl,ru⟩:=rv.one
 cases ru
 obtain ⟨z,its,n,r,hl,e⟩:=I.lstM hH
 obtain ⟨its2,r2,⟨o2,n2,e2,hc,hd,hs⟩,z2⟩:=I.list hB
 have hl2:=r2.length
 obtain ⟨c2,d2,dt2,sl2⟩:=o2
 dsimp only at hc hd hs
 subst hc hd hs
 have hsz:its.toArray.size+its2.toArray.size<=sizeLine:=by rw [List.size_toArray,List.size_toArray]; omega
 have hlong:¬ (!its.toArray.isEmpty&&Builtin.List.listTooLong (its.toArray.size+its2.toArray.size))=true:=by
  rw [wT hsz,Bool.and_false]
  exact Bool.false_ne_true
 refine call_meets F.slot_list_extend ⟨_,e,rfl⟩ F.entry_list_extend (F.args_list_extend_2 _ _)
  (rA l its.toArray n b its2.toArray n2 sl2 hlong (by rw [List.size_toArray]; omega) (by omega)) ⟨e,e2,?_⟩
 refine ⟨.non,_,I.lset (its':=its++its2) hH e (by simp) (r.append r2) ?_,rfl,q⟩
 rw [List.length_append]
 omega
end
section
variable {X:Cx} {e:Expr} {f:Dv->Option D} {p pos apos:Pos}
theorem yM (i:Nat) {x:Str} {cpos:Pos} (hv':EV X e f) (hN:X.N[i]? = some x:=by rfl) (hv:vt X.env.scope x:=by first | exact Or.inl rfl | exact Or.inr (Or.inl rfl) | exact Or.inr (Or.inr rfl)) (hd:(x==("__debug__":Str))=false:=by decide) (hcd:(x==("__classdict__":Str))=false:=by decide)
  (hbase:attributeBase (.Name x p) "extend" X.env (eval (.Name x p) X.env)=eval (.Name x p) X.env:=by rfl)
  (hfew:((backTo cpos (starEach [e] X.env)).all (fun x=>!x.1)&&(backToKw cpos (keywordEach [] X.env)).all (fun x=>x.1.isSome)
   && decide ([e].length+([]:List Keyword).length+(if ([]:List Keyword).isEmpty then 0 else 1)<30))=true:=by rfl)
  (hline:(apos.endLine==cpos.line)=true:=by rfl) (hs:starEach [e] X.env=(false,eval e X.env)::starEach [] X.env:=by rfl) (hplain:(backTo cpos (starEach [] X.env)).any (·.1)=false:=by rfl)
  (hsw:swapsWith (.Call (.Attribute (.Name x p) "extend" apos) [e] [] cpos) none pos.line X.env=pure false:=by rfl):SV X (.Expr (.Call (.Attribute (.Name x p) "extend" apos) [e] [] cpos) pos) (AX i f):=
 PS.imp (sI (A7 PySem.F.plainAttrs_list PySem.F.slot_list_extend PySem.F.type_list_extend zW (eG hN hv hd hcd) (cU hv' eI hs) hbase hfew hline hs hplain) hsw) fun D σ H h=>by
  obtain ⟨H₀,Z₀,Z,δ,r,hh,e,k⟩:=h
  obtain ⟨v,e1,e⟩:=bind_some e
  obtain ⟨es,e3,e⟩:=bind_some e
  obtain ⟨ds,e2,e⟩:=bind_some e
  by_cases hl:ds.length+es.length<=sizeLine
  ·rw [if_pos hl] at e
   cases e
   cases v with
   | list es'=>
    cases e3
    obtain ⟨a,xs,h1,h4,h5⟩:=jx hh e2
    refine ⟨_,h1,.inl ⟨rfl,xs,SqL.of h4⟩,H₀,Z₀,Z,δ,_,hh,e1,fun w Z1 H1 hh1 t1 r1=>?_⟩
    obtain ⟨a',xs',g1,g4,g5⟩:=jx hh1 e2
    rw [h1] at g1
    cases g1
    cases r1 with
    | lst q1 q2=>
     exact ⟨a,_,xs',_,rfl,rfl,g4,SqL.same q1 hh1.zh,by rw [g5.length,q2.length]; exact hl,k σ _ Z1 (hh1.chg (xs:=xs') (nu e2) h1 (g5.append q2)) t1⟩
   | _=>cases e3
  ·rw [if_neg hl] at e; cases e
end
theorem BlkOk.none {on:List (Str×NameKind)} {ON:List Str} {scope:Scope} {vars:List Str} (hk:scope.kind=.function) (hc:∀ y∈scope.names,y.2≠.cell) (hn:∀ y∈scope.names,y.2=.local->scope.names.lookup y.1=some .local) (hf:∀ y∈scope.names,y.2≠.free):BlkOk on ON scope vars []:=
 ⟨hk,hc,hn,fun y hy e=>absurd e (hf y hy),fun p hp=>(nomatch hp)⟩
end VL
set_option Elab.async false
set_option linter.all false
set_option maxRecDepth 100000
set_option maxHeartbeats 4000000
namespace VL
open PySem PySem.Spec PyProof.Rows L2
section
variable {X:Cx}
variable {a b:Expr} {pos:Pos} {f1 f2:Dv->Option D}
end
end VL
set_option Elab.async false
set_option linter.all false
set_option maxRecDepth 100000
set_option maxHeartbeats 4000000
namespace VL
open PySem PySem.Spec PyProof.Rows L2
structure BlkOkC (on:List (Str×NameKind)) (ON:List Str) (scope:Scope) (m:Str) (vars:List Str) (caps:List (Nat×Str)):Prop where
 kind:scope.kind=.function
 one:(scope.names.filter fun y=>y.2==NameKind.cell)=[(m,NameKind.cell)]
 names:∀ y∈scope.names,y.2=.local->scope.names.lookup y.1=some .local
 free:∀ y∈scope.names,y.2=.free->on.lookup y.1=some .cell\/on.lookup y.1=some .free
 cap:∀ p∈caps,ON[p.1]? = some p.2/\scope.names.lookup p.2=some .free
 mc:scope.names.lookup m=some .cell
section
variable {X:Cx} {pins:List (Addr×Obj)} {σ:St} {H H':Hp} {s s':Shared} {scope:Scope} {m:Str} {vars:List Str} {caps:List (Nat×Str)} {fp:List Addr} {C:Addr}
theorem BlkOkC.cells (B:BlkOkC X.env.scope.names X.N scope m vars caps) (I:Inv X pins σ H s):∀ y∈scope.names,y.2=.free->∃ c,X.env.cells.lookup y.1=some c:=fun y hy e=>I.ok.has y.1 (B.free y hy e)
end
section
variable {X:Cx} {scope:Scope} {m:Str} {vars:List Str} {caps:List (Nat×Str)} {elt tg iter:Expr} {pos:Pos} {wi:TI} {g:TG} {te:TE}
end
section
variable {X:Cx} {scope:Scope} {m:Str} {vars:List Str} {caps:List (Nat×Str)} {elt tg iter:Expr} {pos:Pos} {g:TG} {fi:Dv->Option (List D)} {fe:Dv->Option D} {bv:D->Option (List D)}
end
end VL
set_option Elab.async false
set_option linter.all false
set_option maxRecDepth 100000
set_option maxHeartbeats 4000000
namespace VL
open PySem PySem.Spec PyProof.Rows L2
noncomputable def IX (K:Fg) (g:List D->Option D):Sp:=fun vs H Q _=>∃ Z as ds,Same Z H/\Reps K Z vs as/\g as=some (.list ds)/\∀ p us Z' H',New Z H Z' H'->H' p=none->Reps K Z' us ds->Q (.ref p) (upd H' p (.lst us))
section
variable {X:Cx} {e:Expr} {es:List Expr} {p pos:Pos} {st:Stmt} {sts:List Stmt} {f:Dv->Option (List D)} {fs:Dv->Option (List D)} {s:Sf}
end
section
variable {P:Program} {w:World} {K:PySem.W.Frag} {mg:Str->Option Value} {base:Heap}
structure CalO (P:Program) (w:World) (K:PySem.W.Frag) (mg:Str->Option Value) (base:Heap) (x:Str) (k:Nat) (g:List D->Option D) (dd:List D):Prop where
 ex:∃ (fa:Addr) (fd:FuncData) (ps:List Str) (ds:List Value) (dv:List V),FnOk P w K mg base em k fa fd ps (IX K g)/\mg x=some (.ref fa)/\PySem.W.keepIn K (.ref fa)=true/\Binds K fd ps ds/\Vals dv ds/\∀ Z,Reps K Z dv dd
end
section
variable {X:Cx} {e:Expr} {es:List Expr} {p pos:Pos} {fs:Dv->Option (List D)}
end
section
variable {X:Cx} {scope:Scope} {m:Str} {vars:List Str} {caps:List (Nat×Str)} {elt tg iter:Expr} {pos:Pos} {g:TG} {fi:Dv->Option (List D)} {fe:Dv->Option D} {bv:D->Option (List D)}
end
theorem rf {α:Type}:∀ {us:List α},us.length=1->∃ a,us=[a]
 | [a],_=>⟨a,rfl⟩
theorem jK {α:Type} {us:List α} (h:us.length=2):∃ a b,us=[a,b]:=by
 cases us with
 | nil=>cases h
 | cons a r=>
  obtain ⟨b,rfl⟩:=rf (Nat.succ.inj h)
  exact ⟨a,b,rfl⟩
theorem uR {α:Type} {us:List α} (h:us.length=3):∃ a b c,us=[a,b,c]:=by
 cases us with
 | nil=>cases h
 | cons a r=>
  obtain ⟨b,c,rfl⟩:=jK (Nat.succ.inj h)
  exact ⟨a,b,c,rfl⟩
theorem Hh {α:Type} {us:List α} (h:us.length=4):∃ a b c d,us=[a,b,c,d]:=by
 cases us with
 | nil=>cases h
 | cons a r=>
  obtain ⟨b,c,d,rfl⟩:=uR (Nat.succ.inj h)
  exact ⟨a,b,c,d,rfl⟩
end VL
set_option Elab.async false
set_option linter.all false
set_option maxRecDepth 100000
set_option maxHeartbeats 4000000
namespace VL
open PySem PySem.Spec PyProof.Rows L2
section
variable {X:Cx} {e:Expr} {es:List Expr} {p p' pos:Pos} {st:Stmt} {sts body:List Stmt} {f f1 f2:Dv->Option (List D)} {s:Sf} {c:Expr} {ft:Dv->Option Bool}
end
theorem SV.sub {X:Cx} {st:Stmt} {f f':Sf} (h:SV X st f) (w:∀ δ r,f' δ = some r->f δ = some r):SV X st f':=PS.imp h fun D σ H q=>by
 obtain ⟨H₀,Z₀,Z,δ,r,hh,e,k⟩:=q
 exact ⟨H₀,Z₀,Z,δ,r,hh,w _ _ e,k⟩
end VL
set_option Elab.async false
set_option linter.all false
set_option maxRecDepth 100000
set_option maxHeartbeats 4000000
namespace VL
open PySem PySem.Spec PyProof.Rows L2
section
variable {X:Cx}
end
end VL
set_option Elab.async false
set_option linter.all false
set_option maxRecDepth 100000
set_option maxHeartbeats 4000000
namespace VL
open PySem PySem.Spec PyProof.Rows L2
noncomputable def DefIn (K:PySem.W.Frag) (x y:Str) (st:Stmt):Prop:=∃ f fd,PySem.W.nsIn K mainGlobals x=some (some (.ref f))/\FunV K y y st f fd .none/\PySem.W.keepIn K (.ref f)=true
noncomputable def aQ (x:Str) (st:Stmt) (ps:List Str):Prop:=∀ (kV doc pm:Value) (an:Option Addr) (cdv ct:Value) (us:List Value),us.length=ps.length->bindArgs (PySem.W.fnOf x x (dt st) (cq st) (ap st) .none kV doc pm an cdv ct) ⟨us,[]⟩=pure (ps.zip us)
section
variable {P:Program} {w:World} {K:PySem.W.Frag} {mg:Str->Option Value} {base h:Heap} {x y:Str} {st:Stmt} {k:Nat} {ps:List Str}
theorem DefIn.mk {f:Addr} {oc:Value} {od an:Option Addr} {osl:Array (Option Value)} {kV doc pm cdv ct:Value} (a:PySem.W.nsIn K mainGlobals x=some (some (.ref f))) (l:K.lookup f=some ⟨oc,od,.func (PySem.W.fnOf y y (dt st) (cq st) (ap st) .none kV doc pm an cdv ct),osl⟩)
  (c:PySem.W.codeIn K cdv y=true) (k:PySem.W.keepIn K (.ref f)=true):DefIn K x y st:=⟨_,_,a,tK l c k,k⟩
variable (D:DefIn K x y st) (X:K.In h) (G:h.Ns mainGlobals mg) (b:aQ y st ps)
include D X G
include b
theorem DefIn.cal {g:List VL.D->Option VL.D} (ok:∀ f fd,FunV K y y st f fd .none->FnOk P w K mg base em k f fd ps (gD K g)):Cal P w K mg base x k g []:=by
 obtain ⟨f,fd,a,F,hk⟩:=D
 exact Cal.mk0 (ok f fd F) (PySem.W.mg_of X G a) hk (F.binds b)
end
end VL
set_option Elab.async false
set_option linter.all false
set_option maxRecDepth 100000
set_option maxHeartbeats 4000000
namespace VL
open PySem PySem.Spec PyProof.Rows L2
open AutoSeq1 (wpAny_loadPart')
section
variable {X:Cx}
end
end VL
set_option Elab.async false
set_option linter.all false
set_option maxRecDepth 100000
set_option maxHeartbeats 4000000
namespace VL
open PySem PySem.Spec PyProof.Rows L2
noncomputable def Jd (z:Bool):D->D->Option D
 | .bool a,.bool b=>some (.bool (z != (a==b)))
 | _,_=>none
@[simp] theorem Fs (z a b:Bool):Jd z (.bool a) (.bool b)=some (.bool (z != (a==b))):=rfl
section
variable {X:Cx}
end
end VL
set_option Elab.async false
set_option linter.all false
set_option maxRecDepth 100000
set_option maxHeartbeats 4000000
namespace VL
open PySem PySem.Spec PyProof.Rows L2
section
variable {m:Bool} {X:Cx} {e c:Expr} {es:List Expr} {f:Dv->Option D} {fs:Dv->Option (List D)} {ft:Dv->Option Bool} {fx:Dv->Option Str} {st:Stmt} {sts body orelse:List Stmt} {s1:Sf} {u u1 u2:Xf} {pos p:Pos}
end
end VL
set_option Elab.async false
set_option linter.all false
set_option maxRecDepth 100000
namespace L2
open PySem PySem.Spec PyProof.Rows
end L2
namespace L2
open PySem PySem.Spec PyProof.Rows
section
variable (P:Program) (w:World)
end
section
variable {P:Program} {w:World} {H H':Hp} {h h':Heap} {a:Addr} {o:HO}
end
section
variable {P:Program} {w:World} {H:Hp} {h h':Heap} {x e:Addr} {o':HO}
end
section
variable {fs fs' ex ex':List Addr} {H H1 H2:Hp} {h h1 h2 h':Heap} {a x e:Addr} {o:HO}
end
end L2
namespace L2
open PySem PySem.Spec PyProof.Rows
section
variable {X:Cx} {pins:List (Addr×Obj)} {σ:List (Option V)} {H H':Hp} {s:Shared} {h':Heap}
end
end L2
namespace L2
open PySem PySem.Spec PyProof.Rows
section
variable {X:Cx}
variable {a b:Expr} {ta tb:TE} {pos:Pos}
variable {tA tB':TT} {rest:List Expr}
end
end L2
namespace L2
open PySem PySem.Spec PyProof.Rows
section
variable {X:Cx} {pins:List (Addr×Obj)} {σ:St} {H:Hp} {s:Shared} {a:Addr} {xs ys:List V}
end
section
variable {X:Cx} {pins:List (Addr×Obj)} {σ:St} {H:Hp} {s:Shared} {E:Value->Shared->Prop}
end
section
variable {X:Cx} {st:Stmt} {rest:List Stmt} {t u:TS} {e:Expr} {te:TE} {pos:Pos}
end
section
variable {X:Cx} {pos:Pos}
end
section
variable {X:Cx} {pos:Pos}
end
end L2
namespace L2
open PySem PySem.Spec PyProof.Rows
section
variable {X:Cx} {tg:Expr}
end
end L2
namespace L2
open PySem PySem.Spec PyProof.Rows
section
variable {X:Cx} {a b c:Expr} {ta tb tc:TE} {pos:Pos}
end
section
variable {X:Cx} {a b c:Expr} {ta tb tc:TE} {pos:Pos}
end
end L2
namespace L2
open PySem PySem.Spec PyProof.Rows
section
variable {prog:Program} {w:World} {A:Around} {E:Value->Shared->Prop} {s:Shared} {K:PySem.W.Frag} {x dx C f:Addr} {mA:Str->Option Value} {name:Str} {v:Value}
end
section
variable {P:Program} {w:World} {H H':Hp} {h h':Heap} {a C dx:Addr} {fs fs':List (Str×V)}
end
section
variable {X:Cx} {pins:List (Addr×Obj)} {σ:St} {H:Hp} {s:Shared} {a C dx:Addr} {fs:List (Str×V)} {f:Str} {v:V} {A:Around} {E:Value->Shared->Prop}
end
section
variable {X:Cx} {o e value:Expr} {f:Str} {pos pos' tpos:Pos} {ta tv:TE}
end
section
variable {X:Cx} {pins:List (Addr×Obj)} {σ:St} {H:Hp} {s:Shared} {A:Around} {E:Value->Shared->Prop} {Q:Value->Shared->Prop} {c:Value} {b:Bool}
end
end L2
namespace L2
open PySem PySem.Spec PyProof.Rows
section
variable {X:Cx} {e:Expr} {es:List Expr} {te:TE} {t:TA} {pos:Pos}
end
section
variable {X:Cx} {pins:List (Addr×Obj)} {σ:St} {H:Hp} {s s':Shared}
end
section
variable {X:Cx} {CX:qz} {k:Nat} {f C:Addr} {fd:FuncData} {ps:List Str} {sp:Sp} {dvs:List V} {ds:List Value} {E:XK} {x m:Str} {p pos apos:Pos} {e o:Expr} {es:List Expr} {ta:TE} {t:TA}
end
section
variable {X:Cx} {CX:qz} {k:Nat} {f C:Addr} {fd:FuncData} {ps ks:List Str} {sp:Sp} {E:XK} {x m:Str} {p pos apos kpos:Pos} {e o:Expr} {es:List Expr} {kws:List Keyword} {te ta:TE} {t tk:TA} {nm:Option Str}
variable {g:List Value->List Value->List Value} {gV:List V->List V->List V}
end
end L2
namespace L2
open PySem PySem.Spec PyProof.Rows
section
variable {X:Cx} {x:Str} {p pos:Pos} {e:Expr} {es:List Expr} {t:TA} {id T:String} {r:List V->Hp->VK->Prop}
end
end L2
namespace L2
open PySem PySem.Spec PyProof.Rows
section
variable {κ:Type} [DecidableEq κ]
noncomputable def gR (kvs:List (κ × V)) (k:κ):Option V:=(kvs.find? fun kv=>decide (kv.1=k)).map (·.2)
noncomputable def eS (kvs:List (κ × V)) (k:κ) (v:V):List (κ × V):=
 if (kvs.any fun kv=>decide (kv.1=k))=true then kvs.map (fun kv=>if kv.1=k then (kv.1,v) else kv) else kvs++[(k,v)]
noncomputable def Bl (kvs:List (κ × V)) (k:κ):List (κ × V):=kvs.filter fun kv=>decide (kv.1≠k)
theorem fV {p:κ × V} {r:List (κ × V)} {k:κ} (e:p.1=k):gR (p::r) k=some p.2:=by simp [gR,List.find?_cons,e]
theorem fW {p:κ × V} {r:List (κ × V)} {k:κ} (e:¬ p.1=k):gR (p::r) k=gR r k:=by simp [gR,List.find?_cons,e]
theorem oS (k:κ):∀ kvs:List (κ × V),(kvs.any fun kv=>decide (kv.1=k))=(gR kvs k).isSome
 | []=>rfl
 | p::r=>by
  rw [List.any_cons]
  by_cases e:p.1=k
  ·simp only [fV e,decide_eq_true e,Bool.true_or,Option.isSome_some]
  ·rw [fW e,decide_eq_false e,Bool.false_or]; exact oS k r
theorem ge (kvs:List (κ × V)) (k:κ) (v:V):(eS kvs k v).length<=kvs.length+1:=by
 unfold eS
 split
 ·rw [List.length_map]; omega
 ·rw [List.length_append,List.length_cons,List.length_nil]; omega
theorem RelO.isSome_eq {o:Option V} {u:Option Value} (r:RelO o u):o.isSome=u.isSome:=by
 cases o with
 | none=>cases u with
  | none=>rfl
  | some _=>exact (show False from r).elim
 | some _=>cases u with
  | none=>exact (show False from r).elim
  | some _=>rfl
theorem RelO.getD {o:Option V} {u:Option Value} {d:V} {d':Value} (r:RelO o u) (rd:RelV d d'):RelV (o.getD d) (u.getD d'):=by
 cases o with
 | none=>cases u with
  | none=>exact rd
  | some _=>exact (show False from r).elim
 | some _=>cases u with
  | none=>exact (show False from r).elim
  | some _=>exact r
theorem KV.val {kvs:List (κ × V)} {vs:List (κ × Value)} (r:KV kvs vs) (k:κ):RelO (gR kvs k) (valueAt vs k):=by
 unfold KV at r
 induction r with
 | nil=>exact True.intro
 | @cons p q ps qs h t ih=>
  obtain ⟨h1,h2⟩:=h
  by_cases e:p.1=k
  ·have e':q.1=k:=h1.symm.trans e
   have b:valueAt (q::qs) k=some q.2:=by simp [valueAt,List.find?_cons,e']
   rw [fV e,b]; exact h2
  ·have e':¬ q.1=k:=fun z=>e (h1.trans z)
   have b:valueAt (q::qs) k=valueAt qs k:=by simp [valueAt,List.find?_cons,e']
   rw [fW e,b]; exact ih
theorem KV.any {kvs:List (κ × V)} {vs:List (κ × Value)} (r:KV kvs vs) (k:κ):(kvs.any fun kv=>decide (kv.1=k))=vs.any fun kv=>decide (kv.1=k):=by
 unfold KV at r
 induction r with
 | nil=>rfl
 | cons h t ih=>rw [List.any_cons,List.any_cons,ih,h.1]
theorem KV.repl {kvs:List (κ × V)} {vs:List (κ × Value)} (r:KV kvs vs) (k:κ) {y:V} {u:Value} (ry:RelV y u) :
  KV (kvs.map fun kv=>if kv.1=k then (kv.1,y) else kv) (vs.map fun kv=>if kv.1=k then (kv.1,u) else kv):=by
 unfold KV at r ⊢
 induction r with
 | nil=>exact .nil
 | @cons p q ps qs h t ih=>
  rw [List.map_cons,List.map_cons]
  refine .cons ?_ ih
  obtain ⟨h1,h2⟩:=h
  by_cases e:p.1=k
  ·rw [if_pos e,if_pos (h1.symm.trans e)]; exact ⟨h1,ry⟩
  ·rw [if_neg e,if_neg (fun z=>e (h1.trans z))]; exact ⟨h1,h2⟩
theorem KV.put {kvs:List (κ × V)} {vs:List (κ × Value)} (r:KV kvs vs) (k:κ) {y:V} {u:Value} (ry:RelV y u):KV (eS kvs k y) (stored vs k u):=by
 unfold eS stored
 rw [r.any k]
 by_cases e:(vs.any fun kv=>decide (kv.1=k))=true
 ·rw [if_pos e,if_pos e]; exact r.repl k ry
 ·rw [if_neg e,if_neg e]; exact Paired.snoc r ⟨rfl,ry⟩
theorem KV.drop {kvs:List (κ × V)} {vs:List (κ × Value)} (r:KV kvs vs) (k:κ):KV (Bl kvs k) (without vs k):=by
 unfold KV at r ⊢
 unfold Bl without
 induction r with
 | nil=>exact .nil
 | @cons p q ps qs h t ih=>
  obtain ⟨h1,h2⟩:=h
  rw [List.filter_cons,List.filter_cons]
  by_cases e:p.1=k
  ·have a:¬ decide (p.1≠k)=true:=by simp [e]
   have b:¬ decide (q.1≠k)=true:=by simp [h1.symm.trans e]
   rw [if_neg a,if_neg b]; exact ih
  ·have e':¬ q.1=k:=fun z=>e (h1.trans z)
   have a:decide (p.1≠k)=true:=by simp [e]
   have b:decide (q.1≠k)=true:=by simp [e']
   rw [if_pos a,if_pos b]; exact .cons ⟨h1,h2⟩ ih
theorem KV.keys {kvs:List (κ × V)} {vs:List (κ × Value)} (r:KV kvs vs):kvs.map (·.1)=vs.map (·.1):=by
 unfold KV at r
 induction r with
 | nil=>rfl
 | cons h t ih=>rw [List.map_cons,List.map_cons,ih,h.1]
theorem KV.length {kvs:List (κ × V)} {vs:List (κ × Value)} (r:KV kvs vs):kvs.length=vs.length:=Paired.length r
end
theorem mH {P:Program} {w:World} {k:aE} {u:Value} (r:RelV (kV k) u):(aD P w).is k u=true:=by
 cases k with
 | inl i=>obtain ⟨t,e⟩:=(show ∃ t,u=Value.int i t from r); subst e; exact pT P w i t
 | inr x=>obtain ⟨t,e⟩:=(show ∃ t,u=Value.str x t from r); subst e; exact pS P w x t
theorem mI {P:Program} {w:World}:∀ {ks:List aE} {us:List Value},Vals (ks.map kV) us->ItemsAre (aD P w) ks us
 | [],_,r=>by rw [List.map_nil] at r; cases r; exact .nil
 | k::ks,_,r=>by
  rw [List.map_cons] at r
  cases r with
  | cons h t=>exact .cons (mH h) (mI t)
noncomputable abbrev KT (H:Hp):List (List aE×V)->List (List aE×Addr×Value)->Prop:=Paired fun p q=>p.1=q.1/\H q.2.1=some (.tup (p.1.map kV))/\RelV p.2 q.2.2
theorem KT.val {H:Hp} {kvs:List (List aE×V)} {xs:List (List aE×Addr×Value)} (r:KT H kvs xs) (k:List aE):RelO (gR kvs k) ((atKey xs k).map (·.2)):=by
 induction r with
 | nil=>exact True.intro
 | @cons p q ps qs h t ih=>
  obtain ⟨h1,_,h2⟩:=h
  by_cases e:p.1=k
  ·have e':q.1=k:=h1.symm.trans e
   have b:atKey (q::qs) k=some q.2:=by simp [atKey,List.find?_cons,e']
   rw [fV e,b]; exact h2
  ·have e':¬ q.1=k:=fun z=>e (h1.trans z)
   have b:atKey (q::qs) k=atKey qs k:=by simp [atKey,List.find?_cons,e']
   rw [fW e,b]; exact ih
theorem KT.repl {H:Hp} {kvs:List (List aE×V)} {xs:List (List aE×Addr×Value)} (r:KT H kvs xs) (k:List aE) {y:V} {u:Value} (ry:RelV y u) :
  KT H (kvs.map fun kv=>if kv.1=k then (kv.1,y) else kv) (xs.map (putAt k u)):=by
 induction r with
 | nil=>exact .nil
 | @cons p q ps qs h t ih=>
  rw [List.map_cons,List.map_cons]
  refine .cons ?_ ih
  obtain ⟨h1,h2,h3⟩:=h
  unfold putAt
  by_cases e:p.1=k
  ·rw [if_pos e,if_pos (h1.symm.trans e)]; exact ⟨h1,h2,ry⟩
  ·rw [if_neg e,if_neg (fun z=>e (h1.trans z))]; exact ⟨h1,h2,h3⟩
theorem KT.put {H:Hp} {kvs:List (List aE×V)} {xs:List (List aE×Addr×Value)} (r:KT H kvs xs) (k:List aE) {b:Addr} {y:V} {u:Value} (hb:H b=some (.tup (k.map kV))) (ry:RelV y u) :
  KT H (eS kvs k y) (storedH xs k b u):=by
 have e:(kvs.any fun kv=>decide (kv.1=k))=(atKey xs k).isSome:=by
  rw [oS,(r.val k).isSome_eq,Option.isSome_map]
 unfold eS storedH
 rw [e]
 by_cases q:(atKey xs k).isSome=true
 ·rw [if_pos q,if_pos q]; exact r.repl k ry
 ·rw [if_neg q,if_neg q]; exact Paired.snoc r ⟨rfl,hb,ry⟩
theorem KT.keeps {H H':Hp} {kvs:List (List aE×V)} {xs:List (List aE×Addr×Value)} (r:KT H kvs xs) (ht:∀ b ys,H b=some (.tup ys)->H' b=some (.tup ys)):KT H' kvs xs:=
 Paired.mapP r fun _ _ z=>⟨z.1,ht _ _ z.2.1,z.2.2⟩
section
variable {P:Program} {w:World} {H:Hp} {h:Heap} {a:Addr}
theorem AY {u:HO} (ok:HOk P w H h) (e:Rd H a u):ObjOk P w H h a u:=e.ok ok
theorem iL {kvs:List (aE×V)} (ok:HOk P w H h) (e:Rd H a (.dK kvs)):kvs.length<=sizeLine/\(a==sysModules)=false/\∃ vs,KV kvs vs/\h.DictOf (aD P w) a vs:=
 show ObjOk P w H h a (.dK kvs) from AY ok e
theorem FM {kvs:List (aE×V)} (ok:HOk P w H h) (e:H a=some (.dK kvs)):kvs.length<=sizeLine/\(a==sysModules)=false/\∃ vs,KV kvs vs/\h.DictOf (aD P w) a vs:=iL ok (.inl e)
theorem kU {ks:List aE} (ok:HOk P w H h) (e:H a=some (.tup (ks.map kV))):(tupleKind (aD P w)).is h ks a:=by
 obtain ⟨_,its,r,⟨o,h1,h2,n,h3⟩,_⟩:=(show ObjOk P w H h a (.tup (ks.map kV)) from ok a _ e)
 exact ⟨o,its.toArray,n,h1,h2,h3,by simpa using mI r⟩
theorem mO {kvs:List (List aE×V)} (ok:HOk P w H h) (e:Rd H a (.dT kvs)):kvs.length<=sizeLine/\(a==sysModules)=false /\
  ∃ xs,KT H kvs xs/\h.DictOfH (tupleKind (aD P w)) a xs:=by
 obtain ⟨z,y,xs,r,o,es,ep,h1,h2,h3,h4,h5⟩:=(show ObjOk P w H h a (.dT kvs) from AY ok e)
 refine ⟨z,y,xs,r,o,es,ep,h1,h2,h3,h4,fun x hx=>?_,h5⟩
 have all:∀ {l:List (List aE×V)} {m:List (List aE×Addr×Value)},KT H l m->∀ x∈m,(tupleKind (aD P w)).is h x.1 x.2.1:=by
  intro l m q
  induction q with
  | nil=>intro x hx; exact nomatch hx
  | @cons p q ps qs hq t ih=>
   intro x hx
   rcases List.mem_cons.mp hx with e | hx
   ·subst e
    exact kU ok (by rw [<- hq.1]; exact hq.2.1)
   ·exact ih x hx
 exact all r x hx
theorem FL {kvs:List (List aE×V)} (ok:HOk P w H h) (e:H a=some (.dT kvs)):kvs.length<=sizeLine/\(a==sysModules)=false /\
  ∃ xs,KT H kvs xs/\h.DictOfH (tupleKind (aD P w)) a xs:=mO ok (.inl e)
end
noncomputable def DGet (H:Hp) (a:Addr) (y:V) (r:Option V):Prop:=
 (∃ kvs k,Rd H a (.dK kvs)/\y=kV k/\r=gR kvs k)\/∃ kvs k b,Rd H a (.dT kvs)/\y=.ref b/\H b=some (.tup (k.map kV))/\r=gR kvs k
noncomputable def DPut (H:Hp) (a:Addr) (y v:V) (H':Hp):Prop:=
 (∃ kvs k,H a=some (.dK kvs)/\y=kV k/\kvs.length<sizeLine/\H'=upd H a (.dK (eS kvs k v))) \/
 ∃ kvs k b,H a=some (.dT kvs)/\y=.ref b/\H b=some (.tup (k.map kV))/\kvs.length<sizeLine/\H'=upd H a (.dT (eS kvs k v))
theorem DGet.k {H:Hp} {a:Addr} {kvs:List (aE×V)} {k:aE} (e:H a=some (.dK kvs)):DGet H a (kV k) (gR kvs k):=.inl ⟨kvs,k,.inl e,rfl,rfl⟩
theorem DGet.t {H:Hp} {a b:Addr} {kvs:List (List aE×V)} {k:List aE} (e:H a=some (.dT kvs)) (eb:H b=some (.tup (k.map kV))):DGet H a (.ref b) (gR kvs k):=.inr ⟨kvs,k,b,.inl e,rfl,eb,rfl⟩
theorem DPut.k {H:Hp} {a:Addr} {kvs:List (aE×V)} {k:aE} {v:V} (e:H a=some (.dK kvs)) (hl:kvs.length<sizeLine):DPut H a (kV k) v (upd H a (.dK (eS kvs k v))):=.inl ⟨kvs,k,e,rfl,hl,rfl⟩
theorem DPut.t {H:Hp} {a b:Addr} {kvs:List (List aE×V)} {k:List aE} {v:V} (e:H a=some (.dT kvs)) (eb:H b=some (.tup (k.map kV))) (hl:kvs.length<sizeLine) :
  DPut H a (.ref b) v (upd H a (.dT (eS kvs k v))):=.inr ⟨kvs,k,b,e,rfl,eb,hl,rfl⟩
section
variable {X:Cx} {pins:List (Addr×Obj)} {σ:St} {H:Hp} {s:Shared} {a:Addr} {y v:V} {u r:Value} {o:Option V} {A:Around} {E:Value->Shared->Prop}
theorem Inv.big (I:Inv X pins σ H s):sysModules<s.heap.objs.size:=by
 have h:mainGlobals<s.heap.objs.size:=(I.mod.glob.keeps I.bk).lt
 exact Nat.lt_trans (by decide) h
theorem vc {Q:Value->Shared->Prop} (hu:A.units+1<cLine) (I:Inv X pins σ H s) (g:DGet H a y (some v)) (ry:RelV y u) (h:∀ w' s',Inv X pins σ H s'->RelV v w'->Q w' s') :
  wpAny (model X.prog X.w) A (getItem (.ref a) u) Q E s:=by
 rcases g with ⟨kvs,k,e,ey,l⟩ | ⟨kvs,k,b,e,ey,eb,l⟩
 ·subst ey
  obtain ⟨z,hd,vs,rel,dd⟩:=iL I.hok e
  obtain ⟨w',hw,rw'⟩:=RelO.some_of (v:=v) (o:=valueAt vs k) (by rw [l]; exact rel.val k)
  exact wpAny_getItem_of (mH ry) dd.mapOf hw (h w' _ (I.tok _) rw')
 ·subst ey
  cases (show u=Value.ref b from ry)
  obtain ⟨z,hd,xs,rel,dd⟩:=mO I.hok e
  obtain ⟨w',hw,rw'⟩:=RelO.some_of (v:=v) (o:=(atKey xs k).map (·.2)) (by rw [l]; exact rel.val k)
  obtain ⟨p,hp,hp2⟩:=Option.map_eq_some_iff.mp hw
  refine wpAny_getItem_heap (tupleKind_room_in1 hu) (kU I.hok eb) dd hp ?_
  rw [hp2]
  exact h w' _ (I.tok _) rw'
theorem xS {Q:Value->Shared->Prop} (hu:A.units+1<cLine) (I:Inv X pins σ H s) (g:DGet H a y o) (ry:RelV y u) (h:∀ s',Inv X pins σ H s'->Q (.bool o.isSome) s') :
  wpAny (model X.prog X.w) A (compareOp .In u (.ref a)) Q E s:=by
 rcases g with ⟨kvs,k,e,ey,l⟩ | ⟨kvs,k,b,e,ey,eb,l⟩
 ·subst ey
  obtain ⟨z,hd,vs,rel,dd⟩:=iL I.hok e
  refine wpAny_in_of (mH ry) hd dd.mapOf ?_
  rw [<- (rel.val k).isSome_eq,<- l]
  exact h _ (I.tok _)
 ·subst ey
  cases (show u=Value.ref b from ry)
  obtain ⟨z,hd,xs,rel,dd⟩:=mO I.hok e
  refine wpAny_in_heap (tupleKind_room_in1 hu) (kU I.hok eb) hd dd ?_
  have q:=(rel.val k).isSome_eq
  rw [Option.isSome_map] at q
  rw [<- q,<- l]
  exact h _ (I.tok _)
theorem tR {h':Heap} {t':Nat} {ob:HO} (I:Inv X pins σ H s) (mu:F4 (H a)) (hs:Heap.SameBut a s.heap h') (he:∃ q,h'.get? a=some q) (new:ObjOk X.prog X.w (upd H a ob) h' a ob) :
  Inv X pins σ (upd H a ob) { s with heap:=h',toks:=t' }:=
 I.write (x:=a) (e:=a) mu (.inl rfl) (fun b q hb z=>(hs.2 b hb).trans z) he new
theorem xM {P:Program} {w:World} {H':Hp} {h':Heap} {kvs:List (aE×V)} {vs:List (aE×Value)} (z:kvs.length<=sizeLine) (hd:(a==sysModules)=false) (rel:KV kvs vs) (dd:h'.DictOf (aD P w) a vs) :
  ObjOk P w H' h' a (.dK kvs):=⟨z,hd,vs,rel,dd⟩
theorem vb {H':Hp} {Q:Unit->Shared->Prop} (hu:A.units+1<cLine) (I:Inv X pins σ H s) (g:DPut H a y v H') (ry:RelV y u) (rv:RelV v r) (h:∀ s',Inv X pins σ H' s'->Q () s') :
  wpAny (model X.prog X.w) A (setItem (.ref a) u r) Q E s:=by
 rcases g with ⟨kvs,k,e,ey,l,eH⟩ | ⟨kvs,k,b,e,ey,eb,l,eH⟩
 ·subst ey eH
  obtain ⟨z,hd,vs,rel,dd⟩:=FM I.hok e
  have hz:vs.length<=sizeLine:=by rw [<- rel.length]; exact z
  have hl:(eS kvs k v).length<=sizeLine:=by have:=ge kvs k v; omega
  refine wpAny_setItem_pairs (hsz:=hz) (mH ry) dd fun h' dd' hs=>h _ ?_
  have he:∃ q,h'.get? a=some q:=let ⟨q,_,_,hq,_⟩:=dd'; ⟨q,hq⟩
  exact tR I (by rw [e]; exact True.intro) hs he (xM hl hd (rel.put k rv) dd')
 ·subst ey eH
  cases (show u=Value.ref b from ry)
  obtain ⟨z,hd,xs,rel,dd⟩:=FL I.hok e
  have hz:xs.length<=sizeLine:=by rw [<- Paired.length rel]; exact z
  have hl:(eS kvs k v).length<=sizeLine:=by have:=ge kvs k v; omega
  refine wpAny_setItem_heap (hsz:=hz) (tupleKind_room_in1 hu) (kU I.hok eb) dd fun h' dd' hs=>h _ ?_
  obtain ⟨q,es,ep,hq,h2,h3,h4,_,h5⟩:=dd'
  refine tR I (by rw [e]; exact True.intro) hs ⟨q,hq⟩ ⟨hl,hd,_,(rel.put k eb rv).keeps fun c ys ec=>?_,q,es,ep,hq,h2,h3,h4,h5⟩
  rw [aB (Fc ec e (fun z=>nomatch z))]
  exact ec
end
section
variable {X:Cx} {pins:List (Addr×Obj)} {σ:St} {H:Hp} {s:Shared} {a:Addr} {kvs:List (aE×V)} {k:aE} {u:Value} {A:Around} {E:Value->Shared->Prop}
theorem FN {Q:Value->Shared->Prop} (I:Inv X pins σ H s) (e:Rd H a (.dK kvs)) (h:∀ t s',Inv X pins σ H s'->Q (.int kvs.length t) s'):wpAny (model X.prog X.w) A (call (.builtin "len") [.ref a]) Q E s:=by
 obtain ⟨z,hd,vs,rel,dd⟩:=iL I.hok e
 refine call_len_dict hd dd (by rw [<- rel.length]; rw [sizeLine_eq] at z; omega) ?_
 rw [<- rel.length]
 exact h _ _ (I.tok _)
end
noncomputable def DC (i:Expr):Prop:=∀ ov iv,subscripted i false ov iv=operate [ov,iv] (getItem ov iv)
theorem yP {prog:Program} {w:World} {A:Around} {E:Value->Shared->Prop} {s:Shared} {env:Env} {value slice:Expr} {pos:Pos} {T id:String} {Q:Value->Shared->Prop}
  (hl:typeLookup (.type T) "__getitem__" = pure (some (.builtin id))) (hs:DC slice)
  (h:wpAny (model prog w) A (eval value env) (fun o s₁=>wpAny (model prog w) A (eval slice env) (fun i s₂=>s₂.TypeIs o T/\wpAny (model prog w) A (getItem o i) Q E s₂) E s₁) E s) :
  wpAny (model prog w) A (eval (.Subscript value slice pos) env) Q E s:=by
 refine Subscript_ (wpAny_mono h (fun o s₁ h₁=>wpAny_mono h₁ (fun i s₂ h₂=>?_) fun _ _ x=>x) fun _ _ x=>x)
 obtain ⟨hT,h₂⟩:=h₂
 unfold subscriptTail
 refine wpAny_bind ?_
 rw [getitemInPython_of_ne hT.not_modules]
 refine wpAny_bind (wpAny_specialOf hT hl ?_)
 have fin:wpAny (model prog w) A (subscripted slice false o i) (fun r s₃=>wpAny (model prog w) A (letTemporaryGo value o r >>= fun _=>pure r) Q E s₃) E s₂:=by
  rw [hs o i]
  exact wpAny_operating (wpAny_mono h₂ (fun r s₃ h₃=>wpAny_bind (wpAny_letTemporaryGo (wpAny_pure h₃))) fun _ _ x=>x)
 first
  | exact wpAny_pure (wpAny_bind fin)
  | exact wpAny_bind (wpAny_pure (wpAny_bind fin))
  | exact wpAny_bind fin
theorem qe {X:Cx} {pins:List (Addr×Obj)} {σ:St} {H:Hp} {s:Shared} {a:Addr} {y:V} {o:Option V} (I:Inv X pins σ H s) (g:DGet H a y o):s.TypeIs (.ref a) "dict":=by
 rcases g with ⟨kvs,k,e,_,_⟩ | ⟨kvs,k,b,e,_,_,_⟩
 ·obtain ⟨_,_,vs,_,dd⟩:=iL I.hok e
  exact dd.typeIs
 ·obtain ⟨_,_,xs,_,dd⟩:=mO I.hok e
  exact dd.typeIs
noncomputable def Ed (td ty:TE):TE:=fun σ H Q=>td σ H fun x H1=>ty σ H1 fun y H2=>∃ a v,x=.ref a/\DGet H2 a y (some v)/\Q v H2
noncomputable def EB (td ty tv:TE):TS:=fun D σ H=>tv σ H fun v H1=>td σ H1 fun x H2=>ty σ H2 fun y H3=>∃ a H4,x=.ref a/\DPut H3 a y v H4/\D.nx σ H4
section
variable {X:Cx} {o i e value:Expr} {pos pos' tpos:Pos} {td ty tv:TE}
theorem zC (hu:X.A.units+1<cLine) (ho:PE X o td) (hi:PE X i ty) (hs:DC i):PE X (.Subscript o i pos) (Ed td ty):=by
 intro pins s σ H Q I h
 refine yP PySem.F.slot_dict_getitem.lookup hs (bN (ho pins s σ H _ I h) fun u s1 ⟨x,H1,I1,rx,q1⟩=>bN (hi pins s1 σ H1 _ I1 q1) fun iv s2 ⟨y,H2,I2,ry,a,v,ex,g,q2⟩=>?_)
 subst ex
 obtain rfl:u=Value.ref a:=rx
 exact ⟨qe I2 g,vc hu I2 g ry fun w' s3 I3 rw'=>⟨v,H2,I3,rw',q2⟩⟩
theorem zu (hu:X.A.units+1<cLine) (ho:PE X o td) (hi:PE X i ty) (hv:PE X value tv) (hs:swapsWith value (some (.Subscript o i pos')) pos.line X.env=pure false) :
  PS X (.Assign [.Subscript o i pos'] value pos) (EB td ty tv):=by
 intro pins s σ H D I h
 refine wpAny_Assign_Subscript (bN (hv pins s σ H _ I h) fun r s1 ⟨v,H1,I1,rv,q1⟩=>bN (ho pins s1 σ H1 _ I1 q1) fun u s2 ⟨x,H2,I2,rx,q2⟩=>bN (hi pins s2 σ H2 _ I2 q2) fun iv s3 ⟨y,H3,I3,ry,a,H4,ex,g,q3⟩=>?_) hs
 subst ex
 obtain rfl:u=Value.ref a:=rx
 exact vb hu I3 g ry rv fun s4 I4=>⟨σ,H4,I4,q3⟩
end
theorem xN {P:Program} {w:World} {H:Hp} (h:Heap) (hb:sysModules<h.objs.size):ObjOk P w H (h.push { cls:=.type "dict",data:=.dict #[] }) h.objs.size (.dK []):=
 ⟨Nat.zero_le _,beq_eq_false_iff_ne.mpr (Ne.symm (Nat.ne_of_lt hb)),[],.nil,Heap.DictOf.new h⟩
noncomputable def BD:TE:=fun _ H Q=>∀ p,H p=none->Q (.ref p) (upd H p (.dK []))
section
variable {X:Cx} {pos:Pos}
theorem wE:PE X (.Dict [] [] pos) BD:=fun pins s σ H Q I h=>
 wpAny_Dict_empty ⟨.ref s.heap.objs.size,_,I.laid (a:=s.heap.objs.size) (o:=.dK []) (t':=s.toks) (fun _ _ q=>Heap.get?_push_of_some _ q) (Nat.le_refl _) (xN s.heap I.big),rfl,h _ (I.hok.fresh (Nat.le_refl _))⟩
end
structure M1 (X:Cx) (o:Expr) (m:Str) (apos:Pos) (e:Expr) (cpos:Pos):Prop where
 base:attributeBase o m X.env (eval o X.env)=eval o X.env
 few:((backTo cpos (starEach [e] X.env)).all (fun x=>!x.1)&&(backToKw cpos (keywordEach [] X.env)).all (fun x=>x.1.isSome)
  && decide (([e]:List Expr).length+([]:List Keyword).length+(if ([]:List Keyword).isEmpty then 0 else 1)<30))=true
 line:(apos.endLine==cpos.line)=true
 trees:backTo cpos (starEach [e] X.env)=[(false,eval e X.env)]
structure M2 (X:Cx) (o:Expr) (m:Str) (apos:Pos) (e f:Expr) (cpos:Pos):Prop where
 base:attributeBase o m X.env (eval o X.env)=eval o X.env
 few:((backTo cpos (starEach [e,f] X.env)).all (fun x=>!x.1)&&(backToKw cpos (keywordEach [] X.env)).all (fun x=>x.1.isSome)
  && decide (([e,f]:List Expr).length+([]:List Keyword).length+(if ([]:List Keyword).isEmpty then 0 else 1)<30))=true
 line:(apos.endLine==cpos.line)=true
 trees:backTo cpos (starEach [e,f] X.env)=[(false,eval e X.env),(false,eval f X.env)]
noncomputable def IK (H:Hp) (a:Addr):Prop:=(∃ kvs,Rd H a (.dK kvs))\/∃ kvs,Rd H a (.dT kvs)
theorem xq {X:Cx} {pins:List (Addr×Obj)} {σ:St} {H:Hp} {s:Shared} {a:Addr} (I:Inv X pins σ H s) (d:IK H a) :
  s.TypeIs (.ref a) "dict" /\ (∀ b,Value.ref a=.ref b->∃ ob,s.heap.get? b=some ob/\ob.dict=none)/\(a==sysModules)=false:=by
 rcases d with ⟨kvs,e⟩ | ⟨kvs,e⟩
 ·obtain ⟨_,hd,vs,_,dd⟩:=iL I.hok e
  refine ⟨dd.typeIs,fun b q=>?_,hd⟩
  cases q
  obtain ⟨ob,_,_,h1,h2,_⟩:=dd
  exact ⟨ob,h1,h2.2.1⟩
 ·obtain ⟨_,hd,xs,_,dd⟩:=mO I.hok e
  refine ⟨dd.typeIs,fun b q=>?_,hd⟩
  cases q
  obtain ⟨ob,_,_,h1,h2,_⟩:=dd
  exact ⟨ob,h1,h2.2.1⟩
section
variable {X:Cx} {pins:List (Addr×Obj)} {σ:St} {H:Hp} {s:Shared} {a:Addr} {y d:V} {u r:Value} {o:Option V} {A:Around} {E:Value->Shared->Prop}
theorem Dh {Q:Value->Shared->Prop} (hu:A.units+1<cLine) (I:Inv X pins σ H s) (g:DGet H a y o) (ry:RelV y u) (rd:RelV d r) (h:∀ w' s',Inv X pins σ H s'->RelV (o.getD d) w'->Q w' s') :
  wpAny (model X.prog X.w) A (call (.builtin "dict.get") [.ref a,u,r]) Q E s:=by
 rcases g with ⟨kvs,k,e,ey,l⟩ | ⟨kvs,k,b,e,ey,eb,l⟩
 ·subst ey
  obtain ⟨z,hd,vs,rel,dd⟩:=iL I.hok e
  refine call_meetsIn PySem.F.slot_dict_get dd.typeIs PySem.F.entry_dict_get (PySem.F.args_dict_get_3 _ _ _) (meets_dict_get_default (aD X.prog X.w) a (mH ry) hd r) ⟨_,dd.mapOf,h _ _ (I.tok _) ?_⟩
  rw [l]
  exact (rel.val k).getD rd
 ·subst ey
  cases (show u=Value.ref b from ry)
  obtain ⟨z,hd,xs,rel,dd⟩:=mO I.hok e
  refine call_meetsIn PySem.F.slot_dict_get dd.typeIs PySem.F.entry_dict_get (PySem.F.args_dict_get_3 _ _ _) (meetsH_dict_get_default (tupleKind (aD X.prog X.w)) a b hd r) ⟨tupleKind_room_in1 hu,k,xs,kU I.hok eb,dd,h _ _ (I.tok _) ?_⟩
  rw [l]
  exact (rel.val k).getD rd
end
noncomputable def BE (td ty tx:TE):TE:=fun σ H Q=>td σ H fun x H1=>∃ a,x=.ref a/\IK H1 a/\ty σ H1 fun y H2=>tx σ H2 fun z H3=>∃ o,DGet H3 a y o/\Q (o.getD z) H3
section
variable {X:Cx} {o e f:Expr} {apos cpos:Pos} {td ty tx:TE}
theorem wF (hu:X.A.units+1<cLine) (ho:PE X o td) (he:PE X e ty) (hf:PE X f tx) (m:M2 X o "get" apos e f cpos):PE X (.Call (.Attribute o "get" apos) [e,f] [] cpos) (BE td ty tx):=by
 intro pins s σ H Q I h
 refine wpAny_Call_method m.base m.few m.line PySem.F.plainAttrs_dict PySem.F.slot_dict_get PySem.F.type_dict_get (bN (ho pins s σ H _ I h) fun u s1 ⟨x,H1,I1,rx,a,ex,d,q1⟩=>?_)
 subst ex
 obtain rfl:u=Value.ref a:=rx
 obtain ⟨t1,t2,_⟩:=xq I1 d
 refine ⟨t1,t2,?_⟩
 rw [m.trees]
 refine Calls.callWith_builtin rfl (Calls.evalArgs_plain (Calls.spliced_cons (bN (he pins s1 σ H1 _ I1 q1) fun iv s2 ⟨y,H2,I2,ry,q2⟩=>
  Calls.spliced_cons (bN (hf pins s2 σ H2 _ I2 q2) fun fv s3 ⟨z,H3,I3,rz,ov,g,q3⟩=>Calls.spliced_nil ?_))))
 exact Dh hu I3 g ry rz fun w' s4 I4 rw'=>⟨_,H3,I4,rw',q3⟩
end
section
variable {X:Cx} {pins:List (Addr×Obj)} {σ:St} {H:Hp} {s:Shared} {a:Addr} {kvs:List (aE×V)} {A:Around} {E:Value->Shared->Prop}
end
section
variable {X:Cx} {pins:List (Addr×Obj)} {σ:St} {H:Hp} {s:Shared} {a:Addr} {y:V} {u:Value} {A:Around} {E:Value->Shared->Prop}
end
end L2
namespace Att
open PySem PySem.W PySem.Calls PyProof.Rows
section
variable {prog:Program} {w:World} {A:Around} {E:Value->Shared->Prop} {s:Shared} {K:Frag}
end
end Att
namespace L2
open PySem PySem.Spec PyProof.Rows
end L2
namespace L2
open PySem PySem.Spec PyProof.Rows
end L2
namespace L2
open PySem PySem.Spec PyProof.Rows
section
variable {P:Program} {w:World} {K:PySem.W.Frag} {mg:Str->Option Value} {base:Heap}
end
section
variable {X:Cx}
theorem vg:CallR X (.builtin "len") (fun xs H Q=>∃ a kvs,xs=[V.ref a]/\H a=some (.dK kvs)/\Q (.int kvs.length) H):=by
 intro pins s σ H xs us Q I r h
 obtain ⟨a,kvs,rfl,ha,q⟩:=h
 obtain ⟨u,rfl,ru⟩:=fU r
 cases ru
 exact FN I (.inl ha) fun t s' I'=>⟨.int kvs.length,H,I',⟨t,rfl⟩,q⟩
end
section
variable {κ:Type} [DecidableEq κ]
end
end L2
set_option Elab.async false
set_option linter.all false
set_option maxRecDepth 100000
set_option maxHeartbeats 4000000
namespace VL
open PySem PySem.Spec PyProof.Rows L2
noncomputable def jM:D->Option aE
 | .int i=>some (.inl i)
 | .str x=>some (.inr x)
 | _=>none
@[simp] theorem xk (i:Int):jM (.int i)=some (.inl i):=rfl
noncomputable def vk:Option Sl->Option (List (aE×D))
 | some (.own (.d es))=>some es
 | _=>none
@[simp] theorem vT (es:List (aE×D)):vk (some (.od es))=some es:=rfl
noncomputable def ee (es:List (aE×D)) (k:aE):Option D:=(es.find? fun p=>decide (p.1=k)).map (·.2)
noncomputable def f6 (es:List (aE×D)) (k:aE) (d:D):List (aE×D):=if (es.any fun p=>decide (p.1=k))=true then es.map (fun p=>if p.1=k then (p.1,d) else p) else es++[(k,d)]
noncomputable def pq (i:Nat):Sf:=fun δ=>some (.nx,δ.set i (.od []))
noncomputable def nU (i:Nat) (fk fx:Dv->Option D):Dv->Option D:=fun δ=>(vk δ[i]?).bind fun es=>(fk δ).bind fun k=>(fx δ).bind fun y=>(jM k).bind fun k=>some ((ee es k).getD y)
noncomputable def eF (i:Nat) (fk fv:Dv->Option D):Sf:=fun δ=>(fv δ).bind fun v=>(vk δ[i]?).bind fun es=>(fk δ).bind fun k=>(jM k).bind fun k=>if es.length<sizeLine then some (.nx,δ.set i (.od (f6 es k v))) else none
noncomputable def kH (i:Nat):Dv->Option D:=fun δ=>(vk δ[i]?).bind fun es=>some (.int es.length)
theorem vU {o:Option Sl} {es:List (aE×D)} (h:vk o=some es):o=some (.od es):=by
 cases o with
 | none=>cases h
 | some x=>
  cases x with
  | own c=>
   cases c with
   | l ds=>cases h
   | d fs=>cases h; rfl
  | un=>cases h
  | fz d=>cases h
  | fr _=>cases h
theorem iE {K:Fg} {Z:Hp} {v:V} {d:D} {k:aE} (r:Rep K Z v d) (h:jM d=some k):v=kV k:=by
 cases d with
 | int i=>cases h; exact r.int_eq
 | str x=>cases h; exact r.str_eq
 | _=>cases h
theorem eR {K:Fg} {Z:Hp} {kvs:List (aE×V)} {es:List (aE×D)} (h:gG K Z kvs es):kvs.length=es.length:=by
 have:=congrArg List.length h.1
 rw [List.length_map,List.length_map] at this
 exact this.symm
theorem gr {K:Fg} {Z:Hp} {kv:aE×V} {kvs:List (aE×V)} {es:List (aE×D)} (h:gG K Z (kv::kvs) es):∃ d fs,es=(kv.1,d)::fs/\Rep K Z kv.2 d/\gG K Z kvs fs:=by
 obtain ⟨h1,h2⟩:=h
 cases es with
 | nil=>cases h1
 | cons e fs=>
  obtain ⟨k,d⟩:=e
  rw [List.map_cons,List.map_cons,List.cons.injEq] at h1
  cases h2 with
  | cons r q=>exact ⟨d,fs,by rw [<- h1.1],r,h1.2,q⟩
theorem pz {K:Fg} {Z:Hp} (k:aE):∀ {kvs:List (aE×V)} {es:List (aE×D)},gG K Z kvs es->(gR kvs k=none/\ee es k=none)\/∃ v d,gR kvs k=some v/\ee es k=some d/\Rep K Z v d
 | [],es,h=>by
  have:es=[]:=List.length_eq_zero_iff.mp (eR h).symm
  subst this
  exact .inl ⟨rfl,rfl⟩
 | kv::kvs,es,h=>by
  obtain ⟨d,fs,rfl,r,q⟩:=gr h
  by_cases e:kv.1=k
  ·exact .inr ⟨kv.2,d,fV e,by simp [ee,List.find?_cons,e],r⟩
  ·rw [fW e]
   have:ee ((kv.1,d)::fs) k=ee fs k:=by simp [ee,List.find?_cons,e]
   rw [this]
   exact pz k q
theorem pv {K:Fg} {Z:Hp} {kvs:List (aE×V)} {es:List (aE×D)} (h:gG K Z kvs es) (k:aE) {v:V} {d:D} (r:Rep K Z v d):gG K Z (eS kvs k v) (f6 es k d):=by
 have any:∀ {kvs:List (aE×V)} {es:List (aE×D)},gG K Z kvs es->(kvs.any fun kv=>decide (kv.1=k))=es.any fun p=>decide (p.1=k):=by
  intro kvs
  induction kvs with
  | nil=>
   intro es h
   have:es=[]:=List.length_eq_zero_iff.mp (eR h).symm
   subst this; rfl
  | cons kv kvs ih=>
   intro es h
   obtain ⟨d,fs,rfl,_,q⟩:=gr h
   rw [List.any_cons,List.any_cons,ih q]
 unfold eS f6
 rw [any h]
 by_cases a:(es.any fun p=>decide (p.1=k))=true
 ·rw [if_pos a,if_pos a]
  clear a any
  revert es
  induction kvs with
  | nil=>
   intro es h
   have:es=[]:=List.length_eq_zero_iff.mp (eR h).symm
   subst this; exact ⟨rfl,.nil⟩
  | cons kv kvs ih=>
   intro es h
   obtain ⟨d',fs,rfl,r',q⟩:=gr h
   obtain ⟨i1,i2⟩:=ih q
   by_cases e:kv.1=k
   ·rw [List.map_cons,List.map_cons,if_pos e,if_pos e]
    exact ⟨by rw [List.map_cons,List.map_cons,i1],.cons r i2⟩
   ·rw [List.map_cons,List.map_cons,if_neg e,if_neg e]
    exact ⟨by rw [List.map_cons,List.map_cons,i1],.cons r' i2⟩
 ·rw [if_neg a,if_neg a]
  refine ⟨by rw [List.map_append,List.map_append,h.1]; rfl,?_⟩
  rw [List.map_append,List.map_append]
  exact h.2.append (.cons r .nil)
theorem DU {n:Nat} (h:n+64<cLine):n+1<cLine:=by omega
section
variable {X:Cx} {e b c:Expr} {p pos tpos apos cpos:Pos} {f fk fv fx:Dv->Option D}
theorem si (i:Nat) {x:Str} {pos':Pos} (hN:X.N.Nodup) (hi:X.N[i]? = some x:=by rfl) (hx:vv X.env.scope x:=by first | exact Or.inl rfl | exact Or.inr rfl) (hs:swapsWith (.Dict [] [] p) (some (.Name x pos')) pos.line X.env=pure false:=by rfl)
  (hf:X.fn x=true\/X.env.scope.names.lookup x=some .local:=by first | exact .inl rfl | exact .inr rfl | assumption):SV X (.Assign [.Name x pos'] (.Dict [] [] p) pos) (pq i):=
 PS.imp (nI hN hi hx wE hs hf) fun D σ H h=>by
  obtain ⟨H₀,Z₀,Z,δ,r,hh,e,k⟩:=h
  cases e
  exact fun p hp=>k _ _ Z (hh.setW hp (.dct ⟨rfl,.nil⟩)) (Same.refl _)
theorem kG {K:Fg} {H₀ Z₀ Z:Hp} {δ:Dv} {σ:St} {H:Hp} (hh:Hold K H₀ Z₀ Z δ σ H) {i:Nat} {es:List (aE×D)} (h:vk δ[i]? = some es):∃ a kvs,σ[i]? = some (some (V.ref a))/\H a=some (.dK kvs)/\gG K Z kvs es:=by
 obtain ⟨a,kvs,h1,_,_,h4,h5⟩:=hh.od i es (vU h)
 exact ⟨a,kvs,h1,h4,h5⟩
theorem xI (i:Nat) {x:Str} (hu:X.A.units+1<cLine) (hb:EV X b fk) (hc:EV X c fx) (m:M2 X (.Name x p) "get" apos b c cpos) (hN:X.N[i]? = some x:=by rfl) (hv:vt X.env.scope x:=by first | exact Or.inl rfl | exact Or.inr (Or.inl rfl) | exact Or.inr (Or.inr rfl)) (hd:(x==("__debug__":Str))=false:=by decide) (hcd:(x==("__classdict__":Str))=false:=by decide) :
  EV X (.Call (.Attribute (.Name x p) "get" apos) [b,c] [] cpos) (nU i fk fx):=
 PE.imp (wF hu (eG hN hv hd hcd) hb hc m) fun σ H Q h=>by
  obtain ⟨H₀,Z₀,Z,δ,d,hh,e,k⟩:=h
  obtain ⟨es,e1,e⟩:=bind_some e
  obtain ⟨y,e2,e⟩:=bind_some e
  obtain ⟨z,e3,e⟩:=bind_some e
  obtain ⟨ky,e4,e⟩:=bind_some e
  cases e
  obtain ⟨a,kvs,h1,h4,h5⟩:=kG hh e1
  refine ⟨_,h1,a,rfl,.inl ⟨kvs,.inl h4⟩,H₀,Z₀,Z,δ,y,hh,e2,fun v Z1 H1 hh1 t1 r1=>⟨H₀,Z₀,Z1,δ,z,hh1,e3,fun u Z2 H2 hh2 t2 r2=>?_⟩⟩
  obtain ⟨a',kvs',g1,g4,g5⟩:=kG hh2 e1
  rw [h1] at g1
  cases g1
  obtain rfl:=iE r1 e4
  rcases pz ky g5 with ⟨q,q'⟩ | ⟨w,d',q1,q2,rw'⟩
  ·refine ⟨none,q ▸ DGet.k g4,k u Z2 H2 hh2 (t1.trans t2) ?_⟩
   rw [q']; exact r2
  ·refine ⟨some w,q1 ▸ DGet.k g4,k w Z2 H2 hh2 (t1.trans t2) ?_⟩
   rw [q2]; exact rw'
theorem nj (i:Nat) {x:Str} (hu:X.A.units+1<cLine) (hb:EV X b fk) (hv':EV X e fv) (hN:X.N[i]? = some x:=by rfl) (hv:vt X.env.scope x:=by first | exact Or.inl rfl | exact Or.inr (Or.inl rfl) | exact Or.inr (Or.inr rfl)) (hd:(x==("__debug__":Str))=false:=by decide) (hcd:(x==("__classdict__":Str))=false:=by decide)
  (hs:swapsWith e (some (.Subscript (.Name x p) b tpos)) pos.line X.env=pure false:=by rfl):SV X (.Assign [.Subscript (.Name x p) b tpos] e pos) (eF i fk fv):=
 PS.imp (zu hu (eG hN hv hd hcd) hb hv' hs) fun D σ H h=>by
  obtain ⟨H₀,Z₀,Z,δ,r,hh,e,k⟩:=h
  obtain ⟨v,e1,e⟩:=bind_some e
  obtain ⟨es,e2,e⟩:=bind_some e
  obtain ⟨y,e3,e⟩:=bind_some e
  obtain ⟨ky,e4,e⟩:=bind_some e
  obtain ⟨hl,e5⟩:=ce e
  cases e5
  refine ⟨H₀,Z₀,Z,δ,v,hh,e1,fun w Z1 H1 hh1 t1 r1=>?_⟩
  obtain ⟨a,kvs,h1,h4,h5⟩:=kG hh1 e2
  refine ⟨_,h1,H₀,Z₀,Z1,δ,y,hh1,e3,fun u Z2 H2 hh2 t2 r2=>?_⟩
  obtain ⟨a',kvs',g1,g4,g5⟩:=kG hh2 e2
  rw [h1] at g1
  cases g1
  obtain rfl:=iE r2 e4
  exact ⟨a,_,rfl,DPut.k g4 (by rw [eR g5]; exact hl),k σ _ Z2 (hh2.chgW (vU e2) h1 (.dct (pv g5 ky (r1.same t2)))) (t1.trans t2)⟩
theorem tP (i:Nat) {x:Str} {p2:Pos} (hg:Gl X "len") (hm:X.mg "len" = none) (hN:X.N[i]? = some x:=by rfl) (hv:vt X.env.scope x:=by first | exact Or.inl rfl | exact Or.inr (Or.inl rfl) | exact Or.inr (Or.inr rfl)) (hd:(x==("__debug__":Str))=false:=by decide) (hcd:(x==("__classdict__":Str))=false:=by decide)
  (he:starEach [.Name x p2] X.env=(false,eval (.Name x p2) X.env)::starEach [] X.env:=by rfl) (hpl:(backTo pos (starEach [] X.env)).any (·.1)=false:=by rfl):EV X (.Call (.Name "len" p) [.Name x p2] [] pos) (kH i):=
 PE.imp (f7 vg hg hm PySem.boot_len (cU (eG hN hv hd hcd) eI he) (by decide) (by decide) he hpl) fun σ H Q h=>by
  obtain ⟨H₀,Z₀,Z,δ,d,hh,e,k⟩:=h
  obtain ⟨es,e1,e⟩:=bind_some e
  cases e
  obtain ⟨a,kvs,h1,h4,h5⟩:=kG hh e1
  exact ⟨_,h1,a,kvs,rfl,h4,k _ Z H hh (Same.refl _) (by rw [eR h5]; exact .int _)⟩
end
end VL
set_option Elab.async false
set_option linter.all false
set_option maxRecDepth 100000
set_option maxHeartbeats 4000000
namespace VL
open PySem PySem.Spec PyProof.Rows L2
noncomputable def rk (x:Int):List Int->List Int
 | []=>[x]
 | y::r=>if x<=y then x::y::r else y::rk x r
noncomputable def br:List Int->List Int
 | []=>[]
 | x::r=>rk x (br r)
theorem jm (x:Int):∀ l:List Int,(rk x l).Perm (x::l)
 | []=>.refl _
 | y::r=>by
  unfold rk
  split
  ·exact .refl _
  ·exact ((jm x r).cons y).trans (.swap x y r)
theorem dD:∀ l:List Int,(br l).Perm l
 | []=>.refl _
 | x::r=>(jm x _).trans ((dD r).cons x)
theorem tF (x:Int):∀ l:List Int,l.Pairwise (· <= ·)->(rk x l).Pairwise (· <= ·)
 | [],_=>by simp [rk]
 | y::r,h=>by
  obtain ⟨h1,h2⟩:=List.pairwise_cons.mp h
  unfold rk
  split
  ·rename_i hx
   exact List.pairwise_cons.mpr ⟨fun z hz=>by rcases List.mem_cons.mp hz with rfl | hz; exact hx; exact Int.le_trans hx (h1 z hz),h⟩
  ·rename_i hx
   refine List.pairwise_cons.mpr ⟨fun z hz=>?_,tF x r h2⟩
   rcases List.mem_cons.mp ((jm x r).mem_iff.mp hz) with rfl | hz
   ·omega
   ·exact h1 z hz
theorem jk:∀ l:List Int,(br l).Pairwise (· <= ·)
 | []=>.nil
 | x::r=>tF x _ (jk r)
theorem kg:∀ {a b:List Int},a.Perm b->a.Pairwise (· <= ·)->b.Pairwise (· <= ·)->a=b
 | [],b,p,_,_=>(List.nil_perm.mp p).symm
 | x::a,b,p,ha,hb=>by
  cases b with
  | nil=>exact absurd (List.perm_nil.mp p) (by simp)
  | cons y b=>
   obtain ⟨ha1,ha2⟩:=List.pairwise_cons.mp ha
   obtain ⟨hb1,hb2⟩:=List.pairwise_cons.mp hb
   have e:x=y:=by
    have h1:x∈y::b:=p.mem_iff.mp List.mem_cons_self
    have h2:y∈x::a:=p.mem_iff.mpr List.mem_cons_self
    rcases List.mem_cons.mp h1 with h1 | h1
    ·exact h1
    ·rcases List.mem_cons.mp h2 with h2 | h2
     ·exact h2.symm
     ·exact Int.le_antisymm (ha1 y h2) (hb1 x h1)
   subst e
   rw [kg (List.perm_cons x |>.mp p) ha2 hb2]
theorem jl {a b:List Int} (p:a.Perm b) (h:a.Pairwise (· <= ·)):a=br b:=kg (p.trans (dD b).symm) h (jk b)
noncomputable def Fk:aE->Option Int
 | .inl i=>some i
 | .inr _=>none
noncomputable def gL:List (aE×D)->Option (List Int)
 | []=>some []
 | p::r=>(Fk p.1).bind fun i=>(gL r).bind fun l=>some (i::l)
noncomputable def jg (i:Nat):Dv->Option D:=fun δ=>(vk δ[i]?).bind fun es=>(gL es).bind fun l=>if l.length<64 then some (.list ((br l).map .int)) else none
noncomputable def jA:D->Option D
 | .int j=>if j<=16777216 /\ -4611686018427387904<=j then some (.list (jb 0 j.toNat)) else none
 | _=>none
theorem gg:∀ {es:List (aE×D)} {l:List Int},gL es=some l->es.map (·.1)=l.map Sum.inl
 | [],_,h=>by cases h; rfl
 | (.inl i,d)::r,l,h=>by
  obtain ⟨m,hm,e⟩:=bind_some h
  cases hm
  obtain ⟨l',h',e⟩:=bind_some e
  cases e
  rw [List.map_cons,gg h']; rfl
 | (.inr x,d)::r,l,h=>by cases h
theorem tz {P:Program} {w:World}:∀ {acc:List Value} {kvs:List (aE×Value)} {l:List Int},acc.length=kvs.length->(∀ (j:Nat) (v:Value),acc[j]? = some v->∃ k x,kvs[j]? = some (k,x)/\(aD P w).is k v=true)->kvs.map (·.1)=l.map Sum.inl->IntsAre acc l
 | [],kvs,l,h1,_,h3=>by
  have:kvs=[]:=List.length_eq_zero_iff.mp h1.symm
  subst this
  have:l=[]:=by simpa using h3.symm
  subst this; exact .nil
 | v::acc,kv::kvs,l,h1,h2,h3=>by
  cases l with
  | nil=>cases h3
  | cons i l=>
   rw [List.map_cons,List.map_cons,List.cons.injEq] at h3
   obtain ⟨k,x,e,hk⟩:=h2 0 v rfl
   cases e
   have hk':jB k v=true:=hk
   have h3':k=Sum.inl i:=h3.1
   subst h3'
   rcases aZ hk' with ⟨i',t,e1,rfl⟩ | ⟨y,t,e1,rfl⟩
   ·cases e1
    exact .cons i t (tz (P:=P) (w:=w) (by simpa using h1) (fun j v e=>h2 (j+1) v e) h3.2)
   ·cases e1
theorem db:∀ {out:List Value} {l:List Int},IntsAre out l->Vals (l.map V.int) out
 | _,_,.nil=>.nil
 | _,_,.cons n t r=>.cons ⟨t,rfl⟩ (db r)
theorem n6 {κ:Type}:∀ {kvs:List (κ × V)} {vs:List (κ × Value)},KV kvs vs->vs.map (·.1)=kvs.map (·.1)
 | _,_,.nil=>rfl
 | _,_,.cons r q=>by rw [List.map_cons,List.map_cons,n6 q,r.1]
theorem bG {h:Heap} {a b:Addr} {f:Obj->Obj} {o:Obj} (hab:b≠a) (e:h.get? b=some o):(h.update a f).get? b=some o:=(Heap.get?_update_other _ _ (Ne.symm hab)).trans e
theorem yk {acc:Array Value} {n:Nat} (h:ItemsOf (fun i v=>∃ t,v=.int ((0:Int)+i*1) t) acc n):Vals ((List.range n).map fun k=>V.int (k:Nat)) acc.toList:=by
 obtain ⟨h1,h2⟩:=h
 subst h1
 have key:∀ (l:List Value) (m:Nat),(∀ (j:Nat) (v:Value),l[j]? = some v->∃ t,v=Value.int ((m+j:Nat):Int) t)->Vals ((List.range' m l.length).map fun k=>V.int (k:Nat)) l:=by
  intro l
  induction l with
  | nil=>intro m _; exact .nil
  | cons v l ih=>
   intro m h
   obtain ⟨t,rfl⟩:=h 0 v rfl
   rw [List.length_cons,List.range'_succ]
   exact .cons ⟨t,rfl⟩ (ih (m+1) fun j v e=>by obtain ⟨t,q⟩:=h (j+1) v e; exact ⟨t,by rw [q]; congr 2; omega⟩)
 have:=key acc.toList 0 fun j v e=>by
  obtain ⟨t,q⟩:=h2 j v (by rw [<- Array.getElem?_toList]; exact e)
  exact ⟨t,by rw [q]; congr 1; omega⟩
 rwa [Array.length_toList,<- List.range_eq_range'] at this
section
variable {X:Cx}
theorem iP (hc:X.calm=true):CallR X (.builtin "sorted") (fun xs H Q=>∃ a kvs ns,xs=[V.ref a]/\H a=some (.dK kvs)/\kvs.map (·.1)=ns.map Sum.inl/\ns.length<64/\∀ l,H l=none->Q (.ref l) (upd H l (.lst ((br ns).map V.int)))):=by
 intro pins s σ H xs us Q I r h
 obtain ⟨a,kvs,ns,rfl,ha,hk,h64,q⟩:=h
 obtain ⟨u,rfl,ru⟩:=fU r
 cases ru
 obtain ⟨z,hd,vs,rel,dd⟩:=iL I.hok (.inl ha)
 obtain ⟨ep,dat⟩:=dd.dictAt
 have hln:vs.length=ns.length:=by
  have:=congrArg List.length hk
  simp only [List.length_map] at this
  rw [<- rel.length,this]
 refine Calls.call_function_entry kind_sorted plain_sorted entry_sorted (args_sorted1 _) ?_
 unfold Builtin.«sorted»
 refine wpAny_bind (m:=checkCount "sorted" 1 1 _) (wpAny_pure ?_)
 refine wpAny_bind (PySem.W.kdu_collect (A:=X.A.in1) (PySem.W.kdl_dict (knd:=aD X.prog X.w) (kvs:=vs) (ep:=ep) hd) (I.ok.hd hc) dat (by rw [hln,sizeLine_eq]; omega) fun h' tk acc hk' hacc=>?_)
 have hal:acc.toList.length=vs.length:=by rw [Array.length_toList]; exact hacc.1
 have hI:IntsAre acc.toList ns:=tz (P:=X.prog) (w:=X.w) hal (fun j v e=>hacc.2 j v (by rw [<- Array.getElem?_toList]; exact e)) (by rw [n6 rel]; exact hk)
 refine wpAny_bind (wpAny_newList ?_ (by rw [hal,hln,sizeLine_eq]; omega))
 have hoL:(h'.push (seqObj "list" acc.toList.toArray 0)).get? h'.objs.size=some (seqObj "list" acc.toList.toArray 0):=Heap.get?_push_size _ rfl
 refine wpAny_bind (wpAny_holding (wpAny_call_entry slot_list_sort ⟨_,hoL,rfl⟩ entry_list_sort (list_sort_tree hoL hI (by rw [hal,hln]; exact h64) fun out ns' a1 a2 a3=>⟨_,rfl,?_⟩) (args_list_sort _)))
 refine wpAny_pure ⟨_,rfl,?_⟩
 have e:=jl a2 a3
 subst e
 have I1:Inv X pins σ H { s with heap:=h',toks:=tk }:=I.kept hk'
 have kp:∀ b o,h'.get? b=some o->(sortedHeap (h'.push (seqObj "list" acc.toList.toArray 0)) h'.objs.size acc.toList out).get? b=some o:=fun b o eo=>by
  have hb:b≠h'.objs.size:=Nat.ne_of_lt (Heap.lt_size eo)
  exact bG hb (Heap.get?_push_of_some _ (Heap.get?_push_of_some _ (bG hb (Heap.get?_push_of_some _ eo))))
 have hlen:out.toList.length=ns.length:=by rw [(db a1).length.symm,List.length_map,a2.length_eq]
 obtain ⟨e1,ho1⟩:∃ e1,((h'.push (seqObj "list" acc.toList.toArray 0)).update h'.objs.size (Obj.mapSeq fun _=>#[])).get? h'.objs.size=some (seqObj "list" #[] e1):=⟨_,get?_update_seq hoL (fun _=>#[])⟩
 have ho2:=Heap.get?_push_of_some (seqObj "list" #[] 0) (Heap.get?_push_of_some (seqObj "tuple" acc.toList.toArray 0) ho1)
 have ho3:=get?_update_seq ho2 (fun _=>out)
 have L:=I1.laid (h':=sortedHeap (h'.push (seqObj "list" acc.toList.toArray 0)) h'.objs.size acc.toList out) (a:=h'.objs.size) (o:=.lst ((br ns).map V.int)) (t':=tk) kp (Nat.le_refl _)
  (show ObjOk X.prog X.w _ _ _ (.lst ((br ns).map V.int)) from ⟨by rw [List.length_map,(dD ns).length_eq,sizeLine_eq]; omega,out.toList,_,db a1,by rw [Array.toArray_toList]; exact ho3⟩)
 exact ⟨.ref h'.objs.size,_,L,rfl,q _ (I1.hok.fresh (Nat.le_refl _))⟩
variable {e:Expr} {p p2 pos pos2:Pos} {te:TE} {f:Dv->Option D}
theorem xF (i:Nat) {x:Str} (hg:Gl X "sorted") (hm:X.mg "sorted" = none) (hc:X.calm=true:=by rfl) (hN:X.N[i]? = some x:=by rfl) (hv:vt X.env.scope x:=by first | exact Or.inl rfl | exact Or.inr (Or.inl rfl) | exact Or.inr (Or.inr rfl)) (hd:(x==("__debug__":Str))=false:=by decide) (hcd:(x==("__classdict__":Str))=false:=by decide)
  (he:starEach [.Name x p2] X.env=(false,eval (.Name x p2) X.env)::starEach [] X.env:=by rfl) (hpl:(backTo pos (starEach [] X.env)).any (·.1)=false:=by rfl):EV X (.Call (.Name "sorted" p) [.Name x p2] [] pos) (jg i):=
 PE.imp (f7 (iP hc) hg hm (by decide +kernel) (cU (eG hN hv hd hcd) eI he) (by decide) (by decide) he hpl) fun σ H Q h=>by
  obtain ⟨H₀,Z₀,Z,δ,d,hh,e,k⟩:=h
  obtain ⟨es,e1,e⟩:=bind_some e
  obtain ⟨l,e2,e⟩:=bind_some e
  obtain ⟨h64,e⟩:=ce e
  cases e
  obtain ⟨a,kvs,h1,h4,h5⟩:=kG hh e1
  refine ⟨_,h1,a,kvs,l,rfl,h4,by rw [<- h5.1]; exact gg e2,h64,fun l' hl=>?_⟩
  have n:=New.add hh.zh hl (.lst ((br l).map V.int))
  exact k _ _ _ (hh.new n) n.z (.lst (SqL.of aC) (Reps.ints _))
noncomputable def Eb (te:TE):TE:=fun σ H Q=>te σ H fun v H1=>∃ j:Int,[v]=[V.int j]/\j<=16777216 /\ -4611686018427387904<=j/\∀ l,H1 l=none->Q (.ref l) (upd H1 l (.lst ((List.range j.toNat).map fun k=>V.int (k:Nat))))
theorem zB (hc:X.calm=true) (hg:Gl X "list") (hm:X.mg "list" = none) (hg':Gl X "range") (hm':X.mg "range" = none) (ha:PE X e te)
  (he:starEach [.Call (.Name "range" p2) [e] [] pos2] X.env=(false,eval (.Call (.Name "range" p2) [e] [] pos2) X.env)::starEach [] X.env:=by rfl)
  (he2:starEach [e] X.env=(false,eval e X.env)::starEach [] X.env:=by rfl) (hpl:(backTo pos (starEach [] X.env)).any (·.1)=false:=by rfl) (hpl2:(backTo pos2 (starEach [] X.env)).any (·.1)=false:=by rfl) :
  PE X (.Call (.Name "list" p) [.Call (.Name "range" p2) [e] [] pos2] [] pos) (Eb te):=by
 intro pins s σ H Q I h
 refine wpAny_Call_Name_kw (fG I hg hm (u:=.type "list") (by decide +kernel) ?_ (by decide) (by decide))
 refine PyProof.Rows.callWith_type1 ?_ he hpl
 rw [he]
 show wpAny _ _ (spliced ((false,eval _ X.env)::backTo pos (starEach [] X.env))) _ _ s
 refine Calls.spliced_cons ?_
 refine wpAny_Call_Name_kw (fG I hg' hm' (u:=.type "range") (by decide +kernel) ?_ (by decide) (by decide))
 refine PyProof.Rows.callWith_type1 (bN (cU ha eI he2 pos2 pins s σ H (fun xs H1=>∃ j:Int,xs=[V.int j]/\j<=16777216 /\ -4611686018427387904<=j/\∀ l,H1 l=none->Q (.ref l) (upd H1 l (.lst ((List.range j.toNat).map fun k=>V.int (k:Nat))))) I (by exact h)) fun us s1 ⟨vs,H1,I1,r1,q1⟩=>?_) he2 hpl2
 obtain ⟨j,e1,h1,h2,q⟩:=q1
 subst e1
 obtain ⟨u,rfl,rx⟩:=fU r1
 obtain ⟨t,rfl⟩:=rx
 refine call_range_1 ?_
 refine Calls.spliced_nil ?_
 refine call_list_range (I1.ok.hd hc) (IsRange.new ..) (small_one (by omega) (by omega) (by omega) (by omega)) (n:=j.toNat) (by rw [rangeSize_one]; split <;> omega) (by omega) fun h' tk acc c hk hS hacc=>?_
 have hal:=yk hacc
 have L:=I1.laid (h':=h') (a:=(s1.heap.push { cls:=.type "range",data:=.fields #[.int 0 s1.toks,.int j t,.int 1 (s1.toks+1)] }).objs.size) (o:=.lst ((List.range j.toNat).map fun k=>V.int (k:Nat))) (t':=tk) (fun b o eo=>hk b o (Heap.get?_push_of_some _ eo)) (by rw [Heap.size_push]; exact Nat.le_succ _)
  (show ObjOk X.prog X.w _ _ _ (.lst ((List.range j.toNat).map fun k=>V.int (k:Nat))) from ⟨by rw [List.length_map,List.length_range,sizeLine_eq]; omega,acc.toList,_,hal,by rw [Array.toArray_toList]; exact hS⟩)
 exact ⟨.ref _,_,L,rfl,q _ (I1.hok.fresh (by rw [Heap.size_push]; exact Nat.le_succ _))⟩
theorem An (hg:Gl X "list") (hm:X.mg "list" = none) (hg':Gl X "range") (hm':X.mg "range" = none) (ha:EV X e f) (hc:X.calm=true:=by rfl)
  (he:starEach [.Call (.Name "range" p2) [e] [] pos2] X.env=(false,eval (.Call (.Name "range" p2) [e] [] pos2) X.env)::starEach [] X.env:=by rfl)
  (he2:starEach [e] X.env=(false,eval e X.env)::starEach [] X.env:=by rfl) (hpl:(backTo pos (starEach [] X.env)).any (·.1)=false:=by rfl) (hpl2:(backTo pos2 (starEach [] X.env)).any (·.1)=false:=by rfl) :
  EV X (.Call (.Name "list" p) [.Call (.Name "range" p2) [e] [] pos2] [] pos) (o1 f jA):=
 PE.imp (zB hc hg hm hg' hm' ha he he2 hpl hpl2) fun σ H Q h=>by
  obtain ⟨H₀,Z₀,Z,δ,d,hh,e,k⟩:=h
  obtain ⟨d1,e1,e⟩:=bind_some e
  refine ⟨H₀,Z₀,Z,δ,d1,hh,e1,fun v Z1 H1 hh1 t1 r1=>?_⟩
  cases d1 with
  | int j=>
   obtain ⟨hj,e⟩:=ce e
   cases e
   refine ⟨j,by rw [r1.int_eq],hj.1,hj.2,fun l hl=>?_⟩
   have n:=New.add hh1.zh hl (.lst ((List.range j.toNat).map fun k=>V.int (k:Nat)))
   refine k _ _ _ (hh1.new n) (t1.trans n.z) (.lst (SqL.of aC) ?_)
   have:=Reps.ints (K:=X.K) (Z:=upd Z1 l (.lst ((List.range j.toNat).map fun k=>V.int (k:Nat)))) ((List.range j.toNat).map fun k=>((k:Nat):Int))
   simpa [jb,List.map_map,Function.comp_def] using this
  | _=>cases e
end
end VL
set_option Elab.async false
set_option linter.all false
set_option maxRecDepth 100000
set_option maxHeartbeats 4000000
namespace VL
open PySem PySem.Spec PyProof.Rows L2
section
variable {prog:Program} {w:World} {A:Around} {E:Value->Shared->Prop} {s:Shared}
structure ZG (xs ys:Array Value) (lo:Addr) (h:Heap) (as:List Addr):Prop where
 above:∀ a∈as,lo<=a
 rise:as.Pairwise (· < ·)
 pairs:∀ (j:Nat) (a:Addr),as[j]? = some a->∃ x y,xs[j]? = some x/\ys[j]? = some y/\IsPair h a x y
end
end VL
set_option Elab.async false
set_option linter.all false
set_option maxRecDepth 100000
set_option maxHeartbeats 4000000
namespace VL
open PySem PySem.Spec PyProof.Rows L2
noncomputable def DP:List D->Option D
 | [.list a,.list b]=>some (.list (List.zipWith (fun x y=>.tuple [x,y]) a b))
 | _=>none
@[simp] noncomputable def Jo (fs:Dv->Option (List D)) (g:List D->Option D):Dv->Option D:=fun δ=>(fs δ).bind g
@[simp] theorem F5 (a b:List D):DP [.list a,.list b]=some (.list (List.zipWith (fun x y=>.tuple [x,y]) a b)):=rfl
section
variable {prog:Program} {w:World} {A:Around} {s:Shared} {R:Result->Shared->Prop} {z TI TO i1 i2 l1 l2 S lo:Addr} {xs ys:Array Value}
end
section
variable {prog:Program} {w:World} {A:Around} {E:Value->Shared->Prop} {s:Shared} {z TI TO i1 i2 l1 l2:Addr} {xs ys:Array Value}
end
theorem uY {X:Cx} {pins:List (Addr×Obj)} {σ:St} {H H':Hp} {s:Shared} {h':Heap} {t':Nat} (I:Inv X pins σ H s) (k:∀ b u,s.heap.get? b=some u->h'.get? b=some u) (ext:∀ b,H b≠none->H' b=H b)
  (new:∀ b o,H b=none->H' b=some o->s.heap.objs.size<=b/\ObjOk X.prog X.w H' h' b o):Inv X pins σ H' { s with heap:=h',toks:=t' }:=by
 have e':∀ {b:Addr} {u:HO},H b=some u->H' b=some u:=fun {b u} q=>by rw [ext b (by rw [q]; simp),q]
 refine I.un ⟨fun b u q _ _ _=>k b u q,fun b u q _ _ _=>⟨u.slots,k b u q⟩,fun b u q n _=>?_,fun b u q _=>⟨u,k b u q⟩,fun b xs q=>e' q,fun b u xs q=>e' q,fun b ps q=>⟨#[],by rw [e' q]; simp⟩⟩ fun b u e=>?_
 ·cases q':H' b with
  | none=>rfl
  | some o=>exact absurd (Heap.lt_size q) (Nat.not_lt.mpr (new b o n q').1)
 ·by_cases n:H b=none
  ·exact (new b u n e).2
  ·cases q:H b with
   | none=>exact absurd q n
   | some u'=>
    have:=e' q
    rw [e] at this
    cases this
    exact (I.hok b u q).stay (fun c v _ q=>k c v q) (fun c q=>e' q) fun c xs q=>e' q
noncomputable def uD:List Addr->List (List V)->Addr->Option HO
 | a::as,t::ts,b=>if b=a then some (.tup t) else uD as ts b
 | _,_,_=>none
theorem mx:∀ {as:List Addr} {ts:List (List V)} {b:Addr} {o:HO},uD as ts b=some o->∃ (j:Nat) (t:List V),as[j]? = some b/\ts[j]? = some t/\o=.tup t
 | [],_,_,_,h=>by cases h
 | _::_,[],_,_,h=>by cases h
 | a::as,t::ts,b,o,h=>by
  unfold uD at h
  split at h
  ·rename_i e
   cases h
   exact ⟨0,t,by rw [e]; rfl,rfl,rfl⟩
  ·obtain ⟨j,t',h1,h2,h3⟩:=mx h
   exact ⟨j+1,t',h1,h2,h3⟩
theorem pF:∀ {as:List Addr} {ts:List (List V)} {j:Nat} {a:Addr} {t:List V},as.Pairwise (· < ·)->as[j]? = some a->ts[j]? = some t->uD as ts a=some (.tup t)
 | [],_,_,_,_,_,h,_=>by simp at h
 | _::_,[],_,_,_,_,_,h=>by simp at h
 | a::as,t::ts,0,_,_,_,h1,h2=>by cases h1; cases h2; exact if_pos rfl
 | a::as,t::ts,j+1,b,u,h,h1,h2=>by
  obtain ⟨g1,g2⟩:=List.pairwise_cons.mp h
  have hb:=g1 b (List.mem_of_getElem? (by simpa using h1))
  unfold uD
  rw [if_neg (Nat.ne_of_gt hb)]
  exact pF g2 (by simpa using h1) (by simpa using h2)
section
variable {X:Cx} {e1 e2:Expr} {p p2 pos pos2:Pos} {ta:TA} {fs:Dv->Option (List D)}
noncomputable def DD:Option HO->Option HO
 | some (.frz _ (.lst _))=>none
 | o=>o
theorem oW {o:Option HO} {u:HO} (h:DD o=some u):o=some u/\zV u=true:=by
 unfold DD at h
 split at h
 ·cases h
 ·rename_i hn
  refine ⟨h,?_⟩
  unfold zV
  split
  ·exact absurd h (hn _ _)
  ·rfl
theorem New.many {Z H H':Hp} (zh:Same Z H) (ext:∀ b,H b≠none->H' b=H b):New Z H (fun b=>if H b=none then DD (H' b) else Z b) H' where
 z:=fun b u e=>by
  have:H b=some u:=zh b u e
  show (if H b=none then _ else _)=_
  rw [if_neg (by rw [this]; simp)]; exact e
 h:=fun b u e=>by rw [ext b (by rw [e]; simp),e]
 zh:=fun b u e=>by
  have e:(if H b=none then DD (H' b) else Z b)=some u:=e
  split at e
  ·exact (oW e).1
  ·rename_i n
   rw [ext b n]; exact zh b u e
 o:=fun b hb=>if_neg hb
 nf:=fun b o xs e=>by
  have e:(if H b=none then DD (H' b) else Z b)=_:=e
  split at e
  ·cases (oW e).2
  ·exact e
end
end VL
set_option Elab.async false
set_option linter.all false
set_option maxRecDepth 100000
set_option maxHeartbeats 4000000
namespace VL
open PySem PySem.Spec PyProof.Rows L2
noncomputable def mJ:List (aE×D)->Option (List (aE×Int))
 | []=>some []
 | (k,.int i)::r=>(mJ r).bind fun l=>some ((k,i)::l)
 | _=>none
noncomputable def qg (i:Nat) (δ:Dv):Dv:=match δ[i]? with
 | some (.own (.d es))=>match mJ es with
  | some l=>δ.set i (.fz (.dict (dctD l)))
  | none=>δ
 | _=>δ
noncomputable def jv:List (D×D)->Option (List (aE×Int))
 | []=>some []
 | (k,.int i)::r=>(jM k).bind fun k=>(jv r).bind fun l=>some ((k,i)::l)
 | _=>none
theorem rg (k:aE):jM (xl k)=some k:=by cases k <;> rfl
@[simp] theorem fg:∀ es:List (aE×Int),jv (dctD es)=some es
 | []=>rfl
 | (k,i)::r=>by
  show (jM (xl k)).bind _=_
  rw [rg]
  show (jv (dctD r)).bind _=_
  rw [fg r]; rfl
noncomputable def mM (es:List (aE×Int)) (k:aE):Option Int:=(es.find? fun p=>decide (p.1=k)).map (·.2)
noncomputable def xw:D->D->Option D
 | .dict kvs,k=>(jv kvs).bind fun es=>(jM k).bind fun k=>(mM es k).map .int
 | _,_=>none
noncomputable def kh:D->Option D
 | .dict kvs=>(jv kvs).bind fun es=>(gL (es.map fun p=>(p.1,PyData.int p.2))).bind fun l=>if l.length<64 then some (.list ((br l).map .int)) else none
 | _=>none
theorem pZ:∀ {es:List (aE×D)} {l:List (aE×Int)},mJ es=some l->es=l.map fun p=>(p.1,PyData.int p.2)
 | [],_,h=>by cases h; rfl
 | (k,.int i)::r,l,h=>by
  obtain ⟨m,hm,e⟩:=bind_some h
  cases e
  rw [pZ hm]; rfl
 | (k,.none)::r,l,h=>by cases h
 | (k,.bool _)::r,l,h=>by cases h
 | (k,.str _)::r,l,h=>by cases h
 | (k,.tuple _)::r,l,h=>by cases h
 | (k,.list _)::r,l,h=>by cases h
 | (k,.dict _)::r,l,h=>by cases h
theorem mr {K:Fg} {Z:Hp}:∀ {kvs:List (aE×V)} {l:List (aE×Int)},gG K Z kvs (l.map fun p=>(p.1,PyData.int p.2))->kvs=l.map fun p=>(p.1,V.int p.2)
 | [],l,h=>by
  have:(l.map fun p=>(p.1,PyData.int p.2))=[]:=List.length_eq_zero_iff.mp (eR h).symm
  rw [List.map_eq_nil_iff.mp this]; rfl
 | kv::kvs,l,h=>by
  obtain ⟨d,fs,e,r,q⟩:=gr h
  cases l with
  | nil=>cases e
  | cons p l=>
   rw [List.map_cons,List.cons.injEq,Prod.mk.injEq] at e
   obtain ⟨⟨e1,e2⟩,e3⟩:=e
   subst e2
   subst e3
   obtain ⟨k,v⟩:=kv
   have e1:p.1=k:=e1
   have rv:v=V.int p.2:=r.int_eq
   subst rv
   rw [List.map_cons,<- mr q,e1]
theorem u0 {K:Fg} {H₀ Z₀ Z H:Hp} {δ:Dv} {σ:St} (h:Hold K H₀ Z₀ Z δ σ H) {i:Nat} {l:List (aE×Int)} (e:δ[i]? = some (.od (l.map fun p=>(p.1,PyData.int p.2)))):∃ Z',Same Z Z'/\Hold K H₀ Z₀ Z' (δ.set i (.fz (.dict (dctD l)))) σ H:=by
 obtain ⟨a,kvs,h1,h2,h3,h4,h5⟩:=h.od i _ e
 obtain rfl:=mr h5
 have hl:i < δ.length:=(List.getElem?_eq_some_iff.mp e).1
 have sz:Same Z (upd Z a (.dK (l.map fun p=>(p.1,V.int p.2)))):=eQ h3
 refine ⟨_,sz,fun b o q=>?_,h.h0,h.z0.trans sz,fun b hb=>?_,by simp [h.len],fun j d q=>?_,fun j d q=>?_,fun j k d1 d2 b hjk q1 q2=>?_,(h.fr.same sz).put (fun _ z=>nomatch z) fun _ _=>rfl,h.nf.upd a⟩
 ·by_cases hb:b=a
  ·subst hb; rw [aC] at q; cases q; exact h4
  ·rw [aB hb] at q; exact h.zh b o q
 ·rw [aB (fun z=>hb (by rw [z]; exact h2))]; exact h.zb b hb
 ·by_cases hj:i=j
  ·subst hj
   rw [List.getElem?_set_self hl] at q
   cases q
   exact ⟨.ref a,h1,.opq (.dct rfl aC)⟩
  ·rw [List.getElem?_set_ne hj] at q
   obtain ⟨v,g1,g2⟩:=h.fz j d q
   exact ⟨v,g1,g2.same sz⟩
 ·by_cases hj:i=j
  ·subst hj
   rw [List.getElem?_set_self hl] at q
   cases q
  ·rw [List.getElem?_set_ne hj] at q
   obtain ⟨b,ws,g1,g2,g3,g4,g5⟩:=h.own j d q
   have:b≠a:=fun z=>by subst z; exact h.dja i j _ d b hj e q h1 g1
   exact ⟨b,ws,g1,g2,by rw [aB this]; exact g3,g4,g5.same sz⟩
 ·by_cases hj:i=j
  ·subst hj
   rw [List.getElem?_set_self hl] at q1
   cases q1
  ·by_cases hk:i=k
   ·subst hk
    rw [List.getElem?_set_self hl] at q2
    cases q2
   ·rw [List.getElem?_set_ne hj] at q1
    rw [List.getElem?_set_ne hk] at q2
    exact h.dja j k d1 d2 b hjk q1 q2
section
variable {X:Cx} {st:Stmt} {s1:Sf} {a b:Expr} {f fk:Dv->Option D} {p pos:Pos}
theorem C9 {K:Fg} (i:Nat) {D:Ends} {σ:St} {H:Hp} (h:AS K (fun δ=>s1 (qg i δ)) D σ H):AS K s1 D σ H:=by
 obtain ⟨H₀,Z₀,Z,δ,r,hh,e,k⟩:=h
 have e:s1 (qg i δ)=some r:=e
 unfold qg at e
 split at e
 ·rename_i es q
  split at e
  ·rename_i l ql
   rw [pZ ql] at q
   obtain ⟨Z1,t1,hh1⟩:=u0 hh q
   exact ⟨H₀,Z₀,Z1,_,r,hh1,e,fun σ2 H2 Z2 hh2 t2=>k σ2 H2 Z2 hh2 (t1.trans t2)⟩
  ·exact ⟨H₀,Z₀,Z,_,r,hh,e,k⟩
 ·exact ⟨H₀,Z₀,Z,_,r,hh,e,k⟩
theorem BG (i:Nat) (h:SV X st s1):SV X st (fun δ=>s1 (qg i δ)):=PS.imp h fun D σ H q=>C9 i q
theorem xQ {K:Fg} {Z:Hp} {v:V} {kvs:List (D×D)} {es:List (aE×Int)} (r:Rep K Z v (.dict kvs)) (h:jv kvs=some es):∃ a,v=.ref a/\Z a=some (.dK (es.map fun p=>(p.1,V.int p.2))):=by
 cases r with
 | @opq a _ q=>
  cases q with
  | exc _ _=>cases h
  | fn _=>cases h
  | dct h1 h2=>
   subst h1
   rw [fg] at h
   cases h
   exact ⟨a,rfl,h2⟩
theorem mi (k:aE):∀ es:List (aE×Int),gR (es.map fun p=>(p.1,V.int p.2)) k=(mM es k).map V.int
 | []=>rfl
 | (k',i)::r=>by
  by_cases e:k'=k
  ·rw [List.map_cons,fV e]; simp [mM,List.find?_cons,e]
  ·rw [List.map_cons,fW e,mi k r]; simp [mM,List.find?_cons,e]
theorem xH (hu:X.A.units+1<cLine) (ha:EV X a f) (hb:EV X b fk) (hsl:DC b):EV X (.Subscript a b pos) (o2 f fk xw):=
 PE.imp (zC hu ha hb hsl) fun σ H Q h=>by
  obtain ⟨H₀,Z₀,Z,δ,d,hh,e,k⟩:=h
  obtain ⟨x,e1,e⟩:=bind_some e
  obtain ⟨y,e2,e⟩:=bind_some e
  cases x with
  | dict kvs=>
   obtain ⟨es,e3,e⟩:=bind_some e
   obtain ⟨ky,e4,e⟩:=bind_some e
   obtain ⟨i,e5,e⟩:=Option.map_eq_some_iff.mp e
   subst e
   refine ⟨H₀,Z₀,Z,δ,_,hh,e1,fun v Z1 H1 hh1 t1 r1=>⟨H₀,Z₀,Z1,δ,y,hh1,e2,fun u Z2 H2 hh2 t2 r2=>?_⟩⟩
   obtain ⟨ad,rfl,g⟩:=xQ r1 e3
   obtain rfl:=iE r2 e4
   exact ⟨ad,V.int i,rfl,by have:=DGet.k (k:=ky) (hh2.zh _ _ (t2 _ _ g)); rw [mi,e5] at this; exact this,k _ Z2 H2 hh2 (t1.trans t2) (.int i)⟩
  | _=>cases e
theorem u8 (hg:Gl X "sorted") (hm:X.mg "sorted" = none) (ha:EV X a f) (hc:X.calm=true:=by rfl)
  (he:starEach [a] X.env=(false,eval a X.env)::starEach [] X.env:=by rfl) (hpl:(backTo pos (starEach [] X.env)).any (·.1)=false:=by rfl):EV X (.Call (.Name "sorted" p) [a] [] pos) (o1 f kh):=
 PE.imp (f7 (iP hc) hg hm (by decide +kernel) (cU ha eI he) (by decide) (by decide) he hpl) fun σ H Q h=>by
  obtain ⟨H₀,Z₀,Z,δ,d,hh,e,k⟩:=h
  obtain ⟨x,e1,e⟩:=bind_some e
  cases x with
  | dict kvs=>
   obtain ⟨es,e3,e⟩:=bind_some e
   obtain ⟨l,e4,e⟩:=bind_some e
   obtain ⟨h64,e⟩:=ce e
   cases e
   refine ⟨H₀,Z₀,Z,δ,_,hh,e1,fun v Z1 H1 hh1 t1 r1=>?_⟩
   obtain ⟨ad,rfl,g⟩:=xQ r1 e3
   refine ⟨ad,_,l,rfl,hh1.zh _ _ g,by have:=gg e4; rw [<- this]; simp [List.map_map,Function.comp_def],h64,fun l' hl=>?_⟩
   have n:=New.add hh1.zh hl (.lst ((br l).map V.int))
   exact k _ _ _ (hh1.new n) (t1.trans n.z) (.lst (SqL.of aC) (Reps.ints _))
  | _=>cases e
end
end VL
set_option Elab.async false
set_option linter.all false
set_option maxRecDepth 100000
set_option maxHeartbeats 4000000
namespace VL
open PySem PySem.Spec PyProof.Rows L2
section
variable {X:Cx}
end
section
variable {X:Cx} {e1 e2:Expr} {p p2 pos pos2:Pos} {ta:TA} {f g:Dv->Option D}
end
end VL
set_option Elab.async false
set_option linter.all false
set_option maxRecDepth 100000
set_option maxHeartbeats 4000000
namespace VL
open PySem PySem.Spec PyProof.Rows L2
section
variable {cmp:Nat->Nat->(Bool->Shared->Prop)->Shared->Prop} {N:Nat} {key:Nat->Int}
noncomputable def ky (key:Nat->Int) (p:Array Nat) (i:Nat):Int:=key (p.getD i 0)
structure Pm (N:Nat) (p:Array Nat):Prop where
 perm:p.toList.Perm (List.range N)
theorem Pm.size {p:Array Nat} (h:Pm N p):p.size=N:=by
 have:=h.perm.length_eq
 simpa using this
theorem Pm.lt {p:Array Nat} (h:Pm N p) (i:Nat) (hN:0<N):p.getD i 0<N:=by
 by_cases hi:i<p.size
 ·have e:p.getD i 0=p[i]:=by simp [Array.getD,hi]
  rw [e]
  have m:p[i]∈p.toList:=Array.getElem_mem_toList hi
  exact List.mem_range.mp (h.perm.mem_iff.mp m)
 ·have e:p.getD i 0=0:=by simp [Array.getD,hi]
  rw [e]; exact hN
theorem Pm.ne {p:Array Nat} (h:Pm N p) {i j:Nat} (hi:i<N) (hj:j<N) (e:p.getD i 0=p.getD j 0):i=j:=by
 have nd:p.toList.Nodup:=h.perm.nodup_iff.mpr List.nodup_range
 have hz:=h.size
 have e1:p.getD i 0=p.toList[i]'(by simpa [hz] using hi):=by simp [Array.getD,hz,hi]
 have e2:p.getD j 0=p.toList[j]'(by simpa [hz] using hj):=by simp [Array.getD,hz,hj]
 rw [e1,e2] at e
 have pw:=List.pairwise_iff_getElem.mp nd
 rcases Nat.lt_trichotomy i j with q | q | q
 ·exact absurd e (pw i j (by simpa [hz] using hi) (by simpa [hz] using hj) q)
 ·exact q
 ·exact absurd e.symm (pw j i (by simpa [hz] using hj) (by simpa [hz] using hi) q)
theorem Pm.of {p q:Array Nat} (h:Pm N p) (e:q.Perm p):Pm N q:=⟨(Array.perm_iff_toList_perm.mp e).trans h.perm⟩
variable {s:Shared} (hinj:∀ i j,i<N->j<N->key i=key j->i=j) (hc:∀ i j,i<N->j<N->i≠j->∀ C:Bool->Shared->Prop,C (decide (key i<key j)) s->cmp i j C s)
noncomputable def Up (key:Nat->Int) (p:Array Nat) (m:Nat):Prop:=∀ i j,i<j->j<m->ky key p i<ky key p j
noncomputable def Dn (key:Nat->Int) (p:Array Nat) (m:Nat):Prop:=∀ i j,i<j->j<m->ky key p j<ky key p i
include hinj in
theorem xh {p:Array Nat} (h:Pm N p) {i j:Nat} (hi:i<N) (hj:j<N) (hij:i≠j):ky key p i≠ky key p j:=fun e=>
 hij (h.ne hi hj (hinj _ _ (h.lt i (by omega)) (h.lt j (by omega)) e))
include hc in
theorem lw {α:Type} {p:Array Nat} (h:Pm N p) (hN:0<N) (i j:Nat) (hi:i<N) (hj:j<N) (hij:i≠j) {k:Bool->PySem.W.KasT α} {Q:α -> Shared->Prop} (hk:(k (decide (ky key p i<ky key p j))).kasWp cmp Q s):(PySem.W.KasT.ask (p.getD i 0) (p.getD j 0) k).kasWp cmp Q s:=
 hc _ _ (h.lt i hN) (h.lt j hN) (fun e=>hij (h.ne hi hj e)) _ hk
include hinj hc in
theorem rP {p:Array Nat} (h:Pm N p) {Q:Nat->Shared->Prop} {M:Nat} (hM:M<=N):∀ (f n:Nat),1<=n->n+f=M->Up key p n->(∀ m,n<=m->m<=M->Up key p m->(m=M\/ky key p m<ky key p (m-1))->Q m s)->(PySem.W.kas_asc p f n).kasWp cmp Q s
 | 0,n,h1,hf,up,q=>q n (Nat.le_refl _) (by omega) up (.inl (by omega))
 | f+1,n,h1,hf,up,q=>by
  refine lw hc h (by omega) n (n-1) (by omega) (by omega) (by omega) ?_
  by_cases d:ky key p n<ky key p (n-1)
  ·rw [decide_eq_true d,if_pos rfl]
   exact q n (Nat.le_refl _) (by omega) up (.inr d)
  ·rw [decide_eq_false d,if_neg (by decide)]
   have ne:=xh hinj h (i:=n) (j:=n-1) (by omega) (by omega) (by omega)
   refine rP h hM f (n+1) (by omega) (by omega) (fun i j hij hj=>?_) fun m a1 a2 a3 a4=>q m (by omega) a2 a3 a4
   by_cases hjn:j=n
   ·subst hjn
    by_cases hi:i=j-1
    ·subst hi; omega
    ·have:=up i (j-1) (by omega) (by omega); omega
   ·exact up i j hij (by omega)
include hinj hc in
theorem tQ {p:Array Nat} (h:Pm N p) {Q:Array Nat×Nat×Nat->Shared->Prop} {M:Nat} (hM:M<=N):∀ (f n:Nat),1<=n->n+f=M->Dn key p n->(∀ m,n<=m->m<=M->Dn key p m->Q (p,m,0) s)->(PySem.W.kas_desc f p n 0).kasWp cmp Q s
 | 0,n,h1,hf,dn,q=>q n (Nat.le_refl _) (by omega) dn
 | f+1,n,h1,hf,dn,q=>by
  refine lw hc h (by omega) n (n-1) (by omega) (by omega) (by omega) ?_
  have ne:=xh hinj h (i:=n) (j:=n-1) (by omega) (by omega) (by omega)
  by_cases d:ky key p n<ky key p (n-1)
  ·rw [decide_eq_true d,if_pos rfl,if_neg (by decide)]
   refine tQ h hM f (n+1) (by omega) (by omega) (fun i j hij hj=>?_) fun m a1 a2 a3=>q m (by omega) a2 a3
   by_cases hjn:j=n
   ·subst hjn
    by_cases hi:i=j-1
    ·subst hi; omega
    ·have:=dn i (j-1) (by omega) (by omega); omega
   ·exact dn i j hij (by omega)
  ·rw [decide_eq_false d,if_neg (by decide)]
   refine lw hc h (by omega) (n-1) n (by omega) (by omega) (by omega) ?_
   rw [decide_eq_true (show ky key p (n-1)<ky key p n by omega),if_pos rfl]
   exact q n (Nat.le_refl _) (by omega) dn
theorem wf {p:Array Nat} (h:Pm N p) (i j:Nat):Pm N (PySem.W.kas_rev p i j):=h.of (mirror_perm _ _ _ _)
theorem iJ {p q:Array Nat} {i j:Nat} (e:p[i]? = q[j]?):p.getD i 0=q.getD j 0:=by
 rw [Array.getD_eq_getD_getElem?,Array.getD_eq_getD_getElem?,e]
theorem wg {p:Array Nat} (h:Pm N p) {n:Nat} (hn:n<=N) (k:Nat):ky key (PySem.W.kas_rev p 0 n) k=if k<n then ky key p (n-1-k) else ky key p k:=by
 have e:=getElem?_mirror_all (xs:=p) (i:=0) (j:=n) (by rw [h.size]; exact hn) k
 unfold ky PySem.W.kas_rev
 by_cases hk:k<n
 ·rw [if_pos ⟨Nat.zero_le _,hk⟩] at e
  rw [if_pos hk,iJ e,Nat.zero_add]
 ·rw [if_neg (by omega)] at e
  rw [if_neg hk,iJ e]
theorem B4 {p:Array Nat} (h:Pm N p) {n:Nat} (hn:n<=N) (dn:Dn key p n):Up key (PySem.W.kas_rev p 0 n) n:=fun i j hij hj=>by
 rw [wg h hn,wg h hn,if_pos (by omega),if_pos hj]
 exact dn _ _ (by omega) (by omega)
include hinj hc in
theorem yH {p:Array Nat} (h:Pm N p) {Q:Nat×Array Nat->Shared->Prop} {n:Nat} (h1:1<=n) (hn:n<=N) (dn:Dn key p n) (q:∀ m p',1<=m->m<=N->Pm N p'->Up key p' m->Q (m,p') s):(PySem.W.kas_tail3 n N p).kasWp cmp Q s:=by
 unfold PySem.W.kas_tail3
 rw [PySem.W.KasT.kasWp_bind]
 exact rP hinj hc (wf h 0 n) (Nat.le_refl N) (N-n) n h1 (by omega) (B4 h hn dn) fun m a1 a2 a3 _=>q m _ (by omega) a2 (wf h 0 n) a3
include hinj hc in
theorem xT {p:Array Nat} (h:Pm N p) (hN:2<=N) {Q:Nat×Array Nat->Shared->Prop} (q:∀ m p',1<=m->m<=N->Pm N p'->Up key p' m->Q (m,p') s):(PySem.W.kas_count N p).kasWp cmp Q s:=by
 unfold PySem.W.kas_count
 rw [PySem.W.KasT.kasWp_bind]
 refine rP hinj hc h (Nat.le_refl N) (N-1) 1 (Nat.le_refl _) (by omega) (fun i j a b=>by omega) fun n a1 a2 a3 a4=>?_
 by_cases e:(n==N)=true
 ·rw [if_pos e]
  exact q n p a1 a2 h a3
 ·rw [if_neg e]
  have hne:n≠N:=fun z=>e (by rw [z]; exact beq_self_eq_true _)
  by_cases e2:n>1
  ·rw [if_pos e2]
   refine lw hc h (by omega) 0 (n-1) (by omega) (by omega) (by omega) ?_
   rw [decide_eq_true (a3 0 (n-1) (by omega) (by omega)),if_pos rfl]
   exact q n p a1 a2 h a3
  ·rw [if_neg e2]
   have hn1:n=1:=by omega
   subst hn1
   have d:ky key p 1<ky key p 0:=by
    rcases a4 with z | z
    ·exact absurd z hne
    ·exact z
   unfold PySem.W.kas_descPart
   rw [PySem.W.KasT.kasWp_bind]
   refine tQ hinj hc h (Nat.le_refl N) (N-(1+1)) (1+1) (by omega) (by omega) (fun i j hij hj=>?_) fun m b1 b2 b3=>?_
   ·have:i=0:=by omega
    have:j=1:=by omega
    subst i; subst j; exact d
   ·rw [if_neg (by show ¬ (0>0); decide)]
    exact yH hinj hc h (show 1<=m from Nat.le_trans (by decide) b1) b2 b3 q
include hinj hc in
theorem kz {p:Array Nat} (h:Pm N p) {Q:Nat->Shared->Prop} {k:Nat} (hk:k<N) (up:Up key p k):∀ (f l r:Nat),r-l<=f->l<=r->r<=k->(∀ i,i<l->ky key p i<ky key p k)->(∀ i,r<=i->i<k->ky key p k<ky key p i) ->
  (∀ l',l'<=k->(∀ i,i<l'->ky key p i<ky key p k)->(∀ i,l'<=i->i<k->ky key p k<ky key p i)->Q l' s)->(PySem.W.kas_place p k f l r).kasWp cmp Q s
 | 0,l,r,hf,hlr,hr,lo,hi,q=>q l (by omega) lo fun i h1 h2=>hi i (by omega) h2
 | f+1,l,r,hf,hlr,hr,lo,hi,q=>by
  unfold PySem.W.kas_place
  by_cases e:l>=r
  ·rw [if_pos e]
   exact q l (by omega) lo fun i h1 h2=>hi i (by omega) h2
  ·rw [if_neg e]
   refine lw hc h (by omega) k ((l+r) / 2) hk (by omega) (by omega) ?_
   have ne:=xh hinj h (i:=k) (j:=(l+r) / 2) hk (by omega) (by omega)
   by_cases d:ky key p k<ky key p ((l+r) / 2)
   ·rw [decide_eq_true d,if_pos rfl]
    refine kz h hk up f l ((l+r) / 2) (by omega) (by omega) (by omega) lo (fun i h1 h2=>?_) q
    by_cases z:i=(l+r) / 2
    ·subst z; exact d
    ·have:=up ((l+r) / 2) i (by omega) h2; omega
   ·rw [decide_eq_false d,if_neg (by decide)]
    refine kz h hk up f ((l+r) / 2+1) r (by omega) (by omega) hr (fun i h1=>?_) hi q
    by_cases z:i=(l+r) / 2
    ·subst z; omega
    ·have:=up i ((l+r) / 2) (by omega) (by omega); omega
theorem xW {p:Array Nat} (h:Pm N p) {k d:Nat} (hk:k<N) (hd:d<=k) (i:Nat):ky key (bubble p k d) i=if i=k-d then ky key p k else if k-d<i/\i<=k then ky key p (i-1) else ky key p i:=by
 have e:=getElem?_bubble (xs:=p) (src:=k) (by rw [h.size]; exact hk) d hd i
 unfold ky
 by_cases h1:i=k-d
 ·rw [if_pos h1] at e ⊢
  rw [iJ e]
 ·rw [if_neg h1] at e ⊢
  by_cases h2:k-d<i/\i<=k
  ·rw [if_pos h2] at e ⊢
   rw [iJ e]
  ·rw [if_neg h2] at e ⊢
   rw [iJ e]
include hinj hc in
theorem xZ {Q:Array Nat->Shared->Prop} (q:∀ p',Pm N p'->Up key p' N->Q p' s):∀ (f:Nat) (p:Array Nat) (k:Nat),k+f=N->Pm N p->Up key p k->(PySem.W.kas_bin f p k).kasWp cmp Q s
 | 0,p,k,hf,h,up=>q p h (by rw [show N=k by omega]; exact up)
 | f+1,p,k,hf,h,up=>by
  unfold PySem.W.kas_bin
  rw [PySem.W.KasT.kasWp_bind]
  refine kz hinj hc h (by omega) up k 0 k (by omega) (Nat.zero_le _) (Nat.le_refl _) (fun i hi=>by omega) (fun i h1 h2=>by omega) fun l hl lo hi=>?_
  refine xZ q f (bubble p k (k-l)) (k+1) (by omega) (h.of (bubble_perm _ _ _)) fun i j hij hj=>?_
  rw [xW h (by omega) (by omega),xW h (by omega) (by omega),show k-(k-l)=l by omega]
  by_cases i1:i=l
  ·rw [if_pos i1,if_neg (by omega),if_pos (by omega)]
   exact hi (j-1) (by omega) (by omega)
  ·rw [if_neg i1]
   by_cases j1:j=l
   ·rw [if_pos j1,if_neg (by omega)]
    exact lo i (by omega)
   ·rw [if_neg j1]
    by_cases i2:l<i/\i<=k
    ·rw [if_pos i2,if_pos (by omega)]
     exact up (i-1) (j-1) (by omega) (by omega)
    ·rw [if_neg i2]
     by_cases j2:l<j/\j<=k
     ·rw [if_pos j2]
      by_cases z:i=j-1
      ·omega
      ·exact up i (j-1) (by omega) (by omega)
     ·rw [if_neg j2]
      exact up i j hij (by omega)
include hinj hc in
theorem yX (hN:2<=N) {Q:Array Nat->Shared->Prop} (q:∀ p',Pm N p'->Up key p' N->Q p' s):(PySem.W.kas_sort N).kasWp cmp Q s:=by
 unfold PySem.W.kas_sort
 rw [PySem.W.KasT.kasWp_bind]
 refine xT hinj hc (p:=List.toArray (List.range N)) ⟨List.Perm.refl _⟩ hN fun m p a1 a2 a3 a4=>?_
 dsimp only
 by_cases e:m<N
 ·rw [if_pos e]
  rw [show max m 1=m by omega]
  exact xZ hinj hc q (N-m) p m (by omega) a3 a4
 ·rw [if_neg e]
  exact q p a3 (by rw [show N=m by omega]; exact a4)
end
end VL
set_option Elab.async false
set_option linter.all false
set_option maxRecDepth 100000
set_option maxHeartbeats 4000000
namespace VL
open PySem PySem.Spec PyProof.Rows L2
section
variable {prog:Program} {w:World} {A:Around} {E:Value->Shared->Prop} {s:Shared}
noncomputable def PairsAt (h:Heap) (key:Nat->Int) (vs:List Value):Prop:=∀ (j:Nat) (v:Value),vs[j]? = some v->∃ b t y,v=.ref b/\h.get? b=some { cls:=.type "tuple",data:=.seq #[.int (key j) t,y] }
theorem PairsAt.keeps {h h':Heap} {key:Nat->Int} {vs:List Value} (x:PairsAt h key vs) (k:∀ b o,o.cls=.type "tuple" -> h.get? b=some o->h'.get? b=some o):PairsAt h' key vs:=fun j v e=>by
 obtain ⟨b,t,y,e1,e2⟩:=x j v e
 exact ⟨b,t,y,e1,k b _ rfl e2⟩
theorem kC {h:Heap}:∀ {vs:List Value} {key:Nat->Int},PairsAt h key vs->∃ fs:List Value,fs.length=vs.length/\PySem.W.KatTups h vs fs/\∀ v∈fs,∃ i t,v=Value.int i t
 | [],key,_=>⟨[],rfl,trivial,fun v h=>by cases h⟩
 | v::vs,key,x=>by
  obtain ⟨b,t,y,rfl,e⟩:=x 0 v rfl
  obtain ⟨fs,h1,h2,h3⟩:=kC (vs:=vs) (key:=fun j=>key (j+1)) fun j u q=>x (j+1) u q
  refine ⟨.int (key 0) t::fs,by rw [List.length_cons,List.length_cons,h1],⟨⟨b,_,_,_,rfl,e,rfl,rfl,rfl⟩,h2⟩,fun u hu=>?_⟩
  rcases List.mem_cons.mp hu with rfl | hu
  ·exact ⟨_,_,rfl⟩
  ·exact h3 u hu
theorem wH {κ:SortKind} {key:Nat->Int} {vs:List Value} (hκ:κ = tuples' true) (x:PairsAt s.heap key vs) (hinj:∀ i j,i<vs.length->j<vs.length->key i=key j->i=j) {i j:Nat} (hi:i<vs.length) (hj:j<vs.length) (hij:i≠j) {C:Bool->Shared->Prop} (hC:C (decide (key i<key j)) s) :
  PySem.W.kas_ask prog w A κ vs i j C s:=by
 subst hκ
 obtain ⟨b,t,y,e1,e2⟩:=x i _ (List.getElem?_eq_getElem hi)
 obtain ⟨b',t',y',e1',e2'⟩:=x j _ (List.getElem?_eq_getElem hj)
 have g1:vs.getD i Value.none=.ref b:=by rw [List.getD_eq_getElem?_getD,List.getElem?_eq_getElem hi]; exact e1
 have g2:vs.getD j Value.none=.ref b':=by rw [List.getD_eq_getElem?_getD,List.getElem?_eq_getElem hj]; exact e1'
 unfold PySem.W.kas_ask
 rw [g1,g2]
 refine PySem.W.kat_lt e2 rfl e2' rfl (PySem.W.kat_cons ?_)
 have ne:(key i==key j)=false:=beq_eq_false_iff_ne.mpr fun e=>hij (hinj i j hi hj e)
 refine SeqAt.EqAt.int_int (key i) t (key j) t' _ _ _ _ ?_
 rw [ne]
 refine PySem.W.kat_no ?_
 exact PySem.W.kat_lt_int hC
theorem lN {a:Addr} {vs:List Value} {key:Nat->Int} {n:Nat} {P:PySem.Fin->Shared->Prop} (ho:s.heap.get? a=some (seqObj "list" vs.toArray n)) (x:PairsAt s.heap key vs) (hinj:∀ i j,i<vs.length->j<vs.length->key i=key j->i=j) (h64:vs.length<64)
  (h:∀ p:Array Nat,Pm vs.length p->Up key p vs.length->P (.done (.ret .none)) { s with heap:=sortedHeap s.heap a vs (List.toArray (p.toList.map fun i=>vs.getD i Value.none)) }) :
  wpAny (model prog w) A (Builtin.«list.sort» ⟨[.ref a],[]⟩) P E s:=by
 rw [list_sort_plain]
 have ha:a<s.heap.objs.size:=Heap.lt_size ho
 refine wpAny_bind (listItems_at ho rfl ?_)
 refine wpAny_bind (listUpdate_at ho rfl ?_)
 obtain ⟨e1,ho1⟩:∃ e1,(s.heap.update a (Obj.mapSeq fun _=>#[])).get? a=some (seqObj "list" #[] e1):=⟨_,get?_update_seq ho (fun _=>#[])⟩
 refine wpAny_bind (seqEpoch_at ho1 rfl ?_)
 refine wpAny_bind (wpAny_newTuple ?_)
 refine wpAny_bind (wpAny_newList ?_)
 refine wpAny_holding ?_
 have ho6:(((s.heap.update a (Obj.mapSeq fun _=>#[])).push (seqObj "tuple" vs.toArray 0)).push (seqObj "list" #[] 0)).get? a=some (seqObj "list" #[] e1):=Heap.get?_push_of_some _ (Heap.get?_push_of_some _ ho1)
 have kp:∀ b o,o.cls=.type "tuple" -> s.heap.get? b=some o->(((s.heap.update a (Obj.mapSeq fun _=>#[])).push (seqObj "tuple" vs.toArray 0)).push (seqObj "list" #[] 0)).get? b=some o:=fun b o hc eo=>by
  have hb:b≠a:=fun z=>by
   subst z
   rw [ho] at eo
   cases eo
   exact absurd hc (by intro z; injection z with z; exact absurd z (by decide))
  exact Heap.get?_push_of_some _ (Heap.get?_push_of_some _ (bG hb eo))
 have x6:=x.keeps kp
 show wpAny (model prog w) A _ P E { s with heap:=((s.heap.update a (Obj.mapSeq fun _=>#[])).push (seqObj "tuple" vs.toArray 0)).push (seqObj "list" #[] 0) }
 dsimp only
 have fin:∀ p:Array Nat,Pm vs.length p->Up key p vs.length->∀ st':SortSt,(arrOf st').map (·.2)=List.toArray (p.toList.map fun i=>vs.getD i Value.none)->failedOf st'=none ->
   wpAny (model prog w) A (do
    let sorted:=(arrOf st').map (·.2)
    let touched:=(<- seqEpoch a) != e1
    Builtin.List.listUpdate (.ref a) fun _=>sorted
    if let some e:=failedOf st' then rule "list.sort.comparison-raised"; throw e
    if touched then rule "list.sort.modified"; raiseError "ValueError" "list modified during sort"
    ret .none) P E { s with heap:=((s.heap.update a (Obj.mapSeq fun _=>#[])).push (seqObj "tuple" vs.toArray 0)).push (seqObj "list" #[] 0) }:=fun p hp hu st' ha' hf=>by
  have hsz:(List.toArray (p.toList.map fun i=>vs.getD i Value.none)).size=vs.length:=by rw [List.size_toArray,List.length_map,Array.length_toList,hp.size]
  refine wpAny_bind (seqEpoch_at ho6 rfl ?_)
  refine wpAny_bind (listUpdate_at ho6 rfl ?_ (hsz2:=by rw [ha',hsz,sizeLine_eq]; omega))
  rw [hf,ha']
  simp only [bne_self_eq_false,Bool.false_eq_true,if_false]
  exact wpAny_pure (h p hp hu)
 by_cases h2:vs.toArray.size<2
 ·rw [if_pos h2,if_pos h2]
  refine wpAny_bind (wpAny_pure ?_)
  rw [StateT.run_pure]
  refine wpAny_bind (wpAny_pure ?_)
  refine fin (List.toArray (List.range vs.length)) ⟨List.Perm.refl _⟩ (fun i j hij hj=>by simp at h2; omega) (SortSt.mk' general' (vs.toArray.zip vs.toArray) #[] 7 none) ?_ rfl
  apply Array.toList_inj.mp
  show ((vs.toArray.zip vs.toArray).map (·.2)).toList=_
  rw [Array.toList_map,Array.toList_zip]
  apply List.ext_getElem?
  intro k
  by_cases hk:k<vs.length
  ·simp [hk,List.getD_eq_getElem?_getD]
  ·simp [hk]
 ·rw [if_neg h2,if_neg h2]
  have hn2:2<=vs.length:=by simp at h2; omega
  obtain ⟨fs,f1,f2,f3⟩:=kC x6
  refine wpAny_bind (PySem.W.kat_kind (s:={ s with heap:=((s.heap.update a (Obj.mapSeq fun _=>#[])).push (seqObj "tuple" vs.toArray 0)).push (seqObj "list" #[] 0) }) (T:=.type "int") f2 (by omega) (fun v hv=>?_) (by decide) ?_)
  ·obtain ⟨i,t,rfl⟩:=f3 v hv
   exact PySem.W.Looks.of_pure rfl
  ·refine wpAny_bind (wpAny_mono (PySem.W.kat_run (s:={ s with heap:=((s.heap.update a (Obj.mapSeq fun _=>#[])).push (seqObj "tuple" vs.toArray 0)).push (seqObj "list" #[] 0) })
    (Q:=fun st' s'=>∃ p:Array Nat,Pm vs.length p/\Up key p vs.length/\(arrOf st').map (·.2)=List.toArray (p.toList.map fun i=>vs.getD i Value.none)/\failedOf st'=none/\s'={ s with heap:=((s.heap.update a (Obj.mapSeq fun _=>#[])).push (seqObj "tuple" vs.toArray 0)).push (seqObj "list" #[] 0) })
    (G:=fun p s'=>Pm vs.length p/\Up key p vs.length/\s'={ s with heap:=((s.heap.update a (Obj.mapSeq fun _=>#[])).push (seqObj "tuple" vs.toArray 0)).push (seqObj "list" #[] 0) })
    (ks:=vs) (vs:=vs) rfl hn2 h64 (fun p st' s' a1 a2 a3 a4=>⟨p,a4.1,a4.2.1,PySem.W.kat_snds rfl a2,a3,a4.2.2⟩) ?_) ?_ fun _ _ e=>e)
   ·exact yX hinj (fun i j hi hj hij C hC=>wH rfl x6 hinj hi hj hij hC) hn2 fun p hp hu=>⟨hp,hu,rfl⟩
   ·rintro ⟨⟨⟩,st'⟩ s' ⟨p,hp,hu,har,hf,rfl⟩
    exact fin p hp hu st' har hf
end
end VL
set_option Elab.async false
set_option linter.all false
set_option maxRecDepth 100000
set_option maxHeartbeats 4000000
namespace VL
open PySem PySem.Spec PyProof.Rows L2
noncomputable def rh (es:List (aE×D)) (l:List Int):List D:=(br l).map fun k=>.tuple [.int k,(ee es (.inl k)).getD .none]
noncomputable def ix (i:Nat):Dv->Option D:=fun δ=>(vk δ[i]?).bind fun es=>(gL es).bind fun l=>if l.length<64/\l.Nodup then some (.list (rh es l)) else none
section
variable {X:Cx} {o:Expr} {p pos apos cpos:Pos} {td:TE}
noncomputable def yI (td:TE):TE:=fun σ H Q=>td σ H fun x H1=>∃ (a:Addr) (kvs:List (aE×V)) (ns:List Int),x=V.ref a/\H1 a=some (.dK kvs)/\kvs.map (·.1)=ns.map Sum.inl/\ns.length<64/\ns.Nodup /\
 ∀ (H':Hp) (l:Addr) (as:List Addr) (q:Array Nat),(∀ b,H1 b≠none->H' b=H1 b)->H1 l=none->Pm ns.length q->Up (fun j=>ns.getD j 0) q ns.length->as.length=ns.length->H' l=some (.lst (q.toList.map fun i=>V.ref (as.getD i 0))) ->
  (∀ (j:Nat) (b:Addr),as[j]? = some b->H1 b=none/\∃ k v,ns[j]? = some k/\kvs[j]? = some (.inl k,v)/\H' b=some (.tup [.int k,v]))->Q (.ref l) H'
theorem CL {ns:List Int} (h:ns.Nodup):∀ i j,i<ns.length->j<ns.length->ns.getD i 0=ns.getD j 0->i=j:=fun i j hi hj e=>by
 rw [List.getD_eq_getElem?_getD,List.getD_eq_getElem?_getD,List.getElem?_eq_getElem hi,List.getElem?_eq_getElem hj] at e
 have pw:=List.pairwise_iff_getElem.mp h
 rcases Nat.lt_trichotomy i j with q | q | q
 ·exact absurd e (pw i j hi hj q)
 ·exact q
 ·exact absurd e.symm (pw j i hj hi q)
theorem xj {κ:Type}:∀ (kvs:List (κ × V)) (vs:List (κ × Value)) (j:Nat) (k:κ) (u:Value),KV kvs vs->vs[j]? = some (k,u)->∃ v,kvs[j]? = some (k,v)/\RelV v u
 | [],vs,j,k,u,h,e=>by cases h; simp at e
 | p::kvs,[],j,k,u,h,e=>by simp at e
 | p::kvs,r::vs,0,k,u,h,e=>by
  cases h with
  | cons a b=>
   have e:r=(k,u):=by simpa using e
   subst e
   obtain ⟨a1,a2⟩:=a
   obtain ⟨k',v⟩:=p
   have a1:k'=k:=a1
   subst a1
   exact ⟨v,rfl,a2⟩
 | p::kvs,r::vs,j+1,k,u,h,e=>by
  cases h with
  | cons a b=>
   obtain ⟨v,h1,h2⟩:=xj kvs vs j k u b (by simpa using e)
   exact ⟨v,by simpa using h1,h2⟩
theorem CK:∀ {l:List Int},l.Nodup->(l.map (Sum.inl:Int->aE)).Nodup:=fun {l} h=>by
 show List.Pairwise _ _
 rw [List.pairwise_map]
 exact List.Pairwise.imp (fun hne z=>hne (by cases z; rfl)) h
theorem tI:∀ {es:List (aE×D)} {i:Nat} {k:aE} {d:D},(es.map (·.1)).Nodup->es[i]? = some (k,d)->ee es k=some d
 | [],i,k,d,_,h=>by simp at h
 | e::es,0,k,d,nd,h=>by
  have h:e=(k,d):=by simpa using h
  subst h
  simp [ee,List.find?_cons]
 | e::es,i+1,k,d,nd,h=>by
  have h:es[i]? = some (k,d):=by simpa using h
  rw [List.map_cons] at nd
  obtain ⟨n1,n2⟩:=List.nodup_cons.mp nd
  have ne:¬ e.1=k:=fun z=>n1 (by rw [z]; exact List.mem_map.mpr ⟨(k,d),List.mem_of_getElem? h,rfl⟩)
  have:=tI n2 h
  unfold ee at this ⊢
  rw [List.find?_cons,decide_eq_false ne]
  exact this
theorem uF (hc:X.calm=true) (hg:Gl X "sorted") (hm:X.mg "sorted" = none) (ho:PE X o td)
  (hbase:attributeBase o "items" X.env (eval o X.env)=eval o X.env:=by rfl) (hline:(apos.endLine==cpos.line)=true:=by rfl)
  (he:starEach [.Call (.Attribute o "items" apos) [] [] cpos] X.env=(false,eval (.Call (.Attribute o "items" apos) [] [] cpos) X.env)::starEach [] X.env:=by rfl) (hpl:(backTo pos (starEach [] X.env)).any (·.1)=false:=by rfl) :
  PE X (.Call (.Name "sorted" p) [.Call (.Attribute o "items" apos) [] [] cpos] [] pos) (yI td):=by
 intro pins s σ H Q I h
 refine wpAny_Call_Name_kw (fG I hg hm (u:=.builtin "sorted") (by decide +kernel) ?_ (by decide) (by decide))
 refine PyProof.Rows.callWith_builtin1 ?_ he hpl
 rw [he]
 show wpAny _ _ (spliced ((false,eval _ X.env)::backTo pos (starEach [] X.env))) _ _ s
 refine Calls.spliced_cons ?_
 refine wpAny_Call_method0_late hbase hline (bN (ho pins s σ H _ I h) fun v s1 ⟨x,H1,I1,r1,q1⟩=>?_)
 obtain ⟨a,kvs,ns,e1,ha,hk,h64,nd,q⟩:=q1
 subst e1
 cases r1
 obtain ⟨t1,t2,_⟩:=xq I1 (.inl ⟨kvs,.inl ha⟩)
 obtain ⟨z,hlo,vs,rel,dd⟩:=iL I1.hok (.inl ha)
 refine ⟨"dict","dict.items",PySem.F.plainAttrs_dict,PySem.F.slot_dict_items,PySem.F.type_dict_items,t1,t2,Calls.callWith_builtin rfl (PySem.evalArgs_none ?_)⟩
 refine call_meetsIn PySem.F.slot_dict_items dd.typeIs PySem.F.entry_dict_items (PySem.F.args_dict_items_1 _) (meets_dict_items (aD X.prog X.w) a hlo) ⟨⟨vs,dd⟩,?_⟩
 refine Calls.spliced_nil ?_
 have hln:vs.length=ns.length:=by
  have:=congrArg List.length hk
  simp only [List.length_map] at this
  rw [<- rel.length,this]
 have dd1:=dd.push { cls:=.type "dict_items",data:=.fields #[.ref a] }
 obtain ⟨ep,dat⟩:=dd1.dictAt
 refine Calls.call_function_entry kind_sorted plain_sorted entry_sorted (args_sorted1 _) ?_
 unfold Builtin.«sorted»
 refine wpAny_bind (m:=checkCount "sorted" 1 1 _) (wpAny_pure ?_)
 refine wpAny_bind (PySem.W.kdx_collect (A:=X.A.in1) (knd:=aD X.prog X.w) (kvs:=vs) (ep:=ep) (d:=a) (I1.ok.hd hc) ⟨_,Heap.get?_push_size _ rfl,rfl,rfl⟩ dat (by rw [hln,sizeLine_eq]; omega) fun h' tk as hk' hal hG=>?_)
 dsimp only at hk' hG ⊢
 have hasn:as.length=ns.length:=by rw [hal,hln]
 have kv:vs.map (·.1)=ns.map Sum.inl:=by rw [n6 rel]; exact hk
 have at_:∀ (j:Nat) (b:Addr),as[j]? = some b->∃ k t u,ns[j]? = some k/\vs[j]? = some (.inl k,u)/\h'.get? b=some { cls:=.type "tuple",data:=.seq #[.int k t,u] }:=fun j b eb=>by
  obtain ⟨ky,k,u,e1,e2,e3⟩:=hG.pairs j b eb
  have e4:(vs.map (·.1))[j]? = some k:=by rw [List.getElem?_map,e1]; rfl
  rw [kv,List.getElem?_map] at e4
  cases e5:ns[j]? with
  | none=>rw [e5] at e4; cases e4
  | some i=>
   rw [e5] at e4
   have e4:Sum.inl i=k:=by simpa using e4
   subst e4
   rcases aZ (show jB (.inl i) ky=true from e2) with ⟨i',t,q1,rfl⟩ | ⟨y,t,q1,rfl⟩
   ·cases q1
    exact ⟨i,t,u,rfl,e1,e3⟩
   ·cases q1
 refine wpAny_bind (wpAny_newList ?_ (by rw [List.length_map,hasn,sizeLine_eq]; omega))
 have hoL:(h'.push (seqObj "list" (as.map Value.ref).toArray 0)).get? h'.objs.size=some (seqObj "list" (as.map Value.ref).toArray 0):=Heap.get?_push_size _ rfl
 have pa:PairsAt (h'.push (seqObj "list" (as.map Value.ref).toArray 0)) (fun j=>ns.getD j 0) (as.map Value.ref):=fun j v ev=>by
  rw [List.getElem?_map] at ev
  cases eb:as[j]? with
  | none=>rw [eb] at ev; cases ev
  | some b=>
   rw [eb] at ev
   cases ev
   obtain ⟨k,t,u,e1,e2,e3⟩:=at_ j b eb
   have ek:ns.getD j 0=k:=by rw [List.getD_eq_getElem?_getD,e1]; rfl
   refine ⟨b,t,u,rfl,?_⟩
   show _=some ({ cls:=.type "tuple",data:=.seq #[.int (ns.getD j 0) t,u] }:Obj)
   rw [ek]
   exact Heap.get?_push_of_some _ e3
 have hlv:(as.map Value.ref).length=ns.length:=by rw [List.length_map,hasn]
 refine wpAny_bind (wpAny_holding (wpAny_call_entry slot_list_sort ⟨_,hoL,rfl⟩ entry_list_sort (lN hoL pa (by rw [hlv]; exact CL nd) (by rw [hlv]; exact h64) fun q' hp hu=>⟨_,rfl,?_⟩) (args_list_sort _)))
 refine wpAny_pure ⟨_,rfl,?_⟩
 rw [hlv] at hp hu
 generalize hout:List.toArray (q'.toList.map fun i=>(as.map Value.ref).getD i Value.none)=out
 have I2:Inv X pins σ H1 { s1 with heap:=h',toks:=tk }:=I1.kept fun b o eo=>hk' b o (Heap.get?_push_of_some _ eo)
 have kp:∀ b o,h'.get? b=some o->(sortedHeap (h'.push (seqObj "list" (as.map Value.ref).toArray 0)) h'.objs.size (as.map Value.ref) out).get? b=some o:=fun b o eo=>by
  have hb:b≠h'.objs.size:=Nat.ne_of_lt (Heap.lt_size eo)
  exact bG hb (Heap.get?_push_of_some _ (Heap.get?_push_of_some _ (bG hb (Heap.get?_push_of_some _ eo))))
 obtain ⟨e1,ho1⟩:∃ e1,((h'.push (seqObj "list" (as.map Value.ref).toArray 0)).update h'.objs.size (Obj.mapSeq fun _=>#[])).get? h'.objs.size=some (seqObj "list" #[] e1):=⟨_,get?_update_seq hoL (fun _=>#[])⟩
 have ho2:=Heap.get?_push_of_some (seqObj "list" #[] 0) (Heap.get?_push_of_some (seqObj "tuple" (as.map Value.ref).toArray 0) ho1)
 have ho3:=get?_update_seq ho2 (fun _=>out)
 generalize hts:((List.range ns.length).map fun j=>[V.int (ns.getD j 0),((kvs[j]?).map (·.2)).getD V.non])=ts
 have lo_:∀ (j:Nat) (b:Addr),as[j]? = some b->s1.heap.objs.size<b:=fun j b eb=>by
  have:=hG.above b (List.mem_of_getElem? eb)
  rw [Heap.size_push] at this
  exact Nat.lt_of_lt_of_le (Nat.lt_succ_self _) (Nat.le_of_lt this)
 have fr:∀ (j:Nat) (b:Addr),as[j]? = some b->H1 b=none/\b≠h'.objs.size/\s1.heap.objs.size<=b:=fun j b eb=>by
  obtain ⟨_,_,_,_,_,e3⟩:=at_ j b eb
  exact ⟨I1.hok.fresh (Nat.le_of_lt (lo_ j b eb)),Nat.ne_of_lt (Heap.lt_size e3),Nat.le_of_lt (lo_ j b eb)⟩
 have hD:H1 h'.objs.size=none:=I2.hok.fresh (Nat.le_refl _)
 have tsat:∀ (j:Nat) (b:Addr),as[j]? = some b->∃ k v u t,ns[j]? = some k/\kvs[j]? = some (.inl k,v)/\ts[j]? = some [V.int k,v]/\RelV v u/\h'.get? b=some { cls:=.type "tuple",data:=.seq #[.int k t,u] }:=fun j b eb=>by
  obtain ⟨k,t,u,e1,e2,e3⟩:=at_ j b eb
  obtain ⟨v,e4,e5⟩:=xj kvs vs j _ u rel e2
  have hj:j<ns.length:=(List.getElem?_eq_some_iff.mp e1).1
  refine ⟨k,v,u,t,e1,e4,?_,e5,e3⟩
  rw [<- hts,List.getElem?_map,List.getElem?_range hj]
  show some [V.int (ns.getD j 0),((kvs[j]?).map (·.2)).getD V.non]=_
  rw [e4,List.getD_eq_getElem?_getD,e1]; rfl
 have ext:∀ b,H1 b≠none->(fun b=>if H1 b≠none then H1 b else if b=h'.objs.size then some (HO.lst (q'.toList.map fun i=>V.ref (as.getD i 0))) else uD as ts b) b=H1 b:=fun b hb=>if_pos hb
 have le1:s1.heap.objs.size<=h'.objs.size:=by
  have v:=hk' s1.heap.objs.size _ (Heap.get?_push_size _ rfl)
  exact Nat.le_of_lt (Heap.lt_size v)
 have qlt:∀ i∈q'.toList,i<ns.length:=fun i hi=>List.mem_range.mp (hp.perm.mem_iff.mp hi)
 have gv:∀ i,i<ns.length->(as.map Value.ref).getD i Value.none=Value.ref (as.getD i 0):=fun i hi=>by
  rw [List.getD_eq_getElem?_getD,List.getElem?_map,List.getD_eq_getElem?_getD,List.getElem?_eq_getElem (by rw [hasn]; exact hi)]
  rfl
 have L:=uY (h':=sortedHeap (h'.push (seqObj "list" (as.map Value.ref).toArray 0)) h'.objs.size (as.map Value.ref) out) (t':=tk) I1 (fun b o eo=>kp b o (hk' b o (Heap.get?_push_of_some _ eo))) ext fun b o nb eb=>by
  simp only [nb,ne_eq,not_true,if_false] at eb
  split at eb
  ·rename_i ebs
   subst ebs
   cases eb
   refine ⟨le1,show ObjOk X.prog X.w _ _ _ (.lst (q'.toList.map fun i=>V.ref (as.getD i 0))) from ⟨by rw [List.length_map,Array.length_toList,hp.size,sizeLine_eq]; omega,out.toList,_,?_,by rw [Array.toArray_toList]; exact ho3⟩⟩
   rw [<- hout]
   show Vals _ (q'.toList.map fun i=>(as.map Value.ref).getD i Value.none)
   have key:∀ l:List Nat,(∀ i∈l,i<ns.length)->Vals (l.map fun i=>V.ref (as.getD i 0)) (l.map fun i=>(as.map Value.ref).getD i Value.none):=fun l=>by
    induction l with
    | nil=>intro _; exact .nil
    | cons x l ih=>
     intro hx
     exact .cons (gv x (hx x List.mem_cons_self)) (ih fun i hi=>hx i (List.mem_cons_of_mem _ hi))
   exact key _ qlt
  ·obtain ⟨j,t,h1',h2',rfl⟩:=mx eb
   obtain ⟨_,_,g⟩:=fr j b h1'
   obtain ⟨k,v,u,tt,_,_,e3,e4,e5⟩:=tsat j b h1'
   rw [e3] at h2'
   cases h2'
   exact ⟨g,show ObjOk X.prog X.w _ _ _ (.tup [V.int k,v]) from ⟨by rw [sizeLine_eq]; show 2<=16777216; decide,[.int k tt,u],.cons ⟨tt,rfl⟩ (.cons e4 .nil),⟨_,kp b _ e5,rfl,_,rfl⟩,_,kp b _ e5,rfl⟩⟩
 refine ⟨.ref h'.objs.size,_,L,rfl,q _ _ as q' ext hD hp hu hasn (by simp [hD]) fun j b eb=>?_⟩
 obtain ⟨g1,g2,g3⟩:=fr j b eb
 obtain ⟨k,v,u,tt,e1,e2,e3,_,_⟩:=tsat j b eb
 exact ⟨g1,k,v,e1,e2,by simp only [g1,ne_eq,not_true,if_false]; rw [if_neg g2]; exact pF hG.rise eb e3⟩
theorem u9 (i:Nat) {x:Str} {p3:Pos} (hg:Gl X "sorted") (hm:X.mg "sorted" = none) (hc:X.calm=true:=by rfl) (hN:X.N[i]? = some x:=by rfl) (hv:vt X.env.scope x:=by first | exact Or.inl rfl | exact Or.inr (Or.inl rfl) | exact Or.inr (Or.inr rfl)) (hd:(x==("__debug__":Str))=false:=by decide) (hcd:(x==("__classdict__":Str))=false:=by decide)
  (hbase:attributeBase (.Name x p3) "items" X.env (eval (.Name x p3) X.env)=eval (.Name x p3) X.env:=by rfl) (hline:(apos.endLine==cpos.line)=true:=by rfl)
  (he:starEach [.Call (.Attribute (.Name x p3) "items" apos) [] [] cpos] X.env=(false,eval (.Call (.Attribute (.Name x p3) "items" apos) [] [] cpos) X.env)::starEach [] X.env:=by rfl) (hpl:(backTo pos (starEach [] X.env)).any (·.1)=false:=by rfl) :
  EV X (.Call (.Name "sorted" p) [.Call (.Attribute (.Name x p3) "items" apos) [] [] cpos] [] pos) (ix i):=
 PE.imp (uF hc hg hm (eG hN hv hd hcd) hbase hline he hpl) fun σ H Q h=>by
  obtain ⟨H₀,Z₀,Z,δ,d,hh,e,k⟩:=h
  obtain ⟨es,e1,e⟩:=bind_some e
  obtain ⟨l,e2,e⟩:=bind_some e
  obtain ⟨⟨h64,nd⟩,e⟩:=ce e
  cases e
  obtain ⟨a,kvs,h1,h4,h5⟩:=kG hh e1
  have hkl:kvs.map (·.1)=l.map Sum.inl:=by rw [<- h5.1]; exact gg e2
  refine ⟨_,h1,a,kvs,l,rfl,h4,hkl,h64,nd,fun H' lo as q' ext hl hp hu hal hl' hpr=>?_⟩
  have n:=New.many (Z:=Z) (H':=H') hh.zh ext
  refine k _ _ _ (hh.new n) n.z (.lst (SqL.of (by rw [if_pos hl,hl']; rfl)) ?_)
  have ei:br l=q'.toList.map fun i=>l.getD i 0:=by
   refine (jl ?_ ?_).symm
   ·have:=hp.perm.map fun i=>l.getD i 0
    have e:((List.range l.length).map fun i=>l.getD i 0)=l:=by
     apply List.ext_getElem?
     intro j
     by_cases hj:j<l.length
     ·rw [List.getElem?_map,List.getElem?_range hj,List.getElem?_eq_getElem hj]
      show some (l.getD j 0)=_
      rw [List.getD_eq_getElem?_getD,List.getElem?_eq_getElem hj]; rfl
     ·rw [List.getElem?_eq_none (by simp; omega),List.getElem?_eq_none (by omega)]
    rw [e] at this
    exact this
   ·rw [List.pairwise_map,List.pairwise_iff_getElem]
    intro i j hi hj hij
    have hz:=hp.size
    have:=hu i j hij (by rw [Array.length_toList,hz] at hj; exact hj)
    unfold ky at this
    have e1:q'.getD i 0=q'.toList[i]:=by simp [Array.getD,show i<q'.size by simpa using hi]
    have e2:q'.getD j 0=q'.toList[j]:=by simp [Array.getD,show j<q'.size by simpa using hj]
    rw [e1,e2] at this
    exact Int.le_of_lt this
  unfold rh
  rw [ei,List.map_map]
  have qlt:∀ i∈q'.toList,i<l.length:=fun i hi=>List.mem_range.mp (hp.perm.mem_iff.mp hi)
  have key:∀ u:List Nat,(∀ i∈u,i<l.length)->Reps X.K (fun b=>if H b=none then DD (H' b) else Z b) (u.map fun i=>V.ref (as.getD i 0)) (u.map ((fun k=>PyData.tuple [.int k,(ee es (.inl k)).getD .none]) ∘ fun i=>l.getD i 0)):=fun u=>by
   induction u with
   | nil=>intro _; exact .nil
   | cons i u ih=>
    intro hx
    refine .cons ?_ (ih fun j hj=>hx j (List.mem_cons_of_mem _ hj))
    have hi:=hx i List.mem_cons_self
    have eb:as[i]? = some (as.getD i 0):=by rw [List.getD_eq_getElem?_getD,List.getElem?_eq_getElem (by rw [hal]; exact hi)]; rfl
    obtain ⟨g1,k',v,g2,g3,g4⟩:=hpr i _ eb
    have el:l.getD i 0=k':=by rw [List.getD_eq_getElem?_getD,g2]; rfl
    have hkv:(kvs.map (·.2))[i]? = some v:=by rw [List.getElem?_map,g3]; rfl
    obtain ⟨d,q1,q2⟩:=h5.2.getV hkv
    have hek:(es.map (·.1))[i]? = some (.inl k'):=by rw [h5.1,List.getElem?_map,g3]; rfl
    have hes:es[i]? = some (.inl k',d):=by
     rw [List.getElem?_map] at q1 hek
     cases e:es[i]? with
     | none=>rw [e] at q1; cases q1
     | some z=>
      rw [e] at q1 hek
      obtain ⟨z1,z2⟩:=z
      have hek:z1=.inl k':=by simpa using hek
      have q1:z2=d:=by simpa using q1
      rw [hek,q1]
    have hgt:ee es (.inl k')=some d:=tI (by rw [gg e2]; exact CK nd) hes
    show Rep _ _ _ (.tuple [.int (l.getD i 0),(ee es (.inl (l.getD i 0))).getD .none])
    rw [el,hgt]
    exact .tup (SqT.of (by rw [if_pos g1,g4]; rfl)) (.cons (.int k') (.cons (q2.same n.z) .nil))
  exact key _ qlt
end
end VL
set_option Elab.async false
set_option linter.all false
set_option maxRecDepth 100000
set_option maxHeartbeats 4000000
namespace VL
open PySem PySem.Spec PyProof.Rows L2
theorem nW:typeLookup (.type "tuple") "keys" = pure none:=by rw [typeLookup_type,builtinLookup_eq_fast]; kernel_rfl
theorem pQ:typeLookup (.type "list") "keys" = pure none:=by rw [typeLookup_type,builtinLookup_eq_fast]; kernel_rfl
section
variable {prog:Program} {w:World} {A:Around} {E:Value->Shared->Prop} {s:Shared}
theorem jL {a:Addr} {o:Obj} {xs:Array Value} {k:Nat} {Q:Option Value->Shared->Prop} (hx:s.heap.get? a=some o) (hc:o.cls=.type "tuple") (hdat:o.data=.seq xs k) (hd:o.dict=none) (hA:A.handled=none)
  (h:∀ h' tk,(∀ b o,s.heap.get? b=some o->h'.get? b=some o)->Q none { s with heap:=h',toks:=tk }):wpAny (model prog w) A (getAttr? (.ref a) "keys") Q E s:=by
 obtain ⟨c,dct,dat,sl⟩:=o
 simp only at hc hdat hd
 subst hc hdat hd
 obtain ⟨hp,g,d,tk,os⟩:=s
 have hT:∀ tk',(⟨hp,g,d,tk',os⟩:Shared).TypeIs (.ref a) "tuple":=fun _=>⟨_,hx,rfl⟩
 have f1:=sub_AttributeError
 have f3:=PySem.F.slot_tuple_getattribute.lookup
 have f4:=PySem.F.slot_tuple_getattribute.bind (.ref a)
 have f5:=am_tuple_getattr_none
 unfold getAttr? getAttrBy? getAttrBy
 repeat (any_goals (first | assumption | exact hT _ | ((with_reducible show wpAny _ _ (call (Value.builtin "tuple.__getattribute__") _ _) _ _ _); refine call_meets PySem.F.slot_tuple_getattribute (hT _) am_entry_tuple_getattribute (PySem.F.args_tuple_getattribute_2 _ _) (meets_getattribute_miss_tuple a xs k sl "keys" _ nW (by decide +kernel) (by decide +kernel)) ⟨hx,hA,fun h' tk' e hx'=>?_⟩) | wp_step))
 obtain ⟨t',u',he⟩:=hx'.there
 show wpAny _ _ (getattributeRaised _ _ _ _ _ _ _) _ _ _
 unfold getattributeRaised
 repeat (any_goals (first | assumption | wp_step))
 exact h h' tk' hx'.of.keeps
theorem kS {a:Addr} {o:Obj} {xs:Array Value} {k:Nat} {Q:Option Value->Shared->Prop} (hx:s.heap.get? a=some o) (hc:o.cls=.type "list") (hdat:o.data=.seq xs k) (hd:o.dict=none) (hA:A.handled=none)
  (h:∀ h' tk,(∀ b o,s.heap.get? b=some o->h'.get? b=some o)->Q none { s with heap:=h',toks:=tk }):wpAny (model prog w) A (getAttr? (.ref a) "keys") Q E s:=by
 obtain ⟨c,dct,dat,sl⟩:=o
 simp only at hc hdat hd
 subst hc hdat hd
 obtain ⟨hp,g,d,tk,os⟩:=s
 have hT:∀ tk',(⟨hp,g,d,tk',os⟩:Shared).TypeIs (.ref a) "list":=fun _=>⟨_,hx,rfl⟩
 have f1:=sub_AttributeError
 have f3:=PySem.F.slot_list_getattribute.lookup
 have f4:=PySem.F.slot_list_getattribute.bind (.ref a)
 have f5:=am_list_getattr_none
 unfold getAttr? getAttrBy? getAttrBy
 repeat (any_goals (first | assumption | exact hT _ | ((with_reducible show wpAny _ _ (call (Value.builtin "list.__getattribute__") _ _) _ _ _); refine call_meets PySem.F.slot_list_getattribute (hT _) am_entry_list_getattribute (PySem.F.args_list_getattribute_2 _ _) (meets_getattribute_miss_list a xs k sl "keys" _ pQ (by decide +kernel) (by decide +kernel)) ⟨hx,hA,fun h' tk' e hx'=>?_⟩) | wp_step))
 obtain ⟨t',u',he⟩:=hx'.there
 show wpAny _ _ (getattributeRaised _ _ _ _ _ _ _) _ _ _
 unfold getattributeRaised
 repeat (any_goals (first | assumption | wp_step))
 exact h h' tk' hx'.of.keeps
end
theorem gj:entryFor table "dict.update.loop" = some Builtin.«dict.update.loop»:=entryFor_of_tree (by kernel_rfl)
theorem b8:plainId "dict.update.loop" = true:=by decide +kernel
noncomputable def yg (kvs:List (aE×Value)) (ps:List (aE×Value)):List (aE×Value):=ps.foldl (fun acc p=>stored acc p.1 p.2) kvs
theorem qH (kvs:List (aE×Value)) (k:aE) (v:Value):(stored kvs k v).length<=kvs.length+1:=by
 unfold stored
 split
 ·rw [List.length_map]; omega
 ·simp
section
variable {prog:Program} {w:World} {A:Around} {R:Result->Shared->Prop} {I:Addr} {fp wr:List Addr} {G:Array GenState->Array GenState->Prop} {n:Nat} {P:Nat->Value->Prop} {St:Nat->Shared->Prop}
theorem oU (W:WalksS prog w A.in1 I fp wr G n P St) (S:Addr) (hSf:S ∉ fp) (res:Value) (ps:List (aE×Value)) (hn:ps.length=n) (hz:n<=100000) {h₁:Heap}
  (hP:∀ i v,P i v->∃ b key k u,v=.ref b/\b≠S/\b ∉ wr/\ps[i]? = some (k,u)/\(aD prog w).is k key=true/\IsTup h₁ b #[key,u]) :
  ∀ (m i:Nat) (s:Shared) (kvs:List (aE×Value)),n-i=m->i<=n->St i s->s.heap.DictOf (aD prog w) S kvs->kvs.length<=i->(∀ b o,b≠S->b ∉ wr->h₁.get? b=some o->s.heap.get? b=some o) ->
   (∀ s',Moved (S::wr) G s s'->s'.heap.DictOf (aD prog w) S (yg kvs (ps.drop i))->R (.ok (.ret res)) s') ->
   codeAny (model prog w) A (.builtin "dict.update.loop" ⟨[.ref S,.ref I,rawInt i,res],[]⟩) R s:=by
 have hSw:S ∉ wr:=fun h=>hSf (W.sub _ h)
 have hsub:∀ b∈wr,b∈S::wr:=fun b hb=>List.mem_cons_of_mem _ hb
 intro m
 induction m with
 | zero=>
  intro i s kvs hk hi hst hS hl hkp hR
  have hin:i=n:=by omega
  subst hin
  refine codeAny_builtin gj ?_
  rw [Around.under_plainId b8 _]
  show wpAny _ A.in1 (pyNext (.ref I) >>= _) _ _ s
  refine wpAny_bind (W.done s _ _ hst fun s' hm=>?_)
  show wpAny _ A.in1 (Builtin.Dict.addKeywords S [] >>= _) _ _ _
  refine wpAny_bind (wpAny_pure (wpAny_pure (hR s' (hm.mono hsub) ?_)))
  rw [List.drop_of_length_le (by omega)]
  obtain ⟨o,es,ep,ho,r⟩:=hS
  exact ⟨o,es,ep,hm.heap S _ hSw ho,r⟩
 | succ m ih=>
  intro i s kvs hk hi hst hS hl hkp hR
  have hlt:i<n:=by omega
  refine codeAny_builtin gj ?_
  rw [Around.under_plainId b8 _]
  show wpAny _ A.in1 (pyNext (.ref I) >>= _) _ _ s
  refine wpAny_bind (W.item i s _ _ hlt hst fun v s' hv hst' hm=>?_)
  obtain ⟨b,key,k,u,rfl,hbS,hbw,hpi,hkey,o,hb,hbc,nn,hbd⟩:=hP i v hv
  have hb':=hm.heap b _ hbw (hkp b _ hbS hbw hb)
  have hS':s'.heap.DictOf (aD prog w) S kvs:=by
   obtain ⟨o,es,ep,ho,r⟩:=hS
   exact ⟨o,es,ep,hm.heap S _ hSw ho,r⟩
  refine wpAny_bind (wpAny_holding ?_)
  refine wpAny_bind (wpAny_tryCatch ?_)
  unfold Builtin.Dict.pairItems
  refine wpAny_bind (wpAny_typeOf (T:="tuple") ⟨o,hb',hbc⟩ ?_)
  rw [if_pos (by decide)]
  refine wpAny_bind (wpAny_seqItems hb' hbd (wpAny_pure ?_))
  show wpAny _ A.in1 (holding [key,u] (dictSet S key u)) _ _ _
  refine wpAny_holding (wpAny_dictSet_pairs (hsz:=by rw [sizeLine_eq]; omega) hkey hS' fun h' hD hs=>?_)
  have hc:((i:Int)+1)=((i+1:Nat):Int):=by push_cast; rfl
  show wpAny _ A.in1 (again (.builtin "dict.update.loop" ⟨[.ref S,.ref I,rawInt ((i:Int)+1),res],[]⟩)) _ _ _
  rw [hc]
  refine wpAny_pure ⟨plainId_quiet b8 _,ih (i+1) _ (stored kvs k u) (by omega) hlt (W.frame _ s' _ _ hst' (Nat.le_succ _) fun b hb o e=>hs.extBut b o (fun z=>hSf (z ▸ hb)) e) hD (by have:=qH kvs k u; omega) (fun b o h1 h2 e=>hs.extBut b o h1 (hm.heap b o h2 (hkp b o h1 h2 e))) fun s'' hm'' hD''=>?_⟩
  refine hR s'' (Moved.trans W.gtrans ((hm.mono hsub).then_heap (Nat.le_succ _) fun b o hb e=>hs.extBut b o (fun z=>hb (by rw [z]; exact List.mem_cons_self)) e) hm'') ?_
  have e:ps.drop i=(k,u)::ps.drop (i+1):=by
   obtain ⟨hx,hy⟩:=List.getElem?_eq_some_iff.mp hpi
   rw [List.drop_eq_getElem_cons hx,hy]
  rw [e]
  exact hD''
end
end VL
set_option Elab.async false
set_option linter.all false
set_option maxRecDepth 100000
set_option maxHeartbeats 4000000
namespace VL
open PySem PySem.Spec PyProof.Rows L2
section
variable {prog:Program} {w:World} {A:Around} {E:Value->Shared->Prop} {s:Shared} {α:Type}
end
noncomputable def Soft (X:Cx):Prop:=∃ x ob u vs,X.A.handled=some (.ref x)/\X.H₀ x=some (.frz ob u)/\ob.data=.fields vs/\vs[2]? = some .none
theorem Soft.blk {X:Cx} {pins:List (Addr×Obj)} {σ:St} {H:Hp} {s:Shared} {scope:Scope} {N:List Str} {C:Addr} {ex:List Addr} (I:Inv X pins σ H s) (h:Soft X):Soft (blk X scope N C s H ex):=by
 obtain ⟨x,ob,u,vs,h1,h2,h3,h4⟩:=h
 exact ⟨x,ob,u,vs,h1,I.base.frzs x ob u h2,h3,h4⟩
theorem Soft.at {X:Cx} {pins:List (Addr×Obj)} {σ:St} {H:Hp} {s:Shared} (I:Inv X pins σ H s) (h:Soft X):∃ x ob vs,X.A.handled=some (.ref x)/\s.heap.get? x=some ob/\ob.data=.fields vs/\vs[2]? = some .none:=by
 obtain ⟨x,ob,u,vs,h1,h2,h3,h4⟩:=h
 exact ⟨x,ob,vs,h1,(I.hok x _ (I.base.frzs x ob u h2)).1,h3,h4⟩
section
variable {X:Cx} {tg:Expr}
noncomputable def HV (X:Cx) (pins:List (Addr×Obj)) (σ:St) (tg:Expr) (R:It->Hp->Prop) (itv:Value) (s2:Shared):Prop:=
 ∃ (it:Addr) (fp:List Addr) (tn:Nat->Heap->Prop) (J:It) (H':Hp),itv=.ref it/\Inv X pins σ H' s2/\TurnG Soft X.prog X.w X.K tg J fp it tn/\tn 0 s2.heap/\(∀ b∈fp,gH X pins H' b)/\R J H'
noncomputable def PIS (X:Cx) (tg iter:Expr) (wi:TI):Prop:=
 ∀ (pins:List (Addr×Obj)) (s:Shared) (σ:St) (H:Hp) (R:It->Hp->Prop),Inv X pins σ H s->wi σ H R ->
  wpAny (model X.prog X.w) X.A (eval iter X.env) (fun v s1=>wpAny (model X.prog X.w) X.A (pyIter v) (HV X pins σ tg R) X.xe s1) X.xe s
theorem PIS.imp {iter:Expr} {t t':TI} (h:PIS X tg iter t) (i:∀ σ H R,t' σ H R->t σ H R):PIS X tg iter t':=fun pins s σ H R I q=>h pins s σ H R I (i _ _ _ q)
end
section
variable {X:Cx} {scope:Scope} {vars:List Str} {caps:List (Nat×Str)} {elt tg iter cnd:Expr} {pos:Pos} {g:TG} {fi:Dv->Option (List D)} {ft:Dv->Option Bool} {fe:Dv->Option D} {bv:D->Option (List D)}
end
structure RoomS (k:Nat) (A:Around):Prop where
 dp:A.depth+3*k+5<recursionLimit
 un:A.units+16*k+200<cLine
theorem RoomS.deeper {k:Nat} {A:Around} (r:RoomS (k+1) A) (env:Env):RoomS k (A.deeper env):=
 ⟨by have:=r.dp; show A.depth+1+3*k+5<_; omega,by have:=r.un; show A.units+3+16*k+200<_; omega⟩
theorem RoomS.depth {k:Nat} {A:Around} (r:RoomS k A):A.depth<recursionLimit:=by have:=r.dp; omega
theorem RoomS.units {k:Nat} {A:Around} (r:RoomS k A):A.units+64<cLine:=by have:=r.un; omega
structure FnS (P:Program) (w:World) (K:PySem.W.Frag) (mg:Str->Option Value) (base:Heap) (k:Nat) (f:Addr) (fd:FuncData) (ps:List Str) (g:List D->Option D):Prop where
 len:∀ as d,g as=some d->as.length=ps.length
 run:∀ (A:Around) (outer:List Env) (s:Shared) (H:Hp) (args:Args) (us:List Value) (vs:List V) (Q:VK) (x:Addr) (ob:Obj) (u:HO) (fl:Array Value),RoomS k A->Env0 P w K mg base A outer s H->A.handled=some (.ref x)->H x=some (.frz ob u)->ob.data=.fields fl->fl[2]? = some .none ->
  BindsTo s fd args (ps.zip us)->Vals vs us->uz K g vs H Q->codeAny (model P w) A (.call (.ref f) args) (fun r s'=>match r with | .ok (.ret u)=>CE outer P w H s Q u s' | _=>False) s
section
variable {P:Program} {w:World} {K:PySem.W.Frag} {mg:Str->Option Value} {base:Heap}
structure CalS (P:Program) (w:World) (K:PySem.W.Frag) (mg:Str->Option Value) (base:Heap) (x:Str) (k:Nat) (g:List D->Option D):Prop where
 ex:∃ (fa:Addr) (fd:FuncData) (ps:List Str),FnS P w K mg base k fa fd ps g/\mg x=some (.ref fa)/\PySem.W.keepIn K (.ref fa)=true/\Binds K fd ps []
end
section
variable {X:Cx} {body:List Stmt} {b:Sf} {bx:Xf} {np hpos pos:Pos}
end
section
variable {P:Program} {w:World} {K:PySem.W.Frag} {mg:Str->Option Value} {base h:Heap} {x y:Str} {st:Stmt} {k:Nat} {ps:List Str}
end
end VL
set_option Elab.async false
set_option linter.all false
set_option maxRecDepth 100000
set_option maxHeartbeats 4000000
namespace VL
open PySem PySem.Spec PyProof.Rows L2
section
variable {K:Fg} {Z:Hp} {a:Addr} {ys:List V} (ha:Z a=some (.lst ys))
include ha
end
section
variable {K:Fg} {H₀ Z₀ Z H:Hp} {δ:Dv} {σ:St}
end
section
variable {X:Cx} {e c:Expr} {st:Stmt} {sts:List Stmt} {s1 s2:Sf} {f:Dv->Option D} {p pos apos:Pos}
end
section
variable {P:Program} {w:World} {K:PySem.W.Frag} {mg:Str->Option Value} {base:Heap}
end
end VL
set_option Elab.async false
set_option linter.all false
set_option maxRecDepth 100000
set_option maxHeartbeats 4000000
namespace VL
open PySem PySem.Spec PyProof.Rows L2
noncomputable def NoL (K:Fg):Prop:=∀ a o,K.lookup a=some o->o.cls≠.type "list"
noncomputable def HF:Value->Bool
 | .type s=>s == "list"
 | _=>false
theorem NoL.of {K:Fg} (h:(List.all K fun p=>!HF p.2.cls)=true):NoL K:=fun a o e hc=>by
 have m:∃ b,(b,o)∈K:=by
  clear h
  induction K with
  | nil=>cases e
  | cons q K ih=>
   obtain ⟨b,o'⟩:=q
   rw [List.lookup_cons] at e
   split at e
   ·cases e; exact ⟨b,List.mem_cons_self⟩
   ·obtain ⟨c,hm⟩:=ih e; exact ⟨c,List.mem_cons_of_mem _ hm⟩
 obtain ⟨b,m⟩:=m
 have:=List.all_eq_true.mp h _ m
 dsimp only at this
 rw [hc] at this
 cases this
section
variable {K:Fg} {H₀ Z₀ Z H:Hp} {δ:Dv} {σ:St}
end
section
variable {X:Cx} {e c b:Expr} {es:List Expr} {sts:List Stmt} {s2:Sf} {fk fv:Dv->Option D} {fs:Dv->Option (List D)} {ft:Dv->Option Bool} {p pos pos1 tpos:Pos}
end
end VL
set_option Elab.async false
set_option linter.all false
set_option maxRecDepth 100000
set_option maxHeartbeats 4000000
namespace VL
open PySem PySem.Spec PyProof.Rows L2
section
variable {prog:Program} {w:World} {A:Around} {E:Value->Shared->Prop} {s:Shared}
theorem jQ {t:Addr} {items:Array Value} {ps:List (aE×Value)} {Q:Value->Shared->Prop} (ht:IsTup s.heap t items) (hnd:NoDi s.heap t) (hh:A.handled=none) (hn:ps.length=items.size) (hz:items.size<=100000)
  (hP:∀ (i:Nat) (v:Value),items[i]? = some v->∃ b key k u,v=.ref b/\ps[i]? = some (k,u)/\(aD prog w).is k key=true/\IsTup s.heap b #[key,u])
  (h:∀ s':Shared,(∀ b o,s.heap.get? b=some o->s'.heap.get? b=some o)->s'.gens=s.gens->s'.drawn=s.drawn->s'.os=s.os->s'.heap.DictOf (aD prog w) s.heap.objs.size (yg [] ps)->Q (.ref s.heap.objs.size) s') :
  wpAny (model prog w) A (call (.type "dict") [.ref t]) Q E s:=by
 refine callType_codes (Q₁:=fun obj s₁=>obj=.ref s.heap.objs.size/\s₁ = { s with heap:=s.heap.push { cls:=.type "dict",data:=.dict #[] } }) PySem.F.kt_called_dict (PySem.F.kt_typeCall_dict_1 _) PySem.F.entry_dict_init (kt_code_dict_new _ ⟨rfl,rfl⟩) ?_
 rintro obj s₁ ⟨rfl,rfl⟩
 have hnew:(s.heap.push { cls:=.type "dict",data:=.dict #[] }).DictOf (aD prog w) s.heap.objs.size []:=Heap.DictOf.new s.heap
 refine ⟨hnew.typeIs,PySem.F.args_dict_init_2 _ _,?_⟩
 unfold Builtin.«dict.__init__»
 refine wpAny_bind ?_
 unfold Builtin.Dict.selfAndRest
 refine wpAny_bind (wpAny_notOrdered_dict hnew.typeIs ?_)
 show wpAny _ _ (pure (s.heap.objs.size,[Value.ref t])) _ _ _
 refine wpAny_pure ?_
 show wpAny _ _ (Builtin.Dict.updateFrom "dict.__init__" s.heap.objs.size (.ref t) [] .none) _ _ _
 unfold Builtin.Dict.updateFrom
 obtain ⟨o,ho,hc,n0,hd⟩:=ht
 obtain ⟨o',ho',hdn⟩:=hnd
 rw [ho] at ho'
 cases ho'
 have ho1:=Heap.get?_push_of_some { cls:=.type "dict",data:=.dict #[] } ho
 refine wpAny_bind (wpAny_typeOf (T:="tuple") ⟨o,ho1,hc⟩ ?_)
 rw [if_pos (by decide)]
 refine wpAny_bind (jL ho1 hc hd hdn hh fun h' tk keep=>?_)
 rw [if_pos (show (none:Option Value).isNone=true from rfl)]
 refine wpAny_bind (wpAny_rule ?_)
 have ht1:h'.IsTuple t items:=⟨o,keep _ _ ho1,hc,n0,hd⟩
 refine wpAny_bind (wpAny_pyIter_tuple ht1 ?_)
 have hD1:h'.DictOf (aD prog w) s.heap.objs.size []:=by
  obtain ⟨o2,es,ep,e2,r2⟩:=hnew
  exact ⟨o2,es,ep,keep _ _ e2,r2⟩
 have old:∀ {b:Addr} {o:Obj},s.heap.get? b=some o->h'.get? b=some o:=fun {b o} e=>keep _ _ (Heap.get?_push_of_some _ e)
 have lt0:∀ {b:Addr} {o:Obj},s.heap.get? b=some o->b≠s.heap.objs.size:=fun {b o} e=>Nat.ne_of_lt (Heap.lt_size e)
 have lt1:∀ {b:Addr} {o:Obj},h'.get? b=some o->b≠h'.objs.size:=fun {b o} e=>Nat.ne_of_lt (Heap.lt_size e)
 have hSI:s.heap.objs.size≠h'.objs.size:=by
  obtain ⟨o2,es,ep,e2,r2⟩:=hD1
  exact lt1 e2
 have W:=(Walks.tuple (prog:=prog) (w:=w) (A:=A.in1.in1) hh h'.objs.size t (lt1 (old ho)) items).toS
 refine wpAny_pure ⟨plainId_quiet b8 _,?_⟩
 refine oU W s.heap.objs.size (by simp [hSI]; exact fun z=>lt0 ho z.symm) .none ps hn hz (h₁:=h'.push { cls:=.type "tuple_iterator",data:=.fields #[.ref t,.int 0 0] }) (fun i v e=>?_) items.size 0 _ [] rfl (Nat.zero_le _) ⟨?_,?_⟩ ?_ (Nat.zero_le _) (fun b o _ _ e=>e) fun s' mv dd=>?_
 ·obtain ⟨b,key,k,u,rfl,h1,h2,o3,h3,h4⟩:=hP i v e
  exact ⟨b,key,k,u,rfl,lt0 h3,by simp; exact lt1 (old h3),h1,h2,o3,Heap.get?_push_of_some _ (old h3),h4⟩
 ·exact ⟨_,Heap.get?_push_size _ rfl,rfl,rfl⟩
 ·exact ⟨o,Heap.get?_push_of_some _ (keep _ _ ho1),hc,n0,hd⟩
 ·obtain ⟨o2,es,ep,e2,r2⟩:=hD1
  exact ⟨o2,es,ep,Heap.get?_push_of_some _ e2,r2⟩
 ·refine ⟨rfl,h s' (fun b o e=>mv.heap b o (by simp; exact ⟨lt0 e,lt1 (old e)⟩) (Heap.get?_push_of_some _ (old e))) mv.gens mv.drawn mv.os ?_⟩
  simpa using dd
theorem jq {t:Addr} {items:Array Value} {ps:List (aE×Value)} {Q:Value->Shared->Prop} (ht:PlainL s.heap t items) (hh:A.handled=none) (hn:ps.length=items.size) (hz:items.size<=100000)
  (hP:∀ (i:Nat) (v:Value),items[i]? = some v->∃ b key k u,v=.ref b/\ps[i]? = some (k,u)/\(aD prog w).is k key=true/\IsTup s.heap b #[key,u])
  (h:∀ s':Shared,(∀ b o,s.heap.get? b=some o->s'.heap.get? b=some o)->s'.gens=s.gens->s'.drawn=s.drawn->s'.os=s.os->s'.heap.DictOf (aD prog w) s.heap.objs.size (yg [] ps)->Q (.ref s.heap.objs.size) s') :
  wpAny (model prog w) A (call (.type "dict") [.ref t]) Q E s:=by
 refine callType_codes (Q₁:=fun obj s₁=>obj=.ref s.heap.objs.size/\s₁ = { s with heap:=s.heap.push { cls:=.type "dict",data:=.dict #[] } }) PySem.F.kt_called_dict (PySem.F.kt_typeCall_dict_1 _) PySem.F.entry_dict_init (kt_code_dict_new _ ⟨rfl,rfl⟩) ?_
 rintro obj s₁ ⟨rfl,rfl⟩
 have hnew:(s.heap.push { cls:=.type "dict",data:=.dict #[] }).DictOf (aD prog w) s.heap.objs.size []:=Heap.DictOf.new s.heap
 refine ⟨hnew.typeIs,PySem.F.args_dict_init_2 _ _,?_⟩
 unfold Builtin.«dict.__init__»
 refine wpAny_bind ?_
 unfold Builtin.Dict.selfAndRest
 refine wpAny_bind (wpAny_notOrdered_dict hnew.typeIs ?_)
 show wpAny _ _ (pure (s.heap.objs.size,[Value.ref t])) _ _ _
 refine wpAny_pure ?_
 show wpAny _ _ (Builtin.Dict.updateFrom "dict.__init__" s.heap.objs.size (.ref t) [] .none) _ _ _
 unfold Builtin.Dict.updateFrom
 obtain ⟨o,n0,ho,hc,hdn,hd⟩:=ht
 have ho1:=Heap.get?_push_of_some { cls:=.type "dict",data:=.dict #[] } ho
 refine wpAny_bind (wpAny_typeOf (T:="list") ⟨o,ho1,hc⟩ ?_)
 rw [if_pos (by decide)]
 refine wpAny_bind (kS ho1 hc hd hdn hh fun h' tk keep=>?_)
 rw [if_pos (show (none:Option Value).isNone=true from rfl)]
 refine wpAny_bind (wpAny_rule ?_)
 have ht1:h'.IsList t items:=⟨o,keep _ _ ho1,hc,n0,hd⟩
 refine wpAny_bind (wpAny_pyIter_list ht1 ?_)
 have hD1:h'.DictOf (aD prog w) s.heap.objs.size []:=by
  obtain ⟨o2,es,ep,e2,r2⟩:=hnew
  exact ⟨o2,es,ep,keep _ _ e2,r2⟩
 have old:∀ {b:Addr} {o:Obj},s.heap.get? b=some o->h'.get? b=some o:=fun {b o} e=>keep _ _ (Heap.get?_push_of_some _ e)
 have lt0:∀ {b:Addr} {o:Obj},s.heap.get? b=some o->b≠s.heap.objs.size:=fun {b o} e=>Nat.ne_of_lt (Heap.lt_size e)
 have lt1:∀ {b:Addr} {o:Obj},h'.get? b=some o->b≠h'.objs.size:=fun {b o} e=>Nat.ne_of_lt (Heap.lt_size e)
 have hSI:s.heap.objs.size≠h'.objs.size:=by
  obtain ⟨o2,es,ep,e2,r2⟩:=hD1
  exact lt1 e2
 have W:=(Walks.list (prog:=prog) (w:=w) (A:=A.in1.in1) hh h'.objs.size t (lt1 (old ho)) items).toS
 refine wpAny_pure ⟨plainId_quiet b8 _,?_⟩
 refine oU W s.heap.objs.size (by simp [hSI]; exact fun z=>lt0 ho z.symm) .none ps hn hz (h₁:=h'.push { cls:=.type "list_iterator",data:=.fields #[.ref t,.int 0 0] }) (fun i v e=>?_) items.size 0 _ [] rfl (Nat.zero_le _) ⟨?_,?_⟩ ?_ (Nat.zero_le _) (fun b o _ _ e=>e) fun s' mv dd=>?_
 ·obtain ⟨b,key,k,u,rfl,h1,h2,o3,h3,h4⟩:=hP i v e
  exact ⟨b,key,k,u,rfl,lt0 h3,by simp; exact lt1 (old h3),h1,h2,o3,Heap.get?_push_of_some _ (old h3),h4⟩
 ·exact ⟨_,Heap.get?_push_size _ rfl,rfl,rfl⟩
 ·exact ⟨o,Heap.get?_push_of_some _ (keep _ _ ho1),hc,n0,hd⟩
 ·obtain ⟨o2,es,ep,e2,r2⟩:=hD1
  exact ⟨o2,es,ep,Heap.get?_push_of_some _ e2,r2⟩
 ·refine ⟨rfl,h s' (fun b o e=>mv.heap b o (by simp; exact ⟨lt0 e,lt1 (old e)⟩) (Heap.get?_push_of_some _ (old e))) mv.gens mv.drawn mv.os ?_⟩
  simpa using dd
end
noncomputable def sN:D->Option (aE×D)
 | .tuple [k,v]=>(jM k).bind fun k=>some (k,v)
 | _=>none
noncomputable def gZ:List D->Option (List (aE×D))
 | []=>some []
 | d::ds=>(sN d).bind fun p=>(gZ ds).bind fun ps=>some (p::ps)
noncomputable def mS:D->Option (List (aE×D))
 | .tuple ds=>(gZ ds).bind fun ps=>if ds.length<=1000 then some (ps.foldl (fun acc p=>f6 acc p.1 p.2) []) else none
 | .list ds=>(gZ ds).bind fun ps=>if ds.length<=1000 then some (ps.foldl (fun acc p=>f6 acc p.1 p.2) []) else none
 | _=>none
noncomputable def qN (i:Nat) (f:Dv->Option D):Sf:=fun δ=>(f δ).bind fun d=>(mS d).bind fun es=>some (.nx,δ.set i (.od es))
inductive PairsV (K:Fg) (H:Hp):List V->List (aE×V)->Prop
 | nil:PairsV K H [] []
 | cons {b:Addr} {k:aE} {v:V} {ts:List V} {ps:List (aE×V)}:SqT K H b [kV k,v]->PairsV K H ts ps->PairsV K H (.ref b::ts) ((k,v)::ps)
noncomputable def yh (ps:List (aE×V)):List (aE×V):=ps.foldl (fun acc p=>eS acc p.1 p.2) []
theorem PairsV.vals {X:Cx} {pins:List (Addr×Obj)} {σ:St} {H:Hp} {s:Shared} (I:Inv X pins σ H s):∀ {ts:List V} {ps:List (aE×V)} {us:List Value},PairsV X.K H ts ps->Vals ts us->∃ qs:List (aE×Value),KV ps qs/\qs.length=us.length/\∀ (i:Nat) (v:Value),us[i]? = some v->∃ b key k u,v=.ref b/\qs[i]? = some (k,u)/\(aD X.prog X.w).is k key=true/\IsTup s.heap b #[key,u]
 | _,_,_,.nil,.nil=>⟨[],.nil,rfl,fun i v e=>by simp at e⟩
 | _,_,_,.cons (b:=b) (k:=k) (v:=v) h r,.cons h1 r1=>by
  obtain ⟨qs,g1,g2,g3⟩:=PairsV.vals I r r1
  cases h1
  obtain ⟨its,rr,tp,_⟩:=I.tuple h
  obtain ⟨a1,a2,rfl,q1,q2⟩:=rY rr
  refine ⟨(k,a2)::qs,.cons ⟨rfl,q2⟩ g1,by simp [g2],fun i w e=>?_⟩
  cases i with
  | zero=>
   have e:Value.ref b=w:=by simpa using e
   subst e
   exact ⟨b,a1,k,a2,rfl,rfl,mH q1,tp⟩
  | succ i=>exact g3 i w (by simpa using e)
theorem CQ {ps:List (aE×V)} {qs:List (aE×Value)} (r:KV ps qs):∀ {kvs:List (aE×V)} {vs:List (aE×Value)},KV kvs vs->KV (ps.foldl (fun acc p=>eS acc p.1 p.2) kvs) (yg vs qs):=by
 induction r with
 | nil=>intro kvs vs h; exact h
 | cons h r ih=>
  intro kvs vs g
  obtain ⟨h1,h2⟩:=h
  refine ih ?_
  dsimp only
  rw [<- h1]
  exact g.put _ h2
theorem tf:∀ (ps:List (aE×V)) (kvs:List (aE×V)),(ps.foldl (fun acc p=>eS acc p.1 p.2) kvs).length<=kvs.length+ps.length
 | [],kvs=>Nat.le_refl _
 | p::ps,kvs=>by
  have:=tf ps (eS kvs p.1 p.2)
  have:=ge kvs p.1 p.2
  show (ps.foldl _ (eS kvs p.1 p.2)).length<=_
  rw [List.length_cons]
  omega
theorem PairsV.length {K:Fg} {H:Hp} {ts:List V} {ps:List (aE×V)} (h:PairsV K H ts ps):ps.length=ts.length:=by
 induction h with
 | nil=>rfl
 | cons _ _ ih=>simp [ih]
section
variable {X:Cx}
theorem rK (hc:X.calm=true):CallR X (.type "dict") (fun xs H Q=>∃ a ts ps,xs=[V.ref a]/\(SqT X.K H a ts\/SqL X.K H a ts)/\PairsV X.K H ts ps/\ts.length<=1000/\∀ l,H l=none->Q (.ref l) (upd H l (.dK (yh ps)))):=by
 intro pins s σ H xs us Q I r h
 obtain ⟨a,ts,ps,rfl,ha,hp,hl,q⟩:=h
 obtain ⟨u,rfl,ru⟩:=fU r
 cases ru
 have fin:∀ {its:List Value} (r1:Vals ts its) {qs:List (aE×Value)} (g1:KV ps qs) (s':Shared) (kp:∀ b o,s.heap.get? b=some o->s'.heap.get? b=some o) (hg:s'.gens=s.gens) (hdr:s'.drawn=s.drawn) (hos:s'.os=s.os) (dd:s'.heap.DictOf (aD X.prog X.w) s.heap.objs.size (yg [] qs)),∃ v H',Inv X pins σ H' s'/\RelV v (.ref s.heap.objs.size)/\Q v H':=by
  intro its r1 qs g1 s' kp hg hdr hos dd
  have hf:H s.heap.objs.size=none:=I.hok.fresh (Nat.le_refl _)
  refine ⟨.ref s.heap.objs.size,upd H s.heap.objs.size (.dK (yh ps)),?_,rfl,q _ hf⟩
  have big:=I.big
  have L:=I.laid (h':=s'.heap) (a:=s.heap.objs.size) (o:=.dK (yh ps)) (t':=s'.toks) kp (Nat.le_refl _) (xM (by
    have:=tf ps []
    have:=hp.length
    show (yh ps).length<=sizeLine
    rw [sizeLine_eq]
    unfold yh
    simp only [List.length_nil] at *
    omega) (by rw [beq_eq_false_iff_ne]; exact fun z=>Nat.lt_irrefl _ (z ▸ big)) (CQ g1 .nil) dd)
  obtain ⟨hp',g',d',t',o'⟩:=s'
  obtain ⟨hp0,g0,d0,t0,o0⟩:=s
  simp only at hg hdr hos
  subst hg hdr hos
  exact L
 rcases ha with ha | ha
 ·obtain ⟨its,r1,tp,_⟩:=I.tuple ha
  obtain ⟨qs,g1,g2,g3⟩:=hp.vals I r1
  have hlen:=r1.length
  have e1:its.toArray.size=its.length:=by simp
  exact jQ tp (I.noDi ha) (I.ok.hd hc) (ps:=qs) (by rw [e1]; exact g2) (by rw [e1]; omega) (fun i v e=>g3 i v (by simpa using e)) (fin r1 g1)
 ·obtain ⟨its,r1,tp,_⟩:=I.list ha
  obtain ⟨qs,g1,g2,g3⟩:=hp.vals I r1
  have hlen:=r1.length
  have e1:its.toArray.size=its.length:=by simp
  exact jq tp (I.ok.hd hc) (ps:=qs) (by rw [e1]; exact g2) (by rw [e1]; omega) (fun i v e=>g3 i v (by simpa using e)) (fin r1 g1)
theorem zl {K:Fg} {Z H:Hp} (zh:Same Z H) {v:V} {d:D} {p:aE×D} (r:Rep K Z v d) (h:sN d=some p):∃ b w,v=.ref b/\SqT K H b [kV p.1,w]/\Rep K Z w p.2:=by
 unfold sN at h
 split at h
 rotate_left
 ·cases h
 rename_i dk dv
 obtain ⟨k,e1,h⟩:=bind_some h
 cases h
 cases r with
 | tup sq rs=>
  cases rs with
  | cons r1 rs=>
   cases rs with
   | cons r2 rs=>
    cases rs
    have:=iE r1 e1
    subst this
    exact ⟨_,_,rfl,SqT.same sq zh,r2⟩
theorem kt {K:Fg} {Z H:Hp} (zh:Same Z H):∀ {vs:List V} {ds:List D} {ps:List (aE×D)},Reps K Z vs ds->gZ ds=some ps->∃ qs:List (aE×V),PairsV K H vs qs/\qs.map (·.1)=ps.map (·.1)/\Reps K Z (qs.map (·.2)) (ps.map (·.2))
 | _,_,_,.nil,h=>by cases h; exact ⟨[],.nil,rfl,.nil⟩
 | _,_,_,.cons r rs,h=>by
  obtain ⟨p,e1,h⟩:=bind_some h
  obtain ⟨ps,e2,h⟩:=bind_some h
  cases h
  obtain ⟨b,w,rfl,g1,g2⟩:=zl zh r e1
  obtain ⟨qs,g3,g4,g5⟩:=kt zh rs e2
  exact ⟨(p.1,w)::qs,.cons g1 g3,by simp [g4],.cons g2 g5⟩
theorem kr {K:Fg} {Z:Hp}:∀ {qs:List (aE×V)} {ps:List (aE×D)},qs.map (·.1)=ps.map (·.1)->Reps K Z (qs.map (·.2)) (ps.map (·.2))->∀ {kvs:List (aE×V)} {es:List (aE×D)},gG K Z kvs es->gG K Z (qs.foldl (fun acc p=>eS acc p.1 p.2) kvs) (ps.foldl (fun acc p=>f6 acc p.1 p.2) es)
 | [],[],_,_,kvs,es,h=>h
 | [],_::_,e,_,_,_,_=>by simp at e
 | _::_,[],e,_,_,_,_=>by simp at e
 | q::qs,p::ps,e,r,kvs,es,h=>by
  simp only [List.map_cons,List.cons.injEq] at e
  cases r with
  | cons r1 r2=>
   refine kr e.2 r2 ?_
   dsimp only
   rw [e.1]
   exact pv h p.1 r1
theorem yN (i:Nat) {x:Str} {e:Expr} {f:Dv->Option D} {p pos pos' cpos:Pos} (hN:X.N.Nodup) (hg:Gl X "dict") (hm:X.mg "dict" = none) (he':EV X e f) (hc:X.calm=true:=by rfl) (hi:X.N[i]? = some x:=by rfl) (hx:vv X.env.scope x:=by first | exact Or.inl rfl | exact Or.inr rfl)
  (he:starEach [e] X.env=(false,eval e X.env)::starEach [] X.env:=by rfl) (hpl:(backTo cpos (starEach [] X.env)).any (·.1)=false:=by rfl)
  (hs:swapsWith (.Call (.Name "dict" p) [e] [] cpos) (some (.Name x pos')) pos.line X.env=pure false:=by rfl)
  (hf:X.fn x=true\/X.env.scope.names.lookup x=some .local:=by first | exact .inl rfl | exact .inr rfl | assumption):SV X (.Assign [.Name x pos'] (.Call (.Name "dict" p) [e] [] cpos) pos) (qN i f):=
 PS.imp (nI hN hi hx (mB (rK hc) hg hm (by decide +kernel) (cU he' eI he) (by decide) (by decide) he hpl) hs hf) fun D σ H h=>by
  obtain ⟨H₀,Z₀,Z,δ,r,hh,e,k⟩:=h
  obtain ⟨d,e1,e⟩:=bind_some e
  obtain ⟨es,e2,e⟩:=bind_some e
  cases e
  refine ⟨H₀,Z₀,Z,δ,d,hh,e1,fun v Z1 H1 hh1 t1 r1=>?_⟩
  unfold mS at e2
  split at e2
  ·rename_i ds
   obtain ⟨ps,e3,e2⟩:=bind_some e2
   obtain ⟨hl,e2⟩:=ce e2
   cases e2
   cases r1 with
   | tup sq rs=>
    obtain ⟨qs,g1,g2,g3⟩:=kt hh1.zh rs e3
    refine ⟨_,_,qs,rfl,.inl (SqT.same sq hh1.zh),g1,by rw [rs.length]; exact hl,fun l hl'=>?_⟩
    exact k _ _ Z1 (hh1.setW hl' (.dct (kr g2 g3 ⟨rfl,.nil⟩))) t1
  ·rename_i ds
   obtain ⟨ps,e3,e2⟩:=bind_some e2
   obtain ⟨hl,e2⟩:=ce e2
   cases e2
   cases r1 with
   | lst sq rs=>
    obtain ⟨qs,g1,g2,g3⟩:=kt hh1.zh rs e3
    refine ⟨_,_,qs,rfl,.inr (SqL.same sq hh1.zh),g1,by rw [rs.length]; exact hl,fun l hl'=>?_⟩
    exact k _ _ Z1 (hh1.setW hl' (.dct (kr g2 g3 ⟨rfl,.nil⟩))) t1
  ·cases e2
end
end VL
set_option Elab.async false
set_option linter.all false
set_option maxRecDepth 100000
set_option maxHeartbeats 4000000
namespace VL
open PySem PySem.Spec PyProof.Rows L2
section
variable {K:Fg} {H₀ Z₀ Z H:Hp} {δ:Dv} {σ:St} {p:Addr} {o:HO}
end
section
variable {X:Cx}
end
end VL
set_option Elab.async false
set_option linter.all false
set_option maxRecDepth 100000
set_option maxHeartbeats 4000000
namespace VL
open PySem PySem.Spec PyProof.Rows L2
noncomputable def nZ (a:Addr) (H:Hp):Hp:=fun b=>if b=a then none else H b
theorem z8 {a:Addr} {H:Hp}:nZ a H a=none:=if_pos rfl
theorem jY {a b:Addr} {H:Hp} (h:b≠a):nZ a H b=H b:=if_neg h
theorem xc {a:Addr} {H:Hp}:Same (nZ a H) H:=fun b o e=>by
 unfold nZ at e
 split at e
 ·cases e
 ·exact e
noncomputable def IY (K:Fg) (g:List (aE×D)->List D->Option (List (aE×D))):Sp:=fun vs H Q _=>∃ Z a ws kvs es as es',vs=.ref a::ws/\Same Z H/\Z a=none/\H a=some (.dK kvs)/\gG K Z kvs es/\Reps K Z ws as/\g es as=some es' /\
 ∀ Z' H' kvs',New Z (nZ a H) Z' (nZ a H')->H' a=some (.dK kvs')->gG K Z' kvs' es'->Q .non H'
section
variable {X:Cx} {e b c:Expr} {st:Stmt} {sts body orelse:List Stmt} {s1 s2:Sf} {f fk fv:Dv->Option D} {ft:Dv->Option Bool} {p pos tpos:Pos}
end
section
variable {P:Program} {w:World} {K:PySem.W.Frag} {mg:Str->Option Value} {base:Heap}
structure CalM (P:Program) (w:World) (K:PySem.W.Frag) (mg:Str->Option Value) (base:Heap) (x:Str) (k:Nat) (g:List (aE×D)->List D->Option (List (aE×D))):Prop where
 ex:∃ (fa:Addr) (fd:FuncData) (ps:List Str),FnOk P w K mg base em k fa fd ps (IY K g)/\mg x=some (.ref fa)/\PySem.W.keepIn K (.ref fa)=true/\Binds K fd ps []
end
section
variable {K:Fg} {H₀ Z₀ Z H:Hp} {δ:Dv} {σ:St}
theorem Hold.mod (h:Hold K H₀ Z₀ Z δ σ H) {i:Nat} {a:Addr} {es es':List (aE×D)} {kvs':List (aE×V)} {Z' H':Hp} (q:δ[i]? = some (.od es)) (h1:σ[i]? = some (some (.ref a))) (h2:H₀ a=none) (n:New Z (nZ a H) Z' (nZ a H')) (g4:H' a=some (.dK kvs')) (g5:gG K Z' kvs' es') :
  Hold K H₀ Z₀ Z' (δ.set i (.od es')) σ H':=by
 have hl:i < δ.length:=(List.getElem?_eq_some_iff.mp q).1
 have up:∀ {b:Addr} {o:HO},b≠a->H b=some o->H' b=some o:=fun {b o} hb e=>by
  have:=n.h b o (by rw [jY hb]; exact e)
  rwa [jY hb] at this
 have za:Z' a=none:=by
  cases e:Z' a with
  | none=>rfl
  | some o=>have:=n.zh a o e; rw [z8] at this; cases this
 refine ⟨n.zh.trans xc,fun b o e=>up (aX e h2) (h.h0 b o e),h.z0.trans n.z,fun b hb=>?_,by simp [h.len],fun j d e=>?_,fun j d e=>?_,fun j k d1 d2 c hjk q1 q2=>?_,(h.fr.same n.z).put (fun _ z=>nomatch z) fun _ _=>rfl,h.nf.trans n.nf⟩
 ·have hba:b≠a:=fun z=>hb (by rw [z]; exact h2)
  have:nZ a H b≠none:=by
   rw [jY hba]
   cases e:H₀ b with
   | none=>exact absurd e hb
   | some o=>rw [h.h0 b o e]; intro z; cases z
  rw [n.o b this,h.zb b hb]
 ·by_cases hj:i=j
  ·subst hj
   rw [List.getElem?_set_self hl] at e
   cases e
  ·rw [List.getElem?_set_ne hj] at e
   obtain ⟨v,g1,g2⟩:=h.fz j d e
   exact ⟨v,g1,g2.same n.z⟩
 ·by_cases hj:i=j
  ·subst hj
   rw [List.getElem?_set_self hl] at e
   cases e
   exact ⟨a,_,h1,h2,za,g4,.dct g5⟩
  ·rw [List.getElem?_set_ne hj] at e
   obtain ⟨c,o,f1,f2,f3,f4,f5⟩:=h.own j d e
   have hc:c≠a:=fun z=>by subst z; exact h.dja i j _ d c hj q e h1 f1
   exact ⟨c,o,f1,f2,by rw [n.o c (by rw [jY hc,f4]; intro z; cases z)]; exact f3,up hc f4,f5.same n.z⟩
 ·have f:∀ {m:Nat} {dm:Oc},(δ.set i (.od es'))[m]? = some (.own dm)->∃ dm',δ[m]? = some (.own dm'):=fun {m dm} z=>by
   by_cases hm:i=m
   ·subst hm; exact ⟨_,q⟩
   ·rw [List.getElem?_set_ne hm] at z; exact ⟨dm,z⟩
  obtain ⟨e1,f1⟩:=f q1
  obtain ⟨e2,f2⟩:=f q2
  exact h.dja j k e1 e2 c hjk f1 f2
end
section
variable {X:Cx} {es:List Expr} {fs:Dv->Option (List D)} {p p2 pos cpos:Pos}
end
end VL
set_option Elab.async false
set_option linter.all false
set_option maxRecDepth 100000
set_option maxHeartbeats 4000000
namespace VL
open PySem PySem.Spec PyProof.Rows L2
section
variable {P:Program} {w:World} {K:PySem.W.Frag} {mg:Str->Option Value} {base h:Heap} {x y:Str} {st:Stmt} {k:Nat} {ps:List Str}
end
end VL
set_option Elab.async false
set_option linter.all false
set_option maxRecDepth 100000
set_option maxHeartbeats 4000000
namespace VL
open PySem PySem.Spec PyProof.Rows L2
noncomputable def xr:List D->Option (List Int)
 | []=>some []
 | .int i::r=>(xr r).bind fun l=>some (i::l)
 | _::_=>none
noncomputable def cu (ns:List Int) (x:Int):List Int:=if x∈ns then ns else ns++[x]
noncomputable def fZ (l:List Int):List Int:=l.foldl cu []
noncomputable def fY (d:D):Option D:=(bu d).bind fun ds=>(xr ds).bind fun l=>if l.length<64 then some (.list ((br (fZ l)).map .int)) else none
noncomputable def UpA (xs:Array Nat):Prop:=∀ i j (hi:i<xs.size) (hj:j<xs.size),i<j->xs[i]<xs[j]
theorem ls {xs:Array Nat} {j:Nat} (hu:UpA xs):∀ (f lo hi:Nat),hi-lo<=f->lo<=hi->hi<=xs.size ->
  (∀ i (h:i<xs.size),i<lo->xs[i]<j)->(∀ i (h:i<xs.size),hi<=i->j<=xs[i]) ->
  SetTable.below.go xs j f lo hi<=xs.size/\(∀ i (h:i<xs.size),i<SetTable.below.go xs j f lo hi->xs[i]<j)/\(∀ i (h:i<xs.size),SetTable.below.go xs j f lo hi<=i->j<=xs[i])
 | 0,lo,hi,h1,h2,h3,a,b=>by
  have:lo=hi:=by omega
  subst this
  exact ⟨h3,a,b⟩
 | f+1,lo,hi,h1,h2,h3,a,b=>by
  unfold SetTable.below.go
  by_cases h:lo<hi
  ·rw [if_pos h]
   have hm:(lo+hi) / 2<xs.size:=by omega
   have e:xs.getD ((lo+hi) / 2) j=xs[(lo+hi) / 2]:=by simp [Array.getD,hm]
   dsimp only
   rw [e]
   by_cases h':xs[(lo+hi) / 2]<j
   ·rw [if_pos h']
    refine ls hu f _ hi (by omega) (by omega) h3 (fun i hi' hl=>?_) b
    by_cases e2:i=(lo+hi) / 2
    ·subst e2; exact h'
    ·exact Nat.lt_trans (hu i _ hi' hm (by omega)) h'
   ·rw [if_neg h']
    refine ls hu f lo _ (by omega) (by omega) (by omega) a fun i hi' hl=>?_
    by_cases e2:i=(lo+hi) / 2
    ·subst e2; omega
    ·have:=hu _ i hm hi' (by omega); omega
  ·rw [if_neg h]
   have:lo=hi:=by omega
   subst this
   exact ⟨h3,a,b⟩
theorem lm {xs:Array Nat} (hu:UpA xs) (j:Nat):SetTable.below xs j<=xs.size/\(∀ i (h:i<xs.size),i<SetTable.below xs j->xs[i]<j)/\(∀ i (h:i<xs.size),SetTable.below xs j<=i->j<=xs[i]):=
 ls hu xs.size 0 xs.size (by omega) (by omega) (Nat.le_refl _) (fun i _ h=>absurd h (by omega)) (fun i h h'=>absurd h (by omega))
theorem n9 {xs:Array Nat} {p x:Nat} (hp:p<=xs.size) (i:Nat):(SetTable.insertAt xs p x)[i]? = if i<p then xs[i]? else if i=p then some x else xs[i-1]?:=by
 rw [<- Array.getElem?_toList,SetTable.toList_insertAt]
 have hl:(xs.toList.take p).length=p:=by rw [List.length_take,Array.length_toList]; omega
 by_cases h1:i<p
 ·rw [if_pos h1,List.getElem?_append_left (by omega),List.getElem?_take_of_lt h1,Array.getElem?_toList]
 ·rw [if_neg h1,List.getElem?_append_right (by omega),hl]
  by_cases h2:i=p
  ·subst h2
   rw [if_pos rfl,Nat.sub_self,List.getElem?_cons_zero]
  ·rw [if_neg h2]
   obtain ⟨k,rfl⟩:∃ k,i=p+k+1:=⟨i-p-1,by omega⟩
   rw [show p+k+1-p=k+1 by omega,List.getElem?_cons_succ,List.getElem?_drop,Array.getElem?_toList]
   rfl
theorem UpA.iff {xs:Array Nat}:UpA xs↔∀ i j a b:Nat,i<j->xs[i]? = some a->xs[j]? = some b->a<b:=by
 constructor
 ·intro h i j a b hij ha hb
  obtain ⟨h1,rfl⟩:=Array.getElem?_eq_some_iff.mp ha
  obtain ⟨h2,rfl⟩:=Array.getElem?_eq_some_iff.mp hb
  exact h i j h1 h2 hij
 ·intro h i j hi hj hij
  exact h i j _ _ hij (Array.getElem?_eq_getElem hi) (Array.getElem?_eq_getElem hj)
theorem UpA.insert {xs:Array Nat} {j:Nat} (hu:UpA xs) (hn:xs[SetTable.below xs j]? ≠ some j):UpA (SetTable.insertAt xs (SetTable.below xs j) j):=by
 obtain ⟨h1,h2,h3⟩:=lm hu j
 have lo:∀ i a,i<SetTable.below xs j->xs[i]? = some a->a<j:=fun i a hi e=>by
  obtain ⟨q,rfl⟩:=Array.getElem?_eq_some_iff.mp e; exact h2 i q hi
 have hi:∀ i a,SetTable.below xs j<=i->xs[i]? = some a->j<a:=fun i a hi e=>by
  obtain ⟨q,rfl⟩:=Array.getElem?_eq_some_iff.mp e
  have hb:SetTable.below xs j<xs.size:=by omega
  have e1:j<=xs[SetTable.below xs j]:=h3 _ hb (Nat.le_refl _)
  have e2:xs[SetTable.below xs j]≠j:=fun z=>hn (by rw [Array.getElem?_eq_getElem hb,z])
  by_cases e3:i=SetTable.below xs j
  ·subst e3; omega
  ·have:=hu _ i hb q (by omega); omega
 rw [UpA.iff] at hu ⊢
 intro i k a b hik ha hb
 rw [n9 h1] at ha hb
 split at ha <;> split at hb
 ·exact hu i k a b hik ha hb
 ·split at hb
  ·cases hb; exact lo i a ‹_› ha
  ·exact Nat.lt_trans (lo i a ‹_› ha) (hi _ b (by omega) hb)
 ·omega
 ·split at ha <;> split at hb
  ·omega
  ·cases ha; exact hi _ b (by omega) hb
  ·omega
  ·exact hu (i-1) (k-1) a b (by omega) ha hb
theorem mn {t:SetTable} {j:Nat} (h:t.slot j=.empty\/t.slot j=.dummy):t.place[SetTable.below t.place j]? ≠ some j:=by
 intro e
 unfold SetTable.slot at h
 simp [e] at h
theorem ku {t:SetTable} {f:Nat->Int} {h:Int}:∀ (n:Nat) (p:SetTable.Probe) (j:Nat) (d:Option Nat),(∀ x,p.dummy=some x->t.slot x=.dummy)->SetTable.probe.go t f h n p=some (.empty j d)->t.slot j=.empty/\∀ x,d=some x->t.slot x=.dummy
 | 0,p,j,d,hp,e=>by cases e
 | n+1,p,j,d,hp,e=>by
  unfold SetTable.probe.go at e
  have adv:∀ q:SetTable.Probe,(t.advance q).dummy=q.dummy:=fun q=>by unfold SetTable.advance; split <;> rfl
  split at e
  ·rename_i hs; cases e; exact ⟨hs,hp⟩
  ·rename_i hs
   refine ku n _ j d (fun x hx=>?_) e
   rw [adv] at hx
   cases hx; exact hs
  ·split at e
   ·cases e
   ·exact ku n _ j d (fun x hx=>hp x (by rwa [adv] at hx)) e
theorem lQ {t:SetTable} {h:Int} {j:Nat} {b:Bool} (e:t.freeSlot h=some (j,b)):t.place[SetTable.below t.place j]? ≠ some j:=by
 unfold SetTable.freeSlot at e
 split at e
 ·rename_i j' d hq
  cases e
  have:=ku _ _ _ _ (fun x hx=>by cases hx) hq
  cases d with
  | none=>exact mn (.inl this.1)
  | some x=>exact mn (.inr (this.2 x rfl))
 ·cases e
structure WkT (led:Bool) (t:SetTable):Prop where
 led:t.led=led
 up:t.plain=true->UpA t.place
theorem WkT.fresh (led:Bool):WkT led (.fresh 0 0 led):=⟨rfl,fun _ i j hi=>absurd hi (by simp [SetTable.fresh])⟩
theorem WkT.standIn {led:Bool} {t:SetTable} (h:WkT led t) (n:Nat):WkT led (t.standIn n):=⟨h.led,fun e=>by cases e⟩
theorem WkT.orStandIn {led:Bool} {t:SetTable} (h:WkT led t) (n:Nat):WkT led (t.orStandIn n):=by
 unfold SetTable.orStandIn; split
 ·exact h
 ·exact h.standIn n
theorem WkT.put {led:Bool} {t:SetTable} (h:WkT led t) {x:Int} {j:Nat} {b:Bool} (e:t.freeSlot x=some (j,b)):WkT led (t.put j).1:=⟨h.led,fun q=>(h.up q).insert (lQ e)⟩
theorem WkT.layNew {led:Bool} {t:SetTable} (h:WkT led t) (es:Array (Int×Value)) (x:Int) (v:Value):WkT led (layNew t es x v).2.1:=by
 unfold PySem.layNew
 split
 ·rename_i e; exact (h.put e).orStandIn _
 ·exact h.standIn _
theorem fq (f:Nat->Option Nat):∀ (l:List Nat),l.Pairwise (· < ·)->((l.filterMap fun j=>(f j).map (j,·)).map (·.1)).Pairwise (· < ·)
 | [],_=>.nil
 | a::l,h=>by
  obtain ⟨h1,h2⟩:=List.pairwise_cons.mp h
  rw [List.filterMap_cons]
  cases f a with
  | none=>exact fq f l h2
  | some b=>
   refine List.pairwise_cons.mpr ⟨fun z hz=>?_,fq f l h2⟩
   obtain ⟨q,hq,rfl⟩:=List.mem_map.mp hz
   obtain ⟨c,hc,e⟩:=List.mem_filterMap.mp hq
   obtain ⟨d,_,rfl⟩:=Option.map_eq_some_iff.mp e
   exact h1 _ hc
theorem WkT.relay {led:Bool} {t:SetTable} (h:WkT led t) (es:Array (Int×Value)) (n:Nat):WkT led (relayAll t es n).2.1:=by
 unfold relayAll
 split
 ·rename_i t' order e
  dsimp only
  split
  ·unfold SetTable.relaid SetTable.laid at e
   obtain ⟨o,_,e⟩:=Option.bind_eq_some_iff.mp e
   cases e
   refine ⟨h.led,fun _ i j hi hj hij=>?_⟩
   have:=fq (fun j=>o.getD j none) (List.range (SetTable.sizeAbove n-1+1)) List.pairwise_lt_range
   have:=List.pairwise_iff_getElem.mp this i j (by simpa using hi) (by simpa using hj) hij
   simpa using this
  ·exact h.standIn _
 ·exact h.standIn _
theorem lq {xs:Array Nat} (hu:UpA xs) {i:Nat} (hi:i<xs.size):SetTable.below xs (xs[i]+1)=i+1:=by
 obtain ⟨h1,h2,h3⟩:=lm hu (xs[i]+1)
 have a:i<SetTable.below xs (xs[i]+1):=by
  refine Nat.lt_of_not_le fun h=>?_
  have:=h3 i hi h; omega
 have b:¬ (i+1<SetTable.below xs (xs[i]+1)):=fun h=>by
  have q:=h2 (i+1) (by omega) h
  have:=hu i (i+1) hi (by omega) (by omega); omega
 omega
theorem ll {xs:Array Nat} (hu:UpA xs):SetTable.below xs 0=0:=by
 obtain ⟨h1,h2,h3⟩:=lm hu 0
 refine Nat.eq_zero_of_not_pos fun h=>?_
 have:=h2 0 (by omega) h; omega
noncomputable def nc:Value->Int
 | .int k _=>k
 | _=>0
noncomputable def rS (e:Int×Value):Prop:=∃ k t,e=(hashInt k,Value.int k t)
noncomputable def SetJ (w:World) (h:Heap) (a:Addr) (ns:List Int):Prop:=∃ es ep t,h.get? a=some { cls:=.type "set",dict:=none,data:=.set es ep t,slots:=#[] }/\(∀ e∈es.toList,rS e)/\(es.toList.map fun e=>nc e.2).Perm ns/\ns.length<scanBound/\t.fits es.size=true/\WkT (!w.params.followText "set-order") t
theorem SetJ.at {w:World} {h h':Heap} {a:Addr} {ns:List Int} (x:SetJ w h a ns) (e:∀ o,h.get? a=some o->h'.get? a=some o):SetJ w h' a ns:=
 let ⟨es,ep,t,ho,r⟩:=x
 ⟨es,ep,t,e _ ho,r⟩
theorem qK (ns:List Int) (x:Int):(cu ns x).length<=ns.length+1:=by
 unfold cu
 split
 ·omega
 ·simp
section
variable {prog:Program} {w:World} {A:Around} {E:Value->Shared->Prop} {s:Shared}
theorem kX {es:Array (Int×Value)} (h:∀ e∈es.toList,rS e):ElemsOf (intKind prog w) es.toList:=fun e he=>by
 obtain ⟨k,t,rfl⟩:=h e he
 exact ⟨⟨k,intKind_is prog w k t,rfl⟩,rfl⟩
theorem uZ {l:List (Int×Value)} (h:∀ e∈l,rS e) (k:Int):(l.findIdx? fun e=>(intKind prog w).is k e.2)=none↔k ∉ l.map fun e=>nc e.2:=by
 rw [List.findIdx?_eq_none_iff]
 constructor
 ·intro q z
  obtain ⟨e,he,rfl⟩:=List.mem_map.mp z
  obtain ⟨k',t,rfl⟩:=h e he
  have:=q _ he
  rw [show (nc (hashInt k',Value.int k' t).2)=k' from rfl,show ((hashInt k',Value.int k' t):Int×Value).2=Value.int k' t from rfl,intKind_is] at this
  cases this
 ·intro q e he
  obtain ⟨k',t,rfl⟩:=h e he
  have hne:k≠k':=fun z=>q (List.mem_map.mpr ⟨_,he,z.symm⟩)
  cases hx:(intKind prog w).is k ((hashInt k',Value.int k' t):Int×Value).2 with
  | false=>rfl
  | true=>exact absurd ((intKind prog w).inj _ _ _ hx (intKind_is prog w k' t)) hne
theorem pf {h:Heap} {a:Addr} {es es':Array (Int×Value)} {ep:Nat} {t t':SetTable} {ns:List Int} (ho:h.get? a=some { cls:=.type "set",dict:=none,data:=.set es ep t,slots:=#[] }) (h1:∀ e∈es'.toList,rS e) (h2:(es'.toList.map fun e=>nc e.2).Perm ns) (h3:ns.length<scanBound) (h4:t'.fits es'.size=true) (h5:WkT (!w.params.followText "set-order") t') :
  (h.update a (Obj.putSet es' t')).get? a=some { cls:=.type "set",dict:=none,data:=.set es' (ep+1) t',slots:=#[] }/\SetJ w (h.update a (Obj.putSet es' t')) a ns:=by
 have g:=Heap.get?_update_self (Obj.putSet es' t') ho (by rw [putSet_of es' t' rfl]; rfl)
 rw [putSet_of es' t' rfl] at g
 exact ⟨g,es',ep+1,t',g,h1,h2,h3,h4,h5⟩
theorem pG {l l':List (Int×Value)} (p:List.Perm l' l):(l'.map fun e=>nc e.2).Perm (l.map fun e=>nc e.2):=p.map _
theorem ze {a:Addr} {x:Int} {tk:Tok} {ns:List Int} {Q:Bool->Shared->Prop} (hS:SetJ w s.heap a ns) (hroom:ns.length+1<scanBound)
  (h:∀ h' b,Heap.SameBut a s.heap h'->SetJ w h' a (cu ns x)->Q b { s with heap:=h' }):wpAny (model prog w) A (setAddHashed a (.int x tk) (hashInt x)) Q E s:=by
 obtain ⟨es,ep,t,ho,hel,hp,hb,hf,hw⟩:=hS
 have hsz:es.size=ns.length:=by
  have:=hp.length_eq
  rw [List.length_map,Array.length_toList] at this
  exact this
 have fl:=uZ (prog:=prog) (w:=w) hel x
 unfold setAddHashed setAddHashedIn
 refine wpAny_holding (wpAny_bind (wpAny_setState_of ho rfl hf ?_))
 dsimp only
 rw [byScan_of (knd:=intKind prog w) (x:=Value.int x tk) rfl (by omega) (kX hel)]
 simp only [↓reduceIte]
 unfold setAddByScan
 refine wpAny_bind (wpAny_bind (wpAny_rule (wpAny_bind (wpAny_setScan_of (knd:=intKind prog w) (k:=x) (intKind_is prog w x tk) ho rfl hf (kX hel) ?_))))
 cases hr:es.toList.findIdx? fun e=>(intKind prog w).is x e.2 with
 | some j=>
  have hin:x∈ns:=by
   refine hp.mem_iff.mp (Classical.byContradiction fun z=>?_)
   rw [fl.mpr z] at hr
   cases hr
  have e:cu ns x=ns:=if_pos hin
  rw [e] at h
  dsimp only
  exact wpAny_pure (wpAny_pure (h s.heap _ (Heap.SameBut.refl a s.heap) ⟨es,ep,t,ho,hel,hp,hb,hf,hw⟩))
 | none=>
  have hin:x ∉ ns:=fun z=>fl.mp hr (hp.mem_iff.mpr z)
  have e:cu ns x=ns++[x]:=if_neg hin
  rw [e] at h
  dsimp only
  have gw:∀ (b:Bool) {s1:Shared} {Q':Unit->Shared->Prop},Q' () s1->wpAny (model prog w) A (match b with
   | true=>rule "set.scan.the-table-gave-way"
   | false=>pure ()) Q' E s1:=fun b s1 Q' hq=>by
   cases b
   ·exact wpAny_pure hq
   ·exact wpAny_rule hq
  have q1:=layNew_perm t es (hashInt x) (.int x tk)
  have q2:=layNew_fits t es (hashInt x) (.int x tk)
  have q3:=hw.layNew es (hashInt x) (.int x tk)
  generalize hL:PySem.layNew t es (hashInt x) (.int x tk)=L at q1 q2 q3
  obtain ⟨es1,t1,wd,gv⟩:=L
  have hL':PySem.layNew t es ((intKind prog w).hash x) (.int x tk)=(es1,t1,wd,gv):=hL
  dsimp only at q1 q2 q3
  rw [Array.toList_push] at q1
  have el1:∀ e∈es1.toList,rS e:=fun e he=>by
   rcases List.mem_append.mp (q1.mem_iff.mp he) with he | he
   ·exact hel e he
   ·rw [List.mem_singleton.mp he]; exact ⟨x,tk,rfl⟩
  have pm1:(es1.toList.map fun e=>nc e.2).Perm (ns++[x]):=(pG q1).trans (by
   rw [List.map_append]
   exact hp.append_right _)
  have ln1:(ns++[x]).length<scanBound:=by simpa using hroom
  have sz1:es1.size=(ns++[x]).length:=by
   have:=pm1.length_eq
   rw [List.length_map,Array.length_toList] at this
   exact this
  dsimp only
  refine wpAny_bind (gw _ ?_)
  refine wpAny_ite_split (fun _=>?_) (fun _=>?_) <;> refine wpAny_bind (wpAny_of_eq (a:=true) rfl ?_) <;> simp only [↓reduceIte]
  all_goals
   obtain ⟨g1,g2⟩:=pf (w:=w) ho el1 pm1 ln1 q2 q3
   refine wpAny_bind (wpAny_storeSet_of ho rfl ?_ (fits_of_scanBound (by omega)))
   have sb:=Heap.SameBut.update s.heap a (Obj.putSet es1 t1)
   split
   ·have r1:=relayAll_perm t1 es1 (SetTable.grown es1.size)
    have r2:=relayAll_fits t1 es1 (SetTable.grown es1.size)
    have r3:=q3.relay es1 (SetTable.grown es1.size)
    generalize relayAll t1 es1 (SetTable.grown es1.size)=Rl at r1 r2 r3
    obtain ⟨es2,t2,gv2⟩:=Rl
    dsimp only at r1 r2 r3 ⊢
    have el2:∀ e∈es2.toList,rS e:=fun e he=>el1 e (r1.mem_iff.mp he)
    have pm2:(es2.toList.map fun e=>nc e.2).Perm (ns++[x]):=(pG r1).trans pm1
    have sz2:es2.size=(ns++[x]).length:=by
     have:=pm2.length_eq
     rw [List.length_map,Array.length_toList] at this
     exact this
    refine wpAny_bind (gw _ ?_)
    refine wpAny_bind (wpAny_storeSet_of g1 rfl ?_ (fits_of_scanBound (by omega)))
    exact wpAny_pure (wpAny_pure (h _ _ (sb.trans (Heap.SameBut.update _ a _)) (pf (w:=w) g1 el2 pm2 ln1 r2 r3).2))
   ·exact wpAny_pure (wpAny_pure (h _ _ sb g2))
end
theorem kn:∀ (l ns:List Int),(l.foldl cu ns).length<=ns.length+l.length
 | [],ns=>by simp
 | x::l,ns=>by
  have h1:=kn l (cu ns x)
  have h2:=qK ns x
  show (l.foldl cu (cu ns x)).length<=_
  rw [List.length_cons]
  omega
theorem uu {ns:List Int} {i:Nat} {k:Int} (h:ns[i]? = some k):fZ (ns.take (i+1))=cu (fZ (ns.take i)) k:=by
 unfold fZ
 rw [List.take_succ,h,List.foldl_append]
 rfl
noncomputable abbrev bc (led:Bool):Obj:={ cls:=.type "set",dict:=none,data:=.set #[] 0 (.fresh 0 0 led) }
theorem setJ_fresh {w:World} {h:Heap}:SetJ w (h.push (bc (!w.params.followText "set-order"))) h.objs.size []:=
 ⟨#[],0,_,Heap.get?_push_size _ rfl,fun e he=>by simp at he,.refl _,by decide,rfl,WkT.fresh _⟩
section
variable {prog:Program} {w:World} {A:Around} {R:Result->Shared->Prop} {I:Addr} {fp wr:List Addr} {G:Array GenState->Array GenState->Prop} {n:Nat} {P:Nat->Value->Prop} {St:Nat->Shared->Prop}
theorem pd (W:WalksS prog w A.in1 I fp wr G n P St) (S:Addr) (hSf:S ∉ fp) (ns:List Int) (hn:ns.length=n) (hP:∀ i v,P i v->∃ k t,ns[i]? = some k/\v=.int k t) (hz:n+1<scanBound) :
  ∀ (k i:Nat) (s:Shared),n-i=k->i<=n->St i s->SetJ w s.heap S (fZ (ns.take i))->(∀ s',Moved (S::wr) G s s'->SetJ w s'.heap S (fZ ns)->R (.ok (.ret .none)) s') ->
   codeAny (model prog w) A (.builtin "set.update.loop" ⟨[.ref S,.ref I],[]⟩) R s:=by
 have nw:S ∉ wr:=fun h=>hSf (W.sub _ h)
 have up:∀ b∈wr,b∈S::wr:=fun b hb=>List.mem_cons_of_mem _ hb
 intro k
 induction k with
 | zero=>
  intro i s hk hi hst hS hR
  have e:i=n:=by omega
  subst e
  refine codeAny_builtin F.entry_set_update_loop ?_
  rw [Around.under_plainId F.plain_set_update_loop _]
  refine wpAny_bind (m:=pyNext (.ref I)) (W.done s _ _ hst fun s' hm=>?_)
  rw [<- hn,List.take_length] at hS
  exact wpAny_pure (hR s' (hm.mono up) (hS.at fun o e=>hm.heap S o nw e))
 | succ k ih=>
  intro i s hk hi hst hS hR
  have hlt:i<n:=by omega
  refine codeAny_builtin F.entry_set_update_loop ?_
  rw [Around.under_plainId F.plain_set_update_loop _]
  refine wpAny_bind (m:=pyNext (.ref I)) (W.item i s _ _ hlt hst fun v s' hPv hst' hm=>?_)
  obtain ⟨x,t,hx,rfl⟩:=hP i v hPv
  have hS':=hS.at fun o e=>hm.heap S o nw e
  refine wpAny_bind (m:=holding [Value.int x t] (setAdd S (.int x t))) (wpAny_holding ?_)
  unfold setAdd
  refine wpAny_holding (wpAny_bind ((intKind prog w).pyHash (k:=x) (intKind_is prog w x t) ?_))
  have ln:(fZ (ns.take i)).length<=i:=by
   have:=kn (ns.take i) []
   rw [List.length_take] at this
   unfold fZ
   simp only [List.length_nil] at this
   omega
  refine ze (s:={ s' with toks:=s'.toks+1 }) hS' (by omega) fun h' b hsb hS2=>?_
  rw [<- uu hx] at hS2
  refine wpAny_pure ⟨plainId_quiet F.plain_set_update_loop _,ih (i+1) _ (by omega) hlt (W.frame _ s' _ _ hst' (Nat.le_succ _) fun b hb o e=>?_) hS2 fun s'' hm'' hS''=>?_⟩
  ·rw [hsb.2 b (fun z=>hSf (z ▸ hb))]; exact e
  ·refine hR s'' (Moved.trans W.gtrans ((hm.mono up).then_heap (Nat.le_succ _) fun b o hb e=>?_) hm'') hS''
   rw [hsb.2 b (fun z=>hb (z ▸ List.mem_cons_self))]; exact e
end
section
variable {prog:Program} {w:World} {A:Around} {E:Value->Shared->Prop} {s:Shared}
theorem lg (a:Value) {Q:Value->Shared->Prop} (h:Q (.ref s.heap.objs.size) { s with heap:=s.heap.push (bc (!w.params.followText "set-order")) }) :
  codeAny (model prog w) A (.call (.builtin "set.__new__") ⟨[.type "set",a],[]⟩) (wants Q E) s:=by
 refine codeAny_of_tree ?_
 refine wpAny_bind (m:=checkBuiltinCall "set.__new__" ⟨[.type "set",a],[]⟩) (wpAny_of_eq (F.newCall_set_1 a) (wpAny_pure ⟨plainId_quiet F.plain_set_new _,codeAny_builtin F.entry_set_new ?_⟩))
 rw [Around.under_plainId F.plain_set_new _]
 unfold Builtin.«set.__new__» Builtin.Frozenset.newClass
 have f1:=sub_set_self
 obtain ⟨hp,g,d,tk,os⟩:=s
 dsimp only
 wp_walk
 refine wpAny_askSetting (wpAny_pure ?_)
 dsimp only
 simp only [newObj]
 exact wpAny_bind (wpAny_alloc (wpAny_pure (wpAny_pure h)))
theorem ou {v:Value} {Q:Value->Shared->Prop}
  (h:∀ A':Around,A'.handled=A.handled->wpAny (model prog w) A' (Builtin.Frozenset.updateFrom "set.__init__" s.heap.objs.size v) (fun _ s2=>Q (.ref s.heap.objs.size) s2) E { s with heap:=s.heap.push (bc (!w.params.followText "set-order")) }) :
  wpAny (model prog w) A (call (.type "set") [v]) Q E s:=by
 obtain ⟨c,tl,hmro⟩:=F.called_set.mro
 have hmade:=F.called_set.made
 have hsub:=F.called_set.sub
 refine wpAny_call (codeAny_of_tree ?_)
 show wpAny _ _ (callAny (.type "set") _) _ _ _
 refine wpAny_pure ⟨Code.quiet_builtin _ (by decide +kernel),codeAny_builtin F.entry_type_call ?_⟩
 rw [Around.under_plain (weight_type_call_type "set" [v] []) rfl]
 have h1:=F.called_set.notType
 have h2:=F.called_set.canCreate
 have hct:=F.typeCall_set_1 v
 repeat (any_goals (first | assumption | wp_step))
 refine codeAny_mono (lg v (E:=E) (Q:=fun obj s1=>obj=.ref s.heap.objs.size/\s1={ s with heap:=s.heap.push (bc (!w.params.followText "set-order")) }) ⟨rfl,rfl⟩) fun r s1 hr=>?_
 cases r with
 | error e=>exact hr
 | ok fl=>
  cases fl with
  | ret obj=>
   obtain ⟨rfl,rfl⟩:=hr
   have hT:Shared.TypeIs { s with heap:=s.heap.push (bc (!w.params.followText "set-order")) } (.ref s.heap.objs.size) "set":=⟨_,Heap.get?_push_size _ rfl,rfl⟩
   have hS:(s.heap.push (bc (!w.params.followText "set-order"))).get? s.heap.objs.size=some (bc (!w.params.followText "set-order")):=Heap.get?_push_size _ rfl
   have hli:=F.called_set.init.lookup
   have hbi:=F.called_set.init.bind (.ref s.heap.objs.size)
   repeat (any_goals (first | assumption | wp_step))
   refine codeAny_mono (codeAny_call_builtin (R:=wants (fun r s2=>r=.none/\Q (.ref s.heap.objs.size) s2) E) F.called_set.init.plain F.entry_set_init (check_set_init_1 hT ?_)) fun r2 s2 hr2=>?_
   ·unfold Builtin.«set.__init__» noKeywords
    generalize hUF:Builtin.Frozenset.updateFrom=UF
    wp_walk
    subst hUF
    refine wpAny_mono (h _ (by simp)) (fun _ s2 q=>?_) fun _ _ e=>e
    exact wpAny_pure ⟨rfl,q⟩
   ·cases r2 with
    | error e=>exact hr2
    | ok fl2=>
     cases fl2 with
     | ret r=>
      obtain ⟨rfl,q⟩:=hr2
      repeat (any_goals (first | assumption | wp_step))
     | _=>exact hr2.elim
  | _=>exact hr.elim
end
theorem lD:isSubtype (.type "tuple") (.type "set")=pure false:=by rw [isSubtype_type]; kernel_rfl
theorem gC:isSubtype (.type "tuple") (.type "frozenset")=pure false:=by rw [isSubtype_type]; kernel_rfl
theorem rj {items:Array Value} {ns:List Int} (hi:IntsAre items.toList ns):ns.length=items.size/\∀ (i:Nat) (v:Value),items[i]? = some v->∃ k t,ns[i]? = some k/\v=Value.int k t:=by
 have hl:ns.length=items.size:=by
  have:=IntsAre.length hi
  rw [Array.length_toList] at this
  omega
 refine ⟨hl,fun i v e=>?_⟩
 obtain ⟨t,q⟩:=IntsAre.int_at hi i v (by rw [Array.getElem?_toList]; exact e)
 have h:i<ns.length:=by
  have:=(Array.getElem?_eq_some_iff.mp e).1
  omega
 exact ⟨ns[i],t,by simp [h],by rw [q,List.getD_eq_getElem?_getD]; simp [h]⟩
section
variable {prog:Program} {w:World} {A:Around} {E:Value->Shared->Prop} {s:Shared}
theorem lW {l:Addr} {items:Array Value} {ns:List Int} {Q:Value->Shared->Prop} (hh:A.handled=none) (hl:s.heap.IsList l items\/s.heap.IsTuple l items) (hi:IntsAre items.toList ns) (hb:items.size+1<scanBound)
  (h:∀ (h':Heap) (tk:Nat),SetJ w h' s.heap.objs.size (fZ ns)->(∀ b o,s.heap.get? b=some o->h'.get? b=some o)->Q (.ref s.heap.objs.size) { s with heap:=h',toks:=tk }):wpAny (model prog w) A (call (.type "set") [.ref l]) Q E s:=by
 obtain ⟨hn,hP⟩:=rj hi
 refine ou fun A' hA=>?_
 have hh':A'.handled=none:=hA.trans hh
 have fin:∀ (s':Shared) (I:Addr) (o:Obj),Moved [s.heap.objs.size,I] (fun a b=>b=a) { s with heap:=(s.heap.push (bc (!w.params.followText "set-order"))).push o } s'->I=(s.heap.push (bc (!w.params.followText "set-order"))).objs.size->SetJ w s'.heap s.heap.objs.size (fZ ns)->Q (.ref s.heap.objs.size) s':=fun s' I o hm hI hS=>by
  obtain ⟨h',g',d',tk',os'⟩:=s'
  have eg:g'=s.gens:=hm.gens
  have ed:d'=s.drawn:=hm.drawn
  have eo:os'=s.os:=hm.os
  subst eg ed eo
  refine h h' tk' hS fun b o' e=>?_
  have lt:=Heap.lt_size e
  refine hm.heap b o' ?_ (Heap.get?_push_of_some _ (Heap.get?_push_of_some _ e))
  rw [hI,Heap.size_push]
  simp only [List.mem_cons,List.not_mem_nil,or_false,not_or]
  exact ⟨Nat.ne_of_lt lt,Nat.ne_of_lt (Nat.lt_succ_of_lt lt)⟩
 rcases hl with hl | hl
 ·obtain ⟨ol,hol,hcl,nl,hdl⟩:=hl
  obtain ⟨ocls,odict,odata,oslots⟩:=ol
  simp only at hcl hdl
  subst hcl hdl
  have lt:=Heap.lt_size hol
  have hol':=Heap.get?_push_of_some (bc (!w.params.followText "set-order")) hol
  have f1:=F.sub_list_set
  have f2:=F.sub_list_frozenset
  have f3:(Value.type "list" == Value.type "dict")=false:=by decide
  have hl1:(s.heap.push (bc (!w.params.followText "set-order"))).IsList l items:=⟨_,hol',rfl,nl,rfl⟩
  unfold Builtin.Frozenset.updateFrom
  generalize hPI:pyIter=PI
  wp_walk
  subst hPI
  refine wpAny_pyIter_list hl1 ?_
  refine wpAny_bind (wpAny_runValue ?_)
  have ne:l≠(s.heap.push (bc (!w.params.followText "set-order"))).objs.size:=by rw [Heap.size_push]; exact Nat.ne_of_lt (Nat.lt_succ_of_lt lt)
  have nf:s.heap.objs.size ∉ [(s.heap.push (bc (!w.params.followText "set-order"))).objs.size,l]:=by
   rw [Heap.size_push]
   simp only [List.mem_cons,List.not_mem_nil,or_false,not_or]
   exact ⟨Nat.ne_of_lt (Nat.lt_succ_self _),Nat.ne_of_gt lt⟩
  refine pd ((Walks.list (by simpa using hh') _ l ne items).toS) s.heap.objs.size nf ns hn hP hb items.size 0 _ (by omega) (Nat.zero_le _) ⟨⟨_,Heap.get?_push_size _ rfl,rfl,rfl⟩,hl1.push _⟩ (setJ_fresh.at fun o e=>Heap.get?_push_of_some _ e) fun s' hm hS=>?_
  exact wpAny_pure ((fin s' _ _ hm rfl hS))
 ·obtain ⟨ol,hol,hcl,nl,hdl⟩:=hl
  obtain ⟨ocls,odict,odata,oslots⟩:=ol
  simp only at hcl hdl
  subst hcl hdl
  have lt:=Heap.lt_size hol
  have hol':=Heap.get?_push_of_some (bc (!w.params.followText "set-order")) hol
  have f1:=lD
  have f2:=gC
  have f3:(Value.type "tuple" == Value.type "dict")=false:=by decide
  have hl1:(s.heap.push (bc (!w.params.followText "set-order"))).IsTuple l items:=⟨_,hol',rfl,nl,rfl⟩
  unfold Builtin.Frozenset.updateFrom
  generalize hPI:pyIter=PI
  wp_walk
  subst hPI
  refine wpAny_pyIter_tuple hl1 ?_
  refine wpAny_bind (wpAny_runValue ?_)
  have ne:l≠(s.heap.push (bc (!w.params.followText "set-order"))).objs.size:=by rw [Heap.size_push]; exact Nat.ne_of_lt (Nat.lt_succ_of_lt lt)
  have nf:s.heap.objs.size ∉ [(s.heap.push (bc (!w.params.followText "set-order"))).objs.size,l]:=by
   rw [Heap.size_push]
   simp only [List.mem_cons,List.not_mem_nil,or_false,not_or]
   exact ⟨Nat.ne_of_lt (Nat.lt_succ_self _),Nat.ne_of_gt lt⟩
  refine pd ((Walks.tuple (by simpa using hh') _ l ne items).toS) s.heap.objs.size nf ns hn hP hb items.size 0 _ (by omega) (Nat.zero_le _) ⟨⟨_,Heap.get?_push_size _ rfl,rfl,rfl⟩,hl1.push _⟩ (setJ_fresh.at fun o e=>Heap.get?_push_of_some _ e) fun s' hm hS=>?_
  exact wpAny_pure ((fin s' _ _ hm rfl hS))
end
theorem g8 {α:Type}:∀ (l:List α) (i:Nat) (x:α),l[i]? = some x->l.Perm (x::l.eraseIdx i)
 | a::l,0,x,h=>by
  have:a=x:=by simpa using h
  subst this
  exact .refl _
 | a::l,i+1,x,h=>by
  have ih:=g8 l i x (by simpa using h)
  rw [List.eraseIdx_cons_succ]
  exact (ih.cons a).trans (.swap x a _)
theorem sL {α:Type} (f:Nat->Nat):∀ (n k:Nat) (l:List α) (out:Array α),l.length=n->(pickOrder.go f n k l out).toList.Perm (out.toList++l)
 | 0,k,l,out,h=>by
  have:l=[]:=List.length_eq_zero_iff.mp h
  subst this
  unfold pickOrder.go
  simp
 | n+1,k,l,out,h=>by
  have hi:f k % l.length<l.length:=Nat.mod_lt _ (by omega)
  have hx:l[f k % l.length]? = some l[f k % l.length]:=by simp [hi]
  unfold pickOrder.go
  rw [hx]
  have ih:=sL f n (k+1) (l.eraseIdx (f k % l.length)) (out.push l[f k % l.length]) (by rw [List.length_eraseIdx,if_pos hi]; omega)
  refine ih.trans ?_
  rw [Array.toList_push,List.append_assoc]
  exact (g8 l _ _ hx).symm.append_left _
theorem uC {α:Type} (f:Nat->Nat) (xs:Array α):(pickOrder f xs).toList.Perm xs.toList:=by
 have:=sL f xs.size 0 xs.toList #[] (by simp)
 simpa [pickOrder] using this
theorem slot_si_next:Slot "set_iterator" "__next__" "set_iterator.__next__":=
 .of (owner:="set_iterator") (n:="__next__") (by rw [typeLookup_type,builtinLookup_eq_fast]; kernel_rfl) (by decide +kernel) (by decide +kernel) (by decide +kernel)
  (by first | exact .inl (by decide +kernel) | exact .inr (by decide +kernel)) (by rw [isSubtype_type]; kernel_rfl)
theorem lR:entryFor table "set_iterator.__next__" = some Builtin.«set_iterator.__next__»:=entryFor_of_tree (by kernel_rfl)
theorem pI:Manifest.owners.lookup (String.ofList ['r','o','t','a','r','e','t','i','_','t','e','s'].reverse)=some Manifest.sig_set_iterator:=by kernel_rfl
theorem oG (a:Value):argsOk "set_iterator.__next__" ⟨[a],[]⟩:=by
 unfold argsOk; rw [signature?_of (id:="set_iterator.__next__") (n:=['_','_','t','x','e','n','_','_']) (o:=['r','o','t','a','r','e','t','i','_','t','e','s']) (by kernel_rfl) pI]; kernel_rfl
theorem jO:entryFor table "set.__iter__" = some Builtin.«frozenset.__iter__»:=
 entryFor_alias (id':="frozenset.__iter__") (by kernel_rfl) rfl (by decide +kernel) (by kernel_rfl)
section
variable {M:Model} {prog:Program} {w:World} {A:Around} {E:Value->Shared->Prop} {s:Shared}
theorem m9 {src:Source} {n:Nat} {Q:Nat->Shared->Prop} (hn:n≠0) (h:∀ k d,k<n->Q k { s with drawn:=d }):wpAny M A (choose src n) Q E s:=fun Γ p hΓ=>by
 show Sem.wp M Γ (.choose src n .pure) _ _ p s
 rw [Sem.wp_choose]
 exact ⟨hn,h _ _ (Nat.mod_lt _ (Nat.pos_of_ne_zero hn))⟩
theorem mP {α:Type}:∀ (n:Nat) (xs:List α) (s:Shared) {Q:List α -> Shared->Prop},xs.length=n->(∀ ys d,ys.Perm xs->Q ys { s with drawn:=d })->wpAny M A (drawOrder n xs) Q E s
 | 0,xs,s,Q,hn,h=>by
  have:xs=[]:=List.length_eq_zero_iff.mp hn
  subst this
  unfold drawOrder
  exact wpAny_pure (h [] s.drawn (.refl _))
 | n+1,[],s,Q,hn,h=>by simp at hn
 | n+1,x::xs,s,Q,hn,h=>by
  unfold drawOrder
  refine wpAny_bind (m9 (by simp) fun k d hk=>?_)
  have hx:(x::xs)[k]? = some ((x::xs)[k]):=by simp [hk]
  rw [hx]
  refine wpAny_bind (mP n ((x::xs).eraseIdx k) _ (by rw [List.length_eraseIdx,if_pos hk]; omega) fun ys d' p=>?_)
  exact wpAny_pure (h _ d' ((p.cons _).trans (g8 _ _ _ hx).symm))
noncomputable abbrev nA (es:Array (Int×Value)) (ep:Nat) (t:SetTable):Obj:={ cls:=.type "set",dict:=none,data:=.set es ep t,slots:=#[] }
noncomputable def kl (first:Value) (i:Int) (a:Addr) (n ep:Int):Obj:={ cls:=.type "set_iterator",data:=.fields #[first,rawInt i,.ref a,rawInt n,rawInt ep] }
theorem gA {Q:Bool->Shared->Prop} (h:Q (w.params.followText "set-order") s):wpAny (model prog w) A setsByText Q E s:=by
 unfold setsByText
 exact wpAny_bind (wpAny_askSetting (wpAny_pure h))
inductive Mode (w:World) (h:Heap) (a:Addr) (es:Array (Int×Value)) (ep:Nat) (t:SetTable) (vs:List Value):Nat->Value->Prop
 | text {i:Nat} {sl:Nat}:w.params.followText "set-order" = true->vs=(pickOrder (w.params.setOrder a ep) es).toList.map (·.2)->Mode w h a es ep t vs i (rawInt sl)
 | slots {i:Nat}:w.params.followText "set-order" = false->(!t.plain&&decide (es.size>1))=false->UpA t.place->vs=es.toList.map (·.2)->Mode w h a es ep t vs i (rawInt (if i=0 then 0 else t.place.getD (i-1) 0+1:Nat))
 | drawn {i:Nat} {tp:Addr} {o:Obj} {ps:List Nat} {k:Nat}:h.get? tp=some o->o.data=.seq (ps.map fun p:Nat=>rawInt (p:Int)).toArray k->vs.length=ps.length->(∀ (j p:Nat),ps[j]? = some p->∃ e:Int×Value,es[p]? = some e/\vs[j]? = some e.2)->Mode w h a es ep t vs i (.ref tp)
noncomputable def SWk (w:World) (h:Heap) (I a:Addr) (vs:List Value) (tp:Addr) (i:Nat):Prop:=∃ es ep t first,h.get? a=some (nA es ep t)/\t.fits es.size=true/\WkT (!w.params.followText "set-order") t/\vs.length=es.size/\h.get? I=some (kl first i a es.size ep)/\(∀ b,first=.ref b->b=tp)/\Mode w h a es ep t vs i first
theorem Mode.keep {h h':Heap} {a tp:Addr} {es:Array (Int×Value)} {ep:Nat} {t:SetTable} {vs:List Value} {i:Nat} {first:Value} (m:Mode w h a es ep t vs i first) (hf:∀ b,first=.ref b->b=tp) (k:∀ o,h.get? tp=some o->h'.get? tp=some o):Mode w h' a es ep t vs i first:=by
 cases m with
 | text e1 e2=>exact .text e1 e2
 | slots e1 e2 e3 e4=>exact .slots e1 e2 e3 e4
 | drawn e1 e2 e3 e4=>
  have:=hf _ rfl
  subst this
  exact .drawn (k _ e1) e2 e3 e4
theorem dX {I:Addr} {first:Value} {i n ep:Int} {a:Addr} (h:s.heap.get? I=some (kl first i a n ep)):s.TypeIs (.ref I) "set_iterator":=⟨_,h,rfl⟩
theorem sy {I a:Addr} {first:Value} {i n:Nat} {es:Array (Int×Value)} {ep:Nat} {t:SetTable} {Q:Option Value->Shared->Prop} (hI:s.heap.get? I=some (kl first i a n ep)) (ha:s.heap.get? a=some (nA es ep t)) (hf:t.fits es.size=true) (hn:es.size=n)
  (h:wpAny (model prog w) A.in1 (if let .int slot _:=first then do
     match <- setNext a slot.toNat i ep with
     | some (x,next)=>
      setField (.ref I) 0 (rawInt next)
      setField (.ref I) 1 (rawInt ((i:Int)+1))
      ret x
     | none=>setField (.ref I) 2 .none; raiseNew (<- newExc (.type "StopIteration") [])
    else do
     let some places <- seqItems? first | unsupported "internal:set_iterator"
     match places[i]? with
     | some (.int place _)=>
      let x <- setNextDrawn a place.toNat ep
      setField (.ref I) 1 (rawInt ((i:Int)+1))
      ret x
     | some _=>unsupported "internal:set_iterator"
     | none=>setField (.ref I) 0 (rawInt 0); setField (.ref I) 2 .none; raiseNew (<- newExc (.type "StopIteration") []))
   (fun fin s'=>∃ r,fin=.done (.ret r)/\Q (some r) s') (fun e s'=>wpAny (model prog w) A (do if <- isInstance e (.type "StopIteration") then pure none else throw e) Q E s') s):wpAny (model prog w) A (pyNext (.ref I)) Q E s:=by
 unfold pyNext
 refine wpAny_bind (wpAny_attempt (wpAny_callSpecial?_slot (name:=Str.ofString "__next__") (dX hI) slot_si_next (wpAny_call_entry slot_si_next (dX hI) lR ?_ (oG _))))
 unfold Builtin.«set_iterator.__next__»
 refine wpAny_bind (wpAny_of_eq (a:=(Value.ref I,[])) rfl ?_)
 try dsimp only
 refine wpAny_bind (wpAny_fieldsOf hI rfl ?_)
 show wpAny _ _ (setEntries a >>= fun q=>_) _ _ s
 refine wpAny_bind (wpAny_setEntries_of ha rfl hf ?_)
 refine wpAny_ite_split (fun z=>absurd z (by simp [hn])) (fun _=>?_)
 simp only [Int.toNat_natCast]
 exact wpAny_mono h (fun fin s' q=>let ⟨r,e,q⟩:=q; ⟨r,e,wpAny_pure q⟩) fun _ _ e=>e
theorem ny {Q:Option Value->Shared->Prop} {P:PySem.Fin->Shared->Prop} (hh:A.handled=none) (h:∀ h',(∀ b o,s.heap.get? b=some o->h'.get? b=some o)->Q none { s with heap:=h' }) :
  wpAny (model prog w) A.in1 (do
   let x <- newExc (.type "StopIteration") []
   raiseNew x) P (fun e s'=>wpAny (model prog w) A (do if <- isInstance e (.type "StopIteration") then pure none else throw e) Q E s') s:=by
 refine wpAny_bind ?_
 simp only [newExc,newTuple]
 refine wpAny_bind (wpAny_newObj_type ?_ (by size_fits))
 refine wpAny_bind (m:=firstArgMember _ _) (wpAny_of_eq (a:=Value.none) (by first | rfl | (simp only [firstArgMember]; rfl)) ?_)
 refine wpAny_newObj_type ?_ (by size_fits)
 simp only [raiseNew]
 refine wpAny_bind (wpAny_handled ?_)
 rw [show A.in1.handled=none from hh]
 refine wpAny_bind (wpAny_pure (wpAny_throw ?_))
 refine wpAny_bind (wpAny_isInstance (T:="StopIteration") (b:=true) ⟨_,Heap.get?_push_size _ rfl,rfl⟩ isSubtype_stop ?_)
 exact wpAny_pure (h _ fun b o e=>Heap.get?_push_of_some _ (Heap.get?_push_of_some _ e))
theorem bq {h:Heap} {I b:Addr} {f:Obj->Obj} {o:Obj} (hb:b≠I) (e:h.get? b=some o):(h.update I f).get? b=some o:=(Heap.get?_update_other _ _ (Ne.symm hb)).trans e
theorem ij {a:Addr} {es:Array (Int×Value)} {ep:Nat} {t:SetTable} {sl i:Nat} {Q:Option (Value×Nat)->Shared->Prop} (ha:s.heap.get? a=some (nA es ep t)) (hf:t.fits es.size=true) (hT:w.params.followText "set-order" = true) (h:Q (((pickOrder (w.params.setOrder a ep) es)[i]?).map fun e=>(e.2,sl)) s):wpAny (model prog w) A (setNext a sl i ep) Q E s:=by
 unfold setNext
 refine wpAny_bind (wpAny_setState_of ha rfl hf ?_)
 dsimp only
 refine wpAny_bind (gA ?_)
 rw [hT,if_pos rfl]
 refine wpAny_ite_split (fun z=>absurd z (by simp)) (fun _=>?_)
 unfold setWalk
 refine wpAny_bind (wpAny_bind (wpAny_setState_of ha rfl hf ?_))
 dsimp only
 refine wpAny_bind (gA ?_)
 rw [hT,if_pos rfl]
 refine wpAny_bind (wpAny_askSetting (wpAny_pure ?_))
 exact wpAny_pure h
theorem ik {a:Addr} {es:Array (Int×Value)} {ep:Nat} {t:SetTable} {sl i:Nat} {Q:Option (Value×Nat)->Shared->Prop} (ha:s.heap.get? a=some (nA es ep t)) (hf:t.fits es.size=true) (hT:w.params.followText "set-order" = false) (hp:(!t.plain&&decide (es.size>1))=false) (hw:t.led=true)
  (h:Q (match es[SetTable.below t.place sl]?,t.place[SetTable.below t.place sl]? with
   | some (_,x),some j=>some (x,j+1)
   | _,_=>none) s):wpAny (model prog w) A (setNext a sl i ep) Q E s:=by
 unfold setNext
 refine wpAny_bind (wpAny_setState_of ha rfl hf ?_)
 dsimp only
 refine wpAny_bind (gA ?_)
 rw [hT,if_neg (by decide)]
 show wpAny _ _ (if (!t.plain&&decide (es.size>1))=true then _ else _) _ _ _
 rw [hp,if_neg (by decide)]
 show wpAny _ _ ((if (!t.led && !es.isEmpty)=true then _ else _) >>= _) _ _ _
 rw [hw]
 simp only [Bool.not_true,Bool.false_and,Bool.false_eq_true,if_false]
 exact wpAny_bind (wpAny_pure (wpAny_pure h))
end
section
variable {prog:Program} {w:World} {A:Around} {E:Value->Shared->Prop} {s:Shared}
theorem jo {t:SetTable} {n:Nat} (h:t.fits n=true):t.place.size=n:=by
 simp only [SetTable.fits,Bool.and_eq_true,beq_iff_eq] at h
 exact h.1
theorem vV {h:Heap} {I a:Addr} {first x:Value} {i n ep:Int} (hI:h.get? I=some (kl first i a n ep)) (j:Int):((h.update I (Obj.mapFields (·.setIfInBounds 0 x))).update I (Obj.mapFields (·.setIfInBounds 1 (rawInt j)))).get? I=some (kl x j a n ep):=by
 have h1:=Heap.get?_update_self (Obj.mapFields (·.setIfInBounds 0 x)) hI rfl
 exact Heap.get?_update_self (Obj.mapFields (·.setIfInBounds 1 (rawInt j))) h1 rfl
theorem BW {h:Heap} {I a:Addr} {first:Value} {i n ep:Int} (hI:h.get? I=some (kl first i a n ep)) (j:Int):(h.update I (Obj.mapFields (·.setIfInBounds 1 (rawInt j)))).get? I=some (kl first j a n ep):=
 Heap.get?_update_self (Obj.mapFields (·.setIfInBounds 1 (rawInt j))) hI rfl
theorem yK {I a tp:Addr} {vs:List Value} {i:Nat} {v:Value} {Q:Option Value->Shared->Prop} (ha:a≠I) (ht:tp≠I) (hW:SWk w s.heap I a vs tp i) (hv:vs[i]? = some v)
  (hQ:∀ h',SWk w h' I a vs tp (i+1)->(∀ b o,b≠I->s.heap.get? b=some o->h'.get? b=some o)->Q (some v) { s with heap:=h' }):wpAny (model prog w) A (pyNext (.ref I)) Q E s:=by
 obtain ⟨es,ep,t,first,e1,e2,e3,e4,e5,e6,e7⟩:=hW
 have hi:i<vs.length:=(List.getElem?_eq_some_iff.mp hv).1
 refine sy e5 e1 e2 rfl ?_
 cases e7 with
 | text m1 m2=>
  rename_i sl
  show wpAny _ _ (setNext a ((sl:Int)).toNat i ep >>= _) _ _ _
  rw [Int.toNat_natCast]
  have hx:∃ e,(pickOrder (w.params.setOrder a ep) es)[i]? = some e/\e.2=v:=by
   rw [m2,List.getElem?_map,Array.getElem?_toList] at hv
   exact Option.map_eq_some_iff.mp hv
  obtain ⟨e,q1,q2⟩:=hx
  refine wpAny_bind (ij e1 e2 m1 ?_)
  rw [q1]
  dsimp only [Option.map]
  rw [q2]
  refine wpAny_bind (wpAny_setField e5 rfl (by simp) ?_)
  have g1:=Heap.get?_update_self (Obj.mapFields (·.setIfInBounds 0 (rawInt (sl:Int)))) e5 rfl
  refine wpAny_bind (wpAny_setField g1 rfl (by simp) (wpAny_pure ⟨v,rfl,hQ _ ?_ fun b o hb eo=>bq hb (bq hb eo)⟩))
  exact ⟨es,ep,t,rawInt sl,bq ha (bq ha e1),e2,e3,e4,vV e5 _,fun b z=>(by cases z),.text m1 m2⟩
 | slots m1 m2 m3 m4=>
  have hz:=jo e2
  have hb:SetTable.below t.place (if i=0 then 0 else t.place.getD (i-1) 0+1)=i:=by
   by_cases z:i=0
   ·subst z; rw [if_pos rfl,ll m3]
   ·rw [if_neg z]
    have:i-1<t.place.size:=by omega
    have e:t.place.getD (i-1) 0=t.place[i-1]:=by simp [Array.getD,this]
    rw [e,lq m3 this]
    omega
  have hp:t.place[i]? = some (t.place.getD i 0):=by
   have:i<t.place.size:=by omega
   simp [Array.getD,this]
  obtain ⟨e,q1,q2⟩:∃ e,es[i]? = some e/\e.2=v:=by
   rw [m4,List.getElem?_map,Array.getElem?_toList] at hv
   exact Option.map_eq_some_iff.mp hv
  obtain ⟨eh,ev⟩:=e
  have q2:ev=v:=q2
  subst q2
  show wpAny _ _ (setNext a (((if i=0 then 0 else t.place.getD (i-1) 0+1:Nat):Int)).toNat i ep >>= _) _ _ _
  rw [Int.toNat_natCast]
  refine wpAny_bind (ik e1 e2 m1 m2 (by rw [e3.led,m1]; rfl) ?_)
  rw [hb,q1,hp]
  dsimp only
  refine wpAny_bind (wpAny_setField e5 rfl (by simp) ?_)
  have g1:=Heap.get?_update_self (Obj.mapFields (·.setIfInBounds 0 (rawInt ((t.place.getD i 0+1:Nat):Int)))) e5 rfl
  refine wpAny_bind (wpAny_setField g1 rfl (by simp) (wpAny_pure ⟨ev,rfl,hQ _ ?_ fun b o hb eo=>bq hb (bq hb eo)⟩))
  have m:Mode w ((s.heap.update I (Obj.mapFields (·.setIfInBounds 0 (rawInt ((t.place.getD i 0+1:Nat):Int))))).update I (Obj.mapFields (·.setIfInBounds 1 (rawInt ((i:Int)+1))))) a es ep t vs (i+1) (rawInt (if i+1=0 then 0 else t.place.getD (i+1-1) 0+1:Nat)):=.slots m1 m2 m3 m4
  rw [if_neg (by omega),Nat.add_sub_cancel] at m
  exact ⟨es,ep,t,_,bq ha (bq ha e1),e2,e3,e4,vV e5 _,fun b z=>(by cases z),m⟩
 | drawn m1 m2 m3 m4=>
  rename_i tq o ps k
  have:=e6 _ rfl
  subst this
  have hj:i<ps.length:=by omega
  have hp:ps[i]? = some ps[i]:=by simp [hj]
  obtain ⟨e,q1,q2⟩:=m4 i _ hp
  rw [hv] at q2
  have q2:v=e.2:=by simpa using q2
  show wpAny _ _ (seqItems? (.ref tq) >>= _) _ _ _
  refine wpAny_bind (wpAny_seqItems m1 m2 ?_)
  dsimp only
  have pl:(ps.map fun p:Nat=>rawInt (p:Int)).toArray[i]? = some (rawInt (ps[i]:Int)):=by simp [hj]
  rw [pl]
  show wpAny _ _ (setNextDrawn a ((ps[i]:Int)).toNat ep >>= _) _ _ _
  rw [Int.toNat_natCast]
  unfold setNextDrawn
  refine wpAny_bind (wpAny_bind (wpAny_setState_of e1 rfl e2 ?_))
  dsimp only
  refine wpAny_ite_split (fun z=>absurd z (by simp)) (fun _=>?_)
  rw [q1]
  refine wpAny_pure ?_
  rw [<- q2]
  refine wpAny_bind (wpAny_setField e5 rfl (by simp) (wpAny_pure ⟨v,rfl,hQ _ ?_ fun b o hb eo=>bq hb eo⟩))
  exact ⟨es,ep,t,.ref tq,bq ha e1,e2,e3,e4,BW e5 _,e6,.drawn (bq ht m1) m2 m3 m4⟩
theorem yL {I a tp:Addr} {vs:List Value} {Q:Option Value->Shared->Prop} (hh:A.handled=none) (hW:SWk w s.heap I a vs tp vs.length)
  (hQ:∀ h',(∀ b o,b≠I->s.heap.get? b=some o->h'.get? b=some o)->Q none { s with heap:=h' }):wpAny (model prog w) A (pyNext (.ref I)) Q E s:=by
 obtain ⟨es,ep,t,first,e1,e2,e3,e4,e5,e6,e7⟩:=hW
 refine sy e5 e1 e2 rfl ?_
 cases e7 with
 | text m1 m2=>
  rename_i sl
  show wpAny _ _ (setNext a ((sl:Int)).toNat vs.length ep >>= _) _ _ _
  rw [Int.toNat_natCast]
  refine wpAny_bind (ij e1 e2 m1 ?_)
  have hx:(pickOrder (w.params.setOrder a ep) es)[vs.length]? = none:=by
   rw [<- Array.getElem?_toList,List.getElem?_eq_none_iff,m2,List.length_map]
   exact Nat.le_refl _
  rw [hx]
  dsimp only [Option.map]
  refine wpAny_bind (wpAny_setField e5 rfl (by simp) ?_)
  exact ny hh fun h' kp=>hQ h' fun b o hb eo=>kp b o (bq hb eo)
 | slots m1 m2 m3 m4=>
  have hz:=jo e2
  have hb:SetTable.below t.place (if vs.length=0 then 0 else t.place.getD (vs.length-1) 0+1)=vs.length:=by
   by_cases z:vs.length=0
   ·rw [if_pos z,ll m3,z]
   ·rw [if_neg z]
    have:vs.length-1<t.place.size:=by omega
    have e:t.place.getD (vs.length-1) 0=t.place[vs.length-1]:=by simp [Array.getD,this]
    rw [e,lq m3 this]
    omega
  show wpAny _ _ (setNext a (((if vs.length=0 then 0 else t.place.getD (vs.length-1) 0+1:Nat):Int)).toNat vs.length ep >>= _) _ _ _
  rw [Int.toNat_natCast]
  refine wpAny_bind (ik e1 e2 m1 m2 (by rw [e3.led,m1]; rfl) ?_)
  rw [hb]
  have hx:es[vs.length]? = none:=by rw [e4]; simp
  rw [hx]
  dsimp only
  refine wpAny_bind (wpAny_setField e5 rfl (by simp) ?_)
  exact ny hh fun h' kp=>hQ h' fun b o hb eo=>kp b o (bq hb eo)
 | drawn m1 m2 m3 m4=>
  rename_i tq o ps k
  show wpAny _ _ (seqItems? (.ref tq) >>= _) _ _ _
  refine wpAny_bind (wpAny_seqItems m1 m2 ?_)
  dsimp only
  have pl:(ps.map fun p:Nat=>rawInt (p:Int)).toArray[vs.length]? = none:=by rw [m3]; simp
  rw [pl]
  dsimp only
  refine wpAny_bind (wpAny_setField e5 rfl (by simp) ?_)
  have g1:=Heap.get?_update_self (Obj.mapFields (·.setIfInBounds 0 (rawInt 0))) e5 rfl
  refine wpAny_bind (wpAny_setField g1 rfl (by simp) ?_)
  exact ny hh fun h' kp=>hQ h' fun b o hb eo=>kp b o (bq hb (bq hb eo))
theorem SWk.frame {h h':Heap} {I a tp:Addr} {vs:List Value} {i:Nat} (x:SWk w h I a vs tp i) (k:∀ b∈[I,a,tp],∀ o,h.get? b=some o->h'.get? b=some o):SWk w h' I a vs tp i:=
 let ⟨es,ep,t,first,e1,e2,e3,e4,e5,e6,e7⟩:=x
 ⟨es,ep,t,first,k a (by simp) _ e1,e2,e3,e4,k I (by simp) _ e5,e6,e7.keep e6 (k tp (by simp))⟩
theorem lS:entryFor table "set_iterator.__iter__" = some Builtin.«dict_keyiterator.__iter__»:=
 entryFor_alias (id':="dict_keyiterator.__iter__") (by kernel_rfl) (by first | rfl | decide +kernel | (unfold String.splitOn; simp +decide [String.splitOnAux])) (by decide +kernel) (by kernel_rfl)
theorem ig:Slot "set_iterator" "__iter__" "set_iterator.__iter__":=
 .of (owner:="set_iterator") (n:="__iter__") (by rw [typeLookup_type,builtinLookup_eq_fast]; kernel_rfl) (by decide +kernel) (by decide +kernel) (by decide +kernel)
  (by first | exact .inl (by decide +kernel) | exact .inr (by decide +kernel)) (by rw [isSubtype_type]; kernel_rfl)
theorem oH (a:Value):argsOk "set_iterator.__iter__" ⟨[a],[]⟩:=by
 unfold argsOk; rw [signature?_of (id:="set_iterator.__iter__") (n:=['_','_','r','e','t','i','_','_']) (o:=['r','o','t','a','r','e','t','i','_','t','e','s']) (by kernel_rfl) pI]; kernel_rfl
theorem vE (hh:A.handled=none) {I a tp:Addr} (ha:a≠I) (ht:tp≠I) (vs:List Value):Walks prog w A I [I,a,tp] [I] vs.length (fun i v=>vs[i]? = some v) (fun i h=>SWk w h I a vs tp i) where
 sub:=fun b hb=>by simp at hb; simp [hb]
 frame:=fun _ _ _ st hk=>st.frame hk
 item:=fun i s Q E hi st hQ=>yK ha ht st (v:=vs[i]) (by simp [hi]) fun h' x k=>hQ _ h' s.toks (by simp [hi]) x fun b o hb e=>k b o (fun z=>hb (by simp [z])) e
 done:=fun s Q E st hQ=>yL hh st fun h' k=>hQ h' s.toks fun b o hb e=>k b o (fun z=>hb (by simp [z])) e
 self:=fun i s Q E st hQ=>by
  obtain ⟨es,ep,t,first,e1,e2,e3,e4,e5,e6,e7⟩:=st
  refine wpAny_pyIter_slot (dX e5) ig (wpAny_call_entry ig (dX e5) lS ?_ (oH _))
  exact wpAny_pure ⟨_,rfl,"set_iterator",_,dX e5,slot_si_next.lookup,hQ⟩
end
theorem iF:∀ (l:List (Int×Value)),(∀ e∈l,rS e)->IntsAre (l.map (·.2)) (l.map fun e=>nc e.2)
 | [],_=>.nil
 | e::l,h=>by
  obtain ⟨k,t,rfl⟩:=h e List.mem_cons_self
  exact .cons k t (iF l fun e he=>h e (List.mem_cons_of_mem _ he))
theorem qQ (es:Array (Int×Value)):(List.range es.size).map (fun p=>es.getD p (0,.none))=es.toList:=by
 apply List.ext_getElem?
 intro i
 rw [List.getElem?_map]
 by_cases h:i<es.size
 ·rw [List.getElem?_range h]
  simp [Array.getD,h]
 ·rw [List.getElem?_eq_none (by rw [List.length_range]; omega),List.getElem?_eq_none (by rw [Array.length_toList]; omega)]
  rfl
section
variable {prog:Program} {w:World} {A:Around} {E:Value->Shared->Prop} {s:Shared}
theorem v3 {a:Addr} {ns:List Int} {Q:Value->Shared->Prop} (hS:SetJ w s.heap a ns)
  (hQ:∀ I tp h1 d vs ms,tp≠I->a≠I->(∀ b o,s.heap.get? b=some o->h1.get? b=some o)->s.heap.objs.size<=I->I<h1.objs.size->(tp=a\/s.heap.objs.size<=tp)->SWk w h1 I a vs tp 0->IntsAre vs ms->ms.Perm ns->Q (.ref I) { s with heap:=h1,drawn:=d }):wpAny (model prog w) A (pyIter (.ref a)) Q E s:=by
 obtain ⟨es,ep,t,ho,hel,hp,hb,hf,hw⟩:=hS
 have hT:s.TypeIs (.ref a) "set":=⟨_,ho,rfl⟩
 have lt:=Heap.lt_size ho
 refine wpAny_pyIter_slot hT F.slot_set_iter (wpAny_call_entry F.slot_set_iter hT jO ?_ (F.args_set_iter_1 _))
 unfold Builtin.«frozenset.__iter__» Builtin.Frozenset.slot0
 refine wpAny_bind (wpAny_bind (wpAny_of_eq (a:=(Value.ref a,[])) rfl ?_))
 unfold Builtin.Frozenset.addrOf Builtin.Frozenset.sizeOf
 refine wpAny_pure ?_
 refine wpAny_bind (wpAny_bind (wpAny_setEntries_of ho rfl hf (wpAny_pure ?_)))
 unfold setDrawn
 refine wpAny_bind (wpAny_bind (wpAny_setState_of ho rfl hf ?_))
 dsimp only
 refine wpAny_bind (gA (wpAny_pure ?_))
 have plain:∀ vs ms,IntsAre vs ms->ms.Perm ns->vs.length=es.size->(∀ h1:Heap,Mode w h1 a es ep t vs 0 (rawInt (0:Nat)))->wpAny (model prog w) A.in1 (do
   let ep <- setEpoch a
   let x <- newFields "set_iterator" [rawInt 0,rawInt 0,.ref a,rawInt es.size,rawInt ep]
   ret x) (fun fin s'=>∃ v,fin=.done (.ret v)/\∃ T' r,s'.TypeIs v T'/\typeLookup (.type T') "__next__" = pure (some r)/\Q v s') E s:=fun vs ms q1 q2 q3 q4=>by
  refine wpAny_bind (wpAny_setEpoch_of ho rfl hf ?_)
  refine wpAny_bind (wpAny_newObj_type (wpAny_pure ⟨_,rfl,"set_iterator",_,⟨_,Heap.get?_push_size _ rfl,rfl⟩,slot_si_next.lookup,?_⟩))
  refine hQ s.heap.objs.size a _ s.drawn vs ms (Nat.ne_of_lt lt) (Nat.ne_of_lt lt) (fun b o e=>Heap.get?_push_of_some _ e) (Nat.le_refl _) (by rw [Heap.size_push]; exact Nat.lt_succ_self _) (.inl rfl) ⟨es,ep,t,rawInt (0:Nat),Heap.get?_push_of_some _ ho,hf,hw,q3,Heap.get?_push_size _ rfl,fun b z=>(by cases z),q4 _⟩ q1 q2
 cases hb1:w.params.followText "set-order" with
 | true=>
  simp only [Bool.not_true,Bool.false_and,Bool.false_eq_true,if_false]
  have pp:=uC (w.params.setOrder a ep) es
  refine plain ((pickOrder (w.params.setOrder a ep) es).toList.map (·.2)) _ (iF _ fun e he=>hel e (pp.mem_iff.mp he)) ((pp.map _).trans hp) (by rw [List.length_map,pp.length_eq,Array.length_toList]) fun h1=>.text hb1 rfl
 | false=>
  by_cases hd:(!t.plain&&decide (es.size>1))=true
  ·show wpAny _ _ (if (!false&&(!t.plain&&decide (es.size>1)))=true then _ else _) _ _ _
   rw [hd]
   simp only [Bool.not_false,Bool.and_self,if_true]
   refine wpAny_bind (mP es.size (List.range es.size) s (List.length_range ..) fun ys d py=>?_)
   have hlen:ys.length=es.size:=by rw [py.length_eq,List.length_range]
   refine wpAny_bind (wpAny_newObj_type ?_ (by show (List.toArray _).size<=sizeLine; rw [List.size_toArray,List.length_map,hlen]; have:=hp.length_eq; rw [List.length_map,Array.length_toList] at this; exact fits_of_scanBound (by omega)))
   have ho1:=Heap.get?_push_of_some { cls:=.type "tuple",data:=.seq (ys.map fun i:Nat=>rawInt (i:Int)).toArray } ho
   refine wpAny_bind (wpAny_setEpoch_of ho1 rfl hf ?_)
   refine wpAny_bind (wpAny_newObj_type (wpAny_pure ⟨_,rfl,"set_iterator",_,⟨_,Heap.get?_push_size _ rfl,rfl⟩,slot_si_next.lookup,?_⟩))
   have pe:(ys.map fun p=>es.getD p (0,.none)).Perm es.toList:=by
    have:=py.map fun p=>es.getD p (0,.none)
    rwa [qQ] at this
   refine hQ (s.heap.push { cls:=.type "tuple",data:=.seq (ys.map fun i:Nat=>rawInt (i:Int)).toArray }).objs.size s.heap.objs.size _ d ((ys.map fun p=>es.getD p (0,.none)).map (·.2)) _ ?_ ?_ (fun b o e=>Heap.get?_push_of_some _ (Heap.get?_push_of_some _ e)) (by rw [Heap.size_push]; exact Nat.le_succ _) (Heap.lt_size (Heap.get?_push_size _ rfl)) (.inr (Nat.le_refl _)) ⟨es,ep,t,.ref s.heap.objs.size,Heap.get?_push_of_some _ ho1,hf,hw,by simp [hlen],Heap.get?_push_size _ rfl,fun b z=>by injection z with z; exact z.symm,?_⟩ (iF _ fun e he=>hel e (pe.mem_iff.mp he)) ((pe.map _).trans hp)
   ·rw [Heap.size_push]; exact Nat.ne_of_lt (Nat.lt_succ_self _)
   ·rw [Heap.size_push]; exact Nat.ne_of_lt (Nat.lt_succ_of_lt lt)
   ·refine .drawn (ps:=ys) (Heap.get?_push_of_some _ (Heap.get?_push_size _ rfl)) rfl (by simp) fun j p hj=>?_
    have hpn:p<es.size:=List.mem_range.mp (py.mem_iff.mp (List.mem_of_getElem? hj))
    refine ⟨es.getD p (0,.none),by simp [Array.getD,hpn],?_⟩
    rw [List.getElem?_map,List.getElem?_map,hj]
    rfl
  ·show wpAny _ _ (if (!false&&(!t.plain&&decide (es.size>1)))=true then _ else _) _ _ _
   have hd':(!t.plain&&decide (es.size>1))=false:=by simpa using hd
   rw [hd']
   simp only [Bool.not_false,Bool.and_false,Bool.false_eq_true,if_false]
   have up:UpA t.place:=by
    cases hpl:t.plain with
    | true=>exact hw.up hpl
    | false=>
     rw [hpl] at hd'
     have h1:es.size<=1:=by simpa using hd'
     have h2:=jo hf
     intro i j hi hj hij
     omega
   refine wpAny_bind (wpAny_pure ?_)
   refine plain (es.toList.map (·.2)) _ (iF _ hel) hp (by simp) fun h1=>?_
   have:=Mode.slots (w:=w) (h:=h1) (a:=a) (ep:=ep) (i:=0) hb1 hd' up (es:=es) rfl
   simpa using this
theorem xt {r:Addr} {Q:Bool->Shared->Prop} (hT:s.TypeIs (.ref r) "set") (h:Q false s):wpAny (model prog w) A (Builtin.List.listLengthHint (.ref r)) Q E s:=by
 unfold Builtin.List.listLengthHint
 refine wpAny_bind (wpAny_specialOf hT PySem.F.slot_set_len.lookup ?_)
 generalize hid:("set.__len__":String)=id0
 wp_delta
 rw [show splitId id0=some ("set","__len__") from by subst hid; decide +kernel]
 subst hid
 refine wpAny_bind (wpAny_isInstance (T:="set") (b:=true) hT (by rw [isSubtype_type]; kernel_rfl) ?_)
 refine wpAny_ite_split (fun z=>absurd z (by decide)) (fun _=>wpAny_ite_split (fun _=>?_) (fun z=>absurd (by decide +kernel) z))
 exact wpAny_bind (wpAny_typeOf hT (wpAny_pure h))
end
end VL
set_option Elab.async false
set_option linter.all false
set_option maxRecDepth 100000
set_option maxHeartbeats 4000000
namespace VL
open PySem PySem.Spec PyProof.Rows L2
section
variable {prog:Program} {w:World} {A:Around} {E:Value->Shared->Prop} {s:Shared}
theorem xp {vs:List Value} {acc:Array Value} (h:ItemsOf (fun i v=>vs[i]? = some v) acc vs.length):acc.toList=vs:=by
 obtain ⟨h1,h2⟩:=h
 apply List.ext_getElem?
 intro i
 rw [Array.getElem?_toList]
 cases e:acc[i]? with
 | some v=>exact (h2 i v e).symm
 | none=>
  have:acc.size<=i:=by simpa using e
  rw [List.getElem?_eq_none (by omega)]
theorem qm {a:Addr} {ns:List Int} {R:List Value->Shared->Prop} (hh:A.handled=none) (hS:SetJ w s.heap a ns)
  (h:∀ h' d tk vs ms,(∀ b o,s.heap.get? b=some o->h'.get? b=some o)->IntsAre vs ms->ms.Perm ns->R vs { s with heap:=h',drawn:=d,toks:=tk }):wpAny (model prog w) A (collect (.ref a)) R E s:=by
 have hsz:ns.length<scanBound:=by obtain ⟨es,ep,t,ho,hel,hp,hb,hf,hw⟩:=hS; exact hb
 have lta:a<s.heap.objs.size:=by obtain ⟨es,ep,t,ho,hel,hp,hb,hf,hw⟩:=hS; exact Heap.lt_size ho
 unfold collect
 refine wpAny_bind (wpAny_runValue (codeAny_builtin entry_proto_collect' ?_))
 rw [Around.under_plainId PySem.F.plain_proto_collect _]
 refine wpAny_bind (m:=newList []) (wpAny_newObj_type ?_)
 refine wpAny_pure ⟨plainId_quiet PySem.F.plain_list_iadd _,codeAny_builtin entry_list_iadd' ?_⟩
 rw [Around.under_plainId PySem.F.plain_list_iadd _]
 show wpAny _ A.in1 (Builtin.List.listExtendWith (.ref s.heap.objs.size) (.ref a) (.ref s.heap.objs.size)) _ _ _
 unfold Builtin.List.listExtendWith
 have kp1:∀ b o,s.heap.get? b=some o->(s.heap.push { cls:=.type "list",data:=.seq ([]:List Value).toArray }).get? b=some o:=fun b o e=>Heap.get?_push_of_some _ e
 have hS1:=hS.at fun o e=>kp1 a o e
 have hL:(s.heap.push { cls:=.type "list",data:=.seq ([]:List Value).toArray }).get? s.heap.objs.size=some { cls:=.type "list",data:=.seq #[] 0 }:=Heap.get?_push_size _ rfl
 have hT:∀ {s1:Shared},SetJ w s1.heap a ns->s1.TypeIs (.ref a) "set":=fun q=>by obtain ⟨es,ep,t,ho,r⟩:=q; exact ⟨_,ho,rfl⟩
 refine wpAny_bind (wpAny_typeOf (T:="set") (hT hS1) ?_)
 have h1:Builtin.List.listSameRef (.ref s.heap.objs.size) (.ref a)=false:=by simp [Builtin.List.listSameRef]; exact Nat.ne_of_gt lta
 have h2:(Value.type "set" == Value.type "list")=false:=by decide
 have h3:(Value.type "set" == Value.type "tuple")=false:=by decide
 simp only [h1,h2,h3,Bool.or_false,Bool.false_eq_true,if_false]
 refine wpAny_bind (v3 hS1 fun I tp h1 d vs ms htp haI kp2 hI hI2 htp2 sw iv pm=>?_)
 have ltL:s.heap.objs.size<(s.heap.push { cls:=.type "list",data:=.seq ([]:List Value).toArray }).objs.size:=Heap.lt_size hL
 have neI:s.heap.objs.size≠I:=fun z=>by
  have q:s.heap.objs.size<I:=Nat.lt_of_lt_of_le ltL hI
  rw [<- z] at q
  exact Nat.lt_irrefl _ q
 have neT:s.heap.objs.size≠tp:=fun z=>by
  rcases htp2 with q | q
  ·rw [q] at z; exact absurd lta (by rw [z]; exact Nat.lt_irrefl _)
  ·rw [<- z] at q; exact absurd ltL (Nat.not_lt.mpr q)
 have hL1:=kp2 _ _ hL
 refine wpAny_bind (wpAny_holding (xt (hT (s1:={ s with heap:=h1,drawn:=d }) (hS1.at fun o e=>kp2 a o e)) ?_))
 have fin:∀ (RR:Result->Shared->Prop) (hR:∀ s',wpAny (model prog w) A (load s.heap.objs.size >>= fun o=>match o.data with
   | .seq xs _=>pure xs.toList
   | _=>unsupported "internal:collect") R E s'->RR (.ok (.ret (.ref s.heap.objs.size))) s') (h2:Heap) (c:Nat),h2.get? s.heap.objs.size=some { cls:=.type "list",data:=.seq #[] c }->(∀ b o,b≠s.heap.objs.size->h1.get? b=some o->h2.get? b=some o)->codeAny (model prog w) A (.builtin "list.extend.loop" ⟨[.ref s.heap.objs.size,.ref I,.ref s.heap.objs.size],[]⟩) RR { s with heap:=h2,drawn:=d }:=fun RR hR h2 c e2 k2=>by
  have W:=(vE (prog:=prog) (w:=w) (A:=A.in1) hh haI htp vs).toS
  have vl:vs.length=ns.length:=by rw [<- pm.length_eq]; exact IntsAre.length iv
  refine codeAny_extend_loopS W (by rw [vl]; exact fits_of_scanBound hsz) s.heap.objs.size (by simp only [List.mem_cons,List.not_mem_nil,or_false,not_or]; exact ⟨neI,Nat.ne_of_gt lta,neT⟩) (.ref s.heap.objs.size) vs.length 0 _ #[] c rfl (Nat.zero_le _) (sw.frame fun b hb o e=>?_) e2 (ItemsOf.nil _) fun s' acc c' hm hS' hacc=>?_
  ·refine k2 b o (fun z=>?_) e
   simp only [List.mem_cons,List.not_mem_nil,or_false] at hb
   rcases hb with rfl | rfl | rfl
   ·exact neI z.symm
   ·exact Nat.ne_of_lt lta z
   ·exact neT z.symm
  ·refine hR s' (wpAny_bind (wpAny_load hS' (wpAny_pure ?_)))
   rw [xp hacc]
   obtain ⟨h',g',d',tk',os'⟩:=s'
   have eg:g'=s.gens:=hm.gens
   have ed:d'=d:=hm.drawn
   have eo:os'=s.os:=hm.os
   subst eg ed eo
   refine h h' d' tk' vs ms (fun b o e=>?_) iv pm
   have lt:=Heap.lt_size e
   refine hm.heap b o ?_ (k2 b o (Nat.ne_of_lt lt) (kp2 b o (kp1 b o e)))
   simp only [List.mem_cons,List.not_mem_nil,or_false,not_or]
   exact ⟨Nat.ne_of_lt lt,fun z=>by
    have q:b<I:=Nat.lt_trans lt (Nat.lt_of_lt_of_le ltL hI)
    rw [z] at q
    exact Nat.lt_irrefl _ q⟩
 refine wpAny_ite_split (fun _=>?_) (fun _=>wpAny_pure ⟨plainId_quiet PySem.F.plain_extend_loop _,fin _ (fun s' q=>q) h1 0 hL1 fun b o _ e=>e⟩)
 refine wpAny_bind (wpAny_rule ?_)
 refine wpAny_bind ?_
 show wpAny _ _ (updateSeq s.heap.objs.size (·.push .none) >>= fun _=>updateSeq s.heap.objs.size (·.pop)) _ _ _
 refine wpAny_bind (wpAny_updateSeq hL1 rfl ?_)
 have g2:=Heap.get?_update_self (Obj.mapSeq (·.push Value.none)) hL1 rfl
 refine wpAny_updateSeq (hz:=by seq_fits) g2 rfl ?_
 have g3:=Heap.get?_update_self (Obj.mapSeq (·.pop)) g2 rfl
 exact wpAny_pure ⟨plainId_quiet PySem.F.plain_extend_loop _,fin _ (fun s' q=>q) _ _ g3 fun b o hb e=>bG hb (bG hb e)⟩
end
section
variable {X:Cx}
theorem Inv.keptD {pins:List (Addr×Obj)} {σ:St} {H:Hp} {s:Shared} {h':Heap} {t':Nat} {d:Drawn} (I:Inv X pins σ H s) (k:∀ b u,s.heap.get? b=some u->h'.get? b=some u):Inv X pins σ H { s with heap:=h',drawn:=d,toks:=t' }:=by
 obtain ⟨a1,a2,a3,a4,a5,a6,a7,a8,a9,a10,a11⟩:=I.kept (t':=t') k
 exact ⟨a1,a2,a3,a4,a5,a6,a7,a8,a9,a10,a11⟩
theorem qJ (hc:X.calm=true) {pins:List (Addr×Obj)} {σ:St} {H:Hp} {s:Shared} {a:Addr} {ns:List Int} {Q:VK} (I:Inv X pins σ H s) (hS:SetJ X.w s.heap a ns) (h64:ns.length<64) (q:∀ l,H l=none->Q (.ref l) (upd H l (.lst ((br ns).map V.int)))) :
  wpAny (model X.prog X.w) X.A (call (.builtin "sorted") [.ref a]) (EP X pins σ Q) X.xe s:=by
 refine Calls.call_function_entry kind_sorted plain_sorted entry_sorted (args_sorted1 _) ?_
 unfold Builtin.«sorted»
 refine wpAny_bind (m:=checkCount "sorted" 1 1 _) (wpAny_pure ?_)
 refine wpAny_bind (qm (I.ok.hd hc) hS fun h' d tk acc ms hk' hI pm=>?_)
 have hln:acc.length=ns.length:=by rw [<- pm.length_eq]; exact IntsAre.length hI
 refine wpAny_bind (wpAny_newList ?_ (by rw [hln,sizeLine_eq]; omega))
 have hoL:(h'.push (seqObj "list" acc.toArray 0)).get? h'.objs.size=some (seqObj "list" acc.toArray 0):=Heap.get?_push_size _ rfl
 refine wpAny_bind (wpAny_holding (wpAny_call_entry slot_list_sort ⟨_,hoL,rfl⟩ entry_list_sort (list_sort_tree hoL hI (by rw [hln]; exact h64) fun out ns' a1 a2 a3=>⟨_,rfl,?_⟩) (args_list_sort _)))
 refine wpAny_pure ⟨_,rfl,?_⟩
 have e:=jl (a2.trans pm) a3
 subst e
 have I1:Inv X pins σ H { s with heap:=h',drawn:=d,toks:=tk }:=Inv.keptD I hk'
 have kp:∀ b o,h'.get? b=some o->(sortedHeap (h'.push (seqObj "list" acc.toArray 0)) h'.objs.size acc out).get? b=some o:=fun b o eo=>by
  have hb:b≠h'.objs.size:=Nat.ne_of_lt (Heap.lt_size eo)
  exact bG hb (Heap.get?_push_of_some _ (Heap.get?_push_of_some _ (bG hb (Heap.get?_push_of_some _ eo))))
 obtain ⟨e1,ho1⟩:∃ e1,((h'.push (seqObj "list" acc.toArray 0)).update h'.objs.size (Obj.mapSeq fun _=>#[])).get? h'.objs.size=some (seqObj "list" #[] e1):=⟨_,get?_update_seq hoL (fun _=>#[])⟩
 have ho2:=Heap.get?_push_of_some (seqObj "list" #[] 0) (Heap.get?_push_of_some (seqObj "tuple" acc.toArray 0) ho1)
 have ho3:=get?_update_seq ho2 (fun _=>out)
 have L:=I1.laid (h':=sortedHeap (h'.push (seqObj "list" acc.toArray 0)) h'.objs.size acc out) (a:=h'.objs.size) (o:=.lst ((br ns).map V.int)) (t':=tk) kp (Nat.le_refl _)
  (show ObjOk X.prog X.w _ _ _ (.lst ((br ns).map V.int)) from ⟨by rw [List.length_map,(dD ns).length_eq,sizeLine_eq]; omega,out.toList,_,db a1,by rw [Array.toArray_toList]; exact ho3⟩)
 exact ⟨.ref h'.objs.size,_,L,rfl,q _ (I1.hok.fresh (Nat.le_refl _))⟩
variable {e:Expr} {p p2 pos pos2:Pos} {te:TE} {f:Dv->Option D}
noncomputable def DW (X:Cx) (te:TE):TE:=fun σ H Q=>te σ H fun v H1=>∃ (a:Addr) (l:List Int),[v]=[V.ref a]/\(SqL X.K H1 a (l.map V.int)\/SqT X.K H1 a (l.map V.int))/\l.length<64/\∀ b,H1 b=none->Q (.ref b) (upd H1 b (.lst ((br (fZ l)).map V.int)))
theorem gQ:∀ {l:List Int} {us:List Value},Vals (l.map V.int) us->IntsAre us l
 | [],[],.nil=>.nil
 | n::l,u::us,.cons h r=>by
  obtain ⟨t,rfl⟩:=h
  exact .cons n t (gQ r)
theorem zA (hc:X.calm=true) (hg:Gl X "sorted") (hm:X.mg "sorted" = none) (hg':Gl X "set") (hm':X.mg "set" = none) (ha:PE X e te)
  (he:starEach [.Call (.Name "set" p2) [e] [] pos2] X.env=(false,eval (.Call (.Name "set" p2) [e] [] pos2) X.env)::starEach [] X.env:=by rfl)
  (he2:starEach [e] X.env=(false,eval e X.env)::starEach [] X.env:=by rfl) (hpl:(backTo pos (starEach [] X.env)).any (·.1)=false:=by rfl) (hpl2:(backTo pos2 (starEach [] X.env)).any (·.1)=false:=by rfl) :
  PE X (.Call (.Name "sorted" p) [.Call (.Name "set" p2) [e] [] pos2] [] pos) (DW X te):=by
 intro pins s σ H Q I h
 refine wpAny_Call_Name_kw (fG I hg hm (u:=.builtin "sorted") (by decide +kernel) ?_ (by decide) (by decide))
 refine PyProof.Rows.callWith_builtin1 ?_ he hpl
 rw [he]
 show wpAny _ _ (spliced ((false,eval _ X.env)::backTo pos (starEach [] X.env))) _ _ s
 refine Calls.spliced_cons ?_
 refine wpAny_Call_Name_kw (fG I hg' hm' (u:=.type "set") (by decide +kernel) ?_ (by decide) (by decide))
 refine PyProof.Rows.callWith_type1 (bN (cU ha eI he2 pos2 pins s σ H (fun xs H1=>∃ (a:Addr) (l:List Int),xs=[V.ref a]/\(SqL X.K H1 a (l.map V.int)\/SqT X.K H1 a (l.map V.int))/\l.length<64/\∀ b,H1 b=none->Q (.ref b) (upd H1 b (.lst ((br (fZ l)).map V.int)))) I (by exact h)) fun us s1 ⟨vs,H1,I1,r1,q1⟩=>?_) he2 hpl2
 obtain ⟨a,l,e1,hsq,h64,q⟩:=q1
 subst e1
 obtain ⟨u,rfl,rx⟩:=fU r1
 cases rx
 obtain ⟨its,iv,hl,hz⟩:∃ its:List Value,IntsAre its l/\(s1.heap.IsList a its.toArray\/s1.heap.IsTuple a its.toArray)/\its.length=l.length:=by
  rcases hsq with hsq | hsq
  ·obtain ⟨its,r,⟨o,n,e1,e2,e3,e4⟩,z⟩:=I1.list hsq
   exact ⟨its,gQ r,.inl ⟨o,e1,e2,n,e4⟩,by rw [<- r.length,List.length_map]⟩
  ·obtain ⟨its,r,⟨o,e1,e2,n,e3⟩,z⟩:=I1.tuple hsq
   exact ⟨its,gQ r,.inr ⟨o,e1,e2,n,e3⟩,by rw [<- r.length,List.length_map]⟩
 refine lW (I1.ok.hd hc) hl (by simpa using iv) (by rw [List.size_toArray,hz]; unfold scanBound; omega) fun h' tk hS kp=>?_
 refine Calls.spliced_nil ?_
 have sl:(fZ l).length<=l.length:=by
  have:=kn l []
  simpa [fZ] using this
 exact qJ hc (I1.kept kp) hS (by omega) fun b hb=>q b hb
theorem kW {K:Fg} {Z:Hp}:∀ {vs:List V} {ds:List D} {l:List Int},Reps K Z vs ds->xr ds=some l->vs=l.map V.int
 | _,_,_,.nil,h=>by cases h; rfl
 | _,.int i::ds,l,.cons r rs,h=>by
  obtain ⟨l',e,h⟩:=bind_some h
  cases h
  rw [r.int_eq,kW rs e]
  rfl
 | _,.none::ds,l,.cons r rs,h=>by cases h
 | _,.bool _::ds,l,.cons r rs,h=>by cases h
 | _,.str _::ds,l,.cons r rs,h=>by cases h
 | _,.list _::ds,l,.cons r rs,h=>by cases h
 | _,.tuple _::ds,l,.cons r rs,h=>by cases h
 | _,.dict _::ds,l,.cons r rs,h=>by cases h
theorem tN (hg:Gl X "sorted") (hm:X.mg "sorted" = none) (hg':Gl X "set") (hm':X.mg "set" = none) (ha:EV X e f) (hc:X.calm=true:=by rfl)
  (he:starEach [.Call (.Name "set" p2) [e] [] pos2] X.env=(false,eval (.Call (.Name "set" p2) [e] [] pos2) X.env)::starEach [] X.env:=by rfl)
  (he2:starEach [e] X.env=(false,eval e X.env)::starEach [] X.env:=by rfl) (hpl:(backTo pos (starEach [] X.env)).any (·.1)=false:=by rfl) (hpl2:(backTo pos2 (starEach [] X.env)).any (·.1)=false:=by rfl) :
  EV X (.Call (.Name "sorted" p) [.Call (.Name "set" p2) [e] [] pos2] [] pos) (o1 f fY):=
 PE.imp (zA hc hg hm hg' hm' ha he he2 hpl hpl2) fun σ H Q h=>by
  obtain ⟨H₀,Z₀,Z,δ,d,hh,e,k⟩:=h
  obtain ⟨d1,e1,e⟩:=bind_some e
  refine ⟨H₀,Z₀,Z,δ,d1,hh,e1,fun v Z1 H1 hh1 t1 r1=>?_⟩
  unfold fY at e
  obtain ⟨ds,e2,e⟩:=bind_some e
  obtain ⟨l,e3,e⟩:=bind_some e
  obtain ⟨h64,e⟩:=ce e
  cases e
  have key:∀ b,H1 b=none->Q (.ref b) (upd H1 b (.lst ((br (fZ l)).map V.int))):=fun b hb=>by
   have n:=New.add hh1.zh hb (.lst ((br (fZ l)).map V.int))
   exact k _ _ _ (hh1.new n) (t1.trans n.z) (.lst (SqL.of aC) (Reps.ints _))
  cases r1 with
  | lst sq rs=>
   cases e2
   have:=kW rs e3
   subst this
   exact ⟨_,l,rfl,.inl (SqL.same sq hh1.zh),h64,key⟩
  | tup sq rs=>
   cases e2
   have:=kW rs e3
   subst this
   exact ⟨_,l,rfl,.inr (SqT.same sq hh1.zh),h64,key⟩
  | _=>cases e2
end
end VL
set_option Elab.async false
set_option linter.all false
set_option maxRecDepth 100000
set_option maxHeartbeats 4000000
namespace MA
open PySem
theorem mC (x y:Int):Builtin.bitOr x y=2*Builtin.bitOr (x / 2) (y / 2)+(if x % 2=0/\y % 2=0 then 0 else 1):=by
 unfold Builtin.bitOr Builtin.bitNot
 have h:=PySem.W.kbt_halves (-x-1) (-y-1)
 have hx:(-x-1) / 2 = -(x / 2)-1:=by omega
 have hy:(-y-1) / 2 = -(y / 2)-1:=by omega
 rw [hx,hy] at h
 rw [h]
 by_cases c:x % 2=0/\y % 2=0
 ·rw [if_pos c,if_pos (by omega)]; omega
 ·rw [if_neg c,if_neg (by omega)]; omega
theorem kw (n:Nat):(0:Int)<2 ^ n:=by
 induction n with
 | zero=>decide
 | succ n ih=>rw [Int.pow_succ]; omega
theorem fI (x:Int) (n:Nat):x / 2 ^ (n+1)=x / 2 / 2 ^ n:=by
 rw [Int.pow_succ,Int.mul_comm,Int.ediv_ediv_of_nonneg (by decide)]
theorem dS (x:Int) (n:Nat):2 ^ (n+1) ∣ x↔x % 2=0/\2 ^ n ∣ x / 2:=by
 constructor
 ·rintro ⟨c,rfl⟩
  rw [Int.pow_succ]
  refine ⟨?_,c,?_⟩
  ·rw [Int.mul_comm (2 ^ n) 2,Int.mul_assoc]; omega
  ·rw [Int.mul_comm (2 ^ n) 2,Int.mul_assoc,Int.mul_ediv_cancel_left _ (by decide)]
 ·rintro ⟨h,c,hc⟩
  refine ⟨c,?_⟩
  rw [Int.pow_succ,Int.mul_comm (2 ^ n) 2,Int.mul_assoc,<- hc]
  omega
theorem qT (n:Nat):∀ x y:Int,(2 ^ n ∣ Builtin.bitOr x y↔2 ^ n ∣ x/\2 ^ n ∣ y)/\(2 ^ n ∣ Builtin.bitOr x y->Builtin.bitOr x y / 2 ^ n=Builtin.bitOr (x / 2 ^ n) (y / 2 ^ n)):=by
 induction n with
 | zero=>intro x y; simp
 | succ n ih=>
  intro x y
  have h:=mC x y
  have hd:Builtin.bitOr x y / 2=Builtin.bitOr (x / 2) (y / 2):=by rw [h]; split <;> omega
  have hm:Builtin.bitOr x y % 2=0↔x % 2=0/\y % 2=0:=by
   rw [h]
   by_cases c:x % 2=0/\y % 2=0
   ·rw [if_pos c]; constructor
    ·intro _; exact c
    ·intro _; omega
   ·rw [if_neg c]; constructor
    ·intro z; omega
    ·intro z; exact absurd z c
  obtain ⟨i1,i2⟩:=ih (x / 2) (y / 2)
  constructor
  ·rw [dS,dS,dS,hd,hm,i1]
   constructor
   ·rintro ⟨⟨a,b⟩,c,d⟩; exact ⟨⟨a,c⟩,b,d⟩
   ·rintro ⟨⟨a,c⟩,b,d⟩; exact ⟨⟨a,b⟩,c,d⟩
  ·intro q
   rw [dS,hd] at q
   rw [fI,fI,fI,hd,i2 q.2]
theorem vM:∀ (n:Nat) (j:Int),j.natAbs<=n->j≠0->∃ (t:Nat) (a:Int),j=2 ^ t*(2*a+1)
 | 0,j,h,h0=>by omega
 | n+1,j,h,h0=>by
  by_cases c:j % 2=0
  ·obtain ⟨t,a,e⟩:=vM n (j / 2) (by omega) (by omega)
   refine ⟨t+1,a,?_⟩
   rw [Int.pow_succ,Int.mul_comm (2 ^ t) 2,Int.mul_assoc,<- e]
   omega
  ·exact ⟨0,j / 2,by simp; omega⟩
theorem xX (t:Nat):Builtin.Int.intBits (2 ^ t)=t+1:=by
 unfold Builtin.Int.intBits
 have h:(2:Int) ^ t≠0:=Int.ne_of_gt (kw t)
 have e:((2:Int) ^ t).natAbs=2 ^ t:=by
  have:((2 ^ t:Nat):Int)=(2:Int) ^ t:=by simp
  rw [<- this,Int.natAbs_natCast]
 rw [if_neg (by simpa using h),e,Nat.log2_two_pow]
noncomputable def yD (j most:Int):Int:=if j=0 then most else if (Builtin.Int.intBits (Builtin.bitAnd j (-j)):Int)-1<most then (Builtin.Int.intBits (Builtin.bitAnd j (-j)):Int)-1 else most
theorem ud (j most:Int) (hm:0<=most):∃ t:Nat,yD j most=t/\(t:Int)<=most/\2 ^ t ∣ j/\((t:Int)<most->¬ j / 2 ^ t % 2=0):=by
 unfold yD
 by_cases h:j=0
 ·subst h
  refine ⟨most.toNat,by rw [if_pos rfl]; omega,by omega,Int.dvd_zero _,fun z=>by omega⟩
 ·obtain ⟨t,a,e⟩:=vM _ j (Nat.le_refl _) h
  have hb:Builtin.Int.intBits (Builtin.bitAnd j (-j))=t+1:=by rw [e,PySem.W.kbt_low,xX]
  rw [if_neg h,hb]
  have q:((t+1:Nat):Int)-1=t:=by omega
  rw [q]
  by_cases c:(t:Int)<most
  ·refine ⟨t,by rw [if_pos c],by omega,⟨_,e⟩,fun _=>?_⟩
   rw [e,Int.mul_ediv_cancel_left _ (Int.ne_of_gt (kw t))]
   omega
  ·refine ⟨most.toNat,by rw [if_neg c]; omega,by omega,?_,fun z=>by omega⟩
   refine Int.dvd_trans ?_ ⟨_,e⟩
   have:t=most.toNat+(t-most.toNat):=by omega
   rw [this,Int.pow_add]
   exact Int.dvd_mul_right _ _
theorem iR {a:Int} {m:Nat} (h:a.natAbs<2 ^ m):Builtin.Int.intBits a<=m:=by
 unfold Builtin.Int.intBits
 split
 ·exact Nat.zero_le _
 ·rename_i h0
  have h0:a≠0:=by simpa using h0
  have:a.natAbs.log2<m:=(Nat.log2_lt (by omega)).mpr h
  omega
theorem CM {a b:Int} (m n:Nat) (ha:a.natAbs<2 ^ m) (hb:b.natAbs<2 ^ n) (h:m+n<=134217728):IntMulOk a b:=by
 have h1:=iR ha
 have h2:=iR hb
 have hc:Builtin.Int.intTooBig (Builtin.Int.intBits a+Builtin.Int.intBits b)=false:=by
  unfold Builtin.Int.intTooBig bitsLine
  exact decide_eq_false (by omega)
 unfold IntMulOk
 rw [hc]
 simp
structure Q4 where
 a:Int
 b:Int
 c:Int
 d:Int
namespace Q4
theorem ext' {x y:Q4} (h1:x.a=y.a) (h2:x.b=y.b) (h3:x.c=y.c) (h4:x.d=y.d):x=y:=by
 cases x; cases y; simp at h1 h2 h3 h4; subst h1 h2 h3 h4; rfl
noncomputable def add (x y:Q4):Q4:=⟨x.a+y.a,x.b+y.b,x.c+y.c,x.d+y.d⟩
noncomputable def neg (x:Q4):Q4:=⟨-x.a,-x.b,-x.c,-x.d⟩
noncomputable def mul (x y:Q4):Q4:=⟨x.a*y.a-x.b*y.d-x.c*y.c-x.d*y.b,x.a*y.b+x.b*y.a-x.c*y.d-x.d*y.c,x.a*y.c+x.b*y.b+x.c*y.a-x.d*y.d,x.a*y.d+x.b*y.c+x.c*y.b+x.d*y.a⟩
noncomputable def rt (x:Q4):Q4:=⟨x.b-x.d,x.a+x.c,x.b+x.d,x.c-x.a⟩
noncomputable def dbl (n:Int) (x:Q4):Q4:=⟨x.a*n,x.b*n,x.c*n,x.d*n⟩
noncomputable def mir (x:Q4):Q4:=⟨x.a,-x.d,-x.c,-x.b⟩
noncomputable def tn (x:Q4):Q4:=⟨-x.d,x.a,x.b,x.c⟩
noncomputable def rtn:Nat->Q4->Q4
 | 0,x=>x
 | n+1,x=>rtn n (rt x)
theorem rtn_succ (n:Nat) (x:Q4):rtn (n+1) x=rt (rtn n x):=by
 induction n generalizing x with
 | zero=>rfl
 | succ n ih=>exact ih (rt x)
theorem rtn_add (m n:Nat) (x:Q4):rtn (m+n) x=rtn m (rtn n x):=by
 induction n generalizing x with
 | zero=>rfl
 | succ n ih=>exact ih (rt x)
theorem wa (x:Q4):rt (rt x)=dbl 2 x:=by
 apply ext' <;> simp [rt,dbl] <;> omega
theorem At (m n:Int) (x:Q4):dbl m (dbl n x)=dbl (n*m) x:=by
 apply ext' <;> simp [dbl,Int.mul_assoc]
theorem rtn_two (t:Nat) (x:Q4):rtn (2*t) x=dbl (2 ^ t) x:=by
 induction t generalizing x with
 | zero=>apply ext' <;> simp [rtn,dbl]
 | succ t ih=>
  have e:2*(t+1)=2*t+1+1:=by omega
  rw [e]
  show rtn (2*t) (rt (rt x))=_
  rw [ih,wa,At,Int.pow_succ,Int.mul_comm]
theorem rt_inj {x y:Q4} (h:rt x=rt y):x=y:=by
 have h1:=congrArg rt h
 rw [wa,wa] at h1
 have h2:=congrArg Q4.a h1
 have h3:=congrArg Q4.b h1
 have h4:=congrArg Q4.c h1
 have h5:=congrArg Q4.d h1
 simp only [dbl] at h2 h3 h4 h5
 apply ext' <;> omega
theorem rtn_inj {n:Nat} {x y:Q4} (h:rtn n x=rtn n y):x=y:=by
 induction n generalizing x y with
 | zero=>exact h
 | succ n ih=>exact rt_inj (ih h)
theorem rt_add (x y:Q4):rt (add x y)=add (rt x) (rt y):=by apply ext' <;> simp [rt,add] <;> omega
theorem rtn_addQ (n:Nat) (x y:Q4):rtn n (add x y)=add (rtn n x) (rtn n y):=by
 induction n generalizing x y with
 | zero=>rfl
 | succ n ih=>show rtn n (rt (add x y))=_; rw [rt_add,ih]; rfl
theorem rt_mul (x y:Q4):rt (mul x y)=mul (rt x) y:=by apply ext' <;> simp only [rt,mul] <;> grind
theorem sF (n:Nat) (x y:Q4):rtn n (mul x y)=mul (rtn n x) y:=by
 induction n generalizing x with
 | zero=>rfl
 | succ n ih=>show rtn n (rt (mul x y))=_; rw [rt_mul,ih]; rfl
theorem mul_comm (x y:Q4):mul x y=mul y x:=by apply ext' <;> simp only [mul] <;> grind
theorem mul_assoc (x y z:Q4):mul (mul x y) z=mul x (mul y z):=by apply ext' <;> simp only [mul] <;> grind
theorem mul_add (x y z:Q4):mul x (add y z)=add (mul x y) (mul x z):=by apply ext' <;> simp only [mul,add] <;> grind
theorem add_comm (x y:Q4):add x y=add y x:=by apply ext' <;> simp only [add] <;> omega
theorem add_assoc (x y z:Q4):add (add x y) z=add x (add y z):=by apply ext' <;> simp only [add] <;> omega
theorem rtn_mul2 (m n:Nat) (x y:Q4):rtn (m+n) (mul x y)=mul (rtn m x) (rtn n y):=by
 rw [rtn_add,mul_comm,sF,mul_comm,sF]
theorem tn_mul (x y:Q4):tn (mul x y)=mul x (tn y):=by apply ext' <;> simp only [mul,tn] <;> grind
theorem tn_rt (x:Q4):tn (rt x)=rt (tn x):=by apply ext' <;> simp only [rt,tn] <;> omega
noncomputable def Odd (x:Q4):Prop:=¬ ((x.a-x.c) % 2=0/\(x.b-x.d) % 2=0)
theorem zi (x:Q4):¬ Odd (rt x):=by
 unfold Odd rt
 simp only
 omega
noncomputable def Least (x:Q4) (k:Int):Prop:=0<=k/\(0<k->Odd x)
theorem Least.one {x y:Q4} {k l m:Nat} (hx:Least x k) (hy:Least y l) (h1:k<=m) (h2:l<=m) (h:rtn (m-k) x=rtn (m-l) y):x=y/\k=l:=by
 have key:∀ {x y:Q4} {k l:Nat},Least y l->k<=m->l<=m->k<l->rtn (m-k) x=rtn (m-l) y->False:=by
  intro x y k l hy h1 h2 hlt h
  have e:m-k=(m-l)+(l-k):=by omega
  rw [e,rtn_add] at h
  have h3:=rtn_inj h
  obtain ⟨n,hn⟩:∃ n,l-k=n+1:=⟨l-k-1,by omega⟩
  rw [hn,rtn_succ] at h3
  have:=hy.2 (by omega)
  rw [<- h3] at this
  exact zi _ this
 rcases Nat.lt_trichotomy k l with q | q | q
 ·exact (key hy h1 h2 q h).elim
 ·subst q; exact ⟨rtn_inj h,rfl⟩
 ·exact (key hx h2 h1 q h.symm).elim
end Q4
theorem ue (a b c d most:Int) (hm:0<=most):∃ t:Nat,yD (Builtin.bitOr (Builtin.bitOr (Builtin.bitOr a b) c) d) most=t/\(t:Int)<=most/\a=a / 2 ^ t*2 ^ t/\b=b / 2 ^ t*2 ^ t/\c=c / 2 ^ t*2 ^ t/\d=d / 2 ^ t*2 ^ t /\
  ((t:Int)<most->¬ (a / 2 ^ t % 2=0/\b / 2 ^ t % 2=0/\c / 2 ^ t % 2=0/\d / 2 ^ t % 2=0)):=by
 obtain ⟨t,e,h1,h2,h3⟩:=ud (Builtin.bitOr (Builtin.bitOr (Builtin.bitOr a b) c) d) most hm
 have o1:=qT t (Builtin.bitOr (Builtin.bitOr a b) c) d
 have d1:=o1.1.mp h2
 have o2:=qT t (Builtin.bitOr a b) c
 have d2:=o2.1.mp d1.1
 have o3:=qT t a b
 have d3:=o3.1.mp d2.1
 refine ⟨t,e,h1,(Int.ediv_mul_cancel d3.1).symm,(Int.ediv_mul_cancel d3.2).symm,(Int.ediv_mul_cancel d2.2).symm,(Int.ediv_mul_cancel d1.2).symm,fun z w=>h3 z ?_⟩
 have ev:∀ x y:Int,x % 2=0->y % 2=0->Builtin.bitOr x y % 2=0:=fun x y hx hy=>by
  rw [mC,if_pos ⟨hx,hy⟩]; omega
 rw [o1.2 h2,o2.2 d1.1,o3.2 d2.1]
 exact ev _ _ (ev _ _ (ev _ _ w.1 w.2.1) w.2.2.1) w.2.2.2
noncomputable def f9 (x:Q4) (k:Int):Q4×Int:=
 let t:=(yD (Builtin.bitOr (Builtin.bitOr (Builtin.bitOr x.a x.b) x.c) x.d) (k / 2)).toNat
 let y:Q4:=⟨x.a / 2 ^ t,x.b / 2 ^ t,x.c / 2 ^ t,x.d / 2 ^ t⟩
 if k-2*t=0\/(y.a-y.c) % 2=1\/(y.b-y.d) % 2=1 then (y,k-2*t) else (⟨(y.b-y.d) / 2,(y.a+y.c) / 2,(y.b+y.d) / 2,(y.c-y.a) / 2⟩,k-2*t-1)
theorem rn {p q:Int} (h:(p-q) % 2=0):(p+q) / 2-(q-p) / 2=p/\(p+q) / 2+(q-p) / 2=q:=by omega
theorem rm {p q:Int} (h:(p-q) % 2=0):(p-q) / 2+(p+q) / 2=p/\(p+q) / 2-(p-q) / 2=q:=by omega
theorem Cs {x y:Int} (h:(x-y) % 2=0) (k:y % 2=0):x % 2=0:=by omega
theorem zI {x y:Int} (h:(x-y) % 2=0) (k:x % 2=0):y % 2=0:=by omega
theorem wO {a b c d:Int} (g1:(a-c) % 2=0) (g2:(b-d) % 2=0) (h:¬ (a % 2=0/\b % 2=0/\c % 2=0/\d % 2=0)):Q4.Odd ⟨(b-d) / 2,(a+c) / 2,(b+d) / 2,(c-a) / 2⟩:=fun z=>by
 have z1:((b-d) / 2-(b+d) / 2) % 2=0:=z.1
 have z2:((a+c) / 2-(c-a) / 2) % 2=0:=z.2
 rw [(rn g1).1] at z2
 have e:=(rm g2).2
 have z3:d % 2=0:=by omega
 exact h ⟨z2,Cs g2 z3,zI g1 z2,z3⟩
theorem iy (x:Q4) (k:Int) (hk:0<=k):Q4.Least (f9 x k).1 (f9 x k).2/\(f9 x k).2<=k/\Q4.rtn (k-(f9 x k).2).toNat (f9 x k).1=x:=by
 obtain ⟨t,e,h1,ha,hb,hc,hd,h3⟩:=ue x.a x.b x.c x.d (k / 2) (by omega)
 have l2:2*(t:Int)<=k:=by omega
 unfold f9
 simp only [e,Int.toNat_natCast]
 generalize x.a / 2 ^ t=a at *
 generalize x.b / 2 ^ t=b at *
 generalize x.c / 2 ^ t=c at *
 generalize x.d / 2 ^ t=d at *
 have e2:Q4.dbl (2 ^ t) ⟨a,b,c,d⟩=x:=Q4.ext' ha.symm hb.symm hc.symm hd.symm
 split
 ·rename_i h
  refine ⟨⟨Int.sub_nonneg_of_le l2,fun z=>?_⟩,Int.sub_le_self _ (by omega),?_⟩
  ·rcases h with h | h | h
   ·exact absurd h (Int.ne_of_gt z)
   ·exact fun w=>absurd (h.symm.trans w.1) (by decide)
   ·exact fun w=>absurd (h.symm.trans w.2) (by decide)
  ·have:(k-(k-2*(t:Int))).toNat=2*t:=by omega
   simp only [this]
   rw [Q4.rtn_two,e2]
 ·rename_i h
  have g0:k-2*(t:Int)≠0:=fun z=>h (.inl z)
  have g1:(a-c) % 2=0:=(Int.emod_two_eq (a-c)).resolve_right fun z=>h (.inr (.inl z))
  have g2:(b-d) % 2=0:=(Int.emod_two_eq (b-d)).resolve_right fun z=>h (.inr (.inr z))
  refine ⟨⟨(by omega:0<=k-2*(t:Int)-1),fun z=>wO g1 g2 (h3 ?_)⟩,(by omega:k-2*(t:Int)-1<=k),?_⟩
  ·have z:0<k-2*(t:Int)-1:=z
   omega
  ·have:(k-(k-2*(t:Int)-1)).toNat=2*t+1:=by omega
   simp only [this]
   show Q4.rtn (2*t) (Q4.rt _)=x
   rw [Q4.rtn_two]
   have e3:Q4.rt ⟨(b-d) / 2,(a+c) / 2,(b+d) / 2,(c-a) / 2⟩=⟨a,b,c,d⟩:=Q4.ext' (rn g1).1 (rm g2).1 (rn g1).2 (rm g2).2
   rw [e3,e2]
noncomputable def Q4.Le (M:Nat) (x:Q4):Prop:=x.a.natAbs<=M/\x.b.natAbs<=M/\x.c.natAbs<=M/\x.d.natAbs<=M
theorem Q4.Le.mono {x:Q4} {M N:Nat} (h:Q4.Le M x) (hl:M<=N):Q4.Le N x:=⟨Nat.le_trans h.1 hl,Nat.le_trans h.2.1 hl,Nat.le_trans h.2.2.1 hl,Nat.le_trans h.2.2.2 hl⟩
noncomputable def sJ (x:Q4) (c:Int) (y:Q4) (d:Int):Q4×Int:=f9 (Q4.add (Q4.rtn (max c d-c).toNat x) (Q4.rtn (max c d-d).toNat y)) (max c d)
noncomputable def cw:Nat->Q4->Q4
 | 0,x=>x
 | n+1,x=>Q4.tn (cw n x)
noncomputable def Is (x:Q4) (c:Nat) (u:Q4) (k:Nat):Prop:=Q4.Least x c/\Q4.rtn k x=Q4.rtn c u
theorem b7 (m n:Nat) (x:Q4):Q4.rtn m (Q4.rtn n x)=Q4.rtn n (Q4.rtn m x):=by rw [<- Q4.rtn_add,<- Q4.rtn_add,Nat.add_comm]
theorem Is.self {x:Q4} {c:Nat} (h:Q4.Least x c):Is x c x c:=⟨h,rfl⟩
theorem Is.one {x y u v:Q4} {c d k l:Nat} (hx:Is x c u k) (hy:Is y d v l) (h:Q4.rtn l u=Q4.rtn k v):x=y/\c=d:=by
 have e:Q4.rtn d x=Q4.rtn c y:=by
  refine Q4.rtn_inj (n:=k+l) ?_
  rw [Q4.rtn_add,Q4.rtn_add,b7 l d x,b7 k d,b7 k l,hx.2,b7 l c u,h,b7 l c y,hy.2,b7 k c,b7 k d v,b7 d c]
 exact Q4.Least.one (m:=c+d) hx.1 hy.1 (by omega) (by omega) (by rw [show c+d-c=d by omega,show c+d-d=c by omega]; exact e)
theorem qY (u:Q4) (k:Nat):∃ c:Nat,(f9 u k).2=c/\c<=k/\Is (f9 u k).1 c u k:=by
 obtain ⟨s1,s2,s3⟩:=iy u k (by omega)
 obtain ⟨c,hc⟩:∃ c:Nat,(f9 u k).2=c:=⟨(f9 u k).2.toNat,by have:=s1.1; omega⟩
 rw [hc] at s1 s2 s3
 refine ⟨c,hc,by omega,s1,?_⟩
 have e:((k:Int)-c).toNat=k-c:=by omega
 rw [e] at s3
 conv=>rhs; rw [<- s3]
 rw [<- Q4.rtn_add]
 congr 1
 omega
theorem Is.trans {x u v:Q4} {c k l:Nat} (h:Is x c u k) (e:Q4.rtn l u=Q4.rtn k v):Is x c v l:=by
 refine ⟨h.1,Q4.rtn_inj (n:=k) ?_⟩
 rw [b7,h.2,b7,e,b7]
theorem Bz (n:Nat) (x:Q4):Q4.tn (Q4.rtn n x)=Q4.rtn n (Q4.tn x):=by
 induction n generalizing x with
 | zero=>rfl
 | succ n ih=>show Q4.tn (Q4.rtn n (Q4.rt x))=Q4.rtn n (Q4.rt (Q4.tn x)); rw [ih,Q4.tn_rt]
theorem r9 (m n:Nat) (x:Q4):cw m (Q4.rtn n x)=Q4.rtn n (cw m x):=by
 induction m with
 | zero=>rfl
 | succ m ih=>show Q4.tn (cw m (Q4.rtn n x))=_; rw [ih,Bz]; rfl
theorem er (m n:Nat) (x:Q4):cw (m+n) x=cw m (cw n x):=by
 induction m with
 | zero=>rw [Nat.zero_add]; rfl
 | succ m ih=>rw [Nat.succ_add]; show Q4.tn (cw (m+n) x)=_; rw [ih]; rfl
theorem GC (x:Q4):cw 8 x=x:=by simp [cw,Q4.tn]
theorem fh (n:Nat) (x:Q4):cw (n % 8) x=cw n x:=by
 conv=>rhs; rw [<- Nat.mod_add_div n 8]
 rw [er]
 congr 1
 generalize n / 8=q
 induction q with
 | zero=>rfl
 | succ q ih=>rw [Nat.mul_succ,er,GC]; exact ih
theorem sd (n:Nat) (x y:Q4):cw n (Q4.mul x y)=Q4.mul x (cw n y):=by
 induction n with
 | zero=>rfl
 | succ n ih=>show Q4.tn (cw n (Q4.mul x y))=_; rw [ih,Q4.tn_mul]; rfl
structure S2 where
 p:Int
 q:Int
namespace S2
theorem ext' {x y:S2} (h1:x.p=y.p) (h2:x.q=y.q):x=y:=by
 cases x; cases y; simp at h1 h2; subst h1 h2; rfl
noncomputable def add (x y:S2):S2:=⟨x.p+y.p,x.q+y.q⟩
noncomputable def mul (x y:S2):S2:=⟨x.p*y.p+2*x.q*y.q,x.p*y.q+x.q*y.p⟩
noncomputable def sc (n:Nat) (x:S2):S2:=⟨x.p*2 ^ n,x.q*2 ^ n⟩
theorem kq (m n:Nat) (x:S2):sc (m+n) x=sc m (sc n x):=by
 apply ext' <;> simp only [sc,Int.pow_add] <;> rw [Int.mul_assoc,Int.mul_comm (2 ^ n)]
theorem cP (m n:Nat) (x:S2):sc m (sc n x)=sc n (sc m x):=by rw [<- kq,<- kq,Nat.add_comm]
theorem nB {n:Nat} {x y:S2} (h:sc n x=sc n y):x=y:=by
 have pw:=kw n
 have h1:=congrArg S2.p h
 have h2:=congrArg S2.q h
 simp only [sc] at h1 h2
 exact ext' (Int.eq_of_mul_eq_mul_right (by omega) h1) (Int.eq_of_mul_eq_mul_right (by omega) h2)
noncomputable def Odd (x:S2):Prop:=¬ (x.p % 2=0/\x.q % 2=0)
theorem zg (n:Nat) (x:S2):¬ Odd (sc (n+1) x):=by
 unfold Odd sc
 rw [Int.pow_succ,<- Int.mul_assoc,<- Int.mul_assoc]
 simp only
 omega
noncomputable def Least (x:S2) (c:Nat):Prop:=0<c->Odd x
theorem Least.one {x y:S2} {k l m:Nat} (hx:Least x k) (hy:Least y l) (h1:k<=m) (h2:l<=m) (h:sc (m-k) x=sc (m-l) y):x=y/\k=l:=by
 have key:∀ {x y:S2} {k l:Nat},Least y l->k<=m->l<=m->k<l->sc (m-k) x=sc (m-l) y->False:=by
  intro x y k l hy h1 h2 hlt h
  have e:m-k=(m-l)+(l-k):=by omega
  rw [e,kq] at h
  have h3:=nB h
  obtain ⟨n,hn⟩:∃ n,l-k=n+1:=⟨l-k-1,by omega⟩
  rw [hn] at h3
  have:=hy (by omega)
  rw [<- h3] at this
  exact zg _ _ this
 rcases Nat.lt_trichotomy k l with q | q | q
 ·exact (key hy h1 h2 q h).elim
 ·subst q; exact ⟨nB h,rfl⟩
 ·exact (key hx h2 h1 q h.symm).elim
noncomputable def Le (M:Nat) (x:S2):Prop:=x.p.natAbs<=M/\x.q.natAbs<=M
theorem Le.mono {x:S2} {M N:Nat} (h:Le M x) (hl:M<=N):Le N x:=⟨Nat.le_trans h.1 hl,Nat.le_trans h.2 hl⟩
noncomputable def Is (x:S2) (c:Nat) (u:S2) (k:Nat):Prop:=Least x c/\sc k x=sc c u
theorem Is.one {x y u v:S2} {c d k l:Nat} (hx:Is x c u k) (hy:Is y d v l) (h:sc l u=sc k v):x=y/\c=d:=by
 have e:sc d x=sc c y:=by
  refine nB (n:=k+l) ?_
  rw [kq,kq,cP l d x,cP k d,cP k l,hx.2,cP l c u,h,cP l c y,hy.2,cP k c,cP k d v,cP d c]
 exact Least.one (m:=c+d) hx.1 hy.1 (by omega) (by omega) (by rw [show c+d-c=d by omega,show c+d-d=c by omega]; exact e)
theorem Is.trans {x u v:S2} {c k l:Nat} (h:Is x c u k) (e:sc l u=sc k v):Is x c v l:=by
 refine ⟨h.1,nB (n:=k) ?_⟩
 rw [cP,h.2,cP,e,cP]
end S2
noncomputable abbrev Nu:=Q4×Nat
inductive Row where
 | swing (j:Nat) | turn (j:Nat) (e:Nat) | flip (j:Nat) | tie (i j:Nat) | sign (i j:Nat) | cross (i j:Nat)
noncomputable def ip (u v:Nu):Nu:=((sJ u.1 u.2 v.1 v.2).1,(sJ u.1 u.2 v.1 v.2).2.toNat)
noncomputable def mL (u:Nu):Nu:=((f9 u.1 ((u.2+1:Nat):Int)).1,(f9 u.1 ((u.2+1:Nat):Int)).2.toNat)
noncomputable def hZ (e:Nat) (u:Nu):Nu:=(cw (e % 8) u.1,u.2)
noncomputable def wt (n j:Nat):Nat:=2 ^ (n-1-j)
noncomputable def bit (w p:Nat):Nat:=p / w % 2
noncomputable def Gu (w p:Nat):Nat:=if bit w p=0 then p+w else p-w
noncomputable def FI (n:Nat):Row->Nat->Nat
 | .flip j,p=>Gu (wt n j) p
 | .tie i j,p=>if bit (wt n i) p=0 then p else Gu (wt n j) p
 | .cross i j,p=>if bit (wt n i) p=bit (wt n j) p then p else Gu (wt n j) (Gu (wt n i) p)
 | _,p=>p
noncomputable def oq (n:Nat) (f:Nat->Nu):Row->Nat->Nu
 | .swing j,p=>if bit (wt n j) p=0 then mL (ip (f p) (f (p+wt n j))) else mL (ip (f (p-wt n j)) (hZ 4 (f p)))
 | .turn j e,p=>hZ (e*bit (wt n j) p) (f p)
 | .sign i j,p=>hZ (4*bit (wt n i) p*bit (wt n j) p) (f p)
 | r,p=>f (FI n r p)
noncomputable def Row.ok (n:Nat):Row->Prop
 | .swing j=>j<n
 | .turn j e=>j<n/\1<=e/\e<=7
 | .flip j=>j<n
 | .tie i j=>i<n/\j<n/\i≠j
 | .sign i j=>i<n/\j<n/\i≠j
 | .cross i j=>i<n/\j<n/\i≠j
theorem AB (a b:Nat):Builtin.bitAnd (a:Int) (b:Int)=((a &&& b:Nat):Int):=by
 unfold Builtin.bitAnd
 simp
theorem uf {x y z:Nat} (h:x / 2=y / 2+z / 2) (m:x % 2=y % 2+z % 2):x=y+z:=by omega
theorem uM {u v w:Nat} {p q:Prop} (hu:u<2) (hv:v<2) (hw:w<2) (m1:u=1↔p\/q) (m2:v=1 ↔ ¬ (p↔q)) (m3:w=1↔p/\q):u=v+w:=by
 have z:∀ {x:Nat},x<2->¬ x=1->x=0:=fun h k=>by omega
 by_cases a:p <;> by_cases b:q
 ·rw [m1.mpr (.inl a),m3.mpr ⟨a,b⟩,z hv fun e=>m2.mp e ⟨fun _=>b,fun _=>a⟩]
 ·rw [m1.mpr (.inl a),m2.mpr fun e=>b (e.mp a),z hw fun e=>b (m3.mp e).2]
 ·rw [m1.mpr (.inr b),m2.mpr fun e=>a (e.mpr b),z hw fun e=>a (m3.mp e).1]
 ·rw [z hu fun e=>(m1.mp e).elim a b,z hv fun e=>m2.mp e ⟨fun c=>absurd c a,fun c=>absurd c b⟩,z hw fun e=>a (m3.mp e).1]
theorem lz:∀ (k a b:Nat),a<2 ^ k->b<2 ^ k->(a ||| b)=(a ^^^ b)+(a &&& b)
 | 0,a,b,ha,hb=>by
  have:a=0:=by simpa using ha
  have:b=0:=by simpa using hb
  subst a; subst b; rfl
 | k+1,a,b,ha,hb=>by
  have ih:=lz k (a / 2) (b / 2) (by rw [Nat.pow_succ] at ha; omega) (by rw [Nat.pow_succ] at hb; omega)
  have h1:=@Nat.or_div_two a b
  have h2:=@Nat.xor_div_two a b
  have h3:=@Nat.and_div_two a b
  have m1:=@Nat.or_mod_two_eq_one a b
  have m2:=@Nat.xor_mod_two_eq_one a b
  have m3:=@Nat.and_mod_two_eq_one a b
  rw [<- h1,<- h2,<- h3] at ih
  exact uf ih (uM (Nat.mod_lt _ (by decide)) (Nat.mod_lt _ (by decide)) (Nat.mod_lt _ (by decide)) m1 m2 m3)
theorem Jh (a b:Nat):Builtin.bitOr (a:Int) (b:Int)=((a ||| b:Nat):Int):=by
 have h1:¬ (0:Int)<=Builtin.bitNot (a:Int):=by unfold Builtin.bitNot; omega
 have h2:¬ (0:Int)<=Builtin.bitNot (b:Int):=by unfold Builtin.bitNot; omega
 have e1:(Builtin.bitNot (Builtin.bitNot (a:Int))).toNat=a:=by unfold Builtin.bitNot; omega
 have e2:(Builtin.bitNot (Builtin.bitNot (b:Int))).toNat=b:=by unfold Builtin.bitNot; omega
 unfold Builtin.bitOr Builtin.bitAnd
 rw [decide_eq_false h1,decide_eq_false h2]
 dsimp only
 rw [e1,e2]
 unfold Builtin.bitNot
 omega
theorem vh (a b:Nat):Builtin.bitXor (a:Int) (b:Int)=((a ^^^ b:Nat):Int):=by
 unfold Builtin.bitXor
 rw [Jh,AB]
 have h:∀ n:Nat,n<2 ^ n:=fun n=>Nat.lt_two_pow_self
 have:=lz (max a b) a b (Nat.lt_of_lt_of_le (h a) (Nat.pow_le_pow_right (by decide) (by omega))) (Nat.lt_of_lt_of_le (h b) (Nat.pow_le_pow_right (by decide) (by omega)))
 omega
noncomputable def rJ (n:Nat):Nat:=if n=0 then 0 else n % 2+rJ (n / 2)
termination_by n
decreasing_by omega
theorem iM:rJ 0=0:=by unfold rJ; simp
theorem iN (n:Nat):rJ n=n % 2+rJ (n / 2):=by
 by_cases h:n=0
 ·subst h; simp [iM]
 ·rw [rJ,if_neg h]
theorem mU:∀ (k a b:Nat),a<2 ^ k->b<2 ^ k->rJ (a ^^^ b) % 2=(rJ a+rJ b) % 2
 | 0,a,b,ha,hb=>by
  have:a=0:=by simpa using ha
  have:b=0:=by simpa using hb
  subst a; subst b; simp [iM]
 | k+1,a,b,ha,hb=>by
  have ih:=mU k (a / 2) (b / 2) (by rw [Nat.pow_succ] at ha; omega) (by rw [Nat.pow_succ] at hb; omega)
  have h2:=@Nat.xor_div_two a b
  have m2:=@Nat.xor_mod_two_eq_one a b
  rw [iN (a ^^^ b),iN a,iN b,h2]
  omega
theorem pW (a b:Nat):∃ k,a<2 ^ k/\b<2 ^ k:=by
 have h:∀ n:Nat,n<2 ^ n:=fun n=>Nat.lt_two_pow_self
 exact ⟨max a b,Nat.lt_of_lt_of_le (h a) (Nat.pow_le_pow_right (by decide) (by omega)),Nat.lt_of_lt_of_le (h b) (Nat.pow_le_pow_right (by decide) (by omega))⟩
theorem Aw (a b:Nat):rJ (a ^^^ b) % 2=(rJ a+rJ b) % 2:=by
 obtain ⟨k,h1,h2⟩:=pW a b
 exact mU k a b h1 h2
noncomputable def par (n:Nat):Nat:=rJ n % 2
theorem dH (n:Nat):par n<2:=Nat.mod_lt _ (by decide)
theorem sM (a b:Nat):par (a ^^^ b)=(par a+par b) % 2:=by
 unfold par
 rw [Aw]; omega
theorem dZ:par 0=0:=by unfold par; rw [iM]
structure Wd where
 x:Nat
 z:Nat
 s:Nat
noncomputable def Wd.ok (n:Nat) (w:Wd):Prop:=w.x<2 ^ n/\w.z<2 ^ n/\w.s<4
noncomputable def Sh (k:Nat) (d:PyData):Prop:=d.canLay0=true/\d.depth<=k
theorem Sh.int (k:Nat) (i:Int):Sh k (.int i):=⟨by simp [PyData.canLay0],by simp [PyData.depth]⟩
theorem Sh.all {k:Nat}:∀ (xs:List PyData),(∀ x∈xs,Sh k x)->PyData.canLayAll0 xs=true/\PyData.depthAll xs<=k
 | [],_=>⟨by simp [PyData.canLayAll0],by simp [PyData.depthAll]⟩
 | x::xs,h=>by
  obtain ⟨a,b⟩:=Sh.all xs fun y hy=>h y (List.mem_cons_of_mem _ hy)
  obtain ⟨c,d⟩:=h x List.mem_cons_self
  refine ⟨by simp [PyData.canLayAll0,a,c],?_⟩
  simp only [PyData.depthAll]
  omega
theorem Sh.tuple {k:Nat} {xs:List PyData} (h:∀ x∈xs,Sh k x):Sh (k+1) (.tuple xs):=by
 obtain ⟨a,b⟩:=Sh.all xs h
 exact ⟨by simp [PyData.canLay0,a],by simp only [PyData.depth]; omega⟩
theorem Sh.list {k:Nat} {xs:List PyData} (h:∀ x∈xs,Sh k x):Sh (k+1) (.list xs):=by
 obtain ⟨a,b⟩:=Sh.all xs h
 exact ⟨by simp [PyData.canLay0,a],by simp only [PyData.depth]; omega⟩
mutual
theorem ld:∀ d:PyData,d.canLay0=true->PyData.eqv d d=true
 | .none,_=>by simp [PyData.eqv]
 | .bool _,_=>by simp [PyData.eqv]
 | .int _,_=>by simp [PyData.eqv]
 | .str _,_=>by simp [PyData.eqv]
 | .list xs,h=>by
  simp only [PyData.eqv]
  exact eqvAll_self xs (by simpa [PyData.canLay0] using h)
 | .tuple xs,h=>by
  simp only [PyData.eqv]
  exact eqvAll_self xs (by simpa [PyData.canLay0] using h)
 | .dict _,h=>by simp [PyData.canLay0] at h
theorem eqvAll_self:∀ xs:List PyData,PyData.canLayAll0 xs=true->PyData.eqvAll xs xs=true
 | [],_=>by simp [PyData.eqvAll]
 | x::xs,h=>by
  have h':x.canLay0=true/\PyData.canLayAll0 xs=true:=by simpa [PyData.canLayAll0] using h
  simp only [PyData.eqvAll,ld x h'.1,eqvAll_self xs h'.2,Bool.and_self]
end
noncomputable def val (M:Nat) (u:Nu):Q4:=Q4.rtn (M-u.2) u.1
theorem sU (x:Q4) (k M:Nat) (h:k<=M):Q4.rtn (M-(f9 x k).2.toNat) (f9 x k).1=Q4.rtn (M-k) x:=by
 obtain ⟨s1,s2,s3⟩:=iy x k (by omega)
 have h0:=s1.1
 have e:M-(f9 x (k:Int)).2.toNat=(M-k)+((k:Int)-(f9 x (k:Int)).2).toNat:=by omega
 rw [e,Q4.rtn_add,s3]
theorem j9 (M e:Nat) (u:Nu):val M (hZ e u)=cw (e % 8) (val M u):=by
 unfold val hZ
 rw [r9]
theorem oQ {M:Nat} {u v:Nu} (hu:u.2<=M) (hv:v.2<=M):val M (ip u v)=Q4.add (val M u) (val M v):=by
 unfold val ip sJ
 have hk:max (u.2:Int) v.2=((max u.2 v.2:Nat):Int):=by omega
 rw [hk]
 simp only
 rw [sU _ _ M (by omega),Q4.rtn_addQ,<- Q4.rtn_add,<- Q4.rtn_add]
 congr 2 <;> congr 1 <;> omega
theorem oR {M:Nat} {u:Nu} (hu:u.2+1<=M):Q4.rt (val M (mL u))=val M u:=by
 unfold val mL
 rw [sU _ _ M hu,<- Q4.rtn_succ]
 congr 1
 omega
noncomputable def gW:Nat->(Nat->Int)->Int
 | 0,_=>0
 | n+1,F=>gW n F+F n
theorem dW {F G:Nat->Int}:∀ (n:Nat),(∀ p,p<n->F p=G p)->gW n F=gW n G
 | 0,_=>rfl
 | n+1,h=>by
  show gW n F+F n=gW n G+G n
  rw [dW n fun p hp=>h p (by omega),h n (by omega)]
theorem fX (F G:Nat->Int):∀ n:Nat,gW n (fun p=>F p+G p)=gW n F+gW n G
 | 0=>rfl
 | n+1=>by
  show gW n _+(F n+G n)=gW n F+F n+(gW n G+G n)
  rw [fX F G n]; omega
theorem mt (u v:Nu):(ip u v).2<=max u.2 v.2:=by
 have hk:max (u.2:Int) v.2=((max u.2 v.2:Nat):Int):=by omega
 unfold ip sJ
 rw [hk]
 obtain ⟨s1,s2,s3⟩:=iy (Q4.add (Q4.rtn (((max u.2 v.2:Nat):Int)-u.2).toNat u.1) (Q4.rtn (((max u.2 v.2:Nat):Int)-v.2).toNat v.1)) ((max u.2 v.2:Nat):Int) (by omega)
 show (f9 _ _).2.toNat<=_
 omega
noncomputable def ib (N:Nat) (F:Nat->Q4):Q4:=⟨gW N (fun p=>(F p).a),gW N (fun p=>(F p).b),gW N (fun p=>(F p).c),gW N (fun p=>(F p).d)⟩
theorem i9 (N:Nat) (F:Nat->Q4):ib (N+1) F=Q4.add (ib N F) (F N):=rfl
theorem gU {F G:Nat->Q4} (N:Nat) (h:∀ p,p<N->F p=G p):ib N F=ib N G:=by
 apply Q4.ext'
 ·exact dW N fun p hp=>by rw [h p hp]
 ·exact dW N fun p hp=>by rw [h p hp]
 ·exact dW N fun p hp=>by rw [h p hp]
 ·exact dW N fun p hp=>by rw [h p hp]
theorem mul_two (s t s' t':Q4):Q4.add (Q4.mul (Q4.mir (Q4.add s t)) (Q4.add s' t')) (Q4.mul (Q4.mir (Q4.add s (Q4.neg t))) (Q4.add s' (Q4.neg t')))=Q4.dbl 2 (Q4.add (Q4.mul (Q4.mir s) s') (Q4.mul (Q4.mir t) t')):=by
 apply Q4.ext' <;> simp only [Q4.mul,Q4.mir,Q4.add,Q4.neg,Q4.dbl] <;> grind
theorem pr:∀ k,Q4.rtn k ⟨0,0,0,0⟩=⟨0,0,0,0⟩
 | 0=>rfl
 | k+1=>by rw [Q4.rtn_succ,pr k]; rfl
theorem sj (F:Nat->Q4):∀ N:Nat,Q4.rt (ib N F)=ib N (fun p=>Q4.rt (F p))
 | 0=>by apply Q4.ext' <;> rfl
 | N+1=>by rw [i9,Q4.rt_add,sj F N]; rfl
theorem BA (x y:Q4):Q4.tn (Q4.add x y)=Q4.add (Q4.tn x) (Q4.tn y):=by apply Q4.ext' <;> simp only [Q4.tn,Q4.add] <;> omega
theorem vC (e:Nat):∀ (x y:Q4),cw e (Q4.add x y)=Q4.add (cw e x) (cw e y):=by
 induction e with
 | zero=>intro x y; rfl
 | succ e ih=>
  intro x y
  have e1:∀ z,cw (e+1) z=cw e (Q4.tn z):=fun z=>by rw [er e 1 z]; rfl
  rw [e1,e1,e1,BA,ih]
theorem vA (e:Nat):cw e ⟨0,0,0,0⟩=⟨0,0,0,0⟩:=by
 induction e with
 | zero=>rfl
 | succ e ih=>
  have e1:∀ z,cw (e+1) z=cw e (Q4.tn z):=fun z=>by rw [er e 1 z]; rfl
  rw [e1]
  exact ih
theorem kf (e:Nat) (F:Nat->Q4):∀ N:Nat,cw e (ib N F)=ib N (fun p=>cw e (F p))
 | 0=>vA e
 | N+1=>by rw [i9,vC,kf e F N]; rfl
theorem o6 (F G:Nat->Q4) (N:Nat):ib N (fun p=>Q4.add (F p) (G p))=Q4.add (ib N F) (ib N G):=by
 apply Q4.ext'
 ·exact fX (fun p=>(F p).a) (fun p=>(G p).a) N
 ·exact fX (fun p=>(F p).b) (fun p=>(G p).b) N
 ·exact fX (fun p=>(F p).c) (fun p=>(G p).c) N
 ·exact fX (fun p=>(F p).d) (fun p=>(G p).d) N
theorem mh {n M j:Nat} {f:Nat->Nu} (hf:∀ p,(f p).2+1<=M) (x:Nat):Q4.rt (val M (oq n f (.swing j) x))=if bit (wt n j) x=0 then Q4.add (val M (f x)) (val M (f (x+wt n j))) else Q4.add (val M (f (x-wt n j))) (cw 4 (val M (f x))):=by
 show Q4.rt (val M (if bit (wt n j) x=0 then mL (ip (f x) (f (x+wt n j))) else mL (ip (f (x-wt n j)) (hZ 4 (f x)))))=_
 split
 ·have a:=hf x
  have b:=hf (x+wt n j)
  have l:=mt (f x) (f (x+wt n j))
  rw [oR (by omega),oQ (by omega) (by omega)]
 ·have a:=hf x
  have b:=hf (x-wt n j)
  have l:(ip (f (x-wt n j)) (hZ 4 (f x))).2<=max (f (x-wt n j)).2 (f x).2:=mt _ _
  rw [oR (by omega),oQ (by omega) (by show (f x).2<=M; omega),j9]
noncomputable def Sup (N M K:Nat) (a:Nat->Q4) (c:Nat->Nat->Nu) (g:Nat->Nu):Prop:=∀ x,val N (g x)=ib K (fun p=>Q4.mul (a p) (val M (c p x)))
theorem Sup.done {n N M K:Nat} {a:Nat->Q4} {c:Nat->Nat->Nu} {g:Nat->Nu} (h:Sup N M K a c g) (hg:∀ p,(g p).2+1<=N) (hc:∀ p x,(c p x).2+1<=M) (r:Row):Sup N M K a (fun p=>oq n (c p) r) (oq n g r):=by
 have tm:∀ (e:Nat) (x:Nat),val N (hZ e (g x))=ib K (fun p=>Q4.mul (a p) (val M (hZ e (c p x)))):=fun e x=>by
  rw [j9,h x,kf]
  refine gU _ fun p _=>?_
  rw [sd,j9]
 intro x
 cases r with
 | swing j=>
  apply Q4.rt_inj
  rw [mh hg x,sj]
  have e:∀ p,Q4.rt (Q4.mul (a p) (val M (oq n (c p) (.swing j) x)))=Q4.mul (a p) (if bit (wt n j) x=0 then Q4.add (val M (c p x)) (val M (c p (x+wt n j))) else Q4.add (val M (c p (x-wt n j))) (cw 4 (val M (c p x)))):=fun p=>by
   rw [<- mh (hc p) x,Q4.mul_comm,Q4.rt_mul,Q4.mul_comm]
  simp only [e]
  split
  ·rw [h x,h (x+wt n j),<- o6]
   exact gU _ fun p _=>by rw [Q4.mul_add]
  ·rw [h x,h (x-wt n j),kf,<- o6]
   exact gU _ fun p _=>by rw [Q4.mul_add,sd]
 | turn j e=>exact tm _ x
 | sign i j=>exact tm _ x
 | flip j=>exact h _
 | tie i j=>exact h _
 | cross i j=>exact h _
noncomputable def sS (p:Nat):Nat->Nu:=fun q=>if q=p then (⟨1,0,0,0⟩,0) else (⟨0,0,0,0⟩,0)
theorem oZ {F:Nat->Q4} {x:Nat} (hF:∀ p,p≠x->F p=⟨0,0,0,0⟩):∀ N:Nat,ib N F=if x<N then F x else ⟨0,0,0,0⟩
 | 0=>by rw [if_neg (by omega)]; apply Q4.ext' <;> rfl
 | N+1=>by
  rw [i9,oZ hF N]
  by_cases h:x<N
  ·rw [if_pos h,if_pos (by omega),hF N (by omega)]
   apply Q4.ext' <;> simp [Q4.add]
  ·by_cases h2:x=N
   ·subst h2
    rw [if_neg h,if_pos (by omega)]
    apply Q4.ext' <;> simp [Q4.add]
   ·rw [if_neg h,if_neg (by omega),hF N (Ne.symm h2)]
    apply Q4.ext' <;> simp [Q4.add]
theorem uJ (x:Q4):Q4.mul x ⟨0,0,0,0⟩=⟨0,0,0,0⟩:=by apply Q4.ext' <;> simp [Q4.mul]
theorem wX (x:Q4):Q4.mul x ⟨1,0,0,0⟩=x:=by apply Q4.ext' <;> simp [Q4.mul]
theorem oO (M:Nat):val M (⟨0,0,0,0⟩,0)=⟨0,0,0,0⟩:=pr _
theorem Sup.start {n M:Nat} (s:Nat->Nu) (hs:∀ p,(s p).2<=M) (hz:∀ p,2 ^ n<=p->s p=(⟨0,0,0,0⟩,0)):Sup (M+M) M (2 ^ n) (fun p=>val M (s p)) sS s:=by
 intro x
 have hF:∀ p,p≠x->Q4.mul (val M (s p)) (val M (sS p x))=⟨0,0,0,0⟩:=fun p hp=>by
  unfold sS
  rw [if_neg (Ne.symm hp),oO,uJ]
 rw [oZ hF]
 by_cases h:x<2 ^ n
 ·rw [if_pos h]
  unfold sS
  rw [if_pos rfl]
  unfold val
  have:=hs x
  show Q4.rtn (M+M-(s x).2) (s x).1=Q4.mul (Q4.rtn (M-(s x).2) (s x).1) (Q4.rtn (M-0) ⟨1,0,0,0⟩)
  rw [<- Q4.rtn_mul2,wX]
  congr 1
  omega
 ·rw [if_neg h,hz x (by omega),oO]
end MA
namespace GN
open PySem L2 VL
noncomputable def jV (i:Nat):Stmt:=PySem.Challenge.pw_wavewires_k37_whole_steps_keep_the_numbe.main.body.getD i (.Pass ⟨0,0,0,0⟩)
noncomputable abbrev dz:Stmt:=jV 4
noncomputable abbrev gm:List Str:=["turn","turns","pairs","by_set","pair","bitset","e"]
noncomputable def fE:Dv->Option D:=bX (oI (ix 3) bu) [] lC (ob (o2 (o2 (oV 0) (oC (.int 1)) az) (oC (.int 0)) neD)) (oV 0)
noncomputable def bO:Sf:=ay (aI 5 (o2 (oV 4) (oC (.int 0)) az)) (ay (aI 6 (o2 (oV 4) (oC (.int 1)) az)) (ay (gK (ob (o2 (o2 (oV 5) (oC (.int 1)) yf) (oC (.int 1)) g9)) (ay (aI 0 (o2 (oV 0) (oV 6) aN)) (ay (aI 5 (o2 (oV 5) (oC (.int 1)) qA)) (aI 6 (o1 (oV 6) negD)))) (lH)) (gK (ob (o2 (oV 5) (oC (.int 0)) neD)) (eF 3 (oV 5) (o2 (o2 (nU 3 (oV 5) (oC (.int 0))) (oV 6) aN) (oC (.int 8)) aR)) (lH))))
noncomputable def gl:Sf:=ay (qN 3 (oV 1)) (ay (fS (oI (oV 2) bu) (gN 4) (bO)) (b5 (os (af (o2 (oV 0) (oC (.int 8)) aR) (af (os (af (fE) (au)) cE) (au))) cg)))
noncomputable def bb:List D->Option D:=aV gm 3 gl
noncomputable abbrev bS:Stmt:=jV 5
noncomputable abbrev dN:List Str:=["ties"]
noncomputable def ck:Dv->Option D:=bX (oI (o1 (oV 0) fY) bu) [] lC (ob (o2 (oV 0) (oC (.int 0)) neD)) (oV 0)
noncomputable def dJ:Sf:=b5 (os (af (ck) (au)) cE)
noncomputable def aF:List D->Option D:=aV dN 1 dJ
noncomputable abbrev sE:Stmt:=jV 7
noncomputable abbrev Bq:List Str:=["bitset","bit"]
noncomputable def yc:Sf:=b5 (o2 (o2 (o2 (oV 0) (oV 1) pc) (oC (.int 1)) yf) (oC (.int 1)) g9)
noncomputable def cZ:List D->Option D:=aV Bq 2 yc
noncomputable abbrev cH:Stmt:=jV 8
noncomputable abbrev eE:List Str:=["one","bit"]
noncomputable def fD:Dv->Option D:=fR (oI (o2 (oV 0) (oC (.int 4)) az) bu) [(1,"bit")] lC (os (af (oV 0) (af (oV 1) (au))) cZ)
noncomputable def fB:Dv->Option D:=bX (oI (o2 (oV 0) (oC (.int 3)) az) bu) [(1,"bit")] lC (ob (os (af (o2 (oV 0) (oC (.int 0)) az) (af (oV 1) (au))) cZ)) (o2 (o2 (o2 (oV 0) (oC (.int 1)) az) (oC (.int 2)) aR) (oC (.int 0)) g9)
noncomputable def eA:Sf:=ay (gK (ob (os (af (fD) (au)) AD)) (b5 (oC (.bool false))) (lH)) (b5 (os (af (fB) (au)) AF))
noncomputable def bH:List D->Option D:=aV eE 2 eA
noncomputable abbrev df:Stmt:=jV 9
noncomputable abbrev fP:List Str:=["one","steps","tie"]
noncomputable def eu:Dv->Option D:=bX (oI (o2 (oV 0) (oC (.int 5)) az) bu) [(0,"one")] lC (ob (os (af (oV 1) (af (oV 0) (au))) bH)) (os (af (oC (.str "away")) (af (oV 0) (au))) cg)
noncomputable def f8:Dv->Option D:=bX (oI (o2 (oV 0) (oC (.int 5)) az) bu) [(2,"tie")] lC (ob (os (af (oV 1) (af (oV 0) (au))) cZ)) (os (af (oC (.str "put")) (af (oV 1) (af (oV 0) (au)))) cg)
noncomputable def ca:Sf:=AX 1 (f8)
noncomputable def lv:Sf:=ay (pj 1 (E4 (eu))) (ay (fS (oI (o2 (oV 0) (oC (.int 4)) az) bu) (gN 2) (ca)) (fun δ=>(b5 (oV 1)) (yz 1 δ)))
noncomputable def cf:List D->Option D:=aV fP 1 lv
noncomputable abbrev nD:Stmt:=jV 10
noncomputable abbrev yn:List Str:=["one","step"]
noncomputable def oE:Sf:=ay (gK (ob (o2 (o2 (oV 1) (oC (.int 0)) az) (oC (.str "away")) g9)) (b5 (mE (o2 (o2 (oV 1) (oC (.int 1)) az) (o2 (oV 0) (oC (.int 5)) az) (vq false)) (os (af (oV 0) (af (o2 (oV 1) (oC (.int 1)) az) (au))) bH))) (lH)) (b5 (mE (o2 (o2 (oV 1) (oC (.int 1)) az) (o2 (oV 0) (oC (.int 4)) az) (vq false)) (mE (o2 (o2 (oV 1) (oC (.int 2)) az) (o2 (oV 0) (oC (.int 5)) az) (vq false)) (os (af (o2 (oV 1) (oC (.int 1)) az) (af (o2 (oV 1) (oC (.int 2)) az) (au))) cZ))))
noncomputable def eK:List D->Option D:=aV yn 2 oE
noncomputable abbrev dg:Stmt:=jV 11
noncomputable abbrev eY:List Str:=["one","bit","change","within","others","both"]
noncomputable def fC:Dv->Option D:=bX (oI (o2 (oV 0) (oC (.int 3)) az) bu) [(1,"bit"),(2,"change")] lC (ob (os (af (o2 (oV 0) (oC (.int 0)) az) (af (oV 1) (au))) cZ)) (os (af (o2 (o2 (oV 0) (oC (.int 0)) az) (oV 2) qA) (af (o2 (oV 0) (oC (.int 1)) az) (au))) cg)
noncomputable def fA:Dv->Option D:=bX (oI (o2 (oV 0) (oC (.int 3)) az) bu) [(1,"bit")] lC (nT (ob (os (af (o2 (oV 0) (oC (.int 0)) az) (af (oV 1) (au))) cZ))) (oV 0)
noncomputable def fw:Dv->Option D:=bX (oI (o2 (oV 0) (oC (.int 5)) az) bu) [(1,"bit")] lC (ob (o2 (oV 0) (oV 1) neD)) (oV 0)
noncomputable def jt:Sf:=ay (aI 3 (fC)) (ay (aI 4 (fA)) (ay (aI 5 (os (af (o2 (oV 0) (oC (.int 2)) az) (af (oV 4) (af (oV 3) (au)))) bb)) (b5 (os (af (o2 (oV 0) (oC (.int 0)) az) (af (o2 (oV 0) (oC (.int 1)) az) (af (o2 (oV 5) (oC (.int 0)) az) (af (o2 (oV 5) (oC (.int 1)) az) (af (o2 (oV 0) (oC (.int 4)) az) (af (os (af (fw) (au)) cE) (au))))))) cg))))
noncomputable def bA:List D->Option D:=aV eY 3 jt
noncomputable abbrev fj:Stmt:=jV 12
noncomputable abbrev lA:List Str:=["pairs","told","pair"]
noncomputable def cK:Sf:=gK (ob (o2 (o2 (oV 2) (oC (.int 1)) az) (os (af (oC (.int 2)) (af (oC (.int 6)) (au))) cg) (vq false))) (aI 1 (o2 (oV 1) (o2 (oV 2) (oC (.int 0)) az) qA)) (lH)
noncomputable def hU:Sf:=ay (aI 1 (oC (.int 0))) (ay (fS (oI (oV 0) bu) (gN 2) (cK)) (b5 (oV 1)))
noncomputable def bP:List D->Option D:=aV lA 1 hU
noncomputable abbrev cG:Stmt:=jV 13
noncomputable abbrev eB:List Str:=["one","bit","within","total","rest","left","tie","both"]
noncomputable def cm:Dv->Option D:=bX (oI (o2 (oV 0) (oC (.int 3)) az) bu) [(1,"bit")] lC (ob (os (af (o2 (oV 0) (oC (.int 0)) az) (af (oV 1) (au))) cZ)) (os (af (o2 (o2 (oV 0) (oC (.int 0)) az) (o2 (oC (.int 1)) (oV 1) eP) qA) (af (o2 (oV 0) (oC (.int 1)) az) (au))) cg)
noncomputable def cj:Dv->Option D:=fR (oI (oV 2) bu) [] lC (o2 (oV 0) (oC (.int 1)) az)
noncomputable def dE:Sf:=ay (aI 2 (cm)) (ay (aI 3 (o2 (os (af (cj) (au)) gX) (oC (.int 8)) aR)) (ay (aI 4 (os (af (oV 2) (au)) bP)) (ay (aI 5 (os (af (oV 0) (af (oV 1) (af (o2 (oC (.int 1)) (oV 1) eP) (au)))) bA)) (ay (gK (ob (o2 (o2 (oV 3) (oC (.int 4)) aR) (oC (.int 0)) g9)) (ay (aI 6 (o2 (oV 4) (o2 (oV 3) (oC (.int 4)) cM) qA)) (b5 (os (af (o2 (oV 5) (oC (.int 0)) az) (af (o2 (o2 (oV 5) (oC (.int 1)) az) (oC (.int 2)) de) (af (o2 (oV 5) (oC (.int 2)) az) (af (o2 (oV 5) (oC (.int 3)) az) (af (os (af (o2 (o2 (oV 5) (oC (.int 4)) az) (os (af (oV 6) (au)) cg) aN) (au)) aF) (af (o2 (oV 5) (oC (.int 5)) az) (au))))))) cg))) (lH)) (ay (aI 7 (os (af (o2 (o2 (oV 5) (oC (.int 2)) az) (G7 (ob (o2 (oV 3) (oC (.int 2)) g9)) (oC (.int 1)) (oC (.int 7))) aN) (af (o2 (oV 5) (oC (.int 3)) az) (af (os (af (os (af (oV 4) (af (o2 (oC (.int 8)) (oV 3) de) (au))) cg) (au)) gE) (au)))) bb)) (b5 (os (af (o2 (oV 5) (oC (.int 0)) az) (af (o2 (o2 (oV 5) (oC (.int 1)) az) (oC (.int 1)) de) (af (o2 (oV 7) (oC (.int 0)) az) (af (o2 (oV 7) (oC (.int 1)) az) (af (o2 (oV 5) (oC (.int 4)) az) (af (o2 (oV 5) (oC (.int 5)) az) (au))))))) cg)))))))
noncomputable def ba:List D->Option D:=aV eB 2 dE
noncomputable abbrev pi:Stmt:=jV 14
noncomputable abbrev ym:List Str:=["one","tie","bit","left","ties"]
noncomputable def nK:Dv->Option D:=bX (oI (o2 (oV 3) (oC (.int 4)) az) bu) [(1,"tie"),(2,"bit")] lC (ob (o2 (oV 0) (oV 1) neD)) (G7 (ob (os (af (oV 0) (af (oV 2) (au))) cZ)) (o2 (oV 0) (oV 1) qA) (oV 0))
noncomputable def ya:Sf:=ay (aI 3 (os (af (oV 0) (af (oV 2) (af (oV 1) (au)))) bA)) (ay (aI 4 (nK)) (b5 (os (af (o2 (oV 3) (oC (.int 0)) az) (af (o2 (oV 3) (oC (.int 1)) az) (af (o2 (oV 3) (oC (.int 2)) az) (af (o2 (oV 3) (oC (.int 3)) az) (af (os (af (oV 4) (au)) aF) (af (o2 (oV 3) (oC (.int 5)) az) (au))))))) cg)))
noncomputable def jC:List D->Option D:=aV ym 3 ya
noncomputable abbrev gq:Stmt:=jV 15
noncomputable abbrev m6:List Str:=["one","step"]
noncomputable def gB:Sf:=ay (gK (nT (ob (os (af (oV 0) (af (oV 1) (au))) eK))) (Im) (lH)) (ay (gK (ob (o2 (o2 (oV 1) (oC (.int 0)) az) (oC (.str "away")) g9)) (b5 (os (af (oV 0) (af (o2 (oV 1) (oC (.int 1)) az) (au))) ba)) (lH)) (b5 (os (af (oV 0) (af (o2 (oV 1) (oC (.int 1)) az) (af (o2 (oV 1) (oC (.int 2)) az) (au)))) jC)))
noncomputable def bz:List D->Option D:=aV m6 2 gB
noncomputable abbrev cQ:Stmt:=jV 17
noncomputable abbrev gn:List Str:=["script","k"]
noncomputable def cX:Sf:=ay (gK (ob (o2 (oV 1) (os (af (oV 0) (au)) g6) Bc)) (b5 (o2 (oV 0) (oV 1) az)) (lH)) (b5 (oC (.int 0)))
noncomputable def aM:List D->Option D:=aV gn 2 cX
noncomputable abbrev dP:Stmt:=jV 18
noncomputable abbrev iZ:List Str:=["cell"]
noncomputable def fL:Sf:=b5 (o2 (o2 (o2 (o2 (oV 0) (o2 (oC (.int 10)) (oC (.int 60)) uA) aR) (oC (.int 48271)) cA) (oC (.int 12345)) aN) (oC (.int 2147483629)) aR)
noncomputable def aT:List D->Option D:=aV iZ 1 fL
noncomputable abbrev dO:Stmt:=jV 19
noncomputable abbrev iY:List Str:=["found"]
noncomputable def fK:Sf:=b5 (mE (o1 (oV 0) (gF "int")) (o1 (o1 (oV 0) (gF "bool")) zU))
noncomputable def bi:List D->Option D:=aV iY 1 fK
noncomputable abbrev dQ:Stmt:=jV 20
noncomputable abbrev i0:List Str:=["x"]
noncomputable def bU:Dv->Option Bool:=jh (ob (o2 (o2 (oV 0) (oC (.int 4)) az) (oC (.int 0)) yw)) (jh (ob (o2 (o2 (o2 (o2 (oV 0) (oC (.int 0)) az) (o2 (oV 0) (oC (.int 2)) az) aN) (oC (.int 2)) aR) (oC (.int 0)) g9)) (ob (o2 (o2 (o2 (o2 (oV 0) (oC (.int 1)) az) (o2 (oV 0) (oC (.int 3)) az) aN) (oC (.int 2)) aR) (oC (.int 0)) g9)))
noncomputable def eJ:Sf:=aI 0 (os (af (o2 (o2 (o2 (oV 0) (oC (.int 1)) az) (o2 (oV 0) (oC (.int 3)) az) de) (oC (.int 2)) cM) (af (o2 (o2 (o2 (oV 0) (oC (.int 0)) az) (o2 (oV 0) (oC (.int 2)) az) aN) (oC (.int 2)) cM) (af (o2 (o2 (o2 (oV 0) (oC (.int 1)) az) (o2 (oV 0) (oC (.int 3)) az) aN) (oC (.int 2)) cM) (af (o2 (o2 (o2 (oV 0) (oC (.int 2)) az) (o2 (oV 0) (oC (.int 0)) az) de) (oC (.int 2)) cM) (af (o2 (o2 (oV 0) (oC (.int 4)) az) (oC (.int 1)) de) (au)))))) cg)
noncomputable def fM:Sf:=ay (fun δ=>cY (bU) (eJ) wN δ) (b5 (oV 0))
noncomputable def bQ:List D->Option D:=aV i0 1 fM
noncomputable abbrev fo:Stmt:=jV 21
noncomputable abbrev lB:List Str:=["bitset","bits","both","odd"]
noncomputable def dw:Dv->Option Bool:=ob (o2 (oV 2) (oC (.int 0)) yw)
noncomputable def ez:Sf:=ay (aI 3 (o2 (oC (.int 1)) (oV 3) de)) (aI 2 (o2 (oV 2) (o2 (oV 2) (oC (.int 1)) de) yf))
noncomputable def hV:Sf:=ay (aI 2 (o2 (oV 0) (oV 1) yf)) (ay (aI 3 (oC (.int 0))) (ay (fun δ=>cY (dw) (ez) wN δ) (b5 (oV 3))))
noncomputable def cF:List D->Option D:=aV lB 2 hV
noncomputable abbrev ci:Stmt:=jV 22
noncomputable abbrev eZ:List Str:=["shape","begin","marks","end","wires","told","j","m"]
noncomputable def bE:Sf:=ay (aI 5 (o2 (oV 5) (o2 (o2 (o2 (oV 1) (o2 (o2 (oV 4) (oC (.int 1)) de) (oV 6) de) pc) (oC (.int 2)) aR) (o2 (oC (.int 1)) (o2 (oC (.int 1)) (oV 6) aN) eP) cA) aN)) (aI 5 (o2 (oV 5) (o2 (o2 (o2 (oV 3) (o2 (o2 (oV 4) (oC (.int 1)) de) (oV 6) de) pc) (oC (.int 2)) aR) (o2 (oC (.int 1)) (o2 (o2 (oC (.int 1)) (oV 4) aN) (oV 6) aN) eP) cA) aN))
noncomputable def bD:Sf:=aI 5 (o2 (oV 5) (o2 (o2 (oV 2) (oV 7) az) (o2 (oC (.int 1)) (o2 (o2 (oC (.int 1)) (o2 (oC (.int 2)) (oV 4) cA) aN) (oV 7) aN) eP) cA) aN)
noncomputable def dj:Sf:=ay (aI 4 (o2 (oV 0) (oC (.int 0)) az)) (ay (aI 5 (oC (.int 1))) (ay (fS (oL (af (oV 4) (au)) cz) (gN 6) (bE)) (ay (fS (oL (af (o2 (oV 0) (oC (.int 1)) az) (au)) cz) (gN 7) (bD)) (b5 (oV 5)))))
noncomputable def aK:List D->Option D:=aV eZ 4 dj
noncomputable abbrev bn:Stmt:=jV 23
noncomputable abbrev cr:List Str:=["one","told","parts","way","bits","k","e","x","step"]
noncomputable def bZ:Dv->Option D:=fR (oI (o2 (oV 0) (oC (.int 4)) az) bu) [(4,"bits")] lC (os (af (oV 0) (af (oV 1) (au))) cF)
noncomputable def bY:Dv->Option D:=fR (oI (o2 (oV 0) (oC (.int 3)) az) bu) [(4,"bits")] lC (o2 (o2 (oV 0) (oC (.int 1)) az) (os (af (o2 (oV 0) (oC (.int 0)) az) (af (oV 1) (au))) cF) cA)
noncomputable def bF:Sf:=aI 4 (o2 (oV 4) (o2 (o2 (o2 (oV 3) (oV 5) pc) (oC (.int 2)) aR) (o2 (oC (.int 1)) (o2 (o2 (oV 0) (oC (.int 5)) az) (oV 5) az) eP) cA) aN)
noncomputable def aS:Sf:=ay (aI 4 (oV 1)) (ay (fS (oL (af (os (af (o2 (oV 0) (oC (.int 5)) az) (au)) g6) (au)) cz) (gN 5) (bF)) (gK (ob (o2 (os (af (bZ) (au)) gX) (oC (.int 0)) g9)) (ay (aI 6 (o2 (o2 (o2 (oV 0) (oC (.int 2)) az) (os (af (bY) (au)) gX) aN) (oC (.int 8)) aR)) (EA 2 (o2 (oV 6) (oC (.int 4)) aR) (o2 (o2 (qX 2 (o2 (oV 6) (oC (.int 4)) aR)) (oC (.int 1)) aN) (o2 (oC (.int 2)) (o2 (oV 6) (oC (.int 4)) cM) cA) de))) (lH)))
noncomputable def bC:Sf:=aI 7 (os (af (o2 (o2 (oV 7) (oC (.int 1)) az) (o2 (oV 7) (oC (.int 3)) az) de) (af (o2 (o2 (oV 7) (oC (.int 0)) az) (o2 (oV 7) (oC (.int 2)) az) aN) (af (o2 (o2 (oV 7) (oC (.int 1)) az) (o2 (oV 7) (oC (.int 3)) az) aN) (af (o2 (o2 (oV 7) (oC (.int 2)) az) (o2 (oV 7) (oC (.int 0)) az) de) (af (oC (.int 0)) (au)))))) cg)
noncomputable def dl:Sf:=ay (v5 2 (af (oC (.int 0)) (af (oC (.int 0)) (af (oC (.int 0)) (af (oC (.int 0)) (au)))))) (ay (fS (oL (af (o2 (oC (.int 1)) (os (af (o2 (oV 0) (oC (.int 5)) az) (au)) g6) eP) (au)) cz) (gN 3) (aS)) (ay (aI 7 (os (af (qX 2 (oC (.int 0))) (af (qX 2 (oC (.int 1))) (af (qX 2 (oC (.int 2))) (af (qX 2 (oC (.int 3))) (af (os (af (oC (.int 0)) (af (o2 (oV 0) (oC (.int 1)) az) (au))) q9) (au)))))) cg)) (ay (fS (oL (af (o2 (oC (.int 0)) (o2 (oV 0) (oC (.int 1)) az) de) (au)) cz) (gN 8) (bC)) (b5 (os (af (oV 7) (au)) bQ)))))
noncomputable def aG:List D->Option D:=aV cr 2 dl
noncomputable abbrev cR:Stmt:=jV 24
noncomputable abbrev gp:List Str:=["head","cells","first","hidden","bit","k"]
noncomputable def bT:Sf:=ay (aI 4 (o2 (o2 (oV 4) (oC (.int 1)) aN) (o2 (os (af (oV 1) (af (oV 5) (au))) aM) (o2 (os (af (oC (.int 1)) (af (oC (.int 1)) (af (oC (.int 2)) (af (oC (.int 40)) (au))))) gE) (o2 (o2 (oV 0) (oC (.int 45)) cM) (oC (.int 4)) aR) az) aR) aN)) (B1 3 (oV 4))
noncomputable def d8:Sf:=ay (v5 3 (au)) (ay (aI 4 (o2 (oV 2) (oC (.int 1)) de)) (ay (fS (oL (af (o2 (o2 (oV 0) (oC (.int 9)) cM) (oC (.int 6)) aR) (au)) cz) (gN 5) (bT)) (fun δ=>(b5 (oV 3)) (yz 3 δ))))
noncomputable def aU:List D->Option D:=aV gp 3 d8
noncomputable abbrev bw:Stmt:=jV 25
noncomputable abbrev cD:List Str:=["head","cells","wires","looks","hidden","allowed","turns","ties","cell","turn","bitset","halves","pairs_of"]
noncomputable def bL:Dv->Option D:=bX (oL (af (os (af (oV 5) (au)) g6) (au)) cz) [(5,"allowed"),(9,"turn")] lC (ob (o2 (o2 (o2 (oV 2) (o2 (oV 0) (oC (.int 6)) aN) pc) (oC (.int 2)) aR) (oC (.int 1)) g9)) (o2 (oC (.int 1)) (o2 (oV 1) (oV 0) az) eP)
noncomputable def bK:Dv->Option D:=fR (oI (o1 (oV 6) kh) bu) [(6,"turns")] lC (os (af (oV 0) (af (o2 (oV 1) (oV 0) xw) (au))) cg)
noncomputable def aY:Sf:=ay (aI 9 (os (af (oV 8) (au)) aT)) (ay (aI 10 (os (af (bL) (au)) gX)) (gK (jh (ob (o2 (o2 (oV 9) (oC (.int 5)) aR) (oC (.int 1)) g9)) (jh (ob (o2 (kH 7) (oC (.int 4)) Bc)) (ob (o2 (oV 10) (oC (.int 0)) yw)))) (eF 7 (oV 10) (oC (.bool true))) (gK (jh (ob (o2 (o2 (oV 9) (oC (.int 5)) aR) (oC (.int 1)) neD)) (jh (ob (o2 (oV 10) (oC (.int 1)) yw)) (ob (o2 (kH 6) (oC (.int 12)) Bc)))) (eF 6 (o2 (oV 10) (o2 (oV 10) (oC (.int 2)) aR) de) (o2 (os (af (o2 (oC (.int 1)) (o2 (o2 (oV 9) (oC (.int 5)) cM) (oC (.int 7)) aR) aN) (af (o2 (oC (.int 2)) (o2 (oC (.int 2)) (o2 (o2 (oV 9) (oC (.int 5)) cM) (oC (.int 3)) aR) cA) aN) (au))) gE) (os (af (oC (.int 1)) (af (o2 (o2 (oV 0) (oC (.int 11)) cM) (oC (.int 3)) aR) (au))) wY) az)) (lH))))
noncomputable def dL:Sf:=ay (aI 2 (o2 (oC (.int 1)) (o2 (oV 0) (oC (.int 3)) aR) aN)) (ay (aI 3 (o2 (o2 (oV 0) (oC (.int 3)) cM) (oC (.int 3)) aR)) (ay (aI 4 (os (af (oV 0) (af (oV 1) (af (o2 (o2 (o2 (oC (.int 2)) (oV 2) cA) (oC (.int 1)) aN) (oV 3) aN) (au)))) aU)) (ay (aI 5 (o2 (o1 (o2 (o2 (o2 (oC (.int 2)) (oV 2) cA) (oC (.int 1)) aN) (oV 3) aN) jA) (oV 4) aN)) (ay (pq 6) (ay (pq 7) (ay (fS (oI (oV 1) bu) (gN 8) (aY)) (ay (aI 11 (o2 (o2 (o2 (oV 0) (oC (.int 180)) cM) (oC (.int 13)) aR) (oC (.int 6)) de)) (ay (gK (ob (o2 (o2 (o2 (oV 0) (oC (.int 2340)) cM) (oC (.int 9)) aR) (oC (.int 1)) g9)) (aI 11 (o2 (o2 (o2 (oV 0) (oC (.int 2340)) cM) (oC (.int 401)) aR) (oC (.int 200)) de)) (lH)) (ay (fun δ=>(aI 12 (os (af (bK) (au)) cE)) (qg 6 δ)) (b5 (os (af (os (af (oV 2) (af (oV 3) (au))) cg) (af (oV 11) (af (o2 (o2 (oV 0) (oC (.int 7)) cM) (oC (.int 8)) aR) (af (oV 12) (af (os (af (jg 7) (au)) cE) (af (os (af (oV 4) (au)) cE) (au))))))) cg)))))))))))
noncomputable def bB:List D->Option D:=aV cD 2 dL
noncomputable abbrev dq:Stmt:=jV 26
noncomputable abbrev gP:List Str:=["one","shape","many","last","pair"]
noncomputable def cb:Sf:=ay (gK (wQ (ob (o2 (o2 (oV 4) (oC (.int 0)) az) (oV 3) IB)) (wQ (ob (o2 (o2 (o2 (oV 4) (oC (.int 0)) az) (oC (.int 2)) aR) (oC (.int 1)) g9)) (wQ (ob (o2 (o2 (oV 4) (oC (.int 1)) az) (oC (.int 1)) Bc)) (ob (o2 (o2 (oV 4) (oC (.int 1)) az) (oC (.int 7)) yw))))) (b5 (oC (.bool false))) (lH)) (aI 3 (o2 (oV 4) (oC (.int 0)) az))
noncomputable def eM:Sf:=ay (gK (wQ (nT (ob (o1 (oV 0) (gF "tuple")))) (wQ (ob (o2 (os (af (oV 0) (au)) g6) (oC (.int 6)) neD)) (wQ (ob (o2 (o2 (oV 0) (oC (.int 0)) az) (oV 1) neD)) (ob (o2 (os (af (o2 (oV 0) (oC (.int 5)) az) (au)) g6) (oV 2) neD))))) (b5 (oC (.bool false))) (lH)) (ay (gK (wQ (nT (ob (os (af (o2 (oV 0) (oC (.int 1)) az) (au)) bi))) (wQ (nT (ob (os (af (o2 (oV 0) (oC (.int 2)) az) (au)) bi))) (wQ (ob (o2 (o2 (oV 0) (oC (.int 2)) az) (oC (.int 0)) Bc)) (ob (o2 (o2 (oV 0) (oC (.int 2)) az) (oC (.int 7)) yw))))) (b5 (oC (.bool false))) (lH)) (ay (aI 3 (oC (.int 0))) (ay (fS (oI (o2 (oV 0) (oC (.int 3)) az) bu) (gN 4) (cb)) (b5 (mE (o2 (os (af (o2 (oV 0) (oC (.int 4)) az) (au)) sX) (o1 (o2 (oV 0) (oC (.int 4)) az) fY) g9) (o2 (oC (.int 0)) (o2 (oV 0) (oC (.int 4)) az) (vq true)))))))
noncomputable def bj:List D->Option D:=aV gP 3 eM
noncomputable abbrev b6:Stmt:=jV 27
noncomputable abbrev d9:List Str:=["one","asked"]
noncomputable def dI:Dv->Option D:=fR (oI (oV 1) bu) [(0,"one")] lC (os (af (oV 1) (af (os (af (o2 (oV 1) (oC (.int 0)) az) (af (o2 (oV 0) (oC (.int 0)) az) (af (o2 (oV 0) (oC (.int 1)) az) (af (o2 (oV 0) (oC (.int 2)) az) (au))))) aK) (au))) aG)
noncomputable def d7:Sf:=b5 (dI)
noncomputable def aP:List D->Option D:=aV d9 2 d7
noncomputable abbrev cS:Stmt:=jV 28
noncomputable abbrev fQ:List Str:=["one","cells","wires","looks","asked","k","turn","marks"]
noncomputable def dr:Dv->Option D:=fR (oL (af (oV 3) (au)) cz) [(6,"turn")] lC (o2 (o2 (oV 1) (o2 (oC (.int 64)) (oV 0) eP) cM) (oC (.int 2)) aR)
noncomputable def cB:Sf:=ay (aI 6 (os (af (o2 (o2 (oV 1) (oV 5) az) (o2 (o2 (oV 5) (oV 5) cA) (oC (.int 7919)) cA) aN) (au)) aT)) (ay (aI 7 (os (af (dr) (au)) cE)) (B1 4 (os (af (o2 (oV 6) (o2 (oC (.int 1)) (oV 2) eP) aR) (af (oV 7) (af (o2 (o2 (oV 6) (oC (.int 8)) cM) (o2 (oC (.int 1)) (oV 2) eP) aR) (au)))) cg)))
noncomputable def fN:Sf:=ay (B0 (o2 (oV 0) (oC (.int 0)) az) (Hu [gN 2,gN 3])) (ay (v5 4 (au)) (ay (fS (oL (af (oC (.int 3)) (au)) cz) (gN 5) (cB)) (fun δ=>(b5 (oV 4)) (yz 4 δ))))
noncomputable def bI:List D->Option D:=aV fQ 2 fN
noncomputable abbrev il:Stmt:=jV 29
noncomputable abbrev Bp:List Str:=["script","head","one","asked","due","steps","turn","many"]
noncomputable def kd:Dv->Option Bool:=ob (o2 (os (af (oV 5) (au)) g6) (oC (.int 0)) yw)
noncomputable def kQ:Sf:=ay (aI 7 (o2 (os (af (o2 (oV 2) (oC (.int 5)) az) (au)) g6) (oC (.int 1)) de)) (ay (aI 2 (os (af (oV 2) (af (o2 (oV 5) (o2 (oV 6) (os (af (oV 5) (au)) g6) aR) az) (au))) bz)) (ay (aI 6 (o2 (oV 6) (oC (.int 3)) cM)) (ay (gK (wQ (nT (ob (os (af (oV 2) (af (o2 (oV 2) (oC (.int 0)) az) (af (oV 7) (au)))) bj))) (ob (o2 (os (af (oV 2) (af (oV 3) (au))) aP) (oV 4) neD))) (b5 (oC (.bool false))) (lH)) (aI 5 (os (af (oV 2) (au)) cf)))))
noncomputable def yb:Sf:=ay (aI 1 (o2 (os (af (oV 0) (af (oC (.int 0)) (au))) aM) (o2 (oC (.int 10)) (oC (.int 9)) uA) aR)) (ay (aI 2 (os (af (oV 1) (af (G6 (oV 0) (oP (oC (.int 1))) (oP (oC (.int 61)))) (au))) bB)) (ay (aI 3 (os (af (oV 2) (af (o2 (G6 (oV 0) (oP (o1 (oC (.int 3)) negD)) (Ir)) (os (af (oC (.int 0)) (af (oC (.int 0)) (af (oC (.int 0)) (au)))) gE) aN) (au))) bI)) (ay (aI 4 (os (af (oV 2) (af (oV 3) (au))) aP)) (ay (aI 5 (os (af (oV 2) (au)) cf)) (ay (aI 6 (oV 1)) (ay (fun δ=>cY (kd) (kQ) wN δ) (b5 (oC (.bool true)))))))))
noncomputable def p7:List D->Option D:=aV Bp 1 yb
open MA (par)
theorem iz {s t:Sf} {δ δ':Dv} (h:s δ = some (.nx,δ')):ay s t δ = t δ':=by simp only [ay,h,Option.bind_some]
theorem E9 {N:List Str} {n:Nat} {b:Sf} {as:List D} {d:D} {δ':Dv} (hl:as.length=n) (h:b (aH N as)=some (.rt d,δ')):aV N n b as=some d:=by unfold aV; rw [if_pos hl,h]; rfl
theorem AW {t:Dv->Option Bool} {u w:Sf} {δ:Dv} (h:t δ = some true):gK t u w δ = u δ:=by unfold gK; rw [h]; rfl
theorem v9 {t:Dv->Option Bool} {u w:Sf} {δ:Dv} (h:t δ = some false):gK t u w δ = w δ:=by unfold gK; rw [h]; rfl
theorem vI (g:Nat->Nat) (l:List Nat):(l.map fun p=>((g p:Nat):Int)).sum=((l.map g).sum:Nat):=by
 induction l with
 | nil=>rfl
 | cons x l ih=>rw [List.map_cons,List.map_cons,List.sum_cons,List.sum_cons,ih]; omega
theorem FX (a:Nat):Builtin.bitAnd (a:Int) 1=((a % 2:Nat):Int):=by
 have:=MA.AB a 1
 rw [show ((1:Nat):Int)=1 from rfl] at this
 rw [this,Nat.and_one_is_mod]
theorem ii (a h:Nat):pc (.int (a:Int)) (.int (h:Int))=some (.int ((a / 2 ^ h:Nat):Int)):=by
 rw [vW (by omega),Int.toNat_natCast]
 congr 2
theorem sC {a:Nat} (k:Nat) (ha:a<2 ^ 100000) (hk:k<=100000):eP (.int (a:Int)) (.int (k:Int))=some (.int ((a*2 ^ k:Nat):Int)):=by
 have hb:(a:Int).natAbs<2 ^ 100000:=by rw [Int.natAbs_natCast]; exact ha
 have:=MA.iR hb
 rw [vY (by omega) (by omega),Int.toNat_natCast]
 congr 2
theorem mm {a:Nat} (h:a<2 ^ 64):a<2 ^ 100000:=Nat.lt_of_lt_of_le h (Nat.pow_le_pow_right (by decide) (by decide))
noncomputable def ai (hs:List Nat):List D:=hs.map fun h=>.int ((h:Nat):Int)
theorem bV (hs:List Nat):(ai hs).length=hs.length:=by simp [ai]
theorem kK (hs:List Nat) {k:Nat} (h:k<hs.length):gO (ai hs) (k:Int)=some (.int (hs.getD k 0:Nat)):=by
 refine dM rfl ?_
 unfold ai
 rw [List.getElem?_map,List.getD_eq_getElem?_getD,List.getElem?_eq_getElem h]
 rfl
theorem qO {n:Nat} (hn:n<=16777216):cz [.int (n:Int)]=some ((List.range n).map fun k:Nat=>PyData.int (0+(k:Int))):=mq (j:=(n:Int)) (by omega) (by omega)
theorem Ba {fs:Dv->Option (List D)} {g:List D->Option (List D)} {δ:Dv} {ds r:List D} (h:fs δ = some ds) (h2:g ds=some r):oL fs g δ = some r:=by unfold oL; rw [h]; exact h2
theorem zS {δ:Dv} {i:Nat} {xs:List D} (e:zc δ[i]? = some (.list xs)):(oI (oV i) bu) δ = some xs:=by unfold oI oV; rw [e]; rfl
noncomputable def prD (p:Nat×Int):D:=.tuple [.int p.1,.int p.2]
theorem nX (a:Nat) {k:Nat} (hk:0<k):aR (.int (a:Int)) (.int (k:Int))=some (.int ((a % k:Nat):Int)):=by
 rw [kL (by omega)]
 congr 2
theorem gc (a:Nat):aR (.int (a:Int)) (.int 2)=some (.int ((a % 2:Nat):Int)):=nX a (k:=2) (by decide)
theorem cT {k:Nat} (hk:k<=100000):eP (.int 1) (.int (k:Int))=some (.int ((2 ^ k:Nat):Int)):=by
 have:=sC (a:=1) k (mm (by decide)) hk
 rw [Nat.one_mul] at this
 exact this
theorem ji (a b:List Nat):ai (a++b)=ai a++ai b:=by simp [ai]
theorem gi {hs:List Nat} {i:Nat} (hi:i<hs.length):hs.getD i 0∈hs:=by
 rw [List.getD_eq_getElem?_getD,List.getElem?_eq_getElem hi]
 exact List.getElem_mem hi
noncomputable def oneD (w l:Nat) (hv:Int) (c:Nat) (ps:List (Nat×Int)) (ts hs:List Nat):D:=.tuple [.tuple [.int w,.int l],.int hv,.int c,.tuple (ps.map prD),.tuple (ai ts),.tuple (ai hs)]
theorem jy (w l:Nat) (hv:Int) (c:Nat) (ps:List (Nat×Int)) (ts hs:List Nat):az (oneD w l hv c ps ts hs) (.int 0)=some (.tuple [.int w,.int l]):=rfl
theorem kE (w l:Nat) (hv:Int) (c:Nat) (ps:List (Nat×Int)) (ts hs:List Nat):az (oneD w l hv c ps ts hs) (.int 1)=some (.int hv):=rfl
theorem pK (w l:Nat) (hv:Int) (c:Nat) (ps:List (Nat×Int)) (ts hs:List Nat):az (oneD w l hv c ps ts hs) (.int 2)=some (.int c):=rfl
theorem sR (w l:Nat) (hv:Int) (c:Nat) (ps:List (Nat×Int)) (ts hs:List Nat):az (oneD w l hv c ps ts hs) (.int 3)=some (.tuple (ps.map prD)):=rfl
theorem pJ (w l:Nat) (hv:Int) (c:Nat) (ps:List (Nat×Int)) (ts hs:List Nat):az (oneD w l hv c ps ts hs) (.int 4)=some (.tuple (ai ts)):=rfl
theorem iq (w l:Nat) (hv:Int) (c:Nat) (ps:List (Nat×Int)) (ts hs:List Nat):az (oneD w l hv c ps ts hs) (.int 5)=some (.tuple (ai hs)):=rfl
@[simp] theorem Gq (u w:Sf) (δ:Dv) (a b:Int):Fv u w δ (a==b)=if a=b then u δ else w δ:=by
 by_cases h:a=b
 ·subst h; simp
 ·have:(a==b)=false:=by simpa using h
  rw [this,if_neg h]; rfl
theorem pU {α:Type} {f:D->Option D} {h k:α -> D}:∀ (xs:List α),(∀ x∈xs,f (h x)=some (k x))->uN f (xs.map h)=some (xs.map k)
 | [],_=>rfl
 | x::xs,H=>by
  show ((f (h x)).bind fun y=>_)=_
  rw [H x List.mem_cons_self]
  show ((uN f (xs.map h)).bind fun ys=>_)=_
  rw [pU xs fun y hy=>H y (List.mem_cons_of_mem _ hy)]
  rfl
theorem qc {α:Type} {t:D->Option Bool} {f:D->Option D} {h k:α -> D} {b:α -> Bool}:∀ (xs:List α),(∀ x∈xs,t (h x)=some (b x))->(∀ x∈xs,b x=true->f (h x)=some (k x))->eW t f (xs.map h)=some ((xs.filter b).map k)
 | [],_,_=>rfl
 | x::xs,H,G=>by
  have ih:=qc (k:=k) xs (fun y hy=>H y (List.mem_cons_of_mem _ hy)) (fun y hy=>G y (List.mem_cons_of_mem _ hy))
  show ((t (h x)).bind fun c=>_)=_
  rw [H x List.mem_cons_self,Option.bind_some]
  cases e:b x with
  | false=>simp [e,ih]
  | true=>simp [e,ih,G x List.mem_cons_self e]
theorem d4 {α:Type} {fi:Dv->Option (List D)} {caps:List (Nat×Str)} {fe:Dv->Option D} {δ:Dv} {h k:α -> D} {xs:List α} (e:fi δ = some (xs.map h)) (hl:xs.length<=16777216) (H:∀ x∈xs,fe (.fz (h x)::bt δ caps)=some (k x)):fR fi caps lC fe δ = some (.list (xs.map k)):=by
 unfold fR
 rw [e,Option.bind_some,if_pos (by rw [List.length_map]; exact hl),pU xs (k:=k) fun x hx=>by
  show fe _=_
  exact H x hx]
 rfl
theorem bM {α:Type} {fi:Dv->Option (List D)} {caps:List (Nat×Str)} {ft:Dv->Option Bool} {fe:Dv->Option D} {δ:Dv} {h k:α -> D} {b:α -> Bool} {xs:List α} (e:fi δ = some (xs.map h)) (hl:xs.length<=16777216) (H:∀ x∈xs,ft (.fz (h x)::bt δ caps)=some (b x)) (G:∀ x∈xs,b x=true->fe (.fz (h x)::bt δ caps)=some (k x)):bX fi caps lC ft fe δ = some (.list ((xs.filter b).map k)):=by
 unfold bX
 rw [e,Option.bind_some,if_pos (by rw [List.length_map]; exact hl),qc xs (b:=b) (k:=k) (fun x hx=>by
  show ft _=_
  exact H x hx) (fun x hx hb=>by
  show fe _=_
  exact G x hx hb)]
 rfl
theorem Av {fi:Dv->Option (List D)} {caps:List (Nat×Str)} {fe:Dv->Option D} {δ:Dv} {N:Nat} {y:Nat->D} (e:fi δ = some ((List.range N).map fun k:Nat=>PyData.int (0+(k:Int)))) (hl:N<=16777216) (H:∀ p:Nat,p<N->fe (.fz (.int p)::bt δ caps)=some (y p)):fR fi caps lC fe δ = some (.list ((List.range N).map y)):=by
 refine d4 e (by rw [List.length_range]; exact hl) fun p hp=>?_
 rw [Int.zero_add]
 exact H p (List.mem_range.mp hp)
theorem eU {b:Sf} {k:Nat} (I:Nat->Dv->Prop) (n:Nat) (h:∀ i,i<n->∀ δ,I i δ -> ∃ δ2,b (δ.set k (.fz (.int i)))=some (.nx,δ2)/\I (i+1) δ2):∀ δ,I 0 δ -> ∃ δ',loop (gN k) b (jb 0 n) δ = some (.nx,δ')/\I n δ':=by
 have go:∀ (m i:Nat),i+m=n->∀ δ,I i δ -> ∃ δ',loop (gN k) b ((List.range' i m).map fun (k:Nat)=>PyData.int (0+(k:Int))) δ = some (.nx,δ')/\I n δ':=by
  intro m
  induction m with
  | zero=>intro i e δ h; exact ⟨δ,rfl,by rw [<- e]; exact h⟩
  | succ m ih=>
   intro i e δ hi
   obtain ⟨δ2,e2,h2⟩:=h i (by omega) δ hi
   obtain ⟨δ',e3,h3⟩:=ih (i+1) (by omega) δ2 h2
   refine ⟨δ',?_,h3⟩
   rw [<- e3,List.range'_succ,List.map_cons]
   exact cJ (δ1:=δ.set k (.fz (.int i))) (by simp) e2
 intro δ h0
 have:=go n 0 (by omega) δ h0
 rw [<- List.range_eq_range'] at this
 exact this
theorem He {a b:Int} (ha:a.natAbs<2 ^ 1000) (hb:b.natAbs<2 ^ 1000):IntMulOk a b:=MA.CM 1000 1000 ha hb (by decide)
theorem Je:uA (.int 10) (.int 60)=some (.int 1000000000000000000000000000000000000000000000000000000000000):=rfl
theorem mG (c:Int):∃ T:Nat,aT [.int c]=some (.int T):=by
 have m:IntMulOk (c % 1000000000000000000000000000000000000000000000000000000000000) 48271:=.of_right (by decide +kernel)
 have h2:0<=(c % 1000000000000000000000000000000000000000000000000000000000000*48271+12345) % 2147483629:=Int.emod_nonneg _ (by decide)
 refine ⟨((c % 1000000000000000000000000000000000000000000000000000000000000*48271+12345) % 2147483629).toNat,?_⟩
 rw [Int.toNat_of_nonneg h2]
 simp [aT,aV,fL,aH,Je,m]
theorem tW (ns:List Int) (k:Int) (hk:0<=k):∃ c,aM [.list (ns.map .int),.int k]=some (.int c):=by
 by_cases h:k<ns.length
 ·have hk':k.toNat<ns.length:=by omega
  refine ⟨ns[k.toNat],?_⟩
  have e:gO (ns.map PyData.int) k=some (.int ns[k.toNat]):=dM (j:=k.toNat) (by omega) (by simp [hk'])
  simp [aM,aV,cX,aH,h,e]
 ·exact ⟨0,by simp [aM,aV,cX,aH,h]⟩
@[simp] theorem Gp (u w:Sf) (δ:Dv) (a b:Int):Fv u w δ (!(a==b))=if a=b then w δ else u δ:=by
 by_cases h:a=b
 ·subst h; simp
 ·have:(a==b)=false:=by simpa using h
  rw [this,if_neg h]; rfl
@[simp] theorem Hg (a b c d e f:D):gE [a,b,c,d,e,f]=some (.list [a,b,c,d,e,f]):=gx (by simp)
noncomputable abbrev As:=List (Nat×Nat)
noncomputable def vl (A:As) (k:Nat):Nat:=((A.find? fun p=>decide (p.1=k)).map (·.2)).getD 0
noncomputable def nH (A:As) (k v:Nat):As:=if (A.any fun p=>decide (p.1=k))=true then A.map (fun p=>if p.1=k then (p.1,v) else p) else A++[(k,v)]
noncomputable def cN (A:As):List (aE×D):=A.map fun p=>(.inl (p.1:Int),.int (p.2:Int))
noncomputable def aq (A:As):List Nat:=A.map (·.1)
theorem kY (a b:Nat):((Sum.inl (a:Int):aE)=.inl (b:Int))↔a=b:=by
 constructor
 ·intro h; exact Int.ofNat.inj (Sum.inl.inj h)
 ·intro h; rw [h]
theorem tJ (A:As) (k:Nat):ee (cN A) (.inl (k:Int))=(A.find? fun p=>decide (p.1=k)).map fun p=>.int (p.2:Int):=by
 induction A with
 | nil=>rfl
 | cons p A ih=>
  unfold ee cN at *
  rw [List.map_cons,List.find?_cons,List.find?_cons]
  by_cases h:p.1=k
  ·have:((Sum.inl (p.1:Int):aE)=.inl (k:Int)):=(kY _ _).mpr h
   simp [h]
  ·have:¬ ((Sum.inl (p.1:Int):aE)=.inl (k:Int)):=fun z=>h ((kY _ _).mp z)
   simp only [this,h,decide_false]
   exact ih
theorem C8 (A:As) (k:Nat):(ee (cN A) (.inl (k:Int))).getD (.int 0)=.int (vl A k:Int):=by
 rw [tJ]
 unfold vl
 cases A.find? fun p=>decide (p.1=k) with
 | none=>rfl
 | some p=>rfl
theorem Dp (A:As) (k:Nat):((cN A).any fun p=>decide (p.1=.inl (k:Int)))=A.any fun p=>decide (p.1=k):=by
 unfold cN
 rw [List.any_map]
 congr 1
 funext p
 simp only [Function.comp,decide_eq_decide]
 exact kY _ _
theorem nG (A:As) (k v:Nat):f6 (cN A) (.inl (k:Int)) (.int (v:Int))=cN (nH A k v):=by
 unfold f6 nH
 rw [Dp]
 split
 ·unfold cN
  rw [List.map_map,List.map_map]
  apply List.map_congr_left
  intro p _
  show (if (Sum.inl (p.1:Int):aE)=.inl (k:Int) then _ else _)=_
  by_cases h:p.1=k
  ·rw [if_pos ((kY _ _).mpr h)]
   simp [h]
  ·rw [if_neg (fun z=>h ((kY _ _).mp z))]
   simp [h]
 ·unfold cN
  rw [List.map_append]
  rfl
theorem fO (A:As) (k:Nat):(A.any fun p=>decide (p.1=k))=true↔k∈aq A:=by
 simp [aq,List.any_eq_true]
theorem cO (p:Nat×Nat) (A:As) (k:Nat):vl (p::A) k=if p.1=k then p.2 else vl A k:=by
 unfold vl
 rw [List.find?_cons]
 by_cases h:p.1=k <;> simp [h]
theorem gJ {A:As} {k:Nat} (h:k ∉ aq A):vl A k=0:=by
 unfold vl
 have:(A.find? fun p=>decide (p.1=k))=none:=by
  rw [List.find?_eq_none]
  intro p hp
  simp only [decide_eq_true_eq]
  exact fun z=>h (List.mem_map.mpr ⟨p,hp,z⟩)
 rw [this]
 rfl
theorem Bw (A:As) (k v j:Nat) (h:k ∉ aq A):vl (A++[(k,v)]) j=if j=k then v else vl A j:=by
 induction A with
 | nil=>
  rw [List.nil_append,cO]
  by_cases e:k=j
  ·rw [if_pos e,if_pos e.symm]
  ·rw [if_neg e,if_neg (Ne.symm e)]
 | cons p A ih=>
  have h1:k≠p.1:=fun z=>h (by rw [z]; exact List.mem_cons_self)
  have h2:k ∉ aq A:=fun z=>h (List.mem_cons_of_mem _ z)
  rw [List.cons_append,cO,cO,ih h2]
  by_cases e:p.1=j
  ·rw [if_pos e,if_pos e,if_neg (fun z=>h1 (by rw [e]; exact z.symm))]
  ·rw [if_neg e,if_neg e]
theorem Bv (A:As) (k v j:Nat) (h:k∈aq A):vl (A.map fun p=>if p.1=k then (p.1,v) else p) j=if j=k then v else vl A j:=by
 induction A with
 | nil=>cases h
 | cons p A ih=>
  rw [List.map_cons,cO,cO]
  by_cases hp:p.1=k
  ·rw [if_pos hp]
   show (if p.1=j then v else _)=_
   by_cases e:p.1=j
   ·rw [if_pos e,if_pos (by rw [<- e]; exact hp)]
   ·rw [if_neg e,if_neg e]
    by_cases hk:k∈aq A
    ·exact ih hk
    ·rw [if_neg (fun z=>e (by rw [hp]; exact z.symm))]
     congr 1
     have:∀ B:As,k ∉ aq B->(B.map fun p=>if p.1=k then (p.1,v) else p)=B:=fun B=>by
      induction B with
      | nil=>intro _; rfl
      | cons q B ihB=>
       intro hB
       rw [List.map_cons,ihB (fun z=>hB (List.mem_cons_of_mem _ z)),if_neg (fun z=>hB (by rw [<- z]; exact List.mem_cons_self))]
     exact this A hk
  ·rw [if_neg hp]
   have hk:k∈aq A:=by
    rcases List.mem_cons.mp h with z | z
    ·exact absurd z.symm hp
    ·exact z
   rw [ih hk]
   by_cases e:p.1=j
   ·rw [if_pos e,if_pos e,if_neg (fun z=>hp (by rw [e]; exact z))]
   ·rw [if_neg e,if_neg e]
theorem i6 (A:As) (k v j:Nat):vl (nH A k v) j=if j=k then v else vl A j:=by
 unfold nH
 by_cases h:(A.any fun p=>decide (p.1=k))=true
 ·rw [if_pos h]; exact Bv A k v j ((fO A k).mp h)
 ·rw [if_neg h]; exact Bw A k v j fun z=>h ((fO A k).mpr z)
theorem kR (A:As) (k v:Nat):aq (nH A k v)=if k∈aq A then aq A else aq A++[k]:=by
 unfold nH
 by_cases h:k∈aq A
 ·rw [if_pos ((fO A k).mpr h),if_pos h]
  unfold aq
  rw [List.map_map]
  apply List.map_congr_left
  intro p _
  simp only [Function.comp]
  split <;> rfl
 ·rw [if_neg (fun z=>h ((fO A k).mp z)),if_neg h]
  unfold aq
  rw [List.map_append]
  rfl
theorem qZ {A:As} (h:(aq A).Nodup) (k v:Nat):(aq (nH A k v)).Nodup:=by
 rw [kR]
 split
 ·exact h
 ·rename_i hk
  rw [List.nodup_append]
  exact ⟨h,by simp,fun a ha b hb=>by simp at hb; subst hb; exact fun z=>hk (by rw [<- z]; exact ha)⟩
theorem fT {A:As} (nd:(aq A).Nodup) {p:Nat×Nat} (h:p∈A):vl A p.1=p.2:=by
 induction A with
 | nil=>cases h
 | cons q A ih=>
  rw [cO]
  have nd':=List.nodup_cons.mp (show (q.1::aq A).Nodup from nd)
  rcases List.mem_cons.mp h with rfl | h
  ·rw [if_pos rfl]
  ·rw [if_neg (fun z=>nd'.1 (by rw [z]; exact List.mem_map.mpr ⟨p,h,rfl⟩))]
   exact ih nd'.2 h
theorem im:∀ {a b:List Nat},a.Pairwise (· < ·)->b.Pairwise (· < ·)->(∀ k,k∈a↔k∈b)->a=b
 | [],b,_,_,h=>by
  cases b with
  | nil=>rfl
  | cons y b=>exact absurd ((h y).mpr List.mem_cons_self) (by simp)
 | x::a,b,ha,hb,h=>by
  cases b with
  | nil=>exact absurd ((h x).mp List.mem_cons_self) (by simp)
  | cons y b=>
   obtain ⟨a1,a2⟩:=List.pairwise_cons.mp ha
   obtain ⟨b1,b2⟩:=List.pairwise_cons.mp hb
   have e:x=y:=by
    rcases List.mem_cons.mp ((h x).mp List.mem_cons_self) with z | z
    ·exact z
    ·rcases List.mem_cons.mp ((h y).mpr List.mem_cons_self) with w | w
     ·exact w.symm
     ·have:=b1 x z
      have:=a1 y w
      omega
   subst e
   rw [im a2 b2 fun k=>?_]
   constructor
   ·intro z
    rcases List.mem_cons.mp ((h k).mp (List.mem_cons_of_mem _ z)) with w | w
    ·have:=a1 k z; omega
    ·exact w
   ·intro z
    rcases List.mem_cons.mp ((h k).mpr (List.mem_cons_of_mem _ z)) with w | w
    ·have:=b1 k z; omega
    ·exact w
noncomputable def cI (k:Nat):Int:=(k:Int)
noncomputable def pD (p:Nat×Nat):D:=.tuple [.int (p.1:Int),.int (p.2:Int)]
theorem kD:∀ S:As,gZ (S.map pD)=some (cN S)
 | []=>rfl
 | p::S=>by
  show (sN (pD p)).bind _=_
  show (some ((Sum.inl (p.1:Int):aE),PyData.int (p.2:Int))).bind _=_
  rw [Option.bind_some,kD S]
  rfl
theorem oi:∀ (S A:As),(aq (A++S)).Nodup->(cN S).foldl (fun acc p=>f6 acc p.1 p.2) (cN A)=cN (A++S)
 | [],A,_=>by rw [List.append_nil]; rfl
 | p::S,A,h=>by
  show (cN S).foldl _ (f6 (cN A) (.inl (p.1:Int)) (.int (p.2:Int)))=_
  have hn:p.1 ∉ aq A:=fun z=>by
   unfold aq at h z
   rw [List.map_append,List.nodup_append] at h
   exact h.2.2 p.1 z p.1 (by simp) rfl
  rw [nG,show nH A p.1 p.2=A++[p] from if_neg (fun z=>hn ((fO A p.1).mp z)),oi S (A++[p]) (by rw [List.append_assoc]; exact h),List.append_assoc]
  rfl
theorem xP (S:As) (h:(aq S).Nodup) (hl:S.length<=1000):mS (.tuple (S.map pD))=some (cN S):=by
 show (gZ (S.map pD)).bind _=_
 rw [kD,Option.bind_some,List.length_map,if_pos hl]
 exact congrArg some (oi S [] h)
theorem kT:∀ A:As,gL (cN A)=some ((aq A).map cI)
 | []=>rfl
 | p::A=>by
  show (gL (cN A)).bind _=_
  rw [kT A]
  rfl
theorem ie (ks:List Nat) (nd:ks.Nodup):∃ rs:List Nat,br (ks.map cI)=rs.map (cI)/\rs.Perm ks/\rs.Pairwise (· < ·):=by
 have pm:=dD (ks.map cI)
 have pw:=jk (ks.map cI)
 obtain ⟨l,hl⟩:∃ l,br (ks.map cI)=l:=⟨_,rfl⟩
 rw [hl] at pm pw ⊢
 have e:l=(l.map Int.toNat).map cI:=by
  rw [List.map_map]
  have:∀ x∈l,((cI) ∘ Int.toNat) x=x:=fun x hx=>by
   obtain ⟨k,_,rfl⟩:=List.mem_map.mp (pm.mem_iff.mp hx)
   simp [cI]
  rw [List.map_congr_left this,List.map_id']
 have p2:(l.map Int.toNat).Perm ks:=by
  have:=pm.map Int.toNat
  rw [List.map_map] at this
  have e2:ks.map (Int.toNat ∘ cI)=ks:=by
   have:∀ x∈ks,(Int.toNat ∘ cI) x=x:=fun x _=>by simp [cI]
   rw [List.map_congr_left this,List.map_id']
  rw [e2] at this
  exact this
 refine ⟨l.map Int.toNat,e,p2,?_⟩
 have nd2:(l.map Int.toNat).Nodup:=p2.nodup_iff.mpr nd
 rw [e,List.pairwise_map] at pw
 rw [List.nodup_iff_pairwise_ne] at nd2
 exact (pw.and nd2).imp fun {a b} h=>by
  have h1:(a:Int)<=(b:Int):=h.1
  have h2:=h.2
  omega
theorem xx {A:As} {k:Nat} (h:k∈aq A):ee (cN A) (.inl (k:Int))=some (.int (vl A k:Int)):=by
 rw [tJ]
 unfold vl
 cases e:A.find? fun p=>decide (p.1=k) with
 | none=>
  obtain ⟨p,hp,rfl⟩:=List.mem_map.mp h
  have:=List.find?_eq_none.mp e p hp
  simp at this
 | some p=>rfl
theorem xn (A:As) (nd:(aq A).Nodup) (hl:A.length<64):∃ rs:List Nat,rs.Perm (aq A)/\rs.Pairwise (· < ·)/\∀ (δ:Dv) (i:Nat),vk δ[i]? = some (cN A)->ix i δ = some (.list (rs.map fun k=>pD (k,vl A k))):=by
 obtain ⟨rs,e,p,pw⟩:=ie (aq A) nd
 refine ⟨rs,p,pw,fun δ i h=>?_⟩
 unfold ix
 rw [h,Option.bind_some,kT,Option.bind_some,if_pos ⟨by rw [List.length_map]; unfold aq; rw [List.length_map]; exact hl,by
  rw [List.nodup_iff_pairwise_ne,List.pairwise_map]
  rw [List.nodup_iff_pairwise_ne] at nd
  exact nd.imp fun {a b} h=>by unfold cI; omega⟩]
 unfold rh
 rw [e,List.map_map]
 congr 2
 apply List.map_congr_left
 intro k hk
 have hk:=p.mem_iff.mp hk
 show PyData.tuple [.int (k:Int),(ee (cN A) (.inl (k:Int))).getD .none]=_
 rw [xx hk]
 rfl
theorem HU (b1 e1 G:Int) (es:List (aE×D)) (z0 z1 z2 z4:Sl) (hG:(ee es (.inl b1)).getD (.int 0)=.int G) (hl:es.length<sizeLine):(if b1=0 then some (Fl.nx,[z0,z1,z2,.od es,z4,.fz (.int b1),.fz (.int e1)]) else eF 3 (oV 5) (o2 (o2 (nU 3 (oV 5) (oC (.int 0))) (oV 6) aN) (oC (.int 8)) aR) [z0,z1,z2,.od es,z4,.fz (.int b1),.fz (.int e1)])=some (.nx,[z0,z1,z2,.od (if b1=0 then es else f6 es (.inl b1) (.int ((G+e1) % 8))),z4,.fz (.int b1),.fz (.int e1)]):=by
 by_cases h:b1=0
 ·rw [if_pos h,if_pos h]
 ·rw [if_neg h,if_neg h]
  simp [eF,nU,hG,hl]
theorem AI (t b e a b1 e1 t1 G:Int) (es:List (aE×D)) (P:D) (z1 z2 z5 z6:Sl) (p0:az P (.int 0)=some (.int b)) (p1:az P (.int 1)=some (.int e)) (ha:Builtin.bitAnd b 1=a) (hb1:(if a=1 then Builtin.bitXor b 1 else b)=b1) (he1:(if a=1 then -e else e)=e1) (ht1:(if a=1 then t+e else t)=t1) (hG:(ee es (.inl b1)).getD (.int 0)=.int G) (hl:es.length<sizeLine):bO [.fz (.int t),z1,z2,.od es,.fz P,z5,z6]=some (.nx,[.fz (.int t1),z1,z2,.od (if b1=0 then es else f6 es (.inl b1) (.int ((G+e1) % 8))),.fz P,.fz (.int b1),.fz (.int e1)]):=by
 have q:=HU b1 e1 G es (.fz (.int t1)) z1 z2 (.fz P) hG hl
 by_cases h:a=1
 ·rw [if_pos h] at hb1 he1 ht1
  subst h hb1 he1 ht1
  simp [-ay,-gK,qM,v6,bO,p0,p1,ha]
  exact q
 ·rw [if_neg h] at hb1 he1 ht1
  subst hb1 he1 ht1
  have n:g9 (.int a) (.int 1)=some (.bool false):=by simp [h]
  simp [-ay,-gK,qM,v6,bO,p0,p1,ha,n]
  exact q
noncomputable def Bb (A:As) (rs:List Nat):As:=(rs.filter fun k=>decide (vl A k≠0)).map fun k=>(k,vl A k)
theorem E1 (A:As) (nd:(aq A).Nodup) (hl:A.length<64):∃ rs:List Nat,rs.Perm (aq A)/\rs.Pairwise (· < ·)/\∀ z0 z1 z2 z4 z5 z6,fE [z0,z1,z2,.od (cN A),z4,z5,z6]=some (.list ((Bb A rs).map pD)):=by
 obtain ⟨rs,p,pw,it⟩:=xn A nd hl
 refine ⟨rs,p,pw,fun z0 z1 z2 z4 z5 z6=>?_⟩
 have hln:rs.length<=1000:=by rw [p.length_eq]; unfold aq; rw [List.length_map]; omega
 have:=bM (fi:=oI (ix 3) bu) (caps:=[]) (ft:=ob (o2 (o2 (oV 0) (oC (.int 1)) az) (oC (.int 0)) neD)) (fe:=oV 0) (δ:=[z0,z1,z2,.od (cN A),z4,z5,z6]) (h:=fun k=>pD (k,vl A k)) (k:=fun k=>pD (k,vl A k)) (b:=fun k=>decide (vl A k≠0)) (xs:=rs) (by
  have:=it [z0,z1,z2,.od (cN A),z4,z5,z6] 3 rfl
  simp [this]) (by omega) (fun k _=>by
  have b1:az (pD (k,vl A k)) (.int 1)=some (.int (vl A k:Int)):=rfl
  have e:neD (.int (vl A k:Int)) (.int 0)=some (.bool (decide (vl A k≠0))):=by
   by_cases h:vl A k=0
   ·rw [h]; rfl
   ·have:¬ ((vl A k:Int)=0):=by omega
    simp [h,this]
  simp only [bt,List.map_nil,List.append_nil]
  show (((az (pD (k,vl A k)) (.int 1)).bind fun x=>neD x (.int 0)).bind asB)=_
  rw [b1,Option.bind_some,e]
  rfl) (fun k _ _=>by simp [bt])
 have e:(Bb A rs).map pD=(rs.filter fun k=>decide (vl A k≠0)).map fun k=>pD (k,vl A k):=by unfold Bb; rw [List.map_map]; rfl
 rw [e]
 exact this
noncomputable def lI (A:As):List (aE×Int):=A.map fun p=>(.inl (p.1:Int),(p.2:Int))
theorem tE:∀ A:As,mJ (cN A)=some (lI A)
 | []=>rfl
 | p::A=>by
  show (mJ (cN A)).bind _=_
  rw [tE A]
  rfl
theorem Be (A:As):(lI A).map (fun p=>(p.1,PyData.int p.2))=cN A:=by
 unfold lI cN
 rw [List.map_map]
 rfl
theorem Al {A:As} {k:Nat} (h:k∈aq A):mM (lI A) (.inl (k:Int))=some (vl A k:Int):=by
 have g:=xx h
 rw [<- Be] at g
 unfold ee at g
 unfold mM
 rw [List.find?_map] at g
 have e:((fun p:aE×D=>decide (p.1=Sum.inl (k:Int))) ∘ fun p:aE×Int=>(p.1,PyData.int p.2))=fun p=>decide (p.1=Sum.inl (k:Int)):=rfl
 rw [e] at g
 cases q:(lI A).find? fun p=>decide (p.1=Sum.inl (k:Int)) with
 | none=>rw [q] at g; cases g
 | some p=>
  rw [q] at g
  have g:PyData.int p.2=PyData.int (vl A k:Int):=Option.some.inj g
  show some p.2=_
  rw [PyData.int.inj g]
noncomputable def kx (A:As) (rs:List Nat):As:=(rs.filter fun k=>decide (0<k/\0<vl A k)).map fun k=>(k,vl A k)
theorem DQ (b:Nat) (h:b % 2=1):b ^^^ 1=b-1:=by
 have h1:(b ^^^ 1) / 2=b / 2:=by rw [Nat.xor_div_two,show 1 / 2=0 from rfl,Nat.xor_zero]
 have h2:¬ (b ^^^ 1) % 2=1:=fun z=>by
  rw [Nat.xor_mod_two_eq_one] at z
  exact z ⟨fun _=>rfl,fun _=>h⟩
 omega
theorem FT (b:Nat) (h:b % 2=1):Builtin.bitXor (b:Int) 1=((b-1:Nat):Int):=by
 have:=MA.vh b 1
 rw [DQ b h] at this
 exact this
noncomputable def nv (x:Nat) (e:Int):Nat:=(((x:Int)+e) % 8).toNat
theorem mF (x:Nat) (e:Int):((nv x e:Nat):Int)=((x:Int)+e) % 8:=by unfold nv; omega
theorem wR (x:Nat) (e:Int):nv x e<8:=by unfold nv; omega
structure OkA (A:As):Prop where
 nd:(aq A).Nodup
 z:0∈aq A
 lt:∀ k,vl A k<8
noncomputable def hb (b:Nat):Nat:=b-b % 2
noncomputable def he (b:Nat) (e:Int):Int:=if b % 2=1 then -e else e
noncomputable def vn (A:As) (b:Nat) (e:Int):As:=if b % 2=1 then nH A 0 (nv (vl A 0) e) else A
noncomputable def uS (A:As) (b:Nat) (e:Int):As:=if 0<hb b then nH (vn A b e) (hb b) (nv (vl (vn A b e) (hb b)) (he b e)) else vn A b e
theorem sT {A:As} (h:OkA A) (k v:Nat) (hv:v<8):OkA (nH A k v):=by
 refine ⟨qZ h.nd k v,?_,fun j=>?_⟩
 ·rw [kR]
  split
  ·exact h.z
  ·exact List.mem_append_left _ h.z
 ·rw [i6]
  split
  ·exact hv
  ·exact h.lt j
theorem G5 {A:As} (h:OkA A) (b:Nat) (e:Int):OkA (vn A b e):=by
 unfold vn
 split
 ·exact sT h _ _ (wR _ _)
 ·exact h
theorem Gh {A:As} (h:OkA A) (b:Nat) (e:Int):OkA (uS A b e):=by
 unfold uS
 split
 ·exact sT (G5 h b e) _ _ (wR _ _)
 ·exact G5 h b e
theorem sZ (A:As) (k v:Nat):(nH A k v).length<=A.length+1:=by
 unfold nH
 split
 ·rw [List.length_map]; omega
 ·simp
theorem Fy {b:Nat} (h:0<hb b):0≠hb b:=by omega
theorem DS (A:As) (b:Nat) (e:Int) (k:Nat) (hk:0<k):vl (vn A b e) k=vl A k:=by
 unfold vn
 split
 ·rw [i6,if_neg (by omega)]
 ·rfl
theorem AM (A:As) (b:Nat) (e:Int):vl (uS A b e) 0=if b % 2=1 then nv (vl A 0) e else vl A 0:=by
 have q:vl (vn A b e) 0=if b % 2=1 then nv (vl A 0) e else vl A 0:=by
  unfold vn
  split
  ·rw [i6,if_pos rfl]
  ·rfl
 unfold uS
 split
 ·rename_i h
  rw [i6,if_neg (Fy h),q]
 ·exact q
theorem IL (A:As) (b:Nat) (e:Int) (k:Nat) (hk:0<k):vl (uS A b e) k=if k=hb b then nv (vl A k) (he b e) else vl A k:=by
 unfold uS
 split
 ·rename_i h
  rw [i6,DS A b e _ h,DS A b e _ hk]
  split
  ·rename_i z; rw [z]
  ·rfl
 ·rename_i h
  rw [if_neg (by omega),DS A b e _ hk]
theorem iD (A:As) (rs:List Nat):aq (kx A rs)=rs.filter fun k=>decide (0<k/\0<vl A k):=by
 unfold aq kx
 rw [List.map_map]
 exact List.map_id' _
theorem CJ {A:As} (h:OkA A) {rs:List Nat} (p:rs.Perm (aq A)):(aq (kx A rs)).Nodup:=by
 rw [iD]
 exact List.Nodup.sublist List.filter_sublist (p.nodup_iff.mpr h.nd)
theorem q8 {A:As} {k:Nat} (h:vl A k≠0):k∈aq A:=Classical.byContradiction fun z=>h (gJ z)
theorem Bs {A:As} (h:OkA A) {rs:List Nat} (p:rs.Perm (aq A)) (k:Nat):vl (kx A rs) k=if 0<k then vl A k else 0:=by
 by_cases hk:k∈aq (kx A rs)
 ·have hk':=hk
  rw [iD,List.mem_filter] at hk'
  obtain ⟨h1,h2⟩:=hk'
  have h2:0<k/\0<vl A k:=by simpa using h2
  rw [if_pos h2.1]
  exact fT (CJ h p) (p:=(k,vl A k)) (List.mem_map.mpr ⟨k,List.mem_filter.mpr ⟨h1,by simpa using h2⟩,rfl⟩)
 ·rw [gJ hk]
  by_cases h0:0<k
  ·rw [if_pos h0]
   refine Classical.byContradiction fun z=>hk ?_
   rw [iD,List.mem_filter]
   exact ⟨p.mem_iff.mpr (q8 (Ne.symm z)),by simp [h0]; omega⟩
  ·rw [if_neg h0]
noncomputable def pB (S:As) (b:Nat) (e:Int):As:=if hb b=0 then S else nH S (hb b) (nv (vl S (hb b)) (he b e))
structure HB (first:Nat) (hs:List Nat) (bit:Int) (i:Nat):Prop where
 len:hs.length=i
 pw:hs.Pairwise (· < ·)
 lo:∀ h∈hs,first<=h
 hi:∀ h∈hs,(h:Int)<=bit
 b1:(first:Int)-1<=bit
 b2:bit<=(first:Int)-1+41*i
theorem HB.more {first i:Nat} {hs:List Nat} {bit:Int} (h:HB first hs bit i) (d:Int) (h0:0<=d) (h1:d<=40):HB first (hs++[(bit+1+d).toNat]) (bit+1+d) (i+1) where
 len:=by rw [List.length_append,h.len]; rfl
 pw:=by
  refine List.pairwise_append.mpr ⟨h.pw,List.pairwise_singleton _ _,fun a ha b hb=>?_⟩
  rw [List.mem_singleton.mp hb]
  have:=h.hi a ha
  omega
 lo:=fun a ha=>by
  rcases List.mem_append.mp ha with ha | ha
  ·exact h.lo a ha
  ·rw [List.mem_singleton.mp ha]; have:=h.b1; omega
 hi:=fun a ha=>by
  rcases List.mem_append.mp ha with ha | ha
  ·have:=h.hi a ha; omega
  ·rw [List.mem_singleton.mp ha]; have:=h.b1; omega
 b1:=by have:=h.b1; omega
 b2:=by have:=h.b2; omega
theorem HN (hd bit k c m z v:Int) (C:D) (W:List D) (x2:Sl) (g:aM [C,.int k]=some (.int c)) (hz:hd / 45 % 4=z) (ha:gO [PyData.int 1,.int 1,.int 2,.int 40] z=some (.int m)) (hm:0<m) (hv:bit+1+c % m=v) (hl:W.length<sizeLine) :
  bT [.fz (.int hd),.fz C,x2,.ow W,.fz (.int bit),.fz (.int k)]=some (.nx,[.fz (.int hd),.fz C,x2,.ow (W++[.int v]),.fz (.int v),.fz (.int k)]):=by
 have hmod:=kL (i:=c) hm
 simp [bT,g,hz,ha,hmod,hv,hl]
theorem HM (hd n f:Int) (C:D) (L W:List D) (x4 x5:Sl) (hn:hd / 9 % 6=n) (r:cz [.int n]=some L) (lp:loop (gN 5) bT L [.fz (.int hd),.fz C,.fz (.int f),.ow [],.fz (.int (f-1)),.un]=some (.nx,[.fz (.int hd),.fz C,.fz (.int f),.ow W,x4,x5])):aU [.int hd,C,.int f]=some (.list W):=by
 simp [aU,aV,d8,aH,hn,r,lp,yz]
theorem rM (hd first:Nat) (cells:List Int):∃ hs:List Nat,aU [.int hd,.list (cells.map .int),.int first]=some (.list (ai hs))/\hs.length<=5/\hs.Pairwise (· < ·)/\∀ h∈hs,first<=h/\h<=first+205:=by
 obtain ⟨n,hn⟩:∃ n:Nat,(hd:Int) / 9 % 6=n:=⟨hd / 9 % 6,by omega⟩
 have hn4:n<=5:=by omega
 have r:=qO (n:=n) (by omega)
 obtain ⟨δ,e,hs,bit,x5,hb,rfl⟩:=eU (b:=bT) (k:=5) (fun i δ=>∃ (hs:List Nat) (bit:Int) (x5:Sl),HB first hs bit i /\ δ = [.fz (.int hd),.fz (.list (cells.map .int)),.fz (.int first),.ow (ai hs),.fz (.int bit),x5]) n (fun i hi δ hdl=>by
  obtain ⟨hs,bit,x5,hb,rfl⟩:=hdl
  obtain ⟨c,hc⟩:=tW cells i (by omega)
  obtain ⟨z,hz⟩:∃ z:Nat,(hd:Int) / 45 % 4=z:=⟨hd / 45 % 4,by omega⟩
  obtain ⟨m,ha,hm,hm2⟩:∃ m:Int,gO [PyData.int 1,.int 1,.int 2,.int 40] (z:Int)=some (.int m)/\0<m/\m<=40:=by
   have:z=0\/z=1\/z=2\/z=3:=by omega
   rcases this with rfl | rfl | rfl | rfl
   ·exact ⟨1,rfl,by decide,by decide⟩
   ·exact ⟨1,rfl,by decide,by decide⟩
   ·exact ⟨2,rfl,by decide,by decide⟩
   ·exact ⟨40,rfl,by decide,by decide⟩
  have d0:0<=c % m:=Int.emod_nonneg _ (by omega)
  have d1:c % m<m:=Int.emod_lt_of_pos _ hm
  refine ⟨_,HN hd bit i c m z _ _ (ai hs) _ hc hz ha hm rfl (by rw [bV,hb.len,sizeLine_eq]; omega),hs++[(bit+1+c % m).toNat],bit+1+c % m,.fz (.int i),hb.more _ d0 (by omega),?_⟩
  have:ai (hs++[(bit+1+c % m).toNat])=ai hs++[.int (bit+1+c % m)]:=by
   rw [ji]
   unfold ai
   rw [List.map_cons,List.map_nil,Int.toNat_of_nonneg (by have:=hb.b1; omega)]
  rw [this]) [.fz (.int hd),.fz (.list (cells.map .int)),.fz (.int first),.ow [],.fz (.int ((first:Int)-1)),.un] ⟨[],_,.un,⟨rfl,.nil,fun h q=>(by cases q),fun h q=>(by cases q),Int.le_refl _,by omega⟩,rfl⟩
 refine ⟨hs,HM hd n first _ _ _ _ _ hn r e,by rw [hb.len]; exact hn4,hb.pw,fun h hh=>⟨hb.lo h hh,?_⟩⟩
 have:=hb.hi h hh
 have:=hb.b2
 omega
noncomputable def cV (l:List Nat):List (aE×D):=l.map fun p:Nat=>(.inl ((p:Nat):Int),.bool true)
theorem mN:∀ l:List Nat,gL (cV l)=some (l.map fun p:Nat=>((p:Nat):Int))
 | []=>rfl
 | p::r=>by
  show ((Fk (Sum.inl (p:Int))).bind fun i=>(gL (cV r)).bind fun l=>some (i::l))=_
  rw [mN r]; rfl
noncomputable def BO:Sf:=aI 2 (o2 (oC (.int 1)) (o2 (oV 0) (oC (.int 3)) aR) aN)
noncomputable def BN:Sf:=aI 3 (o2 (o2 (oV 0) (oC (.int 3)) cM) (oC (.int 3)) aR)
noncomputable def BM:Sf:=aI 4 (VL.os (af (oV 0) (af (oV 1) (af (o2 (o2 (o2 (oC (.int 2)) (oV 2) cA) (oC (.int 1)) aN) (oV 3) aN) (au)))) aU)
noncomputable def BL:Sf:=aI 5 (o2 (o1 (o2 (o2 (o2 (oC (.int 2)) (oV 2) cA) (oC (.int 1)) aN) (oV 3) aN) jA) (oV 4) aN)
noncomputable def Eo:Sf:=pq 6
noncomputable def En:Sf:=pq 7
noncomputable def BK:Sf:=fS (oI (oV 1) bu) (gN 8) (aY)
noncomputable def BJ:Sf:=aI 11 (o2 (o2 (o2 (oV 0) (oC (.int 180)) cM) (oC (.int 13)) aR) (oC (.int 6)) de)
noncomputable def uq:Sf:=gK (ob (o2 (o2 (o2 (oV 0) (oC (.int 2340)) cM) (oC (.int 9)) aR) (oC (.int 1)) g9)) (aI 11 (o2 (o2 (o2 (oV 0) (oC (.int 2340)) cM) (oC (.int 401)) aR) (oC (.int 200)) de)) (lH)
noncomputable def AU:Sf:=fun δ=>(aI 12 (VL.os (af (bK) (au)) cE)) (qg 6 δ)
noncomputable def vK:Sf:=b5 (VL.os (af (VL.os (af (oV 2) (af (oV 3) (au))) cg) (af (oV 11) (af (o2 (o2 (oV 0) (oC (.int 7)) cM) (oC (.int 8)) aR) (af (oV 12) (af (VL.os (af (jg 7) (au)) cE) (af (VL.os (af (oV 4) (au)) cE) (au))))))) cg)
theorem El:dL=ay BO (ay BN (ay BM (ay BL (ay Eo (ay En (ay BK (ay BJ (ay uq (ay AU (vK)))))))))):=rfl
theorem AZ (al:List Nat) (hb:∀ a∈al,a<=1000):∀ l:List Nat,(∀ k∈l,k<al.length)->(l.map fun k=>2 ^ al.getD k 0).sum<=l.length*2 ^ 1000
 | [],_=>by simp
 | k::l,h=>by
  have h1:=AZ al hb l fun k hk=>h k (List.mem_cons_of_mem _ hk)
  have h2:2 ^ al.getD k 0<=2 ^ 1000:=Nat.pow_le_pow_right (by decide) (hb _ (gi (h k List.mem_cons_self)))
  rw [List.map_cons,List.sum_cons,List.length_cons,Nat.add_mul,Nat.one_mul]
  omega
noncomputable def dF:Nat:=2 ^ 1100
theorem EL (al:List Nat) (hb:∀ a∈al,a<=1000) (l:List Nat) (h:∀ k∈l,k<al.length) (hl:l.length<=1000):(l.map fun k=>2 ^ al.getD k 0).sum<dF:=by
 have h1:=AZ al hb l h
 have h2:l.length*2 ^ 1000<=1000*2 ^ 1000:=Nat.mul_le_mul_right _ hl
 have h3:1000*2 ^ 1000<dF:=by decide +kernel
 omega
theorem Em (al:List Nat) (T:Nat) (x0 x1 x2 x3 x4 x6 x7 x8 x10 x11 x12:Sl) (hl:al.length<=1000) (hb:∀ a∈al,a<=1000):∃ (S:D) (b:Nat),b<dF/\bL [x0,x1,x2,x3,x4,.fz (.list (ai al)),x6,x7,x8,.fz (.int T),x10,x11,x12]=some S/\gX [S]=some (.int (b:Int)):=by
 have hs:=vI (fun k=>2 ^ al.getD k 0) ((List.range al.length).filter fun k=>decide (T / 2 ^ (k+6) % 2=1))
 have hlt:=EL al hb ((List.range al.length).filter fun k=>decide (T / 2 ^ (k+6) % 2=1)) (fun k hk=>List.mem_range.mp (List.mem_filter.mp hk).1) (by
  have:=List.length_filter_le (fun k=>decide (T / 2 ^ (k+6) % 2=1)) (List.range al.length)
  rw [List.length_range] at this; omega)
 generalize (((List.range al.length).filter fun k=>decide (T / 2 ^ (k+6) % 2=1)).map fun k=>2 ^ al.getD k 0).sum=b at hs hlt
 refine ⟨.list (((List.range al.length).filter fun k=>decide (T / 2 ^ (k+6) % 2=1)).map fun k=>.int ((2 ^ al.getD k 0:Nat):Int)),b,hlt,?_,by rw [ic (fun k=>((2 ^ al.getD k 0:Nat):Int)),hs]⟩
 unfold bL
 refine bM (xs:=List.range al.length) (h:=fun k:Nat=>PyData.int (0+(k:Int))) ?_ (by rw [List.length_range]; omega) (fun k hk=>?_) fun k hk _=>?_
 ·have h1:g6 [.list (ai al)]=some (.int (al.length:Int)):=by rw [uQ,bV]
  refine Ba (ds:=[.int (al.length:Int)]) ?_ (qO (by omega))
  simp only [af,VL.os,oV,au]
  show (((some (PyData.list (ai al))).bind fun x=>some [x]).bind g6).bind _=_
  simp only [Option.bind_some,h1]
 ·have s:=ii T (k+6)
  have m:=gc (T / 2 ^ (k+6))
  rw [show ((k+6:Nat):Int)=(k:Int)+6 by omega] at s
  have d:decide (T / 2 ^ (k+6) % 2=1)=(((T / 2 ^ (k+6) % 2:Nat):Int)==1):=by
   rcases Nat.mod_two_eq_zero_or_one (T / 2 ^ (k+6)) with h | h <;> rw [h] <;> rfl
  rw [d]
  generalize T / 2 ^ (k+6) % 2=z at *
  generalize T / 2 ^ (k+6)=y at *
  rw [Int.zero_add]
  simp only [ob,o2,oV,oC,bt]
  simp [s,m]
 ·have hk':=List.mem_range.mp hk
  have a:=kK al hk'
  have p:=cT (k:=al.getD k 0) (by have:=hb _ (gi hk'); omega)
  rw [Int.zero_add]
  generalize 2 ^ al.getD k 0=z at *
  generalize al.getD k 0=y at *
  simp [bt,a,p]
noncomputable def sA:Sf:=aI 9 (VL.os (af (oV 8) (au)) aT)
noncomputable def sB:Sf:=aI 10 (VL.os (af (bL) (au)) gX)
noncomputable def F9:Dv->Option Bool:=jh (ob (o2 (o2 (oV 9) (oC (.int 5)) aR) (oC (.int 1)) g9)) (jh (ob (o2 (kH 7) (oC (.int 4)) Bc)) (ob (o2 (oV 10) (oC (.int 0)) yw)))
noncomputable def F8:Dv->Option Bool:=jh (ob (o2 (o2 (oV 9) (oC (.int 5)) aR) (oC (.int 1)) neD)) (jh (ob (o2 (oV 10) (oC (.int 1)) yw)) (ob (o2 (kH 6) (oC (.int 12)) Bc)))
noncomputable def Gf:Sf:=eF 7 (oV 10) (oC (.bool true))
noncomputable def Bi:Dv->Option D:=o2 (VL.os (af (o2 (oC (.int 1)) (o2 (o2 (oV 9) (oC (.int 5)) cM) (oC (.int 7)) aR) aN) (af (o2 (oC (.int 2)) (o2 (oC (.int 2)) (o2 (o2 (oV 9) (oC (.int 5)) cM) (oC (.int 3)) aR) cA) aN) (au))) gE) (VL.os (af (oC (.int 1)) (af (o2 (o2 (oV 0) (oC (.int 11)) cM) (oC (.int 3)) aR) (au))) wY) az
noncomputable def Gg:Sf:=eF 6 (o2 (oV 10) (o2 (oV 10) (oC (.int 2)) aR) de) Bi
theorem uT:aY=ay sA (ay sB (gK F9 Gf (gK F8 Gg lH))):=rfl
section
variable (x0 x1 x2 x3 x4 x5 x6 x7 x8 x9 x10 x11 x12:Sl) (E6 E7:List (aE×D)) (T b:Int)
theorem ED (cell T:Int) (h:aT [.int cell]=some (.int T)):sA [x0,x1,x2,x3,x4,x5,x6,x7,.fz (.int cell),x9,x10,x11,x12]=some (.nx,[x0,x1,x2,x3,x4,x5,x6,x7,.fz (.int cell),.fz (.int T),x10,x11,x12]):=by simp [sA,h]
theorem EC (S:D) (hp:bL [x0,x1,x2,x3,x4,x5,x6,x7,x8,x9,x10,x11,x12]=some S) (hs:gX [S]=some (.int b)):sB [x0,x1,x2,x3,x4,x5,x6,x7,x8,x9,x10,x11,x12]=some (.nx,[x0,x1,x2,x3,x4,x5,x6,x7,x8,x9,.fz (.int b),x11,x12]):=by simp [sB,hp,hs]
theorem Jf:kH 7 [x0,x1,x2,x3,x4,x5,x6,.od E7,x8,x9,x10,x11,x12]=some (.int (E7.length:Int)):=rfl
theorem Jg:kH 6 [x0,x1,x2,x3,x4,x5,.od E6,x7,x8,x9,x10,x11,x12]=some (.int (E6.length:Int)):=rfl
theorem Ej (n:Int) (hn:(E7.length:Int)=n):F9 [x0,x1,x2,x3,x4,x5,x6,.od E7,x8,.fz (.int T),.fz (.int b),x11,x12]=some (decide (T % 5=1)&&(decide (n<4)&&decide (0<b))):=by
 have l:=Jf x0 x1 x2 x3 x4 x5 x6 x8 (.fz (.int T)) (.fz (.int b)) x11 x12 E7
 rw [hn] at l
 unfold F9
 simp only [jh,ob,o2,l]
 by_cases h1:T % 5=1 <;> by_cases h2:n<4 <;> by_cases h3:0<b <;> simp [h1,h2,h3]
theorem Ei (n:Int) (hn:(E6.length:Int)=n):F8 [x0,x1,x2,x3,x4,x5,.od E6,x7,x8,.fz (.int T),.fz (.int b),x11,x12]=some (decide (¬ T % 5=1)&&(decide (1<b)&&decide (n<12))):=by
 have l:=Jg x0 x1 x2 x3 x4 x5 x7 x8 (.fz (.int T)) (.fz (.int b)) x11 x12 E6
 rw [hn] at l
 unfold F8
 simp only [jh,ob,o2,l]
 by_cases h1:T % 5=1 <;> by_cases h2:n<12 <;> by_cases h3:1<b <;> simp [h1,h2,h3]
theorem EY (E7':List (aE×D)) (hl:E7.length<sizeLine) (hp:f6 E7 (.inl b) (.bool true)=E7'):Gf [x0,x1,x2,x3,x4,x5,x6,.od E7,x8,x9,.fz (.int b),x11,x12]=some (.nx,[x0,x1,x2,x3,x4,x5,x6,.od E7',x8,x9,.fz (.int b),x11,x12]):=by
 subst hp
 have k:jM (.int b)=some (.inl b):=rfl
 simp only [Gf,eF,oC,oV,Option.bind_some]
 show (vk (some (.od E7))).bind _=_
 rw [vT,Option.bind_some]
 show (zc (some (.fz (.int b)))).bind _=_
 rw [kj,Option.bind_some,k,Option.bind_some,if_pos hl]
 rfl
theorem FH (hd:Int):∃ v:Nat,1<=v/\v<=7/\Bi [.fz (.int hd),x1,x2,x3,x4,x5,x6,x7,x8,.fz (.int T),x10,x11,x12]=some (.int v):=by
 have mk:cA (.int 2) (.int (T / 5 % 3))=some (.int (2*(T / 5 % 3))):=dB (.of_left (by decide))
 have hz:hd / 11 % 3=0\/hd / 11 % 3=1\/hd / 11 % 3=2:=by omega
 have key:∀ u:Int,1<=u->u<=7->Bi [.fz (.int hd),x1,x2,x3,x4,x5,x6,x7,x8,.fz (.int T),x10,x11,x12]=some (.int u)->∃ v:Nat,1<=v/\v<=7/\Bi [.fz (.int hd),x1,x2,x3,x4,x5,x6,x7,x8,.fz (.int T),x10,x11,x12]=some (.int v):=fun u h1 h2 e=>⟨u.toNat,by omega,by omega,by rw [e,Int.toNat_of_nonneg (by omega)]⟩
 rcases hz with h | h | h
 ·exact key (1+T / 5 % 7) (by omega) (by omega) (by simp [Bi,mk,h])
 ·exact key (2+2*(T / 5 % 3)) (by omega) (by omega) (by simp [Bi,mk,h])
 ·exact key (2+2*(T / 5 % 3)) (by omega) (by omega) (by simp [Bi,mk,h])
theorem EZ (E6':List (aE×D)) (k v:Int) (hl:E6.length<sizeLine) (hk:b-b % 2=k) (hv:Bi [x0,x1,x2,x3,x4,x5,.od E6,x7,x8,.fz (.int T),.fz (.int b),x11,x12]=some (.int v)) (hp:f6 E6 (.inl k) (.int v)=E6'):Gg [x0,x1,x2,x3,x4,x5,.od E6,x7,x8,.fz (.int T),.fz (.int b),x11,x12]=some (.nx,[x0,x1,x2,x3,x4,x5,.od E6',x7,x8,.fz (.int T),.fz (.int b),x11,x12]):=by
 subst hp
 have kk:jM (.int k)=some (.inl k):=rfl
 have f1:(o2 (oV 10) (o2 (oV 10) (oC (.int 2)) aR) de) [x0,x1,x2,x3,x4,x5,.od E6,x7,x8,.fz (.int T),.fz (.int b),x11,x12]=some (.int k):=by simp [hk]
 simp only [Gg,eF,f1,hv,Option.bind_some]
 show (vk (some (.od E6))).bind _=_
 rw [vT,Option.bind_some,kk,Option.bind_some,if_pos hl]
 rfl
end
structure OkT (A:As) (n:Nat):Prop where
 nd:(aq A).Nodup
 e:∀ p∈A,2<=p.1/\p.1 % 2=0/\p.1<dF/\1<=p.2/\p.2<=7
 l:A.length<=n
structure OkU (ts:List Nat) (n:Nat):Prop where
 nd:ts.Nodup
 e:∀ t∈ts,0<t/\t<dF
 l:ts.length<=n
theorem zY {A:As} {k v:Nat} {q:Nat×Nat} (h:q∈nH A k v):q∈A\/q=(k,v):=by
 unfold nH at h
 split at h
 ·obtain ⟨p,hp,rfl⟩:=List.mem_map.mp h
  by_cases e:p.1=k
  ·rw [if_pos e,e]; exact .inr rfl
  ·rw [if_neg e]; exact .inl hp
 ·rcases List.mem_append.mp h with h | h
  ·exact .inl h
  ·exact .inr (List.mem_singleton.mp h)
theorem OkT.put {A:As} {n k v:Nat} (h:OkT A n) (h1:2<=k/\k % 2=0/\k<dF/\1<=v/\v<=7):OkT (nH A k v) (n+1) where
 nd:=qZ h.nd k v
 e:=fun p hp=>by
  rcases zY hp with hp | rfl
  ·exact h.e p hp
  ·exact h1
 l:=by
  have:=h.l
  have:=sZ A k v
  omega
noncomputable def j6 (ts:List Nat) (k:Nat):List Nat:=if k∈ts then ts else ts++[k]
theorem OkU.put {ts:List Nat} {n k:Nat} (h:OkU ts n) (h1:0<k/\k<dF):OkU (j6 ts k) (n+1):=by
 unfold j6
 split
 ·exact ⟨h.nd,h.e,by have:=h.l; omega⟩
 ·rename_i z
  refine ⟨?_,fun t ht=>?_,by rw [List.length_append]; have:=h.l; simp; omega⟩
  ·rw [List.nodup_append]
   exact ⟨h.nd,by simp,fun a ha b hb=>by rw [List.mem_singleton.mp hb]; exact fun q=>z (q ▸ ha)⟩
  ·rcases List.mem_append.mp ht with ht | ht
   ·exact h.e t ht
   ·rw [List.mem_singleton.mp ht]; exact h1
theorem xK (l:List Nat) (k:Nat):f6 (cV l) (.inl (k:Int)) (.bool true)=cV (j6 l k):=by
 have e:∀ l:List Nat,((cV l).any fun p=>decide (p.1=.inl (k:Int)))=decide (k∈l):=fun l=>by
  induction l with
  | nil=>rfl
  | cons a l ih=>
   have h:cV (a::l)=(.inl (a:Int),.bool true)::cV l:=rfl
   rw [h,List.any_cons,ih]
   by_cases q:k=a
   ·subst q; simp
   ·have:¬ ((Sum.inl (a:Int):aE)=.inl (k:Int)):=fun z=>q (by injection z with z; omega)
    simp [q,this]
 unfold f6 j6
 rw [e l]
 by_cases h:k∈l
 ·simp only [h,decide_true,if_true]
  unfold cV
  rw [List.map_map]
  apply List.map_congr_left
  intro a _
  show (if _ then _ else _)=_
  split
  ·rename_i z
   have z:(Sum.inl (a:Int):aE)=.inl (k:Int):=by simpa using z
   show (Sum.inl (a:Int),_)=_
   rw [z]
  ·rfl
 ·simp only [h,decide_false,if_false]
  unfold cV
  rw [List.map_append]
  rfl
theorem yS (hd:Int) (C W L Hd:D) (al:List Nat) (l6:As) (l7:List Nat) (cell:Int) (x9 x10 x11 x12:Sl) (hl:al.length<=1000) (hb:∀ a∈al,a<=1000) (h6:OkT l6 12) (h7:OkU l7 4) :
  ∃ (l6':As) (l7':List Nat) (y9 y10:Sl),OkT l6' 12/\OkU l7' 4/\aY [.fz (.int hd),.fz C,.fz W,.fz L,.fz Hd,.fz (.list (ai al)),.od (cN l6),.od (cV l7),.fz (.int cell),x9,x10,x11,x12]=some (.nx,[.fz (.int hd),.fz C,.fz W,.fz L,.fz Hd,.fz (.list (ai al)),.od (cN l6'),.od (cV l7'),.fz (.int cell),y9,y10,x11,x12]):=by
 obtain ⟨T,hT⟩:=mG cell
 obtain ⟨S,b,hlt,hp,hs⟩:=Em al T (.fz (.int hd)) (.fz C) (.fz W) (.fz L) (.fz Hd) (.od (cN l6)) (.od (cV l7)) (.fz (.int cell)) x10 x11 x12 hl hb
 have e6:(cN l6).length=l6.length:=by simp [cN]
 have e7:(cV l7).length=l7.length:=by simp [cV]
 have z6:(cN l6).length<sizeLine:=by rw [e6,sizeLine_eq]; have:=h6.l; omega
 have z7:(cV l7).length<sizeLine:=by rw [e7,sizeLine_eq]; have:=h7.l; omega
 have go:aY [.fz (.int hd),.fz C,.fz W,.fz L,.fz Hd,.fz (.list (ai al)),.od (cN l6),.od (cV l7),.fz (.int cell),x9,x10,x11,x12]=(gK F9 Gf (gK F8 Gg lH)) [.fz (.int hd),.fz C,.fz W,.fz L,.fz Hd,.fz (.list (ai al)),.od (cN l6),.od (cV l7),.fz (.int cell),.fz (.int T),.fz (.int b),x11,x12]:=by
  rw [uT]
  exact (iz (ED _ _ _ _ _ _ _ _ _ _ _ _ cell T hT)).trans (iz (EC _ _ _ _ _ _ _ _ _ _ _ _ _ b S hp hs))
 have t1:=Ej (.fz (.int hd)) (.fz C) (.fz W) (.fz L) (.fz Hd) (.fz (.list (ai al))) (.od (cN l6)) (.fz (.int cell)) x11 x12 (cV l7) T b l7.length (by rw [e7])
 have t2:=Ei (.fz (.int hd)) (.fz C) (.fz W) (.fz L) (.fz Hd) (.fz (.list (ai al))) (.od (cV l7)) (.fz (.int cell)) x11 x12 (cN l6) T b l6.length (by rw [e6])
 rw [go]
 cases q1:(decide ((T:Int) % 5=1)&&(decide ((l7.length:Int)<4)&&decide ((0:Int)<b))) with
 | true=>
  rw [q1] at t1
  simp only [Bool.and_eq_true,decide_eq_true_eq] at q1
  have u:=(OkU.put (n:=3) ⟨h7.nd,h7.e,by omega⟩ (k:=b) ⟨by omega,hlt⟩)
  exact ⟨l6,_,_,_,h6,u,(AW t1).trans (EY _ _ _ _ _ _ _ _ _ _ _ _ _ _ z7 (xK l7 b))⟩
 | false=>
  rw [q1] at t1
  cases q2:(decide (¬ (T:Int) % 5=1)&&(decide ((1:Int)<b)&&decide ((l6.length:Int)<12))) with
  | true=>
   rw [q2] at t2
   simp only [Bool.and_eq_true,decide_eq_true_eq] at q2
   obtain ⟨k,hk⟩:∃ k:Nat,(b:Int)-(b:Int) % 2=k:=⟨b-b % 2,by omega⟩
   obtain ⟨v,v1,v7,hv⟩:=FH (.fz C) (.fz W) (.fz L) (.fz Hd) (.fz (.list (ai al))) (.od (cN l6)) (.od (cV l7)) (.fz (.int cell)) (.fz (.int b)) x11 x12 T hd
   have u:=(OkT.put (n:=11) ⟨h6.nd,h6.e,by omega⟩ (k:=k) (v:=v) ⟨by omega,by omega,by omega,v1,v7⟩)
   exact ⟨_,l7,_,_,u,h7,(v9 t1).trans ((AW t2).trans (EZ _ _ _ _ _ _ _ _ _ _ _ _ _ _ k _ z6 hk hv (nG l6 k v)))⟩
  | false=>
   rw [q2] at t2
   exact ⟨l6,l7,_,_,h6,h7,(v9 t1).trans ((v9 t2).trans rfl)⟩
theorem yT (hd:Int) (W L Hd:D) (al:List Nat) (cells:List Int) (x11 x12:Sl) (hl:al.length<=1000) (hb:∀ a∈al,a<=1000):∃ (l6:As) (l7:List Nat) (y8 y9 y10:Sl),OkT l6 12/\OkU l7 4 /\
  loop (gN 8) aY (cells.map .int) [.fz (.int hd),.fz (.list (cells.map .int)),.fz W,.fz L,.fz Hd,.fz (.list (ai al)),.od [],.od [],.un,.un,.un,x11,x12]=some (.nx,[.fz (.int hd),.fz (.list (cells.map .int)),.fz W,.fz L,.fz Hd,.fz (.list (ai al)),.od (cN l6),.od (cV l7),y8,y9,y10,x11,x12]):=by
 obtain ⟨δ',e,l6,l7,y8,y9,y10,h6,h7,rfl⟩:=sW (g:=gN 8) (b:=aY) (fun δ=>∃ (l6:As) (l7:List Nat) (y8 y9 y10:Sl),OkT l6 12/\OkU l7 4 /\ δ = [.fz (.int hd),.fz (.list (cells.map .int)),.fz W,.fz L,.fz Hd,.fz (.list (ai al)),.od (cN l6),.od (cV l7),y8,y9,y10,x11,x12]) (cells.map .int) (fun d hdm δ hI=>by
  obtain ⟨l6,l7,y8,y9,y10,h6,h7,rfl⟩:=hI
  obtain ⟨cell,_,rfl⟩:=List.mem_map.mp hdm
  obtain ⟨l6',l7',z9,z10,k6,k7,q⟩:=yS hd (.list (cells.map .int)) W L Hd al l6 l7 cell y9 y10 x11 x12 hl hb h6 h7
  exact ⟨_,rfl,_,q,l6',l7',_,_,_,k6,k7,rfl⟩) [.fz (.int hd),.fz (.list (cells.map .int)),.fz W,.fz L,.fz Hd,.fz (.list (ai al)),.od [],.od [],.un,.un,.un,x11,x12] ⟨[],[],_,_,_,⟨.nil,fun p hp=>(by cases hp),by simp⟩,⟨.nil,fun p hp=>(by cases hp),by simp⟩,rfl⟩
 exact ⟨l6,l7,y8,y9,y10,h6,h7,e⟩
theorem kJ (rs:List Nat):(rs.map cI).map PyData.int=ai rs:=by
 unfold ai cI
 rw [List.map_map]
 rfl
theorem yY (A:As) (nd:(aq A).Nodup) (hl:A.length<=50):∃ rs:List Nat,kh (.dict (dctD (lI A)))=some (.list (ai rs))/\rs.Perm (aq A)/\rs.Pairwise (· < ·):=by
 obtain ⟨rs,e,p,pw⟩:=ie (aq A) nd
 refine ⟨rs,?_,p,pw⟩
 show (jv (dctD (lI A))).bind _=_
 rw [fg,Option.bind_some,Be,kT,Option.bind_some,if_pos (by rw [List.length_map]; unfold aq; rw [List.length_map]; omega),e,kJ]
theorem ut (l:List Nat) (nd:l.Nodup) (hl:l.length<=50):∃ ss:List Nat,(∀ (δ:Dv) (i:Nat),vk δ[i]? = some (cV l)->jg i δ = some (.list (ai ss)))/\ss.Perm l/\ss.Pairwise (· < ·):=by
 obtain ⟨ss,e,p,pw⟩:=ie l nd
 refine ⟨ss,fun δ i h=>?_,p,pw⟩
 have k:gL (cV l)=some (l.map cI):=mN l
 unfold jg
 rw [h,Option.bind_some,k,Option.bind_some,if_pos (by rw [List.length_map]; omega),e,kJ]
theorem HD (l:As) (x0 x1 x2 x3 x4 x5 x7 x8 x9 x10 x11 x12:Sl):qg 6 [x0,x1,x2,x3,x4,x5,.od (cN l),x7,x8,x9,x10,x11,x12]=[x0,x1,x2,x3,x4,x5,.fz (.dict (dctD (lI l))),x7,x8,x9,x10,x11,x12]:=by
 have h:=tE l
 show (match mJ (cN l) with | some l'=>_ | none=>_)=_
 rw [h]
 rfl
theorem yV (l:As) (h:OkT l 12) (x0 x1 x2 x3 x4 x5 x7 x8 x9 x10 x11 x12:Sl):∃ rs:List Nat,rs.Perm (aq l)/\rs.Pairwise (· < ·)/\AU [x0,x1,x2,x3,x4,x5,.od (cN l),x7,x8,x9,x10,x11,x12]=some (.nx,[x0,x1,x2,x3,x4,x5,.fz (.dict (dctD (lI l))),x7,x8,x9,x10,x11,.fz (.tuple ((rs.map fun k=>(k,vl l k)).map pD))]):=by
 have hl:=h.l
 obtain ⟨ss,h1,h2,h3⟩:=yY l h.nd (by omega)
 refine ⟨ss,h2,h3,?_⟩
 show (aI 12 (VL.os (af (bK) (au)) cE)) (qg 6 [x0,x1,x2,x3,x4,x5,.od (cN l),x7,x8,x9,x10,x11,x12])=_
 rw [HD]
 have p:bK [x0,x1,x2,x3,x4,x5,.fz (.dict (dctD (lI l))),x7,x8,x9,x10,x11,x12]=some (.list ((ss.map fun k=>(k,vl l k)).map pD)):=by
  unfold bK
  rw [List.map_map]
  refine d4 (xs:=ss) (h:=fun s=>.int ((s:Nat):Int)) ?_ (by have:=h2.length_eq; unfold aq at this; rw [List.length_map] at this; omega) fun s hs=>?_
  ·have:(oI (o1 (oV 6) kh) bu) [x0,x1,x2,x3,x4,x5,.fz (.dict (dctD (lI l))),x7,x8,x9,x10,x11,x12]=some (ai ss):=by
    show ((kh (.dict (dctD (lI l))))).bind bu=_
    rw [h1]; rfl
   exact this
  ·have hv:=Al (h2.mem_iff.mp hs)
   have g:xw (.dict (dctD (lI l))) (.int (s:Int))=some (.int (vl l s:Int)):=by
    show (jv (dctD (lI l))).bind _=_
    rw [fg,Option.bind_some]
    show (jM (.int (s:Int))).bind _=_
    rw [xk,Option.bind_some,hv]; rfl
   generalize PyData.dict (dctD (lI l))=Z at *
   simp [bt,g,pD]
 simp only [aI,VL.os,af,au,p,Option.bind_some,oY]
 rfl
noncomputable def bh (A:As):List (Nat×Int):=A.map fun p=>(p.1,(p.2:Int))
theorem ka (A:As):(bh A).map prD=A.map pD:=by
 unfold bh
 rw [List.map_map]
 rfl
theorem ng (A:As):(bh A).length=A.length:=by simp [bh]
theorem yU (hd w l:Nat) (hv:Int) (ps:List (Nat×Int)) (ts hs:List Nat) (x1 x5 x6 x7 x8 x9 x10:Sl) (q:jg 7 [.fz (.int hd),x1,.fz (.int w),.fz (.int l),.fz (.list (ai hs)),x5,x6,x7,x8,x9,x10,.fz (.int hv),.fz (.tuple (ps.map prD))]=some (.list (ai ts))) :
  vK [.fz (.int hd),x1,.fz (.int w),.fz (.int l),.fz (.list (ai hs)),x5,x6,x7,x8,x9,x10,.fz (.int hv),.fz (.tuple (ps.map prD))]=some (.rt (oneD w l hv (hd / 7 % 8) ps ts hs),[.fz (.int hd),x1,.fz (.int w),.fz (.int l),.fz (.list (ai hs)),x5,x6,x7,x8,x9,x10,.fz (.int hv),.fz (.tuple (ps.map prD))]):=by
 have t6:∀ a b c d e f:D,cg [a,b,c,d,e,f]=some (.tuple [a,b,c,d,e,f]):=fun a b c d e f=>en (by simp)
 have hc:(hd:Int) / 7 % 8=((hd / 7 % 8:Nat):Int):=by omega
 unfold oneD
 generalize ai hs=HS at *
 generalize ai ts=TS at *
 generalize ps.map prD=PS at *
 generalize hd / 7 % 8=c at *
 simp [vK,q,t6,hc]
structure Sm (w l:Nat) (hv:Int) (c:Nat) (ps:As) (ts hs:List Nat) (n m:Nat):Prop where
 w1:1<=w
 w3:w<=3
 l2:l<=2
 v1:-1000<=hv
 v2:hv<=1000
 c8:c<8
 pk:(aq ps).Pairwise (· < ·)
 pe:∀ p∈ps,2<=p.1/\p.1 % 2=0/\p.1<dF/\1<=p.2/\p.2<=7
 pl:ps.length<=m
 tk:ts.Pairwise (· < ·)
 te:∀ t∈ts,0<t/\t<dF
 tl:ts.length<=m
 hl:hs.length<=n
 pw:hs.Pairwise (· < ·)
 hb:∀ h∈hs,2*w+1+l<=h/\h<900
theorem Ac (l:As) (rs:List Nat):aq (rs.map fun k=>(k,vl l k))=rs:=by
 unfold aq
 rw [List.map_map]
 exact List.map_id' rs
theorem GW {l:As} {n:Nat} (h:OkT l n) {rs:List Nat} (p:rs.Perm (aq l)):∀ q∈(rs.map fun k=>(k,vl l k)),2<=q.1/\q.1 % 2=0/\q.1<dF/\1<=q.2/\q.2<=7:=fun q hq=>by
 obtain ⟨k,hk,rfl⟩:=List.mem_map.mp hq
 obtain ⟨r,hr,rfl⟩:=List.mem_map.mp (p.mem_iff.mp hk)
 have:=h.e r hr
 rw [fT h.nd hr]
 exact this
section
variable (C:D) (x3 x4 x5 x6 x7 x8 x9 x10 x11 x12:Sl)
theorem BT (hd w:Int) (hw:1+hd % 3=w) (x2:Sl):BO [.fz (.int hd),.fz C,x2,x3,x4,x5,x6,x7,x8,x9,x10,x11,x12]=some (.nx,[.fz (.int hd),.fz C,.fz (.int w),x3,x4,x5,x6,x7,x8,x9,x10,x11,x12]):=by simp [BO,hw]
theorem BS (hd l:Int) (hl:hd / 3 % 3=l) (x2:Sl):BN [.fz (.int hd),.fz C,x2,x3,x4,x5,x6,x7,x8,x9,x10,x11,x12]=some (.nx,[.fz (.int hd),.fz C,x2,.fz (.int l),x4,x5,x6,x7,x8,x9,x10,x11,x12]):=by simp [BN,hl]
theorem BR (hd w l f m:Int) (B:D) (mw:cA (.int 2) (.int w)=some (.int m)) (hf:m+1+l=f) (b1:aU [.int hd,C,.int f]=some B):BM [.fz (.int hd),.fz C,.fz (.int w),.fz (.int l),x4,x5,x6,x7,x8,x9,x10,x11,x12]=some (.nx,[.fz (.int hd),.fz C,.fz (.int w),.fz (.int l),.fz B,x5,x6,x7,x8,x9,x10,x11,x12]):=by simp [BM,mw,hf,b1]
theorem BQ (H:D) (w l f m:Int) (B R A:D) (mw:cA (.int 2) (.int w)=some (.int m)) (hf:m+1+l=f) (lr:jA (.int f)=some R) (al:aN R B=some A):BL [.fz H,.fz C,.fz (.int w),.fz (.int l),.fz B,x5,x6,x7,x8,x9,x10,x11,x12]=some (.nx,[.fz H,.fz C,.fz (.int w),.fz (.int l),.fz B,.fz A,x6,x7,x8,x9,x10,x11,x12]):=by
 have e:(o2 (o2 (o2 (oC (.int 2)) (oV 2) cA) (oC (.int 1)) aN) (oV 3) aN) [.fz H,.fz C,.fz (.int w),.fz (.int l),.fz B,x5,x6,x7,x8,x9,x10,x11,x12]=some (.int f):=by simp [mw,hf]
 have e2:(o1 (o2 (o2 (o2 (oC (.int 2)) (oV 2) cA) (oC (.int 1)) aN) (oV 3) aN) jA) [.fz H,.fz C,.fz (.int w),.fz (.int l),.fz B,x5,x6,x7,x8,x9,x10,x11,x12]=some R:=by
  unfold o1
  rw [e]
  exact lr
 unfold BL aI
 show ((((o1 _ jA) _).bind fun x=>((some B).bind fun y=>aN x y)).bind _)=_
 rw [e2,Option.bind_some,Option.bind_some,al]
 rfl
theorem BP (hd h0:Int) (h:hd / 180 % 13-6=h0) (x1 x2:Sl):BJ [.fz (.int hd),x1,x2,x3,x4,x5,x6,x7,x8,x9,x10,x11,x12]=some (.nx,[.fz (.int hd),x1,x2,x3,x4,x5,x6,x7,x8,x9,x10,.fz (.int h0),x12]):=by simp [BJ,h]
theorem Ep (hd h1:Int) (q:hd / 2340 % 9=1) (h:hd / 2340 % 401-200=h1) (x1 x2:Sl):uq [.fz (.int hd),x1,x2,x3,x4,x5,x6,x7,x8,x9,x10,x11,x12]=some (.nx,[.fz (.int hd),x1,x2,x3,x4,x5,x6,x7,x8,x9,x10,.fz (.int h1),x12]):=by simp [uq,q,h]
theorem Er (hd:Int) (q:¬ hd / 2340 % 9=1) (x1 x2:Sl):uq [.fz (.int hd),x1,x2,x3,x4,x5,x6,x7,x8,x9,x10,x11,x12]=some (.nx,[.fz (.int hd),x1,x2,x3,x4,x5,x6,x7,x8,x9,x10,x11,x12]):=by simp [uq,q]
end
theorem uO {j:Int} (h:j<=16777216) (h2:-4611686018427387904<=j):jA (.int j)=some (.list (jb 0 j.toNat)):=if_pos ⟨h,h2⟩
theorem uy (f:Nat):jb 0 f=ai (List.range f):=by
 unfold jb ai
 simp
theorem xa {f:Nat} (h:f<=1000):jA (.int (f:Int))=some (.list (ai (List.range f))):=by
 rw [uO (by omega) (by omega),Int.toNat_natCast,uy]
theorem pb (hd:Nat) (cells:List Int):∃ (w l:Nat) (hv:Int) (c:Nat) (ps:As) (ts hs:List Nat),bB [.int hd,.list (cells.map .int)]=some (oneD w l hv c (bh ps) ts hs)/\Sm w l hv c ps ts hs 5 12 /\ -200<=hv/\hv<=200:=by
 obtain ⟨w,hw⟩:∃ w:Nat,1+(hd:Int) % 3=w:=⟨1+hd % 3,by omega⟩
 obtain ⟨l,hl⟩:∃ l:Nat,(hd:Int) / 3 % 3=l:=⟨hd / 3 % 3,by omega⟩
 obtain ⟨f,hf⟩:∃ f:Nat,2*(w:Int)+1+l=f:=⟨2*w+1+l,by omega⟩
 obtain ⟨hs,b1,b2,b3,b4⟩:=rM hd f cells
 have mw:cA (.int 2) (.int (w:Int))=some (.int (2*(w:Int))):=dB (.of_left (by decide))
 have lr:=xa (f:=f) (by omega)
 have al:aN (.list (ai (List.range f))) (.list (ai hs))=some (.list (ai (List.range f++hs))):=by
  rw [mZ (by rw [bV,bV,List.length_range]; omega),ji]
 obtain ⟨l6,l7,y8,y9,y10,h6,h7,lp⟩:=yT hd (.int w) (.int l) (.list (ai hs)) (List.range f++hs) cells .un .un (by rw [List.length_append,List.length_range]; omega) (fun a ha=>by
  rcases List.mem_append.mp ha with ha | ha
  ·have:=List.mem_range.mp ha; omega
  ·have:=(b4 a ha).2; omega)
 have s7:BK [.fz (.int hd),.fz (.list (cells.map .int)),.fz (.int w),.fz (.int l),.fz (.list (ai hs)),.fz (.list (ai (List.range f++hs))),.od [],.od [],.un,.un,.un,.un,.un]=some (.nx,[.fz (.int hd),.fz (.list (cells.map .int)),.fz (.int w),.fz (.int l),.fz (.list (ai hs)),.fz (.list (ai (List.range f++hs))),.od (cN l6),.od (cV l7),y8,y9,y10,.un,.un]):=by
  unfold BK fS
  rw [zS rfl,Option.bind_some]
  exact lp
 obtain ⟨h0,hh0⟩:∃ h0:Int,(hd:Int) / 180 % 13-6=h0:=⟨_,rfl⟩
 obtain ⟨hv,v1,v2,s9⟩:∃ hv:Int,-200<=hv/\hv<=200/\∀ x1 x2 x3 x4 x5 x6 x7,uq [.fz (.int hd),x1,x2,x3,x4,x5,x6,x7,y8,y9,y10,.fz (.int h0),.un]=some (.nx,[.fz (.int hd),x1,x2,x3,x4,x5,x6,x7,y8,y9,y10,.fz (.int hv),.un]):=by
  by_cases q:(hd:Int) / 2340 % 9=1
  ·exact ⟨(hd:Int) / 2340 % 401-200,by omega,by omega,fun x1 x2 x3 x4 x5 x6 x7=>Ep _ _ _ _ _ _ _ _ _ _ hd _ q rfl _ _⟩
  ·exact ⟨h0,by omega,by omega,fun x1 x2 x3 x4 x5 x6 x7=>Er _ _ _ _ _ _ _ _ _ _ hd q _ _⟩
 obtain ⟨rs,p1,p2,s10⟩:=yV l6 h6 (.fz (.int hd)) (.fz (.list (cells.map .int))) (.fz (.int w)) (.fz (.int l)) (.fz (.list (ai hs))) (.fz (.list (ai (List.range f++hs)))) (.od (cV l7)) y8 y9 y10 (.fz (.int hv)) .un
 obtain ⟨ps,hps⟩:∃ ps:As,rs.map (fun k=>(k,vl l6 k))=ps:=⟨_,rfl⟩
 rw [hps,<- ka] at s10
 have hpl:ps.length<=12:=by
  have:=p1.length_eq
  have:=h6.l
  unfold aq at *
  rw [<- hps,List.length_map]
  rw [List.length_map] at *
  omega
 obtain ⟨ts,hts,q1,q2⟩:=ut l7 h7.nd (by have:=h7.l; omega)
 have hts:=hts [.fz (.int hd),.fz (.list (cells.map .int)),.fz (.int w),.fz (.int l),.fz (.list (ai hs)),.fz (.list (ai (List.range f++hs))),.fz (.dict (dctD (lI l6))),.od (cV l7),y8,y9,y10,.fz (.int hv),.fz (.tuple ((bh ps).map prD))] 7 rfl
 have s11:=yU hd w l hv (bh ps) ts hs (.fz (.list (cells.map .int))) (.fz (.list (ai (List.range f++hs)))) (.fz (.dict (dctD (lI l6)))) (.od (cV l7)) y8 y9 y10 hts
 have d5:Eo [.fz (.int hd),.fz (.list (cells.map .int)),.fz (.int w),.fz (.int l),.fz (.list (ai hs)),.fz (.list (ai (List.range f++hs))),.un,.un,.un,.un,.un,.un,.un]=some (.nx,[.fz (.int hd),.fz (.list (cells.map .int)),.fz (.int w),.fz (.int l),.fz (.list (ai hs)),.fz (.list (ai (List.range f++hs))),.od [],.un,.un,.un,.un,.un,.un]):=rfl
 have d6:En [.fz (.int hd),.fz (.list (cells.map .int)),.fz (.int w),.fz (.int l),.fz (.list (ai hs)),.fz (.list (ai (List.range f++hs))),.od [],.un,.un,.un,.un,.un,.un]=some (.nx,[.fz (.int hd),.fz (.list (cells.map .int)),.fz (.int w),.fz (.int l),.fz (.list (ai hs)),.fz (.list (ai (List.range f++hs))),.od [],.od [],.un,.un,.un,.un,.un]):=rfl
 refine ⟨w,l,hv,hd / 7 % 8,ps,ts,hs,E9 (δ':=[.fz (.int hd),.fz (.list (cells.map .int)),.fz (.int w),.fz (.int l),.fz (.list (ai hs)),.fz (.list (ai (List.range f++hs))),.fz (.dict (dctD (lI l6))),.od (cV l7),y8,y9,y10,.fz (.int hv),.fz (.tuple ((bh ps).map prD))]) rfl ?_,⟨by omega,by omega,by omega,by omega,by omega,by omega,by rw [<- hps,Ac]; exact p2,by rw [<- hps]; exact GW h6 p1,hpl,q2,fun t ht=>h7.e t (q1.mem_iff.mp ht),by rw [q1.length_eq]; have:=h7.l; omega,by omega,b3,fun h hh=>?_⟩,v1,v2⟩
 ·rw [El]
  exact (iz (BT _ _ _ _ _ _ _ _ _ _ _ hd w hw _)).trans ((iz (BS _ _ _ _ _ _ _ _ _ _ _ hd l hl _)).trans ((iz (BR _ _ _ _ _ _ _ _ _ _ hd w l f _ _ mw hf b1)).trans ((iz (BQ _ _ _ _ _ _ _ _ _ _ w l f _ _ _ _ mw hf lr al)).trans ((iz d5).trans ((iz d6).trans ((iz s7).trans ((iz (BP _ _ _ _ _ _ _ _ _ _ hd h0 hh0 _ _)).trans ((iz (s9 _ _ _ _ _ _ _)).trans ((iz s10).trans s11)))))))))
 ·have:=b4 h hh; omega
noncomputable def ml (S:As):List (Nat×Int)->As
 | []=>S
 | q::Q=>ml (pB S q.1 q.2) Q
noncomputable def tv:List (Nat×Int)->Int
 | []=>0
 | q::Q=>(if q.1 % 2=1 then q.2 else 0)+tv Q
noncomputable def kv (k:Nat):List (Nat×Int)->Int
 | []=>0
 | q::Q=>(if hb q.1=k then he q.1 q.2 else 0)+kv k Q
theorem Bt (S:As) (b:Nat) (e:Int) {k:Nat} (hk:0<k):vl (pB S b e) k=if hb b=k then nv (vl S k) (he b e) else vl S k:=by
 unfold pB
 by_cases z:hb b=0
 ·rw [if_pos z,if_neg (by omega)]
 ·rw [if_neg z,i6]
  by_cases y:hb b=k
  ·rw [if_pos y,if_pos y.symm,y]
  ·rw [if_neg y,if_neg (fun q=>y q.symm)]
theorem vy {k:Nat} (hk:0<k):∀ (Q:List (Nat×Int)) (S:As),vl S k<8->(vl (ml S Q) k:Int)=((vl S k:Int)+kv k Q) % 8
 | [],S,h=>by
  show (vl S k:Int)=(_+0) % 8
  omega
 | q::Q,S,h=>by
  have ih:=vy hk Q (pB S q.1 q.2)
  have e:=Bt S q.1 q.2 hk
  show (vl (ml (pB S q.1 q.2) Q) k:Int)=((vl S k:Int)+((if hb q.1=k then he q.1 q.2 else 0)+kv k Q)) % 8
  by_cases y:hb q.1=k
  ·rw [if_pos y] at e ⊢
   have h2:=wR (vl S k) (he q.1 q.2)
   have h3:=mF (vl S k) (he q.1 q.2)
   rw [ih (by omega),e,h3]
   omega
  ·rw [if_neg y] at e ⊢
   rw [ih (by omega),e]
   omega
theorem Fe {S:As} (h:(aq S).Nodup) (b:Nat) (e:Int):(aq (pB S b e)).Nodup:=by
 unfold pB
 split
 ·exact h
 ·exact qZ h _ _
theorem xf (S:As) (b:Nat) (e:Int):(pB S b e).length<=S.length+1:=by
 unfold pB
 split
 ·omega
 ·exact sZ S _ _
theorem wV:∀ (Q:List (Nat×Int)) {S:As},(aq S).Nodup->(aq (ml S Q)).Nodup
 | [],_,h=>h
 | q::Q,_,h=>wV Q (Fe h q.1 q.2)
theorem sY:∀ (Q:List (Nat×Int)) (S:As),(ml S Q).length<=S.length+Q.length
 | [],S=>Nat.le_refl _
 | q::Q,S=>by
  have:=sY Q (pB S q.1 q.2)
  have:=xf S q.1 q.2
  show (ml (pB S q.1 q.2) Q).length<=_
  rw [List.length_cons]
  omega
theorem Dy (t:Int) (S:As) (b:Nat) (e:Int) (z1 z2 z5 z6:Sl) (hl:S.length<1000):∃ y5 y6,bO [.fz (.int t),z1,z2,.od (cN S),.fz (prD (b,e)),z5,z6]=some (.nx,[.fz (.int (t+if b % 2=1 then e else 0)),z1,z2,.od (cN (pB S b e)),.fz (prD (b,e)),y5,y6]):=by
 have e2:(if ((b % 2:Nat):Int)=1 then Builtin.bitXor (b:Int) 1 else b)=((hb b:Nat):Int):=by
  unfold hb
  by_cases o:b % 2=1
  ·rw [if_pos (by omega),FT b o,o]
  ·rw [if_neg (by omega)]; omega
 have e3:(if ((b % 2:Nat):Int)=1 then -e else e)=he b e:=by
  unfold he
  by_cases o:b % 2=1
  ·rw [if_pos o,if_pos (by omega)]
  ·rw [if_neg o,if_neg (by omega)]
 have e4:(if ((hb b:Nat):Int)=0 then cN S else f6 (cN S) (.inl (hb b:Nat)) (.int (((vl S (hb b):Nat)+he b e) % 8)))=cN (pB S b e):=by
  unfold pB
  by_cases o:hb b=0
  ·rw [if_pos o,if_pos (by omega)]
  ·rw [if_neg o,if_neg (by omega),<- mF]
   exact nG _ _ _
 have e5:(if ((b % 2:Nat):Int)=1 then t+e else t)=t+if b % 2=1 then e else 0:=by
  by_cases o:b % 2=1
  ·rw [if_pos o,if_pos (by omega)]
  ·rw [if_neg o,if_neg (by omega)]; omega
 have sz:sizeLine>=1001:=by decide
 have st:=AI t b e ((b % 2:Nat):Int) (hb b:Nat) (he b e) _ (vl S (hb b):Nat) (cN S) (prD (b,e)) z1 z2 z5 z6 rfl rfl (FX b) e2 e3 e5 (C8 _ _) (by unfold cN; rw [List.length_map]; omega)
 rw [e4] at st
 exact ⟨_,_,st⟩
theorem ua (z1 z2:Sl):∀ (Q:List (Nat×Int)) (t:Int) (S:As) (z4 z5 z6:Sl),S.length+Q.length<1000->∃ y4 y5 y6,loop (gN 4) bO (Q.map prD) [.fz (.int t),z1,z2,.od (cN S),z4,z5,z6]=some (.nx,[.fz (.int (t+tv Q)),z1,z2,.od (cN (ml S Q)),y4,y5,y6])
 | [],t,S,z4,z5,z6,_=>⟨z4,z5,z6,by
  show some (Fl.nx,[Sl.fz (.int t),z1,z2,.od (cN S),z4,z5,z6])=some (.nx,[.fz (.int (t+0)),z1,z2,.od (cN S),z4,z5,z6])
  rw [Int.add_zero]⟩
 | q::Q,t,S,z4,z5,z6,h=>by
  rw [List.length_cons] at h
  obtain ⟨w5,w6,e1⟩:=Dy t S q.1 q.2 z1 z2 z5 z6 (by omega)
  have hl:=xf S q.1 q.2
  obtain ⟨y4,y5,y6,e2⟩:=ua z1 z2 Q (t+if q.1 % 2=1 then q.2 else 0) (pB S q.1 q.2) (.fz (prD q)) w5 w6 (by omega)
  refine ⟨y4,y5,y6,?_⟩
  rw [List.map_cons,cJ (δ1:=[.fz (.int t),z1,z2,.od (cN S),.fz (prD q),z5,z6]) (by simp) e1,e2,Int.add_assoc]
  rfl
structure RR (R:As) (f:Nat->Int):Prop where
 pk:(aq R).Pairwise (· < ·)
 val:∀ k,0<k->(vl R k:Int)=f k % 8
 nz:∀ p∈R,0<p.1/\p.2≠0
theorem eT {l:List Nat} (h:l.Pairwise (· < ·)):l.Nodup:=by
 rw [List.nodup_iff_pairwise_ne]
 exact h.imp fun {a b} q=>by omega
theorem RR.keys {R:As} {f:Nat->Int} (h:RR R f) (k:Nat):k∈aq R↔0<k/\f k % 8≠0:=by
 constructor
 ·intro hk
  obtain ⟨p,hp,rfl⟩:=List.mem_map.mp hk
  have h1:=h.nz p hp
  have h2:=h.val p.1 h1.1
  rw [fT (eT h.pk) hp] at h2
  exact ⟨h1.1,by omega⟩
 ·intro ⟨h0,hk⟩
  have h2:=h.val k h0
  exact q8 (by omega)
theorem t9:∀ {R:As},(aq R).Nodup->R=(aq R).map fun k=>(k,vl R k):=fun {R} nd=>by
 unfold aq
 rw [List.map_map]
 refine (List.map_id R).symm.trans (List.map_congr_left fun p hp=>?_)
 show p=(p.1,vl R p.1)
 rw [fT nd hp]
theorem RR.one {R R':As} {f g:Nat->Int} (h:RR R f) (h':RR R' g) (e:∀ k,0<k->f k % 8=g k % 8):R=R':=by
 have k1:aq R=aq R':=im h.pk h'.pk fun k=>by
  rw [h.keys,h'.keys]
  constructor
  ·intro ⟨a,b⟩; exact ⟨a,by rw [<- e k a]; exact b⟩
  ·intro ⟨a,b⟩; exact ⟨a,by rw [e k a]; exact b⟩
 rw [t9 (eT h.pk),t9 (eT h'.pk),k1]
 refine List.map_congr_left fun k hk=>?_
 have h0:0<k:=((h'.keys k).mp hk).1
 have h1:=h.val k h0
 have h2:=h'.val k h0
 have:=e k h0
 congr 1
 omega
theorem Ar (S:As) (h:(aq S).Nodup) (hl:S.length<=1000):mS (.list (S.map pD))=some (cN S):=by
 show (gZ (S.map pD)).bind _=_
 rw [kD,Option.bind_some,List.length_map,if_pos hl]
 exact congrArg some (oi S [] h)
theorem Dz (t t':Int) (T:D) (Q L:List D) (es es':List (aE×D)) (y4 y5 y6:Sl) (hT:mS T=some es) (lp:loop (gN 4) bO Q [.fz (.int t),.fz T,.fz (.list Q),.od es,.un,.un,.un]=some (.nx,[.fz (.int t'),.fz T,.fz (.list Q),.od es',y4,y5,y6])) (p:fE [.fz (.int t'),.fz T,.fz (.list Q),.od es',y4,y5,y6]=some (.list L)):bb [.int t,T,.list Q]=some (.tuple [.int (t' % 8),.tuple L]):=by
 simp [-ay,-gK,qM,v6,bb,aV,gl,aH,qN,hT,lp,p]
theorem zk:∀ (Q:List (Nat×Int)) {S:As},0 ∉ aq S->0 ∉ aq (ml S Q)
 | [],_,h=>h
 | q::Q,S,h=>zk Q (by
  unfold pB
  split
  ·exact h
  ·rename_i z
   rw [kR]
   split
   ·exact h
   ·intro y
    rcases List.mem_append.mp y with y | y
    ·exact h y
    ·exact z (List.mem_singleton.mp y).symm)
theorem iV (t:Int) (S:As) (hk:(aq S).Nodup) (h8:∀ k,vl S k<8) (Q:List (Nat×Int)) (hl:S.length+Q.length<64) (h0:0 ∉ aq S):∃ R:As,RR R (fun k=>(vl S k:Int)+kv k Q)/\R.length<=S.length+Q.length/\∀ T,mS T=some (cN S)->bb [.int t,T,.list (Q.map prD)]=some (.tuple [.int ((t+tv Q) % 8),.tuple (R.map pD)]):=by
 have nd:=wV Q hk
 have ln:=sY Q S
 obtain ⟨rs,p,pw,hp⟩:=E1 (ml S Q) nd (by omega)
 refine ⟨Bb (ml S Q) rs,⟨?_,fun k h=>?_,fun q hq=>?_⟩,?_,fun T hT=>?_⟩
 ·unfold Bb aq
  rw [List.map_map]
  have:(rs.filter fun k=>decide (vl (ml S Q) k≠0)).map ((fun p:Nat×Nat=>p.1) ∘ fun k=>(k,vl (ml S Q) k))=rs.filter fun k=>decide (vl (ml S Q) k≠0):=List.map_id' _
  rw [this]
  exact pw.sublist List.filter_sublist
 ·rw [<- vy h Q S (h8 k)]
  congr 1
  by_cases z:vl (ml S Q) k=0
  ·rw [z]
   refine gJ fun hq=>?_
   obtain ⟨r,hr,rfl⟩:=List.mem_map.mp hq
   obtain ⟨j,hj,rfl⟩:=List.mem_map.mp hr
   have:=(List.mem_filter.mp hj).2
   simp at this
   exact this z
  ·have nd2:(aq (Bb (ml S Q) rs)).Nodup:=by
    unfold Bb aq
    rw [List.map_map]
    have:(rs.filter fun k=>decide (vl (ml S Q) k≠0)).map ((fun p:Nat×Nat=>p.1) ∘ fun k=>(k,vl (ml S Q) k))=rs.filter fun k=>decide (vl (ml S Q) k≠0):=List.map_id' _
    rw [this]
    exact List.Nodup.sublist List.filter_sublist (p.nodup_iff.mpr nd)
   exact fT nd2 (p:=(k,vl (ml S Q) k)) (List.mem_map.mpr ⟨k,List.mem_filter.mpr ⟨p.mem_iff.mpr (q8 z),by simpa using z⟩,rfl⟩)
 ·obtain ⟨j,hj,rfl⟩:=List.mem_map.mp hq
  have:=List.mem_filter.mp hj
  refine ⟨?_,by simpa using this.2⟩
  refine Nat.pos_of_ne_zero fun z=>?_
  subst z
  exact zk Q h0 (p.mem_iff.mp this.1)
 ·unfold Bb
  rw [List.length_map]
  have:=List.length_filter_le (fun k=>decide (vl (ml S Q) k≠0)) rs
  have h2:=p.length_eq
  unfold aq at h2
  rw [List.length_map] at h2
  omega
 ·obtain ⟨y4,y5,y6,lp⟩:=ua (.fz T) (.fz (.list (Q.map prD))) Q t S .un .un .un (by omega)
  exact Dz _ _ _ _ _ _ _ _ _ _ hT lp (hp _ _ _ _ _ _)
noncomputable def vj (A:As):List (Nat×Int)->As
 | []=>A
 | q::Q=>vj (uS A q.1 q.2) Q
theorem wL:∀ (Q:List (Nat×Int)) {A:As},OkA A->OkA (vj A Q)
 | [],_,h=>h
 | q::Q,_,h=>wL Q (Gh h q.1 q.2)
theorem rW:∀ (Q:List (Nat×Int)) {A:As},OkA A->(vl (vj A Q) 0:Int)=((vl A 0:Int)+tv Q) % 8
 | [],A,h=>by
  have:=h.lt 0
  show (vl A 0:Int)=(_+0) % 8
  omega
 | q::Q,A,h=>by
  have ih:=rW Q (Gh h q.1 q.2)
  have e:=AM A q.1 q.2
  show (vl (vj (uS A q.1 q.2) Q) 0:Int)=((vl A 0:Int)+((if q.1 % 2=1 then q.2 else 0)+tv Q)) % 8
  rw [ih,e]
  by_cases o:q.1 % 2=1
  ·rw [if_pos o,if_pos o,mF]; omega
  ·rw [if_neg o,if_neg o]; omega
theorem rV {k:Nat} (hk:0<k):∀ (Q:List (Nat×Int)) {A:As},OkA A->(vl (vj A Q) k:Int)=((vl A k:Int)+kv k Q) % 8
 | [],A,h=>by
  have:=h.lt k
  show (vl A k:Int)=(_+0) % 8
  omega
 | q::Q,A,h=>by
  have ih:=rV hk Q (Gh h q.1 q.2)
  have e:=IL A q.1 q.2 k hk
  show (vl (vj (uS A q.1 q.2) Q) k:Int)=((vl A k:Int)+((if hb q.1=k then he q.1 q.2 else 0)+kv k Q)) % 8
  rw [ih,e]
  by_cases o:hb q.1=k
  ·rw [if_pos o,if_pos o.symm,mF]; omega
  ·rw [if_neg o,if_neg (fun z=>o z.symm)]; omega
theorem B3 {A:As} (h:OkA A) {rs:List Nat} (p:rs.Perm (aq A)) (pw:rs.Pairwise (· < ·)) {f:Nat->Int} (hf:∀ k,0<k->(vl A k:Int)=f k % 8):RR (kx A rs) f where
 pk:=by
  rw [iD]
  exact pw.sublist List.filter_sublist
 val:=fun k hk=>by
  rw [Bs h p,if_pos hk]
  exact hf k hk
 nz:=fun q hq=>by
  obtain ⟨k,hk,rfl⟩:=List.mem_map.mp hq
  have:=(List.mem_filter.mp hk).2
  have:0<k/\0<vl A k:=by simpa using this
  exact ⟨this.1,by omega⟩
theorem nO {c:Nat} (h:c<8):OkA [(0,c)] where
 nd:=by simp [aq]
 z:=by simp [aq]
 lt:=fun k=>by
  rw [cO]
  split
  ·exact h
  ·rw [gJ (by simp [aq])]; omega
theorem Bu (c:Nat) {k:Nat} (hk:0<k):vl [(0,c)] k=0:=by
 rw [cO,if_neg (by show ¬ 0=k; omega),gJ (by simp [aq])]
theorem rX (c:Nat):vl [(0,c)] 0=c:=by rw [cO,if_pos rfl]
noncomputable def Gw (xs:List Nat):List Nat:=xs.foldl j6 []
theorem Dx {ts:List Nat} (h:ts.Nodup) (k:Nat):(j6 ts k).Nodup:=by
 unfold j6
 split
 ·exact h
 ·rename_i z
  rw [List.nodup_append]
  exact ⟨h,by simp,fun a ha b hb=>by rw [List.mem_singleton.mp hb]; exact fun q=>z (q ▸ ha)⟩
theorem AG (ts:List Nat) (k a:Nat):a∈j6 ts k↔a∈ts\/a=k:=by
 unfold j6
 split
 ·rename_i z
  exact ⟨.inl,fun h=>h.elim id fun e=>e ▸ z⟩
 ·simp
theorem tL:∀ (xs:List Nat) {ts:List Nat},ts.Nodup->(xs.foldl j6 ts).Nodup
 | [],_,h=>h
 | x::xs,_,h=>tL xs (Dx h x)
theorem qa:∀ (xs ts:List Nat) (a:Nat),a∈xs.foldl j6 ts↔a∈ts\/a∈xs
 | [],ts,a=>by simp
 | x::xs,ts,a=>by
  show a∈xs.foldl j6 (j6 ts x)↔_
  rw [qa xs,AG,List.mem_cons,or_assoc]
theorem AH (ts:List Nat) (k:Nat):(j6 ts k).length<=ts.length+1:=by
 unfold j6
 split
 ·omega
 ·simp
theorem qb:∀ (xs ts:List Nat),(xs.foldl j6 ts).length<=ts.length+xs.length
 | [],ts=>by simp
 | x::xs,ts=>by
  have:=qb xs (j6 ts x)
  have:=AH ts x
  show (xs.foldl j6 (j6 ts x)).length<=_
  rw [List.length_cons]
  omega
theorem uv (ts:List Nat) (k:Nat):cu (ts.map cI) (cI k)=(j6 ts k).map cI:=by
 have e:cI k∈ts.map cI↔k∈ts:=by
  rw [List.mem_map]
  exact ⟨fun ⟨a,ha,q⟩=>(show a=k by unfold cI at q; omega) ▸ ha,fun h=>⟨k,h,rfl⟩⟩
 unfold cu j6
 by_cases h:k∈ts
 ·rw [if_pos h,if_pos (e.mpr h)]
 ·rw [if_neg h,if_neg (fun z=>h (e.mp z)),List.map_append]
  rfl
theorem sD:∀ (xs ts:List Nat),(xs.map cI).foldl cu (ts.map cI)=(xs.foldl j6 ts).map cI
 | [],_=>rfl
 | x::xs,ts=>by
  show (xs.map cI).foldl cu (cu (ts.map cI) (cI x))=(xs.foldl j6 (j6 ts x)).map cI
  rw [uv,sD]
theorem p4:∀ xs:List Nat,xr (ai xs)=some (xs.map cI)
 | []=>rfl
 | x::xs=>by
  show (xr (ai xs)).bind _=_
  rw [p4 xs]
  rfl
theorem o9 (xs:List Nat) (hl:xs.length<64):∃ rs:List Nat,rs.Pairwise (· < ·)/\(∀ t,t∈rs↔t∈xs)/\rs.length<=xs.length/\fY (.list (ai xs))=some (.list (ai rs))/\fY (.tuple (ai xs))=some (.list (ai rs)):=by
 obtain ⟨rs,e,p,pw⟩:=ie (Gw xs) (tL xs .nil)
 have s:fZ (xs.map cI)=(Gw xs).map cI:=sD xs []
 have ln:=qb xs []
 have key:∀ d,bu d=some (ai xs)->fY d=some (.list (ai rs)):=fun d h=>by
  unfold fY
  rw [h,Option.bind_some,p4,Option.bind_some,if_pos (by rw [List.length_map]; exact hl),s,e,kJ]
 refine ⟨rs,pw,fun t=>?_,by rw [p.length_eq]; simpa [Gw] using ln,key _ rfl,key _ rfl⟩
 rw [p.mem_iff,Gw,qa]
 simp
theorem iA (rs:List Nat) (f:Nat->Bool):ai (rs.filter f)=(rs.filter f).map fun k:Nat=>PyData.int (k:Int):=rfl
theorem AQ (xs rs:List Nat) (T:D) (hr:rs.length<=1000) (hs:fY T=some (.list (ai rs))):ck [.fz T]=some (.list (ai (rs.filter fun k=>decide (0<k)))):=by
 unfold ck
 rw [iA]
 refine bM (xs:=rs) (h:=fun k:Nat=>PyData.int (k:Int)) ?_ (by omega) (fun k _=>?_) fun k _ _=>?_
 ·show ((fY T).bind bu)=_
  rw [hs]; rfl
 ·have:neD (.int (k:Int)) (.int 0)=some (.bool (decide (0<k))):=by
   by_cases h:k=0
   ·subst h; rfl
   ·have h1:¬ ((k:Int)=0):=by omega
    have h2:0<k:=by omega
    simp [h,h1,h2]
  simp only [bt,List.map_nil,List.append_nil]
  show (neD (.int (k:Int)) (.int 0)).bind asB=_
  rw [this]; rfl
 ·simp [bt]
theorem AO (T:D) (L:List D) (p:ck [.fz T]=some (.list L)):aF [T]=some (.tuple L):=by
 simp [aF,aV,dJ,aH,p]
structure TT (ss:List Nat) (xs:List Nat):Prop where
 pw:ss.Pairwise (· < ·)
 mem:∀ t,t∈ss↔t∈xs/\0<t
theorem TT.one {ss ss' xs ys:List Nat} (h:TT ss xs) (h':TT ss' ys) (e:∀ t,0<t->(t∈xs↔t∈ys)):ss=ss':=
 im h.pw h'.pw fun t=>by
  rw [h.mem,h'.mem]
  exact ⟨fun ⟨a,b⟩=>⟨(e t b).mp a,b⟩,fun ⟨a,b⟩=>⟨(e t b).mpr a,b⟩⟩
theorem sg (xs:List Nat) (hl:xs.length<64):∃ ss:List Nat,TT ss xs/\ss.length<=xs.length/\aF [.list (ai xs)]=some (.tuple (ai ss))/\aF [.tuple (ai xs)]=some (.tuple (ai ss)):=by
 obtain ⟨rs,h1,h2,h3,h4,h5⟩:=o9 xs hl
 refine ⟨rs.filter fun k=>decide (0<k),⟨h1.sublist List.filter_sublist,fun t=>?_⟩,?_,AO _ _ (AQ xs rs _ (by omega) h4),AO _ _ (AQ xs rs _ (by omega) h5)⟩
 ·rw [List.mem_filter,h2]
  simp
 ·have:=List.length_filter_le (fun k=>decide (0<k)) rs
  omega
noncomputable def hasB (b k:Nat):Bool:=decide (b / 2 ^ k % 2=1)
theorem C6 (b k:Nat):(((b / 2 ^ k % 2:Nat):Int)==1)=hasB b k:=by
 unfold hasB
 rcases Nat.mod_two_eq_zero_or_one (b / 2 ^ k) with h | h <;> rw [h] <;> rfl
theorem gh (b k:Nat):cZ [.int b,.int k]=some (.bool (hasB b k)):=by
 have s:=ii b k
 have o:=FX (b / 2 ^ k)
 have h:=C6 b k
 generalize b / 2 ^ k % 2=z at *
 generalize b / 2 ^ k=y at *
 simp [cZ,aV,yc,aH,s,o,h]
noncomputable def wth (ps:As) (bit ch:Nat):List (Nat×Int):=(ps.filter fun p=>hasB p.1 bit).map fun p=>(p.1 ^^^ ch,(p.2:Int))
noncomputable def i4 (ps:As) (bit:Nat):As:=ps.filter fun p=>!hasB p.1 bit
noncomputable def lP (hs:List Nat) (bit:Nat):List Nat:=hs.filter fun h=>decide (h≠bit)
theorem t6 (a b c d e f:D):cg [a,b,c,d,e,f]=some (.tuple [a,b,c,d,e,f]):=en (by simp)
section
variable (w l:Nat) (hv:Int) (c:Nat) (ps:As) (ts hs:List Nat)
theorem o3:(oI (o2 (oV 0) (oC (.int 3)) az) bu) (.fz (oneD w l hv c (bh ps) ts hs)::r)=some (ps.map pD):=by
 have:az (oneD w l hv c (bh ps) ts hs) (.int 3)=some (.tuple (ps.map pD)):=by rw [sR,ka]
 show (az (oneD w l hv c (bh ps) ts hs) (.int 3)).bind bu=_
 rw [this]; rfl
theorem Ez (bit ch:Nat) (hp:ps.length<=1000) (x3 x4 x5:Sl):fC [.fz (oneD w l hv c (bh ps) ts hs),.fz (.int (bit:Int)),.fz (.int (ch:Int)),x3,x4,x5]=some (.list ((wth ps bit ch).map prD)):=by
 unfold fC wth
 rw [List.map_map]
 refine bM (xs:=ps) (h:=pD) (o3 w l hv c ps ts hs) (by omega) (fun p _=>?_) fun p _ _=>?_
 ·have h:=gh p.1 bit
  generalize hasB p.1 bit=z at *
  simp [bt,pD,h]
 ·have x:=MA.vh p.1 ch
  simp [bt,pD,prD,x]
theorem Ey (bit:Nat) (hp:ps.length<=1000) (x2 x3 x4 x5:Sl):fA [.fz (oneD w l hv c (bh ps) ts hs),.fz (.int (bit:Int)),x2,x3,x4,x5]=some (.list ((i4 ps bit).map pD)):=by
 unfold fA i4
 refine bM (xs:=ps) (h:=pD) (o3 w l hv c ps ts hs) (by omega) (fun p _=>?_) fun p _ _=>?_
 ·have h:=gh p.1 bit
  generalize hasB p.1 bit=z at *
  simp [bt,pD,h]
 ·simp [bt]
theorem wU (h bit:Nat):neD (.int (h:Int)) (.int (bit:Int))=some (.bool (decide (h≠bit))):=by
 by_cases e:h=bit
 ·subst e; simp
 ·have:¬ ((h:Int)=(bit:Int)):=by omega
  simp [e,this]
theorem Ex (bit:Nat) (hh:hs.length<=1000) (x2 x3 x4 x5:Sl):fw [.fz (oneD w l hv c (bh ps) ts hs),.fz (.int (bit:Int)),x2,x3,x4,x5]=some (.list (ai (lP hs bit))):=by
 unfold fw lP
 rw [iA]
 refine bM (xs:=hs) (h:=fun h:Nat=>PyData.int (h:Int)) (by
  have:(oI (o2 (oV 0) (oC (.int 5)) az) bu) [.fz (oneD w l hv c (bh ps) ts hs),.fz (.int (bit:Int)),x2,x3,x4,x5]=some (ai hs):=rfl
  exact this) (by omega) (fun p _=>?_) fun p _ _=>?_
 ·have h:=wU p bit
  generalize decide (p≠bit)=z at *
  simp only [bt]
  show (((zc (some (Sl.fz (.int (p:Int))))).bind fun x=>(zc (some (Sl.fz (.int (bit:Int))))).bind fun y=>neD x y).bind asB)=_
  rw [kj,kj,Option.bind_some,Option.bind_some,h]
  rfl
 ·simp [bt]
theorem GU (O W S H R A4 A0 A1:D) (bit ch t c':Int) (p1:∀ x3 x4 x5,fC [.fz O,.fz (.int bit),.fz (.int ch),x3,x4,x5]=some W) (p2:∀ x3 x4 x5,fA [.fz O,.fz (.int bit),.fz (.int ch),x3,x4,x5]=some S) (hp:∀ x3 x4 x5,fw [.fz O,.fz (.int bit),.fz (.int ch),x3,x4,x5]=some H) (o0:az O (.int 0)=some A0) (o1:az O (.int 1)=some A1) (o2:az O (.int 2)=some (.int c')) (o4:az O (.int 4)=some A4) (g:bb [.int c',S,W]=some (.tuple [.int t,R])) (HT:D) (hH:cE [H]=some HT):bA [O,.int bit,.int ch]=some (.tuple [A0,A1,.int t,R,A4,HT]):=by
 simp [bA,aV,jt,aH,p1,p2,hp,o0,o1,o2,o4,g,hH,t6]
end
theorem Bf {k:Nat} (hk:0<k):∀ {S:As},(aq S).Nodup->(∀ p∈S,p.1 % 2=0)->kv k (bh S)=(vl S k:Int)
 | [],_,_=>by rw [gJ (by simp [aq])]; rfl
 | p::S,nd,h=>by
  have h1:=h p List.mem_cons_self
  have nd':(aq S).Nodup:=(List.nodup_cons.mp nd).2
  have ih:=Bf hk nd' fun q hq=>h q (List.mem_cons_of_mem _ hq)
  have e1:hb p.1=p.1:=by unfold hb; omega
  have e2:he p.1 (p.2:Int)=(p.2:Int):=by unfold he; rw [if_neg (by omega)]
  show (if hb p.1=k then he p.1 (p.2:Int) else 0)+kv k (bh S)=_
  rw [ih,e1,e2,cO]
  by_cases q:p.1=k
  ·rw [if_pos q,if_pos q]
   have:vl S k=0:=gJ (q ▸ (List.nodup_cons.mp nd).1)
   omega
  ·rw [if_neg q,if_neg q]; omega
theorem AN:∀ {S:As},(∀ p∈S,p.1 % 2=0)->tv (bh S)=0
 | [],_=>rfl
 | p::S,h=>by
  have h1:=h p List.mem_cons_self
  show (if p.1 % 2=1 then (p.2:Int) else 0)+tv (bh S)=0
  rw [AN fun q hq=>h q (List.mem_cons_of_mem _ hq),if_neg (by omega)]
  rfl
noncomputable def xb (bit ch:Nat) (p:Nat×Nat):Nat×Int:=(if hasB p.1 bit then p.1 ^^^ ch else p.1,(p.2:Int))
theorem tj (bit ch k:Nat):∀ ps:As,kv k (ps.map (xb bit ch))=kv k (bh (i4 ps bit))+kv k (wth ps bit ch)
 | []=>rfl
 | p::ps=>by
  have ih:=tj bit ch k ps
  show (if hb (xb bit ch p).1=k then he (xb bit ch p).1 (xb bit ch p).2 else 0)+kv k (ps.map (xb bit ch))=_
  rw [ih]
  cases h:hasB p.1 bit with
  | true=>
   have e1:i4 (p::ps) bit=i4 ps bit:=by unfold i4; rw [List.filter_cons_of_neg (by simp [h])]
   have e2:wth (p::ps) bit ch=(p.1 ^^^ ch,(p.2:Int))::wth ps bit ch:=by unfold wth; rw [List.filter_cons_of_pos (by simp [h])]; rfl
   have e3:xb bit ch p=(p.1 ^^^ ch,(p.2:Int)):=by unfold xb; rw [h]; rfl
   rw [e1,e2,e3]
   show (if hb (p.1 ^^^ ch)=k then he (p.1 ^^^ ch) (p.2:Int) else 0)+_=_+((if hb (p.1 ^^^ ch)=k then he (p.1 ^^^ ch) (p.2:Int) else 0)+kv k (wth ps bit ch))
   omega
  | false=>
   have e1:i4 (p::ps) bit=p::i4 ps bit:=by unfold i4; rw [List.filter_cons_of_pos (by simp [h])]
   have e2:wth (p::ps) bit ch=wth ps bit ch:=by unfold wth; rw [List.filter_cons_of_neg (by simp [h])]
   have e3:xb bit ch p=(p.1,(p.2:Int)):=by unfold xb; rw [h]; rfl
   rw [e1,e2,e3]
   show (if hb p.1=k then he p.1 (p.2:Int) else 0)+_=((if hb p.1=k then he p.1 (p.2:Int) else 0)+kv k (bh (i4 ps bit)))+_
   omega
theorem rZ (bit ch:Nat):∀ ps:As,tv (ps.map (xb bit ch))=tv (bh (i4 ps bit))+tv (wth ps bit ch)
 | []=>rfl
 | p::ps=>by
  have ih:=rZ bit ch ps
  show (if (xb bit ch p).1 % 2=1 then (xb bit ch p).2 else 0)+tv (ps.map (xb bit ch))=_
  rw [ih]
  cases h:hasB p.1 bit with
  | true=>
   have e1:i4 (p::ps) bit=i4 ps bit:=by unfold i4; rw [List.filter_cons_of_neg (by simp [h])]
   have e2:wth (p::ps) bit ch=(p.1 ^^^ ch,(p.2:Int))::wth ps bit ch:=by unfold wth; rw [List.filter_cons_of_pos (by simp [h])]; rfl
   have e3:xb bit ch p=(p.1 ^^^ ch,(p.2:Int)):=by unfold xb; rw [h]; rfl
   rw [e1,e2,e3]
   show _=_+((if (p.1 ^^^ ch) % 2=1 then (p.2:Int) else 0)+tv (wth ps bit ch))
   omega
  | false=>
   have e1:i4 (p::ps) bit=p::i4 ps bit:=by unfold i4; rw [List.filter_cons_of_pos (by simp [h])]
   have e2:wth (p::ps) bit ch=wth ps bit ch:=by unfold wth; rw [List.filter_cons_of_neg (by simp [h])]
   have e3:xb bit ch p=(p.1,(p.2:Int)):=by unfold xb; rw [h]; rfl
   rw [e1,e2,e3]
   show _=((if p.1 % 2=1 then (p.2:Int) else 0)+tv (bh (i4 ps bit)))+_
   omega
theorem j7 {a b:Nat} (ha:a<dF) (hb:b<dF):a ^^^ b<dF:=Nat.xor_lt_two_pow (n:=1100) ha hb
theorem xB (ps:As) (bit:Nat):(ps.filter fun p=>!hasB p.1 bit).length+(ps.filter fun p=>hasB p.1 bit).length=ps.length:=by
 induction ps with
 | nil=>rfl
 | cons p ps ih=>
  cases h:hasB p.1 bit with
  | true=>rw [List.filter_cons_of_neg (by simp [h]),List.filter_cons_of_pos (by simp [h]),List.length_cons,List.length_cons]; omega
  | false=>rw [List.filter_cons_of_pos (by simp [h]),List.filter_cons_of_neg (by simp [h]),List.length_cons,List.length_cons]; omega
theorem km {w l:Nat} {hv:Int} {c:Nat} {ps:As} {ts hs:List Nat} {n m:Nat} (S:Sm w l hv c ps ts hs n m) (hm:m<32) (hn:n<=100) (bit ch:Nat):∃ (T:Nat) (R:As),(T:Int)=((c:Int)+tv (ps.map (xb bit ch))) % 8/\RR R (fun k=>kv k (ps.map (xb bit ch)))/\R.length<=ps.length/\bA [oneD w l hv c (bh ps) ts hs,.int (bit:Int),.int (ch:Int)]=some (oneD w l hv T (bh R) ts (lP hs bit)):=by
 have nd:=eT S.pk
 have pl:=S.pl
 have hl:=S.hl
 have ndo:(aq (i4 ps bit)).Nodup:=List.Nodup.sublist (List.filter_sublist.map _) nd
 have ev:∀ p∈i4 ps bit,p.1 % 2=0:=fun p hp=>(S.pe p (List.mem_filter.mp hp).1).2.1
 have ln:(i4 ps bit).length+(wth ps bit ch).length=ps.length:=by
  unfold i4 wth
  rw [List.length_map]
  exact xB ps bit
 have v8:∀ k,vl (i4 ps bit) k<8:=fun k=>by
  by_cases h:k∈aq (i4 ps bit)
  ·obtain ⟨p,hp,rfl⟩:=List.mem_map.mp h
   rw [fT ndo hp]
   have:=S.pe p (List.mem_filter.mp hp).1
   omega
  ·rw [gJ h]; omega
 have n0:0 ∉ aq (i4 ps bit):=fun h=>by
  obtain ⟨p,hp,e⟩:=List.mem_map.mp h
  have:=S.pe p (List.mem_filter.mp hp).1
  omega
 obtain ⟨R,h1,h2,h3⟩:=iV c (i4 ps bit) ndo v8 (wth ps bit ch) (by omega) n0
 have h3:=h3 (.list ((i4 ps bit).map pD)) (Ar _ ndo (by omega))
 have et:tv (ps.map (xb bit ch))=tv (wth ps bit ch):=by rw [rZ,AN ev]; omega
 have x:=GU (oneD w l hv c (bh ps) ts hs) (.list ((wth ps bit ch).map prD)) (.list ((i4 ps bit).map pD)) (.list (ai (lP hs bit))) (.tuple (R.map pD)) (.tuple (ai ts)) (.tuple [.int w,.int l]) (.int hv) bit ch _ c (fun x3 x4 x5=>Ez w l hv c ps ts hs bit ch (by omega) x3 x4 x5) (fun x3 x4 x5=>Ey w l hv c ps ts hs bit (by omega) _ x3 x4 x5) (fun x3 x4 x5=>Ex w l hv c ps ts hs bit (by omega) _ x3 x4 x5) (jy ..) (kE ..) (pK ..) (pJ ..) h3 _ rfl
 refine ⟨(((c:Int)+tv (wth ps bit ch)) % 8).toNat,R,by rw [et]; omega,⟨h1.pk,fun k hk=>?_,h1.nz⟩,by omega,?_⟩
 ·rw [h1.val k hk,tj,Bf hk ndo ev]
 ·rw [x]
  unfold oneD
  rw [ka,Int.toNat_of_nonneg (by omega)]
noncomputable def eN (x:MA.Q4) (k:Int):D:=.tuple [.int x.a,.int x.b,.int x.c,.int x.d,.int k]
theorem gu {x y:MA.Q4} {k l:Nat} (h:MA.Q4.Least y l) (hl:l<=k) (e:MA.Q4.rtn (k-l) y=x):MA.f9 x k=(y,(l:Int)):=by
 obtain ⟨c,e1,hc,hn⟩:=MA.qY x k
 have:=MA.Is.one hn (show MA.Is y l x k from ⟨h,by
  rw [<- e,<- MA.Q4.rtn_add,show l+(k-l)=k by omega]⟩) rfl
 refine Prod.ext this.1 ?_
 rw [e1,this.2]
theorem Fz (x:MA.Q4) (h1:(x.a+x.c) % 2=0) (h2:(x.b+x.d) % 2=0):MA.Q4.rt ⟨(x.b-x.d) / 2,(x.a+x.c) / 2,(x.b+x.d) / 2,(x.c-x.a) / 2⟩=x:=by
 apply MA.Q4.ext' <;> simp [MA.Q4.rt] <;> omega
theorem kN:∀ (k:Nat) (x:MA.Q4),cY bU eJ (k+1) [.fz (eN x k)]=some (.nx,[.fz (eN (MA.f9 x k).1 (MA.f9 x k).2)])
 | 0,x=>by
  have e:MA.f9 x ((0:Nat):Int)=(x,((0:Nat):Int)):=gu ⟨by omega,fun z=>absurd z (by decide)⟩ (Nat.le_refl _) rfl
  rw [e]
  exact da 0 (by simp [bU,eN])
 | k+1,x=>by
  have hp:(0:Int)<(k:Int)+1:=by omega
  by_cases h1:(x.a+x.c) % 2=0
  ·by_cases h2:(x.b+x.d) % 2=0
   ·have hr:=Fz x h1 h2
    have ih:=kN k ⟨(x.b-x.d) / 2,(x.a+x.c) / 2,(x.b+x.d) / 2,(x.c-x.a) / 2⟩
    have e:MA.f9 x ((k+1:Nat):Int)=MA.f9 ⟨(x.b-x.d) / 2,(x.a+x.c) / 2,(x.b+x.d) / 2,(x.c-x.a) / 2⟩ (k:Int):=by
     obtain ⟨c,e1,hc,hn⟩:=MA.qY ⟨(x.b-x.d) / 2,(x.a+x.c) / 2,(x.b+x.d) / 2,(x.c-x.a) / 2⟩ k
     have:=gu (x:=x) (k:=k+1) hn.1 (by omega) (by
      refine MA.Q4.rtn_inj (n:=c) ?_
      rw [<- MA.Q4.rtn_add,show c+(k+1-c)=1+k by omega,MA.Q4.rtn_add,hn.2,<- MA.Q4.rtn_add,Nat.add_comm 1 c,MA.Q4.rtn_add]
      exact congrArg (MA.Q4.rtn c) hr)
     rw [this,<- e1]
    rw [e]
    refine j8 (k+1) (by simp [bU,eN,h1,h2,hp]) (δ2:=[.fz (eN ⟨(x.b-x.d) / 2,(x.a+x.c) / 2,(x.b+x.d) / 2,(x.c-x.a) / 2⟩ k)]) (by simp [eJ,eN]) ih
   ·have e:MA.f9 x ((k+1:Nat):Int)=(x,((k+1:Nat):Int)):=gu ⟨by omega,fun _ z=>by have:=z.2; omega⟩ (Nat.le_refl _) (by simp [MA.Q4.rtn])
    rw [e]
    exact da _ (by simp [bU,eN,h1,h2,hp])
  ·have e:MA.f9 x ((k+1:Nat):Int)=(x,((k+1:Nat):Int)):=gu ⟨by omega,fun _ z=>by have:=z.1; omega⟩ (Nat.le_refl _) (by simp [MA.Q4.rtn])
   rw [e]
   exact da _ (by simp [bU,eN,h1,hp])
theorem pX (x:MA.Q4) (k:Nat) (hk:k<=100000):bQ [eN x k]=some (eN (MA.f9 x k).1 (MA.f9 x k).2):=by
 have:=dU (kN k x) (show k+1<=wN by simp [wN]; omega)
 simp [bQ,aV,fM,aH,this]
noncomputable def pop:Nat->Nat
 | 0=>0
 | n+1=>(n+1) % 2+pop ((n+1) / 2)
theorem gY (n:Nat):pop n=n % 2+pop (n / 2):=by
 cases n with
 | zero=>simp [pop]
 | succ n=>rw [pop]
theorem jj (a b:Nat):(a &&& b) / 2=a / 2 &&& b / 2:=by
 apply Nat.eq_of_testBit_eq
 intro i
 rw [Nat.testBit_and,<- Nat.testBit_add_one,<- Nat.testBit_add_one,<- Nat.testBit_add_one,Nat.testBit_and]
theorem kP (a b:Nat):(a &&& b) % 2=a % 2*(b % 2):=by
 have h:=Nat.testBit_and a b 0
 simp only [Nat.testBit_zero] at h
 have ha:a % 2=0\/a % 2=1:=by omega
 have hb:b % 2=0\/b % 2=1:=by omega
 have hc:(a &&& b) % 2=0\/(a &&& b) % 2=1:=by omega
 rcases ha with ha | ha <;> rcases hb with hb | hb <;> rcases hc with hc | hc <;> simp [ha,hb,hc] at h ⊢
noncomputable def dotn (a b:Nat):Nat:=pop (a &&& b)
theorem dh (a b:Nat):dotn a b=a % 2*(b % 2)+dotn (a / 2) (b / 2):=by
 unfold dotn
 rw [gY,kP,jj]
theorem mR (a b:Nat):dotn a b=dotn b a:=by unfold dotn; rw [Nat.and_comm]
theorem mQ (a:Nat):dotn a 0=0:=by unfold dotn; simp [pop]
theorem iK:∀ (h b c:Nat),c / 2 ^ h % 2=0->dotn b (c+2 ^ h)=dotn b c+b / 2 ^ h % 2
 | 0,b,c,hc=>by
  simp only [Nat.pow_zero,Nat.div_one] at hc ⊢
  rw [dh b (c+1),dh b c,show (c+1) % 2=1 by omega,show (c+1) / 2=c / 2 by omega,hc]
  omega
 | h+1,b,c,hc=>by
  have e:c / 2 ^ (h+1)=c / 2 / 2 ^ h:=by rw [Nat.div_div_eq_div_mul,Nat.pow_succ,Nat.mul_comm]
  have e2:b / 2 ^ (h+1)=b / 2 / 2 ^ h:=by rw [Nat.div_div_eq_div_mul,Nat.pow_succ,Nat.mul_comm]
  have ih:=iK h (b / 2) (c / 2) (by rw [<- e]; exact hc)
  rw [dh b (c+2 ^ (h+1)),dh b c,show (c+2 ^ (h+1)) % 2=c % 2 by rw [Nat.pow_succ]; omega,show (c+2 ^ (h+1)) / 2=c / 2+2 ^ h by rw [Nat.pow_succ]; omega,ih,e2]
  omega
theorem lh {c h:Nat} (hc:c<2 ^ h):c / 2 ^ h % 2=0:=by rw [Nat.div_eq_of_lt hc]
theorem va {c h:Nat} (b w:Nat) (hc:c<2 ^ h) (hw:w<2):dotn b (c+w*2 ^ h)=dotn b c+b / 2 ^ h % 2*w:=by
 have:w=0\/w=1:=by omega
 rcases this with rfl | rfl
 ·simp
 ·rw [Nat.one_mul,iK h b c (lh hc),Nat.mul_one]
theorem lO (n:Nat):(2*n+1) &&& (2*n)=2*n:=by
 have h1:=jj (2*n+1) (2*n)
 have h2:=kP (2*n+1) (2*n)
 rw [show (2*n+1) / 2=n by omega,show 2*n / 2=n by omega,Nat.and_self] at h1
 rw [show 2*n % 2=0 by omega,Nat.mul_zero] at h2
 omega
theorem kO (n:Nat) (hn:0<n):(2*n) &&& (2*n-1)=2*(n &&& (n-1)):=by
 have h1:=jj (2*n) (2*n-1)
 have h2:=kP (2*n) (2*n-1)
 rw [show (2*n-1) / 2=n-1 by omega,show 2*n / 2=n by omega] at h1
 have:2*n % 2=0:=by omega
 rw [this,Nat.zero_mul] at h2
 omega
theorem wv:∀ (n:Nat),0<n->pop (n &&& (n-1))+1=pop n:=by
 intro n
 induction n using Nat.strongRecOn with
 | _ n ih=>
  intro hn
  rcases Nat.mod_two_eq_zero_or_one n with h | h
  ·obtain ⟨m,rfl⟩:∃ m,n=2*m:=⟨n / 2,by omega⟩
   rw [kO m (by omega),gY (2*(m &&& (m-1))),gY (2*m),show 2*(m &&& (m-1)) / 2=m &&& (m-1) by omega,show 2*m / 2=m by omega,<- ih m (by omega) (by omega)]
   omega
  ·obtain ⟨m,rfl⟩:∃ m,n=2*m+1:=⟨n / 2,by omega⟩
   rw [show 2*m+1-1=2*m by omega,lO,gY (2*m+1),gY (2*m),show (2*m+1) / 2=m by omega,show 2*m / 2=m by omega]
   omega
theorem ww:∀ (L n:Nat),n<2 ^ L->pop n<=L
 | 0,n,h=>by
  have:n=0:=by simpa using h
  subst this; simp [pop]
 | L+1,n,h=>by
  rw [gY]
  have:=ww L (n / 2) (by rw [Nat.pow_succ] at h; omega)
  omega
theorem Aq {L b c:Nat} (h:c<2 ^ L):dotn b c<=L:=ww L _ (Nat.lt_of_le_of_lt Nat.and_le_right h)
theorem vi (n:Nat) (hn:0<n):Builtin.bitAnd (n:Int) ((n:Int)-1)=((n &&& (n-1):Nat):Int):=by
 rw [show ((n:Int)-1)=((n-1:Nat):Int) by omega,MA.AB]
theorem Da {v:Nat} (h:v<2):(1:Int)-(v:Int)=((v+1) % 2:Nat):=by
 have:v=0\/v=1:=by omega
 rcases this with rfl | rfl <;> rfl
theorem pP:∀ (k n v:Nat) (x y:Sl),pop n=k->v<2->cY dw ez (k+1) [x,y,.fz (.int n),.fz (.int v)]=some (.nx,[x,y,.fz (.int 0),.fz (.int ((v+k) % 2:Nat))])
 | k,n,v,x,y,hk,hv=>by
  by_cases hn:n=0
  ·subst hn
   have:k=0:=by rw [<- hk]; simp [pop]
   subst this
   rw [show (v+0) % 2=v by omega]
   exact da 0 (by simp [dw])
  ·have hp:=wv n (by omega)
   obtain ⟨j,rfl⟩:∃ j,k=j+1:=⟨k-1,by omega⟩
   have ih:=pP j (n &&& (n-1)) ((v+1) % 2) x y (by omega) (by omega)
   have hb:=vi n (by omega)
   have hf:=Da hv
   have hn':(0:Int)<n:=by omega
   refine j8 (j+1) (by simp [dw]; omega) (δ2:=[x,y,.fz (.int (n &&& (n-1):Nat)),.fz (.int ((v+1) % 2:Nat))]) (by simp only [ez,ay,aI,o2,oV,oC]; simp [hb,hf]) ?_
   rw [ih,show ((v+1) % 2+j) % 2=(v+(j+1)) % 2 by omega]
theorem wP {L b c:Nat} (hc:c<2 ^ L) (hL:L<=100000):cF [.int b,.int c]=some (.int (dotn b c % 2:Nat)):=by
 have hp:=Aq (b:=b) hc
 have l:=dU (pP (dotn b c) (b &&& c) 0 (.fz (.int b)) (.fz (.int c)) rfl (by decide)) (show dotn b c+1<=wN by simp [wN]; omega)
 have hb:=MA.AB b c
 rw [Nat.zero_add] at l
 have l':cY dw ez wN [.fz (.int b),.fz (.int c),.fz (.int ((b &&& c:Nat):Int)),.fz (.int 0)]=_:=l
 simp [cF,aV,hV,aH,hb,l']
noncomputable def yr (b:Nat):List Nat->Nat
 | []=>0
 | h::t=>b / 2 ^ h % 2+2*yr b t
noncomputable def tsum (told:Nat) (hs:List Nat) (w:Nat):List (Nat×Int)->Int
 | []=>0
 | p::r=>p.2*((dotn p.1 told+dotn (yr p.1 hs) w) % 2:Nat)+tsum told hs w r
theorem jX {a:Nat} (b:Nat) (ha:a<2 ^ 60):cA (.int (a:Int)) (.int (b:Int))=some (.int ((a*b:Nat):Int)):=by
 have:IntMulOk (a:Int) (b:Int):=.of_left (Nat.le_trans (MA.iR (m:=60) (by rw [Int.natAbs_natCast]; exact ha)) (by decide))
 rw [dB this]
 congr 2
theorem j5 (a b:Nat):aN (.int (a:Int)) (.int (b:Int))=some (.int ((a+b:Nat):Int)):=by
 rw [iW]
 congr 2
noncomputable def bo (w p:Nat):List Nat:=(List.range w).map fun j=>p / 2 ^ (w-1-j) % 2
noncomputable def qw:List Nat->Nat
 | []=>0
 | x::t=>x+2*qw t
theorem wM:∀ l:List Nat,(∀ x∈l,x<2)->qw l<2 ^ l.length
 | [],_=>by simp [qw]
 | x::t,h=>by
  have:=wM t fun y hy=>h y (List.mem_cons_of_mem _ hy)
  have:=h x List.mem_cons_self
  unfold qw
  rw [List.length_cons,Nat.pow_succ]
  omega
theorem Dj (w p:Nat):(bo w p).length=w:=by simp [bo]
noncomputable def tb (w b e:Nat):Nat->Nat
 | 0=>1
 | j+1=>tb w b e j+b / 2 ^ (w-1-j) % 2*2 ^ (1+j)+e / 2 ^ (w-1-j) % 2*2 ^ (1+w+j)
noncomputable def tm (w:Nat) (ms:List Nat) (T:Nat):Nat->Nat
 | 0=>T
 | m+1=>tm w ms T m+ms.getD m 0*2 ^ (1+2*w+m)
theorem GE (S M:D) (b e w T j:Nat) (x7:Sl) (hj:j<w) (hw:w<=100):bE [.fz S,.fz (.int b),.fz M,.fz (.int e),.fz (.int w),.fz (.int T),.fz (.int j),x7]=some (.nx,[.fz S,.fz (.int b),.fz M,.fz (.int e),.fz (.int w),.fz (.int (T+b / 2 ^ (w-1-j) % 2*2 ^ (1+j)+e / 2 ^ (w-1-j) % 2*2 ^ (1+w+j):Nat)),.fz (.int j),x7]):=by
 have s1:=ii b (w-1-j)
 have s2:=ii e (w-1-j)
 rw [show (((w-1-j:Nat):Int))=(w:Int)-1-j by omega] at s1 s2
 have m1:=gc (b / 2 ^ (w-1-j))
 have m2:=gc (e / 2 ^ (w-1-j))
 have l1:=cT (k:=1+j) (by omega)
 have l2:=cT (k:=1+w+j) (by omega)
 rw [show (((1+j:Nat):Int))=1+(j:Int) by omega] at l1
 rw [show (((1+w+j:Nat):Int))=1+(w:Int)+(j:Int) by omega] at l2
 have u1:=jX (a:=b / 2 ^ (w-1-j) % 2) (2 ^ (1+j)) (by omega)
 have u2:=jX (a:=e / 2 ^ (w-1-j) % 2) (2 ^ (1+w+j)) (by omega)
 generalize b / 2 ^ (w-1-j) % 2*2 ^ (1+j)=p1 at *
 generalize e / 2 ^ (w-1-j) % 2*2 ^ (1+w+j)=p2 at *
 generalize b / 2 ^ (w-1-j) % 2=q1 at *
 generalize e / 2 ^ (w-1-j) % 2=q2 at *
 generalize b / 2 ^ (w-1-j)=r1 at *
 generalize e / 2 ^ (w-1-j)=r2 at *
 generalize 2 ^ (1+j)=t1 at *
 generalize 2 ^ (1+w+j)=t2 at *
 have a1:=j5 T p1
 have a2:=j5 (T+p1) p2
 generalize T+p1+p2=z2 at *
 generalize T+p1=z1 at *
 simp only [bE,ay,aI,o2,oV,oC]
 simp [-iW,s1,s2,m1,m2,l1,l2,u1,u2,a1,a2,show aN (.int 1) (.int (j:Int))=some (.int (1+(j:Int))) from rfl,show aN (.int 1) (.int (w:Int))=some (.int (1+(w:Int))) from rfl,show aN (.int (1+(w:Int))) (.int (j:Int))=some (.int (1+(w:Int)+(j:Int))) from rfl]
theorem GD (S B E:D) (w T m:Nat) (ms:List Nat) (x6:Sl) (hm:m<ms.length) (h2:ms.getD m 0<2) (hw:w<=100) (hm2:m<=100):bD [.fz S,.fz B,.fz (.tuple (ai ms)),.fz E,.fz (.int w),.fz (.int T),x6,.fz (.int m)]=some (.nx,[.fz S,.fz B,.fz (.tuple (ai ms)),.fz E,.fz (.int w),.fz (.int (T+ms.getD m 0*2 ^ (1+2*w+m):Nat)),x6,.fz (.int m)]):=by
 have a:=kK ms hm
 have l:=cT (k:=1+2*w+m) (by omega)
 rw [show (((1+2*w+m:Nat):Int))=1+2*(w:Int)+(m:Int) by omega] at l
 have u:=jX (a:=ms.getD m 0) (2 ^ (1+2*w+m)) (by omega)
 have v:cA (.int 2) (.int (w:Int))=some (.int (2*(w:Int))):=dB (.of_left (by decide))
 generalize ms.getD m 0*2 ^ (1+2*w+m)=p at *
 generalize ms.getD m 0=q at *
 generalize 2 ^ (1+2*w+m)=t at *
 have a1:=j5 T p
 generalize T+p=z at *
 simp only [bD,aI,o2,oV,oC]
 simp [-iW,a,l,u,v,a1,show aN (.int 1) (.int (2*(w:Int)))=some (.int (1+2*(w:Int))) from rfl,show aN (.int (1+2*(w:Int))) (.int (m:Int))=some (.int (1+2*(w:Int)+(m:Int))) from rfl]
theorem yG (S0 w l b e T1 T2:Int) (M:D) (R1 R2:List D) (x6 x6' x7':Sl) (r1:cz [.int w]=some R1) (r2:cz [.int l]=some R2) (lp1:loop (gN 6) bE R1 [.fz (.tuple [.int w,.int l]),.fz (.int b),.fz M,.fz (.int e),.fz (.int w),.fz (.int 1),.un,.un]=some (.nx,[.fz (.tuple [.int w,.int l]),.fz (.int b),.fz M,.fz (.int e),.fz (.int w),.fz (.int T1),x6,.un]))
  (lp2:loop (gN 7) bD R2 [.fz (.tuple [.int w,.int l]),.fz (.int b),.fz M,.fz (.int e),.fz (.int w),.fz (.int T1),x6,.un]=some (.nx,[.fz (.tuple [.int w,.int l]),.fz (.int b),.fz M,.fz (.int e),.fz (.int w),.fz (.int T2),x6',x7'])):aK [.tuple [.int w,.int l],.int b,M,.int e]=some (.int T2):=by
 simp [aK,aV,dj,aH,r1,r2,lp1,lp2]
theorem vD (w b e:Nat) (ms:List Nat) (hw:w<=100) (hm:ms.length<=100) (h2:∀ x∈ms,x<2):aK [.tuple [.int w,.int (ms.length:Nat)],.int b,.tuple (ai ms),.int e]=some (.int (tm w ms (tb w b e w) ms.length:Nat)):=by
 have r1:=qO (n:=w) (by omega)
 have r2:=qO (n:=ms.length) (by omega)
 obtain ⟨δ1,e1,x6,rfl⟩:=eU (b:=bE) (k:=6) (fun i δ=>∃ x6:Sl,δ = [.fz (.tuple [.int w,.int (ms.length:Nat)]),.fz (.int b),.fz (.tuple (ai ms)),.fz (.int e),.fz (.int w),.fz (.int (tb w b e i:Nat)),x6,.un]) w (fun i hi δ hd=>by
  obtain ⟨x6,rfl⟩:=hd
  exact ⟨_,GE _ _ b e w (tb w b e i) i .un hi hw,_,rfl⟩) [.fz (.tuple [.int w,.int (ms.length:Nat)]),.fz (.int b),.fz (.tuple (ai ms)),.fz (.int e),.fz (.int w),.fz (.int 1),.un,.un] ⟨_,rfl⟩
 obtain ⟨δ2,e2,x7,rfl⟩:=eU (b:=bD) (k:=7) (fun i δ=>∃ x7:Sl,δ = [.fz (.tuple [.int w,.int (ms.length:Nat)]),.fz (.int b),.fz (.tuple (ai ms)),.fz (.int e),.fz (.int w),.fz (.int (tm w ms (tb w b e w) i:Nat)),x6,x7]) ms.length (fun i hi δ hd=>by
  obtain ⟨x7,rfl⟩:=hd
  exact ⟨_,GD _ _ _ w (tm w ms (tb w b e w) i) i ms x6 hi (by
   rw [List.getD_eq_getElem?_getD,List.getElem?_eq_getElem hi]
   exact h2 _ (List.getElem_mem hi)) hw (by omega),_,rfl⟩) [.fz (.tuple [.int w,.int (ms.length:Nat)]),.fz (.int b),.fz (.tuple (ai ms)),.fz (.int e),.fz (.int w),.fz (.int (tb w b e w:Nat)),x6,.un] ⟨_,rfl⟩
 exact yG 0 _ _ _ _ _ _ _ _ _ _ _ _ r1 r2 e1 e2
theorem uh (w b e:Nat) (ms:List Nat) (h1:1<=w) (hw:w<=3) (hm:ms.length<=2):tm w ms (tb w b e w) ms.length=qw (1::(bo w b++bo w e++ms)):=by
 have hw':w=1\/w=2\/w=3:=by omega
 have r1:List.range 1=[0]:=rfl
 have r2:List.range 2=[0,1]:=rfl
 have r3:List.range 3=[0,1,2]:=rfl
 match ms,hm with
 | [],_=>
  rcases hw' with rfl | rfl | rfl
  ·simp [tm,tb,bo,qw,r1]; omega
  ·simp [tm,tb,bo,qw,r2]; omega
  ·simp [tm,tb,bo,qw,r3]; omega
 | [x],_=>
  rcases hw' with rfl | rfl | rfl
  ·simp [tm,tb,bo,qw,r1]; omega
  ·simp [tm,tb,bo,qw,r2]; omega
  ·simp [tm,tb,bo,qw,r3]; omega
 | [x,y],_=>
  rcases hw' with rfl | rfl | rfl
  ·simp [tm,tb,bo,qw,r1]; omega
  ·simp [tm,tb,bo,qw,r2]; omega
  ·simp [tm,tb,bo,qw,r3]; omega
noncomputable def spr (told:Nat) (hs:List Nat) (way:Nat):Nat->Nat
 | 0=>told
 | k+1=>spr told hs way k+way / 2 ^ k % 2*2 ^ hs.getD k 0
noncomputable def yo (told:Nat) (hs:List Nat):Prop:=hs.Pairwise (· < ·)/\∀ h∈hs,told<2 ^ h
theorem Am {hs:List Nat} (H:hs.Pairwise (· < ·)) {i j:Nat} (hi:i<j) (hj:j<hs.length):hs.getD i 0<hs.getD j 0:=by
 rw [List.getD_eq_getElem?_getD,List.getElem?_eq_getElem (by omega),List.getD_eq_getElem?_getD,List.getElem?_eq_getElem hj]
 exact List.pairwise_iff_getElem.mp H i j (by omega) hj hi
theorem qI {told way:Nat} {hs:List Nat} (H:yo told hs):∀ k,k<=hs.length->∀ j,k<=j->j<hs.length->spr told hs way k<2 ^ hs.getD j 0
 | 0,_,j,_,hj=>H.2 _ (gi hj)
 | k+1,hk,j,hkj,hj=>by
  have ih:=qI H (way:=way) k (by omega) k (Nat.le_refl _) (by omega)
  have lt:=Am H.1 (show k<j by omega) hj
  have:2 ^ (hs.getD k 0+1)<=2 ^ hs.getD j 0:=Nat.pow_le_pow_right (by decide) lt
  rw [Nat.pow_succ] at this
  have w:way / 2 ^ k % 2=0\/way / 2 ^ k % 2=1:=by omega
  unfold spr
  rcases w with w | w
  ·rw [w]; omega
  ·rw [w]; omega
theorem sr {told way b:Nat} {hs:List Nat} (H:yo told hs):∀ k,k<=hs.length->dotn b (spr told hs way k)=dotn b told+((List.range k).map fun j=>b / 2 ^ hs.getD j 0 % 2*(way / 2 ^ j % 2)).sum
 | 0,_=>by simp [spr]
 | k+1,hk=>by
  have lt:=qI H (way:=way) k (by omega) k (Nat.le_refl _) (by omega)
  unfold spr
  rw [va b _ lt (Nat.mod_lt _ (by decide)),sr H k (by omega),List.range_succ,List.map_append,List.sum_append]
  simp
  omega
theorem uj (f:Nat->Nat) (n:Nat):((List.range (n+1)).map f).sum=f 0+((List.range n).map fun k=>f (k+1)).sum:=by
 rw [List.range_succ_eq_map,List.map_cons,List.sum_cons,List.map_map]
 rfl
theorem sK (b:Nat):∀ (hs:List Nat) (way:Nat),dotn (yr b hs) way=((List.range hs.length).map fun j=>b / 2 ^ hs.getD j 0 % 2*(way / 2 ^ j % 2)).sum
 | [],way=>by
  show dotn 0 way=0
  rw [mR,mQ]
 | h::t,way=>by
  have ih:=sK b t (way / 2)
  rw [List.length_cons,uj,dh]
  unfold yr
  rw [show (b / 2 ^ h % 2+2*yr b t) % 2=b / 2 ^ h % 2 by omega,show (b / 2 ^ h % 2+2*yr b t) / 2=yr b t by omega,ih]
  have e:∀ k,way / 2 / 2 ^ k=way / 2 ^ (k+1):=fun k=>by rw [Nat.div_div_eq_div_mul,Nat.pow_succ,Nat.mul_comm]
  simp [e]
theorem na {told way b:Nat} {hs:List Nat} (H:yo told hs):dotn b (spr told hs way hs.length)=dotn b told+dotn (yr b hs) way:=by
 rw [sr H _ (Nat.le_refl _),sK]
noncomputable def dA:MA.Q4:=⟨1,0,0,0⟩
noncomputable def acc (t B:Nat->Int):Nat->MA.Q4
 | 0=>⟨0,0,0,0⟩
 | k+1=>if B k=0 then MA.Q4.add (acc t B k) (MA.cw (t k % 8).toNat dA) else acc t B k
theorem yF (x y:MA.Q4):MA.Q4.tn (MA.Q4.add x y)=MA.Q4.add (MA.Q4.tn x) (MA.Q4.tn y):=by
 apply MA.Q4.ext' <;> simp [MA.Q4.tn,MA.Q4.add] <;> omega
theorem kb (x y:MA.Q4):∀ n:Nat,MA.cw n (MA.Q4.add x y)=MA.Q4.add (MA.cw n x) (MA.cw n y)
 | 0=>rfl
 | n+1=>by
  show MA.Q4.tn (MA.cw n (MA.Q4.add x y))=_
  rw [kb x y n,yF]; rfl
theorem gS:∀ n:Nat,MA.cw n ⟨0,0,0,0⟩=⟨0,0,0,0⟩
 | 0=>rfl
 | n+1=>by
  show MA.Q4.tn (MA.cw n ⟨0,0,0,0⟩)=_
  rw [gS n]; rfl
theorem iX (c:Nat) (t B:Nat->Int):∀ k:Nat,acc (fun w=>(c:Int)+t w) B k=MA.cw c (acc t B k)
 | 0=>(gS c).symm
 | k+1=>by
  unfold acc
  by_cases h:B k=0
  ·rw [if_pos h,if_pos h,kb,iX c t B k]
   have e:(((c:Int)+t k) % 8).toNat=(c+(t k % 8).toNat) % 8:=by omega
   rw [e,MA.fh,MA.er]
  ·rw [if_neg h,if_neg h,iX c t B k]
theorem Hc (O:D) (hs:List Nat) (way bits k:Nat) (x1 x2 x6 x7 x8:Sl) (o5:az O (.int 5)=some (.tuple (ai hs))) (hk:k<hs.length) (hb:hs.getD k 0<=1000):bF [.fz O,x1,x2,.fz (.int way),.fz (.int bits),.fz (.int k),x6,x7,x8]=some (.nx,[.fz O,x1,x2,.fz (.int way),.fz (.int (bits+way / 2 ^ k % 2*2 ^ hs.getD k 0:Nat)),.fz (.int k),x6,x7,x8]):=by
 have a:=kK hs hk
 have s:=ii way k
 have m:=gc (way / 2 ^ k)
 have l:=cT (k:=hs.getD k 0) (by omega)
 have u:=jX (a:=way / 2 ^ k % 2) (2 ^ hs.getD k 0) (by omega)
 generalize way / 2 ^ k % 2*2 ^ hs.getD k 0=p at *
 generalize way / 2 ^ k % 2=q at *
 generalize way / 2 ^ k=r at *
 generalize 2 ^ hs.getD k 0=t at *
 generalize hs.getD k 0=h at *
 have d:=j5 bits p
 generalize bits+p=z at *
 simp only [bF,aI,o2,oV,oC]
 simp [-iW,o5,a,s,m,l,u,d]
theorem uK (e:Int) {b:Nat} (hb:b<2):cA (.int e) (.int (b:Int))=some (.int (e*(b:Nat))):=dB (.of_right (Nat.le_trans (MA.iR (m:=2) (by omega)) (by decide)))
theorem r6 (told:Nat) (hs:List Nat) (w:Nat):∀ ps:List (Nat×Int),(ps.map fun p:Nat×Int=>p.2*(((dotn p.1 told+dotn (yr p.1 hs) w) % 2:Nat):Int)).sum=tsum told hs w ps
 | []=>rfl
 | p::r=>by rw [List.map_cons,List.sum_cons,r6 told hs w r]; rfl
noncomputable def tieP (t:Nat):Nat×Int:=(t,1)
theorem r0 (told:Nat) (hs:List Nat) (w:Nat):∀ ts:List Nat,(ts.map fun t=>(((dotn t told+dotn (yr t hs) w) % 2:Nat):Int)).sum=tsum told hs w (ts.map tieP)
 | []=>rfl
 | t::r=>by
  rw [List.map_cons,List.sum_cons,r0 told hs w r,List.map_cons]
  show _=1*_+_
  rw [Int.one_mul]; rfl
theorem ur {told way:Nat} {hs:List Nat} (H:yo told hs) (ht:told<2 ^ 1000) (hb:∀ h∈hs,h<1000):∀ k,k<=hs.length->spr told hs way k<2 ^ 1000
 | 0,_=>ht
 | k+1,hk=>by
  have lt:=qI H (way:=way) k (by omega) k (Nat.le_refl _) (by omega)
  have:2 ^ (hs.getD k 0+1)<=2 ^ 1000:=Nat.pow_le_pow_right (by decide) (hb _ (gi (by omega)))
  rw [Nat.pow_succ] at this
  have w:way / 2 ^ k % 2=0\/way / 2 ^ k % 2=1:=by omega
  unfold spr
  rcases w with w | w
  ·rw [w]; omega
  ·rw [w]; omega
theorem Hb (O:D) (ts:List Nat) (bits:Nat) (x1 x2 x3 x5 x6 x7 x8:Sl) (o4:az O (.int 4)=some (.tuple (ai ts))) (hb:bits<2 ^ 1000) (ht:ts.length<=1000):bZ [.fz O,x1,x2,x3,.fz (.int bits),x5,x6,x7,x8]=some (.list (ts.map fun t=>.int ((dotn t bits % 2:Nat):Int))):=by
 unfold bZ
 refine d4 (xs:=ts) (h:=fun t=>.int ((t:Nat):Int)) ?_ (by omega) fun t _=>?_
 ·have:(oI (o2 (oV 0) (oC (.int 4)) az) bu) [.fz O,x1,x2,x3,.fz (.int bits),x5,x6,x7,x8]=some (ai ts):=by simp [o4]
  exact this
 ·have o:=wP (b:=t) hb (by omega)
  generalize dotn t bits % 2=z at *
  simp [bt,o]
theorem Ha (O:D) (ps:List (Nat×Int)) (bits:Nat) (x1 x2 x3 x5 x6 x7 x8:Sl) (o3:az O (.int 3)=some (.tuple (ps.map prD))) (hb:bits<2 ^ 1000) (ht:ps.length<=1000):bY [.fz O,x1,x2,x3,.fz (.int bits),x5,x6,x7,x8]=some (.list (ps.map fun p=>.int (p.2*(dotn p.1 bits % 2:Nat)))):=by
 unfold bY
 refine d4 (xs:=ps) (h:=prD) ?_ (by omega) fun p _=>?_
 ·have:(oI (o2 (oV 0) (oC (.int 3)) az) bu) [.fz O,x1,x2,x3,.fz (.int bits),x5,x6,x7,x8]=some (ps.map prD):=by simp [o3]
  exact this
 ·have o:=wP (b:=p.1) hb (by omega)
  have m:=uK p.2 (b:=dotn p.1 bits % 2) (Nat.mod_lt _ (by decide))
  generalize dotn p.1 bits % 2=z at *
  simp [bt,prD,o,m]
noncomputable def nE (x:MA.Q4):List D:=[.int x.a,.int x.b,.int x.c,.int x.d]
theorem B9 (x:MA.Q4) (e:Nat) (he:e<8):∃ old:Int,gO (nE x) ((e % 4:Nat):Int)=some (.int old)/\zp (nE x) (.int ((e % 4:Nat):Int)) (.int (old+1-2*((e / 4:Nat):Int)))=some (nE (MA.Q4.add x (MA.cw e dA))):=by
 have w:e=0\/e=1\/e=2\/e=3\/e=4\/e=5\/e=6\/e=7:=by omega
 rcases w with rfl | rfl | rfl | rfl | rfl | rfl | rfl | rfl
 all_goals refine ⟨_,rfl,?_⟩
 all_goals
  simp only [nE,MA.cw,MA.Q4.tn,dA,MA.Q4.add]
  rw [io]
  simp [yt,List.set]
  try omega
theorem Hk (O:D) (told:Int) (P P':List D) (way bits n e c sp st old j q:Int) (H L1 L2 L3:List D) (x4 x5 x6 x7 x8 y5:Sl) (o5:az O (.int 5)=some (.tuple H)) (hl:(H.length:Int)=n) (r:cz [.int n]=some L3) (o2':az O (.int 2)=some (.int c))
  (lp:loop (gN 5) bF L3 [.fz O,.fz (.int told),.ow P,.fz (.int way),.fz (.int told),x5,x6,x7,x8]=some (.nx,[.fz O,.fz (.int told),.ow P,.fz (.int way),.fz (.int bits),y5,x6,x7,x8])) (q1:bZ [.fz O,.fz (.int told),.ow P,.fz (.int way),.fz (.int bits),y5,x6,x7,x8]=some (.list L1)) (s1:gX [.list L1]=some (.int st))
  (q2:bY [.fz O,.fz (.int told),.ow P,.fz (.int way),.fz (.int bits),y5,x6,x7,x8]=some (.list L2)) (s2:gX [.list L2]=some (.int sp)) (he:(c+sp) % 8=e) (hj:e % 4=j) (hq:e / 4=q) (ha:gO P j=some (.int old)) (hp:zp P (.int j) (.int (old+1-2*q))=some P') :
  aS [.fz O,.fz (.int told),.ow P,.fz (.int way),x4,x5,x6,x7,x8]=some (.nx,if st=0 then [.fz O,.fz (.int told),.ow P',.fz (.int way),.fz (.int bits),y5,.fz (.int e),x7,x8] else [.fz O,.fz (.int told),.ow P,.fz (.int way),.fz (.int bits),y5,x6,x7,x8]):=by
 have mk:cA (.int 2) (.int q)=some (.int (2*q)):=dB (.of_left (by decide))
 by_cases h:st=0
 ·subst h
  rw [if_pos rfl]
  simp [aS,-io,o5,hl,r,lp,q1,s1,q2,s2,o2',he,hj,hq,ha,mk,hp]
 ·rw [if_neg h]
  have hb:(st==0)=false:=by simpa using h
  simp [aS,-io,o5,hl,r,lp,q1,s1,hb]
theorem Ab (w l:Nat) (hv:Int) (c:Nat) (ps:List (Nat×Int)) (ts hs:List Nat) (told:Nat) (H:yo told hs) (ht:told<2 ^ 1000) (hb:∀ h∈hs,h<1000) (hn:hs.length<=12) (hp:ps.length<=1000) (hts:ts.length<=1000) (i:Nat) (x4 x5 x6 x7 x8:Sl) (X:MA.Q4) :
  ∃ y4 y5 y6:Sl,aS [.fz (oneD w l hv c ps ts hs),.fz (.int told),.ow (nE X),.fz (.int i),x4,x5,x6,x7,x8]=some (.nx,[.fz (oneD w l hv c ps ts hs),.fz (.int told),.ow (nE (if tsum told hs i (ts.map tieP)=0 then MA.Q4.add X (MA.cw (((c:Int)+tsum told hs i ps) % 8).toNat dA) else X)),.fz (.int i),y4,y5,y6,x7,x8]):=by
 generalize hO:oneD w l hv c ps ts hs=O
 have o2:az O (.int 2)=some (.int c):=by rw [<- hO]; rfl
 have o3:az O (.int 3)=some (.tuple (ps.map prD)):=by rw [<- hO]; rfl
 have o4:az O (.int 4)=some (.tuple (ai ts)):=by rw [<- hO]; rfl
 have o5:az O (.int 5)=some (.tuple (ai hs)):=by rw [<- hO]; rfl
 have r:=qO (n:=hs.length) (by omega)
 obtain ⟨δ1,e1,y5,rfl⟩:=eU (b:=bF) (k:=5) (fun k δ=>∃ y5:Sl,δ = [.fz O,.fz (.int told),.ow (nE X),.fz (.int i),.fz (.int (spr told hs i k:Nat)),y5,x6,x7,x8]) hs.length (fun k hk δ hd=>by
  obtain ⟨y5,rfl⟩:=hd
  exact ⟨_,Hc O hs i (spr told hs i k) k _ _ x6 x7 x8 o5 hk (Nat.le_of_lt (hb _ (gi hk))),_,rfl⟩) [.fz O,.fz (.int told),.ow (nE X),.fz (.int i),.fz (.int told),x5,x6,x7,x8] ⟨_,rfl⟩
 have sb:=ur (way:=i) H ht hb hs.length (Nat.le_refl _)
 have q1:=Hb O ts (spr told hs i hs.length) (.fz (.int told)) (.ow (nE X)) (.fz (.int i)) y5 x6 x7 x8 o4 sb hts
 have q2:=Ha O ps (spr told hs i hs.length) (.fz (.int told)) (.ow (nE X)) (.fz (.int i)) y5 x6 x7 x8 o3 sb hp
 have s1:=ic (fun t:Nat=>((dotn t (spr told hs i hs.length) % 2:Nat):Int)) ts
 have s2:=ic (fun p:Nat×Int=>p.2*((dotn p.1 (spr told hs i hs.length) % 2:Nat):Int)) ps
 have t1:(ts.map fun t:Nat=>((dotn t (spr told hs i hs.length) % 2:Nat):Int)).sum=tsum told hs i (ts.map tieP):=by
  rw [<- r0]
  exact congrArg List.sum (List.map_congr_left fun t _=>by rw [na H])
 have t2:(ps.map fun p:Nat×Int=>p.2*((dotn p.1 (spr told hs i hs.length) % 2:Nat):Int)).sum=tsum told hs i ps:=by
  rw [<- r6]
  exact congrArg List.sum (List.map_congr_left fun p _=>by rw [na H])
 rw [t1] at s1
 rw [t2] at s2
 generalize tsum told hs i (ts.map tieP)=st at *
 generalize tsum told hs i ps=sp at *
 obtain ⟨e,he⟩:∃ e:Nat,((c:Int)+sp) % 8=e:=⟨(((c:Int)+sp) % 8).toNat,by omega⟩
 have he8:e<8:=by omega
 obtain ⟨old,ha,hpt⟩:=B9 X e he8
 have z:=Hk O told (nE X) _ i _ _ e c sp st old ((e % 4:Nat):Int) ((e / 4:Nat):Int) (ai hs) _ _ _ x4 x5 x6 x7 x8 y5 o5 (by rw [bV]) r o2 e1 q1 s1 q2 s2 he (by omega) (by omega) ha hpt
 rw [he,Int.toNat_natCast]
 by_cases h:st=0
 ·rw [if_pos h] at z ⊢
  exact ⟨_,_,_,z⟩
 ·rw [if_neg h] at z ⊢
  exact ⟨_,_,_,z⟩
theorem Hj (x:MA.Q4) (k:Int) (x0 x1 x2 x3 x4 x5 x6:Sl) (s:Int):bC [x0,x1,x2,x3,x4,x5,x6,.fz (eN x k),.fz (.int s)]=some (.nx,[x0,x1,x2,x3,x4,x5,x6,.fz (eN (MA.Q4.rt x) 0),.fz (.int s)]):=by
 obtain ⟨a,b,c,d⟩:=x
 simp [bC,eN,MA.Q4.rt]
theorem Fa (O:D) (told:Int) (n N hv kk mz:Int) (H L1 L2:List D) (x:MA.Q4) (X Y R:D) (y3 y4 y5 y6 y8:Sl) (o5:az O (.int 5)=some (.tuple H)) (hl:(H.length:Int)=n) (h1:eP (.int 1) (.int n)=some (.int N)) (r1:cz [.int N]=some L1) (o1:az O (.int 1)=some (.int hv)) (hm:q9 [.int 0,.int hv]=some (.int kk)) (hz:0-hv=mz)
  (lp:loop (gN 3) aS L1 [.fz O,.fz (.int told),.ow [.int 0,.int 0,.int 0,.int 0],.un,.un,.un,.un,.un,.un]=some (.nx,[.fz O,.fz (.int told),.ow (nE x),y3,y4,y5,y6,.un,.un])) (hX:eN x kk=X) (r2:cz [.int mz]=some L2) (lp2:loop (gN 8) bC L2 [.fz O,.fz (.int told),.ow (nE x),y3,y4,y5,y6,.fz X,.un]=some (.nx,[.fz O,.fz (.int told),.ow (nE x),y3,y4,y5,y6,.fz Y,y8])) (g:bQ [Y]=some R) :
  aG [O,.int told]=some R:=by
 obtain ⟨a,b,c,d⟩:=x
 subst hX
 simp only [nE,eN] at lp lp2
 have hs4:(4:Nat)<=sizeLine:=by rw [sizeLine_eq]; decide
 have sb:de (.int 0) (.int hv)=some (.int mz):=by rw [<- hz]; rfl
 simp only [aG,aV,dl,aH,ay,aI,b5,fS,v5,o2,oV,oC,VL.os,af,au,oL,qX]
 simp [-kM,-C4,hs4,o5,hl,h1,r1,lp,o1,hm,sb,r2,lp2,g]
theorem zj {j:Int} (h:-16777216<=j) (h2:j<=16777216):cz [.int j]=some (jb 0 j.toNat):=mq (by omega) (by omega)
theorem E8 (x:MA.Q4):MA.f9 x 0=(x,0):=gu (k:=0) ⟨by omega,fun z=>absurd z (by decide)⟩ (Nat.le_refl _) rfl
noncomputable def res (y:MA.Q4) (hv:Int):D:=if hv<0 then eN (MA.Q4.rtn (-hv).toNat y) 0 else eN (MA.f9 y hv).1 (MA.f9 y hv).2
theorem nV (w l:Nat) (hv:Int) (c:Nat) (ps:List (Nat×Int)) (ts hs:List Nat) (told:Nat) (H:yo told hs) (ht:told<2 ^ 1000) (hb:∀ h∈hs,h<1000) (hn:hs.length<=12) (hp:ps.length<=1000) (hts:ts.length<=1000) (h1:-1000<=hv) (h2:hv<=1000) :
  aG [oneD w l hv c ps ts hs,.int told]=some (res (MA.cw c (acc (fun k=>tsum told hs k ps) (fun k=>tsum told hs k (ts.map tieP)) (2 ^ hs.length))) hv):=by
 have le:2 ^ hs.length<=2 ^ 12:=Nat.pow_le_pow_right (by decide) hn
 rw [<- iX]
 obtain ⟨δ1,e1,y3,y4,y5,y6,rfl⟩:=eU (b:=aS) (k:=3) (fun i δ=>∃ y3 y4 y5 y6:Sl,δ = [.fz (oneD w l hv c ps ts hs),.fz (.int told),.ow (nE (acc (fun k=>(c:Int)+tsum told hs k ps) (fun k=>tsum told hs k (ts.map tieP)) i)),y3,y4,y5,y6,.un,.un]) (2 ^ hs.length) (fun i hi δ hd=>by
  obtain ⟨y3,y4,y5,y6,rfl⟩:=hd
  obtain ⟨z4,z5,z6,q⟩:=Ab w l hv c ps ts hs told H ht hb hn hp hts i y4 y5 y6 .un .un (acc (fun k=>(c:Int)+tsum told hs k ps) (fun k=>tsum told hs k (ts.map tieP)) i)
  exact ⟨_,q,_,_,_,_,rfl⟩) [.fz (oneD w l hv c ps ts hs),.fz (.int told),.ow [.int 0,.int 0,.int 0,.int 0],.un,.un,.un,.un,.un,.un] ⟨_,_,_,_,rfl⟩
 generalize acc (fun k=>(c:Int)+tsum told hs k ps) (fun k=>tsum told hs k (ts.map tieP)) (2 ^ hs.length)=Y at *
 have p2:=cT (k:=hs.length) (by omega)
 have r1:=qO (n:=2 ^ hs.length) (by omega)
 have r2:=zj (j:=0-hv) (by omega) (by omega)
 by_cases h:hv<0
 ·obtain ⟨m,hm⟩:∃ m:Nat,0-hv=m:=⟨(0-hv).toNat,by omega⟩
  have e:(0-hv).toNat=m:=by omega
  rw [e,hm] at r2
  have hmx:q9 [.int 0,.int hv]=some (.int 0):=by rw [kM,if_neg (by omega)]
  obtain ⟨δ2,e2,x8,rfl⟩:=eU (b:=bC) (k:=8) (fun i δ=>∃ x8:Sl,δ = [.fz (oneD w l hv c ps ts hs),.fz (.int told),.ow (nE Y),y3,y4,y5,y6,.fz (eN (MA.Q4.rtn i Y) 0),x8]) m (fun i hi δ hd=>by
   obtain ⟨x8,rfl⟩:=hd
   refine ⟨_,Hj (MA.Q4.rtn i Y) 0 (.fz (oneD w l hv c ps ts hs)) (.fz (.int told)) (.ow (nE Y)) y3 y4 y5 y6 i,.fz (.int i),?_⟩
   rw [MA.Q4.rtn_succ]) [.fz (oneD w l hv c ps ts hs),.fz (.int told),.ow (nE Y),y3,y4,y5,y6,.fz (eN Y 0),.un] ⟨.un,rfl⟩
  have g:=pX (MA.Q4.rtn m Y) 0 (by omega)
  rw [show ((0:Nat):Int)=0 from rfl,E8] at g
  unfold res
  rw [if_pos h,show (-hv).toNat=m by omega]
  exact Fa _ _ _ _ _ _ _ _ _ _ _ _ _ _ _ _ _ _ x8 (iq _ _ _ _ _ _ _) (by rw [bV]) p2 r1 (kE _ _ _ _ _ _ _) hmx hm e1 rfl r2 e2 g
 ·obtain ⟨m,hm⟩:∃ m:Nat,hv=m:=⟨hv.toNat,by omega⟩
  have e:(0-hv).toNat=0:=by omega
  rw [e] at r2
  have hmx:q9 [.int 0,.int hv]=some (.int hv):=by
   rw [kM]
   by_cases q:hv>0
   ·rw [if_pos q]
   ·rw [if_neg q,show hv=0 by omega]
  have g:=pX Y m (by omega)
  rw [<- hm] at g
  unfold res
  rw [if_neg h]
  exact Fa _ _ _ _ _ _ _ _ _ _ _ _ _ _ _ _ _ _ .un (iq _ _ _ _ _ _ _) (by rw [bV]) p2 r1 (kE _ _ _ _ _ _ _) hmx rfl e1 rfl r2 rfl g
theorem zv:∀ n:Nat,pop n=MA.rJ n:=fun n=>by
 induction n using Nat.strongRecOn with
 | _ n ih=>
  rw [gY,MA.rJ]
  by_cases h:n=0
  ·subst h; simp [pop]
  ·rw [if_neg h,ih (n / 2) (by omega)]
theorem j4 (a b:Nat):dotn a b % 2=par (a &&& b):=by unfold dotn par; rw [zv]
theorem pH (s t b:Nat):par ((s ^^^ t) &&& b)=(par (s &&& b)+par (t &&& b)) % 2:=by rw [Nat.and_xor_distrib_right,MA.sM]
theorem qS {b h:Nat} (hc:b / 2 ^ h % 2=0) (s:Nat):par (s &&& (b+2 ^ h))=(par (s &&& b)+if hasB s h then 1 else 0) % 2:=by
 rw [<- j4,<- j4,iK h s b hc]
 unfold hasB
 rcases Nat.mod_two_eq_zero_or_one (s / 2 ^ h) with z | z
 ·rw [z]; simp
 ·rw [z]; simp
theorem j3:∀ (h b:Nat),dotn (2 ^ h) b=b / 2 ^ h % 2
 | 0,b=>by
  rw [dh]
  have:dotn (2 ^ 0 / 2) (b / 2)=0:=by rw [show 2 ^ 0 / 2=0 from rfl,mR,mQ]
  rw [this]
  simp
 | h+1,b=>by
  rw [dh,Nat.pow_succ,Nat.mul_mod_left,Nat.mul_div_cancel _ (by decide),j3 h (b / 2),Nat.mul_comm (2 ^ h) 2,<- Nat.div_div_eq_div_mul]
  omega
theorem zH {b h:Nat} (hc:b / 2 ^ h % 2=0):par (2 ^ h &&& b)=0:=by rw [<- j4,j3,hc]
theorem xY {b x y:Nat} (hc:b / 2 ^ x % 2=0) (hne:y≠x):(b+2 ^ x) / 2 ^ y % 2=b / 2 ^ y % 2:=by
 rw [<- j3 y (b+2 ^ x),<- j3 y b,iK x (2 ^ y) b hc]
 have:2 ^ y / 2 ^ x % 2=0:=by
  rcases Nat.lt_or_gt_of_ne hne with q | q
  ·rw [Nat.div_eq_of_lt (Nat.pow_lt_pow_right (by decide) q)]
  ·rw [Nat.pow_div (by omega) (by decide)]
   obtain ⟨k,hk⟩:∃ k,y-x=k+1:=⟨y-x-1,by omega⟩
   rw [hk,Nat.pow_succ]
   omega
 omega
theorem CH {b x:Nat} (hx:0<x):(b+2 ^ x) % 2=b % 2:=by
 obtain ⟨k,hk⟩:∃ k,x=k+1:=⟨x-1,by omega⟩
 rw [hk,Nat.pow_succ]
 omega
noncomputable def q0:MA.Q4:=⟨0,0,0,0⟩
theorem wm (x y:MA.Q4):MA.Q4.add x y=MA.Q4.add y x:=by apply MA.Q4.ext' <;> simp [MA.Q4.add] <;> omega
theorem zn (x y z:MA.Q4):MA.Q4.add (MA.Q4.add x y) z=MA.Q4.add x (MA.Q4.add y z):=by apply MA.Q4.ext' <;> simp [MA.Q4.add] <;> omega
theorem EJ (x:MA.Q4):MA.Q4.add x q0=x:=by apply MA.Q4.ext' <;> simp [MA.Q4.add,q0]
theorem B8 (a b c d:MA.Q4):MA.Q4.add (MA.Q4.add a b) (MA.Q4.add c d)=MA.Q4.add (MA.Q4.add a c) (MA.Q4.add b d):=by apply MA.Q4.ext' <;> simp [MA.Q4.add] <;> omega
noncomputable def i3 (f:Nat->MA.Q4):List Nat->Nat->MA.Q4
 | [],b=>f b
 | h::t,b=>MA.Q4.add (i3 f t b) (i3 (fun x=>f (x+2 ^ h)) t b)
theorem yB (f g:Nat->MA.Q4):∀ (l:List Nat) (b:Nat),i3 (fun x=>MA.Q4.add (f x) (g x)) l b=MA.Q4.add (i3 f l b) (i3 g l b):=fun l=>by
 induction l generalizing f g with
 | nil=>intro b; rfl
 | cons h t ih=>
  intro b
  show MA.Q4.add (i3 (fun x=>MA.Q4.add (f x) (g x)) t b) (i3 (fun x=>MA.Q4.add (f (x+2 ^ h)) (g (x+2 ^ h))) t b)=_
  rw [ih f g,ih (fun x=>f (x+2 ^ h)) (fun x=>g (x+2 ^ h)),B8]
  rfl
theorem qB (f:Nat->MA.Q4):∀ (l:List Nat) (b:Nat),i3 (fun x=>MA.Q4.rt (f x)) l b=MA.Q4.rt (i3 f l b):=fun l=>by
 induction l generalizing f with
 | nil=>intro b; rfl
 | cons h t ih=>
  intro b
  show MA.Q4.add (i3 (fun x=>MA.Q4.rt (f x)) t b) (i3 (fun x=>MA.Q4.rt (f (x+2 ^ h))) t b)=_
  rw [ih f,ih (fun x=>f (x+2 ^ h))]
  show _=MA.Q4.rt (MA.Q4.add _ _)
  apply MA.Q4.ext' <;> simp [MA.Q4.add,MA.Q4.rt] <;> omega
theorem vx (P:Nat->List Nat->Prop) (hP:∀ b x t,P b (x::t)->P b t/\P (b+2 ^ x) t):∀ (l:List Nat) (f g:Nat->MA.Q4) (b:Nat),P b l->(∀ x,P x []->f x=g x)->i3 f l b=i3 g l b:=fun l=>by
 suffices h:∀ (a:Nat) (f g:Nat->MA.Q4) (b:Nat),P (b+a) l->(∀ x,P (x+a) []->f x=g x)->i3 f l b=i3 g l b from fun f g b hb hf=>h 0 f g b hb hf
 induction l with
 | nil=>intro a f g b hb hf; exact hf b hb
 | cons x t ih=>
  intro a f g b hb hf
  obtain ⟨h1,h2⟩:=hP _ _ _ hb
  show MA.Q4.add _ _=MA.Q4.add _ _
  rw [ih a f g b h1 hf,ih (a+2 ^ x) (fun y=>f (y+2 ^ x)) (fun y=>g (y+2 ^ x)) b (by rw [<- Nat.add_assoc]; exact h2) fun y hy=>hf _ (by rw [Nat.add_assoc,Nat.add_comm (2 ^ x) a]; exact hy)]
theorem yA {h:Nat}:∀ (l:List Nat) (f:Nat->MA.Q4) (b:Nat),l.Nodup->h∈l->i3 f l b=i3 (fun x=>MA.Q4.add (f x) (f (x+2 ^ h))) (l.filter fun x=>decide (x≠h)) b:=fun l=>by
 induction l with
 | nil=>intro f b _ hm; cases hm
 | cons x t ih=>
  intro f b nd hm
  obtain ⟨n1,n2⟩:=List.nodup_cons.mp nd
  by_cases e:x=h
  ·subst e
   have ef:((x::t).filter fun y=>decide (y≠x))=t:=by
    rw [List.filter_cons_of_neg (by simp)]
    exact List.filter_eq_self.mpr fun y hy=>by simp; exact fun z=>n1 (z ▸ hy)
   rw [ef,yB]
   rfl
  ·have hm':h∈t:=by
    rcases List.mem_cons.mp hm with z | z
    ·exact absurd z.symm e
    ·exact z
   rw [List.filter_cons_of_pos (by simpa using e)]
   show MA.Q4.add (i3 f t b) (i3 (fun y=>f (y+2 ^ x)) t b)=MA.Q4.add (i3 _ _ b) (i3 _ _ b)
   rw [ih f b n2 hm',ih (fun y=>f (y+2 ^ x)) b n2 hm']
   congr 2
   funext y
   rw [Nat.add_right_comm]
noncomputable def mf (G:Nat->MA.Q4):Nat->MA.Q4
 | 0=>q0
 | k+1=>MA.Q4.add (mf G k) (G k)
theorem qu (G:Nat->MA.Q4) (n:Nat):∀ m,mf G (n+m)=MA.Q4.add (mf G n) (mf (fun k=>G (n+k)) m)
 | 0=>(EJ _).symm
 | m+1=>by
  show MA.Q4.add (mf G (n+m)) (G (n+m))=_
  rw [qu G n m,zn]
  rfl
theorem ju {G K:Nat->MA.Q4}:∀ n,(∀ k,k<n->G k=K k)->mf G n=mf K n
 | 0,_=>rfl
 | n+1,h=>by
  show MA.Q4.add _ _=MA.Q4.add _ _
  rw [ju n fun k hk=>h k (by omega),h n (by omega)]
theorem nq (told way h:Nat) (t:List Nat):∀ k,k<=t.length->spr told (t++[h]) way k=spr told t way k
 | 0,_=>rfl
 | k+1,hk=>by
  show spr told (t++[h]) way k+_=spr told t way k+_
  have e:(t++[h]).getD k 0=t.getD k 0:=by
   rw [List.getD_eq_getElem?_getD,List.getD_eq_getElem?_getD,List.getElem?_append_left (by omega)]
  rw [nq told way h t k (by omega),e]
theorem sn (told n way:Nat) (t:List Nat) (hw:way<2 ^ n):∀ k,k<=n->spr told t (2 ^ n+way) k=spr told t way k
 | 0,_=>rfl
 | k+1,hk=>by
  show spr told t (2 ^ n+way) k+_=spr told t way k+_
  have e:(2 ^ n+way) / 2 ^ k % 2=way / 2 ^ k % 2:=by
   obtain ⟨j,hj⟩:∃ j,n=k+1+j:=⟨n-(k+1),by omega⟩
   rw [hj,Nat.pow_add,Nat.pow_succ,Nat.mul_assoc,Nat.add_comm,Nat.add_mul_div_left _ _ (Nat.pow_pos (by decide))]
   omega
  rw [sn told n way t hw k (by omega),e]
theorem yW (told n way:Nat) (h:Nat) (t:List Nat) (hn:t.length=n) (hw:way<2 ^ n):spr told (t++[h]) way (n+1)=spr told t way n:=by
 show spr told (t++[h]) way n+way / 2 ^ n % 2*2 ^ (t++[h]).getD n 0=_
 rw [nq told way h t n (by omega),Nat.div_eq_of_lt hw]
 simp
theorem vL (told n way:Nat) (h:Nat) (t:List Nat) (hn:t.length=n) (hw:way<2 ^ n):spr told (t++[h]) (2 ^ n+way) (n+1)=spr told t way n+2 ^ h:=by
 show spr told (t++[h]) (2 ^ n+way) n+(2 ^ n+way) / 2 ^ n % 2*2 ^ (t++[h]).getD n 0=_
 have e1:(2 ^ n+way) / 2 ^ n % 2=1:=by
  rw [Nat.add_comm,Nat.add_div_right _ (Nat.pow_pos (by decide)),Nat.div_eq_of_lt hw]
 have e2:(t++[h]).getD n 0=h:=by
  rw [List.getD_eq_getElem?_getD,List.getElem?_append_right (by omega),hn]
  simp
 rw [nq told _ h t n (by omega),sn told n way t hw n (Nat.le_refl _),e1,e2,Nat.one_mul]
theorem oK (told:Nat):∀ (l:List Nat) (f:Nat->MA.Q4),mf (fun k=>f (spr told l.reverse k l.length)) (2 ^ l.length)=i3 f l told
 | [],f=>by
  show MA.Q4.add q0 (f told)=f told
  rw [wm,EJ]
 | h::t,f=>by
  have hl:t.reverse.length=t.length:=List.length_reverse
  rw [List.reverse_cons,List.length_cons,Nat.pow_succ,Nat.mul_two,qu]
  show _=MA.Q4.add (i3 f t told) (i3 (fun x=>f (x+2 ^ h)) t told)
  rw [<- oK told t f,<- oK told t fun x=>f (x+2 ^ h)]
  congr 1
  ·exact ju _ fun k hk=>by rw [yW told t.length k h t.reverse hl hk]
  ·exact ju _ fun k hk=>by
    show f (spr told (t.reverse++[h]) (2 ^ t.length+k) (t.length+1))=_
    rw [vL told t.length k h t.reverse hl hk]
theorem EU (bits:Nat) (h:bits % 2=1):par (1 &&& bits)=1:=by
 rw [Nat.and_comm,Nat.and_one_is_mod,h]
 unfold par
 rw [MA.iN,MA.iM]
theorem zJ (bits b:Nat) (hb:bits % 2=1) (h:b % 2=1):par (b &&& bits)=1-par ((b-1) &&& bits):=by
 have e:b=(b-1) ^^^ 1:=by rw [<- DQ b h,Nat.xor_assoc,Nat.xor_self,Nat.xor_zero]
 have:=MA.sM ((b-1) &&& bits) (1 &&& bits)
 rw [<- Nat.and_xor_distrib_right,<- e,EU bits hb] at this
 have l:=MA.dH ((b-1) &&& bits)
 omega
noncomputable def sm (w:Nat->Nat):As->Nat
 | []=>0
 | p::A=>p.2*w p.1+sm w A
theorem vR (w:Nat->Nat):∀ A B:As,sm w (A++B)=sm w A+sm w B
 | [],B=>by simp [sm]
 | p::A,B=>by show _+sm w (A++B)=_; rw [vR w A B]; unfold sm; cases A <;> simp [sm,Nat.add_assoc]
theorem vQ (w:Nat->Nat) (k v:Nat):∀ A:As,(aq A).Nodup->k∈aq A->sm w (A.map fun p=>if p.1=k then (p.1,v) else p)+vl A k*w k=sm w A+v*w k
 | [],_,h=>by cases h
 | p::A,nd,h=>by
  have nd':=List.nodup_cons.mp (show (p.1::aq A).Nodup from nd)
  rw [List.map_cons,cO]
  by_cases hp:p.1=k
  ·rw [if_pos hp,if_pos hp]
   have:(A.map fun p=>if p.1=k then (p.1,v) else p)=A:=by
    have e:∀ q∈A,(fun p:Nat×Nat=>if p.1=k then (p.1,v) else p) q=q:=fun q hq=>if_neg fun z=>nd'.1 (by rw [hp,<- z]; exact List.mem_map.mpr ⟨q,hq,rfl⟩)
    rw [List.map_congr_left e,List.map_id']
   rw [this]
   show v*w p.1+sm w A+p.2*w k=p.2*w p.1+sm w A+v*w k
   rw [hp]
   omega
  ·rw [if_neg hp,if_neg hp]
   have hk:k∈aq A:=by
    rcases List.mem_cons.mp h with z | z
    ·exact absurd z.symm hp
    ·exact z
   have:=vQ w k v A nd'.2 hk
   show p.2*w p.1+sm w (A.map fun p=>if p.1=k then (p.1,v) else p)+vl A k*w k=p.2*w p.1+sm w A+v*w k
   omega
theorem vO (w:Nat->Nat) (A:As) (k v:Nat) (nd:(aq A).Nodup):sm w (nH A k v)+vl A k*w k=sm w A+v*w k:=by
 unfold nH
 by_cases h:(A.any fun p=>decide (p.1=k))=true
 ·rw [if_pos h]
  exact vQ w k v A nd ((fO A k).mp h)
 ·rw [if_neg h,vR,gJ (fun z=>h ((fO A k).mpr z))]
  simp [sm]
theorem y0 (w:Nat->Nat) (A:As) (nd:(aq A).Nodup):sm w A=((aq A).map fun k=>vl A k*w k).sum:=by
 have e:(aq A).map (fun k=>vl A k*w k)=A.map fun p=>p.2*w p.1:=by
  unfold aq
  rw [List.map_map]
  exact List.map_congr_left fun p hp=>by show vl A p.1*w p.1=_; rw [fT nd hp]
 rw [e]
 clear e nd
 induction A with
 | nil=>rfl
 | cons p A ih=>rw [List.map_cons,List.sum_cons,<- ih]; rfl
theorem vH {a b:List Nat} (h:a.Perm b):a.sum=b.sum:=by
 induction h with
 | nil=>rfl
 | cons x _ ih=>rw [List.sum_cons,List.sum_cons,ih]
 | swap x y l=>simp only [List.sum_cons]; omega
 | trans _ _ i1 i2=>exact i1.trans i2
theorem vP (w:Nat->Nat) (h0:w 0=0) (A:As):∀ rs:List Nat,sm w (kx A rs)=(rs.map fun k=>vl A k*w k).sum
 | []=>rfl
 | k::rs=>by
  have ih:=vP w h0 A rs
  unfold kx at ih ⊢
  rw [List.map_cons,List.sum_cons,List.filter_cons]
  by_cases h:0<k/\0<vl A k
  ·rw [if_pos (by simpa using h),List.map_cons]
   show vl A k*w k+sm w _=_
   rw [ih]
  ·rw [if_neg (by simpa using h),ih]
   have:vl A k*w k=0:=by
    rcases Nat.eq_zero_or_pos k with z | z
    ·rw [z,h0,Nat.mul_zero]
    ·have:vl A k=0:=by
      rcases Nat.eq_zero_or_pos (vl A k) with y | y
      ·exact y
      ·exact absurd ⟨z,y⟩ h
     rw [this,Nat.zero_mul]
   omega
theorem BU (w:Nat->Nat) (h0:w 0=0) (A:As) (rs:List Nat) (nd:(aq A).Nodup) (p:rs.Perm (aq A)):sm w (kx A rs)=sm w A:=by
 rw [vP w h0,y0 w A nd]
 exact vH (p.map _)
theorem yZ (bits:Nat) (hbits:bits % 2=1) {A:As} (h:OkA A) (b:Nat) (e tot:Int) (hi:((vl A 0:Nat)+((sm (fun k=>par (k &&& bits)) A:Nat):Int)-tot) % 8=0) :
  (((vl (uS A b e) 0:Nat):Int)+((sm (fun k=>par (k &&& bits)) (uS A b e):Nat):Int)-(tot+e*((par (b &&& bits):Nat):Int))) % 8=0:=by
 obtain ⟨w,hw⟩:∃ w:Nat->Nat,(fun k=>par (k &&& bits))=w:=⟨_,rfl⟩
 have w0:w 0=0:=by rw [<- hw]; show par (0 &&& bits)=0; rw [Nat.zero_and,MA.dZ]
 have wb:par (b &&& bits)=w b:=by rw [<- hw]
 have wl:∀ k,w k<2:=fun k=>by rw [<- hw]; exact MA.dH _
 have wo:b % 2=1->w b=1-w (hb b):=fun o=>by
  rw [<- hw]
  show par (b &&& bits)=1-par (hb b &&& bits)
  unfold hb
  rw [o]
  exact zJ bits b hbits o
 rw [wb]
 rw [hw] at hi ⊢
 have s1:sm w (vn A b e)=sm w A:=by
  unfold vn
  split
  ·have:=vO w A 0 (nv (vl A 0) e) h.nd
   rw [w0] at this
   omega
  ·rfl
 have s2:((sm w (uS A b e):Nat):Int)=(sm w A:Nat)+((nv (vl A (hb b)) (he b e):Nat)-(vl A (hb b):Nat):Int)*(w (hb b):Nat):=by
  unfold uS
  by_cases z:0<hb b
  ·rw [if_pos z,DS A b e _ z]
   have:=vO w (vn A b e) (hb b) (nv (vl A (hb b)) (he b e)) (G5 h b e).nd
   rw [DS A b e _ z,s1] at this
   have t:=congrArg (fun x:Nat=>(x:Int)) this
   simp only [Int.natCast_add,Int.natCast_mul] at t
   rw [Int.sub_mul]
   omega
  ·rw [if_neg z,s1,show hb b=0 by omega,w0]
   simp
 rw [s2,AM]
 have n1:=mF (vl A (hb b)) (he b e)
 have n0:=mF (vl A 0) e
 by_cases o:b % 2=1
 ·rw [if_pos o,wo o]
  unfold he at n1 ⊢
  rw [if_pos o] at n1 ⊢
  have:=wl (hb b)
  rcases (show w (hb b)=0\/w (hb b)=1 by omega) with y | y
  ·rw [y]; simp only [Nat.sub_zero,Int.natCast_zero,Int.natCast_one,Int.mul_zero,Int.mul_one,Int.add_zero]; omega
  ·rw [y]; simp only [Nat.sub_self,Int.natCast_zero,Int.natCast_one,Int.mul_zero,Int.mul_one,Int.add_zero]; omega
 ·rw [if_neg o]
  have eb:hb b=b:=by unfold hb; omega
  unfold he at n1 ⊢
  rw [if_neg o] at n1 ⊢
  rw [eb] at n1 ⊢
  have:=wl b
  rcases (show w b=0\/w b=1 by omega) with y | y
  ·rw [y]; simp only [Int.natCast_zero,Int.natCast_one,Int.mul_zero,Int.mul_one,Int.add_zero]; omega
  ·rw [y]; simp only [Int.natCast_zero,Int.natCast_one,Int.mul_zero,Int.mul_one,Int.add_zero]; omega
noncomputable def bp (b:Nat):List (Nat×Int)->Int
 | []=>0
 | q::Q=>q.2*((par (q.1 &&& b):Nat):Int)+bp b Q
noncomputable def nS (b:Nat) (ts:List Nat):Bool:=ts.all fun t=>par (t &&& b)==0
noncomputable def FF (c:Int) (ps:List (Nat×Int)) (ts:List Nat) (b:Nat):MA.Q4:=if nS b ts=true then MA.cw ((c+bp b ps) % 8).toNat dA else q0
theorem i8 {told:Nat} {hs:List Nat} (H:yo told hs) (w:Nat):∀ ps:List (Nat×Int),tsum told hs w ps=bp (spr told hs w hs.length) ps
 | []=>rfl
 | p::ps=>by
  show p.2*_+tsum told hs w ps=p.2*_+bp _ ps
  rw [i8 H w ps,<- na H,j4]
theorem jc (b:Nat):∀ ts:List Nat,0<=bp b (ts.map tieP)/\(bp b (ts.map tieP)=0↔nS b ts=true)
 | []=>⟨Int.le_refl _,by simp [bp,nS]⟩
 | t::ts=>by
  obtain ⟨h1,h2⟩:=jc b ts
  have e:bp b ((t::ts).map tieP)=1*((par (t &&& b):Nat):Int)+bp b (ts.map tieP):=rfl
  have e2:nS b (t::ts)=((par (t &&& b)==0)&&nS b ts):=rfl
  rw [e,e2,Bool.and_eq_true]
  have:=MA.dH (t &&& b)
  refine ⟨by omega,⟨fun q=>⟨by simp; omega,h2.mp (by omega)⟩,fun q=>?_⟩⟩
  have q1:par (t &&& b)=0:=by simpa using q.1
  have:=h2.mpr q.2
  omega
theorem FY {told:Nat} {hs:List Nat} (H:yo told hs) (c:Nat) (ps:List (Nat×Int)) (ts:List Nat):MA.cw c (acc (fun k=>tsum told hs k ps) (fun k=>tsum told hs k (ts.map tieP)) (2 ^ hs.length))=i3 (FF c ps ts) hs.reverse told:=by
 rw [<- iX]
 have e:=oK told hs.reverse (FF c ps ts)
 rw [List.reverse_reverse,List.length_reverse] at e
 rw [<- e]
 have key:∀ n,acc (fun w=>(c:Int)+tsum told hs w ps) (fun k=>tsum told hs k (ts.map tieP)) n=mf (fun k=>FF c ps ts (spr told hs k hs.length)) n:=fun n=>by
  induction n with
  | zero=>rfl
  | succ n ih=>
   unfold acc mf
   rw [ih,i8 H,i8 H]
   unfold FF
   by_cases q:bp (spr told hs n hs.length) (ts.map tieP)=0
   ·rw [if_pos q,if_pos ((jc _ ts).2.mp q)]
   ·rw [if_neg q,if_neg (fun z=>q ((jc _ ts).2.mpr z)),EJ]
 exact key _
theorem wW {l:List Nat} (h:l.Nodup):l.reverse.Nodup:=(List.reverse_perm l).nodup_iff.mpr h
theorem rq (hs:List Nat) (h:Nat):(hs.reverse.filter fun x=>decide (x≠h))=(lP hs h).reverse:=by unfold lP; rw [List.filter_reverse]
structure Ah (h:Nat) (b:Nat) (l:List Nat):Prop where
 cl:∀ x∈l,b / 2 ^ x % 2=0
 po:∀ x∈l,0<x
 ne:∀ x∈l,x≠h
 nd:l.Nodup
 od:b % 2=1
 ch:b / 2 ^ h % 2=0
theorem Ah.step {h b x:Nat} {t:List Nat} (a:Ah h b (x::t)):Ah h b t/\Ah h (b+2 ^ x) t:=by
 obtain ⟨n1,n2⟩:=List.nodup_cons.mp a.nd
 have cx:=a.cl x List.mem_cons_self
 refine ⟨⟨fun y hy=>a.cl y (List.mem_cons_of_mem _ hy),fun y hy=>a.po y (List.mem_cons_of_mem _ hy),fun y hy=>a.ne y (List.mem_cons_of_mem _ hy),n2,a.od,a.ch⟩,⟨fun y hy=>?_,fun y hy=>a.po y (List.mem_cons_of_mem _ hy),fun y hy=>a.ne y (List.mem_cons_of_mem _ hy),n2,?_,?_⟩⟩
 ·rw [xY cx (fun z=>n1 (z ▸ hy))]; exact a.cl y (List.mem_cons_of_mem _ hy)
 ·rw [CH (a.po x List.mem_cons_self)]; exact a.od
 ·rw [xY cx (fun z=>a.ne x List.mem_cons_self z.symm)]; exact a.ch
theorem sO {told h:Nat} {hs:List Nat} (H:yo told hs) (ho:told % 2=1) (hp:∀ x∈hs,0<x) (hh:h∈hs) {f g:Nat->MA.Q4} (e:∀ b,b % 2=1->b / 2 ^ h % 2=0->MA.Q4.add (f b) (f (b+2 ^ h))=g b):i3 f hs.reverse told=i3 g (lP hs h).reverse told:=by
 have nd:hs.reverse.Nodup:=wW (eT H.1)
 rw [yA hs.reverse f told nd (List.mem_reverse.mpr hh),rq]
 have sub:∀ x∈(lP hs h).reverse,x∈hs/\x≠h:=fun x hx=>by
  have:=List.mem_filter.mp (List.mem_reverse.mp hx)
  exact ⟨this.1,by simpa using this.2⟩
 refine vx (Ah h) (fun b x t a=>a.step) _ _ _ _ ⟨fun x hx=>lh (H.2 x (sub x hx).1),fun x hx=>hp x (sub x hx).1,fun x hx=>(sub x hx).2,?_,ho,lh (H.2 h hh)⟩ fun b a=>e b a.od a.ch
 exact wW (List.Nodup.sublist List.filter_sublist (eT H.1))
theorem sx (b:Nat):∀ R:As,((sm (fun k=>par (k &&& b)) R:Nat):Int)=bp b (bh R)
 | []=>rfl
 | p::R=>by
  show ((p.2*par (p.1 &&& b)+sm (fun k=>par (k &&& b)) R:Nat):Int)=(p.2:Int)*((par (p.1 &&& b):Nat):Int)+bp b (bh R)
  rw [<- sx b R]
  omega
theorem vS (b:Nat) (hb:b % 2=1):∀ (Q:List (Nat×Int)) {A:As} (tot:Int),OkA A->(((vl A 0:Nat):Int)+((sm (fun k=>par (k &&& b)) A:Nat):Int)-tot) % 8=0->(((vl (vj A Q) 0:Nat):Int)+((sm (fun k=>par (k &&& b)) (vj A Q):Nat):Int)-(tot+bp b Q)) % 8=0
 | [],A,tot,h,hi=>by
  show (_+_-(tot+0)) % 8=0
  rw [Int.add_zero]
  exact hi
 | q::Q,A,tot,h,hi=>by
  have:=vS b hb Q _ (Gh h q.1 q.2) (yZ b hb h q.1 q.2 tot hi)
  show (_+_-(tot+(q.2*((par (q.1 &&& b):Nat):Int)+bp b Q))) % 8=0
  rw [<- Int.add_assoc]
  exact this
theorem kA {R:As} {Q:List (Nat×Int)} (h:RR R fun k=>kv k Q) {c T:Int} (hT:T % 8=(c+tv Q) % 8) (b:Nat) (hb:b % 2=1):(T+bp b (bh R)) % 8=(c+bp b Q) % 8:=by
 obtain ⟨c0,hc0,hlt⟩:∃ c0:Nat,(c0:Int)=c % 8/\c0<8:=⟨(c % 8).toNat,by omega,by omega⟩
 have ok:=wL Q (nO hlt)
 have s:=vS b hb Q (A:=[(0,c0)]) c0 (nO hlt) (by
  rw [rX]
  have:sm (fun k=>par (k &&& b)) [(0,c0)]=0:=by
   show c0*par (0 &&& b)+0=0
   rw [Nat.zero_and,MA.dZ,Nat.mul_zero]
  rw [this]
  omega)
 have v0:=rW Q (nO hlt)
 rw [rX] at v0
 obtain ⟨rs,_,p,pw⟩:=ie (aq (vj [(0,c0)] Q)) ok.nd
 have rr:RR (kx (vj [(0,c0)] Q) rs) fun k=>kv k Q:=B3 ok p pw fun k hk=>by
  rw [rV hk _ (nO hlt),Bu c0 hk]
  show ((0:Nat)+_:Int) % 8=_
  rw [show ((0:Nat):Int)=0 from rfl,Int.zero_add]
 have e:R=kx (vj [(0,c0)] Q) rs:=h.one rr fun k _=>rfl
 have f:=BU (fun k=>par (k &&& b)) (by show par (0 &&& b)=0; rw [Nat.zero_and,MA.dZ]) (vj [(0,c0)] Q) rs ok.nd p
 rw [<- e] at f
 have g:=sx b R
 rw [f] at g
 rw [<- g]
 omega
theorem jd (b:Nat):∀ (Q Q':List (Nat×Int)),bp b (Q++Q')=bp b Q+bp b Q'/\tv (Q++Q')=tv Q+tv Q'/\∀ k,kv k (Q++Q')=kv k Q+kv k Q'
 | [],Q'=>⟨by show bp b Q'=0+bp b Q'; omega,by show tv Q'=0+tv Q'; omega,fun k=>by show kv k Q'=0+kv k Q'; omega⟩
 | q::Q,Q'=>by
  obtain ⟨h1,h2,h3⟩:=jd b Q Q'
  refine ⟨?_,?_,fun k=>?_⟩
  ·show _+bp b (Q++Q')=_+bp b Q+_
   rw [h1]; omega
  ·show _+tv (Q++Q')=_+tv Q+_
   rw [h2]; omega
  ·show _+kv k (Q++Q')=_+kv k Q+_
   rw [h3]; omega
noncomputable def op:Nat->List (Nat×Int)->Nat
 | x,[]=>x
 | x,q::Q=>op (if q.2=2\/q.2=6 then x ^^^ q.1 else x) Q
noncomputable def tot:List (Nat×Int)->Int
 | []=>0
 | q::Q=>q.2+tot Q
theorem Hn (e:Int):vq false (.int e) (.tuple [.int 2,.int 6])=some (.bool (decide (e=2\/e=6))):=by
 show some (PyData.bool (vp (.int e) [.int 2,.int 6]))=_
 congr 2
 unfold vp
 simp only [List.any_cons,List.any_nil,PyData.eqv,Bool.or_false]
 by_cases h1:e=2
 ·subst h1; rfl
 ·by_cases h2:e=6
  ·subst h2; rfl
  ·simp [h1,h2]
   omega
theorem zL (x b:Nat) (e:Int) (z0:Sl):cK [z0,.fz (.int (x:Int)),.fz (prD (b,e))]=some (.nx,[z0,.fz (.int ((if e=2\/e=6 then x ^^^ b else x:Nat):Int)),.fz (prD (b,e))]):=by
 have i:=Hn e
 have y:=MA.vh x b
 by_cases h:e=2\/e=6
 ·rw [decide_eq_true h] at i
  rw [if_pos h,<- y]
  simp [cK,prD,i]
 ·rw [decide_eq_false h] at i
  rw [if_neg h]
  simp [cK,prD,i]
theorem sQ (z0:Sl):∀ (Q:List (Nat×Int)) (x:Nat) (z2:Sl),∃ y2,loop (gN 2) cK (Q.map prD) [z0,.fz (.int (x:Int)),z2]=some (.nx,[z0,.fz (.int (op x Q:Nat)),y2])
 | [],x,z2=>⟨z2,rfl⟩
 | q::Q,x,z2=>by
  obtain ⟨y2,e⟩:=sQ z0 Q (if q.2=2\/q.2=6 then x ^^^ q.1 else x) (.fz (prD q))
  refine ⟨y2,?_⟩
  rw [List.map_cons,cJ (δ1:=[z0,.fz (.int (x:Int)),.fz (prD q)]) (by simp) (zL x q.1 q.2 z0),e]
  rfl
theorem G4 (L:List D) (r:Int) (y:Sl) (lp:loop (gN 2) cK L [.fz (.list L),.fz (.int 0),.un]=some (.nx,[.fz (.list L),.fz (.int r),y])):bP [.list L]=some (.int r):=by
 simp [bP,aV,hU,aH,lp]
theorem pO (Q:List (Nat×Int)):bP [.list (Q.map prD)]=some (.int (op 0 Q:Nat)):=by
 obtain ⟨y,lp⟩:=sQ (.fz (.list (Q.map prD))) Q 0 .un
 exact G4 _ _ y lp
theorem Hr (w l:Nat) (hv:Int) (c:Nat) (ps:As) (ts hs:List Nat) (bit:Nat) (hb:bit<=1000) (hp:ps.length<=1000) (r:Dv):cm (.fz (oneD w l hv c (bh ps) ts hs) :: .fz (.int (bit:Int))::r)=some (.list ((wth ps bit (2 ^ bit)).map prD)):=by
 unfold cm wth
 rw [List.map_map]
 have sh:=cT (k:=bit) (by omega)
 generalize 2 ^ bit=N at *
 refine bM (xs:=ps) (h:=pD) (o3 w l hv c ps ts hs) (by omega) (fun p _=>?_) fun p _ _=>?_
 ·have h:=gh p.1 bit
  generalize hasB p.1 bit=z at *
  simp [bt,pD,h]
 ·have x:=MA.vh p.1 N
  simp [bt,pD,prD,x,sh]
theorem Hs (Q:List (Nat×Int)) (hl:Q.length<=1000) (z0 z1:Sl) (r:Dv):cj (z0::z1 :: .fz (.list (Q.map prD))::r)=some (.list (Q.map fun q=>PyData.int q.2)):=by
 unfold cj
 refine d4 (xs:=Q) (h:=prD) rfl (by omega) fun q _=>?_
 simp [bt,prD]
theorem r8:∀ Q:List (Nat×Int),(Q.map fun q=>q.2).sum=tot Q
 | []=>rfl
 | q::Q=>by rw [List.map_cons,List.sum_cons,r8 Q]; rfl
theorem yO (Q:List (Nat×Int)):gX [.list (Q.map fun q=>PyData.int q.2)]=some (.int (tot Q)):=by
 have:=ic (fun q:Nat×Int=>q.2) Q
 rw [this,r8]
theorem FB (O L W E A0 A3 A4 A5 TT SS:D) (bit N tt t4 r h c' tie:Int) (p1:∀ x2 x3 x4 x5 x6 x7,cm [.fz O,.fz (.int bit),x2,x3,x4,x5,x6,x7]=some W) (p2:∀ x3 x4 x5 x6 x7,cj [.fz O,.fz (.int bit),.fz W,x3,x4,x5,x6,x7]=some E) (sm:gX [E]=some (.int tt)) (ht:tt % 8=t4) (h4:t4 % 4=0) (od:bP [W]=some (.int r)) (sh:eP (.int 1) (.int bit)=some (.int N)) (gs:bA [O,.int bit,.int N]=some L) (hx:Builtin.bitXor r (t4 / 4)=tie)
  (o0:az L (.int 0)=some A0) (o1:az L (.int 1)=some (.int h)) (o2:az L (.int 2)=some (.int c')) (o3:az L (.int 3)=some A3) (o4:az L (.int 4)=some A4) (o5:az L (.int 5)=some A5) (ad:aN A4 (.tuple [.int tie])=some TT) (gt:aF [TT]=some SS):ba [O,.int bit]=some (.tuple [A0,.int (h-2),.int c',A3,SS,A5]):=by
 simp [ba,aV,dE,aH,p1,p2,sm,ht,h4,od,sh,gs,hx,o0,o1,o2,o3,o4,o5,ad,gt,t6]
theorem FA (O L W E A0 A3 A4 A5 R:D) (bit N tt t4 r h c' x t2 e8:Int) (he8:8-t4=e8) (p1:∀ x2 x3 x4 x5 x6 x7,cm [.fz O,.fz (.int bit),x2,x3,x4,x5,x6,x7]=some W) (p2:∀ x3 x4 x5 x6 x7,cj [.fz O,.fz (.int bit),.fz W,x3,x4,x5,x6,x7]=some E) (sm:gX [E]=some (.int tt)) (ht:tt % 8=t4) (h4:¬ t4 % 4=0) (od:bP [W]=some (.int r)) (sh:eP (.int 1) (.int bit)=some (.int N)) (gs:bA [O,.int bit,.int N]=some L) (hx:(if t4=2 then 1 else 7)=x)
  (o0:az L (.int 0)=some A0) (o1:az L (.int 1)=some (.int h)) (o2:az L (.int 2)=some (.int c')) (o3:az L (.int 3)=some A3) (o4:az L (.int 4)=some A4) (o5:az L (.int 5)=some A5) (aa:bb [.int (c'+x),A3,.list [.tuple [.int r,.int e8]]]=some (.tuple [.int t2,R])):ba [O,.int bit]=some (.tuple [A0,.int (h-1),.int t2,R,A4,A5]):=by
 by_cases q:t4=2
 ·rw [if_pos q] at hx
  have z:e8=6:=by omega
  subst q hx z
  simp [ba,aV,dE,aH,p1,p2,sm,ht,od,sh,gs,o0,o1,o2,o3,o4,o5,aa,t6]
 ·rw [if_neg q] at hx
  subst hx
  simp [ba,aV,dE,aH,p1,p2,sm,ht,h4,q,he8,od,sh,gs,o0,o1,o2,o3,o4,o5,aa,t6]
noncomputable def C5 (hv t:Int):Int:=if t % 4=0 then hv-2 else hv-1
noncomputable def yp (ts:List Nat) (r:Nat) (t:Int):List Nat:=ts++[r ^^^ (t / 4).toNat]
noncomputable def xG (t:Int):Int:=if t=2 then 1 else 7
structure Gn (w l:Nat) (hv:Int) (c:Nat) (ps:As) (ts hs:List Nat) (bit:Nat) (hv':Int) (c':Nat) (R:As) (ss:List Nat):Prop where
 h:hv'=C5 hv (tot (wth ps bit (2 ^ bit)) % 8)
 a:tot (wth ps bit (2 ^ bit)) % 4=0->(c':Int)=((c:Int)+tv (ps.map (xb bit (2 ^ bit)))) % 8/\RR R (fun k=>kv k (ps.map (xb bit (2 ^ bit))))/\TT ss (yp ts (op 0 (wth ps bit (2 ^ bit))) (tot (wth ps bit (2 ^ bit)) % 8))
 b:¬ tot (wth ps bit (2 ^ bit)) % 4=0->(c':Int)=((c:Int)+tv (ps.map (xb bit (2 ^ bit)))+xG (tot (wth ps bit (2 ^ bit)) % 8)+tv [(op 0 (wth ps bit (2 ^ bit)),8-tot (wth ps bit (2 ^ bit)) % 8)]) % 8/\RR R (fun k=>kv k (ps.map (xb bit (2 ^ bit)))+kv k [(op 0 (wth ps bit (2 ^ bit)),8-tot (wth ps bit (2 ^ bit)) % 8)])/\ss=ts
theorem Gn.one {w l:Nat} {hv:Int} {c:Nat} {ps:As} {ts hs:List Nat} {bit:Nat} {hv' hv'':Int} {c' c'':Nat} {R R':As} {ss ss':List Nat} (g:Gn w l hv c ps ts hs bit hv' c' R ss) (g':Gn w l hv c ps ts hs bit hv'' c'' R' ss'):hv'=hv''/\c'=c''/\R=R'/\ss=ss':=by
 refine ⟨g.h.trans g'.h.symm,?_⟩
 by_cases q:tot (wth ps bit (2 ^ bit)) % 4=0
 ·obtain ⟨a1,a2,a3⟩:=g.a q
  obtain ⟨b1,b2,b3⟩:=g'.a q
  exact ⟨by omega,a2.one b2 fun k _=>rfl,a3.one b3 fun t _=>.rfl⟩
 ·obtain ⟨a1,a2,a3⟩:=g.b q
  obtain ⟨b1,b2,b3⟩:=g'.b q
  exact ⟨by omega,a2.one b2 fun k _=>rfl,a3.trans b3.symm⟩
theorem HC (t:Int):(((t % 8) / 4).toNat:Int)=t % 8 / 4:=by omega
theorem I0 {R:As} {f:Nat->Int} (h:RR R f) (k:Nat):vl R k<8:=by
 by_cases hk:0<k
 ·have:=h.val k hk; omega
 ·have:k=0:=by omega
  subst this
  rw [gJ fun q=>by
   obtain ⟨p,hp,e⟩:=List.mem_map.mp q
   have:=(h.nz p hp).1
   omega]
  omega
theorem Ja {R:As} {f:Nat->Int} (h:RR R f):0 ∉ aq R:=fun q=>by
 obtain ⟨p,hp,e⟩:=List.mem_map.mp q
 have:=(h.nz p hp).1
 omega
theorem Ak {w l:Nat} {hv:Int} {c:Nat} {ps:As} {ts hs:List Nat} {n m:Nat} (S:Sm w l hv c ps ts hs n m) (hm:m<32) (hn:n<=100) (bit:Nat) (hb:bit<=1000):∃ (hv':Int) (c':Nat) (R:As) (ss:List Nat),Gn w l hv c ps ts hs bit hv' c' R ss/\R.length<=ps.length+1/\ss.length<=ts.length+1/\ba [oneD w l hv c (bh ps) ts hs,.int (bit:Int)]=some (oneD w l hv' c' (bh R) ss (lP hs bit)):=by
 obtain ⟨T,R,h1,h2,h3,h4⟩:=km S hm hn bit (2 ^ bit)
 have tl:=S.tl
 have pl:=S.pl
 have wl:(wth ps bit (2 ^ bit)).length<=ps.length:=by unfold wth; rw [List.length_map]; exact List.length_filter_le _ _
 have p1:∀ x2 x3 x4 x5 x6 x7,cm [.fz (oneD w l hv c (bh ps) ts hs),.fz (.int (bit:Int)),x2,x3,x4,x5,x6,x7]=some (.list ((wth ps bit (2 ^ bit)).map prD)):=fun x2 x3 x4 x5 x6 x7=>Hr w l hv c ps ts hs bit hb (by omega) _
 have p2:∀ x3 x4 x5 x6 x7,cj [.fz (oneD w l hv c (bh ps) ts hs),.fz (.int (bit:Int)),.fz (.list ((wth ps bit (2 ^ bit)).map prD)),x3,x4,x5,x6,x7]=_:=fun x3 x4 x5 x6 x7=>Hs (wth ps bit (2 ^ bit)) (by omega) _ _ _
 have o3:az (oneD w l hv T (bh R) ts (lP hs bit)) (.int 3)=some (.tuple (R.map pD)):=by rw [sR,ka]
 have od:=pO (wth ps bit (2 ^ bit))
 have sm:=yO (wth ps bit (2 ^ bit))
 have sh:=cT (k:=bit) (by omega)
 obtain ⟨W,hW⟩:∃ W,wth ps bit (2 ^ bit)=W:=⟨_,rfl⟩
 rw [hW] at wl p1 p2 od sm
 by_cases q:tot W % 4=0
 ·obtain ⟨ss,g1,g2,_,g3⟩:=sg (yp ts (op 0 W) (tot W % 8)) (by unfold yp; rw [List.length_append]; simp; omega)
  have hx:Builtin.bitXor ((op 0 W:Nat):Int) (tot W % 8 / 4)=((op 0 W ^^^ (tot W % 8 / 4).toNat:Nat):Int):=by
   have:=MA.vh (op 0 W) (tot W % 8 / 4).toNat
   rw [HC] at this
   exact this
  have ad:aN (.tuple (ai ts)) (.tuple [.int ((op 0 W ^^^ (tot W % 8 / 4).toNat:Nat):Int)])=some (.tuple (ai (yp ts (op 0 W) (tot W % 8)))):=by
   rw [yj (by simp [bV]; omega)]
   unfold yp
   rw [ji]
   rfl
  have x:=FB _ _ _ _ _ _ _ _ _ _ bit _ _ _ _ _ _ _ p1 p2 sm rfl (by omega) od sh h4 hx (jy ..) (kE ..) (pK ..) o3 (pJ ..) (iq ..) ad g3
  refine ⟨C5 hv (tot W % 8),T,R,ss,⟨by rw [hW],fun _=>⟨h1,h2,by rw [hW]; exact g1⟩,fun z=>absurd (hW ▸ q) z⟩,by omega,by unfold yp at g2; rw [List.length_append] at g2; simpa using g2,?_⟩
  rw [x]
  unfold oneD C5
  rw [ka,if_pos (by omega)]
 ·obtain ⟨R2,g1,g2,g3⟩:=iV (T+xG (tot W % 8)) R (eT h2.pk) (I0 h2) [(op 0 W,8-tot W % 8)] (by simp; omega) (Ja h2)
  have g3:=g3 (.tuple (R.map pD)) (xP R (eT h2.pk) (by omega))
  have x:=FA _ _ _ _ _ _ _ _ _ bit _ _ _ _ _ _ (xG (tot W % 8)) _ _ rfl p1 p2 sm rfl (by omega) od sh h4 rfl (jy ..) (kE ..) (pK ..) o3 (pJ ..) (iq ..) g3
  refine ⟨C5 hv (tot W % 8),(((T:Int)+xG (tot W % 8)+tv [(op 0 W,8-tot W % 8)]) % 8).toNat,R2,ts,⟨by rw [hW],fun z=>absurd (hW ▸ z) q,fun _=>⟨?_,⟨g1.pk,fun k hk=>?_,g1.nz⟩,rfl⟩⟩,by simpa using Nat.le_trans g2 (by simp; omega),by omega,?_⟩
  ·rw [hW]; omega
  ·rw [g1.val k hk,hW,h2.val k hk]; omega
  ·rw [x]
   unfold oneD C5
   rw [ka,if_neg (by omega),Int.toNat_of_nonneg (by omega)]
noncomputable def xo (bit ch o:Nat):Nat:=if hasB o bit then o ^^^ ch else o
noncomputable def vw (ts:List Nat) (tie bit:Nat):List Nat:=(ts.filter fun o=>decide (o≠tie)).map (xo bit tie)
theorem EM (w l:Nat) (hv:Int) (c:Nat) (ps:As) (ts hs:List Nat) (tie bit:Nat) (ht:ts.length<=1000) (x0 x4:Sl):nK [x0,.fz (.int (tie:Int)),.fz (.int (bit:Int)),.fz (oneD w l hv c (bh ps) ts hs),x4]=some (.list (ai (vw ts tie bit))):=by
 have e:ai (vw ts tie bit)=(ts.filter fun o=>decide (o≠tie)).map fun o=>PyData.int ((xo bit tie o:Nat):Int):=by unfold ai vw; rw [List.map_map]; rfl
 rw [e]
 unfold nK
 refine bM (xs:=ts) (h:=fun h:Nat=>PyData.int (h:Int)) (by
  have:(oI (o2 (oV 3) (oC (.int 4)) az) bu) [x0,.fz (.int (tie:Int)),.fz (.int (bit:Int)),.fz (oneD w l hv c (bh ps) ts hs),x4]=some (ai ts):=rfl
  exact this) (by omega) (fun p _=>?_) fun p _ _=>?_
 ·have h:=wU p tie
  generalize decide (p≠tie)=z at *
  simp only [bt]
  show (((zc (some (Sl.fz (.int (p:Int))))).bind fun x=>(zc (some (Sl.fz (.int (tie:Int))))).bind fun y=>neD x y).bind asB)=_
  rw [kj,kj,Option.bind_some,Option.bind_some,h]
  rfl
 ·have h:=gh p bit
  have x:=MA.vh p tie
  unfold xo
  cases q:hasB p bit with
  | true=>rw [q] at h; simp [bt,h,x]
  | false=>rw [q] at h; simp [bt,h]
theorem G3 (O L A0 A1 A2 A3 A5 X SS:D) (tie bit:Int) (h1:bA [O,.int bit,.int tie]=some L) (p:∀ x0 x4,nK [x0,.fz (.int tie),.fz (.int bit),.fz L,x4]=some X) (o0:az L (.int 0)=some A0) (o1:az L (.int 1)=some A1) (o2:az L (.int 2)=some A2) (o3:az L (.int 3)=some A3) (o5:az L (.int 5)=some A5) (t:aF [X]=some SS):jC [O,.int tie,.int bit]=some (.tuple [A0,A1,A2,A3,SS,A5]):=by
 simp [jC,aV,ya,aH,h1,p,o0,o1,o2,o3,o5,t,t6]
theorem Cd {w l:Nat} {hv:Int} {c:Nat} {ps:As} {ts hs:List Nat} {n m:Nat} (S:Sm w l hv c ps ts hs n m) (hm:m<32) (hn:n<=100) (tie bit:Nat):∃ (T:Nat) (R:As) (ss:List Nat),(T:Int)=((c:Int)+tv (ps.map (xb bit tie))) % 8/\RR R (fun k=>kv k (ps.map (xb bit tie)))/\R.length<=ps.length/\TT ss (vw ts tie bit)/\ss.length<=ts.length/\jC [oneD w l hv c (bh ps) ts hs,.int (tie:Int),.int (bit:Int)]=some (oneD w l hv T (bh R) ss (lP hs bit)):=by
 obtain ⟨T,R,h1,h2,h3,h4⟩:=km S hm hn bit tie
 have tl:=S.tl
 have ln:(vw ts tie bit).length<=ts.length:=by unfold vw; rw [List.length_map]; exact List.length_filter_le _ _
 obtain ⟨ss,g1,g2,g3,_⟩:=sg (vw ts tie bit) (by omega)
 exact ⟨T,R,ss,h1,h2,h3,g1,by omega,G3 _ _ _ _ _ _ _ _ _ _ _ h4 (fun x0 x4=>EM w l hv T R ts (lP hs bit) tie bit (by omega) x0 x4) (jy ..) (kE ..) (pK ..) (sR ..) (iq ..) g3⟩
theorem par2 (n:Nat):par n=0\/par n=1:=by have:=MA.dH n; omega
theorem sG (h ch b b':Nat) (e:∀ s,par (xo h ch s &&& b)=par (s &&& b')):∀ ps:As,bp b (ps.map (xb h ch))=bp b' (bh ps)
 | []=>rfl
 | p::ps=>by
  have e1:(xb h ch p).1=xo h ch p.1:=rfl
  show (xb h ch p).2*((par ((xb h ch p).1 &&& b):Nat):Int)+bp b (ps.map (xb h ch))=(p.2:Int)*((par (p.1 &&& b'):Nat):Int)+bp b' (bh ps)
  rw [sG h ch b b' e ps,e1,e]
  rfl
theorem fF (b:Nat) (ts:List Nat):nS b ts=true↔∀ t∈ts,par (t &&& b)=0:=by
 unfold nS
 rw [List.all_eq_true]
 exact ⟨fun q t ht=>by simpa using q t ht,fun q t ht=>by simpa using q t ht⟩
theorem AK {c T:Int} {ps R:List (Nat×Int)} {ts ss:List Nat} {b b':Nat} (h1:(T+bp b R) % 8=(c+bp b' ps) % 8) (h2:nS b ss=nS b' ts):FF T R ss b=FF c ps ts b':=by
 unfold FF
 rw [h1,h2]
theorem Br {c:Int} {ps:List (Nat×Int)} {ts:List Nat} {b t:Nat} (ht:t∈ts) (hp:par (t &&& b)=1):FF c ps ts b=q0:=by
 unfold FF
 rw [if_neg fun z=>by have:=(fF b ts).mp z t ht; omega]
theorem Cc {tie h:Nat} {c:Int} {ps:As} {ts:List Nat} (htie:tie∈ts) (hb:hasB tie h=true) {T:Int} {R:As} {ss:List Nat} (hT:T % 8=(c+tv (ps.map (xb h tie))) % 8) (rr:RR R fun k=>kv k (ps.map (xb h tie))) (tt:TT ss (vw ts tie h)) (b:Nat) (ho:b % 2=1) (hc:b / 2 ^ h % 2=0) :
  MA.Q4.add (FF c (bh ps) ts b) (FF c (bh ps) ts (b+2 ^ h))=FF T (bh R) ss b:=by
 have ph:=kA rr hT b ho
 have go:∀ b',(∀ s,par (xo h tie s &&& b)=par (s &&& b'))->par (tie &&& b')=0->FF T (bh R) ss b=FF c (bh ps) ts b':=fun b' e et=>by
  refine AK (by rw [ph,sG h tie b b' e]) ?_
  rw [Bool.eq_iff_iff,fF,fF]
  constructor
  ·intro q t ht
   by_cases z:t=tie
   ·rw [z]; exact et
   ·rw [<- e t]
    rcases Nat.eq_zero_or_pos (xo h tie t) with y | y
    ·rw [y,Nat.zero_and,MA.dZ]
    ·refine q _ ((tt.mem _).mpr ⟨?_,y⟩)
     unfold vw
     exact List.mem_map.mpr ⟨t,List.mem_filter.mpr ⟨ht,by simpa using z⟩,rfl⟩
  ·intro q t ht
   obtain ⟨h1,_⟩:=(tt.mem t).mp ht
   unfold vw at h1
   obtain ⟨o,ho',rfl⟩:=List.mem_map.mp h1
   rw [e]
   exact q o (List.mem_filter.mp ho').1
 have up:=fun s=>qS hc s
 rcases par2 (tie &&& b) with z | z
 ·have e:∀ s,par (xo h tie s &&& b)=par (s &&& b):=fun s=>by
   unfold xo
   cases hasB s h with
   | true=>rw [if_pos rfl,pH,z]; have:=MA.dH (s &&& b); omega
   | false=>rfl
  have n:par (tie &&& (b+2 ^ h))=1:=by rw [up,hb,z]; rfl
  rw [go b e z,Br htie n,EJ]
 ·have e:∀ s,par (xo h tie s &&& b)=par (s &&& (b+2 ^ h)):=fun s=>by
   rw [up]
   unfold xo
   cases hasB s h with
   | true=>rw [if_pos rfl,pH,z]; rfl
   | false=>
    have:=MA.dH (s &&& b)
    show par (s &&& b)=(par (s &&& b)+0) % 2
    omega
  have n:par (tie &&& (b+2 ^ h))=0:=by rw [up,hb,z]; rfl
  rw [go _ e n,Br htie z,wm,EJ]
noncomputable def Dg (b:Nat):List (Nat×Int)->Int
 | []=>0
 | q::Q=>q.2*(1-2*((par (q.1 &&& b):Nat):Int))+Dg b Q
theorem xL (b:Nat):∀ (W:List (Nat×Int)) (x:Nat),(∀ q∈W,q.2=2\/q.2=4\/q.2=6)->(Dg b W-tot W+4*((par (op x W &&& b):Nat):Int)-4*((par (x &&& b):Nat):Int)) % 8=0
 | [],x,_=>by
  show (0-0+4*((par (x &&& b):Nat):Int)-4*((par (x &&& b):Nat):Int)) % 8=0
  omega
 | q::W,x,h=>by
  have ih:=xL b W (if q.2=2\/q.2=6 then x ^^^ q.1 else x) fun r hr=>h r (List.mem_cons_of_mem _ hr)
  have hq:=h q List.mem_cons_self
  show (q.2*(1-2*((par (q.1 &&& b):Nat):Int))+Dg b W-(q.2+tot W)+4*((par (op (if q.2=2\/q.2=6 then x ^^^ q.1 else x) W &&& b):Nat):Int)-4*((par (x &&& b):Nat):Int)) % 8=0
  have px:=pH x q.1 b
  have l1:=MA.dH (x &&& b)
  have l2:=MA.dH (q.1 &&& b)
  generalize par (op (if q.2=2\/q.2=6 then x ^^^ q.1 else x) W &&& b)=Y at ih ⊢
  rcases hq with e | e | e <;> rw [e] at ih ⊢
  ·rw [if_pos (.inl rfl),px] at ih
   omega
  ·rw [if_neg (by decide)] at ih
   omega
  ·rw [if_pos (.inr rfl),px] at ih
   omega
theorem sH {b h:Nat} (hc:b / 2 ^ h % 2=0):∀ ps:As,bp b (ps.map (xb h (2 ^ h)))=bp b (bh ps)/\bp (b+2 ^ h) (bh ps)=bp b (ps.map (xb h (2 ^ h)))+Dg b (wth ps h (2 ^ h))
 | []=>⟨rfl,rfl⟩
 | p::ps=>by
  obtain ⟨i1,i2⟩:=sH hc ps
  have px:par ((p.1 ^^^ 2 ^ h) &&& b)=par (p.1 &&& b):=by
   rw [pH,zH hc]
   have:=MA.dH (p.1 &&& b)
   omega
  have pu:=qS hc p.1
  have l:=MA.dH (p.1 &&& b)
  cases q:hasB p.1 h with
  | true=>
   have e3:xb h (2 ^ h) p=(p.1 ^^^ 2 ^ h,(p.2:Int)):=by unfold xb; rw [q]; rfl
   have e4:wth (p::ps) h (2 ^ h)=(p.1 ^^^ 2 ^ h,(p.2:Int))::wth ps h (2 ^ h):=by unfold wth; rw [List.filter_cons_of_pos (by simp [q])]; rfl
   rw [q,if_pos rfl] at pu
   rw [List.map_cons,e3,e4]
   refine ⟨?_,?_⟩
   ·show (p.2:Int)*((par ((p.1 ^^^ 2 ^ h) &&& b):Nat):Int)+_=(p.2:Int)*((par (p.1 &&& b):Nat):Int)+bp b (bh ps)
    rw [px,i1]
   ·show (p.2:Int)*((par (p.1 &&& (b+2 ^ h)):Nat):Int)+bp (b+2 ^ h) (bh ps)=(p.2:Int)*((par ((p.1 ^^^ 2 ^ h) &&& b):Nat):Int)+bp b (ps.map (xb h (2 ^ h)))+((p.2:Int)*(1-2*((par ((p.1 ^^^ 2 ^ h) &&& b):Nat):Int))+Dg b (wth ps h (2 ^ h)))
    rw [px,i2,pu]
    rcases par2 (p.1 &&& b) with z | z <;> rw [z] <;> omega
  | false=>
   have e3:xb h (2 ^ h) p=(p.1,(p.2:Int)):=by unfold xb; rw [q]; rfl
   have e4:wth (p::ps) h (2 ^ h)=wth ps h (2 ^ h):=by unfold wth; rw [List.filter_cons_of_neg (by simp [q])]
   rw [q] at pu
   have pu:par (p.1 &&& (b+2 ^ h))=par (p.1 &&& b):=by rw [pu]; show (par (p.1 &&& b)+0) % 2=_; omega
   rw [List.map_cons,e3,e4]
   refine ⟨?_,?_⟩
   ·show (p.2:Int)*((par (p.1 &&& b):Nat):Int)+_=(p.2:Int)*((par (p.1 &&& b):Nat):Int)+bp b (bh ps)
    rw [i1]
   ·show (p.2:Int)*((par (p.1 &&& (b+2 ^ h)):Nat):Int)+bp (b+2 ^ h) (bh ps)=(p.2:Int)*((par (p.1 &&& b):Nat):Int)+bp b (ps.map (xb h (2 ^ h)))+Dg b (wth ps h (2 ^ h))
    rw [pu,i2]
    omega
theorem CG {b h:Nat} (hc:b / 2 ^ h % 2=0) {ts:List Nat} (hn:∀ t∈ts,hasB t h=false):nS (b+2 ^ h) ts=nS b ts:=by
 rw [Bool.eq_iff_iff,fF,fF]
 have e:∀ t∈ts,par (t &&& (b+2 ^ h))=par (t &&& b):=fun t ht=>by
  rw [qS hc,hn t ht]
  have:=MA.dH (t &&& b)
  show (par (t &&& b)+0) % 2=_
  omega
 exact ⟨fun q t ht=>by rw [<- e t ht]; exact q t ht,fun q t ht=>by rw [e t ht]; exact q t ht⟩
theorem kc (a d:Nat):MA.Q4.add (MA.cw a dA) (MA.cw ((a+d) % 8) dA)=MA.cw a (MA.Q4.add dA (MA.cw d dA)):=by
 rw [kb,MA.fh,MA.er]
theorem EX (a:Nat):MA.Q4.add (MA.cw a dA) (MA.cw (a % 8) dA)=MA.Q4.rt (MA.Q4.rt (MA.cw a dA)):=by
 rw [MA.fh]
 apply MA.Q4.ext' <;> simp [MA.Q4.add,MA.Q4.rt] <;> omega
theorem vB (a:Nat) (x:MA.Q4):MA.cw a (MA.Q4.rt x)=MA.Q4.rt (MA.cw a x):=MA.r9 a 1 x
theorem A9 (a:Nat):MA.Q4.add (MA.cw a dA) (MA.cw ((a+2) % 8) dA)=MA.Q4.rt (MA.cw (a+1) dA):=by
 rw [kc,MA.er a 1,<- vB]
 rfl
theorem A8 (a:Nat):MA.Q4.add (MA.cw a dA) (MA.cw ((a+6) % 8) dA)=MA.Q4.rt (MA.cw (a+7) dA):=by
 rw [kc,MA.er a 7,<- vB]
 rfl
theorem EW (a:Nat):MA.Q4.add (MA.cw a dA) (MA.cw ((a+4) % 8) dA)=q0:=by
 rw [kc]
 exact gS a
theorem cy {a:Nat} {P:Int} (d:Nat) (h:P % 8=((a+d:Nat):Int) % 8):MA.cw (P % 8).toNat dA=MA.cw ((a+d) % 8) dA:=by
 congr 1
 omega
theorem vz:∀ W:List (Nat×Int),(∀ q∈W,q.2=2\/q.2=4\/q.2=6)->tot W % 2=0
 | [],_=>rfl
 | q::W,h=>by
  have:=vz W fun r hr=>h r (List.mem_cons_of_mem _ hr)
  have:=h q List.mem_cons_self
  show (q.2+tot W) % 2=0
  omega
theorem zQ {b:Nat} (hb:b % 2=1) {ts ss:List Nat} {r:Nat} {t:Int} (tt:TT ss (yp ts r t)) (n:Nat) (hn:(t / 4).toNat=n) (h2:n<2):nS b ss=(nS b ts&&decide ((par (r &&& b)+n) % 2=0)):=by
 have pn:par ((r ^^^ n) &&& b)=(par (r &&& b)+n) % 2:=by
  rw [pH]
  have:n=0\/n=1:=by omega
  rcases this with rfl | rfl
  ·rw [Nat.zero_and,MA.dZ]
  ·rw [EU b hb]
 rw [Bool.eq_iff_iff,Bool.and_eq_true,fF,fF,decide_eq_true_eq,<- pn]
 have key:∀ t'∈yp ts r t,(∀ x∈ss,par (x &&& b)=0)->par (t' &&& b)=0:=fun t' ht q=>by
  rcases Nat.eq_zero_or_pos t' with y | y
  ·rw [y,Nat.zero_and,MA.dZ]
  ·exact q _ ((tt.mem _).mpr ⟨ht,y⟩)
 unfold yp at key tt
 rw [hn] at key tt
 constructor
 ·intro q
  exact ⟨fun t' ht=>key t' (List.mem_append_left _ ht) q,key _ (List.mem_append_right _ (List.mem_singleton.mpr rfl)) q⟩
 ·intro ⟨q1,q2⟩ t' ht
  rcases List.mem_append.mp ((tt.mem t').mp ht).1 with z | z
  ·exact q1 t' z
  ·rw [List.mem_singleton.mp z]; exact q2
theorem AC {w l:Nat} {hv:Int} {c:Nat} {ps:As} {ts hs:List Nat} {h:Nat} {hv':Int} {c':Nat} {R:As} {ss:List Nat} (g:Gn w l hv c ps ts hs h hv' c' R ss) (hn:∀ t∈ts,hasB t h=false) (hev:∀ q∈wth ps h (2 ^ h),q.2=2\/q.2=4\/q.2=6) (b:Nat) (ho:b % 2=1) (hc:b / 2 ^ h % 2=0) :
  MA.Q4.add (FF c (bh ps) ts b) (FF c (bh ps) ts (b+2 ^ h))=if tot (wth ps h (2 ^ h)) % 4=0 then MA.Q4.rt (MA.Q4.rt (FF c' (bh R) ss b)) else MA.Q4.rt (FF c' (bh R) ss b):=by
 obtain ⟨s1,s2⟩:=sH hc ps
 have D:=xL b (wth ps h (2 ^ h)) 0 hev
 have te:=vz _ hev
 have ok:=CG hc hn
 rw [Nat.zero_and,MA.dZ] at D
 have ga:=g.a
 have gb:=g.b
 generalize wth ps h (2 ^ h)=W at *
 generalize hQ:ps.map (xb h (2 ^ h))=Q at *
 have lp:=MA.dH (op 0 W &&& b)
 obtain ⟨a,ha⟩:∃ a:Nat,(((c:Int)+bp b Q) % 8).toNat=a:=⟨_,rfl⟩
 have ha':(a:Int)=((c:Int)+bp b Q) % 8:=by omega
 have F0:FF c (bh ps) ts b=if nS b ts=true then MA.cw a dA else q0:=by unfold FF; rw [<- s1,ha]
 have F1:FF c (bh ps) ts (b+2 ^ h)=if nS b ts=true then MA.cw (((c:Int)+bp b Q+Dg b W) % 8).toNat dA else q0:=by unfold FF; rw [ok,s2,<- Int.add_assoc]
 rw [F0,F1]
 by_cases q:tot W % 4=0
 ·rw [if_pos q]
  obtain ⟨g1,g2,g3⟩:=ga q
  have ph:=kA g2 (c:=c) (T:=c') (by omega) b ho
  obtain ⟨n,hn4,hn2,hn8⟩:∃ n:Nat,((tot W % 8) / 4).toNat=n/\n<2/\tot W % 8=4*(n:Int):=⟨_,rfl,by omega,by omega⟩
  have ot:=zQ ho g3 n hn4 hn2
  have F2:FF c' (bh R) ss b=if nS b ss=true then MA.cw a dA else q0:=by unfold FF; rw [ph,ha]
  rw [F2,ot]
  by_cases o:nS b ts=true
  ·rw [if_pos o,if_pos o,o]
   by_cases z:(par (op 0 W &&& b)+n) % 2=0
   ·rw [decide_eq_true z]
    simp only [Bool.and_self,if_true]
    rw [cy (a:=a) 0 (by omega),Nat.add_zero]
    exact EX a
   ·rw [decide_eq_false z]
    simp only [Bool.and_false,Bool.false_eq_true,if_false]
    rw [cy (a:=a) 4 (by omega)]
    exact EW a
  ·have o:nS b ts=false:=by simpa using o
   rw [o]
   simp only [Bool.false_and,Bool.false_eq_true,if_false]
   rfl
 ·rw [if_neg q]
  obtain ⟨g1,g2,rfl⟩:=gb q
  obtain ⟨e1,e2,e3⟩:=jd b Q [(op 0 W,8-tot W % 8)]
  have g2':RR R fun k=>kv k (Q++[(op 0 W,8-tot W % 8)]):=by
   have:(fun k=>kv k (Q++[(op 0 W,8-tot W % 8)]))=fun k=>kv k Q+kv k [(op 0 W,8-tot W % 8)]:=funext fun k=>e3 k
   rw [this]; exact g2
  have ph:=kA g2' (c:=(c:Int)+xG (tot W % 8)) (T:=c') (by rw [e2]; omega) b ho
  have ps1:bp b [(op 0 W,8-tot W % 8)]=(8-tot W % 8)*((par (op 0 W &&& b):Nat):Int):=by show _+0=_; rw [Int.add_zero]
  rw [e1,ps1] at ph
  by_cases o:nS b ss=true
  ·have F2:FF c' (bh R) ss b=MA.cw (((c':Int)+bp b (bh R)) % 8).toNat dA:=by unfold FF; rw [if_pos o]
   rw [if_pos o,if_pos o,F2]
   unfold xG at ph
   have t8:tot W % 8=2\/tot W % 8=6:=by omega
   rcases t8 with t | t <;> rcases par2 (op 0 W &&& b) with z | z <;> rw [t,z] at ph <;> rw [z] at D
   ·rw [cy (a:=a) 2 (by omega),cy (P:=(c':Int)+bp b (bh R)) (a:=a) 1 (by simp at ph; omega),MA.fh (a+1)]
    exact A9 a
   ·rw [cy (a:=a) 6 (by omega),cy (P:=(c':Int)+bp b (bh R)) (a:=a) 7 (by simp at ph; omega),MA.fh (a+7)]
    exact A8 a
   ·rw [cy (a:=a) 6 (by omega),cy (P:=(c':Int)+bp b (bh R)) (a:=a) 7 (by simp at ph; omega),MA.fh (a+7)]
    exact A8 a
   ·rw [cy (a:=a) 2 (by omega),cy (P:=(c':Int)+bp b (bh R)) (a:=a) 1 (by simp at ph; omega),MA.fh (a+1)]
    exact A9 a
  ·have F2:FF c' (bh R) ss b=q0:=by unfold FF; rw [if_neg o]
   rw [if_neg o,if_neg o,F2]
   rfl
theorem CI (y:MA.Q4) (k:Nat):MA.f9 (MA.Q4.rt y) ((k+1:Nat):Int)=MA.f9 y (k:Int):=by
 obtain ⟨d,e1,h1,h2⟩:=MA.qY y k
 have e:MA.f9 y (k:Int)=((MA.f9 y k).1,(d:Int)):=by rw [<- e1]
 rw [e]
 obtain ⟨s1,s2,s3⟩:=MA.iy y k (by omega)
 refine gu h2.1 (by omega) ?_
 rw [e1] at s3
 have:k+1-d=(k-d)+1:=by omega
 rw [this,MA.Q4.rtn_succ]
 have z:((k:Int)-(d:Int)).toNat=k-d:=by omega
 rw [z] at s3
 rw [s3]
theorem qP (y:MA.Q4) (hv:Int):res (MA.Q4.rt y) hv=res y (hv-1):=by
 unfold res
 by_cases h:hv<0
 ·rw [if_pos h,if_pos (by omega)]
  have:(-(hv-1)).toNat=(-hv).toNat+1:=by omega
  rw [this]
  rfl
 ·rw [if_neg h]
  by_cases h1:hv=0
  ·subst h1
   rw [if_pos (by decide),E8]
   rfl
  ·rw [if_neg (by omega)]
   obtain ⟨k,hk⟩:∃ k:Nat,hv=((k+1:Nat):Int):=⟨(hv-1).toNat,by omega⟩
   rw [hk,CI,show (((k+1:Nat):Int)-1)=(k:Int) by omega]
theorem Ap {d:D} {k:Nat} (h:MA.Sh k d) (hk:k<=64):g9 d d=some (.bool true):=by
 have hs:vX d=true:=by
  show (d.canLay0&&decide (d.depth<=64))=true
  rw [h.1,decide_eq_true (Nat.le_trans h.2 hk)]; rfl
 unfold g9
 rw [if_pos ⟨hs,hs⟩,MA.ld d h.1]
theorem sV {d:D} {k:Nat} (h:MA.Sh k d) (hk:k<=64):neD d d=some (.bool false):=by
 have hs:vX d=true:=by
  show (d.canLay0&&decide (d.depth<=64))=true
  rw [h.1,decide_eq_true (Nat.le_trans h.2 hk)]; rfl
 unfold neD
 rw [if_pos ⟨hs,hs⟩,MA.ld d h.1]
 rfl
noncomputable def fa (ps:List (Nat×Int)) (ts:List Nat) (k:Nat):Bool:=if (ts.any fun t=>hasB t k)=true then false else (ps.filter fun p=>hasB p.1 k).all fun p=>p.2 % 2==0
section
variable (w l:Nat) (hv:Int) (c:Nat) (ps:List (Nat×Int)) (ts hs:List Nat)
theorem FD (k:Nat) (ht:ts.length<=1000):fD [.fz (oneD w l hv c ps ts hs),.fz (.int k)]=some (.list (ts.map fun t=>.bool (hasB t k))):=by
 unfold fD
 refine d4 (xs:=ts) (h:=fun t=>.int ((t:Nat):Int)) ?_ (by omega) fun t _=>?_
 ·have:(oI (o2 (oV 0) (oC (.int 4)) az) bu) [.fz (oneD w l hv c ps ts hs),.fz (.int k)]=some (ai ts):=rfl
  exact this
 ·have h:=gh t k
  generalize hasB t k=z at *
  simp [bt,h]
theorem FC (k:Nat) (hp:ps.length<=1000):fB [.fz (oneD w l hv c ps ts hs),.fz (.int k)]=some (.list ((ps.filter fun p=>hasB p.1 k).map fun p=>.bool (p.2 % 2==0))):=by
 unfold fB
 refine bM (xs:=ps) (h:=prD) ?_ (by omega) (fun p _=>?_) fun p _ _=>?_
 ·have:(oI (o2 (oV 0) (oC (.int 3)) az) bu) [.fz (oneD w l hv c ps ts hs),.fz (.int k)]=some (ps.map prD):=rfl
  exact this
 ·have h:=gh p.1 k
  generalize hasB p.1 k=z at *
  simp [bt,prD,h]
 ·simp [bt,prD]
theorem tH (k:Nat) (ht:ts.length<=1000) (hp:ps.length<=1000):bH [oneD w l hv c ps ts hs,.int k]=some (.bool (fa ps ts k)):=by
 have p1:=FD w l hv c ps ts hs k ht
 have p2:=FC w l hv c ps ts hs k hp
 have a1:=ye (fun t=>hasB t k) ts
 have a2:=yi (fun p:Nat×Int=>p.2 % 2==0) (ps.filter fun p=>hasB p.1 k)
 unfold fa
 generalize oneD w l hv c ps ts hs=O at *
 generalize (ps.filter fun p=>hasB p.1 k).all (fun p:Nat×Int=>p.2 % 2==0)=r at *
 generalize ((ps.filter fun p=>hasB p.1 k).map fun p=>PyData.bool (p.2 % 2==0))=L2 at *
 generalize (ts.map fun t=>PyData.bool (hasB t k))=L1 at *
 cases h:ts.any fun t=>hasB t k with
 | true=>
  rw [h] at a1
  simp [bH,aV,eA,aH,p1,a1]
 | false=>
  rw [h] at a1
  simp [bH,aV,eA,aH,p1,a1,p2,a2]
end
noncomputable def qy (h:Int):D:=.tuple [.str "away",.int h]
noncomputable def yq (t h:Int):D:=.tuple [.str "put",.int t,.int h]
noncomputable def puts (hs:List Nat) (t:Nat):List D:=(hs.filter fun h=>hasB t h).map fun h:Nat=>yq (t:Int) ((h:Nat):Int)
noncomputable def uk (ps:List (Nat×Int)) (ts hs:List Nat):List D:=((hs.filter fun h=>fa ps ts h).map fun h:Nat=>qy ((h:Nat):Int))++(ts.map (puts hs)).flatten
theorem pA (hs:List Nat) (t:Nat):(puts hs t).length<=hs.length:=by
 unfold puts
 rw [List.length_map]
 exact List.length_filter_le _ _
section
variable (w l:Nat) (hv:Int) (c:Nat) (ps:List (Nat×Int)) (ts hs:List Nat)
theorem Eu (ht:ts.length<=1000) (hp:ps.length<=1000) (hh:hs.length<=1000) (x1 x2:Sl):eu [.fz (oneD w l hv c ps ts hs),x1,x2]=some (.list ((hs.filter fun h=>fa ps ts h).map fun h:Nat=>qy ((h:Nat):Int))):=by
 unfold eu
 refine bM (xs:=hs) (h:=fun h=>.int ((h:Nat):Int)) ?_ (by omega) (fun h _=>?_) fun h _ _=>?_
 ·have:(oI (o2 (oV 0) (oC (.int 5)) az) bu) [.fz (oneD w l hv c ps ts hs),x1,x2]=some (ai hs):=rfl
  exact this
 ·have g:=tH w l hv c ps ts hs h ht hp
  generalize fa ps ts h=z at *
  generalize oneD w l hv c ps ts hs=O at *
  simp [bt,g]
 ·simp [qy]
theorem Et (hh:hs.length<=1000) (t:Nat) (x1:Sl):f8 [.fz (oneD w l hv c ps ts hs),x1,.fz (.int t)]=some (.list (puts hs t)):=by
 unfold f8 puts
 refine bM (xs:=hs) (h:=fun h=>.int ((h:Nat):Int)) ?_ (by omega) (fun h _=>?_) fun h _ _=>?_
 ·have:(oI (o2 (oV 0) (oC (.int 5)) az) bu) [.fz (oneD w l hv c ps ts hs),x1,.fz (.int t)]=some (ai hs):=rfl
  exact this
 ·have g:=gh t h
  generalize hasB t h=z at *
  simp [bt,g]
 ·simp [yq,bt]
theorem sv (hh:hs.length<=1000):∀ (us:List Nat) (A:List D) (x2:Sl),A.length+us.length*1000<=10000000->∃ y2,loop (gN 2) ca (ai us) [.fz (oneD w l hv c ps ts hs),.ow A,x2]=some (.nx,[.fz (oneD w l hv c ps ts hs),.ow (A++(us.map (puts hs)).flatten),y2])
 | [],A,x2,_=>⟨x2,by rw [List.map_nil,List.flatten_nil,List.append_nil]; rfl⟩
 | t::us,A,x2,hA=>by
  have p:=Et w l hv c ps ts hs hh t (.ow A)
  have pl:=pA hs t
  have hz:A.length+(puts hs t).length<=sizeLine:=by rw [sizeLine_eq]; simp only [List.length_cons] at hA; omega
  have b:ca [.fz (oneD w l hv c ps ts hs),.ow A,.fz (.int t)]=some (.nx,[.fz (oneD w l hv c ps ts hs),.ow (A++puts hs t),.fz (.int t)]):=by
   generalize puts hs t=U at *
   generalize oneD w l hv c ps ts hs=O at *
   simp [ca,p,w9,hz]
  obtain ⟨y2,e⟩:=sv hh us (A++puts hs t) (.fz (.int t)) (by rw [List.length_append]; simp only [List.length_cons] at hA; omega)
  refine ⟨y2,?_⟩
  have e0:loop (gN 2) ca (ai (t::us)) [.fz (oneD w l hv c ps ts hs),.ow A,x2]=loop (gN 2) ca (ai us) [.fz (oneD w l hv c ps ts hs),.ow (A++puts hs t),.fz (.int t)]:=cJ rfl b
  rw [e0,e,List.map_cons,List.flatten_cons,List.append_assoc]
theorem jw (ht:ts.length<=1000) (hp:ps.length<=1000) (hh:hs.length<=1000):cf [oneD w l hv c ps ts hs]=some (.list (uk ps ts hs)):=by
 have p:=Eu w l hv c ps ts hs ht hp hh .un .un
 have hl:((hs.filter fun h=>fa ps ts h).map fun h:Nat=>qy ((h:Nat):Int)).length<=hs.length:=by rw [List.length_map]; exact List.length_filter_le _ _
 obtain ⟨y2,e⟩:=sv w l hv c ps ts hs hh ts ((hs.filter fun h=>fa ps ts h).map fun h:Nat=>qy ((h:Nat):Int)) .un (by omega)
 have s1:(pj 1 (E4 (eu))) [.fz (oneD w l hv c ps ts hs),.un,.un]=some (.nx,[.fz (oneD w l hv c ps ts hs),.ow ((hs.filter fun h=>fa ps ts h).map fun h:Nat=>qy ((h:Nat):Int)),.un]):=by
  simp only [pj,E4,p,Option.bind_some,w9]
  rfl
 have s2:(fS (oI (o2 (oV 0) (oC (.int 4)) az) bu) (gN 2) (ca)) [.fz (oneD w l hv c ps ts hs),.ow ((hs.filter fun h=>fa ps ts h).map fun h:Nat=>qy ((h:Nat):Int)),.un]=some (.nx,[.fz (oneD w l hv c ps ts hs),.ow (uk ps ts hs),y2]):=by
  unfold fS
  rw [show (oI (o2 (oV 0) (oC (.int 4)) az) bu) [.fz (oneD w l hv c ps ts hs),.ow ((hs.filter fun h=>fa ps ts h).map fun h:Nat=>qy ((h:Nat):Int)),.un]=some (ai ts) from rfl]
  exact e
 exact E9 (δ':=yz 1 [.fz (oneD w l hv c ps ts hs),.ow (uk ps ts hs),y2]) rfl ((iz s1).trans ((iz s2).trans rfl))
end
inductive Stp:D->Prop
 | aw (h:Int):Stp (qy h)
 | pt (t h:Int):Stp (yq t h)
theorem Hm (hs:List Nat) (b:Int):vq false (.int b) (.tuple (ai hs))=some (.bool (hs.any fun h=>((h:Nat):Int)==b)):=by
 have f:(ai hs).all qx=true:=by
  rw [List.all_eq_true]
  intro d hd
  obtain ⟨h,_,rfl⟩:=List.mem_map.mp hd
  rfl
 show (if qx (.int b)=true/\(ai hs).all qx=true then some (PyData.bool (if false=true then !vp (.int b) (ai hs) else vp (.int b) (ai hs))) else none)=_
 rw [if_pos ⟨rfl,f⟩,if_neg (by decide)]
 unfold vp ai
 rw [List.any_map]
 simp only [Function.comp_def,PyData.eqv]
theorem ID:g9 (.str "away") (.str "away")=some (.bool true):=by
 unfold g9
 rw [if_pos ⟨by decide +kernel,by decide +kernel⟩]
 simp [PyData.eqv]
theorem IC:g9 (.str "put") (.str "away")=some (.bool false):=by
 unfold g9
 rw [if_pos ⟨by decide +kernel,by decide +kernel⟩]
 have:(("put":Str)==("away":Str))=false:=by decide +kernel
 simp [PyData.eqv,this]
theorem Bo (w p:Nat):∀ x∈bo w p,x<2:=fun x hx=>by
 obtain ⟨j,_,rfl⟩:=List.mem_map.mp hx
 exact Nat.mod_lt _ (by decide)
theorem oJ {hs:List Nat} {h:Nat} (m:h∈hs):(hs.any fun x=>((x:Nat):Int)==(h:Int))=true:=List.any_eq_true.mpr ⟨h,m,by simp⟩
theorem u5 {w l:Nat} {hv:Int} {c:Nat} {ps:List (Nat×Int)} {ts hs:List Nat} {h:Nat} (hh:h∈hs) (ht:ts.length<=1000) (hp:ps.length<=1000):eK [oneD w l hv c ps ts hs,qy (h:Int)]=some (.bool (fa ps ts h)):=by
 have i2:=Hm hs (h:Int)
 rw [oJ hh] at i2
 have a:=ID
 have o5:=iq w l hv c ps ts hs
 have g:=tH w l hv c ps ts hs h ht hp
 generalize oneD w l hv c ps ts hs=O at *
 generalize fa ps ts h=r at *
 simp [eK,aV,oE,aH,qy,a,o5,i2,g]
theorem nk (O R:D) (h:Int) (f:eK [O,qy h]=some (.bool true)) (g:ba [O,.int h]=some R):bz [O,qy h]=some R:=by
 have a:=ID
 unfold qy at *
 simp [bz,aV,gB,aH,a,f,g]
theorem e9:uA (.int 10) (.int 9)=some (.int 1000000000):=rfl
theorem xA (w l:Nat) (hv:Int) (c:Nat) (ps:List (Nat×Int)) {ts hs:List Nat} {t h:Nat} (ht:t∈ts) (hh:h∈hs):eK [oneD w l hv c ps ts hs,yq (t:Int) (h:Int)]=some (.bool (hasB t h)):=by
 have i1:=Hm ts (t:Int)
 have i2:=Hm hs (h:Int)
 rw [oJ ht] at i1
 rw [oJ hh] at i2
 have a:=IC
 have o4:=pJ w l hv c ps ts hs
 have o5:=iq w l hv c ps ts hs
 have g:=gh t h
 generalize oneD w l hv c ps ts hs=O at *
 generalize hasB t h=r at *
 simp [eK,aV,oE,aH,yq,a,o4,o5,i1,i2,g]
theorem o8 (O R:D) (t h:Int) (f:eK [O,yq t h]=some (.bool true)) (g:jC [O,.int t,.int h]=some R):bz [O,yq t h]=some R:=by
 have a:=IC
 unfold yq at *
 simp [bz,aV,gB,aH,a,f,g]
theorem tT (ns:List Int) (lo hi:Option Int):∃ ms:List Int,ms.length<=ns.length/\Ew (.list (ns.map .int)) lo hi=some (.list (ms.map .int)):=by
 refine ⟨(ns.drop (HT.sIx ns.length 0 lo)).take (HT.sIx ns.length ns.length hi-HT.sIx ns.length 0 lo),?_,?_⟩
 ·rw [List.length_take,List.length_drop]; omega
 ·show some (PyData.list (qi _ _ _))=_
  unfold qi
  rw [List.length_map,<- List.map_drop,<- List.map_take]
noncomputable def qF (w b e:Nat) (ms:List Nat):Nat:=qw (1::(bo w b++bo w e++ms))
theorem BB (w b e:Nat) (ms:List Nat) (h:∀ x∈ms,x<2):qF w b e ms<2 ^ (1+2*w+ms.length):=by
 have:=wM (1::(bo w b++bo w e++ms)) (fun x hx=>by
  rcases List.mem_cons.mp hx with rfl | hx
  ·decide
  ·rcases List.mem_append.mp hx with hx | hx
   ·rcases List.mem_append.mp hx with hx | hx
    ·exact Bo _ _ x hx
    ·exact Bo _ _ x hx
   ·exact h x hx)
 unfold qF
 refine Nat.lt_of_lt_of_le this (Nat.pow_le_pow_right (by decide) ?_)
 simp [Dj]
 omega
theorem wZ (T m:Nat) (hm:m<=10):eP (.int 64) (.int (m:Int))=some (.int ((64*2 ^ m:Nat):Int))/\cM (.int (T:Int)) (.int ((64*2 ^ m:Nat):Int))=some (.int ((T / (64*2 ^ m):Nat):Int)):=by
 have hp:0<2 ^ m:=Nat.pow_pos (by decide)
 have hle:2 ^ m<=2 ^ 10:=Nat.pow_le_pow_right (by decide) hm
 refine ⟨sC (a:=64) m (mm (by decide)) (by omega),?_⟩
 rw [xO (by omega) (by omega)]
 congr 2
noncomputable def zX (T l:Nat):List Nat:=(List.range l).map fun m=>T / (64*2 ^ m) % 2
noncomputable abbrev uc:=Nat×List Nat×Nat
noncomputable def md (a:uc):D:=.tuple [.int a.1,.tuple (ai a.2.1),.int a.2.2]
noncomputable def iw (l:Nat) (a:uc):Prop:=a.2.1.length=l/\∀ x∈a.2.1,x<2
theorem CN (T l:Nat):(zX T l).length=l/\∀ x∈zX T l,x<2:=by
 refine ⟨by simp [zX],fun x hx=>?_⟩
 obtain ⟨m,_,rfl⟩:=List.mem_map.mp hx
 exact Nat.mod_lt _ (by decide)
theorem FV (T l:Nat) (hl:l<=2) (x0 x1 x2 x4 x5 x7:Sl):dr [x0,x1,x2,.fz (.int l),x4,x5,.fz (.int T),x7]=some (.list (ai (zX T l))):=by
 have e:ai (zX T l)=(List.range l).map fun m=>PyData.int ((T / (64*2 ^ m) % 2:Nat):Int):=by
  unfold ai zX
  rw [List.map_map]; rfl
 rw [e]
 unfold dr
 refine Av (Ba (ds:=[.int (l:Int)]) rfl (qO (by omega))) (by omega) fun m hm=>?_
 obtain ⟨s,d⟩:=wZ T m (by omega)
 have q:=gc (T / (64*2 ^ m))
 generalize 64*2 ^ m=P at *
 generalize T / P % 2=z at *
 generalize T / P=y at *
 simp [bt,s,d,q]
theorem HQ (O:D) (L W:List D) (w l k c kk T P b T8 e:Int) (M:D) (ML:List D) (x7:Sl) (hc:gO L k=some (.int c)) (h1:cA (.int k) (.int k)=some (.int kk)) (h2:cA (.int kk) (.int 7919)=some (.int (kk*7919))) (g:aT [.int (c+kk*7919)]=some (.int T)) (p:∀ x7,dr [.fz O,.fz (.list L),.fz (.int w),.fz (.int l),.ow W,.fz (.int k),.fz (.int T),x7]=some (.list ML)) (hP:eP (.int 1) (.int w)=some (.int P)) (hb:aR (.int T) (.int P)=some (.int b)) (h8:T / 8=T8) (he:aR (.int T8) (.int P)=some (.int e)) (hl:W.length<sizeLine) (x6:Sl) :
  cB [.fz O,.fz (.list L),.fz (.int w),.fz (.int l),.ow W,.fz (.int k),x6,x7]=some (.nx,[.fz O,.fz (.list L),.fz (.int w),.fz (.int l),.ow (W++[.tuple [.int b,.tuple ML,.int e]]),.fz (.int k),.fz (.int T),.fz (.tuple ML)]):=by
 simp [cB,hc,h1,h2,g,p,hP,hb,h8,he,hl]
theorem oF (O:D) (cs:List Int) (w l:Nat) (hl2:l<=2) (hw:w<=3) (W:List uc) (k:Nat) (hk:k<3) (hc:3<=cs.length) (hW:W.length<=10) (x6 x7:Sl):∃ (a:uc) (y6 y7:Sl),iw l a/\cB [.fz O,.fz (.list (cs.map .int)),.fz (.int w),.fz (.int l),.ow (W.map md),.fz (.int (k:Int)),x6,x7]=some (.nx,[.fz O,.fz (.list (cs.map .int)),.fz (.int w),.fz (.int l),.ow ((W++[a]).map md),.fz (.int (k:Int)),y6,y7]):=by
 obtain ⟨c,h0⟩:∃ c:Int,gO (cs.map PyData.int) (k:Int)=some (.int c):=⟨cs[k],dM (j:=k) rfl (by simp)⟩
 have h1:cA (.int (k:Int)) (.int (k:Int))=some (.int ((k:Int)*k)):=dB (He (by omega) (by omega))
 have h2:cA (.int ((k:Int)*k)) (.int 7919)=some (.int ((k:Int)*k*7919)):=by
  have:k=0\/k=1\/k=2:=by omega
  rcases this with rfl | rfl | rfl <;> exact dB (.of_left (by decide))
 obtain ⟨T,hT⟩:=mG (c+(k:Int)*k*7919)
 have hP:=cT (k:=w) (by omega)
 have pw:0<2 ^ w:=Nat.pow_pos (by decide)
 have hb:=nX T pw
 have he:=nX (T / 8) pw
 have sz:sizeLine>=1001:=by decide
 have st:=HQ O (cs.map .int) (W.map md) w l k c _ T _ _ ((T / 8:Nat):Int) _ .none (ai (zX T l)) x7 h0 h1 h2 hT (fun x7=>FV T l hl2 _ _ _ _ _ x7) hP hb (by omega) he (by rw [List.length_map]; omega) x6
 refine ⟨(T % 2 ^ w,zX T l,T / 8 % 2 ^ w),.fz (.int (T:Int)),.fz (.tuple (ai (zX T l))),CN T l,?_⟩
 rw [st,List.map_append]
 rfl
theorem Do (O A:D) (w l:Int) (L W:List D) (y5 y6 y7:Sl) (o0:az O (.int 0)=some (.tuple [.int w,.int l])) (lp:loop (gN 5) cB [.int 0,.int 1,.int 2] [.fz O,.fz A,.fz (.int w),.fz (.int l),.ow [],.un,.un,.un]=some (.nx,[.fz O,.fz A,.fz (.int w),.fz (.int l),.ow W,y5,y6,y7])):bI [O,A]=some (.list W):=by
 have r:cz [.int 3]=some [.int 0,.int 1,.int 2]:=rfl
 simp [bI,aV,fN,aH,B0,o0,r,lp,yz]
theorem yd (w l:Nat) (hv:Int) (c:Nat) (ps:List (Nat×Int)) (ts hs:List Nat) (hl2:l<=2) (hw:w<=3) (cs:List Int) (hc:3<=cs.length):∃ as:List uc,as.length=3/\(∀ a∈as,iw l a)/\bI [oneD w l hv c ps ts hs,.list (cs.map .int)]=some (.list (as.map md)):=by
 obtain ⟨a0,y6,y7,k0,s0⟩:=oF (oneD w l hv c ps ts hs) cs w l hl2 hw [] 0 (by decide) hc (by decide) .un .un
 obtain ⟨a1,z6,z7,k1,s1⟩:=oF (oneD w l hv c ps ts hs) cs w l hl2 hw ([]++[a0]) 1 (by decide) hc (by simp) y6 y7
 obtain ⟨a2,u6,u7,k2,s2⟩:=oF (oneD w l hv c ps ts hs) cs w l hl2 hw (([]++[a0])++[a1]) 2 (by decide) hc (by simp) z6 z7
 refine ⟨(([]++[a0])++[a1])++[a2],rfl,fun a ha=>?_,Do _ _ w l [] _ (.fz (.int 2)) u6 u7 (jy ..) ?_⟩
 ·simp only [List.nil_append,List.mem_append,List.mem_singleton] at ha
  rcases ha with (rfl | rfl) | rfl
  ·exact k0
  ·exact k1
  ·exact k2
 ·rw [cJ (δ1:=[.fz (oneD w l hv c ps ts hs),.fz (.list (cs.map .int)),.fz (.int w),.fz (.int l),.ow [],.fz (.int 0),.un,.un]) (by simp) s0]
  rw [cJ (δ1:=[.fz (oneD w l hv c ps ts hs),.fz (.list (cs.map .int)),.fz (.int w),.fz (.int l),.ow (([]++[a0]).map md),.fz (.int 1),y6,y7]) (by simp) s1]
  rw [cJ (δ1:=[.fz (oneD w l hv c ps ts hs),.fz (.list (cs.map .int)),.fz (.int w),.fz (.int l),.ow ((([]++[a0])++[a1]).map md),.fz (.int 2),z6,z7]) (by simp) s2]
  rfl
noncomputable def vm (hv:Int) (c:Nat) (ps:As) (ts hs:List Nat) (told:Nat):D:=res (i3 (FF c (bh ps) ts) hs.reverse told) hv
theorem oa {w l:Nat} {hv:Int} {c:Nat} {ps:As} {ts hs:List Nat} {n m:Nat} (S:Sm w l hv c ps ts hs n m) (a:uc) (ha:iw l a):yo (qF w a.1 a.2.2 a.2.1) hs/\qF w a.1 a.2.2 a.2.1<2 ^ 1000:=by
 have hw:=S.w3
 have hl:=S.l2
 have tl:=BB w a.1 a.2.2 a.2.1 ha.2
 rw [ha.1] at tl
 exact ⟨⟨S.pw,fun h hh=>Nat.lt_of_lt_of_le tl (Nat.pow_le_pow_right (by decide) (by have:=(S.hb h hh).1; omega))⟩,Nat.lt_of_lt_of_le tl (Nat.pow_le_pow_right (by decide) (by omega))⟩
theorem wS {w l:Nat} {hv:Int} {c:Nat} {ps:As} {ts hs:List Nat} {n m:Nat} (S:Sm w l hv c ps ts hs n m) (hn:n<=12) (hm:m<=100) (told:Nat) (H:yo told hs) (big:told<2 ^ 1000):aG [oneD w l hv c (bh ps) ts hs,.int (told:Nat)]=some (vm hv c ps ts hs told):=by
 have hb:∀ h∈hs,h<1000:=fun h hh=>by have:=(S.hb h hh).2; omega
 have h1:hs.length<=12:=by have:=S.hl; omega
 have h2:(bh ps).length<=1000:=by rw [ng]; have:=S.pl; omega
 have h3:ts.length<=1000:=by have:=S.tl; omega
 have n1:=nV w l hv c (bh ps) ts hs told H big hb h1 h2 h3 S.v1 S.v2
 rw [FY H c (bh ps) ts] at n1
 unfold vm
 exact n1
theorem zT {w l:Nat} {hv:Int} {c:Nat} {ps:As} {ts hs:List Nat} {n m:Nat} (S:Sm w l hv c ps ts hs n m) (hn:n<=12) (hm:m<=100) (a:uc) (ha:iw l a):aK [.tuple [.int w,.int l],.int a.1,.tuple (ai a.2.1),.int a.2.2]=some (.int (qF w a.1 a.2.2 a.2.1:Nat))/\aG [oneD w l hv c (bh ps) ts hs,.int (qF w a.1 a.2.2 a.2.1:Nat)]=some (vm hv c ps ts hs (qF w a.1 a.2.2 a.2.1)):=by
 have hw:=S.w3
 have hl:=S.l2
 obtain ⟨H,big⟩:=oa S a ha
 have t1:=vD w a.1 a.2.2 a.2.1 (by omega) (by rw [ha.1]; omega) ha.2
 rw [uh w a.1 a.2.2 a.2.1 S.w1 hw (by rw [ha.1]; omega),ha.1] at t1
 exact ⟨t1,wS S hn hm _ H big⟩
theorem G9 (O:D) (b e T:Int) (M R S0:D) (o0:az O (.int 0)=some S0) (t:aK [S0,.int b,M,.int e]=some (.int T)) (g:aG [O,.int T]=some R):(VL.os (af (oV 1) (af (VL.os (af (o2 (oV 1) (oC (.int 0)) az) (af (o2 (oV 0) (oC (.int 0)) az) (af (o2 (oV 0) (oC (.int 1)) az) (af (o2 (oV 0) (oC (.int 2)) az) (au))))) aK) (au))) aG) [.fz (.tuple [.int b,M,.int e]),.fz O]=some R:=by
 simp [o0,t,g]
theorem G8 (O A:D) (L:List D) (p:dI [.fz O,.fz A]=some (.list L)):aP [O,A]=some (.list L):=by
 simp [aP,aV,d7,aH,p]
theorem kI {w l:Nat} {hv:Int} {c:Nat} {ps:As} {ts hs:List Nat} {n m:Nat} (S:Sm w l hv c ps ts hs n m) (hn:n<=12) (hm:m<=100) (as:List uc) (hl:as.length<=1000) (ha:∀ a∈as,iw l a):aP [oneD w l hv c (bh ps) ts hs,.list (as.map md)]=some (.list (as.map fun a=>vm hv c ps ts hs (qF w a.1 a.2.2 a.2.1))):=by
 refine G8 _ _ _ ?_
 unfold dI
 refine d4 (xs:=as) (h:=md) rfl (by omega) fun a h=>?_
 obtain ⟨t,e⟩:=zT S hn hm a (ha a h)
 exact G9 _ _ _ _ _ _ _ (jy w l hv c (bh ps) ts hs) t e
theorem BX (y:MA.Q4) (hv:Int):MA.Sh 2 (res y hv):=by
 have t5:∀ (x:MA.Q4) (k:Int),MA.Sh 2 (eN x k):=fun x k=>MA.Sh.tuple fun d hd=>by
  simp only [List.mem_cons,List.not_mem_nil,or_false] at hd
  rcases hd with rfl | rfl | rfl | rfl | rfl <;> exact MA.Sh.int 1 _
 unfold res
 split
 ·exact t5 _ _
 ·exact t5 _ _
theorem uI {w:Nat} {hv:Int} {c:Nat} {ps:As} {ts hs:List Nat} (as:List uc):neD (.list (as.map fun a=>vm hv c ps ts hs (qF w a.1 a.2.2 a.2.1))) (.list (as.map fun a=>vm hv c ps ts hs (qF w a.1 a.2.2 a.2.1)))=some (.bool false):=
 sV (k:=3) (MA.Sh.list fun d hd=>by
  obtain ⟨a,_,rfl⟩:=List.mem_map.mp hd
  exact BX _ _) (by decide)
theorem sf (w b e:Nat) (ms:List Nat):qF w b e ms % 2=1:=by
 show (1+2*qw (bo w b++bo w e++ms)) % 2=1
 omega
theorem HA (b e last:Int) (x0 x1 x2:Sl) (h1:last<b) (h2:b % 2=0) (h3:1<=e) (h4:e<=7):cb [x0,x1,x2,.fz (.int last),.fz (.tuple [.int b,.int e])]=some (.nx,[x0,x1,x2,.fz (.int b),.fz (.tuple [.int b,.int e])]):=by
 have n1:¬ b<=last:=by omega
 have n3:¬ e<1:=by omega
 have n4:¬ 7<e:=by omega
 simp [cb,n1,h2,n3,n4]
theorem tM (x0 x1 x2:Sl):∀ (ps:As) (last:Nat) (x4:Sl),(aq ps).Pairwise (· < ·)->(∀ p∈ps,last<p.1/\p.1 % 2=0/\1<=p.2/\p.2<=7)->∃ y3 y4,loop (gN 4) cb (ps.map pD) [x0,x1,x2,.fz (.int (last:Int)),x4]=some (.nx,[x0,x1,x2,y3,y4])
 | [],last,x4,_,_=>⟨_,_,rfl⟩
 | p::ps,last,x4,pk,h=>by
  have hp:=h p List.mem_cons_self
  obtain ⟨k1,k2⟩:=List.pairwise_cons.mp (show (p.1::aq ps).Pairwise (· < ·) from pk)
  have st:=HA p.1 p.2 last x0 x1 x2 (by omega) (by omega) (by omega) (by omega)
  obtain ⟨y3,y4,e⟩:=tM x0 x1 x2 ps p.1 (.fz (pD p)) k2 fun q hq=>⟨k1 q.1 (List.mem_map.mpr ⟨q,hq,rfl⟩),(h q (List.mem_cons_of_mem _ hq)).2⟩
  refine ⟨y3,y4,?_⟩
  rw [List.map_cons,cJ (δ1:=[x0,x1,x2,.fz (.int (last:Int)),.fz (pD p)]) (by simp) st]
  exact e
theorem Hz (O A0 A4 L5:D) (hv c n:Int) (PL TL H:List D) (y3 y4:Sl) (i:gF "tuple" O=some (.bool true)) (ln:g6 [O]=some (.int 6)) (o0:az O (.int 0)=some A0) (s0:neD A0 A0=some (.bool false)) (o5:az O (.int 5)=some (.tuple H)) (hn:(H.length:Int)=n) (o1:az O (.int 1)=some (.int hv)) (o2:az O (.int 2)=some (.int c)) (w1:bi [.int hv]=some (.bool true)) (w2:bi [.int c]=some (.bool true)) (c0:¬ c<0) (c7:¬ 7<c) (o3:az O (.int 3)=some (.tuple PL))
  (lp:loop (gN 4) cb PL [.fz O,.fz A0,.fz (.int n),.fz (.int 0),.un]=some (.nx,[.fz O,.fz A0,.fz (.int n),y3,y4])) (o4:az O (.int 4)=some (.tuple TL)) (st:fY (.tuple TL)=some (.list TL)) (se:g9 (.list TL) (.list TL)=some (.bool true)) (z:vq true (.int 0) (.tuple TL)=some (.bool true)):bj [O,A0,.int n]=some (.bool true):=by
 simp [bj,aV,eM,aH,i,ln,o0,s0,o5,hn,o1,o2,w1,w2,c0,c7,o3,lp,o4,st,se,z]
theorem rT (i:Int):bi [.int i]=some (.bool true):=by simp [bi,aV,fK,aH]
theorem Ai (hs:List Nat) (h:∀ t∈hs,0<t):vq true (.int 0) (.tuple (ai hs))=some (.bool true):=by
 have f:(ai hs).all qx=true:=by
  rw [List.all_eq_true]
  intro d hd
  obtain ⟨h,_,rfl⟩:=List.mem_map.mp hd
  rfl
 show (if qx (.int 0)=true/\(ai hs).all qx=true then some (PyData.bool (if true=true then !vp (.int 0) (ai hs) else vp (.int 0) (ai hs))) else none)=_
 rw [if_pos ⟨rfl,f⟩,if_pos rfl]
 congr 2
 unfold vp ai
 rw [List.any_map,Bool.not_eq_true',List.any_eq_false]
 intro t ht q
 have:=h t ht
 have q:((t:Nat):Int)==0:=q
 have:((t:Nat):Int)=0:=by simpa using q
 omega
theorem u4 {w l:Nat} {hv:Int} {c:Nat} {ps:As} {ts hs:List Nat} {n m:Nat} (S:Sm w l hv c ps ts hs n m) (hm:m<60):bj [oneD w l hv c (bh ps) ts hs,.tuple [.int w,.int l],.int (hs.length:Int)]=some (.bool true):=by
 have o3:az (oneD w l hv c (bh ps) ts hs) (.int 3)=some (.tuple (ps.map pD)):=by rw [sR,ka]
 have c8:=S.c8
 have tl:=S.tl
 obtain ⟨y3,y4,lp⟩:=tM (.fz (oneD w l hv c (bh ps) ts hs)) (.fz (.tuple [.int w,.int l])) (.fz (.int (hs.length:Int))) ps 0 .un S.pk fun p hp=>by have:=S.pe p hp; omega
 obtain ⟨rs,r1,r2,r3,r4,r5⟩:=o9 ts (by omega)
 have e:rs=ts:=im r1 S.tk r2
 rw [e] at r5
 have s0:neD (.tuple [.int w,.int l]) (.tuple [.int w,.int l])=some (.bool false):=sV (k:=2) (MA.Sh.tuple fun x hx=>by
  simp only [List.mem_cons,List.not_mem_nil,or_false] at hx
  rcases hx with rfl | rfl <;> exact MA.Sh.int 1 _) (by decide)
 have se:g9 (.list (ai ts)) (.list (ai ts))=some (.bool true):=Ap (k:=2) (MA.Sh.list fun x hx=>by
  obtain ⟨h,_,rfl⟩:=List.mem_map.mp hx
  exact MA.Sh.int 1 _) (by decide)
 exact Hz _ _ .none .none hv c _ _ _ _ y3 y4 rfl rfl (jy ..) s0 (iq ..) (by rw [bV]) (kE ..) (pK ..) (rT _) (rT _) (by omega) (by omega) o3 lp (pJ ..) r5 se (Ai ts fun t ht=>(S.te t ht).1)
theorem xi {k:Nat}:∀ {Q:List (Nat×Int)},kv k Q≠0->∃ q∈Q,hb q.1=k
 | [],h=>absurd rfl h
 | q::Q,h=>by
  by_cases e:hb q.1=k
  ·exact ⟨q,List.mem_cons_self,e⟩
  ·have h:(if hb q.1=k then he q.1 q.2 else 0)+kv k Q≠0:=h
   rw [if_neg e,Int.zero_add] at h
   obtain ⟨r,hr,e⟩:=xi h
   exact ⟨r,List.mem_cons_of_mem _ hr,e⟩
theorem wc {R:As} {Q:List (Nat×Int)} (h:RR R fun k=>kv k Q) (hQ:∀ q∈Q,q.1<dF):∀ p∈R,2<=p.1/\p.1 % 2=0/\p.1<dF/\1<=p.2/\p.2<=7:=fun p hp=>by
 have h1:=h.nz p hp
 have h2:=h.val p.1 h1.1
 rw [fT (eT h.pk) hp] at h2
 have h2:(p.2:Int)=kv p.1 Q % 8:=h2
 obtain ⟨q,hq,e⟩:=xi (k:=p.1) (Q:=Q) (by omega)
 have:=hQ q hq
 unfold hb at e
 omega
theorem AL {ps:As} {bit ch:Nat} (hp:∀ p∈ps,p.1<dF) (hc:ch<dF):∀ q∈ps.map (xb bit ch),q.1<dF:=fun q hq=>by
 obtain ⟨p,hp',rfl⟩:=List.mem_map.mp hq
 unfold xb
 split
 ·exact j7 (hp p hp') hc
 ·exact hp p hp'
theorem jZ {hs:List Nat} {h:Nat} (nd:hs.Nodup) (hm:h∈hs):(lP hs h).length+1=hs.length:=by
 induction hs with
 | nil=>cases hm
 | cons x t ih=>
  obtain ⟨n1,n2⟩:=List.nodup_cons.mp nd
  unfold lP
  by_cases e:x=h
  ·subst e
   rw [List.filter_cons_of_neg (by simp),List.filter_eq_self.mpr fun y hy=>by simp; exact fun z=>n1 (z ▸ hy)]
   rfl
  ·rw [List.filter_cons_of_pos (by simpa using e),List.length_cons,List.length_cons]
   have:h∈t:=by
    rcases List.mem_cons.mp hm with z | z
    ·exact absurd z.symm e
    ·exact z
   have:=ih n2 this
   unfold lP at this
   omega
theorem sP:∀ (W:List (Nat×Int)) (x:Nat),x<dF->(∀ q∈W,q.1<dF)->op x W<dF
 | [],x,h,_=>h
 | q::W,x,h,hW=>sP W _ (by
  split
  ·exact j7 h (hW q List.mem_cons_self)
  ·exact h) fun r hr=>hW r (List.mem_cons_of_mem _ hr)
theorem pE {h:Nat} (hh:h<900):2 ^ h<dF:=Nat.pow_lt_pow_right (by decide) (by omega)
structure St (w l:Nat) (hv:Int) (c:Nat) (ps:As) (ts hs:List Nat) (as:List uc) (due:D):Prop where
 S:Sm w l hv c ps ts hs 5 (17-hs.length)
 h5:hs.length<=5
 lo:-210+2*(hs.length:Int)<=hv
 hi:hv<=200
 due:due=.list (as.map fun a=>vm hv c ps ts hs (qF w a.1 a.2.2 a.2.1))
theorem BI {w l:Nat} {hv:Int} {c:Nat} {ps:As} {ts hs:List Nat} {as:List uc} {due:D} (X:St w l hv c ps ts hs as due) (ha:∀ a∈as,iw l a) {tie h:Nat} (htie:tie∈ts) (hh:h∈hs) (hb:hasB tie h=true):∃ (c':Nat) (R:As) (ss:List Nat),bz [oneD w l hv c (bh ps) ts hs,yq (tie:Int) (h:Int)]=some (oneD w l hv c' (bh R) ss (lP hs h))/\St w l hv c' R ss (lP hs h) as due:=by
 have S:=X.S
 have h5:=X.h5
 have lo:=X.lo
 have hi:=X.hi
 have hlen:=jZ (eT S.pw) hh
 obtain ⟨T,R,ss,a1,a2,a3,a4,a5,a6⟩:=Cd S (by omega) (by omega) tie h
 have f:=xA w l hv c (bh ps) htie hh
 rw [hb] at f
 have tB:=(S.te tie htie).2
 refine ⟨T,R,ss,o8 _ _ _ _ f a6,⟨⟨S.w1,S.w3,S.l2,by omega,by omega,by omega,a2.pk,wc a2 (AL (fun p hp=>(S.pe p hp).2.2.1) tB),by have:=S.pl; omega,a4.pw,fun t ht=>?_,by have:=S.tl; omega,by omega,S.pw.sublist List.filter_sublist,fun x hx=>S.hb x (List.mem_filter.mp hx).1⟩,by omega,by omega,hi,?_⟩⟩
 ·obtain ⟨q1,q2⟩:=(a4.mem t).mp ht
  unfold vw at q1
  obtain ⟨o,ho,rfl⟩:=List.mem_map.mp q1
  refine ⟨q2,?_⟩
  unfold xo
  split
  ·exact j7 (S.te o (List.mem_filter.mp ho).1).2 tB
  ·exact (S.te o (List.mem_filter.mp ho).1).2
 ·rw [X.due]
  congr 1
  refine List.map_congr_left fun a haa=>?_
  obtain ⟨H,_⟩:=oa S a (ha a haa)
  unfold vm
  rw [sO H (sf ..) (fun x hx=>by have:=(S.hb x hx).1; omega) hh fun b ho hc=>Cc htie hb (T:=(T:Int)) (by omega) a2 a4 b ho hc]
theorem Db {ps:As} {ts:List Nat} {h ch:Nat} (hp:∀ p∈ps,1<=p.2/\p.2<=7) (hf:fa (bh ps) ts h=true):(∀ t∈ts,hasB t h=false)/\∀ q∈wth ps h ch,q.2=2\/q.2=4\/q.2=6:=by
 unfold fa at hf
 split at hf
 ·cases hf
 ·rename_i z
  refine ⟨fun t ht=>by
   cases q:hasB t h with
   | false=>rfl
   | true=>exact absurd (List.any_eq_true.mpr ⟨t,ht,q⟩) z,fun q hq=>?_⟩
  unfold wth at hq
  obtain ⟨p,hp',rfl⟩:=List.mem_map.mp hq
  obtain ⟨m1,m2⟩:=List.mem_filter.mp hp'
  have:=List.all_eq_true.mp hf (p.1,(p.2:Int)) (List.mem_filter.mpr ⟨List.mem_map.mpr ⟨p,m1,rfl⟩,m2⟩)
  have:(p.2:Int) % 2=0:=by simpa using this
  have:=hp p m1
  show (p.2:Int)=2\/(p.2:Int)=4\/(p.2:Int)=6
  omega
theorem yR {w l:Nat} {hv:Int} {c:Nat} {ps:As} {ts hs:List Nat} {as:List uc} {due:D} (X:St w l hv c ps ts hs as due) (ha:∀ a∈as,iw l a) {h:Nat} (hh:h∈hs) (hf:fa (bh ps) ts h=true):∃ (hv':Int) (c':Nat) (R:As) (ss:List Nat),bz [oneD w l hv c (bh ps) ts hs,qy (h:Int)]=some (oneD w l hv' c' (bh R) ss (lP hs h))/\St w l hv' c' R ss (lP hs h) as due:=by
 have S:=X.S
 have h5:=X.h5
 have lo:=X.lo
 have hi:=X.hi
 have pl:=S.pl
 have tl:=S.tl
 have hlen:=jZ (eT S.pw) hh
 have h9:=(S.hb h hh).2
 obtain ⟨hv',c',R,ss,g,a2,a3,a4⟩:=Ak S (by omega) (by omega) h (by omega)
 obtain ⟨nt,ev⟩:=Db (ch:=2 ^ h) (fun p hp=>by have:=S.pe p hp; omega) hf
 have f:=u5 (w:=w) (l:=l) (hv:=hv) (c:=c) (ps:=bh ps) hh (ts:=ts) (by omega) (by rw [ng]; omega)
 rw [hf] at f
 have kB:∀ q∈ps.map (xb h (2 ^ h)),q.1<dF:=AL (fun p hp=>(S.pe p hp).2.2.1) (pE h9)
 have wB:∀ q∈wth ps h (2 ^ h),q.1<dF:=fun q hq=>by
  unfold wth at hq
  obtain ⟨p,hp,rfl⟩:=List.mem_map.mp hq
  exact j7 (S.pe p (List.mem_filter.mp hp).1).2.2.1 (pE h9)
 have oB:op 0 (wth ps h (2 ^ h))<dF:=sP _ 0 (Nat.pow_pos (by decide)) wB
 have hvl:hv-2<=hv'/\hv'<=hv:=by rw [g.h]; unfold C5; split <;> omega
 have res2:∀ a∈as,vm hv c ps ts hs (qF w a.1 a.2.2 a.2.1)=vm hv' c' R ss (lP hs h) (qF w a.1 a.2.2 a.2.1):=fun a haa=>by
  obtain ⟨H,_⟩:=oa S a (ha a haa)
  unfold vm
  rw [sO H (sf ..) (fun x hx=>by have:=(S.hb x hx).1; omega) hh fun b ho hc=>AC g nt ev b ho hc,g.h]
  unfold C5
  by_cases q:tot (wth ps h (2 ^ h)) % 4=0
  ·rw [if_pos (by omega)]
   simp only [if_pos q]
   rw [qB (fun b=>MA.Q4.rt (FF c' (bh R) ss b)),qB,qP,qP,show hv-1-1=hv-2 by omega]
  ·rw [if_neg (by omega)]
   simp only [if_neg q]
   rw [qB,qP]
 have dd:due=.list (as.map fun a=>vm hv' c' R ss (lP hs h) (qF w a.1 a.2.2 a.2.1)):=by
  rw [X.due]
  congr 1
  exact List.map_congr_left res2
 refine ⟨hv',c',R,ss,nk _ _ _ f a4,?_⟩
 by_cases q:tot (wth ps h (2 ^ h)) % 4=0
 ·obtain ⟨g1,g2,g3⟩:=g.a q
  refine ⟨⟨S.w1,S.w3,S.l2,by omega,by omega,by omega,g2.pk,wc g2 kB,by omega,g3.pw,fun t ht=>?_,by omega,by omega,S.pw.sublist List.filter_sublist,fun x hx=>S.hb x (List.mem_filter.mp hx).1⟩,by omega,by omega,by omega,dd⟩
  obtain ⟨q1,q2⟩:=(g3.mem t).mp ht
  refine ⟨q2,?_⟩
  unfold yp at q1
  rcases List.mem_append.mp q1 with z | z
  ·exact (S.te t z).2
  ·rw [List.mem_singleton.mp z]
   refine j7 oB ?_
   have:(tot (wth ps h (2 ^ h)) % 8 / 4).toNat<=1:=by omega
   exact Nat.lt_of_le_of_lt this (Nat.one_lt_two_pow (by decide))
 ·obtain ⟨g1,g2,rfl⟩:=g.b q
  have g2':RR R fun k=>kv k (ps.map (xb h (2 ^ h))++[(op 0 (wth ps h (2 ^ h)),8-tot (wth ps h (2 ^ h)) % 8)]):=by
   have:(fun k=>kv k (ps.map (xb h (2 ^ h))++[(op 0 (wth ps h (2 ^ h)),8-tot (wth ps h (2 ^ h)) % 8)]))=fun k=>kv k (ps.map (xb h (2 ^ h)))+kv k [(op 0 (wth ps h (2 ^ h)),8-tot (wth ps h (2 ^ h)) % 8)]:=funext fun k=>(jd 0 _ _).2.2 k
   rw [this]; exact g2
  refine ⟨⟨S.w1,S.w3,S.l2,by omega,by omega,by omega,g2.pk,wc g2' fun r hr=>?_,by omega,S.tk,S.te,by omega,by omega,S.pw.sublist List.filter_sublist,fun x hx=>S.hb x (List.mem_filter.mp hx).1⟩,by omega,by omega,by omega,dd⟩
  rcases List.mem_append.mp hr with z | z
  ·exact kB r z
  ·rw [List.mem_singleton.mp z]; exact oB
theorem sk {ps:List (Nat×Int)} {ts hs:List Nat} {d:D} (h:d∈uk ps ts hs):(∃ x∈hs,fa ps ts x=true/\d=qy (x:Int))\/∃ t∈ts,∃ x∈hs,hasB t x=true/\d=yq (t:Int) (x:Int):=by
 unfold uk at h
 rcases List.mem_append.mp h with h | h
 ·obtain ⟨x,hx,rfl⟩:=List.mem_map.mp h
  obtain ⟨h1,h2⟩:=List.mem_filter.mp hx
  exact .inl ⟨x,h1,h2,rfl⟩
 ·obtain ⟨l,hl,hd⟩:=List.mem_flatten.mp h
  obtain ⟨t,ht,rfl⟩:=List.mem_map.mp hl
  unfold puts at hd
  obtain ⟨x,hx,rfl⟩:=List.mem_map.mp hd
  obtain ⟨h1,h2⟩:=List.mem_filter.mp hx
  exact .inr ⟨t,ht,x,h1,h2,rfl⟩
theorem yQ {w l:Nat} {hv:Int} {c:Nat} {ps:As} {ts hs:List Nat} {as:List uc} {due:D} (X:St w l hv c ps ts hs as due) (ha:∀ a∈as,iw l a) {d:D} (hd:d∈uk (bh ps) ts hs):∃ (hv':Int) (c':Nat) (R:As) (ss hs':List Nat),hs'.length+1=hs.length/\bz [oneD w l hv c (bh ps) ts hs,d]=some (oneD w l hv' c' (bh R) ss hs')/\St w l hv' c' R ss hs' as due:=by
 rcases sk hd with ⟨x,hx,hf,rfl⟩ | ⟨t,ht,x,hx,hb,rfl⟩
 ·obtain ⟨hv',c',R,ss,e,Y⟩:=yR X ha hx hf
  exact ⟨hv',c',R,ss,_,jZ (eT X.S.pw) hx,e,Y⟩
 ·obtain ⟨c',R,ss,e,Y⟩:=BI X ha ht hx hb
  exact ⟨hv,c',R,ss,_,jZ (eT X.S.pw) hx,e,Y⟩
theorem Hf (O O' A0 As due d st':D) (L H:List D) (turn n t3 i k:Int) (x0 x1 x7:Sl) (o5:az O (.int 5)=some (.tuple H)) (hn:(H.length:Int)-1=n) (hi:aR (.int turn) (.int k)=some (.int i)) (hk:(L.length:Int)=k) (hd:gO L i=some d) (g:bz [O,d]=some O') (h3:turn / 3=t3) (o0:az O' (.int 0)=some A0) (fm:bj [O',A0,.int n]=some (.bool true)) (nm:aP [O',As]=some due) (ne:neD due due=some (.bool false)) (so:cf [O']=some st') :
  kQ [x0,x1,.fz O,.fz As,.fz due,.fz (.list L),.fz (.int turn),x7]=some (.nx,[x0,x1,.fz O',.fz As,.fz due,.fz st',.fz (.int t3),.fz (.int n)]):=by
 simp [kQ,o5,hn,hk,hi,hd,g,h3,o0,fm,nm,ne,so]
theorem um {ps:List (Nat×Int)} {ts hs:List Nat} (h1:ts.length<=100) (h2:hs.length<=5):(uk ps ts hs).length<=1000:=by
 unfold uk
 rw [List.length_append,List.length_map]
 have a:=List.length_filter_le (fun h=>fa ps ts h) hs
 have b:∀ us:List Nat,((us.map (puts hs)).flatten).length<=us.length*hs.length:=fun us=>by
  induction us with
  | nil=>simp
  | cons u us ih=>
   rw [List.map_cons,List.flatten_cons,List.length_append,List.length_cons,Nat.add_mul,Nat.one_mul]
   have:=pA hs u
   omega
 have:=b ts
 have:ts.length*hs.length<=100*5:=Nat.mul_le_mul h1 h2
 omega
theorem zZ (as:List uc) (w l:Nat) (due:D) (ha:∀ a∈as,iw l a) (hal:as.length<=1000) (x0 x1:Sl):∀ (k:Nat) (hv:Int) (c:Nat) (ps:As) (ts hs:List Nat) (turn:Int) (x7:Sl),hs.length=k->St w l hv c ps ts hs as due->∃ δ',cY kd kQ (k+1) [x0,x1,.fz (oneD w l hv c (bh ps) ts hs),.fz (.list (as.map md)),.fz due,.fz (.list (uk (bh ps) ts hs)),.fz (.int turn),x7]=some (.nx,δ'):=fun k=>by
 have tt:∀ (O A du:D) (L:List D) (tn:D) (x7:Sl) (b:Bool),(decide ((0:Int)<(L.length:Int)))=b->kd [x0,x1,.fz O,.fz A,.fz du,.fz (.list L),.fz tn,x7]=some b:=fun O A du L tn x7 b h=>by rw [<- h]; simp [kd]
 induction k with
 | zero=>
  intro hv c ps ts hs turn x7 hk X
  have e:hs=[]:=List.length_eq_zero_iff.mp hk
  subst e
  have z:uk (bh ps) ts []=[]:=List.eq_nil_iff_forall_not_mem.mpr fun d hd=>by
   rcases sk hd with ⟨x,hx,_⟩ | ⟨t,_,x,hx,_⟩
   ·cases hx
   ·cases hx
  exact ⟨_,da 0 (tt _ _ _ _ _ _ false (by rw [z]; rfl))⟩
 | succ k ih=>
  intro hv c ps ts hs turn x7 hk X
  have S:=X.S
  by_cases z:uk (bh ps) ts hs=[]
  ·exact ⟨_,da _ (tt _ _ _ _ _ _ false (by rw [z]; rfl))⟩
  ·have pos:0<(uk (bh ps) ts hs).length:=List.length_pos_iff.mpr z
   have tl:=S.tl
   have pl:=S.pl
   have ln:=um (ps:=bh ps) (ts:=ts) (hs:=hs) (by omega) X.h5
   obtain ⟨L,hL⟩:∃ L,uk (bh ps) ts hs=L:=⟨_,rfl⟩
   rw [hL] at pos ln ⊢
   obtain ⟨i,hi,hil⟩:∃ i:Nat,aR (.int turn) (.int (L.length:Int))=some (.int (i:Int))/\i<L.length:=⟨(turn % (L.length:Int)).toNat,by rw [kL (by omega),Int.toNat_of_nonneg (Int.emod_nonneg _ (by omega))],by have:=Int.emod_lt_of_pos turn (b:=(L.length:Int)) (by omega); omega⟩
   have hd:gO L (i:Int)=some L[i]:=dM (j:=i) rfl (by simp [hil])
   obtain ⟨hv',c',R,ss,hs',q1,q2,Y⟩:=yQ X ha (d:=L[i]) (by rw [hL]; exact List.getElem_mem hil)
   have S':=Y.S
   have fm:=u4 S' (by omega)
   have nm:=kI S' (by decide) (by omega) as hal ha
   rw [<- Y.due] at nm
   have ne:neD due due=some (.bool false):=by rw [Y.due]; exact uI as
   have so:=jw w l hv' c' (bh R) ss hs' (by have:=S'.tl; omega) (by rw [ng]; have:=S'.pl; omega) (by have:=Y.h5; omega)
   have st:=Hf (oneD w l hv c (bh ps) ts hs) _ _ (.list (as.map md)) due L[i] _ L (ai hs) turn (hs'.length:Int) (turn / 3) i _ x0 x1 x7 (iq ..) (by rw [bV]; omega) hi rfl hd q2 rfl (jy ..) fm nm ne so
   obtain ⟨δ',e⟩:=ih hv' c' R ss hs' (turn / 3) (.fz (.int (hs'.length:Int))) (by omega) Y
   exact ⟨δ',j8 _ (tt _ _ _ _ _ _ true (by simp; omega)) st e⟩
theorem Fi (Sc A B C O As due:D) (c h:Int) (L:List D) (δ':Dv) (g:aM [Sc,.int 0]=some (.int c)) (hh:c % 1000000000=h) (s:Ew Sc (some 1) (some 61)=some A) (g2:bB [.int h,A]=some O) (s2:Ew Sc (some (-3)) none=some B) (ad:aN B (.list [.int 0,.int 0,.int 0])=some C) (ga:bI [O,C]=some As) (nm:aP [O,As]=some due) (so:cf [O]=some (.list L)) (lp:cY kd kQ wN [.fz Sc,.fz (.int h),.fz O,.fz As,.fz due,.fz (.list L),.fz (.int h),.un]=some (.nx,δ')):p7 [Sc]=some (.bool true):=by
 simp [p7,aV,yb,aH,g,e9,hh,s,g2,s2,ad,ga,nm,so,lp]
theorem law_true (ns:List Int) (hl:ns.length<=63):p7 [.list (ns.map .int)]=some (.bool true):=by
 obtain ⟨c,hc⟩:=tW ns 0 (by decide)
 obtain ⟨h,hh⟩:∃ h:Nat,c % 1000000000=h:=⟨(c % 1000000000).toNat,by omega⟩
 obtain ⟨ms,_,hs⟩:=tT ns (some 1) (some 61)
 obtain ⟨m3,l3,hs3⟩:=tT ns (some (-3)) none
 obtain ⟨w,l,hv,cc,ps,ts,hs',e,S,v1,v2⟩:=pb h ms
 have ad:aN (.list (m3.map .int)) (.list [.int 0,.int 0,.int 0])=some (.list ((m3++[0,0,0]).map .int)):=by
  rw [mZ (by simp; omega),List.map_append]
  rfl
 obtain ⟨as,al,ao,ga⟩:=yd w l hv cc (bh ps) ts hs' S.l2 S.w3 (m3++[0,0,0]) (by simp)
 have pl:=S.pl
 have tl:=S.tl
 have hl':=S.hl
 have nm:=kI S (by decide) (by decide) as (by omega) ao
 have so:=jw w l hv cc (bh ps) ts hs' (by omega) (by rw [ng]; omega) (by omega)
 have X:St w l hv cc ps ts hs' as _:=⟨⟨S.w1,S.w3,S.l2,S.v1,S.v2,S.c8,S.pk,S.pe,by omega,S.tk,S.te,by omega,S.hl,S.pw,S.hb⟩,hl',by omega,v2,rfl⟩
 obtain ⟨δ',lp⟩:=zZ as w l _ ao (by omega) (.fz (.list (ns.map .int))) (.fz (.int (h:Int))) hs'.length hv cc ps ts hs' (h:Int) .un rfl X
 exact Fi _ _ _ _ _ _ _ c h _ δ' hc hh hs e hs3 ad ga nm so (dU lp (by unfold wN; omega))
end GN
namespace GN
open PySem PySem.Spec PyProof.Rows L2 VL
structure Txt (mg:Str->Option Value):Prop where
 dict:mg "dict" = none
 tuple:mg "tuple" = none
 sorted:mg "sorted" = none
 set_:mg "set" = none
 any:mg "any" = none
 all:mg "all" = none
 sum:mg "sum" = none
 len:mg "len" = none
 isinstance:mg "isinstance" = none
 int:mg "int" = none
 bool:mg "bool" = none
 range:mg "range" = none
 max:mg "max" = none
 list:mg "list" = none
 min:mg "min" = none
section
variable {P:Program} {w:World} {K:PySem.W.Frag} {mg:Str->Option Value} {base:Heap}
theorem sc_all_added:FnScope gm ["turn","turns","pairs"] (ap dz):=⟨rfl,rfl,rfl,by decide +kernel,rfl,by decide +kernel,by decide +kernel⟩
theorem nR {f:Addr} {fd:FuncData} {dV:Value} (F:FunV K "all_added" "all_added" dz f fd dV) (T:Txt mg):FnOk P w K mg base em 1 f fd ["turn","turns","pairs"] (gD K bb):=
 dR (k:=0) (b:=gl) F sc_all_added fun cdv A outer s H E hr=>(ah (yN 3 sc_all_added.nd rfl T.dict (ab 1)) (ah (dG PassesOwn.never rfl (bJ (ab 2)) (b0 4 sc_all_added.nd) (ah (ax 5 sc_all_added.nd (ak ar (ab 4) ac (fun _ _=>rfl))) (ah (ax 6 sc_all_added.nd (ak ar (ab 4) ac (fun _ _=>rfl))) (ah (dy (aL (hE hr.units) (ag tS (ab 5) ac) ac (aJ _)) (ah (ax 0 sc_all_added.nd (ag bf (ab 0) (ab 6))) (ah (ax 5 sc_all_added.nd (ag mT (ab 5) ac)) (av (ax 6 sc_all_added.nd (Bk Bn (ab 6)))))) cv) (av (dy (aL (lT hr.units) (ab 5) ac (aJ _)) (av (nj 3 (DU hr.units) (ab 5) (ag aW (ag bf (xI 3 (DU hr.units) (ab 5) ac ⟨rfl,rfl,rfl,rfl⟩) (ab 6)) ac))) cv)))))) (av (aO (bR (ae (ag aW (ab 0) ac) (ae (cL fJ rfl T.tuple (by decide +kernel) (ae (eX (vars:=["pair"]) (caps:=[]) (by change BlkOk (ap dz).names gm _ _ _; exact ⟨rfl,by decide +kernel,by decide +kernel,by decide +kernel,by decide +kernel⟩) rfl (bJ (u9 3 rfl T.sorted)) bW (fun _ _ _ _=>bg (i:=0) (show (["pair"]:List Str).Nodup by decide +kernel) rfl (Or.inl rfl) (.inr rfl)) (fun _ _ _ _=>(aL (lT hr.units) (ak ar (ab 0) ac (fun _ _=>rfl)) ac (aJ _))) (fun _ _ _ _=>(ab 0))) aj)) aj)))))))
theorem ja:FnScope dN ["ties"] (ap bS):=⟨rfl,rfl,rfl,by decide +kernel,rfl,by decide +kernel,by decide +kernel⟩
theorem je {f:Addr} {fd:FuncData} {dV:Value} (F:FunV K "ties_in_order" "ties_in_order" bS f fd dV) (T:Txt mg):FnOk P w K mg base em 1 f fd ["ties"] (gD K aF):=
 dR (k:=0) (b:=dJ) F ja fun cdv A outer s H E hr=>(av (aO (cL fJ rfl T.tuple (by decide +kernel) (ae (eX (vars:=["tie"]) (caps:=[]) (by change BlkOk (ap bS).names dN _ _ _; exact ⟨rfl,by decide +kernel,by decide +kernel,by decide +kernel,by decide +kernel⟩) rfl (bJ (tN rfl T.sorted rfl T.set_ (ab 0))) bW (fun _ _ _ _=>bg (i:=0) (show (["tie"]:List Str).Nodup by decide +kernel) rfl (Or.inl rfl) (.inr rfl)) (fun _ _ _ _=>(aL (lT hr.units) (ab 0) ac (aJ _))) (fun _ _ _ _=>(ab 0))) aj))))
theorem BY:FnScope Bq ["bitset","bit"] (ap sE):=⟨rfl,rfl,rfl,by decide +kernel,rfl,by decide +kernel,by decide +kernel⟩
theorem CF {f:Addr} {fd:FuncData} {dV:Value} (F:FunV K "has" "has" sE f fd dV) (T:Txt mg):FnOk P w K mg base em 1 f fd ["bitset","bit"] (gD K cZ):=
 dR (k:=0) (b:=yc) F BY fun cdv A outer s H E hr=>(av (aO (g7 (hE hr.units) (ag tS (ag qf (ab 0) (ab 1)) ac) ac (aJ _))))
theorem nC:FnScope eE ["one","bit"] (ap cH):=⟨rfl,rfl,rfl,by decide +kernel,rfl,by decide +kernel,by decide +kernel⟩
theorem nQ {f:Addr} {fd:FuncData} {dV:Value} (F:FunV K "goes_away" "goes_away" cH f fd dV) (T:Txt mg) (C_has:Cal P w K mg base "has" 1 cZ []):FnOk P w K mg base em 2 f fd ["one","bit"] (gD K bH):=
 dR (k:=1) (b:=eA) F nC fun cdv A outer s H E hr=>(ah (dy (dc (bd (FR rfl) rfl T.any (by decide +kernel) (ae (fH (vars:=["tie"]) (caps:=[(1,"bit")]) (by change BlkOk (ap cH).names eE _ _ _; exact ⟨rfl,by decide +kernel,by decide +kernel,by decide +kernel,by decide +kernel⟩) rfl (bJ (ak ar (ab 0) ac (fun _ _=>rfl))) bW (fun _ _ _ _=>bg (i:=0) (show (["tie","bit"]:List Str).Nodup by decide +kernel) rfl (Or.inl rfl) (.inr rfl)) (fun _ _ _ _=>(aA C_has (hr.mono (by decide)) rfl (ae (ab 0) (ae (ab 1) aj))))) aj))) (av (aO lb)) cv) (av (aO (bd (FS rfl) rfl T.all (by decide +kernel) (ae (eX (vars:=["pair"]) (caps:=[(1,"bit")]) (by change BlkOk (ap cH).names eE _ _ _; exact ⟨rfl,by decide +kernel,by decide +kernel,by decide +kernel,by decide +kernel⟩) rfl (bJ (ak ar (ab 0) ac (fun _ _=>rfl))) bW (fun _ _ _ _=>bg (i:=0) (show (["pair","bit"]:List Str).Nodup by decide +kernel) rfl (Or.inl rfl) (.inr rfl)) (fun _ _ _ _=>(dc (aA C_has (hr.mono (by decide)) rfl (ae (ak ar (ab 0) ac (fun _ _=>rfl)) (ae (ab 1) aj))))) (fun _ _ _ _=>(g7 (hE hr.units) (ag aW (ak ar (ab 0) ac (fun _ _=>rfl)) ac) ac (aJ _)))) aj)))))
theorem sc_steps_of:FnScope fP ["one"] (ap df):=⟨rfl,rfl,rfl,by decide +kernel,rfl,by decide +kernel,by decide +kernel⟩
theorem pL {f:Addr} {fd:FuncData} {dV:Value} (F:FunV K "steps_of" "steps_of" df f fd dV) (T:Txt mg) (C_goes_away:Cal P w K mg base "goes_away" 2 bH []) (C_has:Cal P w K mg base "has" 1 cZ []):FnOk P w K mg base em 3 f fd ["one"] (gD K cf):=
 dR (k:=2) (b:=lv) F sc_steps_of fun cdv A outer s H E hr=>(ah (ui 1 sc_steps_of.nd (vars:=["bit"]) (caps:=[(0,"one")]) (by change BlkOk (ap df).names fP _ _ _; exact ⟨rfl,by decide +kernel,by decide +kernel,by decide +kernel,by decide +kernel⟩) rfl (bJ (ak ar (ab 0) ac (fun _ _=>rfl))) bW (fun _ _ _ _=>bg (i:=0) (show (["bit","one"]:List Str).Nodup by decide +kernel) rfl (Or.inl rfl) (.inr rfl)) (fun _ _ _ _=>(dc (aA C_goes_away (hr.mono (by decide)) rfl (ae (ab 1) (ae (ab 0) aj))))) (fun _ _ _ _=>(bR (ae oj (ae (ab 0) aj))))) (ah (dG PassesOwn.never rfl (bJ (ak ar (ab 0) ac (fun _ _=>rfl))) (b0 2 sc_steps_of.nd) (av (yM 1 (eX (vars:=["bit"]) (caps:=[(2,"tie")]) (by change BlkOk (ap df).names fP _ _ _; exact ⟨rfl,by decide +kernel,by decide +kernel,by decide +kernel,by decide +kernel⟩) rfl (bJ (ak ar (ab 0) ac (fun _ _=>rfl))) bW (fun _ _ _ _=>bg (i:=0) (show (["bit","tie"]:List Str).Nodup by decide +kernel) rfl (Or.inl rfl) (.inr rfl)) (fun _ _ _ _=>(dc (aA C_has (hr.mono (by decide)) rfl (ae (ab 1) (ae (ab 0) aj))))) (fun _ _ _ _=>(bR (ae oj (ae (ab 1) (ae (ab 0) aj))))))))) (av (vF 1 (aO (ab 1))))))
theorem zf:FnScope yn ["one","step"] (ap nD):=⟨rfl,rfl,rfl,by decide +kernel,rfl,by decide +kernel,by decide +kernel⟩
theorem zP {f:Addr} {fd:FuncData} {dV:Value} (F:FunV K "fits" "fits" nD f fd dV) (T:Txt mg) (C_has:Cal P w K mg base "has" 1 cZ []) (C_goes_away:Cal P w K mg base "goes_away" 2 bH []):FnOk P w K mg base em 3 f fd ["one","step"] (gD K eK):=
 dR (k:=2) (b:=oE) F zf fun cdv A outer s H E hr=>(ah (dy (aL (hE hr.units) (ak ar (ab 1) ac (fun _ _=>rfl)) oj (aJ _)) (av (aO (lc (g7 xS (ak ar (ab 1) ac (fun _ _=>rfl)) (ak ar (ab 0) ac (fun _ _=>rfl)) (by with_unfolding_all rfl)) (om (aA C_goes_away (hr.mono (by decide)) rfl (ae (ab 0) (ae (ak ar (ab 1) ac (fun _ _=>rfl)) aj))))))) cv) (av (aO (lc (g7 xS (ak ar (ab 1) ac (fun _ _=>rfl)) (ak ar (ab 0) ac (fun _ _=>rfl)) (by with_unfolding_all rfl)) (lc (g7 xS (ak ar (ab 1) ac (fun _ _=>rfl)) (ak ar (ab 0) ac (fun _ _=>rfl)) (by with_unfolding_all rfl)) (om (aA C_has (hr.mono (by decide)) rfl (ae (ak ar (ab 1) ac (fun _ _=>rfl)) (ae (ak ar (ab 1) ac (fun _ _=>rfl)) aj)))))))))
theorem sc_shorter:FnScope eY ["one","bit","change"] (ap dg):=⟨rfl,rfl,rfl,by decide +kernel,rfl,by decide +kernel,by decide +kernel⟩
theorem qW {f:Addr} {fd:FuncData} {dV:Value} (F:FunV K "shorter" "shorter" dg f fd dV) (T:Txt mg) (C_all_added:Cal P w K mg base "all_added" 1 bb []) (C_has:Cal P w K mg base "has" 1 cZ []):FnOk P w K mg base em 2 f fd ["one","bit","change"] (gD K bA):=
 dR (k:=1) (b:=jt) F sc_shorter fun cdv A outer s H E hr=>(ah (ia 3 sc_shorter.nd (vars:=["pair"]) (caps:=[(1,"bit"),(2,"change")]) (by change BlkOk (ap dg).names eY _ _ _; exact ⟨rfl,by decide +kernel,by decide +kernel,by decide +kernel,by decide +kernel⟩) rfl (bJ (ak ar (ab 0) ac (fun _ _=>rfl))) bW (fun _ _ _ _=>bg (i:=0) (show (["pair","bit","change"]:List Str).Nodup by decide +kernel) rfl (Or.inl rfl) (.inr rfl)) (fun _ _ _ _=>(dc (aA C_has (hr.mono (by decide)) rfl (ae (ak ar (ab 0) ac (fun _ _=>rfl)) (ae (ab 1) aj))))) (fun _ _ _ _=>(bR (ae (ag mT (ak ar (ab 0) ac (fun _ _=>rfl)) (ab 2)) (ae (ak ar (ab 0) ac (fun _ _=>rfl)) aj))))) (ah (ia 4 sc_shorter.nd (vars:=["pair"]) (caps:=[(1,"bit")]) (by change BlkOk (ap dg).names eY _ _ _; exact ⟨rfl,by decide +kernel,by decide +kernel,by decide +kernel,by decide +kernel⟩) rfl (bJ (ak ar (ab 0) ac (fun _ _=>rfl))) bW (fun _ _ _ _=>bg (i:=0) (show (["pair","bit"]:List Str).Nodup by decide +kernel) rfl (Or.inl rfl) (.inr rfl)) (fun _ _ _ _=>(i7 (dc (aA C_has (hr.mono (by decide)) rfl (ae (ak ar (ab 0) ac (fun _ _=>rfl)) (ae (ab 1) aj)))))) (fun _ _ _ _=>(ab 0))) (ah (ax 5 sc_shorter.nd (aA C_all_added (hr.mono (by decide)) rfl (ae (ak ar (ab 0) ac (fun _ _=>rfl)) (ae (ab 4) (ae (ab 3) aj))))) (av (aO (bR (ae (ak ar (ab 0) ac (fun _ _=>rfl)) (ae (ak ar (ab 0) ac (fun _ _=>rfl)) (ae (ak ar (ab 5) ac (fun _ _=>rfl)) (ae (ak ar (ab 5) ac (fun _ _=>rfl)) (ae (ak ar (ab 0) ac (fun _ _=>rfl)) (ae (cL fJ rfl T.tuple (by decide +kernel) (ae (eX (vars:=["other"]) (caps:=[(1,"bit")]) (by change BlkOk (ap dg).names eY _ _ _; exact ⟨rfl,by decide +kernel,by decide +kernel,by decide +kernel,by decide +kernel⟩) rfl (bJ (ak ar (ab 0) ac (fun _ _=>rfl))) bW (fun _ _ _ _=>bg (i:=0) (show (["other","bit"]:List Str).Nodup by decide +kernel) rfl (Or.inl rfl) (.inr rfl)) (fun _ _ _ _=>(aL (lT hr.units) (ab 0) (ab 1) (aJ _))) (fun _ _ _ _=>(ab 0))) aj)) aj))))))))))))
theorem sc_odd_part:FnScope lA ["pairs"] (ap fj):=⟨rfl,rfl,rfl,by decide +kernel,rfl,by decide +kernel,by decide +kernel⟩
theorem pM {f:Addr} {fd:FuncData} {dV:Value} (F:FunV K "odd_part" "odd_part" fj f fd dV) (T:Txt mg):FnOk P w K mg base em 1 f fd ["pairs"] (gD K bP):=
 dR (k:=0) (b:=hU) F sc_odd_part fun cdv A outer s H E hr=>(ah (ax 1 sc_odd_part.nd ac) (ah (dG PassesOwn.never rfl (bJ (ab 0)) (b0 2 sc_odd_part.nd) (av (dy (aL xS (ak ar (ab 2) ac (fun _ _=>rfl)) (bR (ae ac (ae ac aj))) (by with_unfolding_all rfl)) (av (ax 1 sc_odd_part.nd (ag mT (ab 1) (ak ar (ab 2) ac (fun _ _=>rfl))))) cv))) (av (aO (ab 1)))))
theorem sc_gone_away:FnScope eB ["one","bit"] (ap cG):=⟨rfl,rfl,rfl,by decide +kernel,rfl,by decide +kernel,by decide +kernel⟩
theorem nP {f:Addr} {fd:FuncData} {dV:Value} (F:FunV K "gone_away" "gone_away" cG f fd dV) (T:Txt mg) (C_odd_part:Cal P w K mg base "odd_part" 1 bP []) (C_shorter:Cal P w K mg base "shorter" 2 bA []) (C_all_added:Cal P w K mg base "all_added" 1 bb []) (C_has:Cal P w K mg base "has" 1 cZ []) (C_ties_in_order:Cal P w K mg base "ties_in_order" 1 aF []):FnOk P w K mg base em 3 f fd ["one","bit"] (gD K ba):=
 dR (k:=2) (b:=dE) F sc_gone_away fun cdv A outer s H E hr=>(ah (ia 2 sc_gone_away.nd (vars:=["pair"]) (caps:=[(1,"bit")]) (by change BlkOk (ap cG).names eB _ _ _; exact ⟨rfl,by decide +kernel,by decide +kernel,by decide +kernel,by decide +kernel⟩) rfl (bJ (ak ar (ab 0) ac (fun _ _=>rfl))) bW (fun _ _ _ _=>bg (i:=0) (show (["pair","bit"]:List Str).Nodup by decide +kernel) rfl (Or.inl rfl) (.inr rfl)) (fun _ _ _ _=>(dc (aA C_has (hr.mono (by decide)) rfl (ae (ak ar (ab 0) ac (fun _ _=>rfl)) (ae (ab 1) aj))))) (fun _ _ _ _=>(bR (ae (ag mT (ak ar (ab 0) ac (fun _ _=>rfl)) (ag gk ac (ab 1))) (ae (ak ar (ab 0) ac (fun _ _=>rfl)) aj))))) (ah (ax 3 sc_gone_away.nd (ag aW (bd (tX rfl) rfl T.sum (by decide +kernel) (ae (fH (vars:=["pair"]) (caps:=[]) (by change BlkOk (ap cG).names eB _ _ _; exact ⟨rfl,by decide +kernel,by decide +kernel,by decide +kernel,by decide +kernel⟩) rfl (bJ (ab 2)) bW (fun _ _ _ _=>bg (i:=0) (show (["pair"]:List Str).Nodup by decide +kernel) rfl (Or.inl rfl) (.inr rfl)) (fun _ _ _ _=>(ak ar (ab 0) ac (fun _ _=>rfl)))) aj)) ac)) (ah (ax 4 sc_gone_away.nd (aA C_odd_part (hr.mono (by decide)) rfl (ae (ab 2) aj))) (ah (ax 5 sc_gone_away.nd (aA C_shorter (hr.mono (by decide)) rfl (ae (ab 0) (ae (ab 1) (ae (ag gk ac (ab 1)) aj))))) (ah (dy (aL (hE hr.units) (ag aW (ab 3) ac) ac (aJ _)) (ah (ax 6 sc_gone_away.nd (ag mT (ab 4) (ag cW (ab 3) ac))) (av (aO (bR (ae (ak ar (ab 5) ac (fun _ _=>rfl)) (ae (ag cC (ak ar (ab 5) ac (fun _ _=>rfl)) ac) (ae (ak ar (ab 5) ac (fun _ _=>rfl)) (ae (ak ar (ab 5) ac (fun _ _=>rfl)) (ae (aA C_ties_in_order (hr.mono (by decide)) rfl (ae (ag bf (ak ar (ab 5) ac (fun _ _=>rfl)) (bR (ae (ab 6) aj))) aj)) (ae (ak ar (ab 5) ac (fun _ _=>rfl)) aj)))))))))) cv) (ah (ax 7 sc_gone_away.nd (aA C_all_added (hr.mono (by decide)) rfl (ae (ag bf (ak ar (ab 5) ac (fun _ _=>rfl)) (xD (aL (hE hr.units) (ab 3) ac (aJ _)) ac ac)) (ae (ak ar (ab 5) ac (fun _ _=>rfl)) (ae (oo (ae (bR (ae (ab 4) (ae (ag cC ac (ab 3)) aj))) aj)) aj))))) (av (aO (bR (ae (ak ar (ab 5) ac (fun _ _=>rfl)) (ae (ag cC (ak ar (ab 5) ac (fun _ _=>rfl)) ac) (ae (ak ar (ab 7) ac (fun _ _=>rfl)) (ae (ak ar (ab 7) ac (fun _ _=>rfl)) (ae (ak ar (ab 5) ac (fun _ _=>rfl)) (ae (ak ar (ab 5) ac (fun _ _=>rfl)) aj)))))))))))))))
theorem sc_put:FnScope ym ["one","tie","bit"] (ap pi):=⟨rfl,rfl,rfl,by decide +kernel,rfl,by decide +kernel,by decide +kernel⟩
theorem CC {f:Addr} {fd:FuncData} {dV:Value} (F:FunV K "put" "put" pi f fd dV) (T:Txt mg) (C_shorter:Cal P w K mg base "shorter" 2 bA []) (C_ties_in_order:Cal P w K mg base "ties_in_order" 1 aF []) (C_has:Cal P w K mg base "has" 1 cZ []):FnOk P w K mg base em 3 f fd ["one","tie","bit"] (gD K jC):=
 dR (k:=2) (b:=ya) F sc_put fun cdv A outer s H E hr=>(ah (ax 3 sc_put.nd (aA C_shorter (hr.mono (by decide)) rfl (ae (ab 0) (ae (ab 2) (ae (ab 1) aj))))) (ah (ia 4 sc_put.nd (vars:=["other"]) (caps:=[(1,"tie"),(2,"bit")]) (by change BlkOk (ap pi).names ym _ _ _; exact ⟨rfl,by decide +kernel,by decide +kernel,by decide +kernel,by decide +kernel⟩) rfl (bJ (ak ar (ab 3) ac (fun _ _=>rfl))) bW (fun _ _ _ _=>bg (i:=0) (show (["other","tie","bit"]:List Str).Nodup by decide +kernel) rfl (Or.inl rfl) (.inr rfl)) (fun _ _ _ _=>(aL (lT hr.units) (ab 0) (ab 1) (aJ _))) (fun _ _ _ _=>(xD (dc (aA C_has (hr.mono (by decide)) rfl (ae (ab 0) (ae (ab 2) aj)))) (ag mT (ab 0) (ab 1)) (ab 0)))) (av (aO (bR (ae (ak ar (ab 3) ac (fun _ _=>rfl)) (ae (ak ar (ab 3) ac (fun _ _=>rfl)) (ae (ak ar (ab 3) ac (fun _ _=>rfl)) (ae (ak ar (ab 3) ac (fun _ _=>rfl)) (ae (aA C_ties_in_order (hr.mono (by decide)) rfl (ae (ab 4) aj)) (ae (ak ar (ab 3) ac (fun _ _=>rfl)) aj)))))))))))
theorem qL:FnScope m6 ["one","step"] (ap gq):=⟨rfl,rfl,rfl,by decide +kernel,rfl,by decide +kernel,by decide +kernel⟩
theorem qV {f:Addr} {fd:FuncData} {dV:Value} (F:FunV K "stepped" "stepped" gq f fd dV) (T:Txt mg) (C_put:Cal P w K mg base "put" 3 jC []) (C_fits:Cal P w K mg base "fits" 3 eK []) (C_gone_away:Cal P w K mg base "gone_away" 3 ba []):FnOk P w K mg base em 4 f fd ["one","step"] (gD K bz):=
 dR (k:=3) (b:=gB) F qL fun cdv A outer s H E hr=>(ah (dy (i7 (dc (aA C_fits (hr.mono (by decide)) rfl (ae (ab 0) (ae (ab 1) aj))))) (av Ek) cv) (ah (dy (aL (hE hr.units) (ak ar (ab 1) ac (fun _ _=>rfl)) oj (aJ _)) (av (aO (aA C_gone_away (hr.mono (by decide)) rfl (ae (ab 0) (ae (ak ar (ab 1) ac (fun _ _=>rfl)) aj))))) cv) (av (aO (aA C_put (hr.mono (by decide)) rfl (ae (ab 0) (ae (ak ar (ab 1) ac (fun _ _=>rfl)) (ae (ak ar (ab 1) ac (fun _ _=>rfl)) aj))))))))
theorem jG:FnScope gn ["script","k"] (ap cQ):=⟨rfl,rfl,rfl,by decide +kernel,rfl,by decide +kernel,by decide +kernel⟩
theorem jI {f:Addr} {fd:FuncData} {dV:Value} (F:FunV K "_law_cell_at" "_law_cell_at" cQ f fd dV) (T:Txt mg):FnOk P w K mg base em 1 f fd ["script","k"] (gD K aM):=
 dR (k:=0) (b:=cX) F jG fun cdv A outer s H E hr=>(ah (dy (aL xR (ab 1) (bd iQ rfl T.len (by decide +kernel) (ae (ab 0) aj)) (aJ _)) (av (aO (ak ar (ab 0) (ab 1) (fun _ _=>rfl)))) cv) (av (aO ac)))
theorem lG:FnScope iZ ["cell"] (ap dP):=⟨rfl,rfl,rfl,by decide +kernel,rfl,by decide +kernel,by decide +kernel⟩
theorem lK {f:Addr} {fd:FuncData} {dV:Value} (F:FunV K "_law_mixed" "_law_mixed" dP f fd dV) (T:Txt mg):FnOk P w K mg base em 1 f fd ["cell"] (gD K aT):=
 dR (k:=0) (b:=fL) F lG fun cdv A outer s H E hr=>(av (aO (ag aW (ag bf (ag di (ag aW (ab 0) (ag Bm ac ac)) ac) ac) ac)))
theorem lF:FnScope iY ["found"] (ap dO):=⟨rfl,rfl,rfl,by decide +kernel,rfl,by decide +kernel,by decide +kernel⟩
theorem lJ {f:Addr} {fd:FuncData} {dV:Value} (F:FunV K "_law_whole" "_law_whole" dO f fd dV) (T:Txt mg):FnOk P w K mg base em 1 f fd ["found"] (gD K bi):=
 dR (k:=0) (b:=fK) F lF fun cdv A outer s H E hr=>(av (aO (lc (rB (T:="int") rfl T.isinstance rfl T.int (by decide +kernel) (by decide) (by decide) (ab 0)) (om (Dc (rB (T:="bool") rfl T.isinstance rfl T.bool (by decide +kernel) (by decide) (by decide) (ab 0)))))))
theorem sc__law_least:FnScope i0 ["x"] (ap dQ):=⟨rfl,rfl,rfl,by decide +kernel,rfl,by decide +kernel,by decide +kernel⟩
theorem lL {f:Addr} {fd:FuncData} {dV:Value} (F:FunV K "_law_least" "_law_least" dQ f fd dV) (T:Txt mg):FnOk P w K mg base em 1 f fd ["x"] (gD K bQ):=
 dR (k:=0) (b:=fM) F sc__law_least fun cdv A outer s H E hr=>(ah (ke (fun _=>wN) PassesOwn.never (WV.tv (i5 (aL rF (ak ar (ab 0) ac (fun _ _=>rfl)) ac (aJ _)) (i5 (aL (hE hr.units) (ag aW (ag bf (ak ar (ab 0) ac (fun _ _=>rfl)) (ak ar (ab 0) ac (fun _ _=>rfl))) ac) ac (aJ _)) (m8 (aL (hE hr.units) (ag aW (ag bf (ak ar (ab 0) ac (fun _ _=>rfl)) (ak ar (ab 0) ac (fun _ _=>rfl))) ac) ac (aJ _)))))) (av (ax 0 sc__law_least.nd (bR (ae (ag cW (ag cC (ak ar (ab 0) ac (fun _ _=>rfl)) (ak ar (ab 0) ac (fun _ _=>rfl))) ac) (ae (ag cW (ag bf (ak ar (ab 0) ac (fun _ _=>rfl)) (ak ar (ab 0) ac (fun _ _=>rfl))) ac) (ae (ag cW (ag bf (ak ar (ab 0) ac (fun _ _=>rfl)) (ak ar (ab 0) ac (fun _ _=>rfl))) ac) (ae (ag cW (ag cC (ak ar (ab 0) ac (fun _ _=>rfl)) (ak ar (ab 0) ac (fun _ _=>rfl))) ac) (ae (ag cC (ak ar (ab 0) ac (fun _ _=>rfl)) ac) aj))))))))) (av (aO (ab 0))))
theorem sc__law_odd:FnScope lB ["bitset","bits"] (ap fo):=⟨rfl,rfl,rfl,by decide +kernel,rfl,by decide +kernel,by decide +kernel⟩
theorem pN {f:Addr} {fd:FuncData} {dV:Value} (F:FunV K "_law_odd" "_law_odd" fo f fd dV) (T:Txt mg):FnOk P w K mg base em 1 f fd ["bitset","bits"] (gD K cF):=
 dR (k:=0) (b:=hV) F sc__law_odd fun cdv A outer s H E hr=>(ah (ax 2 sc__law_odd.nd (ag tS (ab 0) (ab 1))) (ah (ax 3 sc__law_odd.nd ac) (ah (ke (fun _=>wN) PassesOwn.never (aL rF (ab 2) ac (aJ _)) (ah (ax 3 sc__law_odd.nd (ag cC ac (ab 3))) (av (ax 2 sc__law_odd.nd (ag tS (ab 2) (ag cC (ab 2) ac)))))) (av (aO (ab 3))))))
theorem sc__law_told_bits:FnScope eZ ["shape","begin","marks","end"] (ap ci):=⟨rfl,rfl,rfl,by decide +kernel,rfl,by decide +kernel,by decide +kernel⟩
theorem ir {f:Addr} {fd:FuncData} {dV:Value} (F:FunV K "_law_told_bits" "_law_told_bits" ci f fd dV) (T:Txt mg):FnOk P w K mg base em 1 f fd ["shape","begin","marks","end"] (gD K aK):=
 dR (k:=0) (b:=dj) F sc__law_told_bits fun cdv A outer s H E hr=>(ah (ax 4 sc__law_told_bits.nd (ak ar (ab 0) ac (fun _ _=>rfl))) (ah (ax 5 sc__law_told_bits.nd ac) (ah (dG PassesOwn.never rfl (cn rfl T.range (ae (ab 4) aj)) (b0 6 sc__law_told_bits.nd) (ah (ax 5 sc__law_told_bits.nd (ag bf (ab 5) (ag di (ag aW (ag qf (ab 1) (ag cC (ag cC (ab 4) ac) (ab 6))) ac) (ag gk ac (ag bf ac (ab 6)))))) (av (ax 5 sc__law_told_bits.nd (ag bf (ab 5) (ag di (ag aW (ag qf (ab 3) (ag cC (ag cC (ab 4) ac) (ab 6))) ac) (ag gk ac (ag bf (ag bf ac (ab 4)) (ab 6))))))))) (ah (dG PassesOwn.never rfl (cn rfl T.range (ae (ak ar (ab 0) ac (fun _ _=>rfl)) aj)) (b0 7 sc__law_told_bits.nd) (av (ax 5 sc__law_told_bits.nd (ag bf (ab 5) (ag di (ak ar (ab 2) (ab 7) (fun _ _=>rfl)) (ag gk ac (ag bf (ag bf ac (ag di ac (ab 4))) (ab 7)))))))) (av (aO (ab 5)))))))
theorem sc__law_number_of:FnScope cr ["one","told"] (ap bn):=⟨rfl,rfl,rfl,by decide +kernel,rfl,by decide +kernel,by decide +kernel⟩
theorem iu {f:Addr} {fd:FuncData} {dV:Value} (F:FunV K "_law_number_of" "_law_number_of" bn f fd dV) (T:Txt mg) (C__law_least:Cal P w K mg base "_law_least" 1 bQ []) (C__law_odd:Cal P w K mg base "_law_odd" 1 cF []):FnOk P w K mg base em 2 f fd ["one","told"] (gD K aG):=
 dR (k:=1) (b:=dl) F sc__law_number_of fun cdv A outer s H E hr=>(ah (qG 2 sc__law_number_of.nd (ae ac (ae ac (ae ac (ae ac aj))))) (ah (dG PassesOwn.never rfl (cn rfl T.range (ae (ag gk ac (bd iQ rfl T.len (by decide +kernel) (ae (ak ar (ab 0) ac (fun _ _=>rfl)) aj))) aj)) (b0 3 sc__law_number_of.nd) (ah (ax 4 sc__law_number_of.nd (ab 1)) (ah (dG PassesOwn.never rfl (cn rfl T.range (ae (bd iQ rfl T.len (by decide +kernel) (ae (ak ar (ab 0) ac (fun _ _=>rfl)) aj)) aj)) (b0 5 sc__law_number_of.nd) (av (ax 4 sc__law_number_of.nd (ag bf (ab 4) (ag di (ag aW (ag qf (ab 3) (ab 5)) ac) (ag gk ac (ak ar (ak ar (ab 0) ac (fun _ _=>rfl)) (ab 5) (fun _ _=>rfl)))))))) (av (dy (aL (hE hr.units) (bd (tX rfl) rfl T.sum (by decide +kernel) (ae (fH (vars:=["tie"]) (caps:=[(4,"bits")]) (by change BlkOk (ap bn).names cr _ _ _; exact ⟨rfl,by decide +kernel,by decide +kernel,by decide +kernel,by decide +kernel⟩) rfl (bJ (ak ar (ab 0) ac (fun _ _=>rfl))) bW (fun _ _ _ _=>bg (i:=0) (show (["tie","bits"]:List Str).Nodup by decide +kernel) rfl (Or.inl rfl) (.inr rfl)) (fun _ _ _ _=>(aA C__law_odd (hr.mono (by decide)) rfl (ae (ab 0) (ae (ab 1) aj))))) aj)) ac (aJ _)) (ah (ax 6 sc__law_number_of.nd (ag aW (ag bf (ak ar (ab 0) ac (fun _ _=>rfl)) (bd (tX rfl) rfl T.sum (by decide +kernel) (ae (fH (vars:=["pair"]) (caps:=[(4,"bits")]) (by change BlkOk (ap bn).names cr _ _ _; exact ⟨rfl,by decide +kernel,by decide +kernel,by decide +kernel,by decide +kernel⟩) rfl (bJ (ak ar (ab 0) ac (fun _ _=>rfl))) bW (fun _ _ _ _=>bg (i:=0) (show (["pair","bits"]:List Str).Nodup by decide +kernel) rfl (Or.inl rfl) (.inr rfl)) (fun _ _ _ _=>(ag di (ak ar (ab 0) ac (fun _ _=>rfl)) (aA C__law_odd (hr.mono (by decide)) rfl (ae (ak ar (ab 0) ac (fun _ _=>rfl)) (ae (ab 1) aj)))))) aj))) ac)) (av (BF 2 (ag aW (ab 6) ac) (ag cC (ag bf (la 2 (ag aW (ab 6) ac) (fun _ _=>rfl)) ac) (ag di ac (ag cW (ab 6) ac)))))) cv))))) (ah (ax 7 sc__law_number_of.nd (bR (ae (la 2 ac (fun _ _=>rfl)) (ae (la 2 ac (fun _ _=>rfl)) (ae (la 2 ac (fun _ _=>rfl)) (ae (la 2 ac (fun _ _=>rfl)) (ae (bd (FP rfl) rfl T.max (by decide +kernel) (ae ac (ae (ak ar (ab 0) ac (fun _ _=>rfl)) aj))) aj))))))) (ah (dG PassesOwn.never rfl (cn rfl T.range (ae (ag cC ac (ak ar (ab 0) ac (fun _ _=>rfl))) aj)) (b0 8 sc__law_number_of.nd) (av (ax 7 sc__law_number_of.nd (bR (ae (ag cC (ak ar (ab 7) ac (fun _ _=>rfl)) (ak ar (ab 7) ac (fun _ _=>rfl))) (ae (ag bf (ak ar (ab 7) ac (fun _ _=>rfl)) (ak ar (ab 7) ac (fun _ _=>rfl))) (ae (ag bf (ak ar (ab 7) ac (fun _ _=>rfl)) (ak ar (ab 7) ac (fun _ _=>rfl))) (ae (ag cC (ak ar (ab 7) ac (fun _ _=>rfl)) (ak ar (ab 7) ac (fun _ _=>rfl))) (ae ac aj))))))))) (av (aO (aA C__law_least (hr.mono (by decide)) rfl (ae (ab 7) aj))))))))
theorem sc__law_bits_by:FnScope gp ["head","cells","first"] (ap cR):=⟨rfl,rfl,rfl,by decide +kernel,rfl,by decide +kernel,by decide +kernel⟩
theorem jJ {f:Addr} {fd:FuncData} {dV:Value} (F:FunV K "_law_bits_by" "_law_bits_by" cR f fd dV) (T:Txt mg) (C__law_cell_at:Cal P w K mg base "_law_cell_at" 1 aM []):FnOk P w K mg base em 2 f fd ["head","cells","first"] (gD K aU):=
 dR (k:=1) (b:=d8) F sc__law_bits_by fun cdv A outer s H E hr=>(ah (qG 3 sc__law_bits_by.nd aj) (ah (ax 4 sc__law_bits_by.nd (ag cC (ab 2) ac)) (ah (dG PassesOwn.never rfl (cn rfl T.range (ae (ag aW (ag cW (ab 0) ac) ac) aj)) (b0 5 sc__law_bits_by.nd) (ah (ax 4 sc__law_bits_by.nd (ag bf (ag bf (ab 4) ac) (ag aW (aA C__law_cell_at (hr.mono (by decide)) rfl (ae (ab 1) (ae (ab 5) aj))) (ak ar (oo (ae ac (ae ac (ae ac (ae ac aj))))) (ag aW (ag cW (ab 0) ac) ac) (fun _ _=>rfl))))) (av (vG 3 (ab 4))))) (av (vF 3 (aO (ab 3)))))))
theorem sc__law_some_sum:FnScope cD ["head","cells"] (ap bw):=⟨rfl,rfl,rfl,by decide +kernel,rfl,by decide +kernel,by decide +kernel⟩
theorem jf {f:Addr} {fd:FuncData} {dV:Value} (F:FunV K "_law_some_sum" "_law_some_sum" bw f fd dV) (T:Txt mg) (C__law_bits_by:Cal P w K mg base "_law_bits_by" 2 aU []) (C__law_mixed:Cal P w K mg base "_law_mixed" 1 aT []):FnOk P w K mg base em 3 f fd ["head","cells"] (gD K bB):=
 dR (k:=2) (b:=dL) F sc__law_some_sum fun cdv A outer s H E hr=>(ah (ax 2 sc__law_some_sum.nd (ag bf ac (ag aW (ab 0) ac))) (ah (ax 3 sc__law_some_sum.nd (ag aW (ag cW (ab 0) ac) ac)) (ah (ax 4 sc__law_some_sum.nd (aA C__law_bits_by (hr.mono (by decide)) rfl (ae (ab 0) (ae (ab 1) (ae (ag bf (ag bf (ag di ac (ab 2)) ac) (ab 3)) aj))))) (ah (ax 5 sc__law_some_sum.nd (ag bf (An rfl T.list rfl T.range (ag bf (ag bf (ag di ac (ab 2)) ac) (ab 3))) (ab 4))) (ah (si 6 sc__law_some_sum.nd) (ah (si 7 sc__law_some_sum.nd) (ah (dG PassesOwn.never rfl (bJ (ab 1)) (b0 8 sc__law_some_sum.nd) (ah (ax 9 sc__law_some_sum.nd (aA C__law_mixed (hr.mono (by decide)) rfl (ae (ab 8) aj))) (ah (ax 10 sc__law_some_sum.nd (bd (tX rfl) rfl T.sum (by decide +kernel) (ae (eX (vars:=["k"]) (caps:=[(5,"allowed"),(9,"turn")]) (by change BlkOk (ap bw).names cD _ _ _; exact ⟨rfl,by decide +kernel,by decide +kernel,by decide +kernel,by decide +kernel⟩) rfl (cn rfl T.range (ae (bd iQ rfl T.len (by decide +kernel) (ae (ab 5) aj)) aj)) bW (fun _ _ _ _=>bg (i:=0) (show (["k","allowed","turn"]:List Str).Nodup by decide +kernel) rfl (Or.inl rfl) (.inr rfl)) (fun _ _ _ _=>(aL (hE hr.units) (ag aW (ag qf (ab 2) (ag bf (ab 0) ac)) ac) ac (aJ _))) (fun _ _ _ _=>(ag gk ac (ak ar (ab 1) (ab 0) (fun _ _=>rfl))))) aj))) (av (dy (WV.tv (i5 (aL (hE hr.units) (ag aW (ab 9) ac) ac (aJ _)) (i5 (aL xR (tP 7 rfl T.len) ac (aJ _)) (m8 (aL rF (ab 10) ac (aJ _)))))) (av (nj 7 (DU hr.units) (ab 10) lb)) (av (dy (WV.tv (i5 (aL (lT hr.units) (ag aW (ab 9) ac) ac (aJ _)) (i5 (aL rF (ab 10) ac (aJ _)) (m8 (aL xR (tP 6 rfl T.len) ac (aJ _)))))) (av (nj 6 (DU hr.units) (ag cC (ab 10) (ag aW (ab 10) ac)) (ak ar (oo (ae (ag bf ac (ag aW (ag cW (ab 9) ac) ac)) (ae (ag bf ac (ag di ac (ag aW (ag cW (ab 9) ac) ac))) aj))) (bd (FO rfl) rfl T.min (by decide +kernel) (ae ac (ae (ag aW (ag cW (ab 0) ac) ac) aj))) (fun _ _=>rfl)))) cv))))))) (ah (ax 11 sc__law_some_sum.nd (ag cC (ag aW (ag cW (ab 0) ac) ac) ac)) (ah (dy (aL (hE hr.units) (ag aW (ag cW (ab 0) ac) ac) ac (aJ _)) (av (ax 11 sc__law_some_sum.nd (ag cC (ag aW (ag cW (ab 0) ac) ac) ac))) cv) (ah (BG 6 (ax 12 sc__law_some_sum.nd (cL fJ rfl T.tuple (by decide +kernel) (ae (fH (vars:=["bitset"]) (caps:=[(6,"turns")]) (by change BlkOk (ap bw).names cD _ _ _; exact ⟨rfl,by decide +kernel,by decide +kernel,by decide +kernel,by decide +kernel⟩) rfl (bJ (u8 rfl T.sorted (ab 6))) bW (fun _ _ _ _=>bg (i:=0) (show (["bitset","turns"]:List Str).Nodup by decide +kernel) rfl (Or.inl rfl) (.inr rfl)) (fun _ _ _ _=>(bR (ae (ab 0) (ae (xH (DU hr.units) (ab 1) (ab 0) (fun _ _=>rfl)) aj))))) aj)))) (av (aO (bR (ae (bR (ae (ab 2) (ae (ab 3) aj))) (ae (ab 11) (ae (ag aW (ag cW (ab 0) ac) ac) (ae (ab 12) (ae (cL fJ rfl T.tuple (by decide +kernel) (ae (xF 7 rfl T.sorted) aj)) (ae (cL fJ rfl T.tuple (by decide +kernel) (ae (ab 4) aj)) aj)))))))))))))))))))
theorem sc__law_formed:FnScope gP ["one","shape","many"] (ap dq):=⟨rfl,rfl,rfl,by decide +kernel,rfl,by decide +kernel,by decide +kernel⟩
theorem kF {f:Addr} {fd:FuncData} {dV:Value} (F:FunV K "_law_formed" "_law_formed" dq f fd dV) (T:Txt mg) (C__law_whole:Cal P w K mg base "_law_whole" 1 bi []):FnOk P w K mg base em 2 f fd ["one","shape","many"] (gD K bj):=
 dR (k:=1) (b:=eM) F sc__law_formed fun cdv A outer s H E hr=>(ah (dy (WV.tv (gI (i7 (dc (rB (T:="tuple") rfl T.isinstance rfl T.tuple (by decide +kernel) (by decide) (by decide) (ab 0)))) (gI (aL (lT hr.units) (bd iQ rfl T.len (by decide +kernel) (ae (ab 0) aj)) ac (aJ _)) (gI (aL (lT hr.units) (ak ar (ab 0) ac (fun _ _=>rfl)) (ab 1) (aJ _)) (m7 (aL (lT hr.units) (bd iQ rfl T.len (by decide +kernel) (ae (ak ar (ab 0) ac (fun _ _=>rfl)) aj)) (ab 2) (aJ _))))))) (av (aO lb)) cv) (ah (dy (WV.tv (gI (i7 (dc (aA C__law_whole (hr.mono (by decide)) rfl (ae (ak ar (ab 0) ac (fun _ _=>rfl)) aj)))) (gI (i7 (dc (aA C__law_whole (hr.mono (by decide)) rfl (ae (ak ar (ab 0) ac (fun _ _=>rfl)) aj)))) (gI (aL xR (ak ar (ab 0) ac (fun _ _=>rfl)) ac (aJ _)) (m7 (aL rF (ak ar (ab 0) ac (fun _ _=>rfl)) ac (aJ _))))))) (av (aO lb)) cv) (ah (ax 3 sc__law_formed.nd ac) (ah (dG PassesOwn.never rfl (bJ (ak ar (ab 0) ac (fun _ _=>rfl))) (b0 4 sc__law_formed.nd) (ah (dy (WV.tv (gI (aL HE (ak ar (ab 4) ac (fun _ _=>rfl)) (ab 3) (aJ _)) (gI (aL (hE hr.units) (ag aW (ak ar (ab 4) ac (fun _ _=>rfl)) ac) ac (aJ _)) (gI (aL xR (ak ar (ab 4) ac (fun _ _=>rfl)) ac (aJ _)) (m7 (aL rF (ak ar (ab 4) ac (fun _ _=>rfl)) ac (aJ _))))))) (av (aO lb)) cv) (av (ax 3 sc__law_formed.nd (ak ar (ab 4) ac (fun _ _=>rfl)))))) (av (aO (lc (g7 (hE hr.units) (cL Di rfl T.list (by decide +kernel) (ae (ak ar (ab 0) ac (fun _ _=>rfl)) aj)) (tN rfl T.sorted rfl T.set_ (ak ar (ab 0) ac (fun _ _=>rfl))) (aJ _)) (om (g7 Au ac (ak ar (ab 0) ac (fun _ _=>rfl)) (by with_unfolding_all rfl))))))))))
theorem jF:FnScope d9 ["one","asked"] (ap b6):=⟨rfl,rfl,rfl,by decide +kernel,rfl,by decide +kernel,by decide +kernel⟩
theorem jH {f:Addr} {fd:FuncData} {dV:Value} (F:FunV K "_law_numbers" "_law_numbers" b6 f fd dV) (T:Txt mg) (C__law_number_of:Cal P w K mg base "_law_number_of" 2 aG []) (C__law_told_bits:Cal P w K mg base "_law_told_bits" 1 aK []):FnOk P w K mg base em 3 f fd ["one","asked"] (gD K aP):=
 dR (k:=2) (b:=d7) F jF fun cdv A outer s H E hr=>(av (aO (fH (vars:=["ask"]) (caps:=[(0,"one")]) (by change BlkOk (ap b6).names d9 _ _ _; exact ⟨rfl,by decide +kernel,by decide +kernel,by decide +kernel,by decide +kernel⟩) rfl (bJ (ab 1)) bW (fun _ _ _ _=>bg (i:=0) (show (["ask","one"]:List Str).Nodup by decide +kernel) rfl (Or.inl rfl) (.inr rfl)) (fun _ _ _ _=>(aA C__law_number_of (hr.mono (by decide)) rfl (ae (ab 1) (ae (aA C__law_told_bits (hr.mono (by decide)) rfl (ae (ak ar (ab 1) ac (fun _ _=>rfl)) (ae (ak ar (ab 0) ac (fun _ _=>rfl)) (ae (ak ar (ab 0) ac (fun _ _=>rfl)) (ae (ak ar (ab 0) ac (fun _ _=>rfl)) aj))))) aj)))))))
theorem sc__law_asked:FnScope fQ ["one","cells"] (ap cS):=⟨rfl,rfl,rfl,by decide +kernel,rfl,by decide +kernel,by decide +kernel⟩
theorem lM {f:Addr} {fd:FuncData} {dV:Value} (F:FunV K "_law_asked" "_law_asked" cS f fd dV) (T:Txt mg) (C__law_mixed:Cal P w K mg base "_law_mixed" 1 aT []):FnOk P w K mg base em 2 f fd ["one","cells"] (gD K bI):=
 dR (k:=1) (b:=fN) F sc__law_asked fun cdv A outer s H E hr=>(ah (BH (ak ar (ab 0) ac (fun _ _=>rfl)) (C7 rfl (p6 (b0 2 sc__law_asked.nd) (p6 (b0 3 sc__law_asked.nd) Aj)))) (ah (qG 4 sc__law_asked.nd aj) (ah (dG PassesOwn.never rfl (cn rfl T.range (ae ac aj)) (b0 5 sc__law_asked.nd) (ah (ax 6 sc__law_asked.nd (aA C__law_mixed (hr.mono (by decide)) rfl (ae (ag bf (ak ar (ab 1) (ab 5) (fun _ _=>rfl)) (ag di (ag di (ab 5) (ab 5)) ac)) aj))) (ah (ax 7 sc__law_asked.nd (cL fJ rfl T.tuple (by decide +kernel) (ae (fH (vars:=["m"]) (caps:=[(6,"turn")]) (by change BlkOk (ap cS).names fQ _ _ _; exact ⟨rfl,by decide +kernel,by decide +kernel,by decide +kernel,by decide +kernel⟩) rfl (cn rfl T.range (ae (ab 3) aj)) bW (fun _ _ _ _=>bg (i:=0) (show (["m","turn"]:List Str).Nodup by decide +kernel) rfl (Or.inl rfl) (.inr rfl)) (fun _ _ _ _=>(ag aW (ag cW (ab 1) (ag gk ac (ab 0))) ac))) aj))) (av (vG 4 (bR (ae (ag aW (ab 6) (ag gk ac (ab 2))) (ae (ab 7) (ae (ag aW (ag cW (ab 6) ac) (ag gk ac (ab 2))) aj))))))))) (av (vF 4 (aO (ab 4)))))))
theorem sc_law:FnScope Bp ["script"] (ap il):=⟨rfl,rfl,rfl,by decide +kernel,rfl,by decide +kernel,by decide +kernel⟩
theorem CD {f:Addr} {fd:FuncData} {dV:Value} (F:FunV K "law" "law" il f fd dV) (T:Txt mg) (C__law_some_sum:Cal P w K mg base "_law_some_sum" 3 bB []) (C__law_asked:Cal P w K mg base "_law_asked" 2 bI []) (C__law_numbers:Cal P w K mg base "_law_numbers" 3 aP []) (C_steps_of:Cal P w K mg base "steps_of" 3 cf []) (C__law_cell_at:Cal P w K mg base "_law_cell_at" 1 aM []) (C_stepped:Cal P w K mg base "stepped" 4 bz []) (C__law_formed:Cal P w K mg base "_law_formed" 2 bj []):FnOk P w K mg base em 5 f fd ["script"] (gD K p7):=
 dR (k:=4) (b:=yb) F sc_law fun cdv A outer s H E hr=>(ah (ax 1 sc_law.nd (ag aW (aA C__law_cell_at (hr.mono (by decide)) rfl (ae (ab 0) (ae ac aj))) (ag Bm ac ac))) (ah (ax 2 sc_law.nd (aA C__law_some_sum (hr.mono (by decide)) rfl (ae (ab 1) (ae (qd (ab 0) (nM ac) (nM ac)) aj)))) (ah (ax 3 sc_law.nd (aA C__law_asked (hr.mono (by decide)) rfl (ae (ab 2) (ae (ag bf (qd (ab 0) (nM (Bk Bn ac)) zK) (oo (ae ac (ae ac (ae ac aj))))) aj)))) (ah (ax 4 sc_law.nd (aA C__law_numbers (hr.mono (by decide)) rfl (ae (ab 2) (ae (ab 3) aj)))) (ah (ax 5 sc_law.nd (aA C_steps_of (hr.mono (by decide)) rfl (ae (ab 2) aj))) (ah (ax 6 sc_law.nd (ab 1)) (ah (ke (fun _=>wN) PassesOwn.never (aL rF (bd iQ rfl T.len (by decide +kernel) (ae (ab 5) aj)) ac (aJ _)) (ah (ax 7 sc_law.nd (ag cC (bd iQ rfl T.len (by decide +kernel) (ae (ak ar (ab 2) ac (fun _ _=>rfl)) aj)) ac)) (ah (ax 2 sc_law.nd (aA C_stepped (hr.mono (by decide)) rfl (ae (ab 2) (ae (ak ar (ab 5) (ag aW (ab 6) (bd iQ rfl T.len (by decide +kernel) (ae (ab 5) aj))) (fun _ _=>rfl)) aj)))) (ah (ax 6 sc_law.nd (ag cW (ab 6) ac)) (ah (dy (WV.tv (gI (i7 (dc (aA C__law_formed (hr.mono (by decide)) rfl (ae (ab 2) (ae (ak ar (ab 2) ac (fun _ _=>rfl)) (ae (ab 7) aj)))))) (m7 (aL (lT hr.units) (aA C__law_numbers (hr.mono (by decide)) rfl (ae (ab 2) (ae (ab 3) aj))) (ab 4) (aJ _))))) (av (aO lb)) cv) (av (ax 5 sc_law.nd (aA C_steps_of (hr.mono (by decide)) rfl (ae (ab 2) aj))))))))) (av (aO lb)))))))))
end
theorem oD:aQ "all_added" dz ["turn","turns","pairs"]:=fun _ _ _ _ _ _ us hl=>by obtain ⟨_,_,_,rfl⟩:=uR hl; exact rfl
theorem jr:aQ "ties_in_order" bS ["ties"]:=fun _ _ _ _ _ _ us hl=>by obtain ⟨_,rfl⟩:=rf hl; exact rfl
theorem Dm:aQ "has" sE ["bitset","bit"]:=fun _ _ _ _ _ _ us hl=>by obtain ⟨_,_,rfl⟩:=jK hl; exact rfl
theorem oA:aQ "goes_away" cH ["one","bit"]:=fun _ _ _ _ _ _ us hl=>by obtain ⟨_,_,rfl⟩:=jK hl; exact rfl
theorem qp:aQ "steps_of" df ["one"]:=fun _ _ _ _ _ _ us hl=>by obtain ⟨_,rfl⟩:=rf hl; exact rfl
theorem AA:aQ "fits" nD ["one","step"]:=fun _ _ _ _ _ _ us hl=>by obtain ⟨_,_,rfl⟩:=jK hl; exact rfl
theorem rO:aQ "shorter" dg ["one","bit","change"]:=fun _ _ _ _ _ _ us hl=>by obtain ⟨_,_,_,rfl⟩:=uR hl; exact rfl
theorem qq:aQ "odd_part" fj ["pairs"]:=fun _ _ _ _ _ _ us hl=>by obtain ⟨_,rfl⟩:=rf hl; exact rfl
theorem oz:aQ "gone_away" cG ["one","bit"]:=fun _ _ _ _ _ _ us hl=>by obtain ⟨_,_,rfl⟩:=jK hl; exact rfl
theorem Dl:aQ "put" pi ["one","tie","bit"]:=fun _ _ _ _ _ _ us hl=>by obtain ⟨_,_,_,rfl⟩:=uR hl; exact rfl
theorem rN:aQ "stepped" gq ["one","step"]:=fun _ _ _ _ _ _ us hl=>by obtain ⟨_,_,rfl⟩:=jK hl; exact rfl
theorem jT:aQ "_law_cell_at" cQ ["script","k"]:=fun _ _ _ _ _ _ us hl=>by obtain ⟨_,_,rfl⟩:=jK hl; exact rfl
theorem lY:aQ "_law_mixed" dP ["cell"]:=fun _ _ _ _ _ _ us hl=>by obtain ⟨_,rfl⟩:=rf hl; exact rfl
theorem lX:aQ "_law_whole" dO ["found"]:=fun _ _ _ _ _ _ us hl=>by obtain ⟨_,rfl⟩:=rf hl; exact rfl
theorem lZ:aQ "_law_least" dQ ["x"]:=fun _ _ _ _ _ _ us hl=>by obtain ⟨_,rfl⟩:=rf hl; exact rfl
theorem qr:aQ "_law_odd" fo ["bitset","bits"]:=fun _ _ _ _ _ _ us hl=>by obtain ⟨_,_,rfl⟩:=jK hl; exact rfl
theorem iS:aQ "_law_told_bits" ci ["shape","begin","marks","end"]:=fun _ _ _ _ _ _ us hl=>by obtain ⟨_,_,_,_,rfl⟩:=Hh hl; exact rfl
theorem iT:aQ "_law_number_of" bn ["one","told"]:=fun _ _ _ _ _ _ us hl=>by obtain ⟨_,_,rfl⟩:=jK hl; exact rfl
theorem jU:aQ "_law_bits_by" cR ["head","cells","first"]:=fun _ _ _ _ _ _ us hl=>by obtain ⟨_,_,_,rfl⟩:=uR hl; exact rfl
theorem js:aQ "_law_some_sum" bw ["head","cells"]:=fun _ _ _ _ _ _ us hl=>by obtain ⟨_,_,rfl⟩:=jK hl; exact rfl
theorem lu:aQ "_law_formed" dq ["one","shape","many"]:=fun _ _ _ _ _ _ us hl=>by obtain ⟨_,_,_,rfl⟩:=uR hl; exact rfl
theorem jS:aQ "_law_numbers" b6 ["one","asked"]:=fun _ _ _ _ _ _ us hl=>by obtain ⟨_,_,rfl⟩:=jK hl; exact rfl
theorem ma:aQ "_law_asked" cS ["one","cells"]:=fun _ _ _ _ _ _ us hl=>by obtain ⟨_,_,rfl⟩:=jK hl; exact rfl
theorem Dq {l:PySem.W.OpenLaw} {w:World} {K:PySem.W.Frag} {h:Heap} {mg:Str->Option Value} {fa f23:Addr} {od23 an23:Option Addr} {sl23:Array (Option Value)} {oc23 kV23 dc23 pm23 cd23 ct23:Value} (X:K.In h) (G:h.Ns mainGlobals mg) (hfa:mg "law" = some (.ref fa))
  (D0:DefIn K "all_added" "all_added" dz)
  (D1:DefIn K "ties_in_order" "ties_in_order" bS)
  (D2:DefIn K "has" "has" sE)
  (D3:DefIn K "goes_away" "goes_away" cH)
  (D4:DefIn K "steps_of" "steps_of" df)
  (D5:DefIn K "fits" "fits" nD)
  (D6:DefIn K "shorter" "shorter" dg)
  (D7:DefIn K "odd_part" "odd_part" fj)
  (D8:DefIn K "gone_away" "gone_away" cG)
  (D9:DefIn K "put" "put" pi)
  (D10:DefIn K "stepped" "stepped" gq)
  (D11:DefIn K "_law_cell_at" "_law_cell_at" cQ)
  (D12:DefIn K "_law_mixed" "_law_mixed" dP)
  (D13:DefIn K "_law_whole" "_law_whole" dO)
  (D14:DefIn K "_law_least" "_law_least" dQ)
  (D15:DefIn K "_law_odd" "_law_odd" fo)
  (D16:DefIn K "_law_told_bits" "_law_told_bits" ci)
  (D17:DefIn K "_law_number_of" "_law_number_of" bn)
  (D18:DefIn K "_law_bits_by" "_law_bits_by" cR)
  (D19:DefIn K "_law_some_sum" "_law_some_sum" bw)
  (D20:DefIn K "_law_formed" "_law_formed" dq)
  (D21:DefIn K "_law_numbers" "_law_numbers" b6)
  (D22:DefIn K "_law_asked" "_law_asked" cS)
  (a23:PySem.W.nsIn K mainGlobals "law" = some (some (.ref f23))) (l23:K.lookup f23=some ⟨oc23,od23,.func (PySem.W.fnOf "law" "law" (dt il) (cq il) (ap il) .none kV23 dc23 pm23 an23 cd23 ct23),sl23⟩) (c23:PySem.W.codeIn K cd23 "law" = true) (k23:PySem.W.keepIn K (.ref f23)=true)
  (z_dict:PySem.W.nsIn K mainGlobals "dict" = some none)
  (z_tuple:PySem.W.nsIn K mainGlobals "tuple" = some none)
  (z_sorted:PySem.W.nsIn K mainGlobals "sorted" = some none)
  (z_set:PySem.W.nsIn K mainGlobals "set" = some none)
  (z_any:PySem.W.nsIn K mainGlobals "any" = some none)
  (z_all:PySem.W.nsIn K mainGlobals "all" = some none)
  (z_sum:PySem.W.nsIn K mainGlobals "sum" = some none)
  (z_len:PySem.W.nsIn K mainGlobals "len" = some none)
  (z_isinstance:PySem.W.nsIn K mainGlobals "isinstance" = some none)
  (z_int:PySem.W.nsIn K mainGlobals "int" = some none)
  (z_bool:PySem.W.nsIn K mainGlobals "bool" = some none)
  (z_range:PySem.W.nsIn K mainGlobals "range" = some none)
  (z_max:PySem.W.nsIn K mainGlobals "max" = some none)
  (z_list:PySem.W.nsIn K mainGlobals "list" = some none)
  (z_min:PySem.W.nsIn K mainGlobals "min" = some none)
   :∃ fd:FuncData,(∀ (s:Shared) (v:Value),BindsTo s fd ⟨[v],[]⟩ [("script",v)])/\∀ base:Heap,K.In base->base.Ns mainGlobals mg->FnOk l.prog w K mg base em 5 fa fd ["script"] (su K):=by
 have e:=hfa.symm.trans (PySem.W.mg_of X G a23)
 cases e
 have T:Txt mg:=⟨PySem.W.mg_none_of X G z_dict,PySem.W.mg_none_of X G z_tuple,PySem.W.mg_none_of X G z_sorted,PySem.W.mg_none_of X G z_set,PySem.W.mg_none_of X G z_any,PySem.W.mg_none_of X G z_all,PySem.W.mg_none_of X G z_sum,PySem.W.mg_none_of X G z_len,PySem.W.mg_none_of X G z_isinstance,PySem.W.mg_none_of X G z_int,PySem.W.mg_none_of X G z_bool,PySem.W.mg_none_of X G z_range,PySem.W.mg_none_of X G z_max,PySem.W.mg_none_of X G z_list,PySem.W.mg_none_of X G z_min⟩
 have F23:=tK (st:=il) l23 c23 k23
 refine ⟨PySem.W.fnOf "law" "law" (dt il) (cq il) (ap il) .none kV23 dc23 pm23 an23 cd23 ct23,fun s v=>.of_eq rfl,fun base _ _=>?_⟩
 have C_all_added:Cal l.prog w K mg base "all_added" 1 bb []:=D0.cal X G oD fun _ _ F=>nR F T
 have C_ties_in_order:Cal l.prog w K mg base "ties_in_order" 1 aF []:=D1.cal X G jr fun _ _ F=>je F T
 have C_has:Cal l.prog w K mg base "has" 1 cZ []:=D2.cal X G Dm fun _ _ F=>CF F T
 have C_goes_away:Cal l.prog w K mg base "goes_away" 2 bH []:=D3.cal X G oA fun _ _ F=>nQ F T C_has
 have C_steps_of:Cal l.prog w K mg base "steps_of" 3 cf []:=D4.cal X G qp fun _ _ F=>pL F T C_goes_away C_has
 have C_fits:Cal l.prog w K mg base "fits" 3 eK []:=D5.cal X G AA fun _ _ F=>zP F T C_has C_goes_away
 have C_shorter:Cal l.prog w K mg base "shorter" 2 bA []:=D6.cal X G rO fun _ _ F=>qW F T C_all_added C_has
 have C_odd_part:Cal l.prog w K mg base "odd_part" 1 bP []:=D7.cal X G qq fun _ _ F=>pM F T
 have C_gone_away:Cal l.prog w K mg base "gone_away" 3 ba []:=D8.cal X G oz fun _ _ F=>nP F T C_odd_part C_shorter C_all_added C_has C_ties_in_order
 have C_put:Cal l.prog w K mg base "put" 3 jC []:=D9.cal X G Dl fun _ _ F=>CC F T C_shorter C_ties_in_order C_has
 have C_stepped:Cal l.prog w K mg base "stepped" 4 bz []:=D10.cal X G rN fun _ _ F=>qV F T C_put C_fits C_gone_away
 have C__law_cell_at:Cal l.prog w K mg base "_law_cell_at" 1 aM []:=D11.cal X G jT fun _ _ F=>jI F T
 have C__law_mixed:Cal l.prog w K mg base "_law_mixed" 1 aT []:=D12.cal X G lY fun _ _ F=>lK F T
 have C__law_whole:Cal l.prog w K mg base "_law_whole" 1 bi []:=D13.cal X G lX fun _ _ F=>lJ F T
 have C__law_least:Cal l.prog w K mg base "_law_least" 1 bQ []:=D14.cal X G lZ fun _ _ F=>lL F T
 have C__law_odd:Cal l.prog w K mg base "_law_odd" 1 cF []:=D15.cal X G qr fun _ _ F=>pN F T
 have C__law_told_bits:Cal l.prog w K mg base "_law_told_bits" 1 aK []:=D16.cal X G iS fun _ _ F=>ir F T
 have C__law_number_of:Cal l.prog w K mg base "_law_number_of" 2 aG []:=D17.cal X G iT fun _ _ F=>iu F T C__law_least C__law_odd
 have C__law_bits_by:Cal l.prog w K mg base "_law_bits_by" 2 aU []:=D18.cal X G jU fun _ _ F=>jJ F T C__law_cell_at
 have C__law_some_sum:Cal l.prog w K mg base "_law_some_sum" 3 bB []:=D19.cal X G js fun _ _ F=>jf F T C__law_bits_by C__law_mixed
 have C__law_formed:Cal l.prog w K mg base "_law_formed" 2 bj []:=D20.cal X G lu fun _ _ F=>kF F T C__law_whole
 have C__law_numbers:Cal l.prog w K mg base "_law_numbers" 3 aP []:=D21.cal X G jS fun _ _ F=>jH F T C__law_number_of C__law_told_bits
 have C__law_asked:Cal l.prog w K mg base "_law_asked" 2 bI []:=D22.cal X G ma fun _ _ F=>lM F T C__law_mixed
 have O23:FnOk l.prog w K mg base em 5 _ _ _ (gD K p7):=CD F23 T C__law_some_sum C__law_asked C__law_numbers C_steps_of C__law_cell_at C_stepped C__law_formed
 exact Fj O23 fun ns hl=>law_true ns hl
end GN
open PySem PySem.W PyProof.Rows
set_option maxRecDepth 1000000 in
set_option maxHeartbeats 0 in
theorem PySem.Challenge.cw_wavewires_k37_whole_steps_keep_the_numbe_holds : PySem.Challenge.rw_wavewires_k37_whole_steps_keep_the_numbe.Holds := by
  refine topT ?_
  k_fill
  refine VL.DR (k := 5) (l := PySem.Challenge.rw_wavewires_k37_whole_steps_keep_the_numbe) rfl ⟨rfl, by decide, by decide⟩ rfl (fun w h Y => PySem.W.kIn_of Y) ?F
  case F =>
    intro w mg fa h KX G hmg
    refine' GN.Dq KX G hmg (VL.DefIn.mk ?a0 ?l0 ?c0 ?k0) (VL.DefIn.mk ?a1 ?l1 ?c1 ?k1) (VL.DefIn.mk ?a2 ?l2 ?c2 ?k2) (VL.DefIn.mk ?a3 ?l3 ?c3 ?k3) (VL.DefIn.mk ?a4 ?l4 ?c4 ?k4) (VL.DefIn.mk ?a5 ?l5 ?c5 ?k5) (VL.DefIn.mk ?a6 ?l6 ?c6 ?k6) (VL.DefIn.mk ?a7 ?l7 ?c7 ?k7) (VL.DefIn.mk ?a8 ?l8 ?c8 ?k8) (VL.DefIn.mk ?a9 ?l9 ?c9 ?k9) (VL.DefIn.mk ?a10 ?l10 ?c10 ?k10) (VL.DefIn.mk ?a11 ?l11 ?c11 ?k11) (VL.DefIn.mk ?a12 ?l12 ?c12 ?k12) (VL.DefIn.mk ?a13 ?l13 ?c13 ?k13) (VL.DefIn.mk ?a14 ?l14 ?c14 ?k14) (VL.DefIn.mk ?a15 ?l15 ?c15 ?k15) (VL.DefIn.mk ?a16 ?l16 ?c16 ?k16) (VL.DefIn.mk ?a17 ?l17 ?c17 ?k17) (VL.DefIn.mk ?a18 ?l18 ?c18 ?k18) (VL.DefIn.mk ?a19 ?l19 ?c19 ?k19) (VL.DefIn.mk ?a20 ?l20 ?c20 ?k20) (VL.DefIn.mk ?a21 ?l21 ?c21 ?k21) (VL.DefIn.mk ?a22 ?l22 ?c22 ?k22) ?a23 ?l23 ?c23 ?k23 ?z_dict ?z_tuple ?z_sorted ?z_set ?z_any ?z_all ?z_sum ?z_len ?z_isinstance ?z_int ?z_bool ?z_range ?z_max ?z_list ?z_min
    (case a0 => k_is)
    (case l0 => k_is)
    (case c0 => k_is)
    (case k0 => k_is)
    (case a1 => k_is)
    (case l1 => k_is)
    (case c1 => k_is)
    (case k1 => k_is)
    (case a2 => k_is)
    (case l2 => k_is)
    (case c2 => k_is)
    (case k2 => k_is)
    (case a3 => k_is)
    (case l3 => k_is)
    (case c3 => k_is)
    (case k3 => k_is)
    (case a4 => k_is)
    (case l4 => k_is)
    (case c4 => k_is)
    (case k4 => k_is)
    (case a5 => k_is)
    (case l5 => k_is)
    (case c5 => k_is)
    (case k5 => k_is)
    (case a6 => k_is)
    (case l6 => k_is)
    (case c6 => k_is)
    (case k6 => k_is)
    (case a7 => k_is)
    (case l7 => k_is)
    (case c7 => k_is)
    (case k7 => k_is)
    (case a8 => k_is)
    (case l8 => k_is)
    (case c8 => k_is)
    (case k8 => k_is)
    (case a9 => k_is)
    (case l9 => k_is)
    (case c9 => k_is)
    (case k9 => k_is)
    (case a10 => k_is)
    (case l10 => k_is)
    (case c10 => k_is)
    (case k10 => k_is)
    (case a11 => k_is)
    (case l11 => k_is)
    (case c11 => k_is)
    (case k11 => k_is)
    (case a12 => k_is)
    (case l12 => k_is)
    (case c12 => k_is)
    (case k12 => k_is)
    (case a13 => k_is)
    (case l13 => k_is)
    (case c13 => k_is)
    (case k13 => k_is)
    (case a14 => k_is)
    (case l14 => k_is)
    (case c14 => k_is)
    (case k14 => k_is)
    (case a15 => k_is)
    (case l15 => k_is)
    (case c15 => k_is)
    (case k15 => k_is)
    (case a16 => k_is)
    (case l16 => k_is)
    (case c16 => k_is)
    (case k16 => k_is)
    (case a17 => k_is)
    (case l17 => k_is)
    (case c17 => k_is)
    (case k17 => k_is)
    (case a18 => k_is)
    (case l18 => k_is)
    (case c18 => k_is)
    (case k18 => k_is)
    (case a19 => k_is)
    (case l19 => k_is)
    (case c19 => k_is)
    (case k19 => k_is)
    (case a20 => k_is)
    (case l20 => k_is)
    (case c20 => k_is)
    (case k20 => k_is)
    (case a21 => k_is)
    (case l21 => k_is)
    (case c21 => k_is)
    (case k21 => k_is)
    (case a22 => k_is)
    (case l22 => k_is)
    (case c22 => k_is)
    (case k22 => k_is)
    (case a23 => k_is)
    (case l23 => k_is)
    (case c23 => k_is)
    (case k23 => k_is)
    (case z_dict => k_is)
    (case z_tuple => k_is)
    (case z_sorted => k_is)
    (case z_set => k_is)
    (case z_any => k_is)
    (case z_all => k_is)
    (case z_sum => k_is)
    (case z_len => k_is)
    (case z_isinstance => k_is)
    (case z_int => k_is)
    (case z_bool => k_is)
    (case z_range => k_is)
    (case z_max => k_is)
    (case z_list => k_is)
    (case z_min => k_is)
