import PyProof.Rows.All
import Wide.All
import OpenK.AllK
import Wide.FinOn
import Lean
import PyProof.EqAt
import PyProof.EqKinds
import PyProof.TupleCall
import PySem.Challenge.RW_wavewires_k59_whole_alike_or_not
section TopS
set_option Elab.async false
set_option linter.all false
open PySem PySem.W PyProof.Rows
noncomputable def viewQ : Program := view PySem.Challenge.rw_wavewires_k59_whole_alike_or_not.prog [1, 2, 3, 5, 6, 7, 8, 10, 11, 12, 13, 14, 15, 17, 18, 20, 21, 22, 23, 24, 25, 26, 27, 29, 31, 33, 34, 35, 36, 37, 38, 39, 41, 42, 43, 44, 45, 46, 47, 48, 49, 50, 51, 52, 53, 54, 55, 56, 57, 58]
local macro_rules
  | `(tactic| o_head $H) => do
    let hw := Lean.mkIdent `hw
    let hc := Lean.mkIdent `hc
    `(tactic| refine holds_open (q := viewQ) (loose := ["number", "beginning"]) (Xt := fun s => xlAt viewQ [] s && recOk (RowW.records (OpenRow.toRowW PySem.Challenge.rw_wavewires_k59_whole_alike_or_not.row)) s) (XP := XL viewQ []) (Yf := Hook.obs $H) (Ya := Hook.val $H) (YP := Hook.says $H) (N := 6000) (fun w => by (unfold openEnds fencedOpening topFrom; rw [Fast.te10274390034422433532, Fast.te14082659384304107361, Fast.te1435165496053646825, Fast.te14289696077712309145, Fast.te14364793385576792824, Fast.te4187177175401517315, Fast.te5923862056798008813]; kernel_rfl)) (Hook.of $H) (Hook.keeps $H) (fun s e => xl_of s (Bool.and_eq_true_iff.mp e).1) XL.keeps (by rfl) (by rfl) (by rfl) (fun s e => recFacts_of (Bool.and_eq_true_iff.mp e).2) (by rfl) (by first | assumption | decide +kernel) (by decide +kernel) ⟨rfl, rfl, rfl, rfl, rfl, by decide +kernel⟩ ?$hw ?$hc)
set_option maxRecDepth 1000000 in
set_option maxHeartbeats 0 in
open_top topT for PySem.Challenge.rw_wavewires_k59_whole_alike_or_not
end TopS
set_option Elab.async false
set_option linter.all false
set_option maxRecDepth 100000
namespace L2
open PySem PySem.Spec PyProof.Rows
noncomputable abbrev ee:=Sum Int Str
noncomputable def px:ee->Value->Bool
 | .inl k,v=>Value.isInt k v
 | .inr x,v=>Value.isStrOf x v
noncomputable def K4 (w:World):ee->Int
 | .inl k=>hashInt k
 | .inr x=>hashStr w x
theorem cA:∀ {k:ee} {v:Value},px k v=true->(∃ i t,k=Sum.inl i/\v=Value.int i t)\/(∃ x t,k=Sum.inr x/\v=Value.str x t)
 | .inl i,v,h=>by
  obtain ⟨t,e⟩:=Value.isInt_shape (k:=i) (v:=v) h
  exact .inl ⟨i,t,rfl,e⟩
 | .inr x,v,h=>by
  obtain ⟨t,e⟩:=Value.isStrOf_shape (x:=x) (v:=v) h
  exact .inr ⟨x,t,rfl,e⟩
theorem xb (i:Int) (t:Tok):px (.inl i) (.int i t)=true:=by simp [px,Value.isInt]
theorem xa (x:Str) (t:Tok):px (.inr x) (.str x t)=true:=by simp [px,Value.isStrOf]
theorem FQ (a b:Int):decide ((Sum.inl a:ee)=Sum.inl b)=(a==b):=by
 by_cases e:a=b
 ·subst e; simp
 ·have h:¬ (Sum.inl a:ee)=Sum.inl b:=fun q=>e (Sum.inl.inj q)
  rw [decide_eq_false h]
  exact (beq_eq_false_iff_ne.mpr e).symm
theorem FN (a b:Str):decide ((Sum.inr a:ee)=Sum.inr b)=decide (a=b):=by
 by_cases e:a=b
 ·subst e; simp
 ·have h:¬ (Sum.inr a:ee)=Sum.inr b:=fun q=>e (Sum.inr.inj q)
  rw [decide_eq_false h,decide_eq_false e]
theorem FP (a:Int) (b:Str):decide ((Sum.inl a:ee)=Sum.inr b)=false:=decide_eq_false (fun q=>nomatch q)
theorem FO (a:Str) (b:Int):decide ((Sum.inr a:ee)=Sum.inl b)=false:=decide_eq_false (fun q=>nomatch q)
noncomputable def fI (prog:Program) (w:World):PySem.KeyKind prog w ee where
 is:=px
 hash:=K4 w
 inj:=fun v a b ha hb=>by
  rcases cA ha with ⟨i,t,rfl,rfl⟩ | ⟨x,t,rfl,rfl⟩
  ·rcases cA hb with ⟨j,u,rfl,e⟩ | ⟨y,u,rfl,e⟩
   ·injection e with e1 _; rw [e1]
   ·exact nomatch e
  ·rcases cA hb with ⟨j,u,rfl,e⟩ | ⟨y,u,rfl,e⟩
   ·exact nomatch e
   ·injection e with e1 _; rw [e1]
 byValue:=fun k v h=>by
  rcases cA h with ⟨i,t,rfl,rfl⟩ | ⟨x,t,rfl,rfl⟩ <;> rfl
 pyHash:=fun hv h=>by
  rcases cA hv with ⟨i,t,rfl,rfl⟩ | ⟨x,t,rfl,rfl⟩
  ·exact wpAny_pyHash_int h
  ·exact wpAny_pyHash_str h
 eqBool:=fun hu hv h=>by
  rcases cA hu with ⟨i,t,rfl,rfl⟩ | ⟨x,t,rfl,rfl⟩
  ·rcases cA hv with ⟨j,u,rfl,rfl⟩ | ⟨y,u,rfl,rfl⟩
   ·rw [FQ] at h; exact wpAny_eqBool_int h
   ·rw [FP] at h; exact SeqAt.EqAt.int_str i t y u _ _ _ _ h
  ·rcases cA hv with ⟨j,u,rfl,rfl⟩ | ⟨y,u,rfl,rfl⟩
   ·rw [FO] at h; exact SeqAt.EqAt.str_int x t j u _ _ _ _ h
   ·rw [FN] at h; exact wpAny_eqBool_str h
 «strs»:=fun k x t v h=>by
  rcases cA h with ⟨i,u,rfl,e⟩ | ⟨y,u,rfl,e⟩
  ·exact nomatch e
  ·injection e with e1 _
   subst e1
   cases v <;> rfl
theorem sE (prog:Program) (w:World) (i:Int) (t:Tok):(fI prog w).is (.inl i) (.int i t)=true:=xb i t
theorem sD (prog:Program) (w:World) (x:Str) (t:Tok):(fI prog w).is (.inr x) (.str x t)=true:=xa x t
end L2
namespace L2
open PySem PySem.Spec PyProof.Rows
inductive V where
 | non | bl (b:Bool) | int (i:Int) | str (x:Str) | byt (b:Array UInt8) | flt (b:UInt64) | ref (a:Addr) | ty (n:String)
 deriving DecidableEq
noncomputable def RelV:V->Value->Prop
 | .non,u=>u=Value.none
 | .bl b,u=>u=Value.bool b
 | .int i,u=>∃ t,u=Value.int i t
 | .str x,u=>∃ t,u=Value.str x t
 | .byt b,u=>∃ t,u=Value.bytes b t
 | .flt b,u=>∃ t,u=Value.float b t
 | .ref a,u=>u=Value.ref a
 | .ty n,u=>u=Value.type n
noncomputable abbrev Vals:List V->List Value->Prop:=Paired RelV
theorem Vals.length {xs:List V} {us:List Value} (r:Vals xs us):xs.length=us.length:=Paired.length r
theorem Vals.get:∀ {xs:List V} {us:List Value} {i:Nat} {x:V},Vals xs us->xs[i]? = some x->∃ u,us[i]? = some u/\RelV x u
 | _,_,_,_,.nil,e=>by simp at e
 | _,_,0,_,.cons r _,e=>by simp at e; subst e; exact ⟨_,rfl,r⟩
 | _,_,i+1,x,.cons _ t,e=>by
  obtain ⟨u,h1,h2⟩:=Vals.get (i:=i) (x:=x) t (by simpa using e)
  exact ⟨u,by simpa using h1,h2⟩
theorem Vals.set {x:V} {u:Value} (r:RelV x u):∀ {xs:List V} {us:List Value} (i:Nat),Vals xs us->Vals (xs.set i x) (us.set i u)
 | _,_,_,.nil=>.nil
 | _,_,0,.cons _ t=>.cons r t
 | _,_,i+1,.cons q t=>.cons q (Vals.set r i t)
theorem Vals.append:∀ {xs ys:List V} {us ws:List Value},Vals xs us->Vals ys ws->Vals (xs++ys) (us++ws)
 | _,_,_,_,.nil,s=>s
 | _,_,_,_,.cons r t,s=>.cons r (Vals.append t s)
theorem Vals.take:∀ {xs:List V} {us:List Value} (n:Nat),Vals xs us->Vals (xs.take n) (us.take n)
 | _,_,0,_=>.nil
 | _,_,_+1,.nil=>.nil
 | _,_,n+1,.cons r t=>.cons r (Vals.take n t)
theorem Vals.drop:∀ {xs:List V} {us:List Value} (n:Nat),Vals xs us->Vals (xs.drop n) (us.drop n)
 | _,_,0,r=>r
 | _,_,_+1,.nil=>.nil
 | _,_,n+1,.cons _ t=>Vals.drop n t
noncomputable def RelO:Option V->Option Value->Prop
 | some v,some u=>RelV v u
 | none,none=>True
 | _,_=>False
noncomputable def KV {κ:Type}:List (κ × V)->List (κ × Value)->Prop:=Paired fun (p:κ × V) (q:κ × Value)=>p.1=q.1/\RelV p.2 q.2
noncomputable def kV:ee->V
 | .inl i=>.int i
 | .inr x=>.str x
inductive HO where
 | lst (xs:List V)
 | tup (xs:List V)
 | dK (kvs:List (ee×V)) | dT (kvs:List (List ee×V))
 | set (S:Int->Bool) (n:Nat)
 | ins (C dx:Addr) (fs:List (Str×V))
 | own (x:Addr)
 | xd (fs:List (Str×V))
 | met (f x:Addr)
 | rng (lo hi:Int)
 | frz (o:Obj) (u:HO)
 | tbl (ps:Array Value)
 | ext (φ:Heap->Prop)
noncomputable abbrev Hp:=Addr->Option HO
noncomputable def upd (H:Hp) (a:Addr) (o:HO):Hp:=fun b=>if b=a then some o else H b
theorem aQ {H:Hp} {a:Addr} {o:HO}:upd H a o a=some o:=by unfold upd; rw [if_pos rfl]
theorem aH {H:Hp} {a b:Addr} {o:HO} (h:b≠a):upd H a o b=H b:=by unfold upd; rw [if_neg h]
theorem bO {H:Hp} {a b:Addr} {o:HO} (h:H a=some o) (h':H b=none):a≠b:=by
 intro e; subst e; rw [h] at h'; cases h'
section
variable (P:Program) (w:World)
noncomputable def ObjOk (H:Hp) (h:Heap) (a:Addr):HO->Prop
 | .lst xs=>xs.length<=sizeLine/\∃ (its:List Value) (n:Nat),Vals xs its/\h.get? a=some { cls:=.type "list",data:=.seq its.toArray n }
 | .tup xs=>xs.length<=sizeLine/\∃ its:List Value,Vals xs its/\IsTup h a its.toArray
 | .dK kvs=>kvs.length<=sizeLine/\(a==sysModules)=false/\∃ vs,KV kvs vs/\h.DictOf (fI P w) a vs
 | .dT kvs=>kvs.length<=sizeLine/\(a==sysModules)=false/\∃ xs:List (List ee×Addr×Value),
   Paired (fun (p:List ee×V) (q:List ee×Addr×Value)=>p.1=q.1/\H q.2.1=some (.tup (p.1.map kV))/\RelV p.2 q.2.2) kvs xs /\
   ∃ o es ep,h.get? a=some o/\o.ExactDict/\o.data=.dict es ep/\es.toList=xs.map (entryOfKey (tupleKind (fI P w)))/\(xs.map (·.1)).Nodup
 | .set S n=>h.SetOf (intKind P w) a S n
 | .ins C dx fs=>H dx=some (.own a)/\fs.length<=1000/\dx≠a/\h.get? a=some (PySem.W.instObj C dx) /\
   ∃ mA,h.Ns1 dx mA/\(∀ f,RelO (fs.lookup f) (mA f))/\PySem.Within mA (fs.map (·.1))
 | .own _=>∃ o,h.get? a=some o
 | .xd fs=>∃ mA,h.Ns1 a mA/\∀ f,RelO (fs.lookup f) (mA f)
 | .rng lo hi=>∃ t u v,h.get? a=some { cls:=.type "range",data:=.fields #[.int lo t,.int hi u,.int 1 v] }
 | .frz o u=>h.get? a=some o/\ObjOk H h a u
 | .tbl ps=>h.get? a=some { cls:=.none,data:=.fields ps }
 | .met f x=>h.get? a=some (PySem.W.methodObj (.ref f) (.ref x))
 | .ext φ=>φ h/\(∃ o,h.get? a=some o)/\∀ h1 h2:Heap,φ h1->(∀ o,h1.get? a=some o->h2.get? a=some o) -> φ h2
noncomputable def HOk (H:Hp) (h:Heap):Prop:=∀ a o,H a=some o->ObjOk P w H h a o
end
section
variable {P:Program} {w:World} {H H':Hp} {h h':Heap} {a:Addr} {o:HO}
theorem ObjOk.lt (x:ObjOk P w H h a o):a<h.objs.size:=by
 cases o with
 | lst xs=>obtain ⟨_,_,_,_,e⟩:=x; exact Heap.lt_size e
 | tup xs=>obtain ⟨_,_,_,p⟩:=x; exact p.lt
 | dK kvs=>obtain ⟨_,_,_,_,o,_,_,e,_⟩:=x; exact Heap.lt_size e
 | dT kvs=>obtain ⟨_,_,_,_,o,_,_,e,_⟩:=x; exact Heap.lt_size e
 | set S n=>obtain ⟨o,_,_,_,e,_⟩:=x; exact Heap.lt_size e
 | ins C dx fs=>obtain ⟨_,_,_,e,_⟩:=x; exact Heap.lt_size e
 | own y=>obtain ⟨_,e⟩:=x; exact Heap.lt_size e
 | xd fs=>obtain ⟨_,⟨_,_,_,e,_⟩,_⟩:=x; exact Heap.lt_size e
 | rng lo hi=>obtain ⟨_,_,_,e⟩:=x; exact Heap.lt_size e
 | frz ob u=>obtain ⟨e,_⟩:=x; exact Heap.lt_size e
 | tbl ps=>exact Heap.lt_size (show h.get? a=some _ from x)
 | met f y=>exact Heap.lt_size (show h.get? a=some _ from x)
 | ext φ=>obtain ⟨_,⟨_,e⟩,_⟩:=x; exact Heap.lt_size e
theorem Paired.mapP {α β:Type} {F G:α -> β -> Prop}:∀ {l₁:List α} {l₂:List β},Paired F l₁ l₂ -> (∀ a b,F a b->G a b)->Paired G l₁ l₂
 | _,_,.nil,_=>.nil
 | _,_,.cons r t,f=>.cons (f _ _ r) (Paired.mapP t f)
theorem ObjOk.stay (x:ObjOk P w H h a o) (k:∀ b u,(b=a\/H b=some (.own a))->h.get? b=some u->h'.get? b=some u)
  (ho:∀ b,H b=some (.own a)->H' b=some (.own a)) (ht:∀ b xs,H b=some (.tup xs)->H' b=some (.tup xs)):ObjOk P w H' h' a o:=by
 induction o with
 | lst xs=>obtain ⟨z,its,n,r,e⟩:=x; exact ⟨z,its,n,r,k _ _ (.inl rfl) e⟩
 | tup xs=>obtain ⟨z,its,r,ob,e,c⟩:=x; exact ⟨z,its,r,ob,k _ _ (.inl rfl) e,c⟩
 | dK kvs=>obtain ⟨z,y,vs,r,ob,es,ep,e,c⟩:=x; exact ⟨z,y,vs,r,ob,es,ep,k _ _ (.inl rfl) e,c⟩
 | dT kvs=>
  obtain ⟨z,y,xs,r,ob,es,ep,e,c⟩:=x
  exact ⟨z,y,xs,Paired.mapP r fun p q z=>⟨z.1,ht _ _ z.2.1,z.2.2⟩,ob,es,ep,k _ _ (.inl rfl) e,c⟩
 | set S n=>obtain ⟨ob,es,ep,t,e,c⟩:=x; exact ⟨ob,es,ep,t,k _ _ (.inl rfl) e,c⟩
 | ins C dx fs=>
  obtain ⟨d,z,ne,e,mA,⟨od,es,ep,e2,c⟩,r⟩:=x
  exact ⟨ho _ d,z,ne,k _ _ (.inl rfl) e,mA,⟨od,es,ep,k _ _ (.inr d) e2,c⟩,r⟩
 | own y=>obtain ⟨ob,e⟩:=x; exact ⟨ob,k _ _ (.inl rfl) e⟩
 | xd fs=>obtain ⟨mA,⟨od,es,ep,e,c⟩,r⟩:=x; exact ⟨mA,⟨od,es,ep,k _ _ (.inl rfl) e,c⟩,r⟩
 | rng lo hi=>obtain ⟨t,u,v,e⟩:=x; exact ⟨t,u,v,k _ _ (.inl rfl) e⟩
 | frz ob u ih=>obtain ⟨e,q⟩:=x; exact ⟨k _ _ (.inl rfl) e,ih q⟩
 | tbl ps=>
  have e:h.get? a=some { cls:=.none,data:=.fields ps }:=x
  show h'.get? a=some { cls:=.none,data:=.fields ps }
  exact k a _ (.inl rfl) e
 | met f y=>
  have e:h.get? a=some (PySem.W.methodObj (.ref f) (.ref y)):=x
  show h'.get? a=some (PySem.W.methodObj (.ref f) (.ref y))
  exact k a _ (.inl rfl) e
 | ext φ=>obtain ⟨p,⟨o,e⟩,st⟩:=x; exact ⟨st _ _ p fun o q=>k _ _ (.inl rfl) q,⟨o,k _ _ (.inl rfl) e⟩,st⟩
theorem HOk.lt (x:HOk P w H h) (e:H a=some o):a<h.objs.size:=(x a o e).lt
theorem HOk.fresh (x:HOk P w H h) (e:h.objs.size<=a):H a=none:=by
 cases q:H a with
 | none=>rfl
 | some u=>exact absurd (Nat.lt_of_lt_of_le (x.lt q) e) (Nat.lt_irrefl _)
theorem HOk.kept (x:HOk P w H h) (k:∀ b u,h.get? b=some u->h'.get? b=some u):HOk P w H h':=fun a o e=>
 (x a o e).stay (fun b u _ q=>k b u q) (fun _ q=>q) fun _ _ q=>q
theorem HOk.laid (x:HOk P w H h) (k:∀ b u,h.get? b=some u->h'.get? b=some u) (hp:h.objs.size<=a) (new:ObjOk P w (upd H a o) h' a o):HOk P w (upd H a o) h':=fun b u e=>by
 have hn:=x.fresh hp
 by_cases hb:b=a
 ·subst hb; rw [aQ] at e; cases e; exact new
 ·rw [aH hb] at e
  exact (x b u e).stay (fun c v _ q=>k c v q) (fun c q=>by rw [aH (bO q hn)]; exact q) fun c xs q=>by rw [aH (bO q hn)]; exact q
end
noncomputable def Rd (H:Hp) (a:Addr) (u:HO):Prop:=H a=some u\/∃ o,H a=some (.frz o u)
theorem Rd.of {H:Hp} {a:Addr} {u:HO} (h:H a=some u):Rd H a u:=.inl h
theorem Rd.ok {P:Program} {w:World} {H:Hp} {h:Heap} {a:Addr} {u:HO} (r:Rd H a u) (x:HOk P w H h):ObjOk P w H h a u:=by
 rcases r with r | ⟨o,r⟩
 ·exact x a u r
 ·obtain ⟨_,q⟩:=x a _ r
  exact q
noncomputable def JV:Option HO->Prop
 | some (.lst _)=>True
 | some (.dK _)=>True
 | some (.dT _)=>True
 | some (.set _ _)=>True
 | some (.ins _ _ _)=>True
 | some (.ext _)=>True
 | _=>False
section
variable {P:Program} {w:World} {H:Hp} {h h':Heap} {x e:Addr} {o':HO}
theorem HOk.write (ok:HOk P w H h) (mu:JV (H x)) (he:e=x\/H e=some (.own x)) (k:∀ b u,b≠e->h.get? b=some u->h'.get? b=some u) (heo:∃ u,h'.get? e=some u)
  (new:ObjOk P w (upd H x o') h' x o'):HOk P w (upd H x o') h':=fun b u q=>by
 have nown:∀ c y,H c=some (.own y)->c≠x:=fun c y r z=>by subst z; rw [r] at mu; exact mu
 have ntup:∀ c xs,H c=some (.tup xs)->c≠x:=fun c xs r z=>by subst z; rw [r] at mu; exact mu
 by_cases hb:b=x
 ·subst hb; rw [aQ] at q; cases q; exact new
 ·rw [aH hb] at q
  by_cases hbe:b=e
  ·have q':H b=some (.own x):=by
    rcases he with z | z
    ·exact absurd (hbe.trans z) hb
    ·rw [hbe]; exact z
   rw [q] at q'; cases q'
   obtain ⟨v,hv⟩:=heo
   exact ⟨v,by rw [hbe]; exact hv⟩
  ·refine (ok b u q).stay (fun c v hc r=>k c v ?_ r) (fun c r=>by rw [aH (nown c b r)]; exact r) fun c xs r=>by rw [aH (ntup c xs r)]; exact r
   rcases hc with rfl | hc
   ·exact hbe
   ·rintro rfl
    rcases he with z | z
    ·exact nown c b hc z
    ·rw [hc] at z; cases z; exact hb rfl
end
structure Un (fs ex:List Addr) (H H':Hp) (h h':Heap):Prop where
 keep:∀ b o,h.get? b=some o->H b=none->b ∉ fs->b ∉ ex->h'.get? b=some o
 slot:∀ b o,h.get? b=some o->H b=none->b∈fs->b ∉ ex->∃ sl,h'.get? b=some { o with slots:=sl }
 free:∀ b o,h.get? b=some o->H b=none->b ∉ ex->H' b=none
 there:∀ b o,h.get? b=some o->b ∉ ex->∃ o',h'.get? b=some o'
 tups:∀ b xs,H b=some (.tup xs)->H' b=some (.tup xs)
 frzs:∀ b o u,H b=some (.frz o u)->H' b=some (.frz o u)
 tbls:∀ b ps,H b=some (.tbl ps)->∃ more,H' b=some (.tbl (ps++more))
section
variable {fs fs' ex ex':List Addr} {H H1 H2:Hp} {h h1 h2 h':Heap} {a x e:Addr} {o:HO}
theorem Un.any (u:Un fs ex H H1 h h1) {b:Addr} {ob:Obj} (q:h.get? b=some ob) (n:H b=none) (hx:b ∉ ex):∃ sl,h1.get? b=some { ob with slots:=sl }:=by
 by_cases hb:b∈fs
 ·exact u.slot b ob q n hb hx
 ·exact ⟨ob.slots,u.keep b ob q n hb hx⟩
theorem Un.trans (a:Un fs ex H H1 h h1) (b:Un fs ex H1 H2 h1 h2):Un fs ex H H2 h h2 where
 keep:=fun c ob q n hc hx=>b.keep c ob (a.keep c ob q n hc hx) (a.free c ob q n hx) hc hx
 slot:=fun c ob q n hc hx=>by
  obtain ⟨sl,e1⟩:=a.slot c ob q n hc hx
  obtain ⟨sl',e2⟩:=b.slot c _ e1 (a.free c ob q n hx) hc hx
  exact ⟨sl',e2⟩
 free:=fun c ob q n hx=>by
  obtain ⟨o',e1⟩:=a.there c ob q hx
  exact b.free c o' e1 (a.free c ob q n hx) hx
 there:=fun c ob q hx=>by
  obtain ⟨o',e1⟩:=a.there c ob q hx
  exact b.there c o' e1 hx
 tups:=fun c xs q=>b.tups c xs (a.tups c xs q)
 frzs:=fun c ob xs q=>b.frzs c ob xs (a.frzs c ob xs q)
 tbls:=fun c ps q=>by
  obtain ⟨m1,e1⟩:=a.tbls c ps q
  obtain ⟨m2,e2⟩:=b.tbls c _ e1
  exact ⟨m1++m2,by rw [e2,Array.append_assoc]⟩
theorem Un.kept (k:∀ b u,h.get? b=some u->h'.get? b=some u):Un fs ex H H h h':=
 ⟨fun b ob q _ _ _=>k b ob q,fun b ob q _ _ _=>⟨ob.slots,k b ob q⟩,fun _ _ _ n _=>n,fun b ob q _=>⟨ob,k b ob q⟩,fun _ _ q=>q,fun _ _ _ q=>q,fun _ ps q=>⟨#[],by rw [q]; simp⟩⟩
theorem Un.refl:Un fs ex H H h h:=Un.kept fun _ _ q=>q
theorem Un.laid (k:∀ b u,h.get? b=some u->h'.get? b=some u) (hp:h.objs.size<=a) (hn:H a=none):Un fs ex H (upd H a o) h h' where
 keep:=fun b u q _ _ _=>k b u q
 slot:=fun b u q _ _ _=>⟨u.slots,k b u q⟩
 free:=fun b u q n _=>by rw [aH (Nat.ne_of_lt (Nat.lt_of_lt_of_le (Heap.lt_size q) hp))]; exact n
 there:=fun b u q _=>⟨u,k b u q⟩
 tups:=fun b xs q=>by rw [aH (bO q hn)]; exact q
 frzs:=fun b u xs q=>by rw [aH (bO q hn)]; exact q
 tbls:=fun b ps q=>⟨#[],by rw [aH (bO q hn),q]; simp⟩
theorem Un.write (mu:JV (H x)) (he:e=x\/H e=some (.own x)) (k:∀ b u,b≠e->h.get? b=some u->h'.get? b=some u) (heo:∃ u,h'.get? e=some u):Un fs ex H (upd H x o) h h':=by
 have hx:∀ b,H b=none->b≠x:=fun b n z=>by subst z; rw [n] at mu; exact mu
 have hb:∀ b,H b=none->b≠e:=fun b n z=>by
  subst z
  rcases he with r | r
  ·exact hx b n r
  ·rw [n] at r; cases r
 have hm:∀ b u,H b=some u->¬ JV (some u)->b≠x:=fun b u q nm z=>by subst z; rw [q] at mu; exact nm mu
 refine ⟨fun b u q n _ _=>k b u (hb b n) q,fun b u q n _ _=>⟨u.slots,k b u (hb b n) q⟩,fun b u q n _=>by rw [aH (hx b n)]; exact n,fun b u q _=>?_,
  fun b xs q=>by rw [aH (hm b _ q fun z=>z)]; exact q,fun b u xs q=>by rw [aH (hm b _ q fun z=>z)]; exact q,fun b ps q=>⟨#[],by rw [aH (hm b _ q fun z=>z),q]; simp⟩⟩
 by_cases hbe:b=e
 ·subst hbe; exact heo
 ·exact ⟨u,k b u hbe q⟩
theorem Un.mono (u:Un fs ex H H1 h h1) (hs:∀ b∈fs,b∈fs') (hx:∀ b∈ex,b∈ex'):Un fs' ex' H H1 h h1:=
 ⟨fun b ob q n hb he=>u.keep b ob q n (fun z=>hb (hs b z)) fun z=>he (hx b z),fun _ _ q n _ he=>u.any q n fun z=>he (hx _ z),fun b ob q n he=>u.free b ob q n fun z=>he (hx b z),fun b ob q he=>u.there b ob q fun z=>he (hx b z),u.tups,u.frzs,u.tbls⟩
end
noncomputable def JA (h:Heap) (H:Hp):List Addr:=(List.range h.objs.size).filter fun a=>(H a).isSome
noncomputable def qH (h:Heap) (H:Hp):Heap:=PySem.W.hideAll h (JA h H)
theorem xh (h:Heap) (H:Hp):(qH h H).objs.size=h.objs.size:=PySem.W.hideAll_size _ _
theorem zN {h:Heap} {H:Hp} {b:Addr} {o:Obj} (e:h.get? b=some o) (n:H b=none):(qH h H).get? b=some o:=
 PySem.W.hideAll_get _ e fun hm=>by
  have q:(H b).isSome=true:=(List.mem_filter.mp hm).2
  rw [n] at q; simp at q
theorem BG {h:Heap} {H:Hp} {b:Addr} {o:Obj} (e:(qH h H).get? b=some o):h.get? b=some o/\H b=none:=by
 have e':h.get? b=some o:=PySem.W.of_hideAll (JA h H) e
 refine ⟨e',?_⟩
 cases q:H b with
 | none=>rfl
 | some x=>
  have hm:b∈JA h H:=List.mem_filter.mpr ⟨List.mem_range.mpr (Heap.lt_size e'),by simp [q]⟩
  have z:(qH h H).get? b=none:=PySem.W.hideAll_none (JA h H) hm
  rw [z] at e; cases e
noncomputable def Da (g h:Heap) (L:Addr):List (Addr×Obj):=(List.range h.objs.size).filterMap fun a=>if a=L\/(g.get? a).isSome=true then none else (h.get? a).map fun o=>(a,o)
noncomputable def rest (g h:Heap) (L d:Addr):List (Addr×Obj):=(Da g h L).filter fun p=>decide (p.1≠d)
end L2
namespace L2
open PySem PySem.Spec PyProof.Rows
structure Mod (K:PySem.W.Frag) (mg:Str->Option Value) (base:Heap):Prop where
 kin:K.In base
 glob:base.Ns mainGlobals mg
 blt:∃ mb,base.Ns builtinsNs mb/\∀ x:Str,x ≠ "__name__" -> mb x=bootBuiltins x
 nolimit:base.NoLimit
structure Cx where
 prog:Program
 w:World
 K:PySem.W.Frag
 mg:Str->Option Value
 base:Heap
 A:Around
 N:List Str
 s₀:Shared
 H₀:Hp
 env:Env
 outer:List Env
 stack:List Env
 ex:List Addr
 fn:Str->Bool
 calm:Bool
 pn:List (Addr×Obj)
 xe:Value->Shared->Prop
noncomputable def qI (l:List Env):List Addr:=l.filterMap (·.frame)
noncomputable abbrev Cx.fs (X:Cx):List Addr:=qI X.outer
noncomputable def Dc (sc:Scope) (x:Str):Prop:=sc.names.lookup x=some .local\/sc.names.lookup x=some .cell\/sc.names.lookup x=some .free
noncomputable def xA (sc:Scope) (x:Str):Prop:=sc.names.lookup x=some .local\/sc.names.lookup x=some .cell
noncomputable def LE (env:Env) (h:Heap) (m:Str->Option Value) (x:Str) (u:Value):Prop:=
 (env.kindOf x=some .local/\m x=some u)\/((env.kindOf x=some .cell\/env.kindOf x=some .free)/\∃ c,env.cells.lookup x=some c/\h.IsCell c (some u))
structure Cx.Ok (X:Cx):Prop where
 mod:Mod X.K X.mg X.base
 kind:X.env.scope.kind=.function
 glob:X.env.globals=mainGlobals
 blt:X.env.builtins=builtinsNs
 above:X.s₀.heap.objs.size<=X.env.locals
 inj:∀ x y c,X.env.cells.lookup x=some c->X.env.cells.lookup y=some c->x=y
 has:∀ x,(X.env.kindOf x=some .cell\/X.env.kindOf x=some .free)->∃ c,X.env.cells.lookup x=some c
 cab:∀ x c,X.fn x=true->X.env.cells.lookup x=some c->X.s₀.heap.objs.size<=c
 hd:X.calm=true->X.A.handled=none
 frames:X.A.frames=some X.stack
 stk:X.stack=X.outer\/(X.stack=X.env::X.outer/\X.env.frame=some X.env.locals)
 exf:∀ b∈X.ex,b≠X.env.locals/\∀ x c,X.env.cells.lookup x=some c->c≠b
 bs:∀ b o,X.base.get? b=some o->X.s₀.heap.get? b=some o/\X.H₀ b=none
 bsz:X.base.objs.size<=X.s₀.heap.objs.size
 noex:∀ b o,X.base.get? b=some o->b ∉ X.ex
 exfs:∀ b∈X.ex,b ∉ X.fs
 funs:X.s₀.heap.FunFrames X.base X.outer
 frf:∀ b∈X.fs,X.H₀ b=none
structure Inv (X:Cx) (pins:List (Addr×Obj)) (σ:List (Option V)) (H:Hp) (s:Shared):Prop where
 ok:X.Ok
 os:s.os=X.s₀.os
 bare:AllBare s.gens
 base:Un X.fs X.ex X.H₀ H X.s₀.heap s.heap
 loc:∃ m,s.heap.Ns X.env.locals m/\∀ (i:Nat) (x:Str) (v:V),X.N[i]? = some x -> σ[i]? = some (some v)->Dc X.env.scope x->∃ u,RelV v u/\LE X.env s.heap m x u
 cell:∀ x c,X.env.cells.lookup x=some c->∃ v,s.heap.IsCell c v
 free:H X.env.locals=none
 freeC:∀ x c,X.env.cells.lookup x=some c->H c=none
 pin:∀ p∈X.pn++pins,s.heap.get? p.1=some p.2/\H p.1=none/\p.1≠X.env.locals/\p.1 ∉ X.fs/\∀ v,p.2.data≠.cell v
 hok:HOk X.prog X.w H s.heap
 len:σ.length=X.N.length
section
variable {X:Cx} {pins:List (Addr×Obj)} {σ:List (Option V)} {H H':Hp} {s:Shared} {h':Heap}
theorem Cx.Ok.nofr (ok:X.Ok) {b:Addr} {o:Obj} (e:X.base.get? b=some o):b ∉ X.fs:=fun hb=>by
 have:=(ok.funs.mem hb).1
 rw [e] at this; cases this
theorem Inv.bs (I:Inv X pins σ H s):∀ b o,X.base.get? b=some o->s.heap.get? b=some o/\H b=none:=fun b o e=>
 ⟨I.base.keep b o (I.ok.bs b o e).1 (I.ok.bs b o e).2 (I.ok.nofr e) (I.ok.noex b o e),I.base.free b o (I.ok.bs b o e).1 (I.ok.bs b o e).2 (I.ok.noex b o e)⟩
theorem Inv.bk (I:Inv X pins σ H s):∀ b o,X.base.get? b=some o->s.heap.get? b=some o:=fun b o e=>(I.bs b o e).1
theorem Inv.mod (I:Inv X pins σ H s):Mod X.K X.mg X.base:=I.ok.mod
theorem Inv.kIn (I:Inv X pins σ H s):X.K.In s.heap:=I.ok.mod.kin.keeps I.bk
theorem Inv.nolimit (I:Inv X pins σ H s):s.heap.NoLimit:=I.ok.mod.nolimit.keeps I.bk
theorem Inv.fr (I:Inv X pins σ H s):∃ m,Fr X.base X.env.locals s.heap m:=
 let ⟨m,hn,_⟩:=I.loc
 ⟨m,hn,I.bk,Nat.le_trans I.ok.bsz I.ok.above⟩
theorem Inv.lt (I:Inv X pins σ H s):X.env.locals<s.heap.objs.size:=let ⟨_,hn,_⟩:=I.loc; hn.lt
theorem Inv.sz (I:Inv X pins σ H s):X.s₀.heap.objs.size<=s.heap.objs.size:=Nat.le_trans I.ok.above (Nat.le_of_lt I.lt)
theorem Inv.nofs (I:Inv X pins σ H s) {a:Addr} (h:s.heap.objs.size<=a):a ∉ X.fs:=fun hb=>by
 obtain ⟨_,o,ho,_⟩:=I.ok.funs.mem hb
 exact absurd (Nat.lt_of_lt_of_le (Heap.lt_size ho) (Nat.le_trans I.sz h)) (Nat.lt_irrefl _)
theorem Inv.cne (I:Inv X pins σ H s):∀ x c,X.env.cells.lookup x=some c->c≠X.env.locals:=fun x c e z=>by
 obtain ⟨v,o,ho,hd⟩:=I.cell x c e
 obtain ⟨m,⟨o',es,ep,ho',hd',_⟩,_⟩:=I.loc
 rw [z,ho'] at ho; cases ho; rw [hd'] at hd; cases hd
theorem Inv.funs (I:Inv X pins σ H s):s.heap.FunFrames X.base X.outer:=by
 have all:∀ (l:List Env),(∀ b∈qI l,b∈X.fs)->X.s₀.heap.FunFrames X.base l->s.heap.FunFrames X.base l:=by
  intro l
  induction l with
  | nil=>intro _ _; trivial
  | cons env r ih=>
   intro hs hl
   obtain ⟨hk,⟨L,o,hf,hn,ho,hd⟩,hr⟩:=hl
   have hL:L∈X.fs:=hs L (by unfold qI; rw [List.filterMap_cons,hf]; exact List.mem_cons_self)
   obtain ⟨sl,e⟩:=I.base.slot L o ho (I.ok.frf L hL) hL fun z=>I.ok.exfs L z hL
   exact ⟨hk,⟨L,_,hf,hn,e,hd⟩,ih (fun b hb=>hs b (by unfold qI; rw [List.filterMap_cons,hf]; exact List.mem_cons_of_mem _ hb)) hr⟩
 exact all X.outer (fun _ hb=>hb) I.ok.funs
theorem Inv.stack (I:Inv X pins σ H s):s.heap.FunFrames X.base X.stack:=by
 rcases I.ok.stk with e | ⟨e,hf⟩
 ·rw [e]; exact I.funs
 ·rw [e]
  obtain ⟨m,hn,_⟩:=I.loc
  refine .cons (by rw [I.ok.kind]; decide) hf hn ?_ I.funs
  exact Heap.get?_none_of_le (Nat.le_trans I.ok.bsz I.ok.above)
theorem Inv.stkSub (I:Inv X pins σ H s):∀ b∈qI X.stack,b∈X.env.locals::X.fs:=fun b hb=>by
 rcases I.ok.stk with e | ⟨e,hf⟩
 ·rw [e] at hb; exact List.mem_cons_of_mem _ hb
 ·rw [e] at hb
  unfold qI at hb
  rw [List.filterMap_cons,hf] at hb
  exact hb
theorem Inv.stkFree (I:Inv X pins σ H s):∀ b∈qI X.stack,H b=none:=fun b hb=>by
 rcases List.mem_cons.mp (I.stkSub b hb) with e | hb
 ·rw [e]; exact I.free
 ·obtain ⟨_,o,ho,_⟩:=I.ok.funs.mem hb
  exact I.base.free b o ho (I.ok.frf b hb) fun z=>I.ok.exfs b z hb
theorem Inv.step {g':Array GenState} {t':Nat} {d':Drawn} {ch:List Addr} (I:Inv X pins σ H s)
  (hch:∀ b∈ch,(b∈X.ex\/X.s₀.heap.objs.size<=b)/\b≠X.env.locals/\(∀ x c,X.env.cells.lookup x=some c->c≠b)/\∀ p∈X.pn++pins,p.1≠b)
  (keep:∀ b o,b≠X.env.locals->b ∉ X.fs->b ∉ ch->s.heap.get? b=some o->H b=none->h'.get? b=some o)
  (slot:∀ b o,b≠X.env.locals->b∈X.fs->b ∉ ch->s.heap.get? b=some o->H b=none->∃ sl,h'.get? b=some { o with slots:=sl }) (free:∀ b o,b ∉ ch->s.heap.get? b=some o->H b=none->H' b=none)
  (there:∀ b o,b ∉ ch->s.heap.get? b=some o->∃ o',h'.get? b=some o')
  (tups:∀ b xs,H b=some (.tup xs)->H' b=some (.tup xs)) (frzs:∀ b o u,H b=some (.frz o u)->H' b=some (.frz o u)) (tbls:∀ b ps,H b=some (.tbl ps)->∃ more,H' b=some (.tbl (ps++more)))
  (ns:∀ m,s.heap.Ns X.env.locals m->h'.Ns X.env.locals m) (hok:HOk X.prog X.w H' h') (hg:AllBare g') :
  Inv X pins σ H' { s with heap:=h',gens:=g',drawn:=d',toks:=t' }:=by
 have neL:∀ b o,X.s₀.heap.get? b=some o->b≠X.env.locals:=fun b o e=>Nat.ne_of_lt (Nat.lt_of_lt_of_le (Heap.lt_size e) I.ok.above)
 have neC:∀ b o,X.s₀.heap.get? b=some o->b ∉ X.ex->b ∉ ch:=fun b o e hx hb=>by
  rcases (hch b hb).1 with z | z
  ·exact hx z
  ·exact absurd (Nat.lt_of_lt_of_le (Heap.lt_size e) z) (Nat.lt_irrefl _)
 have cellK:∀ x c,X.env.cells.lookup x=some c->∀ v,s.heap.IsCell c v->h'.IsCell c v:=fun x c e v ⟨o,ho,hd⟩=>by
  have nch:c ∉ ch:=fun z=>(hch c z).2.2.1 x c e rfl
  by_cases hc:c∈X.fs
  ·obtain ⟨sl,q⟩:=slot c o (I.cne x c e) hc nch ho (I.freeC x c e)
   exact ⟨_,q,hd⟩
  ·exact ⟨o,keep c o (I.cne x c e) hc nch ho (I.freeC x c e),hd⟩
 refine ⟨I.ok,I.os,hg,⟨fun b o e n hb hx=>?_,fun b o e n hb hx=>?_,fun b o e n hx=>?_,fun b o e hx=>?_,fun b xs e=>tups b xs (I.base.tups b xs e),fun b o xs e=>frzs b o xs (I.base.frzs b o xs e),fun b ps e=>?_⟩,?_,fun x c e=>?_,?_,fun x c e=>?_,fun p hp=>?_,hok,I.len⟩
 ·exact keep b o (neL b o e) hb (neC b o e hx) (I.base.keep b o e n hb hx) (I.base.free b o e n hx)
 ·obtain ⟨sl,e1⟩:=I.base.slot b o e n hb hx
  obtain ⟨sl',e2⟩:=slot b _ (neL b o e) hb (neC b o e hx) e1 (I.base.free b o e n hx)
  exact ⟨sl',e2⟩
 ·obtain ⟨o',e1⟩:=I.base.there b o e hx
  exact free b o' (neC b o e hx) e1 (I.base.free b o e n hx)
 ·obtain ⟨o',e1⟩:=I.base.there b o e hx
  exact there b o' (neC b o e hx) e1
 ·obtain ⟨m1,e1⟩:=I.base.tbls b ps e
  obtain ⟨m2,e2⟩:=tbls b _ e1
  exact ⟨m1++m2,by rw [e2,Array.append_assoc]⟩
 ·obtain ⟨m,hn,hl⟩:=I.loc
  refine ⟨m,ns m hn,fun i x v e1 e2 e3=>?_⟩
  obtain ⟨u,r,l⟩:=hl i x v e1 e2 e3
  refine ⟨u,r,?_⟩
  rcases l with l | ⟨k,c,e,z⟩
  ·exact .inl l
  ·exact .inr ⟨k,c,e,cellK x c e _ z⟩
 ·obtain ⟨v,z⟩:=I.cell x c e
  exact ⟨v,cellK x c e v z⟩
 ·obtain ⟨m,⟨o,_,_,ho,_⟩,_⟩:=I.loc
  exact free _ o (fun z=>(hch _ z).2.1 rfl) ho I.free
 ·obtain ⟨v,o,ho,hd⟩:=I.cell x c e
  exact free c o (fun z=>(hch c z).2.2.1 x c e rfl) ho (I.freeC x c e)
 ·obtain ⟨e,n,ne,nf,d⟩:=I.pin p hp
  have nch:p.1 ∉ ch:=fun z=>(hch p.1 z).2.2.2 p hp rfl
  exact ⟨keep p.1 p.2 ne nf nch e n,free p.1 p.2 nch e n,ne,nf,d⟩
theorem Inv.un {t':Nat} (I:Inv X pins σ H s) (u:Un X.fs [] H H' s.heap h') (hok:HOk X.prog X.w H' h'):Inv X pins σ H' { s with heap:=h',toks:=t' }:=by
 obtain ⟨m,⟨o,es,ep,ho,r⟩,_⟩:=id I.loc
 obtain ⟨sl,hL⟩:=u.any ho I.free (by simp)
 exact I.step (g':=s.gens) (d':=s.drawn) (ch:=[]) (fun _ z=>nomatch z) (fun b o _ hb _ e n=>u.keep b o e n hb (by simp)) (fun b o _ hb _ e n=>u.slot b o e n hb (by simp)) (fun b o _ e n=>u.free b o e n (by simp)) (fun b o _ e=>u.there b o e (by simp)) u.tups u.frzs u.tbls (fun m' hm=>by
  obtain ⟨o',es',ep',ho',r'⟩:=hm
  rw [ho] at ho'; cases ho'
  exact ⟨_,es',ep',hL,r'⟩) hok I.bare
theorem Inv.call {g':Array GenState} {t':Nat} {d':Drawn} {ch:List Addr} (I:Inv X pins σ H s) (u:Un (qI X.stack) ch H H' s.heap h') (hok:HOk X.prog X.w H' h') (hg:AllBare g')
  (hch:∀ b∈ch,(b∈X.ex\/X.s₀.heap.objs.size<=b)/\b≠X.env.locals/\(∀ x c,X.env.cells.lookup x=some c->c≠b)/\∀ p∈X.pn++pins,p.1≠b) :
  Inv X pins σ H' { s with heap:=h',gens:=g',drawn:=d',toks:=t' }:=by
 obtain ⟨m,⟨o,es,ep,ho,r⟩,_⟩:=id I.loc
 obtain ⟨sl,hL⟩:=u.any ho I.free fun z=>(hch _ z).2.1 rfl
 exact I.step (ch:=ch) hch (fun b o hL hb hc e n=>u.keep b o e n (fun z=>(List.mem_cons.mp (I.stkSub b z)).elim hL hb) hc) (fun b o _ _ hc e n=>u.any e n hc) (fun b o hc e n=>u.free b o e n hc) (fun b o hc e=>u.there b o e hc) u.tups u.frzs u.tbls (fun m' hm=>by
  obtain ⟨o',es',ep',ho',r'⟩:=hm
  rw [ho] at ho'; cases ho'
  exact ⟨_,es',ep',hL,r'⟩) hok hg
theorem Inv.turned {t':Nat} {it:Addr} (I:Inv X pins σ H s) (k:∀ b o,b≠it->s.heap.get? b=some o->h'.get? b=some o) (hn:H it=none) (hL:it≠X.env.locals)
  (h1:it∈X.ex\/X.s₀.heap.objs.size<=it) (h2:∀ x c,X.env.cells.lookup x=some c->c≠it) (h3:∀ p∈X.pn++pins,p.1≠it):Inv X pins σ H { s with heap:=h',toks:=t' }:=by
 have nit:∀ b u,H b=some u->b≠it:=fun b u e z=>by rw [z,hn] at e; cases e
 refine I.step (g':=s.gens) (d':=s.drawn) (ch:=[it]) (fun b hb=>?_) (fun b o _ _ hc e _=>k b o (fun z=>hc (by simp [z])) e) (fun b o _ _ hc e _=>⟨o.slots,k b o (fun z=>hc (by simp [z])) e⟩) (fun _ _ _ _ n=>n)
  (fun b o hc e=>⟨o,k b o (fun z=>hc (by simp [z])) e⟩) (fun _ _ e=>e) (fun _ _ _ e=>e) (fun b ps e=>⟨#[],by rw [e]; simp⟩) (fun m hm=>?_) (fun b u e=>?_) I.bare
 ·have e:b=it:=by simpa using hb
  subst e
  exact ⟨h1,hL,h2,h3⟩
 ·obtain ⟨o,es,ep,ho,r⟩:=hm
  exact ⟨o,es,ep,k _ o (Ne.symm hL) ho,r⟩
 ·refine (I.hok b u e).stay (fun c v hc q=>k c v ?_ q) (fun _ q=>q) fun _ _ q=>q
  rcases hc with z | z
  ·rw [z]; exact nit b u e
  ·exact nit c _ z
theorem Inv.tok (I:Inv X pins σ H s) (t:Nat):Inv X pins σ H { s with toks:=t }:=I.un (h':=s.heap) (t':=t) Un.refl I.hok
theorem Inv.kept {t':Nat} (I:Inv X pins σ H s) (k:∀ b u,s.heap.get? b=some u->h'.get? b=some u):Inv X pins σ H { s with heap:=h',toks:=t' }:=I.un (Un.kept k) (I.hok.kept k)
theorem Inv.laid {a:Addr} {o:HO} {t':Nat} (I:Inv X pins σ H s) (k:∀ b u,s.heap.get? b=some u->h'.get? b=some u) (hp:s.heap.objs.size<=a) (new:ObjOk X.prog X.w (upd H a o) h' a o) :
  Inv X pins σ (upd H a o) { s with heap:=h',toks:=t' }:=I.un (Un.laid k hp (I.hok.fresh hp)) (I.hok.laid k hp new)
theorem Inv.write {x e:Addr} {o:HO} {t':Nat} (I:Inv X pins σ H s) (mu:JV (H x)) (he:e=x\/H e=some (.own x)) (k:∀ b u,b≠e->s.heap.get? b=some u->h'.get? b=some u) (heo:∃ u,h'.get? e=some u)
  (new:ObjOk X.prog X.w (upd H x o) h' x o):Inv X pins σ (upd H x o) { s with heap:=h',toks:=t' }:=I.un (Un.write mu he k heo) (I.hok.write mu he k heo new)
theorem Inv.weak {σ':List (Option V)} (I:Inv X pins σ H s) (hl:σ'.length = σ.length) (w:∀ (i:Nat) v,σ'[i]? = some (some v) -> σ[i]? = some (some v)):Inv X pins σ' H s:=
 ⟨I.ok,I.os,I.bare,I.base,let ⟨m,hn,hl'⟩:=I.loc; ⟨m,hn,fun i x v e1 e2 e3=>hl' i x v e1 (w i v e2) e3⟩,I.cell,I.free,I.freeC,I.pin,I.hok,hl.trans I.len⟩
theorem Inv.pins_of {pins':List (Addr×Obj)} (I:Inv X pins σ H s) (h:∀ p∈pins',s.heap.get? p.1=some p.2/\H p.1=none/\p.1≠X.env.locals/\p.1 ∉ X.fs/\∀ v,p.2.data≠.cell v):Inv X pins' σ H s:=
 ⟨I.ok,I.os,I.bare,I.base,I.loc,I.cell,I.free,I.freeC,fun p hp=>(List.mem_append.mp hp).elim (fun z=>I.pin p (List.mem_append_left _ z)) (h p),I.hok,I.len⟩
theorem sA {N:List Str} (hN:N.Nodup) {i j:Nat} {x:Str} (a:N[i]? = some x) (b:N[j]? = some x):i=j:=by
 obtain ⟨h1,e1⟩:=List.getElem?_eq_some_iff.mp a
 obtain ⟨h2,e2⟩:=List.getElem?_eq_some_iff.mp b
 exact (List.getElem_inj hN).mp (e1.trans e2.symm)
theorem wo {M:Model} {A:Around} {E:Value->Shared->Prop} {i:Nat} {x:Str} {v:V} {u:Value} {Q:Unit->Shared->Prop} (I:Inv X pins σ H s) (hN:X.N.Nodup) (hi:X.N[i]? = some x) (hx:xA X.env.scope x) (r:RelV v u)
  (h:∀ s',Inv X pins (σ.set i (some v)) H s'->(∃ a,Heap.SameBut a s.heap s'.heap/\(a=X.env.locals\/X.env.cells.lookup x=some a))->Q () s') (hf:X.fn x=true\/X.env.scope.names.lookup x=some .local:=by first | exact .inl rfl | exact .inr rfl | assumption):wpAny M A (storeName X.env x u) Q E s:=by
 obtain ⟨m,hn,hl⟩:=id I.loc
 have hcls:(X.env.scope.kind == .class||(X.env.scope.kind == .module&&X.env.locals != X.env.globals))=false:=by rw [I.ok.kind]; rfl
 have hiσ:i < σ.length:=by rw [I.len]; exact (List.getElem?_eq_some_iff.mp hi).1
 have cne:=I.cne
 have tracked:∀ {a:Addr} {h':Heap},(∃ o,s.heap.get? a=some o/\H a=none)->Heap.SameBut a s.heap h'->HOk X.prog X.w H h':=fun {a h'} ha hs b ob e=>by
  obtain ⟨_,_,hfree⟩:=ha
  refine (I.hok b ob e).stay (fun c w' hc q=>(hs.2 c ?_).trans q) (fun _ q=>q) fun _ _ q=>q
  rintro rfl
  rcases hc with rfl | hc
  ·rw [hfree] at e; cases e
  ·rw [hfree] at hc; cases hc
 rcases hx with hk | hk
 ·refine wpAny_storeName_local hk hn (fun h' hn' hs=>?_) hcls
  obtain ⟨oL,_,_,hoL,_⟩:=id hn
  refine h _ ⟨I.ok,I.os,I.bare,⟨fun b o e n hb hx=>?_,fun b o e n hb hx=>?_,I.base.free,fun b o e hx=>?_,I.base.tups,I.base.frzs,I.base.tbls⟩,⟨_,hn',fun j y v' e1 e2 e3=>?_⟩,fun y c e=>?_,I.free,I.freeC,fun p hp=>?_,tracked ⟨oL,hoL,I.free⟩ hs,by simpa using I.len⟩ ⟨_,hs,.inl rfl⟩
  ·exact (hs.2 b (Nat.ne_of_lt (Nat.lt_of_lt_of_le (Heap.lt_size e) I.ok.above))).trans (I.base.keep b o e n hb hx)
  ·obtain ⟨sl,e1⟩:=I.base.slot b o e n hb hx
   exact ⟨sl,(hs.2 b (Nat.ne_of_lt (Nat.lt_of_lt_of_le (Heap.lt_size e) I.ok.above))).trans e1⟩
  ·obtain ⟨o',e1⟩:=I.base.there b o e hx
   exact ⟨o',(hs.2 b (Nat.ne_of_lt (Nat.lt_of_lt_of_le (Heap.lt_size e) I.ok.above))).trans e1⟩
  ·by_cases hj:j=i
   ·subst hj
    rw [hi] at e1; cases e1
    rw [List.getElem?_set_self hiσ] at e2
    cases e2
    exact ⟨u,r,.inl ⟨hk,by simp⟩⟩
   ·rw [List.getElem?_set_ne (Ne.symm hj)] at e2
    obtain ⟨u',r',q⟩:=hl j y v' e1 e2 e3
    refine ⟨u',r',?_⟩
    rcases q with ⟨k,e⟩ | ⟨k,c,e,z⟩
    ·refine .inl ⟨k,?_⟩
     have:y≠x:=fun e=>hj (sA hN e1 (e ▸ hi))
     simp [this,e]
    ·exact .inr ⟨k,c,e,z.sameBut hs (cne y c e)⟩
  ·obtain ⟨w',z⟩:=I.cell y c e
   exact ⟨w',z.sameBut hs (cne y c e)⟩
  ·obtain ⟨e,n,ne,nf,d⟩:=I.pin p hp
   exact ⟨(hs.2 p.1 ne).trans e,n,ne,nf,d⟩
 ·have hfn:X.fn x=true:=by
   rcases hf with z | z
   ·exact z
   ·rw [z] at hk; cases hk
  obtain ⟨c,hc⟩:=I.ok.has x (.inl hk)
  obtain ⟨w',z⟩:=I.cell x c hc
  refine wpAny_storeName_cell I.ok.kind hk hc z (fun h' hc' hs=>?_)
  obtain ⟨oc,hoc,hocd⟩:=id z
  refine h { s with heap:=h' } ⟨I.ok,I.os,I.bare,⟨fun b o e n hb hx=>?_,fun b o e n hb hx=>?_,I.base.free,fun b o e hx=>?_,I.base.tups,I.base.frzs,I.base.tbls⟩,⟨m,hn.sameBut hs (Ne.symm (cne x c hc)),fun j y v' e1 e2 e3=>?_⟩,fun y c' e=>?_,I.free,I.freeC,fun p hp=>?_,tracked ⟨oc,hoc,I.freeC x c hc⟩ hs,by simpa using I.len⟩ ⟨c,hs,.inr hc⟩
  ·exact (hs.2 b (Nat.ne_of_lt (Nat.lt_of_lt_of_le (Heap.lt_size e) (I.ok.cab x c hfn hc)))).trans (I.base.keep b o e n hb hx)
  ·obtain ⟨sl,e1⟩:=I.base.slot b o e n hb hx
   exact ⟨sl,(hs.2 b (Nat.ne_of_lt (Nat.lt_of_lt_of_le (Heap.lt_size e) (I.ok.cab x c hfn hc)))).trans e1⟩
  ·obtain ⟨o',e1⟩:=I.base.there b o e hx
   exact ⟨o',(hs.2 b (Nat.ne_of_lt (Nat.lt_of_lt_of_le (Heap.lt_size e) (I.ok.cab x c hfn hc)))).trans e1⟩
  ·by_cases hj:j=i
   ·subst hj
    rw [hi] at e1; cases e1
    rw [List.getElem?_set_self hiσ] at e2
    cases e2
    exact ⟨u,r,.inr ⟨.inl hk,c,hc,hc'⟩⟩
   ·rw [List.getElem?_set_ne (Ne.symm hj)] at e2
    obtain ⟨u',r',q⟩:=hl j y v' e1 e2 e3
    refine ⟨u',r',?_⟩
    rcases q with q | ⟨k,c',e,z'⟩
    ·exact .inl q
    ·refine .inr ⟨k,c',e,z'.sameBut hs ?_⟩
     rintro rfl
     exact hj (sA hN e1 (I.ok.inj _ _ _ e hc ▸ hi))
  ·by_cases hcc:c'=c
   ·subst hcc; exact ⟨_,hc'⟩
   ·obtain ⟨w2,z2⟩:=I.cell y c' e
    exact ⟨w2,z2.sameBut hs hcc⟩
  ·obtain ⟨e,n,ne,nf,d⟩:=I.pin p hp
   refine ⟨(hs.2 p.1 ?_).trans e,n,ne,nf,d⟩
   intro q
   rw [q,hoc] at e
   have q':oc=p.2:=Option.some.inj e
   exact d w' (by rw [<- q']; exact hocd)
theorem rW {M:Model} {A:Around} {E:Value->Shared->Prop} {i:Nat} {x:Str} {v:V} {u:Value} {Q:Unit->Shared->Prop} (I:Inv X pins σ H s) (hN:X.N.Nodup) (hi:X.N[i]? = some x) (hx:xA X.env.scope x) (r:RelV v u)
  (h:∀ s',Inv X pins (σ.set i (some v)) H s'->Q () s') (hf:X.fn x=true\/X.env.scope.names.lookup x=some .local:=by first | exact .inl rfl | exact .inr rfl | assumption):wpAny M A (storeName X.env x u) Q E s:=
 wo I hN hi hx r (fun s' I' _=>h s' I') hf
theorem Inv.call' {s':Shared} {ch:List Addr} (I:Inv X pins σ H s) (ho:s'.os=s.os) (u:Un (qI X.stack) ch H H' s.heap s'.heap) (hok:HOk X.prog X.w H' s'.heap) (hg:AllBare s'.gens)
  (hch:∀ b∈ch,(b∈X.ex\/X.s₀.heap.objs.size<=b)/\b≠X.env.locals/\(∀ x c,X.env.cells.lookup x=some c->c≠b)/\∀ p∈X.pn++pins,p.1≠b):Inv X pins σ H' s':=by
 obtain ⟨h',g',d',t',o'⟩:=s'
 have e:o'=s.os:=ho
 subst e
 exact I.call (g':=g') (t':=t') (d':=d') u hok hg hch
end
noncomputable abbrev XK:=Value->Option Addr->Hp->Prop
noncomputable abbrev St:=List (Option V)
noncomputable abbrev VK:=V->Hp->Prop
noncomputable abbrev TE:=St->Hp->VK->Prop
noncomputable abbrev TT:=St->Hp->(Bool->Hp->Prop)->Prop
noncomputable abbrev TA:=St->Hp->(List V->Hp->Prop)->Prop
structure Ends where
 nx:St->Hp->Prop
 rt:VK
 bk:St->Hp->Prop:=fun _ _=>False
 ct:St->Hp->Prop:=fun _ _=>False
noncomputable abbrev TS:=Ends->St->Hp->Prop
noncomputable def EP (X:Cx) (pins:List (Addr×Obj)) (σ:St) (Q:VK) (u:Value) (s':Shared):Prop:=∃ v H',Inv X pins σ H' s'/\RelV v u/\Q v H'
noncomputable def TP (X:Cx) (pins:List (Addr×Obj)) (σ:St) (Q:Bool->Hp->Prop) (b:Bool) (s':Shared):Prop:=∃ H',Inv X pins σ H' s'/\Q b H'
noncomputable def AP (X:Cx) (pins:List (Addr×Obj)) (σ:St) (Q:List V->Hp->Prop) (us:List Value) (s':Shared):Prop:=∃ vs H',Inv X pins σ H' s'/\Vals vs us/\Q vs H'
noncomputable def SP (X:Cx) (pins:List (Addr×Obj)) (D:Ends) (f:Flow) (s':Shared):Prop:=
 match f with
 | .next=>∃ σ' H',Inv X pins σ' H' s'/\D.nx σ' H'
 | .brk=>∃ σ' H',Inv X pins σ' H' s'/\D.bk σ' H'
 | .cont=>∃ σ' H',Inv X pins σ' H' s'/\D.ct σ' H'
 | .ret u=>∃ v σ' H',Inv X pins σ' H' s'/\RelV v u/\D.rt v H'
noncomputable def PE (X:Cx) (e:Expr) (t:TE):Prop:=
 ∀ (pins:List (Addr×Obj)) (s:Shared) (σ:St) (H:Hp) (Q:VK),Inv X pins σ H s->t σ H Q->wpAny (model X.prog X.w) X.A (eval e X.env) (EP X pins σ Q) X.xe s
noncomputable def PT (X:Cx) (e:Expr) (t:TT):Prop:=
 ∀ (pins:List (Addr×Obj)) (s:Shared) (σ:St) (H:Hp) (Q:Bool->Hp->Prop),Inv X pins σ H s->t σ H Q->wpAny (model X.prog X.w) X.A (isTrue e X.env (eval e X.env)) (TP X pins σ Q) X.xe s
noncomputable def PW (X:Cx) (e:Expr) (t:TT):Prop:=
 ∀ (whole:Sem Value) (pins:List (Addr×Obj)) (s:Shared) (σ:St) (H:Hp) (Q:Bool->Hp->Prop),Inv X pins σ H s->t σ H Q->wpAny (model X.prog X.w) X.A (isTrue e X.env whole) (TP X pins σ Q) X.xe s
theorem PW.pt {X:Cx} {e:Expr} {t:TT} (h:PW X e t):PT X e t:=h _
noncomputable def PA (X:Cx) (es:List Expr) (t:TA):Prop:=
 ∀ (pos:Pos) (pins:List (Addr×Obj)) (s:Shared) (σ:St) (H:Hp) (Q:List V->Hp->Prop),Inv X pins σ H s->t σ H Q->wpAny (model X.prog X.w) X.A (spliced (backTo pos (starEach es X.env))) (AP X pins σ Q) X.xe s
noncomputable def PS (X:Cx) (st:Stmt) (t:TS):Prop:=
 ∀ (pins:List (Addr×Obj)) (s:Shared) (σ:St) (H:Hp) (D:Ends),Inv X pins σ H s->t D σ H->wpAny (model X.prog X.w) X.A (exec st X.env) (SP X pins D) X.xe s
noncomputable def PSs (X:Cx) (st:List Stmt) (t:TS):Prop:=
 ∀ (pins:List (Addr×Obj)) (s:Shared) (σ:St) (H:Hp) (D:Ends),Inv X pins σ H s->t D σ H->wpAny (model X.prog X.w) X.A (execs st X.env) (SP X pins D) X.xe s
theorem dl {α:Type} {t:Sem α} {Q Q':α -> Shared->Prop} {M:Model} {A:Around} {E:Value->Shared->Prop} {s:Shared} (h:wpAny M A t Q E s) (hQ:∀ a s,Q a s->Q' a s):wpAny M A t Q' E s:=wpAny_mono h hQ fun _ _ x=>x
end L2
namespace L2
open PySem PySem.Spec PyProof.Rows
section
variable {X:Cx}
noncomputable def Ka (i:Nat):TE:=fun σ H Q=>∃ v,σ[i]? = some (some v)/\Q v H
noncomputable def tC (v:V):TE:=fun _ H Q=>Q v H
theorem jR {i:Nat} {x:Str} {pos:Pos} (hN:X.N[i]? = some x) (hv:Dc X.env.scope x) (hd:(x==("__debug__":Str))=false:=by decide) (hcd:(x==("__classdict__":Str))=false:=by decide):PE X (.Name x pos) (Ka i):=by
 intro pins s σ H Q I h
 obtain ⟨v,e,h⟩:=h
 obtain ⟨m,hn,hl⟩:=I.loc
 obtain ⟨u,r,l⟩:=hl i x v hN e hv
 have fin:EP X pins σ Q u s:=⟨v,H,I,r,h⟩
 rcases l with ⟨hk,hm⟩ | ⟨hk,c,hc,hcell⟩
 ·exact wpAny_Name (wpAny_loadName_local I.ok.kind hk hn hm fin) hd
 ·rcases hk with hk | hk
  ·exact wpAny_Name (wpAny_loadName_cell I.ok.kind hk hc hcell fin) hd
  ·exact wpAny_Name (wpAny_loadName_free I.ok.kind hk hc hcell fin hcd) hd
theorem yK {i j pos}:PE X (.Constant (.int i) j pos) (tC (.int i)):=fun _ _ _ H _ I h=>wpAny_Constant_int ⟨.int i,H,I.tok _,⟨_,rfl⟩,h⟩
theorem HM {b j pos}:PE X (.Constant (.bool b) j pos) (tC (.bl b)):=fun _ _ _ H _ I h=>Constant_bool ⟨.bl b,H,I,rfl,h⟩
theorem EM {j pos}:PE X (.Constant .none j pos) (tC .non):=fun _ _ _ H _ I h=>Constant_none ⟨.non,H,I,rfl,h⟩
theorem EJ {x j pos}:PE X (.Constant (.str x) j pos) (tC (.str x)):=fun _ _ _ H _ I h=>Calls.Constant_str ⟨.str x,H,I.tok _,⟨_,rfl⟩,h⟩
noncomputable def Gl (X:Cx) (x:Str):Prop:=X.env.kindOf x=some .globalImplicit
theorem vD {E:Value->Shared->Prop} {pins:List (Addr×Obj)} {s:Shared} {σ:St} {H:Hp} {x:Str} {u:Value} {pos:Pos} {Q:Value->Shared->Prop} (I:Inv X pins σ H s) (hg:Gl X x) (hm:X.mg x=some u) (h:Q u s)
  (hd:(x==("__debug__":Str))=false:=by decide):wpAny (model X.prog X.w) X.A (eval (.Name x pos) X.env) Q E s:=
 Calls.Name_function_global I.ok.kind hg (Calls.loadGlobal_global (by rw [I.ok.glob]; exact I.mod.glob.keeps I.bk) hm h) hd
theorem nE {E:Value->Shared->Prop} {pins:List (Addr×Obj)} {s:Shared} {σ:St} {H:Hp} {x:Str} {u:Value} {pos:Pos} {Q:Value->Shared->Prop} (I:Inv X pins σ H s) (hg:Gl X x) (hm:X.mg x=none) (hv:bootBuiltins x=some u) (h:Q u s)
  (hn:x ≠ "__name__":=by decide) (hd:(x==("__debug__":Str))=false:=by decide):wpAny (model X.prog X.w) X.A (eval (.Name x pos) X.env) Q E s:=by
 obtain ⟨mb,h1,h2⟩:=I.mod.blt
 exact Calls.Name_function_global I.ok.kind hg (Calls.loadGlobal_builtin (by rw [I.ok.glob]; exact I.mod.glob.keeps I.bk) hm (by rw [I.ok.blt]; exact h1.keeps I.bk) ((h2 x hn).trans hv) h) hd
theorem Bu {x:Str} {v:V} {u:Value} {pos:Pos} (hg:Gl X x) (hm:X.mg x=some u) (r:RelV v u) (hd:(x==("__debug__":Str))=false:=by decide):PE X (.Name x pos) (tC v):=
 fun _ _ _ H _ I h=>vD I hg hm ⟨v,H,I,r,h⟩ hd
theorem Bx {x:Str} {v:V} {u:Value} {pos:Pos} (hg:Gl X x) (hm:X.mg x=none) (hv:bootBuiltins x=some u) (r:RelV v u) (hn:x ≠ "__name__":=by decide) (hd:(x==("__debug__":Str))=false:=by decide):PE X (.Name x pos) (tC v):=
 fun _ _ _ H _ I h=>nE I hg hm hv ⟨v,H,I,r,h⟩ hn hd
variable {a b:Expr} {ta tb:TE} {pos:Pos}
noncomputable def tB (t:TE):TT:=fun σ H Q=>t σ H fun x H1=>∃ c,x=.bl c/\Q c H1
theorem ED {e:Expr} {t:TE} (h:PE X e t) (he:∀ whole,isTrue e X.env whole=(do let v <- whole; standAt e.pos; holding [v] (truthy v)):=by intro _; rfl):PT X e (tB t):=by
 intro pins s σ H Q I hw
 refine isTrue_plain (dl (h pins s σ H _ I hw) fun v s1 ⟨x,H1,I1,r1,q1⟩=>?_) (he _)
 obtain ⟨d,rfl,q⟩:=q1
 cases r1
 exact wpAny_truthy_bool ⟨H1,I1,q⟩
variable {tA tB':TT} {rest:List Expr}
noncomputable def Kl (t u:TT):TT:=fun σ H Q=>t σ H fun c H1=>if c=true then u σ H1 Q else Q false H1
noncomputable def Ml (t u:TT):TT:=fun σ H Q=>t σ H fun c H1=>if c=true then Q true H1 else u σ H1 Q
noncomputable def Kf (t:TT):TT:=fun σ H Q=>t σ H fun c H1=>Q (!c) H1
theorem Bn (ha:PT X a tA):PW X (.BoolOp .And [a] pos) tA:=by
 intro wh pins s σ H Q I h
 refine isTrue_and (dl (ha pins s σ H Q I h) fun c s1 e=>?_)
 cases c with
 | true=>exact isTrue_and_nil e
 | false=>exact e
theorem EA (ha:PT X a tA):PW X (.BoolOp .Or [a] pos) tA:=by
 intro wh pins s σ H Q I h
 refine isTrue_or (dl (ha pins s σ H Q I h) fun c s1 e=>?_)
 cases c with
 | false=>exact isTrue_or_nil e
 | true=>exact e
theorem EB (ha:PT X a tA) (hb:PW X (.BoolOp .And (b::rest) pos) tB'):PW X (.BoolOp .And (a::b::rest) pos) (Kl tA tB'):=by
 intro wh pins s σ H Q I h
 refine isTrue_and (dl (ha pins s σ H _ I h) fun c s1 ⟨H1,I1,q1⟩=>?_)
 cases c with
 | true=>exact hb wh pins s1 σ H1 Q I1 q1
 | false=>exact ⟨H1,I1,q1⟩
theorem HI (ha:PT X a tA) (hb:PW X (.BoolOp .Or (b::rest) pos) tB'):PW X (.BoolOp .Or (a::b::rest) pos) (Ml tA tB'):=by
 intro wh pins s σ H Q I h
 refine isTrue_or (dl (ha pins s σ H _ I h) fun c s1 ⟨H1,I1,q1⟩=>?_)
 cases c with
 | true=>exact ⟨H1,I1,q1⟩
 | false=>exact hb wh pins s1 σ H1 Q I1 q1
theorem EE (ha:PT X a tA):PT X (.UnaryOp .Not a pos) (Kf tA):=by
 intro pins s σ H Q I h
 exact isTrue_not (ha pins s σ H (fun c H1=>Q (!c) H1) I h)
noncomputable def Hi (ta tb:TE):TE:=fun σ H Q=>ta σ H fun x H1=>∃ c,x=.bl c/\if c=true then tb σ H1 Q else Q (.bl false) H1
noncomputable def Hc (ta:TE):TE:=fun σ H Q=>ta σ H fun x H1=>∃ c,x=.bl c/\Q (.bl (!c)) H1
theorem EK {op} {t:TE} (h:PE X a t):PE X (.BoolOp op [a] pos) t:=fun pins s σ H Q I hw=>BoolOp_one (h pins s σ H Q I hw)
theorem EQ (ha:PE X a ta) (hb:PE X (.BoolOp .And (b::rest) pos) tb):PE X (.BoolOp .And (a::b::rest) pos) (Hi ta tb):=by
 intro pins s σ H Q I h
 refine BoolOp_and (dl (ha pins s σ H _ I h) fun v s1 ⟨x,H1,I1,r1,q1⟩=>?_)
 obtain ⟨c,rfl,q1⟩:=q1
 cases r1
 refine wpAny_truthy_bool ?_
 cases c with
 | true=>exact hb pins s1 σ H1 Q I1 q1
 | false=>exact ⟨.bl false,H1,I1,rfl,q1⟩
theorem EL (ha:PE X a ta):PE X (.UnaryOp .Not a pos) (Hc ta):=by
 intro pins s σ H Q I h
 refine UnaryOp_ (dl (ha pins s σ H _ I h) fun v s1 ⟨x,H1,I1,r1,q1⟩=>?_)
 obtain ⟨c,rfl,q1⟩:=q1
 cases r1
 exact not_of (wpAny_truthy_bool ⟨.bl (!c),H1,I1,rfl,q1⟩)
noncomputable def Mm (t:TT) (ta tb:TE):TE:=fun σ H Q=>t σ H fun c H1=>if c=true then ta σ H1 Q else tb σ H1 Q
theorem yL {c:Expr} (hc:PT X c tA) (ha:PE X a ta) (hb:PE X b tb):PE X (.IfExp c a b pos) (Mm tA ta tb):=by
 intro pins s σ H Q I h
 refine wpAny_IfExp (dl (hc pins s σ H _ I h) fun d s1 ⟨H1,I1,q1⟩=>?_)
 cases d with
 | true=>exact ha pins s1 σ H1 Q I1 q1
 | false=>exact hb pins s1 σ H1 Q I1 q1
end
end L2
namespace L2
open PySem PySem.Spec PyProof.Rows
noncomputable def SqL (K:PySem.W.Frag) (H:Hp) (a:Addr) (xs:List V):Prop:=
 Rd H a (.lst xs) \/
  ∃ (o:Obj) (its:Array Value) (n:Nat),K.lookup a=some o/\o.cls=.type "list" /\ o.dict=none/\o.data=.seq its n/\its.size<=sizeLine/\Vals xs its.toList
noncomputable def SqT (K:PySem.W.Frag) (H:Hp) (a:Addr) (xs:List V):Prop:=
 Rd H a (.tup xs) \/
  ∃ (o:Obj) (its:Array Value) (n:Nat),K.lookup a=some o/\o.cls=.type "tuple" /\ o.data=.seq its n/\its.size<=sizeLine/\Vals xs its.toList
noncomputable def Lv:Value->Option V
 | .none=>some .non
 | .bool b=>some (.bl b)
 | .int i _=>some (.int i)
 | .str x _=>some (.str x)
 | .bytes b _=>some (.byt b)
 | .float b _=>some (.flt b)
 | .ref a=>some (.ref a)
 | .type n=>some (.ty n)
 | _=>none
theorem RelV.abs {x:V} {u:Value} (r:RelV x u):Lv u=some x:=by
 cases x with
 | non=>cases r; rfl
 | bl _=>cases r; rfl
 | int _=>obtain ⟨t,rfl⟩:=r; rfl
 | str _=>obtain ⟨t,rfl⟩:=r; rfl
 | byt _=>obtain ⟨t,rfl⟩:=r; rfl
 | flt _=>obtain ⟨t,rfl⟩:=r; rfl
 | ref _=>cases r; rfl
 | ty _=>cases r; rfl
theorem RelV.inj {x y:V} {u:Value} (r:RelV x u) (q:RelV y u):x=y:=Option.some.inj (r.abs.symm.trans q.abs)
theorem Vals.inj:∀ {xs ys:List V} {us:List Value},Vals xs us->Vals ys us->xs=ys
 | _,_,_,.nil,.nil=>rfl
 | _,_,_,.cons r t,.cons r' t'=>by rw [r.inj r',Vals.inj t t']
section
variable {X:Cx} {pins:List (Addr×Obj)} {σ:St} {H:Hp} {s:Shared} {a:Addr} {xs ys:List V}
theorem SqL.of {K:PySem.W.Frag} (h:H a=some (.lst xs)):SqL K H a xs:=.inl (.inl h)
theorem SqT.of {K:PySem.W.Frag} (h:H a=some (.tup xs)):SqT K H a xs:=.inl (.inl h)
theorem Inv.list (I:Inv X pins σ H s) (h:SqL X.K H a xs):∃ its:List Value,Vals xs its/\PlainL s.heap a its.toArray/\xs.length<=sizeLine:=by
 rcases h with h | ⟨o,its,n,hk,hc,hd,hs,hz,r⟩
 ·obtain ⟨z,its,n,r,e⟩:=h.ok I.hok
  exact ⟨its,r,⟨_,n,e,rfl,rfl,rfl⟩,z⟩
 ·refine ⟨its.toList,r,⟨o,n,I.kIn a o hk,hc,hd,by simpa using hs⟩,?_⟩
  have e:=r.length
  simp only [Array.length_toList] at e
  omega
theorem Inv.tuple (I:Inv X pins σ H s) (h:SqT X.K H a xs):∃ its:List Value,Vals xs its/\IsTup s.heap a its.toArray/\xs.length<=sizeLine:=by
 rcases h with h | ⟨o,its,n,hk,hc,hs,hz,r⟩
 ·obtain ⟨z,its,r,p⟩:=h.ok I.hok
  exact ⟨its,r,p,z⟩
 ·refine ⟨its.toList,r,⟨o,I.kIn a o hk,hc,n,by simpa using hs⟩,?_⟩
  have e:=r.length
  simp only [Array.length_toList] at e
  omega
theorem Inv.list_inj (I:Inv X pins σ H s) (h:SqL X.K H a xs) (h':SqL X.K H a ys):xs=ys:=by
 obtain ⟨its,r,⟨o,n,e,_,_,d⟩,_⟩:=I.list h
 obtain ⟨its',r',⟨o',n',e',_,_,d'⟩,_⟩:=I.list h'
 rw [e] at e'; cases e'
 rw [d] at d'
 injection d' with d1 _
 have:its=its':=by simpa using congrArg Array.toList d1
 subst this
 exact r.inj r'
theorem Inv.tuple_inj (I:Inv X pins σ H s) (h:SqT X.K H a xs) (h':SqT X.K H a ys):xs=ys:=by
 obtain ⟨its,r,⟨o,e,_,n,d⟩,_⟩:=I.tuple h
 obtain ⟨its',r',⟨o',e',_,n',d'⟩,_⟩:=I.tuple h'
 rw [e] at e'; cases e'
 rw [d] at d'
 injection d' with d1 _
 have:its=its':=by simpa using congrArg Array.toList d1
 subst this
 exact r.inj r'
end
noncomputable abbrev Cx.wish (X:Cx) (E:Value->Shared->Prop):Cx:={ X with xe:=E }
noncomputable abbrev Cx.nox (X:Cx):Cx:=X.wish fun _ _=>False
theorem Cx.Ok.wish {X:Cx} (ok:X.Ok) (E:Value->Shared->Prop):(X.wish E).Ok:=
 ⟨ok.mod,ok.kind,ok.glob,ok.blt,ok.above,ok.inj,ok.has,ok.cab,ok.hd,ok.frames,ok.stk,ok.exf,ok.bs,ok.bsz,ok.noex,ok.exfs,ok.funs,ok.frf⟩
theorem Cx.Ok.unwish {X:Cx} {E:Value->Shared->Prop} (ok:(X.wish E).Ok):X.Ok:=
 ⟨ok.mod,ok.kind,ok.glob,ok.blt,ok.above,ok.inj,ok.has,ok.cab,ok.hd,ok.frames,ok.stk,ok.exf,ok.bs,ok.bsz,ok.noex,ok.exfs,ok.funs,ok.frf⟩
section
variable {X:Cx} {pins:List (Addr×Obj)} {σ:St} {H:Hp} {s:Shared} {E:Value->Shared->Prop}
theorem Inv.wish (I:Inv X pins σ H s) (E:Value->Shared->Prop):Inv (X.wish E) pins σ H s:=⟨I.ok.wish E,I.os,I.bare,I.base,I.loc,I.cell,I.free,I.freeC,I.pin,I.hok,I.len⟩
theorem Inv.unwish (I:Inv (X.wish E) pins σ H s):Inv X pins σ H s:=⟨I.ok.unwish,I.os,I.bare,I.base,I.loc,I.cell,I.free,I.freeC,I.pin,I.hok,I.len⟩
theorem SP.unwish {D:Ends} {f:Flow} {s':Shared} (h:SP (X.wish E) pins D f s'):SP X pins D f s':=by
 cases f with
 | next=>obtain ⟨σ',H',I,q⟩:=h; exact ⟨σ',H',I.unwish,q⟩
 | brk=>obtain ⟨σ',H',I,q⟩:=h; exact ⟨σ',H',I.unwish,q⟩
 | cont=>obtain ⟨σ',H',I,q⟩:=h; exact ⟨σ',H',I.unwish,q⟩
 | ret u=>obtain ⟨v,σ',H',I,r,q⟩:=h; exact ⟨v,σ',H',I.unwish,r,q⟩
theorem PE.nox {e:Expr} {t:TE} (h:PE X.nox e t):PE X e t:=fun pins s σ H Q I hw=>
 wpAny_mono (h pins s σ H Q (I.wish _) hw) (fun _ _ ⟨v,H',I',r,q⟩=>⟨v,H',I'.unwish,r,q⟩) fun _ _ z=>False.elim z
theorem PT.nox {e:Expr} {t:TT} (h:PT X.nox e t):PT X e t:=fun pins s σ H Q I hw=>
 wpAny_mono (h pins s σ H Q (I.wish _) hw) (fun _ _ ⟨H',I',q⟩=>⟨H',I'.unwish,q⟩) fun _ _ z=>False.elim z
theorem PSs.nox {st:List Stmt} {t:TS} (h:PSs X.nox st t):PSs X st t:=fun pins s σ H D I hw=>
 wpAny_mono (h pins s σ H D (I.wish _) hw) (fun _ _ q=>q.unwish) fun _ _ z=>False.elim z
end
section
variable {X:Cx} {st:Stmt} {rest:List Stmt} {t u:TS} {e:Expr} {te:TE} {pos:Pos}
noncomputable def Hd:TS:=fun D σ H=>D.nx σ H
noncomputable def Kd (t u:TS):TS:=fun D σ H=>t { D with nx:=u D } σ H
theorem vk:PSs X [] Hd:=fun _ _ σ H _ I h=>wpAny_execs_nil ⟨σ,H,I,h⟩
theorem mZ (h1:PS X st t) (h2:PSs X rest u):PSs X (st::rest) (Kd t u):=by
 intro pins s σ H D I h
 refine wpAny_execs_cons (dl (h1 pins s σ H { D with nx:=u D } I h) fun f s1 q=>?_)
 cases f with
 | next=>
  obtain ⟨σ',H',I',q⟩:=q
  exact h2 pins s1 σ' H' D I' q
 | ret v=>exact q
 | brk=>exact q
 | cont=>exact q
theorem vj (h1:PS X st t):PSs X [st] t:=by
 intro pins s σ H D I h
 refine wpAny_execs_cons (dl (h1 pins s σ H D I h) fun f s1 q=>?_)
 cases f with
 | next=>exact wpAny_execs_nil q
 | ret v=>exact q
 | brk=>exact q
 | cont=>exact q
theorem Inv.quiet {pins:List (Addr×Obj)} {σ:St} {H:Hp} {s:Shared} (I:Inv X pins σ H s):interactive X.env=false:=by simp [interactive,I.ok.kind]
noncomputable def He (te:TE):TS:=fun D σ H=>te σ H fun _ H1=>D.nx σ H1
theorem vm (he:PE X e te) (hs:swapsWith e none pos.line X.env=pure false:=by rfl):PS X (.Expr e pos) (He te):=by
 intro pins s σ H D I h
 exact wpAny_Expr_any (dl (he pins s σ H _ I h) fun v s1 ⟨x,H1,I1,r1,q1⟩=>⟨σ,H1,I1,q1⟩) I.quiet hs
noncomputable def Ke (te:TE):TS:=fun D σ H=>te σ H D.rt
theorem EF (he:PE X e te):PS X (.Return (some e) pos) (Ke te):=by
 intro pins s σ H D I h
 exact wpAny_Return_some (dl (he pins s σ H _ I h) fun v s1 ⟨x,H1,I1,r1,q1⟩=>⟨x,σ,H1,I1,r1,q1⟩)
noncomputable def Ki (c:TT) (t u:TS):TS:=fun D σ H=>c σ H fun b H1=>if b=true then t D σ H1 else u D σ H1
theorem Dp {c:Expr} {a b:List Stmt} {tc:TT} (hc:PT X c tc) (ha:PSs X a t) (hb:PSs X b u):PS X (.If c a b pos) (Ki tc t u):=by
 intro pins s σ H D I h
 refine wpAny_If (dl (hc pins s σ H _ I h) fun d s1 ⟨H1,I1,q1⟩=>?_)
 cases d with
 | true=>exact ha pins s1 σ H1 D I1 q1
 | false=>exact hb pins s1 σ H1 D I1 q1
end
noncomputable abbrev TG:=V->St->Hp->(St->Hp->Prop)->Prop
noncomputable abbrev Ma:=List V->St->Hp->(St->Hp->Prop)->Prop
noncomputable def PG (X:Cx) (target:Expr) (t:TG):Prop:=
 ∀ (pins:List (Addr×Obj)) (s:Shared) (σ:St) (H:Hp) (v:V) (u:Value) (Q:St->Hp->Prop),Inv X pins σ H s->RelV v u->t v σ H Q ->
  wpAny (model X.prog X.w) X.A (assign target X.env u) (fun _ s'=>∃ σ' H',Inv X pins σ' H' s'/\Q σ' H') X.xe s
noncomputable def PGs (X:Cx) (ts:List Expr) (t:Ma):Prop:=
 ∀ (pins:List (Addr×Obj)) (s:Shared) (σ:St) (H:Hp) (vs:List V) (us:List Value) (Q:St->Hp->Prop),Inv X pins σ H s->Vals vs us->t vs σ H Q ->
  wpAny (model X.prog X.w) X.A (assignInOrder ((assignEach ts X.env).map (·.2)) us) (fun _ s'=>∃ σ' H',Inv X pins σ' H' s'/\Q σ' H') X.xe s
noncomputable abbrev Gu:=V->V->V->Hp->(Hp->Prop)->Prop
noncomputable def Jy (X:Cx) (t:Gu):Prop:=
 ∀ (pins:List (Addr×Obj)) (s:Shared) (σ:St) (H:Hp) (o i v:V) (ov iv u:Value) (Q:Hp->Prop),Inv X pins σ H s->RelV o ov->RelV i iv->RelV v u->t o i v H Q ->
  wpAny (model X.prog X.w) X.A (setItem ov iv u) (fun _ s'=>∃ H',Inv X pins σ H' s'/\Q H') X.xe s
section
variable {X:Cx} {pos:Pos}
noncomputable def zP (i:Nat):TG:=fun v σ H Q=>Q (σ.set i (some v)) H
theorem bZ {i:Nat} {x:Str} (hN:X.N.Nodup) (hi:X.N[i]? = some x) (hx:xA X.env.scope x) (hf:X.fn x=true\/X.env.scope.names.lookup x=some .local:=by first | exact .inl rfl | exact .inr rfl | assumption):PG X (.Name x pos) (zP i):=by
 intro pins s σ H v u Q I r h
 exact wpAny_assign_Name (rW I hN hi hx r (fun s' I'=>⟨_,H,I',h⟩) hf)
noncomputable def La (to ti:TE) (t:Gu):TG:=fun v σ H Q=>to σ H fun o H1=>ti σ H1 fun i H2=>t o i v H2 fun H3=>Q σ H3
theorem yG {o i:Expr} {to ti:TE} {t:Gu} (ho:PE X o to) (hi:PE X i ti) (hs:Jy X t)
  (ha:∀ v,assign (.Subscript o i pos) X.env v=(do
   let ov <- holding [v] (eval o X.env)
   let iv <- holding [v,ov] (eval i X.env)
   standAt pos
   holding [v,ov,iv] (setItem ov iv v)
   release [v,ov,iv] []):=by intro _; rfl):PG X (.Subscript o i pos) (La to ti t):=by
 intro pins s σ H v u Q I r h
 rw [ha]
 refine wpAny_bind (wpAny_holding (dl (ho pins s σ H _ I h) fun ov s1 ⟨x,H1,I1,r1,q1⟩=>?_))
 refine wpAny_bind (wpAny_holding (dl (hi pins s1 σ H1 _ I1 q1) fun iv s2 ⟨y,H2,I2,r2,q2⟩=>?_))
 refine wpAny_bind (wpAny_standAt (wpAny_bind (wpAny_holding (dl (hs pins s2 σ H2 x y v ov iv u _ I2 r1 r2 r q2) fun _ s3 ⟨H3,I3,q3⟩=>?_))))
 exact wpAny_release ⟨σ,H3,I3,q3⟩
noncomputable def Hh (te:TE) (g:TG):TS:=fun D σ H=>te σ H fun x H1=>g x σ H1 D.nx
theorem yB {tg e:Expr} {te:TE} {g:TG} (he:PE X e te) (hg:PG X tg g) (hs:swapsWithSole [tg] e pos.line X.env=pure false:=by rfl) (hw:swappedStores [tg] e X.env=pure none:=by rfl)
  (h1:(assignEach [tg] X.env).map (·.2)=[assign tg X.env]:=by rfl):PS X (.Assign [tg] e pos) (Hh te g):=by
 intro pins s σ H D I h
 refine wpAny_Assign_stores (dl (he pins s σ H _ I h) fun v s1 ⟨x,H1,I1,r1,q1⟩=>?_) hs hw
 rw [h1]
 exact dl (hg pins s1 σ H1 x v _ I1 r1 q1) fun _ s2 q=>q
theorem qh {i:Nat} {x:Str} {e:Expr} {te:TE} {pos':Pos} (hN:X.N.Nodup) (hi:X.N[i]? = some x) (hx:xA X.env.scope x) (he:PE X e te) (hs:swapsWith e (some (.Name x pos')) pos.line X.env=pure false:=by rfl) (hf:X.fn x=true\/X.env.scope.names.lookup x=some .local:=by first | exact .inl rfl | exact .inr rfl | assumption) :
  PS X (.Assign [.Name x pos'] e pos) (Hh te (zP i)):=by
 intro pins s σ H D I h
 refine wpAny_Assign_Name (dl (he pins s σ H _ I h) fun v s1 ⟨y,H1,I1,r1,q1⟩=>?_) hs
 exact rW I1 hN hi hx r1 (fun s2 I2=>⟨_,H1,I2,q1⟩) hf
end
section
variable {X:Cx} {pos:Pos}
end
structure It where
 go:Nat->Hp->Prop
 yld:Nat->Hp->V->Hp->Prop
 stop:Nat->Hp->Prop
noncomputable def jC (X:Cx) (pins:List (Addr×Obj)) (H:Hp) (b:Addr):Prop:=
 H b=none/\b≠X.env.locals/\b ∉ X.fs/\(b∈X.ex\/X.s₀.heap.objs.size<=b)/\(∀ x c,X.env.cells.lookup x=some c->c≠b)/\∀ p∈X.pn++pins,p.1≠b
theorem Inv.fpOk {X:Cx} {pins:List (Addr×Obj)} {σ:St} {H H':Hp} {s:Shared} {b:Addr} (I:Inv X pins σ H s) (hb:s.heap.objs.size<=b) (hn:H' b=none):jC X pins H' b:=by
 refine ⟨hn,Nat.ne_of_gt (Nat.lt_of_lt_of_le I.lt hb),I.nofs hb,.inr (Nat.le_trans I.sz hb),fun x c e z=>?_,fun p hp z=>?_⟩
 ·obtain ⟨v,q⟩:=I.cell x c e
  exact absurd (Nat.lt_of_lt_of_le q.lt (by rw [z]; exact hb)) (Nat.lt_irrefl _)
 ·exact absurd (Nat.lt_of_lt_of_le (Heap.lt_size (I.pin p hp).1) (by rw [z]; exact hb)) (Nat.lt_irrefl _)
structure TurnG (Cm:Cx->Prop) (P:Program) (w:World) (K:PySem.W.Frag) (tg:Expr) (J:It) (fp:List Addr) (it:Addr) (tn:Nat->Heap->Prop):Prop where
 mem:it∈fp
 obj:∀ i h,tn i h->∀ b∈fp,∃ o,h.get? b=some o/\∀ v,o.data≠.cell v
 keep:∀ i h h',tn i h->(∀ b∈fp,∀ o,h.get? b=some o->h'.get? b=some o)->tn i h'
 item:∀ (X:Cx),X.prog=P->X.w=w->X.K=K->Cm X->∀ (i:Nat) (pins:List (Addr×Obj)) (s:Shared) (σ:St) (H:Hp) (E:Value->Shared->Prop),Inv X pins σ H s->(∀ b∈fp,jC X pins H b)->tn i s.heap->J.go i H ->
  wpAny (model P w) X.A (pyNext (.ref it)) (fun r s1=>∃ u,r=some u /\
   wpAny (model P w) X.A (letOwnedTupleGo tg (.ref it) u) (fun _ s2=>∃ x H',Inv X pins σ H' s2/\RelV x u/\J.yld i H x H'/\tn (i+1) s2.heap/\∀ b∈fp,H' b=none) E s1) E s
 done:∀ (X:Cx),X.prog=P->X.w=w->X.K=K->Cm X->∀ (i:Nat) (pins:List (Addr×Obj)) (s:Shared) (σ:St) (H:Hp) (E:Value->Shared->Prop),Inv X pins σ H s->(∀ b∈fp,jC X pins H b)->tn i s.heap->J.stop i H ->
  wpAny (model P w) X.A (pyNext (.ref it)) (fun r s1=>r=none/\Inv X pins σ H s1) E s
 self:∀ (A:Around) (i:Nat) (s:Shared) (Q:Value->Shared->Prop) (E:Value->Shared->Prop),tn i s.heap->Q (.ref it) s->wpAny (model P w) A (pyIter (.ref it)) Q E s
noncomputable abbrev xz (P:Program) (w:World) (K:PySem.W.Frag) (tg:Expr) (J:It) (fp:List Addr) (it:Addr) (tn:Nat->Heap->Prop):Prop:=TurnG (fun X=>X.calm=true) P w K tg J fp it tn
noncomputable abbrev TI:=St->Hp->(It->Hp->Prop)->Prop
noncomputable def LD (X:Cx) (pins:List (Addr×Obj)) (σ:St) (tg:Expr) (R:It->Hp->Prop) (itv:Value) (s2:Shared):Prop:=
 ∃ (it:Addr) (fp:List Addr) (tn:Nat->Heap->Prop) (J:It) (H':Hp),itv=.ref it/\Inv X pins σ H' s2/\xz X.prog X.w X.K tg J fp it tn/\tn 0 s2.heap/\(∀ b∈fp,jC X pins H' b)/\R J H'
noncomputable def PI (X:Cx) (tg iter:Expr) (wi:TI):Prop:=
 ∀ (pins:List (Addr×Obj)) (s:Shared) (σ:St) (H:Hp) (R:It->Hp->Prop),Inv X pins σ H s->wi σ H R ->
  wpAny (model X.prog X.w) X.A (eval iter X.env) (fun v s1=>wpAny (model X.prog X.w) X.A (pyIter v) (LD X pins σ tg R) X.xe s1) X.xe s
theorem vI {M:Model} {A:Around} {E:Value->Shared->Prop} {s:Shared} {tg:Expr} {it:Addr} {u:Value} {o:Obj} {n:String} {vs:Array Value} {Q:Unit->Shared->Prop} (ho:s.heap.get? it=some o) (hc:o.cls=.type n) (hd:o.data=.fields vs)
  (hn:["enumerate","zip","dict_itemiterator","dict_reverseitemiterator","odict_iterator","itertools.zip_longest","itertools.pairwise"].contains n=false) (hQ:Q () s):wpAny M A (letOwnedTupleGo tg (.ref it) u) Q E s:=by
 unfold letOwnedTupleGo
 cases tg <;> first
  | exact wpAny_pure hQ
  | (cases u <;> first
    | exact wpAny_pure hQ
    | (refine wpAny_bind (wpAny_load ho ?_)
       rw [hc,hd]
       show wpAny M A (if (["enumerate","zip","dict_itemiterator","dict_reverseitemiterator","odict_iterator","itertools.zip_longest","itertools.pairwise"].contains n&&vs[0]? == some (rawInt _))=true then _ else _) Q E s
       rw [if_neg (by intro h; rw [hn,Bool.false_and] at h; cases h)]
       exact wpAny_pure hQ))
noncomputable def Mc (K:PySem.W.Frag) (a:Addr):It:=
 ⟨fun i H=>∃ xs x,SqL K H a xs/\xs[i]? = some x,fun i H x H'=>H'=H/\∀ xs,SqL K H a xs->xs[i]? = some x,fun i H=>∃ xs,SqL K H a xs/\xs.length<=i⟩
noncomputable def Mb (K:PySem.W.Frag) (a:Addr):It:=
 ⟨fun i H=>∃ xs x,SqT K H a xs/\xs[i]? = some x,fun i H x H'=>H'=H/\∀ xs,SqT K H a xs->xs[i]? = some x,fun i H=>∃ xs,SqT K H a xs/\xs.length<=i⟩
noncomputable def GO (lo:Int) (n:Nat):It:=⟨fun i _=>i<n,fun i H x H'=>H'=H/\x=.int (lo+i),fun i _=>n<=i⟩
theorem wj {P:Program} {w:World} {K:PySem.W.Frag} {tg:Expr} (a it:Addr):xz P w K tg (Mc K a) [it] it (fun i h=>h.IsListIter it a i) where
 mem:=by simp
 obj:=fun i h st b hb=>by
  have e:b=it:=by simpa using hb
  subst e
  obtain ⟨o,e,c,d⟩:=st
  exact ⟨o,e,fun v z=>by rw [d] at z; cases z⟩
 keep:=fun i h h' st k=>st.at fun o e=>k it (by simp) o e
 item:=by
  intro X hP hw hK hc i pins s σ H E I hf st hg
  subst hP hw hK
  obtain ⟨xs,x,hq,hx⟩:=hg
  obtain ⟨its,rv,p,hz⟩:=I.list hq
  obtain ⟨u,hu,ru⟩:=rv.get hx
  obtain ⟨f0,f1,f2,f3,f4,f5⟩:=hf it (by simp)
  refine wpAny_pyNext_list_item st p.isList (x:=u) (by simpa using hu) fun h' st' sb=>?_
  have I1:Inv X pins σ H { s with heap:=h' }:=I.turned (t':=s.toks) (fun b o hb e=>(sb.2 b hb).trans e) f0 f1 f3 f4 f5
  obtain ⟨o,e,c,d⟩:=id st'
  exact ⟨u,rfl,vI (s:={ s with heap:=h' }) e c d (by decide) ⟨x,H,I1,ru,⟨rfl,fun ys hy=>by rw [I.list_inj hy hq]; exact hx⟩,st',fun b hb=>(hf b hb).1⟩⟩
 done:=by
  intro X hP hw hK hc i pins s σ H E I hf st hg
  subst hP hw hK
  obtain ⟨xs,hq,hx⟩:=hg
  obtain ⟨its,rv,p,hz⟩:=I.list hq
  obtain ⟨f0,f1,f2,f3,f4,f5⟩:=hf it (by simp)
  have hl:=rv.length
  exact wpAny_pyNext_list_end (I.ok.hd hc) st p.isList (by simp; omega) fun h' eb=>⟨rfl,I.turned (t':=s.toks) (fun b o hb e=>eb b o hb e) f0 f1 f3 f4 f5⟩
 self:=fun _ _ _ _ _ st h=>wpAny_pyIter_listiter st h
theorem tS {P:Program} {w:World} {K:PySem.W.Frag} {tg:Expr} (a it:Addr):xz P w K tg (Mb K a) [it] it (fun i h=>h.IsTupleIter it a i) where
 mem:=by simp
 obj:=fun i h st b hb=>by
  have e:b=it:=by simpa using hb
  subst e
  obtain ⟨o,e,c,d⟩:=st
  exact ⟨o,e,fun v z=>by rw [d] at z; cases z⟩
 keep:=fun i h h' st k=>st.at fun o e=>k it (by simp) o e
 item:=by
  intro X hP hw hK hc i pins s σ H E I hf st hg
  subst hP hw hK
  obtain ⟨xs,x,hq,hx⟩:=hg
  obtain ⟨its,rv,p,hz⟩:=I.tuple hq
  obtain ⟨u,hu,ru⟩:=rv.get hx
  obtain ⟨f0,f1,f2,f3,f4,f5⟩:=hf it (by simp)
  refine wpAny_pyNext_tuple_item st (show s.heap.IsTuple a its.toArray from p) (x:=u) (by simpa using hu) fun h' st' sb=>?_
  have I1:Inv X pins σ H { s with heap:=h' }:=I.turned (t':=s.toks) (fun b o hb e=>(sb.2 b hb).trans e) f0 f1 f3 f4 f5
  obtain ⟨o,e,c,d⟩:=id st'
  exact ⟨u,rfl,vI (s:={ s with heap:=h' }) e c d (by decide) ⟨x,H,I1,ru,⟨rfl,fun ys hy=>by rw [I.tuple_inj hy hq]; exact hx⟩,st',fun b hb=>(hf b hb).1⟩⟩
 done:=by
  intro X hP hw hK hc i pins s σ H E I hf st hg
  subst hP hw hK
  obtain ⟨xs,hq,hx⟩:=hg
  obtain ⟨its,rv,p,hz⟩:=I.tuple hq
  obtain ⟨f0,f1,f2,f3,f4,f5⟩:=hf it (by simp)
  have hl:=rv.length
  exact wpAny_pyNext_tuple_end (I.ok.hd hc) st (show s.heap.IsTuple a its.toArray from p) (by simp; omega) fun h' eb=>⟨rfl,I.turned (t':=s.toks) (fun b o hb e=>eb b o hb e) f0 f1 f3 f4 f5⟩
 self:=fun _ _ _ _ _ st h=>wpAny_pyIter_tupleiter st h
theorem tT {P:Program} {w:World} {K:PySem.W.Frag} {tg:Expr} (it:Addr) (lo:Int) (n:Nat):xz P w K tg (GO lo n) [it] it (fun i h=>IsRangeIter h it (lo+(i:Nat)*1) ((n:Int)-(i:Nat)) 1) where
 mem:=by simp
 obj:=fun i h st b hb=>by
  have e:b=it:=by simpa using hb
  subst e
  exact ⟨_,st,fun v z=>by
   have z':Data.fields _=Data.cell v:=z
   cases z'⟩
 keep:=fun i h h' st k=>k it (by simp) _ st
 item:=by
  intro X hP hw hK hc i pins s σ H E I hf st hg
  subst hP hw hK
  obtain ⟨f0,f1,f2,f3,f4,f5⟩:=hf it (by simp)
  have W:=Walks.range (prog:=X.prog) (w:=X.w) (I.ok.hd hc) it lo 1 n
  refine W.item i s _ _ hg st fun v h' tk hv st' kk=>?_
  obtain ⟨t,rfl⟩:=hv
  have I1:Inv X pins σ H { s with heap:=h',toks:=tk }:=I.turned (fun b o hb e=>kk b o (by simpa using hb) e) f0 f1 f3 f4 f5
  refine ⟨_,rfl,vI (s:={ s with heap:=h',toks:=tk }) (n:="range_iterator") st' rfl rfl (by decide) ⟨.int (lo+i),H,I1,⟨t,?_⟩,⟨rfl,rfl⟩,st',fun b hb=>(hf b hb).1⟩⟩
  rw [Int.mul_one]
 done:=by
  intro X hP hw hK hc i pins s σ H E I hf st hg
  subst hP hw hK
  obtain ⟨f0,f1,f2,f3,f4,f5⟩:=hf it (by simp)
  exact wpAny_pyNext_range_end (I.ok.hd hc) st (by have:n<=i:=hg; omega) fun h' eb=>⟨rfl,I.turned (t':=s.toks) (fun b o hb e=>eb b o hb e) f0 f1 f3 f4 f5⟩
 self:=fun _ _ _ _ _ st h=>wpAny_pyIter_rangeiter st h
end L2
namespace L2
open PySem PySem.Spec PyProof.Rows
section
variable {X:Cx} {tg:Expr}
noncomputable def IZ (K:PySem.W.Frag) (tl:TE):TI:=fun σ H R=>tl σ H fun x H1=>∃ a,x=.ref a/\(∃ xs,SqL K H1 a xs)/\R (Mc K a) H1
noncomputable def K6 (K:PySem.W.Frag) (tl:TE):TI:=fun σ H R=>tl σ H fun x H1=>∃ a,x=.ref a/\(∃ xs,SqT K H1 a xs)/\R (Mb K a) H1
theorem Bt {l:Expr} {tl:TE} (hl:PE X l tl):PI X tg l (IZ X.K tl):=by
 intro pins s σ H R I h
 refine dl (hl pins s σ H _ I h) fun v s1 ⟨x,H1,I1,r1,q1⟩=>?_
 obtain ⟨a,e,⟨xs,hq⟩,q⟩:=q1
 subst e
 cases r1
 obtain ⟨its,rv,p,hz⟩:=I1.list hq
 refine wpAny_pyIter_list p.isList ?_
 refine ⟨s1.heap.objs.size,[s1.heap.objs.size],_,_,H1,rfl,I1.kept (t':=s1.toks) fun b o e=>Heap.get?_push_of_some _ e,wj a _,⟨_,Heap.get?_push_size _ rfl,rfl,rfl⟩,fun b hb=>?_,q⟩
 have e:b=s1.heap.objs.size:=by simpa using hb
 subst e
 exact I1.fpOk (Nat.le_refl _) (I1.hok.fresh (Nat.le_refl _))
theorem EH {l:Expr} {tl:TE} (hl:PE X l tl):PI X tg l (K6 X.K tl):=by
 intro pins s σ H R I h
 refine dl (hl pins s σ H _ I h) fun v s1 ⟨x,H1,I1,r1,q1⟩=>?_
 obtain ⟨a,e,⟨xs,hq⟩,q⟩:=q1
 subst e
 cases r1
 obtain ⟨its,rv,p,hz⟩:=I1.tuple hq
 refine wpAny_pyIter_tuple (show s1.heap.IsTuple a its.toArray from p) ?_
 refine ⟨s1.heap.objs.size,[s1.heap.objs.size],_,_,H1,rfl,I1.kept (t':=s1.toks) fun b o e=>Heap.get?_push_of_some _ e,tS a _,⟨_,Heap.get?_push_size _ rfl,rfl,rfl⟩,fun b hb=>?_,q⟩
 have e:b=s1.heap.objs.size:=by simpa using hb
 subst e
 exact I1.fpOk (Nat.le_refl _) (I1.hok.fresh (Nat.le_refl _))
theorem yz {pins:List (Addr×Obj)} {σ:St} {H:Hp} {s:Shared} {R:It->Hp->Prop} {E:Value->Shared->Prop} {lo hi:Int} {t u v:Tok} {tk:Nat} (I:Inv X pins σ H s) (h1:-(2 ^ 62)<=lo) (h2:lo<2 ^ 62) (h3:-(2 ^ 62)<=hi) (h4:hi<2 ^ 62)
  (q:R (GO lo (hi-lo).toNat) H):wpAny (model X.prog X.w) X.A (pyIter (.ref s.heap.objs.size)) (LD X pins σ tg R) E { s with heap:=s.heap.push { cls:=.type "range",data:=.fields #[.int lo t,.int hi u,.int 1 v] },toks:=tk }:=by
 refine wpAny_pyIter_range (IsRange.new ..) (small_one h1 h2 h3 h4) ?_
 have I1:Inv X pins σ H { s with heap:=s.heap.push { cls:=.type "range",data:=.fields #[.int lo t,.int hi u,.int 1 v] },toks:=tk }:=I.kept fun b o e=>Heap.get?_push_of_some _ e
 refine ⟨(s.heap.push { cls:=.type "range",data:=.fields #[.int lo t,.int hi u,.int 1 v] }).objs.size,[(s.heap.push { cls:=.type "range",data:=.fields #[.int lo t,.int hi u,.int 1 v] }).objs.size],_,_,H,rfl,
  I1.kept (t':=tk) fun b o e=>Heap.get?_push_of_some _ e,tT _ lo (hi-lo).toNat,?_,fun b hb=>?_,q⟩
 ·have e1:lo+((0:Nat):Int)*1=lo:=by simp
  have e2:(((hi-lo).toNat:Nat):Int)-((0:Nat):Int)=Builtin.Range.rangeSize lo hi 1:=by rw [rangeSize_one]; split <;> omega
  show IsRangeIter _ _ (lo+((0:Nat):Int)*1) ((((hi-lo).toNat:Nat):Int)-((0:Nat):Int)) 1
  rw [e1,e2]
  exact Heap.get?_push_size _ rfl
 ·have e:b=(s.heap.push { cls:=.type "range",data:=.fields #[.int lo t,.int hi u,.int 1 v] }).objs.size:=by simpa using hb
  subst e
  exact I1.fpOk (Nat.le_refl _) (I1.hok.fresh (Nat.le_refl _))
noncomputable def IY (ta:TA):TI:=fun σ H R=>ta σ H fun vs H1=>∃ j:Int,vs=[.int j] /\ -(2 ^ 62)<=j/\j<2 ^ 62/\R (GO 0 j.toNat) H1
theorem wF {a:Expr} {ta:TA} {p pos:Pos} (hg:Gl X "range") (hm:X.mg "range" = none) (ha:PA X [a] ta) (hs:starEach [a] X.env=[(false,eval a X.env)]:=by rfl):PI X tg (.Call (.Name "range" p) [a] [] pos) (IY ta):=by
 intro pins s σ H R I h
 refine Call_ (nE I hg hm boot_range (PyProof.Rows.callWith_type1 (dl (ha pos pins s σ H _ I h) fun us s1 ⟨vs,H1,I1,r1,q1⟩=>?_) hs rfl))
 obtain ⟨j,e,q1,q2,q⟩:=q1
 subst e
 cases r1 with
 | cons r rr=>
  cases rr
  obtain ⟨t,rfl⟩:=r
  exact call_range_1 (yz I1 (by omega) (by omega) q1 q2 (by simpa using q))
noncomputable def Kj (wi:TI) (g:TG) (tb:TS):TS:=fun D σ H=>wi σ H fun J H1=>∃ W:Nat->Nat->St->Hp->Prop,(∃ m,W 0 m σ H1)/\∀ i m σ H,W i m σ H ->
 (J.stop i H/\D.nx σ H)\/(J.go i H/\∃ N:St->Hp->Prop,(∀ σ' H',N σ' H'->∃ m',m'<m/\W (i+1) m' σ' H')/\∀ x H',J.yld i H x H'->g x σ H' fun σ2 H2=>tb { D with nx:=N,ct:=N,bk:=D.nx } σ2 H2)
noncomputable def qi (fp:List Addr) (h:Heap):List (Addr×Obj):=fp.filterMap fun b=>(h.get? b).map fun o=>(b,o)
theorem dB {fp:List Addr} {h:Heap} {b:Addr} {o:Obj} (hb:b∈fp) (e:h.get? b=some o):(b,o)∈qi fp h:=List.mem_filterMap.mpr ⟨b,hb,by rw [e]; rfl⟩
theorem wL {fp:List Addr} {h:Heap} {p:Addr×Obj} (hp:p∈qi fp h):p.1∈fp/\h.get? p.1=some p.2:=by
 obtain ⟨b,hb,e⟩:=List.mem_filterMap.mp hp
 cases q:h.get? b with
 | none=>rw [q] at e; cases e
 | some o=>
  rw [q] at e
  have e':(b,o)=p:=Option.some.inj e
  subst e'
  exact ⟨hb,q⟩
theorem Inv.pinned {pins:List (Addr×Obj)} {σ:St} {H:Hp} {s:Shared} {fp:List Addr} (I:Inv X pins σ H s) (hf:∀ b∈fp,jC X pins H b) (ho:∀ b∈fp,∃ o,s.heap.get? b=some o/\∀ v,o.data≠.cell v):Inv X (pins++qi fp s.heap) σ H s:=
 I.pins_of fun p hp=>(List.mem_append.mp hp).elim (fun z=>I.pin p (List.mem_append_right _ z)) fun z=>by
  obtain ⟨hb,e⟩:=wL z
  obtain ⟨f0,f1,f2,_⟩:=hf p.1 hb
  obtain ⟨o,e',d⟩:=ho p.1 hb
  rw [e] at e'; cases e'
  exact ⟨e,f0,f1,f2,d⟩
theorem Inv.unpinned {pins pl:List (Addr×Obj)} {σ:St} {H:Hp} {s:Shared} (I:Inv X (pins++pl) σ H s):Inv X pins σ H s:=I.pins_of fun p hp=>I.pin p (List.mem_append_right _ (List.mem_append_left _ hp))
theorem EG {iter:Expr} {body:List Stmt} {wi:TI} {g:TG} {tb:TS} {pos:Pos} (hp:PassesOwn (model X.prog X.w) X.A X.env X.xe) (hc:X.calm=true) (hi:PI X tg iter wi) (hg:PG X tg g) (hb:PSs X body tb)
  (hs:∀ x,foldedSetIterable iter X.env x=pure x:=by intro _; rfl):PS X (.For tg iter body [] pos) (Kj wi g tb):=by
 intro pins s σ H D I h
 refine wpAny_For (dl (hi pins s σ H _ I h) fun v s1 h1=>dl h1 fun itv s2 h2=>?_) hs
 obtain ⟨it,fp,tn,J,H2,e,I2,T,st2,f2,W,⟨m0,w0⟩,turn⟩:=h2
 subst e
 have stat:∀ {H':Hp},(∀ b∈fp,H' b=none)->∀ b∈fp,jC X pins H' b:=fun hn b hb=>⟨hn b hb,(f2 b hb).2⟩
 refine codeAny_forLoop_any (fun n s'=>∃ i σ' H',Inv X pins σ' H' s'/\tn i s'.heap/\(∀ b∈fp,H' b=none)/\W i n σ' H') ?_ m0 ⟨0,σ,H2,I2,st2,fun b hb=>(f2 b hb).1,w0⟩
 rintro n s3 ⟨i,σ3,H3,I3,st3,fr3,w3⟩
 rcases turn i n σ3 H3 w3 with ⟨stop,qn⟩ | ⟨go,N,hN,step⟩
 ·refine wpAny_passesOwn hp (dl (T.done X rfl rfl rfl hc i pins s3 σ3 H3 X.xe I3 (stat fr3) st3 stop) fun r s4 ⟨hr,I4⟩=>?_)
  subst hr
  exact wpAny_execs_nil ⟨σ3,H3,I4,qn⟩
 ·refine wpAny_passesOwn hp (dl (T.item X rfl rfl rfl hc i pins s3 σ3 H3 X.xe I3 (stat fr3) st3 go) fun r s4 ⟨u,hr,h4⟩=>?_)
  subst hr
  refine wpAny_passesOwn hp (dl h4 fun _ s5 ⟨x,H5,I5,r5,y5,st5,fr5⟩=>?_)
  have I5':=I5.pinned (stat fr5) (T.obj _ _ st5)
  refine wpAny_passesOwn hp (dl (hg _ s5 σ3 H5 x u _ I5' r5 (step x H5 y5)) fun _ s6 ⟨σ6,H6,I6,q6⟩=>?_)
  refine wpAny_passesOwn hp (dl (hb _ s6 σ6 H6 _ I6 q6) fun f s7 q7=>?_)
  have again:∀ {σ7:St} {H7:Hp},Inv X (pins++qi fp s5.heap) σ7 H7 s7->N σ7 H7->∃ m,m<n/\∃ i σ' H',Inv X pins σ' H' s7/\tn i s7.heap/\(∀ b∈fp,H' b=none)/\W i m σ' H':=fun {σ7 H7} I7 n7=>by
   obtain ⟨m',hm,w7⟩:=hN σ7 H7 n7
   refine ⟨m',hm,i+1,σ7,H7,I7.unpinned,T.keep _ _ _ st5 fun b hb o e=>(I7.pin (b,o) (List.mem_append_right _ (List.mem_append_right _ (dB hb e)))).1,fun b hb=>?_,w7⟩
   obtain ⟨o,e,d⟩:=T.obj _ _ st5 b hb
   exact (I7.pin (b,o) (List.mem_append_right _ (List.mem_append_right _ (dB hb e)))).2.1
  cases f with
  | next=>obtain ⟨σ7,H7,I7,n7⟩:=q7; exact again I7 n7
  | cont=>obtain ⟨σ7,H7,I7,n7⟩:=q7; exact again I7 n7
  | brk=>obtain ⟨σ7,H7,I7,q7⟩:=q7; exact ⟨σ7,H7,I7.unpinned,q7⟩
  | ret v=>obtain ⟨x7,σ7,H7,I7,r7,q7⟩:=q7; exact ⟨x7,σ7,H7,I7.unpinned,r7,q7⟩
end
end L2
namespace L2
open PySem PySem.Spec PyProof.Rows
noncomputable abbrev R2:=V->V->Hp->VK->Prop
noncomputable def OpR (X:Cx) (f:Value->Value->Sem Value) (r:R2):Prop:=
 ∀ (pins:List (Addr×Obj)) (s:Shared) (σ:St) (H:Hp) (x y:V) (v u:Value) (Q:VK),Inv X pins σ H s->RelV x v->RelV y u->r x y H Q ->
  wpAny (model X.prog X.w) X.A (f v u) (EP X pins σ Q) X.xe s
noncomputable def Ju (X:Cx) (f:Value->Sem Value) (r:V->Hp->VK->Prop):Prop:=
 ∀ (pins:List (Addr×Obj)) (s:Shared) (σ:St) (H:Hp) (x:V) (v:Value) (Q:VK),Inv X pins σ H s->RelV x v->r x H Q ->
  wpAny (model X.prog X.w) X.A (f v) (EP X pins σ Q) X.xe s
noncomputable def CallR (X:Cx) (f:Value) (r:List V->Hp->VK->Prop):Prop:=
 ∀ (pins:List (Addr×Obj)) (s:Shared) (σ:St) (H:Hp) (xs:List V) (us:List Value) (Q:VK),Inv X pins σ H s->Vals xs us->r xs H Q ->
  wpAny (model X.prog X.w) X.A (call f us) (EP X pins σ Q) X.xe s
noncomputable def Hb (r:R2) (ta tb:TE):TE:=fun σ H Q=>ta σ H fun x H1=>tb σ H1 fun y H2=>r x y H2 Q
noncomputable def Mi (r:V->Hp->VK->Prop) (ta:TE):TE:=fun σ H Q=>ta σ H fun x H1=>r x H1 Q
noncomputable def rI (C:Int->Int->Prop) (g:Int->Int->V):R2:=fun x y H Q=>∃ i j,x=.int i/\y=.int j/\C i j/\Q (g i j) H
noncomputable def xD (g:Int->Int->V):R2:=fun x y H Q=>∃ i j,x=.int i/\y=.int j/\Q (g i j) H
noncomputable def rU (g:Int->V):V->Hp->VK->Prop:=fun x H Q=>∃ i,x=.int i/\Q (g i) H
section
variable {X:Cx} {a b c:Expr} {ta tb tc:TE} {pos:Pos}
theorem Gk (ha:PE X a ta) (hb:PE X b tb) {pins:List (Addr×Obj)} {s:Shared} {σ:St} {H:Hp} {R:V->V->Hp->Prop} (I:Inv X pins σ H s)
  (h:ta σ H fun x H1=>tb σ H1 fun y H2=>R x y H2) {Q:Value->Shared->Prop} {f:Value->Value->Sem Value}
  (hf:∀ v u s2 x y H2,Inv X pins σ H2 s2->RelV x v->RelV y u->R x y H2->wpAny (model X.prog X.w) X.A (f v u) Q X.xe s2) :
  wpAny (model X.prog X.w) X.A (eval a X.env) (fun v s₁=>wpAny (model X.prog X.w) X.A (eval b X.env) (fun u s₂=>wpAny (model X.prog X.w) X.A (f v u) Q X.xe s₂) X.xe s₁) X.xe s:=by
 refine dl (ha pins s σ H _ I h) fun v s1 ⟨x,H1,I1,r1,q1⟩=>?_
 refine dl (hb pins s1 σ H1 _ I1 q1) fun u s2 ⟨y,H2,I2,r2,q2⟩=>?_
 exact hf v u s2 x y H2 I2 r1 r2 q2
theorem Dq {op:Operator} {r:R2} (ho:OpR X (binaryOp op) r) (ha:PE X a ta) (hb:PE X b tb):PE X (.BinOp a op b pos) (Hb r ta tb):=by
 intro pins s σ H Q I h
 exact wpAny_BinOp (Gk ha hb I h fun v u s2 x y H2 I2 rx ry q=>ho pins s2 σ H2 x y v u Q I2 rx ry q)
theorem HK {op:UnaryOp} {r:V->Hp->VK->Prop} (ho:Ju X (unaryOp op) r) (ha:PE X a ta):PE X (.UnaryOp op a pos) (Mi r ta):=by
 intro pins s σ H Q I h
 exact UnaryOp_ (dl (ha pins s σ H _ I h) fun v s1 ⟨x,H1,I1,r1,q1⟩=>ho pins s1 σ H1 x v Q I1 r1 q1)
theorem HU {f:Value->Value->Sem Value} {C:Int->Int->Prop} {g:Int->Int->Int}
  (rule:∀ (i j:Int) (t u:Tok) (s:Shared) (Q:Value->Shared->Prop) (E:Value->Shared->Prop),C i j->Q (.int (g i j) s.toks) { s with toks:=s.toks+1 }->wpAny (model X.prog X.w) X.A (f (.int i t) (.int j u)) Q E s) :
  OpR X f (rI C fun i j=>.int (g i j)):=by
 intro pins s σ H x y v u Q I rx ry h
 obtain ⟨i,j,rfl,rfl,hc,q⟩:=h
 obtain ⟨t,rfl⟩:=rx
 obtain ⟨t',rfl⟩:=ry
 exact rule i j t t' s _ _ hc ⟨.int (g i j),H,I.tok _,⟨_,rfl⟩,q⟩
theorem yQ {f:Value->Value->Sem Value} {g:Int->Int->Int}
  (rule:∀ (i j:Int) (t u:Tok) (s:Shared) (Q:Value->Shared->Prop) (E:Value->Shared->Prop),Q (.int (g i j) s.toks) { s with toks:=s.toks+1 }->wpAny (model X.prog X.w) X.A (f (.int i t) (.int j u)) Q E s) :
  OpR X f (xD fun i j=>.int (g i j)):=by
 intro pins s σ H x y v u Q I rx ry h
 obtain ⟨i,j,rfl,rfl,q⟩:=h
 obtain ⟨t,rfl⟩:=rx
 obtain ⟨t',rfl⟩:=ry
 exact rule i j t t' s _ _ ⟨.int (g i j),H,I.tok _,⟨_,rfl⟩,q⟩
theorem E2 {f:Value->Value->Sem Value} {g:Int->Int->Bool}
  (rule:∀ (i j:Int) (t u:Tok) (s:Shared) (Q:Value->Shared->Prop) (E:Value->Shared->Prop),Q (.bool (g i j)) s->wpAny (model X.prog X.w) X.A (f (.int i t) (.int j u)) Q E s) :
  OpR X f (xD fun i j=>.bl (g i j)):=by
 intro pins s σ H x y v u Q I rx ry h
 obtain ⟨i,j,rfl,rfl,q⟩:=h
 obtain ⟨t,rfl⟩:=rx
 obtain ⟨t',rfl⟩:=ry
 exact rule i j t t' s _ _ ⟨.bl (g i j),H,I,rfl,q⟩
noncomputable def LG (i j:Int):Prop:=0<j/\j<1073741824
noncomputable def CMul (i j:Int):Prop:=(-(2 ^ 64)<i/\i<2 ^ 64)\/(-(2 ^ 64)<j/\j<2 ^ 64)
theorem CMul.ok {i j:Int} (h:CMul i j):IntMulOk i j:=by
 rcases h with ⟨h1,h2⟩ | ⟨h1,h2⟩
 ·exact .of_left (intBits_le_64 h1 h2)
 ·exact .of_right (intBits_le_64 h1 h2)
theorem tQ (k:Nat):(0:Int)<=2 ^ k:=by
 rw [two_pow_cast]
 exact Int.natCast_nonneg _
theorem E1:OpR X (binaryOp .Add) (xD fun i j=>.int (i+j)):=yQ fun _ _ _ _ _ _ _ q=>add_int q
theorem EW:OpR X (binaryOp .Sub) (xD fun i j=>.int (i-j)):=yQ fun _ _ _ _ _ _ _ q=>sub_int q
theorem BA:OpR X (binaryOp .FloorDiv) (rI LG fun i j=>.int (i / j)):=HU fun i j _ _ _ _ _ hc q=>by
 have h1:(0:Int)<j:=hc.1
 have h2:j<1073741824:=hc.2
 exact floordiv_int (by omega) (by rw [Int.fdiv_eq_ediv_of_nonneg i (by omega)]; exact q) (.inl (PyProof.noPylong_small (by omega)))
theorem EY:OpR X (binaryOp .Mod) (rI (fun _ j=>0<j) fun i j=>.int (i % j)):=HU fun i j _ _ _ _ _ hc q=>by
 have h1:(0:Int)<j:=hc
 exact mod_int' (by omega) (by rw [Int.fmod_eq_emod_of_nonneg i (by omega)]; exact q)
theorem EX:OpR X (binaryOp .RShift) (rI (fun _ j=>0<=j) fun i j=>.int (i / 2 ^ j.toNat)):=HU fun i j _ _ _ _ _ hc q=>
 rshift_int hc (by rw [Int.fdiv_eq_ediv_of_nonneg i (tQ _)]; exact q)
theorem EZ:OpR X (binaryOp .BitAnd) (xD fun i j=>.int (Builtin.bitAnd i j)):=yQ fun _ _ _ _ _ _ _ q=>and_int q
theorem HN:OpR X (binaryOp .BitOr) (xD fun i j=>.int (Builtin.bitOr i j)):=yQ fun _ _ _ _ _ _ _ q=>or_int q
theorem EU:OpR X (binaryOp .BitXor) (xD fun i j=>.int (Builtin.bitXor i j)):=yQ fun _ _ _ _ _ _ _ q=>xor_int q
theorem Md {f:Value->Sem Value} {g:Int->Int}
  (rule:∀ (i:Int) (t:Tok) (s:Shared) (Q:Value->Shared->Prop) (E:Value->Shared->Prop),Q (.int (g i) s.toks) { s with toks:=s.toks+1 }->wpAny (model X.prog X.w) X.A (f (.int i t)) Q E s) :
  Ju X f (rU fun i=>.int (g i)):=by
 intro pins s σ H x v Q I rx h
 obtain ⟨i,rfl,q⟩:=h
 obtain ⟨t,rfl⟩:=rx
 exact rule i t s _ _ ⟨.int (g i),H,I.tok _,⟨_,rfl⟩,q⟩
theorem DV:Ju X (unaryOp .USub) (rU fun i=>.int (-i)):=Md fun _ _ _ _ _ q=>neg_int q
end
section
variable {X:Cx} {a b c:Expr} {ta tb tc:TE} {pos:Pos}
theorem zR {pins:List (Addr×Obj)} {σ:St} {H:Hp} {s:Shared} {Q:VK} {k k':Bool} (I:Inv X pins σ H s) (q:Q (.bl k) H) (e:k=k'):EP X pins σ Q (.bool k') s:=by
 subst e
 exact ⟨.bl k,H,I,rfl,q⟩
theorem HQ:OpR X (compareOp .Lt) (xD fun i j=>.bl (decide (i<j))):=E2 fun _ _ _ _ _ _ _ q=>lt_int q
theorem HR:OpR X (compareOp .LtE) (xD fun i j=>.bl (decide (i<=j))):=E2 fun _ _ _ _ _ _ _ q=>le_int q
theorem HS:OpR X (compareOp .Gt) (xD fun i j=>.bl (decide (j<i))):=E2 fun _ _ _ _ _ _ _ q=>gt_int q
theorem Bz:OpR X (compareOp .IsNot) (fun x y H Q=>y=.non/\Q (.bl (!decide (x=.non))) H):=by
 intro pins s σ H x y v u Q I rx ry h
 obtain ⟨rfl,q⟩:=h
 cases ry
 refine isnot_none_gen (zR I q ?_)
 cases x <;> first
  | (cases rx; rfl)
  | (obtain ⟨t,rfl⟩:=rx; rfl)
theorem OpR.or {f:Value->Value->Sem Value} {r r':R2} (h:OpR X f r) (h':OpR X f r'):OpR X f (fun x y H Q=>r x y H Q\/r' x y H Q):=by
 intro pins s σ H x y v u Q I rx ry q
 rcases q with q | q
 ·exact h pins s σ H x y v u Q I rx ry q
 ·exact h' pins s σ H x y v u Q I rx ry q
theorem aA (b:Expr) {op:CmpOp} (h:op≠.In:=by decide) (h2:op≠.NotIn:=by decide):behindInMarks op b=false:=by
 have e1:(op==CmpOp.In)=false:=by cases op <;> first | rfl | exact absurd rfl h
 have e2:(op==CmpOp.NotIn)=false:=by cases op <;> first | rfl | exact absurd rfl h2
 cases b <;> simp [behindInMarks,e1,e2]
theorem Bw {op:CmpOp} {r:R2} (ho:OpR X (compareOp op) r) (ha:PE X a ta) (hb:PE X b tb) (hm:behindInMarks op b=false):PE X (.Compare a [op] [b] pos) (Hb r ta tb):=by
 intro pins s σ H Q I h
 exact wpAny_Compare1 (Gk ha hb I h fun v u s2 x y H2 I2 rx ry q=>ho pins s2 σ H2 x y v u Q I2 rx ry q) hm
noncomputable def G9 (t:TE):TT:=fun σ H Q=>t σ H fun x H'=>∃ k,x=.bl k/\Q k H'
theorem Bo {op:CmpOp} {r:R2} (ho:OpR X (compareOp op) r) (ha:PE X a ta) (hb:PE X b tb) (hm:behindInMarks op b=false):PT X (.Compare a [op] [b] pos) (G9 (Hb r ta tb)):=by
 intro pins s σ H Q I h
 refine wpAny_isTrue_Compare1 (dl (ha pins s σ H _ I h) fun v s1 ⟨x,H1,I1,r1,q1⟩=>dl (hb pins s1 σ H1 _ I1 q1) fun u s2 ⟨y,H2,I2,r2,q2⟩=>
  dl (ho pins s2 σ H2 x y v u _ I2 r1 r2 q2) fun c s3 ⟨z,H3,I3,r3,k,e,q3⟩=>?_) hm
 subst e
 cases r3
 exact wpAny_truthy_bool ⟨H3,I3,q3⟩
noncomputable def xU (r r':R2) (ta tb tc:TE):TE:=fun σ H Q=>ta σ H fun x H1=>tb σ H1 fun y H2=>r x y H2 fun z H3=>∃ k,z=.bl k /\
 (if k=true then tc σ H3 fun w' H4=>r' y w' H4 Q else Q (.bl false) H3)
theorem yN {op op':CmpOp} {r r':R2} (ho:OpR X (compareOp op) r) (ho':OpR X (compareOp op') r') (ha:PE X a ta) (hb:PE X b tb) (hc:PE X c tc)
  (hm:lastMarks [op,op'] [b,c]=false:=by with_unfolding_all rfl):PE X (.Compare a [op,op'] [b,c] pos) (xU r r' ta tb tc):=by
 intro pins s σ H Q I h
 refine Compare_chain (dl (ha pins s σ H _ I h) fun v s1 ⟨x,H1,I1,r1,q1⟩=>chain_link (dl (hb pins s1 σ H1 _ I1 q1) fun u s2 ⟨y,H2,I2,r2,q2⟩=>
  dl (ho pins s2 σ H2 x y v u _ I2 r1 r2 q2) fun d s3 ⟨z,H3,I3,r3,k,e,q3⟩=>?_)) hm
 subst e
 cases r3
 refine wpAny_truthy_bool ?_
 cases k with
 | false=>exact ite_ff ⟨.bl false,H3,I3,rfl,q3⟩
 | true=>exact ite_tt (chain_last (dl (hc pins s3 σ H3 _ I3 q3) fun w' s4 ⟨z',H4,I4,r4,q4⟩=>ho' pins s4 σ H4 y z' u w' Q I4 r2 r4 q4))
theorem qB:(sizeLine:Nat)<2 ^ 63:=by rw [sizeLine_eq]; decide
theorem uf:OpR X (binaryOp .Add) (fun x y H Q=>∃ i j,x=.str i/\y=.str j/\i.length+j.length<=sizeLine/\Q (.str (i++j)) H):=by
 intro pins s σ H x y v u Q I rx ry h
 obtain ⟨i,j,rfl,rfl,hz,q⟩:=h
 obtain ⟨t,rfl⟩:=rx
 obtain ⟨t',rfl⟩:=ry
 exact add_str (fun t' tk=>⟨.str (i++j),H,I.tok _,⟨_,rfl⟩,q⟩) hz
theorem o5 {x:V} {us:List Value} (r:Vals [x] us):∃ u,us=[u]/\RelV x u:=by
 cases r with
 | cons r1 r2=>cases r2; exact ⟨_,rfl,r1⟩
theorem xL {x y:V} {us:List Value} (r:Vals [x,y] us):∃ u w',us=[u,w']/\RelV x u/\RelV y w':=by
 cases r with
 | cons r1 r2=>
  cases r2 with
  | cons r3 r4=>cases r4; exact ⟨_,_,rfl,r1,r3⟩
theorem xq (hc:X.calm=true):CallR X (.builtin "max") (fun xs H Q=>∃ i j,xs=[.int i,.int j]/\Q (.int (if j>i then j else i)) H):=by
 intro pins s σ H xs us Q I r h
 obtain ⟨i,j,rfl,q⟩:=h
 obtain ⟨u,w',rfl,⟨t,rfl⟩,⟨t',rfl⟩⟩:=xL r
 refine max_two_ints (I.ok.hd hc) fun h' tk k=>⟨_,H,I.kept k,?_,q⟩
 by_cases hj:j>i
 ·rw [if_pos hj,if_pos hj]; exact ⟨_,rfl⟩
 ·rw [if_neg hj,if_neg hj]; exact ⟨_,rfl⟩
theorem xp (hc:X.calm=true):CallR X (.builtin "min") (fun xs H Q=>∃ i j,xs=[.int i,.int j]/\Q (.int (if j<i then j else i)) H):=by
 intro pins s σ H xs us Q I r h
 obtain ⟨i,j,rfl,q⟩:=h
 obtain ⟨u,w',rfl,⟨t,rfl⟩,⟨t',rfl⟩⟩:=xL r
 refine min_two_ints (I.ok.hd hc) fun h' tk k=>⟨_,H,I.kept k,?_,q⟩
 by_cases hj:j<i
 ·rw [if_pos hj,if_pos hj]; exact ⟨_,rfl⟩
 ·rw [if_neg hj,if_neg hj]; exact ⟨_,rfl⟩
noncomputable def LF (K:PySem.W.Frag) (x:V) (H:Hp) (n:Nat):Prop:=
 match x with
 | .str y=>y.length<=sizeLine/\n=y.length
 | .byt y=>y.size<=sizeLine/\n=y.size
 | .ref p=>(∃ xs,SqL K H p xs/\n=xs.length)\/∃ xs,SqT K H p xs/\n=xs.length
 | _=>False
theorem sV:CallR X (.builtin "len") (fun xs H Q=>∃ x n,xs=[x]/\LF X.K x H n/\Q (.int n) H):=by
 intro pins s σ H xs us Q I r h
 obtain ⟨x,n,rfl,e,q⟩:=h
 obtain ⟨u,rfl,rx⟩:=o5 r
 have hl:=qB
 have hs:sizeLine=16777216:=sizeLine_eq
 cases x with
 | str y=>
  obtain ⟨t,rfl⟩:=rx
  obtain ⟨hy,e'⟩:y.length<=sizeLine/\n=y.length:=e
  subst e'
  exact len_str (by omega) ⟨.int _,H,I.tok _,⟨_,rfl⟩,q⟩
 | byt y=>
  obtain ⟨t,rfl⟩:=rx
  obtain ⟨hy,e'⟩:y.size<=sizeLine/\n=y.size:=e
  subst e'
  exact PySem.W.len_bytes (by omega) ⟨.int _,H,I.tok _,⟨_,rfl⟩,q⟩
 | ref p=>
  cases rx
  have e':(∃ xs,SqL X.K H p xs/\n=xs.length)\/∃ xs,SqT X.K H p xs/\n=xs.length:=e
  rcases e' with ⟨xs,hx,e'⟩ | ⟨xs,hx,e'⟩
  ·subst e'
   obtain ⟨its,r',pl,hz⟩:=I.list hx
   have hlen:=r'.length
   exact Calls.call_len_list pl.isList (by simp only [List.size_toArray]; omega) ⟨.int xs.length,H,I.tok _,⟨_,by simp only [List.size_toArray]; rw [hlen]⟩,q⟩
  ·subst e'
   obtain ⟨its,r',pl,hz⟩:=I.tuple hx
   have hlen:=r'.length
   exact len_tuple pl (by simp only [List.size_toArray]; omega) ⟨.int xs.length,H,I.tok _,⟨_,by simp only [List.size_toArray]; rw [hlen]⟩,q⟩
 | _=>exact (show False from e).elim
end
end L2
namespace L2
open PySem PySem.Spec PyProof.Rows
structure ObjM (h:Heap) (x dx C:Addr) (mA:Str->Option Value):Prop where
 obj:h.get? x=some (PySem.W.instObj C dx)
 ns:h.Ns1 dx mA
 ne:dx≠x
theorem wW {h:Heap} {dx:Addr} {mA:Str->Option Value} (n:h.Ns1 dx mA):∃ od,h.get? dx=some od/\∀ name,PySem.W.lookIn name od=some (mA name):=by
 obtain ⟨o,es,ep,ho,hd,hk,_,hm⟩:=n
 refine ⟨o,ho,fun name=>?_⟩
 have e:=hm name
 unfold nsFind findBy at e
 rw [<- Array.find?_toList] at e
 unfold PySem.W.lookIn
 rw [hd]
 dsimp only
 split
 ·rename_i y q
  rw [q] at e
  exact congrArg some e
 ·rename_i q
  rw [q] at e
  have a:es.toList.any (·.refKey)=false:=by
   rw [List.any_eq_false]
   intro y hy
   obtain ⟨z,t,hkey⟩:=hk y (Array.mem_toList_iff.mp hy)
   simp [DictEntry.refKey,hkey]
  have a':¬ es.toList.any (·.refKey)=true:=by rw [a]; exact Bool.false_ne_true
  rw [if_neg a']
  exact congrArg some e
theorem ObjM.look {h:Heap} {x dx C:Addr} {mA:Str->Option Value} (I:ObjM h x dx C mA):∃ od,PySem.W.InstAt h x (PySem.W.instObj C dx) C (some od)/\∀ name,PySem.W.lookIn name od=some (mA name):=
 let ⟨od,ho,hl⟩:=wW I.ns
 ⟨od,⟨I.obj,rfl,rfl,ho⟩,hl⟩
section
variable {prog:Program} {w:World} {A:Around} {E:Value->Shared->Prop} {s:Shared} {K:PySem.W.Frag} {x dx C f:Addr} {mA:Str->Option Value} {name:Str} {v:Value}
end
noncomputable def putF (f:Str) (v:V):List (Str×V)->List (Str×V)
 | []=>[(f,v)]
 | (g,x)::r=>if g=f then (g,v)::r else (g,x)::putF f v r
section
variable {P:Program} {w:World} {H H':Hp} {h h':Heap} {a C dx:Addr} {fs fs':List (Str×V)}
theorem CC (hok:HOk P w H h) (e:H a=some (.ins C dx fs)):∃ mA,ObjM h a dx C mA/\(∀ f,RelO (fs.lookup f) (mA f))/\PySem.Within mA (fs.map (·.1))/\fs.length<=1000/\H dx=some (.own a):=by
 obtain ⟨d,z,ne,ob,mA,n,r,q⟩:=(show ObjOk P w H h a (.ins C dx fs) from hok a _ e)
 exact ⟨mA,⟨ob,n,ne⟩,r,q,z,d⟩
end
structure Cls (K:PySem.W.Frag) (C:Addr):Prop where
 pg:PySem.W.plainGet K C Str.empty=true
 hd:PySem.W.hasDictIn K C=true
 po:PySem.W.plainOver K C=true
 sa:PySem.W.findIn K (.ref C) "__setattr__" = some (some (.builtin "object.__setattr__"))
theorem Cls.get {K:PySem.W.Frag} {C:Addr} (c:Cls K C) (f:Str):PySem.W.plainGet K C f=true:=c.pg
structure Con (K:PySem.W.Frag) (C:Addr) (f:Str) (v:V) (u:Value):Prop where
 at_:PySem.W.findIn K (.ref C) f=some (some u)
 rel:RelV v u
 get:PySem.W.specialIn K u "__get__" = some none
 cp:PySem.W.copiedNames.contains f=false
structure Meth (K:PySem.W.Frag) (C:Addr) (m:Str) (f:Addr):Prop where
 at_:PySem.W.findIn K (.ref C) m=some (some (.ref f))
 fn:PySem.W.isFn K (.ref f)=true
 kp:PySem.W.keepIn K (.ref f)=true
section
variable {X:Cx} {pins:List (Addr×Obj)} {σ:St} {H:Hp} {s:Shared} {a C dx:Addr} {fs:List (Str×V)} {f:Str} {v:V} {A:Around} {E:Value->Shared->Prop}
theorem Inv.made (I:Inv X pins σ H s):Inv X pins σ (upd (upd H s.heap.objs.size (.own (s.heap.objs.size+1))) (s.heap.objs.size+1) (.ins C s.heap.objs.size []))
  { s with heap:=(s.heap.push PySem.W.emptyDict).push (PySem.W.instObj C s.heap.objs.size) }:=by
 have e1:(s.heap.push PySem.W.emptyDict).get? s.heap.objs.size=some PySem.W.emptyDict:=Heap.get?_push_size s.heap rfl
 have e2:((s.heap.push PySem.W.emptyDict).push (PySem.W.instObj C s.heap.objs.size)).get? (s.heap.objs.size+1)=some (PySem.W.instObj C s.heap.objs.size):=by
  have:=Heap.get?_push_size (s.heap.push PySem.W.emptyDict) (o:=PySem.W.instObj C s.heap.objs.size) rfl
  rwa [Heap.size_push] at this
 have e3:(s.heap.push PySem.W.emptyDict).Ns s.heap.objs.size (fun _=>none):=⟨PySem.W.emptyDict,#[],_,e1,rfl,(fun e he=>absurd he (by simp)),fun _=>rfl⟩
 have I1:=I.laid (a:=s.heap.objs.size) (o:=.own (s.heap.objs.size+1)) (h':=s.heap.push PySem.W.emptyDict) (t':=s.toks) (fun b u q=>Heap.get?_push_of_some _ q) (Nat.le_refl _) ⟨_,e1⟩
 refine I1.laid (a:=s.heap.objs.size+1) (o:=.ins C s.heap.objs.size []) (t':=s.toks) (fun b u q=>Heap.get?_push_of_some _ q) (Nat.le_of_eq (Heap.size_push _ _)) ?_
 have ne:s.heap.objs.size≠s.heap.objs.size+1:=Nat.ne_of_lt (Nat.lt_succ_self _)
 refine ⟨by rw [aH ne,aQ],Nat.zero_le _,ne,e2,fun _=>none,(Heap.Ns1.of_empty e3).at fun o q=>Heap.get?_push_of_some _ q,fun _=>True.intro,fun y hy=>absurd rfl hy⟩
end
section
variable {X:Cx} {o e value:Expr} {f:Str} {pos pos' tpos:Pos} {ta tv:TE}
end
section
variable {X:Cx} {pins:List (Addr×Obj)} {σ:St} {H:Hp} {s:Shared} {A:Around} {E:Value->Shared->Prop} {Q:Value->Shared->Prop} {c:Value} {b:Bool}
inductive TyOf (K:PySem.W.Frag) (H:Hp):V->Value->Prop where
 | non:TyOf K H .non (.type "NoneType")
 | bl (x:Bool):TyOf K H (.bl x) (.type "bool")
 | int (i:Int):TyOf K H (.int i) (.type "int")
 | str (x:Str):TyOf K H (.str x) (.type "str")
 | flt (x:UInt64):TyOf K H (.flt x) (.type "float")
 | lst {a:Addr} {xs:List V} (e:H a=some (.lst xs)):TyOf K H (.ref a) (.type "list")
 | frz {a:Addr} {o:Obj} {xs:List V} (e:H a=some (.frz o (.lst xs))):TyOf K H (.ref a) (.type "list")
 | tup {a:Addr} {xs:List V} (e:H a=some (.tup xs)):TyOf K H (.ref a) (.type "tuple")
 | dK {a:Addr} {kvs:List (ee×V)} (e:H a=some (.dK kvs)):TyOf K H (.ref a) (.type "dict")
 | dT {a:Addr} {kvs:List (List ee×V)} (e:H a=some (.dT kvs)):TyOf K H (.ref a) (.type "dict")
 | ins {a C dx:Addr} {fs:List (Str×V)} (e:H a=some (.ins C dx fs)) (cl:Cls K C) (ha:PySem.W.findIn K (.ref C) "__class__" = some (some (.builtin "object.__class__")))
   (hn:PySem.W.specialIn K (.builtin "object.__class__") "__get__" = some (some (.builtin "getset_descriptor.__get__"))) (htk:PySem.W.takesIn K (.builtin "object.__class__")=some true)
   (hm:PySem.W.mroIn K C (.type "object")=some true):TyOf K H (.ref a) (.ref C)
theorem jw {x:V} {u t:Value} (I:Inv X pins σ H s) (rx:RelV x u) (ty:TyOf X.K H x t) (e:PySem.W.kitOne X.K t c=some b) (h:∀ tk,Q (.bool b) { s with toks:=tk }) :
  wpAny (model X.prog X.w) A (call (.builtin "isinstance") [u,c]) Q E s:=by
 cases ty with
 | non=>cases (show u=Value.none from rx); exact PySem.W.kia_one PySem.W.kitx_none I.kIn True.intro e (fun z=>nomatch z) h
 | bl y=>cases (show u=Value.bool y from rx); exact PySem.W.kia_one PySem.W.kitx_bool I.kIn True.intro e (fun z=>nomatch z) h
 | int i=>obtain ⟨t,q⟩:=(show ∃ t,u=Value.int i t from rx); cases q; exact PySem.W.kia_one PySem.W.kitx_int I.kIn True.intro e (fun z=>nomatch z) h
 | str y=>obtain ⟨t,q⟩:=(show ∃ t,u=Value.str y t from rx); cases q; exact PySem.W.kia_one PySem.W.kitx_str I.kIn True.intro e (fun z=>nomatch z) h
 | flt y=>obtain ⟨t,q⟩:=(show ∃ t,u=Value.float y t from rx); cases q; exact PySem.W.kia_one PySem.W.kitx_float I.kIn True.intro e (fun z=>nomatch z) h
 | @lst a xs ea=>
  cases (show u=Value.ref a from rx)
  obtain ⟨_,_,n,_,h1⟩:=(show ObjOk X.prog X.w H s.heap a (.lst xs) from I.hok a _ ea)
  exact PySem.W.kia_one PySem.W.kitx_list I.kIn ⟨_,h1,rfl⟩ e (fun z=>nomatch z) h
 | @frz a ob xs ea=>
  cases (show u=Value.ref a from rx)
  obtain ⟨_,_,_,n,_,h1⟩:=(show ObjOk X.prog X.w H s.heap a (.frz ob (.lst xs)) from I.hok a _ ea)
  exact PySem.W.kia_one PySem.W.kitx_list I.kIn ⟨_,h1,rfl⟩ e (fun z=>nomatch z) h
 | @tup a xs ea=>
  cases (show u=Value.ref a from rx)
  obtain ⟨_,_,_,p⟩:=(show ObjOk X.prog X.w H s.heap a (.tup xs) from I.hok a _ ea)
  obtain ⟨o,h1,h2,_⟩:=p
  exact PySem.W.kia_one PySem.W.kitx_tuple I.kIn ⟨o,h1,h2⟩ e (fun z=>nomatch z) h
 | @dK a kvs ea=>
  cases (show u=Value.ref a from rx)
  obtain ⟨_,_,vs,_,p⟩:=(show ObjOk X.prog X.w H s.heap a (.dK kvs) from I.hok a _ ea)
  obtain ⟨o,es,ep,h1,h2,_⟩:=p
  exact PySem.W.kia_one PySem.W.kitx_dict I.kIn ⟨o,h1,h2.1⟩ e (fun z=>nomatch z) h
 | @dT a kvs ea=>
  cases (show u=Value.ref a from rx)
  obtain ⟨_,_,xs,_,o,es,ep,h1,h2,_⟩:=(show ObjOk X.prog X.w H s.heap a (.dT kvs) from I.hok a _ ea)
  exact PySem.W.kia_one PySem.W.kitx_dict I.kIn ⟨o,h1,h2.1⟩ e (fun z=>nomatch z) h
 | @ins a C dx fs ea cl ha hn htk hm=>
  cases (show u=Value.ref a from rx)
  obtain ⟨mA,O,_⟩:=CC I.hok ea
  obtain ⟨od,J,_⟩:=O.look
  exact PySem.W.kia_one (PySem.W.kitx_own (cl.get _) cl.hd ha hn htk hm) I.kIn J e (fun z=>nomatch z) h
end
end L2
namespace L2
open PySem PySem.Spec PyProof.Rows
structure Room (k:Nat) (A:Around):Prop where
 hd:A.handled=none
 dp:A.depth+3*k+5<recursionLimit
 un:A.units+16*k+200<cLine
theorem Room.mono {j k:Nat} {A:Around} (r:Room k A) (h:j<=k):Room j A:=⟨r.hd,by have:=r.dp; omega,by have:=r.un; omega⟩
theorem Room.deeper {k:Nat} {A:Around} (r:Room (k+1) A) (env:Env):Room k (A.deeper env):=
 ⟨r.hd,by have:=r.dp; show A.depth+1+3*k+5<_; omega,by have:=r.un; show A.units+3+16*k+200<_; omega⟩
theorem Room.in1 {k:Nat} {A:Around} (r:Room (k+1) A):Room k A.in1:=
 ⟨r.hd,by have:=r.dp; show A.depth+3*k+5<_; omega,by have:=r.un; show A.units+1+16*k+200<_; omega⟩
theorem Room.depth {k:Nat} {A:Around} (r:Room k A):A.depth<recursionLimit:=by have:=r.dp; omega
theorem Room.units {k:Nat} {A:Around} (r:Room k A):A.units+64<cLine:=by have:=r.un; omega
noncomputable def Kg:TA:=fun _ H Q=>Q [] H
noncomputable def Hf (ta:TE) (tr:TA):TA:=fun σ H Q=>ta σ H fun x H1=>tr σ H1 fun xs H2=>Q (x::xs) H2
section
variable {X:Cx} {e:Expr} {es:List Expr} {te:TE} {t:TA} {pos:Pos}
theorem qj:PA X [] Kg:=fun _ _ _ _ H Q I h=>Calls.spliced_nil ⟨[],H,I,.nil,h⟩
theorem jt (ha:PE X e te) (hr:PA X es t) (hs:starEach (e::es) X.env=(false,eval e X.env)::starEach es X.env:=by rfl):PA X (e::es) (Hf te t):=by
 intro pos pins s σ H Q I h
 rw [hs]
 show wpAny _ _ (spliced ((false,eval e X.env)::backTo pos (starEach es X.env))) _ _ s
 refine Calls.spliced_cons (dl (ha pins s σ H _ I h) fun u s1 ⟨x,H1,I1,r1,q1⟩=>?_)
 exact dl (hr pos pins s1 σ H1 _ I1 q1) fun us s2 ⟨xs,H2,I2,r2,q2⟩=>⟨x::xs,H2,I2,.cons r1 r2,q2⟩
noncomputable def Kc (t:TA):TE:=fun σ H Q=>t σ H fun xs H1=>xs.length<=sizeLine/\∀ p,H1 p=none->Q (.ref p) (upd H1 p (.tup xs))
noncomputable def Kh (t:TA):TE:=fun σ H Q=>t σ H fun xs H1=>xs.length<=sizeLine/\∀ p,H1 p=none->Q (.ref p) (upd H1 p (.lst xs))
theorem EI {x1} (h:PA X es t):PE X (.Tuple es x1 pos) (Kc t):=by
 intro pins s σ H Q I hq
 refine wpAny_Tuple_spliced (dl (h pos pins s σ H _ I hq) fun us s1 ⟨xs,H1,I1,r,z,q⟩=>⟨by rw [<- r.length]; exact z,?_⟩)
 have hf:H1 s1.heap.objs.size=none:=I1.hok.fresh (Nat.le_refl _)
 refine ⟨.ref s1.heap.objs.size,upd H1 s1.heap.objs.size (.tup xs),I1.laid (t':=s1.toks) (fun b u e=>Heap.get?_push_of_some _ e) (Nat.le_refl _) ?_,rfl,q _ hf⟩
 exact ⟨z,us,r,⟨_,Heap.get?_push_size _ rfl,rfl,_,rfl⟩⟩
theorem yI (h:PA X es t):PE X (.List es pos) (Kh t):=by
 intro pins s σ H Q I hq
 refine wpAny_List_spliced (dl (h pos pins s σ H _ I hq) fun us s1 ⟨xs,H1,I1,r,z,q⟩=>⟨by rw [<- r.length]; exact z,?_⟩)
 have hf:H1 s1.heap.objs.size=none:=I1.hok.fresh (Nat.le_refl _)
 refine ⟨.ref s1.heap.objs.size,upd H1 s1.heap.objs.size (.lst xs),I1.laid (t':=s1.toks) (fun b u e=>Heap.get?_push_of_some _ e) (Nat.le_refl _) ?_,rfl,q _ hf⟩
 exact ⟨z,us,0,r,Heap.get?_push_size _ rfl⟩
end
noncomputable abbrev Sp:=List V->Hp->VK->XK->Prop
noncomputable abbrev tM:=List Env->Hp->Shared->XK->Value->Shared->Prop
structure Env0 (P:Program) (w:World) (K:PySem.W.Frag) (mg:Str->Option Value) (base:Heap) (A:Around) (outer:List Env) (s:Shared) (H:Hp):Prop where
 frames:A.frames=some outer
 mod:Mod K mg base
 bs:∀ b o,base.get? b=some o->s.heap.get? b=some o/\H b=none
 bsz:base.objs.size<=s.heap.objs.size
 funs:s.heap.FunFrames base outer
 frf:∀ b∈qI outer,H b=none
 hok:HOk P w H s.heap
 bare:AllBare s.gens
noncomputable def CE (outer:List Env) (P:Program) (w:World) (H:Hp) (s:Shared) (Q:VK) (u:Value) (s':Shared):Prop:=
 ∃ v H',s'.os=s.os/\AllBare s'.gens/\Un (qI outer) [] H H' s.heap s'.heap/\HOk P w H' s'.heap/\RelV v u/\Q v H'
noncomputable def CR (CX:tM) (outer:List Env) (P:Program) (w:World) (H:Hp) (s:Shared) (Q:VK) (E:XK) (r:Result) (s':Shared):Prop:=
 match r with
 | .ok (.ret u)=>CE outer P w H s Q u s'
 | .ok _=>False
 | .error e=>CX outer H s E e s'
structure FnOk (P:Program) (w:World) (K:PySem.W.Frag) (mg:Str->Option Value) (base:Heap) (CX:tM) (k:Nat) (f:Addr) (fd:FuncData) (ps:List Str) (sp:Sp):Prop where
 len:∀ vs H Q E,sp vs H Q E->vs.length=ps.length
 run:∀ (A:Around) (outer:List Env) (s:Shared) (H:Hp) (args:Args) (us:List Value) (vs:List V) (Q:VK) (E:XK),Room k A->Env0 P w K mg base A outer s H->BindsTo s fd args (ps.zip us)->Vals vs us->sp vs H Q E ->
  codeAny (model P w) A (.call (.ref f) args) (CR CX outer P w H s Q E) s
theorem FnOk.mono {P:Program} {w:World} {K:PySem.W.Frag} {mg:Str->Option Value} {base:Heap} {CX:tM} {j k:Nat} {f:Addr} {fd:FuncData} {ps:List Str} {sp:Sp} (F:FnOk P w K mg base CX j f fd ps sp) (h:j<=k) :
  FnOk P w K mg base CX k f fd ps sp:=⟨F.len,fun A outer s H args us vs Q E hr=>F.run A outer s H args us vs Q E (hr.mono h)⟩
theorem FnOk.imp {P:Program} {w:World} {K:PySem.W.Frag} {mg:Str->Option Value} {base:Heap} {CX:tM} {k:Nat} {f:Addr} {fd:FuncData} {ps:List Str} {sp sp':Sp} (F:FnOk P w K mg base CX k f fd ps sp)
  (h:∀ vs H Q E,sp' vs H Q E->sp vs H Q E):FnOk P w K mg base CX k f fd ps sp':=
 ⟨fun vs H Q E q=>F.len vs H Q E (h _ _ _ _ q),fun A outer s H args us vs Q E hr he hb hv hs=>F.run A outer s H args us vs Q E hr he hb hv (h _ _ _ _ hs)⟩
theorem Env0.in1 {P:Program} {w:World} {K:PySem.W.Frag} {mg:Str->Option Value} {base:Heap} {A:Around} {outer:List Env} {s:Shared} {H:Hp} (e:Env0 P w K mg base A outer s H) :
  Env0 P w K mg base A.in1 outer s H:=⟨e.frames,e.mod,e.bs,e.bsz,e.funs,e.frf,e.hok,e.bare⟩
section
variable {X:Cx} {pins:List (Addr×Obj)} {σ:St} {H:Hp} {s s':Shared}
theorem Inv.env0 (I:Inv X pins σ H s):Env0 X.prog X.w X.K X.mg X.base X.A X.stack s H:=
 ⟨I.ok.frames,I.ok.mod,I.bs,Nat.le_trans I.ok.bsz I.sz,I.stack,I.stkFree,I.hok,I.bare⟩
theorem Inv.after {Q:VK} {u:Value} (I:Inv X pins σ H s) (h:CE X.stack X.prog X.w H s Q u s'):EP X pins σ Q u s':=by
 obtain ⟨v,H',os,bare,un,hok,r,q⟩:=h
 obtain ⟨hh,g,d,t,os'⟩:=s'
 obtain rfl:os'=s.os:=os
 exact ⟨v,H',I.call (h':=hh) (g':=g) (d':=d) (t':=t) (ch:=[]) un hok bare (fun b z=>absurd z (by simp)),r,q⟩
end
noncomputable def Hg (sp:Sp) (dvs:List V) (E:XK) (t:TA):TE:=fun σ H Q=>t σ H fun vs H1=>sp (vs++dvs) H1 Q E
noncomputable def Binds (K:PySem.W.Frag) (fd:FuncData) (ps:List Str) (ds:List Value):Prop:=
 ∀ (s:Shared) (us:List Value),K.In s.heap->(us++ds).length=ps.length->BindsTo s fd ⟨us,[]⟩ (ps.zip (us++ds))
theorem Binds.all {K:PySem.W.Frag} {fd:FuncData} {ps:List Str} (h:∀ us:List Value,us.length=ps.length->bindArgs fd ⟨us,[]⟩=pure (ps.zip us)):Binds K fd ps []:=fun s us _ hl=>by
 rw [List.append_nil] at hl ⊢
 exact .of_eq (h us hl)
noncomputable def rz (CX:tM) (X:Cx) (E:XK):Prop:=∀ (pins:List (Addr×Obj)) (σ:St) (H:Hp) (s:Shared) (e:Value) (s':Shared),Inv X pins σ H s->CX X.stack H s E e s'->X.xe e s'
section
variable {X:Cx} {CX:tM} {k:Nat} {f C:Addr} {fd:FuncData} {ps:List Str} {sp:Sp} {dvs:List V} {ds:List Value} {E:XK} {x m:Str} {p pos apos:Pos} {e o:Expr} {es:List Expr} {ta:TE} {t:TA}
theorem Em {pins:List (Addr×Obj)} {σ:St} {H:Hp} {s:Shared} {Q:VK} {us:List Value} {vs:List V} (F:FnOk X.prog X.w X.K X.mg X.base CX k f fd ps sp) (hr:Room k X.A) (hb:Binds X.K fd ps ds) (hd:Vals dvs ds) (hx:rz CX X E)
  (I:Inv X pins σ H s) (r:Vals vs us) (h:sp (vs++dvs) H Q E):wpAny (model X.prog X.w) X.A (call (.ref f) us) (EP X pins σ Q) X.xe s:=by
 have r2:Vals (vs++dvs) (us++ds):=r.append hd
 have hl:(us++ds).length=ps.length:=by rw [<- r2.length]; exact F.len _ _ _ _ h
 refine wpAny_call (codeAny_mono (F.run X.A X.stack s H ⟨us,[]⟩ (us++ds) (vs++dvs) Q E hr I.env0 (hb s us I.kIn hl) r2 h) fun r s' hq=>?_)
 cases r with
 | error e=>exact hx pins σ H s e s' I hq
 | ok fl=>
  cases fl with
  | ret u=>exact I.after hq
  | next=>exact False.elim hq
  | brk=>exact False.elim hq
  | cont=>exact False.elim hq
theorem vn (F:FnOk X.prog X.w X.K X.mg X.base CX k f fd ps sp) (hr:Room k X.A) (hg:Gl X x) (hm:X.mg x=some (.ref f)) (hk:PySem.W.keepIn X.K (.ref f)=true) (hb:Binds X.K fd ps ds) (hd:Vals dvs ds) (hx:rz CX X E)
  (ha:PA X (e::es) t) (hdb:(x==("__debug__":Str))=false:=by decide) (he:starEach (e::es) X.env=(false,eval e X.env)::starEach es X.env:=by rfl) (hpl:(backTo pos (starEach es X.env)).any (·.1)=false:=by rfl) :
  PE X (.Call (.Name x p) (e::es) [] pos) (Hg sp dvs E t):=by
 intro pins s σ H Q I h
 refine wpAny_Call_Name_kw (vD I hg hm ?_ hdb)
 refine PySem.W.callWith_K (h₀:=X.base) I.ok.mod.kin hk (dl (ha pos pins s σ H _ I h) fun us s1 ⟨vs,H1,I1,r,q⟩=>⟨I1.kIn,?_⟩) he hpl
 exact Em F hr hb hd hx I1 r q
structure Mk (K:PySem.W.Frag) (C f:Addr):Prop where
 makes:PySem.W.makesIn K C=true
 init:PySem.W.findIn K (.ref C) "__init__" = some (some (.ref f))
 fn:PySem.W.isFn K (.ref f)=true
 kp:PySem.W.keepIn K (.ref C)=true
end
section
variable {X:Cx} {CX:tM} {k:Nat} {f C:Addr} {fd:FuncData} {ps ks:List Str} {sp:Sp} {E:XK} {x m:Str} {p pos apos kpos:Pos} {e o:Expr} {es:List Expr} {kws:List Keyword} {te ta:TE} {t tk:TA} {nm:Option Str}
structure KBinds (K:PySem.W.Frag) (fd:FuncData) (ps ks:List Str) (g:List Value->List Value->List Value) (gV:List V->List V->List V):Prop where
 to:∀ (s:Shared) (us ws:List Value),K.In s.heap->(g us ws).length=ps.length->BindsTo s fd ⟨us,ks.zip ws⟩ (ps.zip (g us ws))
 rel:∀ {vs:List V} {us:List Value} {zs:List V} {ws:List Value},Vals vs us->Vals zs ws->Vals (gV vs zs) (g us ws)
variable {g:List Value->List Value->List Value} {gV:List V->List V->List V}
end
structure FnScope (N P:List Str) (sc:Scope):Prop where
 kind:sc.kind=.function
 co:sc.isCoroutine=false
 gen:sc.isGenerator=false
 nd:N.Nodup
 pre:N.take P.length=P
 par:∀ x∈P,sc.names.lookup x=some .local\/sc.names.lookup x=some .cell
 nofree:∀ y∈sc.names,y.2≠.free
theorem pH {kindOf:Str->Option NameKind} {x:Str}:∀ {binds:List (Str×Value)} {m:Str->Option Value},(∀ v,(x,v) ∉ binds)->bindL kindOf binds m x=m x
 | [],_,_=>rfl
 | (n,v)::r,m,h=>by
  unfold bindL
  rw [pH fun w hw=>h w (List.mem_cons_of_mem _ hw)]
  split
  ·have:x≠n:=by rintro rfl; exact h v List.mem_cons_self
   simp [this]
  ·rfl
theorem pJ {kindOf:Str->Option NameKind} {x:Str}:∀ {binds:List (Str×Value)} {m:Str->Option Value},(∀ v,(x,v) ∉ binds)->bindC kindOf binds m x=m x
 | [],_,_=>rfl
 | (n,v)::r,m,h=>by
  unfold bindC
  rw [pJ fun w hw=>h w (List.mem_cons_of_mem _ hw)]
  split
  ·rfl
  ·have:x≠n:=by rintro rfl; exact h v List.mem_cons_self
   simp [this]
theorem pI {kindOf:Str->Option NameKind} {x:Str} {v:Value}:∀ {P:List Str} {vs:List Value} {i:Nat} {m:Str->Option Value},P.Nodup->P[i]? = some x->vs[i]? = some v->kindOf x=some .local ->
  bindL kindOf (P.zip vs) m x=some v
 | [],_,_,_,_,h,_,_=>by simp at h
 | _::_,[],_,_,_,_,h,_=>by simp at h
 | p::P,w::vs,0,m,nd,h1,h2,hk=>by
  simp at h1 h2; subst h1; subst h2
  show bindL kindOf ((p,w)::P.zip vs) m p=_
  unfold bindL
  rw [pH fun v hv=>(List.nodup_cons.mp nd).1 (List.of_mem_zip hv).1,if_pos hk]
  simp
 | p::P,w::vs,i+1,m,nd,h1,h2,hk=>by
  show bindL kindOf ((p,w)::P.zip vs) m x=_
  unfold bindL
  exact pI (i:=i) (List.nodup_cons.mp nd).2 (by simpa using h1) (by simpa using h2) hk
theorem pK {kindOf:Str->Option NameKind} {x:Str} {v:Value}:∀ {P:List Str} {vs:List Value} {i:Nat} {m:Str->Option Value},P.Nodup->P[i]? = some x->vs[i]? = some v->kindOf x≠some .local ->
  bindC kindOf (P.zip vs) m x=some v
 | [],_,_,_,_,h,_,_=>by simp at h
 | _::_,[],_,_,_,_,h,_=>by simp at h
 | p::P,w::vs,0,m,nd,h1,h2,hk=>by
  simp at h1 h2; subst h1; subst h2
  show bindC kindOf ((p,w)::P.zip vs) m p=_
  unfold bindC
  rw [pJ fun v hv=>(List.nodup_cons.mp nd).1 (List.of_mem_zip hv).1,if_neg hk]
  simp
 | p::P,w::vs,i+1,m,nd,h1,h2,hk=>by
  show bindC kindOf ((p,w)::P.zip vs) m x=_
  unfold bindC
  exact pK (i:=i) (List.nodup_cons.mp nd).2 (by simpa using h1) (by simpa using h2) hk
noncomputable def start (N:List Str) (vs:List V):St:=vs.map some++List.replicate (N.length-vs.length) none
noncomputable def qU (CX:tM) (P:Program) (w:World) (K:PySem.W.Frag) (mg:Str->Option Value) (base:Heap) (N:List Str) (qual:Str) (scope:Scope) (f:Addr) (cd:Value) (A:Around) (outer:List Env) (s:Shared) (H:Hp) (E:XK):Cx where
 prog:=P
 w:=w
 K:=K
 mg:=mg
 base:=base
 A:=A.deeper (envOfC qual scope s.heap.objs.size f cd)
 N:=N
 s₀:=s
 H₀:=H
 env:=envOfC qual scope s.heap.objs.size f cd
 outer:=outer
 stack:=envOfC qual scope s.heap.objs.size f cd::outer
 ex:=[]
 calm:=true
 fn:=fun _=>true
 pn:=[]
 xe:=fun e s'=>wpAny (model P w) (A.deeper (envOfC qual scope s.heap.objs.size f cd)) (leaving (envOfC qual scope s.heap.objs.size f cd) e) (fun _ s''=>CX outer H s E e s'') (fun e' s''=>CX outer H s E e' s'') s'
theorem sU {sc:Scope} {n:Nat} {x:Str} (h:sc.names.lookup x=some .cell):∃ c,(cellsFrom n sc.names []).lookup x=some c:=by
 have q:=PySem.W.cellsFrom_some sc.names n [] (.inl h)
 exact Option.isSome_iff_exists.mp q
theorem xg {CX:tM} {P:Program} {w:World} {K:PySem.W.Frag} {mg:Str->Option Value} {base:Heap} {N ps:List Str} {qual:Str} {scope:Scope} {f:Addr} {cd:Value} {A:Around} {outer:List Env} {s s1:Shared} {H:Hp} {E:XK} {us:List Value} {vs:List V}
  (S:FnScope N ps scope) (hd:A.handled=none) (e0:Env0 P w K mg base A outer s H) (hl:vs.length=ps.length) (r:Vals vs us)
  (x:InCallC s s.heap.objs.size (bindL (envOfC qual scope s.heap.objs.size f cd).kindOf (ps.zip us) fun _=>none) (cellsFrom (s.heap.objs.size+1) scope.names []) (bindC (envOfC qual scope s.heap.objs.size f cd).kindOf (ps.zip us) fun _=>none) s1) :
  Inv (qU CX P w K mg base N qual scope f cd A outer s H E) [] (start N vs) H s1:=by
 have hpl:ps.length<=N.length:=by have:=congrArg List.length S.pre; rw [List.length_take] at this; omega
 obtain ⟨h1,tk,rfl,hk⟩:=x.done
 have noA:∀ b:Addr,b ∉ (qU CX P w K mg base N qual scope f cd A outer s H E).ex:=fun b z=>absurd (show b∈([]:List Addr) from z) (by simp)
 refine ⟨⟨e0.mod,S.kind,rfl,rfl,Nat.le_refl _,fun y z c h1 h2=>?_,fun y hy=>?_,fun y c _ h=>?_,fun _=>hd,Around.frames_deeper e0.frames,.inr ⟨rfl,rfl⟩,fun b z=>absurd z (noA b),e0.bs,e0.bsz,fun b _ _=>noA b,fun b z=>absurd z (noA b),e0.funs,e0.frf⟩,
  rfl,e0.bare,Un.kept hk,⟨_,x.toInCall.ns,fun i y v h1 h2 h3=>?_⟩,fun y c h=>⟨_,x.cell y c h⟩,e0.hok.fresh (Nat.le_refl _),fun y c h=>?_,fun p hp=>absurd (show p∈([]:List (Addr×Obj)) from hp) (by simp),e0.hok.kept hk,?_⟩
 ·exact name_of_addr x.apart (PySem.mem_of_lookup h1) (PySem.mem_of_lookup h2)
 ·have hy:scope.names.lookup y=some .cell\/scope.names.lookup y=some .free:=hy
  rcases hy with hy | hy
  ·exact sU hy
  ·exact absurd rfl (S.nofree _ (PySem.mem_of_lookup hy))
 ·exact Nat.le_of_lt (x.above y c (PySem.mem_of_lookup h))
 ·have hi:i<vs.length:=by
   unfold start at h2
   by_cases hi:i<vs.length
   ·exact hi
   ·rw [List.getElem?_append_right (by simpa using hi)] at h2
    rw [List.getElem?_replicate] at h2
    split at h2 <;> cases h2
  have ha:vs[i]? = some v:=by
   unfold start at h2
   rw [List.getElem?_append_left (by simpa using hi),List.getElem?_map] at h2
   cases e:vs[i]? with
   | none=>rw [e] at h2; cases h2
   | some a=>rw [e] at h2; cases h2; rfl
  obtain ⟨u,hu,rv⟩:=r.get ha
  have hp:ps[i]? = some y:=by
   rw [<- S.pre,List.getElem?_take_of_lt (by omega)]; exact h1
  have ndP:ps.Nodup:=by rw [<- S.pre]; exact S.nd.sublist (List.take_sublist _ _)
  refine ⟨u,rv,?_⟩
  rcases S.par y (List.mem_of_getElem? hp) with k | k
  ·exact .inl ⟨k,pI ndP hp hu k⟩
  ·obtain ⟨c,e⟩:=sU (n:=s.heap.objs.size+1) k
   refine .inr ⟨.inl k,c,e,?_⟩
   have q:=x.cell y c e
   rw [pK ndP hp hu (by show scope.names.lookup y≠_; rw [k]; decide)] at q
   exact q
 ·exact e0.hok.fresh (Nat.le_of_lt (x.above y c (PySem.mem_of_lookup h)))
 ·unfold start
  show _=N.length
  rw [List.length_append,List.length_map,List.length_replicate]
  omega
theorem zQ {CX:tM} {P:Program} {w:World} {K:PySem.W.Frag} {mg:Str->Option Value} {base:Heap} {k:Nat} {f:Addr} {name qual:Str} {params:Arguments} {body:List Stmt} {scope:Scope} {dV kV doc pm cdv ct oc:Value} {an od:Option Addr}
  {osl:Array (Option Value)} {N ps:List Str} {sp:Sp} (lk:K.lookup f=some ⟨oc,od,.func (PySem.W.fnOf name qual params body scope dV kV doc pm an cdv ct),osl⟩) (hcd:PySem.W.codeIn K cdv qual=true) (S:FnScope N ps scope)
  (len:∀ vs H Q E,sp vs H Q E->vs.length=ps.length)
  (hbody:∀ (A:Around) (outer:List Env) (s:Shared) (H:Hp) (vs:List V) (Q:VK) (E:XK),Room k (A.deeper (envOfC qual scope s.heap.objs.size f cdv))->sp vs H Q E ->
   ∃ t,PSs (qU CX P w K mg base N qual scope f cdv A outer s H E) body t/\t { nx:=fun _ H'=>Q .non H',rt:=Q } (start N vs) H) :
  FnOk P w K mg base CX (k+1) f (PySem.W.fnOf name qual params body scope dV kV doc pm an cdv ct) ps sp:=by
 refine ⟨len,fun A outer s H args us vs Q E hr e0 hb r hsp=>?_⟩
 have hl:=len _ _ _ _ hsp
 have KX:K.In s.heap:=e0.mod.kin.keeps fun b o e=>(e0.bs b o e).1
 have lim:s.heap.NoLimit:=e0.mod.nolimit.keeps fun b o e=>(e0.bs b o e).1
 have hkind:∀ y∈ps.zip us,scope.names.lookup y.1=some .local\/(scope.names.lookup y.1=some .cell/\((cellsFrom (s.heap.objs.size+1) scope.names []).lookup y.1).isSome=true):=fun ⟨n,v⟩ hy=>by
  rcases S.par n (List.of_mem_zip hy).1 with q | q
  ·exact .inl q
  ·exact .inr ⟨q,PySem.W.cellsFrom_some _ _ _ (.inl q)⟩
 refine codeAny_call_function hr.depth (KX _ _ lk) rfl S.co S.gen rfl (PySem.W.codeRec_of KX hcd) (hb _ _ _ _ ?_)
 refine wpAny_newFunctionEnv_cells S.kind hkind fun env he s1 x=>?_
 subst he
 refine ⟨lim.keeps x.toInCall.keep,codeAny_func ?_⟩
 obtain ⟨t,ht,hq⟩:=hbody A outer s H vs Q E (hr.deeper _) hsp
 have I:Inv (qU CX P w K mg base N qual scope f cdv A outer s H E) [] (start N vs) H s1:=xg S hr.hd e0 hl r x
 refine wpAny_mono (ht [] s1 (start N vs) H _ I hq) (fun fl s' hs=>?_) fun e s' hs=>hs
 have fin:∀ {σ':St} {H':Hp} {v:V} {u:Value},Inv (qU CX P w K mg base N qual scope f cdv A outer s H E) [] σ' H' s'->RelV v u->Q v H'->CE outer P w H s Q u s':=
  fun {σ' H' v u} J rv q=>⟨v,H',J.os,J.bare,J.base,J.hok,rv,q⟩
 cases fl with
 | ret u=>
  obtain ⟨v,σ',H',J,rv,q⟩:=hs
  exact fin J rv q
 | next=>
  obtain ⟨σ',H',J,q⟩:=hs
  exact fin (v:=V.non) (u:=Value.none) J rfl q
 | brk=>
  obtain ⟨_,_,_,q⟩:=hs
  exact False.elim q
 | cont=>
  obtain ⟨_,_,_,q⟩:=hs
  exact False.elim q
end L2
namespace L2
open PySem PySem.Spec PyProof.Rows
section
variable {X:Cx} {x:Str} {p pos:Pos} {e:Expr} {es:List Expr} {t:TA} {id T:String} {r:List V->Hp->VK->Prop}
noncomputable def LT (r:List V->Hp->VK->Prop) (t:TA):TE:=fun σ H Q=>t σ H fun vs H1=>r vs H1 Q
theorem m9 (hc:CallR X (.builtin id) r) (hg:Gl X x) (hm:X.mg x=none) (hv:bootBuiltins x=some (.builtin id)) (ha:PA X (e::es) t) (hn:x ≠ "__name__":=by decide) (hdb:(x==("__debug__":Str))=false:=by decide)
  (he:starEach (e::es) X.env=(false,eval e X.env)::starEach es X.env:=by rfl) (hpl:(backTo pos (starEach es X.env)).any (·.1)=false:=by rfl):PE X (.Call (.Name x p) (e::es) [] pos) (LT r t):=by
 intro pins s σ H Q I h
 refine wpAny_Call_Name_kw (nE I hg hm hv ?_ hn hdb)
 exact PyProof.Rows.callWith_builtin1 (dl (ha pos pins s σ H _ I h) fun us s1 ⟨vs,H1,I1,r1,q1⟩=>hc pins s1 σ H1 vs us Q I1 r1 q1) he hpl
theorem pd (hc:CallR X (.type T) r) (hg:Gl X x) (hm:X.mg x=none) (hv:bootBuiltins x=some (.type T)) (ha:PA X (e::es) t) (hn:x ≠ "__name__":=by decide) (hdb:(x==("__debug__":Str))=false:=by decide)
  (he:starEach (e::es) X.env=(false,eval e X.env)::starEach es X.env:=by rfl) (hpl:(backTo pos (starEach es X.env)).any (·.1)=false:=by rfl):PE X (.Call (.Name x p) (e::es) [] pos) (LT r t):=by
 intro pins s σ H Q I h
 refine wpAny_Call_Name_kw (nE I hg hm hv ?_ hn hdb)
 exact PyProof.Rows.callWith_type1 (dl (ha pos pins s σ H _ I h) fun us s1 ⟨vs,H1,I1,r1,q1⟩=>hc pins s1 σ H1 vs us Q I1 r1 q1) he hpl
end
end L2
namespace HT
open PySem PyProof.Rows
section
open PySem.SeqAt
open PySem.AutoSeq1 (wpAny_loadPart')
open PySem.MeetsSeq PySem.MeetsSeq2 PySem.MeetsSeq3
end
section
variable {prog:Program} {w:World} {A:Around} {E:Value->Shared->Prop} {s:Shared}
theorem CY {t b:Addr} {vs ws:List Value} {Q:Value->Shared->Prop} (ht:IsTup s.heap t vs.toArray) (hb:IsTup s.heap b ws.toArray) (hv:vs≠[])
  (h1:ws=[]->Q (.ref t) s) (h2:ws≠[]->Q (.ref s.heap.objs.size) { s with heap:=s.heap.push { cls:=.type "tuple",data:=.seq (vs++ws).toArray } })
  (hsz:vs.length+ws.length<=sizeLine):wpAny (model prog w) A (binaryOp .Add (.ref t) (.ref b)) Q E s:=by
 obtain ⟨⟨cls,dd,data,sl⟩,ho,hc,n,hd⟩:=id ht
 obtain ⟨⟨cls2,dd2,data2,sl2⟩,ho2,hc2,n2,hd2⟩:=id hb
 simp only at hc hd hc2 hd2
 subst hc hd hc2 hd2
 have e:vs.toArray++ws.toArray=(vs++ws).toArray:=by simp
 by_cases hw:ws=[]
 ·exact concat_meets ⟨_,ho,rfl⟩ ⟨_,ho2,rfl⟩ noFill_tuple_add seq_tuple_add PySem.F.slot_tuple_add PySem.F.entry_tuple_add (PySem.F.args_tuple_add_2 _ _)
   (tuple_addW1 t b vs.toArray ws.toArray n n2 dd dd2 sl sl2 (by simpa using hv) (by simp [hw])) ⟨ho,ho2,h1 hw⟩
 ·refine concat_meets ⟨_,ho,rfl⟩ ⟨_,ho2,rfl⟩ noFill_tuple_add seq_tuple_add PySem.F.slot_tuple_add PySem.F.entry_tuple_add (PySem.F.args_tuple_add_2 _ _)
   (tuple_addW2 t b vs.toArray ws.toArray n n2 dd dd2 sl sl2 (by simpa using hv) (by simpa using hw) (by rw [List.size_toArray,List.size_toArray]; exact hsz)) ⟨ho,ho2,?_⟩
  rw [e]
  exact h2 hw
noncomputable def sIx (n d:Nat):Option Int->Nat
 | none=>d
 | some v=>if v<0 then (v+(n:Int)).toNat else min v.toNat n
theorem El (n d:Nat) (hd:d<=n) (o:Option Int):sIx n d o<=n:=by
 cases o with
 | none=>exact hd
 | some v=>
  show (if v<0 then (v+(n:Int)).toNat else min v.toNat n)<=n
  by_cases hv:v<0
  ·rw [if_pos hv]; omega
  ·rw [if_neg hv]; exact Nat.min_le_right _ _
theorem vS (v:Int) (n d:Nat):(if v<0 then max (v+(n:Int)) 0 else min v (n:Int))=((sIx n d (some v):Nat):Int):=by
 show (if v<0 then max (v+(n:Int)) 0 else min v (n:Int))=(((if v<0 then (v+(n:Int)).toNat else min v.toNat n):Nat):Int)
 by_cases hv:v<0
 ·simp only [if_pos hv]; omega
 ·simp only [if_neg hv]; omega
theorem uU (lo hi:Option Int) (n:Nat):Builtin.Slice.sliceAdjust lo hi 1 (n:Int)=(((sIx n 0 lo:Nat):Int),((sIx n n hi:Nat):Int)):=by
 have h1:¬ ((1:Int)<0):=by omega
 unfold Builtin.Slice.sliceAdjust
 simp only [h1,if_false]
 refine Prod.ext ?_ ?_
 ·cases lo with
  | none=>rfl
  | some v=>exact vS v n 0
 ·cases hi with
  | none=>rfl
  | some v=>exact vS v n n
theorem t9 (i j:Nat):Builtin.Slice.slicePlaces (i:Int) (j:Int) 1=j-i:=by
 unfold Builtin.Slice.slicePlaces
 have h1:(1:Int)>0:=by omega
 simp only [h1,if_true,Int.ediv_one]
 split <;> omega
theorem mT {v:Value} {o:Option Int} {Q:Option Int->Shared->Prop} (p:IsPart v o) (h:Q o s):wpAny (model prog w) A (Builtin.Slice.slicePartIndex v) Q E s:=by
 cases p with
 | none=>exact slicePart_none h
 | int i t=>exact slicePart_int h
theorem hX {sl:Addr} {vl vu:Value} {lo hi:Option Int} {n:Nat} {Q:Int×Int×Nat->Shared->Prop} (hs:s.heap.IsSliceOf sl vl vu .none) (pl:IsPart vl lo) (pu:IsPart vu hi)
  (h:Q (((sIx n 0 lo:Nat):Int),1,sIx n n hi-sIx n 0 lo) s):wpAny (model prog w) A (Builtin.Slice.sliceApplied (.ref sl) (pure (n:Int))) Q E s:=by
 obtain ⟨os,hos,hcs,hds⟩:=id hs
 unfold Builtin.Slice.sliceApplied Builtin.Slice.sliceFields
 refine wpAny_bind (wpAny_bind (wpAny_field hos hds (x:=vl) rfl (wpAny_bind (wpAny_field hos hds (x:=vu) rfl (wpAny_bind (wpAny_field hos hds (x:=.none) rfl (wpAny_pure ?_)))))))
 refine wpAny_bind (slicePart_none ?_)
 show wpAny _ _ (if ((1:Int)==0)=true then _ else _) _ _ s
 rw [if_neg (by decide)]
 refine wpAny_bind (mT pl (wpAny_bind (mT pu (wpAny_bind (wpAny_pure ?_)))))
 show wpAny _ _ (match Builtin.Slice.sliceAdjust lo hi 1 (n:Int) with | (lo,hi)=>pure (lo,(1:Int),Builtin.Slice.slicePlaces lo hi 1)) _ _ s
 rw [uU lo hi n]
 show wpAny _ _ (pure (((sIx n 0 lo:Nat):Int),(1:Int),Builtin.Slice.slicePlaces ((sIx n 0 lo:Nat):Int) ((sIx n n hi:Nat):Int) 1)) _ _ s
 rw [t9]
 exact wpAny_pure h
theorem yF (xs:Array Value) (i k:Nat):((List.range k).filterMap fun (m:Nat)=>xs[((i:Int)+(m:Int)*1).toNat]?).toArray=((xs.toList.drop i).take k).toArray:=by
 have e:(fun (m:Nat)=>xs[((i:Int)+(m:Int)*1).toNat]?)=fun m=>xs[i+m]?:=by
  funext m
  have:((i:Int)+(m:Int)*1).toNat=i+m:=by omega
  rw [this]
 rw [e]
 have:=pick_run xs i k
 rw [List.filterMap_map] at this
 have e2:((fun x=>xs[x]?) ∘ fun x=>i+x)=fun m=>xs[i+m]?:=rfl
 rw [e2] at this
 rw [this]
theorem kl {t sl:Addr} {items:Array Value} {vl vu:Value} {lo hi:Option Int} {Q:Value->Shared->Prop} (ht:IsTup s.heap t items) (hs:s.heap.IsSliceOf sl vl vu .none) (pl:IsPart vl lo) (pu:IsPart vu hi)
  (hw:¬ (sIx items.size 0 lo=0/\sIx items.size items.size hi=items.size))
  (h:Q (.ref s.heap.objs.size) { s with heap:=s.heap.push { cls:=.type "tuple",data:=.seq ((items.toList.drop (sIx items.size 0 lo)).take (sIx items.size items.size hi-sIx items.size 0 lo)).toArray } })
  (hsz:items.size<=sizeLine):wpAny (model prog w) A (getItem (.ref t) (.ref sl)) Q E s:=by
 have htake:sizeOk (.seq ((items.toList.drop (sIx items.size 0 lo)).take (sIx items.size items.size hi-sIx items.size 0 lo)).toArray):=by
  show ((items.toList.drop (sIx items.size 0 lo)).take (sIx items.size items.size hi-sIx items.size 0 lo)).toArray.size<=sizeLine
  rw [List.size_toArray,List.length_take,List.length_drop,Array.length_toList]
  omega
 have hj:sIx items.size items.size hi<=items.size:=El _ _ (Nat.le_refl _) hi
 obtain ⟨os,hos,hcs,hds⟩:=id hs
 have hTs:s.TypeIs (.ref sl) "slice":=⟨os,hos,hcs⟩
 unfold getItem
 try with_reducible refine wpAny_holding ?_
 first | refine wpAny_bind (wpAny_pure ?_) | skip
 refine wpAny_bind (wpAny_sequenceKey ht.typeIs (by decide) ?_)
 refine wpAny_bind (wpAny_callSpecial?_slot (name:=Str.ofString "__getitem__") ht.typeIs PyProof.Rows.slot_tuple_getitem
  (wpAny_call_entry PyProof.Rows.slot_tuple_getitem ht.typeIs entry_tuple_getitem ?_ (args_tuple_getitem _ _)))
 show wpAny _ _ (Builtin.Tuple.tupleItemsOf (.ref t) >>= _) _ _ s
 refine wpAny_bind (tupleItemsOf_ ht ?_)
 refine wpAny_bind (wpAny_typeOf hTs ?_)
 rw [if_pos (by decide)]
 refine wpAny_bind (hX hs pl pu ?_)
 have hno:¬ ((((sIx items.size 0 lo:Nat):Int)==0&&(1:Int)==1&&(sIx items.size items.size hi-sIx items.size 0 lo)==items.size)=true):=by
  intro q
  rw [Bool.and_eq_true,Bool.and_eq_true] at q
  have q1:((sIx items.size 0 lo:Nat):Int)=0:=eq_of_beq q.1.1
  have q2:sIx items.size items.size hi-sIx items.size 0 lo=items.size:=eq_of_beq q.2
  exact hw ⟨by omega,by omega⟩
 show wpAny _ _ (if (((sIx items.size 0 lo:Nat):Int)==0&&(1:Int)==1&&(sIx items.size items.size hi-sIx items.size 0 lo)==items.size)=true then _ else _) _ _ s
 rw [if_neg hno,yF]
 first
  | exact wpAny_bind (m:=Builtin.Tuple.tupleExact _) (wpAny_newObj_type (wpAny_pure ⟨_,rfl,wpAny_pure h⟩) htake)
  | exact wpAny_bind (m:=Builtin.Tuple.tupleExact _) (wpAny_newObj_type (wpAny_bind (wpAny_pure (wpAny_pure ⟨_,rfl,wpAny_pure h⟩))) htake)
  | exact wpAny_bind (wpAny_bind (m:=Builtin.Tuple.tupleExact _) (wpAny_newObj_type (wpAny_pure (wpAny_pure ⟨_,rfl,wpAny_pure h⟩)) htake))
  | exact wpAny_bind (wpAny_bind (m:=Builtin.Tuple.tupleExact _) (wpAny_newObj_type (wpAny_pure ⟨_,rfl,wpAny_pure h⟩) htake))
end
end HT
namespace L2
open PySem PySem.Spec PyProof.Rows
noncomputable abbrev TO:=St->Hp->(Option Int->Hp->Prop)->Prop
noncomputable def PO (X:Cx) (e:Option Expr) (t:TO):Prop:=
 ∀ (pins:List (Addr×Obj)) (s:Shared) (σ:St) (H:Hp) (Q:Option Int->Hp->Prop),Inv X pins σ H s->t σ H Q ->
  wpAny (model X.prog X.w) X.A (evalPart e X.env) (fun u s'=>∃ o H',Inv X pins σ H' s'/\IsPart u o/\Q o H') X.xe s
noncomputable def A8:TO:=fun _ H Q=>Q none H
noncomputable def Ha (t:TE):TO:=fun σ H Q=>t σ H fun x H1=>∃ i,x=.int i/\Q (some i) H1
section
variable {X:Cx} {e:Expr} {te:TE} {lo hi:Option Expr} {tl th:TO} {pos p2:Pos}
theorem Br:PO X none A8:=by
 intro pins s σ H Q I h
 rw [evalPart_none]
 exact wpAny_pure ⟨none,H,I,.none,h⟩
theorem Bq (h:PE X e te):PO X (some e) (Ha te):=by
 intro pins s σ H Q I hw
 rw [evalPart_some]
 refine dl (h pins s σ H _ I hw) fun u s1 ⟨x,H1,I1,r1,q1⟩=>?_
 obtain ⟨i,rfl,q⟩:=q1
 obtain ⟨t,rfl⟩:=r1
 exact ⟨some i,H1,I1,.int i t,q⟩
noncomputable def SlR (X:Cx) (r:V->Option Int->Option Int->Hp->VK->Prop):Prop:=
 ∀ (pins:List (Addr×Obj)) (s:Shared) (σ:St) (H:Hp) (x:V) (v vl vu:Value) (lo hi:Option Int) (sl:Addr) (Q:VK),Inv X pins σ H s->RelV x v->s.heap.IsSliceOf sl vl vu .none->IsPart vl lo->IsPart vu hi->r x lo hi H Q ->
  ∃ T id,typeLookup (.type T) "__getitem__" = pure (some (.builtin id))/\s.TypeIs v T/\wpAny (model X.prog X.w) X.A (getItem v (.ref sl)) (EP X pins σ Q) X.xe s
theorem SlR.or {r r':V->Option Int->Option Int->Hp->VK->Prop} (h:SlR X r) (h':SlR X r'):SlR X (fun x lo hi H Q=>r x lo hi H Q\/r' x lo hi H Q):=by
 intro pins s σ H x v vl vu lo hi sl Q I rx hs pl pu q
 rcases q with q | q
 ·exact h pins s σ H x v vl vu lo hi sl Q I rx hs pl pu q
 ·exact h' pins s σ H x v vl vu lo hi sl Q I rx hs pl pu q
noncomputable def Mj (r:V->Option Int->Option Int->Hp->VK->Prop) (te:TE) (tl th:TO):TE:=fun σ H Q=>te σ H fun x H1=>tl σ H1 fun l H2=>th σ H2 fun u H3=>r x l u H3 Q
theorem yH {r:V->Option Int->Option Int->Hp->VK->Prop} (hr:SlR X r) (he:PE X e te) (hl:PO X lo tl) (hu:PO X hi th):PE X (.Subscript e (.Slice lo hi none p2) pos) (Mj r te tl th):=by
 intro pins s σ H Q I h
 refine Subscript_ (dl (he pins s σ H _ I h) fun v s1 ⟨x,H1,I1,r1,q1⟩=>?_)
 refine wpAny_Slice (dl (hl pins s1 σ H1 _ I1 q1) fun vl s2 ⟨l,H2,I2,pl,q2⟩=>dl (hu pins s2 σ H2 _ I2 q2) fun vu s3 ⟨u,H3,I3,pu,q3⟩=>?_)
 rw [evalPart_none]
 refine wpAny_pure ?_
 have I4:Inv X pins σ H3 { s3 with heap:=s3.heap.push { cls:=.type "slice",data:=.fields #[vl,vu,.none] } }:=I3.kept (t':=s3.toks) fun b ob q=>Heap.get?_push_of_some _ q
 obtain ⟨T,id,hT,ht,hg⟩:=hr pins { s3 with heap:=s3.heap.push { cls:=.type "slice",data:=.fields #[vl,vu,.none] } } σ H3 x v vl vu l u s3.heap.objs.size Q I4 r1 (Heap.IsSliceOf.new ..) pl pu q3
 show wpAny (model X.prog X.w) X.A (subscriptTail e (.Slice lo hi none p2) v (.ref s3.heap.objs.size)) (EP X pins σ Q) X.xe { s3 with heap:=s3.heap.push { cls:=.type "slice",data:=.fields #[vl,vu,.none] } }
 exact tail_any (ops:=[.ref s3.heap.objs.size,v]) ht hT hg (by with_unfolding_all rfl)
noncomputable def oR (xs:List V) (lo hi:Option Int):List V:=(xs.drop (HT.sIx xs.length 0 lo)).take (HT.sIx xs.length xs.length hi-HT.sIx xs.length 0 lo)
theorem lG (xs:List V) (lo hi:Option Int):(oR xs lo hi).length<=xs.length:=by
 unfold oR
 rw [List.length_take,List.length_drop]
 omega
noncomputable def Kz (K:PySem.W.Frag):V->Option Int->Option Int->Hp->VK->Prop:=fun x lo hi H Q=>∃ a xs,x=.ref a/\SqT K H a xs /\
 ¬ (HT.sIx xs.length 0 lo=0/\HT.sIx xs.length xs.length hi=xs.length)/\∀ p,H p=none->Q (.ref p) (upd H p (.tup (oR xs lo hi)))
theorem sl_tup:SlR X (Kz X.K):=by
 intro pins s σ H x v vl vu lo hi sl Q I rx hs pl pu h
 obtain ⟨a,xs,rfl,hx,hw,q⟩:=h
 cases rx
 obtain ⟨its,r,ht,hz⟩:=I.tuple hx
 have hlen:its.toArray.size=xs.length:=by rw [List.size_toArray]; exact r.length.symm
 refine ⟨"tuple",_,PyProof.Rows.slot_tuple_getitem.lookup,ht.typeIs,?_⟩
 refine HT.kl ht hs pl pu (by rw [hlen]; exact hw) ?_ (by rw [hlen]; exact hz)
 rw [hlen]
 refine ⟨.ref s.heap.objs.size,_,I.laid (t':=s.toks) (o:=.tup (oR xs lo hi)) (fun b ob q=>Heap.get?_push_of_some _ q) (Nat.le_refl _) ?_,rfl,q _ (I.hok.fresh (Nat.le_refl _))⟩
 exact ⟨Nat.le_trans (lG xs lo hi) hz,_,(r.drop (HT.sIx xs.length 0 lo)).take (HT.sIx xs.length xs.length hi-HT.sIx xs.length 0 lo),IsTup.new _ _⟩
noncomputable def HH (K:PySem.W.Frag):R2:=fun x y H Q=>∃ a b xs ys,x=.ref a/\y=.ref b/\SqT K H a xs/\SqT K H b ys/\xs≠[]/\xs.length+ys.length<=sizeLine /\
 (ys=[]->Q (.ref a) H)/\(ys≠[]->∀ p,H p=none->Q (.ref p) (upd H p (.tup (xs++ys))))
theorem Vals.nil_iff {xs:List V} {us:List Value} (r:Vals xs us):us=[]↔xs=[]:=by
 cases r with
 | nil=>simp
 | cons _ _=>simp
theorem BB:OpR X (binaryOp .Add) (HH X.K):=by
 intro pins s σ H x y v u Q I rx ry h
 obtain ⟨a,b,xs,ys,rfl,rfl,ha,hb,hx,hz,q1,q2⟩:=h
 cases rx
 cases ry
 obtain ⟨its,r1,p1,_⟩:=I.tuple ha
 obtain ⟨its2,r2,p2,_⟩:=I.tuple hb
 refine HT.CY p1 p2 (fun z=>hx (r1.nil_iff.mp z)) (fun z=>⟨.ref a,H,I,rfl,q1 (r2.nil_iff.mp z)⟩) (fun z=>?_) (by rw [<- r1.length,<- r2.length]; exact hz)
 refine ⟨.ref s.heap.objs.size,_,I.laid (t':=s.toks) (o:=.tup (xs++ys)) (fun b ob q=>Heap.get?_push_of_some _ q) (Nat.le_refl _) ?_,rfl,q2 (fun w=>z (r2.nil_iff.mpr w)) _ (I.hok.fresh (Nat.le_refl _))⟩
 exact ⟨by rw [List.length_append]; exact hz,_,r1.append r2,IsTup.new _ _⟩
end
end L2
namespace L2
open PySem PySem.Spec PyProof.Rows
noncomputable def tJ (n:Nat) (i:Int):Option Nat:=if 0<=i then (if i<n then some i.toNat else none) else if -(n:Int)<=i then some (i+n).toNat else none
noncomputable def hU {α:Type} (xs:List α) (i:Int):Option α:=(tJ xs.length i).bind fun j=>xs[j]?
theorem vF {n:Nat} {i:Int} {j:Nat} (h:tJ n i=some j):seqIndex? i n=some j/\j<n /\ -(n:Int)<=i/\i<n:=by
 unfold tJ at h
 by_cases h0:0<=i
 ·rw [if_pos h0] at h
  by_cases h1:i<n
  ·rw [if_pos h1] at h
   have e:i.toNat=j:=Option.some.inj h
   exact ⟨by rw [seqIndex_of h0 h1,e],by omega,by omega,h1⟩
  ·rw [if_neg h1] at h; cases h
 ·rw [if_neg h0] at h
  by_cases h1:-(n:Int)<=i
  ·rw [if_pos h1] at h
   have e:(i+n).toNat=j:=Option.some.inj h
   exact ⟨by rw [seqIndex_neg (by omega) h1,e],by omega,h1,by omega⟩
  ·rw [if_neg h1] at h; cases h
theorem vX {α:Type} {xs:List α} {i:Int} {v:α} (h:hU xs i=some v):∃ j,seqIndex? i xs.length=some j/\xs[j]? = some v/\j<xs.length /\ -(xs.length:Int)<=i/\i<xs.length:=by
 unfold hU at h
 cases e:tJ xs.length i with
 | none=>rw [e] at h; cases h
 | some j=>
  rw [e] at h
  obtain ⟨h1,h2,h3,h4⟩:=vF e
  exact ⟨j,h1,h,h2,h3,h4⟩
noncomputable def mJ (b:Expr):Prop:=∀ o i,subscripted b false o i=operate [o,i] (getItem o i)
noncomputable def IxR (X:Cx) (r:R2):Prop:=
 ∀ (value slice:Expr) (pins:List (Addr×Obj)) (s:Shared) (σ:St) (H:Hp) (x y:V) (v u:Value) (Q:VK),Inv X pins σ H s->RelV x v->RelV y u->r x y H Q ->
  subscripted slice false v u=operate [v,u] (getItem v u)->wpAny (model X.prog X.w) X.A (subscriptTail value slice v u) (EP X pins σ Q) X.xe s
noncomputable def MtR (X:Cx) (id:String) (r:V->List V->Hp->VK->Prop):Prop:=
 ∀ (pins:List (Addr×Obj)) (s:Shared) (σ:St) (H:Hp) (x:V) (xs:List V) (v:Value) (us:List Value) (Q:VK),Inv X pins σ H s->RelV x v->Vals xs us->r x xs H Q ->
  wpAny (model X.prog X.w) X.A (call (.builtin id) (v::us)) (EP X pins σ Q) X.xe s
section
variable {X:Cx} {a b:Expr} {ta tb:TE} {pos:Pos}
theorem IxR.or {r r':R2} (h:IxR X r) (h':IxR X r'):IxR X (fun x y H Q=>r x y H Q\/r' x y H Q):=by
 intro value slice pins s σ H x y v u Q I rx ry q hs
 rcases q with q | q
 ·exact h value slice pins s σ H x y v u Q I rx ry q hs
 ·exact h' value slice pins s σ H x y v u Q I rx ry q hs
theorem MtR.or {id:String} {r r':V->List V->Hp->VK->Prop} (h:MtR X id r) (h':MtR X id r'):MtR X id (fun x xs H Q=>r x xs H Q\/r' x xs H Q):=by
 intro pins s σ H x xs v us Q I rx rs q
 rcases q with q | q
 ·exact h pins s σ H x xs v us Q I rx rs q
 ·exact h' pins s σ H x xs v us Q I rx rs q
theorem yJ {r:R2} (hr:IxR X r) (ha:PE X a ta) (hb:PE X b tb) (hs:mJ b):PE X (.Subscript a b pos) (Hb r ta tb):=by
 intro pins s σ H Q I h
 exact Subscript_ (Gk ha hb I h fun v u s2 x y H2 I2 rx ry q=>hr a b pins s2 σ H2 x y v u Q I2 rx ry q (hs _ _))
noncomputable def KC (K:PySem.W.Frag):R2:=fun x y H Q=>∃ p xs i v,x=.ref p/\y=.int i/\SqL K H p xs/\hU xs i=some v/\Q v H
noncomputable def KB (K:PySem.W.Frag):R2:=fun x y H Q=>∃ p xs i v,x=.ref p/\y=.int i/\SqT K H p xs/\hU xs i=some v/\Q v H
theorem ix_list:IxR X (KC X.K):=by
 intro value slice pins s σ H x y v u Q I rx ry h hs
 obtain ⟨p,xs,i,z,rfl,rfl,hq,he,q⟩:=h
 cases rx
 obtain ⟨t,rfl⟩:=ry
 obtain ⟨its,r,pl,hz⟩:=I.list hq
 obtain ⟨j,h1,h2,h3,h4,h5⟩:=vX he
 obtain ⟨w,ew,rw'⟩:=r.get h2
 have hl:=r.length
 have hn:=qB
 have fin:EP X pins σ Q w s:=⟨z,H,I,rw',q⟩
 by_cases h0:0<=i
 ·have hj:i.toNat=j:=by
   rw [seqIndex_of h0 h5] at h1
   exact Option.some.inj h1
  exact item_listR pl.isList h0 (by omega) (by rw [hj]; simpa using ew) fin hs
 ·have hj:(i+(its.toArray.size:Int)).toNat=j:=by
   rw [seqIndex_neg (by omega) h4] at h1
   rw [List.size_toArray,<- hl]
   exact Option.some.inj h1
  exact subscriptTail_builtinR (x:=w) pl.isList.typeIs slot_list_getitem.lookup
   (wpAny_getItem_list_neg (Q:=fun r s'=>r=w/\EP X pins σ Q r s') pl.isList (by omega) (by rw [List.size_toArray] <;> omega) (by omega) (by rw [hj]; simpa using ew) ⟨rfl,fin⟩) hs
theorem zK:IxR X (KB X.K):=by
 intro value slice pins s σ H x y v u Q I rx ry h hs
 obtain ⟨p,xs,i,z,rfl,rfl,hq,he,q⟩:=h
 cases rx
 obtain ⟨t,rfl⟩:=ry
 obtain ⟨its,r,pl,hz⟩:=I.tuple hq
 obtain ⟨j,h1,h2,h3,h4,h5⟩:=vX he
 obtain ⟨w,ew,rw'⟩:=r.get h2
 have hl:=r.length
 have hn:=qB
 have fin:EP X pins σ Q w s:=⟨z,H,I,rw',q⟩
 exact subscriptTail_builtinR (x:=w) pl.typeIs slot_tuple_getitem.lookup
  (getItem_tuple (j:=j) (Q:=fun r s'=>r=w/\EP X pins σ Q r s') pl (by omega) (by omega) (by rw [List.size_toArray,<- hl]; exact h1) (by simpa using ew) ⟨rfl,fin⟩) hs
theorem ur (its:List Value) (n j:Nat) (u:Value):Obj.mapSeq (·.setIfInBounds j u) { cls:=.type "list",data:=.seq its.toArray n }={ cls:=.type "list",data:=.seq (its.set j u).toArray n }:=by
 simp [Obj.mapSeq]
theorem Inv.lst {pins:List (Addr×Obj)} {σ:St} {H:Hp} {s:Shared} {p:Addr} {xs:List V} (I:Inv X pins σ H s) (h:H p=some (.lst xs)) :
  ∃ (its:List Value) (n:Nat),Vals xs its/\s.heap.get? p=some { cls:=.type "list",data:=.seq its.toArray n }/\xs.length<=sizeLine:=by
 obtain ⟨z,its,n,r,e⟩:=I.hok p _ h
 exact ⟨its,n,r,e,z⟩
theorem Inv.lstUpd {pins:List (Addr×Obj)} {σ:St} {H:Hp} {s:Shared} {p:Addr} {xs ys:List V} {its its':List Value} {n n':Nat} {f:Obj->Obj} (I:Inv X pins σ H s) (h:H p=some (.lst xs))
  (ho:s.heap.get? p=some { cls:=.type "list",data:=.seq its.toArray n }) (hf:f { cls:=.type "list",data:=.seq its.toArray n }={ cls:=.type "list",data:=.seq its'.toArray n' }) (r:Vals ys its') (hz:ys.length<=sizeLine) (t:Nat) :
  Inv X pins σ (upd H p (.lst ys)) { s with heap:=s.heap.update p f,toks:=t }:=by
 have e:(s.heap.update p f).get? p=some { cls:=.type "list",data:=.seq its'.toArray n' }:=by
  rw [Heap.get?_update_self f ho (by rw [hf] <;> rfl),hf]
 refine I.write (x:=p) (e:=p) (by rw [h]; trivial) (.inl rfl) (fun b u hb q=>(Heap.get?_update_other _ _ (Ne.symm hb)).trans q) ⟨_,e⟩ ?_
 exact ⟨hz,its',n',r,e⟩
noncomputable def HG:V->V->V->Hp->(Hp->Prop)->Prop:=fun o i v H Q=>∃ p xs k j,o=.ref p/\i=.int k/\H p=some (.lst xs)/\tJ xs.length k=some j/\Q (upd H p (.lst (xs.set j v)))
theorem rZ:Jy X HG:=by
 intro pins s σ H o i v ov iv u Q I ro ri rv h
 obtain ⟨p,xs,k,j,rfl,rfl,hp,hj,q⟩:=h
 cases ro
 obtain ⟨t,rfl⟩:=ri
 obtain ⟨its,n,r,ho,hz⟩:=I.lst hp
 obtain ⟨h1,h2,h3,h4⟩:=vF hj
 have hl:=r.length
 have hn:=qB
 have I':Inv X pins σ (upd H p (.lst (xs.set j v))) { s with heap:=s.heap.update p (Obj.mapSeq (·.setIfInBounds j u)) }:=
  I.lstUpd hp ho (ur its n j u) (r.set rv j) (by rw [List.length_set]; exact hz) s.toks
 by_cases h0:0<=k
 ·have hk:k.toNat=j:=by
   rw [seqIndex_of h0 h4] at h1
   exact Option.some.inj h1
  exact PySem.W.ki_setAt ho h0 (by omega) (by rw [List.size_toArray,<- hl]; exact h4) (by rw [hk]; exact ⟨_,I',q⟩)
 ·have hk:(k+(its.toArray.size:Int)).toNat=j:=by
   rw [seqIndex_neg (by omega) h3] at h1
   rw [List.size_toArray,<- hl]
   exact Option.some.inj h1
  exact PySem.W.ki_setBack ho (by omega) (by rw [List.size_toArray,<- hl]; exact h3) (by omega) (by rw [hk]; exact ⟨_,I',q⟩)
theorem p7 (lo hi:Option Int) (n:Nat):(sliceBounds lo hi none n).1=((HT.sIx n 0 lo:Nat):Int)/\(sliceBounds lo hi none n).2.1=((HT.sIx n n hi:Nat):Int)/\(sliceBounds lo hi none n).2.2=1:=by
 refine ⟨?_,?_,rfl⟩
 ·cases lo with
  | none=>simp [sliceBounds,HT.sIx]
  | some i=>
   simp only [sliceBounds,HT.sIx,Option.getD_none,show (1:Int)>0 by decide,if_true]
   by_cases h:i<0
   ·simp only [h,if_true] <;> omega
   ·simp only [h,if_false] <;> omega
 ·cases hi with
  | none=>simp [sliceBounds,HT.sIx]
  | some i=>
   simp only [sliceBounds,HT.sIx,Option.getD_none,show (1:Int)>0 by decide,if_true]
   by_cases h:i<0
   ·simp only [h,if_true] <;> omega
   ·simp only [h,if_false] <;> omega
theorem oD (its:List Value) (lo hi:Option Int):slicePick its.toArray lo hi none=((its.drop (HT.sIx its.length 0 lo)).take (HT.sIx its.length its.length hi-HT.sIx its.length 0 lo)).toArray:=by
 obtain ⟨h1,h2,h3⟩:=p7 lo hi its.toArray.size
 unfold slicePick
 rw [h1,h2,h3]
 simp only [sliceRange_one,pick_run,List.size_toArray] <;> rfl
noncomputable def KA (K:PySem.W.Frag):V->Option Int->Option Int->Hp->VK->Prop:=fun x lo hi H Q=>∃ a xs,x=.ref a/\SqL K H a xs/\∀ p,H p=none->Q (.ref p) (upd H p (.lst (oR xs lo hi)))
theorem sl_list:SlR X (KA X.K):=by
 intro pins s σ H x v vl vu lo hi sl Q I rx hs pl pu h
 obtain ⟨a,xs,rfl,hx,q⟩:=h
 cases rx
 obtain ⟨its,r,ht,hz⟩:=I.list hx
 have hlen:=r.length
 refine ⟨"list",_,slot_list_getitem.lookup,ht.isList.typeIs,?_⟩
 refine wpAny_getItem_list_slice ht.isList hs pl pu .none (by simp) ?_ (by rw [List.size_toArray] <;> omega)
 rw [oD,<- hlen]
 refine ⟨.ref s.heap.objs.size,_,I.laid (t':=s.toks) (o:=.lst (oR xs lo hi)) (fun b ob q=>Heap.get?_push_of_some _ q) (Nat.le_refl _) ?_,rfl,q _ (I.hok.fresh (Nat.le_refl _))⟩
 exact ⟨Nat.le_trans (lG xs lo hi) hz,_,0,(r.drop (HT.sIx xs.length 0 lo)).take (HT.sIx xs.length xs.length hi-HT.sIx xs.length 0 lo),Heap.get?_push_size _ rfl⟩
noncomputable def jD:V->Bool
 | .non=>true
 | .bl _=>true
 | .int _=>true
 | .str _=>true
 | _=>false
noncomputable def A0:V->V->Bool
 | .non,.non=>true
 | .bl a,.bl b=>a==b
 | .bl a,.int b=>(if a then 1 else 0)==b
 | .int a,.bl b=>a==(if b then 1 else 0)
 | .int a,.int b=>a==b
 | .str a,.str b=>a==b
 | _,_=>false
theorem F9 {A:Around} {s:Shared} {y x:V} {u v:Value} (ry:RelV y u) (rx:RelV x v) (fy:jD y=true) (fx:jD x=true):SeqAt.EqAt A s u v (A0 y x):=by
 cases y with
 | non=>
  cases ry
  cases x with
  | non=>cases rx; exact SeqAt.EqAt.same _
  | bl b=>cases rx; exact SeqAt.EqAt.none_bool b
  | int b=>obtain ⟨t,rfl⟩:=rx; exact SeqAt.EqAt.none_int b t
  | str b=>obtain ⟨t,rfl⟩:=rx; exact SeqAt.EqAt.none_str b t
  | _=>exact absurd (show false=true from fx) Bool.false_ne_true
 | bl a=>
  cases ry
  cases x with
  | non=>cases rx; exact SeqAt.EqAt.bool_none a
  | bl b=>cases rx; exact SeqAt.EqAt.bool_bool a b
  | int b=>obtain ⟨t,rfl⟩:=rx; exact SeqAt.EqAt.bool_int a b t
  | str b=>obtain ⟨t,rfl⟩:=rx; exact SeqAt.EqAt.bool_str a b t
  | _=>exact absurd (show false=true from fx) Bool.false_ne_true
 | int a=>
  obtain ⟨t',rfl⟩:=ry
  cases x with
  | non=>cases rx; exact SeqAt.EqAt.int_none a t'
  | bl b=>cases rx; exact SeqAt.EqAt.int_bool a t' b
  | int b=>obtain ⟨t,rfl⟩:=rx; exact SeqAt.EqAt.int_int a t' b t
  | str b=>obtain ⟨t,rfl⟩:=rx; exact SeqAt.EqAt.int_str a t' b t
  | _=>exact absurd (show false=true from fx) Bool.false_ne_true
 | str a=>
  obtain ⟨t',rfl⟩:=ry
  cases x with
  | non=>cases rx; exact SeqAt.EqAt.str_none a t'
  | bl b=>cases rx; exact SeqAt.EqAt.str_bool a t' b
  | int b=>obtain ⟨t,rfl⟩:=rx; exact SeqAt.EqAt.str_int a t' b t
  | str b=>obtain ⟨t,rfl⟩:=rx; exact SeqAt.EqAt.str_str a t' b t
  | _=>exact absurd (show false=true from fx) Bool.false_ne_true
 | _=>exact absurd (show false=true from fy) Bool.false_ne_true
noncomputable def CN (x:V) (u:Value):Bool:=match u with
 | .none=>A0 .non x
 | .bool b=>A0 (.bl b) x
 | .int i _=>A0 (.int i) x
 | .str z _=>A0 (.str z) x
 | _=>false
theorem zW {x y:V} {u:Value} (r:RelV y u) (f:jD y=true):CN x u=A0 y x:=by
 cases y with
 | non=>cases r; rfl
 | bl b=>cases r; rfl
 | int i=>obtain ⟨t,rfl⟩:=r; rfl
 | str z=>obtain ⟨t,rfl⟩:=r; rfl
 | _=>exact absurd (show false=true from f) Bool.false_ne_true
theorem rp {x:V}:∀ {xs:List V} {us:List Value},Vals xs us->xs.all jD=true->us.any (CN x)=xs.any fun y=>A0 y x
 | _,_,.nil,_=>rfl
 | y::xs,u::us,.cons r t,f=>by
  rw [List.all_cons,Bool.and_eq_true] at f
  rw [List.any_cons,List.any_cons,zW r f.1,rp t f.2]
theorem nw {A:Around} {s:Shared} {x:V} {v:Value} (rx:RelV x v) (fx:jD x=true):∀ {xs:List V} {us:List Value},Vals xs us->xs.all jD=true->∀ u∈us,SeqAt.EqAt A s u v (CN x u)
 | _,_,.nil,_=>fun u hu=>by cases hu
 | y::xs,u::us,.cons r t,f=>fun u' hu=>by
  rw [List.all_cons,Bool.and_eq_true] at f
  rcases List.mem_cons.mp hu with rfl | hu
  ·rw [zW r f.1]; exact F9 r rx f.1 fx
  ·exact nw rx fx t f.2 u' hu
noncomputable def JN (x:V) (xs:List V):Bool:=xs.any fun y=>A0 y x
noncomputable def KD (K:PySem.W.Frag) (neg:Bool):R2:=fun x y H Q=>∃ p xs,y=.ref p/\(SqL K H p xs\/SqT K H p xs)/\jD x=true/\xs.all jD=true/\Q (.bl (if neg then !JN x xs else JN x xs)) H
theorem wG:OpR X (compareOp .In) (KD X.K false):=by
 intro pins s σ H x y v u Q I rx ry h
 obtain ⟨p,xs,rfl,hq,fx,fs,q⟩:=h
 cases ry
 rcases hq with hq | hq
 ·obtain ⟨its,r,pl,hz⟩:=I.list hq
  refine SeqAt.in_listAt (CN x) pl.isList (fun w hw=>nw rx fx r fs w (by simpa using hw)) ⟨.bl _,H,I,rfl,?_⟩
  rw [show its.toArray.any (CN x)=its.any (CN x) by simp,rp r fs]
  exact q
 ·obtain ⟨its,r,pl,hz⟩:=I.tuple hq
  refine SeqAt.in_tupleAt (CN x) pl (fun w hw=>nw rx fx r fs w (by simpa using hw)) ⟨.bl _,H,I,rfl,?_⟩
  rw [show its.toArray.any (CN x)=its.any (CN x) by simp,rp r fs]
  exact q
theorem CallR.or {f:Value} {r r':List V->Hp->VK->Prop} (h:CallR X f r) (h':CallR X f r'):CallR X f (fun xs H Q=>r xs H Q\/r' xs H Q):=by
 intro pins s σ H xs us Q I rs q
 rcases q with q | q
 ·exact h pins s σ H xs us Q I rs q
 ·exact h' pins s σ H xs us Q I rs q
theorem kq:CallR X (.type "list") (fun xs H Q=>∃ p ys,xs=[.ref p]/\(SqL X.K H p ys\/SqT X.K H p ys)/\∀ l,H l=none->Q (.ref l) (upd H l (.lst ys))):=by
 intro pins s σ H xs us Q I r h
 obtain ⟨p,ys,rfl,hq,q⟩:=h
 obtain ⟨u,rfl,rx⟩:=o5 r
 cases rx
 have fin:∀ (its:List Value),Vals ys its->ys.length<=sizeLine->∀ (h':Heap) (c':Nat),(∀ b o',s.heap.get? b=some o'->h'.get? b=some o') ->
   h'.get? s.heap.objs.size=some { cls:=.type "list",dict:=none,data:=.seq its.toArray c',slots:=#[] }->EP X pins σ Q (.ref s.heap.objs.size) { s with heap:=h' }:=fun its r' hz h' c' kp e=>
  ⟨.ref s.heap.objs.size,_,I.laid (t':=s.toks) kp (Nat.le_refl _) (show ObjOk X.prog X.w _ h' _ (.lst ys) from ⟨hz,its,c',r',e⟩),rfl,q _ (I.hok.fresh (Nat.le_refl _))⟩
 rcases hq with hq | hq
 ·obtain ⟨its,r',pl,hz⟩:=I.list hq
  have hlen:=r'.length
  obtain ⟨o,ho,hc,n,hd⟩:=pl.isList
  exact call_list_seq p (.inl rfl) ho hc hd (fun h' c' kp e=>fin its r' hz h' c' kp e) (by simp only [List.size_toArray] <;> omega)
 ·obtain ⟨its,r',pl,hz⟩:=I.tuple hq
  have hlen:=r'.length
  obtain ⟨o,ho,hc,n,hd⟩:=pl
  exact call_list_seq p (.inr rfl) ho hc hd (fun h' c' kp e=>fin its r' hz h' c' kp e) (by simp only [List.size_toArray] <;> omega)
theorem oU:CallR X (.type "tuple") (fun xs H Q=>∃ p ys,xs=[.ref p]/\((SqL X.K H p ys/\∀ l,H l=none->Q (.ref l) (upd H l (.tup ys)))\/(SqT X.K H p ys/\Q (.ref p) H))):=by
 intro pins s σ H xs us Q I r h
 obtain ⟨p,ys,rfl,h⟩:=h
 obtain ⟨u,rfl,rx⟩:=o5 r
 cases rx
 rcases h with ⟨hq,q⟩ | ⟨hq,q⟩
 ·obtain ⟨its,r',pl,hz⟩:=I.list hq
  have hlen:=r'.length
  refine call_tuple_list pl.isList (fun h' kp=>?_) (by simp only [List.size_toArray] <;> omega)
  have I1:Inv X pins σ H { s with heap:=h' }:=I.kept (t':=s.toks) kp
  have I2:Inv X pins σ (upd H h'.objs.size (.tup ys)) { s with heap:=h'.push { cls:=.type "tuple",data:=.seq its.toArray } }:=
   I1.laid (t':=s.toks) (fun b o e=>Heap.get?_push_of_some _ e) (Nat.le_refl _) (show ObjOk X.prog X.w _ _ _ (.tup ys) from ⟨hz,its,r',IsTup.new _ _⟩)
  exact ⟨.ref h'.objs.size,_,I2,rfl,q _ (I1.hok.fresh (Nat.le_refl _))⟩
 ·obtain ⟨its,r',pl,hz⟩:=I.tuple hq
  exact call_tuple_same pl ⟨.ref p,H,I,rfl,q⟩
noncomputable def JZ (K:PySem.W.Frag) (T:String) (x:V) (H:Hp):Prop:=match x with
 | .str _=>T = "str"
 | .int _=>T = "int"
 | .ref p=>(T = "list" /\ ∃ xs,SqL K H p xs)\/(T = "tuple" /\ ∃ o,K.lookup p=some o/\o.cls=.type "tuple" /\ o.dict=none) \/
   (T = "dict" /\ ((∃ kvs,H p=some (.dK kvs))\/∃ kvs,H p=some (.dT kvs)))\/(T = "set" /\ ∃ S n,H p=some (.set S n))
 | _=>False
theorem xN {pins:List (Addr×Obj)} {σ:St} {H:Hp} {s:Shared} {T:String} {x:V} {v:Value} (I:Inv X pins σ H s) (r:RelV x v) (ty:JZ X.K T x H) :
  s.TypeIs v T/\∀ a,v=.ref a->∃ ob,s.heap.get? a=some ob/\ob.dict=none:=by
 cases x with
 | str z=>
  obtain ⟨t,rfl⟩:=r
  cases (show T = "str" from ty)
  exact ⟨typeIs_str s z t,fun _ e=>nomatch e⟩
 | int i=>
  obtain ⟨t,rfl⟩:=r
  cases (show T = "int" from ty)
  exact ⟨typeIs_int s i t,fun _ e=>nomatch e⟩
 | ref p=>
  cases r
  rcases ty with ⟨rfl,xs,hq⟩ | ⟨rfl,o,hk,hc,hd⟩ | ⟨rfl,hk⟩ | ⟨rfl,S,n,hk⟩
  ·obtain ⟨its,_,pl,_⟩:=I.list hq
   refine ⟨pl.isList.typeIs,fun a e=>?_⟩
   cases e
   obtain ⟨o,n,e,c,hd,_⟩:=pl
   exact ⟨o,e,hd⟩
  ·refine ⟨⟨o,I.kIn p o hk,hc⟩,fun a e=>?_⟩
   cases e
   exact ⟨o,I.kIn _ o hk,hd⟩
  ·have z:∃ o,s.heap.get? p=some o/\o.ExactDict:=by
    rcases hk with ⟨kvs,hk⟩ | ⟨kvs,hk⟩
    ·obtain ⟨_,_,_,_,o,_,_,e,ex,_⟩:=I.hok p _ hk
     exact ⟨o,e,ex⟩
    ·obtain ⟨_,_,_,_,o,_,_,e,ex,_⟩:=I.hok p _ hk
     exact ⟨o,e,ex⟩
   obtain ⟨o,e,ex⟩:=z
   refine ⟨⟨o,e,ex.1⟩,fun a e2=>?_⟩
   cases e2
   exact ⟨o,e,ex.2.1⟩
  ·obtain ⟨o,_,_,_,e,ex,_⟩:=I.hok p _ hk
   refine ⟨⟨o,e,ex.1⟩,fun a e2=>?_⟩
   cases e2
   exact ⟨o,e,ex.2.1⟩
 | _=>exact False.elim ty
noncomputable def Kk (K:PySem.W.Frag) (T:String) (r:V->List V->Hp->VK->Prop) (to:TE):TE:=fun σ H Q=>to σ H fun x H1=>JZ K T x H1/\r x [] H1 Q
noncomputable def Mn (K:PySem.W.Frag) (T:String) (r:V->List V->Hp->VK->Prop) (to:TE) (t:TA):TE:=fun σ H Q=>to σ H fun x H1=>JZ K T x H1/\t σ H1 fun xs H2=>r x xs H2 Q
variable {o e:Expr} {es:List Expr} {to:TE} {t:TA} {name:Str} {apos cpos:Pos} {T id:String} {r:V->List V->Hp->VK->Prop}
theorem EN (pa:PlainAttrs T) (slot:Slot T name id) (hty:typeOf (.builtin id)=pure (.type "method_descriptor")) (hm:MtR X id r) (ho:PE X o to)
  (hbase:attributeBase o name X.env (eval o X.env)=eval o X.env:=by rfl) (hline:(apos.endLine==cpos.line)=true:=by rfl):PE X (.Call (.Attribute o name apos) [] [] cpos) (Kk X.K T r to):=by
 intro pins s σ H Q I h
 refine wpAny_Call_method0_late hbase hline (dl (ho pins s σ H _ I h) fun v s1 ⟨x,H1,I1,r1,ty,q1⟩=>?_)
 obtain ⟨h1,h2⟩:=xN I1 r1 ty
 exact ⟨T,id,pa,slot,hty,h1,h2,Calls.callWith_builtin rfl (PySem.evalArgs_none (hm pins s1 σ H1 x [] v [] Q I1 r1 .nil q1))⟩
theorem HL (pa:PlainAttrs T) (slot:Slot T name id) (hty:typeOf (.builtin id)=pure (.type "method_descriptor")) (hm:MtR X id r) (ho:PE X o to) (ha:PA X (e::es) t)
  (hbase:attributeBase o name X.env (eval o X.env)=eval o X.env:=by rfl)
  (hfew:((backTo cpos (starEach (e::es) X.env)).all (fun x=>!x.1)&&(backToKw cpos (keywordEach [] X.env)).all (fun x=>x.1.isSome)
   && decide ((e::es).length+([]:List Keyword).length+(if ([]:List Keyword).isEmpty then 0 else 1)<30))=true:=by rfl)
  (hline:(apos.endLine==cpos.line)=true:=by rfl) (hs:starEach (e::es) X.env=(false,eval e X.env)::starEach es X.env:=by rfl) (hplain:(backTo cpos (starEach es X.env)).any (·.1)=false:=by rfl) :
  PE X (.Call (.Attribute o name apos) (e::es) [] cpos) (Mn X.K T r to t):=by
 intro pins s σ H Q I h
 refine wpAny_Call_method_late hbase hfew hline rfl (dl (ho pins s σ H _ I h) fun v s1 ⟨x,H1,I1,r1,ty,q1⟩=>?_)
 obtain ⟨h1,h2⟩:=xN I1 r1 ty
 refine ⟨T,id,pa,slot,hty,h1,h2,?_⟩
 have hA:=ha cpos pins s1 σ H1 _ I1 q1
 rw [hs] at hA ⊢
 refine Calls.callWith_builtin (by show (false||(backTo cpos (starEach es X.env)).any (·.1))=false; rw [hplain] <;> rfl) (Calls.evalArgs_plain ?_)
 exact dl hA fun us s2 ⟨vs,H2,I2,r2,q2⟩=>hm pins s2 σ H2 x vs v us Q I2 r1 r2 q2
end
end L2
namespace L2
open PySem PySem.Spec PyProof.Rows
noncomputable def MR (X:Cx) (id:String) (r:V->List V->Hp->VK->Prop):Prop:=
 ∀ (pins:List (Addr×Obj)) (s:Shared) (σ:St) (H:Hp) (x:V) (xs:List V) (v:Value) (us:List Value) (Q:VK),Inv X pins σ H s->RelV x v->Vals xs us->r x xs H Q ->
  wpAny (model X.prog X.w) X.A (call (.builtin id) (v::us)) (EP X pins σ Q) X.xe s
theorem Vals.one:∀ {x:V} {us:List Value},Vals [x] us->∃ u,us=[u]/\RelV x u
 | _,_,h=>by
  cases h with
  | cons r t=>
   cases t
   exact ⟨_,rfl,r⟩
theorem Vals.two:∀ {x y:V} {us:List Value},Vals [x,y] us->∃ u v,us=[u,v]/\RelV x u/\RelV y v
 | _,_,_,h=>by
  cases h with
  | cons r t=>
   cases t with
   | cons q t2=>
    cases t2
    exact ⟨_,_,rfl,r,q⟩
theorem Vals.zero:∀ {us:List Value},Vals [] us->us=[]
 | _,.nil=>rfl
theorem Vals.reverse {xs:List V} {us:List Value} (h:Vals xs us):Vals xs.reverse us.reverse:=by
 induction h with
 | nil=>exact .nil
 | cons r t ih=>rw [List.reverse_cons,List.reverse_cons]; exact Vals.append ih (.cons r .nil)
theorem Vals.rep {xs:List V} {us:List Value} (h:Vals xs us):∀ k:Nat,Vals (List.replicate k xs).flatten (List.replicate k us).flatten
 | 0=>.nil
 | k+1=>by
  rw [List.replicate_succ,List.replicate_succ,List.flatten_cons,List.flatten_cons]
  exact Vals.append h (Vals.rep h k)
theorem pD (its:List Value):∀ (k:Nat) (acc:List Value),
  List.foldl (fun x1 x2=>x1++x2) acc.toArray (List.replicate k its.toArray)=(acc++(List.replicate k its).flatten).toArray
 | 0,acc=>by simp
 | k+1,acc=>by
  have e:acc.toArray++its.toArray=(acc++its).toArray:=by simp
  have e2:(acc++its)++(List.replicate k its).flatten=acc++(List.replicate (k+1) its).flatten:=by
   rw [List.replicate_succ,List.flatten_cons,List.append_assoc]
  rw [<- e2,<- pD its k (acc++its),<- e,List.replicate_succ,List.foldl_cons]
section
variable {X:Cx} {pins:List (Addr×Obj)} {σ:St} {H:Hp} {s:Shared} {l b:Addr} {xs ys zs:List V}
theorem Inv.lset {its its':List Value} {n:Nat} {f:Array Value->Array Value} {t':Nat} (I:Inv X pins σ H s) (hH:H l=some (.lst xs))
  (e:s.heap.get? l=some { cls:=.type "list",data:=.seq its.toArray n }) (hf:f its.toArray=its'.toArray) (hv:Vals ys its') (hz:ys.length<=sizeLine) :
  Inv X pins σ (upd H l (.lst ys)) { s with heap:=s.heap.update l (Obj.mapSeq f),toks:=t' }:=by
 have q:=PySem.IsL.update e f
 rw [hf] at q
 refine I.write (x:=l) (e:=l) (by rw [hH]; exact trivial) (.inl rfl) (fun b' u hb hu=>(Heap.get?_update_other s.heap (Obj.mapSeq f) (Ne.symm hb)).trans hu) ⟨_,q⟩ ?_
 exact ⟨hz,its',_,hv,q⟩
theorem Inv.lnew {its:List Value} {t':Nat} (I:Inv X pins σ H s) (hv:Vals ys its) (hz:ys.length<=sizeLine) :
  Inv X pins σ (upd H s.heap.objs.size (.lst ys)) { s with heap:=s.heap.push { cls:=.type "list",data:=.seq its.toArray },toks:=t' }:=
 I.laid (fun _ _ q=>Heap.get?_push_of_some _ q) (Nat.le_refl _) ⟨hz,its,0,hv,Heap.get?_push_size _ rfl⟩
theorem Inv.fresh (I:Inv X pins σ H s):H s.heap.objs.size=none:=I.hok.fresh (Nat.le_refl _)
theorem Inv.lstM (I:Inv X pins σ H s) (hH:H l=some (.lst xs)):xs.length<=sizeLine/\∃ (its:List Value) (n:Nat),Vals xs its/\xs.length=its.length/\s.heap.get? l=some { cls:=.type "list",data:=.seq its.toArray n }:=by
 obtain ⟨z,its,n,r,e⟩:=I.hok l _ hH
 exact ⟨z,its,n,r,r.length,e⟩
theorem y9 {n:Nat} (h:n<=sizeLine):Builtin.List.listTooLong n=false:=by
 unfold Builtin.List.listTooLong
 exact decide_eq_false (by omega)
end
section
variable {X:Cx}
noncomputable def Bm:V->List V->Hp->VK->Prop:=fun x vs H Q=>∃ l xs y,x=.ref l/\vs=[y]/\H l=some (.lst xs)/\xs.length<sizeLine/\Q .non (upd H l (.lst (xs++[y])))
theorem wQ:MR X "list.append" Bm:=by
 intro pins s σ H x vs v us Q I rx rv h
 obtain ⟨l,xs,y,rfl,rfl,hH,hz,q⟩:=h
 cases rx
 obtain ⟨u,rfl,ru⟩:=rv.one
 obtain ⟨z,its,n,r,hl,e⟩:=I.lstM hH
 refine call_meets F.slot_list_append ⟨_,e,rfl⟩ F.entry_list_append (F.args_list_append_2 _ _) (PySem.list_append l its.toArray n u (by rw [List.size_toArray]; omega)) ⟨e,?_⟩
 refine ⟨.non,_,I.lset (its':=its++[u]) hH e (by simp) (r.append (.cons ru .nil)) ?_,rfl,q⟩
 rw [List.length_append,List.length_singleton]
 omega
theorem B5 {α:Type} (xs:List α) (k:Nat):(List.replicate k xs).flatten.length=k*xs.length:=by
 induction k with
 | zero=>simp
 | succ k ih=>rw [List.replicate_succ,List.flatten_cons,List.length_append,ih,Nat.succ_mul,Nat.add_comm]
end
section
variable {prog:Program} {w:World} {A:Around} {E:Value->Shared->Prop} {s:Shared}
end
section
variable {X:Cx}
end
end L2
namespace Att
open PySem PySem.W PySem.Calls PyProof.Rows
theorem lZ {P:Params} {h:Heap}:∀ (ns:List Int) (vs:List Value),WellAll P h vs (ns.map WData.int)->IntsAre vs ns:=by
 intro ns
 induction ns with
 | nil=>
  intro vs w
  rw [List.map_nil] at w
  cases w
  exact .nil
 | cons n ns ih=>
  intro vs w
  rw [List.map_cons] at w
  cases w with
  | cons a b=>
   cases a
   exact .cons _ _ (ih _ b)
theorem ww {l:OpenLaw} {n:Nat} (hn:l.most=some n) {P:Params} {h:Heap} {args:List WData} {vals:List Value}
  (hpre:l.row.toRowW.claim.pre args=true) (hwl:WellAll P h vals args) :
  ∃ a vs ns,vals=[Value.ref a]/\args=[WData.list (ns.map WData.int)]/\h.get? a=some { cls:=.type "list",data:=.seq vs.toArray }/\IntsAre vs ns/\ns.length<=n:=by
 have hsh:WShape.hasAll [] args [.list .int]=true:=(pre_splitW hpre).1
 have hc:l.pre.holds [] { args:=args }=true:=(pre_splitW hpre).2
 obtain ⟨d,r,rfl,h1,h2⟩:=hasAllW_cons hsh
 obtain rfl:=hasAllW_nil h2
 obtain ⟨xs,rfl,h3⟩:=hasW_list h1
 obtain ⟨ns,rfl⟩:=items_int h3
 have hlen:ns.length<=n:=by
  unfold OpenLaw.pre at hc
  have h4:(WTm.not (.lt (.lit (.int (n:Int))) (.len (.arg 0)))).holds [] { args:=[.list (ns.map .int)] }=true:=by
   have h4:=(holds_andW hc).1
   rw [hn] at h4
   exact h4
  have h5:=condW_of h4 (w_not (w_lt w_lit (w_len_list (w_arg rfl))))
  rw [List.length_map] at h5
  refine Nat.le_of_not_lt fun q=>?_
  have q':(n:Int)<((ns.length:Nat):Int):=by omega
  first
   | (rw [decide_eq_true q'] at h5; exact absurd h5 (by decide))
   | (simp at h5; omega)
 cases hwl with
 | cons w1 w2=>
  cases w2
  cases w1 with
  | list ho hall=>exact ⟨_,_,ns,rfl,rfl,ho,lZ ns _ hall,hlen⟩
theorem wD (l:OpenLaw) (args:List WData):l.row.toRowW.claim.post args (.bool true) args=true:=
 postW_of (r:=l.row.toRowW) (X:=(true==true))
  (show WShape.has [] (.bool true) .bool=true by first | rfl | decide | simp [WShape.has,WShape.arms,WShape.armsAll])
  (show (WTm.eq .res (.lit (.bool true))).value [] { args:=args,res:=some (.bool true),after:=args }=some (.bool (true==true)) from w_eq_bool (w_res rfl) w_lit) rfl
theorem tu {l:OpenLaw} {n:Nat} {q:Program} {loose:List Str} {XP:(Str->Option Value)->Heap->Prop} {YP:World->Heap->Prop} {d:DefRec}
  (hn:l.most=some n) (hdf:d.params.defaults=[])
  (call:∀ (w:World) (s₀ s₁:Shared) (mg mb:Str->Option Value) (fa:Addr) (o:Obj) (pm cd doc:Value) (a:Addr) (vs:List Value) (ns:List Int),
   Ground q loose [] XP w s₀ mg mb s₁.heap->YP w s₁.heap ->
   s₁.heap.get? fa=some o->o.data=.func (docDef d.name d.params d.body d.scope pm cd doc)->s₁.heap.CodeRec cd d.name->mg d.name=some (.ref fa) ->
   s₁.heap.get? a=some { cls:=.type "list",data:=.seq vs.toArray }->IntsAre vs ns->ns.length<=n->s₁.gens = #[] ->
   codeAny (model l.prog w) callerA (.call (.ref fa) ⟨[.ref a],[]⟩) (fun r s'=>r=.ok (.ret (.bool true))/\OldK s₁.heap s'.heap/\s'.os=s₁.os/\AllBare s'.gens) s₁) :
  WalkO q loose XP YP l.row.toRowW d [] (fun f vs=>PySem.call f vs):=by
 intro w s₀ s₁ mg mb G Y fa o pm cd doc dV kV ho hd hcd hD hmg hg args vals as hpre hlay hrd hwl hlo
 obtain rfl:dV=.none:=Dflts.none hD hdf
 obtain rfl:kV=.none:=Dflts.noKw hD
 obtain ⟨a,vs,ns,rfl,rfl,hobj,hints,hlen⟩:=ww hn hpre hwl
 refine enter_call (codeAny_mono (call w s₀ s₁ mg mb fa o pm cd doc a vs ns G Y ho (fd_plain hd) hcd hmg hobj hints hlen hg) fun r s' hq=>?_)
 obtain ⟨rfl,h2,h3,h4⟩:=hq
 exact ⟨.inl ⟨.bool true,.bool true,[],rfl,fun _=>rfl,.bool true,wD l _,fun _=>⟨List.Pairwise.nil,fun _ hm=>(nomatch hm)⟩⟩,h2,h3,h4⟩
section
variable {prog:Program} {w:World} {A:Around} {E:Value->Shared->Prop} {s:Shared} {K:Frag}
noncomputable def KY (h:Heap) (L d:Addr):List (Addr×Obj):=(List.range h.objs.size).filterMap fun a=>if a=L\/a=d then none else (h.get? a).map fun o=>(a,o)
end
end Att
namespace L2
open PySem PySem.Spec PyProof.Rows
theorem jk:∀ {vs:List Value} {ns:List Int},IntsAre vs ns->Vals (ns.map V.int) vs
 | _,_,.nil=>.nil
 | _,_,.cons n t h=>.cons ⟨t,rfl⟩ (jk h)
noncomputable def Gv (H:Hp):Prop:=∀ b,H b=none\/∃ o xs,H b=some (.frz o (.lst xs))
theorem zy {P:Program} {w:World} {K:PySem.W.Frag} {mg mb:Str->Option Value} {CX:tM} {k:Nat} {fa a:Addr} {fd:FuncData} {x:Str} {sp:Sp} {s₁:Shared} {vs:List Value} {ns:List Int}
  (KX:K.In s₁.heap) (hns:s₁.heap.Ns mainGlobals mg) (hb:s₁.heap.Ns builtinsNs mb) (hbb:∀ x:Str,x ≠ "__name__" -> mb x=bootBuiltins x) (hlim:s₁.heap.NoLimit) (hg:s₁.gens = #[])
  (ha:s₁.heap.get? a=some { cls:=.type "list",data:=.seq vs.toArray }) (hi:IntsAre vs ns) (hl:ns.length<=sizeLine) (hr:Room k callerA)
  (F:∀ base:Heap,K.In base->base.Ns mainGlobals mg->FnOk P w K mg base CX k fa fd [x] sp) (hbind:∀ (s:Shared) (u:Value),BindsTo s fd ⟨[u],[]⟩ [(x,u)])
  (hsp:∀ H:Hp,Gv H->SqL K H a (ns.map V.int)->sp [.ref a] H (fun v _=>v=.bl true) fun _ _ _=>False)
  (hCX:∀ H e s',CX [] H s₁ (fun _ _ _=>False) e s'->False) :
  codeAny (model P w) callerA (.call (.ref fa) ⟨[.ref a],[]⟩) (fun r s'=>r=.ok (.ret (.bool true))/\OldK s₁.heap s'.heap/\s'.os=s₁.os/\AllBare s'.gens) s₁:=by
 have rv:=jk hi
 have lenV:=hi.length
 have core:∀ H:Hp,Gv H->SqL K H a (ns.map V.int)->HOk P w H s₁.heap->(∀ b,H b≠none->b=a)->(H a≠none->K.lookup a=none) ->
   codeAny (model P w) callerA (.call (.ref fa) ⟨[.ref a],[]⟩) (fun r s'=>r=.ok (.ret (.bool true))/\OldK s₁.heap s'.heap/\s'.os=s₁.os/\AllBare s'.gens) s₁:=by
  intro H hO hS hok hA hK
  have base_of:∀ {b:Addr} {o:Obj},s₁.heap.get? b=some o->H b=none->(qH s₁.heap H).get? b=some o:=fun e n=>zN e n
  have noA:∀ {b:Addr} {o:Obj} {es:Array DictEntry} {ep:Nat},s₁.heap.get? b=some o->o.data=.dict es ep->H b=none:=fun {b o es ep} e d=>by
   cases q:H b with
   | none=>rfl
   | some u=>
    have e':b=a:=hA b (by rw [q]; simp)
    subst e'
    rw [ha] at e; cases e
    have d':Data.seq vs.toArray _=Data.dict es ep:=d
    cases d'
  have nsK:∀ {b:Addr} {m:Str->Option Value},s₁.heap.Ns b m->(qH s₁.heap H).Ns b m:=fun {b m} ⟨o,es,ep,e,d,r⟩=>⟨o,es,ep,base_of e (noA e d),d,r⟩
  have hKb:K.In (qH s₁.heap H):=fun b o e=>base_of (KX b o e) (by
   cases q:H b with
   | none=>rfl
   | some u=>
    have e':b=a:=hA b (by rw [q]; simp)
    subst e'
    rw [hK (by rw [q]; simp)] at e; cases e)
  have hM:Mod K mg (qH s₁.heap H):=⟨hKb,nsK hns,⟨mb,nsK hb,hbb⟩,let ⟨mc,h1,h2⟩:=hlim; ⟨mc,nsK h1,h2⟩⟩
  have e0:Env0 P w K mg (qH s₁.heap H) callerA [] s₁ H:=⟨rfl,hM,fun b o e=>BG e,Nat.le_of_eq (xh _ _),trivial,fun b hb=>absurd (show b∈([]:List Addr) from hb) (by simp),hok,.of_eq hg⟩
  refine codeAny_mono ((F _ hKb (nsK hns)).run callerA [] s₁ H ⟨[.ref a],[]⟩ [.ref a] [.ref a] _ _ hr e0 (hbind s₁ (.ref a)) (.cons rfl .nil) (hsp H hO hS)) fun r s' h=>?_
  cases r with
  | error e=>exact (hCX H e s' h).elim
  | ok fl=>
   cases fl with
   | next=>exact False.elim h
   | brk=>exact False.elim h
   | cont=>exact False.elim h
   | ret u=>
    obtain ⟨v,H',os,bare,un,hok',r',q⟩:=h
    have q':v=.bl true:=q
    subst q'
    obtain rfl:u=Value.bool true:=r'
    refine ⟨rfl,OldK.of_keep fun b o e=>?_,os,bare⟩
    cases q:H b with
    | none=>exact un.keep b o e q (by intro z; exact absurd (show b∈([]:List Addr) from z) (by simp)) (by simp)
    | some u=>
     rcases hO b with z | ⟨ob,xs,z⟩
     ·rw [q] at z; cases z
     ·have z2:=un.frzs b ob _ z
      obtain ⟨e1,_⟩:=hok b _ z
      obtain ⟨e2,_⟩:=hok' b _ z2
      rw [e] at e1; cases e1
      exact e2
 cases hk:K.lookup a with
 | some o=>
  have e:=KX a o hk
  rw [ha] at e
  cases e
  refine core (fun _=>none) (fun _=>.inl rfl) (.inr ⟨_,vs.toArray,_,hk,rfl,rfl,rfl,by rw [List.size_toArray,lenV]; exact hl,by simpa using rv⟩) (fun b u z=>by have z':(none:Option HO)=some u:=z; cases z') (fun b z=>absurd rfl z) fun z=>absurd rfl z
 | none=>
  refine core (fun b=>if b=a then some (.frz { cls:=.type "list",data:=.seq vs.toArray } (.lst (ns.map V.int))) else none) (fun b=>?_) (.inl (.inr ⟨{ cls:=.type "list",data:=.seq vs.toArray },if_pos rfl⟩)) (fun b u z=>?_) (fun b z=>?_) fun _=>hk
  ·by_cases hb:b=a
   ·exact .inr ⟨_,_,if_pos hb⟩
   ·exact .inl (if_neg hb)
  ·by_cases hb:b=a
   ·have z':=(if_pos hb).symm.trans z
    cases z'
    subst hb
    exact ⟨ha,by rw [List.length_map]; exact hl,vs,_,rv,ha⟩
   ·have z':=(if_neg hb).symm.trans z
    cases z'
  ·by_cases hb:b=a
   ·exact hb
   ·exact absurd (if_neg hb) z
end L2
namespace L2
open PySem PySem.Spec PyProof.Rows
noncomputable abbrev M6 {K:PySem.W.Frag} {h:Heap} (_:K.In h):PySem.W.Frag:=K
theorem A2 {l:PySem.W.OpenLaw} {n k:Nat} {q:Program} {loose:List Str} {XP:(Str->Option Value)->Heap->Prop} {YP:World->Heap->Prop} {d:DefRec} {K:Params->PySem.W.Frag} {CX:World->tM} {sp:World->Sp} {x:Str}
  (hn:l.most=some n) (hn2:n<=sizeLine) (hdf:d.params.defaults=[]) (hr:Room k callerA)
  (hY:∀ (w:World) (h:Heap),YP w h->(K w.params).In h)
  (F:∀ (w:World) (mg:Str->Option Value) (fa:Addr) (h:Heap),(K w.params).In h->h.Ns mainGlobals mg->mg d.name=some (.ref fa) ->
   ∃ fd:FuncData,(∀ (s:Shared) (u:Value),BindsTo s fd ⟨[u],[]⟩ [(x,u)]) /\
    ∀ base:Heap,(K w.params).In base->base.Ns mainGlobals mg->FnOk l.prog w (K w.params) mg base (CX w) k fa fd [x] (sp w))
  (hsp:∀ (w:World) (H:Hp) (a:Addr) (ns:List Int),ns.length<=n->Gv H->SqL (K w.params) H a (ns.map V.int)->sp w [.ref a] H (fun v _=>v=.bl true) fun _ _ _=>False)
  (hCX:∀ (w:World) (H:Hp) (s:Shared) (e:Value) (s':Shared),CX w [] H s (fun _ _ _=>False) e s'->False) :
  PySem.W.WalkO q loose XP YP l.row.toRowW d [] (fun f vs=>PySem.call f vs):=by
 refine Att.tu hn hdf fun w s₀ s₁ mg mb fa o pm cd doc a vs ns G Y ho hd hcd hmg hobj hints hlen hg=>?_
 have KX:=hY w _ Y
 obtain ⟨fd,hb,hF⟩:=F w mg fa _ KX G.T.g hmg
 exact zy KX G.T.g G.T.b G.T.builtins G.T.nolimit hg hobj hints (Nat.le_trans hlen hn2) hr hF hb (fun H hO hS=>hsp w H a ns hlen hO hS) fun H e s'=>hCX w H s₁ e s'
end L2
namespace L2
open PySem PySem.Spec PyProof.Rows
noncomputable def cW (s:Stmt):Arguments:=match s with
 | .FunctionDef _ a _ _ _ _ _ _ _ _=>a
 | _=>{ posonlyargs:=[],args:=[],vararg:=none,kwonlyargs:=[],kw_defaults:=[],kwarg:=none,defaults:=[] }
noncomputable def cj (s:Stmt):List Stmt:=match s with
 | .FunctionDef _ _ b _ _ _ _ _ _ _=>b
 | _=>[]
noncomputable def aj (s:Stmt):Scope:=match s with
 | .FunctionDef _ _ _ _ _ _ sc _ _ _=>sc
 | _=>{ kind:=.function,names:=[],isGenerator:=false,isCoroutine:=false }
noncomputable abbrev dN:tM:=fun _ _ _ _ _ _=>False
noncomputable abbrev E0:XK:=fun _ _ _=>False
theorem Dr {X:Cx}:rz dN X E0:=fun _ _ _ _ _ _ _ h=>h.elim
structure Fun (K:PySem.W.Frag) (x qual:Str) (st:Stmt) (f:Addr) (fd:FuncData):Prop where
 ex:∃ (oc:Value) (od:Option Addr) (kV doc pm:Value) (an:Option Addr) (cdv ct:Value) (osl:Array (Option Value)),
  fd=PySem.W.fnOf x qual (cW st) (cj st) (aj st) .none kV doc pm an cdv ct/\K.lookup f=some ⟨oc,od,.func fd,osl⟩/\PySem.W.codeIn K cdv qual=true
 kp:PySem.W.keepIn K (.ref f)=true
section
variable {P:Program} {w:World} {K:PySem.W.Frag} {mg:Str->Option Value} {base:Heap}
theorem Fun.ok {x qual:Str} {st:Stmt} {f:Addr} {fd:FuncData} {N ps:List Str} {k:Nat} {sp:Sp} (F:Fun K x qual st f fd) (S:FnScope N ps (aj st)) (len:∀ vs H Q E,sp vs H Q E->vs.length=ps.length)
  (hbody:∀ (cdv:Value) (A:Around) (outer:List Env) (s:Shared) (H:Hp) (vs:List V) (Q:VK) (E:XK),Room k (A.deeper (envOfC qual (aj st) s.heap.objs.size f cdv))->sp vs H Q E ->
   ∃ t,PSs (qU dN P w K mg base N qual (aj st) f cdv A outer s H E).nox (cj st) t/\t { nx:=fun _ H'=>Q .non H',rt:=Q } (start N vs) H):FnOk P w K mg base dN (k+1) f fd ps sp:=by
 obtain ⟨oc,od,kV,doc,pm,an,cdv,ct,osl,rfl,lk,hcd⟩:=F.ex
 refine zQ lk hcd S len fun A outer s H vs Q E hr hsp=>?_
 obtain ⟨t,h,q⟩:=hbody cdv A outer s H vs Q E hr hsp
 exact ⟨t,h.nox,q⟩
theorem Fun.binds {x qual:Str} {st:Stmt} {f:Addr} {fd:FuncData} {ps:List Str} (F:Fun K x qual st f fd)
  (h:∀ (kV doc pm:Value) (an:Option Addr) (cdv ct:Value) (us:List Value),us.length=ps.length->bindArgs (PySem.W.fnOf x qual (cW st) (cj st) (aj st) .none kV doc pm an cdv ct) ⟨us,[]⟩=pure (ps.zip us)):Binds K fd ps []:=by
 obtain ⟨oc,od,kV,doc,pm,an,cdv,ct,osl,rfl,lk,hcd⟩:=F.ex
 exact .all (h kV doc pm an cdv ct)
end
section
variable {X:Cx}
end
noncomputable def Same (H H':Hp):Prop:=∀ b o,H b=some o->H' b=some o
theorem Same.refl (H:Hp):Same H H:=fun _ _ h=>h
theorem Same.trans {H H1 H2:Hp} (a:Same H H1) (b:Same H1 H2):Same H H2:=fun c o h=>b c o (a c o h)
theorem Same.free {H H':Hp} (e:Same H H') {l:Addr} (h:H' l=Option.none):H l=Option.none:=by
 cases q:H l with
 | none=>rfl
 | some o=>
  rw [e l o q] at h
  cases h
theorem Same.seq {K:PySem.W.Frag} {H H':Hp} {a:Addr} {xs:List V} (e:Same H H') (h:SqL K H a xs):SqL K H' a xs:=by
 rcases h with (h | ⟨o,h⟩) | h
 ·exact .inl (.inl (e _ _ h))
 ·exact .inl (.inr ⟨o,e _ _ h⟩)
 ·exact .inr h
end L2
set_option Elab.async false
set_option linter.all false
set_option maxRecDepth 100000
set_option maxHeartbeats 4000000
namespace VL
open PySem L2
noncomputable abbrev D:=PyData
inductive Oc where
 | l (ds:List D) | d (es:List (ee×D))
inductive Sl where
 | un | fz (d:D) | own (c:Oc) | fr (ds:List D)
noncomputable abbrev Sl.ow (ds:List D):Sl:=.own (.l ds)
noncomputable abbrev Sl.od (es:List (ee×D)):Sl:=.own (.d es)
noncomputable def zJ:ee->D
 | .inl i=>.int i
 | .inr x=>.str x
noncomputable def Gb (es:List (ee×Int)):List (D×D):=es.map fun p=>(zJ p.1,.int p.2)
noncomputable abbrev Dv:=List Sl
inductive Fl where
 | nx | bk | ct | rt (d:D)
noncomputable abbrev Sf:=Dv->Option (Fl×Dv)
@[simp] noncomputable def o2 (f1 f2:Dv->Option D) (g:D->D->Option D):Dv->Option D:=fun δ=>(f1 δ).bind fun x=>(f2 δ).bind fun y=>g x y
@[simp] noncomputable def o1 (f:Dv->Option D) (g:D->Option D):Dv->Option D:=fun δ=>(f δ).bind g
@[simp] noncomputable def os (f:Dv->Option (List D)) (g:List D->Option D):Dv->Option D:=fun δ=>(f δ).bind g
noncomputable def asB:D->Option Bool
 | .bool b=>some b
 | _=>none
@[simp] theorem Aj (b:Bool):asB (.bool b)=some b:=rfl
@[simp] noncomputable def ob (f:Dv->Option D):Dv->Option Bool:=fun δ=>(f δ).bind asB
@[simp] noncomputable def kJ (t u:Dv->Option Bool):Dv->Option Bool:=fun δ=>(t δ).bind fun b=>if b=true then u δ else some false
@[simp] noncomputable def sw (t u:Dv->Option Bool):Dv->Option Bool:=fun δ=>(t δ).bind fun b=>if b=true then some true else u δ
@[simp] noncomputable def nt (t:Dv->Option Bool):Dv->Option Bool:=fun δ=>(t δ).map (!·)
@[simp] noncomputable def pk (f1 f2:Dv->Option D):Dv->Option D:=fun δ=>(f1 δ).bind fun x=>(asB x).bind fun b=>if b=true then f2 δ else some (.bool false)
@[simp] noncomputable def Mw (f1 f2:Dv->Option D):Dv->Option D:=fun δ=>(f1 δ).bind fun x=>(asB x).bind fun b=>if b=true then some (.bool true) else f2 δ
@[simp] noncomputable def BM (d:D):Option D:=(asB d).map fun b=>.bool (!b)
@[simp] noncomputable def HV (t:Dv->Option Bool) (f1 f2:Dv->Option D):Dv->Option D:=fun δ=>(t δ).bind fun b=>if b=true then f1 δ else f2 δ
noncomputable def Hu:Option Sl->Option D
 | some (.fz d)=>some d
 | some (.fr ds)=>some (.list ds)
 | _=>none
@[simp] theorem Kn (ds:List D):Hu (some (.fr ds))=some (.list ds):=rfl
@[simp] theorem Km (d:D):Hu (some (.fz d))=some d:=rfl
@[simp] noncomputable def oV (i:Nat):Dv->Option D:=fun δ=>Hu δ[i]?
@[simp] noncomputable def oC (d:D):Dv->Option D:=fun _=>some d
@[simp] noncomputable def ai:Dv->Option (List D):=fun _=>some []
@[simp] noncomputable def ac (f:Dv->Option D) (fs:Dv->Option (List D)):Dv->Option (List D):=fun δ=>(f δ).bind fun x=>(fs δ).bind fun xs=>some (x::xs)
noncomputable def aO (ds:List D):Option D:=if ds.length<=sizeLine then some (.tuple ds) else none
noncomputable def dD (ds:List D):Option D:=if ds.length<=sizeLine then some (.list ds) else none
theorem jl {ds:List D} (h:ds.length<=16777216):aO ds=some (.tuple ds):=if_pos h
theorem jv {ds:List D} (h:ds.length<=16777216):dD ds=some (.list ds):=if_pos h
@[simp] theorem LQ:aO []=some (.tuple []):=rfl
@[simp] theorem LP (a:D):aO [a]=some (.tuple [a]):=jl (by simp)
@[simp] theorem LO (a b:D):aO [a,b]=some (.tuple [a,b]):=jl (by simp)
@[simp] theorem LN (a b c:D):aO [a,b,c]=some (.tuple [a,b,c]):=jl (by simp)
@[simp] theorem LM (a b c d:D):aO [a,b,c,d]=some (.tuple [a,b,c,d]):=jl (by simp)
@[simp] theorem LL (a b c d e:D):aO [a,b,c,d,e]=some (.tuple [a,b,c,d,e]):=jl (by simp)
@[simp] theorem LK (a b c d e f g h:D):aO [a,b,c,d,e,f,g,h]=some (.tuple [a,b,c,d,e,f,g,h]):=jl (by simp)
@[simp] theorem L3:dD []=some (.list []):=rfl
@[simp] theorem L0 (a:D):dD [a]=some (.list [a]):=jv (by simp)
@[simp] theorem LZ (a b:D):dD [a,b]=some (.list [a,b]):=jv (by simp)
@[simp] theorem LY (a b c:D):dD [a,b,c]=some (.list [a,b,c]):=jv (by simp)
@[simp] theorem LX (a b c d:D):dD [a,b,c,d]=some (.list [a,b,c,d]):=jv (by simp)
@[simp] theorem LW (a b c d e:D):dD [a,b,c,d,e]=some (.list [a,b,c,d,e]):=jv (by simp)
instance (i j:Int):Decidable (IntMulOk i j):=by unfold IntMulOk; infer_instance
noncomputable def iI (g:Int->Int->Int):D->D->Option D
 | .int i,.int j=>some (.int (g i j))
 | _,_=>none
noncomputable def iC (C:Int->Int->Bool) (g:Int->Int->Int):D->D->Option D
 | .int i,.int j=>if C i j=true then some (.int (g i j)) else none
 | _,_=>none
noncomputable def iB (g:Int->Int->Bool):D->D->Option D
 | .int i,.int j=>some (.bool (g i j))
 | _,_=>none
@[simp] theorem K7 (g:Int->Int->Int) (i j:Int):iI g (.int i) (.int j)=some (.int (g i j)):=rfl
@[simp] theorem K8 (g:Int->Int->Bool) (i j:Int):iB g (.int i) (.int j)=some (.bool (g i j)):=rfl
theorem kM {C:Int->Int->Bool} {g:Int->Int->Int} {i j:Int} (h:C i j=true):iC C g (.int i) (.int j)=some (.int (g i j)):=if_pos h
noncomputable def Lp (i j:Int):Bool:=decide (IntMulOk i j)
noncomputable def Lr (i j:Int):Bool:=decide (0<j/\j<1073741824)
noncomputable def Lq (i j:Int):Bool:=decide (0<j)
noncomputable def Lo (i j:Int):Bool:=decide (0<=j/\j<=1000000/\i.natAbs<2 ^ 64)
noncomputable def Ln (i j:Int):Bool:=decide (0<=j/\(Builtin.Int.intBits i:Int)+j<=2 ^ 27)
noncomputable def Lm (i j:Int):Bool:=decide (0<=j)
noncomputable abbrev bM:=iI fun i j=>i-j
noncomputable abbrev fV:=iC Lp fun i j=>i*j
noncomputable abbrev cq:=iC Lr fun i j=>i / j
noncomputable abbrev bw:=iC Lq fun i j=>i % j
noncomputable abbrev KH:=iC Lo fun i j=>i ^ j.toNat
noncomputable abbrev dO:=iC Ln fun i j=>i*2 ^ j.toNat
noncomputable abbrev oE:=iC Lm fun i j=>i / 2 ^ j.toNat
noncomputable abbrev lh:=iI Builtin.bitAnd
noncomputable abbrev Au:=iI Builtin.bitOr
noncomputable abbrev pP:=iI Builtin.bitXor
noncomputable abbrev Av:=iB fun i j=>decide (i<j)
noncomputable abbrev KZ:=iB fun i j=>decide (i<=j)
noncomputable abbrev sM:=iB fun i j=>decide (j<i)
@[simp] theorem sC {i j:Int} (h:IntMulOk i j):fV (.int i) (.int j)=some (.int (i*j)):=kM (decide_eq_true h)
@[simp] theorem Jg {i j:Int} (h:0<j) (h2:j<1073741824):cq (.int i) (.int j)=some (.int (i / j)):=kM (decide_eq_true ⟨h,h2⟩)
@[simp] theorem nv {i j:Int} (h:0<j):bw (.int i) (.int j)=some (.int (i % j)):=kM (decide_eq_true h)
@[simp] theorem HJ {i j:Int} (h:0<=j) (h2:j<=1000000) (h3:i.natAbs<2 ^ 64):KH (.int i) (.int j)=some (.int (i ^ j.toNat)):=kM (decide_eq_true ⟨h,h2,h3⟩)
theorem j8 {i j:Int} (h:0<=j) (h2:(Builtin.Int.intBits i:Int)+j<=2 ^ 27):dO (.int i) (.int j)=some (.int (i*2 ^ j.toNat)):=kM (decide_eq_true ⟨h,h2⟩)
@[simp] theorem Hw {i j:Int} (h:0<=j):oE (.int i) (.int j)=some (.int (i / 2 ^ j.toNat)):=kM (decide_eq_true h)
noncomputable def negD:D->Option D
 | .int i=>some (.int (-i))
 | _=>none
@[simp] theorem Ib (i:Int):negD (.int i)=some (.int (-i)):=rfl
noncomputable def aT:D->D->Option D
 | .int i,.int j=>some (.int (i+j))
 | .str x,.str y=>if x.length+y.length<=sizeLine then some (.str (x++y)) else none
 | .list xs,.list ys=>if xs.length+ys.length<=sizeLine then some (.list (xs++ys)) else none
 | .tuple xs,.tuple ys=>if xs.length+ys.length<=sizeLine then some (.tuple (xs++ys)) else none
 | _,_=>none
@[simp] theorem Ar (i j:Int):aT (.int i) (.int j)=some (.int (i+j)):=rfl
noncomputable def xC (d:D):Bool:=PySem.SeqAt.shaped d
noncomputable def aX:D->D->Option D:=fun a b=>if xC a=true/\xC b=true then some (.bool (PyData.eqv a b)) else none
noncomputable def neD:D->D->Option D:=fun a b=>if xC a=true/\xC b=true then some (.bool (!PyData.eqv a b)) else none
@[simp] theorem CO (i j:Int):aX (.int i) (.int j)=some (.bool (i==j)):=rfl
@[simp] theorem JH (i j:Int):neD (.int i) (.int j)=some (.bool (!(i==j))):=rfl
@[simp] theorem Jd (i j:Bool):aX (.bool i) (.bool j)=some (.bool (i==j)):=rfl
@[simp] theorem Id (i j:Bool):neD (.bool i) (.bool j)=some (.bool (!(i==j))):=rfl
noncomputable def FW (d:D):Bool:=match d with
 | .none=>true
 | _=>false
noncomputable def MI:D->D->Option D:=fun a b=>match b with
 | .none=>some (.bool (FW a))
 | _=>none
noncomputable def vG:D->D->Option D:=fun a b=>match b with
 | .none=>some (.bool (!FW a))
 | _=>none
@[simp] theorem IA (a:D):MI a .none=some (.bool (FW a)):=rfl
@[simp] theorem FS (a:D):vG a .none=some (.bool (!FW a)):=rfl
@[simp] theorem Iz:FW .none=true:=rfl
@[simp] theorem JK (i:Int):FW (.int i)=false:=rfl
noncomputable def av:D->D->Option D
 | .list xs,.int i=>hU xs i
 | .tuple xs,.int i=>hU xs i
 | _,_=>none
@[simp] theorem zL (xs:List D) (i:Int):av (.list xs) (.int i)=hU xs i:=rfl
@[simp] theorem GE (xs:List D) (i:Int):av (.tuple xs) (.int i)=hU xs i:=rfl
theorem dM {α:Type} {xs:List α} {i:Int} {j:Nat} {v:α} (hi:i=j) (h:xs[j]? = some v):hU xs i=some v:=by
 have hl:j<xs.length:=(List.getElem?_eq_some_iff.mp h).1
 subst hi
 unfold hU tJ
 rw [if_pos (by omega),if_pos (by omega)]
 simpa using h
@[simp] theorem at0 {α:Type} (a:α) (r:List α):hU (a::r) 0=some a:=dM (j:=0) rfl rfl
@[simp] theorem DR {α:Type} (a b:α) (r:List α):hU (a::b::r) 1=some b:=dM (j:=1) rfl rfl
@[simp] theorem MQ {α:Type} (a b c:α) (r:List α):hU (a::b::c::r) 2=some c:=dM (j:=2) rfl rfl
@[simp] theorem M5 {α:Type} (a b c d:α) (r:List α):hU (a::b::c::d::r) 3=some d:=dM (j:=3) rfl rfl
@[simp] theorem M4 {α:Type} (a b c d e:α) (r:List α):hU (a::b::c::d::e::r) 4=some e:=dM (j:=4) rfl rfl
@[simp] theorem M3 {α:Type} (a b c d e f:α) (r:List α):hU (a::b::c::d::e::f::r) 5=some f:=dM (j:=5) rfl rfl
@[simp] theorem M0 {α:Type} (a b c d e f g:α) (r:List α):hU (a::b::c::d::e::f::g::r) 6=some g:=dM (j:=6) rfl rfl
@[simp] theorem MZ {α:Type} (a b c d e f g h:α) (r:List α):hU (a::b::c::d::e::f::g::h::r) 7=some h:=dM (j:=7) rfl rfl
noncomputable def bf:List D->Option D
 | [.list xs]=>some (.int xs.length)
 | [.tuple xs]=>some (.int xs.length)
 | _=>none
@[simp] theorem GD (xs:List D):bf [.list xs]=some (.int xs.length):=rfl
@[simp] theorem FI (xs:List D):bf [.tuple xs]=some (.int xs.length):=rfl
noncomputable def B0:List D->Option D
 | [.int i,.int j]=>some (.int (if j<i then j else i))
 | _=>none
noncomputable def ny:List D->Option D
 | [.int i,.int j]=>some (.int (if j>i then j else i))
 | _=>none
@[simp] theorem Ie (i j:Int):B0 [.int i,.int j]=some (.int (if j<i then j else i)):=rfl
@[simp] theorem ki (i j:Int):ny [.int i,.int j]=some (.int (if j>i then j else i)):=rfl
noncomputable def II:List D->Option D
 | [.int i]=>some (.int i)
 | [.bool b]=>some (.int (if b then 1 else 0))
 | _=>none
@[simp] theorem IH (i:Int):II [.int i]=some (.int i):=rfl
@[simp] theorem GJ (b:Bool):II [.bool b]=some (.int (if b then 1 else 0)):=rfl
noncomputable def vB:List D->Option D
 | [.list xs]=>some (.list xs)
 | [.tuple xs]=>some (.list xs)
 | _=>none
@[simp] theorem FE (xs:List D):vB [.list xs]=some (.list xs):=rfl
@[simp] theorem Dx (xs:List D):vB [.tuple xs]=some (.list xs):=rfl
noncomputable def dr:List D->Option D
 | [.list xs]=>some (.tuple xs)
 | [.tuple xs]=>some (.tuple xs)
 | _=>none
@[simp] theorem Di (xs:List D):dr [.list xs]=some (.tuple xs):=rfl
@[simp] theorem A6 (xs:List D):dr [.tuple xs]=some (.tuple xs):=rfl
noncomputable def nU:D->Option D
 | .int i=>some (.int (Builtin.Int.intBits i))
 | _=>none
@[simp] theorem xt (i:Int):nU (.int i)=some (.int (Builtin.Int.intBits i)):=rfl
noncomputable def tyN:D->String
 | .none=>"NoneType"
 | .bool _=>"bool"
 | .int _=>"int"
 | .str _=>"str"
 | .list _=>"list"
 | .tuple _=>"tuple"
 | .dict _=>"dict"
noncomputable def FU (t T:String):Bool:=t==T||(t == "bool" && T == "int")
noncomputable def vH:D->Bool
 | .dict _=>true
 | _=>false
noncomputable def iD (T:String) (d:D):Option D:=if vH d=true then none else if T = "int" \/ T = "bool" \/ T = "str" \/ T = "list" \/ T = "tuple" then some (.bool (FU (tyN d) T)) else none
@[simp] theorem DJ (i:Int):iD "int" (.int i)=some (.bool true):=rfl
@[simp] theorem CB (i:Int):iD "bool" (.int i)=some (.bool false):=rfl
@[simp] theorem CA (i:Bool):iD "int" (.bool i)=some (.bool true):=rfl
@[simp] theorem AY (i:Bool):iD "bool" (.bool i)=some (.bool true):=rfl
@[simp] theorem xG (xs:List D):iD "tuple" (.tuple xs)=some (.bool true):=rfl
@[simp] theorem AX (xs:List D):iD "list" (.list xs)=some (.bool true):=rfl
@[simp] noncomputable def aP (f:Dv->Option D):Sf:=fun δ=>(f δ).bind fun d=>some (.rt d,δ)
@[simp] noncomputable def aD (i:Nat) (f:Dv->Option D):Sf:=fun δ=>(f δ).bind fun d=>some (.nx,δ.set i (.fz d))
@[simp] noncomputable def yv (f:Dv->Option D):Sf:=fun δ=>(f δ).bind fun _=>some (.nx,δ)
@[simp] noncomputable def fH:Sf:=fun δ=>some (.nx,δ)
@[simp] noncomputable def MW:Sf:=fun δ=>some (.bk,δ)
@[simp] noncomputable def MV:Sf:=fun δ=>some (.ct,δ)
@[simp] noncomputable def ak (s t:Sf):Sf:=fun δ=>(s δ).bind fun r=>match r with
 | (.nx,δ')=>t δ'
 | r=>some r
@[simp] noncomputable def cu (t:Dv->Option Bool) (u w:Sf):Sf:=fun δ=>(t δ).bind fun c=>if c=true then u δ else w δ
noncomputable def tK (i:Nat) (δ:Dv):Dv:=match δ[i]? with
 | some (.own (.l ds))=>δ.set i (.fz (.list ds))
 | _=>δ
@[simp] noncomputable def gN (i:Nat):D->Dv->Option Dv:=fun d δ=>some (δ.set i (.fz d))
noncomputable def loop (g:D->Dv->Option Dv) (b:Sf):List D->Sf
 | [],δ=>some (.nx,δ)
 | d::ds,δ=>(g d δ).bind fun δ1=>(b δ1).bind fun r=>match r with
  | (.nx,δ2)=>loop g b ds δ2
  | (.ct,δ2)=>loop g b ds δ2
  | (.bk,δ2)=>some (.nx,δ2)
  | (.rt x,δ2)=>some (.rt x,δ2)
@[simp] theorem Ij (g:D->Dv->Option Dv) (b:Sf) (δ:Dv):loop g b [] δ = some (.nx,δ):=rfl
@[simp] noncomputable def ic (f:Dv->Option (List D)) (g:D->Dv->Option Dv) (b:Sf):Sf:=fun δ=>(f δ).bind fun ds=>loop g b ds δ
noncomputable def iW (lo:Int) (n:Nat):List D:=(List.range n).map fun k=>.int (lo+(k:Nat))
noncomputable def bi:List D->Option (List D)
 | [.int j]=>if j<2 ^ 62 /\ -(2 ^ 62)<=j then some (iW 0 j.toNat) else none
 | _=>none
theorem jr {j:Int} (h:j<4611686018427387904) (h2:-4611686018427387904<=j):bi [.int j]=some (iW 0 j.toNat):=if_pos ⟨h,h2⟩
@[simp] noncomputable def oL (fs:Dv->Option (List D)) (g:List D->Option (List D)):Dv->Option (List D):=fun δ=>(fs δ).bind g
noncomputable def eJ:D->Option (List D)
 | .list xs=>some xs
 | .tuple xs=>some xs
 | _=>none
@[simp] theorem GF (xs:List D):eJ (.list xs)=some xs:=rfl
@[simp] theorem uy (xs:List D):eJ (.tuple xs)=some xs:=rfl
noncomputable def zr:D->Option (List D)
 | .list xs=>some xs
 | _=>none
noncomputable def J1:D->Option (List D)
 | .tuple xs=>some xs
 | _=>none
@[simp] noncomputable def oI (f:Dv->Option D) (g:D->Option (List D)):Dv->Option (List D):=fun δ=>(f δ).bind g
noncomputable def rngN (lo hi st:Int):Nat:=if lo<hi then ((hi-lo-1) / st+1).toNat else 0
noncomputable def lq (lo st:Int) (n:Nat):List D:=(List.range n).map fun k=>.int (lo+(k:Nat)*st)
noncomputable def iX:List D->Option (List D)
 | [.int i,.int j,.int k]=>if -(2 ^ 40)<=i/\i<2 ^ 40 /\ -(2 ^ 40)<=j/\j<2 ^ 40/\0<k/\k<2 ^ 20 then some (lq i k (rngN i j k)) else none
 | _=>none
theorem wA {i j k:Int} (h:-1099511627776<=i/\i<1099511627776 /\ -1099511627776<=j/\j<1099511627776/\0<k/\k<1048576):iX [.int i,.int j,.int k]=some (lq i k (rngN i j k)):=if_pos h
@[simp] noncomputable def pj:Dv->Option (Option Int):=fun _=>some none
noncomputable def asI:D->Option (Option Int)
 | .int i=>some (some i)
 | _=>none
@[simp] theorem JT (i:Int):asI (.int i)=some (some i):=rfl
@[simp] noncomputable def oP (f:Dv->Option D):Dv->Option (Option Int):=fun δ=>(f δ).bind asI
noncomputable def oS (xs:List D) (lo hi:Option Int):List D:=(xs.drop (HT.sIx xs.length 0 lo)).take (HT.sIx xs.length xs.length hi-HT.sIx xs.length 0 lo)
noncomputable def tZ:D->Option Int->Option Int->Option D
 | .list xs,lo,hi=>some (.list (oS xs lo hi))
 | .tuple xs,lo,hi=>some (.tuple (oS xs lo hi))
 | _,_,_=>none
@[simp] noncomputable def pi (f:Dv->Option D) (l u:Dv->Option (Option Int)):Dv->Option D:=fun δ=>(f δ).bind fun x=>(l δ).bind fun i=>(u δ).bind fun j=>tZ x i j
noncomputable def aw (N:List Str) (as:List D):Dv:=as.map .fz++List.replicate (N.length-as.length) .un
noncomputable def runB (N:List Str) (n:Nat) (b:Sf):List D->Option D:=fun as=>if as.length=n then (b (aw N as)).bind fun r=>match r with
  | (.rt d,_)=>some d
  | (.nx,_)=>some .none
  | _=>none
 else none
end VL
set_option Elab.async false
set_option linter.all false
set_option maxRecDepth 100000
set_option maxHeartbeats 4000000
namespace VL
open PySem PySem.Spec PyProof.Rows L2
noncomputable abbrev Fg:=PySem.W.Frag
noncomputable abbrev St:=L2.St
noncomputable def xk (a C:Addr):HO:=.ext fun h=>∃ o,h.get? a=some o/\o.cls=.ref C/\∃ vs,o.data=.fields vs/\vs[2]? = some .none
theorem Rd.same {H H':Hp} {a:Addr} {u:HO} (h:Rd H a u) (s:Same H H'):Rd H' a u:=by
 rcases h with h | ⟨o,h⟩
 ·exact .inl (s _ _ h)
 ·exact .inr ⟨o,s _ _ h⟩
inductive Opq (K:Fg) (Z:Hp) (a:Addr):List (D×D)->Prop
 | exc {n:Str} {C:Addr}:PySem.W.nsIn K mainGlobals n=some (some (.ref C))->Rd Z a (xk a C)->Opq K Z a [(.str "exc",.str n)]
 | fn {n:Str}:PySem.W.nsIn K mainGlobals n=some (some (.ref a))->Opq K Z a [(.str "fn",.str n)]
 | dct {kvs:List (D×D)} {es:List (ee×Int)}:kvs=Gb es->Z a=some (.dK (es.map fun p=>(p.1,V.int p.2)))->Opq K Z a kvs
theorem Opq.same {K:Fg} {Z Z':Hp} {a:Addr} {kvs:List (D×D)} (s:Same Z Z') (h:Opq K Z a kvs):Opq K Z' a kvs:=by
 cases h with
 | exc h1 h2=>exact .exc h1 (Rd.same h2 s)
 | fn h1=>exact .fn h1
 | dct h1 h2=>exact .dct h1 (s _ _ h2)
mutual
inductive Rep (K:Fg) (Z:Hp):V->D->Prop
 | non:Rep K Z .non .none
 | bl (b:Bool):Rep K Z (.bl b) (.bool b)
 | int (i:Int):Rep K Z (.int i) (.int i)
 | str (x:Str):Rep K Z (.str x) (.str x)
 | tup {a:Addr} {xs:List V} {ds:List D}:SqT K Z a xs->Reps K Z xs ds->Rep K Z (.ref a) (.tuple ds)
 | lst {a:Addr} {xs:List V} {ds:List D}:SqL K Z a xs->Reps K Z xs ds->Rep K Z (.ref a) (.list ds)
 | opq {a:Addr} {kvs:List (D×D)}:Opq K Z a kvs->Rep K Z (.ref a) (.dict kvs)
inductive Reps (K:Fg) (Z:Hp):List V->List D->Prop
 | nil:Reps K Z [] []
 | cons {v:V} {d:D} {vs:List V} {ds:List D}:Rep K Z v d->Reps K Z vs ds->Reps K Z (v::vs) (d::ds)
end
theorem SqT.same {K:Fg} {H H':Hp} {a:Addr} {xs:List V} (h:SqT K H a xs) (s:Same H H'):SqT K H' a xs:=by
 rcases h with h | h
 ·exact .inl (Rd.same h s)
 ·exact .inr h
theorem SqL.same {K:Fg} {H H':Hp} {a:Addr} {xs:List V} (h:SqL K H a xs) (s:Same H H'):SqL K H' a xs:=by
 rcases h with h | h
 ·exact .inl (Rd.same h s)
 ·exact .inr h
mutual
theorem Rep.same {K:Fg} {Z Z':Hp} (s:Same Z Z'):∀ {v:V} {d:D},Rep K Z v d->Rep K Z' v d
 | _,_,.non=>.non
 | _,_,.bl b=>.bl b
 | _,_,.int i=>.int i
 | _,_,.str x=>.str x
 | _,_,.tup h r=>.tup (SqT.same h s) (Reps.same s r)
 | _,_,.lst h r=>.lst (SqL.same h s) (Reps.same s r)
 | _,_,.opq h=>.opq (Opq.same s h)
theorem Reps.same {K:Fg} {Z Z':Hp} (s:Same Z Z'):∀ {vs:List V} {ds:List D},Reps K Z vs ds->Reps K Z' vs ds
 | _,_,.nil=>.nil
 | _,_,.cons h r=>.cons (Rep.same s h) (Reps.same s r)
end
theorem Reps.length {K:Fg} {Z:Hp}:∀ {vs:List V} {ds:List D},Reps K Z vs ds->vs.length=ds.length
 | _,_,.nil=>rfl
 | _,_,.cons _ r=>congrArg (· + 1) (Reps.length r)
theorem Reps.get {K:Fg} {Z:Hp}:∀ {vs:List V} {ds:List D} {i:Nat} {d:D},Reps K Z vs ds->ds[i]? = some d->∃ v,vs[i]? = some v/\Rep K Z v d
 | _,_,_,_,.nil,e=>by simp at e
 | _,_,0,_,.cons r _,e=>by simp at e; subst e; exact ⟨_,rfl,r⟩
 | _,_,i+1,d,.cons _ t,e=>by
  obtain ⟨u,h1,h2⟩:=Reps.get (i:=i) (d:=d) t (by simpa using e)
  exact ⟨u,by simpa using h1,h2⟩
theorem Reps.set {K:Fg} {Z:Hp} {x:V} {u:D} (r:Rep K Z x u):∀ {xs:List V} {us:List D} (i:Nat),Reps K Z xs us->Reps K Z (xs.set i x) (us.set i u)
 | _,_,_,.nil=>.nil
 | _,_,0,.cons _ t=>.cons r t
 | _,_,i+1,.cons q t=>.cons q (Reps.set r i t)
theorem Reps.append {K:Fg} {Z:Hp}:∀ {xs ys:List V} {us ws:List D},Reps K Z xs us->Reps K Z ys ws->Reps K Z (xs++ys) (us++ws)
 | _,_,_,_,.nil,s=>s
 | _,_,_,_,.cons r t,s=>.cons r (Reps.append t s)
theorem Reps.take {K:Fg} {Z:Hp}:∀ {xs:List V} {us:List D} (n:Nat),Reps K Z xs us->Reps K Z (xs.take n) (us.take n)
 | _,_,0,_=>.nil
 | _,_,_+1,.nil=>.nil
 | _,_,n+1,.cons r t=>.cons r (Reps.take n t)
theorem Reps.drop {K:Fg} {Z:Hp}:∀ {xs:List V} {us:List D} (n:Nat),Reps K Z xs us->Reps K Z (xs.drop n) (us.drop n)
 | _,_,0,r=>r
 | _,_,_+1,.nil=>.nil
 | _,_,n+1,.cons _ t=>Reps.drop n t
theorem Rep.int_eq {K:Fg} {Z:Hp} {v:V} {i:Int} (h:Rep K Z v (.int i)):v=.int i:=by cases h; rfl
theorem Rep.bl_eq {K:Fg} {Z:Hp} {v:V} {b:Bool} (h:Rep K Z v (.bool b)):v=.bl b:=by cases h; rfl
theorem Reps.ints {K:Fg} {Z:Hp}:∀ ns:List Int,Reps K Z (ns.map V.int) (ns.map PyData.int)
 | []=>.nil
 | n::r=>.cons (.int n) (Reps.ints r)
mutual
theorem Rep.reads {X:Cx} {pins:List (Addr×Obj)} {σ:St} {H Z:Hp} {s:Shared} (I:Inv X pins σ H s) (zh:Same Z H):∀ {v:V} {d:D} {u:Value},Rep X.K Z v d->RelV v u->d.canLay0=true->∃ as,Reads s.heap u d as
 | _,_,u,.non,r,_=>by cases (show u=Value.none from r); exact ⟨_,.none⟩
 | _,_,u,.bl b,r,_=>by cases (show u=Value.bool b from r); exact ⟨_,.bool b⟩
 | _,_,u,.int i,r,_=>by obtain ⟨t,rfl⟩:=(show ∃ t,u=Value.int i t from r); exact ⟨_,.int i t⟩
 | _,_,u,.str x,r,_=>by obtain ⟨t,rfl⟩:=(show ∃ t,u=Value.str x t from r); exact ⟨_,.str x t⟩
 | _,_,u,.tup (a:=a) h q,r,hc=>by
  cases (show u=Value.ref a from r)
  obtain ⟨its,rv,ht,_⟩:=I.tuple (SqT.same h zh)
  obtain ⟨as,ra⟩:=Reps.reads I zh q rv hc
  obtain ⟨o,e,c,n,dd⟩:=ht
  exact ⟨_,reads_tuple_at e c dd (by simpa using ra)⟩
 | _,_,u,.lst (a:=a) h q,r,hc=>by
  cases (show u=Value.ref a from r)
  obtain ⟨its,rv,ht,_⟩:=I.list (SqL.same h zh)
  obtain ⟨as,ra⟩:=Reps.reads I zh q rv hc
  obtain ⟨o,n,e,c,_,dd⟩:=ht
  exact ⟨_,reads_list_at e c dd (by simpa using ra)⟩
 | _,_,u,.opq h,r,hc=>by cases hc
theorem Reps.reads {X:Cx} {pins:List (Addr×Obj)} {σ:St} {H Z:Hp} {s:Shared} (I:Inv X pins σ H s) (zh:Same Z H):∀ {vs:List V} {ds:List D} {us:List Value},Reps X.K Z vs ds->Vals vs us->PyData.canLayAll0 ds=true->∃ as,ReadsAll s.heap us ds as
 | _,_,_,.nil,.nil,_=>⟨_,.nil⟩
 | _,_,_,.cons h q,.cons r t,hc=>by
  have hc':=Bool.and_eq_true_iff.mp hc
  obtain ⟨as,ha⟩:=Rep.reads I zh h r hc'.1
  obtain ⟨bs,hb⟩:=Reps.reads I zh q t hc'.2
  exact ⟨_,.cons ha hb⟩
end
noncomputable def BS:HO->Bool
 | .frz _ (.lst _)=>false
 | _=>true
noncomputable def NoF (Z Z':Hp):Prop:=∀ b o xs,Z' b=some (.frz o (.lst xs))->Z b=some (.frz o (.lst xs))
theorem NoF.refl (Z:Hp):NoF Z Z:=fun _ _ _ e=>e
theorem NoF.trans {Z Z1 Z2:Hp} (a:NoF Z Z1) (b:NoF Z1 Z2):NoF Z Z2:=fun c o xs e=>a c o xs (b c o xs e)
theorem NoF.upd {Z Z':Hp} (a:NoF Z Z') (p:Addr) {u:HO} (hu:BS u=true:=by rfl):NoF Z (upd Z' p u):=fun b o xs e=>by
 by_cases hb:b=p
 ·subst hb
  rw [aQ] at e
  cases e
  cases hu
 ·rw [aH hb] at e
  exact a b o xs e
structure New (Z H Z' H':Hp):Prop where
 z:Same Z Z'
 h:Same H H'
 zh:Same Z' H'
 o:∀ b,H b≠none->Z' b=Z b
 nf:NoF Z Z'
theorem New.refl {Z H:Hp} (zh:Same Z H):New Z H Z H:=⟨Same.refl _,Same.refl _,zh,fun _ _=>rfl,NoF.refl _⟩
theorem New.trans {Z H Z1 H1 Z2 H2:Hp} (a:New Z H Z1 H1) (b:New Z1 H1 Z2 H2):New Z H Z2 H2:=
 ⟨a.z.trans b.z,a.h.trans b.h,b.zh,fun c hc=>by
  have:H1 c≠none:=by
   cases e:H c with
   | none=>exact absurd e hc
   | some o=>rw [a.h c o e]; intro z; cases z
  rw [b.o c this,a.o c hc],a.nf.trans b.nf⟩
theorem hZ {H:Hp} {p:Addr} {o:HO} (h:H p=none):Same H (upd H p o):=fun b u e=>by
 rw [aH (bO e h)]; exact e
theorem qK {Z H:Hp} (zh:Same Z H) {p:Addr} (h:H p=none):Z p=none:=by
 cases e:Z p with
 | none=>rfl
 | some o=>rw [zh p o e] at h; cases h
theorem New.add {Z H:Hp} (zh:Same Z H) {p:Addr} (hp:H p=none) (o:HO) (hf:BS o=true:=by rfl):New Z H (upd Z p o) (upd H p o) where
 nf:=(NoF.refl Z).upd p hf
 z:=hZ (qK zh hp)
 h:=hZ hp
 zh:=fun b u e=>by
  by_cases hb:b=p
  ·subst hb; rw [aQ] at e ⊢; exact e
  ·rw [aH hb] at e ⊢; exact zh b u e
 o:=fun b hb=>by
  have:b≠p:=fun z=>hb (z ▸ hp)
  rw [aH this]
noncomputable def Jw (K:Fg) (Z:Hp) (kvs:List (ee×V)) (es:List (ee×D)):Prop:=es.map (·.1)=kvs.map (·.1)/\Reps K Z (kvs.map (·.2)) (es.map (·.2))
inductive OwR (K:Fg) (Z:Hp):HO->Oc->Prop
 | lst {xs:List V} {ds:List D}:Reps K Z xs ds->OwR K Z (.lst xs) (.l ds)
 | dct {kvs:List (ee×V)} {es:List (ee×D)}:Jw K Z kvs es->OwR K Z (.dK kvs) (.d es)
theorem OwR.same {K:Fg} {Z Z':Hp} {o:HO} {c:Oc} (h:OwR K Z o c) (s:Same Z Z'):OwR K Z' o c:=by
 cases h with
 | lst r=>exact .lst (r.same s)
 | dct r=>exact .dct ⟨r.1,r.2.same s⟩
noncomputable def FrOk (K:Fg) (H₀ Z₀ Z:Hp) (δ:Dv) (σ:St):Prop:=∀ (i:Nat) ds,δ[i]? = some (.fr ds)->∃ a xs,σ[i]? = some (some (.ref a))/\H₀ a=none/\Z₀ a=none/\Z a=some (.lst xs)/\Reps K Z xs ds
theorem FrOk.same {K:Fg} {H₀ Z₀ Z Z':Hp} {δ:Dv} {σ:St} (h:FrOk K H₀ Z₀ Z δ σ) (s:Same Z Z'):FrOk K H₀ Z₀ Z' δ σ:=fun i ds e=>
 let ⟨a,xs,h1,h2,h3,h4,h5⟩:=h i ds e; ⟨a,xs,h1,h2,h3,s _ _ h4,h5.same s⟩
theorem FrOk.put {K:Fg} {H₀ Z₀ Z:Hp} {δ:Dv} {σ σ':St} (h:FrOk K H₀ Z₀ Z δ σ) {i:Nat} {x:Sl} (hx:∀ ds,x≠Sl.fr ds) (hs:∀ j:Nat,i≠j -> σ'[j]? = σ[j]?):FrOk K H₀ Z₀ Z (δ.set i x) σ':=fun j ds e=>by
 by_cases hj:i=j
 ·subst hj
  have hl:i < δ.length:=by have:=(List.getElem?_eq_some_iff.mp e).1; simpa using this
  rw [List.getElem?_set_self hl] at e
  exact absurd (Option.some.inj e) (hx ds)
 ·rw [List.getElem?_set_ne hj] at e
  obtain ⟨a,xs,h1,r⟩:=h j ds e
  exact ⟨a,xs,by rw [hs j hj]; exact h1,r⟩
structure Hold (K:Fg) (H₀ Z₀ Z:Hp) (δ:Dv) (σ:St) (H:Hp):Prop where
 zh:Same Z H
 h0:Same H₀ H
 z0:Same Z₀ Z
 zb:∀ b,H₀ b≠none->Z b=Z₀ b
 len:δ.length = σ.length
 fz:∀ (i:Nat) d,δ[i]? = some (.fz d)->∃ v,σ[i]? = some (some v)/\Rep K Z v d
 own:∀ (i:Nat) c,δ[i]? = some (.own c)->∃ a o,σ[i]? = some (some (.ref a))/\H₀ a=none/\Z a=none/\H a=some o/\OwR K Z o c
 dja:∀ (i j:Nat) c c' a,i≠j -> δ[i]? = some (.own c) -> δ[j]? = some (.own c') -> σ[i]? = some (some (.ref a)) -> σ[j]? ≠ some (some (V.ref a))
 fr:FrOk K H₀ Z₀ Z δ σ
 nf:NoF Z₀ Z
section
variable {K:Fg} {H₀ Z₀ Z Z' H H':Hp} {δ:Dv} {σ:St}
theorem Hold.ow (h:Hold K H₀ Z₀ Z δ σ H) (i:Nat) (ds:List D) (e:δ[i]? = some (.ow ds)):∃ a xs,σ[i]? = some (some (.ref a))/\H₀ a=none/\Z a=none/\H a=some (.lst xs)/\Reps K Z xs ds:=by
 obtain ⟨a,o,h1,h2,h3,h4,h5⟩:=h.own i _ e
 cases h5 with
 | lst r=>exact ⟨a,_,h1,h2,h3,h4,r⟩
theorem Hold.od (h:Hold K H₀ Z₀ Z δ σ H) (i:Nat) (es:List (ee×D)) (e:δ[i]? = some (.od es)):∃ a kvs,σ[i]? = some (some (.ref a))/\H₀ a=none/\Z a=none/\H a=some (.dK kvs)/\Jw K Z kvs es:=by
 obtain ⟨a,o,h1,h2,h3,h4,h5⟩:=h.own i _ e
 cases h5 with
 | dct r=>exact ⟨a,_,h1,h2,h3,h4,r⟩
theorem Hold.new (h:Hold K H₀ Z₀ Z δ σ H) (n:New Z H Z' H'):Hold K H₀ Z₀ Z' δ σ H' where
 zh:=n.zh
 h0:=h.h0.trans n.h
 z0:=h.z0.trans n.z
 zb:=fun b hb=>by
  have:H b≠none:=by
   cases e:H₀ b with
   | none=>exact absurd e hb
   | some o=>rw [h.h0 b o e]; intro z; cases z
  rw [n.o b this,h.zb b hb]
 len:=h.len
 fz:=fun i d e=>let ⟨v,a,r⟩:=h.fz i d e; ⟨v,a,r.same n.z⟩
 own:=fun i ds e=>by
  obtain ⟨a,xs,h1,h2,h3,h4,h5⟩:=h.own i ds e
  exact ⟨a,xs,h1,h2,by rw [n.o a (by rw [h4]; intro z; cases z)]; exact h3,n.h a _ h4,h5.same n.z⟩
 dja:=h.dja
 fr:=h.fr.same n.z
 nf:=h.nf.trans n.nf
theorem Hold.set (h:Hold K H₀ Z₀ Z δ σ H) {i:Nat} {v:V} {d:D} (r:Rep K Z v d):Hold K H₀ Z₀ Z (δ.set i (.fz d)) (σ.set i (some v)) H where
 zh:=h.zh
 h0:=h.h0
 z0:=h.z0
 zb:=h.zb
 len:=by simp [h.len]
 fz:=fun j e q=>by
  by_cases hj:i=j
  ·subst hj
   have hl:i < δ.length:=by
    have:=(List.getElem?_eq_some_iff.mp q).1
    simpa using this
   rw [List.getElem?_set_self hl] at q
   cases q
   exact ⟨v,List.getElem?_set_self (by rw [<- h.len]; exact hl),r⟩
  ·rw [List.getElem?_set_ne hj] at q
   obtain ⟨u,a,b⟩:=h.fz j e q
   exact ⟨u,by rw [List.getElem?_set_ne hj]; exact a,b⟩
 own:=fun j es q=>by
  by_cases hj:i=j
  ·subst hj
   have hl:i < δ.length:=by
    have:=(List.getElem?_eq_some_iff.mp q).1
    simpa using this
   rw [List.getElem?_set_self hl] at q
   cases q
  ·rw [List.getElem?_set_ne hj] at q ⊢
   exact h.own j es q
 dja:=fun j k ds es a hjk q1 q2=>by
  by_cases hj:i=j
  ·subst hj
   have hl:i < δ.length:=by
    have:=(List.getElem?_eq_some_iff.mp q1).1
    simpa using this
   rw [List.getElem?_set_self hl] at q1
   cases q1
  ·by_cases hk:i=k
   ·subst hk
    have hl:i < δ.length:=by
     have:=(List.getElem?_eq_some_iff.mp q2).1
     simpa using this
    rw [List.getElem?_set_self hl] at q2
    cases q2
   ·rw [List.getElem?_set_ne hj] at q1
    rw [List.getElem?_set_ne hk] at q2
    rw [List.getElem?_set_ne hj,List.getElem?_set_ne hk]
    exact h.dja j k ds es a hjk q1 q2
 fr:=h.fr.put (fun _ z=>nomatch z) fun _ hj=>List.getElem?_set_ne hj
 nf:=h.nf
theorem Hold.setW (h:Hold K H₀ Z₀ Z δ σ H) {i:Nat} {p:Addr} {o:HO} {c:Oc} (hp:H p=none) (r:OwR K Z o c):Hold K H₀ Z₀ Z (δ.set i (.own c)) (σ.set i (some (.ref p))) (upd H p o) where
 zh:=h.zh.trans (hZ hp)
 h0:=h.h0.trans (hZ hp)
 z0:=h.z0
 zb:=h.zb
 len:=by simp [h.len]
 fz:=fun j e q=>by
  by_cases hj:i=j
  ·subst hj
   have hl:i < δ.length:=by
    have:=(List.getElem?_eq_some_iff.mp q).1
    simpa using this
   rw [List.getElem?_set_self hl] at q
   cases q
  ·rw [List.getElem?_set_ne hj] at q
   obtain ⟨u,a,b⟩:=h.fz j e q
   exact ⟨u,by rw [List.getElem?_set_ne hj]; exact a,b⟩
 own:=fun j es q=>by
  by_cases hj:i=j
  ·subst hj
   have hl:i < δ.length:=by
    have:=(List.getElem?_eq_some_iff.mp q).1
    simpa using this
   rw [List.getElem?_set_self hl] at q
   cases q
   exact ⟨p,o,List.getElem?_set_self (by rw [<- h.len]; exact hl),qK h.h0 hp,qK h.zh hp,aQ,r⟩
  ·rw [List.getElem?_set_ne hj] at q ⊢
   obtain ⟨a,ys,h1,h2,h3,h4,h5⟩:=h.own j es q
   exact ⟨a,ys,h1,h2,h3,by rw [aH (bO h4 hp)]; exact h4,h5⟩
 dja:=fun j k ds es a hjk q1 q2=>by
  have old:∀ {m:Nat} {fs:Oc},δ[m]? = some (.own fs) -> σ[m]? ≠ some (some (V.ref p)):=fun {m fs} q z=>by
   obtain ⟨b,ys,h1,h2,h3,h4,h5⟩:=h.own m fs q
   rw [h1] at z
   cases z
   rw [hp] at h4
   cases h4
  have hl:∀ {m:Nat} {x:Sl},(δ.set i x)[m]? ≠ none->m < σ.length:=fun {m x} q=>by
   have:m<(δ.set i x).length:=by
    rcases Nat.lt_or_ge m (δ.set i x).length with g | g
    ·exact g
    ·exact absurd (List.getElem?_eq_none_iff.mpr g) q
   rw [<- h.len]; simpa using this
  by_cases hj:i=j
  ·subst hj
   have h1:i < σ.length:=hl (by rw [q1]; intro z; cases z)
   rw [List.getElem?_set_self h1]
   intro e
   cases e
   rw [List.getElem?_set_ne hjk] at q2 ⊢
   exact old q2
  ·rw [List.getElem?_set_ne hj] at q1 ⊢
   by_cases hk:i=k
   ·subst hk
    have h1:i < σ.length:=hl (by rw [q2]; intro z; cases z)
    intro e z
    rw [List.getElem?_set_self h1] at z
    cases z
    exact old q1 e
   ·rw [List.getElem?_set_ne hk] at q2 ⊢
    exact h.dja j k ds es a hjk q1 q2
 fr:=h.fr.put (fun _ z=>nomatch z) fun _ hj=>List.getElem?_set_ne hj
 nf:=h.nf
theorem Hold.setO (h:Hold K H₀ Z₀ Z δ σ H) {i:Nat} {p:Addr} {xs:List V} {ds:List D} (hp:H p=none) (r:Reps K Z xs ds):Hold K H₀ Z₀ Z (δ.set i (.ow ds)) (σ.set i (some (.ref p))) (upd H p (.lst xs)):=h.setW hp (.lst r)
theorem Hold.chgW (h:Hold K H₀ Z₀ Z δ σ H) {i:Nat} {p:Addr} {o:HO} {ds es:Oc} (e:δ[i]? = some (.own ds)) (ep:σ[i]? = some (some (.ref p))) (r:OwR K Z o es):Hold K H₀ Z₀ Z (δ.set i (.own es)) σ (upd H p o):=by
 obtain ⟨a,zs,h1,h2,h3,h4,h5⟩:=h.own i ds e
 rw [ep] at h1
 cases h1
 have hl:i < δ.length:=(List.getElem?_eq_some_iff.mp e).1
 refine ⟨fun b o' q=>?_,fun b o' q=>?_,h.z0,h.zb,by simp [h.len],fun j d q=>?_,fun j d q=>?_,fun j k d1 d2 a hjk q1 q2=>?_,h.fr.put (fun _ z=>nomatch z) fun _ _=>rfl,h.nf⟩
 ·rw [aH (bO q h3)]; exact h.zh b o' q
 ·rw [aH (bO q h2)]; exact h.h0 b o' q
 ·by_cases hj:i=j
  ·subst hj
   rw [List.getElem?_set_self hl] at q
   cases q
  ·rw [List.getElem?_set_ne hj] at q
   exact h.fz j d q
 ·by_cases hj:i=j
  ·subst hj
   rw [List.getElem?_set_self hl] at q
   cases q
   exact ⟨p,o,ep,h2,h3,aQ,r⟩
  ·rw [List.getElem?_set_ne hj] at q
   obtain ⟨b,ws,g1,g2,g3,g4,g5⟩:=h.own j d q
   refine ⟨b,ws,g1,g2,g3,?_,g5⟩
   have:b≠p:=fun z=>by subst z; exact h.dja i j ds d b hj e q ep g1
   rw [aH this]; exact g4
 ·have f:∀ {m:Nat} {dm:Oc},(δ.set i (.own es))[m]? = some (.own dm)->∃ dm',δ[m]? = some (.own dm'):=fun {m dm} q=>by
   by_cases hm:i=m
   ·subst hm; exact ⟨ds,e⟩
   ·rw [List.getElem?_set_ne hm] at q; exact ⟨dm,q⟩
  obtain ⟨e1,g1⟩:=f q1
  obtain ⟨e2,g2⟩:=f q2
  exact h.dja j k e1 e2 a hjk g1 g2
theorem Hold.chg (h:Hold K H₀ Z₀ Z δ σ H) {i:Nat} {p:Addr} {xs ys:List V} {ds es:List D} (e:δ[i]? = some (.ow ds)) (ep:σ[i]? = some (some (.ref p))) (r:Reps K Z ys es):Hold K H₀ Z₀ Z (δ.set i (.ow es)) σ (upd H p (.lst ys)):=h.chgW e ep (.lst r)
theorem Hold.frz (h:Hold K H₀ Z₀ Z δ σ H) {i:Nat} {ds:List D} (e:δ[i]? = some (.ow ds)):∃ Z',Same Z Z'/\Hold K H₀ Z₀ Z' (δ.set i (.fz (.list ds))) σ H:=by
 obtain ⟨a,xs,h1,h2,h3,h4,h5⟩:=h.ow i ds e
 have hl:i < δ.length:=(List.getElem?_eq_some_iff.mp e).1
 have sz:Same Z (upd Z a (.lst xs)):=hZ h3
 refine ⟨upd Z a (.lst xs),sz,fun b o q=>?_,h.h0,h.z0.trans sz,fun b hb=>?_,by simp [h.len],fun j d q=>?_,fun j d q=>?_,fun j k d1 d2 b hjk q1 q2=>?_,(h.fr.same sz).put (fun _ z=>nomatch z) fun _ _=>rfl,h.nf.upd a⟩
 ·by_cases hb:b=a
  ·subst hb; rw [aQ] at q; cases q; exact h4
  ·rw [aH hb] at q; exact h.zh b o q
 ·rw [aH (fun z=>hb (by rw [z]; exact h2))]; exact h.zb b hb
 ·by_cases hj:i=j
  ·subst hj
   rw [List.getElem?_set_self hl] at q
   cases q
   exact ⟨.ref a,h1,.lst (SqL.of aQ) (h5.same sz)⟩
  ·rw [List.getElem?_set_ne hj] at q
   obtain ⟨v,g1,g2⟩:=h.fz j d q
   exact ⟨v,g1,g2.same sz⟩
 ·by_cases hj:i=j
  ·subst hj
   rw [List.getElem?_set_self hl] at q
   cases q
  ·rw [List.getElem?_set_ne hj] at q
   obtain ⟨b,ws,g1,g2,g3,g4,g5⟩:=h.own j d q
   have:b≠a:=fun z=>by subst z; exact h.dja i j _ d b hj e q h1 g1
   exact ⟨b,ws,g1,g2,by rw [aH this]; exact g3,g4,g5.same sz⟩
 ·by_cases hj:i=j
  ·subst hj
   rw [List.getElem?_set_self hl] at q1
   cases q1
  ·by_cases hk:i=k
   ·subst hk
    rw [List.getElem?_set_self hl] at q2
    cases q2
   ·rw [List.getElem?_set_ne hj] at q1
    rw [List.getElem?_set_ne hk] at q2
    exact h.dja j k d1 d2 b hjk q1 q2
end
noncomputable def tV (K:Fg) (f:Dv->Option D):TE:=fun σ H Q=>∃ H₀ Z₀ Z δ d,Hold K H₀ Z₀ Z δ σ H/\f δ = some d/\∀ v Z' H',Hold K H₀ Z₀ Z' δ σ H'->Same Z Z'->Rep K Z' v d->Q v H'
noncomputable def Gy (K:Fg) (f:Dv->Option Bool):TT:=fun σ H Q=>∃ H₀ Z₀ Z δ b,Hold K H₀ Z₀ Z δ σ H/\f δ = some b/\∀ Z' H',Hold K H₀ Z₀ Z' δ σ H'->Same Z Z'->Q b H'
noncomputable def LS (K:Fg) (f:Dv->Option (List D)):TA:=fun σ H Q=>∃ H₀ Z₀ Z δ ds,Hold K H₀ Z₀ Z δ σ H/\f δ = some ds/\∀ vs Z' H',Hold K H₀ Z₀ Z' δ σ H'->Same Z Z'->Reps K Z' vs ds->Q vs H'
noncomputable def Fl.to (K:Fg) (Z:Hp) (D:Ends) (σ:St) (H:Hp):Fl->Prop
 | .nx=>D.nx σ H
 | .bk=>D.bk σ H
 | .ct=>D.ct σ H
 | .rt d=>∀ v,Rep K Z v d->D.rt v H
noncomputable def Dk (K:Fg) (f:Dv->Option (Fl×Dv)):TS:=fun D σ H=>∃ H₀ Z₀ Z δ r,Hold K H₀ Z₀ Z δ σ H/\f δ = some r/\∀ σ' H' Z',Hold K H₀ Z₀ Z' r.2 σ' H'->Same Z Z'->r.1.to K Z' D σ' H'
noncomputable def EV (X:Cx) (e:Expr) (f:Dv->Option D):Prop:=PE X e (tV X.K f)
noncomputable def TV (X:Cx) (e:Expr) (f:Dv->Option Bool):Prop:=PT X e (Gy X.K f)
noncomputable def AV (X:Cx) (es:List Expr) (f:Dv->Option (List D)):Prop:=PA X es (LS X.K f)
noncomputable def SV (X:Cx) (st:Stmt) (f:Dv->Option (Fl×Dv)):Prop:=PS X st (Dk X.K f)
noncomputable def BV (X:Cx) (st:List Stmt) (f:Dv->Option (Fl×Dv)):Prop:=PSs X st (Dk X.K f)
theorem PE.imp {X:Cx} {e:Expr} {t t':TE} (h:PE X e t) (i:∀ σ H Q,t' σ H Q->t σ H Q):PE X e t':=fun pins s σ H Q I hw=>h pins s σ H Q I (i _ _ _ hw)
theorem PT.imp {X:Cx} {e:Expr} {t t':TT} (h:PT X e t) (i:∀ σ H Q,t' σ H Q->t σ H Q):PT X e t':=fun pins s σ H Q I hw=>h pins s σ H Q I (i _ _ _ hw)
theorem PA.imp {X:Cx} {es:List Expr} {t t':TA} (h:PA X es t) (i:∀ σ H Q,t' σ H Q->t σ H Q):PA X es t':=fun pos pins s σ H Q I hw=>h pos pins s σ H Q I (i _ _ _ hw)
theorem PS.imp {X:Cx} {st:Stmt} {t t':TS} (h:PS X st t) (i:∀ D σ H,t' D σ H->t D σ H):PS X st t':=fun pins s σ H D I hw=>h pins s σ H D I (i _ _ _ hw)
theorem PSs.imp {X:Cx} {st:List Stmt} {t t':TS} (h:PSs X st t) (i:∀ D σ H,t' D σ H->t D σ H):PSs X st t':=fun pins s σ H D I hw=>h pins s σ H D I (i _ _ _ hw)
theorem OpR.imp {X:Cx} {f:Value->Value->Sem Value} {r r':R2} (h:OpR X f r) (i:∀ x y H Q,r' x y H Q->r x y H Q):OpR X f r':=fun pins s σ H x y v u Q I rx ry q=>h pins s σ H x y v u Q I rx ry (i _ _ _ _ q)
theorem CallR.imp {X:Cx} {f:Value} {r r':List V->Hp->VK->Prop} (h:CallR X f r) (i:∀ xs H Q,r' xs H Q->r xs H Q):CallR X f r':=fun pins s σ H xs us Q I rx q=>h pins s σ H xs us Q I rx (i _ _ _ q)
noncomputable def rD (K:Fg) (g:D->D->Option D):R2:=fun x y H Q=>∃ Z a b d,Same Z H/\Rep K Z x a/\Rep K Z y b/\g a b=some d/\∀ v Z' H',New Z H Z' H'->Rep K Z' v d->Q v H'
noncomputable def LV (K:Fg) (g:D->Option D):V->Hp->VK->Prop:=fun x H Q=>∃ Z a d,Same Z H/\Rep K Z x a/\g a=some d/\∀ v Z' H',New Z H Z' H'->Rep K Z' v d->Q v H'
noncomputable def xF (K:Fg) (g:List D->Option D):List V->Hp->VK->Prop:=fun xs H Q=>∃ Z as d,Same Z H/\Reps K Z xs as/\g as=some d/\∀ v Z' H',New Z H Z' H'->Rep K Z' v d->Q v H'
noncomputable def fh (K:Fg) (g:List D->Option D):Sp:=fun vs H Q _=>xF K g vs H Q
section
variable {X:Cx} {a b c e:Expr} {es:List Expr} {pos p:Pos} {f f1 f2 f3:Dv->Option D} {fs:Dv->Option (List D)} {ft fu:Dv->Option Bool}
theorem bind_some {α β:Type} {o:Option α} {k:α -> Option β} {r:β} (h:o.bind k=some r):∃ a,o=some a/\k a=some r:=by
 cases o with
 | none=>cases h
 | some a=>exact ⟨a,rfl,h⟩
theorem two {K:Fg} {g:D->D->Option D} {σ:St} {H:Hp} {Q:VK} {r:R2} (hr:∀ x y H Q,rD K g x y H Q->r x y H Q) (h:tV K (o2 f1 f2 g) σ H Q):Hb r (tV K f1) (tV K f2) σ H Q:=by
 obtain ⟨H₀,Z₀,Z,δ,d,hh,e,k⟩:=h
 obtain ⟨x,e1,e⟩:=bind_some e
 obtain ⟨y,e2,e⟩:=bind_some e
 refine ⟨H₀,Z₀,Z,δ,x,hh,e1,fun v Z1 H1 hh1 s1 r1=>⟨H₀,Z₀,Z1,δ,y,hh1,e2,fun u Z2 H2 hh2 s2 r2=>hr _ _ _ _ ⟨Z2,x,y,d,hh2.zh,r1.same s2,r2,e,fun w Z3 H3 n r3=>?_⟩⟩⟩
 exact k w Z3 H3 (hh2.new n) ((s1.trans s2).trans n.z) r3
theorem ag {op:Operator} {g:D->D->Option D} (ho:OpR X (binaryOp op) (rD X.K g)) (ha:EV X a f1) (hb:EV X b f2):EV X (.BinOp a op b pos) (o2 f1 f2 g):=
 PE.imp (Dq ho ha hb) fun _ _ _ h=>two (fun _ _ _ _ q=>q) h
theorem i8 {op:UnaryOp} {g:D->Option D} (ho:Ju X (unaryOp op) (LV X.K g)) (ha:EV X a f):EV X (.UnaryOp op a pos) (o1 f g):=
 PE.imp (HK ho ha) fun σ H Q h=>by
  obtain ⟨H₀,Z₀,Z,δ,d,hh,e,k⟩:=h
  obtain ⟨x,e1,e⟩:=bind_some e
  exact ⟨H₀,Z₀,Z,δ,x,hh,e1,fun v Z1 H1 hh1 s1 r1=>⟨Z1,x,d,hh1.zh,r1,e,fun w Z3 H3 n r3=>k w Z3 H3 (hh1.new n) (s1.trans n.z) r3⟩⟩
theorem gZ {op:CmpOp} {g:D->D->Option D} (ho:OpR X (compareOp op) (rD X.K g)) (ha:EV X a f1) (hb:EV X b f2) (hm:behindInMarks op b=false):EV X (.Compare a [op] [b] pos) (o2 f1 f2 g):=
 PE.imp (Bw ho ha hb hm) fun _ _ _ h=>two (fun _ _ _ _ q=>q) h
theorem rn {d:D} {b:Bool} (h:asB d=some b):d=.bool b:=by
 cases d <;> simp [asB] at h
 subst h; rfl
theorem LR {K:Fg} {σ:St} {H:Hp} {Q:Bool->Hp->Prop} (h:Gy K (ob f) σ H Q):tV K f σ H fun x H1=>∃ c,x=.bl c/\Q c H1:=by
 obtain ⟨H₀,Z₀,Z,δ,d,hh,e,k⟩:=h
 obtain ⟨x,e1,e⟩:=bind_some e
 have:=rn e
 subst this
 exact ⟨H₀,Z₀,Z,δ,_,hh,e1,fun v Z1 H1 hh1 s1 r1=>⟨_,r1.bl_eq,k Z1 H1 hh1 s1⟩⟩
theorem aB {op:CmpOp} {g:D->D->Option D} (ho:OpR X (compareOp op) (rD X.K g)) (ha:EV X a f1) (hb:EV X b f2) (hm:behindInMarks op b=false):TV X (.Compare a [op] [b] pos) (ob (o2 f1 f2 g)):=
 PT.imp (Bo ho ha hb hm) fun σ H Q h=>by
  have h':=LR h
  exact two (f1:=f1) (f2:=f2) (g:=g) (fun _ _ _ _ q=>q) h'
theorem jJ (ha:EV X a f) (he:∀ whole,isTrue a X.env whole=(do let v <- whole; standAt a.pos; holding [v] (truthy v)):=by intro _; rfl):TV X a (ob f):=
 PT.imp (ED ha he) fun _ _ _ h=>LR h
noncomputable def WV (X:Cx) (e:Expr) (f:Dv->Option Bool):Prop:=PW X e (Gy X.K f)
theorem PW.imp {X:Cx} {e:Expr} {t t':TT} (h:PW X e t) (i:∀ σ H Q,t' σ H Q->t σ H Q):PW X e t':=fun whole pins s σ H Q I hw=>h whole pins s σ H Q I (i _ _ _ hw)
theorem ip (ha:TV X a ft):WV X (.BoolOp .And [a] pos) ft:=Bn ha
theorem iU (ha:TV X a ft):WV X (.BoolOp .Or [a] pos) ft:=EA ha
theorem iV {rest:List Expr} (ha:TV X a ft) (hb:WV X (.BoolOp .And (b::rest) pos) fu):WV X (.BoolOp .And (a::b::rest) pos) (kJ ft fu):=
 PW.imp (EB ha hb) fun σ H Q h=>by
  obtain ⟨H₀,Z₀,Z,δ,d,hh,e,k⟩:=h
  obtain ⟨x,e1,e⟩:=bind_some e
  refine ⟨H₀,Z₀,Z,δ,x,hh,e1,fun Z1 H1 hh1 s1=>?_⟩
  cases x with
  | true=>exact ⟨H₀,Z₀,Z1,δ,d,hh1,e,fun Z2 H2 hh2 s2=>k Z2 H2 hh2 (s1.trans s2)⟩
  | false=>cases e; exact k Z1 H1 hh1 s1
theorem j2 {rest:List Expr} (ha:TV X a ft) (hb:WV X (.BoolOp .Or (b::rest) pos) fu):WV X (.BoolOp .Or (a::b::rest) pos) (sw ft fu):=
 PW.imp (HI ha hb) fun σ H Q h=>by
  obtain ⟨H₀,Z₀,Z,δ,d,hh,e,k⟩:=h
  obtain ⟨x,e1,e⟩:=bind_some e
  refine ⟨H₀,Z₀,Z,δ,x,hh,e1,fun Z1 H1 hh1 s1=>?_⟩
  cases x with
  | true=>cases e; exact k Z1 H1 hh1 s1
  | false=>exact ⟨H₀,Z₀,Z1,δ,d,hh1,e,fun Z2 H2 hh2 s2=>k Z2 H2 hh2 (s1.trans s2)⟩
theorem WV.tv (h:WV X a ft):TV X a ft:=PW.pt h
theorem jK (ha:TV X a ft):TV X (.UnaryOp .Not a pos) (nt ft):=
 PT.imp (EE ha) fun σ H Q h=>by
  obtain ⟨H₀,Z₀,Z,δ,d,hh,e,k⟩:=h
  cases e1:ft δ with
  | none=>unfold nt at e; rw [e1] at e; cases e
  | some x=>
   unfold nt at e
   rw [e1] at e
   cases e
   exact ⟨H₀,Z₀,Z,δ,x,hh,e1,fun Z1 H1 hh1 s1=>k Z1 H1 hh1 s1⟩
theorem qN {op} (h:EV X a f):EV X (.BoolOp op [a] pos) f:=EK h
theorem nM {rest:List Expr} (ha:EV X a f1) (hb:EV X (.BoolOp .And (b::rest) pos) f2):EV X (.BoolOp .And (a::b::rest) pos) (pk f1 f2):=
 PE.imp (EQ ha hb) fun σ H Q h=>by
  obtain ⟨H₀,Z₀,Z,δ,d,hh,e,k⟩:=h
  obtain ⟨x,e1,e⟩:=bind_some e
  obtain ⟨c,e2,e⟩:=bind_some e
  have:=rn e2
  subst this
  refine ⟨H₀,Z₀,Z,δ,_,hh,e1,fun v Z1 H1 hh1 s1 r1=>⟨c,r1.bl_eq,?_⟩⟩
  cases c with
  | true=>exact ⟨H₀,Z₀,Z1,δ,d,hh1,e,fun v Z2 H2 hh2 s2 r2=>k v Z2 H2 hh2 (s1.trans s2) r2⟩
  | false=>cases e; exact k _ Z1 H1 hh1 s1 (.bl false)
theorem F6 (ha:EV X a f):EV X (.UnaryOp .Not a pos) (o1 f BM):=
 PE.imp (EL ha) fun σ H Q h=>by
  obtain ⟨H₀,Z₀,Z,δ,d,hh,e,k⟩:=h
  obtain ⟨x,e1,e⟩:=bind_some e
  cases e2:asB x with
  | none=>unfold BM at e; rw [e2] at e; cases e
  | some c=>
   unfold BM at e
   rw [e2] at e
   cases e
   have:=rn e2
   subst this
   exact ⟨H₀,Z₀,Z,δ,_,hh,e1,fun v Z1 H1 hh1 s1 r1=>⟨c,r1.bl_eq,k _ Z1 H1 hh1 s1 (.bl _)⟩⟩
theorem qP (hc:TV X c ft) (ha:EV X a f1) (hb:EV X b f2):EV X (.IfExp c a b pos) (HV ft f1 f2):=
 PE.imp (yL hc ha hb) fun σ H Q h=>by
  obtain ⟨H₀,Z₀,Z,δ,d,hh,e,k⟩:=h
  obtain ⟨x,e1,e⟩:=bind_some e
  refine ⟨H₀,Z₀,Z,δ,x,hh,e1,fun Z1 H1 hh1 s1=>?_⟩
  cases x with
  | true=>exact ⟨H₀,Z₀,Z1,δ,d,hh1,e,fun v Z2 H2 hh2 s2 r2=>k v Z2 H2 hh2 (s1.trans s2) r2⟩
  | false=>exact ⟨H₀,Z₀,Z1,δ,d,hh1,e,fun v Z2 H2 hh2 s2 r2=>k v Z2 H2 hh2 (s1.trans s2) r2⟩
theorem Hold.read {K:Fg} {H₀ Z₀ Z H:Hp} {δ:Dv} {σ:St} (hh:Hold K H₀ Z₀ Z δ σ H) {i:Nat} {d:D} (h:oV i δ = some d):∃ v,σ[i]? = some (some v)/\Rep K Z v d:=by
 unfold oV at h
 cases q:δ[i]? with
 | none=>rw [q] at h; cases h
 | some x=>
  rw [q] at h
  cases x with
  | fz e=>cases h; exact hh.fz i _ q
  | un=>cases h
  | own _=>cases h
  | fr ds=>
   cases h
   obtain ⟨a,xs,h1,_,_,h4,h5⟩:=hh.fr i ds q
   exact ⟨.ref a,h1,.lst (SqL.of h4) h5⟩
theorem aa (i:Nat) {x:Str} (hN:X.N[i]? = some x:=by rfl) (hv:Dc X.env.scope x:=by first | exact Or.inl rfl | exact Or.inr (Or.inl rfl) | exact Or.inr (Or.inr rfl)) (hd:(x==("__debug__":Str))=false:=by decide) (hcd:(x==("__classdict__":Str))=false:=by decide) :
  EV X (.Name x pos) (oV i):=
 PE.imp (jR hN hv hd hcd) fun σ H Q h=>by
  obtain ⟨H₀,Z₀,Z,δ,d,hh,e,k⟩:=h
  obtain ⟨v,q,r⟩:=hh.read e
  exact ⟨v,q,k v Z H hh (Same.refl _) r⟩
theorem zV {d:D} {v:V} (h:PE X e (tC v)) (r:∀ Z,Rep X.K Z v d):EV X e (oC d):=
 PE.imp h fun σ H Q h=>by
  obtain ⟨H₀,Z₀,Z,δ,d',hh,e,k⟩:=h
  cases e
  exact k v Z H hh (Same.refl _) (r Z)
theorem ad {i j}:EV X (.Constant (.int i) j pos) (oC (.int i)):=zV yK fun _=>.int i
theorem km {i j}:EV X (.Constant (.bool i) j pos) (oC (.bool i)):=zV HM fun _=>.bl i
theorem zT {j}:EV X (.Constant .none j pos) (oC .none):=zV EM fun _=>.non
theorem aL {i j}:EV X (.Constant (.str i) j pos) (oC (.str i)):=zV EJ fun _=>.str i
theorem ae:AV X [] ai:=
 PA.imp qj fun σ H Q h=>by
  obtain ⟨H₀,Z₀,Z,δ,d,hh,e,k⟩:=h
  cases e
  exact k [] Z H hh (Same.refl _) .nil
theorem ab (ha:EV X e f) (hr:AV X es fs) (hs:starEach (e::es) X.env=(false,eval e X.env)::starEach es X.env:=by rfl):AV X (e::es) (ac f fs):=
 PA.imp (jt ha hr hs) fun σ H Q h=>by
  obtain ⟨H₀,Z₀,Z,δ,d,hh,e,k⟩:=h
  obtain ⟨x,e1,e⟩:=bind_some e
  obtain ⟨xs,e2,e⟩:=bind_some e
  cases e
  exact ⟨H₀,Z₀,Z,δ,x,hh,e1,fun v Z1 H1 hh1 s1 r1=>⟨H₀,Z₀,Z1,δ,xs,hh1,e2,fun vs Z2 H2 hh2 s2 r2=>k _ Z2 H2 hh2 (s1.trans s2) (.cons (r1.same s2) r2)⟩⟩
theorem aK {x1} (h:AV X es fs):EV X (.Tuple es x1 pos) (os fs aO):=
 PE.imp (EI h) fun σ H Q h=>by
  obtain ⟨H₀,Z₀,Z,δ,d,hh,e,k⟩:=h
  obtain ⟨xs,e1,e⟩:=bind_some e
  refine ⟨H₀,Z₀,Z,δ,xs,hh,e1,fun vs Z1 H1 hh1 s1 r1=>?_⟩
  by_cases hl:xs.length<=sizeLine
  ·rw [aO,if_pos hl] at e
   cases e
   refine ⟨by rw [r1.length]; exact hl,fun p hp=>?_⟩
   have n:=New.add hh1.zh hp (.tup vs)
   exact k _ _ _ (hh1.new n) (s1.trans n.z) (.tup (SqT.of aQ) (r1.same n.z))
  ·rw [aO,if_neg hl] at e; cases e
theorem eX (h:AV X es fs):EV X (.List es pos) (os fs dD):=
 PE.imp (yI h) fun σ H Q h=>by
  obtain ⟨H₀,Z₀,Z,δ,d,hh,e,k⟩:=h
  obtain ⟨xs,e1,e⟩:=bind_some e
  refine ⟨H₀,Z₀,Z,δ,xs,hh,e1,fun vs Z1 H1 hh1 s1 r1=>?_⟩
  by_cases hl:xs.length<=sizeLine
  ·rw [dD,if_pos hl] at e
   cases e
   refine ⟨by rw [r1.length]; exact hl,fun p hp=>?_⟩
   have n:=New.add hh1.zh hp (.lst vs)
   exact k _ _ _ (hh1.new n) (s1.trans n.z) (.lst (SqL.of aQ) (r1.same n.z))
  ·rw [dD,if_neg hl] at e; cases e
theorem args {K:Fg} {g:List D->Option D} {σ:St} {H:Hp} {Q:VK} (h:tV K (os fs g) σ H Q):LS K fs σ H fun vs H1=>xF K g vs H1 Q:=by
 obtain ⟨H₀,Z₀,Z,δ,d,hh,e,k⟩:=h
 obtain ⟨xs,e1,e⟩:=bind_some e
 exact ⟨H₀,Z₀,Z,δ,xs,hh,e1,fun vs Z1 H1 hh1 s1 r1=>⟨Z1,xs,d,hh1.zh,r1,e,fun w Z3 H3 n r3=>k w Z3 H3 (hh1.new n) (s1.trans n.z) r3⟩⟩
theorem aJ {x:Str} {id:String} {g:List D->Option D} (hc:CallR X (.builtin id) (xF X.K g)) (hg:Gl X x) (hm:X.mg x=none) (hv:bootBuiltins x=some (.builtin id)) (ha:AV X (e::es) fs) (hn:x ≠ "__name__":=by decide) (hdb:(x==("__debug__":Str))=false:=by decide)
  (he:starEach (e::es) X.env=(false,eval e X.env)::starEach es X.env:=by rfl) (hpl:(backTo pos (starEach es X.env)).any (·.1)=false:=by rfl):EV X (.Call (.Name x p) (e::es) [] pos) (os fs g):=
 PE.imp (m9 hc hg hm hv ha hn hdb he hpl) fun _ _ _ h=>args h
theorem dk {x:Str} {id:String} {g:List D->Option D} (hc:CallR X (.type id) (xF X.K g)) (hg:Gl X x) (hm:X.mg x=none) (hv:bootBuiltins x=some (.type id)) (ha:AV X (e::es) fs) (hn:x ≠ "__name__":=by decide) (hdb:(x==("__debug__":Str))=false:=by decide)
  (he:starEach (e::es) X.env=(false,eval e X.env)::starEach es X.env:=by rfl) (hpl:(backTo pos (starEach es X.env)).any (·.1)=false:=by rfl):EV X (.Call (.Name x p) (e::es) [] pos) (os fs g):=
 PE.imp (pd hc hg hm hv ha hn hdb he hpl) fun _ _ _ h=>args h
theorem CM {k:Nat} {fa:Addr} {fd:FuncData} {ps:List Str} {x:Str} {g:List D->Option D} {dd:List D} {dv:List V} {ds:List Value} (F:FnOk X.prog X.w X.K X.mg X.base dN k fa fd ps (fh X.K g)) (hr:Room k X.A) (hg:Gl X x) (hm:X.mg x=some (.ref fa)) (hk:PySem.W.keepIn X.K (.ref fa)=true)
  (hb:Binds X.K fd ps ds) (hd:Vals dv ds) (hdd:∀ Z,Reps X.K Z dv dd) (hx:rz dN X E0) (ha:AV X (e::es) fs) (hdb:(x==("__debug__":Str))=false:=by decide) (he:starEach (e::es) X.env=(false,eval e X.env)::starEach es X.env:=by rfl) (hpl:(backTo pos (starEach es X.env)).any (·.1)=false:=by rfl) :
  EV X (.Call (.Name x p) (e::es) [] pos) (os fs fun as=>g (as++dd)):=
 PE.imp (vn F hr hg hm hk hb hd hx ha hdb he hpl) fun σ H Q h=>by
  obtain ⟨H₀,Z₀,Z,δ,xs,hh,e1,q⟩:=args h
  refine ⟨H₀,Z₀,Z,δ,xs,hh,e1,fun vs Z1 H1 hh1 s1 r1=>?_⟩
  obtain ⟨Z2,as,d,zh,ra,eg,kk⟩:=q vs Z1 H1 hh1 s1 r1
  exact ⟨Z2,as++dd,d,zh,ra.append (hdd Z2),eg,kk⟩
theorem IxR.imp {r r':R2} (h:IxR X r) (i:∀ x y H Q,r' x y H Q->r x y H Q):IxR X r':=fun value slice pins s σ H x y v u Q I rx ry q hs=>h value slice pins s σ H x y v u Q I rx ry (i _ _ _ _ q) hs
theorem af {g:D->D->Option D} (ho:IxR X (rD X.K g)) (ha:EV X a f1) (hb:EV X b f2) (hs:mJ b):EV X (.Subscript a b pos) (o2 f1 f2 g):=
 PE.imp (yJ ho ha hb hs) fun _ _ _ h=>two (fun _ _ _ _ q=>q) h
end
end VL
set_option Elab.async false
set_option linter.all false
set_option maxRecDepth 100000
set_option maxHeartbeats 4000000
namespace VL
open PySem PySem.Spec PyProof.Rows L2
section
variable {X:Cx} {a b c e tg:Expr} {es:List Expr} {pos p:Pos} {f f1 f2 f3:Dv->Option D} {fs:Dv->Option (List D)} {ft fu:Dv->Option Bool} {st:Stmt} {sts body:List Stmt} {s1 s2:Dv->Option (Fl×Dv)}
theorem vp {F:Value->Value->Sem Value} {g:Int->Int->Int} (h:OpR X F (xD fun i j=>.int (g i j))):OpR X F (rD X.K (iI g)):=
 OpR.imp h fun x y H Q q=>by
  obtain ⟨Z,a,b,d,zh,ra,rb,e,k⟩:=q
  cases ra <;> cases rb <;> simp [iI] at e
  subst e
  exact ⟨_,_,rfl,rfl,k _ Z H (New.refl zh) (.int _)⟩
theorem yP {F:Value->Value->Sem Value} {g:Int->Int->Bool} (h:OpR X F (xD fun i j=>.bl (g i j))):OpR X F (rD X.K (iB g)):=
 OpR.imp h fun x y H Q q=>by
  obtain ⟨Z,a,b,d,zh,ra,rb,e,k⟩:=q
  cases ra <;> cases rb <;> simp [iB] at e
  subst e
  exact ⟨_,_,rfl,rfl,k _ Z H (New.refl zh) (.bl _)⟩
theorem si {F:Value->Value->Sem Value} {P:Int->Int->Prop} {C:Int->Int->Bool} {g:Int->Int->Int} (h:OpR X F (rI P fun i j=>.int (g i j))) (hc:∀ i j,C i j=true->P i j):OpR X F (rD X.K (iC C g)):=
 OpR.imp h fun x y H Q q=>by
  obtain ⟨Z,a,b,d,zh,ra,rb,e,k⟩:=q
  cases ra with
  | int i=>
   cases rb with
   | int j=>
    by_cases hh:C i j=true
    ·simp only [iC,if_pos hh] at e
     cases e
     exact ⟨_,_,rfl,rfl,hc _ _ hh,k _ Z H (New.refl zh) (.int _)⟩
    ·simp only [iC,if_neg hh] at e
     cases e
   | _=>simp [iC] at e
  | _=>simp [iC] at e
theorem br:OpR X (binaryOp .Sub) (rD X.K bM):=vp EW
theorem cX:OpR X (binaryOp .Mult) (rD X.K fV):=si (P:=fun i j=>IntMulOk i j) (HU fun _ _ _ _ _ _ _ hc q=>mul_int q hc) fun i j h=>of_decide_eq_true h
theorem dq:OpR X (binaryOp .FloorDiv) (rD X.K cq):=si BA fun i j h=>(of_decide_eq_true h:0<j/\j<1073741824)
theorem cH:OpR X (binaryOp .Mod) (rD X.K bw):=si EY fun i j h=>of_decide_eq_true h
theorem gv:OpR X (binaryOp .LShift) (rD X.K dO):=si (P:=fun i j=>0<=j/\(Builtin.Int.intBits i:Int)+j<=2 ^ 27) (HU fun _ _ _ _ _ _ _ hc q=>lshift_int hc.1 hc.2 q) fun i j h=>of_decide_eq_true h
theorem vO:OpR X (binaryOp .RShift) (rD X.K oE):=si EX fun i j h=>of_decide_eq_true h
theorem iS:OpR X (binaryOp .BitAnd) (rD X.K lh):=vp EZ
theorem xn:OpR X (binaryOp .BitOr) (rD X.K Au):=vp HN
theorem lF:OpR X (binaryOp .BitXor) (rD X.K pP):=vp EU
theorem uF:OpR X (compareOp .Lt) (rD X.K Av):=yP HQ
theorem Ld:OpR X (compareOp .LtE) (rD X.K KZ):=yP HR
theorem nP:OpR X (compareOp .Gt) (rD X.K sM):=yP HS
theorem i9:Ju X (unaryOp .USub) (LV X.K negD):=by
 intro pins s σ H x v Q I rx q
 obtain ⟨Z,a,d,zh,ra,e,k⟩:=q
 cases ra <;> simp [negD] at e
 subst e
 exact DV pins s σ H _ v Q I rx ⟨_,rfl,k _ Z H (New.refl zh) (.int _)⟩
theorem Rep.str_eq {K:Fg} {Z:Hp} {v:V} {x:Str} (h:Rep K Z v (.str x)):v=.str x:=by cases h; rfl
theorem Rep.tup_ex {K:Fg} {Z:Hp} {v:V} {ds:List D} (h:Rep K Z v (.tuple ds)):∃ a xs,v=.ref a/\SqT K Z a xs/\Reps K Z xs ds:=by
 cases h with
 | tup p q=>exact ⟨_,_,rfl,p,q⟩
theorem Rep.lst_ex {K:Fg} {Z:Hp} {v:V} {ds:List D} (h:Rep K Z v (.list ds)):∃ a xs,v=.ref a/\SqL K Z a xs/\Reps K Z xs ds:=by
 cases h with
 | lst p q=>exact ⟨_,_,rfl,p,q⟩
theorem kj {p:Prop} [Decidable p] {α:Type} {x y:α} (h:(if p then some x else none)=some y):p/\x=y:=by
 by_cases q:p
 ·rw [if_pos q] at h; exact ⟨q,Option.some.inj h⟩
 ·rw [if_neg q] at h; cases h
theorem Gr {a b d:D} (h:aT a b=some d):(∃ i,a=.int i)\/(∃ x,a=.str x)\/(∃ xs,a=.list xs)\/∃ xs,a=.tuple xs:=by
 cases a with
 | int i=>exact .inl ⟨_,rfl⟩
 | str i=>exact .inr (.inl ⟨_,rfl⟩)
 | list i=>exact .inr (.inr (.inl ⟨_,rfl⟩))
 | tuple i=>exact .inr (.inr (.inr ⟨_,rfl⟩))
 | _=>cases h
theorem Gs {i:Int} {b d:D} (h:aT (.int i) b=some d):∃ j,b=.int j/\d=.int (i+j):=by
 cases b with
 | int j=>exact ⟨j,rfl,(Option.some.inj h).symm⟩
 | _=>cases h
theorem Gp {i:Str} {b d:D} (h:aT (.str i) b=some d):∃ j,b=.str j/\i.length+j.length<=sizeLine/\d=.str (i++j):=by
 cases b with
 | str j=>obtain ⟨p,q⟩:=kj h; exact ⟨j,rfl,p,q.symm⟩
 | _=>cases h
theorem Gq {i:List D} {b d:D} (h:aT (.list i) b=some d):∃ j,b=.list j/\i.length+j.length<=sizeLine/\d=.list (i++j):=by
 cases b with
 | list j=>obtain ⟨p,q⟩:=kj h; exact ⟨j,rfl,p,q.symm⟩
 | _=>cases h
theorem Go {i:List D} {b d:D} (h:aT (.tuple i) b=some d):∃ j,b=.tuple j/\i.length+j.length<=sizeLine/\d=.tuple (i++j):=by
 cases b with
 | tuple j=>obtain ⟨p,q⟩:=kj h; exact ⟨j,rfl,p,q.symm⟩
 | _=>cases h
theorem bz:OpR X (binaryOp .Add) (rD X.K aT):=by
 intro pins s σ H x y v u Q I rx ry q
 obtain ⟨Z,a,b,d,zh,ra,rb,e,k⟩:=q
 rcases Gr e with ⟨i,rfl⟩ | ⟨i,rfl⟩ | ⟨ds,rfl⟩ | ⟨ds,rfl⟩
 ·obtain ⟨j,rfl,rfl⟩:=Gs e
  cases ra.int_eq
  cases rb.int_eq
  exact E1 pins s σ H _ _ v u Q I rx ry ⟨_,_,rfl,rfl,k _ Z H (New.refl zh) (.int _)⟩
 ·obtain ⟨j,rfl,hl,rfl⟩:=Gp e
  cases ra.str_eq
  cases rb.str_eq
  exact uf pins s σ H _ _ v u Q I rx ry ⟨_,_,rfl,rfl,hl,k _ Z H (New.refl zh) (.str _)⟩
 ·obtain ⟨es,rfl,hl,rfl⟩:=Gq e
  obtain ⟨a,xs,rfl,h1,q1⟩:=ra.lst_ex
  obtain ⟨b,ys,rfl,h2,q2⟩:=rb.lst_ex
  cases rx
  cases ry
  obtain ⟨its,r1,p1,z1⟩:=I.list (SqL.same h1 zh)
  obtain ⟨its2,r2,p2,z2⟩:=I.list (SqL.same h2 zh)
  obtain ⟨⟨cls,dd,data,sl⟩,n1,ho,hc,hdd,hd⟩:=p1
  obtain ⟨⟨cls2,dd2,data2,sl2⟩,n2,ho2,hc2,hdd2,hd2⟩:=p2
  simp only at hc hd hc2 hd2
  subst hc hd hc2 hd2
  have hl1:=r1.length
  have hl2:=r2.length
  have ql1:=q1.length
  have ql2:=q2.length
  refine concat_meets ⟨_,ho,rfl⟩ ⟨_,ho2,rfl⟩ noFill_list_add seq_list_add PySem.F.slot_list_add PySem.F.entry_list_add (PySem.F.args_list_add_2 _ _) (list_addW a b its.toArray its2.toArray n1 n2 dd dd2 sl sl2 (by simp; omega)) ⟨ho,ho2,?_⟩
  have ea:its.toArray++its2.toArray=(its++its2).toArray:=by simp
  rw [ea]
  have n:=New.add zh I.fresh (.lst (xs++ys))
  exact ⟨.ref _,_,I.lnew (t':=s.toks) (r1.append r2) (by rw [List.length_append]; omega),rfl,k _ _ _ n (.lst (SqL.of aQ) ((q1.append q2).same n.z))⟩
 ·obtain ⟨es,rfl,hl,rfl⟩:=Go e
  obtain ⟨a,xs,rfl,h1,q1⟩:=ra.tup_ex
  obtain ⟨b,ys,rfl,h2,q2⟩:=rb.tup_ex
  by_cases h0:ds.length=0
  ·have hd0:ds=[]:=List.eq_nil_of_length_eq_zero h0
   subst hd0
   cases q1
   cases rx
   cases ry
   obtain ⟨its,r1,p1,z1⟩:=I.tuple (SqT.same h1 zh)
   obtain ⟨its2,r2,p2,z2⟩:=I.tuple (SqT.same h2 zh)
   cases r1
   obtain ⟨⟨cls,dd,data,sl⟩,ho,hc,n,hd⟩:=id p1
   obtain ⟨⟨cls2,dd2,data2,sl2⟩,ho2,hc2,n2,hd2⟩:=id p2
   simp only at hc hd hc2 hd2
   subst hc hd hc2 hd2
   exact concat_meets ⟨_,ho,rfl⟩ ⟨_,ho2,rfl⟩ noFill_tuple_add seq_tuple_add PySem.F.slot_tuple_add PySem.F.entry_tuple_add (PySem.F.args_tuple_add_2 _ _)
    (tuple_addW0 a b _ its2.toArray n n2 dd dd2 sl sl2 (by simp)) ⟨ho,ho2,⟨.ref b,H,I,rfl,k _ Z H (New.refl zh) (.tup h2 q2)⟩⟩
  refine BB pins s σ H _ _ v u Q I rx ry ⟨a,b,xs,ys,rfl,rfl,SqT.same h1 zh,SqT.same h2 zh,fun z=>h0 (by rw [<- q1.length,z]; rfl),by rw [q1.length,q2.length]; exact hl,fun z=>?_,fun z p hp=>?_⟩
  ·subst z
   cases q2
   rw [List.append_nil] at k
   exact k _ Z H (New.refl zh) (.tup h1 q1)
  ·have n:=New.add zh hp (.tup (xs++ys))
   exact k _ _ _ n (.tup (SqT.of aQ) ((q1.append q2).same n.z))
theorem mB {d:D} (h:xC d=true):d.canLay0=true:=(Bool.and_eq_true_iff.mp h).1
theorem cO (hu:X.A.units+64<cLine):OpR X (compareOp .Eq) (rD X.K aX):=by
 intro pins s σ H x y v u Q I rx ry q
 obtain ⟨Z,a,b,d,zh,ra,rb,e,k⟩:=q
 by_cases hs:xC a=true/\xC b=true
 ·rw [aX,if_pos hs] at e
  cases e
  obtain ⟨as,r1⟩:=ra.reads I zh rx (mB hs.1)
  obtain ⟨bs,r2⟩:=rb.reads I zh ry (mB hs.2)
  exact eq_dataH r1 r2 hs.1 hs.2 hu ⟨.bl _,H,I,rfl,k _ Z H (New.refl zh) (.bl _)⟩
 ·rw [aX,if_neg hs] at e; cases e
theorem oQ (hu:X.A.units+64<cLine):OpR X (compareOp .NotEq) (rD X.K neD):=by
 intro pins s σ H x y v u Q I rx ry q
 obtain ⟨Z,a,b,d,zh,ra,rb,e,k⟩:=q
 by_cases hs:xC a=true/\xC b=true
 ·rw [neD,if_pos hs] at e
  cases e
  obtain ⟨as,r1⟩:=ra.reads I zh rx (mB hs.1)
  obtain ⟨bs,r2⟩:=rb.reads I zh ry (mB hs.2)
  exact ne_dataH r1 r2 hs.1 hs.2 hu ⟨.bl _,H,I,rfl,k _ Z H (New.refl zh) (.bl _)⟩
 ·rw [neD,if_neg hs] at e; cases e
theorem FV {K:Fg} {Z:Hp} {v:V} {d:D} (r:Rep K Z v d):decide (v=.non)=FW d:=by cases r <;> rfl
theorem Gd:OpR X (compareOp .IsNot) (rD X.K vG):=
 OpR.imp Bz fun x y H Q q=>by
  obtain ⟨Z,a,b,d,zh,ra,rb,e,k⟩:=q
  cases rb <;> simp [vG] at e
  subst e
  exact ⟨rfl,by rw [FV ra]; exact k _ Z H (New.refl zh) (.bl _)⟩
theorem Reps.at {K:Fg} {Z:Hp} {vs:List V} {ds:List D} {i:Int} {d:D} (r:Reps K Z vs ds) (h:hU ds i=some d):∃ v,hU vs i=some v/\Rep K Z v d:=by
 unfold hU at h ⊢
 rw [r.length]
 obtain ⟨j,e,h⟩:=bind_some h
 obtain ⟨v,q,rr⟩:=r.get h
 exact ⟨v,by rw [e]; exact q,rr⟩
theorem Ix {a b d:D} (h:av a b=some d):(∃ xs,a=.list xs)\/∃ xs,a=.tuple xs:=by
 cases a with
 | list i=>exact .inl ⟨_,rfl⟩
 | tuple i=>exact .inr ⟨_,rfl⟩
 | _=>cases h
theorem DI {xs:List D} {b d:D} (h:av (.list xs) b=some d):∃ i,b=.int i/\hU xs i=some d:=by
 cases b with
 | int i=>exact ⟨i,rfl,h⟩
 | _=>cases h
theorem ar:IxR X (rD X.K av):=
 IxR.imp (ix_list.or zK) fun x y H Q q=>by
  obtain ⟨Z,a,b,d,zh,ra,rb,e,k⟩:=q
  rcases Ix e with ⟨xs,rfl⟩ | ⟨xs,rfl⟩
  ·obtain ⟨i,rfl,e⟩:=DI e
   obtain ⟨a,vs,rfl,h1,q1⟩:=ra.lst_ex
   cases rb.int_eq
   obtain ⟨v,ev,rv⟩:=q1.at e
   exact .inl ⟨_,_,_,v,rfl,rfl,SqL.same h1 zh,ev,k v Z H (New.refl zh) rv⟩
  ·obtain ⟨i,rfl,e⟩:=DI (xs:=xs) (b:=b) (by cases b <;> exact e)
   obtain ⟨a,vs,rfl,h1,q1⟩:=ra.tup_ex
   cases rb.int_eq
   obtain ⟨v,ev,rv⟩:=q1.at e
   exact .inr ⟨_,_,_,v,rfl,rfl,SqT.same h1 zh,ev,k v Z H (New.refl zh) rv⟩
theorem cQ:CallR X (.builtin "len") (xF X.K bf):=
 CallR.imp sV fun xs H Q q=>by
  obtain ⟨Z,as,d,zh,ra,e,k⟩:=q
  cases ra with
  | nil=>cases e
  | cons r1 r2=>
   cases r2 with
   | cons _ _=>cases r1 <;> cases e
   | nil=>
    cases r1 with
    | lst h1 q1=>cases e; exact ⟨_,_,rfl,.inl ⟨_,SqL.same h1 zh,rfl⟩,k _ Z H (New.refl zh) (by rw [q1.length]; exact .int _)⟩
    | tup h1 q1=>cases e; exact ⟨_,_,rfl,.inr ⟨_,SqT.same h1 zh,rfl⟩,k _ Z H (New.refl zh) (by rw [q1.length]; exact .int _)⟩
    | _=>cases e
theorem rK {K:Fg} {Z:Hp} {xs:List V} {as:List D} {d:D} {g:List D->Option D} {h:Int->Int->Int} (hg:∀ as d,g as=some d->∃ i j,as=[.int i,.int j]/\d=.int (h i j)) (r:Reps K Z xs as) (e:g as=some d) :
  ∃ i j,xs=[.int i,.int j]/\d=.int (h i j):=by
 obtain ⟨i,j,rfl,rfl⟩:=hg _ _ e
 cases r with
 | cons r1 r2=>
  cases r2 with
  | cons r3 r4=>
   cases r4
   exact ⟨i,j,by rw [r1.int_eq,r3.int_eq],rfl⟩
theorem Jk (hc:X.calm=true):CallR X (.builtin "min") (xF X.K B0):=
 CallR.imp (xp hc) fun xs H Q q=>by
  obtain ⟨Z,as,d,zh,ra,e,k⟩:=q
  obtain ⟨i,j,rfl,rfl⟩:=rK (h:=fun i j=>if j<i then j else i) (fun as d h=>by unfold B0 at h; split at h <;> cases h; exact ⟨_,_,rfl,rfl⟩) ra e
  exact ⟨i,j,rfl,k _ Z H (New.refl zh) (.int _)⟩
theorem Ac (hc:X.calm=true):CallR X (.builtin "max") (xF X.K ny):=
 CallR.imp (xq hc) fun xs H Q q=>by
  obtain ⟨Z,as,d,zh,ra,e,k⟩:=q
  obtain ⟨i,j,rfl,rfl⟩:=rK (h:=fun i j=>if j>i then j else i) (fun as d h=>by unfold ny at h; split at h <;> cases h; exact ⟨_,_,rfl,rfl⟩) ra e
  exact ⟨i,j,rfl,k _ Z H (New.refl zh) (.int _)⟩
theorem Gg:CallR X (.type "list") (xF X.K vB):=
 CallR.imp kq fun xs H Q q=>by
  obtain ⟨Z,as,d,zh,ra,e,k⟩:=q
  cases ra with
  | nil=>cases e
  | cons r1 r2=>
   cases r2 with
   | cons _ _=>cases r1 <;> cases e
   | nil=>
    cases r1 with
    | lst h1 q1=>cases e; exact ⟨_,_,rfl,.inl (SqL.same h1 zh),fun l hl=>let n:=New.add zh hl (.lst _); k _ _ _ n (.lst (SqL.of aQ) (q1.same n.z))⟩
    | tup h1 q1=>cases e; exact ⟨_,_,rfl,.inr (SqT.same h1 zh),fun l hl=>let n:=New.add zh hl (.lst _); k _ _ _ n (.lst (SqL.of aQ) (q1.same n.z))⟩
    | _=>cases e
theorem gk:CallR X (.type "tuple") (xF X.K dr):=
 CallR.imp oU fun xs H Q q=>by
  obtain ⟨Z,as,d,zh,ra,e,k⟩:=q
  cases ra with
  | nil=>cases e
  | cons r1 r2=>
   cases r2 with
   | cons _ _=>cases r1 <;> cases e
   | nil=>
    cases r1 with
    | lst h1 q1=>cases e; exact ⟨_,_,rfl,.inl ⟨SqL.same h1 zh,fun l hl=>let n:=New.add zh hl (.tup _); k _ _ _ n (.tup (SqT.of aQ) (q1.same n.z))⟩⟩
    | tup h1 q1=>cases e; exact ⟨_,_,rfl,.inr ⟨SqT.same h1 zh,k _ Z H (New.refl zh) (.tup h1 q1)⟩⟩
    | _=>cases e
theorem BZ:MtR X "int.bit_length" (fun x xs H Q=>∃ i,x=.int i/\xs=[]/\Q (.int (Builtin.Int.intBits i)) H):=by
 intro pins s σ H x xs v us Q I rx rs q
 obtain ⟨i,rfl,rfl,q⟩:=q
 obtain ⟨t,rfl⟩:=rx
 cases rs
 exact call_int_bit_length ⟨.int _,H,I.tok _,⟨_,rfl⟩,q⟩
theorem vJ {apos:Pos} (ha:EV X a f) (hbase:attributeBase a "bit_length" X.env (eval a X.env)=eval a X.env:=by rfl) (hline:(apos.endLine==pos.line)=true:=by rfl):EV X (.Call (.Attribute a "bit_length" apos) [] [] pos) (o1 f nU):=
 PE.imp (EN PySem.F.plainAttrs_int PySem.F.slot_int_bit_length PySem.F.type_int_bit_length BZ ha hbase hline) fun σ H Q h=>by
  obtain ⟨H₀,Z₀,Z,δ,d,hh,e,k⟩:=h
  obtain ⟨x,e1,e⟩:=bind_some e
  refine ⟨H₀,Z₀,Z,δ,x,hh,e1,fun v Z1 H1 hh1 s1 r1=>?_⟩
  cases r1 <;> simp [nU] at e
  subst e
  exact ⟨rfl,_,rfl,rfl,k _ Z1 H1 hh1 s1 (.int _)⟩
theorem FM (K:Fg) {t T:String} (ht:t = "NoneType" \/ t = "bool" \/ t = "int" \/ t = "str" \/ t = "list" \/ t = "tuple") (hT:T = "int" \/ T = "bool" \/ T = "str" \/ T = "list" \/ T = "tuple"):PySem.W.kitOne K (.type t) (.type T)=some (FU t T):=by
 rcases ht with rfl | rfl | rfl | rfl | rfl | rfl <;> rcases hT with rfl | rfl | rfl | rfl | rfl <;> rfl
theorem Rep.ty {K:Fg} {Z H:Hp} {v:V} {d:D} (zh:Same Z H) (r:Rep K Z v d) (hD:¬vH d=true):(tyN d = "NoneType" \/ tyN d = "bool" \/ tyN d = "int" \/ tyN d = "str" \/ tyN d = "list" \/ tyN d = "tuple"):=by
 cases r <;> simp [tyN]
 exact absurd rfl hD
theorem FT {pins:List (Addr×Obj)} {σ:St} {H Z:Hp} {s:Shared} {x:V} {u:Value} {d:D} {T:String} {A:Around} {E:Value->Shared->Prop} {Q:Value->Shared->Prop} (I:Inv X pins σ H s) (zh:Same Z H) (rx:RelV x u) (r:Rep X.K Z x d) (hD:¬vH d=true)
  (hT:T = "int" \/ T = "bool" \/ T = "str" \/ T = "list" \/ T = "tuple") (h:∀ tk,Q (.bool (FU (tyN d) T)) { s with toks:=tk }):wpAny (model X.prog X.w) A (call (.builtin "isinstance") [u,.type T]) Q E s:=by
 have ko:=FM X.K (Rep.ty zh r hD) hT
 cases r with
 | non=>exact jw I rx (.non) ko h
 | bl b=>exact jw I rx (.bl b) ko h
 | int b=>exact jw I rx (.int b) ko h
 | str b=>exact jw I rx (.str b) ko h
 | @tup a xs ds h1 q1=>
  cases (show u=Value.ref a from rx)
  obtain ⟨its,_,p,_⟩:=I.tuple (SqT.same h1 zh)
  obtain ⟨o,h1,h2,_⟩:=p
  exact PySem.W.kia_one PySem.W.kitx_tuple I.kIn ⟨o,h1,h2⟩ ko (fun z=>nomatch z) h
 | @lst a xs ds h1 q1=>
  cases (show u=Value.ref a from rx)
  obtain ⟨its,_,p,_⟩:=I.list (SqL.same h1 zh)
  obtain ⟨o,n,h1,h2,_⟩:=p
  exact PySem.W.kia_one PySem.W.kitx_list I.kIn ⟨o,h1,h2⟩ ko (fun z=>nomatch z) h
 | opq h1=>exact absurd rfl hD
theorem Jl (T:String):CallR X (.builtin "isinstance") (fun xs H Q=>∃ x Z d r,xs=[x,.ty T]/\Same Z H/\Rep X.K Z x d/\iD T d=some r/\∃ b,r=.bool b/\Q (.bl b) H):=by
 intro pins s σ H xs us Q I rv h
 obtain ⟨x,Z,d,r,rfl,zh,rr,e,b,rfl,q⟩:=h
 obtain ⟨u,w',rfl,r1,r2⟩:=xL rv
 cases (show w'=Value.type T from r2)
 by_cases hD:vH d=true
 ·rw [iD,if_pos hD] at e; cases e
 by_cases hT:T = "int" \/ T = "bool" \/ T = "str" \/ T = "list" \/ T = "tuple"
 ·rw [iD,if_neg hD,if_pos hT] at e
  cases e
  exact FT I zh r1 rr hD hT fun tk=>⟨.bl _,H,I.tok _,rfl,q⟩
 ·rw [iD,if_neg hD,if_neg hT] at e; cases e
theorem qO {x:Str} {T:String} {p2:Pos} (hg:Gl X "isinstance") (hm:X.mg "isinstance" = none) (hgT:Gl X x) (hmT:X.mg x=none) (hvT:bootBuiltins x=some (.type T)) (hnT:x ≠ "__name__") (hdT:(x==("__debug__":Str))=false) (ha:EV X a f)
  (he:starEach (a::[.Name x p2]) X.env=(false,eval a X.env)::starEach [.Name x p2] X.env:=by rfl) (he2:starEach ((.Name x p2)::[]) X.env=(false,eval (.Name x p2) X.env)::starEach [] X.env:=by rfl) (hpl:(backTo pos (starEach [.Name x p2] X.env)).any (·.1)=false:=by rfl) :
  EV X (.Call (.Name "isinstance" p) [a,.Name x p2] [] pos) (o1 f (iD T)):=
 PE.imp (m9 (Jl T) hg hm PyProof.Rows.boot_isinstance (jt ha (jt (Bx (v:=.ty T) hgT hmT hvT rfl hnT hdT) qj he2) he) (by decide) (by decide) he hpl) fun σ H Q h=>by
  obtain ⟨H₀,Z₀,Z,δ,d,hh,e,k⟩:=h
  obtain ⟨y,e1,e⟩:=bind_some e
  refine ⟨H₀,Z₀,Z,δ,y,hh,e1,fun v Z1 H1 hh1 s1 r1=>⟨v,Z1,y,d,rfl,hh1.zh,r1,e,?_⟩⟩
  have:∃ b,d=.bool b:=by
   unfold iD at e
   split at e
   ·cases e
   ·split at e
    ·cases e; exact ⟨_,rfl⟩
    ·cases e
  obtain ⟨b,rfl⟩:=this
  exact ⟨b,rfl,k _ Z1 H1 hh1 s1 (.bl b)⟩
end
end VL
set_option Elab.async false
set_option linter.all false
set_option maxRecDepth 100000
set_option maxHeartbeats 4000000
namespace VL
open PySem PySem.Spec PyProof.Rows L2
section
variable {X:Cx} {a b c e tg iter:Expr} {es:List Expr} {pos p:Pos} {f f1 f2 f3:Dv->Option D} {fs:Dv->Option (List D)} {ft fu:Dv->Option Bool} {st:Stmt} {sts body orelse:List Stmt} {s1 s2 s3:Sf}
theorem ax (he:EV X e f):SV X (.Return (some e) pos) (aP f):=
 PS.imp (EF he) fun D σ H h=>by
  obtain ⟨H₀,Z₀,Z,δ,r,hh,e,k⟩:=h
  obtain ⟨x,e1,e⟩:=bind_some e
  cases e
  exact ⟨H₀,Z₀,Z,δ,x,hh,e1,fun v Z1 H1 hh1 s1 r1=>k σ H1 Z1 hh1 s1 v r1⟩
theorem az (i:Nat) {x:Str} {pos':Pos} (hN:X.N.Nodup) (he:EV X e f) (hi:X.N[i]? = some x:=by rfl) (hx:xA X.env.scope x:=by first | exact Or.inl rfl | exact Or.inr rfl) (hs:swapsWith e (some (.Name x pos')) pos.line X.env=pure false:=by rfl)
  (hf:X.fn x=true\/X.env.scope.names.lookup x=some .local:=by first | exact .inl rfl | exact .inr rfl | assumption):SV X (.Assign [.Name x pos'] e pos) (aD i f):=
 PS.imp (qh hN hi hx he hs hf) fun D σ H h=>by
  obtain ⟨H₀,Z₀,Z,δ,r,hh,e,k⟩:=h
  obtain ⟨x,e1,e⟩:=bind_some e
  cases e
  exact ⟨H₀,Z₀,Z,δ,x,hh,e1,fun v Z1 H1 hh1 s1 r1=>k _ H1 Z1 (hh1.set r1) s1⟩
theorem u6 (he:EV X e f) (hs:swapsWith e none pos.line X.env=pure false:=by rfl):SV X (.Expr e pos) (yv f):=
 PS.imp (vm he hs) fun D σ H h=>by
  obtain ⟨H₀,Z₀,Z,δ,r,hh,e,k⟩:=h
  obtain ⟨x,e1,e⟩:=bind_some e
  cases e
  exact ⟨H₀,Z₀,Z,δ,x,hh,e1,fun v Z1 H1 hh1 s1 r1=>k σ H1 Z1 hh1 s1⟩
theorem HW {D:Ends} {σ:St} {H:Hp} {K:Fg} (h:Dk K fH D σ H):D.nx σ H:=by
 obtain ⟨H₀,Z₀,Z,δ,r,hh,e,k⟩:=h
 cases e
 exact k σ H Z hh (Same.refl _)
theorem aS:BV X [] fH:=PSs.imp vk fun D σ H h=>HW h
theorem ah (h1:SV X st s1) (h2:BV X sts s2):BV X (st::sts) (ak s1 s2):=
 PSs.imp (mZ h1 h2) fun D σ H h=>by
  obtain ⟨H₀,Z₀,Z,δ,r,hh,e,k⟩:=h
  obtain ⟨⟨fl,δ'⟩,e1,e⟩:=bind_some e
  refine ⟨H₀,Z₀,Z,δ,(fl,δ'),hh,e1,fun σ' H' Z' hh' s'=>?_⟩
  cases fl with
  | nx=>exact ⟨H₀,Z₀,Z',δ',r,hh',e,fun σ2 H2 Z2 hh2 s2=>by
    have:=k σ2 H2 Z2 hh2 (s'.trans s2)
    obtain ⟨fl,δ2⟩:=r
    cases fl <;> exact this⟩
  | bk=>cases e; exact k σ' H' Z' hh' s'
  | ct=>cases e; exact k σ' H' Z' hh' s'
  | rt d=>cases e; exact k σ' H' Z' hh' s'
theorem aq (h1:SV X st s1):BV X [st] s1:=vj h1
theorem bE (hc:TV X c ft) (ha:BV X body s1) (hb:BV X orelse s2):SV X (.If c body orelse pos) (cu ft s1 s2):=
 PS.imp (Dp hc ha hb) fun D σ H h=>by
  obtain ⟨H₀,Z₀,Z,δ,r,hh,e,k⟩:=h
  obtain ⟨x,e1,e⟩:=bind_some e
  refine ⟨H₀,Z₀,Z,δ,x,hh,e1,fun Z1 H1 hh1 t1=>?_⟩
  cases x with
  | true=>exact ⟨H₀,Z₀,Z1,δ,r,hh1,e,fun σ2 H2 Z2 hh2 t2=>k σ2 H2 Z2 hh2 (t1.trans t2)⟩
  | false=>exact ⟨H₀,Z₀,Z1,δ,r,hh1,e,fun σ2 H2 Z2 hh2 t2=>k σ2 H2 Z2 hh2 (t1.trans t2)⟩
theorem I0 {K:Fg} (i:Nat) {D:Ends} {σ:St} {H:Hp} (h:Dk K (fun δ=>s1 (tK i δ)) D σ H):Dk K s1 D σ H:=by
 obtain ⟨H₀,Z₀,Z,δ,r,hh,e,k⟩:=h
 have e:s1 (tK i δ)=some r:=e
 unfold tK at e
 split at e
 ·rename_i ds q
  obtain ⟨Z1,t1,hh1⟩:=hh.frz q
  exact ⟨H₀,Z₀,Z1,_,r,hh1,e,fun σ2 H2 Z2 hh2 t2=>k σ2 H2 Z2 hh2 (t1.trans t2)⟩
 ·exact ⟨H₀,Z₀,Z,_,r,hh,e,k⟩
theorem rN (i:Nat) (h:SV X st s1):SV X st (fun δ=>s1 (tK i δ)):=PS.imp h fun D σ H q=>I0 i q
noncomputable def Mg (K:Fg) (g:D->Dv->Option Dv):TG:=fun v σ H Q=>∃ H₀ Z₀ Z δ d δ',Hold K H₀ Z₀ Z δ σ H/\Rep K Z v d/\g d δ = some δ'/\∀ σ' H' Z',Hold K H₀ Z₀ Z' δ' σ' H'->Same Z Z'->Q σ' H'
noncomputable def GV (X:Cx) (tg:Expr) (g:D->Dv->Option Dv):Prop:=PG X tg (Mg X.K g)
theorem PG.imp {t t':TG} (h:PG X tg t) (i:∀ v σ H Q,t' v σ H Q->t v σ H Q):PG X tg t':=fun pins s σ H x v Q I r q=>h pins s σ H x v Q I r (i _ _ _ _ q)
theorem cC (i:Nat) {x:Str} (hN:X.N.Nodup) (hi:X.N[i]? = some x:=by rfl) (hx:xA X.env.scope x:=by first | exact Or.inl rfl | exact Or.inr rfl)
  (hf:X.fn x=true\/X.env.scope.names.lookup x=some .local:=by first | exact .inl rfl | exact .inr rfl | assumption):GV X (.Name x pos) (gN i):=
 PG.imp (bZ hN hi hx hf) fun v σ H Q h=>by
  obtain ⟨H₀,Z₀,Z,δ,d,δ',hh,r,e,k⟩:=h
  cases e
  exact k _ H Z (hh.set r) (Same.refl _)
structure ItOk (K:Fg) (Z:Hp) (J:It) (ds:List D):Prop where
 go:∀ (i:Nat) (H:Hp),Same Z H->i<ds.length->J.go i H
 yld:∀ (i:Nat) (H:Hp) x H' d,Same Z H->ds[i]? = some d->J.yld i H x H'->H'=H/\Rep K Z x d
 stop:∀ (i:Nat) (H:Hp),Same Z H->ds.length<=i->J.stop i H
noncomputable def Kb (K:Fg) (f:Dv->Option (List D)):TI:=fun σ H R=>∃ H₀ Z₀ Z δ ds,Hold K H₀ Z₀ Z δ σ H/\f δ = some ds/\∀ J Z' H',Hold K H₀ Z₀ Z' δ σ H'->Same Z Z'->ItOk K Z' J ds->R J H'
noncomputable def IV (X:Cx) (tg iter:Expr) (f:Dv->Option (List D)):Prop:=PI X tg iter (Kb X.K f)
theorem PI.imp {t t':TI} (h:PI X tg iter t) (i:∀ σ H R,t' σ H R->t σ H R):PI X tg iter t':=fun pins s σ H R I q=>h pins s σ H R I (i _ _ _ q)
theorem dt {g:D->Dv->Option Dv} (hp:PassesOwn (model X.prog X.w) X.A X.env X.xe) (hc:X.calm=true) (hi:IV X tg iter fs) (hg:GV X tg g) (hb:BV X body s1)
  (hs:∀ x,foldedSetIterable iter X.env x=pure x:=by intro _; rfl):SV X (.For tg iter body [] pos) (ic fs g s1):=
 PS.imp (EG hp hc hi hg hb hs) fun D σ H h=>by
  obtain ⟨H₀,Z₀,Z,δ,r,hh,e,k⟩:=h
  obtain ⟨ds,e1,e⟩:=bind_some e
  refine ⟨H₀,Z₀,Z,δ,ds,hh,e1,fun J Z1 H1 hh1 t1 ok=>?_⟩
  refine ⟨fun i m σ H=>m=ds.length-i/\i<=ds.length/\∃ Zc δc,Hold X.K H₀ Z₀ Zc δc σ H/\Same Z1 Zc/\loop g s1 (ds.drop i) δc=some r,⟨ds.length,by simp,Nat.zero_le _,Z1,δ,hh1,Same.refl _,e⟩,?_⟩
  rintro i m σ2 H2 ⟨rfl,hi2,Zc,δc,hhc,tc,ec⟩
  have zh:Same Z1 H2:=tc.trans hhc.zh
  by_cases hlt:i<ds.length
  ·refine .inr ⟨ok.go i H2 zh hlt,fun σ3 H3=>∃ Zc δc,Hold X.K H₀ Z₀ Zc δc σ3 H3/\Same Z1 Zc/\loop g s1 (ds.drop (i+1)) δc=some r,fun σ3 H3 q=>⟨ds.length-(i+1),by omega,rfl,hlt,q⟩,fun x H3 y=>?_⟩
   have ed:ds[i]? = some ds[i]:=by simp [hlt]
   obtain ⟨rfl,rx⟩:=ok.yld i H2 x H3 _ zh ed y
   rw [List.drop_eq_getElem_cons hlt] at ec
   obtain ⟨δ1,g1,ec⟩:=bind_some ec
   obtain ⟨⟨fl,δ2⟩,g2,ec⟩:=bind_some ec
   refine ⟨H₀,Z₀,Zc,δc,_,δ1,hhc,rx.same tc,g1,fun σ4 H4 Z4 hh4 t4=>⟨H₀,Z₀,Z4,δ1,(fl,δ2),hh4,g2,fun σ5 H5 Z5 hh5 t5=>?_⟩⟩
   cases fl with
   | nx=>exact ⟨Z5,δ2,hh5,(tc.trans t4).trans t5,ec⟩
   | ct=>exact ⟨Z5,δ2,hh5,(tc.trans t4).trans t5,ec⟩
   | bk=>cases ec; exact k σ5 H5 Z5 hh5 (((t1.trans tc).trans t4).trans t5)
   | rt d=>cases ec; exact k σ5 H5 Z5 hh5 (((t1.trans tc).trans t4).trans t5)
  ·have e2:ds.drop i=[]:=List.drop_eq_nil_iff.mpr (by omega)
   rw [e2] at ec
   cases ec
   exact .inl ⟨ok.stop i H2 zh (by omega),k σ2 H2 Zc hhc (t1.trans tc)⟩
theorem zM {K:Fg} {Z:Hp} {lo:Int} {n:Nat}:ItOk K Z (GO lo n) (iW lo n) where
 go:=fun i H _ h=>by simpa [iW,GO] using h
 yld:=fun i H x H' d _ e y=>by
  obtain ⟨rfl,rfl⟩:=y
  refine ⟨rfl,?_⟩
  unfold iW at e
  rw [List.getElem?_map] at e
  cases q:(List.range n)[i]? with
  | none=>rw [q] at e; cases e
  | some k=>
   rw [q] at e
   cases e
   have:k=i:=by
    obtain ⟨h,h2⟩:=List.getElem?_eq_some_iff.mp q
    simpa using h2.symm
   subst this
   exact .int _
 stop:=fun i H _ h=>by simpa [iW,GO] using h
theorem bu (hg:Gl X "range") (hm:X.mg "range" = none) (ha:AV X [a] fs) (hs:starEach [a] X.env=[(false,eval a X.env)]:=by rfl):IV X tg (.Call (.Name "range" p) [a] [] pos) (oL fs bi):=
 PI.imp (wF hg hm ha hs) fun σ H R h=>by
  obtain ⟨H₀,Z₀,Z,δ,ds,hh,e,k⟩:=h
  obtain ⟨as,e1,e⟩:=bind_some e
  refine ⟨H₀,Z₀,Z,δ,as,hh,e1,fun vs Z1 H1 hh1 t1 r1=>?_⟩
  unfold bi at e
  split at e
  ·rename_i j
   split at e
   ·rename_i hj
    cases e
    cases r1 with
    | cons q1 q2=>
     cases q2
     exact ⟨j,by rw [q1.int_eq],hj.2,hj.1,k _ Z1 H1 hh1 t1 zM⟩
   ·cases e
  ·cases e
theorem Cz (ha:EV X a f):IV X tg a (oI f zr):=
 PI.imp (Bt ha) fun σ H R h=>by
  obtain ⟨H₀,Z₀,Z,δ,ds,hh,e,k⟩:=h
  obtain ⟨y,e1,e⟩:=bind_some e
  refine ⟨H₀,Z₀,Z,δ,y,hh,e1,fun v Z1 H1 hh1 t1 r1=>?_⟩
  cases r1 with
  | @lst l xs ds' h1 q1=>
   cases e
   refine ⟨l,rfl,⟨xs,SqL.same h1 hh1.zh⟩,k _ Z1 H1 hh1 t1 ⟨fun i H2 z hi=>?_,fun i H2 x H3 d z ed y=>?_,fun i H2 z hi=>⟨xs,SqL.same h1 z,by rw [q1.length]; exact hi⟩⟩⟩
   ·have hi':i<xs.length:=by rw [q1.length]; exact hi
    exact ⟨xs,xs[i],SqL.same h1 z,by simp [hi']⟩
   ·obtain ⟨rfl,y⟩:=y
    obtain ⟨v,ev,rv⟩:=q1.get ed
    have:=y xs (SqL.same h1 z)
    rw [ev] at this
    cases this
    exact ⟨rfl,rv⟩
  | _=>cases e
theorem FR (ha:EV X a f):IV X tg a (oI f J1):=
 PI.imp (EH ha) fun σ H R h=>by
  obtain ⟨H₀,Z₀,Z,δ,ds,hh,e,k⟩:=h
  obtain ⟨y,e1,e⟩:=bind_some e
  refine ⟨H₀,Z₀,Z,δ,y,hh,e1,fun v Z1 H1 hh1 t1 r1=>?_⟩
  cases r1 with
  | @tup l xs ds' h1 q1=>
   cases e
   refine ⟨l,rfl,⟨xs,SqT.same h1 hh1.zh⟩,k _ Z1 H1 hh1 t1 ⟨fun i H2 z hi=>?_,fun i H2 x H3 d z ed y=>?_,fun i H2 z hi=>⟨xs,SqT.same h1 z,by rw [q1.length]; exact hi⟩⟩⟩
   ·have hi':i<xs.length:=by rw [q1.length]; exact hi
    exact ⟨xs,xs[i],SqT.same h1 z,by simp [hi']⟩
   ·obtain ⟨rfl,y⟩:=y
    obtain ⟨v,ev,rv⟩:=q1.get ed
    have:=y xs (SqT.same h1 z)
    rw [ev] at this
    cases this
    exact ⟨rfl,rv⟩
  | _=>cases e
end
noncomputable def xB (lo st:Int) (n:Nat):It:=⟨fun i _=>i<n,fun i H x H'=>H'=H/\x=.int (lo+i*st),fun i _=>n<=i⟩
theorem rL {P:Program} {w:World} {K:PySem.W.Frag} {tg:Expr} (it:Addr) (lo st:Int) (n:Nat):xz P w K tg (xB lo st n) [it] it (fun i h=>IsRangeIter h it (lo+(i:Nat)*st) ((n:Int)-(i:Nat)) st) where
 mem:=by simp
 obj:=fun i h st b hb=>by
  have e:b=it:=by simpa using hb
  subst e
  exact ⟨_,st,fun v z=>by
   have z':Data.fields _=Data.cell v:=z
   cases z'⟩
 keep:=fun i h h' st k=>k it (by simp) _ st
 item:=by
  intro X hP hw hK hc i pins s σ H E I hf st' hg
  subst hP hw hK
  obtain ⟨f0,f1,f2,f3,f4,f5⟩:=hf it (by simp)
  have W:=Walks.range (prog:=X.prog) (w:=X.w) (I.ok.hd hc) it lo st n
  refine W.item i s _ _ hg st' fun v h' tk hv st'' kk=>?_
  obtain ⟨t,rfl⟩:=hv
  have I1:Inv X pins σ H { s with heap:=h',toks:=tk }:=I.turned (fun b o hb e=>kk b o (by simpa using hb) e) f0 f1 f3 f4 f5
  exact ⟨_,rfl,vI (s:={ s with heap:=h',toks:=tk }) (n:="range_iterator") st'' rfl rfl (by decide) ⟨.int (lo+i*st),H,I1,⟨t,rfl⟩,⟨rfl,rfl⟩,st'',fun b hb=>(hf b hb).1⟩⟩
 done:=by
  intro X hP hw hK hc i pins s σ H E I hf st' hg
  subst hP hw hK
  obtain ⟨f0,f1,f2,f3,f4,f5⟩:=hf it (by simp)
  exact wpAny_pyNext_range_end (I.ok.hd hc) st' (by have:n<=i:=hg; omega) fun h' eb=>⟨rfl,I.turned (t':=s.toks) (fun b o hb e=>eb b o hb e) f0 f1 f3 f4 f5⟩
 self:=fun _ _ _ _ _ st h=>wpAny_pyIter_rangeiter st h
theorem tX {a b c:Int} (ha:-(2 ^ 40)<=a) (ha':a<2 ^ 40) (hb:-(2 ^ 40)<=b) (hb':b<2 ^ 40) (hc:0<c) (hc':c<2 ^ 20):Builtin.Range.small a b c=true:=by
 have h0:0<=(b-a-1) / c\/b-a-1<0:=by
  rcases Int.lt_or_le (b-a-1) 0 with h | h
  ·exact .inr h
  ·exact .inl (Int.ediv_nonneg h (by omega))
 have h1:0<=b-a-1->(b-a-1) / c<=b-a-1:=fun h=>Int.ediv_le_self _ h
 have h2:0<=b-a-1->(b-a-1) / c*c<=b-a-1:=fun h=>Int.ediv_mul_le _ (by omega)
 have hp:0<=(b-a-1) / c->0<=(b-a-1) / c*c:=fun h=>Int.mul_nonneg h (by omega)
 unfold Builtin.Range.small Builtin.Range.rangeSize
 simp only [Builtin.Range.rangeFitsLong,Bool.and_eq_true,Bool.or_eq_true,decide_eq_true_eq,beq_iff_eq,if_pos (show c>0 from hc)]
 split <;> omega
section
variable {X:Cx} {a b c tg:Expr} {ta:TA} {p pos:Pos} {fs:Dv->Option (List D)}
theorem wB {pins:List (Addr×Obj)} {σ:St} {H:Hp} {s:Shared} {R:It->Hp->Prop} {E:Value->Shared->Prop} {lo hi st:Int} {t u v:Tok} {tk:Nat} (I:Inv X pins σ H s) (h1:-(2 ^ 40)<=lo) (h2:lo<2 ^ 40) (h3:-(2 ^ 40)<=hi) (h4:hi<2 ^ 40) (h5:0<st) (h6:st<2 ^ 20)
  (q:R (xB lo st (rngN lo hi st)) H):wpAny (model X.prog X.w) X.A (pyIter (.ref s.heap.objs.size)) (LD X pins σ tg R) E { s with heap:=s.heap.push { cls:=.type "range",data:=.fields #[.int lo t,.int hi u,.int st v] },toks:=tk }:=by
 refine wpAny_pyIter_range (IsRange.new ..) (tX h1 h2 h3 h4 h5 h6) ?_
 have I1:Inv X pins σ H { s with heap:=s.heap.push { cls:=.type "range",data:=.fields #[.int lo t,.int hi u,.int st v] },toks:=tk }:=I.kept fun b o e=>Heap.get?_push_of_some _ e
 refine ⟨(s.heap.push { cls:=.type "range",data:=.fields #[.int lo t,.int hi u,.int st v] }).objs.size,[(s.heap.push { cls:=.type "range",data:=.fields #[.int lo t,.int hi u,.int st v] }).objs.size],_,_,H,rfl,
  I1.kept (t':=tk) fun b o e=>Heap.get?_push_of_some _ e,rL _ lo st (rngN lo hi st),?_,fun b hb=>?_,q⟩
 ·have e1:lo+((0:Nat):Int)*st=lo:=by simp
  have e2:((rngN lo hi st:Nat):Int)-((0:Nat):Int)=Builtin.Range.rangeSize lo hi st:=by
   unfold rngN Builtin.Range.rangeSize
   rw [if_pos (show st>0 from h5)]
   split
   ·have:0<=(hi-lo-1) / st:=Int.ediv_nonneg (by omega) (by omega)
    omega
   ·rfl
  show IsRangeIter _ _ (lo+((0:Nat):Int)*st) (((rngN lo hi st:Nat):Int)-((0:Nat):Int)) st
  rw [e1,e2]
  exact Heap.get?_push_size _ rfl
 ·have e:b=(s.heap.push { cls:=.type "range",data:=.fields #[.int lo t,.int hi u,.int st v] }).objs.size:=by simpa using hb
  subst e
  exact I1.fpOk (Nat.le_refl _) (I1.hok.fresh (Nat.le_refl _))
noncomputable def IX (ta:TA):TI:=fun σ H R=>ta σ H fun vs H1=>∃ i j k:Int,vs=[.int i,.int j,.int k]/\(-(2 ^ 40)<=i/\i<2 ^ 40 /\ -(2 ^ 40)<=j/\j<2 ^ 40/\0<k/\k<2 ^ 20)/\R (xB i k (rngN i j k)) H1
theorem wE (hg:Gl X "range") (hm:X.mg "range" = none) (ha:PA X [a,b,c] ta) (hs:starEach [a,b,c] X.env=[(false,eval a X.env),(false,eval b X.env),(false,eval c X.env)]:=by rfl) (hs2:starEach [b,c] X.env=[(false,eval b X.env),(false,eval c X.env)]:=by rfl) :
  PI X tg (.Call (.Name "range" p) [a,b,c] [] pos) (IX ta):=by
 intro pins s σ H R I h
 refine Call_ (nE I hg hm boot_range (PyProof.Rows.callWith_type1 (dl (ha pos pins s σ H _ I h) fun us s1 ⟨vs,H1,I1,r1,q1⟩=>?_) (by rw [hs,hs2]) (by rw [hs2]; rfl)))
 obtain ⟨i,j,k,e,⟨q1,q2,q3,q4,q5,q6⟩,q⟩:=q1
 subst e
 cases r1 with
 | cons r rr=>
  cases rr with
  | cons r' rr=>
   cases rr with
   | cons r'' rr=>
    cases rr
    obtain ⟨t,rfl⟩:=r
    obtain ⟨t',rfl⟩:=r'
    obtain ⟨t'',rfl⟩:=r''
    exact call_range_3 (by omega) (wB I1 q1 q2 q3 q4 q5 q6 q) (.inl (PyProof.noPylong_small (by omega)))
theorem xc {K:Fg} {Z:Hp} {lo st:Int} {n:Nat}:ItOk K Z (xB lo st n) (lq lo st n) where
 go:=fun i H _ h=>by simpa [lq,xB] using h
 yld:=fun i H x H' d _ e y=>by
  obtain ⟨rfl,rfl⟩:=y
  refine ⟨rfl,?_⟩
  unfold lq at e
  rw [List.getElem?_map] at e
  cases q:(List.range n)[i]? with
  | none=>rw [q] at e; cases e
  | some k=>
   rw [q] at e
   cases e
   have:k=i:=by
    obtain ⟨h,h2⟩:=List.getElem?_eq_some_iff.mp q
    simpa using h2.symm
   subst this
   exact .int _
 stop:=fun i H _ h=>by simpa [lq,xB] using h
theorem pz (hg:Gl X "range") (hm:X.mg "range" = none) (ha:AV X [a,b,c] fs) (hs:starEach [a,b,c] X.env=[(false,eval a X.env),(false,eval b X.env),(false,eval c X.env)]:=by rfl) (hs2:starEach [b,c] X.env=[(false,eval b X.env),(false,eval c X.env)]:=by rfl) :
  IV X tg (.Call (.Name "range" p) [a,b,c] [] pos) (oL fs iX):=
 PI.imp (wE hg hm ha hs hs2) fun σ H R h=>by
  obtain ⟨H₀,Z₀,Z,δ,ds,hh,e,k⟩:=h
  obtain ⟨as,e1,e⟩:=bind_some e
  refine ⟨H₀,Z₀,Z,δ,as,hh,e1,fun vs Z1 H1 hh1 t1 r1=>?_⟩
  unfold iX at e
  split at e
  ·rename_i i j m
   split at e
   ·rename_i hj
    cases e
    cases r1 with
    | cons q1 q2=>
     cases q2 with
     | cons q2 q3=>
      cases q3 with
      | cons q3 q4=>
       cases q4
       exact ⟨i,j,m,by rw [q1.int_eq,q2.int_eq,q3.int_eq],hj,k _ Z1 H1 hh1 t1 xc⟩
   ·cases e
  ·cases e
end
section
variable {X:Cx} {e:Expr} {lo hi:Option Expr} {p2 pos:Pos} {f:Dv->Option D}
noncomputable def Mf (K:Fg) (f:Dv->Option (Option Int)):TO:=fun σ H Q=>∃ H₀ Z₀ Z δ d,Hold K H₀ Z₀ Z δ σ H/\f δ = some d/\∀ Z' H',Hold K H₀ Z₀ Z' δ σ H'->Same Z Z'->Q d H'
noncomputable def OV (X:Cx) (e:Option Expr) (f:Dv->Option (Option Int)):Prop:=PO X e (Mf X.K f)
theorem PO.imp {eo:Option Expr} {t t':TO} (h:PO X eo t) (i:∀ σ H Q,t' σ H Q->t σ H Q):PO X eo t':=fun pins s σ H Q I q=>h pins s σ H Q I (i _ _ _ q)
theorem eA:OV X none pj:=PO.imp Br fun σ H Q h=>by
 obtain ⟨H₀,Z₀,Z,δ,d,hh,e,k⟩:=h
 cases e
 exact k Z H hh (Same.refl _)
theorem eu (h:EV X e f):OV X (some e) (oP f):=PO.imp (Bq h) fun σ H Q h=>by
 obtain ⟨H₀,Z₀,Z,δ,d,hh,e,k⟩:=h
 obtain ⟨x,e1,e⟩:=bind_some e
 refine ⟨H₀,Z₀,Z,δ,x,hh,e1,fun v Z1 H1 hh1 t1 r1=>?_⟩
 cases r1 <;> simp [asI] at e
 subst e
 exact ⟨_,rfl,k Z1 H1 hh1 t1⟩
theorem Reps.cut {K:Fg} {Z:Hp} {vs:List V} {ds:List D} (r:Reps K Z vs ds) (lo hi:Option Int):Reps K Z (oR vs lo hi) (oS ds lo hi):=by
 unfold oR oS
 rw [r.length]
 exact (r.drop _).take _
theorem uG {ds:List D} {lo hi:Option Int} (h1:HT.sIx ds.length 0 lo=0) (h2:HT.sIx ds.length ds.length hi=ds.length):oS ds lo hi=ds:=by
 unfold oS
 rw [h1,h2]
 simp
section
variable {prog:Program} {w:World} {A:Around} {E:Value->Shared->Prop} {s:Shared}
theorem pS {t sl:Addr} {items:Array Value} {vl vu:Value} {lo hi:Option Int} {Q:Value->Shared->Prop} (ht:IsTup s.heap t items) (hs:s.heap.IsSliceOf sl vl vu .none) (pl:IsPart vl lo) (pu:IsPart vu hi)
  (h1:HT.sIx items.size 0 lo=0) (h2:HT.sIx items.size items.size hi=items.size) (h:Q (.ref t) s):wpAny (model prog w) A (getItem (.ref t) (.ref sl)) Q E s:=by
 obtain ⟨osl,hos,hcs,hds⟩:=id hs
 have ty:s.TypeIs (.ref sl) "slice":=⟨osl,hos,hcs⟩
 unfold getItem
 try with_reducible refine wpAny_holding ?_
 first | refine wpAny_bind (wpAny_pure ?_) | skip
 refine wpAny_bind (wpAny_sequenceKey ht.typeIs (by decide) ?_)
 refine wpAny_bind (wpAny_callSpecial?_slot (name:=Str.ofString "__getitem__") ht.typeIs PyProof.Rows.slot_tuple_getitem
  (wpAny_call_entry PyProof.Rows.slot_tuple_getitem ht.typeIs PyProof.Rows.entry_tuple_getitem ?_ (PyProof.Rows.args_tuple_getitem _ _)))
 show wpAny _ _ (Builtin.Tuple.tupleItemsOf (.ref t) >>= _) _ _ s
 refine wpAny_bind (tupleItemsOf_ ht ?_)
 refine wpAny_bind (wpAny_typeOf ty ?_)
 rw [if_pos (by decide)]
 refine wpAny_bind (HT.hX hs pl pu ?_)
 have yes:(((((HT.sIx items.size 0 lo:Nat):Int)==0)&&((1:Int)==1))&&((HT.sIx items.size items.size hi-HT.sIx items.size 0 lo)==items.size))=true:=by
  rw [h1,h2]; simp
 show wpAny _ _ (if (((((HT.sIx items.size 0 lo:Nat):Int)==0)&&((1:Int)==1))&&((HT.sIx items.size items.size hi-HT.sIx items.size 0 lo)==items.size))=true then _ else _) _ _ s
 rw [if_pos yes]
 unfold Builtin.Tuple.tupleIsExact
 refine wpAny_bind (wpAny_bind (wpAny_typeOf ht.typeIs (wpAny_pure ?_)))
 rw [if_pos (by decide)]
 exact wpAny_bind (wpAny_rule (wpAny_pure ⟨_,rfl,wpAny_pure h⟩))
end
noncomputable def Ky (K:PySem.W.Frag):V->Option Int->Option Int->Hp->VK->Prop:=fun x lo hi H Q=>∃ a xs,x=.ref a/\SqT K H a xs/\HT.sIx xs.length 0 lo=0/\HT.sIx xs.length xs.length hi=xs.length/\Q (.ref a) H
theorem Bf:SlR X (Ky X.K):=by
 intro pins s σ H x v vl vu lo hi sl Q I rx hs pl pu h
 obtain ⟨a,xs,rfl,hx,w1,w2,q⟩:=h
 cases rx
 obtain ⟨its,r,ht,hz⟩:=I.tuple hx
 have hlen:its.toArray.size=xs.length:=by rw [List.size_toArray]; exact r.length.symm
 refine ⟨"tuple",_,PyProof.Rows.slot_tuple_getitem.lookup,ht.typeIs,?_⟩
 exact pS ht hs pl pu (by rw [hlen]; exact w1) (by rw [hlen]; exact w2) ⟨.ref a,H,I,rfl,q⟩
theorem di {fl fu:Dv->Option (Option Int)} (he:EV X e f) (hl:OV X lo fl) (hu:OV X hi fu):EV X (.Subscript e (.Slice lo hi none p2) pos) (pi f fl fu):=
 PE.imp (yH (sl_list.or (sl_tup.or Bf)) he hl hu) fun σ H Q h=>by
  obtain ⟨H₀,Z₀,Z,δ,d,hh,e,k⟩:=h
  obtain ⟨x,e1,e⟩:=bind_some e
  obtain ⟨i,e2,e⟩:=bind_some e
  obtain ⟨j,e3,e⟩:=bind_some e
  refine ⟨H₀,Z₀,Z,δ,x,hh,e1,fun v Z1 H1 hh1 t1 r1=>⟨H₀,Z₀,Z1,δ,i,hh1,e2,fun Z2 H2 hh2 t2=>⟨H₀,Z₀,Z2,δ,j,hh2,e3,fun Z3 H3 hh3 t3=>?_⟩⟩⟩
  have r3:=(r1.same t2).same t3
  have tt:=(t1.trans t2).trans t3
  cases r3 with
  | @lst a xs ds h1 q1=>
   cases e
   refine .inl ⟨_,_,rfl,SqL.same h1 hh3.zh,fun p hp=>?_⟩
   have n:=New.add hh3.zh hp (.lst (oR xs i j))
   exact k _ _ _ (hh3.new n) (tt.trans n.z) (.lst (SqL.of aQ) ((q1.cut i j).same n.z))
  | @tup a xs ds h1 q1=>
   simp only [tZ] at e
   cases e
   by_cases hw:HT.sIx ds.length 0 i=0/\HT.sIx ds.length ds.length j=ds.length
   ·refine .inr (.inr ⟨_,_,rfl,SqT.same h1 hh3.zh,by rw [q1.length]; exact hw.1,by rw [q1.length]; exact hw.2,?_⟩)
    refine k _ _ _ hh3 tt ?_
    rw [uG hw.1 hw.2]
    exact .tup h1 q1
   ·refine .inr (.inl ⟨_,_,rfl,SqT.same h1 hh3.zh,by rw [q1.length]; exact hw,fun p hp=>?_⟩)
    have n:=New.add hh3.zh hp (.tup (oR xs i j))
    exact k _ _ _ (hh3.new n) (tt.trans n.z) (.tup (SqT.of aQ) ((q1.cut i j).same n.z))
  | _=>cases e
end
structure FunV (K:PySem.W.Frag) (x qual:Str) (st:Stmt) (f:Addr) (fd:FuncData) (dV:Value):Prop where
 ex:∃ (oc:Value) (od:Option Addr) (kV doc pm:Value) (an:Option Addr) (cdv ct:Value) (osl:Array (Option Value)),
  fd=PySem.W.fnOf x qual (cW st) (cj st) (aj st) dV kV doc pm an cdv ct/\K.lookup f=some ⟨oc,od,.func fd,osl⟩/\PySem.W.codeIn K cdv qual=true
 kp:PySem.W.keepIn K (.ref f)=true
section
variable {P:Program} {w:World} {K:PySem.W.Frag} {mg:Str->Option Value} {base:Heap}
theorem wp {N:List Str} {vs:List V} {as:List D} {Z:Hp} (r:Reps K Z vs as):∀ (i:Nat) d,(aw N as)[i]? = some (.fz d)->∃ v,(start N vs)[i]? = some (some v)/\Rep K Z v d:=by
 intro i d e
 unfold aw at e
 unfold L2.start
 by_cases hi:i<as.length
 ·rw [List.getElem?_append_left (by simpa using hi),List.getElem?_map] at e
  cases q:as[i]? with
  | none=>rw [q] at e; cases e
  | some d'=>
   rw [q] at e
   cases e
   obtain ⟨v,ev,rv⟩:=r.get q
   exact ⟨v,by rw [List.getElem?_append_left (by simpa [r.length] using hi),List.getElem?_map,ev]; rfl,rv⟩
 ·rw [List.getElem?_append_right (by simpa using hi),List.getElem?_replicate] at e
  split at e <;> cases e
theorem o8 {N:List Str} {as:List D}:∀ (i:Nat) ds,(aw N as)[i]? ≠ some (.own ds):=by
 intro i ds e
 unfold aw at e
 by_cases hi:i<as.length
 ·rw [List.getElem?_append_left (by simpa using hi),List.getElem?_map] at e
  cases q:as[i]? with
  | none=>rw [q] at e; cases e
  | some d'=>rw [q] at e; cases e
 ·rw [List.getElem?_append_right (by simpa using hi),List.getElem?_replicate] at e
  split at e <;> cases e
theorem yb {N:List Str} {as:List D}:∀ (i:Nat) ds,(aw N as)[i]? ≠ some (.fr ds):=by
 intro i ds e
 unfold aw at e
 by_cases hi:i<as.length
 ·rw [List.getElem?_append_left (by simpa using hi),List.getElem?_map] at e
  cases q:as[i]? with
  | none=>rw [q] at e; cases e
  | some d'=>rw [q] at e; cases e
 ·rw [List.getElem?_append_right (by simpa using hi),List.getElem?_replicate] at e
  split at e <;> cases e
theorem nH {N:List Str} {vs:List V} {as:List D} {Z H:Hp} (zh:Same Z H) (r:Reps K Z vs as):Hold K H Z Z (aw N as) (start N vs) H:=
 ⟨zh,Same.refl _,Same.refl _,fun _ _=>rfl,by simp [aw,L2.start,r.length],wp r,fun i ds e=>absurd e (o8 i ds),fun i j ds es a _ e=>absurd e (o8 i ds),fun i ds e=>absurd e (yb i ds),NoF.refl _⟩
theorem Lc {x qual:Str} {st:Stmt} {f:Addr} {fd:FuncData} {dV:Value} {N ps:List Str} {k:Nat} {g:List D->Option D} {b:Sf} (F:FunV K x qual st f fd dV) (S:FnScope N ps (aj st)) (len:∀ as d,g as=some d->as.length=ps.length)
  (hb:∀ (cdv:Value) (A:Around) (outer:List Env) (s:Shared) (H:Hp) (E:XK),Room k (A.deeper (envOfC qual (aj st) s.heap.objs.size f cdv))->BV (qU dN P w K mg base N qual (aj st) f cdv A outer s H E).nox (cj st) b)
  (hg:∀ as d,g as=some d->∃ δ',b (aw N as)=some (.rt d,δ')\/(d=.none/\b (aw N as)=some (.nx,δ'))):FnOk P w K mg base dN (k+1) f fd ps (fh K g):=by
 obtain ⟨oc,od,kV,doc,pm,an,cdv,ct,osl,rfl,lk,hcd⟩:=F.ex
 refine zQ lk hcd S (fun vs H Q E h=>?_) fun A outer s H vs Q E hr hsp=>?_
 ·obtain ⟨Z,as,d,zh,r,e,_⟩:=h
  rw [r.length]
  exact len as d e
 ·refine ⟨_,PSs.nox (hb cdv A outer s H E hr),?_⟩
  obtain ⟨Z,as,d,zh,r,e,kk⟩:=hsp
  have hh:=nH (N:=N) zh r
  have fin:∀ {σ':St} {H' Z':Hp} {δ':Dv},Hold K H Z Z' δ' σ' H'->Same Z Z'->New Z H Z' H':=fun h' z'=>⟨z',h'.h0,h'.zh,h'.zb,h'.nf⟩
  obtain ⟨δ',e2 | ⟨rfl,e2⟩⟩:=hg as d e
  ·exact ⟨H,Z,Z,_,_,hh,e2,fun σ' H' Z' h' z' v rv=>kk v Z' H' (fin h' z') rv⟩
  ·exact ⟨H,Z,Z,_,_,hh,e2,fun σ' H' Z' h' z'=>kk _ Z' H' (fin h' z') .non⟩
theorem FunV.binds {x qual:Str} {st:Stmt} {f:Addr} {fd:FuncData} {ps:List Str} (F:FunV K x qual st f fd .none)
  (h:∀ (kV doc pm:Value) (an:Option Addr) (cdv ct:Value) (us:List Value),us.length=ps.length->bindArgs (PySem.W.fnOf x qual (cW st) (cj st) (aj st) .none kV doc pm an cdv ct) ⟨us,[]⟩=pure (ps.zip us)):Binds K fd ps []:=by
 obtain ⟨oc,od,kV,doc,pm,an,cdv,ct,osl,rfl,lk,hcd⟩:=F.ex
 exact .all (h kV doc pm an cdv ct)
theorem FunV.bindsD {x qual:Str} {st:Stmt} {f T:Addr} {fd:FuncData} {ps:List Str} {o:Obj} {items:Array Value} {n:Nat} {ds:List Value} (F:FunV K x qual st f fd (.ref T)) (ho:K.lookup T=some o) (hs:o.data=.seq items n) (nu:Nat) (hn:nu+ds.length=ps.length)
  (h:∀ (kV doc pm:Value) (an:Option Addr) (cdv ct:Value) (us:List Value),us.length=nu->∃ kk,bindArgs (PySem.W.fnOf x qual (cW st) (cj st) (aj st) (.ref T) kV doc pm an cdv ct) ⟨us,[]⟩=seqItems? (.ref T) >>= kk/\kk (some items)=pure (ps.zip (us++ds))):Binds K fd ps ds:=by
 obtain ⟨oc,od,kV,doc,pm,an,cdv,ct,osl,rfl,lk,hcd⟩:=F.ex
 intro s us KX hl
 obtain ⟨kk,h1,h2⟩:=h kV doc pm an cdv ct us (by rw [List.length_append] at hl; omega)
 exact BindsTo.of_defaults rfl (KX _ _ ho) hs h1 h2
theorem mF {x qual:Str} {st:Stmt} {f:Addr} {dV oc:Value} {od an:Option Addr} {osl:Array (Option Value)} {kV doc pm cdv ct:Value} (l:K.lookup f=some ⟨oc,od,.func (PySem.W.fnOf x qual (cW st) (cj st) (aj st) dV kV doc pm an cdv ct),osl⟩)
  (c:PySem.W.codeIn K cdv qual=true) (k:PySem.W.keepIn K (.ref f)=true):FunV K x qual st f (PySem.W.fnOf x qual (cW st) (cj st) (aj st) dV kV doc pm an cdv ct) dV:=⟨⟨oc,od,kV,doc,pm,an,cdv,ct,osl,rfl,l,c⟩,k⟩
noncomputable def u9 (K:PySem.W.Frag):Sp:=fun vs H Q _=>∃ (a:Addr) (ns:List Int),vs=[.ref a]/\SqL K H a (ns.map V.int)/\ns.length<=63/\∀ H',Q (.bl true) H'
theorem Iv {g:List D->Option D} {k:Nat} {f:Addr} {fd:FuncData} (F:FnOk P w K mg base dN k f fd ["script"] (fh K g)) (hg:∀ ns:List Int,ns.length<=63->g [.list (ns.map .int)]=some (.bool true)):FnOk P w K mg base dN k f fd ["script"] (u9 K):=
 F.imp fun vs H Q E h=>by
  obtain ⟨a,ns,rfl,hS,hl,q⟩:=h
  exact ⟨H,[.list (ns.map .int)],.bool true,Same.refl _,.cons (.lst hS (Reps.ints ns)) .nil,hg ns hl,fun v Z' H' _ r=>by cases r; exact q H'⟩
end
theorem GQ {k:Nat} {l:PySem.W.OpenLaw} {q:Program} {loose:List Str} {XP:(Str->Option Value)->Heap->Prop} {YP:World->Heap->Prop} {d:DefRec} {K:Params->PySem.W.Frag} (hn:l.most=some 63) (hr:Room k callerA) (hdf:d.params.defaults=[])
  (hY:∀ (w:World) (h:Heap),YP w h->(K w.params).In h)
  (F:∀ (w:World) (mg:Str->Option Value) (fa:Addr) (h:Heap),(K w.params).In h->h.Ns mainGlobals mg->mg d.name=some (.ref fa) ->
   ∃ fd:FuncData,(∀ (s:Shared) (u:Value),BindsTo s fd ⟨[u],[]⟩ [("script",u)])/\∀ base:Heap,(K w.params).In base->base.Ns mainGlobals mg->FnOk l.prog w (K w.params) mg base dN k fa fd ["script"] (u9 (K w.params))) :
  PySem.W.WalkO q loose XP YP l.row.toRowW d [] (fun f vs=>PySem.call f vs):=
 L2.A2 (n:=63) (k:=k) (x:="script") (CX:=fun _=>dN) (sp:=fun w=>u9 (K w.params)) hn (by decide) hdf hr hY F (fun _ _ a ns hl _ hS=>⟨a,ns,rfl,hS,hl,fun _=>rfl⟩) fun _ _ _ _ _ z=>z
section
variable {P:Program} {w:World} {K:PySem.W.Frag} {mg:Str->Option Value} {base:Heap}
theorem cr {x qual:Str} {st:Stmt} {f:Addr} {fd:FuncData} {dV:Value} {N ps:List Str} {k:Nat} {b:Sf} (F:FunV K x qual st f fd dV) (S:FnScope N ps (aj st))
  (hb:∀ (cdv:Value) (A:Around) (outer:List Env) (s:Shared) (H:Hp) (E:XK),Room k (A.deeper (envOfC qual (aj st) s.heap.objs.size f cdv))->BV (qU dN P w K mg base N qual (aj st) f cdv A outer s H E).nox (cj st) b) :
  FnOk P w K mg base dN (k+1) f fd ps (fh K (runB N ps.length b)):=by
 refine Lc F S (fun as d h=>?_) hb fun as d h=>?_
 ·unfold runB at h
  split at h
  ·assumption
  ·cases h
 ·unfold runB at h
  split at h
  ·obtain ⟨⟨fl,δ'⟩,e,h⟩:=bind_some h
   cases fl with
   | nx=>cases h; exact ⟨δ',.inr ⟨rfl,e⟩⟩
   | rt d=>cases h; exact ⟨δ',.inl e⟩
   | bk=>cases h
   | ct=>cases h
  ·cases h
structure Cal (P:Program) (w:World) (K:PySem.W.Frag) (mg:Str->Option Value) (base:Heap) (x:Str) (k:Nat) (g:List D->Option D) (dd:List D):Prop where
 ex:∃ (fa:Addr) (fd:FuncData) (ps:List Str) (ds:List Value) (dv:List V),FnOk P w K mg base dN k fa fd ps (fh K g)/\mg x=some (.ref fa)/\PySem.W.keepIn K (.ref fa)=true/\Binds K fd ps ds/\Vals dv ds/\∀ Z,Reps K Z dv dd
theorem Cal.mk0 {x:Str} {k:Nat} {g:List D->Option D} {fa:Addr} {fd:FuncData} {ps:List Str} (F:FnOk P w K mg base dN k fa fd ps (fh K g)) (hm:mg x=some (.ref fa)) (hk:PySem.W.keepIn K (.ref fa)=true) (hb:Binds K fd ps []):Cal P w K mg base x k g []:=
 ⟨⟨fa,fd,ps,[],[],F,hm,hk,hb,.nil,fun _=>.nil⟩⟩
end
section
variable {X:Cx} {e:Expr} {es:List Expr} {p pos:Pos} {fs:Dv->Option (List D)}
theorem F7 {k:Nat} {x:Str} {g:List D->Option D} {dd:List D} (C:Cal X.prog X.w X.K X.mg X.base x k g dd) (hr:Room k X.A) (hg:Gl X x) (ha:AV X (e::es) fs) (hdb:(x==("__debug__":Str))=false:=by decide) (he:starEach (e::es) X.env=(false,eval e X.env)::starEach es X.env:=by rfl)
  (hpl:(backTo pos (starEach es X.env)).any (·.1)=false:=by rfl):EV X (.Call (.Name x p) (e::es) [] pos) (os fs fun as=>g (as++dd)):=by
 obtain ⟨fa,fd,ps,ds,dv,F,hm,hk,hb,hd,hdd⟩:=C.ex
 exact CM F hr hg hm hk hb hd hdd Dr ha hdb he hpl
variable {tg a:Expr} {f:Dv->Option D}
theorem eE (ha:EV X a f):IV X tg a (oI f eJ):=by
 intro pins s σ H R I h
 obtain ⟨H₀,Z₀,Z,δ,ds,hh,e,k⟩:=h
 obtain ⟨y,e1,e⟩:=bind_some e
 cases y with
 | list xs=>exact Cz ha pins s σ H R I ⟨H₀,Z₀,Z,δ,ds,hh,by unfold oI; rw [e1]; exact e,k⟩
 | tuple xs=>exact FR ha pins s σ H R I ⟨H₀,Z₀,Z,δ,ds,hh,by unfold oI; rw [e1]; exact e,k⟩
 | _=>cases e
end
end VL
set_option Elab.async false
set_option linter.all false
set_option maxRecDepth 100000
set_option maxHeartbeats 4000000
namespace VL
open PySem PySem.Spec PyProof.Rows L2
noncomputable def jW (env:Env):List (Str×NameKind)->List (Str×Addr)->List (Str×Addr)
 | [],cs=>cs
 | (n,k)::r,cs=>if k == .free then jW env r ((n,(env.cells.lookup n).getD 0)::cs) else jW env r cs
theorem nI {env:Env}:∀ (l:List (Str×NameKind)) (cs:List (Str×Addr)),(∀ y∈l,y.2=.free->∃ c,env.cells.lookup y.1=some c) ->
  (forIn l cs fun (x:Str×NameKind) (r:List (Str×Addr))=>(if (x.2==NameKind.free)=true then do let c <- cellOf env x.1; pure (ForInStep.yield ((x.1,c)::r)) else pure (ForInStep.yield r):Sem (ForInStep (List (Str×Addr)))))=pure (jW env l cs)
 | [],cs,_=>rfl
 | (n,k)::r,cs,h=>by
  have ih:=fun cs'=>nI r cs' fun y hy=>h y (List.mem_cons_of_mem _ hy)
  rw [List.forIn_cons]
  cases hk:k==NameKind.free with
  | true=>
   have hk':k=.free:=by simpa using hk
   obtain ⟨c,ec⟩:=h (n,k) List.mem_cons_self hk'
   have e1:cellOf env n=pure c:=by unfold cellOf; rw [ec]
   simp only [hk,if_true,e1,pure_bind,jW,ec,Option.getD_some]
   exact ih _
  | false=>
   simp only [hk,Bool.false_eq_true,if_false,pure_bind,jW]
   exact ih _
theorem fK {scope:Scope} {env:Env} (h:∀ y∈scope.names,y.2=.free->∃ c,env.cells.lookup y.1=some c):closureFor scope env=pure (jW env scope.names []):=by
 simp only [closureFor]
 have:=nI (env:=env) scope.names [] h
 first
  | (rw [this]; rfl)
  | (simp only [this]; rfl)
  | (unfold closureFor; simp_all)
theorem cm {env:Env}:∀ (l:List (Str×NameKind)) (cs:List (Str×Addr)) (y:Str) (c:Addr),(∀ z∈l,z.2=.free->∃ c,env.cells.lookup z.1=some c)->(jW env l cs).lookup y=some c->cs.lookup y=some c\/env.cells.lookup y=some c
 | [],cs,y,c,_,e=>.inl e
 | (n,k)::r,cs,y,c,h,e=>by
  unfold jW at e
  have hr:=fun z hz=>h z (List.mem_cons_of_mem _ hz)
  split at e
  ·rename_i hk
   rcases cm r _ y c hr e with q | q
   ·rw [List.lookup_cons] at q
    cases hy:y==n with
    | true=>
     have hy':y=n:=by simpa using hy
     subst hy'
     rw [hy] at q
     obtain ⟨c',ec⟩:=h (y,k) List.mem_cons_self (by simpa using hk)
     simp only [ec,Option.getD_some] at q
     cases q
     exact .inr ec
    | false=>rw [hy] at q; exact .inl q
   ·exact .inr q
  ·exact cm r cs y c hr e
theorem kn {env:Env}:∀ (l:List (Str×NameKind)) (cs:List (Str×Addr)) (y:Str),((y,NameKind.free)∈l\/(cs.lookup y).isSome=true)->((jW env l cs).lookup y).isSome=true
 | [],cs,y,h=>by
  rcases h with h | h
  ·cases h
  ·exact h
 | (n,k)::r,cs,y,h=>by
  unfold jW
  split
  ·rename_i hk
   refine kn r _ y ?_
   rcases h with h | h
   ·rcases List.mem_cons.mp h with e | e
    ·cases e; exact .inr (by simp [List.lookup_cons])
    ·exact .inl e
   ·refine .inr ?_
    rw [List.lookup_cons]
    cases hy:y==n with
    | true=>rfl
    | false=>exact h
  ·rename_i hk
   refine kn r cs y ?_
   rcases h with h | h
   ·rcases List.mem_cons.mp h with e | e
    ·cases e; exact absurd rfl hk
    ·exact .inl e
   ·exact .inr h
theorem gq {env:Env} {y:Str}:∀ (l:List (Str×NameKind)),(∀ z∈l,z.2≠.cell) ->
  (((l.map fun (n,k)=>if (k==NameKind.free&&env.scope.kind == .function&&env.kindOf n==some .cell) then (n,NameKind.cell) else (n,k)).lookup y=some .cell\/(l.map fun (n,k)=>if (k==NameKind.free&&env.scope.kind == .function&&env.kindOf n==some .cell) then (n,NameKind.cell) else (n,k)).lookup y=some .free)↔l.lookup y=some .free)
 | [],_=>by simp
 | (n,k)::r,h=>by
  have ih:=gq (env:=env) (y:=y) r fun z hz=>h z (List.mem_cons_of_mem _ hz)
  have hk:k≠.cell:=h (n,k) List.mem_cons_self
  rw [List.map_cons]
  cases hy:y==n with
  | true=>
   by_cases hc:(k==NameKind.free&&env.scope.kind == .function&&env.kindOf n==some .cell)=true
   ·have hf:k=.free:=by
     simp only [Bool.and_eq_true] at hc
     simpa using hc.1.1
    simp only [if_pos hc,List.lookup_cons,hy]
    simp [hf]
   ·simp only [if_neg hc,List.lookup_cons,hy]
    simp [hk]
  | false=>
   by_cases hc:(k==NameKind.free&&env.scope.kind == .function&&env.kindOf n==some .cell)=true
   ·simp only [if_pos hc,List.lookup_cons,hy]; exact ih
   ·simp only [if_neg hc,List.lookup_cons,hy]; exact ih
noncomputable def blk (X:Cx) (scope:Scope) (N:List Str) (C:Addr) (s₀:Shared) (H₀:Hp) (ex:List Addr):Cx:=
 { X with N:=N,s₀:=s₀,H₀:=H₀,env:=compEnvC scope (jW X.env scope.names []) C X.env,outer:=X.stack,stack:=X.stack,ex:=ex,fn:=fun _=>false,pn:=[],xe:=fun _ _=>False }
structure BlkOk (on:List (Str×NameKind)) (ON:List Str) (scope:Scope) (vars:List Str) (caps:List (Nat×Str)):Prop where
 kind:scope.kind=.function
 cell:∀ y∈scope.names,y.2≠.cell
 names:∀ y∈scope.names,y.2=.local->scope.names.lookup y.1=some .local
 free:∀ y∈scope.names,y.2=.free->on.lookup y.1=some .cell\/on.lookup y.1=some .free
 cap:∀ p∈caps,ON[p.1]? = some p.2/\scope.names.lookup p.2=some .free
section
variable {X:Cx} {pins:List (Addr×Obj)} {σ:St} {H H':Hp} {s s':Shared} {scope:Scope} {vars:List Str} {caps:List (Nat×Str)} {fp:List Addr} {C:Addr}
noncomputable def g6 (σ:St) (caps:List (Nat×Str)):St:=caps.map fun p=>(σ[p.1]?).getD none
theorem BlkOk.cells (B:BlkOk X.env.scope.names X.N scope vars caps) (I:Inv X pins σ H s):∀ y∈scope.names,y.2=.free->∃ c,X.env.cells.lookup y.1=some c:=fun y hy e=>I.ok.has y.1 (B.free y hy e)
theorem uL (B:BlkOk X.env.scope.names X.N scope vars caps) (I:Inv X pins σ H s) (hf:∀ b∈fp,jC X pins H b) (hlt:∀ b∈fp,b<s.heap.objs.size) (hC:s.heap.objs.size<=C):(blk X scope (vars++caps.map (·.2)) C s H fp).Ok where
 mod:=I.ok.mod
 kind:=B.kind
 glob:=I.ok.glob
 blt:=I.ok.blt
 above:=hC
 inj:=fun x y c e1 e2=>by
  rcases cm _ _ _ _ (B.cells I) e1 with q1 | q1
  ·cases q1
  ·rcases cm _ _ _ _ (B.cells I) e2 with q2 | q2
   ·cases q2
   ·exact I.ok.inj x y c q1 q2
 has:=fun x e=>by
  have:scope.names.lookup x=some .free:=(gq scope.names B.cell).mp e
  have:=kn (env:=X.env) scope.names [] x (.inl (PySem.mem_of_lookup this))
  exact Option.isSome_iff_exists.mp this
 cab:=fun x c e=>nomatch e
 hd:=I.ok.hd
 frames:=I.ok.frames
 stk:=.inl rfl
 exf:=fun b hb=>⟨Nat.ne_of_lt (Nat.lt_of_lt_of_le (hlt b hb) hC),fun x c e=>by
  rcases cm _ _ _ _ (B.cells I) e with q | q
  ·cases q
  ·exact (hf b hb).2.2.2.2.1 x c q⟩
 bs:=I.bs
 bsz:=Nat.le_trans I.ok.bsz I.sz
 noex:=fun b o e hb=>by
  rcases (hf b hb).2.2.2.1 with z | z
  ·exact I.ok.noex b o e z
  ·exact absurd (Nat.lt_of_lt_of_le (Heap.lt_size e) (Nat.le_trans I.ok.bsz z)) (Nat.lt_irrefl _)
 exfs:=fun b hb z=>by
  rcases List.mem_cons.mp (I.stkSub b z) with q | q
  ·exact (hf b hb).2.1 q
  ·exact (hf b hb).2.2.1 q
 funs:=I.stack
 frf:=I.stkFree
theorem vV (B:BlkOk X.env.scope.names X.N scope vars caps) (I:Inv X pins σ H s) (hf:∀ b∈fp,jC X pins H b) (hlt:∀ b∈fp,b<s.heap.objs.size) (hC:s.heap.objs.size<=C) {h₁:Heap} {m:Str->Option Value} {tk:Nat} (hns:h₁.Ns C m) (old:∀ b o,s.heap.get? b=some o->h₁.get? b=some o) :
  Inv (blk X scope (vars++caps.map (·.2)) C s H fp) [] (vars.map (fun _=>none)++g6 σ caps) H { s with heap:=h₁,toks:=tk }:=by
 refine ⟨uL B I hf hlt hC,rfl,I.bare,Un.kept old,⟨m,hns,fun i x v e1 e2 e3=>?_⟩,fun x c e=>?_,I.hok.fresh hC,fun x c e=>?_,fun p hp=>absurd (show p∈([]:List (Addr×Obj)) from hp) (by simp),I.hok.kept old,?_⟩
 ·have e1:(vars++caps.map (·.2))[i]? = some x:=e1
  by_cases hi:i<vars.length
  ·rw [List.getElem?_append_left (by simpa using hi),List.getElem?_map] at e2
   cases q:vars[i]? <;> rw [q] at e2 <;> cases e2
  ·rw [List.getElem?_append_right (by simpa using hi)] at e1 e2
   simp only [List.length_map] at e2
   unfold g6 at e2
   rw [List.getElem?_map] at e1 e2
   cases q:caps[i-vars.length]? with
   | none=>rw [q] at e1; cases e1
   | some p=>
    rw [q] at e1 e2
    cases e1
    have hp:=List.mem_of_getElem? q
    obtain ⟨g1,g2⟩:=B.cap p hp
    have gf:X.env.scope.names.lookup p.2=some .cell\/X.env.scope.names.lookup p.2=some .free:=B.free (p.2,.free) (PySem.mem_of_lookup g2) rfl
    have ev:σ[p.1]? = some (some v):=by
     have e2:(σ[p.1]?).getD none=some v:=Option.some.inj e2
     cases z:σ[p.1]? with
     | none=>rw [z] at e2; cases e2
     | some w=>rw [z] at e2; rw [show w=some v from e2]
    obtain ⟨m',_,hl⟩:=I.loc
    obtain ⟨u,r,l⟩:=hl p.1 p.2 v g1 ev (gf.elim (fun z=>.inr (.inl z)) fun z=>.inr (.inr z))
    refine ⟨u,r,.inr ⟨?_,?_⟩⟩
    ·exact (gq scope.names B.cell).mpr g2
    ·rcases l with ⟨z,_⟩ | ⟨_,c,ec,hc⟩
     ·have z:X.env.scope.names.lookup p.2=some .local:=z
      rcases gf with w | w <;> rw [z] at w <;> cases w
     ·obtain ⟨c',q'⟩:=Option.isSome_iff_exists.mp (kn (env:=X.env) scope.names [] p.2 (.inl (PySem.mem_of_lookup g2)))
      rcases cm _ _ _ _ (B.cells I) q' with w | w
      ·cases w
      ·rw [ec] at w
       cases w
       obtain ⟨o,ho,hd⟩:=hc
       exact ⟨c,q',o,old c o ho,hd⟩
 ·rcases cm _ _ _ _ (B.cells I) e with q | q
  ·cases q
  ·obtain ⟨v,o,ho,hd⟩:=I.cell x c q
   exact ⟨v,o,old c o ho,hd⟩
 ·rcases cm _ _ _ _ (B.cells I) e with q | q
  ·cases q
  ·exact I.freeC x c q
 ·simp [blk,g6]
theorem vU (I:Inv X pins σ H s) (hf:∀ b∈fp,jC X pins H b) {D:Addr} {s':Shared} {σ':St} {N:List Str} {ys:List V} {its:List Value} (hC:s.heap.objs.size<=C) (hD:s.heap.objs.size<=D) (hDC:D≠C)
  (J:Inv (blk X scope N C s H fp) [] σ' H' s') (hD':H' D=none) (hp:s'.heap.PlainList D its.toArray) (hv:Vals ys its) (hz:ys.length<=sizeLine) {h':Heap} (hs:Heap.SameBut C s'.heap h') :
  Inv X pins σ (upd H' D (.lst ys)) { s' with heap:=h' }:=by
 have U:Un (qI X.stack) fp H H' s.heap s'.heap:=J.base
 have neC:∀ b o,s.heap.get? b=some o->b≠C:=fun b o e=>Nat.ne_of_lt (Nat.lt_of_lt_of_le (Heap.lt_size e) hC)
 have neD:∀ b o,s.heap.get? b=some o->b≠D:=fun b o e=>Nat.ne_of_lt (Nat.lt_of_lt_of_le (Heap.lt_size e) hD)
 have mv:∀ b o,b≠C->s'.heap.get? b=some o->h'.get? b=some o:=fun b o hb e=>hs.extBut b o hb e
 have tD:∀ b o,H' b=some o->(upd H' D (.lst ys)) b=some o:=fun b o e=>by rw [aH (bO e hD')]; exact e
 refine I.call' (s':={ s' with heap:=h' }) (ch:=fp) J.os ⟨fun b o e n h1 h2=>mv b o (neC b o e) (U.keep b o e n h1 h2),fun b o e n h1 h2=>?_,fun b o e n h2=>?_,fun b o e h2=>?_,fun b xs e=>tD _ _ (U.tups b xs e),fun b o xs e=>tD _ _ (U.frzs b o xs e),fun b ps e=>?_⟩ (fun b o e=>?_) J.bare
  (fun b hb=>⟨(hf b hb).2.2.2.1,(hf b hb).2.1,(hf b hb).2.2.2.2.1,(hf b hb).2.2.2.2.2⟩)
 ·obtain ⟨sl,q⟩:=U.slot b o e n h1 h2
  exact ⟨sl,mv b _ (neC b o e) q⟩
 ·rw [aH (neD b o e)]; exact U.free b o e n h2
 ·obtain ⟨o',q⟩:=U.there b o e h2
  exact ⟨o',mv b _ (neC b o e) q⟩
 ·obtain ⟨more,q⟩:=U.tbls b ps e
  exact ⟨more,tD _ _ q⟩
 ·by_cases hb:b=D
  ·subst hb
   rw [aQ] at e
   cases e
   obtain ⟨n,q⟩:=hp
   exact ⟨hz,its,n,hv,mv _ _ hDC q⟩
  ·rw [aH hb] at e
   refine (J.hok b o e).stay (fun c v hc q=>mv c v ?_ q) (fun c q=>tD _ _ q) fun c xs q=>tD _ _ q
   intro z
   have fc:H' C=none:=J.free
   rcases hc with w | w
   ·rw [<- w,z,fc] at e; cases e
   ·rw [z,fc] at w; cases w
theorem sT (elt target iter:Expr) (scope:Scope) (pos:Pos) (it acc:Value) (env:Env) :
  compTurn (.ListComp elt [⟨target,iter,[],0⟩] scope pos) 0 it acc env=(standAt iter.pos >>= fun _=>pyNext it >>= fun r=>match r with
   | none=>pure (.done .next)
   | some v=>letOwnedTupleGo target it v >>= fun _=>assign target env v >>= fun _=>
    (eval elt env >>= fun x=>call (.builtin "list.append") [acc,x] >>= fun _=>pure ()) >>= fun _=>
     again (.compLoop (.ListComp elt [⟨target,iter,[],0⟩] scope pos) 0 it acc env)):=by rfl
noncomputable def v9 (σ σ':St):Prop:=σ.length = σ'.length/\∀ (i:Nat) v,σ[i]? = some (some v) -> σ'[i]? = some (some v)
noncomputable def xT (wi:TI) (g:TG) (te:TE) (vars:List Str) (caps:List (Nat×Str)):TE:=fun σ H Q=>wi σ H fun J H1=>∃ W:Nat->Nat->List V->Hp->Prop,(∃ m,W 0 m [] H1)/\∀ i m ys H,W i m ys H ->
 (J.stop i H/\ys.length<=sizeLine/\∀ p,H p=none->Q (.ref p) (upd H p (.lst ys))) \/
 (J.go i H/\ys.length<sizeLine/\∀ x H',J.yld i H x H'->g x (vars.map (fun _=>none)++g6 σ caps) H' fun σ2 H2=>v9 (vars.map (fun _=>none)++g6 σ caps) σ2/\te σ2 H2 fun y H3=>∃ m',m'<m/\W (i+1) m' (ys++[y]) H3)
theorem Inv.weaken {X:Cx} {pins:List (Addr×Obj)} {σ σ':St} {H:Hp} {s:Shared} (I:Inv X pins σ H s) (hl:σ'.length = σ.length) (w:∀ (i:Nat) v,σ'[i]? = some (some v) -> σ[i]? = some (some v)):Inv X pins σ' H s:=I.weak hl w
theorem ma {prog:Program} {w:World} {A:Around} {R:Result->Shared->Prop} {s:Shared} {elt target iter:Expr} {scope:Scope} {pos:Pos} {it acc:Value} {env:Env} (I:Nat->Shared->Prop)
  (turn:∀ n s,I n s->wpAny (model prog w) A (pyNext it) (fun r s₁=>match r with
   | none=>R (.ok .next) s₁
   | some v=>wpAny (model prog w) A (letOwnedTupleGo target it v) (fun _ s₁=>wpAny (model prog w) A (assign target env v) (fun _ s₂=>wpAny (model prog w) A (eval elt env) (fun x s₃=>
     wpAny (model prog w) A (call (.builtin "list.append") [acc,x]) (fun _ s₄=>∃ m,m<n/\I m s₄) (fun _ _=>False) s₃) (fun _ _=>False) s₂) (fun _ _=>False) s₁) (fun _ _=>False) s₁) (fun _ _=>False) s)
  (n:Nat) (h:I n s):codeAny (model prog w) A (.compLoop (.ListComp elt [⟨target,iter,[],0⟩] scope pos) 0 it acc env) R s:=by
 refine codeAny_loop rfl I (fun n s hI=>?_) n h
 show wpAny _ _ ((compTurn (.ListComp elt [⟨target,iter,[],0⟩] scope pos) 0 it acc env).onRaise (fun x=>do noteFrame x env; theTreesLotGoes x)) _ _ s
 refine wpAny_noted ?_
 rw [sT]
 refine wpAny_bind (wpAny_standAt (wpAny_bind (wpAny_mono (turn n s hI) (fun r s₁ h₁=>?_) fun _ _ h'=>h'.elim)))
 cases r with
 | none=>exact wpAny_pure h₁
 | some v=>
  refine wpAny_bind (wpAny_mono h₁ (fun _ s₁ h₁=>?_) fun _ _ h'=>h'.elim)
  exact wpAny_bind (wpAny_mono h₁ (fun _ s₂ h₂=>wpAny_bind (wpAny_bind (wpAny_mono h₂ (fun x s₃ h₃=>wpAny_bind (wpAny_mono h₃
   (fun _ s₄ h₄=>wpAny_pure (wpAny_pure ⟨rfl,h₄⟩)) fun _ _ h'=>h'.elim)) fun _ _ h'=>h'.elim))) fun _ _ h'=>h'.elim)
end
section
variable {X:Cx} {scope:Scope} {vars:List Str} {caps:List (Nat×Str)} {elt tg iter:Expr} {pos:Pos} {wi:TI} {g:TG} {te:TE}
theorem nT (B:BlkOk X.env.scope.names X.N scope vars caps) (hc:X.calm=true)
  (hg:∀ C s₀ H₀ ex,PG (blk X scope (vars++caps.map (·.2)) C s₀ H₀ ex) tg g) (he:∀ C s₀ H₀ ex,PE (blk X scope (vars++caps.map (·.2)) C s₀ H₀ ex) elt te)
  {pins:List (Addr×Obj)} {σ:St} {H2:Hp} {s2:Shared} {Q:VK} {it:Addr} {fp:List Addr} {tn:Nat->Heap->Prop} {J:It} (I2:Inv X pins σ H2 s2) (T:xz X.prog X.w X.K tg J fp it tn) (st2:tn 0 s2.heap) (f2:∀ b∈fp,jC X pins H2 b)
  {W:Nat->Nat->List V->Hp->Prop} {m0:Nat} (w0:W 0 m0 [] H2) (turn:∀ i m ys H,W i m ys H ->
   (J.stop i H/\ys.length<=sizeLine/\∀ p,H p=none->Q (.ref p) (upd H p (.lst ys))) \/
   (J.go i H/\ys.length<sizeLine/\∀ x H',J.yld i H x H'->g x (vars.map (fun _=>none)++g6 σ caps) H' fun σ2 H2=>v9 (vars.map (fun _=>none)++g6 σ caps) σ2/\te σ2 H2 fun y H3=>∃ m',m'<m/\W (i+1) m' (ys++[y]) H3))
  {RR:Value->Addr->Result->Shared->Prop} {E:Value->Shared->Prop}
  (hRR:∀ D C s' m,s'.heap.Ns C m->D≠C->s2.heap.objs.size<=D->s2.heap.objs.size<=C->∀ H',H' C=none->(∀ h',Heap.SameBut C s'.heap h'->Inv X pins σ H' { s' with heap:=h' })->Q (.ref D) H'->RR (.ref D) C (.ok .next) s') :
  wpAny (model X.prog X.w) X.A (newList []) (fun acc s₃=>wpAny (model X.prog X.w) X.A (newFunctionEnv scope X.env.globals (jW X.env scope.names []) [] X.env.qual none .none (some X.env)) (fun cenv s₄=>
   codeAny (model X.prog X.w) X.A (.compStart (.ListComp elt [⟨tg,iter,[],0⟩] scope pos) 0 (.ref it) acc { cenv with scope:=relabel scope X.env }) (RR acc cenv.locals) s₄) E s₃) E s2:=by
 refine wpAny_newObj_type (wpAny_newFunctionEnv B.cell (by intro y hy; simp at hy) (fun h₁ hns₁ hsb₁=>?_) B.kind)
 dsimp only at hns₁ hsb₁ ⊢
 generalize hP:s2.heap.push { cls:=.type "list",dict:=none,data:=.seq ([]:List Value).toArray }=HP at hns₁ hsb₁ ⊢
 have hCs:HP.objs.size=s2.heap.objs.size+1:=by rw [<- hP,Heap.size_push]
 have hDC:s2.heap.objs.size≠HP.objs.size:=by rw [hCs]; exact Nat.ne_of_lt (Nat.lt_succ_self _)
 have hCle:s2.heap.objs.size<=HP.objs.size:=by rw [hCs]; exact Nat.le_succ _
 have old:∀ b o,s2.heap.get? b=some o->h₁.get? b=some o:=fun b o e=>hsb₁.extBut b o (Nat.ne_of_lt (Nat.lt_of_lt_of_le (Heap.lt_size e) hCle)) (Heap.get?_push_of_some _ (hP ▸ Heap.get?_push_of_some _ e))
 have hacc:h₁.PlainList s2.heap.objs.size #[]:=⟨_,hsb₁.extBut _ _ hDC (Heap.get?_push_of_some _ (hP ▸ Heap.get?_push_size _ rfl))⟩
 have flt:∀ b∈fp,b<s2.heap.objs.size:=fun b hb=>by
  obtain ⟨o,e,_⟩:=T.obj _ _ st2 b hb
  exact Heap.lt_size e
 have st1:tn 0 h₁:=T.keep _ _ _ st2 fun b _ o e=>old b o e
 have loop:∀ s3:Shared,s3={ s2 with heap:=h₁,toks:=s2.toks+([]:List (Str×Value)).length } ->
   codeAny (model X.prog X.w) X.A (.compLoop (.ListComp elt [⟨tg,iter,[],0⟩] scope pos) 0 (.ref it) (.ref s2.heap.objs.size) (compEnvC scope (jW X.env scope.names []) HP.objs.size X.env))
    (RR (.ref s2.heap.objs.size) HP.objs.size) s3:=by
  rintro s3 rfl
  have X':=blk X scope (vars++caps.map (·.2)) HP.objs.size s2 H2 fp
  have fpo:∀ {H':Hp},(∀ b∈fp,H' b=none)->∀ b∈fp,jC (blk X scope (vars++caps.map (·.2)) HP.objs.size s2 H2 fp) [] H' b:=fun hn b hb=>by
   have ok:=uL B I2 f2 flt hCle
   exact ⟨hn b hb,(ok.exf b hb).1,ok.exfs b hb,.inl hb,(ok.exf b hb).2,fun p hp=>absurd (show p∈([]:List (Addr×Obj)) from hp) (by simp)⟩
  refine ma (fun n s=>∃ i ys H its,Inv (blk X scope (vars++caps.map (·.2)) HP.objs.size s2 H2 fp) [] (vars.map (fun _=>none)++g6 σ caps) H s/\tn i s.heap/\(∀ b∈fp,H b=none)/\s.heap.PlainList s2.heap.objs.size (List.toArray its)/\H s2.heap.objs.size=none/\Vals ys its/\W i n ys H) ?_ m0
   ⟨0,[],H2,[],vV B I2 f2 flt hCle hns₁ old,st1,fun b hb=>(f2 b hb).1,hacc,I2.hok.fresh (Nat.le_refl _),.nil,w0⟩
  rintro n s4 ⟨i,ys,H4,its,I4,st4,fr4,pl4,nD4,v4,w4⟩
  obtain ⟨nn,eD⟩:=id pl4
  have DnL:s2.heap.objs.size≠(blk X scope (vars++caps.map (·.2)) HP.objs.size s2 H2 fp).env.locals:=hDC
  have Dfs:s2.heap.objs.size ∉ (blk X scope (vars++caps.map (·.2)) HP.objs.size s2 H2 fp).fs:=fun z=>by
   rcases List.mem_cons.mp (I2.stkSub _ z) with q | q
   ·have:=I2.lt; rw [<- q] at this; exact Nat.lt_irrefl _ this
   ·exact I2.nofs (Nat.le_refl _) q
  have Dfp:∀ b∈fp,s2.heap.objs.size≠b:=fun b hb z=>by have:=flt b hb; rw [<- z] at this; exact Nat.lt_irrefl _ this
  have DnC:∀ x c,(blk X scope (vars++caps.map (·.2)) HP.objs.size s2 H2 fp).env.cells.lookup x=some c->c≠s2.heap.objs.size:=fun x c e z=>by
   rcases cm _ _ _ _ (B.cells I2) e with q | q
   ·cases q
   ·obtain ⟨v,o,ho,_⟩:=I2.cell x c q
    have:=Heap.lt_size ho
    rw [z] at this
    exact Nat.lt_irrefl _ this
  have pinD:∀ {σ':St} {H':Hp} {s':Shared},Inv (blk X scope (vars++caps.map (·.2)) HP.objs.size s2 H2 fp) [(s2.heap.objs.size,{ cls:=.type "list",data:=.seq its.toArray nn })] σ' H' s'->s'.heap.PlainList s2.heap.objs.size its.toArray/\H' s2.heap.objs.size=none:=fun {σ' H' s'} I'=>by
   obtain ⟨q1,q2,_⟩:=I'.pin (s2.heap.objs.size,{ cls:=.type "list",data:=.seq its.toArray nn }) (by simp [blk])
   exact ⟨⟨nn,q1⟩,q2⟩
  have I4p:Inv (blk X scope (vars++caps.map (·.2)) HP.objs.size s2 H2 fp) [(s2.heap.objs.size,{ cls:=.type "list",data:=.seq its.toArray nn })] (vars.map (fun _=>none)++g6 σ caps) H4 s4:=
   I4.pins_of fun p hp=>by
    have e:p=(s2.heap.objs.size,{ cls:=.type "list",data:=.seq its.toArray nn }):=by simpa [blk] using hp
    subst e
    exact ⟨eD,nD4,DnL,Dfs,fun v z=>by cases z⟩
  have fpo':∀ {H':Hp},(∀ b∈fp,H' b=none)->∀ b∈fp,jC (blk X scope (vars++caps.map (·.2)) HP.objs.size s2 H2 fp) [(s2.heap.objs.size,{ cls:=.type "list",data:=.seq its.toArray nn })] H' b:=fun hn b hb=>by
   obtain ⟨q1,q2,q3,q4,q5,_⟩:=fpo hn b hb
   exact ⟨q1,q2,q3,q4,q5,fun p hp=>by
    have e:p=(s2.heap.objs.size,{ cls:=.type "list",data:=.seq its.toArray nn }):=by simpa [blk] using hp
    subst e
    exact Dfp b hb⟩
  have unp:∀ {pl:List (Addr×Obj)} {σ':St} {H':Hp} {s':Shared},Inv (blk X scope (vars++caps.map (·.2)) HP.objs.size s2 H2 fp) pl σ' H' s'->Inv (blk X scope (vars++caps.map (·.2)) HP.objs.size s2 H2 fp) [] σ' H' s':=fun {pl σ' H' s'} I'=>
   I'.pins_of fun p hp=>absurd (show p∈([]:List (Addr×Obj)) from hp) (by simp)
  rcases turn i n ys H4 w4 with ⟨stop,hz,qn⟩ | ⟨go,hz,step⟩
  ·refine dl (T.done (blk X scope (vars++caps.map (·.2)) HP.objs.size s2 H2 fp) rfl rfl rfl hc i _ s4 _ H4 _ I4p (fpo' fr4) st4 stop) fun r s5 ⟨hr,I5⟩=>?_
   subst hr
   obtain ⟨p5,n5⟩:=pinD I5
   obtain ⟨m5,ns5,_⟩:=I5.loc
   refine hRR _ _ s5 m5 ns5 hDC (Nat.le_refl _) hCle _ ?_ (fun h' hs'=>vU I2 f2 hCle (Nat.le_refl _) hDC (unp I5) n5 p5 v4 hz hs') (qn _ n5)
   rw [aH hDC.symm]
   exact I5.free
  ·refine dl (T.item (blk X scope (vars++caps.map (·.2)) HP.objs.size s2 H2 fp) rfl rfl rfl hc i _ s4 _ H4 _ I4p (fpo' fr4) st4 go) fun r s5 ⟨u,hr,h5⟩=>?_
   subst hr
   refine dl h5 fun _ s6 ⟨x,H6,I6,rx,yx,st6,fr6⟩=>?_
   have I6p:=I6.pinned (fpo' fr6) (T.obj _ _ st6)
   refine dl (hg _ _ _ _ _ s6 _ H6 x u _ I6p rx (step x H6 yx)) fun _ s7 ⟨σ7,H7,I7,kp,q7⟩=>?_
   refine dl (he _ _ _ _ _ s7 σ7 H7 _ I7 q7) fun v s8 ⟨y,H8,I8,ry,m',hm,w8⟩=>?_
   obtain ⟨p8,n8⟩:=pinD I8.unpinned
   have st8:tn (i+1) s8.heap:=T.keep _ _ _ st6 fun b hb o e=>(I8.pin (b,o) (List.mem_append_right _ (List.mem_append_right _ (dB hb e)))).1
   have fr8:∀ b∈fp,H8 b=none:=fun b hb=>by
    obtain ⟨o,e,d⟩:=T.obj _ _ st6 b hb
    exact (I8.pin (b,o) (List.mem_append_right _ (List.mem_append_right _ (dB hb e)))).2.1
   have hl:=v4.length
   refine wpAny_list_append_plain p8 (fun h9 p9 sb9=>⟨m',hm,i+1,ys++[y],H8,its++[v],?_,?_,fr8,by simpa using p9,n8,v4.append (.cons ry .nil),w8⟩) (by simp; omega)
   ·have I9:Inv (blk X scope (vars++caps.map (·.2)) HP.objs.size s2 H2 fp) [] σ7 H8 { s8 with heap:=h9,toks:=s8.toks }:=
     (unp I8).turned (it:=s2.heap.objs.size) (fun b o hb e=>sb9.extBut b o hb e) n8 DnL (.inr (Nat.le_refl _)) DnC fun p hp=>absurd (show p∈([]:List (Addr×Obj)) from hp) (by simp)
    exact I9.weak kp.1 kp.2
   ·exact T.keep _ _ _ st8 fun b hb o e=>sb9.extBut b o (Dfp b hb).symm e
 exact codeAny_compStart_list (loop _ rfl) (T.self _ 0 _ _ _ st1 (loop _ rfl))
theorem Bv (B:BlkOk X.env.scope.names X.N scope vars caps) (hc:X.calm=true) (hi:PI X tg iter wi)
  (hg:∀ C s₀ H₀ ex,PG (blk X scope (vars++caps.map (·.2)) C s₀ H₀ ex) tg g) (he:∀ C s₀ H₀ ex,PE (blk X scope (vars++caps.map (·.2)) C s₀ H₀ ex) elt te) (hs:∀ x,foldedSetIterable iter X.env x=pure x:=by intro _; rfl) :
  PE X (.ListComp elt [⟨tg,iter,[],0⟩] scope pos) (xT wi g te vars caps):=by
 intro pins s σ H Q I h
 rw [eval_ListComp]
 refine wpAny_comprehension_free (use:=none) rfl hs (fK (B.cells I)) B.kind B.names ?_
 show wpAny _ _ (eval iter X.env) _ _ s
 refine dl (hi pins s σ H _ I h) fun v s1 h1=>dl h1 fun itv s2 h2=>?_
 obtain ⟨it,fp,tn,J,H2,e,I2,T,st2,f2,W,⟨m0,w0⟩,turn⟩:=h2
 subst e
 exact nT B hc hg he I2 T st2 f2 w0 turn (RR:=fun acc C=>compPost (model X.prog X.w) X.A X.xe none (EP X pins σ Q) acc C) fun D C s' m ns _ _ _ H' _ k q=>⟨m,ns,fun h' hs'=>⟨.ref D,H',k h' hs',rfl,q⟩⟩
theorem Bp {i:Nat} {y:Str} {py spos:Pos} (B:BlkOk X.env.scope.names X.N scope vars caps) (hc:X.calm=true) (hi:PI X tg iter wi)
  (hg:∀ C s₀ H₀ ex,PG (blk X scope (vars++caps.map (·.2)) C s₀ H₀ ex) tg g) (he:∀ C s₀ H₀ ex,PE (blk X scope (vars++caps.map (·.2)) C s₀ H₀ ex) elt te)
  (hN:X.N.Nodup) (hy:X.N[i]? = some y) (hx:xA X.env.scope y) (hsw:swapsWith (.ListComp elt [⟨tg,iter,[],0⟩] scope pos) (some (.Name y py)) spos.line X.env=pure true)
  (hf:X.fn y=true\/X.env.scope.names.lookup y=some .local) (hs:∀ x,foldedSetIterable iter X.env x=pure x:=by intro _; rfl) :
  PS X (.Assign [.Name y py] (.ListComp elt [⟨tg,iter,[],0⟩] scope pos) spos) (fun D σ H=>xT wi g te vars caps σ H fun v H1=>D.nx (σ.set i (some v)) H1):=by
 intro pins s σ H DE I h
 rw [exec_Assign_Name_used _ _ _ _ hsw]
 refine wpAny_bind (wpAny_standAt (wpAny_bind ?_))
 show wpAny _ X.A (do let _ <- comprehension (.ListComp elt [⟨tg,iter,[],0⟩] scope pos) scope X.env _ (newList []) false (eval iter X.env) (some (assign (.Name y py) X.env))) _ _ s
 refine wpAny_bind (wpAny_mono (wpAny_comprehension_free (use:=some (assign (.Name y py) X.env)) (Q:=fun _ s'=>SP X pins DE .next s') rfl hs (fK (B.cells I)) B.kind B.names
  (dl (hi pins s σ H _ I h) fun v s1 h1=>dl h1 fun itv s2 h2=>?_)) (fun _ s' hq=>wpAny_pure (wpAny_pure hq)) fun _ _ e=>e)
 obtain ⟨it,fp,tn,J,H2,e,I2,T,st2,f2,W,⟨m0,w0⟩,turn⟩:=h2
 subst e
 refine nT (Q:=fun v H1=>DE.nx (σ.set i (some v)) H1) B hc hg he I2 T st2 f2 w0 turn (RR:=fun acc C=>compPost (model X.prog X.w) X.A X.xe (some (assign (.Name y py) X.env)) (fun _ s'=>SP X pins DE .next s') acc C) ?_
 intro D C s' m ns hDC hD hC H' hHC k q
 obtain ⟨oC,es,ep,eC,dC,rC⟩:=ns
 have I':Inv X pins σ H' s':=k s'.heap (Heap.SameBut.refl ..)
 have nL:C≠X.env.locals:=fun z=>by have:=I2.lt; rw [<- z] at this; exact absurd (Nat.lt_of_lt_of_le this hC) (Nat.lt_irrefl _)
 have nF:C ∉ X.fs:=I2.nofs hC
 have nCell:∀ x c,X.env.cells.lookup x=some c->c≠C:=fun x c e z=>by
  obtain ⟨v,o,ho,_⟩:=I2.cell x c e
  have:=Heap.lt_size ho
  rw [z] at this
  exact absurd (Nat.lt_of_lt_of_le this hC) (Nat.lt_irrefl _)
 have nPin:∀ p∈X.pn++pins,p.1≠C:=fun p hp z=>by
  have:=Heap.lt_size (I2.pin p hp).1
  rw [z] at this
  exact absurd (Nat.lt_of_lt_of_le this hC) (Nat.lt_irrefl _)
 have Ip:Inv X (pins++[(C,oC)]) σ H' s':=I'.pins_of fun p hp=>by
  rcases List.mem_append.mp hp with z | z
  ·exact I'.pin p (List.mem_append_right _ z)
  ·have e:p=(C,oC):=by simpa using z
   subst e
   exact ⟨eC,hHC,nL,nF,fun v z=>by rw [dC] at z; cases z⟩
 refine dl (bZ (pos:=py) hN hy hx hf _ s' σ H' (.ref D) (.ref D) (fun σ' H''=>σ' = σ.set i (some (.ref D))/\H''=H'/\DE.nx σ' H'') Ip rfl ⟨rfl,rfl,q⟩) fun _ s'' ⟨σ'',H'',I'',e1,e2,q''⟩=>?_
 subst e1 e2
 have eC'':s''.heap.get? C=some oC:=(I''.pin (C,oC) (List.mem_append_right _ (List.mem_append_right _ (by simp)))).1
 refine ⟨m,⟨oC,es,ep,eC'',dC,rC⟩,fun h' hs'=>⟨_,H'',?_,q''⟩⟩
 exact I''.unpinned.turned (t':=s''.toks) (it:=C) (fun b o hb e=>hs'.extBut b o hb e) hHC nL (.inr (Nat.le_trans I2.sz hC)) nCell nPin
end
noncomputable def Hv:Option Sl->Sl
 | some (.fz d)=>.fz d
 | _=>.un
@[simp] theorem Kp (d:D):Hv (some (.fz d))=.fz d:=rfl
noncomputable def eL (δ:Dv) (caps:List (Nat×Str)):Dv:=caps.map fun p=>Hv δ[p.1]?
noncomputable def wS (f:D->Option D):List D->Option (List D)
 | []=>some []
 | d::ds=>(f d).bind fun e=>(wS f ds).bind fun es=>some (e::es)
noncomputable def df (fi:Dv->Option (List D)) (caps:List (Nat×Str)) (bv:D->Option (List D)) (fe:Dv->Option D):Dv->Option D:=fun δ=>(fi δ).bind fun ds=>if ds.length<=sizeLine then (wS (fun d=>(bv d).bind fun vs=>fe (vs.map .fz++eL δ caps)) ds).bind fun es=>some (.list es) else none
noncomputable def kT:D->Option (List D):=fun d=>some [d]
theorem lA {f:D->Option D}:∀ {ds es:List D},wS f ds=some es->es.length=ds.length
 | [],es,h=>by cases h; rfl
 | d::ds,es,h=>by
  obtain ⟨e,_,h⟩:=bind_some h
  obtain ⟨es',h2,h⟩:=bind_some h
  cases h
  exact congrArg (· + 1) (lA h2)
theorem sG {f:D->Option D}:∀ {ds es:List D} {i:Nat} {d:D},wS f ds=some es->ds[i]? = some d->∃ e,f d=some e/\es[i]? = some e
 | [],es,i,d,h,q=>by simp at q
 | d::ds,es,i,d',h,q=>by
  obtain ⟨e,h1,h⟩:=bind_some h
  obtain ⟨es',h2,h⟩:=bind_some h
  cases h
  cases i with
  | zero=>simp at q; subst q; exact ⟨e,h1,rfl⟩
  | succ i=>simp at q; obtain ⟨e',g1,g2⟩:=sG (i:=i) h2 q; exact ⟨e',g1,by simpa using g2⟩
noncomputable def uV (K:Fg) (g:TG) (n:Nat) (bv:D->Option (List D)):Prop:=∀ (x:V) (Z:Hp) (d:D) (vs:List D) (σc:St) (H:Hp) (R:St->Hp->Prop),Rep K Z x d->Same Z H->bv d=some vs->(∀ us,Reps K Z us vs->us.length=n->R (us.map some ++ σc) H)->g x (List.replicate n none ++ σc) H R
theorem cS {K:Fg}:uV K (zP 0) 1 kT:=fun x Z d vs σc H R r zh e k=>by
 cases e
 exact k [x] (.cons r .nil) rfl
section
variable {X:Cx} {scope:Scope} {vars:List Str} {caps:List (Nat×Str)} {elt tg iter:Expr} {pos:Pos} {g:TG} {fi:Dv->Option (List D)} {fe:Dv->Option D} {bv:D->Option (List D)}
theorem Aa {σ:St} {δ:Dv} {K:Fg} {H₀ Z₀ Z H:Hp} (hh:Hold K H₀ Z₀ Z δ σ H):∀ (j:Nat) d,(eL δ caps)[j]? = some (.fz d)->∃ v,(g6 σ caps)[j]? = some (some v)/\Rep K Z v d:=fun j d e=>by
 unfold eL at e
 unfold g6
 rw [List.getElem?_map] at e ⊢
 cases q:caps[j]? with
 | none=>rw [q] at e; cases e
 | some p=>
  rw [q] at e
  have e:Hv δ[p.1]? = .fz d:=Option.some.inj e
  cases z:δ[p.1]? with
  | none=>rw [z] at e; cases e
  | some sl=>
   rw [z] at e
   cases sl with
   | fz d'=>
    cases e
    obtain ⟨v,g1,g2⟩:=hh.fz p.1 _ z
    exact ⟨v,by show some ((σ[p.1]?).getD none)=_; rw [g1]; rfl,g2⟩
   | un=>cases e
   | own _=>cases e
   | fr _=>cases e
theorem CZ {δ:Dv}:∀ (j:Nat) ds,(eL δ caps)[j]? ≠ some (.own ds):=fun j ds e=>by
 unfold eL at e
 rw [List.getElem?_map] at e
 cases q:caps[j]? with
 | none=>rw [q] at e; cases e
 | some p=>
  rw [q] at e
  have e:Hv δ[p.1]? = .own ds:=Option.some.inj e
  cases z:δ[p.1]? with
  | none=>rw [z] at e; cases e
  | some sl=>rw [z] at e; cases sl <;> cases e
theorem C0 {δ:Dv}:∀ (j:Nat) ds,(eL δ caps)[j]? ≠ some (.fr ds):=fun j ds e=>by
 unfold eL at e
 rw [List.getElem?_map] at e
 cases q:caps[j]? with
 | none=>rw [q] at e; cases e
 | some p=>
  rw [q] at e
  have e:Hv δ[p.1]? = .fr ds:=Option.some.inj e
  cases z:δ[p.1]? with
  | none=>rw [z] at e; cases e
  | some sl=>rw [z] at e; cases sl <;> cases e
theorem sX {σ:St} {δ:Dv} {K:Fg} {H₀ Z₀ Z H:Hp} (hh:Hold K H₀ Z₀ Z δ σ H) {us:List V} {vs:List D} (r:Reps K Z us vs):Hold K H Z Z (vs.map .fz++eL δ caps) (us.map some++g6 σ caps) H:=by
 have hl:=r.length
 refine ⟨hh.zh,Same.refl _,Same.refl _,fun _ _=>rfl,by simp [eL,g6,hl],fun i d e=>?_,fun i ds e=>?_,fun i j ds es a _ e=>?_,fun i ds e=>?_,NoF.refl _⟩
 ·by_cases hi:i<vs.length
  ·rw [List.getElem?_append_left (by simpa using hi),List.getElem?_map] at e
   cases q:vs[i]? with
   | none=>rw [q] at e; cases e
   | some d'=>
    rw [q] at e
    cases e
    obtain ⟨v,g1,g2⟩:=r.get q
    exact ⟨v,by rw [List.getElem?_append_left (by simpa [hl] using hi),List.getElem?_map,g1]; rfl,g2⟩
  ·rw [List.getElem?_append_right (by simpa using hi)] at e
   obtain ⟨v,g1,g2⟩:=Aa hh _ d e
   refine ⟨v,?_,g2⟩
   rw [List.getElem?_append_right (by simpa [hl] using hi)]
   simp only [List.length_map] at g1 ⊢
   rw [hl]; exact g1
 all_goals
  exfalso
  by_cases hi:i<vs.length
  ·rw [List.getElem?_append_left (by simpa using hi),List.getElem?_map] at e
   cases q:vs[i]? <;> rw [q] at e <;> cases e
  ·rw [List.getElem?_append_right (by simpa using hi)] at e
   first | exact CZ _ _ e | exact C0 _ _ e
theorem pE (tk:uV X.K g vars.length bv) {σ:St} {H:Hp} {Q:VK} (h:tV X.K (df fi caps bv fe) σ H Q):xT (Kb X.K fi) g (tV X.K fe) vars caps σ H Q:=by
 obtain ⟨H₀,Z₀,Z,δ,d,hh,e,k⟩:=h
 obtain ⟨ds,e1,e⟩:=bind_some e
 by_cases hz:ds.length<=sizeLine
 ·rw [if_pos hz] at e
  obtain ⟨es,e2,e⟩:=bind_some e
  cases e
  have le:=lA e2
  have hv:vars.map (fun _=>(none:Option V))=List.replicate vars.length none:=by rw [List.map_const']
  refine ⟨H₀,Z₀,Z,δ,ds,hh,e1,fun J Z1 H1 hh1 t1 ok=>?_⟩
  refine ⟨fun i m ys H=>m=ds.length-i/\i<=ds.length/\∃ Zc,Hold X.K H₀ Z₀ Zc δ σ H/\Same Z1 Zc/\Reps X.K Zc ys (es.take i),⟨ds.length,by simp,Nat.zero_le _,Z1,hh1,Same.refl _,by simpa using .nil⟩,?_⟩
  rintro i m ys H2 ⟨rfl,hi2,Zc,hhc,tc,rc⟩
  have zh:Same Z1 H2:=tc.trans hhc.zh
  have ly:=rc.length
  rw [List.length_take] at ly
  by_cases hlt:i<ds.length
  ·refine .inr ⟨ok.go i H2 zh hlt,by omega,fun x H3 y=>?_⟩
   have ed:ds[i]? = some ds[i]:=by simp [hlt]
   obtain ⟨rfl,rx⟩:=ok.yld i H2 x H3 _ zh ed y
   obtain ⟨ei,f1,f2⟩:=sG e2 ed
   obtain ⟨vs,f3,f1⟩:=bind_some f1
   rw [hv]
   refine tk x Zc ds[i] vs (g6 σ caps) H3 _ (rx.same tc) hhc.zh f3 fun us ru hn=>⟨⟨by simp [hn],fun j v q=>?_⟩,?_⟩
   ·by_cases hj:j<vars.length
    ·rw [List.getElem?_append_left (by simpa using hj),List.getElem?_replicate] at q
     split at q <;> cases q
    ·rw [List.getElem?_append_right (by simpa using hj)] at q
     rw [List.getElem?_append_right (by simpa [hn] using hj)]
     simpa [hn] using q
   ·refine ⟨H3,Zc,Zc,_,ei,sX hhc ru,f1,fun v Z4 H4 h4 t4 r4=>⟨ds.length-(i+1),by omega,rfl,hlt,Z4,hhc.new ⟨t4,h4.h0,h4.zh,h4.zb,h4.nf⟩,tc.trans t4,?_⟩⟩
    have:es.take (i+1)=es.take i++[ei]:=by
     rw [List.take_add_one,f2]; rfl
    rw [this]
    exact (rc.same t4).append (.cons r4 .nil)
  ·have hie:i=ds.length:=by omega
   subst hie
   refine .inl ⟨ok.stop _ H2 zh (Nat.le_refl _),by omega,fun p hp=>?_⟩
   rw [<- le,List.take_length] at rc
   have n:=New.add hhc.zh hp (.lst ys)
   exact k _ _ _ (hhc.new n) ((t1.trans tc).trans n.z) (.lst (SqL.of aQ) (rc.same n.z))
 ·rw [if_neg hz] at e; cases e
theorem fJ (B:BlkOk X.env.scope.names X.N scope vars caps) (hc:X.calm=true) (hi:IV X tg iter fi) (tk:uV X.K g vars.length bv)
  (hg:∀ C s₀ H₀ ex,PG (blk X scope (vars++caps.map (·.2)) C s₀ H₀ ex) tg g) (he:∀ C s₀ H₀ ex,EV (blk X scope (vars++caps.map (·.2)) C s₀ H₀ ex) elt fe) (hs:∀ x,foldedSetIterable iter X.env x=pure x:=by intro _; rfl) :
  EV X (.ListComp elt [⟨tg,iter,[],0⟩] scope pos) (df fi caps bv fe):=
 PE.imp (Bv (te:=tV X.K fe) B hc hi hg he hs) fun _ _ _ h=>pE tk h
theorem j6 (i:Nat) {y:Str} {py spos:Pos} (hN:X.N.Nodup) (B:BlkOk X.env.scope.names X.N scope vars caps) (hc:X.calm=true) (hi:IV X tg iter fi) (tk:uV X.K g vars.length bv)
  (hg:∀ C s₀ H₀ ex,PG (blk X scope (vars++caps.map (·.2)) C s₀ H₀ ex) tg g) (he:∀ C s₀ H₀ ex,EV (blk X scope (vars++caps.map (·.2)) C s₀ H₀ ex) elt fe)
  (hy:X.N[i]? = some y:=by rfl) (hx:xA X.env.scope y:=by first | exact Or.inl rfl | exact Or.inr rfl) (hsw:swapsWith (.ListComp elt [⟨tg,iter,[],0⟩] scope pos) (some (.Name y py)) spos.line X.env=pure true:=by rfl)
  (hf:X.fn y=true\/X.env.scope.names.lookup y=some .local:=by first | exact .inl rfl | exact .inr rfl | assumption) (hs:∀ x,foldedSetIterable iter X.env x=pure x:=by intro _; rfl) :
  SV X (.Assign [.Name y py] (.ListComp elt [⟨tg,iter,[],0⟩] scope pos) spos) (aD i (df fi caps bv fe)):=
 PS.imp (Bp (te:=tV X.K fe) B hc hi hg he hN hy hx hsw hf hs) fun D σ H h=>by
  obtain ⟨H₀,Z₀,Z,δ,r,hh,e,k⟩:=h
  obtain ⟨x,e1,e⟩:=bind_some e
  cases e
  exact pE tk ⟨H₀,Z₀,Z,δ,x,hh,e1,fun v Z1 H1 hh1 s1 r1=>k _ H1 Z1 (hh1.set r1) s1⟩
end
end VL
set_option Elab.async false
set_option linter.all false
set_option maxRecDepth 100000
set_option maxHeartbeats 4000000
namespace VL
open PySem PySem.Spec PyProof.Rows L2
section
variable {X:Cx} {e:Expr} {es:List Expr} {p pos:Pos} {fs:Dv->Option (List D)}
theorem au {k:Nat} {x:Str} {g:List D->Option D} (C:Cal X.prog X.w X.K X.mg X.base x k g []) (hr:Room k X.A) (hg:Gl X x) (ha:AV X (e::es) fs) (hdb:(x==("__debug__":Str))=false:=by decide) (he:starEach (e::es) X.env=(false,eval e X.env)::starEach es X.env:=by rfl)
  (hpl:(backTo pos (starEach es X.env)).any (·.1)=false:=by rfl):EV X (.Call (.Name x p) (e::es) [] pos) (os fs g):=by
 have h:=F7 C hr hg ha hdb he hpl (p:=p) (pos:=pos)
 have e:(fun as=>g (as++[]))=g:=by funext as; rw [List.append_nil]
 rw [e] at h
 exact h
end
structure TopV (K:Fg) (mg:Str->Option Value) (x:Str) (d:D):Prop where
 ex:∃ v u,mg x=some u/\RelV v u/\∀ Z,Rep K Z v d
theorem TopV.tup {K:Fg} {mg:Str->Option Value} {x:Str} {a:Addr} {td:Option Addr} {its:Array Value} {tn:Nat} {ts:Array (Option Value)} {xs:List V} {ds:List D} (hm:mg x=some (.ref a)) (hk:K.lookup a=some ⟨.type "tuple",td,.seq its tn,ts⟩)
  (hz:its.size<=sizeLine) (hv:Vals xs its.toList) (hr:∀ Z,Reps K Z xs ds):TopV K mg x (.tuple ds):=⟨.ref a,.ref a,hm,rfl,fun Z=>.tup (.inr ⟨_,its,tn,hk,rfl,rfl,hz,hv⟩) (hr Z)⟩
theorem TopV.int {K:Fg} {mg:Str->Option Value} {x:Str} {i:Int} {t:Tok} (hm:mg x=some (.int i t)):TopV K mg x (.int i):=⟨.int i,.int i t,hm,⟨t,rfl⟩,fun _=>.int i⟩
theorem mG {X:Cx} {x:Str} {pos:Pos} {d:D} (T:TopV X.K X.mg x d) (hg:Gl X x) (hd:(x==("__debug__":Str))=false:=by decide):EV X (.Name x pos) (oC d):=by
 obtain ⟨v,u,hm,r,h⟩:=T.ex
 exact zV (Bu hg hm r hd) h
noncomputable def Bg:Option Sl->Option (List D)
 | some (.own (.l ds))=>some ds
 | _=>none
@[simp] theorem Ei (ds:List D):Bg (some (.ow ds))=some ds:=rfl
theorem tY {o:Option Sl} {ds:List D} (h:Bg o=some ds):o=some (.ow ds):=by
 cases o with
 | none=>cases h
 | some x=>
  cases x with
  | own c=>
   cases c with
   | l es=>cases h; rfl
   | d es=>cases h
  | un=>cases h
  | fz d=>cases h
  | fr _=>cases h
@[simp] noncomputable def wz (i:Nat) (fs:Dv->Option (List D)):Sf:=fun δ=>(fs δ).bind fun ds=>if ds.length<=sizeLine then some (.nx,δ.set i (.ow ds)) else none
@[simp] noncomputable def lY (i:Nat) (f:Dv->Option D):Dv->Option D:=fun δ=>(Bg δ[i]?).bind fun ds=>(f δ).bind fun k=>av (.list ds) k
@[simp] noncomputable def yX (i:Nat):Dv->Option D:=fun δ=>(Bg δ[i]?).bind fun ds=>some (.int ds.length)
noncomputable def jQ (ds:List D) (k v:D):Option (List D):=match k with
 | .int j=>(tJ ds.length j).map fun n=>ds.set n v
 | _=>none
@[simp] theorem dc (ds:List D) (j:Int) (v:D):jQ ds (.int j) v=(tJ ds.length j).map fun n=>ds.set n v:=rfl
@[simp] noncomputable def qe (i:Nat) (fk fv:Dv->Option D):Sf:=fun δ=>(fv δ).bind fun v=>(fk δ).bind fun k=>(Bg δ[i]?).bind fun ds=>(jQ ds k v).bind fun ds'=>some (.nx,δ.set i (.ow ds'))
@[simp] noncomputable def r9 (i:Nat) (f:Dv->Option D):Sf:=fun δ=>(f δ).bind fun v=>(Bg δ[i]?).bind fun ds=>if ds.length<sizeLine then some (.nx,δ.set i (.ow (ds++[v]))) else none
section
variable {X:Cx} {e b:Expr} {es:List Expr} {p pos tpos apos:Pos} {fs:Dv->Option (List D)} {f fk fv:Dv->Option D}
theorem pV (i:Nat) {x:Str} {pos':Pos} (hN:X.N.Nodup) (ha:AV X es fs) (hi:X.N[i]? = some x:=by rfl) (hx:xA X.env.scope x:=by first | exact Or.inl rfl | exact Or.inr rfl) (hs:swapsWith (.List es p) (some (.Name x pos')) pos.line X.env=pure false:=by rfl)
  (hf:X.fn x=true\/X.env.scope.names.lookup x=some .local:=by first | exact .inl rfl | exact .inr rfl | assumption):SV X (.Assign [.Name x pos'] (.List es p) pos) (wz i fs):=
 PS.imp (qh hN hi hx (yI ha) hs hf) fun D σ H h=>by
  obtain ⟨H₀,Z₀,Z,δ,r,hh,e,k⟩:=h
  obtain ⟨ds,e1,e⟩:=bind_some e
  by_cases hl:ds.length<=sizeLine
  ·rw [if_pos hl] at e
   cases e
   exact ⟨H₀,Z₀,Z,δ,ds,hh,e1,fun vs Z1 H1 hh1 t1 r1=>⟨by rw [r1.length]; exact hl,fun p hp=>k _ _ Z1 (hh1.setO hp r1) t1⟩⟩
  ·rw [if_neg hl] at e; cases e
theorem ng {K:Fg} {H₀ Z₀ Z:Hp} {δ:Dv} {σ:St} {H:Hp} (hh:Hold K H₀ Z₀ Z δ σ H) {i:Nat} {ds:List D} (h:Bg δ[i]? = some ds):∃ a xs,σ[i]? = some (some (V.ref a))/\H a=some (.lst xs)/\Reps K Z xs ds:=by
 obtain ⟨a,xs,h1,_,_,h4,h5⟩:=hh.ow i ds (tY h)
 exact ⟨a,xs,h1,h4,h5⟩
theorem iF (i:Nat) {x:Str} (hb:EV X b f) (hs:mJ b) (hN:X.N[i]? = some x:=by rfl) (hv:Dc X.env.scope x:=by first | exact Or.inl rfl | exact Or.inr (Or.inl rfl) | exact Or.inr (Or.inr rfl)) (hd:(x==("__debug__":Str))=false:=by decide) (hcd:(x==("__classdict__":Str))=false:=by decide) :
  EV X (.Subscript (.Name x p) b pos) (lY i f):=
 PE.imp (yJ ix_list (jR hN hv hd hcd) hb hs) fun σ H Q h=>by
  obtain ⟨H₀,Z₀,Z,δ,d,hh,e,k⟩:=h
  obtain ⟨ds,e1,e⟩:=bind_some e
  obtain ⟨y,e2,e⟩:=bind_some e
  obtain ⟨a,xs,h1,h4,h5⟩:=ng hh e1
  refine ⟨_,h1,H₀,Z₀,Z,δ,y,hh,e2,fun v Z1 H1 hh1 t1 r1=>?_⟩
  obtain ⟨a',xs',g1,g4,g5⟩:=ng hh1 e1
  rw [h1] at g1
  cases g1
  cases r1 with
  | int j=>
   obtain ⟨w,ew,rw'⟩:=g5.at e
   exact ⟨_,_,_,w,rfl,rfl,SqL.of g4,ew,k w Z1 H1 hh1 t1 rw'⟩
  | _=>cases e
theorem CL (i:Nat) {x:Str} {p2:Pos} (hg:Gl X "len") (hm:X.mg "len" = none) (hN:X.N[i]? = some x:=by rfl) (hv:Dc X.env.scope x:=by first | exact Or.inl rfl | exact Or.inr (Or.inl rfl) | exact Or.inr (Or.inr rfl)) (hd:(x==("__debug__":Str))=false:=by decide) (hcd:(x==("__classdict__":Str))=false:=by decide)
  (he:starEach [.Name x p2] X.env=(false,eval (.Name x p2) X.env)::starEach [] X.env:=by rfl) (hpl:(backTo pos (starEach [] X.env)).any (·.1)=false:=by rfl):EV X (.Call (.Name "len" p) [.Name x p2] [] pos) (yX i):=
 PE.imp (m9 sV hg hm PySem.boot_len (jt (jR hN hv hd hcd) qj he) (by decide) (by decide) he hpl) fun σ H Q h=>by
  obtain ⟨H₀,Z₀,Z,δ,d,hh,e,k⟩:=h
  obtain ⟨ds,e1,e⟩:=bind_some e
  cases e
  obtain ⟨a,xs,h1,h4,h5⟩:=ng hh e1
  exact ⟨_,h1,_,_,rfl,.inl ⟨xs,SqL.of h4,rfl⟩,k _ Z H hh (Same.refl _) (by rw [h5.length]; exact .int _)⟩
theorem jN (i:Nat) {x:Str} (hb:EV X b fk) (hv':EV X e fv) (hN:X.N[i]? = some x:=by rfl) (hv:Dc X.env.scope x:=by first | exact Or.inl rfl | exact Or.inr (Or.inl rfl) | exact Or.inr (Or.inr rfl)) (hd:(x==("__debug__":Str))=false:=by decide) (hcd:(x==("__classdict__":Str))=false:=by decide)
  (hs:swapsWithSole [.Subscript (.Name x p) b tpos] e pos.line X.env=pure false:=by rfl) (hw:swappedStores [.Subscript (.Name x p) b tpos] e X.env=pure none:=by rfl)
  (ha:∀ v,assign (.Subscript (.Name x p) b tpos) X.env v=(do
   let ov <- holding [v] (eval (.Name x p) X.env)
   let iv <- holding [v,ov] (eval b X.env)
   standAt tpos
   holding [v,ov,iv] (setItem ov iv v)
   release [v,ov,iv] []):=by intro _; rfl):SV X (.Assign [.Subscript (.Name x p) b tpos] e pos) (qe i fk fv):=
 PS.imp (yB hv' (yG (jR hN hv hd hcd) hb rZ ha) hs hw) fun D σ H h=>by
  obtain ⟨H₀,Z₀,Z,δ,r,hh,e,k⟩:=h
  obtain ⟨v,e1,e⟩:=bind_some e
  obtain ⟨y,e2,e⟩:=bind_some e
  obtain ⟨ds,e3,e⟩:=bind_some e
  obtain ⟨ds',e4,e⟩:=bind_some e
  cases e
  refine ⟨H₀,Z₀,Z,δ,v,hh,e1,fun w Z1 H1 hh1 t1 r1=>?_⟩
  obtain ⟨a,xs,h1,h4,h5⟩:=ng hh1 e3
  refine ⟨_,h1,H₀,Z₀,Z1,δ,y,hh1,e2,fun u Z2 H2 hh2 t2 r2=>?_⟩
  obtain ⟨a',xs',g1,g4,g5⟩:=ng hh2 e3
  rw [h1] at g1
  cases g1
  cases r2 with
  | int j=>
   rw [dc] at e4
   cases q:tJ ds.length j with
   | none=>rw [q] at e4; cases e4
   | some n=>
    rw [q] at e4
    cases e4
    refine ⟨a,xs',j,n,rfl,rfl,g4,by rw [g5.length]; exact q,?_⟩
    exact k σ _ Z2 (hh2.chg (xs:=xs') (tY e3) h1 (g5.set (r1.same t2) n)) (t1.trans t2)
  | _=>cases e4
theorem mQ (i:Nat) {x:Str} {cpos:Pos} (hv':EV X e f) (hN:X.N[i]? = some x:=by rfl) (hv:Dc X.env.scope x:=by first | exact Or.inl rfl | exact Or.inr (Or.inl rfl) | exact Or.inr (Or.inr rfl)) (hd:(x==("__debug__":Str))=false:=by decide) (hcd:(x==("__classdict__":Str))=false:=by decide)
  (hbase:attributeBase (.Name x p) "append" X.env (eval (.Name x p) X.env)=eval (.Name x p) X.env:=by rfl)
  (hfew:((backTo cpos (starEach [e] X.env)).all (fun x=>!x.1)&&(backToKw cpos (keywordEach [] X.env)).all (fun x=>x.1.isSome)
   && decide ([e].length+([]:List Keyword).length+(if ([]:List Keyword).isEmpty then 0 else 1)<30))=true:=by rfl)
  (hline:(apos.endLine==cpos.line)=true:=by rfl) (hs:starEach [e] X.env=(false,eval e X.env)::starEach [] X.env:=by rfl) (hplain:(backTo cpos (starEach [] X.env)).any (·.1)=false:=by rfl)
  (hsw:swapsWith (.Call (.Attribute (.Name x p) "append" apos) [e] [] cpos) none pos.line X.env=pure false:=by rfl):SV X (.Expr (.Call (.Attribute (.Name x p) "append" apos) [e] [] cpos) pos) (r9 i f):=
 PS.imp (vm (HL PySem.F.plainAttrs_list PySem.F.slot_list_append PySem.F.type_list_append wQ (jR hN hv hd hcd) (jt hv' qj hs) hbase hfew hline hs hplain) hsw) fun D σ H h=>by
  obtain ⟨H₀,Z₀,Z,δ,r,hh,e,k⟩:=h
  obtain ⟨v,e1,e⟩:=bind_some e
  obtain ⟨ds,e2,e⟩:=bind_some e
  by_cases hl:ds.length<sizeLine
  ·rw [if_pos hl] at e
   cases e
   obtain ⟨a,xs,h1,h4,h5⟩:=ng hh e2
   refine ⟨_,h1,.inl ⟨rfl,xs,SqL.of h4⟩,H₀,Z₀,Z,δ,v,hh,e1,fun w Z1 H1 hh1 t1 r1=>?_⟩
   obtain ⟨a',xs',g1,g4,g5⟩:=ng hh1 e2
   rw [h1] at g1
   cases g1
   exact ⟨a,xs',w,rfl,rfl,g4,by rw [g5.length]; exact hl,k σ _ Z1 (hh1.chg (xs:=xs') (tY e2) h1 (g5.append (.cons r1 .nil))) t1⟩
  ·rw [if_neg hl] at e; cases e
end
end VL
set_option Elab.async false
set_option linter.all false
set_option maxRecDepth 100000
set_option maxHeartbeats 4000000
namespace VL
open PySem PySem.Spec PyProof.Rows L2
section
noncomputable def tU (wi:TI) (g:TG) (tt:TT) (te:TE) (vars:List Str) (caps:List (Nat×Str)):TE:=fun σ H Q=>wi σ H fun J H1=>∃ W:Nat->Nat->List V->Hp->Prop,(∃ m,W 0 m [] H1)/\∀ i m ys H,W i m ys H ->
 (J.stop i H/\ys.length<=sizeLine/\∀ p,H p=none->Q (.ref p) (upd H p (.lst ys))) \/
 (J.go i H/\ys.length<sizeLine/\∀ x H',J.yld i H x H'->g x (vars.map (fun _=>none)++g6 σ caps) H' fun σ2 H2=>v9 (vars.map (fun _=>none)++g6 σ caps) σ2/\tt σ2 H2 fun b H3=>if b=true then te σ2 H3 fun y H4=>∃ m',m'<m/\W (i+1) m' (ys++[y]) H4 else ∃ m',m'<m/\W (i+1) m' ys H3)
theorem kS {prog:Program} {w:World} {A:Around} {R:Result->Shared->Prop} {s:Shared} {elt target iter cnd:Expr} {scope:Scope} {pos:Pos} {it acc:Value} {env:Env} (I:Nat->Shared->Prop)
  (turn:∀ n s,I n s->wpAny (model prog w) A (pyNext it) (fun r s₁=>match r with
   | none=>R (.ok .next) s₁
   | some v=>wpAny (model prog w) A (letOwnedTupleGo target it v) (fun _ s₁=>wpAny (model prog w) A (assign target env v) (fun _ s₂=>wpAny (model prog w) A (isTrue cnd env (eval cnd env)) (fun ok s₂=>if ok=true then wpAny (model prog w) A (eval elt env) (fun x s₃=>
     wpAny (model prog w) A (call (.builtin "list.append") [acc,x]) (fun _ s₄=>∃ m,m<n/\I m s₄) (fun _ _=>False) s₃) (fun _ _=>False) s₂ else ∃ m,m<n/\I m s₂) (fun _ _=>False) s₂) (fun _ _=>False) s₁) (fun _ _=>False) s₁) (fun _ _=>False) s)
  (n:Nat) (h:I n s):codeAny (model prog w) A (.compLoop (.ListComp elt [⟨target,iter,[cnd],0⟩] scope pos) 0 it acc env) R s:=by
 refine codeAny_loop rfl I (fun n s hI=>?_) n h
 show wpAny _ _ ((compTurn (.ListComp elt [⟨target,iter,[cnd],0⟩] scope pos) 0 it acc env).onRaise (fun x=>do noteFrame x env; theTreesLotGoes x)) _ _ s
 refine wpAny_noted ?_
 rw [compTurn_list]
 refine wpAny_bind (wpAny_standAt (wpAny_bind (wpAny_mono (turn n s hI) (fun r s₁ h₁=>?_) fun _ _ h'=>h'.elim)))
 cases r with
 | none=>exact wpAny_pure h₁
 | some v=>
  refine wpAny_bind (wpAny_mono h₁ (fun _ s₁ h₁=>?_) fun _ _ h'=>h'.elim)
  refine wpAny_bind (wpAny_mono h₁ (fun _ s₂ h₂=>?_) fun _ _ h'=>h'.elim)
  refine wpAny_bind (wpAny_tests_one (wpAny_mono h₂ (fun okb s₃ h₃=>?_) fun _ _ h'=>h'.elim))
  cases okb with
  | false=>exact wpAny_pure ⟨rfl,h₃⟩
  | true=>exact wpAny_bind (wpAny_bind (wpAny_mono h₃ (fun x s₄ h₄=>wpAny_bind (wpAny_mono h₄ (fun _ s₅ h₅=>wpAny_pure (wpAny_pure ⟨rfl,h₅⟩)) fun _ _ h'=>h'.elim)) fun _ _ h'=>h'.elim))
end
section
variable {X:Cx} {scope:Scope} {vars:List Str} {caps:List (Nat×Str)} {elt tg iter cnd:Expr} {pos:Pos} {wi:TI} {g:TG} {tt:TT} {te:TE}
theorem lH {Cm:Cx->Prop} (B:BlkOk X.env.scope.names X.N scope vars caps)
  (hg:∀ C s₀ H₀ ex,PG (blk X scope (vars++caps.map (·.2)) C s₀ H₀ ex) tg g) (hb:∀ C s₀ H₀ ex,PT (blk X scope (vars++caps.map (·.2)) C s₀ H₀ ex) cnd tt) (he:∀ C s₀ H₀ ex,PE (blk X scope (vars++caps.map (·.2)) C s₀ H₀ ex) elt te)
  {pins:List (Addr×Obj)} {σ:St} {H2:Hp} {s2:Shared} {Q:VK} {it:Addr} {fp:List Addr} {tn:Nat->Heap->Prop} {J:It} (I2:Inv X pins σ H2 s2) (T:TurnG Cm X.prog X.w X.K tg J fp it tn) (st2:tn 0 s2.heap) (f2:∀ b∈fp,jC X pins H2 b) (hc:∀ C,Cm (blk X scope (vars++caps.map (·.2)) C s2 H2 fp))
  {W:Nat->Nat->List V->Hp->Prop} {m0:Nat} (w0:W 0 m0 [] H2) (turn:∀ i m ys H,W i m ys H ->
   (J.stop i H/\ys.length<=sizeLine/\∀ p,H p=none->Q (.ref p) (upd H p (.lst ys))) \/
   (J.go i H/\ys.length<sizeLine/\∀ x H',J.yld i H x H'->g x (vars.map (fun _=>none)++g6 σ caps) H' fun σ2 H2=>v9 (vars.map (fun _=>none)++g6 σ caps) σ2/\tt σ2 H2 fun b H3=>if b=true then te σ2 H3 fun y H4=>∃ m',m'<m/\W (i+1) m' (ys++[y]) H4 else ∃ m',m'<m/\W (i+1) m' ys H3))
  {RR:Value->Addr->Result->Shared->Prop} {E:Value->Shared->Prop}
  (hRR:∀ D C s' m,s'.heap.Ns C m->D≠C->s2.heap.objs.size<=D->s2.heap.objs.size<=C->∀ H',H' C=none->(∀ h',Heap.SameBut C s'.heap h'->Inv X pins σ H' { s' with heap:=h' })->Q (.ref D) H'->RR (.ref D) C (.ok .next) s') :
  wpAny (model X.prog X.w) X.A (newList []) (fun acc s₃=>wpAny (model X.prog X.w) X.A (newFunctionEnv scope X.env.globals (jW X.env scope.names []) [] X.env.qual none .none (some X.env)) (fun cenv s₄=>
   codeAny (model X.prog X.w) X.A (.compStart (.ListComp elt [⟨tg,iter,[cnd],0⟩] scope pos) 0 (.ref it) acc { cenv with scope:=relabel scope X.env }) (RR acc cenv.locals) s₄) E s₃) E s2:=by
 refine wpAny_newObj_type (wpAny_newFunctionEnv B.cell (by intro y hy; simp at hy) (fun h₁ hns₁ hsb₁=>?_) B.kind)
 dsimp only at hns₁ hsb₁ ⊢
 generalize hP:s2.heap.push { cls:=.type "list",dict:=none,data:=.seq ([]:List Value).toArray }=HP at hns₁ hsb₁ ⊢
 have hCs:HP.objs.size=s2.heap.objs.size+1:=by rw [<- hP,Heap.size_push]
 have hDC:s2.heap.objs.size≠HP.objs.size:=by rw [hCs]; exact Nat.ne_of_lt (Nat.lt_succ_self _)
 have hCle:s2.heap.objs.size<=HP.objs.size:=by rw [hCs]; exact Nat.le_succ _
 have old:∀ b o,s2.heap.get? b=some o->h₁.get? b=some o:=fun b o e=>hsb₁.extBut b o (Nat.ne_of_lt (Nat.lt_of_lt_of_le (Heap.lt_size e) hCle)) (Heap.get?_push_of_some _ (hP ▸ Heap.get?_push_of_some _ e))
 have hacc:h₁.PlainList s2.heap.objs.size #[]:=⟨_,hsb₁.extBut _ _ hDC (Heap.get?_push_of_some _ (hP ▸ Heap.get?_push_size _ rfl))⟩
 have flt:∀ b∈fp,b<s2.heap.objs.size:=fun b hb=>by
  obtain ⟨o,e,_⟩:=T.obj _ _ st2 b hb
  exact Heap.lt_size e
 have st1:tn 0 h₁:=T.keep _ _ _ st2 fun b _ o e=>old b o e
 have loop:∀ s3:Shared,s3={ s2 with heap:=h₁,toks:=s2.toks+([]:List (Str×Value)).length } ->
   codeAny (model X.prog X.w) X.A (.compLoop (.ListComp elt [⟨tg,iter,[cnd],0⟩] scope pos) 0 (.ref it) (.ref s2.heap.objs.size) (compEnvC scope (jW X.env scope.names []) HP.objs.size X.env))
    (RR (.ref s2.heap.objs.size) HP.objs.size) s3:=by
  rintro s3 rfl
  have X':=blk X scope (vars++caps.map (·.2)) HP.objs.size s2 H2 fp
  have fpo:∀ {H':Hp},(∀ b∈fp,H' b=none)->∀ b∈fp,jC (blk X scope (vars++caps.map (·.2)) HP.objs.size s2 H2 fp) [] H' b:=fun hn b hb=>by
   have ok:=uL B I2 f2 flt hCle
   exact ⟨hn b hb,(ok.exf b hb).1,ok.exfs b hb,.inl hb,(ok.exf b hb).2,fun p hp=>absurd (show p∈([]:List (Addr×Obj)) from hp) (by simp)⟩
  refine kS (fun n s=>∃ i ys H its,Inv (blk X scope (vars++caps.map (·.2)) HP.objs.size s2 H2 fp) [] (vars.map (fun _=>none)++g6 σ caps) H s/\tn i s.heap/\(∀ b∈fp,H b=none)/\s.heap.PlainList s2.heap.objs.size (List.toArray its)/\H s2.heap.objs.size=none/\Vals ys its/\W i n ys H) ?_ m0
   ⟨0,[],H2,[],vV B I2 f2 flt hCle hns₁ old,st1,fun b hb=>(f2 b hb).1,hacc,I2.hok.fresh (Nat.le_refl _),.nil,w0⟩
  rintro n s4 ⟨i,ys,H4,its,I4,st4,fr4,pl4,nD4,v4,w4⟩
  obtain ⟨nn,eD⟩:=id pl4
  have DnL:s2.heap.objs.size≠(blk X scope (vars++caps.map (·.2)) HP.objs.size s2 H2 fp).env.locals:=hDC
  have Dfs:s2.heap.objs.size ∉ (blk X scope (vars++caps.map (·.2)) HP.objs.size s2 H2 fp).fs:=fun z=>by
   rcases List.mem_cons.mp (I2.stkSub _ z) with q | q
   ·have:=I2.lt; rw [<- q] at this; exact Nat.lt_irrefl _ this
   ·exact I2.nofs (Nat.le_refl _) q
  have Dfp:∀ b∈fp,s2.heap.objs.size≠b:=fun b hb z=>by have:=flt b hb; rw [<- z] at this; exact Nat.lt_irrefl _ this
  have DnC:∀ x c,(blk X scope (vars++caps.map (·.2)) HP.objs.size s2 H2 fp).env.cells.lookup x=some c->c≠s2.heap.objs.size:=fun x c e z=>by
   rcases cm _ _ _ _ (B.cells I2) e with q | q
   ·cases q
   ·obtain ⟨v,o,ho,_⟩:=I2.cell x c q
    have:=Heap.lt_size ho
    rw [z] at this
    exact Nat.lt_irrefl _ this
  have pinD:∀ {σ':St} {H':Hp} {s':Shared},Inv (blk X scope (vars++caps.map (·.2)) HP.objs.size s2 H2 fp) [(s2.heap.objs.size,{ cls:=.type "list",data:=.seq its.toArray nn })] σ' H' s'->s'.heap.PlainList s2.heap.objs.size its.toArray/\H' s2.heap.objs.size=none:=fun {σ' H' s'} I'=>by
   obtain ⟨q1,q2,_⟩:=I'.pin (s2.heap.objs.size,{ cls:=.type "list",data:=.seq its.toArray nn }) (by simp [blk])
   exact ⟨⟨nn,q1⟩,q2⟩
  have I4p:Inv (blk X scope (vars++caps.map (·.2)) HP.objs.size s2 H2 fp) [(s2.heap.objs.size,{ cls:=.type "list",data:=.seq its.toArray nn })] (vars.map (fun _=>none)++g6 σ caps) H4 s4:=
   I4.pins_of fun p hp=>by
    have e:p=(s2.heap.objs.size,{ cls:=.type "list",data:=.seq its.toArray nn }):=by simpa [blk] using hp
    subst e
    exact ⟨eD,nD4,DnL,Dfs,fun v z=>by cases z⟩
  have fpo':∀ {H':Hp},(∀ b∈fp,H' b=none)->∀ b∈fp,jC (blk X scope (vars++caps.map (·.2)) HP.objs.size s2 H2 fp) [(s2.heap.objs.size,{ cls:=.type "list",data:=.seq its.toArray nn })] H' b:=fun hn b hb=>by
   obtain ⟨q1,q2,q3,q4,q5,_⟩:=fpo hn b hb
   exact ⟨q1,q2,q3,q4,q5,fun p hp=>by
    have e:p=(s2.heap.objs.size,{ cls:=.type "list",data:=.seq its.toArray nn }):=by simpa [blk] using hp
    subst e
    exact Dfp b hb⟩
  have unp:∀ {pl:List (Addr×Obj)} {σ':St} {H':Hp} {s':Shared},Inv (blk X scope (vars++caps.map (·.2)) HP.objs.size s2 H2 fp) pl σ' H' s'->Inv (blk X scope (vars++caps.map (·.2)) HP.objs.size s2 H2 fp) [] σ' H' s':=fun {pl σ' H' s'} I'=>
   I'.pins_of fun p hp=>absurd (show p∈([]:List (Addr×Obj)) from hp) (by simp)
  rcases turn i n ys H4 w4 with ⟨stop,hz,qn⟩ | ⟨go,hz,step⟩
  ·refine dl (T.done (blk X scope (vars++caps.map (·.2)) HP.objs.size s2 H2 fp) rfl rfl rfl (hc _) i _ s4 _ H4 _ I4p (fpo' fr4) st4 stop) fun r s5 ⟨hr,I5⟩=>?_
   subst hr
   obtain ⟨p5,n5⟩:=pinD I5
   obtain ⟨m5,ns5,_⟩:=I5.loc
   refine hRR _ _ s5 m5 ns5 hDC (Nat.le_refl _) hCle _ ?_ (fun h' hs'=>vU I2 f2 hCle (Nat.le_refl _) hDC (unp I5) n5 p5 v4 hz hs') (qn _ n5)
   rw [aH hDC.symm]
   exact I5.free
  ·refine dl (T.item (blk X scope (vars++caps.map (·.2)) HP.objs.size s2 H2 fp) rfl rfl rfl (hc _) i _ s4 _ H4 _ I4p (fpo' fr4) st4 go) fun r s5 ⟨u,hr,h5⟩=>?_
   subst hr
   refine dl h5 fun _ s6 ⟨x,H6,I6,rx,yx,st6,fr6⟩=>?_
   have I6p:=I6.pinned (fpo' fr6) (T.obj _ _ st6)
   refine dl (hg _ _ _ _ _ s6 _ H6 x u _ I6p rx (step x H6 yx)) fun _ s7 ⟨σ7,H7,I7,kp,q7⟩=>?_
   refine dl (hb _ _ _ _ _ s7 σ7 H7 _ I7 q7) fun okb s7' q7'=>?_
   obtain ⟨H7',I7',q7'⟩:=q7'
   cases okb with
   | false=>
    obtain ⟨m',hm,w8⟩:=q7'
    rw [if_neg (by decide)]
    obtain ⟨p8,n8⟩:=pinD I7'.unpinned
    have st8:tn (i+1) s7'.heap:=T.keep _ _ _ st6 fun b hb o e=>(I7'.pin (b,o) (List.mem_append_right _ (List.mem_append_right _ (dB hb e)))).1
    have fr8:∀ b∈fp,H7' b=none:=fun b hb=>by
     obtain ⟨o,e,d⟩:=T.obj _ _ st6 b hb
     exact (I7'.pin (b,o) (List.mem_append_right _ (List.mem_append_right _ (dB hb e)))).2.1
    exact ⟨m',hm,i+1,ys,H7',its,(unp I7').weak kp.1 kp.2,st8,fr8,p8,n8,v4,w8⟩
   | true=>
   rw [if_pos rfl]
   rw [if_pos rfl] at q7'
   refine dl (he _ _ _ _ _ s7' σ7 H7' _ I7' q7') fun v s8 ⟨y,H8,I8,ry,m',hm,w8⟩=>?_
   obtain ⟨p8,n8⟩:=pinD I8.unpinned
   have st8:tn (i+1) s8.heap:=T.keep _ _ _ st6 fun b hb o e=>(I8.pin (b,o) (List.mem_append_right _ (List.mem_append_right _ (dB hb e)))).1
   have fr8:∀ b∈fp,H8 b=none:=fun b hb=>by
    obtain ⟨o,e,d⟩:=T.obj _ _ st6 b hb
    exact (I8.pin (b,o) (List.mem_append_right _ (List.mem_append_right _ (dB hb e)))).2.1
   have hl:=v4.length
   refine wpAny_list_append_plain p8 (fun h9 p9 sb9=>⟨m',hm,i+1,ys++[y],H8,its++[v],?_,?_,fr8,by simpa using p9,n8,v4.append (.cons ry .nil),w8⟩) (by simp; omega)
   ·have I9:Inv (blk X scope (vars++caps.map (·.2)) HP.objs.size s2 H2 fp) [] σ7 H8 { s8 with heap:=h9,toks:=s8.toks }:=
     (unp I8).turned (it:=s2.heap.objs.size) (fun b o hb e=>sb9.extBut b o hb e) n8 DnL (.inr (Nat.le_refl _)) DnC fun p hp=>absurd (show p∈([]:List (Addr×Obj)) from hp) (by simp)
    exact I9.weak kp.1 kp.2
   ·exact T.keep _ _ _ st8 fun b hb o e=>sb9.extBut b o (Dfp b hb).symm e
 exact codeAny_compStart_list (loop _ rfl) (T.self _ 0 _ _ _ st1 (loop _ rfl))
theorem yM (B:BlkOk X.env.scope.names X.N scope vars caps) (hc:X.calm=true) (hi:PI X tg iter wi)
  (hg:∀ C s₀ H₀ ex,PG (blk X scope (vars++caps.map (·.2)) C s₀ H₀ ex) tg g) (hb:∀ C s₀ H₀ ex,PT (blk X scope (vars++caps.map (·.2)) C s₀ H₀ ex) cnd tt) (he:∀ C s₀ H₀ ex,PE (blk X scope (vars++caps.map (·.2)) C s₀ H₀ ex) elt te) (hs:∀ x,foldedSetIterable iter X.env x=pure x:=by intro _; rfl) :
  PE X (.ListComp elt [⟨tg,iter,[cnd],0⟩] scope pos) (tU wi g tt te vars caps):=by
 intro pins s σ H Q I h
 rw [eval_ListComp]
 refine wpAny_comprehension_free (use:=none) rfl hs (fK (B.cells I)) B.kind B.names ?_
 show wpAny _ _ (eval iter X.env) _ _ s
 refine dl (hi pins s σ H _ I h) fun v s1 h1=>dl h1 fun itv s2 h2=>?_
 obtain ⟨it,fp,tn,J,H2,e,I2,T,st2,f2,W,⟨m0,w0⟩,turn⟩:=h2
 subst e
 exact lH (Cm:=fun X=>X.calm=true) B hg hb he I2 T st2 f2 (fun _=>hc) w0 turn (RR:=fun acc C=>compPost (model X.prog X.w) X.A X.xe none (EP X pins σ Q) acc C) fun D C s' m ns _ _ _ H' _ k q=>⟨m,ns,fun h' hs'=>⟨.ref D,H',k h' hs',rfl,q⟩⟩
theorem yA {i:Nat} {y:Str} {py spos:Pos} (B:BlkOk X.env.scope.names X.N scope vars caps) (hc:X.calm=true) (hi:PI X tg iter wi)
  (hg:∀ C s₀ H₀ ex,PG (blk X scope (vars++caps.map (·.2)) C s₀ H₀ ex) tg g) (hb:∀ C s₀ H₀ ex,PT (blk X scope (vars++caps.map (·.2)) C s₀ H₀ ex) cnd tt) (he:∀ C s₀ H₀ ex,PE (blk X scope (vars++caps.map (·.2)) C s₀ H₀ ex) elt te)
  (hN:X.N.Nodup) (hy:X.N[i]? = some y) (hx:xA X.env.scope y) (hsw:swapsWith (.ListComp elt [⟨tg,iter,[cnd],0⟩] scope pos) (some (.Name y py)) spos.line X.env=pure true)
  (hf:X.fn y=true\/X.env.scope.names.lookup y=some .local) (hs:∀ x,foldedSetIterable iter X.env x=pure x:=by intro _; rfl) :
  PS X (.Assign [.Name y py] (.ListComp elt [⟨tg,iter,[cnd],0⟩] scope pos) spos) (fun D σ H=>tU wi g tt te vars caps σ H fun v H1=>D.nx (σ.set i (some v)) H1):=by
 intro pins s σ H DE I h
 rw [exec_Assign_Name_used _ _ _ _ hsw]
 refine wpAny_bind (wpAny_standAt (wpAny_bind ?_))
 show wpAny _ X.A (do let _ <- comprehension (.ListComp elt [⟨tg,iter,[cnd],0⟩] scope pos) scope X.env _ (newList []) false (eval iter X.env) (some (assign (.Name y py) X.env))) _ _ s
 refine wpAny_bind (wpAny_mono (wpAny_comprehension_free (use:=some (assign (.Name y py) X.env)) (Q:=fun _ s'=>SP X pins DE .next s') rfl hs (fK (B.cells I)) B.kind B.names
  (dl (hi pins s σ H _ I h) fun v s1 h1=>dl h1 fun itv s2 h2=>?_)) (fun _ s' hq=>wpAny_pure (wpAny_pure hq)) fun _ _ e=>e)
 obtain ⟨it,fp,tn,J,H2,e,I2,T,st2,f2,W,⟨m0,w0⟩,turn⟩:=h2
 subst e
 refine lH (Cm:=fun X=>X.calm=true) (Q:=fun v H1=>DE.nx (σ.set i (some v)) H1) B hg hb he I2 T st2 f2 (fun _=>hc) w0 turn (RR:=fun acc C=>compPost (model X.prog X.w) X.A X.xe (some (assign (.Name y py) X.env)) (fun _ s'=>SP X pins DE .next s') acc C) ?_
 intro D C s' m ns hDC hD hC H' hHC k q
 obtain ⟨oC,es,ep,eC,dC,rC⟩:=ns
 have I':Inv X pins σ H' s':=k s'.heap (Heap.SameBut.refl ..)
 have nL:C≠X.env.locals:=fun z=>by have:=I2.lt; rw [<- z] at this; exact absurd (Nat.lt_of_lt_of_le this hC) (Nat.lt_irrefl _)
 have nF:C ∉ X.fs:=I2.nofs hC
 have nCell:∀ x c,X.env.cells.lookup x=some c->c≠C:=fun x c e z=>by
  obtain ⟨v,o,ho,_⟩:=I2.cell x c e
  have:=Heap.lt_size ho
  rw [z] at this
  exact absurd (Nat.lt_of_lt_of_le this hC) (Nat.lt_irrefl _)
 have nPin:∀ p∈X.pn++pins,p.1≠C:=fun p hp z=>by
  have:=Heap.lt_size (I2.pin p hp).1
  rw [z] at this
  exact absurd (Nat.lt_of_lt_of_le this hC) (Nat.lt_irrefl _)
 have Ip:Inv X (pins++[(C,oC)]) σ H' s':=I'.pins_of fun p hp=>by
  rcases List.mem_append.mp hp with z | z
  ·exact I'.pin p (List.mem_append_right _ z)
  ·have e:p=(C,oC):=by simpa using z
   subst e
   exact ⟨eC,hHC,nL,nF,fun v z=>by rw [dC] at z; cases z⟩
 refine dl (bZ (pos:=py) hN hy hx hf _ s' σ H' (.ref D) (.ref D) (fun σ' H''=>σ' = σ.set i (some (.ref D))/\H''=H'/\DE.nx σ' H'') Ip rfl ⟨rfl,rfl,q⟩) fun _ s'' ⟨σ'',H'',I'',e1,e2,q''⟩=>?_
 subst e1 e2
 have eC'':s''.heap.get? C=some oC:=(I''.pin (C,oC) (List.mem_append_right _ (List.mem_append_right _ (by simp)))).1
 refine ⟨m,⟨oC,es,ep,eC'',dC,rC⟩,fun h' hs'=>⟨_,H'',?_,q''⟩⟩
 exact I''.unpinned.turned (t':=s''.toks) (it:=C) (fun b o hb e=>hs'.extBut b o hb e) hHC nL (.inr (Nat.le_trans I2.sz hC)) nCell nPin
end
noncomputable def iE (t:D->Option Bool) (f:D->Option D):List D->Option (List D)
 | []=>some []
 | d::ds=>(t d).bind fun b=>if b=true then (f d).bind fun e=>(iE t f ds).bind fun es=>some (e::es) else iE t f ds
@[simp] theorem Jc {t:D->Option Bool} {f:D->Option D}:iE t f []=some []:=rfl
noncomputable def iy (fi:Dv->Option (List D)) (caps:List (Nat×Str)) (bv:D->Option (List D)) (ft:Dv->Option Bool) (fe:Dv->Option D):Dv->Option D:=fun δ=>(fi δ).bind fun ds=>if ds.length<=sizeLine then (iE (fun d=>(bv d).bind fun vs=>ft (vs.map .fz++eL δ caps)) (fun d=>(bv d).bind fun vs=>fe (vs.map .fz++eL δ caps)) ds).bind fun es=>some (.list es) else none
theorem kQ {t:D->Option Bool} {f:D->Option D}:∀ {ds es:List D} {i:Nat} {d:D},iE t f ds=some es->ds[i]? = some d->∃ xs,iE t f (ds.take i)=some xs/\∃ b,t d=some b/\(b=false->iE t f (ds.take (i+1))=some xs)/\(b=true->∃ e,f d=some e/\iE t f (ds.take (i+1))=some (xs++[e]))
 | [],es,i,d,h,q=>by simp at q
 | d::ds,es,i,d',h,q=>by
  obtain ⟨b,h1,h⟩:=bind_some h
  cases i with
  | zero=>
   simp at q; subst q
   refine ⟨[],rfl,b,h1,fun hb=>?_,fun hb=>?_⟩
   ·subst hb; simp [iE,h1]
   ·subst hb
    rw [if_pos rfl] at h
    obtain ⟨e,h2,h⟩:=bind_some h
    exact ⟨e,h2,by simp [iE,h1,h2]⟩
  | succ i=>
   simp at q
   cases b with
   | false=>
    rw [if_neg (by decide)] at h
    obtain ⟨xs,g1,b',g2,g3,g4⟩:=kQ (i:=i) h q
    refine ⟨xs,by simp [iE,h1,g1],b',g2,fun hb=>by simpa [iE,h1] using g3 hb,fun hb=>?_⟩
    obtain ⟨e,k1,k2⟩:=g4 hb
    exact ⟨e,k1,by simpa [iE,h1] using k2⟩
   | true=>
    rw [if_pos rfl] at h
    obtain ⟨e0,h2,h⟩:=bind_some h
    obtain ⟨es',h3,h⟩:=bind_some h
    obtain ⟨xs,g1,b',g2,g3,g4⟩:=kQ (i:=i) h3 q
    refine ⟨e0::xs,by simp [iE,h1,h2,g1],b',g2,fun hb=>by simp [iE,h1,h2,g3 hb],fun hb=>?_⟩
    obtain ⟨e,k1,k2⟩:=g4 hb
    exact ⟨e,k1,by simp [iE,h1,h2,k2]⟩
theorem qM {t:D->Option Bool} {f:D->Option D}:∀ {ds es:List D},iE t f ds=some es->es.length<=ds.length
 | [],es,h=>by cases h; exact Nat.le_refl _
 | d::ds,es,h=>by
  obtain ⟨b,h1,h⟩:=bind_some h
  cases b with
  | false=>rw [if_neg (by decide)] at h; exact Nat.le_succ_of_le (qM h)
  | true=>
   rw [if_pos rfl] at h
   obtain ⟨e0,h2,h⟩:=bind_some h
   obtain ⟨es',h3,h⟩:=bind_some h
   cases h
   exact Nat.succ_le_succ (qM h3)
section
variable {X:Cx} {scope:Scope} {vars:List Str} {caps:List (Nat×Str)} {elt tg iter cnd:Expr} {pos:Pos} {g:TG} {fi:Dv->Option (List D)} {ft:Dv->Option Bool} {fe:Dv->Option D} {bv:D->Option (List D)}
theorem nS (tk:uV X.K g vars.length bv) {σ:St} {H:Hp} {Q:VK} (h:tV X.K (iy fi caps bv ft fe) σ H Q):tU (Kb X.K fi) g (Gy X.K ft) (tV X.K fe) vars caps σ H Q:=by
 obtain ⟨H₀,Z₀,Z,δ,d,hh,e,k⟩:=h
 obtain ⟨ds,e1,e⟩:=bind_some e
 by_cases hz:ds.length<=sizeLine
 ·rw [if_pos hz] at e
  obtain ⟨es,e2,e⟩:=bind_some e
  cases e
  have hv:vars.map (fun _=>(none:Option V))=List.replicate vars.length none:=by rw [List.map_const']
  refine ⟨H₀,Z₀,Z,δ,ds,hh,e1,fun J Z1 H1 hh1 t1 ok=>?_⟩
  refine ⟨fun i m ys H=>m=ds.length-i/\i<=ds.length/\∃ Zc xs,Hold X.K H₀ Z₀ Zc δ σ H/\Same Z1 Zc/\iE (fun d=>(bv d).bind fun vs=>ft (vs.map .fz++eL δ caps)) (fun d=>(bv d).bind fun vs=>fe (vs.map .fz++eL δ caps)) (ds.take i)=some xs/\Reps X.K Zc ys xs,⟨ds.length,by simp,Nat.zero_le _,Z1,[],hh1,Same.refl _,rfl,.nil⟩,?_⟩
  rintro i m ys H2 ⟨rfl,hi2,Zc,xs,hhc,tc,fx,rc⟩
  have zh:Same Z1 H2:=tc.trans hhc.zh
  have ly:=rc.length
  have lx:=qM fx
  rw [List.length_take] at lx
  by_cases hlt:i<ds.length
  ·refine .inr ⟨ok.go i H2 zh hlt,by omega,fun x H3 y=>?_⟩
   have ed:ds[i]? = some ds[i]:=by simp [hlt]
   obtain ⟨rfl,rx⟩:=ok.yld i H2 x H3 _ zh ed y
   obtain ⟨xs',f0,b,fb,ff,ftr⟩:=kQ e2 ed
   rw [fx] at f0
   cases f0
   obtain ⟨vs,f3,f1⟩:=bind_some fb
   rw [hv]
   refine tk x Zc ds[i] vs (g6 σ caps) H3 _ (rx.same tc) hhc.zh f3 fun us ru hn=>⟨⟨by simp [hn],fun j v q=>?_⟩,?_⟩
   ·by_cases hj:j<vars.length
    ·rw [List.getElem?_append_left (by simpa using hj),List.getElem?_replicate] at q
     split at q <;> cases q
    ·rw [List.getElem?_append_right (by simpa using hj)] at q
     rw [List.getElem?_append_right (by simpa [hn] using hj)]
     simpa [hn] using q
   ·refine ⟨H3,Zc,Zc,_,b,sX hhc ru,f1,fun Z3 H3' h3 t3=>?_⟩
    have hh3:=hhc.new ⟨t3,h3.h0,h3.zh,h3.zb,h3.nf⟩
    cases b with
    | false=>
     dsimp only
     rw [if_neg (by decide)]
     exact ⟨ds.length-(i+1),by omega,rfl,hlt,Z3,xs,hh3,tc.trans t3,ff rfl,rc.same t3⟩
    | true=>
     dsimp only
     rw [if_pos rfl]
     obtain ⟨ei,f2,f4⟩:=ftr rfl
     rw [f3] at f2
     refine ⟨H3,Zc,Z3,_,ei,h3,f2,fun v Z4 H4 h4 t4 r4=>⟨ds.length-(i+1),by omega,rfl,hlt,Z4,xs++[ei],?_,(tc.trans t3).trans t4,f4,((rc.same t3).same t4).append (.cons r4 .nil)⟩⟩
     exact hhc.new ⟨t3.trans t4,h4.h0,h4.zh,h4.zb,h4.nf⟩
  ·have hie:i=ds.length:=by omega
   subst hie
   refine .inl ⟨ok.stop _ H2 zh (Nat.le_refl _),by omega,fun p hp=>?_⟩
   rw [List.take_length,e2] at fx
   cases fx
   have n:=New.add hhc.zh hp (.lst ys)
   exact k _ _ _ (hhc.new n) ((t1.trans tc).trans n.z) (.lst (SqL.of aQ) (rc.same n.z))
 ·rw [if_neg hz] at e; cases e
theorem nK (B:BlkOk X.env.scope.names X.N scope vars caps) (hc:X.calm=true) (hi:IV X tg iter fi) (tk:uV X.K g vars.length bv)
  (hg:∀ C s₀ H₀ ex,PG (blk X scope (vars++caps.map (·.2)) C s₀ H₀ ex) tg g) (hb:∀ C s₀ H₀ ex,TV (blk X scope (vars++caps.map (·.2)) C s₀ H₀ ex) cnd ft) (he:∀ C s₀ H₀ ex,EV (blk X scope (vars++caps.map (·.2)) C s₀ H₀ ex) elt fe) (hs:∀ x,foldedSetIterable iter X.env x=pure x:=by intro _; rfl) :
  EV X (.ListComp elt [⟨tg,iter,[cnd],0⟩] scope pos) (iy fi caps bv ft fe):=
 PE.imp (yM (tt:=Gy X.K ft) (te:=tV X.K fe) B hc hi hg hb he hs) fun _ _ _ h=>nS tk h
theorem x9 (i:Nat) {y:Str} {py spos:Pos} (hN:X.N.Nodup) (B:BlkOk X.env.scope.names X.N scope vars caps) (hc:X.calm=true) (hi:IV X tg iter fi) (tk:uV X.K g vars.length bv)
  (hg:∀ C s₀ H₀ ex,PG (blk X scope (vars++caps.map (·.2)) C s₀ H₀ ex) tg g) (hb:∀ C s₀ H₀ ex,TV (blk X scope (vars++caps.map (·.2)) C s₀ H₀ ex) cnd ft) (he:∀ C s₀ H₀ ex,EV (blk X scope (vars++caps.map (·.2)) C s₀ H₀ ex) elt fe)
  (hy:X.N[i]? = some y:=by rfl) (hx:xA X.env.scope y:=by first | exact Or.inl rfl | exact Or.inr rfl) (hsw:swapsWith (.ListComp elt [⟨tg,iter,[cnd],0⟩] scope pos) (some (.Name y py)) spos.line X.env=pure true:=by rfl)
  (hf:X.fn y=true\/X.env.scope.names.lookup y=some .local:=by first | exact .inl rfl | exact .inr rfl | assumption) (hs:∀ x,foldedSetIterable iter X.env x=pure x:=by intro _; rfl) :
  SV X (.Assign [.Name y py] (.ListComp elt [⟨tg,iter,[cnd],0⟩] scope pos) spos) (aD i (iy fi caps bv ft fe)):=
 PS.imp (yA (tt:=Gy X.K ft) (te:=tV X.K fe) B hc hi hg hb he hN hy hx hsw hf hs) fun D σ H h=>by
  obtain ⟨H₀,Z₀,Z,δ,r,hh,e,k⟩:=h
  obtain ⟨x,e1,e⟩:=bind_some e
  cases e
  exact nS tk ⟨H₀,Z₀,Z,δ,x,hh,e1,fun v Z1 H1 hh1 s1 r1=>k _ H1 Z1 (hh1.set r1) s1⟩
end
end VL
set_option Elab.async false
set_option linter.all false
set_option maxRecDepth 100000
set_option maxHeartbeats 4000000
namespace VL
open PySem PySem.Spec PyProof.Rows L2
noncomputable def GC (f1 f2 f3:Dv->Option D) (g g':D->D->Option D):Dv->Option D:=fun δ=>(f1 δ).bind fun a=>(f2 δ).bind fun b=>(g a b).bind fun r=>(asB r).bind fun k=>if k=true then (f3 δ).bind fun c=>g' b c else some (.bool false)
section
variable {X:Cx} {a b c:Expr} {pos:Pos} {f1 f2 f3:Dv->Option D}
theorem uK {K:Fg} {g g':D->D->Option D} {σ:St} {H:Hp} {Q:VK} (h:tV K (GC f1 f2 f3 g g') σ H Q):xU (rD K g) (rD K g') (tV K f1) (tV K f2) (tV K f3) σ H Q:=by
 obtain ⟨H₀,Z₀,Z,δ,d,hh,e,k⟩:=h
 obtain ⟨x,e1,ea⟩:=bind_some e
 obtain ⟨y,e2,eb⟩:=bind_some ea
 obtain ⟨r,e3,ec⟩:=bind_some eb
 obtain ⟨kk,e4,ed⟩:=bind_some ec
 clear e ea eb ec
 have er:=rn e4
 subst er
 refine ⟨H₀,Z₀,Z,δ,x,hh,e1,fun v1 Z1 H1 hh1 s1 r1=>⟨H₀,Z₀,Z1,δ,y,hh1,e2,fun v2 Z2 H2 hh2 s2 r2=>?_⟩⟩
 refine ⟨Z2,x,y,_,hh2.zh,r1.same s2,r2,e3,fun v3 Z3 H3 n r3=>⟨kk,r3.bl_eq,?_⟩⟩
 cases kk with
 | true=>
  rw [if_pos rfl] at ed ⊢
  obtain ⟨z,e5,e⟩:=bind_some ed
  refine ⟨H₀,Z₀,Z3,δ,z,hh2.new n,e5,fun v4 Z4 H4 hh4 s4 r4=>⟨Z4,y,z,d,hh4.zh,(r2.same n.z).same s4,r4,e,fun v5 Z5 H5 n5 r5=>?_⟩⟩
  exact k v5 Z5 H5 (hh4.new n5) ((((s1.trans s2).trans n.z).trans s4).trans n5.z) r5
 | false=>
  rw [if_neg (by decide)] at ed ⊢
  cases ed
  exact k _ Z3 H3 (hh2.new n) ((s1.trans s2).trans n.z) (.bl _)
theorem zU {op op':CmpOp} {g g':D->D->Option D} (ho:OpR X (compareOp op) (rD X.K g)) (ho':OpR X (compareOp op') (rD X.K g')) (ha:EV X a f1) (hb:EV X b f2) (hc:EV X c f3)
  (hm:lastMarks [op,op'] [b,c]=false:=by with_unfolding_all rfl):EV X (.Compare a [op,op'] [b,c] pos) (GC f1 f2 f3 g g'):=
 PE.imp (yN ho ho' ha hb hc hm) fun _ _ _ h=>uK h
end
noncomputable def AZ:D->Bool
 | .none=>true
 | .bool _=>true
 | .int _=>true
 | .str _=>true
 | _=>false
noncomputable def IT (x:D) (ds:List D):Bool:=ds.any fun y=>PyData.eqv y x
noncomputable def i6 (neg:Bool):D->D->Option D:=fun a b=>(eJ b).bind fun ds=>if AZ a=true/\ds.all AZ=true then some (.bool (if neg=true then !IT a ds else IT a ds)) else none
theorem Rep.flat {K:Fg} {Z:Hp} {v:V} {d:D} (r:Rep K Z v d):jD v=AZ d:=by cases r <;> rfl
theorem Rep.eqF {K:Fg} {Z:Hp} {v u:V} {d e:D} (r:Rep K Z v d) (q:Rep K Z u e) (h1:AZ d=true) (h2:AZ e=true):A0 v u=PyData.eqv d e:=by
 cases r <;> first | (cases q <;> first | rfl | cases h2) | cases h1
theorem Reps.allF {K:Fg} {Z:Hp}:∀ {vs:List V} {ds:List D},Reps K Z vs ds->vs.all jD=ds.all AZ
 | _,_,.nil=>rfl
 | _,_,.cons r t=>by rw [List.all_cons,List.all_cons,r.flat,t.allF]
theorem Reps.inF {K:Fg} {Z:Hp} {x:V} {a:D} (q:Rep K Z x a) (h:AZ a=true):∀ {vs:List V} {ds:List D},Reps K Z vs ds->ds.all AZ=true->JN x vs=IT a ds
 | _,_,.nil,_=>rfl
 | _,_,.cons r t,f=>by
  rw [List.all_cons,Bool.and_eq_true] at f
  show (A0 _ x||JN x _)=(PyData.eqv _ a||IT a _)
  rw [r.eqF q f.1 h,t.inF q h f.2]
theorem CD {K:Fg} {neg:Bool} {x y:V} {H:Hp} {Q:VK} (h:rD K (i6 neg) x y H Q):KD K neg x y H Q:=by
 obtain ⟨Z,a,b,d,zh,ra,rb,e,k⟩:=h
 obtain ⟨ds,e1,e⟩:=bind_some e
 by_cases c:AZ a=true/\ds.all AZ=true
 ·rw [if_pos c] at e
  cases e
  have go:∀ (xs:List V),Reps K Z xs ds->(∃ p,y=.ref p/\(SqL K H p xs\/SqT K H p xs))->KD K neg x y H Q:=fun xs r ⟨p,ey,hq⟩=>by
   refine ⟨p,xs,ey,hq,by rw [ra.flat]; exact c.1,by rw [r.allF]; exact c.2,?_⟩
   have:=r.inF ra c.1 c.2
   rw [this]
   exact k _ Z H (New.refl zh) (.bl _)
  cases rb with
  | lst h q=>cases e1; exact go _ q ⟨_,rfl,.inl (SqL.same h zh)⟩
  | tup h q=>cases e1; exact go _ q ⟨_,rfl,.inr (SqT.same h zh)⟩
  | _=>cases e1
 ·rw [if_neg c] at e; cases e
theorem zY {X:Cx}:OpR X (compareOp .In) (rD X.K (i6 false)):=OpR.imp wG fun _ _ _ _ h=>CD h
noncomputable def gT:List (D->Dv->Option Dv)->List D->Dv->Option Dv
 | [],[],δ=>some δ
 | g::gs,d::ds,δ=>(g d δ).bind fun δ1=>gT gs ds δ1
 | _,_,_=>none
noncomputable def MJ (gs:List (D->Dv->Option Dv)):D->Dv->Option Dv
 | .tuple ds,δ=>gT gs ds δ
 | _,_=>none
@[simp] theorem K9 (δ:Dv):gT [] [] δ = some δ:=rfl
@[simp] theorem JR (g:D->Dv->Option Dv) (gs:List (D->Dv->Option Dv)) (d:D) (ds:List D) (δ:Dv):gT (g::gs) (d::ds) δ = (g d δ).bind fun δ1=>gT gs ds δ1:=rfl
@[simp] theorem JQ (gs:List (D->Dv->Option Dv)) (ds:List D) (δ:Dv):MJ gs (.tuple ds) δ = gT gs ds δ:=rfl
section
variable {X:Cx} {pos:Pos} {e:Expr} {es:List Expr} {g:D->Dv->Option Dv} {gs:List (D->Dv->Option Dv)}
theorem PGs.imp {t t':Ma} (h:PGs X es t) (i:∀ v σ H Q,t' v σ H Q->t v σ H Q):PGs X es t':=fun pins s σ H x v Q I r q=>h pins s σ H x v Q I r (i _ _ _ _ q)
end
theorem cv {g:D->Dv->Option Dv} {b:Sf} {d:D} {ds:List D} {δ δ1 δ2:Dv} (h1:g d δ = some δ1) (h2:b δ1=some (.nx,δ2)):loop g b (d::ds) δ = loop g b ds δ2:=by
 show ((g d δ).bind fun δ1=>_)=_
 rw [h1,Option.bind_some,h2]; rfl
theorem nC {g:D->Dv->Option Dv} {b:Sf} {d x:D} {ds:List D} {δ δ1 δ2:Dv} (h1:g d δ = some δ1) (h2:b δ1=some (.rt x,δ2)):loop g b (d::ds) δ = some (.rt x,δ2):=by
 show ((g d δ).bind fun δ1=>_)=_
 rw [h1,Option.bind_some,h2]; rfl
end VL
set_option Elab.async false
set_option linter.all false
set_option maxRecDepth 100000
set_option maxHeartbeats 4000000
namespace VL
open PySem PySem.Spec PyProof.Rows L2
noncomputable def tO (K:Fg) (f:Dv->Option (List D)):TE:=fun σ H Q=>∃ H₀ Z₀ Z δ ds,Hold K H₀ Z₀ Z δ σ H/\f δ = some ds/\∀ p vs Z' H',Hold K H₀ Z₀ Z' δ σ H'->Same Z Z'->H' p=none->Reps K Z' vs ds->Q (.ref p) (upd H' p (.lst vs))
noncomputable def EO (X:Cx) (e:Expr) (f:Dv->Option (List D)):Prop:=PE X e (tO X.K f)
noncomputable def JG (f:Dv->Option D):Dv->Option (List D):=fun δ=>(f δ).bind zr
@[simp] noncomputable def pb (i:Nat) (f:Dv->Option (List D)):Sf:=fun δ=>(f δ).bind fun ds=>some (.nx,δ.set i (.ow ds))
section
variable {X:Cx} {e:Expr} {es:List Expr} {p pos:Pos} {f:Dv->Option (List D)} {fs:Dv->Option (List D)}
theorem yO {K:Fg} {D:Ends} {i:Nat} {σ:St} {H:Hp} (h:Dk K (pb i f) D σ H):tO K f σ H fun v H1=>D.nx (σ.set i (some v)) H1:=by
 obtain ⟨H₀,Z₀,Z,δ,r,hh,e,k⟩:=h
 obtain ⟨ds,e1,e⟩:=bind_some e
 cases e
 exact ⟨H₀,Z₀,Z,δ,ds,hh,e1,fun p vs Z1 H1 hh1 t1 hp r1=>k _ _ Z1 (hh1.setO hp r1) t1⟩
theorem pU (i:Nat) {x:Str} {pos':Pos} (hN:X.N.Nodup) (ha:EO X e f) (hi:X.N[i]? = some x:=by rfl) (hx:xA X.env.scope x:=by first | exact Or.inl rfl | exact Or.inr rfl) (hs:swapsWith e (some (.Name x pos')) pos.line X.env=pure false:=by rfl)
  (hf:X.fn x=true\/X.env.scope.names.lookup x=some .local:=by first | exact .inl rfl | exact .inr rfl | assumption):SV X (.Assign [.Name x pos'] e pos) (pb i f):=
 PS.imp (qh hN hi hx ha hs hf) fun D σ H h=>yO h
noncomputable def E6 (fs:Dv->Option (List D)):Dv->Option (List D):=fun δ=>(fs δ).bind fun as=>match as with
 | [d]=>eJ d
 | _=>none
theorem vM (hg:Gl X "list") (hm:X.mg "list" = none) (ha:AV X (e::es) fs) (he:starEach (e::es) X.env=(false,eval e X.env)::starEach es X.env:=by rfl) (hpl:(backTo pos (starEach es X.env)).any (·.1)=false:=by rfl):EO X (.Call (.Name "list" p) (e::es) [] pos) (E6 fs):=
 PE.imp (pd kq hg hm (by decide +kernel) ha (by decide) (by decide) he hpl) fun σ H Q h=>by
  obtain ⟨H₀,Z₀,Z,δ,ds,hh,e,k⟩:=h
  obtain ⟨as,e1,e⟩:=bind_some e
  refine ⟨H₀,Z₀,Z,δ,as,hh,e1,fun vs Z1 H1 hh1 t1 r1=>?_⟩
  cases r1 with
  | nil=>cases e
  | cons r1 r2=>
   cases r2 with
   | cons _ _=>cases e
   | nil=>
    cases r1 with
    | lst h1 q1=>cases e; exact ⟨_,_,rfl,.inl (SqL.same h1 hh1.zh),fun l hl=>k l _ Z1 H1 hh1 t1 hl q1⟩
    | tup h1 q1=>cases e; exact ⟨_,_,rfl,.inr (SqT.same h1 hh1.zh),fun l hl=>k l _ Z1 H1 hh1 t1 hl q1⟩
    | _=>cases e
end
section
variable {X:Cx} {scope:Scope} {vars:List Str} {caps:List (Nat×Str)} {elt tg iter cnd:Expr} {pos:Pos} {g:TG} {fi:Dv->Option (List D)} {ft:Dv->Option Bool} {fe:Dv->Option D} {bv:D->Option (List D)}
end
noncomputable def wu (t:Sf):Fl×Dv->Option (Fl×Dv)
 | (.nx,δ)=>t δ
 | r=>some r
@[simp] theorem JC (t:Sf) (δ:Dv):wu t (.nx,δ)=t δ:=rfl
@[simp] theorem JB (t:Sf) (d:D) (δ:Dv):wu t (.rt d,δ)=some (.rt d,δ):=rfl
@[simp] theorem JE (t:Sf) (δ:Dv):wu t (.bk,δ)=some (.bk,δ):=rfl
@[simp] theorem JD (t:Sf) (δ:Dv):wu t (.ct,δ)=some (.ct,δ):=rfl
noncomputable def IU (u w:Sf) (δ:Dv):Bool->Option (Fl×Dv)
 | true=>u δ
 | false=>w δ
@[simp] theorem L5 (u w:Sf) (δ:Dv):IU u w δ true=u δ:=rfl
@[simp] theorem L6 (u w:Sf) (δ:Dv):IU u w δ false=w δ:=rfl
theorem b9 (s t:Sf) (δ:Dv):ak s t δ = (s δ).bind (wu t):=by
 unfold ak wu
 congr 1
theorem cP (t:Dv->Option Bool) (u w:Sf) (δ:Dv):cu t u w δ = (t δ).bind (IU u w δ):=by
 unfold cu
 congr 1
 funext c
 cases c <;> rfl
end VL
set_option Elab.async false
set_option linter.all false
set_option maxRecDepth 100000
set_option maxHeartbeats 4000000
namespace VL
open PySem PySem.Spec PyProof.Rows L2
noncomputable def qX:List D->Option (List Bool)
 | []=>some []
 | .bool b::r=>(qX r).map (b :: ·)
 | _=>none
noncomputable def Ao:List D->Option D
 | [.list xs]=>(qX xs).map fun bs=>.bool (bs.all id)
 | _=>none
noncomputable def lC:List D->Option (List Int)
 | []=>some []
 | .int b::r=>(lC r).map (b :: ·)
 | _=>none
theorem sW {α:Type} (f:α -> Bool):∀ xs:List α,qX (xs.map fun a=>.bool (f a))=some (xs.map f)
 | []=>rfl
 | a::r=>by simp [qX,sW f r]
theorem tz {α:Type} (f:α -> Bool) (xs:List α):Ao [.list (xs.map fun a=>.bool (f a))]=some (.bool (xs.all f)):=by
 simp [Ao,sW,List.all_map]
noncomputable def HD:D->Option D
 | .list xs=>some (.list xs.reverse)
 | _=>none
@[simp] theorem Ex (xs:List D):HD (.list xs)=some (.list xs.reverse):=rfl
noncomputable def HE:D->Option (List D)
 | .list xs=>some xs.reverse
 | .tuple xs=>some xs.reverse
 | _=>none
@[simp] theorem GB (xs:List D):HE (.list xs)=some xs.reverse:=rfl
@[simp] theorem Ey (xs:List D):HE (.tuple xs)=some xs.reverse:=rfl
@[simp] noncomputable def JF:Sf:=fun _=>none
@[simp] noncomputable def Mr (i:Nat) (f:Dv->Option D):Sf:=fun δ=>(f δ).bind fun v=>(eJ v).bind fun es=>(Bg δ[i]?).bind fun ds=>if ds.length+es.length<=sizeLine then some (.nx,δ.set i (.ow (ds++es))) else none
section
variable {X:Cx} {e:Expr} {es:List Expr} {p pos tpos apos:Pos} {f:Dv->Option D} {st:Stmt}
theorem vT {K:Fg} {Z:Hp}:∀ {xs:List V} {ds:List D} {bs:List Bool} {its:List Value},Reps K Z xs ds->Vals xs its->qX ds=some bs->its.length=bs.length/\∀ (i:Nat) (v:Value),its[i]? = some v->∃ b,bs[i]? = some b/\v=.bool b
 | _,_,bs,_,.nil,.nil,h=>by cases h; exact ⟨rfl,fun i v q=>by simp at q⟩
 | _,_,bs,_,.cons r t,.cons q u,h=>by
  cases r with
  | bl b=>
   unfold qX at h
   cases g:qX _ with
   | none=>rw [g] at h; cases h
   | some cs=>
    rw [g] at h
    cases h
    obtain ⟨h1,h2⟩:=vT t u g
    refine ⟨by simp [h1],fun i v e=>?_⟩
    cases i with
    | zero=>simp at e; subst e; exact ⟨b,rfl,q⟩
    | succ i=>simp at e; simpa using h2 i v e
  | _=>cases h
theorem nG {K:Fg} {Z:Hp}:∀ {xs:List V} {ds:List D} {bs:List Int} {its:List Value},Reps K Z xs ds->Vals xs its->lC ds=some bs->IntsAre its bs
 | _,_,bs,_,.nil,.nil,h=>by cases h; exact .nil
 | _,_,bs,_,.cons r t,.cons q u,h=>by
  cases r with
  | int b=>
   unfold lC at h
   cases g:lC _ with
   | none=>rw [g] at h; cases h
   | some cs=>
    rw [g] at h
    cases h
    obtain ⟨tk,rfl⟩:=q
    exact .cons _ _ (nG t u g)
  | _=>cases h
theorem DO (hc:X.calm=true):CallR X (.builtin "all") (xF X.K Ao):=by
 intro pins s σ H xs us Q I rs q
 obtain ⟨Z,as,d,zh,ra,e,k⟩:=q
 cases ra with
 | nil=>cases e
 | cons r1 r2=>
  cases r2 with
  | cons _ _=>cases r1 <;> cases e
  | nil=>
   cases r1 with
   | @lst l ys ds h1 q1=>
    have e:(qX ds).map (fun bs=>PyData.bool (bs.all id))=some d:=e
    cases g:qX ds with
    | none=>rw [g] at e; cases e
    | some bs=>
     rw [g] at e
     cases e
     obtain ⟨u,rfl,ru⟩:=o5 rs
     cases ru
     obtain ⟨its,rv,pl,hz⟩:=I.list (SqL.same h1 zh)
     obtain ⟨hlen,hget⟩:=vT q1 rv g
     have hl:=pl.isList
     have hlt:l<s.heap.objs.size:=by obtain ⟨_,e,_⟩:=hl; exact Heap.lt_size e
     refine call_all_walk (wpAny_pyIter_list hl ?_)
     refine ⟨s.heap.objs.size,[s.heap.objs.size,l],[s.heap.objs.size],its.toArray.size,_,_,fun i=>(bs[i]?).getD true,rfl,Walks.list (A:=X.A.in1) (I.ok.hd hc) _ l (Nat.ne_of_lt hlt) its.toArray,
      ⟨⟨_,Heap.get?_push_size _ rfl,rfl,rfl⟩,hl.push _⟩,fun i v s' Q' E' hP hQ=>?_,fun h' tk hk=>?_⟩
     ·obtain ⟨b,e,rfl⟩:=hget i v (by simpa using hP)
      simp only [e,Option.getD_some] at hQ
      exact wpAny_truthy_bool hQ
     ·have e:((List.range its.toArray.size).all fun i=>(bs[i]?).getD true)=bs.all id:=by
       rw [List.size_toArray,hlen]; exact LSm.range_all bs
      rw [e]
      exact ⟨.bl _,H,I.kept (t':=tk) (LSm.kept_iter hk),rfl,k _ Z H (New.refl zh) (.bl _)⟩
   | _=>cases e
theorem x8 {st:Stmt}:SV X st JF:=fun pins s σ H D I h=>by
 obtain ⟨_,_,_,_,_,_,e,_⟩:=h
 cases e
end
end VL
set_option Elab.async false
set_option linter.all false
set_option maxRecDepth 100000
set_option maxHeartbeats 4000000
namespace VL
open PySem PySem.Spec PyProof.Rows L2
section
variable {prog:Program} {w:World} {A:Around} {s:Shared} {R:Result->Shared->Prop}
variable {I:Addr} {fp wr:List Addr} {G:Array GenState->Array GenState->Prop} {n:Nat} {P:Nat->Value->Prop} {St:Nat->Shared->Prop}
end
section
variable {prog:Program} {w:World} {A:Around} {E:Value->Shared->Prop} {s:Shared}
variable {I:Addr} {fp wr:List Addr} {G:Array GenState->Array GenState->Prop} {n:Nat} {P:Nat->Value->Prop} {St:Nat->Shared->Prop}
end
section
variable {X:Cx} {e:Expr} {p p2 pos pos2:Pos} {te:TE} {f:Dv->Option D}
end
end VL
set_option Elab.async false
set_option linter.all false
set_option maxRecDepth 100000
set_option maxHeartbeats 4000000
namespace VL
open PySem PySem.Spec PyProof.Rows L2
section
variable {prog:Program} {w:World} {A:Around} {E:Value->Shared->Prop} {s:Shared}
noncomputable def IsRv (h:Heap) (a l:Addr) (i:Int):Prop:=∃ o,h.get? a=some o/\o.cls=.type "reversed" /\ o.data=.fields #[.ref l,rawInt i]
theorem IsRv.typeIs {a l:Addr} {i:Int} (x:IsRv s.heap a l i):s.TypeIs (.ref a) "reversed":=let ⟨o,ho,hc,_⟩:=x; ⟨o,ho,hc⟩
theorem IsRv.at {h h':Heap} {a l:Addr} {i:Int} (x:IsRv h a l i) (e:∀ o,h.get? a=some o->h'.get? a=some o):IsRv h' a l i:=let ⟨o,ho,r⟩:=x; ⟨o,e _ ho,r⟩
end
noncomputable def Kx:D->Option (List D)
 | .tuple xs=>some xs.reverse
 | _=>none
@[simp] theorem Ew (xs:List D):Kx (.tuple xs)=some xs.reverse:=rfl
section
variable {X:Cx} {tg e:Expr} {p pos:Pos} {te:TE} {f:Dv->Option D}
end
end VL
set_option Elab.async false
set_option linter.all false
set_option maxRecDepth 100000
set_option maxHeartbeats 4000000
namespace VL
open PySem PySem.Spec PyProof.Rows L2
noncomputable def F2 (h:Heap) (e:Addr):Prop:=∃ oe vs,h.get? e=some oe/\oe.data=.fields vs/\vs[2]? = some .none
noncomputable def FlyX (base:Heap) (l:List Env) (e:Addr) (cls a0:Value) (h:Heap):Prop:=Heap.FlyingW base l e cls a0 h/\F2 h e
structure Put (l:List Env) (e T:Addr) (oe:Obj) (fl:Value) (h h':Heap):Prop where
 new:h.get? T=none
 ex:h'.get? e=some (oe.mapFields (·.setIfInBounds 1 (.ref T)))
 tb:∃ oT ts,h'.get? T=some oT/\oT.data=.fields ts/\ts[3]? = some fl
 keep:∀ b o,b≠e->b ∉ qI l->h.get? b=some o->h'.get? b=some o
 slot:∀ b o,b≠e->h.get? b=some o->∃ sl,h'.get? b=some { o with slots:=sl }
section
variable {M:Model} {A:Around} {E:Value->Shared->Prop} {s:Shared}
theorem FlyX.pop {base h:Heap} {env:Env} {l:List Env} {e:Addr} {cls a0:Value} (x:FlyX base (env::l) e cls a0 h):FlyX base l e cls a0 h:=
 let ⟨⟨k1,k2,⟨_,_,k3⟩,k4⟩,k5⟩:=x; ⟨⟨k1,k2,k3,k4⟩,k5⟩
end
end VL
set_option Elab.async false
set_option linter.all false
set_option maxRecDepth 100000
set_option maxHeartbeats 4000000
namespace VL
open PySem PySem.Spec PyProof.Rows L2
noncomputable abbrev Xf:=Dv->Option (Str×Dv)
@[simp] noncomputable def MT:Xf:=fun _=>none
@[simp] noncomputable def JX (n:Str) (f:Dv->Option D):Xf:=fun δ=>(f δ).bind fun _=>some (n,δ)
@[simp] noncomputable def xE (f:Dv->Option Str):Xf:=fun δ=>(f δ).bind fun n=>some (n,δ)
@[simp] noncomputable def MU (t:Dv->Option Bool) (u w:Xf):Xf:=fun δ=>(t δ).bind fun c=>if c=true then u δ else w δ
@[simp] noncomputable def JW (s:Sf) (u:Xf):Xf:=fun δ=>(s δ).bind fun r=>match r with
 | (.nx,δ')=>u δ'
 | _=>none
@[simp] noncomputable def LI (u1:Xf) (s:Sf) (u:Xf):Xf:=fun δ=>match u1 δ with
 | some r=>some r
 | none=>JW s u δ
@[simp] noncomputable def MX (fs:Dv->Option (List D)) (g:List D->Option Str):Dv->Option Str:=fun δ=>(fs δ).bind g
theorem F5 {P:Program} {w:World} {H:Hp} {h:Heap} {x C:Addr} {o:Obj} (e:h.get? x=some o) (c:o.cls=.ref C) (f:F2 h x):ObjOk P w H h x (xk x C):=
 ⟨⟨o,e,c,by obtain ⟨o',vs,q1,q2⟩:=f; rw [e] at q1; cases q1; exact ⟨vs,q2⟩⟩,⟨o,e⟩,fun h1 h2 ⟨o',e',c'⟩ k=>⟨o',k o' e',c'⟩⟩
theorem FlyX.there {base h:Heap} {l:List Env} {e:Addr} {cls a0:Value} (x:FlyX base l e cls a0 h):∃ ob,h.get? e=some ob/\ob.cls=cls:=x.1.there
structure Thrown (P:Program) (w:World) (outer:List Env) (H:Hp) (s:Shared) (x C:Addr) (H':Hp) (s':Shared):Prop where
 os:s'.os=s.os
 bare:AllBare s'.gens
 un:Un (qI outer) [] H H' s.heap s'.heap
 hok:HOk P w H' s'.heap
 sm:Same H H'
 is:H' x=some (xk x C)
 fly:∃ B t,FlyX B outer x (.ref C) t s'.heap/\(∀ b o,H' b=some o->b≠x->∃ ob,B.get? b=some ob)/\(∀ b o,s.heap.get? b=some o->H b=none->b ∉ qI outer->B.get? b=some o)
noncomputable def MS (P:Program) (w:World):tM:=fun outer H s E e s'=>∃ x C H',e=.ref x/\Thrown P w outer H s x C H' s'/\E (.ref C) (some x) H'
theorem CF {P:Program} {w:World} {H2:Hp} {B h2 h':Heap} {l l':List Env} {x C:Addr} {t t':Value} (ok:HOk P w H2 h2) (is:H2 x=some (xk x C)) (k2:B.StaysIn h2) (fl':FlyX B l' x (.ref C) t' h')
  (hB:∀ b o,H2 b=some o->b≠x->∃ ob,B.get? b=some ob):HOk P w H2 h':=fun b o e=>by
 by_cases hb:b=x
 ·subst hb
  rw [is] at e; cases e
  obtain ⟨ob,h1,h2⟩:=fl'.there
  exact F5 h1 h2 fl'.2
 ·refine (ok b o e).stay (fun c u hc q=>?_) (fun _ q=>q) fun _ _ q=>q
  have:∃ ob,B.get? c=some ob:=by
   rcases hc with rfl | hc
   ·exact hB c o e hb
   ·refine hB c _ hc fun z=>?_
    subst z; rw [is] at hc; cases hc
  obtain ⟨ob,hob⟩:=this
  have:=k2 c ob hob
  rw [q] at this; cases this
  exact fl'.1.1 c _ hob
section
variable {P:Program} {w:World} {K:PySem.W.Frag} {mg:Str->Option Value} {base:Heap} {N:List Str} {qual:Str} {scope:Scope} {f:Addr} {cd:Value} {A:Around} {outer:List Env} {s:Shared} {H:Hp} {E:XK} {pins:List (Addr×Obj)} {σ:St} {H1 H2:Hp} {s1 s2:Shared} {x C:Addr}
end
end VL
set_option Elab.async false
set_option linter.all false
set_option maxRecDepth 100000
set_option maxHeartbeats 4000000
namespace VL
open PySem PySem.Spec PyProof.Rows L2
noncomputable abbrev GR:List Value:=[.type "ValueError",.type "Exception",.type "BaseException",.type "object"]
structure ExcC (K:Fg) (n:Str) (C:Addr):Prop where
 nm:PySem.W.nsIn K mainGlobals n=some (some (.ref C))
 ex:PySem.W.excIn K C GR "ValueError.__new__" = true
 ga:PySem.W.findIn K (.ref C) "__getattribute__" = some (some (.builtin "BaseException.__getattribute__"))
 gt:PySem.W.findIn K (.ref C) "__getattr__" = some none
 cl:PySem.W.findIn K (.ref C) "__class__" = some (some (.builtin "object.__class__"))
 mo:PySem.W.mroIn K C (.type "object")=some true
 be:PySem.W.mroIn K C (.type "BaseException")=some true
section
variable {K:Fg} {n:Str} {C x:Addr}
variable {prog:Program} {w:World} {A:Around} {E:Value->Shared->Prop}
open Builtin Builtin.ObjectAttr Builtin.Getset_descriptor in
end
end VL
set_option Elab.async false
set_option linter.all false
set_option maxRecDepth 100000
set_option maxHeartbeats 4000000
namespace VL
open PySem PySem.Spec PyProof.Rows L2
section
variable {K:Fg} {n:Str} {C x:Addr} {prog:Program} {w:World} {A:Around} {E:Value->Shared->Prop}
end
inductive IsX (K:Fg) (D:Str):List (Str×Bool)->Prop
 | nil:IsX K D []
 | cons {n:Str} {b:Bool} {t:List (Str×Bool)} {C dC:Addr}:ExcC K n C->PySem.W.nsIn K mainGlobals D=some (some (.ref dC))->PySem.W.kitOne K (.ref C) (.ref dC)=some b->IsX K D t->IsX K D ((n,b)::t)
inductive IsT (K:Fg) (D:String):List (Str×Bool)->Prop
 | nil:IsT K D []
 | cons {n:Str} {b:Bool} {t:List (Str×Bool)} {C:Addr}:ExcC K n C->PySem.W.kitOne K (.ref C) (.type D)=some b->IsT K D t->IsT K D ((n,b)::t)
theorem ii {n m:Str} {b c:Bool} {t:List (Str×Bool)} (h:List.lookup m ((n,b)::t)=some c):(m=n/\c=b)\/List.lookup m t=some c:=by
 rw [List.lookup_cons] at h
 split at h
 ·rename_i q; cases h; exact .inl ⟨by simpa using q,rfl⟩
 ·exact .inr h
theorem IsX.get {K:Fg} {D:Str} {t:List (Str×Bool)} (h:IsX K D t) {n:Str} {b:Bool} (e:t.lookup n=some b):∃ C dC,ExcC K n C/\PySem.W.nsIn K mainGlobals D=some (some (.ref dC))/\PySem.W.kitOne K (.ref C) (.ref dC)=some b:=by
 induction h with
 | nil=>cases e
 | cons h1 h2 h3 _ ih=>
  rcases ii e with ⟨rfl,rfl⟩ | e
  ·exact ⟨_,_,h1,h2,h3⟩
  ·exact ih e
theorem IsT.get {K:Fg} {D:String} {t:List (Str×Bool)} (h:IsT K D t) {n:Str} {b:Bool} (e:t.lookup n=some b):∃ C,ExcC K n C/\PySem.W.kitOne K (.ref C) (.type D)=some b:=by
 induction h with
 | nil=>cases e
 | cons h1 h3 _ ih=>
  rcases ii e with ⟨rfl,rfl⟩ | e
  ·exact ⟨_,h1,h3⟩
  ·exact ih e
section
variable {X:Cx} {a:Expr} {f:Dv->Option D} {p pos:Pos}
end
end VL
set_option Elab.async false
set_option linter.all false
set_option maxRecDepth 100000
set_option maxHeartbeats 4000000
namespace VL
open PySem PySem.Spec PyProof.Rows L2
theorem qw {H H':Hp} {b:Addr} (s:Same H H') (h:H' b=none):H b=none:=by
 cases e:H b with
 | none=>rfl
 | some o=>rw [s b o e] at h; cases h
inductive Flung (m:Bool) (X:Cx) (n:Str) (Z H:Hp) (s:Shared) (e:Value) (s':Shared):Prop
 | made {x C:Addr} {vs:List Value}:m=true->PySem.W.nsIn X.K mainGlobals n=some (some (.ref C))->e=.ref x->s'={ s with heap:=s'.heap }->Heap.MadeExcOf s.heap s'.heap x (.ref C) vs->Flung m X n Z H s e s'
 | thrown {x C:Addr} {H' Z':Hp}:PySem.W.nsIn X.K mainGlobals n=some (some (.ref C))->e=.ref x->Thrown X.prog X.w X.stack H s x C H' s'->New Z H Z' H'->Z' x=some (xk x C)->H x=none->Flung m X n Z H s e s'
section
variable {m:Bool} {X:Cx} {e c:Expr} {es:List Expr} {f:Dv->Option D} {fs:Dv->Option (List D)} {ft:Dv->Option Bool} {fx:Dv->Option Str} {st:Stmt} {sts body orelse:List Stmt} {s1:Sf} {u u1 u2:Xf} {pos p:Pos}
structure ExcX (K:Fg) (n:Str):Prop where
 ex:∃ C,ExcC K n C
noncomputable def Mo (K:Fg) (g:List D->Option Str):Sp:=fun vs H _ E=>∃ Z as n,Same Z H/\Reps K Z vs as/\g as=some n/\∀ C x Z' H',PySem.W.nsIn K mainGlobals n=some (some (.ref C))->New Z H Z' H'->Z' x=some (xk x C)->H x=none->E (.ref C) (some x) H'
structure CalX (P:Program) (w:World) (K:PySem.W.Frag) (mg:Str->Option Value) (base:Heap) (x:Str) (k:Nat) (g:List D->Option Str) (dd:List D):Prop where
 ex:∃ (fa:Addr) (fd:FuncData) (ps:List Str) (ds:List Value) (dv:List V),FnOk P w K mg base (MS P w) k fa fd ps (Mo K g)/\mg x=some (.ref fa)/\PySem.W.keepIn K (.ref fa)=true/\Binds K fd ps ds/\Vals dv ds/\∀ Z,Reps K Z dv dd
end
section
variable {P:Program} {w:World} {K:PySem.W.Frag} {mg:Str->Option Value} {base:Heap}
end
end VL
set_option Elab.async false
set_option linter.all false
set_option maxRecDepth 100000
set_option maxHeartbeats 4000000
namespace VL
open PySem PySem.Spec PyProof.Rows L2
inductive HndL (K:Fg) (W:Addr):List Str->Prop
 | nil:HndL K W []
 | cons {n:Str} {t:List Str} {C:Addr}:ExcC K n C->PySem.W.subIn K (.ref C) (.ref W)=some true->HndL K W t->HndL K W (n::t)
theorem HndL.get {K:Fg} {W:Addr} {t:List Str} (h:HndL K W t) {n:Str} (e:t.contains n=true):∃ C,ExcC K n C/\PySem.W.subIn K (.ref C) (.ref W)=some true:=by
 induction h with
 | nil=>cases e
 | cons h1 h2 _ ih=>
  rw [List.contains_cons,Bool.or_eq_true] at e
  rcases e with e | e
  ·have:=eq_of_beq e; subst this; exact ⟨_,h1,h2⟩
  ·exact ih e
structure Hnd (K:Fg) (W:Str) (ns:List Str):Prop where
 ex:∃ wC,PySem.W.nsIn K mainGlobals W=some (some (.ref wC))/\PySem.W.excIn K wC GR "ValueError.__new__" = true/\HndL K wC ns
theorem Thrown.move {P:Program} {w:World} {l:List Env} {H H2:Hp} {s s2:Shared} {x C:Addr} (T:Thrown P w l H s x C H2 s2) (hf:∀ b∈qI l,∃ o,s.heap.get? b=some o/\∀ vs,o.data≠.fields vs) (hn:∀ b∈qI l,H b=none) :
  ∃ B t,FlyX B l x (.ref C) t s2.heap/\∀ h' t',FlyX B l x (.ref C) t' h'->s2.heap.UpToSlots h'->Thrown P w l H s x C H2 { s2 with heap:=h' }:=by
 obtain ⟨B,t,fl,hB1,hB2⟩:=T.fly
 refine ⟨B,t,fl,fun h' t' fl' sm=>?_⟩
 have slot:∀ b o,s.heap.get? b=some o->H b=none->b∈qI l->∃ sl,h'.get? b=some { o with slots:=sl }:=fun b o q n hb=>by
  obtain ⟨sl2,e2⟩:=T.un.slot b o q n hb (fun z=>nomatch z)
  obtain ⟨o',ho',hd⟩:=hf b hb
  rw [q] at ho'; cases ho'
  obtain ⟨sl3,e3⟩:=sm b _ e2 hd
  exact ⟨sl3,e3⟩
 refine ⟨T.os,T.bare,⟨fun b o q n hb _=>fl'.1.1 b o (hB2 b o q n hb),fun b o q n hb _=>slot b o q n hb,fun b o q n z=>T.un.free b o q n z,fun b o q _=>?_,T.un.tups,T.un.frzs,T.un.tbls⟩,CF (l:=[]) (t:=t) T.hok T.is fl.1.1 fl' hB1,T.sm,T.is,⟨B,t',fl',hB1,hB2⟩⟩
 cases q2:H2 b with
 | some ho=>
  by_cases hb:b=x
  ·subst hb; obtain ⟨ob,e1,_⟩:=fl'.there; exact ⟨ob,e1⟩
  ·obtain ⟨ob,e1⟩:=hB1 b ho q2 hb; exact ⟨ob,fl'.1.1 b ob e1⟩
 | none=>
  have n:H b=none:=by
   cases e:H b with
   | none=>rfl
   | some z=>rw [T.sm b z e] at q2; cases q2
  by_cases hb:b∈qI l
  ·obtain ⟨sl,e⟩:=slot b o q n hb; exact ⟨_,e⟩
  ·exact ⟨o,fl'.1.1 b o (hB2 b o q n hb)⟩
section
variable {X:Cx} {pins:List (Addr×Obj)} {σ:St} {H:Hp} {s:Shared}
end
theorem Inv.still {X:Cx} {pins:List (Addr×Obj)} {σ:St} {H:Hp} {s:Shared} {x C:Addr} {ob:Obj} (I:Inv X pins σ H s) (hx:H x=some (xk x C)) (ho:s.heap.get? x=some ob):Inv X pins σ (upd H x (.frz ob (xk x C))) s:=by
 have ne:∀ {b:Addr},H b=none->b≠x:=fun {b} h z=>by subst z; rw [hx] at h; cases h
 have up:∀ {b:Addr},H b=none->upd H x (.frz ob (xk x C)) b=none:=fun {b} h=>by rw [aH (ne h)]; exact h
 refine ⟨I.ok,I.os,I.bare,⟨I.base.keep,I.base.slot,fun b o e n hb=>up (I.base.free b o e n hb),I.base.there,fun b xs e=>?_,fun b o u e=>?_,fun b ps e=>?_⟩,I.loc,I.cell,up I.free,fun y c e=>up (I.freeC y c e),fun p hp=>?_,fun b o e=>?_,I.len⟩
 ·have q:=I.base.tups b xs e
  by_cases hb:b=x
  ·subst hb; rw [hx] at q; cases q
  ·rw [aH hb]; exact q
 ·have q:=I.base.frzs b o u e
  by_cases hb:b=x
  ·subst hb; rw [hx] at q; cases q
  ·rw [aH hb]; exact q
 ·obtain ⟨m,q⟩:=I.base.tbls b ps e
  by_cases hb:b=x
  ·subst hb; rw [hx] at q; cases q
  ·exact ⟨m,by rw [aH hb]; exact q⟩
 ·obtain ⟨e,n,r⟩:=I.pin p hp
  exact ⟨e,up n,r⟩
 ·have st:∀ {b':Addr} {o':HO},ObjOk X.prog X.w H s.heap b' o'->ObjOk X.prog X.w (upd H x (.frz ob (xk x C))) s.heap b' o':=fun {b' o'} q=>by
   refine q.stay (fun _ _ _ z=>z) (fun c z=>?_) fun c xs z=>?_
   ·by_cases hc:c=x
    ·subst hc; rw [hx] at z; cases z
    ·rw [aH hc]; exact z
   ·by_cases hc:c=x
    ·subst hc; rw [hx] at z; cases z
    ·rw [aH hc]; exact z
  by_cases hb:b=x
  ·subst hb
   rw [aQ] at e
   cases e
   exact ⟨ho,st (I.hok b _ hx)⟩
  ·rw [aH hb] at e
   exact st (I.hok b o e)
theorem New.still {Z H Z2 H2:Hp} {x C:Addr} {ob:Obj} (n:New Z H Z2 H2) (zh:Same Z H) (hz:Z2 x=some (xk x C)) (hn:H x=none):New Z H (upd Z2 x (.frz ob (xk x C))) (upd H2 x (.frz ob (xk x C))) where
 z:=fun b o e=>by rw [aH (bO (zh b o e) hn)]; exact n.z b o e
 h:=fun b o e=>by rw [aH (bO e hn)]; exact n.h b o e
 zh:=fun b o e=>by
  by_cases hb:b=x
  ·subst hb; rw [aQ] at e ⊢; exact e
  ·rw [aH hb] at e ⊢; exact n.zh b o e
 o:=fun b hb=>by
  have:b≠x:=fun z=>hb (by rw [z]; exact hn)
  rw [aH this]; exact n.o b hb
 nf:=n.nf.upd x
section
variable {X:Cx} {body suite:List Stmt} {b₀:Stmt} {b bs:Sf} {bx:Xf} {np hpos pos:Pos}
end
end VL
set_option Elab.async false
set_option linter.all false
set_option maxRecDepth 100000
set_option maxHeartbeats 4000000
namespace VL
open PySem PySem.Spec PyProof.Rows L2
noncomputable def xf:Sl->Bool
 | .own _=>true
 | _=>false
@[simp] theorem JJ (d:D):xf (.fz d)=false:=rfl
@[simp] theorem JI:xf .un=false:=rfl
noncomputable def yo:Nat->Dv->Bool
 | _,[]=>true
 | 0,_::r=>r.all fun s=>!xf s
 | n+1,s::r=>!xf s&&yo n r
@[simp] theorem Ho (n:Nat):yo n []=true:=by cases n <;> rfl
@[simp] theorem Gz (s:Sl) (r:Dv):yo 0 (s::r)=r.all fun s=>!xf s:=rfl
@[simp] theorem GA (n:Nat) (s:Sl) (r:Dv):yo (n+1) (s::r)=(!xf s&&yo n r):=rfl
end VL
set_option Elab.async false
set_option linter.all false
set_option maxRecDepth 100000
set_option maxHeartbeats 4000000
namespace VL
open PySem PySem.Spec PyProof.Rows L2
@[simp] noncomputable def LH (f:Dv->Option D) (u:Dv->Option Str):Dv->Option Str:=fun δ=>(f δ).bind fun _=>u δ
section
variable {X:Cx} {a b:Expr} {f1 f2:Dv->Option D} {pos apos:Pos}
variable {m:Bool} {e:Expr} {es:List Expr} {f:Dv->Option D} {fx:Dv->Option Str} {x1:Nat}
end
end VL
set_option Elab.async false
set_option linter.all false
set_option maxRecDepth 100000
set_option maxHeartbeats 4000000
namespace VL
open PySem PySem.Spec PyProof.Rows L2
@[simp] noncomputable def LU (i:Nat) (f:Dv->Option D):Sf:=fun δ=>(f δ).bind fun v=>(zr v).bind fun es=>(Bg δ[i]?).bind fun ds=>if ds.length+es.length<=sizeLine then some (.nx,δ.set i (.ow (ds++es))) else none
structure CalF (P:Program) (w:World) (K:PySem.W.Frag) (mg:Str->Option Value) (base:Heap) (x:Str) (k:Nat) (g:List D->Option D):Prop where
 ex:∃ (fa:Addr) (fd:FuncData) (ps:List Str),FnOk P w K mg base dN k fa fd ps (fh K g)/\PySem.W.nsIn K mainGlobals x=some (some (.ref fa))/\mg x=some (.ref fa)/\PySem.W.keepIn K (.ref fa)=true/\Binds K fd ps []
structure Fnm (K:PySem.W.Frag) (mg:Str->Option Value) (x:Str):Prop where
 ex:∃ fa,PySem.W.nsIn K mainGlobals x=some (some (.ref fa))/\mg x=some (.ref fa)
section
variable {X:Cx} {e:Expr} {es:List Expr} {p pos:Pos} {fs:Dv->Option (List D)}
end
section
variable {X:Cx}
end
section
variable {X:Cx} {e:Expr} {f:Dv->Option D} {p pos apos:Pos}
end
theorem BlkOk.none {on:List (Str×NameKind)} {ON:List Str} {scope:Scope} {vars:List Str} (hk:scope.kind=.function) (hc:∀ y∈scope.names,y.2≠.cell) (hn:∀ y∈scope.names,y.2=.local->scope.names.lookup y.1=some .local) (hf:∀ y∈scope.names,y.2≠.free):BlkOk on ON scope vars []:=
 ⟨hk,hc,hn,fun y hy e=>absurd e (hf y hy),fun p hp=>(nomatch hp)⟩
end VL
set_option Elab.async false
set_option linter.all false
set_option maxRecDepth 100000
set_option maxHeartbeats 4000000
namespace VL
open PySem PySem.Spec PyProof.Rows L2
noncomputable def qy:D->D->Option D
 | .list xs,.int k=>if -(2 ^ 63)<=k/\k<2 ^ 63/\xs.length*k.toNat<=16777216 then some (.list (List.replicate k.toNat xs).flatten) else none
 | _,_=>none
theorem BY {xs:List D} {k:Int} (h1:-9223372036854775808<=k) (h2:k<9223372036854775808) (h3:xs.length*k.toNat<=16777216):qy (.list xs) (.int k)=some (.list (List.replicate k.toNat xs).flatten):=if_pos ⟨h1,h2,h3⟩
theorem Reps.rep {K:Fg} {Z:Hp} {xs:List V} {us:List D} (h:Reps K Z xs us):∀ k:Nat,Reps K Z (List.replicate k xs).flatten (List.replicate k us).flatten
 | 0=>.nil
 | k+1=>by
  rw [List.replicate_succ,List.replicate_succ,List.flatten_cons,List.flatten_cons]
  exact h.append (Reps.rep h k)
theorem KO (l:Addr) (items:Array Value) (n:Nat) (sl:Array (Option Value)) (x:Int) (u:Tok) (hc0:¬(!Builtin.List.listFitsIndex x)=true) (hc1:¬items.size*x.toNat>(2 ^ 63-1) / 8) (hc2:¬Builtin.List.listTooLong (items.size*x.toNat)=true) :
  Meets (Builtin.«list.__mul__» ⟨[.ref l,.int x u],[]⟩) (fun _ R s=>s.heap.get? l=some { cls:=.type "list",dict:=none,data:=.seq items n,slots:=sl }/\R (.ok (.ret (Value.ref s.heap.objs.size))) { s with heap:=s.heap.push { cls:=Value.type "list",data:=Data.seq (List.foldl (fun x1 x2=>x1++x2) #[] (List.replicate (if items.isEmpty=true then 0 else x.toNat) items)) },toks:=s.toks }):=
 .of_wp fun prog w A R s h=>by
  obtain ⟨hp,g,d,tk,os⟩:=s; obtain ⟨hl,h⟩:=h
  have hsz:=AutoListH.joined_fits hc2
  wp_walk; refine wpAny_ite_false (decide_eq_false (Nat.not_lt.mpr hsz)) ?_; wp_walk; exact ⟨_,rfl,h⟩
theorem HC (a:Int) (t:Tok) (l:Addr) (items:Array Value) (n:Nat) (sl:Array (Option Value)) :
  Meets (Builtin.«int.__rmul__» ⟨[.int a t,.ref l],[]⟩) (fun _ R s=>s.heap.get? l=some { cls:=.type "list",dict:=none,data:=.seq items n,slots:=sl }/\R (.ok (.ret Value.notImplemented)) s):=
 .of_wp fun prog w A R s h=>by obtain ⟨hp,g,d,tk,os⟩:=s; obtain ⟨hl,h⟩:=h; wp_walk; exact ⟨_,rfl,h⟩
section
variable {X:Cx}
noncomputable def rO (K:Fg) (g:D->D->Option D):R2:=fun x y H Q=>∃ Z a b ds,Same Z H/\Rep K Z x a/\Rep K Z y b/\g a b=some (.list ds)/\∀ p vs,H p=none->Reps K Z vs ds->Q (.ref p) (upd H p (.lst vs))
theorem BX {a b:D} {es:List D} (h:qy a b=some (.list es)):∃ ds k,a=.list ds/\b=.int k/\(-(2 ^ 63)<=k/\k<2 ^ 63/\ds.length*k.toNat<=16777216)/\(List.replicate k.toNat ds).flatten=es:=by
 cases a with
 | list xs=>
  cases b with
  | int i=>obtain ⟨p,q⟩:=kj h; exact ⟨_,_,rfl,rfl,p,PyData.list.inj q⟩
  | _=>cases h
 | _=>cases h
theorem Gc:OpR X (binaryOp .Mult) (rO X.K qy):=by
 intro pins s σ H x y v u Q I rx ry q
 obtain ⟨Z,a,b,d,zh,ra,rb,e,kk⟩:=q
 obtain ⟨ds,k,rfl,rfl,hl,rfl⟩:=BX e
 obtain ⟨a,xs,rfl,h1,q1⟩:=ra.lst_ex
 cases rb.int_eq
 obtain ⟨h63,h63',hz⟩:=hl
 cases rx
 obtain ⟨t,rfl⟩:=ry
 obtain ⟨its,r1,p1,z1⟩:=I.list (SqL.same h1 zh)
 obtain ⟨⟨cls,dd,data,sl⟩,n1,ho,hc,hdd,hd⟩:=p1
 simp only at hc hd hdd
 subst hc hd hdd
 have hl1:=r1.length
 have ql1:=q1.length
 have hlen:its.toArray.size*k.toNat<=sizeLine:=by rw [List.size_toArray,<- hl1,ql1]; exact hz
 have hcap:¬ its.toArray.size*k.toNat>(2 ^ 63-1) / 8:=by
  have:(sizeLine:Nat)<=(2 ^ 63-1) / 8:=by decide
  omega
 have hfit:¬ (!Builtin.List.listFitsIndex k)=true:=by
  rw [fitsIndex_both h63 h63']
  exact Bool.false_ne_true
 have hlong:¬ Builtin.List.listTooLong (its.toArray.size*k.toNat)=true:=by
  rw [y9 hlen]
  exact Bool.false_ne_true
 have hnew:List.foldl (fun x1 x2=>x1++x2) #[] (List.replicate (if its.toArray.isEmpty=true then 0 else k.toNat) its.toArray)=(List.replicate k.toNat its).flatten.toArray:=by
  have f0:∀ m:Nat,List.foldl (fun x1 x2=>x1++x2) #[] (List.replicate m its.toArray)=(List.replicate m its).flatten.toArray:=fun m=>by
   have:=pD its m []
   rw [List.nil_append] at this
   exact this
  rw [f0]
  cases its with
  | nil=>simp
  | cons a r'=>rw [if_neg (by simp)]
 refine wpAny_binaryOp_repeat_ref (T:="list") (U:="int") (by decide) ⟨_,ho,rfl⟩ (fun s'=>typeIs_int s' k t) noFill_list_mul F.fills_int_mul F.slot_int_rmul repeat_list F.slot_int_index.lookup
  (call_meets F.slot_int_rmul (typeIs_int s k t) F.entry_int_rmul (F.args_int_rmul_2 _ _) (HC k t a its.toArray n1 sl)
   ⟨ho,rfl,⟨_,ho,rfl⟩,call_meets F.slot_list_mul ⟨_,ho,rfl⟩ F.entry_list_mul (F.args_list_mul_2 _ _) (KO a its.toArray n1 sl k t hfit hcap hlong) ⟨ho,?_⟩⟩)
 rw [hnew]
 exact ⟨.ref _,_,I.lnew (t':=s.toks) (r1.rep k.toNat) (by rw [B5,Nat.mul_comm,ql1]; exact hz),rfl,kk _ _ I.fresh (Reps.rep q1 k.toNat)⟩
theorem zm {a b d:D} (h:qy a b=some d):∃ ds,d=.list ds:=by
 unfold qy at h
 split at h
 ·split at h
  ·cases h; exact ⟨_,rfl⟩
  ·cases h
 ·cases h
variable {a b:Expr} {pos:Pos} {f1 f2:Dv->Option D}
theorem Ga (ha:EV X a f1) (hb:EV X b f2):EO X (.BinOp a .Mult b pos) (JG (o2 f1 f2 qy)):=
 PE.imp (Dq Gc ha hb) fun σ H Q h=>by
  obtain ⟨H₀,Z₀,Z,δ,ds,hh,e,k⟩:=h
  obtain ⟨d,e,e3⟩:=bind_some e
  obtain ⟨x,e1,e⟩:=bind_some e
  obtain ⟨y,e2,e⟩:=bind_some e
  obtain ⟨es,rfl⟩:=zm e
  cases e3
  exact ⟨H₀,Z₀,Z,δ,x,hh,e1,fun v Z1 H1 hh1 s1 r1=>⟨H₀,Z₀,Z1,δ,y,hh1,e2,fun u Z2 H2 hh2 s2 r2=>⟨Z2,x,y,_,hh2.zh,r1.same s2,r2,e,fun p vs hp r=>k p vs Z2 H2 hh2 (s1.trans s2) hp r⟩⟩⟩
end
end VL
set_option Elab.async false
set_option linter.all false
set_option maxRecDepth 100000
set_option maxHeartbeats 4000000
namespace VL
open PySem PySem.Spec PyProof.Rows L2
structure BlkOkC (on:List (Str×NameKind)) (ON:List Str) (scope:Scope) (m:Str) (vars:List Str) (caps:List (Nat×Str)):Prop where
 kind:scope.kind=.function
 one:(scope.names.filter fun y=>y.2==NameKind.cell)=[(m,NameKind.cell)]
 names:∀ y∈scope.names,y.2=.local->scope.names.lookup y.1=some .local
 free:∀ y∈scope.names,y.2=.free->on.lookup y.1=some .cell\/on.lookup y.1=some .free
 cap:∀ p∈caps,ON[p.1]? = some p.2/\scope.names.lookup p.2=some .free
 mc:scope.names.lookup m=some .cell
section
variable {X:Cx} {pins:List (Addr×Obj)} {σ:St} {H H':Hp} {s s':Shared} {scope:Scope} {m:Str} {vars:List Str} {caps:List (Nat×Str)} {fp:List Addr} {C:Addr}
theorem BlkOkC.cells (B:BlkOkC X.env.scope.names X.N scope m vars caps) (I:Inv X pins σ H s):∀ y∈scope.names,y.2=.free->∃ c,X.env.cells.lookup y.1=some c:=fun y hy e=>I.ok.has y.1 (B.free y hy e)
end
section
variable {X:Cx} {scope:Scope} {m:Str} {vars:List Str} {caps:List (Nat×Str)} {elt tg iter:Expr} {pos:Pos} {wi:TI} {g:TG} {te:TE}
end
section
variable {X:Cx} {scope:Scope} {m:Str} {vars:List Str} {caps:List (Nat×Str)} {elt tg iter:Expr} {pos:Pos} {g:TG} {fi:Dv->Option (List D)} {fe:Dv->Option D} {bv:D->Option (List D)}
end
end VL
set_option Elab.async false
set_option linter.all false
set_option maxRecDepth 100000
set_option maxHeartbeats 4000000
namespace VL
open PySem PySem.Spec PyProof.Rows L2
noncomputable def Mp (K:Fg) (g:List D->Option D):Sp:=fun vs H Q _=>∃ Z as ds,Same Z H/\Reps K Z vs as/\g as=some (.list ds)/\∀ p us Z' H',New Z H Z' H'->H' p=none->Reps K Z' us ds->Q (.ref p) (upd H' p (.lst us))
section
variable {X:Cx} {e:Expr} {es:List Expr} {p pos:Pos} {st:Stmt} {sts:List Stmt} {f:Dv->Option (List D)} {fs:Dv->Option (List D)} {s:Sf}
end
section
variable {P:Program} {w:World} {K:PySem.W.Frag} {mg:Str->Option Value} {base:Heap}
structure CalO (P:Program) (w:World) (K:PySem.W.Frag) (mg:Str->Option Value) (base:Heap) (x:Str) (k:Nat) (g:List D->Option D) (dd:List D):Prop where
 ex:∃ (fa:Addr) (fd:FuncData) (ps:List Str) (ds:List Value) (dv:List V),FnOk P w K mg base dN k fa fd ps (Mp K g)/\mg x=some (.ref fa)/\PySem.W.keepIn K (.ref fa)=true/\Binds K fd ps ds/\Vals dv ds/\∀ Z,Reps K Z dv dd
end
section
variable {X:Cx} {e:Expr} {es:List Expr} {p pos:Pos} {fs:Dv->Option (List D)}
end
section
variable {X:Cx} {scope:Scope} {m:Str} {vars:List Str} {caps:List (Nat×Str)} {elt tg iter:Expr} {pos:Pos} {g:TG} {fi:Dv->Option (List D)} {fe:Dv->Option D} {bv:D->Option (List D)}
end
theorem qF {α:Type}:∀ {us:List α},us.length=1->∃ a,us=[a]
 | [a],_=>⟨a,rfl⟩
theorem fW {α:Type} {us:List α} (h:us.length=2):∃ a b,us=[a,b]:=by
 cases us with
 | nil=>cases h
 | cons a r=>
  obtain ⟨b,rfl⟩:=qF (Nat.succ.inj h)
  exact ⟨a,b,rfl⟩
theorem sH {α:Type} {us:List α} (h:us.length=3):∃ a b c,us=[a,b,c]:=by
 cases us with
 | nil=>cases h
 | cons a r=>
  obtain ⟨b,c,rfl⟩:=fW (Nat.succ.inj h)
  exact ⟨a,b,c,rfl⟩
theorem FJ {α:Type} {us:List α} (h:us.length=4):∃ a b c d,us=[a,b,c,d]:=by
 cases us with
 | nil=>cases h
 | cons a r=>
  obtain ⟨b,c,d,rfl⟩:=sH (Nat.succ.inj h)
  exact ⟨a,b,c,d,rfl⟩
theorem B6 {α:Type} {us:List α} (h:us.length=5):∃ a b c d e,us=[a,b,c,d,e]:=by
 cases us with
 | nil=>cases h
 | cons a r=>
  obtain ⟨b,c,d,e,rfl⟩:=FJ (Nat.succ.inj h)
  exact ⟨a,b,c,d,e,rfl⟩
end VL
set_option Elab.async false
set_option linter.all false
set_option maxRecDepth 100000
set_option maxHeartbeats 4000000
namespace VL
open PySem PySem.Spec PyProof.Rows L2
section
variable {X:Cx} {e:Expr} {es:List Expr} {p p' pos:Pos} {st:Stmt} {sts body:List Stmt} {f f1 f2:Dv->Option (List D)} {s:Sf} {c:Expr} {ft:Dv->Option Bool}
end
end VL
set_option Elab.async false
set_option linter.all false
set_option maxRecDepth 100000
set_option maxHeartbeats 4000000
namespace VL
open PySem PySem.Spec PyProof.Rows L2
noncomputable def GZ:List Int->Option Int
 | []=>none
 | b::bs=>some (bs.foldl (fun m x=>if x>m then x else m) b)
noncomputable def pq:List D->Option D
 | [.list xs]=>(lC xs).bind fun bs=>(GZ bs).map .int
 | [.tuple xs]=>(lC xs).bind fun bs=>(GZ bs).map .int
 | _=>none
theorem pT {M:Int}:∀ (bs:List Int) (b:Int),(M=b\/M∈bs)->b<=M->(∀ a∈bs,a<=M)->bs.foldl (fun m x=>if x>m then x else m) b=M
 | [],b,h,hb,_=>by
  rcases h with h | h
  ·exact h.symm
  ·cases h
 | c::bs,b,h,hb,hl=>by
  have hc:=hl c List.mem_cons_self
  have hr:=fun a ha=>hl a (List.mem_cons_of_mem _ ha)
  show bs.foldl _ (if c>b then c else b)=M
  by_cases q:c>b
  ·rw [if_pos q]
   refine pT bs c ?_ hc hr
   rcases h with h | h
   ·exact .inl (by omega)
   ·rcases List.mem_cons.mp h with h | h
    ·exact .inl h
    ·exact .inr h
  ·rw [if_neg q]
   refine pT bs b ?_ hb hr
   rcases h with h | h
   ·exact .inl h
   ·rcases List.mem_cons.mp h with h | h
    ·exact .inl (by omega)
    ·exact .inr h
theorem uq {prog:Program} {w:World} {A:Around} {E:Value->Shared->Prop} {s:Shared} {l:Addr} {xs:Array (Int×Tok)} {Q:Value->Shared->Prop} (hh:A.handled=none) (hl:s.heap.IsTuple l (intItems xs)) (hne:0<xs.size)
  (h:∀ v h' tk,(intItems xs)[argBest (fun i j=>decide (numAt xs i>numAt xs j)) (xs.size-1)]? = some v->(∀ b o,s.heap.get? b=some o->h'.get? b=some o)->Q v { s with heap:=h',toks:=tk }):wpAny (model prog w) A (call (.builtin "max") [.ref l]) Q E s:=by
 have hlt:l<s.heap.objs.size:=by obtain ⟨_,e,_⟩:=hl; exact Heap.lt_size e
 refine call_max_walk (wpAny_pyIter_tuple hl ?_)
 refine ⟨_,[s.heap.objs.size,l],[s.heap.objs.size],_,_,_,_,rfl,Walks.tuple (A:=A.in1) hh _ l (Nat.ne_of_lt hlt) (intItems xs),⟨⟨_,Heap.get?_push_size _ rfl,rfl,rfl⟩,hl.push _⟩,fun b hb=>?_,by simpa [intItems] using hne,CmpOf.ints_gt (numAt xs) (fun _ _=>intItems_at),fun v h' tk hP hk=>?_⟩
 ·show b<(s.heap.push _).objs.size
  rw [Heap.size_push]
  rcases List.mem_cons.mp hb with rfl | hb
  ·exact Nat.lt_succ_self _
  ·rcases List.mem_cons.mp hb with rfl | hb
   ·exact Nat.lt_succ_of_lt hlt
   ·cases hb
 ·refine h v h' tk (by simpa [intItems] using hP) fun b o e=>hk b o (fun hm=>?_) (Heap.get?_push_of_some _ e)
  rcases List.mem_cons.mp hm with e1 | hm
  ·exact absurd (e1 ▸ Heap.lt_size e) (Nat.lt_irrefl _)
  ·cases hm
section
variable {X:Cx}
theorem Ab (hc:X.calm=true):CallR X (.builtin "max") (xF X.K pq):=by
 intro pins s σ H xs us Q I rs q
 obtain ⟨Z,as,d,zh,ra,e,k⟩:=q
 cases ra with
 | nil=>cases e
 | cons r1 r2=>
  cases r2 with
  | cons _ _=>cases r1 <;> cases e
  | nil=>
   cases r1 with
   | @lst l ys ds h1 q1=>
    obtain ⟨bs,g,e⟩:=bind_some (show (lC ds).bind _=some d from e)
    cases bs with
    | nil=>cases e
    | cons b bs=>
     cases e
     obtain ⟨u,rfl,ru⟩:=o5 rs
     cases ru
     obtain ⟨its,rv,pl,hz⟩:=I.list (SqL.same h1 zh)
     have hi:=nG q1 rv g
     obtain ⟨zs,hx⟩:=hi.allInts.items
     have hl':s.heap.IsList l (intItems zs):=hx ▸ pl.isList
     have e1:b::bs=zs.toList.map (·.1):=by
      rw [<- nums_intItems,<- hx]
      exact (show numsOf its.toArray.toList=b::bs from hi.numsOf).symm
     have hsz:0<zs.size:=by
      have q:bs.length+1=zs.toList.length:=by
       have q:=congrArg List.length e1
       rw [List.length_map] at q
       exact q
      have z:zs.toList.length=zs.size:=Array.length_toList
      omega
     refine max_intList (I.ok.hd hc) hl' hsz fun v h' tk hv hk=>?_
     obtain ⟨t,rfl⟩:=intItems_at hv
     obtain ⟨m1,m2⟩:=argBest_gt (numAt zs) (zs.size-1)
     have hM:numAt zs (argBest (fun i j=>decide (numAt zs i>numAt zs j)) (zs.size-1))∈b::bs:=by
      rw [e1,numAt_eq]; exact getD_mem (by rw [List.length_map,Array.length_toList]; omega)
     have hA:∀ a∈b::bs,a<=numAt zs (argBest (fun i j=>decide (numAt zs i>numAt zs j)) (zs.size-1)):=fun a ha=>by
      rw [e1] at ha
      obtain ⟨j,hj,rfl⟩:=mem_getD ha
      rw [List.length_map,Array.length_toList] at hj
      rw [<- numAt_eq]; exact m2 j (by omega)
     have:=pT bs b (List.mem_cons.mp hM) (hA b List.mem_cons_self) fun a ha=>hA a (List.mem_cons_of_mem _ ha)
     exact ⟨.int _,H,I.kept (t':=tk) hk,⟨t,rfl⟩,k _ Z H (New.refl zh) (by rw [this]; exact .int _)⟩
   | @tup l ys ds h1 q1=>
    obtain ⟨bs,g,e⟩:=bind_some (show (lC ds).bind _=some d from e)
    cases bs with
    | nil=>cases e
    | cons b bs=>
     cases e
     obtain ⟨u,rfl,ru⟩:=o5 rs
     cases ru
     obtain ⟨its,rv,pl,hz⟩:=I.tuple (SqT.same h1 zh)
     have hi:=nG q1 rv g
     obtain ⟨zs,hx⟩:=hi.allInts.items
     have hl':s.heap.IsTuple l (intItems zs):=hx ▸ pl
     have e1:b::bs=zs.toList.map (·.1):=by
      rw [<- nums_intItems,<- hx]
      exact (show numsOf its.toArray.toList=b::bs from hi.numsOf).symm
     have hsz:0<zs.size:=by
      have q:bs.length+1=zs.toList.length:=by
       have q:=congrArg List.length e1
       rw [List.length_map] at q
       exact q
      have z:zs.toList.length=zs.size:=Array.length_toList
      omega
     refine uq (I.ok.hd hc) hl' hsz fun v h' tk hv hk=>?_
     obtain ⟨t,rfl⟩:=intItems_at hv
     obtain ⟨m1,m2⟩:=argBest_gt (numAt zs) (zs.size-1)
     have hM:numAt zs (argBest (fun i j=>decide (numAt zs i>numAt zs j)) (zs.size-1))∈b::bs:=by
      rw [e1,numAt_eq]; exact getD_mem (by rw [List.length_map,Array.length_toList]; omega)
     have hA:∀ a∈b::bs,a<=numAt zs (argBest (fun i j=>decide (numAt zs i>numAt zs j)) (zs.size-1)):=fun a ha=>by
      rw [e1] at ha
      obtain ⟨j,hj,rfl⟩:=mem_getD ha
      rw [List.length_map,Array.length_toList] at hj
      rw [<- numAt_eq]; exact m2 j (by omega)
     have:=pT bs b (List.mem_cons.mp hM) (hA b List.mem_cons_self) fun a ha=>hA a (List.mem_cons_of_mem _ ha)
     exact ⟨.int _,H,I.kept (t':=tk) hk,⟨t,rfl⟩,k _ Z H (New.refl zh) (by rw [this]; exact .int _)⟩
   | _=>cases e
end
end VL
set_option Elab.async false
set_option linter.all false
set_option maxRecDepth 100000
set_option maxHeartbeats 4000000
namespace VL
open PySem PySem.Spec PyProof.Rows L2
noncomputable def DefIn (K:PySem.W.Frag) (x y:Str) (st:Stmt):Prop:=∃ f fd,PySem.W.nsIn K mainGlobals x=some (some (.ref f))/\FunV K y y st f fd .none/\PySem.W.keepIn K (.ref f)=true
noncomputable def aE (x:Str) (st:Stmt) (ps:List Str):Prop:=∀ (kV doc pm:Value) (an:Option Addr) (cdv ct:Value) (us:List Value),us.length=ps.length->bindArgs (PySem.W.fnOf x x (cW st) (cj st) (aj st) .none kV doc pm an cdv ct) ⟨us,[]⟩=pure (ps.zip us)
section
variable {P:Program} {w:World} {K:PySem.W.Frag} {mg:Str->Option Value} {base h:Heap} {x y:Str} {st:Stmt} {k:Nat} {ps:List Str}
theorem DefIn.mk {f:Addr} {oc:Value} {od an:Option Addr} {osl:Array (Option Value)} {kV doc pm cdv ct:Value} (a:PySem.W.nsIn K mainGlobals x=some (some (.ref f))) (l:K.lookup f=some ⟨oc,od,.func (PySem.W.fnOf y y (cW st) (cj st) (aj st) .none kV doc pm an cdv ct),osl⟩)
  (c:PySem.W.codeIn K cdv y=true) (k:PySem.W.keepIn K (.ref f)=true):DefIn K x y st:=⟨_,_,a,mF l c k,k⟩
variable (D:DefIn K x y st) (X:K.In h) (G:h.Ns mainGlobals mg) (b:aE y st ps)
include D X G
include b
theorem DefIn.cal {g:List VL.D->Option VL.D} (ok:∀ f fd,FunV K y y st f fd .none->FnOk P w K mg base dN k f fd ps (fh K g)):Cal P w K mg base x k g []:=by
 obtain ⟨f,fd,a,F,hk⟩:=D
 exact Cal.mk0 (ok f fd F) (PySem.W.mg_of X G a) hk (F.binds b)
end
noncomputable def L9 (fd:FuncData) (us:List Value):{kk:Option (Array Value)->Sem (List (Str×Value)) // bindArgs fd ⟨us,[]⟩=seqItems? fd.defaults >>= kk}:=⟨_,rfl⟩
theorem FunV.bindsK {K:PySem.W.Frag} {x qual:Str} {st:Stmt} {f T:Addr} {fd:FuncData} {ps:List Str} {o:Obj} {items:Array Value} {n:Nat} {ds:List Value} (F:FunV K x qual st f fd (.ref T)) (ho:K.lookup T=some o) (hs:o.data=.seq items n) (nu:Nat) (hn:nu+ds.length=ps.length)
  (h:∀ (kV doc pm:Value) (an:Option Addr) (cdv ct:Value) (us:List Value),us.length=nu->(L9 (PySem.W.fnOf x qual (cW st) (cj st) (aj st) (.ref T) kV doc pm an cdv ct) us).1 (some items)=pure (ps.zip (us++ds))):Binds K fd ps ds:=
 F.bindsD ho hs nu hn fun kV doc pm an cdv ct us hl=>⟨_,(L9 (PySem.W.fnOf x qual (cW st) (cj st) (aj st) (.ref T) kV doc pm an cdv ct) us).2,h kV doc pm an cdv ct us hl⟩
end VL
set_option Elab.async false
set_option linter.all false
set_option maxRecDepth 100000
set_option maxHeartbeats 4000000
namespace VL
open PySem PySem.Spec PyProof.Rows L2
open AutoSeq1 (wpAny_loadPart')
section
variable {X:Cx}
end
end VL
set_option Elab.async false
set_option linter.all false
set_option maxRecDepth 100000
set_option maxHeartbeats 4000000
namespace VL
open PySem PySem.Spec PyProof.Rows L2
noncomputable def IC (z:Bool):D->D->Option D
 | .bool a,.bool b=>some (.bool (z != (a==b)))
 | _,_=>none
@[simp] theorem IB (z a b:Bool):IC z (.bool a) (.bool b)=some (.bool (z != (a==b))):=rfl
theorem FX {z:Bool} {a b d:D} (h:IC z a b=some d):∃ x y,a=.bool x/\b=.bool y/\d=.bool (z != (x==y)):=by
 cases a with
 | bool x=>
  cases b with
  | bool y=>exact ⟨x,y,rfl,rfl,(Option.some.inj h).symm⟩
  | _=>cases h
 | _=>cases h
section
variable {X:Cx}
theorem CQ:OpR X (compareOp .IsNot) (rD X.K (IC true)):=by
 intro pins s σ H x y v u Q I rx ry q
 obtain ⟨Z,a,b,d,zh,ra,rb,e,k⟩:=q
 obtain ⟨c,c',rfl,rfl,rfl⟩:=FX e
 cases ra.bl_eq
 cases rb.bl_eq
 cases rx
 cases ry
 exact isnot_bool (zR I (k _ Z H (New.refl zh) (.bl _)) (by cases c <;> cases c' <;> rfl))
end
end VL
set_option Elab.async false
set_option linter.all false
set_option maxRecDepth 100000
set_option maxHeartbeats 4000000
namespace VL
open PySem PySem.Spec PyProof.Rows L2
section
variable {m:Bool} {X:Cx} {e c:Expr} {es:List Expr} {f:Dv->Option D} {fs:Dv->Option (List D)} {ft:Dv->Option Bool} {fx:Dv->Option Str} {st:Stmt} {sts body orelse:List Stmt} {s1:Sf} {u u1 u2:Xf} {pos p:Pos}
end
end VL
set_option Elab.async false
set_option linter.all false
set_option maxRecDepth 100000
namespace L2
open PySem PySem.Spec PyProof.Rows
end L2
namespace L2
open PySem PySem.Spec PyProof.Rows
section
variable (P:Program) (w:World)
end
section
variable {P:Program} {w:World} {H H':Hp} {h h':Heap} {a:Addr} {o:HO}
end
section
variable {P:Program} {w:World} {H:Hp} {h h':Heap} {x e:Addr} {o':HO}
end
section
variable {fs fs' ex ex':List Addr} {H H1 H2:Hp} {h h1 h2 h':Heap} {a x e:Addr} {o:HO}
end
end L2
namespace L2
open PySem PySem.Spec PyProof.Rows
section
variable {X:Cx} {pins:List (Addr×Obj)} {σ:List (Option V)} {H H':Hp} {s:Shared} {h':Heap}
end
end L2
namespace L2
open PySem PySem.Spec PyProof.Rows
section
variable {X:Cx}
variable {a b:Expr} {ta tb:TE} {pos:Pos}
variable {tA tB':TT} {rest:List Expr}
end
end L2
namespace L2
open PySem PySem.Spec PyProof.Rows
section
variable {X:Cx} {pins:List (Addr×Obj)} {σ:St} {H:Hp} {s:Shared} {a:Addr} {xs ys:List V}
end
section
variable {X:Cx} {pins:List (Addr×Obj)} {σ:St} {H:Hp} {s:Shared} {E:Value->Shared->Prop}
end
section
variable {X:Cx} {st:Stmt} {rest:List Stmt} {t u:TS} {e:Expr} {te:TE} {pos:Pos}
end
section
variable {X:Cx} {pos:Pos}
end
section
variable {X:Cx} {pos:Pos}
end
end L2
namespace L2
open PySem PySem.Spec PyProof.Rows
section
variable {X:Cx} {tg:Expr}
end
end L2
namespace L2
open PySem PySem.Spec PyProof.Rows
section
variable {X:Cx} {a b c:Expr} {ta tb tc:TE} {pos:Pos}
end
section
variable {X:Cx} {a b c:Expr} {ta tb tc:TE} {pos:Pos}
end
end L2
namespace L2
open PySem PySem.Spec PyProof.Rows
section
variable {prog:Program} {w:World} {A:Around} {E:Value->Shared->Prop} {s:Shared} {K:PySem.W.Frag} {x dx C f:Addr} {mA:Str->Option Value} {name:Str} {v:Value}
end
section
variable {P:Program} {w:World} {H H':Hp} {h h':Heap} {a C dx:Addr} {fs fs':List (Str×V)}
end
section
variable {X:Cx} {pins:List (Addr×Obj)} {σ:St} {H:Hp} {s:Shared} {a C dx:Addr} {fs:List (Str×V)} {f:Str} {v:V} {A:Around} {E:Value->Shared->Prop}
end
section
variable {X:Cx} {o e value:Expr} {f:Str} {pos pos' tpos:Pos} {ta tv:TE}
end
section
variable {X:Cx} {pins:List (Addr×Obj)} {σ:St} {H:Hp} {s:Shared} {A:Around} {E:Value->Shared->Prop} {Q:Value->Shared->Prop} {c:Value} {b:Bool}
end
end L2
namespace L2
open PySem PySem.Spec PyProof.Rows
section
variable {X:Cx} {e:Expr} {es:List Expr} {te:TE} {t:TA} {pos:Pos}
end
section
variable {X:Cx} {pins:List (Addr×Obj)} {σ:St} {H:Hp} {s s':Shared}
end
section
variable {X:Cx} {CX:tM} {k:Nat} {f C:Addr} {fd:FuncData} {ps:List Str} {sp:Sp} {dvs:List V} {ds:List Value} {E:XK} {x m:Str} {p pos apos:Pos} {e o:Expr} {es:List Expr} {ta:TE} {t:TA}
end
section
variable {X:Cx} {CX:tM} {k:Nat} {f C:Addr} {fd:FuncData} {ps ks:List Str} {sp:Sp} {E:XK} {x m:Str} {p pos apos kpos:Pos} {e o:Expr} {es:List Expr} {kws:List Keyword} {te ta:TE} {t tk:TA} {nm:Option Str}
variable {g:List Value->List Value->List Value} {gV:List V->List V->List V}
end
end L2
namespace L2
open PySem PySem.Spec PyProof.Rows
section
variable {X:Cx} {x:Str} {p pos:Pos} {e:Expr} {es:List Expr} {t:TA} {id T:String} {r:List V->Hp->VK->Prop}
end
end L2
namespace L2
open PySem PySem.Spec PyProof.Rows
section
variable {κ:Type} [DecidableEq κ]
noncomputable def lM (kvs:List (κ × V)) (k:κ):Option V:=(kvs.find? fun kv=>decide (kv.1=k)).map (·.2)
noncomputable def se (kvs:List (κ × V)) (k:κ) (v:V):List (κ × V):=
 if (kvs.any fun kv=>decide (kv.1=k))=true then kvs.map (fun kv=>if kv.1=k then (kv.1,v) else kv) else kvs++[(k,v)]
noncomputable def DN (kvs:List (κ × V)) (k:κ):List (κ × V):=kvs.filter fun kv=>decide (kv.1≠k)
theorem mK {p:κ × V} {r:List (κ × V)} {k:κ} (e:p.1=k):lM (p::r) k=some p.2:=by simp [lM,List.find?_cons,e]
theorem mL {p:κ × V} {r:List (κ × V)} {k:κ} (e:¬ p.1=k):lM (p::r) k=lM r k:=by simp [lM,List.find?_cons,e]
theorem rH (k:κ):∀ kvs:List (κ × V),(kvs.any fun kv=>decide (kv.1=k))=(lM kvs k).isSome
 | []=>rfl
 | p::r=>by
  rw [List.any_cons]
  by_cases e:p.1=k
  ·simp only [mK e,decide_eq_true e,Bool.true_or,Option.isSome_some]
  ·rw [mL e,decide_eq_false e,Bool.false_or]; exact rH k r
theorem RelO.isSome_eq {o:Option V} {u:Option Value} (r:RelO o u):o.isSome=u.isSome:=by
 cases o with
 | none=>cases u with
  | none=>rfl
  | some _=>exact (show False from r).elim
 | some _=>cases u with
  | none=>exact (show False from r).elim
  | some _=>rfl
theorem RelO.getD {o:Option V} {u:Option Value} {d:V} {d':Value} (r:RelO o u) (rd:RelV d d'):RelV (o.getD d) (u.getD d'):=by
 cases o with
 | none=>cases u with
  | none=>exact rd
  | some _=>exact (show False from r).elim
 | some _=>cases u with
  | none=>exact (show False from r).elim
  | some _=>exact r
theorem KV.val {kvs:List (κ × V)} {vs:List (κ × Value)} (r:KV kvs vs) (k:κ):RelO (lM kvs k) (valueAt vs k):=by
 unfold KV at r
 induction r with
 | nil=>exact True.intro
 | @cons p q ps qs h t ih=>
  obtain ⟨h1,h2⟩:=h
  by_cases e:p.1=k
  ·have e':q.1=k:=h1.symm.trans e
   have b:valueAt (q::qs) k=some q.2:=by simp [valueAt,List.find?_cons,e']
   rw [mK e,b]; exact h2
  ·have e':¬ q.1=k:=fun z=>e (h1.trans z)
   have b:valueAt (q::qs) k=valueAt qs k:=by simp [valueAt,List.find?_cons,e']
   rw [mL e,b]; exact ih
theorem KV.any {kvs:List (κ × V)} {vs:List (κ × Value)} (r:KV kvs vs) (k:κ):(kvs.any fun kv=>decide (kv.1=k))=vs.any fun kv=>decide (kv.1=k):=by
 unfold KV at r
 induction r with
 | nil=>rfl
 | cons h t ih=>rw [List.any_cons,List.any_cons,ih,h.1]
theorem KV.repl {kvs:List (κ × V)} {vs:List (κ × Value)} (r:KV kvs vs) (k:κ) {y:V} {u:Value} (ry:RelV y u) :
  KV (kvs.map fun kv=>if kv.1=k then (kv.1,y) else kv) (vs.map fun kv=>if kv.1=k then (kv.1,u) else kv):=by
 unfold KV at r ⊢
 induction r with
 | nil=>exact .nil
 | @cons p q ps qs h t ih=>
  rw [List.map_cons,List.map_cons]
  refine .cons ?_ ih
  obtain ⟨h1,h2⟩:=h
  by_cases e:p.1=k
  ·rw [if_pos e,if_pos (h1.symm.trans e)]; exact ⟨h1,ry⟩
  ·rw [if_neg e,if_neg (fun z=>e (h1.trans z))]; exact ⟨h1,h2⟩
theorem KV.put {kvs:List (κ × V)} {vs:List (κ × Value)} (r:KV kvs vs) (k:κ) {y:V} {u:Value} (ry:RelV y u):KV (se kvs k y) (stored vs k u):=by
 unfold se stored
 rw [r.any k]
 by_cases e:(vs.any fun kv=>decide (kv.1=k))=true
 ·rw [if_pos e,if_pos e]; exact r.repl k ry
 ·rw [if_neg e,if_neg e]; exact Paired.snoc r ⟨rfl,ry⟩
theorem KV.drop {kvs:List (κ × V)} {vs:List (κ × Value)} (r:KV kvs vs) (k:κ):KV (DN kvs k) (without vs k):=by
 unfold KV at r ⊢
 unfold DN without
 induction r with
 | nil=>exact .nil
 | @cons p q ps qs h t ih=>
  obtain ⟨h1,h2⟩:=h
  rw [List.filter_cons,List.filter_cons]
  by_cases e:p.1=k
  ·have a:¬ decide (p.1≠k)=true:=by simp [e]
   have b:¬ decide (q.1≠k)=true:=by simp [h1.symm.trans e]
   rw [if_neg a,if_neg b]; exact ih
  ·have e':¬ q.1=k:=fun z=>e (h1.trans z)
   have a:decide (p.1≠k)=true:=by simp [e]
   have b:decide (q.1≠k)=true:=by simp [e']
   rw [if_pos a,if_pos b]; exact .cons ⟨h1,h2⟩ ih
theorem KV.keys {kvs:List (κ × V)} {vs:List (κ × Value)} (r:KV kvs vs):kvs.map (·.1)=vs.map (·.1):=by
 unfold KV at r
 induction r with
 | nil=>rfl
 | cons h t ih=>rw [List.map_cons,List.map_cons,ih,h.1]
theorem KV.length {kvs:List (κ × V)} {vs:List (κ × Value)} (r:KV kvs vs):kvs.length=vs.length:=Paired.length r
end
theorem DH {P:Program} {w:World} {k:ee} {u:Value} (r:RelV (kV k) u):(fI P w).is k u=true:=by
 cases k with
 | inl i=>obtain ⟨t,e⟩:=(show ∃ t,u=Value.int i t from r); subst e; exact sE P w i t
 | inr x=>obtain ⟨t,e⟩:=(show ∃ t,u=Value.str x t from r); subst e; exact sD P w x t
theorem pA {P:Program} {w:World}:∀ {ks:List ee} {us:List Value},Vals (ks.map kV) us->ItemsAre (fI P w) ks us
 | [],_,r=>by rw [List.map_nil] at r; cases r; exact .nil
 | k::ks,_,r=>by
  rw [List.map_cons] at r
  cases r with
  | cons h t=>exact .cons (DH h) (pA t)
noncomputable abbrev KT (H:Hp):List (List ee×V)->List (List ee×Addr×Value)->Prop:=Paired fun p q=>p.1=q.1/\H q.2.1=some (.tup (p.1.map kV))/\RelV p.2 q.2.2
theorem KT.val {H:Hp} {kvs:List (List ee×V)} {xs:List (List ee×Addr×Value)} (r:KT H kvs xs) (k:List ee):RelO (lM kvs k) ((atKey xs k).map (·.2)):=by
 induction r with
 | nil=>exact True.intro
 | @cons p q ps qs h t ih=>
  obtain ⟨h1,_,h2⟩:=h
  by_cases e:p.1=k
  ·have e':q.1=k:=h1.symm.trans e
   have b:atKey (q::qs) k=some q.2:=by simp [atKey,List.find?_cons,e']
   rw [mK e,b]; exact h2
  ·have e':¬ q.1=k:=fun z=>e (h1.trans z)
   have b:atKey (q::qs) k=atKey qs k:=by simp [atKey,List.find?_cons,e']
   rw [mL e,b]; exact ih
theorem KT.repl {H:Hp} {kvs:List (List ee×V)} {xs:List (List ee×Addr×Value)} (r:KT H kvs xs) (k:List ee) {y:V} {u:Value} (ry:RelV y u) :
  KT H (kvs.map fun kv=>if kv.1=k then (kv.1,y) else kv) (xs.map (putAt k u)):=by
 induction r with
 | nil=>exact .nil
 | @cons p q ps qs h t ih=>
  rw [List.map_cons,List.map_cons]
  refine .cons ?_ ih
  obtain ⟨h1,h2,h3⟩:=h
  unfold putAt
  by_cases e:p.1=k
  ·rw [if_pos e,if_pos (h1.symm.trans e)]; exact ⟨h1,h2,ry⟩
  ·rw [if_neg e,if_neg (fun z=>e (h1.trans z))]; exact ⟨h1,h2,h3⟩
theorem KT.put {H:Hp} {kvs:List (List ee×V)} {xs:List (List ee×Addr×Value)} (r:KT H kvs xs) (k:List ee) {b:Addr} {y:V} {u:Value} (hb:H b=some (.tup (k.map kV))) (ry:RelV y u) :
  KT H (se kvs k y) (storedH xs k b u):=by
 have e:(kvs.any fun kv=>decide (kv.1=k))=(atKey xs k).isSome:=by
  rw [rH,(r.val k).isSome_eq,Option.isSome_map]
 unfold se storedH
 rw [e]
 by_cases q:(atKey xs k).isSome=true
 ·rw [if_pos q,if_pos q]; exact r.repl k ry
 ·rw [if_neg q,if_neg q]; exact Paired.snoc r ⟨rfl,hb,ry⟩
theorem KT.keeps {H H':Hp} {kvs:List (List ee×V)} {xs:List (List ee×Addr×Value)} (r:KT H kvs xs) (ht:∀ b ys,H b=some (.tup ys)->H' b=some (.tup ys)):KT H' kvs xs:=
 Paired.mapP r fun _ _ z=>⟨z.1,ht _ _ z.2.1,z.2.2⟩
section
variable {P:Program} {w:World} {H:Hp} {h:Heap} {a:Addr}
theorem Dn {u:HO} (ok:HOk P w H h) (e:Rd H a u):ObjOk P w H h a u:=e.ok ok
theorem Jf {kvs:List (ee×V)} (ok:HOk P w H h) (e:Rd H a (.dK kvs)):kvs.length<=sizeLine/\(a==sysModules)=false/\∃ vs,KV kvs vs/\h.DictOf (fI P w) a vs:=
 show ObjOk P w H h a (.dK kvs) from Dn ok e
theorem zI {ks:List ee} (ok:HOk P w H h) (e:H a=some (.tup (ks.map kV))):(tupleKind (fI P w)).is h ks a:=by
 obtain ⟨_,its,r,o,h1,h2,n,h3⟩:=(show ObjOk P w H h a (.tup (ks.map kV)) from ok a _ e)
 exact ⟨o,its.toArray,n,h1,h2,h3,by simpa using pA r⟩
theorem Je {kvs:List (List ee×V)} (ok:HOk P w H h) (e:Rd H a (.dT kvs)):kvs.length<=sizeLine/\(a==sysModules)=false /\
  ∃ xs,KT H kvs xs/\h.DictOfH (tupleKind (fI P w)) a xs:=by
 obtain ⟨z,y,xs,r,o,es,ep,h1,h2,h3,h4,h5⟩:=(show ObjOk P w H h a (.dT kvs) from Dn ok e)
 refine ⟨z,y,xs,r,o,es,ep,h1,h2,h3,h4,fun x hx=>?_,h5⟩
 have all:∀ {l:List (List ee×V)} {m:List (List ee×Addr×Value)},KT H l m->∀ x∈m,(tupleKind (fI P w)).is h x.1 x.2.1:=by
  intro l m q
  induction q with
  | nil=>intro x hx; exact nomatch hx
  | @cons p q ps qs hq t ih=>
   intro x hx
   rcases List.mem_cons.mp hx with e | hx
   ·subst e
    exact zI ok (by rw [<- hq.1]; exact hq.2.1)
   ·exact ih x hx
 exact all r x hx
end
noncomputable def DGet (H:Hp) (a:Addr) (y:V) (r:Option V):Prop:=
 (∃ kvs k,Rd H a (.dK kvs)/\y=kV k/\r=lM kvs k)\/∃ kvs k b,Rd H a (.dT kvs)/\y=.ref b/\H b=some (.tup (k.map kV))/\r=lM kvs k
noncomputable def DPut (H:Hp) (a:Addr) (y v:V) (H':Hp):Prop:=
 (∃ kvs k,H a=some (.dK kvs)/\y=kV k/\kvs.length<sizeLine/\H'=upd H a (.dK (se kvs k v))) \/
 ∃ kvs k b,H a=some (.dT kvs)/\y=.ref b/\H b=some (.tup (k.map kV))/\kvs.length<sizeLine/\H'=upd H a (.dT (se kvs k v))
theorem DGet.k {H:Hp} {a:Addr} {kvs:List (ee×V)} {k:ee} (e:H a=some (.dK kvs)):DGet H a (kV k) (lM kvs k):=.inl ⟨kvs,k,.inl e,rfl,rfl⟩
theorem DGet.t {H:Hp} {a b:Addr} {kvs:List (List ee×V)} {k:List ee} (e:H a=some (.dT kvs)) (eb:H b=some (.tup (k.map kV))):DGet H a (.ref b) (lM kvs k):=.inr ⟨kvs,k,b,.inl e,rfl,eb,rfl⟩
theorem DPut.k {H:Hp} {a:Addr} {kvs:List (ee×V)} {k:ee} {v:V} (e:H a=some (.dK kvs)) (hl:kvs.length<sizeLine):DPut H a (kV k) v (upd H a (.dK (se kvs k v))):=.inl ⟨kvs,k,e,rfl,hl,rfl⟩
theorem DPut.t {H:Hp} {a b:Addr} {kvs:List (List ee×V)} {k:List ee} {v:V} (e:H a=some (.dT kvs)) (eb:H b=some (.tup (k.map kV))) (hl:kvs.length<sizeLine) :
  DPut H a (.ref b) v (upd H a (.dT (se kvs k v))):=.inr ⟨kvs,k,b,e,rfl,eb,hl,rfl⟩
section
variable {X:Cx} {pins:List (Addr×Obj)} {σ:St} {H:Hp} {s:Shared} {a:Addr} {y v:V} {u r:Value} {o:Option V} {A:Around} {E:Value->Shared->Prop}
theorem zY {Q:Value->Shared->Prop} (hu:A.units+1<cLine) (I:Inv X pins σ H s) (g:DGet H a y o) (ry:RelV y u) (h:∀ s',Inv X pins σ H s'->Q (.bool o.isSome) s') :
  wpAny (model X.prog X.w) A (compareOp .In u (.ref a)) Q E s:=by
 rcases g with ⟨kvs,k,e,ey,l⟩ | ⟨kvs,k,b,e,ey,eb,l⟩
 ·subst ey
  obtain ⟨z,hd,vs,rel,dd⟩:=Jf I.hok e
  refine wpAny_in_of (DH ry) hd dd.mapOf ?_
  rw [<- (rel.val k).isSome_eq,<- l]
  exact h _ (I.tok _)
 ·subst ey
  cases (show u=Value.ref b from ry)
  obtain ⟨z,hd,xs,rel,dd⟩:=Je I.hok e
  refine wpAny_in_heap (tupleKind_room_in1 hu) (zI I.hok eb) hd dd ?_
  have q:=(rel.val k).isSome_eq
  rw [Option.isSome_map] at q
  rw [<- q,<- l]
  exact h _ (I.tok _)
end
section
variable {X:Cx} {pins:List (Addr×Obj)} {σ:St} {H:Hp} {s:Shared} {a:Addr} {kvs:List (ee×V)} {k:ee} {u:Value} {A:Around} {E:Value->Shared->Prop}
end
section
variable {X:Cx} {o i e value:Expr} {pos pos' tpos:Pos} {td ty tv:TE}
end
section
variable {X:Cx} {pos:Pos}
end
structure M1 (X:Cx) (o:Expr) (m:Str) (apos:Pos) (e:Expr) (cpos:Pos):Prop where
 base:attributeBase o m X.env (eval o X.env)=eval o X.env
 few:((backTo cpos (starEach [e] X.env)).all (fun x=>!x.1)&&(backToKw cpos (keywordEach [] X.env)).all (fun x=>x.1.isSome)
  && decide (([e]:List Expr).length+([]:List Keyword).length+(if ([]:List Keyword).isEmpty then 0 else 1)<30))=true
 line:(apos.endLine==cpos.line)=true
 trees:backTo cpos (starEach [e] X.env)=[(false,eval e X.env)]
structure M2 (X:Cx) (o:Expr) (m:Str) (apos:Pos) (e f:Expr) (cpos:Pos):Prop where
 base:attributeBase o m X.env (eval o X.env)=eval o X.env
 few:((backTo cpos (starEach [e,f] X.env)).all (fun x=>!x.1)&&(backToKw cpos (keywordEach [] X.env)).all (fun x=>x.1.isSome)
  && decide (([e,f]:List Expr).length+([]:List Keyword).length+(if ([]:List Keyword).isEmpty then 0 else 1)<30))=true
 line:(apos.endLine==cpos.line)=true
 trees:backTo cpos (starEach [e,f] X.env)=[(false,eval e X.env),(false,eval f X.env)]
section
variable {X:Cx} {pins:List (Addr×Obj)} {σ:St} {H:Hp} {s:Shared} {a:Addr} {y d:V} {u r:Value} {o:Option V} {A:Around} {E:Value->Shared->Prop}
end
section
variable {X:Cx} {o e f:Expr} {apos cpos:Pos} {td ty tx:TE}
end
section
variable {X:Cx} {pins:List (Addr×Obj)} {σ:St} {H:Hp} {s:Shared} {a:Addr} {kvs:List (ee×V)} {A:Around} {E:Value->Shared->Prop}
end
section
variable {X:Cx} {pins:List (Addr×Obj)} {σ:St} {H:Hp} {s:Shared} {a:Addr} {y:V} {u:Value} {A:Around} {E:Value->Shared->Prop}
end
end L2
namespace Att
open PySem PySem.W PySem.Calls PyProof.Rows
section
variable {prog:Program} {w:World} {A:Around} {E:Value->Shared->Prop} {s:Shared} {K:Frag}
end
end Att
namespace L2
open PySem PySem.Spec PyProof.Rows
end L2
namespace L2
open PySem PySem.Spec PyProof.Rows
end L2
namespace L2
open PySem PySem.Spec PyProof.Rows
section
variable {P:Program} {w:World} {K:PySem.W.Frag} {mg:Str->Option Value} {base:Heap}
end
section
variable {X:Cx}
end
section
variable {κ:Type} [DecidableEq κ]
end
end L2
set_option Elab.async false
set_option linter.all false
set_option maxRecDepth 100000
set_option maxHeartbeats 4000000
namespace VL
open PySem PySem.Spec PyProof.Rows L2
noncomputable def Cy:D->Option ee
 | .int i=>some (.inl i)
 | .str x=>some (.inr x)
 | _=>none
@[simp] theorem Iw (i:Int):Cy (.int i)=some (.inl i):=rfl
noncomputable def Mq:Option Sl->Option (List (ee×D))
 | some (.own (.d es))=>some es
 | _=>none
@[simp] theorem Ko (es:List (ee×D)):Mq (some (.od es))=some es:=rfl
section
variable {X:Cx} {e b c:Expr} {p pos tpos apos cpos:Pos} {f fk fv fx:Dv->Option D}
end
end VL
set_option Elab.async false
set_option linter.all false
set_option maxRecDepth 100000
set_option maxHeartbeats 4000000
namespace VL
open PySem PySem.Spec PyProof.Rows L2
theorem jk:∀ {out:List Value} {l:List Int},IntsAre out l->Vals (l.map V.int) out
 | _,_,.nil=>.nil
 | _,_,.cons n t r=>.cons ⟨t,rfl⟩ (jk r)
section
variable {X:Cx}
variable {e:Expr} {p p2 pos pos2:Pos} {te:TE} {f:Dv->Option D}
end
end VL
set_option Elab.async false
set_option linter.all false
set_option maxRecDepth 100000
set_option maxHeartbeats 4000000
namespace VL
open PySem PySem.Spec PyProof.Rows L2
section
variable {prog:Program} {w:World} {A:Around} {E:Value->Shared->Prop} {s:Shared}
structure ZG (xs ys:Array Value) (lo:Addr) (h:Heap) (as:List Addr):Prop where
 above:∀ a∈as,lo<=a
 rise:as.Pairwise (· < ·)
 pairs:∀ (j:Nat) (a:Addr),as[j]? = some a->∃ x y,xs[j]? = some x/\ys[j]? = some y/\IsPair h a x y
end
end VL
set_option Elab.async false
set_option linter.all false
set_option maxRecDepth 100000
set_option maxHeartbeats 4000000
namespace VL
open PySem PySem.Spec PyProof.Rows L2
noncomputable def GP:List D->Option D
 | [.list a,.list b]=>some (.list (List.zipWith (fun x y=>.tuple [x,y]) a b))
 | _=>none
@[simp] noncomputable def MY (fs:Dv->Option (List D)) (g:List D->Option D):Dv->Option D:=fun δ=>(fs δ).bind g
@[simp] theorem Jz (a b:List D):GP [.list a,.list b]=some (.list (List.zipWith (fun x y=>.tuple [x,y]) a b)):=rfl
section
variable {prog:Program} {w:World} {A:Around} {s:Shared} {R:Result->Shared->Prop} {z TI TO i1 i2 l1 l2 S lo:Addr} {xs ys:Array Value}
end
section
variable {prog:Program} {w:World} {A:Around} {E:Value->Shared->Prop} {s:Shared} {z TI TO i1 i2 l1 l2:Addr} {xs ys:Array Value}
end
section
variable {X:Cx} {e1 e2:Expr} {p p2 pos pos2:Pos} {ta:TA} {fs:Dv->Option (List D)}
noncomputable def GW:Option HO->Option HO
 | some (.frz _ (.lst _))=>none
 | o=>o
theorem rJ {o:Option HO} {u:HO} (h:GW o=some u):o=some u/\BS u=true:=by
 unfold GW at h
 split at h
 ·cases h
 ·rename_i hn
  refine ⟨h,?_⟩
  unfold BS
  split
  ·exact absurd h (hn _ _)
  ·rfl
theorem New.many {Z H H':Hp} (zh:Same Z H) (ext:∀ b,H b≠none->H' b=H b):New Z H (fun b=>if H b=none then GW (H' b) else Z b) H' where
 z:=fun b u e=>by
  have:H b=some u:=zh b u e
  show (if H b=none then _ else _)=_
  rw [if_neg (by rw [this]; simp)]; exact e
 h:=fun b u e=>by rw [ext b (by rw [e]; simp),e]
 zh:=fun b u e=>by
  have e:(if H b=none then GW (H' b) else Z b)=some u:=e
  split at e
  ·exact (rJ e).1
  ·rename_i n
   rw [ext b n]; exact zh b u e
 o:=fun b hb=>if_neg hb
 nf:=fun b o xs e=>by
  have e:(if H b=none then GW (H' b) else Z b)=_:=e
  split at e
  ·cases (rJ e).2
  ·exact e
end
end VL
set_option Elab.async false
set_option linter.all false
set_option maxRecDepth 100000
set_option maxHeartbeats 4000000
namespace VL
open PySem PySem.Spec PyProof.Rows L2
noncomputable def xM:List (D×D)->Option (List (ee×Int))
 | []=>some []
 | (k,.int i)::r=>(Cy k).bind fun k=>(xM r).bind fun l=>some ((k,i)::l)
 | _=>none
theorem uw (k:ee):Cy (zJ k)=some k:=by cases k <;> rfl
@[simp] theorem tN:∀ es:List (ee×Int),xM (Gb es)=some es
 | []=>rfl
 | (k,i)::r=>by
  show (Cy (zJ k)).bind _=_
  rw [uw]
  show (xM (Gb r)).bind _=_
  rw [tN r]; rfl
section
variable {X:Cx} {st:Stmt} {s1:Sf} {a b:Expr} {f fk:Dv->Option D} {p pos:Pos}
end
end VL
set_option Elab.async false
set_option linter.all false
set_option maxRecDepth 100000
set_option maxHeartbeats 4000000
namespace VL
open PySem PySem.Spec PyProof.Rows L2
section
variable {X:Cx}
end
section
variable {X:Cx} {e1 e2:Expr} {p p2 pos pos2:Pos} {ta:TA} {f g:Dv->Option D}
end
end VL
set_option Elab.async false
set_option linter.all false
set_option maxRecDepth 100000
set_option maxHeartbeats 4000000
namespace VL
open PySem PySem.Spec PyProof.Rows L2
section
variable {prog:Program} {w:World} {A:Around} {E:Value->Shared->Prop} {s:Shared} {α:Type}
end
noncomputable def Soft (X:Cx):Prop:=∃ x ob u vs,X.A.handled=some (.ref x)/\X.H₀ x=some (.frz ob u)/\ob.data=.fields vs/\vs[2]? = some .none
theorem Soft.blk {X:Cx} {pins:List (Addr×Obj)} {σ:St} {H:Hp} {s:Shared} {scope:Scope} {N:List Str} {C:Addr} {ex:List Addr} (I:Inv X pins σ H s) (h:Soft X):Soft (blk X scope N C s H ex):=by
 obtain ⟨x,ob,u,vs,h1,h2,h3,h4⟩:=h
 exact ⟨x,ob,u,vs,h1,I.base.frzs x ob u h2,h3,h4⟩
theorem Soft.at {X:Cx} {pins:List (Addr×Obj)} {σ:St} {H:Hp} {s:Shared} (I:Inv X pins σ H s) (h:Soft X):∃ x ob vs,X.A.handled=some (.ref x)/\s.heap.get? x=some ob/\ob.data=.fields vs/\vs[2]? = some .none:=by
 obtain ⟨x,ob,u,vs,h1,h2,h3,h4⟩:=h
 exact ⟨x,ob,vs,h1,(I.hok x _ (I.base.frzs x ob u h2)).1,h3,h4⟩
section
variable {X:Cx} {tg:Expr}
noncomputable def LC (X:Cx) (pins:List (Addr×Obj)) (σ:St) (tg:Expr) (R:It->Hp->Prop) (itv:Value) (s2:Shared):Prop:=
 ∃ (it:Addr) (fp:List Addr) (tn:Nat->Heap->Prop) (J:It) (H':Hp),itv=.ref it/\Inv X pins σ H' s2/\TurnG Soft X.prog X.w X.K tg J fp it tn/\tn 0 s2.heap/\(∀ b∈fp,jC X pins H' b)/\R J H'
noncomputable def PIS (X:Cx) (tg iter:Expr) (wi:TI):Prop:=
 ∀ (pins:List (Addr×Obj)) (s:Shared) (σ:St) (H:Hp) (R:It->Hp->Prop),Inv X pins σ H s->wi σ H R ->
  wpAny (model X.prog X.w) X.A (eval iter X.env) (fun v s1=>wpAny (model X.prog X.w) X.A (pyIter v) (LC X pins σ tg R) X.xe s1) X.xe s
theorem PIS.imp {iter:Expr} {t t':TI} (h:PIS X tg iter t) (i:∀ σ H R,t' σ H R->t σ H R):PIS X tg iter t':=fun pins s σ H R I q=>h pins s σ H R I (i _ _ _ q)
end
section
variable {X:Cx} {scope:Scope} {vars:List Str} {caps:List (Nat×Str)} {elt tg iter cnd:Expr} {pos:Pos} {g:TG} {fi:Dv->Option (List D)} {ft:Dv->Option Bool} {fe:Dv->Option D} {bv:D->Option (List D)}
end
structure RoomS (k:Nat) (A:Around):Prop where
 dp:A.depth+3*k+5<recursionLimit
 un:A.units+16*k+200<cLine
theorem RoomS.deeper {k:Nat} {A:Around} (r:RoomS (k+1) A) (env:Env):RoomS k (A.deeper env):=
 ⟨by have:=r.dp; show A.depth+1+3*k+5<_; omega,by have:=r.un; show A.units+3+16*k+200<_; omega⟩
theorem RoomS.depth {k:Nat} {A:Around} (r:RoomS k A):A.depth<recursionLimit:=by have:=r.dp; omega
theorem RoomS.units {k:Nat} {A:Around} (r:RoomS k A):A.units+64<cLine:=by have:=r.un; omega
structure FnS (P:Program) (w:World) (K:PySem.W.Frag) (mg:Str->Option Value) (base:Heap) (k:Nat) (f:Addr) (fd:FuncData) (ps:List Str) (g:List D->Option D):Prop where
 len:∀ as d,g as=some d->as.length=ps.length
 run:∀ (A:Around) (outer:List Env) (s:Shared) (H:Hp) (args:Args) (us:List Value) (vs:List V) (Q:VK) (x:Addr) (ob:Obj) (u:HO) (fl:Array Value),RoomS k A->Env0 P w K mg base A outer s H->A.handled=some (.ref x)->H x=some (.frz ob u)->ob.data=.fields fl->fl[2]? = some .none ->
  BindsTo s fd args (ps.zip us)->Vals vs us->xF K g vs H Q->codeAny (model P w) A (.call (.ref f) args) (fun r s'=>match r with | .ok (.ret u)=>CE outer P w H s Q u s' | _=>False) s
section
variable {P:Program} {w:World} {K:PySem.W.Frag} {mg:Str->Option Value} {base:Heap}
structure CalS (P:Program) (w:World) (K:PySem.W.Frag) (mg:Str->Option Value) (base:Heap) (x:Str) (k:Nat) (g:List D->Option D):Prop where
 ex:∃ (fa:Addr) (fd:FuncData) (ps:List Str),FnS P w K mg base k fa fd ps g/\mg x=some (.ref fa)/\PySem.W.keepIn K (.ref fa)=true/\Binds K fd ps []
end
section
variable {X:Cx} {body:List Stmt} {b:Sf} {bx:Xf} {np hpos pos:Pos}
end
section
variable {P:Program} {w:World} {K:PySem.W.Frag} {mg:Str->Option Value} {base h:Heap} {x y:Str} {st:Stmt} {k:Nat} {ps:List Str}
end
end VL
set_option Elab.async false
set_option linter.all false
set_option maxRecDepth 100000
set_option maxHeartbeats 4000000
namespace VL
open PySem PySem.Spec PyProof.Rows L2
noncomputable def Ge (i:Nat) (δ:Dv):Dv:=match δ[i]? with
 | some (.own (.l ds))=>δ.set i (.fr ds)
 | _=>δ
mutual
noncomputable def lfD:D->Bool
 | .none=>true
 | .bool _=>true
 | .int _=>true
 | .str _=>true
 | .tuple xs=>lfA xs
 | _=>false
noncomputable def lfA:List D->Bool
 | []=>true
 | d::ds=>lfD d&&lfA ds
end
noncomputable def Aw:Sl->Bool
 | .un=>true
 | .fz d=>lfD d
 | .own (.l ds)=>lfA ds
 | _=>false
section
variable {K:Fg} {Z:Hp} {a:Addr} {ys:List V} (ha:Z a=some (.lst ys))
include ha
end
theorem FF {xs:List D} (h:lfD (.tuple xs)=true):lfA xs=true:=by simpa [lfD] using h
theorem vC {d:D} {ds:List D} (h:lfA (d::ds)=true):lfD d=true/\lfA ds=true:=by
 rw [<- Bool.and_eq_true_iff]; simpa [lfA] using h
theorem B3 {xs:List D} (h:lfD (.list xs)=true):False:=by simp [lfD] at h
theorem B4 {xs:List (D×D)} (h:lfD (.dict xs)=true):False:=by simp [lfD] at h
section
variable {K:Fg} {H₀ Z₀ Z H:Hp} {δ:Dv} {σ:St}
theorem Hold.ofr (h:Hold K H₀ Z₀ Z δ σ H) {i:Nat} {ds:List D} (e:δ[i]? = some (.ow ds)):∃ Z',Same Z Z'/\Hold K H₀ Z₀ Z' (δ.set i (.fr ds)) σ H:=by
 obtain ⟨a,xs,h1,h2,h3,h4,h5⟩:=h.ow i ds e
 have hl:i < δ.length:=(List.getElem?_eq_some_iff.mp e).1
 have sz:Same Z (upd Z a (.lst xs)):=hZ h3
 refine ⟨upd Z a (.lst xs),sz,fun b o q=>?_,h.h0,h.z0.trans sz,fun b hb=>?_,by simp [h.len],fun j d q=>?_,fun j d q=>?_,fun j k d1 d2 b hjk q1 q2=>?_,fun j d q=>?_,h.nf.upd a⟩
 ·by_cases hb:b=a
  ·subst hb; rw [aQ] at q; cases q; exact h4
  ·rw [aH hb] at q; exact h.zh b o q
 ·rw [aH (fun z=>hb (by rw [z]; exact h2))]; exact h.zb b hb
 ·by_cases hj:i=j
  ·subst hj
   rw [List.getElem?_set_self hl] at q
   cases q
  ·rw [List.getElem?_set_ne hj] at q
   obtain ⟨v,g1,g2⟩:=h.fz j d q
   exact ⟨v,g1,g2.same sz⟩
 ·by_cases hj:i=j
  ·subst hj
   rw [List.getElem?_set_self hl] at q
   cases q
  ·rw [List.getElem?_set_ne hj] at q
   obtain ⟨b,ws,g1,g2,g3,g4,g5⟩:=h.own j d q
   have:b≠a:=fun z=>by subst z; exact h.dja i j _ d b hj e q h1 g1
   exact ⟨b,ws,g1,g2,by rw [aH this]; exact g3,g4,g5.same sz⟩
 ·by_cases hj:i=j
  ·subst hj
   rw [List.getElem?_set_self hl] at q1
   cases q1
  ·by_cases hk:i=k
   ·subst hk
    rw [List.getElem?_set_self hl] at q2
    cases q2
   ·rw [List.getElem?_set_ne hj] at q1
    rw [List.getElem?_set_ne hk] at q2
    exact h.dja j k d1 d2 b hjk q1 q2
 ·by_cases hj:i=j
  ·subst hj
   rw [List.getElem?_set_self hl] at q
   cases q
   exact ⟨a,xs,h1,h2,qw h.z0 h3,aQ,h5.same sz⟩
  ·rw [List.getElem?_set_ne hj] at q
   exact (h.fr.same sz) j d q
end
section
variable {X:Cx} {e c:Expr} {st:Stmt} {sts:List Stmt} {s1 s2:Sf} {f:Dv->Option D} {p pos apos:Pos}
theorem Ja {K:Fg} (i:Nat) {D:Ends} {σ:St} {H:Hp} (h:Dk K (fun δ=>s1 (Ge i δ)) D σ H):Dk K s1 D σ H:=by
 obtain ⟨H₀,Z₀,Z,δ,r,hh,e,k⟩:=h
 have e:s1 (Ge i δ)=some r:=e
 unfold Ge at e
 split at e
 ·rename_i ds q
  obtain ⟨Z1,t1,hh1⟩:=hh.ofr q
  exact ⟨H₀,Z₀,Z1,_,r,hh1,e,fun σ2 H2 Z2 hh2 t2=>k σ2 H2 Z2 hh2 (t1.trans t2)⟩
 ·exact ⟨H₀,Z₀,Z,_,r,hh,e,k⟩
theorem Hk (i:Nat) (h:SV X st s1):SV X st (fun δ=>s1 (Ge i δ)):=PS.imp h fun D σ H q=>Ja i q
noncomputable def Mh (K:Fg) (f:Sf):TS:=fun D σ H=>∃ H₀ Z₀ Z δ r,Hold K H₀ Z₀ Z δ σ H/\f δ = some r/\∀ σ' H' Z',Hold K H₀ Z₀ Z' r.2 σ' H'->r.1.to K Z' D σ' H'
noncomputable def BE (X:Cx) (sts:List Stmt) (f:Sf):Prop:=PSs X sts (Mh X.K f)
theorem Jq (h:BV X sts s1):BE X sts s1:=PSs.imp h fun D σ H q=>by
 obtain ⟨H₀,Z₀,Z,δ,r,hh,e,k⟩:=q
 exact ⟨H₀,Z₀,Z,δ,r,hh,e,fun σ' H' Z' h' _=>k σ' H' Z' h'⟩
theorem q9 (h1:SV X st s1) (h2:BE X sts s2):BE X (st::sts) (ak s1 s2):=
 PSs.imp (mZ h1 h2) fun D σ H h=>by
  obtain ⟨H₀,Z₀,Z,δ,r,hh,e,k⟩:=h
  obtain ⟨⟨fl,δ'⟩,e1,e⟩:=bind_some e
  refine ⟨H₀,Z₀,Z,δ,(fl,δ'),hh,e1,fun σ' H' Z' hh' s'=>?_⟩
  cases fl with
  | nx=>exact ⟨H₀,Z₀,Z',δ',r,hh',e,fun σ2 H2 Z2 hh2=>by
    have:=k σ2 H2 Z2 hh2
    obtain ⟨fl,δ2⟩:=r
    cases fl <;> exact this⟩
  | bk=>cases e; exact k σ' H' Z' hh'
  | ct=>cases e; exact k σ' H' Z' hh'
  | rt d=>cases e; exact k σ' H' Z' hh'
end
section
variable {P:Program} {w:World} {K:PySem.W.Frag} {mg:Str->Option Value} {base:Heap}
theorem Jb {x qual:Str} {st:Stmt} {f:Addr} {fd:FuncData} {dV:Value} {N ps:List Str} {k:Nat} {b:Sf} (F:FunV K x qual st f fd dV) (S:FnScope N ps (aj st))
  (hb:∀ (cdv:Value) (A:Around) (outer:List Env) (s:Shared) (H:Hp) (E:XK),Room k (A.deeper (envOfC qual (aj st) s.heap.objs.size f cdv))->BE (qU dN P w K mg base N qual (aj st) f cdv A outer s H E).nox (cj st) b) :
  FnOk P w K mg base dN (k+1) f fd ps (fh K (runB N ps.length b)):=by
 obtain ⟨oc,od,kV,doc,pm,an,cdv,ct,osl,rfl,lk,hcd⟩:=F.ex
 have hlen:∀ as d,runB N ps.length b as=some d->as.length=ps.length:=fun as d h=>by
  unfold runB at h
  split at h
  ·assumption
  ·cases h
 refine zQ lk hcd S (fun vs H Q E h=>?_) fun A outer s H vs Q E hr hsp=>?_
 ·obtain ⟨Z,as,d,zh,r,e,_⟩:=h
  rw [r.length]
  exact hlen as d e
 ·refine ⟨_,PSs.nox (hb cdv A outer s H E hr),?_⟩
  obtain ⟨Z,as,d,zh,r,e,kk⟩:=hsp
  have hh:=nH (N:=N) zh r
  have fin:∀ {σ':St} {H' Z':Hp} {δ':Dv},Hold K H Z Z' δ' σ' H'->New Z H Z' H':=fun h'=>⟨h'.z0,h'.h0,h'.zh,h'.zb,h'.nf⟩
  unfold runB at e
  split at e
  ·obtain ⟨⟨fl,δ'⟩,e2,e⟩:=bind_some e
   cases fl with
   | nx=>cases e; exact ⟨H,Z,Z,_,_,hh,e2,fun σ' H' Z' h'=>kk _ Z' H' (fin h') .non⟩
   | rt d=>cases e; exact ⟨H,Z,Z,_,_,hh,e2,fun σ' H' Z' h' v rv=>kk v Z' H' (fin h') rv⟩
   | bk=>cases e
   | ct=>cases e
  ·cases e
end
end VL
set_option Elab.async false
set_option linter.all false
set_option maxRecDepth 100000
set_option maxHeartbeats 4000000
namespace VL
open PySem PySem.Spec PyProof.Rows L2
noncomputable def vd (i:Nat) (fs:Dv->Option (List D)) (g:List D->Option D):Sf:=fun δ=>match δ[i]? with
 | some (.fr ds)=>(fs δ).bind fun as=>if lfA ds=true/\lfA as=true then (g (.list ds::as)).bind fun d=>match d with
   | .tuple (.list es::_)=>some (.nx,δ.set i (.fr es))
   | _=>none
  else none
 | _=>none
noncomputable def CT (δ:Dv):Dv:=δ.map fun s=>if Aw s=true then s else .un
noncomputable def r8 (i:Nat) (fk fv:Dv->Option D):Sf:=fun δ=>(fv δ).bind fun v=>(fk δ).bind fun k=>match δ[i]? with
 | some (.fr ds)=>(jQ ds k v).bind fun ds'=>if lfA ds'=true then some (.nx,(CT δ).set i (.fz (.list ds'))) else none
 | _=>none
theorem yl {K:Fg} {Z Z':Hp} (h:∀ b xs,Rd Z b (.tup xs)->Rd Z' b (.tup xs)) {b:Addr} {xs:List V} (r:SqT K Z b xs):SqT K Z' b xs:=by
 rcases r with r | r
 ·exact .inl (h b xs r)
 ·exact .inr r
mutual
theorem Rep.lf {K:Fg} {Z Z':Hp} (h:∀ b xs,Rd Z b (.tup xs)->Rd Z' b (.tup xs)):∀ {v:V} {d:D},Rep K Z v d->lfD d=true->Rep K Z' v d
 | _,_,.non,_=>.non
 | _,_,.bl b,_=>.bl b
 | _,_,.int i,_=>.int i
 | _,_,.str x,_=>.str x
 | _,_,.tup q r,hl=>.tup (yl h q) (Reps.lf h r (FF hl))
 | _,_,.lst q r,hl=>(B3 hl).elim
 | _,_,.opq q,hl=>(B4 hl).elim
theorem Reps.lf {K:Fg} {Z Z':Hp} (h:∀ b xs,Rd Z b (.tup xs)->Rd Z' b (.tup xs)):∀ {vs:List V} {ds:List D},Reps K Z vs ds->lfA ds=true->Reps K Z' vs ds
 | _,_,.nil,_=>.nil
 | _,_,.cons q r,hl=>.cons (Rep.lf h q (vC hl).1) (Reps.lf h r (vC hl).2)
end
noncomputable def jT (a:Addr) (Z:Hp):Hp:=fun c=>if c=a then Z c else match Z c with
 | some (.lst _)=>none
 | some (.frz _ (.lst _))=>none
 | o=>o
theorem vq {a:Addr} {Z:Hp}:jT a Z a=Z a:=if_pos rfl
theorem oneL_sub {a:Addr} {Z:Hp}:Same (jT a Z) Z:=fun c o e=>by
 unfold jT at e
 split at e
 ·exact e
 ·split at e
  ·cases e
  ·cases e
  ·exact e
theorem yS {a c:Addr} {Z:Hp} {xs:List V} (e:jT a Z c=some (.lst xs)):c=a:=by
 unfold jT at e
 split at e
 ·assumption
 ·split at e
  ·cases e
  ·cases e
  ·rename_i h1 h2
   exact absurd e (h1 _)
theorem sj {a c:Addr} {Z:Hp} {o:Obj} {xs:List V} (e:jT a Z c=some (.frz o (.lst xs))):c=a:=by
 unfold jT at e
 split at e
 ·assumption
 ·split at e
  ·cases e
  ·cases e
  ·rename_i h1 h2
   exact absurd e (h2 _ _)
theorem yR {a:Addr} {Z:Hp} {b:Addr} {xs:List V} (r:Rd Z b (.tup xs)):Rd (jT a Z) b (.tup xs):=by
 rcases r with r | ⟨o,r⟩
 ·refine .inl ?_
  unfold jT
  split
  ·exact r
  ·rw [r]
 ·refine .inr ⟨o,?_⟩
  unfold jT
  split
  ·exact r
  ·rw [r]
theorem pf {a c:Addr} {Z:Hp} (e:Z c=none):jT a Z c=none:=by
 unfold jT
 split
 ·exact e
 ·rw [e]
noncomputable def lI (Z Z':Hp):Hp:=fun c=>match Z c with
 | some o=>some o
 | none=>Z' c
theorem gl {Z Z':Hp}:Same Z (lI Z Z'):=fun c o e=>by unfold lI; rw [e]
theorem gw {Z Z':Hp} {c:Addr} (e:Z c=none):lI Z Z' c=Z' c:=by unfold lI; rw [e]
noncomputable def NoL (K:Fg):Prop:=∀ a o,K.lookup a=some o->o.cls≠.type "list"
noncomputable def Ji:Value->Bool
 | .type s=>s == "list"
 | _=>false
theorem NoL.of {K:Fg} (h:(List.all K fun p=>!Ji p.2.cls)=true):NoL K:=fun a o e hc=>by
 have m:∃ b,(b,o)∈K:=by
  clear h
  induction K with
  | nil=>cases e
  | cons q K ih=>
   obtain ⟨b,o'⟩:=q
   rw [List.lookup_cons] at e
   split at e
   ·cases e; exact ⟨b,List.mem_cons_self⟩
   ·obtain ⟨c,hm⟩:=ih e; exact ⟨c,List.mem_cons_of_mem _ hm⟩
 obtain ⟨b,m⟩:=m
 have:=List.all_eq_true.mp h _ m
 dsimp only at this
 rw [hc] at this
 cases this
section
variable {K:Fg} {H₀ Z₀ Z H:Hp} {δ:Dv} {σ:St}
theorem Hold.lend (h:Hold K H₀ Z₀ Z δ σ H) {i:Nat} {ds es:List D} {a b:Addr} {xs us:List V} {Z' H':Hp} (q:δ[i]? = some (.fr ds)) (h1:σ[i]? = some (some (.ref a))) (h2:H₀ a=none) (h3:Z₀ a=none) (h4:Z a=some (.lst xs)) (n:New (jT a Z) H Z' H') (hK:NoL K) (sq:SqL K Z' b us) (r:Reps K Z' us es) :
  Same Z (lI Z Z')/\Hold K H₀ Z₀ (lI Z Z') (δ.set i (.fr es)) (σ.set i (some (.ref b))) H':=by
 have hl:i < δ.length:=(List.getElem?_eq_some_iff.mp q).1
 have hlσ:i < σ.length:=by rw [<- h.len]; exact hl
 have nz:∀ {c:Addr} {o:HO},Z c=some o->H c≠none:=fun {c o} e z=>by rw [h.zh c o e] at z; cases z
 have s':Same Z' (lI Z Z'):=fun c o e=>by
  cases ez:Z c with
  | none=>rw [gw ez]; exact e
  | some o'=>
   have e2:=n.o c (nz ez)
   rw [e] at e2
   exact gl c o (oneL_sub c o e2.symm)
 have sb:Z' b=some (.lst us):=by
  rcases sq with (e | ⟨o,e⟩) | ⟨o,its,m,e,hc,_⟩
  ·exact e
  ·have z:=n.nf b o us e
   have hb:=sj z
   subst hb
   rw [vq,h4] at z
   cases z
  ·exact absurd hc (hK b o e)
 have fresh:H₀ b=none/\Z₀ b=none:=by
  cases eh:H b with
  | none=>
   refine ⟨?_,?_⟩
   ·cases e:H₀ b with
    | none=>rfl
    | some o=>rw [h.h0 b o e] at eh; cases eh
   ·cases e:Z₀ b with
    | none=>rfl
    | some o=>rw [h.zh b o (h.z0 b o e)] at eh; cases eh
  | some o=>
   have e2:=n.o b (by rw [eh]; intro z; cases z)
   rw [sb] at e2
   have:=yS e2.symm
   subst this
   exact ⟨h2,h3⟩
 refine ⟨gl,fun c o e=>?_,h.h0.trans n.h,h.z0.trans gl,fun c hc=>?_,by simp [h.len],fun j d e=>?_,fun j d e=>?_,fun j k d1 d2 c hjk q1 q2=>?_,fun j d e=>?_,fun c o ws e=>?_⟩
 ·cases ez:Z c with
  | none=>rw [gw ez] at e; exact n.zh c o e
  | some o'=>
   have:lI Z Z' c=some o':=gl c o' ez
   rw [this] at e
   cases e
   exact n.h c _ (h.zh c _ ez)
 ·have hH:H c≠none:=by
   cases e:H₀ c with
   | none=>exact absurd e hc
   | some o=>rw [h.h0 c o e]; intro z; cases z
  have z0:=h.zb c hc
  cases ez:Z c with
  | none=>
   rw [gw ez,n.o c hH,pf ez,<- z0,ez]
  | some o=>rw [gl c o ez,<- z0,ez]
 ·by_cases hj:i=j
  ·subst hj
   rw [List.getElem?_set_self hl] at e
   cases e
  ·rw [List.getElem?_set_ne hj] at e
   obtain ⟨v,g1,g2⟩:=h.fz j d e
   exact ⟨v,by rw [List.getElem?_set_ne hj]; exact g1,g2.same gl⟩
 ·by_cases hj:i=j
  ·subst hj
   rw [List.getElem?_set_self hl] at e
   cases e
  ·rw [List.getElem?_set_ne hj] at e
   obtain ⟨c,o,g1,g2,g3,g4,g5⟩:=h.own j d e
   exact ⟨c,o,by rw [List.getElem?_set_ne hj]; exact g1,g2,by rw [gw g3,n.o c (by rw [g4]; intro z; cases z),pf g3],n.h c o g4,g5.same gl⟩
 ·by_cases hj:i=j
  ·subst hj
   rw [List.getElem?_set_self hl] at q1
   cases q1
  ·by_cases hk:i=k
   ·subst hk
    rw [List.getElem?_set_self hl] at q2
    cases q2
   ·rw [List.getElem?_set_ne hj] at q1 ⊢
    rw [List.getElem?_set_ne hk] at q2 ⊢
    exact h.dja j k d1 d2 c hjk q1 q2
 ·by_cases hj:i=j
  ·subst hj
   rw [List.getElem?_set_self hl] at e
   cases e
   exact ⟨b,us,List.getElem?_set_self hlσ,fresh.1,fresh.2,s' b _ sb,r.same s'⟩
  ·rw [List.getElem?_set_ne hj] at e
   obtain ⟨c,ws,g1,g2⟩:=(h.fr.same gl) j d e
   exact ⟨c,ws,by rw [List.getElem?_set_ne hj]; exact g1,g2⟩
 ·cases ez:Z c with
  | none=>
   rw [gw ez] at e
   have z:=n.nf c o ws e
   have hc:=sj z
   subst hc
   rw [h4] at ez
   cases ez
  | some o'=>
   rw [gl c o' ez] at e
   cases e
   exact h.nf c o ws ez
theorem CS {j:Nat} {s:Sl} (e:(CT δ)[j]? = some s):s=.un\/(δ[j]? = some s/\Aw s=true):=by
 unfold CT at e
 rw [List.getElem?_map] at e
 cases q:δ[j]? with
 | none=>rw [q] at e; cases e
 | some t=>
  rw [q] at e
  have e:(if Aw t=true then t else .un)=s:=Option.some.inj e
  split at e
  ·subst e; exact .inr ⟨rfl,by assumption⟩
  ·exact .inl e.symm
theorem Hold.putF (h:Hold K H₀ Z₀ Z δ σ H) {i:Nat} {ds':List D} {a:Addr} {xs ys:List V} (h1:σ[i]? = some (some (.ref a))) (h2:H₀ a=none) (h3:Z₀ a=none) (h4:Z a=some (.lst xs)) (r:Reps K Z ys ds') (hl:lfA ds'=true) :
  Hold K H₀ Z₀ (upd Z a (.lst ys)) ((CT δ).set i (.fz (.list ds'))) σ (upd H a (.lst ys)):=by
 have mv:∀ b ws,Rd Z b (.tup ws)->Rd (upd Z a (.lst ys)) b (.tup ws):=fun b ws r=>by
  rcases r with r | ⟨o,r⟩
  ·have:b≠a:=fun z=>by subst z; rw [h4] at r; cases r
   exact .inl (by rw [aH this]; exact r)
  ·have:b≠a:=fun z=>by subst z; rw [h4] at r; cases r
   exact .inr ⟨o,by rw [aH this]; exact r⟩
 have oth:∀ (j:Nat) (s:Sl),((CT δ).set i (.fz (.list ds')))[j]? = some s->(i=j/\s=.fz (.list ds'))\/s=.un\/(i≠j /\ δ[j]? = some s/\Aw s=true):=fun j s q=>by
  by_cases hj:i=j
  ·subst hj
   have hli:i<(CT δ).length:=by have:=(List.getElem?_eq_some_iff.mp q).1; simpa using this
   rw [List.getElem?_set_self hli] at q
   exact .inl ⟨rfl,(Option.some.inj q).symm⟩
  ·rw [List.getElem?_set_ne hj] at q
   rcases CS q with z | ⟨q,hs⟩
   ·exact .inr (.inl z)
   ·exact .inr (.inr ⟨hj,q,hs⟩)
 refine ⟨fun b o q=>?_,fun b o q=>?_,fun b o q=>?_,fun b hb=>?_,by simp [CT,h.len],fun j d q=>?_,fun j d q=>?_,fun j k d1 d2 b hjk q1 q2=>?_,fun j d q=>?_,h.nf.upd a⟩
 ·by_cases hb:b=a
  ·subst hb; rw [aQ] at q ⊢; exact q
  ·rw [aH hb] at q ⊢; exact h.zh b o q
 ·rw [aH (bO q h2)]; exact h.h0 b o q
 ·rw [aH (bO q h3)]; exact h.z0 b o q
 ·rw [aH (fun z=>hb (by rw [z]; exact h2))]; exact h.zb b hb
 ·rcases oth j _ q with ⟨rfl,z⟩ | z | ⟨hj,q,hs⟩
  ·cases z
   exact ⟨.ref a,h1,.lst (SqL.of aQ) (Reps.lf mv r hl)⟩
  ·cases z
  ·obtain ⟨v,g1,g2⟩:=h.fz j d q
   exact ⟨v,g1,Rep.lf mv g2 hs⟩
 ·rcases oth j _ q with ⟨_,z⟩ | z | ⟨hj,q,hs⟩
  ·cases z
  ·cases z
  ·cases d with
   | l es=>
    obtain ⟨b,ws,g1,g2,g3,g4,g5⟩:=h.ow j es q
    have hb:b≠a:=fun z=>by subst z; rw [g3] at h4; cases h4
    exact ⟨b,.lst ws,g1,g2,by rw [aH hb]; exact g3,by rw [aH hb]; exact g4,.lst (Reps.lf mv g5 hs)⟩
   | d es=>cases hs
 ·rcases oth j _ q1 with ⟨_,z⟩ | z | ⟨hj,q1,_⟩
  ·cases z
  ·cases z
  ·rcases oth k _ q2 with ⟨_,z⟩ | z | ⟨hk,q2,_⟩
   ·cases z
   ·cases z
   ·exact h.dja j k d1 d2 b hjk q1 q2
 ·rcases oth j _ q with ⟨_,z⟩ | z | ⟨hj,q,hs⟩
  ·cases z
  ·cases z
  ·cases hs
end
section
variable {X:Cx} {e c b:Expr} {es:List Expr} {sts:List Stmt} {s2:Sf} {fk fv:Dv->Option D} {fs:Dv->Option (List D)} {ft:Dv->Option Bool} {p pos pos1 tpos:Pos}
theorem Ba (i:Nat) {k:Nat} {x fx:Str} {g:List D->Option D} {j:Nat} {pos' p2 p3 cpos spos:Pos} (hN:X.N.Nodup) (hK:NoL X.K) (C:Cal X.prog X.w X.K X.mg X.base fx k g []) (hr:Room k X.A) (hg:Gl X fx) (ha:AV X es fs) (hi:X.N[i]? = some x:=by rfl) (hx:xA X.env.scope x:=by first | exact Or.inl rfl | exact Or.inr rfl)
  (hv:Dc X.env.scope x:=by first | exact Or.inl rfl | exact Or.inr (Or.inl rfl) | exact Or.inr (Or.inr rfl)) (hd:(x==("__debug__":Str))=false:=by decide) (hcd:(x==("__classdict__":Str))=false:=by decide) (hdb:(fx==("__debug__":Str))=false:=by decide)
  (he:starEach (.Name x p2::es) X.env=(false,eval (.Name x p2) X.env)::starEach es X.env:=by rfl) (hpl:(backTo cpos (starEach es X.env)).any (·.1)=false:=by rfl) (hix:mJ (.Constant (.int 0) j p3):=by intro _ _; rfl)
  (hs:swapsWith (.Subscript (.Call (.Name fx p) (.Name x p2::es) [] cpos) (.Constant (.int 0) j p3) spos) (some (.Name x pos')) pos.line X.env=pure false:=by rfl)
  (hf:X.fn x=true\/X.env.scope.names.lookup x=some .local:=by first | exact .inl rfl | exact .inr rfl | assumption) :
  SV X (.Assign [.Name x pos'] (.Subscript (.Call (.Name fx p) (.Name x p2::es) [] cpos) (.Constant (.int 0) j p3) spos) pos) (vd i fs g):=by
 obtain ⟨fa,fd,ps,dds,dv,F,hm,hk,hb,hdv,hdd⟩:=C.ex
 refine PS.imp (qh hN hi hx (yJ zK (vn F hr hg hm hk hb hdv Dr (jt (jR hi hv hd hcd) ha he) hdb he hpl) yK hix) hs hf) fun D σ H h=>?_
 obtain ⟨H₀,Z₀,Z,δ,r,hh,e,kk⟩:=h
 unfold vd at e
 split at e
 rotate_left
 ·cases e
 rename_i ds q
 obtain ⟨as,e1,e⟩:=bind_some e
 split at e
 rotate_left
 ·cases e
 rename_i hlf
 obtain ⟨d,e2,e⟩:=bind_some e
 split at e
 rotate_left
 ·cases e
 rename_i es' rest
 cases e
 obtain ⟨a,xs,h1,h2,h3,h4,h5⟩:=hh.fr i ds q
 refine ⟨.ref a,h1,H₀,Z₀,Z,δ,as,hh,e1,fun vs Z1 H1 hh1 t1 r1=>?_⟩
 obtain ⟨a',xs',g1,g2,g3,g4,g5⟩:=hh1.fr i ds q
 rw [h1] at g1
 cases g1
 have dv0:dv=[]:=by
  have:=(hdd Z).length
  cases dv with
  | nil=>rfl
  | cons _ _=>cases this
 subst dv0
 have tp:∀ b ws,Rd Z1 b (.tup ws)->Rd (jT a Z1) b (.tup ws):=fun b ws r=>yR r
 refine ⟨jT a Z1,.list ds::as,_,oneL_sub.trans hh1.zh,?_,e2,fun v Z' H' n rv=>?_⟩
 ·rw [List.append_nil]
  exact .cons (.lst (SqL.of (by rw [vq]; exact g4)) (Reps.lf tp g5 hlf.1)) (Reps.lf tp r1 hlf.2)
 ·cases rv with
  | tup s1 q1=>
   cases q1 with
   | cons r0 rr=>
    cases r0 with
    | lst s0 r0=>
     obtain ⟨t2,hh2⟩:=hh1.lend q h1 g2 g3 g4 n hK s0 r0
     exact ⟨_,_,0,_,rfl,rfl,SqT.same s1 n.zh,by unfold hU; simp [tJ],kk _ _ _ hh2 (t1.trans t2)⟩
theorem Ae (i:Nat) {x:Str} (hc:TV X c ft) (hb:EV X b fk) (hv':EV X e fv) (h2:BE X sts s2) (hN:X.N[i]? = some x:=by rfl) (hv:Dc X.env.scope x:=by first | exact Or.inl rfl | exact Or.inr (Or.inl rfl) | exact Or.inr (Or.inr rfl)) (hd:(x==("__debug__":Str))=false:=by decide) (hcd:(x==("__classdict__":Str))=false:=by decide)
  (hs:swapsWithSole [.Subscript (.Name x p) b tpos] e pos1.line X.env=pure false:=by rfl) (hw:swappedStores [.Subscript (.Name x p) b tpos] e X.env=pure none:=by rfl)
  (ha:∀ v,assign (.Subscript (.Name x p) b tpos) X.env v=(do
   let ov <- holding [v] (eval (.Name x p) X.env)
   let iv <- holding [v,ov] (eval b X.env)
   standAt tpos
   holding [v,ov,iv] (setItem ov iv v)
   release [v,ov,iv] []):=by intro _; rfl):BE X (.If c [.Assign [.Subscript (.Name x p) b tpos] e pos1] [] pos::sts) (ak (cu ft (r8 i fk fv) fH) s2):=
 PSs.imp (mZ (Dp hc (vj (yB hv' (yG (jR hN hv hd hcd) hb rZ ha) hs hw)) vk) h2) fun D σ H h=>by
  obtain ⟨H₀,Z₀,Z,δ,r,hh,e,k⟩:=h
  obtain ⟨⟨fl,δ'⟩,e0,e⟩:=bind_some e
  obtain ⟨t,e1,e0⟩:=bind_some e0
  refine ⟨H₀,Z₀,Z,δ,t,hh,e1,fun Z0 H0 hh0 t0=>?_⟩
  cases t with
  | false=>
   cases e0
   exact ⟨H₀,Z₀,Z0,δ,r,hh0,e,k⟩
  | true=>
   obtain ⟨v,e2,e0⟩:=bind_some e0
   obtain ⟨y,e3,e0⟩:=bind_some e0
   split at e0
   rotate_left
   ·cases e0
   rename_i ds q
   obtain ⟨ds',e4,e0⟩:=bind_some e0
   split at e0
   rotate_left
   ·cases e0
   rename_i hlf
   cases e0
   refine ⟨H₀,Z₀,Z0,δ,v,hh0,e2,fun w Z1 H1 hh1 t1 r1=>?_⟩
   obtain ⟨a,xs,h1,g2,g3,g4,g5⟩:=hh1.fr i ds q
   refine ⟨_,h1,H₀,Z₀,Z1,δ,y,hh1,e3,fun u Z2 H2 hh2 t2 r2=>?_⟩
   obtain ⟨a',xs',f1,f2,f3,f4,f5⟩:=hh2.fr i ds q
   rw [h1] at f1
   cases f1
   cases r2 with
   | int j=>
    rw [dc] at e4
    cases qn:tJ ds.length j with
    | none=>rw [qn] at e4; cases e4
    | some n=>
     rw [qn] at e4
     cases e4
     exact ⟨a,xs',j,n,rfl,rfl,hh2.zh _ _ f4,by rw [f5.length]; exact qn,H₀,Z₀,_,_,r,hh2.putF h1 f2 f3 f4 (f5.set (r1.same t2) n) hlf,e,k⟩
   | _=>cases e4
end
end VL
set_option Elab.async false
set_option linter.all false
set_option maxRecDepth 100000
set_option maxHeartbeats 4000000
namespace MA
open PySem
theorem pe (x y:Int):Builtin.bitOr x y=2*Builtin.bitOr (x / 2) (y / 2)+(if x % 2=0/\y % 2=0 then 0 else 1):=by
 unfold Builtin.bitOr Builtin.bitNot
 have h:=PySem.W.kbt_halves (-x-1) (-y-1)
 have hx:(-x-1) / 2 = -(x / 2)-1:=by omega
 have hy:(-y-1) / 2 = -(y / 2)-1:=by omega
 rw [hx,hy] at h
 rw [h]
 by_cases c:x % 2=0/\y % 2=0
 ·rw [if_pos c,if_pos (by omega)]; omega
 ·rw [if_neg c,if_neg (by omega)]; omega
theorem ke (n:Nat):(0:Int)<2 ^ n:=by
 induction n with
 | zero=>decide
 | succ n ih=>rw [Int.pow_succ]; omega
theorem iG (x:Int) (n:Nat):x / 2 ^ (n+1)=x / 2 / 2 ^ n:=by
 rw [Int.pow_succ,Int.mul_comm,Int.ediv_ediv_of_nonneg (by decide)]
theorem gj (x:Int) (n:Nat):2 ^ (n+1) ∣ x↔x % 2=0/\2 ^ n ∣ x / 2:=by
 constructor
 ·rintro ⟨c,rfl⟩
  rw [Int.pow_succ]
  refine ⟨?_,c,?_⟩
  ·rw [Int.mul_comm (2 ^ n) 2,Int.mul_assoc]; omega
  ·rw [Int.mul_comm (2 ^ n) 2,Int.mul_assoc,Int.mul_ediv_cancel_left _ (by decide)]
 ·rintro ⟨h,c,hc⟩
  refine ⟨c,?_⟩
  rw [Int.pow_succ,Int.mul_comm (2 ^ n) 2,Int.mul_assoc,<- hc]
  omega
theorem ue (n:Nat):∀ x y:Int,(2 ^ n ∣ Builtin.bitOr x y↔2 ^ n ∣ x/\2 ^ n ∣ y)/\(2 ^ n ∣ Builtin.bitOr x y->Builtin.bitOr x y / 2 ^ n=Builtin.bitOr (x / 2 ^ n) (y / 2 ^ n)):=by
 induction n with
 | zero=>intro x y; simp
 | succ n ih=>
  intro x y
  have h:=pe x y
  have hd:Builtin.bitOr x y / 2=Builtin.bitOr (x / 2) (y / 2):=by rw [h]; split <;> omega
  have hm:Builtin.bitOr x y % 2=0↔x % 2=0/\y % 2=0:=by
   rw [h]
   by_cases c:x % 2=0/\y % 2=0
   ·rw [if_pos c]; constructor
    ·intro _; exact c
    ·intro _; omega
   ·rw [if_neg c]; constructor
    ·intro z; omega
    ·intro z; exact absurd z c
  obtain ⟨i1,i2⟩:=ih (x / 2) (y / 2)
  constructor
  ·rw [gj,gj,gj,hd,hm,i1]
   constructor
   ·rintro ⟨⟨a,b⟩,c,d⟩; exact ⟨⟨a,c⟩,b,d⟩
   ·rintro ⟨⟨a,c⟩,b,d⟩; exact ⟨⟨a,b⟩,c,d⟩
  ·intro q
   rw [gj,hd] at q
   rw [iG,iG,iG,hd,i2 q.2]
theorem yn:∀ (n:Nat) (j:Int),j.natAbs<=n->j≠0->∃ (t:Nat) (a:Int),j=2 ^ t*(2*a+1)
 | 0,j,h,h0=>by omega
 | n+1,j,h,h0=>by
  by_cases c:j % 2=0
  ·obtain ⟨t,a,e⟩:=yn n (j / 2) (by omega) (by omega)
   refine ⟨t+1,a,?_⟩
   rw [Int.pow_succ,Int.mul_comm (2 ^ t) 2,Int.mul_assoc,<- e]
   omega
  ·exact ⟨0,j / 2,by simp; omega⟩
theorem sY (t:Nat):Builtin.Int.intBits (2 ^ t)=t+1:=by
 unfold Builtin.Int.intBits
 have h:(2:Int) ^ t≠0:=Int.ne_of_gt (ke t)
 have e:((2:Int) ^ t).natAbs=2 ^ t:=by
  have:((2 ^ t:Nat):Int)=(2:Int) ^ t:=by simp
  rw [<- this,Int.natAbs_natCast]
 rw [if_neg (by simpa using h),e,Nat.log2_two_pow]
noncomputable def tP (j most:Int):Int:=if j=0 then most else if (Builtin.Int.intBits (Builtin.bitAnd j (-j)):Int)-1<most then (Builtin.Int.intBits (Builtin.bitAnd j (-j)):Int)-1 else most
theorem wd (j most:Int) (hm:0<=most):∃ t:Nat,tP j most=t/\(t:Int)<=most/\2 ^ t ∣ j/\((t:Int)<most->¬ j / 2 ^ t % 2=0):=by
 unfold tP
 by_cases h:j=0
 ·subst h
  refine ⟨most.toNat,by rw [if_pos rfl]; omega,by omega,Int.dvd_zero _,fun z=>by omega⟩
 ·obtain ⟨t,a,e⟩:=yn _ j (Nat.le_refl _) h
  have hb:Builtin.Int.intBits (Builtin.bitAnd j (-j))=t+1:=by rw [e,PySem.W.kbt_low,sY]
  rw [if_neg h,hb]
  have q:((t+1:Nat):Int)-1=t:=by omega
  rw [q]
  by_cases c:(t:Int)<most
  ·refine ⟨t,by rw [if_pos c],by omega,⟨_,e⟩,fun _=>?_⟩
   rw [e,Int.mul_ediv_cancel_left _ (Int.ne_of_gt (ke t))]
   omega
  ·refine ⟨most.toNat,by rw [if_neg c]; omega,by omega,?_,fun z=>by omega⟩
   refine Int.dvd_trans ?_ ⟨_,e⟩
   have:t=most.toNat+(t-most.toNat):=by omega
   rw [this,Int.pow_add]
   exact Int.dvd_mul_right _ _
theorem mH {a:Int} {m:Nat} (h:a.natAbs<2 ^ m):Builtin.Int.intBits a<=m:=by
 unfold Builtin.Int.intBits
 split
 ·exact Nat.zero_le _
 ·rename_i h0
  have h0:a≠0:=by simpa using h0
  have:a.natAbs.log2<m:=(Nat.log2_lt (by omega)).mpr h
  omega
theorem Fo {a b:Int} (m n:Nat) (ha:a.natAbs<2 ^ m) (hb:b.natAbs<2 ^ n) (h:m+n<=134217728):IntMulOk a b:=by
 have h1:=mH ha
 have h2:=mH hb
 have hc:Builtin.Int.intTooBig (Builtin.Int.intBits a+Builtin.Int.intBits b)=false:=by
  unfold Builtin.Int.intTooBig bitsLine
  exact decide_eq_false (by omega)
 unfold IntMulOk
 rw [hc]
 simp
structure Q4 where
 a:Int
 b:Int
 c:Int
 d:Int
namespace Q4
theorem ext' {x y:Q4} (h1:x.a=y.a) (h2:x.b=y.b) (h3:x.c=y.c) (h4:x.d=y.d):x=y:=by
 cases x; cases y; simp at h1 h2 h3 h4; subst h1 h2 h3 h4; rfl
noncomputable def add (x y:Q4):Q4:=⟨x.a+y.a,x.b+y.b,x.c+y.c,x.d+y.d⟩
noncomputable def neg (x:Q4):Q4:=⟨-x.a,-x.b,-x.c,-x.d⟩
noncomputable def mul (x y:Q4):Q4:=⟨x.a*y.a-x.b*y.d-x.c*y.c-x.d*y.b,x.a*y.b+x.b*y.a-x.c*y.d-x.d*y.c,x.a*y.c+x.b*y.b+x.c*y.a-x.d*y.d,x.a*y.d+x.b*y.c+x.c*y.b+x.d*y.a⟩
noncomputable def rt (x:Q4):Q4:=⟨x.b-x.d,x.a+x.c,x.b+x.d,x.c-x.a⟩
noncomputable def dbl (n:Int) (x:Q4):Q4:=⟨x.a*n,x.b*n,x.c*n,x.d*n⟩
noncomputable def mir (x:Q4):Q4:=⟨x.a,-x.d,-x.c,-x.b⟩
noncomputable def tn (x:Q4):Q4:=⟨-x.d,x.a,x.b,x.c⟩
noncomputable def rtn:Nat->Q4->Q4
 | 0,x=>x
 | n+1,x=>rtn n (rt x)
theorem rtn_succ (n:Nat) (x:Q4):rtn (n+1) x=rt (rtn n x):=by
 induction n generalizing x with
 | zero=>rfl
 | succ n ih=>exact ih (rt x)
theorem rtn_add (m n:Nat) (x:Q4):rtn (m+n) x=rtn m (rtn n x):=by
 induction n generalizing x with
 | zero=>rfl
 | succ n ih=>exact ih (rt x)
theorem yy (x:Q4):rt (rt x)=dbl 2 x:=by
 apply ext' <;> simp [rt,dbl] <;> omega
theorem CP (m n:Int) (x:Q4):dbl m (dbl n x)=dbl (n*m) x:=by
 apply ext' <;> simp [dbl,Int.mul_assoc]
theorem rtn_two (t:Nat) (x:Q4):rtn (2*t) x=dbl (2 ^ t) x:=by
 induction t generalizing x with
 | zero=>apply ext' <;> simp [rtn,dbl]
 | succ t ih=>
  have e:2*(t+1)=2*t+1+1:=by omega
  rw [e]
  show rtn (2*t) (rt (rt x))=_
  rw [ih,yy,CP,Int.pow_succ,Int.mul_comm]
theorem rt_inj {x y:Q4} (h:rt x=rt y):x=y:=by
 have h1:=congrArg rt h
 rw [yy,yy] at h1
 have h2:=congrArg Q4.a h1
 have h3:=congrArg Q4.b h1
 have h4:=congrArg Q4.c h1
 have h5:=congrArg Q4.d h1
 simp only [dbl] at h2 h3 h4 h5
 apply ext' <;> omega
theorem rtn_inj {n:Nat} {x y:Q4} (h:rtn n x=rtn n y):x=y:=by
 induction n generalizing x y with
 | zero=>exact h
 | succ n ih=>exact rt_inj (ih h)
theorem rt_add (x y:Q4):rt (add x y)=add (rt x) (rt y):=by apply ext' <;> simp [rt,add] <;> omega
theorem rtn_addQ (n:Nat) (x y:Q4):rtn n (add x y)=add (rtn n x) (rtn n y):=by
 induction n generalizing x y with
 | zero=>rfl
 | succ n ih=>show rtn n (rt (add x y))=_; rw [rt_add,ih]; rfl
theorem rt_mul (x y:Q4):rt (mul x y)=mul (rt x) y:=by apply ext' <;> simp only [rt,mul] <;> grind
theorem ve (n:Nat) (x y:Q4):rtn n (mul x y)=mul (rtn n x) y:=by
 induction n generalizing x with
 | zero=>rfl
 | succ n ih=>show rtn n (rt (mul x y))=_; rw [rt_mul,ih]; rfl
theorem mul_comm (x y:Q4):mul x y=mul y x:=by apply ext' <;> simp only [mul] <;> grind
theorem mul_assoc (x y z:Q4):mul (mul x y) z=mul x (mul y z):=by apply ext' <;> simp only [mul] <;> grind
theorem mul_add (x y z:Q4):mul x (add y z)=add (mul x y) (mul x z):=by apply ext' <;> simp only [mul,add] <;> grind
theorem add_comm (x y:Q4):add x y=add y x:=by apply ext' <;> simp only [add] <;> omega
theorem add_assoc (x y z:Q4):add (add x y) z=add x (add y z):=by apply ext' <;> simp only [add] <;> omega
theorem rtn_mul2 (m n:Nat) (x y:Q4):rtn (m+n) (mul x y)=mul (rtn m x) (rtn n y):=by
 rw [rtn_add,mul_comm,ve,mul_comm,ve]
theorem tn_mul (x y:Q4):tn (mul x y)=mul x (tn y):=by apply ext' <;> simp only [mul,tn] <;> grind
theorem tn_rt (x:Q4):tn (rt x)=rt (tn x):=by apply ext' <;> simp only [rt,tn] <;> omega
noncomputable def Odd (x:Q4):Prop:=¬ ((x.a-x.c) % 2=0/\(x.b-x.d) % 2=0)
theorem Bi (x:Q4):¬ Odd (rt x):=by
 unfold Odd rt
 simp only
 omega
noncomputable def Least (x:Q4) (k:Int):Prop:=0<=k/\(0<k->Odd x)
theorem Least.one {x y:Q4} {k l m:Nat} (hx:Least x k) (hy:Least y l) (h1:k<=m) (h2:l<=m) (h:rtn (m-k) x=rtn (m-l) y):x=y/\k=l:=by
 have key:∀ {x y:Q4} {k l:Nat},Least y l->k<=m->l<=m->k<l->rtn (m-k) x=rtn (m-l) y->False:=by
  intro x y k l hy h1 h2 hlt h
  have e:m-k=(m-l)+(l-k):=by omega
  rw [e,rtn_add] at h
  have h3:=rtn_inj h
  obtain ⟨n,hn⟩:∃ n,l-k=n+1:=⟨l-k-1,by omega⟩
  rw [hn,rtn_succ] at h3
  have:=hy.2 (by omega)
  rw [<- h3] at this
  exact Bi _ this
 rcases Nat.lt_trichotomy k l with q | q | q
 ·exact (key hy h1 h2 q h).elim
 ·subst q; exact ⟨rtn_inj h,rfl⟩
 ·exact (key hx h2 h1 q h.symm).elim
end Q4
theorem kC (a b c d most:Int) (hm:0<=most):∃ t:Nat,tP (Builtin.bitOr (Builtin.bitOr (Builtin.bitOr a b) c) d) most=t/\(t:Int)<=most/\a=a / 2 ^ t*2 ^ t/\b=b / 2 ^ t*2 ^ t/\c=c / 2 ^ t*2 ^ t/\d=d / 2 ^ t*2 ^ t /\
  ((t:Int)<most->¬ (a / 2 ^ t % 2=0/\b / 2 ^ t % 2=0/\c / 2 ^ t % 2=0/\d / 2 ^ t % 2=0)):=by
 obtain ⟨t,e,h1,h2,h3⟩:=wd (Builtin.bitOr (Builtin.bitOr (Builtin.bitOr a b) c) d) most hm
 have o1:=ue t (Builtin.bitOr (Builtin.bitOr a b) c) d
 have d1:=o1.1.mp h2
 have o2:=ue t (Builtin.bitOr a b) c
 have d2:=o2.1.mp d1.1
 have o3:=ue t a b
 have d3:=o3.1.mp d2.1
 refine ⟨t,e,h1,(Int.ediv_mul_cancel d3.1).symm,(Int.ediv_mul_cancel d3.2).symm,(Int.ediv_mul_cancel d2.2).symm,(Int.ediv_mul_cancel d1.2).symm,fun z w=>h3 z ?_⟩
 have ev:∀ x y:Int,x % 2=0->y % 2=0->Builtin.bitOr x y % 2=0:=fun x y hx hy=>by
  rw [pe,if_pos ⟨hx,hy⟩]; omega
 rw [o1.2 h2,o2.2 d1.1,o3.2 d2.1]
 exact ev _ _ (ev _ _ (ev _ _ w.1 w.2.1) w.2.2.1) w.2.2.2
noncomputable def num (x:Q4) (k:Int):Q4×Int:=
 let t:=(tP (Builtin.bitOr (Builtin.bitOr (Builtin.bitOr x.a x.b) x.c) x.d) (k / 2)).toNat
 let y:Q4:=⟨x.a / 2 ^ t,x.b / 2 ^ t,x.c / 2 ^ t,x.d / 2 ^ t⟩
 if k-2*t=0\/(y.a-y.c) % 2=1\/(y.b-y.d) % 2=1 then (y,k-2*t) else (⟨(y.b-y.d) / 2,(y.a+y.c) / 2,(y.b+y.d) / 2,(y.c-y.a) / 2⟩,k-2*t-1)
theorem uB {p q:Int} (h:(p-q) % 2=0):(p+q) / 2-(q-p) / 2=p/\(p+q) / 2+(q-p) / 2=q:=by omega
theorem uA {p q:Int} (h:(p-q) % 2=0):(p-q) / 2+(p+q) / 2=p/\(p+q) / 2-(p-q) / 2=q:=by omega
theorem ER {x y:Int} (h:(x-y) % 2=0) (k:y % 2=0):x % 2=0:=by omega
theorem By {x y:Int} (h:(x-y) % 2=0) (k:x % 2=0):y % 2=0:=by omega
theorem yW {a b c d:Int} (g1:(a-c) % 2=0) (g2:(b-d) % 2=0) (h:¬ (a % 2=0/\b % 2=0/\c % 2=0/\d % 2=0)):Q4.Odd ⟨(b-d) / 2,(a+c) / 2,(b+d) / 2,(c-a) / 2⟩:=fun z=>by
 have z1:((b-d) / 2-(b+d) / 2) % 2=0:=z.1
 have z2:((a+c) / 2-(c-a) / 2) % 2=0:=z.2
 rw [(uB g1).1] at z2
 have e:=(uA g2).2
 have z3:d % 2=0:=by omega
 exact h ⟨z2,ER g2 z3,By g1 z2,z3⟩
theorem iZ (x:Q4) (k:Int) (hk:0<=k):Q4.Least (num x k).1 (num x k).2/\(num x k).2<=k/\Q4.rtn (k-(num x k).2).toNat (num x k).1=x:=by
 obtain ⟨t,e,h1,ha,hb,hc,hd,h3⟩:=kC x.a x.b x.c x.d (k / 2) (by omega)
 have l2:2*(t:Int)<=k:=by omega
 unfold num
 simp only [e,Int.toNat_natCast]
 generalize x.a / 2 ^ t=a at *
 generalize x.b / 2 ^ t=b at *
 generalize x.c / 2 ^ t=c at *
 generalize x.d / 2 ^ t=d at *
 have e2:Q4.dbl (2 ^ t) ⟨a,b,c,d⟩=x:=Q4.ext' ha.symm hb.symm hc.symm hd.symm
 split
 ·rename_i h
  refine ⟨⟨Int.sub_nonneg_of_le l2,fun z=>?_⟩,Int.sub_le_self _ (by omega),?_⟩
  ·rcases h with h | h | h
   ·exact absurd h (Int.ne_of_gt z)
   ·exact fun w=>absurd (h.symm.trans w.1) (by decide)
   ·exact fun w=>absurd (h.symm.trans w.2) (by decide)
  ·have:(k-(k-2*(t:Int))).toNat=2*t:=by omega
   simp only [this]
   rw [Q4.rtn_two,e2]
 ·rename_i h
  have g0:k-2*(t:Int)≠0:=fun z=>h (.inl z)
  have g1:(a-c) % 2=0:=(Int.emod_two_eq (a-c)).resolve_right fun z=>h (.inr (.inl z))
  have g2:(b-d) % 2=0:=(Int.emod_two_eq (b-d)).resolve_right fun z=>h (.inr (.inr z))
  refine ⟨⟨(by omega:0<=k-2*(t:Int)-1),fun z=>yW g1 g2 (h3 ?_)⟩,(by omega:k-2*(t:Int)-1<=k),?_⟩
  ·have z:0<k-2*(t:Int)-1:=z
   omega
  ·have:(k-(k-2*(t:Int)-1)).toNat=2*t+1:=by omega
   simp only [this]
   show Q4.rtn (2*t) (Q4.rt _)=x
   rw [Q4.rtn_two]
   have e3:Q4.rt ⟨(b-d) / 2,(a+c) / 2,(b+d) / 2,(c-a) / 2⟩=⟨a,b,c,d⟩:=Q4.ext' (uB g1).1 (uA g2).1 (uB g1).2 (uA g2).2
   rw [e3,e2]
noncomputable def Q4.Le (M:Nat) (x:Q4):Prop:=x.a.natAbs<=M/\x.b.natAbs<=M/\x.c.natAbs<=M/\x.d.natAbs<=M
theorem qS (a:Int) (t:Nat) (h:a=a / 2 ^ t*2 ^ t):(a / 2 ^ t).natAbs<=a.natAbs:=by
 have pw:=ke t
 have:a.natAbs=(a / 2 ^ t).natAbs*((2:Int) ^ t).natAbs:=by rw [<- Int.natAbs_mul,<- h]
 rw [this]
 exact Nat.le_mul_of_pos_right _ (by omega)
theorem lE {a b:Int} {M:Nat} (ha:a.natAbs<=M) (hb:b.natAbs<=M):((a+b) / 2).natAbs<=M:=by omega
theorem lD {a b:Int} {M:Nat} (ha:a.natAbs<=M) (hb:b.natAbs<=M):((a-b) / 2).natAbs<=M:=by omega
theorem yY (x:Q4) (k:Int) (hk:0<=k) (M:Nat) (h:Q4.Le M x):Q4.Le M (num x k).1:=by
 obtain ⟨t,e,h1,ha,hb,hc,hd,h3⟩:=kC x.a x.b x.c x.d (k / 2) (by omega)
 have la:=Nat.le_trans (qS _ _ ha) h.1
 have lb:=Nat.le_trans (qS _ _ hb) h.2.1
 have lc:=Nat.le_trans (qS _ _ hc) h.2.2.1
 have ld:=Nat.le_trans (qS _ _ hd) h.2.2.2
 unfold num Q4.Le
 simp only [e,Int.toNat_natCast]
 split
 ·exact ⟨la,lb,lc,ld⟩
 ·exact ⟨lD lb ld,lE la lc,lE lb ld,lD lc la⟩
theorem fm {a b:Int} {M N:Nat} (ha:a.natAbs<=M) (hb:b.natAbs<=N):(a+b).natAbs<=M+N:=Nat.le_trans (Int.natAbs_add_le a b) (Nat.add_le_add ha hb)
theorem mN {a b:Int} {M N:Nat} (ha:a.natAbs<=M) (hb:b.natAbs<=N):(a-b).natAbs<=M+N:=Nat.le_trans (Int.natAbs_sub_le a b) (Nat.add_le_add ha hb)
theorem HA {x:Q4} {M:Nat} (h:Q4.Le M x):Q4.Le (2*M) (Q4.rt x):=by
 obtain ⟨g1,g2,g3,g4⟩:=h
 rw [Nat.two_mul]
 unfold Q4.Le Q4.rt
 exact ⟨mN g2 g4,fm g1 g3,fm g2 g4,mN g3 g1⟩
theorem yw {x:Q4} {M:Nat}:∀ (n:Nat),Q4.Le M x->Q4.Le (2 ^ n*M) (Q4.rtn n x)
 | 0,h=>by simpa [Q4.rtn] using h
 | n+1,h=>by
  have:=HA (yw n h)
  rw [Q4.rtn_succ]
  rw [Nat.pow_succ,Nat.mul_comm (2 ^ n) 2,Nat.mul_assoc]
  exact this
theorem Q4.Le.mono {x:Q4} {M N:Nat} (h:Q4.Le M x) (hl:M<=N):Q4.Le N x:=⟨Nat.le_trans h.1 hl,Nat.le_trans h.2.1 hl,Nat.le_trans h.2.2.1 hl,Nat.le_trans h.2.2.2 hl⟩
theorem Aq {x y:Q4} {M N:Nat} (h:Q4.Le M x) (h':Q4.Le N y):Q4.Le (M+N) (Q4.add x y):=
 ⟨fm h.1 h'.1,fm h.2.1 h'.2.1,fm h.2.2.1 h'.2.2.1,fm h.2.2.2 h'.2.2.2⟩
noncomputable def gM (x:Q4) (c:Int) (y:Q4) (d:Int):Q4×Int:=num (Q4.add (Q4.rtn (max c d-c).toNat x) (Q4.rtn (max c d-d).toNat y)) (max c d)
noncomputable def gp (x:Q4) (c:Int) (y:Q4) (d:Int):Q4×Int:=num (Q4.mul x y) (c+d)
noncomputable def bL:Nat->Q4->Q4
 | 0,x=>x
 | n+1,x=>Q4.tn (bL n x)
theorem mP {x:Q4} {M:Nat}:∀ n:Nat,Q4.Le M x->Q4.Le M (bL n x)
 | 0,h=>h
 | n+1,h=>by
  obtain ⟨a,b,c,d⟩:=mP n h
  exact ⟨by simpa [bL,Q4.tn] using d,a,b,c⟩
theorem tn_odd {x:Q4}:Q4.Odd (Q4.tn x)↔Q4.Odd x:=by
 unfold Q4.Odd Q4.tn
 simp only
 omega
theorem u3 {x:Q4}:∀ n:Nat,Q4.Odd (bL n x)↔Q4.Odd x
 | 0=>Iff.rfl
 | n+1=>tn_odd.trans (u3 n)
theorem wk {x:Q4} {c:Int} (n:Nat) (h:Q4.Least x c):Q4.Least (bL n x) c:=⟨h.1,fun z=>(u3 n).mpr (h.2 z)⟩
noncomputable def Is (x:Q4) (c:Nat) (u:Q4) (k:Nat):Prop:=Q4.Least x c/\Q4.rtn k x=Q4.rtn c u
theorem cz (m n:Nat) (x:Q4):Q4.rtn m (Q4.rtn n x)=Q4.rtn n (Q4.rtn m x):=by rw [<- Q4.rtn_add,<- Q4.rtn_add,Nat.add_comm]
theorem Is.self {x:Q4} {c:Nat} (h:Q4.Least x c):Is x c x c:=⟨h,rfl⟩
theorem Is.one {x y u v:Q4} {c d k l:Nat} (hx:Is x c u k) (hy:Is y d v l) (h:Q4.rtn l u=Q4.rtn k v):x=y/\c=d:=by
 have e:Q4.rtn d x=Q4.rtn c y:=by
  refine Q4.rtn_inj (n:=k+l) ?_
  rw [Q4.rtn_add,Q4.rtn_add,cz l d x,cz k d,cz k l,hx.2,cz l c u,h,cz l c y,hy.2,cz k c,cz k d v,cz d c]
 exact Q4.Least.one (m:=c+d) hx.1 hy.1 (by omega) (by omega) (by rw [show c+d-c=d by omega,show c+d-d=c by omega]; exact e)
theorem E7 (u:Q4) (k:Nat):∃ c:Nat,(num u k).2=c/\c<=k/\Is (num u k).1 c u k:=by
 obtain ⟨s1,s2,s3⟩:=iZ u k (by omega)
 obtain ⟨c,hc⟩:∃ c:Nat,(num u k).2=c:=⟨(num u k).2.toNat,by have:=s1.1; omega⟩
 rw [hc] at s1 s2 s3
 refine ⟨c,hc,by omega,s1,?_⟩
 have e:((k:Int)-c).toNat=k-c:=by omega
 rw [e] at s3
 conv=>rhs; rw [<- s3]
 rw [<- Q4.rtn_add]
 congr 1
 omega
theorem Is.trans {x u v:Q4} {c k l:Nat} (h:Is x c u k) (e:Q4.rtn l u=Q4.rtn k v):Is x c v l:=by
 refine ⟨h.1,Q4.rtn_inj (n:=k) ?_⟩
 rw [cz,h.2,cz,e,cz]
theorem DX (n:Nat) (x:Q4):Q4.tn (Q4.rtn n x)=Q4.rtn n (Q4.tn x):=by
 induction n generalizing x with
 | zero=>rfl
 | succ n ih=>show Q4.tn (Q4.rtn n (Q4.rt x))=Q4.rtn n (Q4.rt (Q4.tn x)); rw [ih,Q4.tn_rt]
theorem eO (m n:Nat) (x:Q4):bL m (Q4.rtn n x)=Q4.rtn n (bL m x):=by
 induction m with
 | zero=>rfl
 | succ m ih=>show Q4.tn (bL m (Q4.rtn n x))=_; rw [ih,DX]; rfl
theorem fB (m n:Nat) (x:Q4):bL (m+n) x=bL m (bL n x):=by
 induction m with
 | zero=>rw [Nat.zero_add]; rfl
 | succ m ih=>rw [Nat.succ_add]; show Q4.tn (bL (m+n) x)=_; rw [ih]; rfl
theorem J5 (x:Q4):bL 8 x=x:=by simp [bL,Q4.tn]
theorem j5 (n:Nat) (x:Q4):bL (n % 8) x=bL n x:=by
 conv=>rhs; rw [<- Nat.mod_add_div n 8]
 rw [fB]
 congr 1
 generalize n / 8=q
 induction q with
 | zero=>rfl
 | succ q ih=>rw [Nat.mul_succ,fB,J5]; exact ih
theorem u4 (n:Nat) (x y:Q4):bL n (Q4.mul x y)=Q4.mul x (bL n y):=by
 induction n with
 | zero=>rfl
 | succ n ih=>show Q4.tn (bL n (Q4.mul x y))=_; rw [ih,Q4.tn_mul]; rfl
theorem yD {x y:Q4} {c d:Nat} {p r:Nat} (hx:Q4.Le (2 ^ p) x) (hy:Q4.Le (2 ^ p) y) (hc:c<=r) (hd:d<=r):Q4.Le (2 ^ (p+r+1)) (gM x c y d).1:=by
 have em:max (c:Int) d=((max c d:Nat):Int):=by omega
 unfold gM
 refine yY _ _ (by omega) _ ?_
 have up:∀ (n:Nat) (z:Q4),n<=r->Q4.Le (2 ^ p) z->Q4.Le (2 ^ (p+r)) (Q4.rtn n z):=fun n z hn hz=>by
  refine (yw n hz).mono ?_
  rw [<- Nat.pow_add]
  exact Nat.pow_le_pow_right (by decide) (by omega)
 have:=Aq (up (max (c:Int) d-c).toNat x (by omega) hx) (up (max (c:Int) d-d).toNat y (by omega) hy)
 rw [Nat.pow_succ,Nat.mul_two]
 exact this
structure S2 where
 p:Int
 q:Int
namespace S2
theorem ext' {x y:S2} (h1:x.p=y.p) (h2:x.q=y.q):x=y:=by
 cases x; cases y; simp at h1 h2; subst h1 h2; rfl
noncomputable def add (x y:S2):S2:=⟨x.p+y.p,x.q+y.q⟩
noncomputable def mul (x y:S2):S2:=⟨x.p*y.p+2*x.q*y.q,x.p*y.q+x.q*y.p⟩
noncomputable def sc (n:Nat) (x:S2):S2:=⟨x.p*2 ^ n,x.q*2 ^ n⟩
theorem sc_add (m n:Nat) (x:S2):sc (m+n) x=sc m (sc n x):=by
 apply ext' <;> simp only [sc,Int.pow_add] <;> rw [Int.mul_assoc,Int.mul_comm (2 ^ n)]
theorem eR (m n:Nat) (x:S2):sc m (sc n x)=sc n (sc m x):=by rw [<- sc_add,<- sc_add,Nat.add_comm]
theorem sc_inj {n:Nat} {x y:S2} (h:sc n x=sc n y):x=y:=by
 have pw:=ke n
 have h1:=congrArg S2.p h
 have h2:=congrArg S2.q h
 simp only [sc] at h1 h2
 exact ext' (Int.eq_of_mul_eq_mul_right (by omega) h1) (Int.eq_of_mul_eq_mul_right (by omega) h2)
theorem sc_addS (n:Nat) (x y:S2):sc n (add x y)=add (sc n x) (sc n y):=by apply ext' <;> simp only [sc,add,Int.add_mul]
noncomputable def Odd (x:S2):Prop:=¬ (x.p % 2=0/\x.q % 2=0)
theorem Bh (n:Nat) (x:S2):¬ Odd (sc (n+1) x):=by
 unfold Odd sc
 rw [Int.pow_succ,<- Int.mul_assoc,<- Int.mul_assoc]
 simp only
 omega
noncomputable def Least (x:S2) (c:Nat):Prop:=0<c->Odd x
theorem Least.one {x y:S2} {k l m:Nat} (hx:Least x k) (hy:Least y l) (h1:k<=m) (h2:l<=m) (h:sc (m-k) x=sc (m-l) y):x=y/\k=l:=by
 have key:∀ {x y:S2} {k l:Nat},Least y l->k<=m->l<=m->k<l->sc (m-k) x=sc (m-l) y->False:=by
  intro x y k l hy h1 h2 hlt h
  have e:m-k=(m-l)+(l-k):=by omega
  rw [e,sc_add] at h
  have h3:=sc_inj h
  obtain ⟨n,hn⟩:∃ n,l-k=n+1:=⟨l-k-1,by omega⟩
  rw [hn] at h3
  have:=hy (by omega)
  rw [<- h3] at this
  exact Bh _ _ this
 rcases Nat.lt_trichotomy k l with q | q | q
 ·exact (key hy h1 h2 q h).elim
 ·subst q; exact ⟨sc_inj h,rfl⟩
 ·exact (key hx h2 h1 q h.symm).elim
noncomputable def Le (M:Nat) (x:S2):Prop:=x.p.natAbs<=M/\x.q.natAbs<=M
theorem Le.mono {x:S2} {M N:Nat} (h:Le M x) (hl:M<=N):Le N x:=⟨Nat.le_trans h.1 hl,Nat.le_trans h.2 hl⟩
theorem Aq {x y:S2} {M N:Nat} (h:Le M x) (h':Le N y):Le (M+N) (add x y):=
 ⟨Nat.le_trans (Int.natAbs_add_le _ _) (Nat.add_le_add h.1 h'.1),Nat.le_trans (Int.natAbs_add_le _ _) (Nat.add_le_add h.2 h'.2)⟩
noncomputable def Is (x:S2) (c:Nat) (u:S2) (k:Nat):Prop:=Least x c/\sc k x=sc c u
theorem Is.one {x y u v:S2} {c d k l:Nat} (hx:Is x c u k) (hy:Is y d v l) (h:sc l u=sc k v):x=y/\c=d:=by
 have e:sc d x=sc c y:=by
  refine sc_inj (n:=k+l) ?_
  rw [sc_add,sc_add,eR l d x,eR k d,eR k l,hx.2,eR l c u,h,eR l c y,hy.2,eR k c,eR k d v,eR d c]
 exact Least.one (m:=c+d) hx.1 hy.1 (by omega) (by omega) (by rw [show c+d-c=d by omega,show c+d-d=c by omega]; exact e)
theorem Is.trans {x u v:S2} {c k l:Nat} (h:Is x c u k) (e:sc l u=sc k v):Is x c v l:=by
 refine ⟨h.1,sc_inj (n:=k) ?_⟩
 rw [eR,h.2,eR,e,eR]
end S2
noncomputable def nrm (x:Q4):S2:=⟨x.a*x.a+x.b*x.b+x.c*x.c+x.d*x.d,x.a*x.b+x.b*x.c+x.c*x.d-x.d*x.a⟩
theorem qu (x:Q4):nrm (Q4.rt x)=S2.sc 1 (nrm x):=by apply S2.ext' <;> simp only [nrm,Q4.rt,S2.sc] <;> grind
theorem ju (n:Nat) (x:Q4):nrm (Q4.rtn n x)=S2.sc n (nrm x):=by
 induction n generalizing x with
 | zero=>apply S2.ext' <;> simp [Q4.rtn,S2.sc]
 | succ n ih=>show nrm (Q4.rtn n (Q4.rt x))=_; rw [ih,qu,<- S2.sc_add]
theorem qv (x y:Q4):nrm (Q4.mul x y)=S2.mul (nrm x) (nrm y):=by apply S2.ext' <;> simp only [nrm,Q4.mul,S2.mul] <;> grind
theorem Ff (x:Q4):nrm (Q4.tn x)=nrm x:=by apply S2.ext' <;> simp only [nrm,Q4.tn] <;> grind
theorem qt (n:Nat) (x:Q4):nrm (bL n x)=nrm x:=by
 induction n with
 | zero=>rfl
 | succ n ih=>show nrm (Q4.tn (bL n x))=_; rw [Ff,ih]
theorem BK (x y:Q4):S2.add (nrm (Q4.add x y)) (nrm (Q4.add x (Q4.neg y)))=S2.add (S2.add (nrm x) (nrm y)) (S2.add (nrm x) (nrm y)):=by
 apply S2.ext' <;> simp only [nrm,Q4.add,Q4.neg,S2.add] <;> grind
noncomputable def xm (s:S2):Q4:=⟨s.p,s.q,0,-s.q⟩
theorem vx (x:Q4):Q4.mul x (Q4.mir x)=xm (nrm x):=by apply Q4.ext' <;> simp only [Q4.mul,Q4.mir,xm,nrm] <;> grind
theorem f8 (a:Int):0<=a*a:=by
 rcases Int.le_total 0 a with h | h
 ·exact Int.mul_nonneg h h
 ·have:=Int.mul_nonneg (Int.neg_nonneg.mpr h) (Int.neg_nonneg.mpr h)
  rwa [Int.neg_mul_neg] at this
theorem Fi (x:Q4):0<=(nrm x).p/\2*(nrm x).q*(nrm x).q<=(nrm x).p*(nrm x).p:=by
 constructor
 ·have:=f8 x.a; have:=f8 x.b; have:=f8 x.c; have:=f8 x.d
  simp only [nrm]
  omega
 ·have e:(nrm x).p*(nrm x).p-2*(nrm x).q*(nrm x).q=(x.a*x.a-x.c*x.c+2*x.b*x.d)*(x.a*x.a-x.c*x.c+2*x.b*x.d)+(2*x.a*x.c-x.b*x.b+x.d*x.d)*(2*x.a*x.c-x.b*x.b+x.d*x.d):=by
   simp only [nrm]
   grind
  have h1:=f8 (x.a*x.a-x.c*x.c+2*x.b*x.d)
  have h2:=f8 (2*x.a*x.c-x.b*x.b+x.d*x.d)
  omega
theorem y0 {x:Q4} (h:(nrm x).p=0):x=⟨0,0,0,0⟩:=by
 have h1:=f8 x.a; have h2:=f8 x.b; have h3:=f8 x.c; have h4:=f8 x.d
 simp only [nrm] at h
 have z:∀ a:Int,a*a=0->a=0:=fun a e=>by rcases Int.mul_eq_zero.mp e with q | q <;> exact q
 exact Q4.ext' (z _ (by omega)) (z _ (by omega)) (z _ (by omega)) (z _ (by omega))
noncomputable abbrev Nu:=Q4×Nat
inductive Row where
 | swing (j:Nat) | turn (j:Nat) (e:Nat) | flip (j:Nat) | tie (i j:Nat) | sign (i j:Nat) | cross (i j:Nat)
noncomputable def d5 (u v:Nu):Nu:=((gM u.1 u.2 v.1 v.2).1,(gM u.1 u.2 v.1 v.2).2.toNat)
noncomputable def fS (u:Nu):Nu:=((num u.1 ((u.2+1:Nat):Int)).1,(num u.1 ((u.2+1:Nat):Int)).2.toNat)
noncomputable def cy (e:Nat) (u:Nu):Nu:=(bL (e % 8) u.1,u.2)
noncomputable def wt (n j:Nat):Nat:=2 ^ (n-1-j)
noncomputable def aG (w p:Nat):Nat:=p / w % 2
noncomputable def flp (w p:Nat):Nat:=if aG w p=0 then p+w else p-w
noncomputable def from_ (n:Nat):Row->Nat->Nat
 | .flip j,p=>flp (wt n j) p
 | .tie i j,p=>if aG (wt n i) p=0 then p else flp (wt n j) p
 | .cross i j,p=>if aG (wt n i) p=aG (wt n j) p then p else flp (wt n j) (flp (wt n i) p)
 | _,p=>p
noncomputable def bK (n:Nat) (f:Nat->Nu):Row->Nat->Nu
 | .swing j,p=>if aG (wt n j) p=0 then fS (d5 (f p) (f (p+wt n j))) else fS (d5 (f (p-wt n j)) (cy 4 (f p)))
 | .turn j e,p=>cy (e*aG (wt n j) p) (f p)
 | .sign i j,p=>cy (4*aG (wt n i) p*aG (wt n j) p) (f p)
 | r,p=>f (from_ n r p)
noncomputable def Row.ok (n:Nat):Row->Prop
 | .swing j=>j<n
 | .turn j e=>j<n/\1<=e/\e<=7
 | .flip j=>j<n
 | .tie i j=>i<n/\j<n/\i≠j
 | .sign i j=>i<n/\j<n/\i≠j
 | .cross i j=>i<n/\j<n/\i≠j
theorem aR (n j:Nat):0<wt n j:=Nat.pow_pos (by decide)
theorem xJ {n j:Nat} (h:j<n):2 ^ n=wt n j*2 ^ (j+1):=by
 unfold wt
 rw [<- Nat.pow_add]; congr 1; omega
theorem bR (w p:Nat):aG w p<2:=Nat.mod_lt _ (by decide)
theorem jz (w p:Nat) (hw:0<w):∃ q r,p=(2*q+aG w p)*w+r/\r<w:=by
 refine ⟨p / w / 2,p % w,?_,Nat.mod_lt _ hw⟩
 unfold aG
 rw [Nat.div_add_mod,Nat.div_add_mod']
theorem uM {w q b r:Nat} (hb:b<2) (hr:r<w):aG w ((2*q+b)*w+r)=b:=by
 unfold aG
 rw [Nat.mul_comm,Nat.mul_add_div (by omega),Nat.div_eq_of_lt hr]
 omega
theorem qZ {w p:Nat} (hw:0<w) (h:aG w p=1):w<=p:=by
 obtain ⟨q,r,e,_⟩:=jz w p hw
 rw [h] at e
 have:(2*q+1)*w=2*q*w+w:=by rw [Nat.add_mul,Nat.one_mul]
 omega
theorem C4 {n j p:Nat} (hj:j<n) (hp:p<2 ^ n) (h:aG (wt n j) p=0):p+wt n j<2 ^ n:=by
 obtain ⟨q,r,e,hr⟩:=jz (wt n j) p (aR n j)
 rw [h] at e
 have h2:=xJ hj
 have hq:q<2 ^ j:=by
  refine Nat.lt_of_not_le fun z=>?_
  have:2*2 ^ j*wt n j<=2*q*wt n j:=Nat.mul_le_mul_right _ (by omega)
  have e2:wt n j*2 ^ (j+1)=2*2 ^ j*wt n j:=by rw [Nat.pow_succ,Nat.mul_comm,Nat.mul_comm (2 ^ j) 2]
  rw [Nat.add_zero] at e
  omega
 have:(2*q+2)*wt n j<=2*2 ^ j*wt n j:=Nat.mul_le_mul_right _ (by omega)
 have e2:wt n j*2 ^ (j+1)=2*2 ^ j*wt n j:=by rw [Nat.pow_succ,Nat.mul_comm,Nat.mul_comm (2 ^ j) 2]
 have e3:(2*q+2)*wt n j=2*q*wt n j+2*wt n j:=Nat.add_mul ..
 rw [Nat.add_zero] at e
 omega
theorem i7 {n j p:Nat} (hj:j<n) (hp:p<2 ^ n):flp (wt n j) p<2 ^ n:=by
 unfold flp
 split
 ·exact C4 hj hp (by assumption)
 ·omega
theorem qJ {n p:Nat} {r:Row} (hr:r.ok n) (hp:p<2 ^ n):from_ n r p<2 ^ n:=by
 cases r with
 | flip j=>exact i7 hr hp
 | tie i j=>show (if _ then _ else _)<_; split; exact hp; exact i7 hr.2.1 hp
 | cross i j=>show (if _ then _ else _)<_; split; exact hp; exact i7 hr.2.1 (i7 hr.1 hp)
 | _=>exact hp
theorem CI {w p:Nat} (hw:0<w):flp w p / (2*w)=p / (2*w):=by
 obtain ⟨q,r,e,hr⟩:=jz w p hw
 have h2:=bR w p
 have e1:(2*q+aG w p)*w=2*w*q+aG w p*w:=by rw [Nat.add_mul,Nat.mul_right_comm]
 have one:∀ x,x<2*w->(2*w*q+x) / (2*w)=q:=fun x hx=>by rw [Nat.mul_add_div (by omega),Nat.div_eq_of_lt hx,Nat.add_zero]
 unfold flp
 split
 ·rename_i h
  rw [h] at e e1
  have a:=one (r+w) (by omega)
  have b:=one r (by omega)
  rw [show p+w=2*w*q+(r+w) by omega,a,show p=2*w*q+r by omega,b]
 ·rename_i h
  have h1:aG w p=1:=by omega
  rw [h1] at e e1
  have a:=one (r+w) (by omega)
  have b:=one r (by omega)
  rw [show p-w=2*w*q+r by omega,b,show p=2*w*q+(r+w) by omega,a]
theorem pG (x p m:Nat) (hx:0<x):aG x (p+2*x*m)=aG x p:=by
 unfold aG
 rw [show p+2*x*m=p+x*(2*m) by rw [Nat.mul_comm 2 x,Nat.mul_assoc],Nat.add_mul_div_left _ _ hx]
 omega
theorem cY {n i j p:Nat} (hi:i<n) (hj:j<n) (hij:i≠j):aG (wt n j) (flp (wt n i) p)=aG (wt n j) p:=by
 have hw:=aR n i
 by_cases h:j<i
 ·
  have e:wt n j=2*wt n i*2 ^ (i-j-1):=by
   unfold wt
   rw [show 2*2 ^ (n-1-i)=2 ^ (n-1-i+1) by rw [Nat.pow_succ,Nat.mul_comm],<- Nat.pow_add]
   congr 1; omega
  unfold aG
  rw [e,<- Nat.div_div_eq_div_mul (flp (wt n i) p) (2*wt n i),<- Nat.div_div_eq_div_mul p (2*wt n i),CI hw]
 ·have e:wt n i=2*wt n j*2 ^ (j-i-1):=by
   unfold wt
   rw [show 2*2 ^ (n-1-j)=2 ^ (n-1-j+1) by rw [Nat.pow_succ,Nat.mul_comm],<- Nat.pow_add]
   congr 1; omega
  unfold flp
  split
  ·rw [e]; exact pG _ _ _ (aR n j)
  ·rename_i hb
   have h2:=bR (wt n i) p
   have:=qZ (w:=wt n i) (p:=p) hw (by omega)
   have:=pG (wt n j) (p-wt n i) (2 ^ (j-i-1)) (aR n j)
   rw [<- this,<- e,Nat.sub_add_cancel (by assumption)]
theorem bJ {w p:Nat} (hw:0<w):aG w (flp w p)=1-aG w p:=by
 obtain ⟨q,r,e,hr⟩:=jz w p hw
 have h2:=bR w p
 unfold flp
 split
 ·rename_i h
  rw [h] at e
  rw [h,show p+w=(2*q+1)*w+r by rw [Nat.add_mul] at e ⊢; omega]
  exact uM (by decide) hr
 ·rename_i h
  have h1:aG w p=1:=by omega
  rw [h1] at e
  rw [h1,show p-w=(2*q+0)*w+r by rw [Nat.add_mul] at e ⊢; omega]
  exact uM (by decide) hr
theorem cL {w p:Nat} (hw:0<w):flp w (flp w p)=p:=by
 have h:=bJ (p:=p) hw
 have h2:=bR w p
 by_cases c:aG w p=0
 ·have e:flp w p=p+w:=if_pos c
  rw [c] at h
  rw [e] at h ⊢
  unfold flp
  rw [if_neg (by omega)]; omega
 ·have c1:aG w p=1:=by omega
  have e:flp w p=p-w:=if_neg c
  have:=qZ hw c1
  rw [c1] at h
  rw [e] at h ⊢
  unfold flp
  rw [if_pos (by omega)]; omega
theorem tq (a b:Nat):Builtin.bitAnd (a:Int) (b:Int)=((a &&& b:Nat):Int):=by
 unfold Builtin.bitAnd
 simp
theorem wf {x y z:Nat} (h:x / 2=y / 2+z / 2) (m:x % 2=y % 2+z % 2):x=y+z:=by omega
theorem wR {u v w:Nat} {p q:Prop} (hu:u<2) (hv:v<2) (hw:w<2) (m1:u=1↔p\/q) (m2:v=1 ↔ ¬ (p↔q)) (m3:w=1↔p/\q):u=v+w:=by
 have z:∀ {x:Nat},x<2->¬ x=1->x=0:=fun h k=>by omega
 by_cases a:p <;> by_cases b:q
 ·rw [m1.mpr (.inl a),m3.mpr ⟨a,b⟩,z hv fun e=>m2.mp e ⟨fun _=>b,fun _=>a⟩]
 ·rw [m1.mpr (.inl a),m2.mpr fun e=>b (e.mp a),z hw fun e=>b (m3.mp e).2]
 ·rw [m1.mpr (.inr b),m2.mpr fun e=>a (e.mpr b),z hw fun e=>a (m3.mp e).1]
 ·rw [z hu fun e=>(m1.mp e).elim a b,z hv fun e=>m2.mp e ⟨fun c=>absurd c a,fun c=>absurd c b⟩,z hw fun e=>a (m3.mp e).1]
theorem ot:∀ (k a b:Nat),a<2 ^ k->b<2 ^ k->(a ||| b)=(a ^^^ b)+(a &&& b)
 | 0,a,b,ha,hb=>by
  have:a=0:=by simpa using ha
  have:b=0:=by simpa using hb
  subst a; subst b; rfl
 | k+1,a,b,ha,hb=>by
  have ih:=ot k (a / 2) (b / 2) (by rw [Nat.pow_succ] at ha; omega) (by rw [Nat.pow_succ] at hb; omega)
  have h1:=@Nat.or_div_two a b
  have h2:=@Nat.xor_div_two a b
  have h3:=@Nat.and_div_two a b
  have m1:=@Nat.or_mod_two_eq_one a b
  have m2:=@Nat.xor_mod_two_eq_one a b
  have m3:=@Nat.and_mod_two_eq_one a b
  rw [<- h1,<- h2,<- h3] at ih
  exact wf ih (wR (Nat.mod_lt _ (by decide)) (Nat.mod_lt _ (by decide)) (Nat.mod_lt _ (by decide)) m1 m2 m3)
theorem JS (a b:Nat):Builtin.bitOr (a:Int) (b:Int)=((a ||| b:Nat):Int):=by
 have h1:¬ (0:Int)<=Builtin.bitNot (a:Int):=by unfold Builtin.bitNot; omega
 have h2:¬ (0:Int)<=Builtin.bitNot (b:Int):=by unfold Builtin.bitNot; omega
 have e1:(Builtin.bitNot (Builtin.bitNot (a:Int))).toNat=a:=by unfold Builtin.bitNot; omega
 have e2:(Builtin.bitNot (Builtin.bitNot (b:Int))).toNat=b:=by unfold Builtin.bitNot; omega
 unfold Builtin.bitOr Builtin.bitAnd
 rw [decide_eq_false h1,decide_eq_false h2]
 dsimp only
 rw [e1,e2]
 unfold Builtin.bitNot
 omega
theorem xr (a b:Nat):Builtin.bitXor (a:Int) (b:Int)=((a ^^^ b:Nat):Int):=by
 unfold Builtin.bitXor
 rw [JS,tq]
 have h:∀ n:Nat,n<2 ^ n:=fun n=>Nat.lt_two_pow_self
 have:=ot (max a b) a b (Nat.lt_of_lt_of_le (h a) (Nat.pow_le_pow_right (by decide) (by omega))) (Nat.lt_of_lt_of_le (h b) (Nat.pow_le_pow_right (by decide) (by omega)))
 omega
noncomputable def L7 (n:Nat):Nat:=if n=0 then 0 else n % 2+L7 (n / 2)
termination_by n
decreasing_by omega
noncomputable def par (n:Nat):Nat:=L7 n % 2
structure Wd where
 x:Nat
 z:Nat
 s:Nat
noncomputable def Wd.ok (n:Nat) (w:Wd):Prop:=w.x<2 ^ n/\w.z<2 ^ n/\w.s<4
noncomputable def Sh (k:Nat) (d:PyData):Prop:=d.canLay0=true/\d.depth<=k
theorem Sh.int (k:Nat) (i:Int):Sh k (.int i):=⟨by simp [PyData.canLay0],by simp [PyData.depth]⟩
theorem Sh.all {k:Nat}:∀ (xs:List PyData),(∀ x∈xs,Sh k x)->PyData.canLayAll0 xs=true/\PyData.depthAll xs<=k
 | [],_=>⟨by simp [PyData.canLayAll0],by simp [PyData.depthAll]⟩
 | x::xs,h=>by
  obtain ⟨a,b⟩:=Sh.all xs fun y hy=>h y (List.mem_cons_of_mem _ hy)
  obtain ⟨c,d⟩:=h x List.mem_cons_self
  refine ⟨by simp [PyData.canLayAll0,a,c],?_⟩
  simp only [PyData.depthAll]
  omega
theorem Sh.tuple {k:Nat} {xs:List PyData} (h:∀ x∈xs,Sh k x):Sh (k+1) (.tuple xs):=by
 obtain ⟨a,b⟩:=Sh.all xs h
 exact ⟨by simp [PyData.canLay0,a],by simp only [PyData.depth]; omega⟩
theorem Sh.list {k:Nat} {xs:List PyData} (h:∀ x∈xs,Sh k x):Sh (k+1) (.list xs):=by
 obtain ⟨a,b⟩:=Sh.all xs h
 exact ⟨by simp [PyData.canLay0,a],by simp only [PyData.depth]; omega⟩
mutual
theorem sO:∀ d:PyData,d.canLay0=true->PyData.eqv d d=true
 | .none,_=>by simp [PyData.eqv]
 | .bool _,_=>by simp [PyData.eqv]
 | .int _,_=>by simp [PyData.eqv]
 | .str _,_=>by simp [PyData.eqv]
 | .list xs,h=>by
  simp only [PyData.eqv]
  exact eqvAll_self xs (by simpa [PyData.canLay0] using h)
 | .tuple xs,h=>by
  simp only [PyData.eqv]
  exact eqvAll_self xs (by simpa [PyData.canLay0] using h)
 | .dict _,h=>by simp [PyData.canLay0] at h
theorem eqvAll_self:∀ xs:List PyData,PyData.canLayAll0 xs=true->PyData.eqvAll xs xs=true
 | [],_=>by simp [PyData.eqvAll]
 | x::xs,h=>by
  have h':x.canLay0=true/\PyData.canLayAll0 xs=true:=by simpa [PyData.canLayAll0] using h
  simp only [PyData.eqvAll,sO x h'.1,eqvAll_self xs h'.2,Bool.and_self]
end
noncomputable def val (M:Nat) (u:Nu):Q4:=Q4.rtn (M-u.2) u.1
theorem qq (x:Q4) (k M:Nat) (h:k<=M):Q4.rtn (M-(num x k).2.toNat) (num x k).1=Q4.rtn (M-k) x:=by
 obtain ⟨s1,s2,s3⟩:=iZ x k (by omega)
 have h0:=s1.1
 have e:M-(num x (k:Int)).2.toNat=(M-k)+((k:Int)-(num x (k:Int)).2).toNat:=by omega
 rw [e,Q4.rtn_add,s3]
theorem fN (M e:Nat) (u:Nu):val M (cy e u)=bL (e % 8) (val M u):=by
 unfold val cy
 rw [eO]
theorem j3 {M:Nat} {u v:Nu} (hu:u.2<=M) (hv:v.2<=M):val M (d5 u v)=Q4.add (val M u) (val M v):=by
 unfold val d5 gM
 have hk:max (u.2:Int) v.2=((max u.2 v.2:Nat):Int):=by omega
 rw [hk]
 simp only
 rw [qq _ _ M (by omega),Q4.rtn_addQ,<- Q4.rtn_add,<- Q4.rtn_add]
 congr 2 <;> congr 1 <;> omega
theorem j4 {M:Nat} {u:Nu} (hu:u.2+1<=M):Q4.rt (val M (fS u))=val M u:=by
 unfold val fS
 rw [qq _ _ M hu,<- Q4.rtn_succ]
 congr 1
 omega
theorem A3 (M:Nat) (u:Nu):val M (cy 4 u)=Q4.neg (val M u):=by
 rw [fN]
 show Q4.tn (Q4.tn (Q4.tn (Q4.tn (val M u))))=_
 unfold Q4.tn Q4.neg
 rfl
noncomputable def dU (u:Nu):Prop:=Q4.Least u.1 u.2
theorem pQ {M:Nat} {u v:Nu} (hu:dU u) (hv:dU v) (h1:u.2<=M) (h2:v.2<=M) (h:val M u=val M v):u=v:=by
 obtain ⟨a,b⟩:=Q4.Least.one hu hv h1 h2 h
 exact Prod.ext a b
theorem pp (x:Q4) (k:Nat):dU ((num x k).1,(num x k).2.toNat):=by
 obtain ⟨s1,s2,s3⟩:=iZ x k (by omega)
 show Q4.Least (num x k).1 ((num x k).2.toNat:Int)
 rw [Int.toNat_of_nonneg s1.1]; exact s1
theorem uC (u:Nu):dU (fS u):=pp _ _
theorem jL {u:Nu} (e:Nat) (h:dU u):dU (cy e u):=wk _ h
theorem uE {f:Nat->Nu} (h:∀ p,dU (f p)) (n:Nat) (r:Row) (p:Nat):dU (bK n f r p):=by
 cases r with
 | swing j=>
  show dU (if aG (wt n j) p=0 then _ else _)
  split <;> exact uC _
 | turn j e=>exact jL _ (h p)
 | sign i j=>exact jL _ (h p)
 | flip j=>exact h _
 | tie i j=>exact h _
 | cross i j=>exact h _
noncomputable def aN:Nat->(Nat->Int)->Int
 | 0,_=>0
 | n+1,F=>aN n F+F n
theorem bA {F G:Nat->Int}:∀ (n:Nat),(∀ p,p<n->F p=G p)->aN n F=aN n G
 | 0,_=>rfl
 | n+1,h=>by
  show aN n F+F n=aN n G+G n
  rw [bA n fun p hp=>h p (by omega),h n (by omega)]
theorem hW (F G:Nat->Int):∀ n:Nat,aN n (fun p=>F p+G p)=aN n F+aN n G
 | 0=>rfl
 | n+1=>by
  show aN n _+(F n+G n)=aN n F+F n+(aN n G+G n)
  rw [hW F G n]; omega
theorem jP (F:Nat->Int) (a:Nat):∀ b:Nat,aN (a+b) F=aN a F+aN b (fun r=>F (a+r))
 | 0=>by show aN a F=aN a F+0; omega
 | b+1=>by
  show aN (a+b) F+F (a+b)=_+(aN b _+F (a+b))
  rw [jP F a b]; omega
theorem rV (F:Nat->Int) (b:Nat):∀ a:Nat,aN (a*b) F=aN a (fun q=>aN b (fun r=>F (q*b+r)))
 | 0=>by rw [Nat.zero_mul]; rfl
 | a+1=>by
  rw [Nat.succ_mul,jP,rV F b a]; rfl
theorem rP {n j:Nat} (hj:j<n) {F G:Nat->Int} (h:∀ p,p<2 ^ n->aG (wt n j) p=0->G p+G (p+wt n j)=F p+F (p+wt n j)):aN (2 ^ n) G=aN (2 ^ n) F:=by
 have hw:=aR n j
 have e:2 ^ n=2 ^ j*(wt n j+wt n j):=by
  rw [xJ hj,Nat.pow_succ,Nat.mul_comm,Nat.mul_assoc,Nat.mul_comm 2,Nat.mul_two]
 have two:∀ H:Nat->Int,aN (2 ^ n) H=aN (2 ^ j) (fun q=>aN (wt n j) (fun r=>H (q*(wt n j+wt n j)+r)+H (q*(wt n j+wt n j)+r+wt n j))):=fun H=>by
  rw [e,rV]
  refine bA _ fun q _=>?_
  rw [jP,<- hW]
  refine bA _ fun r _=>?_
  rw [<- Nat.add_assoc,Nat.add_right_comm]
 rw [two G,two F]
 refine bA _ fun q hq=>bA _ fun r hr=>?_
 have e2:q*(wt n j+wt n j)+r=(2*q+0)*wt n j+r:=by
  rw [Nat.add_zero,Nat.mul_add,<- Nat.add_mul,<- Nat.two_mul]
 have hb:aG (wt n j) (q*(wt n j+wt n j)+r)=0:=by rw [e2]; exact uM (by decide) hr
 have hl:q*(wt n j+wt n j)+r<2 ^ n:=by
  have:(q+1)*(wt n j+wt n j)<=2 ^ j*(wt n j+wt n j):=Nat.mul_le_mul_right _ hq
  rw [Nat.succ_mul] at this
  omega
 exact h _ hl hb
theorem rQ {n j:Nat} (hj:j<n) (c:Nat->Bool) (hc:∀ p,c (flp (wt n j) p)=c p) (F:Nat->Int):aN (2 ^ n) (fun p=>F (if c p=true then flp (wt n j) p else p))=aN (2 ^ n) F:=by
 refine rP hj fun p hp hb=>?_
 have e:flp (wt n j) p=p+wt n j:=if_pos hb
 have hc:=hc p
 rw [e] at hc
 have hw:=aR n j
 have e2:flp (wt n j) (p+wt n j)=p:=by rw [<- e]; exact cL hw
 rw [hc,e,e2]
 by_cases h:c p=true
 ·rw [if_pos h,if_pos h]; omega
 ·rw [if_neg h,if_neg h]
theorem mz {n i j:Nat} (hi:i<n) (hj:j<n) (hij:i≠j) (F:Nat->Int):aN (2 ^ n) (fun p=>F (from_ n (.tie i j) p))=aN (2 ^ n) F:=by
 have:=rQ hj (fun p=>!(aG (wt n i) p==0)) (fun p=>by rw [cY hj hi (Ne.symm hij)]) F
 rw [<- this]
 refine bA _ fun p _=>?_
 show F (if aG (wt n i) p=0 then p else flp (wt n j) p)=_
 by_cases h:aG (wt n i) p=0 <;> simp [h]
theorem CJ {w p:Nat} (hw:0<w):((flp w p:Nat):Int)=(p:Int)+w-2*((w*aG w p:Nat):Int):=by
 have h2:=bR w p
 unfold flp
 by_cases h:aG w p=0
 ·rw [if_pos h,h]; omega
 ·have h1:aG w p=1:=by omega
  have:=qZ hw h1
  rw [if_neg h,h1]; omega
theorem ik {n i j p:Nat} (hi:i<n) (hj:j<n) (hij:i≠j):flp (wt n j) (flp (wt n i) p)=flp (wt n i) (flp (wt n j) p):=by
 have a:=CJ (p:=flp (wt n i) p) (aR n j)
 have b:=CJ (p:=flp (wt n j) p) (aR n i)
 rw [cY hi hj hij,CJ (aR n i)] at a
 rw [cY hj hi (Ne.symm hij),CJ (aR n j)] at b
 omega
theorem wn {n i j:Nat} (hi:i<n) (hj:j<n) (hij:i≠j) (F:Nat->Int):aN (2 ^ n) (fun p=>F (from_ n (.cross i j) p))=aN (2 ^ n) F:=by
 have h1:=mz hi hj hij (fun p=>F (from_ n (.tie i j) (from_ n (.tie j i) p)))
 have h2:=mz hj hi (Ne.symm hij) (fun p=>F (from_ n (.tie i j) p))
 have h3:=mz hi hj hij F
 rw [<- h3,<- h2,<- h1]
 refine bA _ fun p _=>?_
 have hwi:=aR n i
 have hwj:=aR n j
 have a1:=bR (wt n i) p
 have a2:=bR (wt n j) p
 have f1:=cY (p:=p) hj hi (Ne.symm hij)
 have f2:=bJ (p:=p) hwj
 have f3:=cY (p:=p) hi hj hij
 have f4:=bJ (p:=p) hwi
 congr 1
 show (if aG (wt n i) p=aG (wt n j) p then p else flp (wt n j) (flp (wt n i) p))=_
 have b1:aG (wt n i) p=0\/aG (wt n i) p=1:=by omega
 have b2:aG (wt n j) p=0\/aG (wt n j) p=1:=by omega
 have comm:flp (wt n j) (flp (wt n i) p)=flp (wt n i) (flp (wt n j) p):=ik hi hj hij
 have on:∀ {i j p:Nat},aG (wt n i) p=1->from_ n (.tie i j) p=flp (wt n j) p:=fun {i j p} h=>by
  show (if aG (wt n i) p=0 then p else flp (wt n j) p)=_
  rw [h]; rfl
 have off:∀ {i j p:Nat},aG (wt n i) p=0->from_ n (.tie i j) p=p:=fun {i j p} h=>if_pos h
 rcases b1 with b1 | b1 <;> rcases b2 with b2 | b2
 ·rw [if_pos (by rw [b1,b2]),off b1,off b2,off b1]
 ·rw [if_neg (by rw [b1,b2]; decide),off b1,on b2,on (by rw [f4,b1])]
 ·rw [if_neg (by rw [b1,b2]; decide),on b1,on (i:=j) (by rw [f2,b2]),off (by rw [bJ hwi,f1,b1]),comm]
 ·rw [if_pos (by rw [b1,b2]),on b1,off (i:=j) (by rw [f2,b2]),on (by rw [f1,b1]),cL hwj]
theorem js (u v:Nu):(d5 u v).2<=max u.2 v.2:=by
 have hk:max (u.2:Int) v.2=((max u.2 v.2:Nat):Int):=by omega
 unfold d5 gM
 rw [hk]
 obtain ⟨s1,s2,s3⟩:=iZ (Q4.add (Q4.rtn (((max u.2 v.2:Nat):Int)-u.2).toNat u.1) (Q4.rtn (((max u.2 v.2:Nat):Int)-v.2).toNat v.1)) ((max u.2 v.2:Nat):Int) (by omega)
 show (num _ _).2.toNat<=_
 omega
theorem sy {x y s t:Q4} (h1:Q4.rt x=Q4.add s t) (h2:Q4.rt y=Q4.add s (Q4.neg t)):S2.add (nrm x) (nrm y)=S2.add (nrm s) (nrm t):=by
 apply S2.sc_inj (n:=1)
 rw [S2.sc_addS,<- qu,<- qu,h1,h2,BK]
 apply S2.ext' <;> simp only [S2.add,S2.sc] <;> omega
noncomputable def qr (M n:Nat) (f:Nat->Nu):S2:=⟨aN (2 ^ n) (fun p=>(nrm (val M (f p))).p),aN (2 ^ n) (fun p=>(nrm (val M (f p))).q)⟩
theorem rR {n M:Nat} (r:Row) (hr:r.ok n) (f:Nat->Nu) (hf:∀ p,(f p).2+1<=M) (F:Q4->Int) (ht:∀ e x,F (bL e x)=F x) (hp:∀ x y s t,Q4.rt x=Q4.add s t->Q4.rt y=Q4.add s (Q4.neg t)->F x+F y=F s+F t):aN (2 ^ n) (fun p=>F (val M (bK n f r p)))=aN (2 ^ n) (fun p=>F (val M (f p))):=by
 cases r with
 | swing j=>
  refine rP hr fun p hp' hb=>?_
  have hw:=aR n j
  have hb1:aG (wt n j) (p+wt n j)=1:=by
   have:=bJ (p:=p) hw
   rw [show flp (wt n j) p=p+wt n j from if_pos hb,hb] at this
   exact this
  have e1:bK n f (.swing j) p=fS (d5 (f p) (f (p+wt n j))):=if_pos hb
  have e2:bK n f (.swing j) (p+wt n j)=fS (d5 (f (p+wt n j-wt n j)) (cy 4 (f (p+wt n j)))):=if_neg (by rw [hb1]; decide)
  rw [Nat.add_sub_cancel] at e2
  rw [e1,e2]
  have a:=hf p
  have b:=hf (p+wt n j)
  have l1:(d5 (f p) (f (p+wt n j))).2<=max (f p).2 (f (p+wt n j)).2:=js _ _
  have l2:(d5 (f p) (cy 4 (f (p+wt n j)))).2<=max (f p).2 (f (p+wt n j)).2:=js _ _
  refine hp _ _ _ _ ?_ ?_
  ·rw [j4 (by omega),j3 (by omega) (by omega)]
  ·rw [j4 (by omega),j3 (by omega) (by show (f (p+wt n j)).2<=M; omega),A3]
 | turn j e=>exact bA _ fun p _=>by show F (val M (cy _ (f p)))=_; rw [fN,ht]
 | sign i j=>exact bA _ fun p _=>by show F (val M (cy _ (f p)))=_; rw [fN,ht]
 | flip j=>
  have:=rQ hr (fun _=>true) (fun _=>rfl) (fun p=>F (val M (f p)))
  exact this
 | tie i j=>exact mz hr.1 hr.2.1 hr.2.2 (fun p=>F (val M (f p)))
 | cross i j=>exact wn hr.1 hr.2.1 hr.2.2 (fun p=>F (val M (f p)))
theorem wO {n M:Nat} (r:Row) (hr:r.ok n) (f:Nat->Nu) (hf:∀ p,(f p).2+1<=M):qr M n (bK n f r)=qr M n f:=by
 apply S2.ext'
 ·exact rR r hr f hf (fun x=>(nrm x).p) (fun e x=>by rw [qt]) fun x y s t h1 h2=>by
   have:=congrArg S2.p (sy h1 h2); exact this
 ·exact rR r hr f hf (fun x=>(nrm x).q) (fun e x=>by rw [qt]) fun x y s t h1 h2=>by
   have:=congrArg S2.q (sy h1 h2); exact this
noncomputable def j7 (N:Nat) (F:Nat->Q4):Q4:=⟨aN N (fun p=>(F p).a),aN N (fun p=>(F p).b),aN N (fun p=>(F p).c),aN N (fun p=>(F p).d)⟩
theorem kD (N:Nat) (F:Nat->Q4):j7 (N+1) F=Q4.add (j7 N F) (F N):=rfl
theorem jO {F G:Nat->Q4} (N:Nat) (h:∀ p,p<N->F p=G p):j7 N F=j7 N G:=by
 apply Q4.ext'
 ·exact bA N fun p hp=>by rw [h p hp]
 ·exact bA N fun p hp=>by rw [h p hp]
 ·exact bA N fun p hp=>by rw [h p hp]
 ·exact bA N fun p hp=>by rw [h p hp]
theorem mul_two (s t s' t':Q4):Q4.add (Q4.mul (Q4.mir (Q4.add s t)) (Q4.add s' t')) (Q4.mul (Q4.mir (Q4.add s (Q4.neg t))) (Q4.add s' (Q4.neg t')))=Q4.dbl 2 (Q4.add (Q4.mul (Q4.mir s) s') (Q4.mul (Q4.mir t) t')):=by
 apply Q4.ext' <;> simp only [Q4.mul,Q4.mir,Q4.add,Q4.neg,Q4.dbl] <;> grind
noncomputable def eP (u v:Nu):Nu:=((gp u.1 u.2 v.1 v.2).1,(gp u.1 u.2 v.1 v.2).2.toNat)
theorem iq (u v:Nu):(u.2:Int)+v.2=((u.2+v.2:Nat):Int):=by omega
theorem ll (u v:Nu):dU (eP u v):=by
 unfold eP gp
 rw [iq]
 exact pp _ _
theorem wm (u v:Nu):(eP u v).2<=u.2+v.2:=by
 unfold eP gp
 rw [iq]
 obtain ⟨s1,s2,s3⟩:=iZ (Q4.mul u.1 v.1) ((u.2+v.2:Nat):Int) (by omega)
 show (num _ _).2.toNat<=_
 omega
theorem wa {M N:Nat} {u v:Nu} (hu:u.2<=M) (hv:v.2<=N):val (M+N) (eP u v)=Q4.mul (val M u) (val N v):=by
 unfold val eP gp
 rw [iq]
 simp only
 rw [qq _ _ (M+N) (by omega),show M+N-(u.2+v.2)=(M-u.2)+(N-v.2) by omega,Q4.rtn_mul2]
theorem dZ:∀ k,Q4.rtn k ⟨0,0,0,0⟩=⟨0,0,0,0⟩
 | 0=>rfl
 | k+1=>by rw [Q4.rtn_succ,dZ k]; rfl
theorem u7 (F:Nat->Q4):∀ N:Nat,Q4.rt (j7 N F)=j7 N (fun p=>Q4.rt (F p))
 | 0=>by apply Q4.ext' <;> rfl
 | N+1=>by rw [kD,Q4.rt_add,u7 F N]; rfl
theorem DY (x y:Q4):Q4.tn (Q4.add x y)=Q4.add (Q4.tn x) (Q4.tn y):=by apply Q4.ext' <;> simp only [Q4.tn,Q4.add] <;> omega
theorem hV (e:Nat):∀ (x y:Q4),bL e (Q4.add x y)=Q4.add (bL e x) (bL e y):=by
 induction e with
 | zero=>intro x y; rfl
 | succ e ih=>
  intro x y
  have e1:∀ z,bL (e+1) z=bL e (Q4.tn z):=fun z=>by rw [fB e 1 z]; rfl
  rw [e1,e1,e1,DY,ih]
theorem xQ (e:Nat):bL e ⟨0,0,0,0⟩=⟨0,0,0,0⟩:=by
 induction e with
 | zero=>rfl
 | succ e ih=>
  have e1:∀ z,bL (e+1) z=bL e (Q4.tn z):=fun z=>by rw [fB e 1 z]; rfl
  rw [e1]
  exact ih
theorem mR (e:Nat) (F:Nat->Q4):∀ N:Nat,bL e (j7 N F)=j7 N (fun p=>bL e (F p))
 | 0=>xQ e
 | N+1=>by rw [kD,hV,mR e F N]; rfl
theorem rT (F G:Nat->Q4) (N:Nat):j7 N (fun p=>Q4.add (F p) (G p))=Q4.add (j7 N F) (j7 N G):=by
 apply Q4.ext'
 ·exact hW (fun p=>(F p).a) (fun p=>(G p).a) N
 ·exact hW (fun p=>(F p).b) (fun p=>(G p).b) N
 ·exact hW (fun p=>(F p).c) (fun p=>(G p).c) N
 ·exact hW (fun p=>(F p).d) (fun p=>(G p).d) N
theorem kB {n M j:Nat} {f:Nat->Nu} (hf:∀ p,(f p).2+1<=M) (x:Nat):Q4.rt (val M (bK n f (.swing j) x))=if aG (wt n j) x=0 then Q4.add (val M (f x)) (val M (f (x+wt n j))) else Q4.add (val M (f (x-wt n j))) (bL 4 (val M (f x))):=by
 show Q4.rt (val M (if aG (wt n j) x=0 then fS (d5 (f x) (f (x+wt n j))) else fS (d5 (f (x-wt n j)) (cy 4 (f x)))))=_
 split
 ·have a:=hf x
  have b:=hf (x+wt n j)
  have l:=js (f x) (f (x+wt n j))
  rw [j4 (by omega),j3 (by omega) (by omega)]
 ·have a:=hf x
  have b:=hf (x-wt n j)
  have l:(d5 (f (x-wt n j)) (cy 4 (f x))).2<=max (f (x-wt n j)).2 (f x).2:=js _ _
  rw [j4 (by omega),j3 (by omega) (by show (f x).2<=M; omega),fN]
noncomputable def Sup (N M K:Nat) (a:Nat->Q4) (c:Nat->Nat->Nu) (g:Nat->Nu):Prop:=∀ x,val N (g x)=j7 K (fun p=>Q4.mul (a p) (val M (c p x)))
theorem Sup.done {n N M K:Nat} {a:Nat->Q4} {c:Nat->Nat->Nu} {g:Nat->Nu} (h:Sup N M K a c g) (hg:∀ p,(g p).2+1<=N) (hc:∀ p x,(c p x).2+1<=M) (r:Row):Sup N M K a (fun p=>bK n (c p) r) (bK n g r):=by
 have tm:∀ (e:Nat) (x:Nat),val N (cy e (g x))=j7 K (fun p=>Q4.mul (a p) (val M (cy e (c p x)))):=fun e x=>by
  rw [fN,h x,mR]
  refine jO _ fun p _=>?_
  rw [u4,fN]
 intro x
 cases r with
 | swing j=>
  apply Q4.rt_inj
  rw [kB hg x,u7]
  have e:∀ p,Q4.rt (Q4.mul (a p) (val M (bK n (c p) (.swing j) x)))=Q4.mul (a p) (if aG (wt n j) x=0 then Q4.add (val M (c p x)) (val M (c p (x+wt n j))) else Q4.add (val M (c p (x-wt n j))) (bL 4 (val M (c p x)))):=fun p=>by
   rw [<- kB (hc p) x,Q4.mul_comm,Q4.rt_mul,Q4.mul_comm]
  simp only [e]
  split
  ·rw [h x,h (x+wt n j),<- rT]
   exact jO _ fun p _=>by rw [Q4.mul_add]
  ·rw [h x,h (x-wt n j),mR,<- rT]
   exact jO _ fun p _=>by rw [Q4.mul_add,u4]
 | turn j e=>exact tm _ x
 | sign i j=>exact tm _ x
 | flip j=>exact h _
 | tie i j=>exact h _
 | cross i j=>exact h _
noncomputable def gO (p:Nat):Nat->Nu:=fun q=>if q=p then (⟨1,0,0,0⟩,0) else (⟨0,0,0,0⟩,0)
theorem rS {F:Nat->Q4} {x:Nat} (hF:∀ p,p≠x->F p=⟨0,0,0,0⟩):∀ N:Nat,j7 N F=if x<N then F x else ⟨0,0,0,0⟩
 | 0=>by rw [if_neg (by omega)]; apply Q4.ext' <;> rfl
 | N+1=>by
  rw [kD,rS hF N]
  by_cases h:x<N
  ·rw [if_pos h,if_pos (by omega),hF N (by omega)]
   apply Q4.ext' <;> simp [Q4.add]
  ·by_cases h2:x=N
   ·subst h2
    rw [if_neg h,if_pos (by omega)]
    apply Q4.ext' <;> simp [Q4.add]
   ·rw [if_neg h,if_neg (by omega),hF N (Ne.symm h2)]
    apply Q4.ext' <;> simp [Q4.add]
theorem wP (x:Q4):Q4.mul x ⟨0,0,0,0⟩=⟨0,0,0,0⟩:=by apply Q4.ext' <;> simp [Q4.mul]
theorem zl (x:Q4):Q4.mul x ⟨1,0,0,0⟩=x:=by apply Q4.ext' <;> simp [Q4.mul]
theorem rF (M:Nat):val M (⟨0,0,0,0⟩,0)=⟨0,0,0,0⟩:=dZ _
theorem Sup.start {n M:Nat} (s:Nat->Nu) (hs:∀ p,(s p).2<=M) (hz:∀ p,2 ^ n<=p->s p=(⟨0,0,0,0⟩,0)):Sup (M+M) M (2 ^ n) (fun p=>val M (s p)) gO s:=by
 intro x
 have hF:∀ p,p≠x->Q4.mul (val M (s p)) (val M (gO p x))=⟨0,0,0,0⟩:=fun p hp=>by
  unfold gO
  rw [if_neg (Ne.symm hp),rF,wP]
 rw [rS hF]
 by_cases h:x<2 ^ n
 ·rw [if_pos h]
  unfold gO
  rw [if_pos rfl]
  unfold val
  have:=hs x
  show Q4.rtn (M+M-(s x).2) (s x).1=Q4.mul (Q4.rtn (M-(s x).2) (s x).1) (Q4.rtn (M-0) ⟨1,0,0,0⟩)
  rw [<- Q4.rtn_mul2,zl]
  congr 1
  omega
 ·rw [if_neg h,hz x (by omega),rF]
end MA
namespace GN
open PySem L2 VL
noncomputable def gH (i:Nat):Stmt:=PySem.Challenge.pw_wavewires_k59_whole_alike_or_not.main.body.getD i (.Pass ⟨0,0,0,0⟩)
noncomputable abbrev fC:Stmt:=gH 7
noncomputable abbrev jE:List Str:=["joined","most"]
noncomputable def fL:Sf:=ak (cu (ob (o2 (oV 0) (oC (.int 0)) aX)) (aP (oV 1)) (fH)) (aP (os (ac (oV 1) (ac (o2 (o1 (o2 (oV 0) (o1 (oV 0) negD) lh) nU) (oC (.int 1)) bM) (ai))) B0))
noncomputable def b6:List D->Option D:=runB jE 2 fL
noncomputable abbrev jp:Stmt:=gH 8
noncomputable abbrev pN:List Str:=["a","b","c","d"]
noncomputable def kZ:Sf:=aP (os (ac (o2 (oV 1) (oV 3) bM) (ac (o2 (oV 0) (oV 2) aT) (ac (o2 (oV 1) (oV 3) aT) (ac (o2 (oV 2) (oV 0) bM) (ai))))) aO)
noncomputable def dQ:List D->Option D:=runB pN 4 kZ
noncomputable abbrev ib:Stmt:=gH 9
noncomputable abbrev oy:List Str:=["a","b","c","d","k","twos","doubled"]
noncomputable def kr:Sf:=ak (aD 5 (os (ac (o2 (o2 (o2 (oV 0) (oV 1) Au) (oV 2) Au) (oV 3) Au) (ac (o2 (oV 4) (oC (.int 2)) cq) (ai))) b6)) (ak (aD 0 (o2 (oV 0) (oV 5) oE)) (ak (aD 1 (o2 (oV 1) (oV 5) oE)) (ak (aD 2 (o2 (oV 2) (oV 5) oE)) (ak (aD 3 (o2 (oV 3) (oV 5) oE)) (ak (aD 4 (o2 (oV 4) (o2 (oC (.int 2)) (oV 5) fV) bM)) (ak (cu (sw (ob (o2 (oV 4) (oC (.int 0)) aX)) (sw (ob (o2 (o2 (o2 (oV 0) (oV 2) bM) (oC (.int 2)) bw) (oC (.int 1)) aX)) (ob (o2 (o2 (o2 (oV 1) (oV 3) bM) (oC (.int 2)) bw) (oC (.int 1)) aX)))) (aP (os (ac (oV 0) (ac (oV 1) (ac (oV 2) (ac (oV 3) (ac (oV 4) (ai)))))) aO)) (fH)) (ak (aD 6 (os (ac (oV 0) (ac (oV 1) (ac (oV 2) (ac (oV 3) (ai))))) dQ)) (aP (os (ac (o2 (o2 (oV 6) (oC (.int 0)) av) (oC (.int 2)) cq) (ac (o2 (o2 (oV 6) (oC (.int 1)) av) (oC (.int 2)) cq) (ac (o2 (o2 (oV 6) (oC (.int 2)) av) (oC (.int 2)) cq) (ac (o2 (o2 (oV 6) (oC (.int 3)) av) (oC (.int 2)) cq) (ac (o2 (oV 4) (oC (.int 1)) bM) (ai)))))) aO)))))))))
noncomputable def dG:List D->Option D:=runB oy 5 kr
noncomputable abbrev f9:Stmt:=gH 10
noncomputable abbrev ku:List Str:=["x","k","more","twos","a","b","c","d"]
noncomputable def gm:Sf:=ak (aD 2 (o2 (oV 1) (o2 (oV 0) (oC (.int 4)) av) bM)) (ak (aD 3 (o2 (oV 2) (oC (.int 2)) cq)) (ak (aD 4 (o2 (o2 (oV 0) (oC (.int 0)) av) (oV 3) dO)) (ak (aD 5 (o2 (o2 (oV 0) (oC (.int 1)) av) (oV 3) dO)) (ak (aD 6 (o2 (o2 (oV 0) (oC (.int 2)) av) (oV 3) dO)) (ak (aD 7 (o2 (o2 (oV 0) (oC (.int 3)) av) (oV 3) dO)) (ak (cu (ob (o2 (o2 (oV 2) (oC (.int 2)) bw) (oC (.int 1)) aX)) (aP (os (ac (oV 4) (ac (oV 5) (ac (oV 6) (ac (oV 7) (ai))))) dQ)) (fH)) (aP (os (ac (oV 4) (ac (oV 5) (ac (oV 6) (ac (oV 7) (ai))))) aO))))))))
noncomputable def cD:List D->Option D:=runB ku 2 gm
noncomputable abbrev qd:Stmt:=gH 11
noncomputable abbrev As:List Str:=["x","y","k","s","t"]
noncomputable def uR:Sf:=ak (aD 2 (os (ac (o2 (oV 0) (oC (.int 4)) av) (ac (o2 (oV 1) (oC (.int 4)) av) (ai))) ny)) (ak (aD 3 (os (ac (oV 0) (ac (oV 2) (ai))) cD)) (ak (aD 4 (os (ac (oV 1) (ac (oV 2) (ai))) cD)) (aP (os (ac (o2 (o2 (oV 3) (oC (.int 0)) av) (o2 (oV 4) (oC (.int 0)) av) aT) (ac (o2 (o2 (oV 3) (oC (.int 1)) av) (o2 (oV 4) (oC (.int 1)) av) aT) (ac (o2 (o2 (oV 3) (oC (.int 2)) av) (o2 (oV 4) (oC (.int 2)) av) aT) (ac (o2 (o2 (oV 3) (oC (.int 3)) av) (o2 (oV 4) (oC (.int 3)) av) aT) (ac (oV 2) (ai)))))) dG))))
noncomputable def gY:List D->Option D:=runB As 2 uR
noncomputable abbrev mD:Stmt:=gH 12
noncomputable abbrev v0:List Str:=["x","y"]
noncomputable def rl:Sf:=aP (os (ac (o2 (o2 (o2 (o2 (o2 (oV 0) (oC (.int 0)) av) (o2 (oV 1) (oC (.int 0)) av) fV) (o2 (o2 (oV 0) (oC (.int 1)) av) (o2 (oV 1) (oC (.int 3)) av) fV) bM) (o2 (o2 (oV 0) (oC (.int 2)) av) (o2 (oV 1) (oC (.int 2)) av) fV) bM) (o2 (o2 (oV 0) (oC (.int 3)) av) (o2 (oV 1) (oC (.int 1)) av) fV) bM) (ac (o2 (o2 (o2 (o2 (o2 (oV 0) (oC (.int 0)) av) (o2 (oV 1) (oC (.int 1)) av) fV) (o2 (o2 (oV 0) (oC (.int 1)) av) (o2 (oV 1) (oC (.int 0)) av) fV) aT) (o2 (o2 (oV 0) (oC (.int 2)) av) (o2 (oV 1) (oC (.int 3)) av) fV) bM) (o2 (o2 (oV 0) (oC (.int 3)) av) (o2 (oV 1) (oC (.int 2)) av) fV) bM) (ac (o2 (o2 (o2 (o2 (o2 (oV 0) (oC (.int 0)) av) (o2 (oV 1) (oC (.int 2)) av) fV) (o2 (o2 (oV 0) (oC (.int 1)) av) (o2 (oV 1) (oC (.int 1)) av) fV) aT) (o2 (o2 (oV 0) (oC (.int 2)) av) (o2 (oV 1) (oC (.int 0)) av) fV) aT) (o2 (o2 (oV 0) (oC (.int 3)) av) (o2 (oV 1) (oC (.int 3)) av) fV) bM) (ac (o2 (o2 (o2 (o2 (o2 (oV 0) (oC (.int 0)) av) (o2 (oV 1) (oC (.int 3)) av) fV) (o2 (o2 (oV 0) (oC (.int 1)) av) (o2 (oV 1) (oC (.int 2)) av) fV) aT) (o2 (o2 (oV 0) (oC (.int 2)) av) (o2 (oV 1) (oC (.int 1)) av) fV) aT) (o2 (o2 (oV 0) (oC (.int 3)) av) (o2 (oV 1) (oC (.int 0)) av) fV) aT) (ac (o2 (o2 (oV 0) (oC (.int 4)) av) (o2 (oV 1) (oC (.int 4)) av) aT) (ai)))))) dG)
noncomputable def cU:List D->Option D:=runB v0 2 rl
noncomputable abbrev jq:Stmt:=gH 13
noncomputable abbrev pO:List Str:=["x"]
noncomputable def lg:Sf:=aP (os (ac (o1 (o2 (oV 0) (oC (.int 0)) av) negD) (ac (o1 (o2 (oV 0) (oC (.int 1)) av) negD) (ac (o1 (o2 (oV 0) (oC (.int 2)) av) negD) (ac (o1 (o2 (oV 0) (oC (.int 3)) av) negD) (ac (o2 (oV 0) (oC (.int 4)) av) (ai)))))) aO)
noncomputable def eI:List D->Option D:=runB pO 1 lg
noncomputable abbrev j9:Stmt:=gH 14
noncomputable abbrev tE:List Str:=["x","e","around"]
noncomputable def oi:Sf:=ak (aD 2 (os (ac (o2 (oV 0) (oC (.int 0)) av) (ac (o2 (oV 0) (oC (.int 1)) av) (ac (o2 (oV 0) (oC (.int 2)) av) (ac (o2 (oV 0) (oC (.int 3)) av) (ac (o1 (o2 (oV 0) (oC (.int 0)) av) negD) (ac (o1 (o2 (oV 0) (oC (.int 1)) av) negD) (ac (o1 (o2 (oV 0) (oC (.int 2)) av) negD) (ac (o1 (o2 (oV 0) (oC (.int 3)) av) negD) (ai))))))))) aO)) (aP (os (ac (o2 (oV 2) (o2 (o2 (oC (.int 0)) (oV 1) bM) (oC (.int 8)) bw) av) (ac (o2 (oV 2) (o2 (o2 (oC (.int 1)) (oV 1) bM) (oC (.int 8)) bw) av) (ac (o2 (oV 2) (o2 (o2 (oC (.int 2)) (oV 1) bM) (oC (.int 8)) bw) av) (ac (o2 (oV 2) (o2 (o2 (oC (.int 3)) (oV 1) bM) (oC (.int 8)) bw) av) (ac (o2 (oV 0) (oC (.int 4)) av) (ai)))))) aO))
noncomputable def dh:List D->Option D:=runB tE 2 oi
noncomputable abbrev kc:Stmt:=gH 15
noncomputable abbrev tG:List Str:=["x"]
noncomputable def oj:Sf:=aP (os (ac (o2 (oV 0) (oC (.int 0)) av) (ac (o2 (oV 0) (oC (.int 1)) av) (ac (o2 (oV 0) (oC (.int 2)) av) (ac (o2 (oV 0) (oC (.int 3)) av) (ac (o2 (o2 (oV 0) (oC (.int 4)) av) (oC (.int 1)) aT) (ai)))))) dG)
noncomputable def d7:List D->Option D:=runB tG 1 oj
noncomputable abbrev mC:Stmt:=gH 18
noncomputable abbrev vZ:List Str:=["wires","wire"]
noncomputable def rk:Sf:=aP (o2 (oC (.int 1)) (o2 (o2 (oV 0) (oC (.int 1)) bM) (oV 1) bM) dO)
noncomputable def gi:List D->Option D:=runB vZ 2 rk
noncomputable abbrev dz:Stmt:=gH 19
noncomputable abbrev jf:List Str:=["wires","place"]
noncomputable def kf:Dv->Option D:=df (oL (ac (o2 (oC (.int 1)) (oV 0) dO) (ai)) bi) [(1,"place")] kT (HV (ob (o2 (oV 0) (oV 1) aX)) (oC (.tuple [.int 1,.int 0,.int 0,.int 0,.int 0])) (oC (.tuple [.int 0,.int 0,.int 0,.int 0,.int 0])))
noncomputable def jc:Sf:=aP (os (ac (kf) (ai)) dr)
noncomputable def cF:List D->Option D:=runB jf 2 jc
noncomputable abbrev mE:Stmt:=gH 20
noncomputable abbrev v6:List Str:=["state","bit","told","p"]
noncomputable def fQ:Sf:=cu (ob (o2 (o2 (oV 3) (oV 1) lh) (oC (.int 0)) aX)) (r9 2 (os (ac (os (ac (o2 (oV 0) (oV 3) av) (ac (o2 (oV 0) (o2 (oV 3) (oV 1) pP) av) (ai))) gY) (ai)) d7)) (r9 2 (os (ac (os (ac (o2 (oV 0) (o2 (oV 3) (oV 1) pP) av) (ac (os (ac (o2 (oV 0) (oV 3) av) (ai)) eI) (ai))) gY) (ai)) d7))
noncomputable def rm:Sf:=ak (wz 2 (ai)) (ak (ic (oL (ac (os (ac (oV 0) (ai)) bf) (ai)) bi) (gN 3) (fQ)) (fun δ=>(aP (os (ac (oV 2) (ai)) dr)) (tK 2 δ)))
noncomputable def gQ:List D->Option D:=runB v6 2 rm
noncomputable abbrev dw:Stmt:=gH 21
noncomputable abbrev gC:List Str:=["state","held","e"]
noncomputable def iQ:Dv->Option D:=df (oL (ac (os (ac (oV 0) (ai)) bf) (ai)) bi) [(0,"state"),(1,"held"),(2,"e")] kT (HV (ob (o2 (o2 (oV 0) (oV 2) lh) (oV 2) aX)) (os (ac (o2 (oV 1) (oV 0) av) (ac (oV 3) (ai))) dh) (o2 (oV 1) (oV 0) av))
noncomputable def gy:Sf:=aP (os (ac (iQ) (ai)) dr)
noncomputable def bG:List D->Option D:=runB gC 3 gy
noncomputable abbrev da:Stmt:=gH 22
noncomputable abbrev f6:List Str:=["state","held","bit"]
noncomputable def ie:Dv->Option D:=df (oL (ac (os (ac (oV 0) (ai)) bf) (ai)) bi) [(0,"state"),(1,"held"),(2,"bit")] kT (HV (ob (o2 (o2 (oV 0) (oV 2) lh) (oV 2) aX)) (o2 (oV 1) (o2 (oV 0) (oV 3) pP) av) (o2 (oV 1) (oV 0) av))
noncomputable def fX:Sf:=aP (os (ac (ie) (ai)) dr)
noncomputable def bn:List D->Option D:=runB f6 3 fX
noncomputable abbrev gK:Stmt:=gH 23
noncomputable abbrev lK:List Str:=["place","both"]
noncomputable def gU:Sf:=aP (HV (ob (o2 (o2 (oV 0) (oV 1) lh) (os (ac (oC (.int 0)) (ac (oV 1) (ai))) aO) (i6 false))) (oV 0) (o2 (oV 0) (oV 1) pP))
noncomputable def cE:List D->Option D:=runB lK 2 gU
noncomputable abbrev mW:Stmt:=gH 24
noncomputable abbrev uY:List Str:=["state","row","wires","first","second"]
noncomputable def qk:Dv->Option D:=df (oL (ac (os (ac (oV 0) (ai)) bf) (ai)) bi) [(0,"state"),(3,"first"),(4,"second")] kT (o2 (oV 1) (os (ac (oV 0) (ac (o2 (oV 2) (oV 3) Au) (ai))) cE) av)
noncomputable def jb:Sf:=ak (aD 2 (o2 (o1 (os (ac (oV 0) (ai)) bf) nU) (oC (.int 1)) bM)) (ak (aD 3 (os (ac (oV 2) (ac (o2 (oV 1) (oC (.int 1)) av) (ai))) gi)) (ak (cu (ob (o2 (o2 (oV 1) (oC (.int 0)) av) (oC (.str "swing")) aX)) (aP (os (ac (oV 0) (ac (oV 3) (ai))) gQ)) (fH)) (ak (cu (ob (o2 (o2 (oV 1) (oC (.int 0)) av) (oC (.str "turn")) aX)) (aP (os (ac (oV 0) (ac (oV 3) (ac (o2 (oV 1) (oC (.int 2)) av) (ai)))) bG)) (fH)) (ak (cu (ob (o2 (o2 (oV 1) (oC (.int 0)) av) (oC (.str "flip")) aX)) (aP (os (ac (oV 0) (ac (oC (.int 0)) (ac (oV 3) (ai)))) bn)) (fH)) (ak (aD 4 (os (ac (oV 2) (ac (o2 (oV 1) (oC (.int 2)) av) (ai))) gi)) (ak (cu (ob (o2 (o2 (oV 1) (oC (.int 0)) av) (oC (.str "tie")) aX)) (aP (os (ac (oV 0) (ac (oV 3) (ac (oV 4) (ai)))) bn)) (fH)) (ak (cu (ob (o2 (o2 (oV 1) (oC (.int 0)) av) (oC (.str "sign")) aX)) (aP (os (ac (oV 0) (ac (o2 (oV 3) (oV 4) Au) (ac (oC (.int 4)) (ai)))) bG)) (fH)) (aP (os (ac (qk) (ai)) dr)))))))))
noncomputable def dn:List D->Option D:=runB uY 2 jb
noncomputable abbrev iu:Stmt:=gH 25
noncomputable abbrev oA:List Str:=["state","rows","row"]
noncomputable def eG:Sf:=aD 0 (os (ac (oV 0) (ac (oV 2) (ai))) dn)
noncomputable def jZ:Sf:=ak (ic (oI (oV 1) eJ) (gN 2) (eG)) (aP (oV 0))
noncomputable def cg:List D->Option D:=runB oA 2 jZ
noncomputable abbrev fP:Stmt:=gH 26
noncomputable abbrev jg:List Str:=["rows"]
noncomputable def kg:Dv->Option D:=df (oI (oV 0) eJ) [] kT (o2 (o2 (oV 0) (oC (.int 0)) av) (oC (.tuple [.str "swing",.str "turn",.str "flip",.str "tie",.str "sign",.str "cross"])) (i6 false))
noncomputable def jd:Sf:=aP (os (ac (kg) (ai)) Ao)
noncomputable def cG:List D->Option D:=runB jg 1 jd
noncomputable abbrev kd:Stmt:=gH 27
noncomputable abbrev tH:List Str:=["circuit","place"]
noncomputable def oo:Sf:=ak (cu (nt (ob (os (ac (o2 (oV 0) (oC (.int 1)) av) (ai)) cG))) (JF) (fH)) (aP (os (ac (os (ac (o2 (oV 0) (oC (.int 0)) av) (ac (oV 1) (ai))) cF) (ac (o2 (oV 0) (oC (.int 1)) av) (ai))) cg))
noncomputable def aV:List D->Option D:=runB tH 2 oo
noncomputable abbrev ir:Stmt:=gH 29
noncomputable abbrev oz:List Str:=["circuit"]
noncomputable def jX:Sf:=aP (os (ac (o2 (oV 0) (oC (.int 1)) av) (ai)) cG)
noncomputable def cV:List D->Option D:=runB oz 1 jX
noncomputable abbrev eT:Stmt:=gH 31
noncomputable abbrev je:List Str:=["one","other"]
noncomputable def gz:Sf:=ak (cu (sw (nt (ob (os (ac (oV 0) (ai)) cV))) (nt (ob (os (ac (oV 1) (ai)) cV)))) (JF) (fH)) (cu (ob (o2 (o2 (oV 0) (oC (.int 0)) av) (o2 (oV 1) (oC (.int 0)) av) neD)) (JF) (fH))
noncomputable def aU:List D->Option D:=runB je 2 gz
noncomputable abbrev db:Stmt:=gH 33
noncomputable abbrev f7:List Str:=["circuit","apart","begun"]
noncomputable def fq:Dv->Option D:=df (oL (ac (o2 (oC (.int 1)) (o2 (oV 0) (oC (.int 0)) av) dO) (ai)) bi) [(1,"apart")] kT (os (ac (o2 (oC (.int 1)) (o2 (oV 1) (oV 0) fV) dO) (ac (oC (.int 0)) (ac (oC (.int 0)) (ac (oC (.int 0)) (ac (oC (.int 0)) (ai)))))) aO)
noncomputable def fY:Sf:=ak (aD 2 (os (ac (fq) (ai)) dr)) (aP (os (ac (oV 2) (ac (o2 (oV 0) (oC (.int 1)) av) (ai))) cg))
noncomputable def bq:List D->Option D:=runB f7 2 fY
noncomputable abbrev h7:Stmt:=gH 34
noncomputable abbrev li:List Str:=["one","other","e"]
noncomputable def jS:Dv->Option D:=df (oI (oV 0) eJ) [(2,"e")] kT (os (ac (oV 0) (ac (oV 1) (ai))) dh)
noncomputable def gu:Sf:=cu (ob (o2 (os (ac (jS) (ai)) dr) (oV 1) aX)) (aP (oV 2)) (fH)
noncomputable def kY:Sf:=ak (ic (oL (ac (oC (.int 8)) (ai)) bi) (gN 2) (gu)) (aP (oC .none))
noncomputable def eH:List D->Option D:=runB li 2 kY
noncomputable abbrev eS:Stmt:=gH 35
noncomputable abbrev iN:List Str:=["one","other","swings","apart"]
noncomputable def cI:Dv->Option D:=iy (oI (oV 0) eJ) [] kT (ob (o2 (o2 (oV 0) (oC (.int 0)) av) (oC (.str "swing")) aX)) (oV 0)
noncomputable def gX:Dv->Option D:=df (oI (os (ac (o2 (oV 0) (oC (.int 1)) av) (ac (o2 (oV 1) (oC (.int 1)) av) (ai))) aO) eJ) [] kT (os (ac (cI) (ai)) bf)
noncomputable def iJ:Sf:=ak (aD 2 (os (ac (gX) (ai)) pq)) (ak (aD 3 (o2 (o2 (oV 2) (oC (.int 2)) cq) (oC (.int 2)) aT)) (aP (os (ac (os (ac (oV 0) (ac (oV 3) (ai))) bq) (ac (os (ac (oV 1) (ac (oV 3) (ai))) bq) (ai))) eH)))
noncomputable def bH:List D->Option D:=runB iN 2 iJ
noncomputable abbrev du:Stmt:=gH 36
noncomputable abbrev gB:List Str:=["one","other","f","g","base","b","first","second","p"]
noncomputable def et:Dv->Option D:=iy (oL (ac (os (ac (oV 2) (ai)) bf) (ai)) bi) [(2,"f")] kT (ob (o2 (o2 (oV 1) (oV 0) av) (oC (.tuple [.int 0,.int 0,.int 0,.int 0,.int 0])) neD)) (oV 0)
noncomputable def cf:Sf:=cu (ob (o2 (os (ac (o2 (oV 2) (oV 4) av) (ac (o2 (oV 7) (oV 8) av) (ai))) cU) (os (ac (o2 (oV 6) (oV 8) av) (ac (o2 (oV 3) (oV 4) av) (ai))) cU) neD)) (aP (os (ac (oC (.str "unlike")) (ac (oC (.int 0)) (ac (oV 4) (ac (oV 5) (ac (oV 8) (ai)))))) aO)) (fH)
noncomputable def dg:Sf:=ak (aD 6 (os (ac (oV 0) (ac (oV 5) (ai))) aV)) (ak (aD 7 (os (ac (oV 1) (ac (oV 5) (ai))) aV)) (ic (oL (ac (os (ac (oV 2) (ai)) bf) (ai)) bi) (gN 8) (cf)))
noncomputable def eZ:Sf:=ak (aD 2 (os (ac (oV 0) (ac (oC (.int 0)) (ai))) aV)) (ak (aD 3 (os (ac (oV 1) (ac (oC (.int 0)) (ai))) aV)) (ak (aD 4 (o2 (et) (oC (.int 0)) av)) (ic (oL (ac (os (ac (oV 2) (ai)) bf) (ai)) bi) (gN 5) (dg))))
noncomputable def bP:List D->Option D:=runB gB 2 eZ
noncomputable abbrev fD:Stmt:=gH 37
noncomputable abbrev jF:List Str:=["one","other","e"]
noncomputable def fM:Sf:=ak (yv (os (ac (oV 0) (ac (oV 1) (ai))) aU)) (ak (aD 2 (os (ac (oV 0) (ac (oV 1) (ai))) bH)) (ak (cu (ob (o2 (oV 2) (oC .none) vG)) (aP (os (ac (oC (.str "alike")) (ac (oV 2) (ai))) aO)) (fH)) (aP (os (ac (oV 0) (ac (oV 1) (ai))) bP))))
noncomputable def aY:List D->Option D:=runB jF 2 fM
noncomputable abbrev fo:Stmt:=gH 38
noncomputable abbrev iO:List Str:=["one","other","paper","f","g"]
noncomputable def lv:Dv->Option D:=df (oI (os (ac (oC (.int 1)) (ac (oC (.int 3)) (ai))) aO) eJ) [(0,"one"),(2,"paper")] kT (o2 (os (ac (oV 1) (ac (o2 (oV 2) (oV 0) av) (ai))) aV) (o2 (oV 2) (o2 (oV 0) (oC (.int 1)) aT) av) av)
noncomputable def lu:Dv->Option D:=df (oI (os (ac (oC (.int 1)) (ac (oC (.int 3)) (ai))) aO) eJ) [(1,"other"),(2,"paper")] kT (o2 (os (ac (oV 1) (ac (o2 (oV 2) (oV 0) av) (ai))) aV) (o2 (oV 2) (o2 (oV 0) (oC (.int 1)) aT) av) av)
noncomputable def jY:Sf:=ak (aD 3 (lv)) (ak (aD 4 (lu)) (aP (o2 (os (ac (o2 (oV 3) (oC (.int 0)) av) (ac (o2 (oV 4) (oC (.int 1)) av) (ai))) cU) (os (ac (o2 (oV 3) (oC (.int 1)) av) (ac (o2 (oV 4) (oC (.int 0)) av) (ai))) cU) neD)))
noncomputable def dH:List D->Option D:=runB iO 3 jY
noncomputable abbrev dy:Stmt:=gH 39
noncomputable abbrev gD:List Str:=["one","other","paper","places"]
noncomputable def iR:Dv->Option D:=df (oI (pi (oV 2) (oP (oC (.int 1))) (pj)) eJ) [(3,"places")] kT (GC (oC (.int 0)) (oV 0) (oV 1) KZ Av)
noncomputable def dI:Sf:=ak (yv (os (ac (oV 0) (ac (oV 1) (ai))) aU)) (ak (cu (ob (o2 (o2 (oV 2) (oC (.int 0)) av) (oC (.str "alike")) aX)) (aP (o2 (os (ac (oV 0) (ac (oV 1) (ai))) bH) (o2 (oV 2) (oC (.int 1)) av) aX)) (fH)) (ak (aD 3 (o2 (oC (.int 1)) (o2 (oV 0) (oC (.int 0)) av) dO)) (aP (pk (os (ac (iR) (ai)) Ao) (os (ac (oV 0) (ac (oV 1) (ac (oV 2) (ai)))) dH)))))
noncomputable def aI:List D->Option D:=runB gD 3 dI
noncomputable abbrev eW:Stmt:=gH 41
noncomputable abbrev ji:List Str:=["script","k"]
noncomputable def e9:Sf:=ak (cu (ob (o2 (oV 1) (os (ac (oV 0) (ai)) bf) Av)) (aP (o2 (oV 0) (oV 1) av)) (fH)) (aP (oC (.int 0)))
noncomputable def bQ:List D->Option D:=runB ji 2 e9
noncomputable abbrev iw:Stmt:=gH 42
noncomputable abbrev oB:List Str:=["cell","wires","kind","j","i"]
noncomputable def dJ:Sf:=ak (aD 2 (o2 (oV 0) (oC (.int 6)) bw)) (ak (aD 3 (o2 (o2 (oV 0) (oC (.int 6)) cq) (oV 1) bw)) (ak (cu (kJ (ob (o2 (oV 1) (oC (.int 1)) aX)) (ob (o2 (oV 2) (oC (.int 2)) sM))) (aD 2 (o2 (oV 2) (oC (.int 2)) bw)) (fH)) (ak (cu (ob (o2 (oV 2) (oC (.int 1)) aX)) (aP (os (ac (oC (.str "turn")) (ac (oV 3) (ac (o2 (oC (.int 1)) (o2 (o2 (oV 0) (oC (.int 18)) cq) (oC (.int 7)) bw) aT) (ai)))) aO)) (fH)) (ak (cu (sw (ob (o2 (oV 2) (oC (.int 0)) aX)) (ob (o2 (oV 2) (oC (.int 2)) aX))) (aP (os (ac (o2 (os (ac (oC (.str "swing")) (ac (oC (.str "")) (ac (oC (.str "flip")) (ai)))) dD) (oV 2) av) (ac (oV 3) (ai))) aO)) (fH)) (ak (aD 4 (o2 (o2 (o2 (oV 3) (oC (.int 1)) aT) (o2 (o2 (oV 0) (oC (.int 18)) cq) (o2 (oV 1) (oC (.int 1)) bM) bw) aT) (oV 1) bw)) (aP (os (ac (o2 (os (ac (oC (.str "tie")) (ac (oC (.str "sign")) (ac (oC (.str "cross")) (ai)))) dD) (o2 (oV 2) (oC (.int 3)) bM) av) (ac (oV 4) (ac (oV 3) (ai)))) aO)))))))
noncomputable def aC:List D->Option D:=runB oB 2 dJ
noncomputable abbrev fF:Stmt:=gH 43
noncomputable abbrev jH:List Str:=["x","e","step"]
noncomputable def dE:Sf:=aD 0 (os (ac (o1 (o2 (oV 0) (oC (.int 3)) av) negD) (ac (o2 (oV 0) (oC (.int 0)) av) (ac (o2 (oV 0) (oC (.int 1)) av) (ac (o2 (oV 0) (oC (.int 2)) av) (ai))))) aO)
noncomputable def g8:Sf:=ak (ic (oL (ac (o2 (oV 1) (oC (.int 8)) bw) (ai)) bi) (gN 2) (dE)) (aP (oV 0))
noncomputable def aZ:List D->Option D:=runB jH 2 g8
noncomputable abbrev fG:Stmt:=gH 44
noncomputable abbrev jI:List Str:=["x","many","step"]
noncomputable def dF:Sf:=aD 0 (os (ac (o2 (o2 (oV 0) (oC (.int 1)) av) (o2 (oV 0) (oC (.int 3)) av) bM) (ac (o2 (o2 (oV 0) (oC (.int 0)) av) (o2 (oV 0) (oC (.int 2)) av) aT) (ac (o2 (o2 (oV 0) (oC (.int 1)) av) (o2 (oV 0) (oC (.int 3)) av) aT) (ac (o2 (o2 (oV 0) (oC (.int 2)) av) (o2 (oV 0) (oC (.int 0)) av) bM) (ai))))) aO)
noncomputable def hE:Sf:=ak (ic (oL (ac (oV 1) (ai)) bi) (gN 2) (dF)) (aP (oV 0))
noncomputable def bN:List D->Option D:=runB jI 2 hE
noncomputable abbrev gd:Stmt:=gH 45
noncomputable abbrev ky:List Str:=["x","y","made","k","j"]
noncomputable def d6:Sf:=qe 2 (o2 (oV 3) (oV 4) aT) (o2 (lY 2 (o2 (oV 3) (oV 4) aT)) (o2 (o2 (oV 0) (oV 3) av) (o2 (oV 1) (oV 4) av) fV) aT)
noncomputable def dj:Sf:=ic (oL (ac (oC (.int 4)) (ai)) bi) (gN 4) (d6)
noncomputable def iL:Sf:=ak (wz 2 (ac (oC (.int 0)) (ac (oC (.int 0)) (ac (oC (.int 0)) (ac (oC (.int 0)) (ac (oC (.int 0)) (ac (oC (.int 0)) (ac (oC (.int 0)) (ai))))))))) (ak (ic (oL (ac (oC (.int 4)) (ai)) bi) (gN 3) (dj)) (aP (os (ac (o2 (lY 2 (oC (.int 0))) (lY 2 (oC (.int 4))) bM) (ac (o2 (lY 2 (oC (.int 1))) (lY 2 (oC (.int 5))) bM) (ac (o2 (lY 2 (oC (.int 2))) (lY 2 (oC (.int 6))) bM) (ac (lY 2 (oC (.int 3))) (ai))))) aO)))
noncomputable def b7:List D->Option D:=runB ky 2 iL
noncomputable abbrev gg:Stmt:=gH 46
noncomputable abbrev kz:List Str:=["place","row","wires","one","two"]
noncomputable def cZ:Sf:=ak (aD 3 (o2 (oC (.int 1)) (o2 (o2 (oV 2) (oC (.int 1)) bM) (o2 (oV 1) (oC (.int 1)) av) bM) dO)) (ak (cu (ob (o2 (o2 (oV 1) (oC (.int 0)) av) (oC (.str "flip")) aX)) (aP (o2 (oV 0) (oV 3) pP)) (fH)) (ak (aD 4 (o2 (oC (.int 1)) (o2 (o2 (oV 2) (oC (.int 1)) bM) (o2 (oV 1) (oC (.int 2)) av) bM) dO)) (ak (cu (kJ (ob (o2 (o2 (oV 1) (oC (.int 0)) av) (oC (.str "tie")) aX)) (ob (o2 (o2 (oV 0) (oV 3) lh) (oC (.int 0)) sM))) (aP (o2 (oV 0) (oV 4) pP)) (fH)) (ak (cu (kJ (ob (o2 (o2 (oV 1) (oC (.int 0)) av) (oC (.str "cross")) aX)) (ob (o2 (o2 (o2 (oV 0) (oV 3) lh) (oC (.int 0)) sM) (o2 (o2 (oV 0) (oV 4) lh) (oC (.int 0)) sM) neD))) (aP (o2 (oV 0) (o2 (oV 3) (oV 4) Au) pP)) (fH)) (aP (oV 0))))))
noncomputable def bh:List D->Option D:=runB kz 3 cZ
noncomputable abbrev el:Stmt:=gH 47
noncomputable abbrev iT:List Str:=["state","row","wires","made","one","place","x","y"]
noncomputable def ay:Sf:=ak (aD 6 (o2 (oV 0) (oV 5) av)) (cu (ob (o2 (o2 (oV 1) (oC (.int 0)) av) (oC (.str "swing")) aX)) (ak (aD 7 (o2 (oV 0) (o2 (oV 5) (oV 4) pP) av)) (cu (ob (o2 (o2 (oV 5) (oV 4) lh) (oC (.int 0)) sM)) (qe 3 (oV 5) (os (ac (o2 (o2 (oV 7) (oC (.int 0)) av) (o2 (oV 6) (oC (.int 0)) av) bM) (ac (o2 (o2 (oV 7) (oC (.int 1)) av) (o2 (oV 6) (oC (.int 1)) av) bM) (ac (o2 (o2 (oV 7) (oC (.int 2)) av) (o2 (oV 6) (oC (.int 2)) av) bM) (ac (o2 (o2 (oV 7) (oC (.int 3)) av) (o2 (oV 6) (oC (.int 3)) av) bM) (ai))))) aO)) (qe 3 (oV 5) (os (ac (o2 (o2 (oV 6) (oC (.int 0)) av) (o2 (oV 7) (oC (.int 0)) av) aT) (ac (o2 (o2 (oV 6) (oC (.int 1)) av) (o2 (oV 7) (oC (.int 1)) av) aT) (ac (o2 (o2 (oV 6) (oC (.int 2)) av) (o2 (oV 7) (oC (.int 2)) av) aT) (ac (o2 (o2 (oV 6) (oC (.int 3)) av) (o2 (oV 7) (oC (.int 3)) av) aT) (ai))))) aO)))) (cu (kJ (ob (o2 (o2 (oV 1) (oC (.int 0)) av) (oC (.str "turn")) aX)) (ob (o2 (o2 (oV 5) (oV 4) lh) (oC (.int 0)) sM))) (qe 3 (oV 5) (os (ac (oV 6) (ac (o2 (oV 1) (oC (.int 2)) av) (ai))) aZ)) (cu (kJ (ob (o2 (o2 (oV 1) (oC (.int 0)) av) (oC (.str "sign")) aX)) (kJ (ob (o2 (o2 (oV 5) (oV 4) lh) (oC (.int 0)) sM)) (ob (o2 (o2 (oV 5) (o2 (oC (.int 1)) (o2 (o2 (oV 2) (oC (.int 1)) bM) (o2 (oV 1) (oC (.int 2)) av) bM) dO) lh) (oC (.int 0)) sM)))) (qe 3 (oV 5) (os (ac (oV 6) (ac (oC (.int 4)) (ai))) aZ)) (cu (ob (o2 (o2 (oV 1) (oC (.int 0)) av) (os (ac (oC (.str "flip")) (ac (oC (.str "tie")) (ac (oC (.str "cross")) (ai)))) aO) (i6 false))) (qe 3 (os (ac (oV 5) (ac (oV 1) (ac (oV 2) (ai)))) bh) (oV 6)) (fH)))))
noncomputable def fZ:Sf:=ak (pb 3 (E6 (ac (oV 0) (ai)))) (ak (aD 4 (o2 (oC (.int 1)) (o2 (o2 (oV 2) (oC (.int 1)) bM) (o2 (oV 1) (oC (.int 1)) av) bM) dO)) (ak (ic (oL (ac (os (ac (oV 0) (ai)) bf) (ai)) bi) (gN 5) (ay)) (fun δ=>(aP (oV 3)) (tK 3 δ))))
noncomputable def bI:List D->Option D:=runB iT 3 fZ
noncomputable abbrev eV:Stmt:=gH 48
noncomputable abbrev jh:List Str:=["circuit","columns","begin","state","row"]
noncomputable def bY:Sf:=fun δ=>(aD 3 (os (ac (oV 3) (ac (oV 4) (ac (o2 (oV 0) (oC (.int 0)) av) (ai)))) bI)) (tK 3 δ)
noncomputable def cx:Sf:=ak (pb 3 (JG (o2 (os (ac (os (ac (oC (.int 0)) (ac (oC (.int 0)) (ac (oC (.int 0)) (ac (oC (.int 0)) (ai))))) aO) (ai)) dD) (o2 (oC (.int 1)) (o2 (oV 0) (oC (.int 0)) av) dO) qy))) (ak (qe 3 (oV 2) (os (ac (oC (.int 1)) (ac (oC (.int 0)) (ac (oC (.int 0)) (ac (oC (.int 0)) (ai))))) aO)) (ak (ic (oI (o2 (oV 0) (oC (.int 1)) av) eJ) (gN 4) (bY)) (fun δ=>(r9 1 (oV 3)) (tK 3 δ))))
noncomputable def gA:Sf:=ak (wz 1 (ai)) (ak (ic (oL (ac (o2 (oC (.int 1)) (o2 (oV 0) (oC (.int 0)) av) dO) (ai)) bi) (gN 2) (cx)) (fun δ=>(aP (oV 1)) (tK 1 δ)))
noncomputable def aW:List D->Option D:=runB jh 1 gA
noncomputable abbrev dX:Stmt:=gH 49
noncomputable abbrev hJ:List Str:=["circuit"]
noncomputable def iY:Dv->Option D:=iy (oI (o2 (oV 0) (oC (.int 1)) av) eJ) [] kT (ob (o2 (o2 (oV 0) (oC (.int 0)) av) (oC (.str "swing")) aX)) (oV 0)
noncomputable def g9:Sf:=aP (os (ac (iY) (ai)) bf)
noncomputable def b8:List D->Option D:=runB hJ 1 g9
noncomputable abbrev cT:Stmt:=gH 50
noncomputable abbrev gE:List Str:=["one","other","first","second","e","more","begin","place","x"]
noncomputable def bX:Sf:=ak (aD 8 (os (ac (os (ac (o2 (o2 (oV 2) (oV 6) av) (oV 7) av) (ac (oV 4) (ai))) aZ) (ac (os (ac (oC (.int 0)) (ac (oV 5) (ai))) ny) (ai))) bN)) (cu (ob (o2 (oV 8) (os (ac (o2 (o2 (oV 3) (oV 6) av) (oV 7) av) (ac (os (ac (oC (.int 0)) (ac (o1 (oV 5) negD) (ai))) ny) (ai))) bN) neD)) (aP (oC (.bool false))) (fH))
noncomputable def bW:Sf:=ic (oL (ac (os (ac (oV 2) (ai)) bf) (ai)) bi) (gN 7) (bX)
noncomputable def eF:Sf:=ak (aD 5 (o2 (os (ac (oV 1) (ai)) b8) (os (ac (oV 0) (ai)) b8) bM)) (ak (ic (oL (ac (os (ac (oV 2) (ai)) bf) (ai)) bi) (gN 6) (bW)) (aP (oC (.bool true))))
noncomputable def bm:List D->Option D:=runB gE 5 eF
noncomputable abbrev fE:Stmt:=gH 51
noncomputable abbrev jG:List Str:=["first","second","spots","x"]
noncomputable def g7:Sf:=ak (aD 3 (os (ac (o2 (o2 (oV 0) (o2 (oV 2) (oC (.int 0)) av) av) (o2 (oV 2) (oC (.int 1)) av) av) (ac (o2 (o2 (oV 1) (o2 (oV 2) (oC (.int 2)) av) av) (o2 (oV 2) (oC (.int 3)) av) av) (ai))) b7)) (aP (o2 (oV 3) (os (ac (o2 (o2 (oV 0) (o2 (oV 2) (oC (.int 2)) av) av) (o2 (oV 2) (oC (.int 3)) av) av) (ac (o2 (o2 (oV 1) (o2 (oV 2) (oC (.int 0)) av) av) (o2 (oV 2) (oC (.int 1)) av) av) (ai))) b7) neD))
noncomputable def ck:List D->Option D:=runB jG 3 g7
noncomputable abbrev gb:Stmt:=gH 52
noncomputable abbrev kw:List Str:=["row"]
noncomputable def gn:Sf:=ak (cu (ob (o2 (o2 (oV 0) (oC (.int 0)) av) (oC (.str "turn")) aX)) (aP (os (ac (o2 (oV 0) (oC (.int 1)) av) (ai)) dD)) (fH)) (aP (os (ac (pi (oV 0) (oP (oC (.int 1))) (pj)) (ai)) vB))
noncomputable def bg:List D->Option D:=runB kw 1 gn
noncomputable abbrev eU:Stmt:=gH 53
noncomputable abbrev gF:List Str:=["cell","wires","j","e","row","back","swing","some","i"]
noncomputable def e6:Sf:=ak (aD 2 (o2 (oV 0) (oV 1) bw)) (ak (aD 3 (o2 (oC (.int 1)) (o2 (o2 (oV 0) (oC (.int 3)) cq) (oC (.int 7)) bw) aT)) (ak (aD 4 (os (ac (o2 (oV 0) (oC (.int 21)) cq) (ac (oV 1) (ai))) aC)) (ak (aD 5 (oV 4)) (ak (cu (ob (o2 (o2 (oV 4) (oC (.int 0)) av) (oC (.str "turn")) aX)) (aD 5 (os (ac (oC (.str "turn")) (ac (o2 (oV 4) (oC (.int 1)) av) (ac (o2 (oC (.int 8)) (o2 (oV 4) (oC (.int 2)) av) bM) (ai)))) aO)) (fH)) (ak (aD 6 (os (ac (oC (.str "swing")) (ac (oV 2) (ai))) aO)) (ak (wz 7 (ac (os (ac (oV 4) (ac (oV 5) (ai))) dD) (ac (os (ac (oV 6) (ac (os (ac (oC (.str "turn")) (ac (oV 2) (ac (oC (.int 4)) (ai)))) aO) (ac (oV 6) (ac (os (ac (oC (.str "flip")) (ac (oV 2) (ai))) aO) (ai))))) dD) (ac (os (ac (os (ac (oC (.str "turn")) (ac (oV 2) (ac (oV 3) (ai)))) aO) (ac (os (ac (oC (.str "turn")) (ac (oV 2) (ac (o2 (oC (.int 8)) (oV 3) bM) (ai)))) aO) (ai))) dD) (ai))))) (ak (cu (ob (o2 (oV 1) (oC (.int 1)) sM)) (ak (aD 8 (o2 (o2 (o2 (oV 2) (oC (.int 1)) aT) (o2 (o2 (oV 0) (oC (.int 7)) cq) (o2 (oV 1) (oC (.int 1)) bM) bw) aT) (oV 1) bw)) (ak (r9 7 (os (ac (os (ac (oC (.str "tie")) (ac (oV 8) (ac (oV 2) (ai)))) aO) (ac (os (ac (oC (.str "tie")) (ac (oV 2) (ac (oV 8) (ai)))) aO) (ac (os (ac (oC (.str "tie")) (ac (oV 8) (ac (oV 2) (ai)))) aO) (ac (os (ac (oC (.str "cross")) (ac (oV 2) (ac (oV 8) (ai)))) aO) (ai))))) dD)) (r9 7 (os (ac (os (ac (oC (.str "sign")) (ac (oV 8) (ac (oV 2) (ai)))) aO) (ac (oV 6) (ac (os (ac (oC (.str "tie")) (ac (oV 8) (ac (oV 2) (ai)))) aO) (ac (oV 6) (ai))))) dD)))) (fH)) (aP (lY 7 (o2 (o2 (oV 0) (oC (.int 11)) cq) (yX 7) bw))))))))))
noncomputable def ca:List D->Option D:=runB gF 2 e6
noncomputable abbrev dA:Stmt:=gH 54
noncomputable abbrev fg:List Str:=["rows","cell","wires","room","rest","at","both","more","e","j"]
noncomputable def de:Dv->Option D:=iy (oI (os (ac (o2 (oV 0) (oV 5) av) (ai)) bg) eJ) [(0,"rows"),(5,"at")] kT (ob (o2 (oV 0) (os (ac (o2 (oV 1) (o2 (oV 2) (oC (.int 1)) aT) av) (ai)) bg) (i6 false))) (oV 0)
noncomputable def dL:Sf:=ak (aD 4 (o2 (oV 1) (oC (.int 3)) cq)) (ak (aD 5 (o2 (oV 4) (o2 (os (ac (oV 0) (ai)) bf) (oC (.int 1)) aT) bw)) (ak (cu (kJ (ob (o2 (o2 (oV 1) (oC (.int 3)) bw) (oC (.int 0)) aX)) (ob (o2 (o2 (oV 5) (oC (.int 1)) aT) (os (ac (oV 0) (ai)) bf) Av))) (ak (aD 6 (de)) (cu (ob (o2 (oV 6) (os (ai) dD) aX)) (aP (os (ac (o2 (o2 (pi (oV 0) (pj) (oP (oV 5))) (os (ac (o2 (oV 0) (o2 (oV 5) (oC (.int 1)) aT) av) (ac (o2 (oV 0) (oV 5) av) (ai))) dD) aT) (pi (oV 0) (oP (o2 (oV 5) (oC (.int 2)) aT)) (pj)) aT) (ac (oC (.int 0)) (ai))) aO)) (fH))) (fH)) (ak (aD 7 (os (ac (o2 (oV 4) (oC (.int 7)) cq) (ac (oV 2) (ai))) ca)) (ak (aD 8 (oC (.int 0))) (ak (cu (ob (o2 (o2 (oV 1) (oC (.int 3)) bw) (oC (.int 1)) aX)) (ak (aD 9 (o2 (o2 (oV 4) (oC (.int 5)) cq) (oV 2) bw)) (ak (aD 8 (o2 (oC (.int 1)) (o2 (o2 (oV 4) (oC (.int 15)) cq) (oC (.int 7)) bw) aT)) (aD 7 (os (ac (os (ac (oC (.str "flip")) (ac (oV 9) (ai))) aO) (ac (os (ac (oC (.str "turn")) (ac (oV 9) (ac (oV 8) (ai)))) aO) (ac (os (ac (oC (.str "flip")) (ac (oV 9) (ai))) aO) (ac (os (ac (oC (.str "turn")) (ac (oV 9) (ac (oV 8) (ai)))) aO) (ai))))) dD)))) (fH)) (ak (cu (ob (o2 (o2 (os (ac (oV 0) (ai)) bf) (os (ac (oV 7) (ai)) bf) aT) (oV 3) sM)) (aP (os (ac (oV 0) (ac (oC (.int 0)) (ai))) aO)) (fH)) (aP (os (ac (o2 (o2 (pi (oV 0) (pj) (oP (oV 5))) (oV 7) aT) (pi (oV 0) (oP (oV 5)) (pj)) aT) (ac (oV 8) (ai))) aO))))))))
noncomputable def cN:List D->Option D:=runB fg 4 dL
noncomputable abbrev gc:Stmt:=gH 55
noncomputable abbrev kx:List Str:=["found"]
noncomputable def iK:Sf:=aP (pk (o1 (oV 0) (iD "int")) (o1 (o1 (oV 0) (iD "bool")) BM))
noncomputable def dR:List D->Option D:=runB kx 1 iK
noncomputable abbrev gL:Stmt:=gH 56
noncomputable abbrev lL:List Str:=["one","other","first","second","paper","spot"]
noncomputable def dP:Sf:=cu (sw (nt (ob (os (ac (oV 5) (ai)) dR))) (ob (o2 (oV 5) (oC (.int 0)) Av))) (aP (oC (.bool false))) (fH)
noncomputable def gW:Sf:=ak (cu (sw (nt (ob (o1 (oV 4) (iD "tuple")))) (ob (o2 (os (ac (oV 4) (ai)) bf) (oC (.int 2)) Av))) (aP (oC (.bool false))) (fH)) (ak (ic (oI (pi (oV 4) (oP (oC (.int 1))) (pj)) eJ) (gN 5) (dP)) (ak (cu (ob (o2 (o2 (oV 4) (oC (.int 0)) av) (oC (.str "alike")) aX)) (aP (pk (o2 (os (ac (oV 4) (ai)) bf) (oC (.int 2)) aX) (pk (o2 (o2 (oV 4) (oC (.int 1)) av) (oC (.int 8)) Av) (os (ac (oV 0) (ac (oV 1) (ac (oV 2) (ac (oV 3) (ac (o2 (oV 4) (oC (.int 1)) av) (ai)))))) bm)))) (fH)) (ak (cu (sw (ob (o2 (o2 (oV 4) (oC (.int 0)) av) (oC (.str "unlike")) neD)) (ob (o2 (os (ac (oV 4) (ai)) bf) (oC (.int 5)) neD))) (aP (oC (.bool false))) (fH)) (aP (pk (o2 (os (ac (pi (oV 4) (oP (oC (.int 1))) (pj)) (ai)) pq) (os (ac (oV 2) (ai)) bf) Av) (os (ac (oV 2) (ac (oV 3) (ac (pi (oV 4) (oP (oC (.int 1))) (pj)) (ai)))) ck))))))
noncomputable def cb:List D->Option D:=runB lL 5 gW
noncomputable abbrev dY:Stmt:=gH 57
noncomputable abbrev hR:List Str:=["rows","cells","wires","room","head","others","cell"]
noncomputable def gr:Dv->Option D:=df (oI (pi (oV 1) (pj) (oP (oV 3))) eJ) [(2,"wires")] kT (os (ac (oV 0) (ac (oV 1) (ai))) aC)
noncomputable def cM:Sf:=vd 5 (ac (oV 6) (ac (oV 2) (ac (oV 3) (ai)))) cN
noncomputable def d9:Sf:=ak (cu (ob (o2 (o2 (o2 (oV 4) (oC (.int 3)) cq) (oC (.int 3)) bw) (oC (.int 0)) aX)) (aP (gr)) (fH)) (ak (pb 5 (E6 (ac (oV 0) (ai)))) (ak (fun δ=>(ic (oI (oV 1) eJ) (gN 6) (cM)) (Ge 5 δ)) (ak (cu (kJ (ob (o2 (o2 (o2 (oV 4) (oC (.int 9)) cq) (oC (.int 2)) bw) (oC (.int 0)) aX)) (ob (o2 (os (ac (oV 5) (ai)) bf) (oC (.int 0)) sM))) (r8 5 (o2 (o2 (oV 4) (oC (.int 18)) cq) (os (ac (oV 5) (ai)) bf) bw) (os (ac (o2 (oV 4) (oC (.int 18)) cq) (ac (oV 2) (ai))) aC)) (fH)) (aP (oV 5)))))
noncomputable def cJ:List D->Option D:=runB hR 5 d9
noncomputable abbrev iP:Stmt:=gH 58
noncomputable abbrev tF:List Str:=["script","head","wires","room","cells","ones","twos","rows","one","other","first","second","paper","e","believed"]
noncomputable def ud:Dv->Option D:=df (oL (ac (oC (.int 0)) (ac (os (ac (oV 4) (ai)) bf) (ac (oC (.int 2)) (ai)))) iX) [(4,"cells")] kT (o2 (oV 1) (oV 0) av)
noncomputable def ub:Dv->Option D:=df (oL (ac (oC (.int 1)) (ac (os (ac (oV 4) (ai)) bf) (ac (oC (.int 2)) (ai)))) iX) [(4,"cells")] kT (o2 (oV 1) (oV 0) av)
noncomputable def ua:Dv->Option D:=df (oI (pi (oV 5) (pj) (oP (o2 (o2 (oV 3) (oC (.int 2)) cq) (oC (.int 1)) aT))) eJ) [(2,"wires")] kT (os (ac (oV 0) (ac (oV 1) (ai))) aC)
noncomputable def kL:Sf:=ak (aD 14 (os (ac (oV 8) (ac (oV 9) (ac (os (ac (oC (.str "alike")) (ac (oV 13) (ai))) aO) (ai)))) aI)) (cu (sw (nt (ob (o1 (oV 14) (iD "bool")))) (ob (o2 (oV 14) (o2 (oV 12) (os (ac (oC (.str "alike")) (ac (oV 13) (ai))) aO) aX) neD))) (aP (oC (.bool false))) (fH))
noncomputable def Ai:Sf:=ak (aD 1 (os (ac (oV 0) (ac (oC (.int 0)) (ai))) bQ)) (ak (aD 2 (o2 (oC (.int 1)) (o2 (oV 1) (oC (.int 3)) bw) aT)) (ak (cu (ob (o2 (o2 (o2 (oV 1) (oC (.int 75)) cq) (oC (.int 12)) bw) (oC (.int 7)) aX)) (aD 2 (oC (.int 4))) (fH)) (ak (aD 3 (o2 (os (ac (oC (.int 30)) (ac (oC (.int 16)) (ac (oC (.int 6)) (ac (oC (.int 3)) (ai))))) dD) (o2 (oV 2) (oC (.int 1)) bM) av)) (ak (aD 4 (pi (oV 0) (oP (oC (.int 1))) (pj))) (ak (aD 5 (ud)) (ak (aD 6 (ub)) (ak (aD 7 (ua)) (ak (aD 8 (os (ac (oV 2) (ac (os (ac (oV 7) (ai)) dr) (ai))) aO)) (ak (aD 9 (os (ac (oV 2) (ac (os (ac (os (ac (oV 7) (ac (oV 6) (ac (oV 2) (ac (oV 3) (ac (oV 1) (ai)))))) cJ) (ai)) dr) (ai))) aO)) (ak (aD 10 (os (ac (oV 8) (ai)) aW)) (ak (aD 11 (os (ac (oV 9) (ai)) aW)) (ak (aD 12 (os (ac (oV 8) (ac (oV 9) (ai))) aY)) (ak (cu (sw (nt (ob (os (ac (oV 8) (ac (oV 9) (ac (oV 10) (ac (oV 11) (ac (oV 12) (ai)))))) cb))) (ob (o2 (os (ac (oV 8) (ac (oV 9) (ac (oV 12) (ai)))) aI) (oC (.bool true)) (IC true)))) (aP (oC (.bool false))) (fH)) (ak (ic (oL (ac (o2 (os (ac (oC (.int 8)) (ac (oC (.int 8)) (ac (oC (.int 8)) (ac (oC (.int 2)) (ai))))) dD) (o2 (oV 2) (oC (.int 1)) bM) av) (ai)) bi) (gN 13) (kL)) (aP (oC (.bool true)))))))))))))))))
noncomputable def zO:List D->Option D:=runB tF 1 Ai
theorem A5 (j m:Int):b6 [.int j,.int m]=some (.int (MA.tP j m)):=by
 by_cases h:j=0
 ·subst h
  simp [b6,runB,fL,aw,MA.tP]
 ·simp [b6,runB,fL,aw,MA.tP,h]
theorem vh (a b c d:Int):dQ [.int a,.int b,.int c,.int d]=some (.tuple [.int (b-d),.int (a+c),.int (b+d),.int (c-a)]):=by
 simp [dQ,runB,kZ,aw]
noncomputable def tup5 (x:MA.Q4) (k:Int):D:=.tuple [.int x.a,.int x.b,.int x.c,.int x.d,.int k]
noncomputable def Fe:Sf:=aD 5 (VL.os (ac (o2 (o2 (o2 (oV 0) (oV 1) Au) (oV 2) Au) (oV 3) Au) (ac (o2 (oV 4) (oC (.int 2)) cq) (ai))) b6)
noncomputable def Fd:Sf:=aD 0 (o2 (oV 0) (oV 5) oE)
noncomputable def Fc:Sf:=aD 1 (o2 (oV 1) (oV 5) oE)
noncomputable def Fb:Sf:=aD 2 (o2 (oV 2) (oV 5) oE)
noncomputable def Fa:Sf:=aD 3 (o2 (oV 3) (oV 5) oE)
noncomputable def E9:Sf:=aD 4 (o2 (oV 4) (o2 (oC (.int 2)) (oV 5) fV) bM)
noncomputable def BJ:Sf:=cu (sw (ob (o2 (oV 4) (oC (.int 0)) aX)) (sw (ob (o2 (o2 (o2 (oV 0) (oV 2) bM) (oC (.int 2)) bw) (oC (.int 1)) aX)) (ob (o2 (o2 (o2 (oV 1) (oV 3) bM) (oC (.int 2)) bw) (oC (.int 1)) aX)))) (aP (VL.os (ac (oV 0) (ac (oV 1) (ac (oV 2) (ac (oV 3) (ac (oV 4) (ai)))))) aO)) (fH)
noncomputable def BI:Sf:=aD 6 (VL.os (ac (oV 0) (ac (oV 1) (ac (oV 2) (ac (oV 3) (ai))))) dQ)
noncomputable def BH:Sf:=aP (VL.os (ac (o2 (o2 (oV 6) (oC (.int 0)) av) (oC (.int 2)) cq) (ac (o2 (o2 (oV 6) (oC (.int 1)) av) (oC (.int 2)) cq) (ac (o2 (o2 (oV 6) (oC (.int 2)) av) (oC (.int 2)) cq) (ac (o2 (o2 (oV 6) (oC (.int 3)) av) (oC (.int 2)) cq) (ac (o2 (oV 4) (oC (.int 1)) bM) (ai)))))) aO)
theorem wM:kr=ak Fe (ak Fd (ak Fc (ak Fb (ak Fa (ak E9 (ak BJ (ak BI (BH)))))))):=rfl
theorem sx {s t:Sf} {δ δ':Dv} (h:s δ = some (.nx,δ')):ak s t δ = t δ':=by simp only [ak,h,Option.bind_some]
theorem KK {s t:Sf} {δ δ':Dv} {d:D} (h:s δ = some (.rt d,δ')):ak s t δ = some (.rt d,δ'):=by simp only [ak,h,Option.bind_some]
theorem Ia {N:List Str} {n:Nat} {b:Sf} {as:List D} {d:D} {δ':Dv} (hl:as.length=n) (h:b (aw N as)=some (.rt d,δ')):runB N n b as=some d:=by unfold runB; rw [if_pos hl,h]; rfl
theorem MG {a b c d k t:Int} (h:b6 [.int (Builtin.bitOr (Builtin.bitOr (Builtin.bitOr a b) c) d),.int (k / 2)]=some (.int t)):Fe [.fz (.int a),.fz (.int b),.fz (.int c),.fz (.int d),.fz (.int k),.un,.un]=some (.nx,[.fz (.int a),.fz (.int b),.fz (.int c),.fz (.int d),.fz (.int k),.fz (.int t),.un]):=by simp [Fe,h]
theorem MF (a:Int) (t:Nat) (x1 x2 x3 x4 x6:Sl):Fd [.fz (.int a),x1,x2,x3,x4,.fz (.int t),x6]=some (.nx,[.fz (.int (a / 2 ^ t)),x1,x2,x3,x4,.fz (.int t),x6]):=by simp [Fd]
theorem ME (a:Int) (t:Nat) (x1 x2 x3 x4 x6:Sl):Fc [x1,.fz (.int a),x2,x3,x4,.fz (.int t),x6]=some (.nx,[x1,.fz (.int (a / 2 ^ t)),x2,x3,x4,.fz (.int t),x6]):=by simp [Fc]
theorem MD (a:Int) (t:Nat) (x1 x2 x3 x4 x6:Sl):Fb [x1,x2,.fz (.int a),x3,x4,.fz (.int t),x6]=some (.nx,[x1,x2,.fz (.int (a / 2 ^ t)),x3,x4,.fz (.int t),x6]):=by simp [Fb]
theorem MC (a:Int) (t:Nat) (x1 x2 x3 x4 x6:Sl):Fa [x1,x2,x3,.fz (.int a),x4,.fz (.int t),x6]=some (.nx,[x1,x2,x3,.fz (.int (a / 2 ^ t)),x4,.fz (.int t),x6]):=by simp [Fa]
theorem MB (a:Int) (t:Nat) (x1 x2 x3 x4 x6:Sl):E9 [x1,x2,x3,x4,.fz (.int a),.fz (.int t),x6]=some (.nx,[x1,x2,x3,x4,.fz (.int (a-2*t)),.fz (.int t),x6]):=by
 have m2:IntMulOk 2 (t:Int):=.of_left (by decide)
 simp [E9,m2]
theorem Ds {f g:Dv->Option Bool} {δ:Dv} (h:f δ = some true):sw f g δ = some true:=by unfold sw; rw [h]; rfl
theorem vt {f g:Dv->Option Bool} {δ:Dv} (h:f δ = some false):sw f g δ = g δ:=by unfold sw; rw [h]; rfl
section
variable (a b c d k:Int) (x5 x6:Sl)
theorem H9:(ob (o2 (oV 4) (oC (.int 0)) aX)) [.fz (.int a),.fz (.int b),.fz (.int c),.fz (.int d),.fz (.int k),x5,x6]=some (k==0):=rfl
theorem HX {f g:Dv->Option D} {δ:Dv} {x y:Int} (hf:f δ = some (.int x)) (hg:g δ = some (.int y)):(ob (o2 (o2 (o2 f g bM) (oC (.int 2)) bw) (oC (.int 1)) aX)) δ = some ((x-y) % 2==1):=by
 have s:bM (.int x) (.int y)=some (.int (x-y)):=rfl
 have m:bw (.int (x-y)) (.int 2)=some (.int ((x-y) % 2)):=nv (by decide)
 simp only [ob,o2,oC,hf,hg,Option.bind_some,s,m,CO,Aj]
theorem HZ:(ob (o2 (o2 (o2 (oV 0) (oV 2) bM) (oC (.int 2)) bw) (oC (.int 1)) aX)) [.fz (.int a),.fz (.int b),.fz (.int c),.fz (.int d),.fz (.int k),x5,x6]=some ((a-c) % 2==1):=HX rfl rfl
theorem HY:(ob (o2 (o2 (o2 (oV 1) (oV 3) bM) (oC (.int 2)) bw) (oC (.int 1)) aX)) [.fz (.int a),.fz (.int b),.fz (.int c),.fz (.int d),.fz (.int k),x5,x6]=some ((b-d) % 2==1):=HX rfl rfl
end
theorem Hy {t:Dv->Option Bool} {u w:Sf} {δ:Dv} (h:t δ = some true):cu t u w δ = u δ:=by unfold cu; rw [h]; rfl
theorem Hz {t:Dv->Option Bool} {u w:Sf} {δ:Dv} (h:t δ = some false):cu t u w δ = w δ:=by unfold cu; rw [h]; rfl
theorem KI (a b c d k:Int) (x5 x6:Sl) (h:k=0\/(a-c) % 2=1\/(b-d) % 2=1):BJ [.fz (.int a),.fz (.int b),.fz (.int c),.fz (.int d),.fz (.int k),x5,x6]=some (.rt (.tuple [.int a,.int b,.int c,.int d,.int k]),[.fz (.int a),.fz (.int b),.fz (.int c),.fz (.int d),.fz (.int k),x5,x6]):=by
 refine (Hy ?_).trans rfl
 have t1:=H9 a b c d k x5 x6
 have t2:=HZ a b c d k x5 x6
 have t3:=HY a b c d k x5 x6
 by_cases q0:k=0
 ·rw [beq_iff_eq.mpr q0] at t1; exact Ds t1
 ·rw [beq_eq_false_iff_ne.mpr q0] at t1
  refine (vt t1).trans ?_
  by_cases q1:(a-c) % 2=1
  ·rw [beq_iff_eq.mpr q1] at t2; exact Ds t2
  ·rw [beq_eq_false_iff_ne.mpr q1] at t2
   refine (vt t2).trans ?_
   rcases h with h | h | h
   ·exact absurd h q0
   ·exact absurd h q1
   ·rw [beq_iff_eq.mpr h] at t3; exact t3
theorem KJ (a b c d k:Int) (x5 x6:Sl) (h:¬(k=0\/(a-c) % 2=1\/(b-d) % 2=1)):BJ [.fz (.int a),.fz (.int b),.fz (.int c),.fz (.int d),.fz (.int k),x5,x6]=some (.nx,[.fz (.int a),.fz (.int b),.fz (.int c),.fz (.int d),.fz (.int k),x5,x6]):=by
 have t1:=H9 a b c d k x5 x6
 have t2:=HZ a b c d k x5 x6
 have t3:=HY a b c d k x5 x6
 rw [beq_eq_false_iff_ne.mpr fun q=>h (.inl q)] at t1
 rw [beq_eq_false_iff_ne.mpr fun q=>h (.inr (.inl q))] at t2
 rw [beq_eq_false_iff_ne.mpr fun q=>h (.inr (.inr q))] at t3
 exact (Hz ((vt t1).trans ((vt t2).trans t3))).trans rfl
theorem Mz (a b c d:Int) (x4 x5 x6:Sl):BI [.fz (.int a),.fz (.int b),.fz (.int c),.fz (.int d),x4,x5,x6]=some (.nx,[.fz (.int a),.fz (.int b),.fz (.int c),.fz (.int d),x4,x5,.fz (.tuple [.int (b-d),.int (a+c),.int (b+d),.int (c-a)])]):=by simp [BI,vh]
theorem My (p q r s k:Int) (x0 x1 x2 x3 x5:Sl):BH [x0,x1,x2,x3,.fz (.int k),x5,.fz (.tuple [.int p,.int q,.int r,.int s])]=some (.rt (.tuple [.int (p / 2),.int (q / 2),.int (r / 2),.int (s / 2),.int (k-1)]),[x0,x1,x2,x3,.fz (.int k),x5,.fz (.tuple [.int p,.int q,.int r,.int s])]):=by simp [BH]
theorem wN (a b c d k:Int) (hk:0<=k):dG [.int a,.int b,.int c,.int d,.int k]=some (tup5 (MA.num ⟨a,b,c,d⟩ k).1 (MA.num ⟨a,b,c,d⟩ k).2):=by
 obtain ⟨t,e,h1,_⟩:=MA.kC a b c d (k / 2) (Int.ediv_nonneg hk (by decide))
 have tw:=A5 (Builtin.bitOr (Builtin.bitOr (Builtin.bitOr a b) c) d) (k / 2)
 rw [e] at tw
 unfold MA.num tup5
 simp only [e,Int.toNat_natCast]
 generalize ha:a / 2 ^ t=A
 generalize hb:b / 2 ^ t=B
 generalize hc:c / 2 ^ t=C
 generalize hd:d / 2 ^ t=E
 have go:kr (aw oy [.int a,.int b,.int c,.int d,.int k])=(ak BJ (ak BI BH)) [.fz (.int A),.fz (.int B),.fz (.int C),.fz (.int E),.fz (.int (k-2*t)),.fz (.int t),.un]:=by
  rw [wM,<- ha,<- hb,<- hc,<- hd]
  exact (sx (MG tw)).trans ((sx (MF _ _ _ _ _ _ _)).trans ((sx (ME _ _ _ _ _ _ _)).trans ((sx (MD _ _ _ _ _ _ _)).trans ((sx (MC _ _ _ _ _ _ _)).trans (sx (MB _ _ _ _ _ _ _))))))
 by_cases q:k-2*(t:Int)=0\/(A-C) % 2=1\/(B-E) % 2=1
 ·rw [if_pos q]
  exact Ia rfl (go.trans (KK (KI _ _ _ _ _ _ _ q)))
 ·rw [if_neg q]
  exact Ia rfl (go.trans ((sx (KJ _ _ _ _ _ _ _ q)).trans ((sx (Mz _ _ _ _ _ _ _)).trans (My _ _ _ _ _ _ _ _ _ _))))
theorem KP (c f:Int):ny [.int c,.int f]=some (.int (max c f)):=by
 rw [ki]
 congr 2
 rw [Int.max_def]
 split <;> split <;> omega
structure Nm (M:Nat) (r:Int) (x:MA.Q4) (c:Int):Prop where
 le:MA.Q4.Le M x
 ls:MA.Q4.Least x c
 c1:c<=r
theorem E8 (x:MA.Q4) (k:Int) (hk:0<=k):dG [.int x.a,.int x.b,.int x.c,.int x.d,.int k]=some (tup5 (MA.num x k).1 (MA.num x k).2):=wN _ _ _ _ _ hk
noncomputable def DW (x:MA.Q4):D:=.tuple [.int x.a,.int x.b,.int x.c,.int x.d]
theorem vo (x:MA.Q4) (c k:Int) (h:MA.Q4.Le (2 ^ 100000) x) (h1:c<=k) (h2:k-c<=100000):cD [tup5 x c,.int k]=some (DW (MA.Q4.rtn (k-c).toNat x)):=by
 obtain ⟨l1,l2,l3,l4⟩:=h
 obtain ⟨t,ht⟩:∃ t:Nat,(k-c) / 2=t:=⟨((k-c) / 2).toNat,by omega⟩
 have s:∀ i:Int,i.natAbs<=2 ^ 100000->dO (.int i) (.int (t:Int))=some (.int (i*2 ^ t)):=fun i hi=>by
  have hb:i.natAbs<2 ^ 100001:=Nat.lt_of_le_of_lt hi (Nat.pow_lt_pow_right (by decide) (by decide))
  have:=MA.mH hb
  have q:=j8 (i:=i) (j:=(t:Int)) (by omega) (by omega)
  simpa using q
 have r2:=MA.Q4.rtn_two t x
 unfold tup5 DW
 by_cases o:(k-c) % 2=1
 ·have e:(k-c).toNat=2*t+1:=by omega
  have m:(2*(t:Int)+1) % 2=1:=by omega
  rw [e,MA.Q4.rtn_succ,r2]
  simp [cD,runB,gm,aw,ht,o,s _ l1,s _ l2,s _ l3,s _ l4,vh,MA.Q4.rt,MA.Q4.dbl]
 ·have e:(k-c).toNat=2*t:=by omega
  rw [e,r2]
  simp [cD,runB,gm,aw,ht,o,s _ l1,s _ l2,s _ l3,s _ l4,MA.Q4.dbl]
theorem Bs (x:MA.Q4) (c:Int) (y:MA.Q4) (d:Int) (hx:MA.Q4.Le (2 ^ 100000) x) (hy:MA.Q4.Le (2 ^ 100000) y) (hc:0<=c) (hd:0<=d) (hc1:c<=100000) (hd1:d<=100000):gY [tup5 x c,tup5 y d]=some (tup5 (MA.gM x c y d).1 (MA.gM x c y d).2):=by
 have hm:=KP c d
 have k1:c<=max c d:=Int.le_max_left ..
 have k2:d<=max c d:=Int.le_max_right ..
 have k3:max c d=c\/max c d=d:=by omega
 have o1:=vo x c (max c d) hx k1 (by omega)
 have o2:=vo y d (max c d) hy k2 (by omega)
 unfold MA.gM
 have nm:=E8 (MA.Q4.add (MA.Q4.rtn (max c d-c).toNat x) (MA.Q4.rtn (max c d-d).toNat y)) (max c d) (by omega)
 generalize max c d=m at *
 generalize MA.Q4.rtn (m-c).toNat x=u at *
 generalize MA.Q4.rtn (m-d).toNat y=v at *
 generalize MA.num (MA.Q4.add u v) m=r at *
 simp only [MA.Q4.add] at nm
 generalize tup5 r.1 r.2=R at *
 simp only [tup5,DW] at o1 o2 ⊢
 simp [-ki,gY,runB,uR,aw,hm,o1,o2,nm]
theorem xi (x:MA.Q4) (c:Int) (hc:0<=c):d7 [tup5 x c]=some (tup5 (MA.num x (c+1)).1 (MA.num x (c+1)).2):=by
 have nm:=E8 x (c+1) (by omega)
 generalize tup5 (MA.num x (c+1)).1 (MA.num x (c+1)).2=R at *
 simp only [tup5]
 simp [d7,runB,oj,aw,nm]
theorem m8 {e r:Int} (i a:Int) (h:e % 8=r) (k:(i-r) % 8=a):(i-e) % 8=a:=by omega
theorem wg (x:MA.Q4) (c e:Int):dh [tup5 x c,.int e]=some (tup5 (MA.bL (e % 8).toNat x) c):=by
 have w:e % 8=0\/e % 8=1\/e % 8=2\/e % 8=3\/e % 8=4\/e % 8=5\/e % 8=6\/e % 8=7:=by omega
 have go:∀ (r a0 a1 a2 a3:Int),e % 8=r->(0-e) % 8=a0->(1-e) % 8=a1->(2-e) % 8=a2->(3-e) % 8=a3->∀ b0 b1 b2 b3:Int,hU [PyData.int x.a,.int x.b,.int x.c,.int x.d,.int (-x.a),.int (-x.b),.int (-x.c),.int (-x.d)] a0=some (.int b0)->hU [PyData.int x.a,.int x.b,.int x.c,.int x.d,.int (-x.a),.int (-x.b),.int (-x.c),.int (-x.d)] a1=some (.int b1) ->
   hU [PyData.int x.a,.int x.b,.int x.c,.int x.d,.int (-x.a),.int (-x.b),.int (-x.c),.int (-x.d)] a2=some (.int b2)->hU [PyData.int x.a,.int x.b,.int x.c,.int x.d,.int (-x.a),.int (-x.b),.int (-x.c),.int (-x.d)] a3=some (.int b3)->dh [tup5 x c,.int e]=some (.tuple [.int b0,.int b1,.int b2,.int b3,.int c]):=by
  intro r a0 a1 a2 a3 _ h0 h1 h2 h3 b0 b1 b2 b3 k0 k1 k2 k3
  have h0:-e % 8=a0:=by omega
  simp only [tup5]
  simp [dh,runB,oi,aw,h0,h1,h2,h3,k0,k1,k2,k3]
 rcases w with w | w | w | w | w | w | w | w <;> rw [w]
 ·exact go 0 0 1 2 3 w (m8 0 0 w rfl) (m8 1 1 w rfl) (m8 2 2 w rfl) (m8 3 3 w rfl) _ _ _ _ rfl rfl rfl rfl
 ·exact go 1 7 0 1 2 w (m8 0 7 w rfl) (m8 1 0 w rfl) (m8 2 1 w rfl) (m8 3 2 w rfl) _ _ _ _ rfl rfl rfl rfl
 ·exact go 2 6 7 0 1 w (m8 0 6 w rfl) (m8 1 7 w rfl) (m8 2 0 w rfl) (m8 3 1 w rfl) _ _ _ _ rfl rfl rfl rfl
 ·exact go 3 5 6 7 0 w (m8 0 5 w rfl) (m8 1 6 w rfl) (m8 2 7 w rfl) (m8 3 0 w rfl) _ _ _ _ rfl rfl rfl rfl
 ·exact go 4 4 5 6 7 w (m8 0 4 w rfl) (m8 1 5 w rfl) (m8 2 6 w rfl) (m8 3 7 w rfl) _ _ _ _ rfl rfl rfl rfl
 ·have e0:tup5 (MA.bL (5:Int).toNat x) c=.tuple [.int x.d,.int (-x.a),.int (-x.b),.int (-x.c),.int c]:=by simp [tup5,MA.bL,MA.Q4.tn]
  rw [e0]
  exact go 5 3 4 5 6 w (m8 0 3 w rfl) (m8 1 4 w rfl) (m8 2 5 w rfl) (m8 3 6 w rfl) _ _ _ _ (by simp) (by simp) (by simp) (by simp)
 ·have e0:tup5 (MA.bL (6:Int).toNat x) c=.tuple [.int x.c,.int x.d,.int (-x.a),.int (-x.b),.int c]:=by simp [tup5,MA.bL,MA.Q4.tn]
  rw [e0]
  exact go 6 2 3 4 5 w (m8 0 2 w rfl) (m8 1 3 w rfl) (m8 2 4 w rfl) (m8 3 5 w rfl) _ _ _ _ (by simp) (by simp) (by simp) (by simp)
 ·have e0:tup5 (MA.bL (7:Int).toNat x) c=.tuple [.int x.b,.int x.c,.int x.d,.int (-x.a),.int c]:=by simp [tup5,MA.bL,MA.Q4.tn]
  rw [e0]
  exact go 7 1 2 3 4 w (m8 0 1 w rfl) (m8 1 2 w rfl) (m8 2 3 w rfl) (m8 3 4 w rfl) _ _ _ _ (by simp) (by simp) (by simp) (by simp)
theorem uT (x:MA.Q4) (c:Int):eI [tup5 x c]=some (tup5 (MA.Q4.neg x) c):=by
 simp only [tup5]
 simp [eI,runB,lg,aw,MA.Q4.neg]
noncomputable def vr (a:Str):Bool:=xC (.str a)
theorem dW {a b:Str} (ha:vr a=true) (hb:vr b=true):aX (.str a) (.str b)=some (.bool (a==b)):=if_pos ⟨ha,hb⟩
theorem MH {a b:Str} (ha:vr a=true) (hb:vr b=true):neD (.str a) (.str b)=some (.bool (!(a==b))):=if_pos ⟨ha,hb⟩
theorem bC:vr "swing" = true:=by decide +kernel
theorem bS:vr "turn" = true:=by decide +kernel
theorem bV:vr "flip" = true:=by decide +kernel
theorem ci:vr "tie" = true:=by decide +kernel
theorem bT:vr "sign" = true:=by decide +kernel
theorem bD:vr "cross" = true:=by decide +kernel
theorem bU:vr "look" = true:=by decide +kernel
theorem bB:vr "where" = true:=by decide +kernel
@[simp] theorem zD:aX (.str "swing") (.str "swing")=some (.bool true):=(dW bC bC).trans (congrArg (fun z=>some (PyData.bool z)) (show (("swing":Str)==("swing":Str))=true by decide +kernel))
@[simp] theorem AE:aX (.str "swing") (.str "turn")=some (.bool false):=(dW bC bS).trans (congrArg (fun z=>some (PyData.bool z)) (show (("swing":Str)==("turn":Str))=false by decide +kernel))
@[simp] theorem AH:aX (.str "swing") (.str "flip")=some (.bool false):=(dW bC bV).trans (congrArg (fun z=>some (PyData.bool z)) (show (("swing":Str)==("flip":Str))=false by decide +kernel))
@[simp] theorem Ci:aX (.str "swing") (.str "tie")=some (.bool false):=(dW bC ci).trans (congrArg (fun z=>some (PyData.bool z)) (show (("swing":Str)==("tie":Str))=false by decide +kernel))
@[simp] theorem AF:aX (.str "swing") (.str "sign")=some (.bool false):=(dW bC bT).trans (congrArg (fun z=>some (PyData.bool z)) (show (("swing":Str)==("sign":Str))=false by decide +kernel))
@[simp] theorem zE:aX (.str "swing") (.str "cross")=some (.bool false):=(dW bC bD).trans (congrArg (fun z=>some (PyData.bool z)) (show (("swing":Str)==("cross":Str))=false by decide +kernel))
@[simp] theorem AG:aX (.str "swing") (.str "look")=some (.bool false):=(dW bC bU).trans (congrArg (fun z=>some (PyData.bool z)) (show (("swing":Str)==("look":Str))=false by decide +kernel))
@[simp] theorem zC:aX (.str "swing") (.str "where")=some (.bool false):=(dW bC bB).trans (congrArg (fun z=>some (PyData.bool z)) (show (("swing":Str)==("where":Str))=false by decide +kernel))
@[simp] theorem AC:aX (.str "turn") (.str "swing")=some (.bool false):=(dW bS bC).trans (congrArg (fun z=>some (PyData.bool z)) (show (("turn":Str)==("swing":Str))=false by decide +kernel))
@[simp] theorem Cb:aX (.str "turn") (.str "turn")=some (.bool true):=(dW bS bS).trans (congrArg (fun z=>some (PyData.bool z)) (show (("turn":Str)==("turn":Str))=true by decide +kernel))
@[simp] theorem Ce:aX (.str "turn") (.str "flip")=some (.bool false):=(dW bS bV).trans (congrArg (fun z=>some (PyData.bool z)) (show (("turn":Str)==("flip":Str))=false by decide +kernel))
@[simp] theorem Dy:aX (.str "turn") (.str "tie")=some (.bool false):=(dW bS ci).trans (congrArg (fun z=>some (PyData.bool z)) (show (("turn":Str)==("tie":Str))=false by decide +kernel))
@[simp] theorem Cc:aX (.str "turn") (.str "sign")=some (.bool false):=(dW bS bT).trans (congrArg (fun z=>some (PyData.bool z)) (show (("turn":Str)==("sign":Str))=false by decide +kernel))
@[simp] theorem AD:aX (.str "turn") (.str "cross")=some (.bool false):=(dW bS bD).trans (congrArg (fun z=>some (PyData.bool z)) (show (("turn":Str)==("cross":Str))=false by decide +kernel))
@[simp] theorem Cd:aX (.str "turn") (.str "look")=some (.bool false):=(dW bS bU).trans (congrArg (fun z=>some (PyData.bool z)) (show (("turn":Str)==("look":Str))=false by decide +kernel))
@[simp] theorem AB:aX (.str "turn") (.str "where")=some (.bool false):=(dW bS bB).trans (congrArg (fun z=>some (PyData.bool z)) (show (("turn":Str)==("where":Str))=false by decide +kernel))
@[simp] theorem AQ:aX (.str "flip") (.str "swing")=some (.bool false):=(dW bV bC).trans (congrArg (fun z=>some (PyData.bool z)) (show (("flip":Str)==("swing":Str))=false by decide +kernel))
@[simp] theorem Cs:aX (.str "flip") (.str "turn")=some (.bool false):=(dW bV bS).trans (congrArg (fun z=>some (PyData.bool z)) (show (("flip":Str)==("turn":Str))=false by decide +kernel))
@[simp] theorem Cv:aX (.str "flip") (.str "flip")=some (.bool true):=(dW bV bV).trans (congrArg (fun z=>some (PyData.bool z)) (show (("flip":Str)==("flip":Str))=true by decide +kernel))
@[simp] theorem DG:aX (.str "flip") (.str "tie")=some (.bool false):=(dW bV ci).trans (congrArg (fun z=>some (PyData.bool z)) (show (("flip":Str)==("tie":Str))=false by decide +kernel))
@[simp] theorem Ct:aX (.str "flip") (.str "sign")=some (.bool false):=(dW bV bT).trans (congrArg (fun z=>some (PyData.bool z)) (show (("flip":Str)==("sign":Str))=false by decide +kernel))
@[simp] theorem AR:aX (.str "flip") (.str "cross")=some (.bool false):=(dW bV bD).trans (congrArg (fun z=>some (PyData.bool z)) (show (("flip":Str)==("cross":Str))=false by decide +kernel))
@[simp] theorem Cu:aX (.str "flip") (.str "look")=some (.bool false):=(dW bV bU).trans (congrArg (fun z=>some (PyData.bool z)) (show (("flip":Str)==("look":Str))=false by decide +kernel))
@[simp] theorem AO:aX (.str "flip") (.str "where")=some (.bool false):=(dW bV bB).trans (congrArg (fun z=>some (PyData.bool z)) (show (("flip":Str)==("where":Str))=false by decide +kernel))
@[simp] theorem Cg:aX (.str "tie") (.str "swing")=some (.bool false):=(dW ci bC).trans (congrArg (fun z=>some (PyData.bool z)) (show (("tie":Str)==("swing":Str))=false by decide +kernel))
@[simp] theorem Dz:aX (.str "tie") (.str "turn")=some (.bool false):=(dW ci bS).trans (congrArg (fun z=>some (PyData.bool z)) (show (("tie":Str)==("turn":Str))=false by decide +kernel))
@[simp] theorem DC:aX (.str "tie") (.str "flip")=some (.bool false):=(dW ci bV).trans (congrArg (fun z=>some (PyData.bool z)) (show (("tie":Str)==("flip":Str))=false by decide +kernel))
@[simp] theorem FL:aX (.str "tie") (.str "tie")=some (.bool true):=(dW ci ci).trans (congrArg (fun z=>some (PyData.bool z)) (show (("tie":Str)==("tie":Str))=true by decide +kernel))
@[simp] theorem DA:aX (.str "tie") (.str "sign")=some (.bool false):=(dW ci bT).trans (congrArg (fun z=>some (PyData.bool z)) (show (("tie":Str)==("sign":Str))=false by decide +kernel))
@[simp] theorem Ch:aX (.str "tie") (.str "cross")=some (.bool false):=(dW ci bD).trans (congrArg (fun z=>some (PyData.bool z)) (show (("tie":Str)==("cross":Str))=false by decide +kernel))
@[simp] theorem DB:aX (.str "tie") (.str "look")=some (.bool false):=(dW ci bU).trans (congrArg (fun z=>some (PyData.bool z)) (show (("tie":Str)==("look":Str))=false by decide +kernel))
@[simp] theorem Cf:aX (.str "tie") (.str "where")=some (.bool false):=(dW ci bB).trans (congrArg (fun z=>some (PyData.bool z)) (show (("tie":Str)==("where":Str))=false by decide +kernel))
@[simp] theorem AJ:aX (.str "sign") (.str "swing")=some (.bool false):=(dW bT bC).trans (congrArg (fun z=>some (PyData.bool z)) (show (("sign":Str)==("swing":Str))=false by decide +kernel))
@[simp] theorem Cj:aX (.str "sign") (.str "turn")=some (.bool false):=(dW bT bS).trans (congrArg (fun z=>some (PyData.bool z)) (show (("sign":Str)==("turn":Str))=false by decide +kernel))
@[simp] theorem Cn:aX (.str "sign") (.str "flip")=some (.bool false):=(dW bT bV).trans (congrArg (fun z=>some (PyData.bool z)) (show (("sign":Str)==("flip":Str))=false by decide +kernel))
@[simp] theorem DD:aX (.str "sign") (.str "tie")=some (.bool false):=(dW bT ci).trans (congrArg (fun z=>some (PyData.bool z)) (show (("sign":Str)==("tie":Str))=false by decide +kernel))
@[simp] theorem Ck:aX (.str "sign") (.str "sign")=some (.bool true):=(dW bT bT).trans (congrArg (fun z=>some (PyData.bool z)) (show (("sign":Str)==("sign":Str))=true by decide +kernel))
@[simp] theorem AK:aX (.str "sign") (.str "cross")=some (.bool false):=(dW bT bD).trans (congrArg (fun z=>some (PyData.bool z)) (show (("sign":Str)==("cross":Str))=false by decide +kernel))
@[simp] theorem Cl:aX (.str "sign") (.str "look")=some (.bool false):=(dW bT bU).trans (congrArg (fun z=>some (PyData.bool z)) (show (("sign":Str)==("look":Str))=false by decide +kernel))
@[simp] theorem AI:aX (.str "sign") (.str "where")=some (.bool false):=(dW bT bB).trans (congrArg (fun z=>some (PyData.bool z)) (show (("sign":Str)==("where":Str))=false by decide +kernel))
@[simp] theorem zG:aX (.str "cross") (.str "swing")=some (.bool false):=(dW bD bC).trans (congrArg (fun z=>some (PyData.bool z)) (show (("cross":Str)==("swing":Str))=false by decide +kernel))
@[simp] theorem AS:aX (.str "cross") (.str "turn")=some (.bool false):=(dW bD bS).trans (congrArg (fun z=>some (PyData.bool z)) (show (("cross":Str)==("turn":Str))=false by decide +kernel))
@[simp] theorem AW:aX (.str "cross") (.str "flip")=some (.bool false):=(dW bD bV).trans (congrArg (fun z=>some (PyData.bool z)) (show (("cross":Str)==("flip":Str))=false by decide +kernel))
@[simp] theorem Cw:aX (.str "cross") (.str "tie")=some (.bool false):=(dW bD ci).trans (congrArg (fun z=>some (PyData.bool z)) (show (("cross":Str)==("tie":Str))=false by decide +kernel))
@[simp] theorem AT:aX (.str "cross") (.str "sign")=some (.bool false):=(dW bD bT).trans (congrArg (fun z=>some (PyData.bool z)) (show (("cross":Str)==("sign":Str))=false by decide +kernel))
@[simp] theorem zH:aX (.str "cross") (.str "cross")=some (.bool true):=(dW bD bD).trans (congrArg (fun z=>some (PyData.bool z)) (show (("cross":Str)==("cross":Str))=true by decide +kernel))
@[simp] theorem AU:aX (.str "cross") (.str "look")=some (.bool false):=(dW bD bU).trans (congrArg (fun z=>some (PyData.bool z)) (show (("cross":Str)==("look":Str))=false by decide +kernel))
@[simp] theorem zF:aX (.str "cross") (.str "where")=some (.bool false):=(dW bD bB).trans (congrArg (fun z=>some (PyData.bool z)) (show (("cross":Str)==("where":Str))=false by decide +kernel))
@[simp] theorem AM:aX (.str "look") (.str "swing")=some (.bool false):=(dW bU bC).trans (congrArg (fun z=>some (PyData.bool z)) (show (("look":Str)==("swing":Str))=false by decide +kernel))
@[simp] theorem Co:aX (.str "look") (.str "turn")=some (.bool false):=(dW bU bS).trans (congrArg (fun z=>some (PyData.bool z)) (show (("look":Str)==("turn":Str))=false by decide +kernel))
@[simp] theorem Cr:aX (.str "look") (.str "flip")=some (.bool false):=(dW bU bV).trans (congrArg (fun z=>some (PyData.bool z)) (show (("look":Str)==("flip":Str))=false by decide +kernel))
@[simp] theorem DF:aX (.str "look") (.str "tie")=some (.bool false):=(dW bU ci).trans (congrArg (fun z=>some (PyData.bool z)) (show (("look":Str)==("tie":Str))=false by decide +kernel))
@[simp] theorem Cp:aX (.str "look") (.str "sign")=some (.bool false):=(dW bU bT).trans (congrArg (fun z=>some (PyData.bool z)) (show (("look":Str)==("sign":Str))=false by decide +kernel))
@[simp] theorem AN:aX (.str "look") (.str "cross")=some (.bool false):=(dW bU bD).trans (congrArg (fun z=>some (PyData.bool z)) (show (("look":Str)==("cross":Str))=false by decide +kernel))
@[simp] theorem Cq:aX (.str "look") (.str "look")=some (.bool true):=(dW bU bU).trans (congrArg (fun z=>some (PyData.bool z)) (show (("look":Str)==("look":Str))=true by decide +kernel))
@[simp] theorem AL:aX (.str "look") (.str "where")=some (.bool false):=(dW bU bB).trans (congrArg (fun z=>some (PyData.bool z)) (show (("look":Str)==("where":Str))=false by decide +kernel))
@[simp] theorem zA:aX (.str "where") (.str "swing")=some (.bool false):=(dW bB bC).trans (congrArg (fun z=>some (PyData.bool z)) (show (("where":Str)==("swing":Str))=false by decide +kernel))
@[simp] theorem Ax:aX (.str "where") (.str "turn")=some (.bool false):=(dW bB bS).trans (congrArg (fun z=>some (PyData.bool z)) (show (("where":Str)==("turn":Str))=false by decide +kernel))
@[simp] theorem AA:aX (.str "where") (.str "flip")=some (.bool false):=(dW bB bV).trans (congrArg (fun z=>some (PyData.bool z)) (show (("where":Str)==("flip":Str))=false by decide +kernel))
@[simp] theorem Ca:aX (.str "where") (.str "tie")=some (.bool false):=(dW bB ci).trans (congrArg (fun z=>some (PyData.bool z)) (show (("where":Str)==("tie":Str))=false by decide +kernel))
@[simp] theorem Ay:aX (.str "where") (.str "sign")=some (.bool false):=(dW bB bT).trans (congrArg (fun z=>some (PyData.bool z)) (show (("where":Str)==("sign":Str))=false by decide +kernel))
@[simp] theorem zB:aX (.str "where") (.str "cross")=some (.bool false):=(dW bB bD).trans (congrArg (fun z=>some (PyData.bool z)) (show (("where":Str)==("cross":Str))=false by decide +kernel))
@[simp] theorem Az:aX (.str "where") (.str "look")=some (.bool false):=(dW bB bU).trans (congrArg (fun z=>some (PyData.bool z)) (show (("where":Str)==("look":Str))=false by decide +kernel))
@[simp] theorem zz:aX (.str "where") (.str "where")=some (.bool true):=(dW bB bB).trans (congrArg (fun z=>some (PyData.bool z)) (show (("where":Str)==("where":Str))=true by decide +kernel))
@[simp] theorem GL:i6 false (.str "swing") (.tuple [.str "swing",.str "turn",.str "flip",.str "tie",.str "sign",.str "cross"])=some (.bool true):=by rfl
@[simp] theorem GH:i6 false (.str "swing") (.tuple [.str "tie",.str "sign",.str "cross"])=some (.bool false):=by rfl
@[simp] theorem IJ:i6 false (.str "turn") (.tuple [.str "swing",.str "turn",.str "flip",.str "tie",.str "sign",.str "cross"])=some (.bool true):=by rfl
@[simp] theorem ID:i6 false (.str "turn") (.tuple [.str "tie",.str "sign",.str "cross"])=some (.bool false):=by rfl
@[simp] theorem IM:i6 false (.str "flip") (.tuple [.str "swing",.str "turn",.str "flip",.str "tie",.str "sign",.str "cross"])=some (.bool true):=by rfl
@[simp] theorem IG:i6 false (.str "flip") (.tuple [.str "tie",.str "sign",.str "cross"])=some (.bool false):=by rfl
@[simp] theorem JM:i6 false (.str "tie") (.tuple [.str "swing",.str "turn",.str "flip",.str "tie",.str "sign",.str "cross"])=some (.bool true):=by rfl
@[simp] theorem JL:i6 false (.str "tie") (.tuple [.str "tie",.str "sign",.str "cross"])=some (.bool true):=by rfl
@[simp] theorem IK:i6 false (.str "sign") (.tuple [.str "swing",.str "turn",.str "flip",.str "tie",.str "sign",.str "cross"])=some (.bool true):=by rfl
@[simp] theorem IE:i6 false (.str "sign") (.tuple [.str "tie",.str "sign",.str "cross"])=some (.bool true):=by rfl
@[simp] theorem GM:i6 false (.str "cross") (.tuple [.str "swing",.str "turn",.str "flip",.str "tie",.str "sign",.str "cross"])=some (.bool true):=by rfl
@[simp] theorem GI:i6 false (.str "cross") (.tuple [.str "tie",.str "sign",.str "cross"])=some (.bool true):=by rfl
@[simp] theorem IL:i6 false (.str "look") (.tuple [.str "swing",.str "turn",.str "flip",.str "tie",.str "sign",.str "cross"])=some (.bool false):=by rfl
@[simp] theorem IF:i6 false (.str "look") (.tuple [.str "tie",.str "sign",.str "cross"])=some (.bool false):=by rfl
@[simp] theorem GK:i6 false (.str "where") (.tuple [.str "swing",.str "turn",.str "flip",.str "tie",.str "sign",.str "cross"])=some (.bool false):=by rfl
@[simp] theorem GG:i6 false (.str "where") (.tuple [.str "tie",.str "sign",.str "cross"])=some (.bool false):=by rfl
@[simp] theorem JP (u w:Sf) (δ:Dv) (a b:Int):IU u w δ (a==b)=if a=b then u δ else w δ:=by
 by_cases h:a=b
 ·subst h; simp
 ·have:(a==b)=false:=by simpa using h
  rw [this,if_neg h]; rfl
theorem sF {α:Type} {f:D->Option D} {h k:α -> D}:∀ (xs:List α),(∀ x∈xs,f (h x)=some (k x))->wS f (xs.map h)=some (xs.map k)
 | [],_=>rfl
 | x::xs,H=>by
  show ((f (h x)).bind fun y=>_)=_
  rw [H x List.mem_cons_self]
  show ((wS f (xs.map h)).bind fun ys=>_)=_
  rw [sF xs fun y hy=>H y (List.mem_cons_of_mem _ hy)]
  rfl
theorem sN {α:Type} {t:D->Option Bool} {f:D->Option D} {h k:α -> D} {b:α -> Bool}:∀ (xs:List α),(∀ x∈xs,t (h x)=some (b x))->(∀ x∈xs,b x=true->f (h x)=some (k x))->iE t f (xs.map h)=some ((xs.filter b).map k)
 | [],_,_=>rfl
 | x::xs,H,G=>by
  have ih:=sN (k:=k) xs (fun y hy=>H y (List.mem_cons_of_mem _ hy)) (fun y hy=>G y (List.mem_cons_of_mem _ hy))
  show ((t (h x)).bind fun c=>_)=_
  rw [H x List.mem_cons_self,Option.bind_some]
  cases e:b x with
  | false=>simp [e,ih]
  | true=>simp [e,ih,G x List.mem_cons_self e]
theorem d8 {α:Type} {fi:Dv->Option (List D)} {caps:List (Nat×Str)} {fe:Dv->Option D} {δ:Dv} {h k:α -> D} {xs:List α} (e:fi δ = some (xs.map h)) (hl:xs.length<=16777216) (H:∀ x∈xs,fe (.fz (h x)::eL δ caps)=some (k x)):df fi caps kT fe δ = some (.list (xs.map k)):=by
 unfold df
 rw [e,Option.bind_some,if_pos (by rw [List.length_map]; exact hl),sF xs (k:=k) fun x hx=>by
  show fe _=_
  exact H x hx]
 rfl
theorem jx {α:Type} {fi:Dv->Option (List D)} {caps:List (Nat×Str)} {ft:Dv->Option Bool} {fe:Dv->Option D} {δ:Dv} {h k:α -> D} {b:α -> Bool} {xs:List α} (e:fi δ = some (xs.map h)) (hl:xs.length<=16777216) (H:∀ x∈xs,ft (.fz (h x)::eL δ caps)=some (b x)) (G:∀ x∈xs,b x=true->fe (.fz (h x)::eL δ caps)=some (k x)):iy fi caps kT ft fe δ = some (.list ((xs.filter b).map k)):=by
 unfold iy
 rw [e,Option.bind_some,if_pos (by rw [List.length_map]; exact hl),sN xs (b:=b) (k:=k) (fun x hx=>by
  show ft _=_
  exact H x hx) (fun x hx hb=>by
  show fe _=_
  exact G x hx hb)]
 rfl
@[simp] theorem JO (u w:Sf) (δ:Dv) (a b:Int):IU u w δ (!(a==b))=if a=b then w δ else u δ:=by
 by_cases h:a=b
 ·subst h; simp
 ·have:(a==b)=false:=by simpa using h
  rw [this,if_neg h]; rfl
@[simp] theorem KU (a b c d e f:D):dD [a,b,c,d,e,f]=some (.list [a,b,c,d,e,f]):=jv (by simp)
open MA (Nu Row wt aG flp from_ bK)
noncomputable def bF (u:Nu):D:=tup5 u.1 u.2
noncomputable def cK (n:Nat) (f:Nat->Nu):D:=.tuple ((List.range (2 ^ n)).map fun p=>bF (f p))
noncomputable def rowD:Row->D
 | .swing j=>.tuple [.str "swing",.int j]
 | .turn j e=>.tuple [.str "turn",.int j,.int e]
 | .flip j=>.tuple [.str "flip",.int j]
 | .tie i j=>.tuple [.str "tie",.int i,.int j]
 | .sign i j=>.tuple [.str "sign",.int i,.int j]
 | .cross i j=>.tuple [.str "cross",.int i,.int j]
theorem gJ {n:Nat} {f:Nat->Nu} {i:Int} (p:Nat) (hi:i=p) (hp:p<2 ^ n):av (cK n f) (.int i)=some (bF (f p)):=by
 show hU _ _=_
 exact dM (j:=p) hi (by simp [hp])
theorem iA (n:Nat) (f:Nat->Nu):bf [cK n f]=some (.int ((2 ^ n:Nat):Int)):=by
 show some (PyData.int (((List.range (2 ^ n)).map fun p=>bF (f p)).length:Nat))=_
 rw [List.length_map,List.length_range]
theorem ig {b:Sf} {k:Nat} (I:Nat->Dv->Prop) (n:Nat) (h:∀ i,i<n->∀ δ,I i δ -> ∃ δ2,b (δ.set k (.fz (.int i)))=some (.nx,δ2)/\I (i+1) δ2):∀ δ,I 0 δ -> ∃ δ',loop (gN k) b (iW 0 n) δ = some (.nx,δ')/\I n δ':=by
 have go:∀ (m i:Nat),i+m=n->∀ δ,I i δ -> ∃ δ',loop (gN k) b ((List.range' i m).map fun (k:Nat)=>PyData.int (0+(k:Int))) δ = some (.nx,δ')/\I n δ':=by
  intro m
  induction m with
  | zero=>intro i e δ h; exact ⟨δ,rfl,by rw [<- e]; exact h⟩
  | succ m ih=>
   intro i e δ hi
   obtain ⟨δ2,e2,h2⟩:=h i (by omega) δ hi
   obtain ⟨δ',e3,h3⟩:=ih (i+1) (by omega) δ2 h2
   refine ⟨δ',?_,h3⟩
   rw [<- e3,List.range'_succ,List.map_cons]
   exact cv (δ1:=δ.set k (.fz (.int i))) (by simp) e2
 intro δ h0
 have:=go n 0 (by omega) δ h0
 rw [<- List.range_eq_range'] at this
 exact this
theorem yZ (x:MA.Q4) (k:Nat):∃ c:Nat,(MA.num x k).2=c/\c<=k:=by
 obtain ⟨c,e,h,_⟩:=MA.E7 x k
 exact ⟨c,e,h⟩
theorem yE (u v:Nu):(MA.d5 u v).2<=max u.2 v.2:=by
 obtain ⟨c,e2,h⟩:=yZ (MA.Q4.add (MA.Q4.rtn (max (u.2:Int) v.2-u.2).toNat u.1) (MA.Q4.rtn (max (u.2:Int) v.2-v.2).toNat v.1)) (max u.2 v.2)
 have e3:((max u.2 v.2:Nat):Int)=max (u.2:Int) v.2:=by omega
 rw [e3] at e2
 show (MA.gM u.1 u.2 v.1 v.2).2.toNat<=_
 unfold MA.gM
 rw [e2]; exact h
theorem en (n:Nat) (hn:n<=6):bi [.int ((2 ^ n:Nat):Int)]=some ((List.range (2 ^ n)).map fun k:Nat=>PyData.int (0+(k:Int))):=by
 have sq:(2 ^ n:Nat)<=64:=(Nat.pow_le_pow_right (by decide) hn:2 ^ n<=2 ^ 6)
 generalize (2 ^ n:Nat)=N at sq ⊢
 exact jr (j:=(N:Int)) (by omega) (by omega)
theorem vP {fi:Dv->Option (List D)} {caps:List (Nat×Str)} {fe:Dv->Option D} {δ:Dv} {N:Nat} {y:Nat->D} (e:fi δ = some ((List.range N).map fun k:Nat=>PyData.int (0+(k:Int)))) (hl:N<=16777216) (H:∀ p:Nat,p<N->fe (.fz (.int p)::eL δ caps)=some (y p)):df fi caps kT fe δ = some (.list ((List.range N).map y)):=by
 refine d8 e (by rw [List.length_range]; exact hl) fun p hp=>?_
 rw [Int.zero_add]
 exact H p (List.mem_range.mp hp)
noncomputable def Bd (k p:Nat) (f:Nat->Nu):Prop:=∀ x,(f x).2<=k/\MA.Q4.Le (2 ^ p) (f x).1
theorem CG (u:Nu):(MA.fS u).2<=u.2+1:=by
 obtain ⟨c,e,h⟩:=yZ u.1 (u.2+1)
 show (MA.num u.1 ((u.2+1:Nat):Int)).2.toNat<=_
 rw [e]; exact h
theorem CH {u:Nu} {M:Nat} (h:MA.Q4.Le M u.1):MA.Q4.Le M (MA.fS u).1:=MA.yY _ _ (by omega) _ h
theorem Bd.done {k p:Nat} {f:Nat->Nu} (h:Bd k p f) (n:Nat) (r:Row):Bd (k+1) (p+k+1) (bK n f r):=fun x=>by
 have mono:∀ y,(f y).2<=k+1/\MA.Q4.Le (2 ^ (p+k+1)) (f y).1:=fun y=>⟨by have:=(h y).1; omega,(h y).2.mono (Nat.pow_le_pow_right (by decide) (by omega))⟩
 have pl:∀ (u v:Nu),u.2<=k->v.2<=k->MA.Q4.Le (2 ^ p) u.1->MA.Q4.Le (2 ^ p) v.1->(MA.fS (MA.d5 u v)).2<=k+1/\MA.Q4.Le (2 ^ (p+k+1)) (MA.fS (MA.d5 u v)).1:=fun u v h1 h2 h3 h4=>by
  refine ⟨?_,CH ?_⟩
  ·have:=CG (MA.d5 u v)
   have:=yE u v
   omega
  ·exact MA.yD h3 h4 h1 h2
 cases r with
 | swing j=>
  show (if aG (wt n j) x=0 then _ else _:Nu).2<=_/\MA.Q4.Le _ (if aG (wt n j) x=0 then _ else _:Nu).1
  split
  ·exact pl _ _ (h _).1 (h _).1 (h _).2 (h _).2
  ·exact pl _ _ (h _).1 (h _).1 (h _).2 (MA.mP _ (h _).2)
 | turn j e=>exact ⟨(mono x).1,MA.mP _ (mono x).2⟩
 | sign i j=>exact ⟨(mono x).1,MA.mP _ (mono x).2⟩
 | flip j=>exact mono _
 | tie i j=>exact mono _
 | cross i j=>exact mono _
theorem Bd.mono {k p k' p':Nat} {f:Nat->Nu} (h:Bd k p f) (h1:k<=k') (h2:p<=p'):Bd k' p' f:=fun x=>⟨Nat.le_trans (h x).1 h1,(h x).2.mono (Nat.pow_le_pow_right (by decide) h2)⟩
theorem J7:((List.range 6).all fun k=>(List.range 64).all fun p=>(p &&& 2 ^ k==2 ^ k*aG (2 ^ k) p)&&(p ^^^ 2 ^ k==flp (2 ^ k) p))=true:=by decide +kernel
theorem J6:((List.range 6).all fun k=>(List.range 6).all fun l=>(List.range 64).all fun p=>(k==l)||((2 ^ k ||| 2 ^ l==2 ^ k+2 ^ l)&&(p &&& (2 ^ k+2 ^ l)==2 ^ k*aG (2 ^ k) p+2 ^ l*aG (2 ^ l) p)&&(p ^^^ (2 ^ k+2 ^ l)==flp (2 ^ l) (flp (2 ^ k) p))))=true:=by decide +kernel
section
variable {n:Nat} (hn:n<=6)
include hn
theorem pc:2 ^ n<=64:=(Nat.pow_le_pow_right (by decide) hn:2 ^ n<=2 ^ 6)
theorem j0 {j p:Nat} (hj:j<n) (hp:p<2 ^ n):p &&& wt n j=wt n j*aG (wt n j) p/\p ^^^ wt n j=flp (wt n j) p:=by
 have h:=J7
 rw [List.all_eq_true] at h
 have h:=h (n-1-j) (List.mem_range.mpr (by omega))
 rw [List.all_eq_true] at h
 have h:=h p (List.mem_range.mpr (Nat.lt_of_lt_of_le hp (pc hn)))
 rw [Bool.and_eq_true,beq_iff_eq,beq_iff_eq] at h
 exact h
theorem kt {i j p:Nat} (hi:i<n) (hj:j<n) (hij:i≠j) (hp:p<2 ^ n):wt n i ||| wt n j=wt n i+wt n j/\p &&& (wt n i+wt n j)=wt n i*aG (wt n i) p+wt n j*aG (wt n j) p/\p ^^^ (wt n i+wt n j)=flp (wt n j) (flp (wt n i) p):=by
 have h:=J6
 rw [List.all_eq_true] at h
 have h:=h (n-1-i) (List.mem_range.mpr (by omega))
 rw [List.all_eq_true] at h
 have h:=h (n-1-j) (List.mem_range.mpr (by omega))
 rw [List.all_eq_true] at h
 have h:=h p (List.mem_range.mpr (Nat.lt_of_lt_of_le hp (pc hn)))
 rw [Bool.or_eq_true,Bool.and_eq_true,Bool.and_eq_true,beq_iff_eq,beq_iff_eq,beq_iff_eq,beq_iff_eq] at h
 rcases h with h | h
 ·exact absurd h (by omega)
 ·exact ⟨h.1.1,h.1.2,h.2⟩
theorem eN {j:Nat} (hj:j<n):gi [.int n,.int j]=some (.int (wt n j:Nat)):=by
 have hb:Builtin.Int.intBits 1=1:=by decide +kernel
 have e:=j8 (i:=1) (j:=(n:Int)-1-(j:Int)) (by omega) (by omega)
 have e2:(1:Int)*2 ^ ((n:Int)-1-(j:Int)).toNat=((wt n j:Nat):Int):=by
  unfold MA.wt
  rw [show ((n:Int)-1-(j:Int)).toNat=n-1-j by omega]
  push_cast
  omega
 rw [e2] at e
 simp [gi,runB,rk,aw,e]
theorem xK (f:Nat->Nu):nU (.int ((2 ^ n:Nat):Int))=some (.int ((n:Int)+1)):=by
 have e:((2 ^ n:Nat):Int)=2 ^ n:=by push_cast; rfl
 have:=MA.sY n
 rw [xt,e,this]
 rfl
theorem yC (u v:Nu) (hu:MA.Q4.Le (2 ^ 100000) u.1) (hv:MA.Q4.Le (2 ^ 100000) v.1) (hc:u.2<=50000) (hd:v.2<=50000):gY [bF u,bF v]=some (bF (MA.d5 u v)):=by
 have e:=Bs u.1 u.2 v.1 v.2 hu hv (by omega) (by omega) (by omega) (by omega)
 unfold bF MA.d5
 rw [e]
 obtain ⟨c,e2,h⟩:=yZ (MA.Q4.add (MA.Q4.rtn (max (u.2:Int) v.2-u.2).toNat u.1) (MA.Q4.rtn (max (u.2:Int) v.2-v.2).toNat v.1)) (max u.2 v.2)
 have e3:((max u.2 v.2:Nat):Int)=max (u.2:Int) v.2:=by omega
 rw [e3] at e2
 show some (tup5 _ (MA.gM u.1 u.2 v.1 v.2).2)=some (tup5 _ ((MA.gM u.1 u.2 v.1 v.2).2.toNat:Int))
 unfold MA.gM
 rw [e2]; rfl
theorem sL (u:Nu):d7 [bF u]=some (bF (MA.fS u)):=by
 have e:=xi u.1 u.2 (by omega)
 obtain ⟨c,e2,h⟩:=yZ u.1 (u.2+1)
 have e3:((u.2+1:Nat):Int)=(u.2:Int)+1:=by omega
 unfold bF MA.fS
 rw [e,e3]
 rw [e3] at e2
 rw [e2]; rfl
theorem xy (u:Nu):eI [bF u]=some (bF (MA.cy 4 u)):=by
 have e:=uT u.1 u.2
 unfold bF MA.cy
 rw [e]
 have:MA.bL (4 % 8) u.1=MA.Q4.neg u.1:=by
  show MA.Q4.tn (MA.Q4.tn (MA.Q4.tn (MA.Q4.tn u.1)))=_
  unfold MA.Q4.tn MA.Q4.neg
  rfl
 rw [this]
theorem mO (u:Nu) (e:Nat):dh [bF u,.int e]=some (bF (MA.cy e u)):=by
 have h:=wg u.1 u.2 e
 unfold bF MA.cy
 rw [h,show ((e:Int) % 8).toNat=e % 8 by omega]
end
section
variable {n:Nat} (hn:n<=6) (f:Nat->Nu) (hf:∀ p,(f p).2<=40000) (hL:∀ p,MA.Q4.Le (2 ^ 100000) (f p).1)
include hn
theorem xW (X x y a b:D) (p w q:Int) (ds:List D) (hs:ds.length<sizeLine) (h1:Builtin.bitAnd p w=0) (h2:Builtin.bitXor p w=q) (a0:av X (.int p)=some x) (a1:av X (.int q)=some y) (e1:gY [x,y]=some a) (e2:d7 [a]=some b) :
  fQ [.fz X,.fz (.int w),.ow ds,.fz (.int p)]=some (.nx,[.fz X,.fz (.int w),.ow (ds++[b]),.fz (.int p)]):=by
 simp [-ak,-cu,b9,cP,fQ,h1,h2,a0,a1,e1,e2,hs]
theorem xV (X x y z a b:D) (p w q m:Int) (ds:List D) (hs:ds.length<sizeLine) (h1:Builtin.bitAnd p w=m) (hm:m≠0) (h2:Builtin.bitXor p w=q) (a0:av X (.int p)=some x) (a1:av X (.int q)=some y) (e0:eI [x]=some z) (e1:gY [y,z]=some a) (e2:d7 [a]=some b) :
  fQ [.fz X,.fz (.int w),.ow ds,.fz (.int p)]=some (.nx,[.fz X,.fz (.int w),.ow (ds++[b]),.fz (.int p)]):=by
 have hm':(m==0)=false:=by simpa using hm
 simp [-ak,-cu,b9,cP,fQ,h1,hm',h2,a0,a1,e0,e1,e2,hs]
include hf hL
theorem xY {j:Nat} (hj:j<n) (p:Nat) (hp:p<2 ^ n) (ds:List D) (hl:ds.length<1000) :
  fQ [.fz (cK n f),.fz (.int (wt n j:Nat)),.ow ds,.fz (.int p)]=some (.nx,[.fz (cK n f),.fz (.int (wt n j:Nat)),.ow (ds++[bF (bK n f (.swing j) p)]),.fz (.int p)]):=by
 have hs:ds.length<sizeLine:=by show _<16777216; omega
 have ha:=j0 hn hj hp
 have b1:=MA.tq p (wt n j)
 have b2:=MA.xr p (wt n j)
 rw [ha.1] at b1
 rw [ha.2] at b2
 have hw:=MA.aR n j
 have q:=MA.i7 hj hp
 have a0:av (cK n f) (.int (p:Int))=some (bF (f p)):=gJ p rfl hp
 have a1:av (cK n f) (.int ((flp (wt n j) p:Nat):Int))=some (bF (f (flp (wt n j) p))):=gJ _ rfl q
 by_cases h:aG (wt n j) p=0
 ·rw [h,Nat.mul_zero] at b1
  have e:bK n f (.swing j) p=MA.fS (MA.d5 (f p) (f (p+wt n j))):=if_pos h
  have ef:flp (wt n j) p=p+wt n j:=if_pos h
  rw [ef] at a1 b2
  rw [e]
  exact xW hn _ _ _ _ _ _ _ _ _ hs b1 b2 a0 a1 (yC hn _ _ (hL _) (hL _) (by have:=hf p; omega) (by have:=hf (p+wt n j); omega)) (sL hn _)
 ·have h1:aG (wt n j) p=1:=by have:=MA.bR (wt n j) p; omega
  rw [h1,Nat.mul_one] at b1
  have e:bK n f (.swing j) p=MA.fS (MA.d5 (f (p-wt n j)) (MA.cy 4 (f p))):=if_neg h
  have ef:flp (wt n j) p=p-wt n j:=if_neg h
  rw [ef] at a1 b2
  rw [e]
  exact xV hn _ _ _ _ _ _ _ _ _ _ _ hs b1 (by omega) b2 a0 a1 (xy hn _) (yC hn _ _ (hL _) (MA.mP _ (hL p)) (by have:=hf (p-wt n j); omega) (by show (f p).2<=_; have:=hf p; omega)) (sL hn _)
omit hf hL hn in
theorem A9 (X Y:D) (w S:Int) (RL L:List D) (y:Sl) (ln:bf [X]=some (.int S)) (hN:bi [.int S]=some RL) (e:loop (gN 3) fQ RL [.fz X,.fz (.int w),.ow [],.un]=some (.nx,[.fz X,.fz (.int w),.ow L,y])) (tp:dr [.list L]=some Y):gQ [X,.int w]=some Y:=by
 simp [-ak,-cu,b9,cP,gQ,runB,rm,aw,ln,hN,e,tK,tp]
theorem xX {j:Nat} (hj:j<n):gQ [cK n f,.int (wt n j:Nat)]=some (cK n (bK n f (.swing j))):=by
 have sq:=pc hn
 have hN:bi [.int ((2 ^ n:Nat):Int)]=some (iW 0 (2 ^ n)):=en n hn
 obtain ⟨δ',e,y3,rfl⟩:=ig (b:=fQ) (k:=3) (fun i δ=>∃ y3,δ = [.fz (cK n f),.fz (.int (wt n j:Nat)),.ow ((List.range i).map fun p=>bF (bK n f (.swing j) p)),y3]) (2 ^ n) (by
   rintro i hi δ ⟨y3,rfl⟩
   have e:=xY hn f hf hL hj i hi ((List.range i).map fun p=>bF (bK n f (.swing j) p)) (by simp; omega)
   refine ⟨[.fz (cK n f),.fz (.int (wt n j:Nat)),.ow ((List.range (i+1)).map fun p=>bF (bK n f (.swing j) p)),.fz (.int i)],?_,_,rfl⟩
   rw [List.range_succ,List.map_append]
   exact e) [.fz (cK n f),.fz (.int (wt n j:Nat)),.ow [],.un] ⟨_,rfl⟩
 have ln:=iA n f
 have tp:dr [.list ((List.range (2 ^ n)).map fun p=>bF (bK n f (.swing j) p))]=some (cK n (bK n f (.swing j))):=rfl
 exact A9 _ _ _ _ _ _ _ ln hN e tp
omit hf hL
omit hn in
theorem uH {fi:Dv->Option (List D)} {caps:List (Nat×Str)} {fe:Dv->Option D} {δ:Dv} {N:Nat} {y:Nat->D} (e:fi δ = some ((List.range N).map fun k:Nat=>PyData.int (0+(k:Int)))) (hl:N<=16777216) (H:∀ p:Nat,p<N->fe (.fz (.int p)::eL δ caps)=some (y p)):df fi caps kT fe δ = some (.list ((List.range N).map y)):=by
 refine d8 e (by rw [List.length_range]; exact hl) fun p hp=>?_
 rw [Int.zero_add]
 exact H p (List.mem_range.mp hp)
omit hn in
theorem J0 (X:D) (h e S:Int) (N:Nat) (x y:Nat->D) (ln:bf [X]=some (.int S)) (hN:bi [.int S]=some ((List.range N).map fun k:Nat=>PyData.int (0+(k:Int)))) (hl:N<=16777216) (a:∀ p:Nat,p<N->av X (.int p)=some (x p))
  (t:∀ p:Nat,p<N->Builtin.bitAnd p h=h->dh [x p,.int e]=some (y p)) (u:∀ p:Nat,p<N->Builtin.bitAnd p h≠h->y p=x p):bG [X,.int h,.int e]=some (.tuple ((List.range N).map y)):=by
 have c:iQ [.fz X,.fz (.int h),.fz (.int e)]=some (.list ((List.range N).map y)):=uH (by simp [ln,hN]) hl fun p hp=>by
  have a0:=a p hp
  by_cases q:Builtin.bitAnd p h=h
  ·have t:=t p hp q
   simp [eL,a0,q,t]
  ·have t:=u p hp q
   rw [t]
   simp [eL,a0,q]
 simp [bG,runB,gy,aw,c]
omit hn in
theorem Lb (X:D) (h w S:Int) (N:Nat) (x y:Nat->D) (ln:bf [X]=some (.int S)) (hN:bi [.int S]=some ((List.range N).map fun k:Nat=>PyData.int (0+(k:Int)))) (hl:N<=16777216) (a:∀ p:Nat,p<N->av X (.int p)=some (x p))
  (t:∀ p:Nat,p<N->Builtin.bitAnd p h=h->∃ q:Nat,q<N/\Builtin.bitXor p w=q/\y p=x q) (u:∀ p:Nat,p<N->Builtin.bitAnd p h≠h->y p=x p):bn [X,.int h,.int w]=some (.tuple ((List.range N).map y)):=by
 have c:ie [.fz X,.fz (.int h),.fz (.int w)]=some (.list ((List.range N).map y)):=uH (by simp [ln,hN]) hl fun p hp=>by
  have a0:=a p hp
  by_cases q:Builtin.bitAnd p h=h
  ·obtain ⟨q',hq,e1,e2⟩:=t p hp q
   have a1:=a q' hq
   rw [e2]
   simp [eL,e1,q,a1]
  ·have t:=u p hp q
   rw [t]
   simp [eL,a0,q]
 simp [bn,runB,fX,aw,c]
theorem Dh (h e:Int) (g:Nat->Nu) (H:∀ p:Nat,p<2 ^ n->(Builtin.bitAnd p h=h->dh [bF (f p),.int e]=some (bF (g p)))/\(Builtin.bitAnd p h≠h->g p=f p)):bG [cK n f,.int h,.int e]=some (cK n g):=
 J0 (cK n f) h e _ (2 ^ n) (fun p=>bF (f p)) (fun p=>bF (g p)) (iA n f) (en n hn) (Nat.le_trans (pc hn) (by decide)) (fun p hp=>gJ p rfl hp) (fun p hp q=>(H p hp).1 q) (fun p hp q=>congrArg bF ((H p hp).2 q))
theorem DL (h w:Int) (g:Nat->Nu) (H:∀ p:Nat,p<2 ^ n->(Builtin.bitAnd p h=h->∃ q:Nat,q<2 ^ n/\Builtin.bitXor p w=q/\g p=f q)/\(Builtin.bitAnd p h≠h->g p=f p)):bn [cK n f,.int h,.int w]=some (cK n g):=
 Lb (cK n f) h w _ (2 ^ n) (fun p=>bF (f p)) (fun p=>bF (g p)) (iA n f) (en n hn) (Nat.le_trans (pc hn) (by decide)) (fun p hp=>gJ p rfl hp) (fun p hp q=>let ⟨q',h1,h2,h3⟩:=(H p hp).1 q; ⟨q',h1,h2,congrArg bF h3⟩) (fun p hp q=>congrArg bF ((H p hp).2 q))
omit hn in
theorem zS (p W m q r:Int) (c:Bool) {b:Bool} (h1:Builtin.bitAnd p W=m) (h2:Builtin.bitXor p W=q) (h3:i6 false (.int m) (.tuple [.int 0,.int W])=some (.bool b)) (hb:b=c) (hr:(if c=true then p else q)=r):cE [.int p,.int W]=some (.int r):=by
 subst hb
 cases b
 ·simp at hr; subst hr; simp [cE,runB,gU,aw,h1,h2,h3]
 ·simp at hr; subst hr; simp [cE,runB,gU,aw,h1,h2,h3]
theorem CK {i j:Nat} (hi:i<n) (hj:j<n) (hij:i≠j) {p:Nat} (hp:p<2 ^ n):cE [.int p,.int ((wt n i+wt n j:Nat):Int)]=some (.int (from_ n (.cross i j) p:Nat)):=by
 have ha:=kt hn hi hj hij hp
 have b1:=MA.tq p (wt n i+wt n j)
 have b2:=MA.xr p (wt n i+wt n j)
 rw [ha.2.1] at b1
 rw [ha.2.2] at b2
 have hwi:=MA.aR n i
 have hwj:=MA.aR n j
 have l1:=MA.bR (wt n i) p
 have l2:=MA.bR (wt n j) p
 have inT:∀ a b:Int,i6 false (.int a) (.tuple [.int 0,.int b])=some (.bool (0==a||b==a)):=fun a b=>by
  show some (PyData.bool (PyData.eqv (.int 0) (.int a)||(PyData.eqv (.int b) (.int a)||false)))=_
  rw [Bool.or_false]
  rfl
 have ef:from_ n (.cross i j) p=if aG (wt n i) p=aG (wt n j) p then p else flp (wt n j) (flp (wt n i) p):=rfl
 rw [ef]
 by_cases h:aG (wt n i) p=aG (wt n j) p
 ·rw [if_pos h]
  have hb:aG (wt n i) p=0\/aG (wt n i) p=1:=by omega
  refine zS _ _ _ _ _ true b1 b2 (inT _ _) ?_ rfl
  rcases hb with hb | hb
  ·rw [<- h,hb]; simp
  ·rw [<- h,hb]; simp
 ·rw [if_neg h]
  refine zS _ _ _ _ _ false b1 b2 (inT _ _) ?_ rfl
  have hb:(aG (wt n i) p=0/\aG (wt n j) p=1)\/(aG (wt n i) p=1/\aG (wt n j) p=0):=by omega
  rcases hb with ⟨hb,hc⟩ | ⟨hb,hc⟩
  ·rw [hb,hc,Nat.mul_zero,Nat.mul_one,Nat.zero_add,Bool.or_eq_false_iff,beq_eq_false_iff_ne,beq_eq_false_iff_ne]
   omega
  ·rw [hb,hc,Nat.mul_zero,Nat.mul_one,Nat.add_zero,Bool.or_eq_false_iff,beq_eq_false_iff_ne,beq_eq_false_iff_ne]
   omega
omit hn in
theorem Lf (X:D) (S W1 W2 W:Int) (N:Nat) (x y:Nat->D) (R w0:Sl) (ho:Builtin.bitOr W1 W2=W) (ln:bf [X]=some (.int S)) (hN:bi [.int S]=some ((List.range N).map fun k:Nat=>PyData.int (0+(k:Int)))) (hl:N<=16777216) (a:∀ p:Nat,p<N->av X (.int p)=some (x p))
  (t:∀ p:Nat,p<N->∃ q:Nat,q<N/\cE [.int p,.int W]=some (.int q)/\y p=x q):qk [.fz X,R,w0,.fz (.int W1),.fz (.int W2)]=some (.list ((List.range N).map y)):=
 uH (by simp [ln,hN]) hl fun p hp=>by
  obtain ⟨q,hq,e1,e2⟩:=t p hp
  have a1:=a q hq
  rw [e2]
  simp [eL,ho,e1,a1]
section
omit hn
variable (X R Y:D) (S N w1 w2:Int) (i j:Int) (ln:bf [X]=some (.int S)) (bl:nU (.int S)=some (.int (N+1))) (r1:av R (.int 1)=some (.int i)) (v1:gi [.int N,.int i]=some (.int w1))
include ln bl r1 v1
theorem qQ (r0:av R (.int 0)=some (.str "swing")) (h:gQ [X,.int w1]=some Y):dn [X,R]=some Y:=by
 simp [-ak,-cu,b9,cP,dn,runB,jb,aw,ln,bl,r0,r1,v1,h]
theorem sP (r0:av R (.int 0)=some (.str "turn")) (r2:av R (.int 2)=some (.int j)) (h:bG [X,.int w1,.int j]=some Y):dn [X,R]=some Y:=by
 simp [-ak,-cu,b9,cP,dn,runB,jb,aw,ln,bl,r0,r1,r2,v1,h]
theorem sR (r0:av R (.int 0)=some (.str "flip")) (h:bn [X,.int 0,.int w1]=some Y):dn [X,R]=some Y:=by
 simp [-ak,-cu,b9,cP,dn,runB,jb,aw,ln,bl,r0,r1,v1,h]
variable (r2:av R (.int 2)=some (.int j)) (v2:gi [.int N,.int j]=some (.int w2))
include r2 v2
theorem uD (r0:av R (.int 0)=some (.str "tie")) (h:bn [X,.int w1,.int w2]=some Y):dn [X,R]=some Y:=by
 simp [-ak,-cu,b9,cP,dn,runB,jb,aw,ln,bl,r0,r1,r2,v1,v2,h]
theorem sQ (W:Int) (ho:Builtin.bitOr w1 w2=W) (r0:av R (.int 0)=some (.str "sign")) (h:bG [X,.int W,.int 4]=some Y):dn [X,R]=some Y:=by
 simp [-ak,-cu,b9,cP,dn,runB,jb,aw,ln,bl,r0,r1,r2,v1,v2,ho,h]
theorem qR (L:D) (r0:av R (.int 0)=some (.str "cross")) (h:qk [.fz X,.fz R,.fz (.int N),.fz (.int w1),.fz (.int w2)]=some L) (t:dr [L]=some Y):dn [X,R]=some Y:=by
 simp [-ak,-cu,b9,cP,dn,runB,jb,aw,ln,bl,r0,r1,r2,v1,v2,h,t]
end
include hf hL
theorem vN (r:Row) (hr:r.ok n):dn [cK n f,rowD r]=some (cK n (bK n f r)):=by
 have ln:=iA n f
 have bl:=xK hn f
 have sq:=pc hn
 cases r with
 | swing j=>exact qQ _ _ _ _ _ _ _ ln bl rfl (eN hn hr) rfl (xX hn f hf hL hr)
 | turn j e=>
  refine sP _ _ _ _ _ _ _ _ ln bl rfl (eN hn hr.1) rfl rfl (Dh hn f _ _ _ fun p hp=>?_)
  have ha:=(j0 hn hr.1 hp).1
  have b1:=MA.tq p (wt n j)
  rw [ha] at b1
  have hw:=MA.aR n j
  have hb:aG (wt n j) p=0\/aG (wt n j) p=1:=by have:=MA.bR (wt n j) p; omega
  have e1:bK n f (.turn j e) p=MA.cy (e*aG (wt n j) p) (f p):=rfl
  rw [e1,b1]
  rcases hb with hb | hb
  ·rw [hb,Nat.mul_zero,Nat.mul_zero]
   exact ⟨fun q=>absurd q (by omega),fun _=>rfl⟩
  ·rw [hb,Nat.mul_one,Nat.mul_one]
   exact ⟨fun _=>mO hn _ _,fun q=>absurd rfl q⟩
 | flip j=>
  refine sR _ _ _ _ _ _ _ ln bl rfl (eN hn hr) rfl (DL hn f _ _ _ fun p hp=>?_)
  have b2:=MA.xr p (wt n j)
  rw [(j0 hn hr hp).2] at b2
  have b0:=MA.tq p 0
  rw [Nat.and_zero] at b0
  exact ⟨fun _=>⟨_,MA.i7 hr hp,b2,rfl⟩,fun q=>absurd b0 q⟩
 | tie i j=>
  refine uD _ _ _ _ _ _ _ _ _ ln bl rfl (eN hn hr.1) rfl (eN hn hr.2.1) rfl (DL hn f _ _ _ fun p hp=>?_)
  have b2:=MA.xr p (wt n j)
  rw [(j0 hn hr.2.1 hp).2] at b2
  have b1:=MA.tq p (wt n i)
  rw [(j0 hn hr.1 hp).1] at b1
  have hw:=MA.aR n i
  have hb:aG (wt n i) p=0\/aG (wt n i) p=1:=by have:=MA.bR (wt n i) p; omega
  have e1:bK n f (.tie i j) p=f (if aG (wt n i) p=0 then p else flp (wt n j) p):=rfl
  rw [e1,b1]
  rcases hb with hb | hb
  ·rw [hb,Nat.mul_zero]
   exact ⟨fun q=>absurd q (by omega),fun _=>rfl⟩
  ·rw [hb,Nat.mul_one,if_neg (by decide)]
   exact ⟨fun _=>⟨_,MA.i7 hr.2.1 hp,b2,rfl⟩,fun q=>absurd rfl q⟩
 | sign i j=>
  have ho:=MA.JS (wt n i) (wt n j)
  rw [(kt hn hr.1 hr.2.1 hr.2.2 (p:=0) (Nat.pow_pos (by decide))).1] at ho
  refine sQ _ _ _ _ _ _ _ _ _ ln bl rfl (eN hn hr.1) rfl (eN hn hr.2.1) _ ho rfl (Dh hn f _ _ _ fun p hp=>?_)
  have b1:=MA.tq p (wt n i+wt n j)
  rw [(kt hn hr.1 hr.2.1 hr.2.2 hp).2.1] at b1
  have hw:=MA.aR n i
  have hw2:=MA.aR n j
  have hb:aG (wt n i) p=0\/aG (wt n i) p=1:=by have:=MA.bR (wt n i) p; omega
  have hc:aG (wt n j) p=0\/aG (wt n j) p=1:=by have:=MA.bR (wt n j) p; omega
  have e1:bK n f (.sign i j) p=MA.cy (4*aG (wt n i) p*aG (wt n j) p) (f p):=rfl
  rw [e1,b1]
  rcases hb with hb | hb
  ·rw [hb,Nat.mul_zero,Nat.mul_zero,Nat.zero_mul]
   refine ⟨fun q=>absurd q ?_,fun _=>rfl⟩
   rcases hc with hc | hc <;> rw [hc] <;> omega
  ·rcases hc with hc | hc
   ·rw [hb,hc,Nat.mul_one,Nat.mul_zero,Nat.mul_zero]
    exact ⟨fun q=>absurd q (by omega),fun _=>rfl⟩
   ·rw [hb,hc,Nat.mul_one,Nat.mul_one,Nat.mul_one,Nat.mul_one]
    exact ⟨fun _=>mO hn _ 4,fun q=>absurd rfl q⟩
 | cross i j=>
  have ho:=MA.JS (wt n i) (wt n j)
  rw [(kt hn hr.1 hr.2.1 hr.2.2 (p:=0) (Nat.pow_pos (by decide))).1] at ho
  refine qR _ _ _ _ _ _ _ _ _ ln bl rfl (eN hn hr.1) rfl (eN hn hr.2.1) _ rfl (Lf (cK n f) _ _ _ _ (2 ^ n) (fun p=>bF (f p)) (fun p=>bF (bK n f (.cross i j) p)) _ _ ho ln (en n hn) (by omega) (fun p hp=>gJ p rfl hp) fun p hp=>?_) rfl
  exact ⟨_,MA.qJ (r:=.cross i j) hr hp,CK hn hr.1 hr.2.1 hr.2.2 hp,rfl⟩
end
theorem Am (rows:Sl) (X Y r:D) (h1:dn [X,r]=some Y):eG [.fz X,rows,.fz r]=some (.nx,[.fz Y,rows,.fz r]):=by
 simp [eG,h1]
noncomputable def cn (n:Nat) (f:Nat->Nu):List Row->Nat->Nu
 | []=>f
 | r::rs=>cn n (bK n f r) rs
theorem pL (rows:Sl) {n:Nat} (hn:n<=6):∀ (rs:List Row),(∀ r∈rs,r.ok n)->∀ (k p:Nat) (f:Nat->Nu),Bd k p f->k+rs.length<=300->p+400*rs.length<=80000->∀ z,∃ y,loop (gN 2) eG (rs.map rowD) [.fz (cK n f),rows,z]=some (.nx,[.fz (cK n (cn n f rs)),rows,y])
 | [],_,_,_,_,_,_,_,z=>⟨z,rfl⟩
 | r::rs,hr,k,p,f,hb,hk,hp,z=>by
  simp only [List.length_cons] at hk hp
  have h1:=vN hn f (fun x=>by have:=(hb x).1; omega) (fun x=>(hb x).2.mono (Nat.pow_le_pow_right (by decide) (by omega))) r (hr r List.mem_cons_self)
  obtain ⟨y,e⟩:=pL rows hn rs (fun q hq=>hr q (List.mem_cons_of_mem _ hq)) (k+1) (p+k+1) (bK n f r) (hb.done n r) (by omega) (by omega) (.fz (rowD r))
  exact ⟨y,by rw [List.map_cons,cv (by rfl) (Am rows _ _ _ h1)]; exact e⟩
theorem Ak (X Y R:D) (L:List D) (y:Sl) (it:eJ R=some L) (e:loop (gN 2) eG L [.fz X,.fz R,.un]=some (.nx,[.fz Y,.fz R,y])):cg [X,R]=some Y:=by
 simp [cg,runB,jZ,aw,it,e]
theorem C9 {n:Nat} (hn:n<=6) (rs:List Row) (hr:∀ r∈rs,r.ok n) {k p:Nat} {f:Nat->Nu} (hb:Bd k p f) (hk:k+rs.length<=300) (hp:p+400*rs.length<=80000):cg [cK n f,.tuple (rs.map rowD)]=some (cK n (cn n f rs)):=by
 obtain ⟨y,e⟩:=pL (.fz (.tuple (rs.map rowD))) hn rs hr k p f hb hk hp .un
 exact Ak _ _ _ _ y rfl e
theorem wq (w:Nat) (h:w<=100):dO (.int 1) (.int (w:Int))=some (.int ((2 ^ w:Nat):Int)):=by
 have hb:Builtin.Int.intBits 1=1:=by decide +kernel
 have e:=j8 (i:=1) (j:=(w:Int)) (by omega) (by omega)
 rw [e]
 simp
theorem vL {d:D} {k:Nat} (h:MA.Sh k d) (hk:k<=64):aX d d=some (.bool true):=by
 have hs:xC d=true:=by
  show (d.canLay0&&decide (d.depth<=64))=true
  rw [h.1,decide_eq_true (Nat.le_trans h.2 hk)]; rfl
 unfold aX
 rw [if_pos ⟨hs,hs⟩,MA.sO d h.1]
noncomputable def cc (n:Nat) (q:Nat->MA.Q4):Row->Nat->MA.Q4
 | .swing j,p=>if aG (wt n j) p=0 then MA.Q4.add (q p) (q (p+wt n j)) else MA.Q4.add (q (p-wt n j)) (MA.bL 4 (q p))
 | .turn j e,p=>MA.bL (e*aG (wt n j) p) (q p)
 | .sign i j,p=>MA.bL (4*aG (wt n i) p*aG (wt n j) p) (q p)
 | r,p=>q (from_ n r p)
noncomputable def swn:Row->Nat
 | .swing _=>1
 | _=>0
theorem dS (n:Nat) (q:Nat->MA.Q4) (j x:Nat):cc n q (.swing j) x=if aG (wt n j) x=0 then MA.Q4.add (q x) (q (flp (wt n j) x)) else MA.Q4.add (q (flp (wt n j) x)) (MA.bL 4 (q x)):=by
 show (if aG (wt n j) x=0 then _ else _)=_
 unfold MA.flp
 by_cases h:aG (wt n j) x=0
 ·rw [if_pos h,if_pos h,if_pos h]
 ·rw [if_neg h,if_neg h,if_neg h]
theorem A7 (x y:MA.Q4):MA.Q4.tn (MA.Q4.add x y)=MA.Q4.add (MA.Q4.tn x) (MA.Q4.tn y):=by
 apply MA.Q4.ext' <;> simp only [MA.Q4.tn,MA.Q4.add] <;> omega
theorem hV (e:Nat) (x y:MA.Q4):MA.bL e (MA.Q4.add x y)=MA.Q4.add (MA.bL e x) (MA.bL e y):=by
 induction e with
 | zero=>rfl
 | succ e ih=>show MA.Q4.tn (MA.bL e _)=MA.Q4.add (MA.Q4.tn (MA.bL e x)) (MA.Q4.tn (MA.bL e y)); rw [ih,A7]
theorem fO (a b:Nat) (x:MA.Q4):MA.bL a (MA.bL b x)=MA.bL b (MA.bL a x):=by rw [<- MA.fB,<- MA.fB,Nat.add_comm]
theorem Dj (k:Nat) (x:MA.Q4):MA.bL (8*k) x=x:=by rw [<- MA.j5,Nat.mul_mod_right]; rfl
theorem Il (n:Nat) (q:Nat->MA.Q4) (e:Nat) (r:Row) (x:Nat):cc n (fun y=>MA.bL e (q y)) r x=MA.bL e (cc n q r x):=by
 cases r with
 | swing j=>
  rw [dS,dS]
  split
  ·rw [hV]
  ·rw [hV,fO 4 e]
 | turn j a=>exact fO _ _ _
 | sign i j=>exact fO _ _ _
 | flip j=>rfl
 | tie i j=>rfl
 | cross i j=>rfl
theorem Im (n:Nat) (q:Nat->MA.Q4) (k:Nat) (r:Row) (x:Nat):cc n (fun y=>MA.Q4.rtn k (q y)) r x=MA.Q4.rtn k (cc n q r x):=by
 cases r with
 | swing j=>
  rw [dS,dS]
  split
  ·rw [MA.Q4.rtn_addQ]
  ·rw [MA.Q4.rtn_addQ,MA.eO]
 | turn j a=>exact MA.eO _ _ _
 | sign i j=>exact MA.eO _ _ _
 | flip j=>rfl
 | tie i j=>rfl
 | cross i j=>rfl
noncomputable def cR (n:Nat):Row->Nat->Bool
 | .flip _,_=>true
 | .tie i _,x=>aG (wt n i) x != 0
 | .cross i j,x=>aG (wt n i) x != aG (wt n j) x
 | _,_=>false
noncomputable def fR (n:Nat):Row->Nat->Nat
 | .flip j,x=>flp (wt n j) x
 | .tie _ j,x=>flp (wt n j) x
 | .cross i j,x=>flp (wt n j) (flp (wt n i) x)
 | _,x=>x
noncomputable def tR (n:Nat):Row->Nat->Nat
 | .turn j e,x=>e*aG (wt n j) x
 | .sign i j,x=>4*aG (wt n i) x*aG (wt n j) x
 | _,_=>0
noncomputable def aM:Row->List Nat
 | .swing j=>[j]
 | .turn j _=>[j]
 | .flip j=>[j]
 | .tie i j=>[i,j]
 | .sign i j=>[i,j]
 | .cross i j=>[i,j]
noncomputable def isSw:Row->Bool
 | .swing _=>true
 | _=>false
theorem iz (n:Nat) (q:Nat->MA.Q4) (r:Row) (h:isSw r=false) (x:Nat):cc n q r x=MA.bL (tR n r x) (q (if cR n r x=true then fR n r x else x)):=by
 cases r with
 | swing j=>cases h
 | turn j e=>rfl
 | sign i j=>rfl
 | flip j=>rfl
 | tie i j=>
  show q (if aG (wt n i) x=0 then x else flp (wt n j) x)=q (if (aG (wt n i) x != 0)=true then flp (wt n j) x else x)
  by_cases b:aG (wt n i) x=0
  ·rw [if_pos b,if_neg (by simp [b])]
  ·rw [if_neg b,if_pos (by simp [b])]
 | cross i j=>
  show q (if aG (wt n i) x=aG (wt n j) x then x else flp (wt n j) (flp (wt n i) x))=q (if (aG (wt n i) x != aG (wt n j) x)=true then flp (wt n j) (flp (wt n i) x) else x)
  by_cases b:aG (wt n i) x=aG (wt n j) x
  ·rw [if_pos b,if_neg (by simp [b])]
  ·rw [if_neg b,if_pos (by simp [b])]
theorem kR {n k:Nat} {r:Row} (hr:r.ok n) (hk:k<n) (hf:k ∉ aM r) (x:Nat):cR n r (flp (wt n k) x)=cR n r x/\tR n r (flp (wt n k) x)=tR n r x/\fR n r (flp (wt n k) x)=flp (wt n k) (fR n r x):=by
 have bt:∀ i,i<n->i≠k->aG (wt n i) (flp (wt n k) x)=aG (wt n i) x:=fun i hi h=>MA.cY hk hi (Ne.symm h)
 have fc:∀ i,i<n->i≠k->∀ y,flp (wt n i) (flp (wt n k) y)=flp (wt n k) (flp (wt n i) y):=fun i hi h y=>MA.ik hk hi (Ne.symm h)
 cases r with
 | swing j=>exact ⟨rfl,rfl,rfl⟩
 | turn j e=>
  have hj:j≠k:=fun z=>hf (by simp [aM,z])
  exact ⟨rfl,by show e*_=e*_; rw [bt j hr.1 hj],rfl⟩
 | flip j=>
  have hj:j≠k:=fun z=>hf (by simp [aM,z])
  exact ⟨rfl,rfl,fc j hr hj x⟩
 | tie i j=>
  have hi:i≠k:=fun z=>hf (by simp [aM,z])
  have hj:j≠k:=fun z=>hf (by simp [aM,z])
  exact ⟨by show (_ != _)=(_ != _); rw [bt i hr.1 hi],rfl,fc j hr.2.1 hj x⟩
 | sign i j=>
  have hi:i≠k:=fun z=>hf (by simp [aM,z])
  have hj:j≠k:=fun z=>hf (by simp [aM,z])
  exact ⟨rfl,by show 4*_*_=4*_*_; rw [bt i hr.1 hi,bt j hr.2.1 hj],rfl⟩
 | cross i j=>
  have hi:i≠k:=fun z=>hf (by simp [aM,z])
  have hj:j≠k:=fun z=>hf (by simp [aM,z])
  exact ⟨by show (_ != _)=(_ != _); rw [bt i hr.1 hi,bt j hr.2.1 hj],rfl,by show flp _ (flp _ _)=_; rw [fc i hr.1 hi,fc j hr.2.1 hj]; rfl⟩
theorem nJ {n:Nat} {r:Row} {α:Type} (G:Nat -> α) (h:∀ k∈aM r,∀ x,G (flp (wt n k) x)=G x) (x:Nat):G (fR n r x)=G x:=by
 cases r with
 | swing j=>rfl
 | turn j e=>rfl
 | sign i j=>rfl
 | flip j=>exact h j (by simp [aM]) x
 | tie i j=>exact h j (by simp [aM]) x
 | cross i j=>exact (h j (by simp [aM]) _).trans (h i (by simp [aM]) x)
theorem F4 {n:Nat} {r:Row} (K:Nat->Nat) (h:∀ k∈aM r,∀ x,K (flp (wt n k) x)=flp (wt n k) (K x)) (x:Nat):K (fR n r x)=fR n r (K x):=by
 cases r with
 | swing j=>rfl
 | turn j e=>rfl
 | sign i j=>rfl
 | flip j=>exact h j (by simp [aM]) x
 | tie i j=>exact h j (by simp [aM]) x
 | cross i j=>show K (flp _ (flp _ x))=flp _ (flp _ (K x)); rw [h j (by simp [aM]),h i (by simp [aM])]
theorem ph {n k:Nat} {r:Row} (hr:r.ok n) (h:k∈aM r):k<n:=by
 cases r with
 | swing j=>simp [aM] at h; subst h; exact hr
 | turn j e=>simp [aM] at h; subst h; exact hr.1
 | flip j=>simp [aM] at h; subst h; exact hr
 | tie i j=>simp [aM] at h; rcases h with rfl | rfl; exact hr.1; exact hr.2.1
 | sign i j=>simp [aM] at h; rcases h with rfl | rfl; exact hr.1; exact hr.2.1
 | cross i j=>simp [aM] at h; rcases h with rfl | rfl; exact hr.1; exact hr.2.1
noncomputable def oq (r s:Row):Prop:=∀ k∈aM r,k ∉ aM s
theorem zn {n:Nat} (q:Nat->MA.Q4) {r s:Row} (hr:r.ok n) (hs:s.ok n) (mr:isSw r=false) (ms:isSw s=false) (ap:oq r s) (x:Nat):cc n (cc n q r) s x=cc n (cc n q s) r x:=by
 have ap':oq s r:=fun k h1 h2=>ap k h2 h1
 have a1:∀ x,cR n s (fR n r x)=cR n s x:=nJ (r:=r) _ fun k hk x=>(kR hs (ph hr hk) (ap k hk) x).1
 have a2:∀ x,tR n s (fR n r x)=tR n s x:=nJ (r:=r) _ fun k hk x=>(kR hs (ph hr hk) (ap k hk) x).2.1
 have a3:∀ x,fR n s (fR n r x)=fR n r (fR n s x):=F4 (r:=r) _ fun k hk x=>(kR hs (ph hr hk) (ap k hk) x).2.2
 have b1:∀ x,cR n r (fR n s x)=cR n r x:=nJ (r:=s) _ fun k hk x=>(kR hr (ph hs hk) (ap' k hk) x).1
 have b2:∀ x,tR n r (fR n s x)=tR n r x:=nJ (r:=s) _ fun k hk x=>(kR hr (ph hs hk) (ap' k hk) x).2.1
 rw [iz n _ s ms,iz n _ r mr,iz n _ r mr,iz n _ s ms]
 cases hc:cR n s x <;> cases hd:cR n r x
 ·simp only [hc,hd,Bool.false_eq_true,if_false]; exact fO _ _ _
 ·simp only [hc,hd,Bool.false_eq_true,if_false,if_true,a1,a2]; exact fO _ _ _
 ·simp only [hc,hd,Bool.false_eq_true,if_false,if_true,b1,b2]; exact fO _ _ _
 ·simp only [hc,hd,if_true,a1,a2,b1,b2,a3]; exact fO _ _ _
theorem u5 {n j:Nat} (q:Nat->MA.Q4) {s:Row} (hj:j<n) (hs:s.ok n) (ms:isSw s=false) (ap:j ∉ aM s) (x:Nat):cc n (cc n q (.swing j)) s x=cc n (cc n q s) (.swing j) x:=by
 obtain ⟨f1,f2,f3⟩:=kR hs hj ap x
 have bj:∀ y,aG (wt n j) (fR n s y)=aG (wt n j) y:=nJ (r:=s) _ fun k hk y=>MA.cY (ph hs hk) hj (fun z=>ap (z ▸ hk))
 have bs:aG (wt n j) (if cR n s x=true then fR n s x else x)=aG (wt n j) x:=by split; exact bj x; rfl
 have fs:flp (wt n j) (if cR n s x=true then fR n s x else x)=(if cR n s (flp (wt n j) x)=true then fR n s (flp (wt n j) x) else flp (wt n j) x):=by
  rw [f1]
  split
  ·exact f3.symm
  ·rfl
 rw [iz n _ s ms,dS,dS,bs,iz n q s ms x,iz n q s ms (flp (wt n j) x),f2,fs]
 split
 ·rw [hV]
 ·rw [hV,fO 4]
theorem wl (x:MA.Q4):MA.bL 4 x=⟨-x.a,-x.b,-x.c,-x.d⟩:=by
 apply MA.Q4.ext' <;> simp [MA.bL,MA.Q4.tn]
theorem Hj {n i j:Nat} (q:Nat->MA.Q4) (hi:i<n) (hj:j<n) (hij:i≠j) (x:Nat):cc n (cc n q (.swing i)) (.swing j) x=cc n (cc n q (.swing j)) (.swing i) x:=by
 have b1:aG (wt n i) (flp (wt n j) x)=aG (wt n i) x:=MA.cY hj hi (Ne.symm hij)
 have b2:aG (wt n j) (flp (wt n i) x)=aG (wt n j) x:=MA.cY hi hj hij
 have fc:flp (wt n j) (flp (wt n i) x)=flp (wt n i) (flp (wt n j) x):=MA.ik hi hj hij
 rw [dS n (cc n q (.swing i)) j x,dS n (cc n q (.swing j)) i x,dS n q i x,dS n q i (flp (wt n j) x),dS n q j x,dS n q j (flp (wt n i) x),b1,b2,fc]
 generalize q x=A
 generalize q (flp (wt n j) x)=B
 generalize q (flp (wt n i) x)=C
 generalize q (flp (wt n i) (flp (wt n j) x))=D
 by_cases h1:aG (wt n i) x=0 <;> by_cases h2:aG (wt n j) x=0 <;> simp only [h1,h2,if_true,if_false,wl] <;> apply MA.Q4.ext' <;> simp only [MA.Q4.add] <;> omega
theorem Bk {n:Nat} (q:Nat->MA.Q4) {r s:Row} (hr:r.ok n) (hs:s.ok n) (ap:oq r s) (x:Nat):cc n (cc n q r) s x=cc n (cc n q s) r x:=by
 cases mr:isSw r with
 | false=>
  cases ms:isSw s with
  | false=>exact zn q hr hs mr ms ap x
  | true=>
   cases s with
   | swing j=>exact (u5 q hs hr mr (fun z=>ap j z (by simp [aM])) x).symm
   | _=>cases ms
 | true=>
  cases r with
  | swing i=>
   cases ms:isSw s with
   | false=>exact u5 q hr hs ms (fun z=>ap i (by simp [aM]) z) x
   | true=>
    cases s with
    | swing j=>exact Hj q hr hs (fun z=>ap i (by simp [aM]) (by simp [aM,z])) x
    | _=>cases ms
  | _=>cases mr
theorem En (x:MA.Q4):MA.Q4.rtn 2 x=⟨2*x.a,2*x.b,2*x.c,2*x.d⟩:=by
 apply MA.Q4.ext' <;> simp [MA.Q4.rtn,MA.Q4.rt] <;> omega
theorem za {n j:Nat} (q:Nat->MA.Q4) (x:Nat):cc n (cc n q (.swing j)) (.swing j) x=MA.Q4.rtn 2 (q x):=by
 have w:=MA.aR n j
 have b:=MA.bJ (w:=wt n j) (p:=x) w
 have f:=MA.cL (w:=wt n j) (p:=x) w
 have l:=MA.bR (wt n j) x
 rw [dS,dS n q j x,dS n q j (flp (wt n j) x),b,f,En]
 generalize q x=A
 generalize q (flp (wt n j) x)=B
 by_cases h:aG (wt n j) x=0
 ·simp only [h,if_true,wl]; apply MA.Q4.ext' <;> simp [MA.Q4.add] <;> omega
 ·have h1:aG (wt n j) x=1:=by omega
  simp only [h1,wl]; apply MA.Q4.ext' <;> simp [MA.Q4.add] <;> omega
theorem vw {n j e:Nat} (he:e<=8) (q:Nat->MA.Q4) (x:Nat):cc n (cc n q (.turn j e)) (.turn j (8-e)) x=q x:=by
 show MA.bL ((8-e)*aG (wt n j) x) (MA.bL (e*aG (wt n j) x) (q x))=q x
 rw [<- MA.fB,<- Nat.add_mul,show 8-e+e=8 by omega,Dj]
theorem BQ {n j:Nat} (q:Nat->MA.Q4) (x:Nat):cc n (cc n q (.flip j)) (.flip j) x=q x:=by
 show q (flp (wt n j) (flp (wt n j) x))=q x
 rw [MA.cL (MA.aR n j)]
theorem jM (n:Nat) (q:Nat->MA.Q4) (i j x:Nat):cc n q (.tie i j) x=q (if aG (wt n i) x=0 then x else flp (wt n j) x):=rfl
theorem nR (n:Nat) (q:Nat->MA.Q4) (i j x:Nat):cc n q (.cross i j) x=q (if aG (wt n i) x=aG (wt n j) x then x else flp (wt n j) (flp (wt n i) x)):=rfl
theorem Fk {n i j:Nat} (hi:i<n) (hj:j<n) (hij:i≠j) (q:Nat->MA.Q4) (x:Nat):cc n (cc n q (.tie i j)) (.tie i j) x=q x:=by
 have b1:aG (wt n i) (flp (wt n j) x)=aG (wt n i) x:=MA.cY hj hi (Ne.symm hij)
 have f:=MA.cL (w:=wt n j) (p:=x) (MA.aR n j)
 rw [jM,jM]
 by_cases h:aG (wt n i) x=0
 ·simp only [h,if_true]
 ·simp only [h,if_false,b1,f]
theorem BO {n i j:Nat} (q:Nat->MA.Q4) (x:Nat):cc n (cc n q (.sign i j)) (.sign i j) x=q x:=by
 show MA.bL (4*aG (wt n i) x*aG (wt n j) x) (MA.bL (4*aG (wt n i) x*aG (wt n j) x) (q x))=q x
 rw [<- MA.fB,show 4*aG (wt n i) x*aG (wt n j) x+4*aG (wt n i) x*aG (wt n j) x=8*(aG (wt n i) x*aG (wt n j) x) by rw [Nat.mul_assoc]; omega,Dj]
theorem DP {n i j:Nat} (hi:i<n) (hj:j<n) (hij:i≠j) (x:Nat):aG (wt n i) (flp (wt n j) x)=aG (wt n i) x/\aG (wt n j) (flp (wt n i) x)=aG (wt n j) x/\aG (wt n i) (flp (wt n i) x)=1-aG (wt n i) x/\aG (wt n j) (flp (wt n j) x)=1-aG (wt n j) x:=
 ⟨MA.cY hj hi (Ne.symm hij),MA.cY hi hj hij,MA.bJ (MA.aR n i),MA.bJ (MA.aR n j)⟩
theorem zc {n i j:Nat} (hi:i<n) (hj:j<n) (hij:i≠j) (q:Nat->MA.Q4) (x:Nat):cc n (cc n q (.cross i j)) (.cross i j) x=q x:=by
 obtain ⟨c1,c2,c3,c4⟩:=DP hi hj hij x
 obtain ⟨d1,d2,d3,d4⟩:=DP hi hj hij (flp (wt n i) x)
 have l1:=MA.bR (wt n i) x
 have l2:=MA.bR (wt n j) x
 rw [nR,nR]
 by_cases h:aG (wt n i) x=aG (wt n j) x
 ·simp only [h,if_true]
 ·rw [if_neg h,d1,d4,c3,c2,if_neg (by omega)]
  rw [<- MA.ik (p:=flp (wt n i) x) hi hj hij,MA.cL (w:=wt n i) (MA.aR n i),MA.cL (MA.aR n j)]
noncomputable def gx:Row->Row
 | .turn j e=>.turn j (8-e)
 | r=>r
theorem BR {n:Nat} {r:Row} (hr:r.ok n) (q:Nat->MA.Q4) (x:Nat):cc n (cc n q r) (gx r) x=MA.Q4.rtn (2*swn r) (q x):=by
 cases r with
 | swing j=>exact za q x
 | turn j e=>exact vw (by have:=hr.2.2; omega) q x
 | flip j=>exact BQ q x
 | tie i j=>exact Fk hr.1 hr.2.1 hr.2.2 q x
 | sign i j=>exact BO q x
 | cross i j=>exact zc hr.1 hr.2.1 hr.2.2 q x
theorem BP {n j:Nat} (q:Nat->MA.Q4) (x:Nat):cc n (cc n (cc n (cc n q (.swing j)) (.turn j 4)) (.swing j)) (.flip j) x=MA.Q4.rtn 2 (q x):=by
 have w:=MA.aR n j
 have b:=MA.bJ (w:=wt n j) (p:=x) w
 have f:=MA.cL (w:=wt n j) (p:=x) w
 have l:=MA.bR (wt n j) x
 show cc n (cc n (cc n q (.swing j)) (.turn j 4)) (.swing j) (flp (wt n j) x)=_
 rw [dS n _ j (flp (wt n j) x),f,b]
 show (if 1-aG (wt n j) x=0 then MA.Q4.add (MA.bL (4*aG (wt n j) (flp (wt n j) x)) (cc n q (.swing j) (flp (wt n j) x))) (MA.bL (4*aG (wt n j) x) (cc n q (.swing j) x)) else MA.Q4.add (MA.bL (4*aG (wt n j) x) (cc n q (.swing j) x)) (MA.bL 4 (MA.bL (4*aG (wt n j) (flp (wt n j) x)) (cc n q (.swing j) (flp (wt n j) x)))))=_
 rw [dS n q j x,dS n q j (flp (wt n j) x),b,f,En]
 generalize q x=A
 generalize q (flp (wt n j) x)=B
 by_cases h:aG (wt n j) x=0
 ·simp [h,wl,MA.bL,MA.Q4.tn,MA.Q4.add]; omega
 ·have h1:aG (wt n j) x=1:=by omega
  simp [h1,wl,MA.bL,MA.Q4.tn,MA.Q4.add]; omega
theorem BN {n i j:Nat} (hi:i<n) (hj:j<n) (hij:i≠j) (q:Nat->MA.Q4) (x:Nat):cc n (cc n (cc n (cc n q (.tie i j)) (.tie j i)) (.tie i j)) (.cross j i) x=q x:=by
 have l1:=MA.bR (wt n i) x
 have l2:=MA.bR (wt n j) x
 have fi:∀ y,flp (wt n i) (flp (wt n i) y)=y:=fun y=>MA.cL (MA.aR n i)
 have fj:∀ y,flp (wt n j) (flp (wt n j) y)=y:=fun y=>MA.cL (MA.aR n j)
 have fc:∀ y,flp (wt n j) (flp (wt n i) y)=flp (wt n i) (flp (wt n j) y):=fun y=>MA.ik hi hj hij
 have c1:∀ y,aG (wt n i) (flp (wt n j) y)=aG (wt n i) y:=fun y=>(DP hi hj hij y).1
 have c2:∀ y,aG (wt n j) (flp (wt n i) y)=aG (wt n j) y:=fun y=>(DP hi hj hij y).2.1
 have c3:∀ y,aG (wt n i) (flp (wt n i) y)=1-aG (wt n i) y:=fun y=>(DP hi hj hij y).2.2.1
 have c4:∀ y,aG (wt n j) (flp (wt n j) y)=1-aG (wt n j) y:=fun y=>(DP hi hj hij y).2.2.2
 rw [nR,jM,jM,jM]
 rcases (by omega:aG (wt n i) x=0\/aG (wt n i) x=1) with h | h <;> rcases (by omega:aG (wt n j) x=0\/aG (wt n j) x=1) with k | k <;> simp [h,k,c1,c2,c3,c4,fi,fj,fc]
theorem Fm {n i j:Nat} (hi:i<n) (hj:j<n) (hij:i≠j) (q:Nat->MA.Q4) (x:Nat):cc n (cc n (cc n (cc n q (.sign i j)) (.swing j)) (.tie i j)) (.swing j) x=MA.Q4.rtn 2 (q x):=by
 have l1:=MA.bR (wt n i) x
 have l2:=MA.bR (wt n j) x
 have fj:∀ y,flp (wt n j) (flp (wt n j) y)=y:=fun y=>MA.cL (MA.aR n j)
 have c1:∀ y,aG (wt n i) (flp (wt n j) y)=aG (wt n i) y:=fun y=>(DP hi hj hij y).1
 have c4:∀ y,aG (wt n j) (flp (wt n j) y)=1-aG (wt n j) y:=fun y=>(DP hi hj hij y).2.2.2
 have sg:∀ y,cc n q (.sign i j) y=MA.bL (4*aG (wt n i) y*aG (wt n j) y) (q y):=fun _=>rfl
 rw [dS,jM,jM,En]
 rcases (by omega:aG (wt n i) x=0\/aG (wt n i) x=1) with h | h <;> rcases (by omega:aG (wt n j) x=0\/aG (wt n j) x=1) with k | k <;> simp [h,k,c1,c4,fj,dS,sg,wl,MA.bL,MA.Q4.tn,MA.Q4.add] <;> omega
theorem xj {n j e:Nat} (q:Nat->MA.Q4) (x:Nat):cc n (cc n (cc n (cc n q (.flip j)) (.turn j e)) (.flip j)) (.turn j e) x=MA.bL e (q x):=by
 have w:=MA.aR n j
 have b:=MA.bJ (w:=wt n j) (p:=x) w
 have f:=MA.cL (w:=wt n j) (p:=x) w
 have l:=MA.bR (wt n j) x
 show MA.bL (e*aG (wt n j) x) (MA.bL (e*aG (wt n j) (flp (wt n j) x)) (q (flp (wt n j) (flp (wt n j) x))))=_
 rw [b,f,<- MA.fB,<- Nat.mul_add,show aG (wt n j) x+(1-aG (wt n j) x)=1 by omega,Nat.mul_one]
noncomputable def aF (n:Nat):(Nat->MA.Q4)->List Row->Nat->MA.Q4
 | q,[]=>q
 | q,r::rs=>aF n (cc n q r) rs
noncomputable def swL:List Row->Nat
 | []=>0
 | r::rs=>swn r+swL rs
theorem ij (n:Nat):∀ (as bs:List Row) (q:Nat->MA.Q4),aF n q (as++bs)=aF n (aF n q as) bs
 | [],_,_=>rfl
 | a::as,bs,q=>ij n as bs (cc n q a)
theorem jm:∀ as bs:List Row,swL (as++bs)=swL as+swL bs
 | [],bs=>(Nat.zero_add _).symm
 | a::as,bs=>by show swn a+swL (as++bs)=swn a+swL as+swL bs; rw [jm as bs]; omega
theorem zw (n e:Nat):∀ (rs:List Row) (q:Nat->MA.Q4) (x:Nat),aF n (fun y=>MA.bL e (q y)) rs x=MA.bL e (aF n q rs x)
 | [],_,_=>rfl
 | r::rs,q,x=>by
  have h:cc n (fun y=>MA.bL e (q y)) r=fun y=>MA.bL e (cc n q r y):=funext (Il n q e r)
  show aF n (cc n (fun y=>MA.bL e (q y)) r) rs x=_
  rw [h]
  exact zw n e rs (cc n q r) x
theorem zx (n k:Nat):∀ (rs:List Row) (q:Nat->MA.Q4) (x:Nat),aF n (fun y=>MA.Q4.rtn k (q y)) rs x=MA.Q4.rtn k (aF n q rs x)
 | [],_,_=>rfl
 | r::rs,q,x=>by
  have h:cc n (fun y=>MA.Q4.rtn k (q y)) r=fun y=>MA.Q4.rtn k (cc n q r y):=funext (Im n q k r)
  show aF n (cc n (fun y=>MA.Q4.rtn k (q y)) r) rs x=_
  rw [h]
  exact zx n k rs (cc n q r) x
noncomputable def Mv (n:Nat) (as bs:List Row) (e:Nat):Prop:=∀ q x,MA.Q4.rtn (swL as) (aF n q bs x)=MA.Q4.rtn (swL bs) (MA.bL e (aF n q as x))
theorem Mv.refl (n:Nat) (as:List Row):Mv n as as 0:=fun _ _=>rfl
theorem Mv.trans {n e f:Nat} {as bs cs:List Row} (h:Mv n as bs e) (k:Mv n bs cs f):Mv n as cs (e+f):=fun q x=>by
 apply MA.Q4.rtn_inj (n:=swL bs)
 rw [MA.cz (swL bs) (swL as),k q x,MA.cz (swL as) (swL cs),<- MA.eO,h q x,MA.eO,<- MA.fB,Nat.add_comm f e,MA.cz (swL cs)]
noncomputable def tL (n:Nat) (more:List Row) (e:Nat):Prop:=∀ q x,aF n q more x=MA.Q4.rtn (swL more) (MA.bL e (q x))
theorem Mv.put {n e:Nat} {more:List Row} (h:tL n more e) (pre post:List Row):Mv n (pre++post) (pre++more++post) e:=fun q x=>by
 have h1:aF n (aF n q pre) more=fun y=>MA.Q4.rtn (swL more) (MA.bL e (aF n q pre y)):=funext (h _)
 rw [ij,ij,ij,h1,zx n (swL more) post (fun y=>MA.bL e (aF n q pre y)),zw,jm,jm,jm,<- MA.Q4.rtn_add]
 congr 1
 omega
theorem Mv.swap {n:Nat} {r s:Row} (hr:r.ok n) (hs:s.ok n) (ap:oq r s) (pre post:List Row):Mv n (pre++r::s::post) (pre++s::r::post) 0:=fun q x=>by
 have h1:cc n (cc n (aF n q pre) r) s=cc n (cc n (aF n q pre) s) r:=funext (Bk _ hr hs ap)
 have e1:aF n q (pre++r::s::post)=aF n (cc n (cc n (aF n q pre) r) s) post:=by rw [ij]; rfl
 have e2:aF n q (pre++s::r::post)=aF n (cc n (cc n (aF n q pre) s) r) post:=by rw [ij]; rfl
 have s1:swL (pre++r::s::post)=swL (pre++s::r::post):=by
  rw [jm,jm]
  show _+(swn r+(swn s+swL post))=_+(swn s+(swn r+swL post))
  omega
 rw [e1,e2,h1,s1]; rfl
theorem zi {n:Nat} {r:Row} (hr:r.ok n):tL n [r,gx r] 0:=fun q x=>by
 have s:swL [r,gx r]=2*swn r:=by
  cases r <;> rfl
 rw [s]
 exact BR hr q x
theorem zf (n j:Nat):tL n [.swing j,.turn j 4,.swing j,.flip j] 0:=fun q x=>BP q x
theorem zd {n j e:Nat} (he:e<=8):tL n [.turn j e,.turn j (8-e)] 0:=fun q x=>vw he q x
theorem ze {n i j:Nat} (hi:i<n) (hj:j<n) (hij:i≠j):tL n [.tie i j,.tie j i,.tie i j,.cross j i] 0:=fun q x=>BN hi hj hij q x
theorem BT {n i j:Nat} (hi:i<n) (hj:j<n) (hij:i≠j):tL n [.sign i j,.swing j,.tie i j,.swing j] 0:=fun q x=>Fm hi hj hij q x
theorem zg (n j e:Nat):tL n [.flip j,.turn j e,.flip j,.turn j e] e:=fun q x=>xj q x
theorem gR {n:Nat}:∀ (rs:List Row) {f:Nat->Nu},(∀ q,MA.dU (f q))->∀ q,MA.dU (cn n f rs q)
 | [],_,h=>h
 | r::rs,_,h=>gR rs (MA.uE h n r)
noncomputable def Rl (M s:Nat) (f:Nat->Nu) (q:Nat->MA.Q4):Prop:=∀ x,MA.val M (f x)=MA.Q4.rtn (M-s) (q x)
theorem Rl.done {M s n k p:Nat} {f:Nat->Nu} {q:Nat->MA.Q4} (h:Rl M s f q) (hb:Bd k p f) (hk:k+1<=M) (hs:s+1<=M) (r:Row):Rl M (s+swn r) (bK n f r) (cc n q r):=fun x=>by
 have tn:∀ e,MA.val M (MA.cy e (f x))=MA.Q4.rtn (M-s) (MA.bL e (q x)):=fun e=>by rw [MA.fN,h x,MA.j5,MA.eO]
 cases r with
 | swing j=>
  have e:=MA.kB (n:=n) (M:=M) (j:=j) (f:=f) (fun y=>by have:=(hb y).1; omega) x
  refine MA.Q4.rt_inj (e.trans ?_)
  show _=MA.Q4.rt (MA.Q4.rtn (M-(s+1)) (if aG (wt n j) x=0 then MA.Q4.add (q x) (q (x+wt n j)) else MA.Q4.add (q (x-wt n j)) (MA.bL 4 (q x))))
  rw [<- MA.Q4.rtn_succ,show M-(s+1)+1=M-s by omega]
  by_cases hx:aG (wt n j) x=0
  ·rw [if_pos hx,if_pos hx,h,h,MA.Q4.rtn_addQ]
  ·rw [if_neg hx,if_neg hx,h,h,MA.Q4.rtn_addQ,MA.eO]
 | turn j e=>exact tn _
 | sign i j=>exact tn _
 | flip j=>exact h _
 | tie i j=>exact h _
 | cross i j=>exact h _
theorem Dl (r:Row):swn r<=1:=by cases r <;> simp [swn]
theorem fU:∀ rs:List Row,swL rs<=rs.length
 | []=>Nat.le_refl _
 | r::rs=>by have:=Dl r; have:=fU rs; show swn r+swL rs<=rs.length+1; omega
theorem Rl.all {M n:Nat}:∀ (rs:List Row) (s k p:Nat) (f:Nat->Nu) (q:Nat->MA.Q4),Rl M s f q->Bd k p f->k+rs.length<=M->s+rs.length<=M->Rl M (s+swL rs) (cn n f rs) (aF n q rs)/\∃ p',Bd (k+rs.length) p' (cn n f rs)
 | [],s,k,p,f,q,h,hb,_,_=>⟨h,p,hb⟩
 | r::rs,s,k,p,f,q,h,hb,hk,hs=>by
  simp only [List.length_cons] at hk hs
  have sr:=Dl r
  obtain ⟨h1,p',h2⟩:=Rl.all rs (s+swn r) (k+1) (p+k+1) _ _ (h.done hb (by omega) (by omega) r) (hb.done n r) (by omega) (by omega)
  refine ⟨?_,p',?_⟩
  ·rw [show s+swL (r::rs)=s+swn r+swL rs by show s+(swn r+swL rs)=_; omega]; exact h1
  ·show Bd (k+(rs.length+1)) p' _
   rw [show k+(rs.length+1)=k+1+rs.length by omega]; exact h2
open MA (aN)
noncomputable def jj (c:Nat->Int) (N:Nat) (Q:Nat->MA.Q4):MA.Q4:=⟨aN N fun b=>c b*(Q b).a,aN N fun b=>c b*(Q b).b,aN N fun b=>c b*(Q b).c,aN N fun b=>c b*(Q b).d⟩
theorem pX (c F G:Nat->Int):∀ N,aN N (fun b=>c b*(F b+G b))=aN N (fun b=>c b*F b)+aN N (fun b=>c b*G b)
 | 0=>rfl
 | N+1=>by
  show aN N _+c N*(F N+G N)=aN N _+c N*F N+(aN N _+c N*G N)
  rw [pX c F G N,Int.mul_add]; omega
theorem pW (c F:Nat->Int):∀ N,aN N (fun b=>c b * -F b) = -aN N (fun b=>c b*F b)
 | 0=>rfl
 | N+1=>by
  show aN N _+c N * -F N = -(aN N _+c N*F N)
  rw [pW c F N,Int.mul_neg]; omega
theorem v8 (c:Nat->Int) (N:Nat) (Q R:Nat->MA.Q4):jj c N (fun b=>MA.Q4.add (Q b) (R b))=MA.Q4.add (jj c N Q) (jj c N R):=by
 apply MA.Q4.ext' <;> exact pX c _ _ N
theorem Gx (c:Nat->Int) (N:Nat) (Q:Nat->MA.Q4):jj c N (fun b=>MA.Q4.tn (Q b))=MA.Q4.tn (jj c N Q):=by
 apply MA.Q4.ext'
 ·exact pW c _ N
 ·rfl
 ·rfl
 ·rfl
theorem kA (c:Nat->Int) (N:Nat) (Q:Nat->MA.Q4):∀ e,jj c N (fun b=>MA.bL e (Q b))=MA.bL e (jj c N Q)
 | 0=>rfl
 | e+1=>by
  show jj c N (fun b=>MA.Q4.tn (MA.bL e (Q b)))=MA.Q4.tn (MA.bL e (jj c N Q))
  rw [Gx,kA c N Q e]
theorem Dd (c:Nat->Int) (N n:Nat) (Q:Nat->Nat->MA.Q4) (r:Row) (x:Nat):cc n (fun y=>jj c N fun b=>Q b y) r x=jj c N fun b=>cc n (Q b) r x:=by
 cases r with
 | swing j=>
  show (if aG (wt n j) x=0 then _ else _)=jj c N fun b=>if aG (wt n j) x=0 then _ else _
  by_cases h:aG (wt n j) x=0
  ·simp only [if_pos h,v8]
  ·simp only [if_neg h,v8,kA]
 | turn j e=>exact (kA c N _ _).symm
 | sign i j=>exact (kA c N _ _).symm
 | flip j=>rfl
 | tie i j=>rfl
 | cross i j=>rfl
theorem tI (c:Nat->Int) (N n:Nat):∀ (rs:List Row) (Q:Nat->Nat->MA.Q4) (x:Nat),aF n (fun y=>jj c N fun b=>Q b y) rs x=jj c N fun b=>aF n (Q b) rs x
 | [],_,_=>rfl
 | r::rs,Q,x=>by
  have h:cc n (fun y=>jj c N fun b=>Q b y) r=fun y=>jj c N fun b=>cc n (Q b) r y:=funext (Dd c N n Q r)
  show aF n (cc n (fun y=>jj c N fun b=>Q b y) r) rs x=_
  rw [h]
  exact tI c N n rs (fun b=>cc n (Q b) r) x
noncomputable def un (b:Nat):Nat->MA.Q4:=fun x=>if x=b then ⟨1,0,0,0⟩ else ⟨0,0,0,0⟩
theorem ya (N:Nat) (F:Nat->Int) (h:∀ p,p<N->F p=0):aN N F=0:=by
 induction N with
 | zero=>rfl
 | succ N ih=>show aN N F+F N=0; rw [ih fun p hp=>h p (by omega),h N (by omega)]; rfl
theorem jn (F:Nat->Int) (x:Nat):∀ N,aN N (fun b=>if x=b then F b else 0)=if x<N then F x else 0
 | 0=>rfl
 | N+1=>by
  show aN N _+(if x=N then F N else 0)=_
  rw [jn F x N]
  by_cases h:x=N
  ·subst h; rw [if_neg (by omega),if_pos rfl,if_pos (by omega)]; omega
  ·rw [if_neg h]
   by_cases q:x<N
   ·rw [if_pos q,if_pos (by omega)]; omega
   ·rw [if_neg q,if_neg (by omega)]; rfl
theorem Gw (c:Nat->Int) (N x:Nat) (y:MA.Q4):jj c N (fun b=>if x=b then y else ⟨0,0,0,0⟩)=if x<N then ⟨c x*y.a,c x*y.b,c x*y.c,c x*y.d⟩ else ⟨0,0,0,0⟩:=by
 have h:∀ (g:MA.Q4->Int),g ⟨0,0,0,0⟩=0->aN N (fun b=>c b*g (if x=b then y else ⟨0,0,0,0⟩))=if x<N then c x*g y else 0:=fun g g0=>by
  rw [<- jn (fun b=>c b*g y) x N]
  exact MA.bA N fun b _=>by
   by_cases q:x=b
   ·rw [if_pos q,if_pos q]
   ·rw [if_neg q,if_neg q,g0,Int.mul_zero]
 unfold jj
 rw [h MA.Q4.a rfl,h MA.Q4.b rfl,h MA.Q4.c rfl,h MA.Q4.d rfl]
 by_cases q:x<N
 ·simp only [if_pos q]
 ·simp only [if_neg q]
theorem zX {B:Int} (hB:1<=B) (d:Nat->Int):∀ N,(∀ b,b<N -> -B<d b/\d b<B) -> -(B ^ N)<aN N (fun b=>B ^ b*d b)/\aN N (fun b=>B ^ b*d b)<B ^ N
 | 0,_=>⟨by show -(B ^ 0)<0; rw [Int.pow_zero]; decide,by show (0:Int)<B ^ 0; rw [Int.pow_zero]; decide⟩
 | N+1,h=>by
  obtain ⟨h1,h2⟩:=zX hB d N fun b hb=>h b (by omega)
  obtain ⟨d1,d2⟩:=h N (by omega)
  have p:0<=B ^ N:=Int.le_of_lt (Int.pow_pos (by omega))
  have u1:B ^ N*d N<=B ^ N*(B-1):=Int.mul_le_mul_of_nonneg_left (by omega) p
  have u2:B ^ N*(-(B-1))<=B ^ N*d N:=Int.mul_le_mul_of_nonneg_left (by omega) p
  have e:B ^ (N+1)=B ^ N*B:=Int.pow_succ B N
  rw [Int.mul_neg] at u2
  rw [Int.mul_sub,Int.mul_one] at u1 u2
  show -(B ^ (N+1))<aN N _+B ^ N*d N/\aN N _+B ^ N*d N<B ^ (N+1)
  rw [e]
  generalize B ^ N*B=Y at *
  generalize B ^ N=Z at *
  generalize Z*d N=W at *
  constructor <;> omega
theorem sS {B:Int} (hB:1<=B) (d:Nat->Int):∀ N,(∀ b,b<N -> -B<d b/\d b<B)->aN N (fun b=>B ^ b*d b)=0->∀ b,b<N->d b=0
 | 0,_,_,b,hb=>absurd hb (Nat.not_lt_zero _)
 | N+1,h,e,b,hb=>by
  have e:aN N (fun b=>B ^ b*d b)+B ^ N*d N=0:=e
  obtain ⟨h1,h2⟩:=zX hB d N fun b hb=>h b (by omega)
  have p:0<=B ^ N:=Int.le_of_lt (Int.pow_pos (by omega))
  have z:d N=0:=by
   rcases Int.lt_trichotomy (d N) 0 with q | q | q
   ·have u:B ^ N*d N<=B ^ N*(-1):=Int.mul_le_mul_of_nonneg_left (by omega) p
    rw [Int.mul_neg,Int.mul_one] at u
    omega
   ·exact q
   ·have u:B ^ N*1<=B ^ N*d N:=Int.mul_le_mul_of_nonneg_left (by omega) p
    rw [Int.mul_one] at u
    omega
  by_cases q:b=N
  ·subst q; exact z
  ·rw [z,Int.mul_zero,Int.add_zero] at e
   exact sS hB d N (fun b hb=>h b (by omega)) e b (by omega)
theorem jV {n M:Nat}:∀ (rs:List Row),(∀ r∈rs,r.ok n)->∀ {k p:Nat} {f:Nat->Nu},Bd k p f->k+rs.length<=M->MA.qr M n (cn n f rs)=MA.qr M n f
 | [],_,_,_,_,_,_=>rfl
 | r::rs,hr,k,p,f,hb,hk=>by
  simp only [List.length_cons] at hk
  show MA.qr M n (cn n (bK n f r) rs)=_
  rw [jV rs (fun q hq=>hr q (List.mem_cons_of_mem _ hq)) (hb.done n r) (by omega),MA.wO r (hr r List.mem_cons_self) f fun q=>by have:=(hb q).1; omega]
theorem vK (u v:Nu):PyData.eqv (bF u) (bF v)=true->u=v:=by
 obtain ⟨⟨a,b,c,d⟩,k⟩:=u
 obtain ⟨⟨a',b',c',d'⟩,k'⟩:=v
 show PyData.eqv (.tuple [.int a,.int b,.int c,.int d,.int (k:Int)]) (.tuple [.int a',.int b',.int c',.int d',.int (k':Int)])=true->_
 simp [PyData.eqv,PyData.eqvAll]
 intro h1 h2 h3 h4 h5
 exact ⟨⟨h1,h2,h3,h4⟩,by omega⟩
theorem nO (A B:Nat->Nu):∀ l:List Nat,PyData.eqvAll (l.map fun x=>bF (A x)) (l.map fun x=>bF (B x))=true->∀ x∈l,A x=B x
 | [],_,x,hx=>(nomatch hx)
 | a::l,h,x,hx=>by
  have h:(PyData.eqv (bF (A a)) (bF (B a))&&PyData.eqvAll (l.map fun x=>bF (A x)) (l.map fun x=>bF (B x)))=true:=h
  rw [Bool.and_eq_true] at h
  rcases List.mem_cons.mp hx with rfl | hx
  ·exact vK _ _ h.1
  ·exact nO A B l h.2 x hx
theorem kE (u:Nu):MA.Sh 1 (bF u):=MA.Sh.tuple fun x hx=>by
 simp only [List.mem_cons,List.not_mem_nil,or_false] at hx
 rcases hx with rfl | rfl | rfl | rfl | rfl <;> exact MA.Sh.int 0 _
theorem yq (n:Nat) (f:Nat->Nu):MA.Sh 2 (cK n f):=MA.Sh.tuple fun y hy=>by
 obtain ⟨p,_,rfl⟩:=List.mem_map.mp hy
 exact kE _
theorem eQ {d:D} {k:Nat} (h:MA.Sh k d) (hk:k<=64):xC d=true:=by
 show (d.canLay0&&decide (d.depth<=64))=true
 rw [h.1,decide_eq_true (Nat.le_trans h.2 hk)]; rfl
theorem Hl {n:Nat} {A B:Nat->Nu} (h:∃ x,x<2 ^ n/\A x≠B x):aX (cK n A) (cK n B)=some (.bool false):=by
 obtain ⟨x,hx,ne⟩:=h
 unfold aX
 rw [if_pos ⟨eQ (yq n A) (by decide),eQ (yq n B) (by decide)⟩]
 have:PyData.eqv (cK n A) (cK n B)=false:=by
  cases q:PyData.eqv (cK n A) (cK n B) with
  | false=>rfl
  | true=>exact absurd (nO A B (List.range (2 ^ n)) q x (List.mem_range.mpr hx)) ne
 rw [this]
theorem J3 {n:Nat} (hn:n<=6) (F:Nat->Nu) (z1:Sl) (e:Nat):jS [.fz (cK n F),z1,.fz (.int (e:Nat))]=some (.list ((List.range (2 ^ n)).map fun x=>bF (MA.cy e (F x)))):=by
 have sq:(2 ^ n:Nat)<=64:=(Nat.pow_le_pow_right (by decide) hn:2 ^ n<=2 ^ 6)
 refine d8 (h:=fun x=>bF (F x)) (k:=fun x=>bF (MA.cy e (F x))) (xs:=List.range (2 ^ n)) (by simp [cK]) (by rw [List.length_range]; omega) fun x _=>?_
 have:=mO hn (F x) e
 simp [eL,this]
theorem J2 (X Y:D) (L:List D) (e:Int) (b:Bool) (p:jS [.fz X,.fz Y,.fz (.int e)]=some (.list L)) (q:aX (.tuple L) Y=some (.bool b)):gu [.fz X,.fz Y,.fz (.int e)]=some (if b=true then .rt (.int e) else .nx,[.fz X,.fz Y,.fz (.int e)]):=by
 cases b <;> simp [gu,p,q]
open MA (aN)
theorem u8 {F:Nat->Int}:∀ (N x:Nat),(∀ p,p<N->0<=F p)->x<N->F x<=aN N F
 | 0,_,_,h=>absurd h (Nat.not_lt_zero _)
 | N+1,x,hn,h=>by
  have nn:∀ M,M<=N->0<=aN M F:=fun M=>by
   induction M with
   | zero=>intro _; exact Int.le_refl _
   | succ M ih=>intro hM; have:=ih (by omega); have:=hn M (by omega); show 0<=aN M F+F M; omega
  show F x<=aN N F+F N
  by_cases q:x=N
  ·subst q; have:=nn x (Nat.le_refl _); omega
  ·have:=u8 N x (fun p h=>hn p (by omega)) (by omega)
   have:=hn N (by omega)
   omega
theorem Ej:∀ (k:Nat) (s:MA.S2),(MA.S2.sc k s).p=2 ^ k*s.p:=fun k s=>by
 simp only [MA.S2.sc]
 exact Int.mul_comm _ _
noncomputable def pR (b:Nat):Nat->Nu:=fun x=>(un b x,0)
theorem mM (b:Nat):Bd 0 0 (pR b):=fun x=>⟨Nat.le_refl _,by
 show MA.Q4.Le (2 ^ 0) (un b x)
 unfold un
 split
 ·exact ⟨by decide,by decide,by decide,by decide⟩
 ·exact ⟨by decide,by decide,by decide,by decide⟩⟩
theorem uZ {n b:Nat} (as:List Row) (hr:∀ r∈as,r.ok n) (hb:b<2 ^ n) (x:Nat) (hx:x<2 ^ n):(MA.nrm (aF n (un b) as x)).p<=2 ^ swL as:=by
 have sl:=fU as
 obtain ⟨ra,_⟩:=Rl.all (M:=as.length) (n:=n) as 0 0 0 (pR b) (un b) (fun y=>rfl) (mM b) (by omega) (by omega)
 rw [Nat.zero_add] at ra
 have ns:aN (2 ^ n) (fun p=>(MA.nrm (MA.val as.length (cn n (pR b) as p))).p)=aN (2 ^ n) (fun p=>(MA.nrm (MA.val as.length (pR b p))).p):=congrArg MA.S2.p (jV (M:=as.length) as hr (mM b) (by omega))
 have rt:aN (2 ^ n) (fun p=>(MA.nrm (MA.val as.length (pR b p))).p)=2 ^ as.length:=by
  have e:=jn (fun _=>(2:Int) ^ as.length) b (2 ^ n)
  rw [if_pos hb] at e
  rw [<- e]
  refine MA.bA _ fun p _=>?_
  show (MA.nrm (MA.Q4.rtn as.length (un b p))).p=_
  rw [MA.ju,Ej]
  by_cases q:b=p
  ·rw [if_pos q]; unfold un; rw [if_pos q.symm]; show 2 ^ as.length*(1:Int)=_; rw [Int.mul_one]
  ·rw [if_neg q]; unfold un; rw [if_neg (Ne.symm q)]; show 2 ^ as.length*(0:Int)=_; rw [Int.mul_zero]
 have ge:=u8 (F:=fun p=>(MA.nrm (MA.val as.length (cn n (pR b) as p))).p) (2 ^ n) x (fun p _=>(MA.Fi _).1) hx
 rw [ns,rt] at ge
 rw [ra x,MA.ju,Ej] at ge
 have e:(2:Int) ^ as.length=2 ^ (as.length-swL as)*2 ^ swL as:=by rw [<- Int.pow_add,show as.length-swL as+swL as=as.length by omega]
 rw [e] at ge
 exact Int.le_of_mul_le_mul_left ge (Int.pow_pos (by decide))
theorem mS {u:Int} {s:Nat} (h:u*u<=2 ^ s):-(2*2 ^ (s / 2))<u/\u<2*2 ^ (s / 2):=by
 have e:(2:Int) ^ s<(2*2 ^ (s / 2))*(2*2 ^ (s / 2)):=by
  have e1:((2:Int)*2 ^ (s / 2))*(2*2 ^ (s / 2))=2 ^ (s / 2+s / 2+2):=by
   rw [Int.pow_add,Int.pow_add]
   generalize (2:Int) ^ (s / 2)=Z
   rw [show (2:Int) ^ 2=4 from rfl,Int.mul_assoc 2 Z,Int.mul_left_comm Z 2 Z]
   omega
  rw [e1]
  have:(2:Nat) ^ s<2 ^ (s / 2+s / 2+2):=Nat.pow_lt_pow_right (by decide) (by omega)
  exact_mod_cast this
 have zp:(0:Int)<2*2 ^ (s / 2):=Int.mul_pos (by decide) (Int.pow_pos (by decide))
 generalize (2:Int)*2 ^ (s / 2)=Z at *
 constructor
 ·apply Int.lt_of_not_ge
  intro q
  have:Z*Z<=(-u)*(-u):=Int.mul_le_mul (by omega) (by omega) (by omega) (by omega)
  rw [Int.neg_mul_neg] at this
  omega
 ·apply Int.lt_of_not_ge
  intro q
  have:Z*Z<=u*u:=Int.mul_le_mul q q (by omega) (by omega)
  omega
theorem kK {u:MA.Q4} {s:Nat} (h:(MA.nrm u).p<=2 ^ s):u.a*u.a<=2 ^ s/\u.b*u.b<=2 ^ s/\u.c*u.c<=2 ^ s/\u.d*u.d<=2 ^ s:=by
 have h:u.a*u.a+u.b*u.b+u.c*u.c+u.d*u.d<=2 ^ s:=h
 have nn:∀ z:Int,0<=z*z:=fun z=>by
  rcases Int.le_total 0 z with q | q
  ·exact Int.mul_nonneg q q
  ·exact Int.mul_nonneg_of_nonpos_of_nonpos q q
 have:=nn u.a; have:=nn u.b; have:=nn u.c; have:=nn u.d
 refine ⟨?_,?_,?_,?_⟩ <;> omega
open MA (aN)
theorem qT {s N:Nat} (u v:Nat->Int) (hu:∀ b,b<N->u b*u b<=2 ^ s) (hv:∀ b,b<N->v b*v b<=2 ^ s) (h:aN N (fun b=>((2 ^ ((s / 2+2)*b):Nat):Int)*u b)=aN N (fun b=>((2 ^ ((s / 2+2)*b):Nat):Int)*v b)):∀ b,b<N->u b=v b:=by
 have cB:∀ b:Nat,((2 ^ ((s / 2+2)*b):Nat):Int)=((2:Int) ^ (s / 2+2)) ^ b:=fun b=>by rw [Nat.pow_mul]; norm_cast
 have Be:(2:Int) ^ (s / 2+2)=4*2 ^ (s / 2):=by rw [Int.pow_add]; exact Int.mul_comm _ _
 have Zp:(0:Int)<2 ^ (s / 2):=Int.pow_pos (by decide)
 have bd:∀ b,b<N -> -((2:Int) ^ (s / 2+2))<u b + -v b/\u b + -v b<(2:Int) ^ (s / 2+2):=fun b hb=>by
  have c2:=mS (hu b hb)
  have t2:=mS (hv b hb)
  rw [Be]
  generalize (2:Int) ^ (s / 2)=Z at *
  omega
 have z:aN N (fun b=>((2:Int) ^ (s / 2+2)) ^ b*(u b + -v b))=0:=by
  rw [pX (fun b=>((2:Int) ^ (s / 2+2)) ^ b) u (fun b=>-v b) N,pW (fun b=>((2:Int) ^ (s / 2+2)) ^ b) v N]
  simp only [<- cB]
  rw [h]
  omega
 intro b hb
 have:=sS (B:=(2:Int) ^ (s / 2+2)) (by rw [Be]; omega) (fun b=>u b + -v b) N bd z b hb
 have this:u b + -v b=0:=this
 omega
noncomputable def sm (c:Int) (u:MA.Q4):MA.Q4:=⟨c*u.a,c*u.b,c*u.c,c*u.d⟩
theorem Ht (c:Int) (u:MA.Q4):MA.Q4.rt (sm c u)=sm c (MA.Q4.rt u):=by
 apply MA.Q4.ext' <;> simp only [MA.Q4.rt,sm,Int.mul_add,Int.mul_sub]
theorem yp (c:Int):∀ (k:Nat) (u:MA.Q4),MA.Q4.rtn k (sm c u)=sm c (MA.Q4.rtn k u)
 | 0,u=>rfl
 | k+1,u=>by rw [MA.Q4.rtn_succ,MA.Q4.rtn_succ,yp c k u,Ht]
noncomputable def sk:MA.Q4:=⟨1,0,0,0⟩
noncomputable def cw (a:Nat):Nat->Int:=fun b=>((2 ^ (a*b):Nat):Int)
noncomputable def q8 (a:Nat):Nat->Nu:=fun b=>(⟨((2 ^ (a*b):Nat):Int),0,0,0⟩,0)
theorem uN (a x:Nat):MA.dU (q8 a x):=⟨by simp [q8],fun z=>by simp [q8] at z⟩
noncomputable def fA (n a:Nat):Nat->Nu:=fun x=>if x<2 ^ n then q8 a x else (⟨0,0,0,0⟩,0)
theorem nV (n a x:Nat):MA.dU (fA n a x):=by
 unfold fA
 split
 ·exact uN a x
 ·exact ⟨by simp,fun z=>by simp at z⟩
theorem xu (n a x:Nat):(fA n a x).2=0:=by
 unfold fA
 split <;> rfl
theorem C6 {n a x:Nat} (hx:x<2 ^ n):(fA n a x).1=sm (cw a x) sk:=by
 unfold fA
 rw [if_pos hx]
 apply MA.Q4.ext' <;> simp [q8,sm,cw,sk]
theorem C5 (n a:Nat):(fun x=>(fA n a x).1)=fun y=>jj (cw a) (2 ^ n) fun b=>un b y:=funext fun y=>by
 have e:jj (cw a) (2 ^ n) (fun b=>un b y)=if y<2 ^ n then sm (cw a y) sk else ⟨0,0,0,0⟩:=Gw (cw a) (2 ^ n) y sk
 rw [e]
 by_cases h:y<2 ^ n
 ·rw [if_pos h,C6 h]
 ·rw [if_neg h]; unfold fA; rw [if_neg h]
theorem vW {n a:Nat} (hn:n<=4) (ha:a<=200):Bd 0 3200 (fA n a):=fun x=>by
 have sq:(2 ^ n:Nat)<=16:=(Nat.pow_le_pow_right (by decide) hn:2 ^ n<=2 ^ 4)
 unfold fA
 split
 ·rename_i h
  refine ⟨Nat.le_refl _,?_,Nat.zero_le _,Nat.zero_le _,Nat.zero_le _⟩
  show ((2 ^ (a*x):Nat):Int).natAbs<=_
  rw [Int.natAbs_natCast]
  exact Nat.pow_le_pow_right (by decide) (by have:a*x<=200*16:=Nat.mul_le_mul ha (by omega); omega)
 ·exact ⟨Nat.le_refl _,Nat.zero_le _,Nat.zero_le _,Nat.zero_le _,Nat.zero_le _⟩
theorem rG {n a M:Nat} (hn:n<=4) (ha:a<=200) (as:List Row) (hM:as.length<=M) (x:Nat):MA.val M (cn n (fA n a) as x)=MA.Q4.rtn (M-swL as) (jj (cw a) (2 ^ n) fun b=>aF n (un b) as x)/\(cn n (fA n a) as x).2<=as.length:=by
 have r0:Rl M 0 (fA n a) (fun y=>(fA n a y).1):=fun y=>by show MA.Q4.rtn (M-(fA n a y).2) (fA n a y).1=_; rw [xu]
 obtain ⟨ra,p,bd⟩:=Rl.all (M:=M) (n:=n) as 0 0 3200 _ _ r0 (vW hn ha) (by omega) (by omega)
 rw [Nat.zero_add] at ra bd
 refine ⟨(ra x).trans ?_,(bd x).1⟩
 rw [C5,tI]
theorem gG (c:Nat->Int) (N:Nat) (Q:Nat->MA.Q4):jj c (N+1) Q=MA.Q4.add (jj c N Q) (sm (c N) (Q N)):=rfl
theorem dZ:∀ k,MA.Q4.rtn k ⟨0,0,0,0⟩=⟨0,0,0,0⟩
 | 0=>rfl
 | k+1=>by rw [MA.Q4.rtn_succ,dZ k]; rfl
theorem rA (c:Nat->Int) (k:Nat) (Q:Nat->MA.Q4):∀ N,jj c N (fun b=>MA.Q4.rtn k (Q b))=MA.Q4.rtn k (jj c N Q)
 | 0=>(dZ k).symm
 | N+1=>by rw [gG,gG,MA.Q4.rtn_addQ,yp,rA c k Q N]
theorem lj (c:Nat->Int) {Q R:Nat->MA.Q4}:∀ N,(∀ b,b<N->Q b=R b)->jj c N Q=jj c N R
 | 0,_=>rfl
 | N+1,h=>by rw [gG,gG,lj c N fun b hb=>h b (by omega),h N (by omega)]
noncomputable def mx (as bs:List Row):Nat:=max (swL as) (swL bs)
noncomputable def il (n:Nat) (as bs:List Row) (b x:Nat):MA.Q4:=MA.Q4.rtn (mx as bs-swL as) (aF n (un b) as x)
noncomputable def Al (n:Nat) (as bs:List Row) (e:Nat):Prop:=∀ b,b<2 ^ n->∀ x,x<2 ^ n->MA.bL e (il n as bs b x)=il n bs as b x
theorem qx (as bs:List Row):mx as bs=mx bs as:=Nat.max_comm _ _
theorem pF {n:Nat} {as bs:List Row} (hr:∀ r∈as,r.ok n) {b x:Nat} (hb:b<2 ^ n) (hx:x<2 ^ n):(MA.nrm (il n as bs b x)).p<=2 ^ mx as bs:=by
 have le:swL as<=mx as bs:=Nat.le_max_left _ _
 have h:=uZ as hr hb x hx
 unfold il
 rw [MA.ju,Ej,show (2:Int) ^ mx as bs=2 ^ (mx as bs-swL as)*2 ^ swL as by rw [<- Int.pow_add]; congr 1; omega]
 exact Int.mul_le_mul_of_nonneg_left h (Int.le_of_lt (Int.pow_pos (by decide)))
theorem DS {n e:Nat} (hn:n<=4) {as bs:List Row} (ha:∀ r∈as,r.ok n) (hb:∀ r∈bs,r.ok n) (hl:as.length<=240) (hl':bs.length<=240) (x:Nat) (hx:x<2 ^ n):MA.cy e (cn n (fA n (mx as bs / 2+2)) as x)=cn n (fA n (mx as bs / 2+2)) bs x↔∀ b,b<2 ^ n->MA.bL e (il n as bs b x)=il n bs as b x:=by
 have sa:=fU as
 have sb:=fU bs
 have m1:swL as<=mx as bs:=Nat.le_max_left _ _
 have m2:swL bs<=mx as bs:=Nat.le_max_right _ _
 have m3:mx as bs<=240:=Nat.max_le.mpr ⟨by omega,by omega⟩
 have m4:mx as bs<=as.length+bs.length:=Nat.max_le.mpr ⟨by omega,by omega⟩
 obtain ⟨va,ka⟩:=rG (M:=as.length+bs.length) hn (a:=mx as bs / 2+2) (by omega) as (by omega) x
 obtain ⟨vb,kb⟩:=rG (M:=as.length+bs.length) hn (a:=mx as bs / 2+2) (by omega) bs (by omega) x
 have sp:∀ {s:Nat},s<=mx as bs->∀ z,MA.Q4.rtn (as.length+bs.length-s) z=MA.Q4.rtn (as.length+bs.length-mx as bs) (MA.Q4.rtn (mx as bs-s) z):=fun h z=>by rw [<- MA.Q4.rtn_add]; congr 1; omega
 have va':MA.val (as.length+bs.length) (MA.cy e (cn n (fA n (mx as bs / 2+2)) as x))=MA.Q4.rtn (as.length+bs.length-mx as bs) (jj (cw (mx as bs / 2+2)) (2 ^ n) fun b=>MA.bL e (il n as bs b x)):=by
  rw [MA.fN,MA.j5,va,sp m1,MA.eO,<- rA,<- kA]
  rfl
 have vb':MA.val (as.length+bs.length) (cn n (fA n (mx as bs / 2+2)) bs x)=MA.Q4.rtn (as.length+bs.length-mx as bs) (jj (cw (mx as bs / 2+2)) (2 ^ n) fun b=>il n bs as b x):=by
  rw [vb,sp m2,<- rA,qx as bs]
  rfl
 constructor
 ·intro h
  have q:=MA.Q4.rtn_inj (va'.symm.trans ((congrArg (MA.val (as.length+bs.length)) h).trans vb'))
  have na:=fun b hb=>kK (s:=mx as bs) (u:=MA.bL e (il n as bs b x)) (by rw [MA.qt]; exact pF (bs:=bs) ha hb hx)
  have nb:=fun b hb'=>kK (s:=mx as bs) (u:=il n bs as b x) (by rw [qx]; exact pF (bs:=as) hb hb' hx)
  intro b hb'
  exact MA.Q4.ext' (qT _ _ (fun b h=>(na b h).1) (fun b h=>(nb b h).1) (congrArg MA.Q4.a q) b hb') (qT _ _ (fun b h=>(na b h).2.1) (fun b h=>(nb b h).2.1) (congrArg MA.Q4.b q) b hb') (qT _ _ (fun b h=>(na b h).2.2.1) (fun b h=>(nb b h).2.2.1) (congrArg MA.Q4.c q) b hb') (qT _ _ (fun b h=>(na b h).2.2.2) (fun b h=>(nb b h).2.2.2) (congrArg MA.Q4.d q) b hb')
 ·intro h
  refine MA.pQ (M:=as.length+bs.length) (MA.jL e (gR as (nV n _) x)) (gR bs (nV n _) x) (Nat.le_trans ka (by omega)) (Nat.le_trans kb (by omega)) ?_
  rw [va',vb',lj _ _ h]
theorem DZ {n:Nat} (A B:Nat->Nu) (b:Bool) (h:b=true↔∀ x,x<2 ^ n->A x=B x):aX (cK n A) (cK n B)=some (.bool b):=by
 cases b with
 | true=>
  have e:cK n A=cK n B:=by
   unfold cK
   congr 1
   exact List.map_congr_left fun x hx=>by rw [h.mp rfl x (List.mem_range.mp hx)]
  rw [e]
  exact vL (yq n _) (by decide)
 | false=>
  refine Hl ?_
  apply Classical.byContradiction
  intro no
  have:false=true:=h.mpr fun x hx=>Classical.byContradiction fun q=>no ⟨x,hx,q⟩
  cases this
theorem ou (rows:Sl) {n:Nat} (hn:n<=6):∀ (rs:List Row),(∀ r∈rs,r.ok n)->∀ (k p:Nat) (f:Nat->Nu),Bd k p f->k+rs.length<=249->p+250*rs.length<=80000->∀ z,∃ y,loop (gN 2) eG (rs.map rowD) [.fz (cK n f),rows,z]=some (.nx,[.fz (cK n (cn n f rs)),rows,y])
 | [],_,_,_,_,_,_,_,z=>⟨z,rfl⟩
 | r::rs,hr,k,p,f,hb,hk,hp,z=>by
  simp only [List.length_cons] at hk hp
  have h1:=vN hn f (fun x=>by have:=(hb x).1; omega) (fun x=>(hb x).2.mono (Nat.pow_le_pow_right (by decide) (by omega))) r (hr r List.mem_cons_self)
  obtain ⟨y,e⟩:=ou rows hn rs (fun q hq=>hr q (List.mem_cons_of_mem _ hq)) (k+1) (p+k+1) (bK n f r) (hb.done n r) (by omega) (by omega) (.fz (rowD r))
  exact ⟨y,by rw [List.map_cons,cv (by rfl) (Am rows _ _ _ h1)]; exact e⟩
theorem An {n:Nat} (hn:n<=6) (rs:List Row) (hr:∀ r∈rs,r.ok n) {k p:Nat} {f:Nat->Nu} (hb:Bd k p f) (hk:k+rs.length<=249) (hp:p+250*rs.length<=80000):cg [cK n f,.tuple (rs.map rowD)]=some (cK n (cn n f rs)):=by
 obtain ⟨y,e⟩:=ou (.fz (.tuple (rs.map rowD))) hn rs hr k p f hb hk hp .un
 exact Ak _ _ _ _ y rfl e
theorem L8 {n:Nat}:∀ (rs:List Row) {k p:Nat} {f:Nat->Nu},Bd k p f->k+rs.length<=249->Bd (k+rs.length) (p+250*rs.length) (cn n f rs)
 | [],_,_,_,hb,_=>hb
 | r::rs,k,p,f,hb,hk=>by
  simp only [List.length_cons] at hk ⊢
  have h:=L8 rs (n:=n) (hb.done n r) (by omega)
  exact fun x=>⟨by have:=(h x).1; show (cn n (bK n f r) rs x).2<=_; omega,(h x).2.mono (Nat.pow_le_pow_right (by decide) (by omega))⟩
theorem Kq (w:Nat) (h:w<=100000):dO (.int 1) (.int (w:Int))=some (.int ((2 ^ w:Nat):Int)):=by
 have hb:Builtin.Int.intBits 1=1:=by decide +kernel
 have e:=j8 (i:=1) (j:=(w:Int)) (by omega) (by omega)
 rw [e]
 simp
theorem Lk (C A:D) (z2:Sl) (n M:Int) (R:List D) (c0:av C (.int 0)=some (.int n)) (sh:dO (.int 1) (.int n)=some (.int M)) (rg:bi [.int M]=some R):(oL (ac (o2 (oC (.int 1)) (o2 (oV 0) (oC (.int 0)) av) dO) (ai)) bi) [.fz C,.fz A,z2]=some R:=by
 simp [c0,sh,rg]
theorem Ll (a b:Nat) (ha:a<=200) (hb:b<=100):(VL.os (ac (o2 (oC (.int 1)) (o2 (oV 1) (oV 0) fV) dO) (ac (oC (.int 0)) (ac (oC (.int 0)) (ac (oC (.int 0)) (ac (oC (.int 0)) (ai)))))) aO) [.fz (.int (b:Nat)),.fz (.int (a:Nat))]=some (bF (q8 a b)):=by
 have mk:IntMulOk (a:Int) (b:Int):=.of_left (Nat.le_trans (MA.mH (m:=8) (by omega)) (by decide))
 have m:fV (.int (a:Nat)) (.int (b:Nat))=some (.int ((a*b:Nat):Int)):=by rw [sC mk]; norm_cast
 have le:a*b<=200*100:=Nat.mul_le_mul ha hb
 have s:=Kq (a*b) (by omega)
 simp only [VL.os,ac,ai,o2,oV,oC,Hu,List.getElem?_cons_zero,List.getElem?_cons_succ,Option.bind_some,m,s]
 rfl
theorem Lj {n:Nat} (hn:n<=4) (C:D) (a:Nat) (ha:a<=200) (z2:Sl) (c0:av C (.int 0)=some (.int (n:Nat))):fq [.fz C,.fz (.int (a:Nat)),z2]=some (.list ((List.range (2 ^ n)).map fun b=>bF (q8 a b))):=by
 have sq:(2 ^ n:Nat)<=16:=(Nat.pow_le_pow_right (by decide) hn:2 ^ n<=2 ^ 4)
 exact vP (N:=2 ^ n) (y:=fun b=>bF (q8 a b)) (Lk C _ z2 n _ _ c0 (wq n (by omega)) (en n (by omega))) (by omega) fun b hb=>Ll a b ha (by omega)
theorem Li (C A R Y:D) (L:List D) (c1:av C (.int 1)=some R) (p:∀ z2,fq [.fz C,.fz A,z2]=some (.list L)) (h:cg [.tuple L,R]=some Y):bq [C,A]=some Y:=by
 simp [bq,runB,fY,aw,c1,p,h]
theorem Bb (n a:Nat):cK n (fA n a)=.tuple ((List.range (2 ^ n)).map fun b=>bF (q8 a b)):=by
 unfold cK
 congr 1
 exact List.map_congr_left fun b hb=>by unfold fA; rw [if_pos (List.mem_range.mp hb)]
noncomputable def eY (n:Nat) (rs:List Row):D:=.tuple [.int (n:Nat),.tuple (rs.map rowD)]
theorem vQ {n:Nat} (hn:n<=4) (rs:List Row) (hr:∀ r∈rs,r.ok n) (hl:rs.length<=240) (a:Nat) (ha:a<=200):bq [eY n rs,.int (a:Nat)]=some (cK n (cn n (fA n a) rs)):=by
 refine Li _ _ _ _ _ (DR _ _ _) (fun z2=>Lj hn _ a ha z2 (at0 _ _)) ?_
 rw [<- Bb]
 exact An (by omega) rs hr (vW hn ha) (by omega) (by omega)
theorem mX (r:Row):∃ s:Str,av (rowD r) (.int 0)=some (.str s)/\aX (.str s) (.str "swing")=some (.bool (isSw r))/\i6 false (.str s) (.tuple [.str "swing",.str "turn",.str "flip",.str "tie",.str "sign",.str "cross"])=some (.bool true):=by
 cases r <;> exact ⟨_,at0 _ _,by simp [isSw],by simp⟩
theorem sf (rs:List Row) (hl:rs.length<=100000):cG [.tuple (rs.map rowD)]=some (.bool true):=by
 have e:kg [.fz (.tuple (rs.map rowD))]=some (.list (rs.map fun _=>.bool true)):=d8 (k:=fun _=>.bool true) (h:=rowD) (by simp) (by omega) fun r _=>by
  obtain ⟨s,h0,_,h3⟩:=mX r
  simp [h0,h3]
 have a:=tz (fun _:Row=>true) rs
 have t:(rs.all fun _=>true)=true:=List.all_eq_true.mpr fun _ _=>rfl
 simp [cG,runB,jd,aw,e,a]
theorem fw (n:Nat) (rs:List Row) (hl:rs.length<=100000):cV [eY n rs]=some (.bool true):=by
 have h:=sf rs hl
 have c:av (eY n rs) (.int 1)=some (.tuple (rs.map rowD)):=DR _ _ _
 simp [cV,runB,jX,aw,c,h]
theorem Ez (C1 C2:D) (n:Int) (p1:cV [C1]=some (.bool true)) (p2:cV [C2]=some (.bool true)) (c1:av C1 (.int 0)=some (.int n)) (c2:av C2 (.int 0)=some (.int n)):aU [C1,C2]=some .none:=by
 have ne:neD (.int n) (.int n)=some (.bool false):=by
  have:neD (.int n) (.int n)=some (.bool (!(n==n))):=rfl
  rw [this,beq_self_eq_true]; rfl
 simp [aU,runB,gz,aw,p1,p2,c1,c2,ne]
theorem xZ (rs:List Row) (hl:rs.length<=1000):cI [.fz (.tuple (rs.map rowD))]=some (.list ((rs.filter isSw).map rowD)):=
 jx (h:=rowD) (b:=isSw) (by simp) (by omega) (fun r _=>by
  obtain ⟨s,h0,h1,_⟩:=mX r
  simp [eL,h0,h1]) fun r _ _=>by simp
theorem J9 (C1 C2 R1 R2:D) (L1 L2:List D) (z2 z3:Sl) (c1:av C1 (.int 1)=some R1) (c2:av C2 (.int 1)=some R2) (p1:cI [.fz R1]=some (.list L1)) (p2:cI [.fz R2]=some (.list L2)):gX [.fz C1,.fz C2,z2,z3]=some (.list [.int L1.length,.int L2.length]):=by
 have:=d8 (fi:=oI (VL.os (ac (o2 (oV 0) (oC (.int 1)) av) (ac (o2 (oV 1) (oC (.int 1)) av) (ai))) aO) eJ) (caps:=[]) (fe:=VL.os (ac (cI) (ai)) bf) (δ:=[.fz C1,.fz C2,z2,z3]) (h:=fun k:Bool=>if k then R2 else R1) (k:=fun k:Bool=>if k then PyData.int L2.length else .int L1.length) (xs:=[false,true]) (by simp [c1,c2]) (by simp) (fun x _=>by
  cases x
  ·show (VL.os (ac (cI) (ai)) bf) [.fz R1]=_
   simp [p1]
  ·show (VL.os (ac (cI) (ai)) bf) [.fz R2]=_
   simp [p2])
 exact this
theorem J8 (C1 C2 K1 K2 R:D) (a b s:Int) (p:∀ z2 z3,gX [.fz C1,.fz C2,z2,z3]=some (.list [.int a,.int b])) (hs:(if b>a then b else a)=s) (k1:bq [C1,.int (s / 2+2)]=some K1) (k2:bq [C2,.int (s / 2+2)]=some K2) (t:eH [K1,K2]=some R):bH [C1,C2]=some R:=by
 have m:pq [.list [.int a,.int b]]=some (.int s):=by rw [<- hs]; rfl
 simp [bH,runB,iJ,aw,p,m,k1,k2,t]
noncomputable def kO (ok:Nat->Bool):Nat->Nat->Option Nat
 | _,0=>none
 | i,m+1=>if ok i=true then some i else kO ok (i+1) m
noncomputable def outF:Option Nat->Fl
 | some e=>.rt (.int (e:Nat))
 | none=>.nx
noncomputable def outD:Option Nat->D
 | some e=>.int (e:Nat)
 | none=>.none
theorem pB {g:D->Dv->Option Dv} {b:Sf} (ok:Nat->Bool) (I:Dv->Prop) (M:Nat) (st:∀ i,i<M->∀ δ,I δ -> ∃ δ1 δ2,g (.int (i:Nat)) δ = some δ1/\b δ1=some (if ok i=true then .rt (.int (i:Nat)) else .nx,δ2)/\I δ2):∀ (m i:Nat) (δ:Dv),i+m<=M->I δ -> ∃ δ',loop g b ((List.range' i m).map fun k:Nat=>PyData.int (0+(k:Int))) δ = some (outF (kO ok i m),δ')
 | 0,i,δ,_,_=>⟨δ,rfl⟩
 | m+1,i,δ,h,hI=>by
  obtain ⟨δ1,δ2,e1,e2,e3⟩:=st i (by omega) δ hI
  rw [List.range'_succ,List.map_cons,Int.zero_add]
  cases q:ok i with
  | true=>
   rw [if_pos q] at e2
   refine ⟨δ2,?_⟩
   rw [nC e1 e2]
   show _=some (outF (if ok i=true then _ else _),δ2)
   rw [if_pos q]
   rfl
  | false=>
   rw [if_neg (by rw [q]; decide)] at e2
   obtain ⟨δ',e⟩:=pB ok I M st m (i+1) δ2 (by omega) e3
   refine ⟨δ',?_⟩
   rw [cv e1 e2,e]
   show _=some (outF (if ok i=true then _ else _),δ')
   rw [if_neg (by rw [q]; decide)]
theorem kN {ok:Nat->Bool}:∀ {m i e:Nat},kO ok i m=some e->ok e=true/\i<=e/\e<i+m
 | 0,i,e,h=>by cases h
 | m+1,i,e,h=>by
  have h:(if ok i=true then some i else kO ok (i+1) m)=some e:=h
  by_cases q:ok i=true
  ·rw [if_pos q] at h; cases h; exact ⟨q,Nat.le_refl _,by omega⟩
  ·rw [if_neg q] at h
   obtain ⟨a,b,c⟩:=kN h
   exact ⟨a,by omega,by omega⟩
theorem pC {ok:Nat->Bool}:∀ {m i:Nat},kO ok i m=none->∀ e,i<=e->e<i+m->ok e=false
 | 0,i,_,e,h1,h2=>by omega
 | m+1,i,h,e,h1,h2=>by
  have h:(if ok i=true then some i else kO ok (i+1) m)=none:=h
  by_cases q:ok i=true
  ·rw [if_pos q] at h; cases h
  ·rw [if_neg q] at h
   by_cases z:e=i
   ·subst z; exact Bool.eq_false_iff.mpr q
   ·exact pC h e (by omega) (by omega)
noncomputable def JU (n:Nat) (F G:Nat->Nu) (e:Nat):Bool:=@decide (∀ x,x<2 ^ n->MA.cy e (F x)=G x) (Classical.propDecidable _)
noncomputable def De (n:Nat) (as bs:List Row) (e:Nat):Bool:=@decide (Al n as bs e) (Classical.propDecidable _)
theorem alB_iff {n:Nat} {as bs:List Row} {e:Nat}:De n as bs e=true↔Al n as bs e:=@decide_eq_true_iff _ (Classical.propDecidable _)
theorem J4 (X Y:D) (L:List D) (o:Option Nat) (δ:Dv) (rg:bi [.int 8]=some L) (lp:loop (gN 2) gu L [.fz X,.fz Y,.un]=some (outF o,δ)):eH [X,Y]=some (outD o):=by
 cases o <;> simp [outF,outD] at lp ⊢ <;> simp [eH,runB,kY,aw,rg,lp]
theorem xO {n:Nat} (hn:n<=6) (F G:Nat->Nu):eH [cK n F,cK n G]=some (outD (kO (JU n F G) 0 8)):=by
 have st:∀ a:Nat,a<8->∀ δ,(∃ z,δ = [.fz (cK n F),.fz (cK n G),z])->∃ δ1 δ2,gN 2 (.int (a:Nat)) δ = some δ1/\gu δ1=Option.some (if JU n F G a=true then .rt (.int (a:Nat)) else .nx,δ2)/\∃ z,δ2=[.fz (cK n F),.fz (cK n G),z]:=fun a ha δ hδ=>by
  obtain ⟨z,rfl⟩:=hδ
  exact ⟨_,_,rfl,J2 _ _ _ _ _ (J3 hn F _ a) (DZ (fun x=>MA.cy a (F x)) G _ (@decide_eq_true_iff _ (Classical.propDecidable _))),_,rfl⟩
 obtain ⟨δ',lp⟩:=pB (JU n F G) (fun δ=>∃ z,δ = [.fz (cK n F),.fz (cK n G),z]) 8 st 8 0 [.fz (cK n F),.fz (cK n G),.un] (by omega) ⟨.un,rfl⟩
 exact J4 _ _ _ _ δ' rfl lp
theorem mw:∀ rs:List Row,(rs.filter isSw).length=swL rs
 | []=>rfl
 | r::rs=>by
  have ih:=mw rs
  show _=swn r+swL rs
  rw [List.filter_cons]
  cases r <;> simp [isSw,swn,ih] <;> omega
theorem o7 {n:Nat} (hn:n<=4) {as bs:List Row} (ha:∀ r∈as,r.ok n) (hb:∀ r∈bs,r.ok n) (hl:as.length<=240) (hl':bs.length<=240):bH [eY n as,eY n bs]=some (outD (kO (De n as bs) 0 8)):=by
 have sa:=fU as
 have sb:=fU bs
 have m3:mx as bs<=240:=Nat.max_le.mpr ⟨by omega,by omega⟩
 have t:=xO (n:=n) (by omega) (cn n (fA n (mx as bs / 2+2)) as) (cn n (fA n (mx as bs / 2+2)) bs)
 have e:JU n (cn n (fA n (mx as bs / 2+2)) as) (cn n (fA n (mx as bs / 2+2)) bs)=De n as bs:=funext fun e=>by
  apply Bool.eq_iff_iff.mpr
  rw [alB_iff]
  refine (@decide_eq_true_iff _ (Classical.propDecidable _)).trans ⟨fun h b hb' x hx=>(DS hn ha hb hl hl' x hx).mp (h x hx) b hb',fun h x hx=>(DS hn ha hb hl hl' x hx).mpr fun b hb'=>h b hb' x hx⟩
 rw [e] at t
 refine J8 _ _ _ _ _ _ _ (mx as bs:Nat) (fun z2 z3=>J9 _ _ _ _ _ _ z2 z3 (DR _ _ _) (DR _ _ _) (xZ as (by omega)) (xZ bs (by omega))) ?_ (vQ hn as ha hl (mx as bs / 2+2) (by omega)) (vQ hn bs hb hl' (mx as bs / 2+2) (by omega)) t
 rw [List.length_map,List.length_map,mw,mw]
 unfold mx
 split <;> omega
noncomputable def gI (u:MA.Q4):D:=.tuple [.int u.a,.int u.b,.int u.c,.int u.d]
noncomputable def j1 (n:Nat) (q:Nat->MA.Q4):List D:=(List.range (2 ^ n)).map fun x=>gI (q x)
noncomputable def qD (n:Nat) (q:Nat->MA.Q4):D:=.list (j1 n q)
theorem qz (n:Nat) (q:Nat->MA.Q4):(j1 n q).length=2 ^ n:=by unfold j1; rw [List.length_map,List.length_range]
theorem lr {n:Nat} {q:Nat->MA.Q4} {p:Nat} {i:Int} (hi:i=p) (hp:p<2 ^ n):av (qD n q) (.int i)=some (gI (q p)):=dM (j:=p) hi (by simp [j1,hp])
theorem vi {N:Nat} (F:Nat->D) {p:Nat} (hp:p<N) (v:D):((List.range N).map F).set p v=(List.range N).map fun x=>if x=p then v else F x:=by
 apply List.ext_getElem?
 intro i
 rw [List.getElem?_set,List.length_map,List.length_range,List.getElem?_map,List.getElem?_map]
 by_cases h:p=i
 ·subst h
  rw [if_pos rfl,if_pos hp,List.getElem?_range hp]
  show some v=some (if p=p then v else F p)
  rw [if_pos rfl]
 ·rw [if_neg h]
  by_cases hi:i<N
  ·rw [List.getElem?_range hi]
   show some (F i)=some (if i=p then v else F i)
   rw [if_neg (Ne.symm h)]
  ·rw [List.getElem?_eq_none (by rw [List.length_range]; omega)]
   rfl
theorem vy {n:Nat} (q:Nat->MA.Q4) {p:Nat} (hp:p<2 ^ n) (v:MA.Q4):(j1 n q).set p (gI v)=j1 n (fun x=>if x=p then v else q x):=by
 unfold j1
 rw [vi _ hp]
 exact List.map_congr_left fun x _=>(apply_ite gI (x=p) v (q x)).symm
theorem B1 (X:D) (a b c d:Int) (z1 z2:Sl) (x0:av X (.int 0)=some (.int a)) (x1:av X (.int 1)=some (.int b)) (x2:av X (.int 2)=some (.int c)) (x3:av X (.int 3)=some (.int d)):dE [.fz X,z1,z2]=some (.nx,[.fz (.tuple [.int (-d),.int a,.int b,.int c]),z1,z2]):=by
 simp [dE,x0,x1,x2,x3]
theorem xR:∀ (n:Nat) (u:MA.Q4),MA.bL n (MA.Q4.tn u)=MA.bL (n+1) u
 | 0,u=>rfl
 | n+1,u=>by show MA.Q4.tn (MA.bL n (MA.Q4.tn u))=MA.Q4.tn (MA.bL (n+1) u); rw [xR n u]
theorem nA (z1:Sl):∀ (L:List D) (u:MA.Q4) (z2:Sl),∃ y2,loop (gN 2) dE L [.fz (gI u),z1,z2]=some (.nx,[.fz (gI (MA.bL L.length u)),z1,y2])
 | [],u,z2=>⟨z2,rfl⟩
 | x::L,u,z2=>by
  obtain ⟨y2,e⟩:=nA z1 L (MA.Q4.tn u) (.fz x)
  refine ⟨y2,?_⟩
  rw [cv (δ1:=[.fz (gI u),z1,.fz x]) (δ2:=[.fz (gI (MA.Q4.tn u)),z1,.fz x]) (by simp) (B1 (gI u) u.a u.b u.c u.d z1 (.fz x) rfl rfl rfl rfl),e,xR]
  rfl
theorem wT (X Y:D) (e f:Int) (L:List D) (y2:Sl) (hf:e % 8=f) (hN:bi [.int f]=some L) (lp:loop (gN 2) dE L [.fz X,.fz (.int e),.un]=some (.nx,[.fz Y,.fz (.int e),y2])):aZ [X,.int e]=some Y:=by
 subst hf
 simp [aZ,runB,g8,aw,hN,lp]
theorem jU (u:MA.Q4) (e:Nat):aZ [gI u,.int (e:Nat)]=some (gI (MA.bL e u)):=by
 have hN:bi [.int ((e % 8:Nat):Int)]=some (iW 0 (e % 8)):=jr (j:=((e % 8:Nat):Int)) (by omega) (by omega)
 obtain ⟨y2,lp⟩:=nA (.fz (.int (e:Nat))) (iW 0 (e % 8)) u .un
 have:(iW 0 (e % 8)).length=e % 8:=by unfold iW; rw [List.length_map,List.length_range]
 rw [this,MA.j5] at lp
 exact wT _ _ _ _ _ y2 (by omega) hN lp
theorem zu (X:D) (a b c d:Int) (z1 z2:Sl) (x0:av X (.int 0)=some (.int a)) (x1:av X (.int 1)=some (.int b)) (x2:av X (.int 2)=some (.int c)) (x3:av X (.int 3)=some (.int d)):dF [.fz X,z1,z2]=some (.nx,[.fz (.tuple [.int (b-d),.int (a+c),.int (b+d),.int (c-a)]),z1,z2]):=by
 simp [dF,x0,x1,x2,x3]
theorem lB (z1:Sl):∀ (L:List D) (u:MA.Q4) (z2:Sl),∃ y2,loop (gN 2) dF L [.fz (gI u),z1,z2]=some (.nx,[.fz (gI (MA.Q4.rtn L.length u)),z1,y2])
 | [],u,z2=>⟨z2,rfl⟩
 | x::L,u,z2=>by
  obtain ⟨y2,e⟩:=lB z1 L (MA.Q4.rt u) (.fz x)
  refine ⟨y2,?_⟩
  rw [cv (δ1:=[.fz (gI u),z1,.fz x]) (δ2:=[.fz (gI (MA.Q4.rt u)),z1,.fz x]) (by simp) (zu (gI u) u.a u.b u.c u.d z1 (.fz x) rfl rfl rfl rfl),e]
  rfl
theorem wV (X Y:D) (e:Int) (L:List D) (y2:Sl) (hN:bi [.int e]=some L) (lp:loop (gN 2) dF L [.fz X,.fz (.int e),.un]=some (.nx,[.fz Y,.fz (.int e),y2])):bN [X,.int e]=some Y:=by
 simp [bN,runB,hE,aw,hN,lp]
theorem nB (u:MA.Q4) (e:Nat) (he:e<=1000000):bN [gI u,.int (e:Nat)]=some (gI (MA.Q4.rtn e u)):=by
 have hN:bi [.int ((e:Nat):Int)]=some (iW 0 e):=jr (j:=((e:Nat):Int)) (by omega) (by omega)
 obtain ⟨y2,lp⟩:=lB (.fz (.int (e:Nat))) (iW 0 e) u .un
 have:(iW 0 e).length=e:=by unfold iW; rw [List.length_map,List.length_range]
 rw [this] at lp
 exact wV _ _ _ _ y2 hN lp
theorem rY {n j:Nat} (hj:j<n) (hn:n<=6):dO (.int 1) (.int ((n:Int)-1-(j:Int)))=some (.int (wt n j:Nat)):=by
 have h:=wq (n-1-j) (by omega)
 rw [show ((n:Int)-1-(j:Int))=((n-1-j:Nat):Int) by omega,h]
 rfl
theorem Ic (a b:Bool):neD (.bool a) (.bool b)=some (.bool (a != b)):=by cases a <;> cases b <;> rfl
theorem F3 (R:D) (n p j w k:Int) (r0:av R (.int 0)=some (.str "flip")) (r1:av R (.int 1)=some (.int j)) (s1:dO (.int 1) (.int (n-1-j))=some (.int w)) (hx:Builtin.bitXor p w=k):bh [.int p,R,.int n]=some (.int k):=by
 simp [bh,runB,cZ,aw,r0,r1,s1,hx]
section
variable (R:D) (p n i j w1 w2 m1 m2:Int) (r1:av R (.int 1)=some (.int i)) (r2:av R (.int 2)=some (.int j)) (s1:dO (.int 1) (.int (n-1-i))=some (.int w1)) (s2:dO (.int 1) (.int (n-1-j))=some (.int w2)) (b1:Builtin.bitAnd p w1=m1) (b2:Builtin.bitAnd p w2=m2)
include r1 r2 s1 s2 b1
theorem G3 (k:Int) (r0:av R (.int 0)=some (.str "tie")) (hx:(if 0<m1 then Builtin.bitXor p w2 else p)=k):bh [.int p,R,.int n]=some (.int k):=by
 subst hx
 by_cases h:0<m1
 ·simp [bh,runB,cZ,aw,r0,r1,r2,s1,s2,b1,h]
 ·simp [bh,runB,cZ,aw,r0,r1,r2,s1,s2,b1,h]
include b2
theorem CU (k W:Int) (r0:av R (.int 0)=some (.str "cross")) (ho:Builtin.bitOr w1 w2=W) (hx:(if (decide (0<m1) != decide (0<m2))=true then Builtin.bitXor p W else p)=k):bh [.int p,R,.int n]=some (.int k):=by
 subst hx
 have nb:=Ic (decide (0<m1)) (decide (0<m2))
 cases h:(decide (0<m1) != decide (0<m2)) with
 | true=>
  rw [h] at nb
  simp [bh,runB,cZ,aw,r0,r1,r2,s1,s2,b1,b2,ho,nb]
 | false=>
  rw [h] at nb
  simp [bh,runB,cZ,aw,r0,r1,r2,s1,s2,b1,b2,ho,nb]
end
theorem iH {n j p:Nat} (hn:n<=6) (hj:j<n) (hp:p<2 ^ n):Builtin.bitAnd (p:Int) (wt n j:Nat)=((wt n j*aG (wt n j) p:Nat):Int):=by
 rw [MA.tq,(j0 hn hj hp).1]
theorem bit_pos {n j p:Nat}:(0:Int)<((wt n j*aG (wt n j) p:Nat):Int)↔aG (wt n j) p≠0:=by
 have hw:=MA.aR n j
 have l:=MA.bR (wt n j) p
 rcases (by omega:aG (wt n j) p=0\/aG (wt n j) p=1) with h | h
 ·rw [h]; simp
 ·rw [h]; simp; omega
theorem qY {n j p:Nat} (hn:n<=6) (hj:j<n) (hp:p<2 ^ n):Builtin.bitXor (p:Int) (wt n j:Nat)=((flp (wt n j) p:Nat):Int):=by
 rw [MA.xr,(j0 hn hj hp).2]
noncomputable def Iy:Row->Bool
 | .flip _=>true
 | .tie _ _=>true
 | .cross _ _=>true
 | _=>false
theorem wZ {n:Nat} (hn:n<=6) {r:Row} (hr:r.ok n) (hp:Iy r=true) {p:Nat} (h:p<2 ^ n):bh [.int (p:Nat),rowD r,.int (n:Nat)]=some (.int (from_ n r p:Nat)):=by
 cases r with
 | swing j=>cases hp
 | turn j e=>cases hp
 | sign i j=>cases hp
 | flip j=>exact F3 _ _ _ j _ _ rfl rfl (rY hr hn) (qY hn hr h)
 | tie i j=>
  refine G3 _ _ _ i j _ _ _ rfl rfl (rY hr.1 hn) (rY hr.2.1 hn) (iH hn hr.1 h) _ rfl ?_
  rw [qY hn hr.2.1 h]
  show _=((if aG (wt n i) p=0 then p else flp (wt n j) p:Nat):Int)
  by_cases q:aG (wt n i) p=0
  ·rw [if_pos q,if_neg (fun z=>bit_pos.mp z q)]
  ·rw [if_neg q,if_pos (bit_pos.mpr q)]
 | cross i j=>
  have a2:=kt hn hr.1 hr.2.1 hr.2.2 h
  have ho:Builtin.bitOr (wt n i:Nat) (wt n j:Nat)=((wt n i+wt n j:Nat):Int):=by rw [MA.JS,a2.1]
  refine CU _ _ _ i j _ _ _ _ rfl rfl (rY hr.1 hn) (rY hr.2.1 hn) (iH hn hr.1 h) (iH hn hr.2.1 h) _ _ rfl ho ?_
  rw [MA.xr,a2.2.2]
  show _=((if aG (wt n i) p=aG (wt n j) p then p else flp (wt n j) (flp (wt n i) p):Nat):Int)
  have l1:=MA.bR (wt n i) p
  have l2:=MA.bR (wt n j) p
  have d:∀ j,decide ((0:Int)<((wt n j*aG (wt n j) p:Nat):Int))=decide (aG (wt n j) p≠0):=fun j=>decide_eq_decide.mpr bit_pos
  rw [d,d]
  by_cases q:aG (wt n i) p=aG (wt n j) p
  ·rw [if_pos q,q]
   simp
  ·rw [if_neg q]
   rw [if_pos]
   rcases (by omega:aG (wt n i) p=0\/aG (wt n i) p=1) with h1 | h1
   ·have h2:aG (wt n j) p=1:=by omega
    rw [h1,h2]; rfl
   ·have h2:aG (wt n j) p=0:=by omega
    rw [h1,h2]; rfl
theorem kP {n:Nat} {r:Row} (hr:r.ok n) (p:Nat):from_ n r (from_ n r p)=p:=by
 cases r with
 | swing j=>rfl
 | turn j e=>rfl
 | sign i j=>rfl
 | flip j=>exact MA.cL (MA.aR n j)
 | tie i j=>
  have e:∀ x,from_ n (.tie i j) x=if aG (wt n i) x=0 then x else flp (wt n j) x:=fun _=>rfl
  rw [e p]
  by_cases h:aG (wt n i) p=0
  ·rw [if_pos h,e,if_pos h]
  ·rw [if_neg h,e,MA.cY hr.2.1 hr.1 (Ne.symm hr.2.2),if_neg h,MA.cL (MA.aR n j)]
 | cross i j=>
  have e:∀ x,from_ n (.cross i j) x=if aG (wt n i) x=aG (wt n j) x then x else flp (wt n j) (flp (wt n i) x):=fun _=>rfl
  rw [e p]
  by_cases h:aG (wt n i) p=aG (wt n j) p
  ·rw [if_pos h,e,if_pos h]
  ·rw [if_neg h,e]
   have l1:=MA.bR (wt n i) p
   have l2:=MA.bR (wt n j) p
   rw [MA.cY hr.2.1 hr.1 (Ne.symm hr.2.2),MA.bJ (MA.aR n i),MA.bJ (MA.aR n j),MA.cY hr.1 hr.2.1 hr.2.2,if_neg (by omega),<- MA.ik (p:=flp (wt n i) p) hr.1 hr.2.1 hr.2.2,MA.cL (MA.aR n i),MA.cL (MA.aR n j)]
theorem IP:i6 false (.str "turn") (.tuple [.str "flip",.str "tie",.str "cross"])=some (.bool false):=by rfl
theorem DK:i6 false (.str "sign") (.tuple [.str "flip",.str "tie",.str "cross"])=some (.bool false):=by rfl
theorem IR:i6 false (.str "flip") (.tuple [.str "flip",.str "tie",.str "cross"])=some (.bool true):=by rfl
theorem IQ:i6 false (.str "tie") (.tuple [.str "flip",.str "tie",.str "cross"])=some (.bool true):=by rfl
theorem IS:i6 false (.str "cross") (.tuple [.str "flip",.str "tie",.str "cross"])=some (.bool true):=by rfl
theorem ux {N i:Nat} (h:i<N):tJ N (i:Int)=some i:=by
 unfold tJ
 simp
 omega
section
variable (Q R A:D) (n p w m:Int) (z6 z7:Sl) (ds ds':List D) (ba:Builtin.bitAnd p w=m) (a:av Q (.int p)=some A)
include ba a
theorem Es (B:D) (k a0 a1 a2 a3 b0 b1 b2 b3:Int) (r0:av R (.int 0)=some (.str "swing")) (hx:Builtin.bitXor p w=k) (hm:0<m) (b:av Q (.int k)=some B) (e0:av A (.int 0)=some (.int a0)) (e1:av A (.int 1)=some (.int a1)) (e2:av A (.int 2)=some (.int a2)) (e3:av A (.int 3)=some (.int a3)) (f0:av B (.int 0)=some (.int b0)) (f1:av B (.int 1)=some (.int b1)) (f2:av B (.int 2)=some (.int b2)) (f3:av B (.int 3)=some (.int b3)) (pt:jQ ds (.int p) (.tuple [.int (b0-a0),.int (b1-a1),.int (b2-a2),.int (b3-a3)])=some ds'):ay [.fz Q,.fz R,.fz (.int n),.ow ds,.fz (.int w),.fz (.int p),z6,z7]=some (.nx,[.fz Q,.fz R,.fz (.int n),.ow ds',.fz (.int w),.fz (.int p),.fz A,.fz B]):=by
 rw [dc] at pt
 simp [-ak,-cu,b9,cP,ay,ba,a,r0,hx,hm,b,e0,e1,e2,e3,f0,f1,f2,f3,pt]
theorem Et (B:D) (k a0 a1 a2 a3 b0 b1 b2 b3:Int) (r0:av R (.int 0)=some (.str "swing")) (hx:Builtin.bitXor p w=k) (hm:¬ 0<m) (b:av Q (.int k)=some B) (e0:av A (.int 0)=some (.int a0)) (e1:av A (.int 1)=some (.int a1)) (e2:av A (.int 2)=some (.int a2)) (e3:av A (.int 3)=some (.int a3)) (f0:av B (.int 0)=some (.int b0)) (f1:av B (.int 1)=some (.int b1)) (f2:av B (.int 2)=some (.int b2)) (f3:av B (.int 3)=some (.int b3)) (pt:jQ ds (.int p) (.tuple [.int (a0+b0),.int (a1+b1),.int (a2+b2),.int (a3+b3)])=some ds'):ay [.fz Q,.fz R,.fz (.int n),.ow ds,.fz (.int w),.fz (.int p),z6,z7]=some (.nx,[.fz Q,.fz R,.fz (.int n),.ow ds',.fz (.int w),.fz (.int p),.fz A,.fz B]):=by
 rw [dc] at pt
 simp [-ak,-cu,b9,cP,ay,ba,a,r0,hx,hm,b,e0,e1,e2,e3,f0,f1,f2,f3,pt]
theorem Ep (V:D) (e:Int) (r0:av R (.int 0)=some (.str "turn")) (hm:0<m) (r2:av R (.int 2)=some (.int e)) (v:aZ [A,.int e]=some V) (pt:jQ ds (.int p) V=some ds'):ay [.fz Q,.fz R,.fz (.int n),.ow ds,.fz (.int w),.fz (.int p),z6,z7]=some (.nx,[.fz Q,.fz R,.fz (.int n),.ow ds',.fz (.int w),.fz (.int p),.fz A,z7]):=by
 rw [dc] at pt
 simp [-ak,-cu,b9,cP,ay,ba,a,r0,hm,r2,v,pt]
theorem Er (r0:av R (.int 0)=some (.str "turn")) (hm:¬ 0<m):ay [.fz Q,.fz R,.fz (.int n),.ow ds,.fz (.int w),.fz (.int p),z6,z7]=some (.nx,[.fz Q,.fz R,.fz (.int n),.ow ds,.fz (.int w),.fz (.int p),.fz A,z7]):=by
 simp [-ak,-cu,b9,cP,ay,ba,a,r0,hm,IP]
theorem Eu (V:D) (j w2 m2:Int) (r0:av R (.int 0)=some (.str "sign")) (r2:av R (.int 2)=some (.int j)) (s2:dO (.int 1) (.int (n-1-j))=some (.int w2)) (b2:Builtin.bitAnd p w2=m2) (hm:0<m) (hm2:0<m2) (v:aZ [A,.int 4]=some V) (pt:jQ ds (.int p) V=some ds'):ay [.fz Q,.fz R,.fz (.int n),.ow ds,.fz (.int w),.fz (.int p),z6,z7]=some (.nx,[.fz Q,.fz R,.fz (.int n),.ow ds',.fz (.int w),.fz (.int p),.fz A,z7]):=by
 rw [dc] at pt
 simp [-ak,-cu,b9,cP,ay,ba,a,r0,hm,r2,s2,b2,hm2,v,pt]
theorem Ev (j w2 m2:Int) (r0:av R (.int 0)=some (.str "sign")) (r2:av R (.int 2)=some (.int j)) (s2:dO (.int 1) (.int (n-1-j))=some (.int w2)) (b2:Builtin.bitAnd p w2=m2) (hm:¬ (0<m/\0<m2)):ay [.fz Q,.fz R,.fz (.int n),.ow ds,.fz (.int w),.fz (.int p),z6,z7]=some (.nx,[.fz Q,.fz R,.fz (.int n),.ow ds,.fz (.int w),.fz (.int p),.fz A,z7]):=by
 by_cases h:0<m
 ·have h2:¬ 0<m2:=fun z=>hm ⟨h,z⟩
  simp [-ak,-cu,b9,cP,ay,ba,a,r0,h,r2,s2,b2,h2,DK]
 ·simp [-ak,-cu,b9,cP,ay,ba,a,r0,h,DK]
omit ba in
theorem HB (s:Str) (k:D) (r0:av R (.int 0)=some (.str s)) (n1:aX (.str s) (.str "swing")=some (.bool false)) (n2:aX (.str s) (.str "turn")=some (.bool false)) (n3:aX (.str s) (.str "sign")=some (.bool false)) (n4:i6 false (.str s) (.tuple [.str "flip",.str "tie",.str "cross"])=some (.bool true)) (mv:bh [.int p,R,.int n]=some k) (pt:jQ ds k A=some ds'):ay [.fz Q,.fz R,.fz (.int n),.ow ds,.fz (.int w),.fz (.int p),z6,z7]=some (.nx,[.fz Q,.fz R,.fz (.int n),.ow ds',.fz (.int w),.fz (.int p),.fz A,z7]):=by
 simp [-ak,-cu,b9,cP,ay,a,r0,n1,n2,n3,n4,mv,pt]
end
noncomputable def tW (n:Nat) (q:Nat->MA.Q4) (r:Row) (i:Nat):Nat->MA.Q4:=fun x=>if from_ n r x<i then cc n q r x else q x
theorem rX {n:Nat} (q:Nat->MA.Q4) {r:Row} (hr:r.ok n) (i:Nat):tW n q r (i+1)=fun x=>if x=from_ n r i then cc n q r (from_ n r i) else tW n q r i x:=funext fun x=>by
 show (if from_ n r x<i+1 then _ else _)=_
 by_cases h:x=from_ n r i
 ·rw [if_pos h,h,kP hr,if_pos (by omega)]
 ·have:from_ n r x≠i:=fun z=>h (by rw [<- z,kP hr])
  rw [if_neg h]
  show _=if from_ n r x<i then cc n q r x else q x
  by_cases h2:from_ n r x<i
  ·rw [if_pos h2,if_pos (by omega)]
  ·rw [if_neg h2,if_neg (by omega)]
theorem mY {n:Nat} (q:Nat->MA.Q4) {r:Row} (hr:r.ok n) {i:Nat} (hi:i<2 ^ n) {v:MA.Q4} (hv:v=cc n q r (from_ n r i)):jQ (j1 n (tW n q r i)) (.int (from_ n r i:Nat)) (gI v)=some (j1 n (tW n q r (i+1))):=by
 have h:=MA.qJ hr hi
 rw [dc,qz]
 have e:tJ (2 ^ n) ((from_ n r i:Nat):Int)=some (from_ n r i):=ux h
 rw [e,rX q hr,<- hv]
 exact congrArg some (vy _ h v)
theorem vE {n:Nat} (q:Nat->MA.Q4) {r:Row} (hr:r.ok n) {i:Nat} (h:from_ n r i=i) (hv:cc n q r i=q i):j1 n (tW n q r (i+1))=j1 n (tW n q r i):=by
 rw [rX q hr,h,hv]
 congr 1
 funext x
 by_cases hx:x=i
 ·rw [if_pos hx,hx]
  show q i=if from_ n r i<i then cc n q r i else q i
  rw [hv]; split <;> rfl
 ·rw [if_neg hx]
theorem Me (u v:MA.Q4):MA.Q4.add v (MA.bL 4 u)=⟨v.a-u.a,v.b-u.b,v.c-u.c,v.d-u.d⟩:=by
 apply MA.Q4.ext' <;> simp [MA.bL,MA.Q4.tn,MA.Q4.add] <;> omega
theorem Bj {n:Nat} (hn:n<=6) (q:Nat->MA.Q4) (r:Row) (hr:r.ok n) (j:Nat) (hj:av (rowD r) (.int 1)=some (.int (j:Nat))) (i:Nat) (hi:i<2 ^ n) (z6 z7:Sl):∃ y6 y7,ay [.fz (qD n q),.fz (rowD r),.fz (.int (n:Nat)),.ow (j1 n (tW n q r i)),.fz (.int (wt n j:Nat)),.fz (.int (i:Nat)),z6,z7]=some (.nx,[.fz (qD n q),.fz (rowD r),.fz (.int (n:Nat)),.ow (j1 n (tW n q r (i+1))),.fz (.int (wt n j:Nat)),.fz (.int (i:Nat)),y6,y7]):=by
 have a:=lr (n:=n) (q:=q) (p:=i) (i:=(i:Int)) rfl hi
 have bp:∀ j,(0:Int)<((wt n j*aG (wt n j) i:Nat):Int)↔aG (wt n j) i≠0:=fun j=>bit_pos
 have b1:∀ j,aG (wt n j) i≠0->aG (wt n j) i=1:=fun j h=>by have:=MA.bR (wt n j) i; omega
 have pm:Iy r=true->∀ s:Str,av (rowD r) (.int 0)=some (.str s)->aX (.str s) (.str "swing")=some (.bool false)->aX (.str s) (.str "turn")=some (.bool false)->aX (.str s) (.str "sign")=some (.bool false)->i6 false (.str s) (.tuple [.str "flip",.str "tie",.str "cross"])=some (.bool true)->cc n q r (from_ n r i)=q (from_ n r (from_ n r i))->∃ y6 y7,ay [.fz (qD n q),.fz (rowD r),.fz (.int (n:Nat)),.ow (j1 n (tW n q r i)),.fz (.int (wt n j:Nat)),.fz (.int (i:Nat)),z6,z7]=some (.nx,[.fz (qD n q),.fz (rowD r),.fz (.int (n:Nat)),.ow (j1 n (tW n q r (i+1))),.fz (.int (wt n j:Nat)),.fz (.int (i:Nat)),y6,y7]):=fun h s r0 n1 n2 n3 n4 hl=>
  ⟨_,_,HB _ _ _ _ _ _ z6 z7 _ _ a s _ r0 n1 n2 n3 n4 (wZ hn hr h hi) (mY q hr hi (by rw [hl,kP hr]))⟩
 cases r with
 | swing k=>
  have hk:j=k:=by have e:av (rowD (.swing k)) (.int 1)=some (.int (k:Nat)):=rfl; rw [e] at hj; injection hj with h; injection h with h; omega
  subst hk
  have ba:=iH hn hr hi
  have bx:=qY hn hr hi
  have b:=lr (n:=n) (q:=q) (p:=flp (wt n j) i) (i:=(flp (wt n j) i:Nat)) rfl (MA.i7 hr hi)
  by_cases h:aG (wt n j) i=0
  ·refine ⟨_,_,Et _ _ _ _ _ _ _ z6 z7 _ _ ba a _ _ _ _ _ _ _ _ _ _ rfl bx (fun z=>(bp j).mp z h) b rfl rfl rfl rfl rfl rfl rfl rfl (mY (v:=MA.Q4.add (q i) (q (flp (wt n j) i))) q hr hi ?_)⟩
   rw [show from_ n (.swing j) i=i from rfl,dS,if_pos h]
  ·refine ⟨_,_,Es _ _ _ _ _ _ _ z6 z7 _ _ ba a _ _ _ _ _ _ _ _ _ _ rfl bx ((bp j).mpr h) b rfl rfl rfl rfl rfl rfl rfl rfl (mY (v:=⟨(q (flp (wt n j) i)).a-(q i).a,(q (flp (wt n j) i)).b-(q i).b,(q (flp (wt n j) i)).c-(q i).c,(q (flp (wt n j) i)).d-(q i).d⟩) q hr hi ?_)⟩
   rw [show from_ n (.swing j) i=i from rfl,dS,if_neg h,Me]
 | turn k e=>
  have hk:j=k:=by have e:av (rowD (.turn k e)) (.int 1)=some (.int (k:Nat)):=rfl; rw [e] at hj; injection hj with h; injection h with h; omega
  subst hk
  have ba:=iH hn hr.1 hi
  have le:cc n q (.turn j e) i=MA.bL (e*aG (wt n j) i) (q i):=rfl
  by_cases h:aG (wt n j) i=0
  ·rw [vE q hr rfl (by rw [le,h,Nat.mul_zero]; rfl)]
   exact ⟨_,_,Er _ _ _ _ _ _ _ z6 z7 _ ba a rfl (fun z=>(bp j).mp z h)⟩
  ·refine ⟨_,_,Ep _ _ _ _ _ _ _ z6 z7 _ _ ba a _ _ rfl ((bp j).mpr h) rfl (jU (q i) e) (mY q hr hi ?_)⟩
   show _=cc n q (.turn j e) i
   rw [le,b1 j h,Nat.mul_one]
 | sign k l=>
  have hk:j=k:=by have e:av (rowD (.sign k l)) (.int 1)=some (.int (k:Nat)):=rfl; rw [e] at hj; injection hj with h; injection h with h; omega
  subst hk
  have ba:=iH hn hr.1 hi
  have bb:=iH hn hr.2.1 hi
  have le:cc n q (.sign j l) i=MA.bL (4*aG (wt n j) i*aG (wt n l) i) (q i):=rfl
  by_cases h:aG (wt n j) i≠0/\aG (wt n l) i≠0
  ·refine ⟨_,_,Eu _ _ _ _ _ _ _ z6 z7 _ _ ba a _ l _ _ rfl rfl (rY hr.2.1 hn) bb ((bp j).mpr h.1) ((bp l).mpr h.2) (jU (q i) 4) (mY q hr hi ?_)⟩
   show _=cc n q (.sign j l) i
   rw [le,b1 j h.1,b1 l h.2]
  ·rw [vE q hr rfl (by
    rw [le]
    by_cases h1:aG (wt n j) i=0
    ·rw [h1,Nat.mul_zero,Nat.zero_mul]; rfl
    ·have h2:aG (wt n l) i=0:=Classical.byContradiction fun z=>h ⟨h1,z⟩
     rw [h2,Nat.mul_zero]; rfl)]
   exact ⟨_,_,Ev _ _ _ _ _ _ _ z6 z7 _ ba a l _ _ rfl rfl (rY hr.2.1 hn) bb (fun z=>h ⟨(bp j).mp z.1,(bp l).mp z.2⟩)⟩
 | flip k=>exact pm rfl "flip" rfl (by simp) (by simp) (by simp) IR rfl
 | tie k l=>exact pm rfl "tie" rfl (by simp) (by simp) (by simp) IQ rfl
 | cross k l=>exact pm rfl "cross" rfl (by simp) (by simp) (by simp) IS rfl
theorem HF (Q R:D) (n j w S:Int) (qs L ds:List D) (z4 z5 z6 z7:Sl) (it:eJ Q=some qs) (r1:av R (.int 1)=some (.int j)) (s1:dO (.int 1) (.int (n-1-j))=some (.int w)) (ln:bf [Q]=some (.int S)) (rg:bi [.int S]=some L) (lp:loop (gN 5) ay L [.fz Q,.fz R,.fz (.int n),.ow qs,.fz (.int w),.un,.un,.un]=some (.nx,[.fz Q,.fz R,.fz (.int n),.ow ds,z4,z5,z6,z7])):bI [Q,R,.int n]=some (.list ds):=by
 simp [bI,runB,fZ,aw,E6,it,r1,s1,ln,rg,lp,tK]
theorem Bl {n:Nat} (r:Row) (hr:r.ok n):∃ j:Nat,av (rowD r) (.int 1)=some (.int (j:Nat))/\j<n:=by
 cases r with
 | swing j=>exact ⟨j,rfl,hr⟩
 | turn j e=>exact ⟨j,rfl,hr.1⟩
 | flip j=>exact ⟨j,rfl,hr⟩
 | tie i j=>exact ⟨i,rfl,hr.1⟩
 | sign i j=>exact ⟨i,rfl,hr.1⟩
 | cross i j=>exact ⟨i,rfl,hr.1⟩
theorem FH (n:Nat) (q:Nat->MA.Q4):bf [qD n q]=some (.int ((2 ^ n:Nat):Int)):=by
 have:bf [qD n q]=some (.int ((j1 n q).length:Nat)):=rfl
 rw [this,qz]
theorem Hn (n:Nat) (q:Nat->MA.Q4) (r:Row):tW n q r 0=q:=funext fun x=>if_neg (Nat.not_lt_zero _)
theorem Hm {n:Nat} (q:Nat->MA.Q4) {r:Row} (hr:r.ok n):j1 n (tW n q r (2 ^ n))=j1 n (cc n q r):=by
 unfold j1
 exact List.map_congr_left fun x hx=>by
  show gI (if from_ n r x<2 ^ n then _ else _)=_
  rw [if_pos (MA.qJ hr (List.mem_range.mp hx))]
theorem sd {n:Nat} (hn:n<=6) (q:Nat->MA.Q4) (r:Row) (hr:r.ok n):bI [qD n q,rowD r,.int (n:Nat)]=some (qD n (cc n q r)):=by
 obtain ⟨j,hj,hjn⟩:=Bl r hr
 have st:∀ i,i<2 ^ n->∀ δ,(∃ z5 z6 z7,δ = [.fz (qD n q),.fz (rowD r),.fz (.int (n:Nat)),.ow (j1 n (tW n q r i)),.fz (.int (wt n j:Nat)),z5,z6,z7])->∃ δ2,ay (δ.set 5 (.fz (.int (i:Nat))))=some (.nx,δ2)/\∃ z5 z6 z7,δ2=[.fz (qD n q),.fz (rowD r),.fz (.int (n:Nat)),.ow (j1 n (tW n q r (i+1))),.fz (.int (wt n j:Nat)),z5,z6,z7]:=fun i hi δ hδ=>by
  obtain ⟨z5,z6,z7,rfl⟩:=hδ
  obtain ⟨y6,y7,e⟩:=Bj hn q r hr j hj i hi z6 z7
  exact ⟨_,e,_,_,_,rfl⟩
 obtain ⟨δ',lp,z5,z6,z7,rfl⟩:=ig (k:=5) _ (2 ^ n) st [.fz (qD n q),.fz (rowD r),.fz (.int (n:Nat)),.ow (j1 n (tW n q r 0)),.fz (.int (wt n j:Nat)),.un,.un,.un] ⟨_,_,_,rfl⟩
 rw [Hn] at lp
 have h:=HF (qD n q) (rowD r) _ _ _ _ (j1 n q) _ _ _ z5 z6 z7 rfl hj (rY hjn hn) (FH n q) (en n hn) lp
 rw [Hm q hr] at h
 exact h
theorem DT (n:Nat) (hn:n<=6):qy (.list [.tuple [.int 0,.int 0,.int 0,.int 0]]) (.int ((2 ^ n:Nat):Int))=some (.list (j1 n fun _=>⟨0,0,0,0⟩)):=by
 have sq:(2 ^ n:Nat)<=64:=(Nat.pow_le_pow_right (by decide) hn:2 ^ n<=2 ^ 6)
 rw [BY (Int.le_trans (by decide) (Int.natCast_nonneg _)) (by omega) (by rw [Int.toNat_natCast,List.length_singleton]; omega),Int.toNat_natCast]
 congr 2
 unfold j1
 apply List.ext_getElem
 ·rw [List.length_flatten,List.map_replicate,List.length_map,List.length_range]; simp
 ·intro i h1 h2
  rw [List.getElem_map]
  have:∀ x∈(List.replicate (2 ^ n) [PyData.tuple [.int 0,.int 0,.int 0,.int 0]]).flatten,x=PyData.tuple [.int 0,.int 0,.int 0,.int 0]:=fun x hx=>by
   obtain ⟨l,hl,hxl⟩:=List.mem_flatten.mp hx
   rw [List.eq_of_mem_replicate hl] at hxl
   exact List.mem_singleton.mp hxl
  exact this _ (List.getElem_mem h1)
theorem DU (n:Nat) {b:Nat} (hb:b<2 ^ n):jQ (j1 n fun _=>⟨0,0,0,0⟩) (.int (b:Nat)) (.tuple [.int 1,.int 0,.int 0,.int 0])=some (j1 n (un b)):=by
 rw [dc,qz,ux hb]
 exact congrArg some (vy (n:=n) (fun _=>⟨0,0,0,0⟩) hb ⟨1,0,0,0⟩)
theorem Iu (C X R Y:D) (n:Int) (z1 z2:Sl) (c0:av C (.int 0)=some (.int n)) (h:bI [X,R,.int n]=some Y):bY [.fz C,z1,z2,.fz X,.fz R]=some (.nx,[.fz C,z1,z2,.fz Y,.fz R]):=by
 simp [bY,tK,c0,h]
theorem Ir (C R Y:D) (ds:List D) (n:Int) (z1 z2:Sl) (c0:av C (.int 0)=some (.int n)) (h:bI [.list ds,R,.int n]=some Y):bY [.fz C,z1,z2,.ow ds,.fz R]=some (.nx,[.fz C,z1,z2,.fz Y,.fz R]):=by
 simp [bY,tK,c0,h]
theorem sK {n:Nat} (hn:n<=6) (C:D) (z1 z2:Sl) (c0:av C (.int 0)=some (.int (n:Nat))):∀ (rs:List Row),(∀ r∈rs,r.ok n)->∀ (q:Nat->MA.Q4) (z4:Sl),∃ y,loop (gN 4) bY (rs.map rowD) [.fz C,z1,z2,.fz (qD n q),z4]=some (.nx,[.fz C,z1,z2,.fz (qD n (aF n q rs)),y])
 | [],_,q,z4=>⟨z4,rfl⟩
 | r::rs,hr,q,z4=>by
  obtain ⟨y,e⟩:=sK hn C z1 z2 c0 rs (fun x hx=>hr x (List.mem_cons_of_mem _ hx)) (cc n q r) (.fz (rowD r))
  refine ⟨y,?_⟩
  rw [List.map_cons,cv (by rfl) (Iu C _ (rowD r) _ n z1 z2 c0 (sd hn q r (hr r List.mem_cons_self)))]
  exact e
theorem B9 {n:Nat} (hn:n<=6) (C:D) (z1 z2:Sl) (c0:av C (.int 0)=some (.int (n:Nat))) (rs:List Row) (hr:∀ r∈rs,r.ok n) (q:Nat->MA.Q4) (z4:Sl):∃ y3 y,loop (gN 4) bY (rs.map rowD) [.fz C,z1,z2,.ow (j1 n q),z4]=some (.nx,[.fz C,z1,z2,y3,y])/\(y3=.ow (j1 n (aF n q rs))\/y3=.fz (qD n (aF n q rs))):=by
 cases rs with
 | nil=>exact ⟨_,_,rfl,.inl rfl⟩
 | cons r rs=>
  obtain ⟨y,e⟩:=sK hn C z1 z2 c0 rs (fun x hx=>hr x (List.mem_cons_of_mem _ hx)) (cc n q r) (.fz (rowD r))
  refine ⟨_,y,?_,.inr rfl⟩
  rw [List.map_cons,cv (by rfl) (Ir C (rowD r) _ (j1 n q) n z1 z2 c0 (sd hn q r (hr r List.mem_cons_self)))]
  exact e
theorem K0 (n S:Int) (b:Nat) (C R:D) (L L2 cs RL:List D) (X:List D) (z3 z4 y3 y4:Sl) (c0:av C (.int 0)=some (.int n)) (c1:av C (.int 1)=some R) (it:eJ R=some RL) (sh:dO (.int 1) (.int n)=some (.int S)) (ml:qy (.list [.tuple [.int 0,.int 0,.int 0,.int 0]]) (.int S)=some (.list L)) (pt:jQ L (.int (b:Nat)) (.tuple [.int 1,.int 0,.int 0,.int 0])=some L2) (lp:loop (gN 4) bY RL [.fz C,.ow cs,.fz (.int (b:Nat)),.ow L2,z4]=some (.nx,[.fz C,.ow cs,.fz (.int (b:Nat)),y3,y4])) (hy:y3=.ow X\/y3=.fz (.list X)) (sz:cs.length<sizeLine):cx [.fz C,.ow cs,.fz (.int (b:Nat)),z3,z4]=some (.nx,[.fz C,.ow (cs++[.list X]),.fz (.int (b:Nat)),.fz (.list X),y4]):=by
 rw [dc] at pt
 rcases hy with rfl | rfl
 ·simp [cx,c0,c1,it,sh,JG,zr,ml,pt,lp,tK,sz]
 ·simp [cx,c0,c1,it,sh,JG,zr,ml,pt,lp,tK,sz]
theorem Io (C:D) (n S:Int) (L cs:List D) (z2 z3 z4:Sl) (c0:av C (.int 0)=some (.int n)) (sh:dO (.int 1) (.int n)=some (.int S)) (rg:bi [.int S]=some L) (lp:loop (gN 2) cx L [.fz C,.ow [],.un,.un,.un]=some (.nx,[.fz C,.ow cs,z2,z3,z4])):aW [C]=some (.list cs):=by
 simp [aW,runB,gA,aw,c0,sh,rg,lp,tK]
noncomputable def ce (n:Nat) (Q:Nat->Nat->MA.Q4):List D:=(List.range (2 ^ n)).map fun b=>qD n (Q b)
theorem sI {n:Nat} (hn:n<=6) (rs:List Row) (hr:∀ r∈rs,r.ok n):aW [eY n rs]=some (.list (ce n fun b=>aF n (un b) rs)):=by
 have sq:(2 ^ n:Nat)<=64:=(Nat.pow_le_pow_right (by decide) hn:2 ^ n<=2 ^ 6)
 have c0:av (eY n rs) (.int 0)=some (.int (n:Nat)):=at0 _ _
 have st:∀ i,i<2 ^ n->∀ δ,(∃ z2 z3 z4,δ = [.fz (eY n rs),.ow ((List.range i).map fun b=>qD n (aF n (un b) rs)),z2,z3,z4])->∃ δ2,cx (δ.set 2 (.fz (.int (i:Nat))))=some (.nx,δ2)/\∃ z2 z3 z4,δ2=[.fz (eY n rs),.ow ((List.range (i+1)).map fun b=>qD n (aF n (un b) rs)),z2,z3,z4]:=fun i hi δ hδ=>by
  obtain ⟨z2,z3,z4,rfl⟩:=hδ
  obtain ⟨y3,y4,lp,hy⟩:=B9 hn (eY n rs) (.ow ((List.range i).map fun b=>qD n (aF n (un b) rs))) (.fz (.int (i:Nat))) c0 rs hr (un i) z4
  refine ⟨_,K0 _ _ i _ _ _ _ _ _ _ z3 z4 y3 y4 c0 (DR _ _ _) (uy _) (wq n (by omega)) (DT n hn) (DU n hi) lp hy (by rw [List.length_map,List.length_range]; exact Nat.lt_of_lt_of_le (by omega:i<64) (by decide)),.fz (.int (i:Nat)),.fz (qD n (aF n (un i) rs)),y4,?_⟩
  rw [List.range_succ,List.map_append]
  rfl
 obtain ⟨δ',lp,z2,z3,z4,rfl⟩:=ig (k:=2) _ (2 ^ n) st [.fz (eY n rs),.ow [],.un,.un,.un] ⟨_,_,_,rfl⟩
 exact Io _ _ _ _ _ z2 z3 z4 c0 (wq n (by omega)) (en n hn) lp
theorem BC (p q:Nat):(if (q:Int)=(p:Int) then some (PyData.tuple [.int 1,.int 0,.int 0,.int 0,.int 0]) else some (PyData.tuple [.int 0,.int 0,.int 0,.int 0,.int 0]))=some (bF (MA.gO p q)):=by
 unfold MA.gO
 by_cases h:q=p
 ·rw [if_pos h,if_pos (by omega)]; rfl
 ·rw [if_neg h,if_neg (by omega)]; rfl
theorem Jp (w M:Int) (N:Nat) (p:Nat) (hl:N<=16777216) (hs:dO (.int 1) (.int w)=some (.int M)) (hN:bi [.int M]=some ((List.range N).map fun k:Nat=>PyData.int (0+(k:Int)))):cF [.int w,.int p]=some (.tuple ((List.range N).map fun q=>bF (MA.gO p q))):=by
 have c:kf [.fz (.int w),.fz (.int p)]=some (.list ((List.range N).map fun q=>bF (MA.gO p q))):=vP (by simp [hs,hN]) hl fun q hq=>by
  have:=BC p q
  simp [-Int.natCast_inj,eL,this]
 simp [cF,runB,jc,aw,c]
theorem Ad {n:Nat} (hn:n<=6) (p:Nat):cF [.int n,.int p]=some (cK n (MA.gO p)):=
 Jp _ _ (2 ^ n) p (Nat.le_trans (Nat.pow_le_pow_right (by decide) hn:2 ^ n<=2 ^ 6) (by decide)) (wq n (by omega)) (en n hn)
theorem E4 (p:Nat):Bd 0 0 (MA.gO p):=fun x=>by
 unfold MA.gO
 split
 ·exact ⟨Nat.le_refl _,by decide,by decide,by decide,by decide⟩
 ·exact ⟨Nat.le_refl _,by decide,by decide,by decide,by decide⟩
theorem Jh (C R X Y:D) (w p:Int) (c0:av C (.int 0)=some (.int w)) (c1:av C (.int 1)=some R) (h1:cG [R]=some (.bool true)) (h2:cF [.int w,.int p]=some X) (h3:cg [X,R]=some Y):aV [C,.int p]=some Y:=by
 simp [-ak,-cu,b9,cP,aV,runB,oo,aw,c0,c1,h1,h2,h3]
theorem Gf {n:Nat} (hn:n<=6) (rs:List Row) (hr:∀ r∈rs,r.ok n) (hl:rs.length<=100) (p:Nat):aV [.tuple [.int n,.tuple (rs.map rowD)],.int p]=some (cK n (cn n (MA.gO p) rs)):=
 Jh _ _ _ _ n p rfl rfl (sf rs (by omega)) (Ad hn p) (C9 hn rs hr (E4 p) (by omega) (by omega))
theorem rE {a b:Int} (ha:a.natAbs<=2 ^ 200000) (hb:b.natAbs<=2 ^ 200000):IntMulOk a b:=
 MA.Fo 200001 200001 (Nat.lt_of_le_of_lt ha (Nat.pow_lt_pow_right (by decide) (by decide))) (Nat.lt_of_le_of_lt hb (Nat.pow_lt_pow_right (by decide) (by decide))) (by decide)
theorem xS (x:MA.Q4) (c:Int) (y:MA.Q4) (d:Int) (hx:MA.Q4.Le (2 ^ 200000) x) (hy:MA.Q4.Le (2 ^ 200000) y) (hc:0<=c) (hd:0<=d):cU [tup5 x c,tup5 y d]=some (tup5 (MA.gp x c y d).1 (MA.gp x c y d).2):=by
 obtain ⟨l1,l2,l3,l4⟩:=hx
 obtain ⟨m1,m2,m3,m4⟩:=hy
 have a1:=rE l1 m1; have a2:=rE l1 m2; have a3:=rE l1 m3; have a4:=rE l1 m4
 have b1:=rE l2 m1; have b2:=rE l2 m2; have b3:=rE l2 m3; have b4:=rE l2 m4
 have c1:=rE l3 m1; have c2:=rE l3 m2; have c3:=rE l3 m3; have c4:=rE l3 m4
 have d1:=rE l4 m1; have d2:=rE l4 m2; have d3:=rE l4 m3; have d4:=rE l4 m4
 have nm:=E8 (MA.Q4.mul x y) (c+d) (by omega)
 unfold MA.gp
 generalize MA.num (MA.Q4.mul x y) (c+d)=r at *
 simp only [MA.Q4.mul] at nm
 generalize tup5 r.1 r.2=R at *
 simp only [tup5]
 simp [cU,runB,rl,aw,a1,a2,a3,a4,b1,b2,b3,b4,c1,c2,c3,c4,d1,d2,d3,d4,nm]
theorem E3 (b:Nat):MA.gO b=pR b:=funext fun x=>by
 unfold MA.gO pR un
 by_cases h:x=b
 ·rw [if_pos h,if_pos h]
 ·rw [if_neg h,if_neg h]
noncomputable def b5 (n:Nat) (rs:List Row) (b x:Nat):Nu:=cn n (pR b) rs x
theorem eB {n:Nat} (hn:n<=6) (rs:List Row) (hr:∀ r∈rs,r.ok n) (hl:rs.length<=100) (b:Nat):aV [eY n rs,.int (b:Nat)]=some (cK n (b5 n rs b)):=by
 have h:=Gf hn rs hr hl b
 rw [E3] at h
 exact h
theorem wc (b x:Nat):MA.dU (pR b x):=⟨by simp [pR],fun z=>by simp [pR] at z⟩
theorem uI (n:Nat) (rs:List Row) (b x:Nat):MA.dU (b5 n rs b x):=gR rs (wc b) x
theorem ja {n M:Nat} (rs:List Row) (hM:rs.length<=M) (b x:Nat):MA.val M (b5 n rs b x)=MA.Q4.rtn (M-swL rs) (aF n (un b) rs x)/\(b5 n rs b x).2<=rs.length:=by
 obtain ⟨ra,p,bd⟩:=Rl.all (M:=M) (n:=n) rs 0 0 0 (pR b) (un b) (fun y=>rfl) (mM b) (by omega) (by omega)
 rw [Nat.zero_add] at ra bd
 exact ⟨ra x,(bd x).1⟩
theorem gS {n:Nat} (rs:List Row) (hl:rs.length<=100) (b x:Nat):MA.Q4.Le (2 ^ 200000) (b5 n rs b x).1:=by
 have h:=L8 (n:=n) rs (mM b) (by omega)
 exact (h x).2.mono (Nat.pow_le_pow_right (by decide) (by omega))
theorem mt (u v:Nu) (hu:MA.Q4.Le (2 ^ 200000) u.1) (hv:MA.Q4.Le (2 ^ 200000) v.1):cU [bF u,bF v]=some (bF (MA.eP u v)):=by
 have e:=xS u.1 u.2 v.1 v.2 hu hv (by omega) (by omega)
 unfold bF MA.eP
 rw [e]
 obtain ⟨c,e2,h⟩:=yZ (MA.Q4.mul u.1 v.1) (u.2+v.2)
 have e3:=MA.iq u v
 show some (tup5 _ (MA.gp u.1 u.2 v.1 v.2).2)=some (tup5 _ ((MA.gp u.1 u.2 v.1 v.2).2.toNat:Int))
 unfold MA.gp
 rw [e3,e2]; rfl
theorem uk (u v:Nu) (b:Bool) (hb:b=true↔u=v):neD (bF u) (bF v)=some (.bool (!b)):=by
 unfold neD
 rw [if_pos ⟨eQ (kE u) (by decide),eQ (kE v) (by decide)⟩]
 have:PyData.eqv (bF u) (bF v)=b:=by
  cases q:b with
  | true=>
   have e:=hb.mp q
   subst e
   have:=vL (kE u) (by decide)
   unfold aX at this
   rw [if_pos ⟨eQ (kE u) (by decide),eQ (kE u) (by decide)⟩] at this
   injection this with this
   injection this
  | false=>
   cases z:PyData.eqv (bF u) (bF v) with
   | false=>rfl
   | true=>
    have:=hb.mpr (vK u v z)
    rw [q] at this
    cases this
 rw [this]
theorem m7 {n:Nat} (as bs:List Row) (b x b' x':Nat):MA.eP (b5 n as b x) (b5 n bs b' x')=MA.eP (b5 n as b' x') (b5 n bs b x)↔MA.Q4.mul (aF n (un b) as x) (aF n (un b') bs x')=MA.Q4.mul (aF n (un b') as x') (aF n (un b) bs x):=by
 have sa:=fU as
 have sb:=fU bs
 have va:=fun b x=>ja (n:=n) (M:=as.length) as (Nat.le_refl _) b x
 have vb:=fun b x=>ja (n:=n) (M:=bs.length) bs (Nat.le_refl _) b x
 have e:∀ b x b' x',MA.val (as.length+bs.length) (MA.eP (b5 n as b x) (b5 n bs b' x'))=MA.Q4.rtn (as.length-swL as+(bs.length-swL bs)) (MA.Q4.mul (aF n (un b) as x) (aF n (un b') bs x')):=fun b x b' x'=>by
  rw [MA.wa (va b x).2 (vb b' x').2,(va b x).1,(vb b' x').1,MA.Q4.rtn_mul2]
 have le:∀ b x b' x',(MA.eP (b5 n as b x) (b5 n bs b' x')).2<=as.length+bs.length:=fun b x b' x'=>Nat.le_trans (MA.wm _ _) (Nat.add_le_add (va b x).2 (vb b' x').2)
 constructor
 ·intro h
  have h:=congrArg (MA.val (as.length+bs.length)) h
  rw [e,e] at h
  exact MA.Q4.rtn_inj h
 ·intro h
  refine MA.pQ (M:=as.length+bs.length) (MA.ll _ _) (MA.ll _ _) (le _ _ _ _) (le _ _ _ _) ?_
  rw [e,e,h]
noncomputable def qf (u:MA.Q4):Nat->Int
 | 0=>u.a
 | 1=>u.b
 | 2=>u.c
 | _=>u.d
theorem Do (u:MA.Q4) {k:Nat} (hk:k<4):av (gI u) (.int (k:Nat))=some (.int (qf u k)):=by
 rcases (by omega:k=0\/k=1\/k=2\/k=3) with rfl | rfl | rfl | rfl <;> rfl
noncomputable def uo (M:Nat->Int):List D:=(List.range 7).map fun i=>PyData.int (M i)
theorem lz (M:Nat->Int) {i:Nat} {j:Int} (hj:j=i) (hi:i<7):av (.list (uo M)) (.int j)=some (.int (M i)):=dM (j:=i) hj (by simp [uo,hi])
theorem Fp (M:Nat->Int) {i:Nat} {j:Int} (hj:j=i) (hi:i<7) (v:Int):jQ (uo M) (.int j) (.int v)=some (uo fun x=>if x=i then v else M x):=by
 subst hj
 have l:(uo M).length=7:=by unfold uo; rw [List.length_map,List.length_range]
 rw [dc,l,ux hi]
 refine congrArg some ?_
 show (uo M).set i (.int v)=_
 unfold uo
 rw [vi _ hi]
 exact List.map_congr_left fun x _=>(apply_ite PyData.int (x=i) v (M x)).symm
theorem Ii (X Y:D) (ds ds':List D) (k j m p q:Int) (a:av (.list ds) (.int (k+j))=some (.int m)) (x:av X (.int k)=some (.int p)) (y:av Y (.int j)=some (.int q)) (ok:IntMulOk p q) (pt:jQ ds (.int (k+j)) (.int (m+p*q))=some ds'):d6 [.fz X,.fz Y,.ow ds,.fz (.int k),.fz (.int j)]=some (.nx,[.fz X,.fz Y,.ow ds',.fz (.int k),.fz (.int j)]):=by
 have ml:fV (.int p) (.int q)=some (.int (p*q)):=sC ok
 simp only [d6,qe,lY,o2,oV,Hu,List.getElem?_cons_zero,List.getElem?_cons_succ,Option.bind_some,Ei,Ar,a,x,y,ml,pt,List.set_cons_succ,List.set_cons_zero]
noncomputable def vz (u v:MA.Q4):Nat->Nat->Int
 | 0,_=>0
 | k+1,i=>vz u v k i+if k<=i/\i<k+4 then qf u k*qf v (i-k) else 0
theorem Ih (L:List D) (δ δ':Dv) (rg:bi [.int 4]=some L) (lp:loop (gN 4) d6 L δ = some (.nx,δ')):dj δ = some (.nx,δ'):=by
 simp [dj,rg,lp]
theorem Ft (u v:MA.Q4) (ok:∀ k j,IntMulOk (qf u k) (qf v j)) (M:Nat->Int) (k:Nat) (hk:k<4) (z:Sl):∃ y,dj [.fz (gI u),.fz (gI v),.ow (uo M),.fz (.int (k:Nat)),z]=some (.nx,[.fz (gI u),.fz (gI v),.ow (uo fun i=>M i+if k<=i/\i<k+4 then qf u k*qf v (i-k) else 0),.fz (.int (k:Nat)),y]):=by
 obtain ⟨δ',lp,y,rfl⟩:=ig (b:=d6) (k:=4) (fun j δ=>∃ y,δ = [.fz (gI u),.fz (gI v),.ow (uo fun i=>M i+if k<=i/\i<k+j then qf u k*qf v (i-k) else 0),.fz (.int (k:Nat)),y]) 4 (fun j hj δ hδ=>by
  obtain ⟨y,rfl⟩:=hδ
  refine ⟨_,Ii _ _ _ _ k j _ _ _ (lz (i:=k+j) _ (by omega) (by omega)) (Do u hk) (Do v hj) (ok k j) (Fp (i:=k+j) _ (by omega) (by omega) _),.fz (.int (j:Nat)),?_⟩
  refine congrArg (fun F=>[Sl.fz (gI u),.fz (gI v),.ow (uo F),.fz (.int (k:Nat)),.fz (.int (j:Nat))]) (funext fun i=>?_)
  by_cases h:i=k+j
  ·subst h
   rw [if_pos rfl,if_neg (by omega),if_pos (by omega),Nat.add_sub_cancel_left,Int.add_zero]
  ·rw [if_neg h]
   by_cases h2:k<=i/\i<k+j
   ·rw [if_pos h2,if_pos (by omega)]
   ·rw [if_neg h2,if_neg (by omega)]) [.fz (gI u),.fz (gI v),.ow (uo M),.fz (.int (k:Nat)),z] ⟨z,by
  refine congrArg (fun F=>[Sl.fz (gI u),.fz (gI v),.ow (uo F),.fz (.int (k:Nat)),z]) (funext fun i=>?_)
  rw [if_neg (by omega),Int.add_zero]⟩
 exact ⟨y,Ih _ _ _ rfl lp⟩
theorem KS (X Y:D) (L ds:List D) (z3 z4:Sl) (m0 m1 m2 m3 m4 m5 m6:Int) (rg:bi [.int 4]=some L) (lp:loop (gN 3) dj L [.fz X,.fz Y,.ow [.int 0,.int 0,.int 0,.int 0,.int 0,.int 0,.int 0],.un,.un]=some (.nx,[.fz X,.fz Y,.ow ds,z3,z4])) (a0:av (.list ds) (.int 0)=some (.int m0)) (a1:av (.list ds) (.int 1)=some (.int m1)) (a2:av (.list ds) (.int 2)=some (.int m2)) (a3:av (.list ds) (.int 3)=some (.int m3)) (a4:av (.list ds) (.int 4)=some (.int m4)) (a5:av (.list ds) (.int 5)=some (.int m5)) (a6:av (.list ds) (.int 6)=some (.int m6)):b7 [X,Y]=some (.tuple [.int (m0-m4),.int (m1-m5),.int (m2-m6),.int m3]):=by
 have sz:7<=sizeLine:=by decide
 simp only [zL] at a0 a1 a2 a3 a4 a5 a6
 simp [b7,runB,iL,aw,sz,rg,lp,a0,a1,a2,a3,a4,a5,a6]
theorem pv (u v:MA.Q4) (ok:∀ k j,IntMulOk (qf u k) (qf v j)):b7 [gI u,gI v]=some (gI (MA.Q4.mul u v)):=by
 obtain ⟨δ',lp,y3,y4,rfl⟩:=ig (b:=dj) (k:=3) (fun k δ=>∃ y3 y4,δ = [.fz (gI u),.fz (gI v),.ow (uo (vz u v k)),y3,y4]) 4 (fun k hk δ hδ=>by
  obtain ⟨y3,y4,rfl⟩:=hδ
  obtain ⟨y,e⟩:=Ft u v ok (vz u v k) k hk y4
  exact ⟨_,e,_,_,rfl⟩) [.fz (gI u),.fz (gI v),.ow [.int 0,.int 0,.int 0,.int 0,.int 0,.int 0,.int 0],.un,.un] ⟨_,_,rfl⟩
 have h:=KS _ _ _ _ y3 y4 _ _ _ _ _ _ _ rfl lp (lz (i:=0) _ rfl (by decide)) (lz (i:=1) _ rfl (by decide)) (lz (i:=2) _ rfl (by decide)) (lz (i:=3) _ rfl (by decide)) (lz (i:=4) _ rfl (by decide)) (lz (i:=5) _ rfl (by decide)) (lz (i:=6) _ rfl (by decide))
 have e0:vz u v 4 0-vz u v 4 4=(MA.Q4.mul u v).a:=by simp [vz,qf,MA.Q4.mul] <;> grind
 have e1:vz u v 4 1-vz u v 4 5=(MA.Q4.mul u v).b:=by simp [vz,qf,MA.Q4.mul] <;> grind
 have e2:vz u v 4 2-vz u v 4 6=(MA.Q4.mul u v).c:=by simp [vz,qf,MA.Q4.mul] <;> grind
 have e3:vz u v 4 3=(MA.Q4.mul u v).d:=by simp [vz,qf,MA.Q4.mul]
 rw [h,e0,e1,e2,e3]
 rfl
noncomputable def xI (u v:MA.Q4):Bool:=decide (u.a=v.a)&&(decide (u.b=v.b)&&(decide (u.c=v.c)&&decide (u.d=v.d)))
theorem eqQ_iff {u v:MA.Q4}:xI u v=true↔u=v:=by
 unfold xI
 rw [Bool.and_eq_true,Bool.and_eq_true,Bool.and_eq_true,decide_eq_true_iff,decide_eq_true_iff,decide_eq_true_iff,decide_eq_true_iff]
 exact ⟨fun h=>MA.Q4.ext' h.1 h.2.1 h.2.2.1 h.2.2.2,fun h=>h ▸ ⟨rfl,rfl,rfl,rfl⟩⟩
theorem Dm (u:MA.Q4):MA.Sh 1 (gI u):=MA.Sh.tuple fun x hx=>by
 simp only [List.mem_cons,List.not_mem_nil,or_false] at hx
 rcases hx with rfl | rfl | rfl | rfl <;> exact MA.Sh.int 0 _
theorem F8 (u v:MA.Q4):PyData.eqv (gI u) (gI v)=xI u v:=by
 show (PyData.eqv (.int u.a) (.int v.a)&&(PyData.eqv (.int u.b) (.int v.b)&&(PyData.eqv (.int u.c) (.int v.c)&&(PyData.eqv (.int u.d) (.int v.d)&&true))))=_
 rw [Bool.and_true]
 rfl
theorem Dt (u v:MA.Q4):neD (gI u) (gI v)=some (.bool (!xI u v)):=by
 unfold neD
 rw [if_pos ⟨eQ (Dm u) (by decide),eQ (Dm v) (by decide)⟩,F8]
theorem uS {b:Sf} {k:Nat} (ok:Nat->Bool) (I:Dv->Prop) (N:Nat) (st:∀ i,i<N->∀ δ,I δ -> ∃ δ2,b (δ.set k (.fz (.int (i:Nat))))=some (if ok i=true then .nx else .rt (.bool false),δ2)/\I δ2):∀ (m i:Nat) (δ:Dv),i+m<=N->I δ -> ∃ δ',loop (gN k) b ((List.range' i m).map fun k:Nat=>PyData.int (0+(k:Int))) δ = some (if (List.range' i m).all ok=true then .nx else .rt (.bool false),δ')/\I δ'
 | 0,i,δ,_,hI=>⟨δ,rfl,hI⟩
 | m+1,i,δ,h,hI=>by
  obtain ⟨δ2,e,I2⟩:=st i (by omega) δ hI
  rw [List.range'_succ,List.map_cons,List.all_cons,Int.zero_add]
  cases q:ok i with
  | true=>
   rw [if_pos q] at e
   rw [cv (by rfl) e,Bool.true_and]
   exact uS ok I N st m (i+1) δ2 (by omega) I2
  | false=>
   rw [if_neg (by rw [q]; decide)] at e
   rw [nC (by rfl) e,Bool.false_and]
   exact ⟨δ2,rfl,I2⟩
theorem all_rng {N:Nat} {ok:Nat->Bool}:(List.range' 0 N).all ok=true↔∀ i,i<N->ok i=true:=by
 rw [List.all_eq_true]
 exact ⟨fun h i hi=>h i (List.mem_range'_1.mpr ⟨Nat.zero_le _,by omega⟩),fun h i hi=>h i (by have:=(List.mem_range'_1.mp hi).2; omega)⟩
theorem jy {n:Nat} {Q:Nat->Nat->MA.Q4} {p:Nat} {i:Int} (hi:i=p) (hp:p<2 ^ n):av (.list (ce n Q)) (.int i)=some (qD n (Q p)):=dM (j:=p) hi (by simp [ce,hp])
theorem zZ (n:Nat) (Q:Nat->Nat->MA.Q4):(ce n Q).length=2 ^ n:=by unfold ce; rw [List.length_map,List.length_range]
theorem nD (n:Nat) (Q:Nat->Nat->MA.Q4):bf [.list (ce n Q)]=some (.int ((2 ^ n:Nat):Int)):=by
 have:bf [.list (ce n Q)]=some (.int ((ce n Q).length:Nat)):=rfl
 rw [this,zZ]
theorem p6 {u:Int} {s:Nat} (h:u*u<=2 ^ s) (hs:s<=1000):u.natAbs<=2 ^ 200000:=by
 obtain ⟨a,b⟩:=mS h
 have e:(2:Int)*2 ^ (s / 2)=((2 ^ (s / 2+1):Nat):Int):=by rw [Nat.pow_succ]; push_cast; exact Int.mul_comm _ _
 rw [e] at a b
 have le:(2:Nat) ^ (s / 2+1)<=2 ^ 200000:=Nat.pow_le_pow_right (by decide) (by omega)
 generalize (2:Nat) ^ (s / 2+1)=Z at *
 generalize (2:Nat) ^ 200000=Y at *
 omega
theorem qW {n:Nat} {rs:List Row} (hr:∀ r∈rs,r.ok n) (hl:rs.length<=100) {b x:Nat} (hb:b<2 ^ n) (hx:x<2 ^ n) (k:Nat):(qf (aF n (un b) rs x) k).natAbs<=2 ^ 200000:=by
 have sl:=fU rs
 obtain ⟨h1,h2,h3,h4⟩:=kK (uZ rs hr hb x hx)
 rcases (by omega:k=0\/k=1\/k=2\/3<=k) with rfl | rfl | rfl | h
 ·exact p6 h1 (by omega)
 ·exact p6 h2 (by omega)
 ·exact p6 h3 (by omega)
 ·have:qf (aF n (un b) rs x) k=(aF n (un b) rs x).d:=by
   obtain ⟨j,rfl⟩:∃ j,k=j+3:=⟨k-3,by omega⟩
   rfl
  rw [this]
  exact p6 h4 (by omega)
theorem Ig (F G S F0 F2 G0 G2:D) (s0 s1 s2 s3:Int) (f0 f2 g0 g2 V W:D) (b:Bool) (hS:S=.tuple [.int s0,.int s1,.int s2,.int s3]) (a0:av F (.int s0)=some F0) (a2:av F (.int s2)=some F2) (c0:av G (.int s0)=some G0) (c2:av G (.int s2)=some G2) (b0:av F0 (.int s1)=some f0) (b2:av F2 (.int s3)=some f2) (d0:av G0 (.int s1)=some g0) (d2:av G2 (.int s3)=some g2) (v:b7 [f0,g2]=some V) (w:b7 [f2,g0]=some W) (ne:neD V W=some (.bool b)):ck [F,G,S]=some (.bool b):=by
 have i0:av S (.int 0)=some (.int s0):=by rw [hS]; rfl
 have i1:av S (.int 1)=some (.int s1):=by rw [hS]; rfl
 have i2:av S (.int 2)=some (.int s2):=by rw [hS]; rfl
 have i3:av S (.int 3)=some (.int s3):=by rw [hS]; rfl
 simp [ck,runB,g7,aw,i0,i1,i2,i3,a0,a2,c0,c2,b0,b2,d0,d2,v,w,ne]
theorem Fq {n:Nat} {as bs:List Row} (ha:∀ r∈as,r.ok n) (hb:∀ r∈bs,r.ok n) (hl:as.length<=100) (hl':bs.length<=100) {s0 s1 s2 s3:Nat} (h0:s0<2 ^ n) (h1:s1<2 ^ n) (h2:s2<2 ^ n) (h3:s3<2 ^ n):ck [.list (ce n fun b=>aF n (un b) as),.list (ce n fun b=>aF n (un b) bs),.tuple [.int (s0:Nat),.int (s1:Nat),.int (s2:Nat),.int (s3:Nat)]]=some (.bool (!xI (MA.Q4.mul (aF n (un s0) as s1) (aF n (un s2) bs s3)) (MA.Q4.mul (aF n (un s2) as s3) (aF n (un s0) bs s1)))):=
 Ig _ _ _ _ _ _ _ _ _ _ _ _ _ _ _ _ _ _ rfl (jy rfl h0) (jy rfl h2) (jy rfl h0) (jy rfl h2) (lr rfl h1) (lr rfl h3) (lr rfl h1) (lr rfl h3) (pv _ _ fun k j=>rE (qW ha hl h0 h1 k) (qW hb hl' h2 h3 j)) (pv _ _ fun k j=>rE (qW ha hl h2 h3 k) (qW hb hl' h0 h1 j)) (Dt _ _)
theorem zq (n:Nat) (rs:List Row) (hl:rs.length<=100000):b8 [eY n rs]=some (.int (swL rs:Nat)):=by
 have c:av (eY n rs) (.int 1)=some (.tuple (rs.map rowD)):=DR _ _ _
 have p:iY [.fz (eY n rs)]=some (.list ((rs.filter isSw).map rowD)):=jx (h:=rowD) (b:=isSw) (by simp [c]) (by omega) (fun r _=>by
  obtain ⟨s,h0,h1,_⟩:=mX r
  simp [eL,h0,h1]) fun r _ _=>by simp
 have e:bf [.list ((rs.filter isSw).map rowD)]=some (.int (swL rs:Nat)):=by
  have:bf [.list ((rs.filter isSw).map rowD)]=some (.int (((rs.filter isSw).map rowD).length:Nat)):=rfl
  rw [this,List.length_map,mw]
 simp [b8,runB,g9,aw,p,e]
theorem G7 (C1 C2 F G K1 K2 V1 V2 T U W:D) (e mo a b:Int) (c x:Int) (z8:Sl) (o:Bool) (f:av F (.int c)=some K1) (f1:av K1 (.int x)=some V1) (g:av G (.int c)=some K2) (g1:av K2 (.int x)=some V2) (t:aZ [V1,.int e]=some T) (m1:ny [.int 0,.int mo]=some (.int a)) (m2:ny [.int 0,.int (-mo)]=some (.int b)) (r1:bN [T,.int a]=some U) (r2:bN [V2,.int b]=some W) (ne:neD U W=some (.bool (!o))):bX [.fz C1,.fz C2,.fz F,.fz G,.fz (.int e),.fz (.int mo),.fz (.int c),.fz (.int x),z8]=some (if o=true then .nx else .rt (.bool false),[.fz C1,.fz C2,.fz F,.fz G,.fz (.int e),.fz (.int mo),.fz (.int c),.fz (.int x),.fz U]):=by
 cases o <;> simp [bX,f,f1,g,g1,t,m1,m2,r1,r2,ne]
theorem G5 (F:D) (S:Int) (L:List D) (r:Fl) (δ δ':Dv) (h2:δ[2]? = some (.fz F)) (ln:bf [F]=some (.int S)) (rg:bi [.int S]=some L) (lp:loop (gN 7) bX L δ = some (r,δ')):bW δ = some (r,δ'):=by
 simp [bW,h2,ln,rg,lp]
theorem G4 (C1 C2 F G:D) (e sa sb S:Int) (L:List D) (b:Bool) (δ:Dv) (s1:b8 [C1]=some (.int sa)) (s2:b8 [C2]=some (.int sb)) (ln:bf [F]=some (.int S)) (rg:bi [.int S]=some L) (lp:loop (gN 6) bW L [.fz C1,.fz C2,.fz F,.fz G,.fz (.int e),.fz (.int (sb-sa)),.un,.un,.un]=some (if b=true then .nx else .rt (.bool false),δ)):bm [C1,C2,F,G,.int e]=some (.bool b):=by
 cases b <;> simp at lp <;> simp [bm,runB,eF,aw,s1,s2,ln,rg,lp]
theorem G8 {n:Nat} (as bs:List Row) (hl:as.length<=100) (hl':bs.length<=100) (e c x:Nat) (hc:c<2 ^ n) (hx:x<2 ^ n) (C1 C2:D) (z8:Sl):∃ y8,bX [.fz C1,.fz C2,.fz (.list (ce n fun b=>aF n (un b) as)),.fz (.list (ce n fun b=>aF n (un b) bs)),.fz (.int (e:Nat)),.fz (.int ((swL bs:Nat)-(swL as:Nat):Int)),.fz (.int (c:Nat)),.fz (.int (x:Nat)),z8]=some (if xI (MA.Q4.rtn (mx as bs-swL as) (MA.bL e (aF n (un c) as x))) (MA.Q4.rtn (mx bs as-swL bs) (aF n (un c) bs x))=true then .nx else .rt (.bool false),[.fz C1,.fz C2,.fz (.list (ce n fun b=>aF n (un b) as)),.fz (.list (ce n fun b=>aF n (un b) bs)),.fz (.int (e:Nat)),.fz (.int ((swL bs:Nat)-(swL as:Nat):Int)),.fz (.int (c:Nat)),.fz (.int (x:Nat)),y8]):=by
 have sa:=fU as
 have sb:=fU bs
 have m1:ny [.int 0,.int ((swL bs:Nat)-(swL as:Nat):Int)]=some (.int ((mx as bs-swL as:Nat):Int)):=by
  rw [ki]
  congr 2
  unfold mx
  split <;> omega
 have m2:ny [.int 0,.int (-((swL bs:Nat)-(swL as:Nat):Int))]=some (.int ((mx bs as-swL bs:Nat):Int)):=by
  rw [ki]
  congr 2
  unfold mx
  split <;> omega
 have k1:mx as bs<=100:=Nat.max_le.mpr ⟨by omega,by omega⟩
 have k2:mx bs as<=100:=Nat.max_le.mpr ⟨by omega,by omega⟩
 exact ⟨_,G7 C1 C2 _ _ _ _ _ _ _ _ _ _ _ _ _ _ _ z8 _ (jy rfl hc) (lr rfl hx) (jy rfl hc) (lr rfl hx) (jU _ e) m1 m2 (nB _ _ (by omega)) (nB _ _ (by omega)) (Dt _ _)⟩
theorem G6 {n:Nat} (hn:n<=6) (as bs:List Row) (hl:as.length<=100) (hl':bs.length<=100) (e c:Nat) (hc:c<2 ^ n) (C1 C2:D) (z7 z8:Sl):∃ y7 y8,bW [.fz C1,.fz C2,.fz (.list (ce n fun b=>aF n (un b) as)),.fz (.list (ce n fun b=>aF n (un b) bs)),.fz (.int (e:Nat)),.fz (.int ((swL bs:Nat)-(swL as:Nat):Int)),.fz (.int (c:Nat)),z7,z8]=some (if (List.range' 0 (2 ^ n)).all (fun x=>xI (MA.Q4.rtn (mx as bs-swL as) (MA.bL e (aF n (un c) as x))) (MA.Q4.rtn (mx bs as-swL bs) (aF n (un c) bs x)))=true then .nx else .rt (.bool false),[.fz C1,.fz C2,.fz (.list (ce n fun b=>aF n (un b) as)),.fz (.list (ce n fun b=>aF n (un b) bs)),.fz (.int (e:Nat)),.fz (.int ((swL bs:Nat)-(swL as:Nat):Int)),.fz (.int (c:Nat)),y7,y8]):=by
 obtain ⟨δ',lp,y7,y8,rfl⟩:=uS (b:=bX) (k:=7) (fun x=>xI (MA.Q4.rtn (mx as bs-swL as) (MA.bL e (aF n (un c) as x))) (MA.Q4.rtn (mx bs as-swL bs) (aF n (un c) bs x))) (fun δ=>∃ y7 y8,δ = [.fz C1,.fz C2,.fz (.list (ce n fun b=>aF n (un b) as)),.fz (.list (ce n fun b=>aF n (un b) bs)),.fz (.int (e:Nat)),.fz (.int ((swL bs:Nat)-(swL as:Nat):Int)),.fz (.int (c:Nat)),y7,y8]) (2 ^ n) (fun x hx δ hδ=>by
  obtain ⟨y7,y8,rfl⟩:=hδ
  obtain ⟨y,e⟩:=G8 as bs hl hl' e c x hc hx C1 C2 y8
  exact ⟨_,e,_,_,rfl⟩) (2 ^ n) 0 [.fz C1,.fz C2,.fz (.list (ce n fun b=>aF n (un b) as)),.fz (.list (ce n fun b=>aF n (un b) bs)),.fz (.int (e:Nat)),.fz (.int ((swL bs:Nat)-(swL as:Nat):Int)),.fz (.int (c:Nat)),z7,z8] (by omega) ⟨z7,z8,rfl⟩
 have rg:=en n hn
 rw [List.range_eq_range'] at rg
 exact ⟨y7,y8,G5 _ _ _ _ _ _ rfl (nD n _) rg lp⟩
theorem Fs {n:Nat} (hn:n<=6) (as bs:List Row) (hl:as.length<=100) (hl':bs.length<=100) (e:Nat):bm [eY n as,eY n bs,.list (ce n fun b=>aF n (un b) as),.list (ce n fun b=>aF n (un b) bs),.int (e:Nat)]=some (.bool (De n as bs e)):=by
 obtain ⟨δ',lp,_⟩:=uS (b:=bW) (k:=6) (fun c=>(List.range' 0 (2 ^ n)).all fun x=>xI (MA.Q4.rtn (mx as bs-swL as) (MA.bL e (aF n (un c) as x))) (MA.Q4.rtn (mx bs as-swL bs) (aF n (un c) bs x))) (fun δ=>∃ y6 y7 y8,δ = [.fz (eY n as),.fz (eY n bs),.fz (.list (ce n fun b=>aF n (un b) as)),.fz (.list (ce n fun b=>aF n (un b) bs)),.fz (.int (e:Nat)),.fz (.int ((swL bs:Nat)-(swL as:Nat):Int)),y6,y7,y8]) (2 ^ n) (fun c hc δ hδ=>by
  obtain ⟨y6,y7,y8,rfl⟩:=hδ
  obtain ⟨y,y',e⟩:=G6 hn as bs hl hl' e c hc (eY n as) (eY n bs) y7 y8
  exact ⟨_,e,_,_,_,rfl⟩) (2 ^ n) 0 [.fz (eY n as),.fz (eY n bs),.fz (.list (ce n fun b=>aF n (un b) as)),.fz (.list (ce n fun b=>aF n (un b) bs)),.fz (.int (e:Nat)),.fz (.int ((swL bs:Nat)-(swL as:Nat):Int)),.un,.un,.un] (by omega) ⟨_,_,_,rfl⟩
 have rg:=en n hn
 rw [List.range_eq_range'] at rg
 have fin:=G4 _ _ _ _ _ _ _ _ _ _ _ (zq n as (by omega)) (zq n bs (by omega)) (nD n _) rg lp
 rw [fin]
 refine congrArg (fun z=>some (PyData.bool z)) ?_
 apply Bool.eq_iff_iff.mpr
 rw [alB_iff,all_rng]
 unfold Al il
 constructor
 ·intro h c hc x hx
  rw [MA.eO]
  exact eqQ_iff.mp (all_rng.mp (h c hc) x hx)
 ·intro h c hc
  refine all_rng.mpr fun x hx=>eqQ_iff.mpr ?_
  rw [<- MA.eO]
  exact h c hc x hx
theorem qL {b:Sf} {k:Nat} (G:Nat->Prop) (B:D->Prop) (I:Dv->Prop) (N:Nat) (st:∀ i,i<N->∀ δ,I δ -> (∃ δ2,b (δ.set k (.fz (.int (i:Nat))))=some (.nx,δ2)/\I δ2/\G i)\/(∃ d δ2,b (δ.set k (.fz (.int (i:Nat))))=some (.rt d,δ2)/\B d)):∀ (m i:Nat) (δ:Dv),i+m<=N->I δ -> (∃ δ',loop (gN k) b ((List.range' i m).map fun k:Nat=>PyData.int (0+(k:Int))) δ = some (.nx,δ')/\I δ'/\∀ j,i<=j->j<i+m->G j)\/(∃ d δ',loop (gN k) b ((List.range' i m).map fun k:Nat=>PyData.int (0+(k:Int))) δ = some (.rt d,δ')/\B d)
 | 0,i,δ,_,hI=>.inl ⟨δ,rfl,hI,fun j h1 h2=>by omega⟩
 | m+1,i,δ,h,hI=>by
  rw [List.range'_succ,List.map_cons,Int.zero_add]
  rcases st i (by omega) δ hI with ⟨δ2,e,I2,g⟩ | ⟨d,δ2,e,hB⟩
  ·rw [cv (by rfl) e]
   rcases qL G B I N st m (i+1) δ2 (by omega) I2 with ⟨δ',e',I',a⟩ | r
   ·refine .inl ⟨δ',e',I',fun j h1 h2=>?_⟩
    by_cases z:j=i
    ·subst z; exact g
    ·exact a j (by omega) (by omega)
   ·exact .inr r
  ·exact .inr ⟨d,δ2,nC (by rfl) e,hB⟩
section
variable {n:Nat} (as bs:List Row) (base:Nat)
noncomputable def rq (n:Nat) (as bs:List Row) (base b p:Nat):Prop:=MA.eP (b5 n as 0 base) (b5 n bs b p)=MA.eP (b5 n as b p) (b5 n bs 0 base)
noncomputable def LJ (base b p:Nat):D:=.tuple [.str "unlike",.int 0,.int (base:Nat),.int (b:Nat),.int (p:Nat)]
noncomputable def ox (n:Nat) (as bs:List Row) (base:Nat) (d:D):Prop:=∃ b p,b<2 ^ n/\p<2 ^ n/\d=LJ base b p/\¬ rq n as bs base b p
end
theorem GT (F G F1 G1 f0 g0 f1 g1 V W:D) (z0 z1:Sl) (base b p:Int) (o:Bool) (a:av F (.int base)=some f0) (c:av G (.int base)=some g0) (a1:av F1 (.int p)=some f1) (c1:av G1 (.int p)=some g1) (v:cU [f0,g1]=some V) (w:cU [f1,g0]=some W) (ne:neD V W=some (.bool (!o))):cf [z0,z1,.fz F,.fz G,.fz (.int base),.fz (.int b),.fz F1,.fz G1,.fz (.int p)]=some (if o=true then .nx else .rt (.tuple [.str "unlike",.int 0,.int base,.int b,.int p]),[z0,z1,.fz F,.fz G,.fz (.int base),.fz (.int b),.fz F1,.fz G1,.fz (.int p)]):=by
 cases o <;> simp [cf,a,c,a1,c1,v,w,ne]
theorem Df (C1 C2 F F1 G1:D) (S:Int) (L:List D) (z3 z4 z6 z7 z8:Sl) (b:D) (r:Fl) (δ:Dv) (k1:aV [C1,b]=some F1) (k2:aV [C2,b]=some G1) (ln:bf [F]=some (.int S)) (rg:bi [.int S]=some L) (lp:loop (gN 8) cf L [.fz C1,.fz C2,.fz F,z3,z4,.fz b,.fz F1,.fz G1,z8]=some (r,δ)):dg [.fz C1,.fz C2,.fz F,z3,z4,.fz b,z6,z7,z8]=some (r,δ):=by
 simp [dg,k1,k2,ln,rg,lp]
theorem JY (F:D) (S:Int) (N:Nat) (z0 z1 z3 z4 z5 z6 z7 z8:Sl) (x:Nat->D) (b:Nat->Bool) (hl:N<=100000) (ln:bf [F]=some (.int S)) (rg:bi [.int S]=some ((List.range N).map fun k:Nat=>PyData.int (0+(k:Int)))) (a:∀ p:Nat,p<N->av F (.int (p:Nat))=some (x p)) (ne:∀ p,p<N->neD (x p) (.tuple [.int 0,.int 0,.int 0,.int 0,.int 0])=some (.bool (b p))):et [z0,z1,.fz F,z3,z4,z5,z6,z7,z8]=some (.list (((List.range N).filter b).map fun e:Nat=>PyData.int (0+(e:Int)))):=
 jx (h:=fun e:Nat=>PyData.int (0+(e:Int))) (b:=b) (by simp [ln,rg]) (by rw [List.length_range]; omega) (fun e he=>by
  rw [Int.zero_add]
  have h1:=a e (List.mem_range.mp he)
  have h2:=ne e (List.mem_range.mp he)
  simp [eL,h1,h2]) fun e _ _=>rfl
theorem GS (C1 C2 F G L1 base:D) (S:Int) (L:List D) (r:Fl) (d:D) (δ:Dv) (k1:aV [C1,.int 0]=some F) (k2:aV [C2,.int 0]=some G) (p:∀ z4 z5 z6 z7 z8,et [.fz C1,.fz C2,.fz F,.fz G,z4,z5,z6,z7,z8]=some L1) (b0:av L1 (.int 0)=some base) (ln:bf [F]=some (.int S)) (rg:bi [.int S]=some L) (lp:loop (gN 5) dg L [.fz C1,.fz C2,.fz F,.fz G,.fz base,.un,.un,.un,.un]=some (r,δ)) (hr:r=.rt d\/(r=.nx/\d=.none)):bP [C1,C2]=some d:=by
 rcases hr with rfl | ⟨rfl,rfl⟩
 ·simp [bP,runB,eZ,aw,k1,k2,p,b0,ln,rg,lp]
 ·simp [bP,runB,eZ,aw,k1,k2,p,b0,ln,rg,lp]
theorem GU {n:Nat} {as bs:List Row} (hl:as.length<=100) (hl':bs.length<=100) {base b p:Nat} (h0:base<2 ^ n) (hb:b<2 ^ n) (hp:p<2 ^ n) (z0 z1:Sl):(cf [z0,z1,.fz (cK n (b5 n as 0)),.fz (cK n (b5 n bs 0)),.fz (.int (base:Nat)),.fz (.int (b:Nat)),.fz (cK n (b5 n as b)),.fz (cK n (b5 n bs b)),.fz (.int (p:Nat))]=some (.nx,[z0,z1,.fz (cK n (b5 n as 0)),.fz (cK n (b5 n bs 0)),.fz (.int (base:Nat)),.fz (.int (b:Nat)),.fz (cK n (b5 n as b)),.fz (cK n (b5 n bs b)),.fz (.int (p:Nat))])/\rq n as bs base b p)\/(∃ δ,cf [z0,z1,.fz (cK n (b5 n as 0)),.fz (cK n (b5 n bs 0)),.fz (.int (base:Nat)),.fz (.int (b:Nat)),.fz (cK n (b5 n as b)),.fz (cK n (b5 n bs b)),.fz (.int (p:Nat))]=some (.rt (LJ base b p),δ)/\¬ rq n as bs base b p):=by
 have e:=GT _ _ _ _ _ _ _ _ _ _ z0 z1 (base:Nat) (b:Nat) (p:Nat) (@decide (rq n as bs base b p) (Classical.propDecidable _)) (gJ base rfl h0) (gJ base rfl h0) (gJ p rfl hp) (gJ p rfl hp) (mt _ _ (gS as hl 0 base) (gS bs hl' b p)) (mt _ _ (gS as hl b p) (gS bs hl' 0 base)) (uk _ _ _ (@decide_eq_true_iff _ (Classical.propDecidable _)))
 by_cases q:rq n as bs base b p
 ·rw [@decide_eq_true _ (Classical.propDecidable _) q,if_pos rfl] at e
  exact .inl ⟨e,q⟩
 ·rw [@decide_eq_false _ (Classical.propDecidable _) q,if_neg (by decide)] at e
  exact .inr ⟨_,e,q⟩
theorem Fj (u:Nu) (b:Bool) (hb:b=true↔u=(⟨0,0,0,0⟩,0)):neD (bF u) (.tuple [.int 0,.int 0,.int 0,.int 0,.int 0])=some (.bool (!b)):=uk u (⟨0,0,0,0⟩,0) b hb
theorem wb {n:Nat} (hn:n<=4) {as bs:List Row} (ha:∀ r∈as,r.ok n) (hb:∀ r∈bs,r.ok n) (hl:as.length<=100) (hl':bs.length<=100) (nz:∃ x,x<2 ^ n/\b5 n as 0 x≠(⟨0,0,0,0⟩,0)):∃ base,base<2 ^ n/\b5 n as 0 base≠(⟨0,0,0,0⟩,0)/\∃ d,bP [eY n as,eY n bs]=some d/\(ox n as bs base d\/(d=.none/\∀ b,b<2 ^ n->∀ p,p<2 ^ n->rq n as bs base b p)):=by
 have p1:∀ z4 z5 z6 z7 z8,et [.fz (eY n as),.fz (eY n bs),.fz (cK n (b5 n as 0)),.fz (cK n (b5 n bs 0)),z4,z5,z6,z7,z8]=some (.list (((List.range (2 ^ n)).filter fun p=>!@decide (b5 n as 0 p=(⟨0,0,0,0⟩,0)) (Classical.propDecidable _)).map fun e:Nat=>PyData.int (0+(e:Int)))):=fun z4 z5 z6 z7 z8=>
  JY _ _ (2 ^ n) _ _ _ z4 z5 z6 z7 z8 (fun p=>bF (b5 n as 0 p)) _ (Nat.le_trans (Nat.pow_le_pow_right (by decide) hn:2 ^ n<=2 ^ 4) (by decide)) (iA n _) (en n (by omega)) (fun p hp=>gJ p rfl hp) fun p _=>Fj _ _ (@decide_eq_true_iff _ (Classical.propDecidable _))
 cases F:(List.range (2 ^ n)).filter fun p=>!@decide (b5 n as 0 p=(⟨0,0,0,0⟩,0)) (Classical.propDecidable _) with
 | nil=>
  obtain ⟨x,hx,ne⟩:=nz
  have m:x∈(List.range (2 ^ n)).filter fun p=>!@decide (b5 n as 0 p=(⟨0,0,0,0⟩,0)) (Classical.propDecidable _):=List.mem_filter.mpr ⟨List.mem_range.mpr hx,by rw [@decide_eq_false _ (Classical.propDecidable _) ne]; rfl⟩
  rw [F] at m
  nomatch m
 | cons base l=>
  have m:base∈(List.range (2 ^ n)).filter fun p=>!@decide (b5 n as 0 p=(⟨0,0,0,0⟩,0)) (Classical.propDecidable _):=by rw [F]; exact List.mem_cons_self
  have hb0:=List.mem_range.mp (List.mem_filter.mp m).1
  have ne:b5 n as 0 base≠(⟨0,0,0,0⟩,0):=fun z=>by
   have:=(List.mem_filter.mp m).2
   rw [@decide_eq_true _ (Classical.propDecidable _) z] at this
   cases this
  rw [F] at p1
  refine ⟨base,hb0,ne,?_⟩
  have rg:=en n (by omega:n<=6)
  rw [List.range_eq_range'] at rg
  have bx:av (.list ((base::l).map fun e:Nat=>PyData.int (0+(e:Int)))) (.int 0)=some (.int (base:Nat)):=dM (j:=0) rfl (by rw [List.map_cons,Int.zero_add]; rfl)
  rcases qL (b:=dg) (k:=5) (fun b=>∀ p,p<2 ^ n->rq n as bs base b p) (ox n as bs base) (fun δ=>∃ z5 z6 z7 z8,δ = [.fz (eY n as),.fz (eY n bs),.fz (cK n (b5 n as 0)),.fz (cK n (b5 n bs 0)),.fz (.int (base:Nat)),z5,z6,z7,z8]) (2 ^ n) (fun b hb' δ hδ=>by
   obtain ⟨z5,z6,z7,z8,rfl⟩:=hδ
   rcases qL (b:=cf) (k:=8) (fun p=>rq n as bs base b p) (ox n as bs base) (fun δ=>∃ z8,δ = [.fz (eY n as),.fz (eY n bs),.fz (cK n (b5 n as 0)),.fz (cK n (b5 n bs 0)),.fz (.int (base:Nat)),.fz (.int (b:Nat)),.fz (cK n (b5 n as b)),.fz (cK n (b5 n bs b)),z8]) (2 ^ n) (fun p hp δ hδ=>by
    obtain ⟨z8,rfl⟩:=hδ
    rcases GU (n:=n) (as:=as) (bs:=bs) hl hl' hb0 hb' hp (.fz (eY n as)) (.fz (eY n bs)) with ⟨e,q⟩ | ⟨δ,e,q⟩
    ·exact .inl ⟨_,e,⟨_,rfl⟩,q⟩
    ·exact .inr ⟨_,_,e,b,p,hb',hp,rfl,q⟩) (2 ^ n) 0 [.fz (eY n as),.fz (eY n bs),.fz (cK n (b5 n as 0)),.fz (cK n (b5 n bs 0)),.fz (.int (base:Nat)),.fz (.int (b:Nat)),.fz (cK n (b5 n as b)),.fz (cK n (b5 n bs b)),z8] (by omega) ⟨z8,rfl⟩ with ⟨δ',e,⟨y8,rfl⟩,a⟩ | ⟨d,δ',e,hd⟩
   ·exact .inl ⟨_,Df _ _ _ _ _ _ _ _ _ z6 z7 z8 _ _ _ (eB (by omega) as ha hl b) (eB (by omega) bs hb hl' b) (iA n _) rg e,⟨_,_,_,_,rfl⟩,fun p hp=>a p (Nat.zero_le _) (by omega)⟩
   ·exact .inr ⟨d,_,Df _ _ _ _ _ _ _ _ _ z6 z7 z8 _ _ _ (eB (by omega) as ha hl b) (eB (by omega) bs hb hl' b) (iA n _) rg e,hd⟩) (2 ^ n) 0 [.fz (eY n as),.fz (eY n bs),.fz (cK n (b5 n as 0)),.fz (cK n (b5 n bs 0)),.fz (.int (base:Nat)),.un,.un,.un,.un] (by omega) ⟨_,_,_,_,rfl⟩ with ⟨δ',e,_,a⟩ | ⟨d,δ',e,hd⟩
  ·exact ⟨.none,GS _ _ _ _ _ _ _ _ _ _ δ' (eB (by omega) as ha hl 0) (eB (by omega) bs hb hl' 0) p1 bx (iA n _) rg e (.inr ⟨rfl,rfl⟩),.inr ⟨rfl,fun b hb'=>a b (Nat.zero_le _) (by omega)⟩⟩
  ·exact ⟨d,GS _ _ _ _ _ _ _ _ _ _ δ' (eB (by omega) as ha hl 0) (eB (by omega) bs hb hl' 0) p1 bx (iA n _) rg e (.inl rfl),.inl hd⟩
theorem L4:∀ (m:Nat) (p q:Int),q.natAbs<=m->p*p=2*(q*q)->q=0
 | 0,p,q,h,_=>by omega
 | m+1,p,q,h,e=>by
  have par:p % 2=0:=by
   have h2:p*p % 2=0:=by rw [e]; omega
   rw [Int.mul_emod] at h2
   rcases (by omega:p % 2=0\/p % 2=1) with z | z
   ·exact z
   ·rw [z] at h2; omega
  obtain ⟨r,rfl⟩:∃ r,p=2*r:=⟨p / 2,by omega⟩
  have e2:q*q=2*(r*r):=by
   have:2*r*(2*r)=2*(2*(r*r)):=by grind
   rw [this] at e
   omega
  by_cases z:q=0
  ·exact z
  ·have lt:r.natAbs<=m:=by
    apply Nat.le_of_lt_succ
    apply Nat.lt_of_not_le
    intro ge
    have g1:q.natAbs*q.natAbs<=r.natAbs*r.natAbs:=Nat.mul_le_mul (by omega) (by omega)
    have g2:q.natAbs*q.natAbs=2*(r.natAbs*r.natAbs):=by
     rw [<- Int.natAbs_mul,<- Int.natAbs_mul,e2,Int.natAbs_mul]
     rfl
    have g3:0<q.natAbs*q.natAbs:=Nat.mul_pos (by omega) (by omega)
    omega
   have r0:=L4 m q r lt e2
   subst r0
   have:q*q=0:=by rw [e2]; rfl
   exact (Int.mul_eq_zero.mp this).elim id id
noncomputable def nN (s:MA.S2):Int:=s.p*s.p-2*(s.q*s.q)
theorem Du {s:MA.S2} (h:s.p≠0):nN s≠0:=fun z=>by
 have e:s.p*s.p=2*(s.q*s.q):=by unfold nN at z; omega
 have q0:=L4 s.q.natAbs s.p s.q (Nat.le_refl _) e
 rw [q0] at e
 exact h ((Int.mul_eq_zero.mp e).elim id id)
theorem pM {s t t':MA.S2} (hs:s.p≠0) (h:MA.S2.mul s t=MA.S2.mul s t'):t=t':=by
 have n0:=Du hs
 have h1:s.p*t.p+2*s.q*t.q=s.p*t'.p+2*s.q*t'.q:=congrArg MA.S2.p h
 have h2:s.p*t.q+s.q*t.p=s.p*t'.q+s.q*t'.p:=congrArg MA.S2.q h
 apply MA.S2.ext'
 ·refine Int.eq_of_mul_eq_mul_left n0 ?_
  unfold nN
  grind
 ·refine Int.eq_of_mul_eq_mul_left n0 ?_
  unfold nN
  grind
theorem y1 {u:MA.Q4} (h:u≠⟨0,0,0,0⟩):(MA.nrm u).p≠0:=fun z=>h (MA.y0 z)
theorem um {u x y:MA.Q4} (hu:u≠⟨0,0,0,0⟩) (h:MA.Q4.mul u x=MA.Q4.mul u y):x=y:=by
 have n:=Du (y1 hu)
 have k:MA.Q4.mul (MA.xm (MA.nrm u)) x=MA.Q4.mul (MA.xm (MA.nrm u)) y:=by
  rw [<- MA.vx,MA.Q4.mul_comm u,MA.Q4.mul_assoc,MA.Q4.mul_assoc,h]
 generalize MA.nrm u=s at n k
 have k2:=congrArg (MA.Q4.mul (MA.xm ⟨s.p,-s.q⟩)) k
 rw [<- MA.Q4.mul_assoc,<- MA.Q4.mul_assoc] at k2
 have e:MA.Q4.mul (MA.xm ⟨s.p,-s.q⟩) (MA.xm s)=⟨nN s,0,0,0⟩:=by
  apply MA.Q4.ext' <;> simp only [MA.Q4.mul,MA.xm,nN] <;> grind
 rw [e] at k2
 have f:∀ z:MA.Q4,MA.Q4.mul ⟨nN s,0,0,0⟩ z=sm (nN s) z:=fun z=>by apply MA.Q4.ext' <;> simp [MA.Q4.mul,sm]
 rw [f,f] at k2
 have inj:∀ {a b:Int},nN s*a=nN s*b->a=b:=fun e=>Int.eq_of_mul_eq_mul_left n e
 exact MA.Q4.ext' (inj (congrArg MA.Q4.a k2)) (inj (congrArg MA.Q4.b k2)) (inj (congrArg MA.Q4.c k2)) (inj (congrArg MA.Q4.d k2))
theorem f8 (z:Int):0<=z*z:=by
 rcases Int.le_total 0 z with q | q
 ·exact Int.mul_nonneg q q
 ·exact Int.mul_nonneg_of_nonpos_of_nonpos q q
theorem pZ {z:Int} (h:z*z<=1) (hz:z≠0):z=1\/z = -1:=by
 rcases Int.lt_or_lt_of_ne hz with q | q
 ·right
  have:(-z)*1<=(-z)*(-z):=Int.mul_le_mul_of_nonneg_left (by omega) (by omega)
  rw [Int.neg_mul_neg,Int.mul_one] at this
  omega
 ·left
  have:z*1<=z*z:=Int.mul_le_mul_of_nonneg_left (by omega) (by omega)
  rw [Int.mul_one] at this
  omega
theorem pY {z:Int} (hz:z≠0):1<=z*z:=by
 have:=f8 z
 have:z*z≠0:=fun e=>hz ((Int.mul_eq_zero.mp e).elim id id)
 omega
theorem jo {z:Int} (h:z*z<=0):z=0:=Classical.byContradiction fun q=>by have:=pY q; omega
theorem BL {z:MA.Q4} (h:(MA.nrm z).p=1):∃ e,z=MA.bL e sk:=by
 obtain ⟨a,b,c,d⟩:=z
 have h:a*a+b*b+c*c+d*d=1:=h
 have na:=f8 a; have nb:=f8 b; have nc:=f8 c; have nd:=f8 d
 by_cases ha:a=0
 ·by_cases hb:b=0
  ·by_cases hc:c=0
   ·by_cases hd:d=0
    ·subst ha hb hc hd; omega
    ·rcases pZ (by omega) hd with rfl | rfl
     ·subst ha hb hc; exact ⟨3,rfl⟩
     ·subst ha hb hc; exact ⟨7,rfl⟩
   ·have:=pY hc
    have hd:=jo (z:=d) (by omega)
    rcases pZ (by omega) hc with rfl | rfl
    ·subst ha hb hd; exact ⟨2,rfl⟩
    ·subst ha hb hd; exact ⟨6,rfl⟩
  ·have:=pY hb
   have hc:=jo (z:=c) (by omega)
   have hd:=jo (z:=d) (by omega)
   rcases pZ (by omega) hb with rfl | rfl
   ·subst ha hc hd; exact ⟨1,rfl⟩
   ·subst ha hc hd; exact ⟨5,rfl⟩
 ·have:=pY ha
  have hb:=jo (z:=b) (by omega)
  have hc:=jo (z:=c) (by omega)
  have hd:=jo (z:=d) (by omega)
  rcases pZ (by omega) ha with rfl | rfl
  ·subst hb hc hd; exact ⟨0,rfl⟩
  ·subst hb hc hd; exact ⟨4,rfl⟩
theorem p4 (a:Int):a*a % 2=a % 2:=by
 rw [Int.mul_emod]
 rcases (by omega:a % 2=0\/a % 2=1) with z | z <;> rw [z] <;> rfl
theorem vv:∀ (m:Nat) (z:MA.Q4),MA.nrm z=⟨2 ^ m,0⟩->∃ e,z=MA.Q4.rtn m (MA.bL e sk)
 | 0,z,h=>BL (z:=z) (by rw [h]; rfl)
 | m+1,z,h=>by
  obtain ⟨a,b,c,d⟩:=z
  have hp:a*a+b*b+c*c+d*d=2 ^ m*2:=(congrArg MA.S2.p h).trans (Int.pow_succ 2 m)
  have hq:a*b+b*c+c*d-d*a=0:=congrArg MA.S2.q h
  have s1:=p4 a; have s2:=p4 b; have s3:=p4 c; have s4:=p4 d
  have t:(b+d)*(a+c)=2*(a*d):=by grind
  have ev:(a+c) % 2=0/\(b+d) % 2=0:=by
   have tm:(b+d)*(a+c) % 2=0:=by rw [t]; omega
   rw [Int.mul_emod] at tm
   have sum:(a+c+(b+d)) % 2=0:=by omega
   rcases (by omega:(a+c) % 2=0\/(a+c) % 2=1) with x | x
   ·exact ⟨x,by omega⟩
   ·have y:(b+d) % 2=1:=by omega
    rw [x,y] at tm
    omega
  have ez:(⟨a,b,c,d⟩:MA.Q4)=MA.Q4.rt ⟨(b-d) / 2,(a+c) / 2,(b+d) / 2,(c-a) / 2⟩:=by
   apply MA.Q4.ext' <;> simp only [MA.Q4.rt] <;> omega
  rw [ez] at h ⊢
  have h2:MA.nrm ⟨(b-d) / 2,(a+c) / 2,(b+d) / 2,(c-a) / 2⟩=⟨2 ^ m,0⟩:=by
   rw [MA.qu] at h
   apply MA.S2.sc_inj (n:=1)
   rw [h]
   apply MA.S2.ext'
   ·show (2:Int) ^ (m+1)=2 ^ m*2 ^ 1
    rw [Int.pow_succ]; rfl
   ·rfl
  obtain ⟨e,h3⟩:=vv m _ h2
  exact ⟨e,by rw [h3,MA.Q4.rtn_succ]⟩
open MA (aN)
theorem Fn (u x:MA.Q4) (c:Int):MA.Q4.mul u (sm c x)=sm c (MA.Q4.mul u x):=by
 apply MA.Q4.ext' <;> simp only [MA.Q4.mul,sm] <;> grind
theorem mul_zero (u:MA.Q4):MA.Q4.mul u ⟨0,0,0,0⟩=⟨0,0,0,0⟩:=by
 apply MA.Q4.ext' <;> simp [MA.Q4.mul]
theorem rB (c:Nat->Int) (u:MA.Q4) (Q:Nat->MA.Q4):∀ N,MA.Q4.mul u (jj c N Q)=jj c N fun b=>MA.Q4.mul u (Q b)
 | 0=>mul_zero u
 | N+1=>by rw [gG,gG,MA.Q4.mul_add,Fn,rB c u Q N]
noncomputable def SS (N:Nat) (t:Nat->MA.S2):MA.S2:=⟨aN N fun b=>(t b).p,aN N fun b=>(t b).q⟩
theorem iM (N:Nat) (t:Nat->MA.S2):SS (N+1) t=MA.S2.add (SS N t) (t N):=rfl
theorem uX (s x y:MA.S2):MA.S2.mul s (MA.S2.add x y)=MA.S2.add (MA.S2.mul s x) (MA.S2.mul s y):=by
 apply MA.S2.ext' <;> simp only [MA.S2.mul,MA.S2.add] <;> grind
theorem lJ (s x:MA.S2):MA.S2.mul s x=MA.S2.mul x s:=by
 apply MA.S2.ext' <;> simp only [MA.S2.mul] <;> grind
theorem uW (s:MA.S2) (t:Nat->MA.S2):∀ N,MA.S2.mul s (SS N t)=SS N fun b=>MA.S2.mul s (t b)
 | 0=>by apply MA.S2.ext' <;> simp [MA.S2.mul,SS,aN]
 | N+1=>by rw [iM,iM,uX,uW s t N]
theorem im {t r:Nat->MA.S2}:∀ N,(∀ b,b<N->t b=r b)->SS N t=SS N r
 | 0,_=>rfl
 | N+1,h=>by rw [iM,iM,im N fun b hb=>h b (by omega),h N (by omega)]
theorem v7 (t:Nat->MA.S2):∀ N,jj (fun _=>1) N (fun b=>MA.xm (t b))=MA.xm (SS N t)
 | 0=>rfl
 | N+1=>by
  rw [gG,iM,v7 t N]
  apply MA.Q4.ext' <;> simp only [MA.Q4.add,MA.xm,sm,MA.S2.add] <;> omega
theorem Eo (x:MA.Q4):MA.Q4.rt (MA.Q4.rt x)=sm 2 x:=by
 apply MA.Q4.ext' <;> simp only [MA.Q4.rt,sm] <;> omega
theorem Hs (a b:Int) (x:MA.Q4):sm a (sm b x)=sm (a*b) x:=by
 apply MA.Q4.ext' <;> simp only [sm,Int.mul_assoc]
theorem vf (x:MA.Q4):∀ s:Nat,MA.Q4.rtn (s+s) x=sm (2 ^ s) x
 | 0=>by apply MA.Q4.ext' <;> simp [MA.Q4.rtn,sm]
 | s+1=>by
  rw [show s+1+(s+1)=s+s+1+1 by omega,MA.Q4.rtn_succ,MA.Q4.rtn_succ,vf x s,Eo,Hs,Int.pow_succ,Int.mul_comm]
theorem BW (u x:MA.Q4):MA.Q4.mul u (MA.Q4.rt x)=MA.Q4.rt (MA.Q4.mul u x):=by
 apply MA.Q4.ext' <;> simp only [MA.Q4.mul,MA.Q4.rt] <;> grind
theorem sB (u x:MA.Q4):∀ s,MA.Q4.mul u (MA.Q4.rtn s x)=MA.Q4.rtn s (MA.Q4.mul u x)
 | 0=>rfl
 | s+1=>by rw [MA.Q4.rtn_succ,MA.Q4.rtn_succ,BW,sB u x s]
theorem BU (u x:MA.Q4):MA.Q4.mul u (MA.Q4.tn x)=MA.Q4.tn (MA.Q4.mul u x):=by
 apply MA.Q4.ext' <;> simp only [MA.Q4.mul,MA.Q4.tn] <;> grind
theorem kh (u x:MA.Q4):∀ e,MA.Q4.mul u (MA.bL e x)=MA.bL e (MA.Q4.mul u x)
 | 0=>rfl
 | e+1=>by show MA.Q4.mul u (MA.Q4.tn (MA.bL e x))=MA.Q4.tn (MA.bL e (MA.Q4.mul u x)); rw [BU,kh u x e]
theorem zk (u:MA.Q4):MA.Q4.mul u sk=u:=by
 apply MA.Q4.ext' <;> simp [MA.Q4.mul,sk]
theorem Eh {k:Int} (hk:k≠0) {x y:MA.Q4} (h:sm k x=sm k y):x=y:=
 MA.Q4.ext' (Int.eq_of_mul_eq_mul_left hk (congrArg MA.Q4.a h)) (Int.eq_of_mul_eq_mul_left hk (congrArg MA.Q4.b h)) (Int.eq_of_mul_eq_mul_left hk (congrArg MA.Q4.c h)) (Int.eq_of_mul_eq_mul_left hk (congrArg MA.Q4.d h))
theorem Fh (k:Int) (x:MA.Q4):MA.nrm (sm k x)=MA.S2.mul (MA.nrm x) ⟨k*k,0⟩:=by
 apply MA.S2.ext' <;> simp only [MA.nrm,sm,MA.S2.mul] <;> grind
theorem A4 {N s:Nat} {F G:Nat->MA.Q4} {u v:MA.Q4} (hu:u≠⟨0,0,0,0⟩) (hF:SS N (fun p=>MA.nrm (F p))=⟨2 ^ s,0⟩) (hG:SS N (fun p=>MA.nrm (G p))=⟨2 ^ s,0⟩) (h:∀ p,p<N->MA.Q4.mul u (G p)=MA.Q4.mul v (F p)):∃ e,v=MA.bL e u:=by
 have p0:(2:Int) ^ s≠0:=Int.ne_of_gt (Int.pow_pos (by decide))
 have nn:MA.nrm u=MA.nrm v:=by
  refine pM (s:=⟨2 ^ s,0⟩) p0 ?_
  rw [lJ,lJ ⟨2 ^ s,0⟩,<- hG,uW,hG,<- hF,uW]
  exact im N fun b hb=>by rw [<- MA.qv,<- MA.qv,h b hb]
 have uc:MA.Q4.mul u (jj (fun _=>1) N fun p=>MA.Q4.mul (G p) (MA.Q4.mir (F p)))=sm (2 ^ s) v:=by
  rw [rB,lj (R:=fun p=>MA.Q4.mul v (MA.xm (MA.nrm (F p)))) _ N fun b hb=>by rw [<- MA.Q4.mul_assoc,h b hb,MA.Q4.mul_assoc,MA.vx],<- rB,v7,hF]
  apply MA.Q4.ext' <;> simp [MA.Q4.mul,MA.xm,sm,Int.mul_comm]
 have nc:MA.nrm (jj (fun _=>1) N fun p=>MA.Q4.mul (G p) (MA.Q4.mir (F p)))=⟨2 ^ (s+s),0⟩:=by
  refine pM (s:=MA.nrm u) (y1 hu) ?_
  rw [<- MA.qv,uc,Fh,nn,Int.pow_add]
 obtain ⟨e,he⟩:=vv _ _ nc
 refine ⟨e,Eh p0 ?_⟩
 rw [<- uc,he,sB,kh,zk,vf]
theorem Gm {N s:Nat} {F G:Nat->Nat->MA.Q4} {u v:MA.Q4} (hN:0<N) (hu:u≠⟨0,0,0,0⟩) (hF:SS N (fun p=>MA.nrm (F 0 p))=⟨2 ^ s,0⟩) (hG:SS N (fun p=>MA.nrm (G 0 p))=⟨2 ^ s,0⟩) (h:∀ b,b<N->∀ p,p<N->MA.Q4.mul u (G b p)=MA.Q4.mul v (F b p)):∃ e,∀ b,b<N->∀ p,p<N->G b p=MA.bL e (F b p):=by
 obtain ⟨e,rfl⟩:=A4 hu hF hG (h 0 hN)
 refine ⟨e,fun b hb p hp=>um hu ?_⟩
 rw [h b hb p hp,MA.Q4.mul_comm,kh,kh,MA.Q4.mul_comm]
open MA (aN)
theorem vY (k:Nat) (t:Nat->MA.S2):∀ N,SS N (fun p=>MA.S2.sc k (t p))=MA.S2.sc k (SS N t)
 | 0=>by apply MA.S2.ext' <;> simp [SS,MA.S2.sc,aN]
 | N+1=>by rw [iM,iM,MA.S2.sc_addS,vY k t N]
theorem Jv {n b:Nat} (hb:b<2 ^ n):SS (2 ^ n) (fun x=>MA.nrm (un b x))=⟨1,0⟩:=by
 apply MA.S2.ext'
 ·have e:=jn (fun _=>(1:Int)) b (2 ^ n)
  rw [if_pos hb] at e
  rw [<- e]
  exact MA.bA _ fun x _=>by
   show (MA.nrm (un b x)).p=if b=x then 1 else 0
   unfold un
   by_cases q:b=x
   ·rw [if_pos q,if_pos q.symm]; rfl
   ·rw [if_neg q,if_neg (Ne.symm q)]; rfl
 ·exact ya _ _ fun x _=>by
   show (MA.nrm (un b x)).q=0
   unfold un
   split <;> rfl
theorem Dg {n b:Nat} {as:List Row} (hr:∀ r∈as,r.ok n) (hb:b<2 ^ n):SS (2 ^ n) (fun x=>MA.nrm (aF n (un b) as x))=⟨2 ^ swL as,0⟩:=by
 have sl:=fU as
 have h:MA.qr as.length n (cn n (pR b) as)=MA.qr as.length n (pR b):=jV (M:=as.length) as hr (mM b) (by omega)
 have l:MA.qr as.length n (cn n (pR b) as)=MA.S2.sc (as.length-swL as) (SS (2 ^ n) fun x=>MA.nrm (aF n (un b) as x)):=by
  rw [<- vY]
  exact im (2 ^ n) fun x _=>by
   have v:=(ja (n:=n) (M:=as.length) as (Nat.le_refl _) b x).1
   show MA.nrm (MA.val as.length (cn n (pR b) as x))=_
   rw [show cn n (pR b) as x=b5 n as b x from rfl,v,MA.ju]
 have r:MA.qr as.length n (pR b)=MA.S2.sc as.length ⟨1,0⟩:=by
  rw [<- Jv hb,<- vY]
  exact im (2 ^ n) fun x _=>by
   show MA.nrm (MA.Q4.rtn as.length (un b x))=_
   rw [MA.ju]
 rw [l,r,show as.length=as.length-swL as+swL as by omega,MA.S2.sc_add,show as.length-swL as+swL as-swL as=as.length-swL as by omega] at h
 rw [MA.S2.sc_inj h]
 apply MA.S2.ext'
 ·show (1:Int)*2 ^ swL as=_
  rw [Int.one_mul]
 ·show (0:Int)*2 ^ swL as=_
  rw [Int.zero_mul]
theorem vR {n b:Nat} {as bs:List Row} (hr:∀ r∈as,r.ok n) (hb:b<2 ^ n):SS (2 ^ n) (fun x=>MA.nrm (il n as bs b x))=⟨2 ^ mx as bs,0⟩:=by
 have le:swL as<=mx as bs:=Nat.le_max_left _ _
 have e:SS (2 ^ n) (fun x=>MA.nrm (il n as bs b x))=MA.S2.sc (mx as bs-swL as) (SS (2 ^ n) fun x=>MA.nrm (aF n (un b) as x)):=by
  rw [<- vY]
  exact im (2 ^ n) fun x _=>by
   unfold il
   rw [MA.ju]
 rw [e,Dg hr hb]
 apply MA.S2.ext'
 ·show (2:Int) ^ swL as*2 ^ (mx as bs-swL as)=_
  rw [<- Int.pow_add]
  congr 1
  omega
 ·show (0:Int)*_=_
  rw [Int.zero_mul]
theorem xo {n:Nat} (rs:List Row) (b x:Nat) (h:aF n (un b) rs x=⟨0,0,0,0⟩):b5 n rs b x=(⟨0,0,0,0⟩,0):=by
 obtain ⟨v,k⟩:=ja (n:=n) (M:=rs.length) rs (Nat.le_refl _) b x
 refine MA.pQ (M:=rs.length) (uI n rs b x) ⟨by simp,fun z=>by simp at z⟩ k (Nat.zero_le _) ?_
 rw [v,h,dZ]
 show _=MA.Q4.rtn (rs.length-0) ⟨0,0,0,0⟩
 rw [dZ]
theorem CV {n:Nat} {rs:List Row} (hr:∀ r∈rs,r.ok n) {b:Nat} (hb:b<2 ^ n):∃ x,x<2 ^ n/\b5 n rs b x≠(⟨0,0,0,0⟩,0):=by
 apply Classical.byContradiction
 intro no
 have z:∀ x,x<2 ^ n->aF n (un b) rs x=⟨0,0,0,0⟩:=fun x hx=>by
  have e:b5 n rs b x=(⟨0,0,0,0⟩,0):=Classical.byContradiction fun q=>no ⟨x,hx,q⟩
  have v:=(ja (n:=n) (M:=rs.length) rs (Nat.le_refl _) b x).1
  rw [e] at v
  have v:MA.Q4.rtn (rs.length-0) ⟨0,0,0,0⟩=MA.Q4.rtn (rs.length-swL rs) (aF n (un b) rs x):=v
  rw [dZ,<- dZ (rs.length-swL rs)] at v
  exact (MA.Q4.rtn_inj v).symm
 have s:=Dg (n:=n) hr hb
 have s0:SS (2 ^ n) (fun x=>MA.nrm (aF n (un b) rs x))=SS (2 ^ n) fun _=>⟨0,0⟩:=im (2 ^ n) fun x hx=>by rw [z x hx]; rfl
 rw [s0] at s
 have p:=congrArg MA.S2.p s
 have p:aN (2 ^ n) (fun _=>(0:Int))=2 ^ swL rs:=p
 rw [ya _ _ fun _ _=>rfl] at p
 have:(0:Int)<2 ^ swL rs:=Int.pow_pos (by decide)
 omega
theorem Jr {n:Nat} {as bs:List Row} (ha:∀ r∈as,r.ok n) (hb:∀ r∈bs,r.ok n) {base:Nat} (ne:b5 n as 0 base≠(⟨0,0,0,0⟩,0)) (h:∀ b,b<2 ^ n->∀ p,p<2 ^ n->rq n as bs base b p):∃ e,e<8/\Al n as bs e:=by
 have pn:0<2 ^ n:=Nat.pow_pos (by decide)
 have u0:il n as bs 0 base≠⟨0,0,0,0⟩:=fun z=>ne (xo as 0 base (MA.Q4.rtn_inj (z.trans (dZ _).symm)))
 obtain ⟨e,he⟩:=Gm (N:=2 ^ n) (s:=mx as bs) (F:=il n as bs) (G:=il n bs as) (u:=il n as bs 0 base) (v:=il n bs as 0 base) pn u0 (vR ha pn) (by rw [qx]; exact vR hb pn) fun b hb' p hp=>by
  have q:=(m7 as bs 0 base b p).mp (h b hb' p hp)
  unfold il
  rw [<- MA.Q4.rtn_mul2,q,MA.Q4.rtn_mul2,MA.Q4.mul_comm]
 refine ⟨e % 8,Nat.mod_lt _ (by decide),fun b hb' x hx=>?_⟩
 rw [MA.j5]
 exact (he b hb' x hx).symm
theorem ix:vr "alike" = true:=by decide +kernel
theorem gP:vr "unlike" = true:=by decide +kernel
theorem Jt:aX (.str "alike") (.str "alike")=some (.bool true):=(dW ix ix).trans (congrArg (fun z=>some (PyData.bool z)) (show (("alike":Str)==("alike":Str))=true by decide +kernel))
theorem GY:aX (.str "unlike") (.str "alike")=some (.bool false):=(dW gP ix).trans (congrArg (fun z=>some (PyData.bool z)) (show (("unlike":Str)==("alike":Str))=false by decide +kernel))
noncomputable def mI (e:Int):D:=.tuple [.str "alike",.int e]
noncomputable def fT (s0 s1 s2 s3:Int):D:=.tuple [.str "unlike",.int s0,.int s1,.int s2,.int s3]
theorem Ls (C1 C2:D) (e:Int) (rf:aU [C1,C2]=some .none) (ta:bH [C1,C2]=some (.int e)):aY [C1,C2]=some (mI e):=by
 simp [aY,runB,fM,aw,rf,ta,mI]
theorem Lu (C1 C2 d:D) (rf:aU [C1,C2]=some .none) (ta:bH [C1,C2]=some .none) (up:bP [C1,C2]=some d):aY [C1,C2]=some d:=by
 simp [aY,runB,fM,aw,rf,ta,up]
noncomputable def ET:Option Nat->Int->Bool
 | some a,e=>((a:Nat):Int)==e
 | none,_=>false
theorem ES (o:Option Nat) (e:Int):aX (outD o) (.int e)=some (.bool (ET o e)):=by
 cases o with
 | none=>rfl
 | some a=>rfl
theorem KG (C1 C2 T:D) (e:Int) (b:Bool) (rf:aU [C1,C2]=some .none) (ta:bH [C1,C2]=some T) (q:aX T (.int e)=some (.bool b)):aI [C1,C2,mI e]=some (.bool b):=by
 have i0:av (mI e) (.int 0)=some (.str "alike"):=rfl
 have i1:av (mI e) (.int 1)=some (.int e):=rfl
 simp [aI,runB,dI,aw,rf,ta,i0,i1,q,Jt]
theorem yd {n:Nat} (hn:n<=4) {as bs:List Row} (ha:∀ r∈as,r.ok n) (hb:∀ r∈bs,r.ok n) (hl:as.length<=100) (hl':bs.length<=100) (e:Int):aI [eY n as,eY n bs,mI e]=some (.bool (ET (kO (De n as bs) 0 8) e)):=
 KG _ _ _ _ _ (Ez _ _ n (fw n as (by omega)) (fw n bs (by omega)) (at0 _ _) (at0 _ _)) (o7 hn ha hb (by omega) (by omega)) (ES _ e)
noncomputable def xH (N:Int) (s:Int):Bool:=decide (0<=s)&&decide (s<N)
theorem Jj (N s:Int):(GC (oC (.int 0)) (oV 0) (oV 1) KZ Av) [.fz (.int s),.fz (.int N)]=some (.bool (xH N s)):=by
 unfold xH
 by_cases h:0<=s
 ·simp [GC,h]
 ·simp [GC,h]
theorem KF (C1 C2:Sl) (s0 s1 s2 s3 N:Int):iR [C1,C2,.fz (fT s0 s1 s2 s3),.fz (.int N)]=some (.list ([s0,s1,s2,s3].map fun s=>.bool (xH N s))):=
 d8 (h:=PyData.int) (k:=fun s=>PyData.bool (xH N s)) (xs:=[s0,s1,s2,s3]) rfl (by simp) fun s _=>Jj N s
theorem KE (C1 C2:D) (s0 s1 s2 s3 n N:Int) (b:Bool) (rf:aU [C1,C2]=some .none) (c0:av C1 (.int 0)=some (.int n)) (sh:dO (.int 1) (.int n)=some (.int N)) (ia:([s0,s1,s2,s3].all fun s=>xH N s)=true->dH [C1,C2,fT s0 s1 s2 s3]=some (.bool b)):aI [C1,C2,fT s0 s1 s2 s3]=some (.bool (([s0,s1,s2,s3].all fun s=>xH N s)&&b)):=by
 have i0:av (fT s0 s1 s2 s3) (.int 0)=some (.str "unlike"):=rfl
 have p:=KF (.fz C1) (.fz C2) s0 s1 s2 s3 N
 have al:=tz (fun s=>xH N s) [s0,s1,s2,s3]
 have ne:=GY
 cases q:[s0,s1,s2,s3].all fun s=>xH N s with
 | true=>
  have ia:=ia q
  rw [q] at al
  generalize ([s0,s1,s2,s3].map fun s=>PyData.bool (xH N s))=Z at p al
  simp [aI,runB,dI,aw,rf,i0,ne,c0,sh,p,al,ia]
 | false=>
  rw [q] at al
  generalize ([s0,s1,s2,s3].map fun s=>PyData.bool (xH N s))=Z at p al
  simp [aI,runB,dI,aw,rf,i0,ne,c0,sh,p,al]
theorem IW (C K K2 V V2:D) (s0 s1 s2 s3:Int) (k1:aV [C,.int s0]=some K) (v1:av K (.int s1)=some V) (k2:aV [C,.int s2]=some K2) (v2:av K2 (.int s3)=some V2) (x:Bool):(o2 (VL.os (ac (oV 1) (ac (o2 (oV 2) (oV 0) av) (ai))) aV) (o2 (oV 2) (o2 (oV 0) (oC (.int 1)) aT) av) av) [.fz (if x then .int 3 else .int 1),.fz C,.fz (fT s0 s1 s2 s3)]=some (if x then V2 else V):=by
 have i1:av (fT s0 s1 s2 s3) (.int 1)=some (.int s0):=rfl
 have i2:av (fT s0 s1 s2 s3) (.int 2)=some (.int s1):=rfl
 have i3:av (fT s0 s1 s2 s3) (.int 3)=some (.int s2):=rfl
 have i4:av (fT s0 s1 s2 s3) (.int 4)=some (.int s3):=rfl
 cases x
 ·simp [i1,i2,k1,v1]
 ·simp [i3,i4,k2,v2]
theorem K5 (C1 C2 K1 K2 L1 L2 V1 V2 W1 W2 P Q:D) (s0 s1 s2 s3:Int) (b:Bool) (k1:aV [C1,.int s0]=some K1) (v1:av K1 (.int s1)=some V1) (k2:aV [C1,.int s2]=some K2) (v2:av K2 (.int s3)=some V2) (l1:aV [C2,.int s0]=some L1) (w1:av L1 (.int s1)=some W1) (l2:aV [C2,.int s2]=some L2) (w2:av L2 (.int s3)=some W2) (p:cU [V1,W2]=some P) (q:cU [V2,W1]=some Q) (ne:neD P Q=some (.bool b)):dH [C1,C2,fT s0 s1 s2 s3]=some (.bool b):=by
 have p1:∀ z3 z4,lv [.fz C1,.fz C2,.fz (fT s0 s1 s2 s3),z3,z4]=some (.list [V1,V2]):=fun z3 z4=>d8 (h:=fun x:Bool=>if x then PyData.int 3 else .int 1) (k:=fun x:Bool=>if x then V2 else V1) (xs:=[false,true]) rfl (by decide) fun x _=>IW C1 K1 K2 V1 V2 s0 s1 s2 s3 k1 v1 k2 v2 x
 have p2:∀ z3 z4,lu [.fz C1,.fz C2,.fz (fT s0 s1 s2 s3),z3,z4]=some (.list [W1,W2]):=fun z3 z4=>d8 (h:=fun x:Bool=>if x then PyData.int 3 else .int 1) (k:=fun x:Bool=>if x then W2 else W1) (xs:=[false,true]) rfl (by decide) fun x _=>IW C2 L1 L2 W1 W2 s0 s1 s2 s3 l1 w1 l2 w2 x
 have e0:hU [V1,V2] 0=some V1:=rfl
 have e1:hU [V1,V2] 1=some V2:=rfl
 have f0:hU [W1,W2] 0=some W1:=rfl
 have f1:hU [W1,W2] 1=some W2:=rfl
 simp [dH,runB,jY,aw,p1,p2,e0,e1,f0,f1,p,q,ne]
noncomputable def Jx (n:Nat) (as bs:List Row) (s0 s1 s2 s3:Nat):Prop:=MA.Q4.mul (aF n (un s0) as s1) (aF n (un s2) bs s3)=MA.Q4.mul (aF n (un s2) as s3) (aF n (un s0) bs s1)
theorem uz {n:Nat} (hn:n<=4) {as bs:List Row} (ha:∀ r∈as,r.ok n) (hb:∀ r∈bs,r.ok n) (hl:as.length<=100) (hl':bs.length<=100) {s0 s1 s2 s3:Nat} (h0:s0<2 ^ n) (h1:s1<2 ^ n) (h2:s2<2 ^ n) (h3:s3<2 ^ n):dH [eY n as,eY n bs,fT s0 s1 s2 s3]=some (.bool (!xI (MA.Q4.mul (aF n (un s0) as s1) (aF n (un s2) bs s3)) (MA.Q4.mul (aF n (un s2) as s3) (aF n (un s0) bs s1)))):=
 K5 _ _ _ _ _ _ _ _ _ _ _ _ _ _ _ _ _ (eB (by omega) as ha hl s0) (gJ s1 rfl h1) (eB (by omega) as ha hl s2) (gJ s3 rfl h3) (eB (by omega) bs hb hl' s0) (gJ s1 rfl h1) (eB (by omega) bs hb hl' s2) (gJ s3 rfl h3) (mt _ _ (gS as hl s0 s1) (gS bs hl' s2 s3)) (mt _ _ (gS as hl s2 s3) (gS bs hl' s0 s1)) (uk _ _ _ (eqQ_iff.trans (m7 as bs s0 s1 s2 s3).symm))
theorem yc {n:Nat} (hn:n<=4) {as bs:List Row} (ha:∀ r∈as,r.ok n) (hb:∀ r∈bs,r.ok n) (hl:as.length<=100) (hl':bs.length<=100) {s0 s1 s2 s3:Nat} (h0:s0<2 ^ n) (h1:s1<2 ^ n) (h2:s2<2 ^ n) (h3:s3<2 ^ n):aI [eY n as,eY n bs,fT s0 s1 s2 s3]=some (.bool (!xI (MA.Q4.mul (aF n (un s0) as s1) (aF n (un s2) bs s3)) (MA.Q4.mul (aF n (un s2) as s3) (aF n (un s0) bs s1)))):=by
 have h:=KE (eY n as) (eY n bs) s0 s1 s2 s3 n ((2 ^ n:Nat):Int) _ (Ez _ _ n (fw n as (by omega)) (fw n bs (by omega)) (at0 _ _) (at0 _ _)) (at0 _ _) (wq n (by omega)) fun _=>uz hn ha hb hl hl' h0 h1 h2 h3
 have a:([(s0:Int),(s1:Int),(s2:Int),(s3:Int)].all fun s=>xH ((2 ^ n:Nat):Int) s)=true:=by
  rw [List.all_eq_true]
  intro s hs
  simp only [List.mem_cons,List.not_mem_nil,or_false] at hs
  unfold xH
  rw [Bool.and_eq_true,decide_eq_true_iff,decide_eq_true_iff]
  rcases hs with rfl | rfl | rfl | rfl <;> exact ⟨by omega,by exact_mod_cast (by assumption)⟩
 rw [a,Bool.true_and] at h
 exact h
theorem Ap {n:Nat} (hn:n<=4) {as bs:List Row} (ha:∀ r∈as,r.ok n) (hb:∀ r∈bs,r.ok n) (hl:as.length<=100) (hl':bs.length<=100):(∃ e,e<8/\kO (De n as bs) 0 8=some e/\aY [eY n as,eY n bs]=some (mI (e:Nat)))\/(kO (De n as bs) 0 8=none/\∃ base b p:Nat,base<2 ^ n/\b<2 ^ n/\p<2 ^ n/\aY [eY n as,eY n bs]=some (fT 0 (base:Nat) (b:Nat) (p:Nat))/\¬ Jx n as bs 0 base b p):=by
 have pn:0<2 ^ n:=Nat.pow_pos (by decide)
 have rf:=Ez _ _ n (fw n as (by omega)) (fw n bs (by omega)) (at0 (PyData.int (n:Nat)) [.tuple (as.map rowD)]) (at0 (PyData.int (n:Nat)) [.tuple (bs.map rowD)])
 have ta:=o7 hn ha hb (by omega) (by omega)
 cases o:kO (De n as bs) 0 8 with
 | some e=>
  rw [o] at ta
  exact .inl ⟨e,by have:=(kN o).2.2; omega,rfl,Ls _ _ _ rf ta⟩
 | none=>
  rw [o] at ta
  obtain ⟨base,h0,ne,d,up,h⟩:=wb hn ha hb hl hl' (CV ha pn)
  refine .inr ⟨rfl,?_⟩
  rcases h with ⟨b,p,hb',hp,rfl,q⟩ | ⟨_,all⟩
  ·exact ⟨base,b,p,h0,hb',hp,Lu _ _ _ rf ta up,fun z=>q ((m7 as bs 0 base b p).mpr z)⟩
  ·obtain ⟨e,he,al⟩:=Jr ha hb ne all
   have:=pC o e (Nat.zero_le _) (by omega)
   rw [alB_iff.mpr al] at this
   cases this
theorem vA (c:Int) (w j k:Int) (hw:w=1) (hk:2<k) (h6:c % 6=k) (hj:bw (.int (c / 6)) (.int w)=some (.int j)) (r:D) (h:∀ b:Int,b=k % 2->(b=0->r=.tuple [.str "swing",.int j])/\(b=1->r=.tuple [.str "turn",.int j,.int (1+c / 18 % 7)])):aC [.int c,.int w]=some r:=by
 obtain ⟨a,b⟩:=h (k % 2) rfl
 rcases (by omega:k % 2=0\/k % 2=1) with q | q
 ·have r':=a q
  subst r' hw
  have e:hU [PyData.str "swing",.str "",.str "flip"] 0=some (.str "swing"):=rfl
  simp [-ak,-cu,b9,cP,aC,runB,dJ,aw,h6,hj,hk,q,e]
 ·have r':=b q
  subst r' hw
  simp [-ak,-cu,b9,cP,aC,runB,dJ,aw,h6,hj,hk,q]
theorem B2 (c w j:Int) (h6:c % 6=1) (hj:bw (.int (c / 6)) (.int w)=some (.int j)):aC [.int c,.int w]=some (.tuple [.str "turn",.int j,.int (1+c / 18 % 7)]):=by
 have t:(kJ (ob (o2 (oV 1) (oC (.int 1)) aX)) (ob (o2 (oV 2) (oC (.int 2)) sM))) [.fz (.int c),.fz (.int w),.fz (.int 1),.fz (.int j),.un]=some false:=by
  by_cases q:w=1 <;> simp [q]
 simp [-ak,-cu,b9,cP,aC,runB,dJ,aw,h6,hj,t]
theorem zv (c w j k:Int) (s:Str) (h6:c % 6=k) (hk:k=0\/k=2) (hj:bw (.int (c / 6)) (.int w)=some (.int j)) (hs:hU [PyData.str "swing",.str "",.str "flip"] k=some (.str s)):aC [.int c,.int w]=some (.tuple [.str s,.int j]):=by
 have t:(kJ (ob (o2 (oV 1) (oC (.int 1)) aX)) (ob (o2 (oV 2) (oC (.int 2)) sM))) [.fz (.int c),.fz (.int w),.fz (.int k),.fz (.int j),.un]=some false:=by
  have:¬ 2<k:=by omega
  by_cases q:w=1 <;> simp [q,this]
 have n1:¬ k=1:=by omega
 rcases hk with rfl | rfl
 ·simp [-ak,-cu,b9,cP,aC,runB,dJ,aw,h6,hj,t,hs]
 ·simp [-ak,-cu,b9,cP,aC,runB,dJ,aw,h6,hj,t,hs]
theorem Fw (c w j k m i:Int) (s:Str) (h6:c % 6=k) (hw:¬ w=1) (hk:2<k) (hj:bw (.int (c / 6)) (.int w)=some (.int j)) (hm:bw (.int (c / 18)) (.int (w-1))=some (.int m)) (hi:bw (.int (j+1+m)) (.int w)=some (.int i)) (hs:hU [PyData.str "tie",.str "sign",.str "cross"] (k-3)=some (.str s)):aC [.int c,.int w]=some (.tuple [.str s,.int i,.int j]):=by
 have n1:¬ k=1:=by omega
 have n0:¬ k=0:=by omega
 have n2:¬ k=2:=by omega
 simp [-ak,-cu,b9,cP,aC,runB,dJ,aw,h6,hj,hw,n1,n0,n2,hm,hi,hs]
theorem gh (a:Int) (w:Nat) (h:1<=w):∃ m:Nat,m<w/\bw (.int a) (.int (w:Nat))=some (.int (m:Nat))/\a % (w:Int)=m:=by
 have h0:(0:Int)<w:=by omega
 have b1:=Int.emod_nonneg a (show (w:Int)≠0 by omega)
 have b2:=Int.emod_lt_of_pos a h0
 refine ⟨(a % (w:Int)).toNat,by omega,?_,by omega⟩
 rw [nv h0]
 congr 2
 omega
theorem qA (c:Int) (w:Nat) (hw:1<=w):∃ r:Row,aC [.int c,.int (w:Nat)]=some (rowD r)/\r.ok w:=by
 obtain ⟨j,hj,ej,_⟩:=gh (c / 6) w hw
 obtain ⟨e,he,e7⟩:∃ e:Nat,1+c / 18 % 7=(e:Int)/\1<=e/\e<=7:=⟨(1+c / 18 % 7).toNat,by omega,by omega,by omega⟩
 have tk:Row.ok w (.turn j e):=⟨hj,e7.1,e7.2⟩
 have k6:0<=c % 6/\c % 6<6:=by omega
 by_cases h1:c % 6=1
 ·exact ⟨.turn j e,by rw [B2 c w j h1 ej,he]; rfl,tk⟩
 by_cases h0:c % 6=0
 ·exact ⟨.swing j,zv c w j 0 "swing" h0 (.inl rfl) ej rfl,hj⟩
 by_cases h2:c % 6=2
 ·exact ⟨.flip j,zv c w j 2 "flip" h2 (.inr rfl) ej rfl,hj⟩
 by_cases hw1:w=1
 ·rcases (by omega:c % 6 % 2=0\/c % 6 % 2=1) with q | q
  ·exact ⟨.swing j,vA c w j (c % 6) (by omega) (by omega) rfl ej _ fun b hb=>⟨fun _=>rfl,fun z=>by omega⟩,hj⟩
  ·exact ⟨.turn j e,vA c w j (c % 6) (by omega) (by omega) rfl ej _ fun b hb=>⟨fun z=>by omega,fun _=>by rw [he]; rfl⟩,tk⟩
 ·obtain ⟨m,hm,em,_⟩:=gh (c / 18) (w-1) (by omega)
  have ew:((w-1:Nat):Int)=(w:Int)-1:=by omega
  rw [ew] at em
  obtain ⟨i,hi,ei,ei2⟩:=gh ((j:Int)+1+(m:Int)) w hw
  have ne:i≠j:=fun z=>by
   subst z
   have:((i:Int)+1+m) % w=i:=ei2
   by_cases q:(i:Int)+1+m<w
   ·rw [Int.emod_eq_of_lt (by omega) q] at this; omega
   ·have:((i:Int)+1+m-w) % w=i:=by rw [Int.sub_emod_right]; exact ei2
    rw [Int.emod_eq_of_lt (by omega) (by omega)] at this
    omega
  have r2:∀ s:Str,hU [PyData.str "tie",.str "sign",.str "cross"] (c % 6-3)=some (.str s)->aC [.int c,.int (w:Nat)]=some (.tuple [.str s,.int (i:Nat),.int (j:Nat)]):=fun s hs=>Fw c w j (c % 6) m i s rfl (by omega) (by omega) ej em ei hs
  rcases (by omega:c % 6=3\/c % 6=4\/c % 6=5) with q | q | q
  ·exact ⟨.tie i j,r2 "tie" (by rw [q]; rfl),hi,hj,ne⟩
  ·exact ⟨.sign i j,r2 "sign" (by rw [q]; rfl),hi,hj,ne⟩
  ·exact ⟨.cross i j,r2 "cross" (by rw [q]; rfl),hi,hj,ne⟩
noncomputable def FD:Sf:=aD 2 (o2 (oV 0) (oV 1) bw)
noncomputable def FC:Sf:=aD 3 (o2 (oC (.int 1)) (o2 (o2 (oV 0) (oC (.int 3)) cq) (oC (.int 7)) bw) aT)
noncomputable def FB:Sf:=aD 4 (VL.os (ac (o2 (oV 0) (oC (.int 21)) cq) (ac (oV 1) (ai))) aC)
noncomputable def FA:Sf:=aD 5 (oV 4)
noncomputable def wY:Sf:=cu (ob (o2 (o2 (oV 4) (oC (.int 0)) av) (oC (.str "turn")) aX)) (aD 5 (VL.os (ac (oC (.str "turn")) (ac (o2 (oV 4) (oC (.int 1)) av) (ac (o2 (oC (.int 8)) (o2 (oV 4) (oC (.int 2)) av) bM) (ai)))) aO)) (fH)
noncomputable def Fz:Sf:=aD 6 (VL.os (ac (oC (.str "swing")) (ac (oV 2) (ai))) aO)
noncomputable def Fy:Sf:=wz 7 (ac (VL.os (ac (oV 4) (ac (oV 5) (ai))) dD) (ac (VL.os (ac (oV 6) (ac (VL.os (ac (oC (.str "turn")) (ac (oV 2) (ac (oC (.int 4)) (ai)))) aO) (ac (oV 6) (ac (VL.os (ac (oC (.str "flip")) (ac (oV 2) (ai))) aO) (ai))))) dD) (ac (VL.os (ac (VL.os (ac (oC (.str "turn")) (ac (oV 2) (ac (oV 3) (ai)))) aO) (ac (VL.os (ac (oC (.str "turn")) (ac (oV 2) (ac (o2 (oC (.int 8)) (oV 3) bM) (ai)))) aO) (ai))) dD) (ai))))
noncomputable def wX:Sf:=cu (ob (o2 (oV 1) (oC (.int 1)) sM)) (ak (aD 8 (o2 (o2 (o2 (oV 2) (oC (.int 1)) aT) (o2 (o2 (oV 0) (oC (.int 7)) cq) (o2 (oV 1) (oC (.int 1)) bM) bw) aT) (oV 1) bw)) (ak (r9 7 (VL.os (ac (VL.os (ac (oC (.str "tie")) (ac (oV 8) (ac (oV 2) (ai)))) aO) (ac (VL.os (ac (oC (.str "tie")) (ac (oV 2) (ac (oV 8) (ai)))) aO) (ac (VL.os (ac (oC (.str "tie")) (ac (oV 8) (ac (oV 2) (ai)))) aO) (ac (VL.os (ac (oC (.str "cross")) (ac (oV 2) (ac (oV 8) (ai)))) aO) (ai))))) dD)) (r9 7 (VL.os (ac (VL.os (ac (oC (.str "sign")) (ac (oV 8) (ac (oV 2) (ai)))) aO) (ac (oV 6) (ac (VL.os (ac (oC (.str "tie")) (ac (oV 8) (ac (oV 2) (ai)))) aO) (ac (oV 6) (ai))))) dD)))) (fH)
noncomputable def Fx:Sf:=aP (lY 7 (o2 (o2 (oV 0) (oC (.int 11)) cq) (yX 7) bw))
theorem Ik:e6=ak FD (ak FC (ak FB (ak FA (ak wY (ak Fz (ak Fy (ak wX (Fx)))))))):=rfl
noncomputable def io (rs:List Row):D:=.list (rs.map rowD)
theorem bc {s t:Sf} {δ δ':Dv} (h:s δ = some (.nx,δ')):ak s t δ = t δ':=by simp [h]
theorem t6 {s t:Sf} {δ δ':Dv} {d:D} (h:s δ = some (.rt d,δ')):ak s t δ = some (.rt d,δ'):=by simp [h]
theorem qg {N:List Str} {n:Nat} {b:Sf} {as:List D} {d:D} (hl:as.length=n) (h:∃ δ,b (aw N as)=some (.rt d,δ)):runB N n b as=some d:=by
 obtain ⟨δ,h⟩:=h
 unfold runB
 rw [if_pos hl,h]; rfl
theorem n1 (c w j:Int) (h:bw (.int c) (.int w)=some (.int j)):FD [.fz (.int c),.fz (.int w),.un,.un,.un,.un,.un,.un,.un]=some (.nx,[.fz (.int c),.fz (.int w),.fz (.int j),.un,.un,.un,.un,.un,.un]):=by
 simp [FD,h]
theorem n2 (c w j e:Int) (h:1+c / 3 % 7=e):FC [.fz (.int c),.fz (.int w),.fz (.int j),.un,.un,.un,.un,.un,.un]=some (.nx,[.fz (.int c),.fz (.int w),.fz (.int j),.fz (.int e),.un,.un,.un,.un,.un]):=by
 subst h
 simp [FC]
theorem n3 (c w:Int) (z2 z3:Sl) (R:D) (h:aC [.int (c / 21),.int w]=some R):FB [.fz (.int c),.fz (.int w),z2,z3,.un,.un,.un,.un,.un]=some (.nx,[.fz (.int c),.fz (.int w),z2,z3,.fz R,.un,.un,.un,.un]):=by
 simp [FB,h]
theorem n4 (z0 z1 z2 z3:Sl) (R:D):FA [z0,z1,z2,z3,.fz R,.un,.un,.un,.un]=some (.nx,[z0,z1,z2,z3,.fz R,.fz R,.un,.un,.un]):=by
 simp [FA]
theorem KN (z0 z1 z2 z3:Sl) (R:D) (j e:Int) (r0:av R (.int 0)=some (.str "turn")) (r1:av R (.int 1)=some (.int j)) (r2:av R (.int 2)=some (.int e)):wY [z0,z1,z2,z3,.fz R,.fz R,.un,.un,.un]=some (.nx,[z0,z1,z2,z3,.fz R,.fz (.tuple [.str "turn",.int j,.int (8-e)]),.un,.un,.un]):=by
 simp [wY,r0,r1,r2]
theorem zj (z0 z1 z2 z3:Sl) (R:D) (s:Str) (r0:av R (.int 0)=some (.str s)) (q:aX (.str s) (.str "turn")=some (.bool false)):wY [z0,z1,z2,z3,.fz R,.fz R,.un,.un,.un]=some (.nx,[z0,z1,z2,z3,.fz R,.fz R,.un,.un,.un]):=by
 simp [wY,r0,q]
theorem n5 {n:Nat} (z0 z1 z2 z3:Sl) (r:Row) (hr:r.ok n):wY [z0,z1,z2,z3,.fz (rowD r),.fz (rowD r),.un,.un,.un]=some (.nx,[z0,z1,z2,z3,.fz (rowD r),.fz (rowD (gx r)),.un,.un,.un]):=by
 cases r with
 | turn j e=>
  have h:=KN z0 z1 z2 z3 (rowD (.turn j e)) j e (at0 _ _) (DR _ _ _) (MQ _ _ _ _)
  have:(8:Int)-e=((8-e:Nat):Int):=by have:=hr.2.2; omega
  rw [this] at h
  exact h
 | swing j=>exact zj z0 z1 z2 z3 _ "swing" (at0 _ _) (by simp)
 | flip j=>exact zj z0 z1 z2 z3 _ "flip" (at0 _ _) (by simp)
 | tie i j=>exact zj z0 z1 z2 z3 _ "tie" (at0 _ _) (by simp)
 | sign i j=>exact zj z0 z1 z2 z3 _ "sign" (at0 _ _) (by simp)
 | cross i j=>exact zj z0 z1 z2 z3 _ "cross" (at0 _ _) (by simp)
theorem n6 (z0 z1 z3 z4 z5:Sl) (j:Int):Fz [z0,z1,.fz (.int j),z3,z4,z5,.un,.un,.un]=some (.nx,[z0,z1,.fz (.int j),z3,z4,z5,.fz (.tuple [.str "swing",.int j]),.un,.un]):=by
 simp [Fz]
theorem n7 (z0 z1:Sl) (j e:Int) (R B S:D):Fy [z0,z1,.fz (.int j),.fz (.int e),.fz R,.fz B,.fz S,.un,.un]=some (.nx,[z0,z1,.fz (.int j),.fz (.int e),.fz R,.fz B,.fz S,.ow [.list [R,B],.list [S,.tuple [.str "turn",.int j,.int 4],S,.tuple [.str "flip",.int j]],.list [.tuple [.str "turn",.int j,.int e],.tuple [.str "turn",.int j,.int (8-e)]]],.un]):=by
 have sz:3<=sizeLine:=by show 3<=16777216; decide
 simp [Fy,sz]
theorem KM (c j:Int) (z3 z4 z5 z6 z7:Sl):wX [.fz (.int c),.fz (.int 1),.fz (.int j),z3,z4,z5,z6,z7,.un]=some (.nx,[.fz (.int c),.fz (.int 1),.fz (.int j),z3,z4,z5,z6,z7,.un]):=by
 simp [wX]
theorem KL (c w j m i:Int) (z3 z4 z5:Sl) (S:D) (ds:List D) (hw:1<w) (hm:bw (.int (c / 7)) (.int (w-1))=some (.int m)) (hi:bw (.int (j+1+m)) (.int w)=some (.int i)) (sz:ds.length+2<=1000):wX [.fz (.int c),.fz (.int w),.fz (.int j),z3,z4,z5,.fz S,.ow ds,.un]=some (.nx,[.fz (.int c),.fz (.int w),.fz (.int j),z3,z4,z5,.fz S,.ow (ds++[.list [.tuple [.str "tie",.int i,.int j],.tuple [.str "tie",.int j,.int i],.tuple [.str "tie",.int i,.int j],.tuple [.str "cross",.int j,.int i]]]++[.list [.tuple [.str "sign",.int i,.int j],S,.tuple [.str "tie",.int i,.int j],S]]),.fz (.int i)]):=by
 have s1:ds.length<sizeLine:=by show _<16777216; omega
 have s2:ds.length+1<sizeLine:=by show _<16777216; omega
 simp [wX,hw,hm,hi,s1,s2]
theorem n9 (c k:Int) (z1 z2 z3 z4 z5 z6 z8:Sl) (ds:List D) (d:D) (hk:bw (.int (c / 11)) (.int (ds.length:Int))=some (.int k)) (h:hU ds k=some d):Fx [.fz (.int c),z1,z2,z3,z4,z5,z6,.ow ds,z8]=some (.rt d,[.fz (.int c),z1,z2,z3,z4,z5,z6,.ow ds,z8]):=by
 simp [Fx,hk,h]
theorem uj (c:Int) (w:Nat) (hw:1<=w):∃ more:List Row,ca [.int c,.int (w:Nat)]=some (io more)/\tL w more 0/\(∀ r∈more,r.ok w)/\more.length<=4:=by
 obtain ⟨j,hj,ej,_⟩:=gh c w hw
 obtain ⟨e,he,e7⟩:∃ e:Nat,1+c / 3 % 7=(e:Int)/\1<=e/\e<=7:=⟨(1+c / 3 % 7).toNat,by omega,by omega,by omega⟩
 obtain ⟨r,er,hr⟩:=qA (c / 21) w hw
 have e8:(8:Int)-e=((8-e:Nat):Int):=by omega
 have bo:(gx r).ok w:=by
  cases r with
  | turn j e=>exact ⟨hr.1,by have:=hr.2.2; omega,by have:=hr.2.1; omega⟩
  | _=>exact hr
 have fin:∀ (ms:List (List Row)) (z8:Sl),0<ms.length->(∀ more∈ms,tL w more 0/\(∀ r∈more,r.ok w)/\more.length<=4)->wX [.fz (.int c),.fz (.int (w:Nat)),.fz (.int (j:Nat)),.fz (.int (e:Nat)),.fz (rowD r),.fz (rowD (gx r)),.fz (rowD (.swing j)),.ow ([[r,gx r],[.swing j,.turn j 4,.swing j,.flip j],[.turn j e,.turn j (8-e)]].map io),.un]=some (.nx,[.fz (.int c),.fz (.int (w:Nat)),.fz (.int (j:Nat)),.fz (.int (e:Nat)),.fz (rowD r),.fz (rowD (gx r)),.fz (rowD (.swing j)),.ow (ms.map io),z8])->∃ more:List Row,ca [.int c,.int (w:Nat)]=some (io more)/\tL w more 0/\(∀ r∈more,r.ok w)/\more.length<=4:=fun ms z8 h0 hm h8=>by
  obtain ⟨k,hk,ek,_⟩:=gh (c / 11) ms.length h0
  refine ⟨ms[k],?_,hm _ (List.getElem_mem hk)⟩
  have st7:=n7 (.fz (.int c)) (.fz (.int (w:Nat))) j e (rowD r) (rowD (gx r)) (rowD (.swing j))
  rw [e8] at st7
  have ln:(ms.map io).length=ms.length:=List.length_map _
  have st9:=n9 c k (.fz (.int (w:Nat))) (.fz (.int (j:Nat))) (.fz (.int (e:Nat))) (.fz (rowD r)) (.fz (rowD (gx r))) (.fz (rowD (.swing j))) z8 (ms.map io) (io ms[k]) (by rw [ln]; exact ek) (dM (j:=k) rfl (by simp [hk]))
  refine qg (N:=gF) (n:=2) (b:=e6) rfl ⟨?_,(congrFun Ik _).trans ?_⟩
  rotate_left
  refine (bc (n1 c w j ej)).trans ?_
  refine (bc (n2 c w j e he)).trans ?_
  refine (bc (n3 c w _ _ _ er)).trans ?_
  refine (bc (n4 _ _ _ _ _)).trans ?_
  refine (bc (n5 _ _ _ _ r hr)).trans ?_
  refine (bc (n6 _ _ _ _ _ j)).trans ?_
  refine (bc st7).trans ?_
  refine (bc h8).trans ?_
  exact st9
 have m1:tL w [r,gx r] 0/\(∀ q∈[r,gx r],q.ok w)/\[r,gx r].length<=4:=⟨zi hr,fun q hq=>by
  simp only [List.mem_cons,List.not_mem_nil,or_false] at hq
  rcases hq with rfl | rfl
  ·exact hr
  ·exact bo,by simp⟩
 have m2:tL w [.swing j,.turn j 4,.swing j,.flip j] 0/\(∀ q∈[Row.swing j,.turn j 4,.swing j,.flip j],q.ok w)/\[Row.swing j,.turn j 4,.swing j,.flip j].length<=4:=⟨zf w j,fun q hq=>by
  simp only [List.mem_cons,List.not_mem_nil,or_false] at hq
  rcases hq with rfl | rfl | rfl | rfl
  ·exact hj
  ·exact ⟨hj,by decide,by decide⟩
  ·exact hj
  ·exact hj,by simp⟩
 have m3:tL w [.turn j e,.turn j (8-e)] 0/\(∀ q∈[Row.turn j e,.turn j (8-e)],q.ok w)/\[Row.turn j e,.turn j (8-e)].length<=4:=⟨zd (by omega),fun q hq=>by
  simp only [List.mem_cons,List.not_mem_nil,or_false] at hq
  rcases hq with rfl | rfl
  ·exact ⟨hj,e7.1,e7.2⟩
  ·exact ⟨hj,by omega,by omega⟩,by simp⟩
 by_cases hw1:w=1
 ·subst hw1
  refine fin [[r,gx r],[.swing j,.turn j 4,.swing j,.flip j],[.turn j e,.turn j (8-e)]] .un (by simp) (fun more hm=>?_) (KM _ _ _ _ _ _ _)
  simp only [List.mem_cons,List.not_mem_nil,or_false] at hm
  rcases hm with rfl | rfl | rfl
  ·exact m1
  ·exact m2
  ·exact m3
 ·obtain ⟨m,hm,em,_⟩:=gh (c / 7) (w-1) (by omega)
  have ew:((w-1:Nat):Int)=(w:Int)-1:=by omega
  rw [ew] at em
  obtain ⟨i,hi,ei,ei2⟩:=gh ((j:Int)+1+(m:Int)) w hw
  have ne:i≠j:=fun z=>by
   subst z
   have t:((i:Int)+1+m) % w=i:=ei2
   by_cases q:(i:Int)+1+m<w
   ·rw [Int.emod_eq_of_lt (by omega) q] at t; omega
   ·have:((i:Int)+1+m-w) % w=i:=by rw [Int.sub_emod_right]; exact ei2
    rw [Int.emod_eq_of_lt (by omega) (by omega)] at this
    omega
  have m4:tL w [.tie i j,.tie j i,.tie i j,.cross j i] 0/\(∀ q∈[Row.tie i j,.tie j i,.tie i j,.cross j i],q.ok w)/\[Row.tie i j,.tie j i,.tie i j,.cross j i].length<=4:=⟨ze hi hj ne,fun q hq=>by
   simp only [List.mem_cons,List.not_mem_nil,or_false] at hq
   rcases hq with rfl | rfl | rfl | rfl
   ·exact ⟨hi,hj,ne⟩
   ·exact ⟨hj,hi,ne.symm⟩
   ·exact ⟨hi,hj,ne⟩
   ·exact ⟨hj,hi,ne.symm⟩,by simp⟩
  have m5:tL w [.sign i j,.swing j,.tie i j,.swing j] 0/\(∀ q∈[Row.sign i j,.swing j,.tie i j,.swing j],q.ok w)/\[Row.sign i j,.swing j,.tie i j,.swing j].length<=4:=⟨BT hi hj ne,fun q hq=>by
   simp only [List.mem_cons,List.not_mem_nil,or_false] at hq
   rcases hq with rfl | rfl | rfl | rfl
   ·exact ⟨hi,hj,ne⟩
   ·exact hj
   ·exact ⟨hi,hj,ne⟩
   ·exact hj,by simp⟩
  refine fin [[r,gx r],[.swing j,.turn j 4,.swing j,.flip j],[.turn j e,.turn j (8-e)],[.tie i j,.tie j i,.tie i j,.cross j i],[.sign i j,.swing j,.tie i j,.swing j]] (.fz (.int (i:Nat))) (by simp) (fun more hm=>?_) (KL c w j m i _ _ _ _ _ (by omega) em ei (by simp))
  simp only [List.mem_cons,List.not_mem_nil,or_false] at hm
  rcases hm with rfl | rfl | rfl | rfl | rfl
  ·exact m1
  ·exact m2
  ·exact m3
  ·exact m4
  ·exact m5
noncomputable def B8:Sf:=aD 4 (o2 (oV 1) (oC (.int 3)) cq)
noncomputable def B7:Sf:=aD 5 (o2 (oV 4) (o2 (VL.os (ac (oV 0) (ai)) bf) (oC (.int 1)) aT) bw)
noncomputable def qG:Sf:=cu (kJ (ob (o2 (o2 (oV 1) (oC (.int 3)) bw) (oC (.int 0)) aX)) (ob (o2 (o2 (oV 5) (oC (.int 1)) aT) (VL.os (ac (oV 0) (ai)) bf) Av))) (ak (aD 6 (de)) (cu (ob (o2 (oV 6) (VL.os (ai) dD) aX)) (aP (VL.os (ac (o2 (o2 (pi (oV 0) (pj) (oP (oV 5))) (VL.os (ac (o2 (oV 0) (o2 (oV 5) (oC (.int 1)) aT) av) (ac (o2 (oV 0) (oV 5) av) (ai))) dD) aT) (pi (oV 0) (oP (o2 (oV 5) (oC (.int 2)) aT)) (pj)) aT) (ac (oC (.int 0)) (ai))) aO)) (fH))) (fH)
noncomputable def w9:Sf:=aD 7 (VL.os (ac (o2 (oV 4) (oC (.int 7)) cq) (ac (oV 2) (ai))) ca)
noncomputable def w6:Sf:=aD 8 (oC (.int 0))
noncomputable def uv:Sf:=cu (ob (o2 (o2 (oV 1) (oC (.int 3)) bw) (oC (.int 1)) aX)) (ak (aD 9 (o2 (o2 (oV 4) (oC (.int 5)) cq) (oV 2) bw)) (ak (aD 8 (o2 (oC (.int 1)) (o2 (o2 (oV 4) (oC (.int 15)) cq) (oC (.int 7)) bw) aT)) (aD 7 (VL.os (ac (VL.os (ac (oC (.str "flip")) (ac (oV 9) (ai))) aO) (ac (VL.os (ac (oC (.str "turn")) (ac (oV 9) (ac (oV 8) (ai)))) aO) (ac (VL.os (ac (oC (.str "flip")) (ac (oV 9) (ai))) aO) (ac (VL.os (ac (oC (.str "turn")) (ac (oV 9) (ac (oV 8) (ai)))) aO) (ai))))) dD)))) (fH)
noncomputable def sJ:Sf:=cu (ob (o2 (o2 (VL.os (ac (oV 0) (ai)) bf) (VL.os (ac (oV 7) (ai)) bf) aT) (oV 3) sM)) (aP (VL.os (ac (oV 0) (ac (oC (.int 0)) (ai))) aO)) (fH)
noncomputable def w5:Sf:=aP (VL.os (ac (o2 (o2 (pi (oV 0) (pj) (oP (oV 5))) (oV 7) aT) (pi (oV 0) (oP (oV 5)) (pj)) aT) (ac (oV 8) (ai))) aO)
theorem Iq:dL=ak B8 (ak B7 (ak qG (ak w9 (ak w6 (ak uv (ak sJ (w5))))))):=rfl
noncomputable def At (ws:List Nat):D:=.list (ws.map fun k=>PyData.int (k:Nat))
theorem KR (R:D) (j:Int) (r0:av R (.int 0)=some (.str "turn")) (r1:av R (.int 1)=some (.int j)):bg [R]=some (.list [.int j]):=by
 simp [bg,runB,gn,aw,r0,r1]
theorem zo (R:D) (s:Str) (L:List D) (r0:av R (.int 0)=some (.str s)) (q:aX (.str s) (.str "turn")=some (.bool false)) (sl:tZ R (some 1) none=some (.tuple L)):bg [R]=some (.list L):=by
 simp [bg,runB,gn,aw,r0,q,sl]
theorem pr (r:Row):bg [rowD r]=some (At (aM r)):=by
 cases r with
 | turn j e=>exact KR _ j (at0 _ _) (DR _ _ _)
 | swing j=>exact zo _ "swing" _ (at0 _ _) (by simp) rfl
 | flip j=>exact zo _ "flip" _ (at0 _ _) (by simp) rfl
 | tie i j=>exact zo _ "tie" _ (at0 _ _) (by simp) rfl
 | sign i j=>exact zo _ "sign" _ (at0 _ _) (by simp) rfl
 | cross i j=>exact zo _ "cross" _ (at0 _ _) (by simp) rfl
theorem IN (k:Nat) (ws:List Nat):i6 false (.int (k:Nat)) (At ws)=some (.bool (ws.any (· == k))):=by
 unfold i6 At
 have it:eJ (.list (ws.map fun k=>PyData.int (k:Nat)))=some (ws.map fun k=>PyData.int (k:Nat)):=rfl
 rw [it,Option.bind_some,if_pos ⟨rfl,List.all_eq_true.mpr fun x hx=>by obtain ⟨m,_,rfl⟩:=List.mem_map.mp hx; rfl⟩]
 have:∀ ws:List Nat,IT (.int (k:Nat)) (ws.map fun k=>PyData.int (k:Nat))=ws.any (· == k):=fun ws=>by
  induction ws with
  | nil=>rfl
  | cons w ws ih=>
   have e:PyData.eqv (.int (w:Nat)) (.int (k:Nat))=(w==k):=by
    rw [Bool.eq_iff_iff]
    simp [PyData.eqv]
    omega
   rw [List.map_cons,List.any_cons,<- ih,<- e]
   rfl
 simp [this]
theorem Lh (i:Nat) (R2:D) (L:List D) (w:Nat) (vs:List Nat) (rows:D) (at_:Int) (x:av rows (.int (at_+1))=some R2) (lw:bg [R2]=some (At vs)):(ob (o2 (oV 0) (VL.os (ac (o2 (oV 1) (o2 (oV 2) (oC (.int 1)) aT) av) (ai)) bg) (i6 false))) [.fz (.int (w:Nat)),.fz rows,.fz (.int at_)]=some (vs.any (· == w)):=by
 have:=IN w vs
 simp [x,lw,this]
theorem Lg (rows:D) (a:Int) (R1 R2:D) (us vs:List Nat) (z1 z2 z3 z4 z6 z7 z8 z9:Sl) (hl:us.length<=1000) (x1:av rows (.int a)=some R1) (x2:av rows (.int (a+1))=some R2) (w1:bg [R1]=some (At us)) (w2:bg [R2]=some (At vs)):de [.fz rows,z1,z2,z3,z4,.fz (.int a),z6,z7,z8,z9]=some (At (us.filter fun k=>vs.any (· == k))):=by
 refine jx (h:=fun k:Nat=>PyData.int (k:Nat)) (k:=fun k:Nat=>PyData.int (k:Nat)) (b:=fun k=>vs.any (· == k)) (xs:=us) (by simp [x1,w1,At]) (by omega) (fun k _=>?_) fun k _ _=>by simp
 exact Lh 0 R2 [] k vs rows a x2 w2
theorem DM (ws:List Nat):aX (At ws) (.list [])=some (.bool ws.isEmpty):=by
 have sh:MA.Sh 1 (At ws):=MA.Sh.list fun x hx=>by
  obtain ⟨m,_,rfl⟩:=List.mem_map.mp hx
  exact MA.Sh.int 0 _
 have sh0:MA.Sh 1 (.list []):=MA.Sh.list fun x hx=>(nomatch hx)
 unfold aX
 rw [if_pos ⟨eQ sh (by decide),eQ sh0 (by decide)⟩]
 cases ws with
 | nil=>rfl
 | cons w ws=>rfl
theorem qV (xs:List D) (a:Nat):tZ (.list xs) none (some (a:Int))=some (.list (xs.take a)):=by
 show some (PyData.list (oS _ _ _))=_
 unfold oS
 have e1:HT.sIx xs.length 0 none=0:=rfl
 have e2:HT.sIx xs.length xs.length (some (a:Int))=min a xs.length:=by
  show (if (a:Int)<0 then ((a:Int)+(xs.length:Int)).toNat else min (a:Int).toNat xs.length)=_
  rw [if_neg (by omega)]; rfl
 rw [e1,e2,Nat.sub_zero,List.drop_zero]
 congr 2
 rcases Nat.le_total a xs.length with h | h
 ·rw [Nat.min_eq_left h]
 ·rw [Nat.min_eq_right h,List.take_of_length_le (Nat.le_refl _),List.take_of_length_le h]
theorem nQ (xs:List D) (a:Nat):tZ (.list xs) (some (a:Int)) none=some (.list (xs.drop a)):=by
 show some (PyData.list (oS _ _ _))=_
 unfold oS
 have e1:HT.sIx xs.length 0 (some (a:Int))=min a xs.length:=by
  show (if (a:Int)<0 then ((a:Int)+(xs.length:Int)).toNat else min (a:Int).toNat xs.length)=_
  rw [if_neg (by omega)]; rfl
 have e2:HT.sIx xs.length xs.length none=xs.length:=rfl
 rw [e1,e2]
 congr 2
 rcases Nat.le_total a xs.length with h | h
 ·rw [Nat.min_eq_left h,List.take_of_length_le (by rw [List.length_drop]; exact Nat.le_refl _)]
 ·rw [Nat.min_eq_right h,Nat.sub_self,List.take_zero,List.drop_of_length_le h]
theorem MP (rows c w m:D) (k:Int) (h:c=.int k):B8 [.fz rows,.fz c,.fz w,.fz m,.un,.un,.un,.un,.un,.un]=some (.nx,[.fz rows,.fz c,.fz w,.fz m,.fz (.int (k / 3)),.un,.un,.un,.un,.un]):=by
 subst h
 simp [B8]
theorem MO (rows c w m:D) (r K a:Int) (ln:bf [rows]=some (.int K)) (h:bw (.int r) (.int (K+1))=some (.int a)):B7 [.fz rows,.fz c,.fz w,.fz m,.fz (.int r),.un,.un,.un,.un,.un]=some (.nx,[.fz rows,.fz c,.fz w,.fz m,.fz (.int r),.fz (.int a),.un,.un,.un,.un]):=by
 simp [B7,ln,h]
theorem Jo (rows w m:D) (c r K a:Int) (ln:bf [rows]=some (.int K)) (h:¬ (c % 3=0/\a+1<K)):qG [.fz rows,.fz (.int c),.fz w,.fz m,.fz (.int r),.fz (.int a),.un,.un,.un,.un]=some (.nx,[.fz rows,.fz (.int c),.fz w,.fz m,.fz (.int r),.fz (.int a),.un,.un,.un,.un]):=by
 by_cases q:c % 3=0
 ·have n:¬ a+1<K:=fun z=>h ⟨q,z⟩
  simp [qG,ln,q,n]
 ·simp [qG,q]
theorem Gj (rows w m A B C R1 R2:D) (c r K a:Int) (ln:bf [rows]=some (.int K)) (h0:c % 3=0) (h1:a+1<K) (p:de [.fz rows,.fz (.int c),.fz w,.fz m,.fz (.int r),.fz (.int a),.un,.un,.un,.un]=some (.list [])) (x1:av rows (.int a)=some R1) (x2:av rows (.int (a+1))=some R2) (s1:tZ rows none (some a)=some A) (ad1:aT A (.list [R2,R1])=some B) (s2:tZ rows (some (a+2)) none=some C) (R:D) (ad2:aT B C=some R):qG [.fz rows,.fz (.int c),.fz w,.fz m,.fz (.int r),.fz (.int a),.un,.un,.un,.un]=some (.rt (.tuple [R,.int 0]),[.fz rows,.fz (.int c),.fz w,.fz m,.fz (.int r),.fz (.int a),.fz (.list []),.un,.un,.un]):=by
 have e:aX (.list []) (.list [])=some (.bool true):=DM []
 simp [qG,ln,h0,h1,p,e,x1,x2,s1,ad1,s2,ad2]
theorem C3 (rows w m X:D) (c r K a:Int) (ln:bf [rows]=some (.int K)) (h0:c % 3=0) (h1:a+1<K) (p:de [.fz rows,.fz (.int c),.fz w,.fz m,.fz (.int r),.fz (.int a),.un,.un,.un,.un]=some X) (e:aX X (.list [])=some (.bool false)):qG [.fz rows,.fz (.int c),.fz w,.fz m,.fz (.int r),.fz (.int a),.un,.un,.un,.un]=some (.nx,[.fz rows,.fz (.int c),.fz w,.fz m,.fz (.int r),.fz (.int a),.fz X,.un,.un,.un]):=by
 simp [qG,ln,h0,h1,p,e]
theorem MN (rows w m N:D) (z1 z5 z6:Sl) (r:Int) (h:ca [.int (r / 7),w]=some N):w9 [.fz rows,z1,.fz w,.fz m,.fz (.int r),z5,z6,.un,.un,.un]=some (.nx,[.fz rows,z1,.fz w,.fz m,.fz (.int r),z5,z6,.fz N,.un,.un]):=by
 simp [w9,h]
theorem MM (z0 z1 z2 z3 z4 z5 z6 z7:Sl):w6 [z0,z1,z2,z3,z4,z5,z6,z7,.un,.un]=some (.nx,[z0,z1,z2,z3,z4,z5,z6,z7,.fz (.int 0),.un]):=by
 simp [w6]
theorem Jn (z0 z2 z3 z4 z5 z6 z7 z8:Sl) (c:Int) (h:¬ c % 3=1):uv [z0,.fz (.int c),z2,z3,z4,z5,z6,z7,z8,.un]=some (.nx,[z0,.fz (.int c),z2,z3,z4,z5,z6,z7,z8,.un]):=by
 simp [uv,h]
theorem Gi (z0 z3 z5 z6 z7 z8:Sl) (c w r j e:Int) (h:c % 3=1) (hj:bw (.int (r / 5)) (.int w)=some (.int j)) (he:1+r / 15 % 7=e):uv [z0,.fz (.int c),.fz (.int w),z3,.fz (.int r),z5,z6,z7,z8,.un]=some (.nx,[z0,.fz (.int c),.fz (.int w),z3,.fz (.int r),z5,z6,.fz (.list [.tuple [.str "flip",.int j],.tuple [.str "turn",.int j,.int e],.tuple [.str "flip",.int j],.tuple [.str "turn",.int j,.int e]]),.fz (.int e),.fz (.int j)]):=by
 subst he
 simp [uv,h,hj]
theorem Gh (rows N:D) (z1 z2 z4 z5 z6 z8 z9:Sl) (K L M:Int) (ln:bf [rows]=some (.int K)) (lm:bf [N]=some (.int L)) (h:M<K+L):sJ [.fz rows,z1,z2,.fz (.int M),z4,z5,z6,.fz N,z8,z9]=some (.rt (.tuple [rows,.int 0]),[.fz rows,z1,z2,.fz (.int M),z4,z5,z6,.fz N,z8,z9]):=by
 simp [sJ,ln,lm,h]
theorem Jm (rows N:D) (z1 z2 z4 z5 z6 z8 z9:Sl) (K L M:Int) (ln:bf [rows]=some (.int K)) (lm:bf [N]=some (.int L)) (h:¬ M<K+L):sJ [.fz rows,z1,z2,.fz (.int M),z4,z5,z6,.fz N,z8,z9]=some (.nx,[.fz rows,z1,z2,.fz (.int M),z4,z5,z6,.fz N,z8,z9]):=by
 simp [sJ,ln,lm,h]
theorem ML (rows N A B C R:D) (z1 z2 z3 z4 z6 z9:Sl) (a e:Int) (s1:tZ rows none (some a)=some A) (ad1:aT A N=some B) (s2:tZ rows (some a) none=some C) (ad2:aT B C=some R):w5 [.fz rows,z1,z2,z3,z4,.fz (.int a),z6,.fz N,.fz (.int e),z9]=some (.rt (.tuple [R,.int e]),[.fz rows,z1,z2,z3,z4,.fz (.int a),z6,.fz N,.fz (.int e),z9]):=by
 simp [w5,s1,ad1,s2,ad2]
theorem Db {xs ys:List D} (h:xs.length+ys.length<=16777216):aT (.list xs) (.list ys)=some (.list (xs++ys)):=if_pos h
theorem i5 (rs:List Row):bf [io rs]=some (.int (rs.length:Nat)):=by
 show some (PyData.int ((rs.map rowD).length:Nat))=_
 rw [List.length_map]
theorem DQ (rs:List Row) (a:Nat) (h:a<rs.length) (i:Int) (hi:i=a):av (io rs) (.int i)=some (rowD rs[a]):=dM (j:=a) hi (by simp [h])
theorem ym {rs:List Row} {a:Nat} (h:a+1<rs.length):rs=rs.take a++rs[a]::rs[a+1]::rs.drop (a+2):=by
 have h1:rs.drop a=rs[a]::rs.drop (a+1):=List.drop_eq_getElem_cons (by omega)
 have h2:rs.drop (a+1)=rs[a+1]::rs.drop (a+2):=List.drop_eq_getElem_cons (by omega)
 have h3:=(List.take_append_drop a rs).symm
 rw [h1,h2] at h3
 exact h3
structure Told (n:Nat) (rs:List Row) (s:Sf) (δ0:Dv):Prop where
 ex:∃ (rs':List Row) (e:Nat) (δ:Dv),s δ0=some (.rt (.tuple [io rs',.int (e:Nat)]),δ)/\Mv n rs rs' e/\(∀ r∈rs',r.ok n)/\rs'.length<=60
theorem Told.of {n:Nat} {rs:List Row} {s t:Sf} {δ0 δ1:Dv} (h:Told n rs t δ1) (e:s δ0=t δ1):Told n rs s δ0:=by
 obtain ⟨a,b,c,d,f⟩:=h.ex
 exact ⟨a,b,c,e.trans d,f⟩
theorem rM {n M a:Nat} (hM:M<=60) (rs:List Row) (hr:∀ r∈rs,r.ok n) (hl:rs.length<=60) (more:List Row) (e:Nat) (nm:tL n more e) (om:∀ r∈more,r.ok n) (lm:more.length<=4) (z1 z2 z4 z6 z9:Sl):Told n rs (ak sJ w5) [.fz (io rs),z1,z2,.fz (.int (M:Nat)),z4,.fz (.int (a:Nat)),z6,.fz (io more),.fz (.int (e:Nat)),z9]:=by
 by_cases h:(M:Int)<(rs.length:Int)+more.length
 ·exact ⟨rs,0,_,t6 (Gh _ _ z1 z2 z4 _ z6 _ z9 _ _ _ (i5 rs) (i5 more) h),Mv.refl n rs,hr,hl⟩
 ·have t:=qV (rs.map rowD) a
  have d:=nQ (rs.map rowD) a
  rw [<- List.map_take] at t
  rw [<- List.map_drop] at d
  have l1:(rs.take a).length<=60:=by rw [List.length_take]; omega
  have l2:(rs.drop a).length<=60:=by rw [List.length_drop]; omega
  have ad1:aT (.list ((rs.take a).map rowD)) (io more)=some (.list ((rs.take a++more).map rowD)):=by
   rw [List.map_append]; exact Db (by rw [List.length_map,List.length_map]; omega)
  have ad2:aT (.list ((rs.take a++more).map rowD)) (.list ((rs.drop a).map rowD))=some (io (rs.take a++more++rs.drop a)):=by
   have:=Db (xs:=(rs.take a++more).map rowD) (ys:=(rs.drop a).map rowD) (by rw [List.length_map,List.length_map,List.length_append]; omega)
   rw [<- List.map_append] at this
   exact this
  have st:=ML (io rs) (io more) _ _ _ _ z1 z2 (.fz (.int (M:Nat))) z4 z6 z9 a e t ad1 d ad2
  refine ⟨rs.take a++more++rs.drop a,e,_,(bc (Jm _ _ z1 z2 z4 _ z6 _ z9 _ _ _ (i5 rs) (i5 more) h)).trans st,?_,fun r q=>?_,?_⟩
  ·have:=Mv.put nm (rs.take a) (rs.drop a)
   rwa [List.take_append_drop] at this
  ·rcases List.mem_append.mp q with q | q
   ·rcases List.mem_append.mp q with q | q
    ·exact hr r (List.mem_of_mem_take q)
    ·exact om r q
   ·exact hr r (List.mem_of_mem_drop q)
  ·rw [List.length_append,List.length_append,List.length_take,List.length_drop]; omega
theorem o6 {n M a:Nat} (hn:1<=n) (hM:M<=60) (rs:List Row) (hr:∀ r∈rs,r.ok n) (hl:rs.length<=60) (c:Int) (z6:Sl):Told n rs (ak w9 (ak w6 (ak uv (ak sJ w5)))) [.fz (io rs),.fz (.int c),.fz (.int (n:Nat)),.fz (.int (M:Nat)),.fz (.int (c / 3)),.fz (.int (a:Nat)),z6,.un,.un,.un]:=by
 obtain ⟨more,em,nm,om,lm⟩:=uj (c / 3 / 7) n hn
 have s45:∀ t:Sf,(ak w9 (ak w6 t)) [.fz (io rs),.fz (.int c),.fz (.int (n:Nat)),.fz (.int (M:Nat)),.fz (.int (c / 3)),.fz (.int (a:Nat)),z6,.un,.un,.un]=t [.fz (io rs),.fz (.int c),.fz (.int (n:Nat)),.fz (.int (M:Nat)),.fz (.int (c / 3)),.fz (.int (a:Nat)),z6,.fz (io more),.fz (.int 0),.un]:=fun t=>(bc (MN _ _ _ _ _ _ _ _ em)).trans (bc (MM _ _ _ _ _ _ _ _))
 by_cases h:c % 3=1
 ·obtain ⟨j,hj,ej,_⟩:=gh (c / 3 / 5) n hn
  obtain ⟨e,he,e7⟩:∃ e:Nat,1+c / 3 / 15 % 7=(e:Int)/\1<=e/\e<=7:=⟨(1+c / 3 / 15 % 7).toNat,by omega,by omega,by omega⟩
  exact Told.of (rM hM rs hr hl [.flip j,.turn j e,.flip j,.turn j e] e (zg n j e) (fun r q=>by
   simp only [List.mem_cons,List.not_mem_nil,or_false] at q
   rcases q with rfl | rfl | rfl | rfl
   ·exact hj
   ·exact ⟨hj,e7.1,e7.2⟩
   ·exact hj
   ·exact ⟨hj,e7.1,e7.2⟩) (by simp) _ _ _ z6 _) ((s45 _).trans (bc (Gi _ _ _ _ _ _ c n _ j e h ej he)))
 ·exact Told.of (rM hM rs hr hl more 0 nm om lm _ _ _ z6 .un) ((s45 _).trans (bc (Jn _ _ _ _ _ _ _ _ c h)))
theorem xP {n M:Nat} (hn:1<=n) (hM:M<=60) (rs:List Row) (hr:∀ r∈rs,r.ok n) (hl:rs.length<=60) (c:Int):Told n rs dL [.fz (io rs),.fz (.int c),.fz (.int (n:Nat)),.fz (.int (M:Nat)),.un,.un,.un,.un,.un,.un]:=by
 obtain ⟨a,ha,ea,_⟩:=gh (c / 3) (rs.length+1) (by omega)
 rw [show ((rs.length+1:Nat):Int)=(rs.length:Int)+1 by omega] at ea
 have s12:∀ t:Sf,(ak B8 (ak B7 t)) [.fz (io rs),.fz (.int c),.fz (.int (n:Nat)),.fz (.int (M:Nat)),.un,.un,.un,.un,.un,.un]=t [.fz (io rs),.fz (.int c),.fz (.int (n:Nat)),.fz (.int (M:Nat)),.fz (.int (c / 3)),.fz (.int (a:Nat)),.un,.un,.un,.un]:=fun t=>(bc (MP _ _ _ _ c rfl)).trans (bc (MO _ _ _ _ _ _ _ (i5 rs) ea))
 refine Told.of (t:=ak qG (ak w9 (ak w6 (ak uv (ak sJ w5))))) ?_ ((congrFun Iq _).trans (s12 _))
 by_cases h:c % 3=0/\(a:Int)+1<(rs.length:Nat)
 ·have h1:a+1<rs.length:=by omega
  have x1:=DQ rs a (by omega) a rfl
  have x2:=DQ rs (a+1) h1 ((a:Int)+1) (by omega)
  have ul:(aM rs[a]).length<=1000:=by cases rs[a] <;> simp [aM]
  have p:=Lg (io rs) a _ _ _ _ (.fz (.int c)) (.fz (.int (n:Nat))) (.fz (.int (M:Nat))) (.fz (.int (c / 3))) .un .un .un .un ul x1 x2 (pr rs[a]) (pr rs[a+1])
  cases q:(aM rs[a]).filter fun k=>(aM rs[a+1]).any (· == k) with
  | nil=>
   rw [q] at p
   have t:=qV (rs.map rowD) a
   have d:=nQ (rs.map rowD) (a+2)
   rw [<- List.map_take] at t
   rw [<- List.map_drop,show ((a+2:Nat):Int)=(a:Int)+2 by omega] at d
   have l1:(rs.take a).length<=60:=by rw [List.length_take]; omega
   have l2:(rs.drop (a+2)).length<=60:=by rw [List.length_drop]; omega
   have ad1:aT (.list ((rs.take a).map rowD)) (.list [rowD rs[a+1],rowD rs[a]])=some (.list ((rs.take a++[rs[a+1],rs[a]]).map rowD)):=by
    rw [List.map_append]; exact Db (by rw [List.length_map]; simp; omega)
   have ad2:aT (.list ((rs.take a++[rs[a+1],rs[a]]).map rowD)) (.list ((rs.drop (a+2)).map rowD))=some (io (rs.take a++rs[a+1]::rs[a]::rs.drop (a+2))):=by
    have:=Db (xs:=(rs.take a++[rs[a+1],rs[a]]).map rowD) (ys:=(rs.drop (a+2)).map rowD) (by rw [List.length_map,List.length_map,List.length_append]; simp only [List.length_cons,List.length_nil]; omega)
    rw [<- List.map_append,List.append_assoc] at this
    exact this
   have ap:oq rs[a] rs[a+1]:=fun k hk hk2=>by
    have:k∈(aM rs[a]).filter fun k=>(aM rs[a+1]).any (· == k):=List.mem_filter.mpr ⟨hk,List.any_eq_true.mpr ⟨k,hk2,by simp⟩⟩
    rw [q] at this
    cases this
   have sp:=ym h1
   refine ⟨rs.take a++rs[a+1]::rs[a]::rs.drop (a+2),0,_,t6 (Gj _ _ _ _ _ _ _ _ c _ _ a (i5 rs) h.1 h.2 p x1 x2 t ad1 d _ ad2),?_,fun r hm=>?_,?_⟩
   ·have:=Mv.swap (hr rs[a] (List.getElem_mem _)) (hr rs[a+1] (List.getElem_mem _)) ap (rs.take a) (rs.drop (a+2))
    rwa [<- sp] at this
   ·rcases List.mem_append.mp hm with hm | hm
    ·exact hr r (List.mem_of_mem_take hm)
    ·rcases List.mem_cons.mp hm with rfl | hm
     ·exact hr _ (List.getElem_mem _)
     ·rcases List.mem_cons.mp hm with rfl | hm
      ·exact hr _ (List.getElem_mem _)
      ·exact hr r (List.mem_of_mem_drop hm)
   ·rw [List.length_append,List.length_cons,List.length_cons,List.length_take,List.length_drop]; omega
  | cons k ks=>
   have e:=DM ((aM rs[a]).filter fun k=>(aM rs[a+1]).any (· == k))
   rw [show ((aM rs[a]).filter fun k=>(aM rs[a+1]).any (· == k)).isEmpty=false by rw [q]; rfl] at e
   exact Told.of (o6 hn hM rs hr hl c _) (bc (C3 _ _ _ _ c _ _ a (i5 rs) h.1 h.2 p e))
 ·exact Told.of (o6 hn hM rs hr hl c .un) (bc (Jo _ _ _ c _ _ a (i5 rs) h))
theorem uJ {n M:Nat} (hn:1<=n) (hM:M<=60) (rs:List Row) (hr:∀ r∈rs,r.ok n) (hl:rs.length<=60) (c:Int):∃ (rs':List Row) (e:Nat),cN [io rs,.int c,.int (n:Nat),.int (M:Nat)]=some (.tuple [io rs',.int (e:Nat)])/\Mv n rs rs' e/\(∀ r∈rs',r.ok n)/\rs'.length<=60:=by
 obtain ⟨rs',e,δ,h,r⟩:=(xP hn hM rs hr hl c).ex
 exact ⟨rs',e,qg (N:=fg) (n:=4) (b:=dL) rfl ⟨δ,h⟩,r⟩
theorem Mu (c w R:D) (h:aC [c,w]=some R):(VL.os (ac (oV 0) (ac (oV 1) (ai))) aC) [.fz c,.fz w]=some R:=by
 simp [h]
theorem vg {fi:Dv->Option (List D)} {δ:Dv} (n:Nat) (hn:1<=n) (cs:List Int) (hl:cs.length<=1000) (e:fi δ = some (cs.map .int)) (h2:eL δ [(2,"wires")]=[.fz (.int (n:Nat))]):∃ rs:List Row,rs.length=cs.length/\(∀ r∈rs,r.ok n)/\df fi [(2,"wires")] kT (VL.os (ac (oV 0) (ac (oV 1) (ai))) aC) δ = some (io rs):=by
 have ch:∀ c:Int,∃ r:Row,aC [.int c,.int (n:Nat)]=some (rowD r)/\r.ok n:=fun c=>qA c n hn
 refine ⟨cs.map fun c=>Classical.choose (ch c),by rw [List.length_map],fun r hr=>?_,?_⟩
 ·obtain ⟨c,_,rfl⟩:=List.mem_map.mp hr
  exact (Classical.choose_spec (ch c)).2
 ·unfold io
  rw [List.map_map]
  exact d8 (h:=PyData.int) (k:=fun c=>rowD (Classical.choose (ch c))) (xs:=cs) e (by omega) fun c _=>by
   rw [h2]
   exact Mu _ _ _ (Classical.choose_spec (ch c)).1
noncomputable def zt:Sf:=cu (ob (o2 (o2 (o2 (oV 4) (oC (.int 3)) cq) (oC (.int 3)) bw) (oC (.int 0)) aX)) (aP (gr)) (fH)
noncomputable def Fv:Sf:=pb 5 (E6 (ac (oV 0) (ai)))
noncomputable def Fu:Sf:=fun δ=>(ic (oI (oV 1) eJ) (gN 6) (cM)) (Ge 5 δ)
noncomputable def ut:Sf:=cu (kJ (ob (o2 (o2 (o2 (oV 4) (oC (.int 9)) cq) (oC (.int 2)) bw) (oC (.int 0)) aX)) (ob (o2 (VL.os (ac (oV 5) (ai)) bf) (oC (.int 0)) sM))) (r8 5 (o2 (o2 (oV 4) (oC (.int 18)) cq) (VL.os (ac (oV 5) (ai)) bf) bw) (VL.os (ac (o2 (oV 4) (oC (.int 18)) cq) (ac (oV 2) (ai))) aC)) (fH)
noncomputable def wU:Sf:=aP (oV 5)
theorem Dw:d9=ak zt (ak Fv (ak Fu (ak ut (wU)))):=rfl
theorem FG (r:Row):lfD (rowD r)=true:=by cases r <;> simp [rowD,lfD,lfA]
theorem qE:∀ rs:List Row,lfA (rs.map rowD)=true
 | []=>by simp [lfA]
 | r::rs=>by simp [lfA,FG r,qE rs]
theorem Ek (z0 z1 z4:Sl) (n M c:Int) (ds es:List D) (E:D) (h1:lfA ds=true) (h:cN [.list ds,.int c,.int n,.int M]=some (.tuple [.list es,E])):cM [z0,z1,.fz (.int n),.fz (.int M),z4,.fr ds,.fz (.int c)]=some (.nx,[z0,z1,.fz (.int n),.fz (.int M),z4,.fr es,.fz (.int c)]):=by
 have h2:lfA [.int c,.int n,.int M]=true:=by simp [lfA,lfD]
 simp [cM,vd,h1,h2,h]
theorem vc {n M:Nat} (hn:1<=n) (hM:M<=60) (z0 z1 z4:Sl):∀ (cs:List Int) (rs:List Row),(∀ r∈rs,r.ok n)->rs.length<=60->∀ z6:Sl,∃ (rs':List Row) (y6:Sl),(∀ r∈rs',r.ok n)/\rs'.length<=60/\loop (gN 6) cM (cs.map .int) [z0,z1,.fz (.int (n:Nat)),.fz (.int (M:Nat)),z4,.fr (rs.map rowD),z6]=some (.nx,[z0,z1,.fz (.int (n:Nat)),.fz (.int (M:Nat)),z4,.fr (rs'.map rowD),y6])
 | [],rs,hr,hl,z6=>⟨rs,z6,hr,hl,rfl⟩
 | c::cs,rs,hr,hl,z6=>by
  obtain ⟨rs1,e,h1,_,ok1,l1⟩:=uJ hn hM rs hr hl c
  obtain ⟨rs2,y6,ok2,l2,lp⟩:=vc hn hM z0 z1 z4 cs rs1 ok1 l1 (.fz (.int c))
  exact ⟨rs2,y6,ok2,l2,by rw [List.map_cons,cv (δ1:=[z0,z1,.fz (.int (n:Nat)),.fz (.int (M:Nat)),z4,.fr (rs.map rowD),.fz (.int c)]) (by simp) (Ek z0 z1 z4 n M c _ _ _ (qE rs) h1),lp]⟩
theorem Kv (d0 d1 d2 d3 R:D) (hd:Int) (h:hd / 3 % 3=0) (p:gr [.fz d0,.fz d1,.fz d2,.fz d3,.fz (.int hd),.un,.un]=some R):zt [.fz d0,.fz d1,.fz d2,.fz d3,.fz (.int hd),.un,.un]=some (.rt R,[.fz d0,.fz d1,.fz d2,.fz d3,.fz (.int hd),.un,.un]):=by
 simp [zt,h,p]
theorem Kw (z0 z1 z2 z3:Sl) (hd:Int) (h:¬ hd / 3 % 3=0):zt [z0,z1,z2,z3,.fz (.int hd),.un,.un]=some (.nx,[z0,z1,z2,z3,.fz (.int hd),.un,.un]):=by
 simp [zt,h]
theorem Mt (ds:List D) (z1 z2 z3 z4:Sl):Fv [.fz (.list ds),z1,z2,z3,z4,.un,.un]=some (.nx,[.fz (.list ds),z1,z2,z3,z4,.ow ds,.un]):=by
 have e:E6 (ac (oV 0) ai) [.fz (.list ds),z1,z2,z3,z4,.un,.un]=some ds:=by simp [E6]
 simp [Fv,e]
theorem Ms (z0 z2 z3 z4:Sl) (d1:D) (L ds:List D) (δ:Dv) (it:eJ d1=some L) (lp:loop (gN 6) cM L [z0,.fz d1,z2,z3,z4,.fr ds,.un]=some (.nx,δ)):Fu [z0,.fz d1,z2,z3,z4,.ow ds,.un]=some (.nx,δ):=by
 simp [Fu,Ge,it,lp]
theorem Ku (z0 z1 z2 z3 z6:Sl) (ds:List D) (hd m:Int) (ln:(ds.length:Int)=m) (h:¬ (hd / 9 % 2=0/\0<m)):ut [z0,z1,z2,z3,.fz (.int hd),.fr ds,z6]=some (.nx,[z0,z1,z2,z3,.fz (.int hd),.fr ds,z6]):=by
 by_cases a:hd / 9 % 2=0
 ·have b:¬ 0<m:=fun z=>h ⟨a,z⟩
  simp [ut,a,ln,b]
 ·simp [ut,a]
theorem Kt (z0 z1 z3 z6:Sl) (ds ds':List D) (hd m k n:Int) (R:D) (ln:(ds.length:Int)=m) (h1:hd / 9 % 2=0) (h2:0<m) (hk:bw (.int (hd / 18)) (.int m)=some (.int k)) (hr:aC [.int (hd / 18),.int n]=some R) (pt:jQ ds (.int k) R=some ds') (hl:lfA ds'=true):∃ a0 a1 a2 a3 a4 a6,ut [z0,z1,.fz (.int n),z3,.fz (.int hd),.fr ds,z6]=some (.nx,[a0,a1,a2,a3,a4,.fz (.list ds'),a6]):=by
 refine ⟨if Aw z0=true then z0 else .un,if Aw z1=true then z1 else .un,if Aw (.fz (.int n))=true then .fz (.int n) else .un,if Aw z3=true then z3 else .un,if Aw (.fz (.int hd))=true then .fz (.int hd) else .un,if Aw z6=true then z6 else .un,?_⟩
 have P:r8 5 (o2 (o2 (oV 4) (oC (.int 18)) cq) (VL.os (ac (oV 5) (ai)) bf) bw) (VL.os (ac (o2 (oV 4) (oC (.int 18)) cq) (ac (oV 2) (ai))) aC) [z0,z1,.fz (.int n),z3,.fz (.int hd),.fr ds,z6]=some (.nx,(CT [z0,z1,.fz (.int n),z3,.fz (.int hd),.fr ds,z6]).set 5 (.fz (.list ds'))):=by
  rw [dc] at pt
  simp [r8,ln,hk,hr,pt,hl]
 simp [ut,h1,ln,h2,P,CT]
theorem Kr (z0 z1 z2 z3 z4 z6:Sl) (ds:List D):wU [z0,z1,z2,z3,z4,.fr ds,z6]=some (.rt (.list ds),[z0,z1,z2,z3,z4,.fr ds,z6]):=by
 simp [wU]
theorem Ks (z0 z1 z2 z3 z4 z6:Sl) (ds:List D):wU [z0,z1,z2,z3,z4,.fz (.list ds),z6]=some (.rt (.list ds),[z0,z1,z2,z3,z4,.fz (.list ds),z6]):=by
 simp [wU]
theorem MK (c:Int) (n:Nat) (hn:1<=n):∃ j:Nat,j<n/\bw (.int c) (.int n)=some (.int j):=by
 have h0:(0:Int)<n:=by omega
 have a1:=Int.emod_nonneg c (show (n:Int)≠0 by omega)
 have a2:=Int.emod_lt_of_pos c h0
 obtain ⟨j,hj⟩:∃ j:Nat,c % n=j:=⟨(c % n).toNat,by omega⟩
 have e:=nv (i:=c) h0
 rw [hj] at e a2
 exact ⟨j,by omega,e⟩
theorem EC (rs:List Row) {k:Nat} (hk:k<rs.length) (r:Row):jQ (rs.map rowD) (.int (k:Nat)) (rowD r)=some ((rs.set k r).map rowD):=by
 rw [dc,List.length_map]
 have:tJ rs.length (k:Int)=some k:=by
  unfold tJ
  simp
  omega
 rw [this]
 show some _=_
 rw [List.map_set]
theorem wv {n M:Nat} (hn:1<=n) (hM:M<=60) (rs:List Row) (hr:∀ r∈rs,r.ok n) (hl:rs.length<=60) (cs:List Int) (hc:cs.length<=60) (hd:Int):∃ rs':List Row,cJ [io rs,.list (cs.map .int),.int (n:Nat),.int (M:Nat),.int hd]=some (io rs')/\(∀ r∈rs',r.ok n)/\rs'.length<=60:=by
 have fin:∃ rs':List Row,(∃ δ,d9 [.fz (io rs),.fz (.list (cs.map .int)),.fz (.int (n:Nat)),.fz (.int (M:Nat)),.fz (.int hd),.un,.un]=some (.rt (io rs'),δ))/\(∀ r∈rs',r.ok n)/\rs'.length<=60:=by
  by_cases q:hd / 3 % 3=0
  ·obtain ⟨ds,hdl,hsl⟩:∃ ds:List Int,ds.length<=cs.length/\tZ (.list (cs.map .int)) none (some (M:Int))=some (.list (ds.map .int)):=by
    refine ⟨cs.take M,by rw [List.length_take]; omega,?_⟩
    rw [qV,List.map_take]
   obtain ⟨rs1,l1,ok1,p⟩:=vg (fi:=oI (pi (oV 1) (pj) (oP (oV 3))) eJ) (δ:=[.fz (io rs),.fz (.list (cs.map .int)),.fz (.int (n:Nat)),.fz (.int (M:Nat)),.fz (.int hd),.un,.un]) n hn ds (by omega) (by simp [hsl]) rfl
   exact ⟨rs1,⟨_,(congrFun Dw _).trans (t6 (Kv _ _ _ _ _ _ q p))⟩,ok1,by omega⟩
  ·obtain ⟨rs1,y6,ok1,l1,lp⟩:=vc hn hM (.fz (io rs)) (.fz (.list (cs.map .int))) (.fz (.int hd)) cs rs hr hl .un
   have pre:∀ {x:Option (Fl×Dv)},(ak ut wU) [.fz (io rs),.fz (.list (cs.map .int)),.fz (.int (n:Nat)),.fz (.int (M:Nat)),.fz (.int hd),.fr (rs1.map rowD),y6]=x->d9 [.fz (io rs),.fz (.list (cs.map .int)),.fz (.int (n:Nat)),.fz (.int (M:Nat)),.fz (.int hd),.un,.un]=x:=fun {x} h=>
    (congrFun Dw _).trans ((bc (Kw _ _ _ _ _ q)).trans ((bc (Mt _ _ _ _ _)).trans ((bc (Ms _ _ _ _ _ _ _ _ rfl lp)).trans h)))
   obtain ⟨m,hm⟩:∃ m:Int,((rs1.map rowD).length:Int)=m:=⟨_,rfl⟩
   by_cases a:hd / 9 % 2=0/\0<m
   ·rw [List.length_map] at hm
    obtain ⟨k,hk,ek⟩:=MK (hd / 18) rs1.length (by omega)
    obtain ⟨r,er,okr⟩:=qA (hd / 18) n hn
    obtain ⟨a0,a1,a2,a3,a4,a6,e4⟩:=Kt (.fz (io rs)) (.fz (.list (cs.map .int))) (.fz (.int (M:Nat))) y6 (rs1.map rowD) _ hd m k n (rowD r) (by rw [List.length_map]; exact hm) a.1 a.2 (by rw [<- hm]; exact ek) er (EC rs1 hk r) (qE _)
    refine ⟨rs1.set k r,⟨_,pre ((bc e4).trans (Ks _ _ _ _ _ _ _))⟩,fun x hx=>?_,by rw [List.length_set]; exact l1⟩
    rcases List.mem_or_eq_of_mem_set hx with h | h
    ·exact ok1 x h
    ·subst h; exact okr
   ·exact ⟨rs1,⟨_,pre ((bc (Ku _ _ _ _ _ _ _ m hm a)).trans (Kr _ _ _ _ _ _ _))⟩,ok1,l1⟩
 obtain ⟨rs',h,ok,l⟩:=fin
 exact ⟨rs',qg rfl h,ok,l⟩
theorem CW (ns:List Int) (k:Int) (hk:0<=k):∃ c,bQ [.list (ns.map .int),.int k]=some (.int c):=by
 by_cases h:k<ns.length
 ·have hk':k.toNat<ns.length:=by omega
  refine ⟨ns[k.toNat],?_⟩
  have e:hU (ns.map PyData.int) k=some (.int ns[k.toNat]):=dM (j:=k.toNat) (by omega) (by simp [hk'])
  simp [bQ,runB,e9,aw,h,e]
 ·exact ⟨0,by simp [bQ,runB,e9,aw,h]⟩
theorem Hr (X:D) (δ:Dv) (S lo:Int) (R:List D) (h:δ[4]? = some (.fz X)) (ln:bf [X]=some (.int S)) (r3:iX [.int lo,.int S,.int 2]=some R):(oL (ac (oC (.int lo)) (ac (VL.os (ac (oV 4) (ai)) bf) (ac (oC (.int 2)) (ai)))) iX) δ = some R:=by
 simp [h,ln,r3]
theorem Hq (X:D) (δ:Dv) (lo:Int) (N:Nat) (y:Nat->D) (hN:N<=31) (i:(oL (ac (oC (.int lo)) (ac (VL.os (ac (oV 4) (ai)) bf) (ac (oC (.int 2)) (ai)))) iX) δ = some (lq lo 2 N)) (h:δ[4]? = some (.fz X)) (H:∀ k:Nat,k<N->av X (.int (lo+(k:Nat)*2))=some (y k)):df (oL (ac (oC (.int lo)) (ac (VL.os (ac (oV 4) (ai)) bf) (ac (oC (.int 2)) (ai)))) iX) [(4,"cells")] kT (o2 (oV 1) (oV 0) av) δ = some (.list ((List.range N).map y)):=
 d8 (h:=fun k:Nat=>PyData.int (lo+(k:Nat)*2)) (k:=y) (xs:=List.range N) i (by rw [List.length_range]; omega) fun k hk=>by
  have e:=H k (List.mem_range.mp hk)
  simp [eL,h,e]
theorem o9 (lo:Nat) (hlo:lo<=1) (cs:List Int) (hl:cs.length<=62):∃ es:List Int,es.length<=31/\∀ δ:Dv,δ[4]? = some (.fz (.list (cs.map .int)))->df (oL (ac (oC (.int (lo:Nat))) (ac (VL.os (ac (oV 4) (ai)) bf) (ac (oC (.int 2)) (ai)))) iX) [(4,"cells")] kT (o2 (oV 1) (oV 0) av) δ = some (.list (es.map .int)):=by
 obtain ⟨S,hS⟩:∃ S:Int,(cs.length:Int)=S:=⟨_,rfl⟩
 obtain ⟨N,hN⟩:∃ N,rngN (lo:Nat) S 2=N:=⟨_,rfl⟩
 have hN2:N<=31/\∀ k,k<N->lo+k*2<cs.length:=by
  rw [<- hN]; unfold rngN
  split
  ·constructor
   ·omega
   ·intro k hk; omega
  ·exact ⟨by omega,fun k hk=>by omega⟩
 have ln:bf [.list (cs.map PyData.int)]=some (.int S):=by rw [<- hS]; simp
 have r3:iX [.int (lo:Nat),.int S,.int 2]=some (lq (lo:Nat) 2 N):=by rw [<- hN]; exact wA (by omega)
 refine ⟨(List.range N).map fun k=>cs.getD (lo+k*2) 0,by rw [List.length_map,List.length_range]; exact hN2.1,fun δ h=>?_⟩
 rw [List.map_map]
 exact Hq _ δ _ N _ hN2.1 (Hr _ δ S _ _ h ln r3) h fun k hk=>by
  have lt:=hN2.2 k hk
  exact dM (j:=lo+k*2) (by omega) (by simp [lt])
noncomputable def Eg:Sf:=aD 1 (VL.os (ac (oV 0) (ac (oC (.int 0)) (ai))) bQ)
noncomputable def Ef:Sf:=aD 2 (o2 (oC (.int 1)) (o2 (oV 1) (oC (.int 3)) bw) aT)
noncomputable def Bc:Sf:=cu (ob (o2 (o2 (o2 (oV 1) (oC (.int 75)) cq) (oC (.int 12)) bw) (oC (.int 7)) aX)) (aD 2 (oC (.int 4))) (fH)
noncomputable def Ee:Sf:=aD 3 (o2 (VL.os (ac (oC (.int 30)) (ac (oC (.int 16)) (ac (oC (.int 6)) (ac (oC (.int 3)) (ai))))) dD) (o2 (oV 2) (oC (.int 1)) bM) av)
noncomputable def Ed:Sf:=aD 4 (pi (oV 0) (oP (oC (.int 1))) (pj))
noncomputable def Ec:Sf:=aD 5 (ud)
noncomputable def Eb:Sf:=aD 6 (ub)
noncomputable def Ea:Sf:=aD 7 (ua)
noncomputable def D2:Sf:=aD 8 (VL.os (ac (oV 2) (ac (VL.os (ac (oV 7) (ai)) dr) (ai))) aO)
noncomputable def yk:Sf:=aD 9 (VL.os (ac (oV 2) (ac (VL.os (ac (VL.os (ac (oV 7) (ac (oV 6) (ac (oV 2) (ac (oV 3) (ac (oV 1) (ai)))))) cJ) (ai)) dr) (ai))) aO)
noncomputable def yj:Sf:=aD 10 (VL.os (ac (oV 8) (ai)) aW)
noncomputable def yi:Sf:=aD 11 (VL.os (ac (oV 9) (ai)) aW)
noncomputable def yh:Sf:=aD 12 (VL.os (ac (oV 8) (ac (oV 9) (ai))) aY)
noncomputable def yg:Sf:=cu (sw (nt (ob (VL.os (ac (oV 8) (ac (oV 9) (ac (oV 10) (ac (oV 11) (ac (oV 12) (ai)))))) cb))) (ob (o2 (VL.os (ac (oV 8) (ac (oV 9) (ac (oV 12) (ai)))) aI) (oC (.bool true)) (IC true)))) (aP (oC (.bool false))) (fH)
noncomputable def yf:Sf:=ic (oL (ac (o2 (VL.os (ac (oC (.int 8)) (ac (oC (.int 8)) (ac (oC (.int 8)) (ac (oC (.int 2)) (ai))))) dD) (o2 (oV 2) (oC (.int 1)) bM) av) (ai)) bi) (gN 13) (kL)
noncomputable def ye:Sf:=aP (oC (.bool true))
theorem FK:Ai=ak Eg (ak Ef (ak Bc (ak Ee (ak Ed (ak Ec (ak Eb (ak Ea (ak D2 (ak yk (ak yj (ak yi (ak yh (ak yg (ak yf (ye))))))))))))))):=rfl
theorem A1 (i:Int):dR [.int i]=some (.bool true):=by simp [dR,runB,iK,aw]
theorem KW (z0 z1 z2 z3 z4:Sl) (i:Int) (h:0<=i):dP [z0,z1,z2,z3,z4,.fz (.int i)]=some (.nx,[z0,z1,z2,z3,z4,.fz (.int i)]):=by
 have w:=A1 i
 have n:¬ i<0:=by omega
 simp [dP,w,n]
theorem qC (z0 z1 z2 z3 z4:Sl):∀ (is:List Int),(∀ i∈is,0<=i)->∀ z5,∃ y5,loop (gN 5) dP (is.map .int) [z0,z1,z2,z3,z4,z5]=some (.nx,[z0,z1,z2,z3,z4,y5])
 | [],_,z5=>⟨z5,rfl⟩
 | i::is,h,z5=>by
  obtain ⟨y5,e⟩:=qC z0 z1 z2 z3 z4 is (fun k hk=>h k (List.mem_cons_of_mem _ hk)) (.fz (.int i))
  exact ⟨y5,by rw [List.map_cons,cv (δ1:=[z0,z1,z2,z3,z4,.fz (.int i)]) (by simp) (KW z0 z1 z2 z3 z4 i (h i List.mem_cons_self)),e]⟩
theorem FZ (C1 C2 F G:D) (e:Int) (h0:0<=e) (h8:e<8) (h:bm [C1,C2,F,G,.int e]=some (.bool true)):cb [C1,C2,F,G,mI e]=some (.bool true):=by
 obtain ⟨y5,lp⟩:=qC (.fz C1) (.fz C2) (.fz F) (.fz G) (.fz (mI e)) [e] (fun i hi=>by simp only [List.mem_cons,List.not_mem_nil,or_false] at hi; subst hi; exact h0) .un
 have t:iD "tuple" (mI e)=some (.bool true):=rfl
 have ln:bf [mI e]=some (.int 2):=rfl
 have sl:tZ (mI e) (some 1) none=some (.tuple [.int e]):=rfl
 have i0:av (mI e) (.int 0)=some (.str "alike"):=rfl
 have i1:av (mI e) (.int 1)=some (.int e):=rfl
 have lp':loop (gN 5) dP [.int e] [.fz C1,.fz C2,.fz F,.fz G,.fz (mI e),.un]=_:=lp
 simp [-ak,-cu,b9,cP,cb,runB,gW,aw,t,ln,sl,lp',i0,i1,Jt,h8,h]
theorem FY (C1 C2 F G:D) (s0 s1 s2 s3 N M:Int) (h0:0<=s0) (h1:0<=s1) (h2:0<=s2) (h3:0<=s3) (mx:pq [.tuple [.int s0,.int s1,.int s2,.int s3]]=some (.int M)) (hN:bf [F]=some (.int N)) (hM:M<N) (h:ck [F,G,.tuple [.int s0,.int s1,.int s2,.int s3]]=some (.bool true)):cb [C1,C2,F,G,fT s0 s1 s2 s3]=some (.bool true):=by
 obtain ⟨y5,lp⟩:=qC (.fz C1) (.fz C2) (.fz F) (.fz G) (.fz (fT s0 s1 s2 s3)) [s0,s1,s2,s3] (fun i hi=>by
  simp only [List.mem_cons,List.not_mem_nil,or_false] at hi
  rcases hi with rfl | rfl | rfl | rfl <;> assumption) .un
 have t:iD "tuple" (fT s0 s1 s2 s3)=some (.bool true):=rfl
 have ln:bf [fT s0 s1 s2 s3]=some (.int 5):=rfl
 have sl:tZ (fT s0 s1 s2 s3) (some 1) none=some (.tuple [.int s0,.int s1,.int s2,.int s3]):=rfl
 have i0:av (fT s0 s1 s2 s3) (.int 0)=some (.str "unlike"):=rfl
 have lp':loop (gN 5) dP [.int s0,.int s1,.int s2,.int s3] [.fz C1,.fz C2,.fz F,.fz G,.fz (fT s0 s1 s2 s3),.un]=_:=lp
 have uu:neD (.str "unlike") (.str "unlike")=some (.bool false):=(MH gP gP).trans (congrArg (fun z=>some (PyData.bool z)) (show (!(("unlike":Str)==("unlike":Str)))=false by decide +kernel))
 simp [-ak,-cu,b9,cP,cb,runB,gW,aw,t,ln,sl,lp',i0,GY,uu,mx,hN,hM,h]
theorem KQ {a b c d N:Int} (ha:a<N) (hb:b<N) (hc:c<N) (hd:d<N):∃ M,pq [.tuple [.int a,.int b,.int c,.int d]]=some (.int M)/\M<N:=by
 refine ⟨_,rfl,?_⟩
 simp only [List.foldl]
 repeat' split
 all_goals omega
theorem yr (e:Int):MA.Sh 1 (mI e):=MA.Sh.tuple fun x hx=>by
 simp only [List.mem_cons,List.not_mem_nil,or_false] at hx
 rcases hx with rfl | rfl
 ·have h:((PyData.str "alike").canLay0&&decide ((PyData.str "alike").depth<=64))=true:=ix
  rw [Bool.and_eq_true] at h
  exact ⟨h.1,by simp [PyData.depth]⟩
 ·exact MA.Sh.int 0 _
theorem Hx (a b c d:Int):MA.Sh 1 (fT a b c d):=MA.Sh.tuple fun x hx=>by
 simp only [List.mem_cons,List.not_mem_nil,or_false] at hx
 rcases hx with rfl | rfl | rfl | rfl | rfl
 ·have h:((PyData.str "unlike").canLay0&&decide ((PyData.str "unlike").depth<=64))=true:=gP
  rw [Bool.and_eq_true] at h
  exact ⟨h.1,by simp [PyData.depth]⟩
 ·exact MA.Sh.int 0 _
 ·exact MA.Sh.int 0 _
 ·exact MA.Sh.int 0 _
 ·exact MA.Sh.int 0 _
theorem Js (a e:Int):aX (mI a) (mI e)=some (.bool (a==e)):=by
 show (if _ then _ else _)=_
 rw [if_pos ⟨eQ (yr a) (by decide),eQ (yr e) (by decide)⟩]
 simp [mI,PyData.eqv,PyData.eqvAll]
theorem GX (a b c d e:Int):aX (fT a b c d) (mI e)=some (.bool false):=by
 show (if _ then _ else _)=_
 rw [if_pos ⟨eQ (Hx a b c d) (by decide),eQ (yr e) (by decide)⟩]
 simp [mI,fT,PyData.eqv,PyData.eqvAll]
theorem a1 (S:D) (c:Int) (h:bQ [S,.int 0]=some (.int c)):Eg [.fz S,.un,.un,.un,.un,.un,.un,.un,.un,.un,.un,.un,.un,.un,.un]=some (.nx,[.fz S,.fz (.int c),.un,.un,.un,.un,.un,.un,.un,.un,.un,.un,.un,.un,.un]):=by
 simp [Eg,h]
theorem a2 (z0:Sl) (c:Int):Ef [z0,.fz (.int c),.un,.un,.un,.un,.un,.un,.un,.un,.un,.un,.un,.un,.un]=some (.nx,[z0,.fz (.int c),.fz (.int (1+c % 3)),.un,.un,.un,.un,.un,.un,.un,.un,.un,.un,.un,.un]):=by
 simp [Ef]
theorem a3 (z0:Sl) (c w:Int) (h:(if c / 75 % 12=7 then 4 else 1+c % 3)=w):Bc [z0,.fz (.int c),.fz (.int (1+c % 3)),.un,.un,.un,.un,.un,.un,.un,.un,.un,.un,.un,.un]=some (.nx,[z0,.fz (.int c),.fz (.int w),.un,.un,.un,.un,.un,.un,.un,.un,.un,.un,.un,.un]):=by
 by_cases q:c / 75 % 12=7
 ·rw [if_pos q] at h
  subst h
  simp [Bc,q]
 ·rw [if_neg q] at h
  subst h
  simp [Bc,q]
theorem a4 (z0 z1:Sl) (w M:Int) (h:hU [PyData.int 30,.int 16,.int 6,.int 3] (w-1)=some (.int M)):Ee [z0,z1,.fz (.int w),.un,.un,.un,.un,.un,.un,.un,.un,.un,.un,.un,.un]=some (.nx,[z0,z1,.fz (.int w),.fz (.int M),.un,.un,.un,.un,.un,.un,.un,.un,.un,.un,.un]):=by
 simp [Ee,h]
theorem a5 (S B:D) (z1 z2 z3:Sl) (sl:tZ S (some 1) none=some B):Ed [.fz S,z1,z2,z3,.un,.un,.un,.un,.un,.un,.un,.un,.un,.un,.un]=some (.nx,[.fz S,z1,z2,z3,.fz B,.un,.un,.un,.un,.un,.un,.un,.un,.un,.un]):=by
 simp [Ed,sl]
theorem a6 (z0 z1 z2 z3 z4:Sl) (R:D) (h:ud [z0,z1,z2,z3,z4,.un,.un,.un,.un,.un,.un,.un,.un,.un,.un]=some R):Ec [z0,z1,z2,z3,z4,.un,.un,.un,.un,.un,.un,.un,.un,.un,.un]=some (.nx,[z0,z1,z2,z3,z4,.fz R,.un,.un,.un,.un,.un,.un,.un,.un,.un]):=by
 simp [Ec,h]
theorem a7 (z0 z1 z2 z3 z4 z5:Sl) (R:D) (h:ub [z0,z1,z2,z3,z4,z5,.un,.un,.un,.un,.un,.un,.un,.un,.un]=some R):Eb [z0,z1,z2,z3,z4,z5,.un,.un,.un,.un,.un,.un,.un,.un,.un]=some (.nx,[z0,z1,z2,z3,z4,z5,.fz R,.un,.un,.un,.un,.un,.un,.un,.un]):=by
 simp [Eb,h]
theorem a8 (z0 z1 z2 z3 z4 z5 z6:Sl) (R:D) (h:ua [z0,z1,z2,z3,z4,z5,z6,.un,.un,.un,.un,.un,.un,.un,.un]=some R):Ea [z0,z1,z2,z3,z4,z5,z6,.un,.un,.un,.un,.un,.un,.un,.un]=some (.nx,[z0,z1,z2,z3,z4,z5,z6,.fz R,.un,.un,.un,.un,.un,.un,.un]):=by
 simp [Ea,h]
theorem a9 (z0 z1 z3 z4 z5 z6:Sl) (w:D) (L:List D):D2 [z0,z1,.fz w,z3,z4,z5,z6,.fz (.list L),.un,.un,.un,.un,.un,.un,.un]=some (.nx,[z0,z1,.fz w,z3,z4,z5,z6,.fz (.list L),.fz (.tuple [w,.tuple L]),.un,.un,.un,.un,.un,.un]):=by
 simp [D2]
theorem a10 (z0 z4 z5 z8:Sl) (c w M R T:D) (L:List D) (h:cJ [R,T,w,M,c]=some (.list L)):yk [z0,.fz c,.fz w,.fz M,z4,z5,.fz T,.fz R,z8,.un,.un,.un,.un,.un,.un]=some (.nx,[z0,.fz c,.fz w,.fz M,z4,z5,.fz T,.fz R,z8,.fz (.tuple [w,.tuple L]),.un,.un,.un,.un,.un]):=by
 simp [yk,h]
theorem LB (z0 z1 z2 z3 z4 z5 z6 z7 z9:Sl) (C F:D) (h:aW [C]=some F):yj [z0,z1,z2,z3,z4,z5,z6,z7,.fz C,z9,.un,.un,.un,.un,.un]=some (.nx,[z0,z1,z2,z3,z4,z5,z6,z7,.fz C,z9,.fz F,.un,.un,.un,.un]):=by
 simp [yj,h]
theorem LA (z0 z1 z2 z3 z4 z5 z6 z7 z8 z10:Sl) (C F:D) (h:aW [C]=some F):yi [z0,z1,z2,z3,z4,z5,z6,z7,z8,.fz C,z10,.un,.un,.un,.un]=some (.nx,[z0,z1,z2,z3,z4,z5,z6,z7,z8,.fz C,z10,.fz F,.un,.un,.un]):=by
 simp [yi,h]
theorem Lz (z0 z1 z2 z3 z4 z5 z6 z7 z10 z11:Sl) (C1 C2 P:D) (h:aY [C1,C2]=some P):yh [z0,z1,z2,z3,z4,z5,z6,z7,.fz C1,.fz C2,z10,z11,.un,.un,.un]=some (.nx,[z0,z1,z2,z3,z4,z5,z6,z7,.fz C1,.fz C2,z10,z11,.fz P,.un,.un]):=by
 simp [yh,h]
theorem Ly (z0 z1 z2 z3 z4 z5 z6 z7:Sl) (C1 C2 F G P:D) (h1:cb [C1,C2,F,G,P]=some (.bool true)) (h2:aI [C1,C2,P]=some (.bool true)):yg [z0,z1,z2,z3,z4,z5,z6,z7,.fz C1,.fz C2,.fz F,.fz G,.fz P,.un,.un]=some (.nx,[z0,z1,z2,z3,z4,z5,z6,z7,.fz C1,.fz C2,.fz F,.fz G,.fz P,.un,.un]):=by
 simp [yg,h1,h2]
theorem Lx (z0 z1 z3 z4 z5 z6 z7 z8 z9 z10 z11 z12:Sl) (w K:Int) (L:List D) (δ:Dv) (h:hU [PyData.int 8,.int 8,.int 8,.int 2] (w-1)=some (.int K)) (rg:bi [.int K]=some L) (lp:loop (gN 13) kL L [z0,z1,.fz (.int w),z3,z4,z5,z6,z7,z8,z9,z10,z11,z12,.un,.un]=some (.nx,δ)):yf [z0,z1,.fz (.int w),z3,z4,z5,z6,z7,z8,z9,z10,z11,z12,.un,.un]=some (.nx,δ):=by
 simp [yf,h,rg,lp]
theorem Lw (δ:Dv):ye δ = some (.rt (.bool true),δ):=by simp [ye]
theorem K3 (z0 z1 z2 z3 z4 z5 z6 z7 z10 z11 z14:Sl) (C1 C2 P:D) (e:Int) (b:Bool) (h:aI [C1,C2,mI e]=some (.bool b)) (q:aX P (mI e)=some (.bool b)):kL [z0,z1,z2,z3,z4,z5,z6,z7,.fz C1,.fz C2,z10,z11,.fz P,.fz (.int e),z14]=some (.nx,[z0,z1,z2,z3,z4,z5,z6,z7,.fz C1,.fz C2,z10,z11,.fz P,.fz (.int e),.fz (.bool b)]):=by
 have i:iD "bool" (.bool b)=some (.bool true):=rfl
 have ne:neD (.bool b) (.bool b)=some (.bool false):=by cases b <;> rfl
 have h':aI [C1,C2,.tuple [.str "alike",.int e]]=some (.bool b):=h
 have q':aX P (.tuple [.str "alike",.int e])=some (.bool b):=q
 simp [kL,h',q',i,ne]
theorem law_true (ns:List Int) (hl:ns.length<=63):zO [.list (ns.map .int)]=some (.bool true):=by
 obtain ⟨c,hc⟩:=CW ns 0 (by decide)
 obtain ⟨n,hw⟩:∃ w:Nat,(if c / 75 % 12=7 then 4 else 1+c % 3)=(w:Int):=⟨(if c / 75 % 12=7 then 4 else 1+c % 3).toNat,by split <;> omega⟩
 have n14:1<=n/\n<=4:=by split at hw <;> omega
 obtain ⟨M,K,eM,eK,hM,hK⟩:∃ M K:Nat,hU [PyData.int 30,.int 16,.int 6,.int 3] ((n:Int)-1)=some (.int (M:Nat))/\hU [PyData.int 8,.int 8,.int 8,.int 2] ((n:Int)-1)=some (.int (K:Nat))/\M<=30/\K<=8:=by
  rcases (by omega:n=1\/n=2\/n=3\/n=4) with rfl | rfl | rfl | rfl
  ·exact ⟨30,8,rfl,rfl,by decide,by decide⟩
  ·exact ⟨16,8,rfl,rfl,by decide,by decide⟩
  ·exact ⟨6,8,rfl,rfl,by decide,by decide⟩
  ·exact ⟨3,2,rfl,rfl,by decide,by decide⟩
 obtain ⟨cs,cl,sc⟩:∃ cs:List Int,cs.length<=62/\tZ (.list (ns.map .int)) (some 1) none=some (.list (cs.map .int)):=by
  refine ⟨ns.drop 1,by rw [List.length_drop]; omega,?_⟩
  have:=nQ (ns.map PyData.int) 1
  rw [<- List.map_drop] at this
  exact this
 obtain ⟨os,ol,po⟩:=o9 0 (by decide) cs cl
 obtain ⟨ts,tl,pt⟩:=o9 1 (by decide) cs cl
 obtain ⟨k,hk⟩:∃ k:Nat,(M:Int) / 2+1=k:=⟨((M:Int) / 2+1).toNat,by omega⟩
 have so:tZ (.list (os.map .int)) none (some (k:Int))=some (.list ((os.take k).map .int)):=by rw [qV,List.map_take]
 obtain ⟨as,al,ao,P3⟩:=vg (fi:=oI (pi (oV 5) (pj) (oP (o2 (o2 (oV 3) (oC (.int 2)) cq) (oC (.int 1)) aT))) eJ) (δ:=[.fz (.list (ns.map .int)),.fz (.int c),.fz (.int (n:Nat)),.fz (.int (M:Nat)),.fz (.list (cs.map .int)),.fz (.list (os.map .int)),.fz (.list (ts.map .int)),.un,.un,.un,.un,.un,.un,.un,.un]) n n14.1 (os.take k) (by rw [List.length_take]; omega) (by simp [hk,so]) rfl
 rw [List.length_take] at al
 obtain ⟨bs,S2,bo,bl⟩:=wv n14.1 (show M<=60 by omega) as ao (by omega) ts (by omega) c
 have L1:=sI (show n<=6 by omega) as ao
 have L2:=sI (show n<=6 by omega) bs bo
 have SA:=fun e:Int=>yd n14.2 ao bo (show as.length<=100 by omega) (show bs.length<=100 by omega) e
 have main:∃ P:D,aY [eY n as,eY n bs]=some P/\cb [eY n as,eY n bs,.list (ce n fun b=>aF n (un b) as),.list (ce n fun b=>aF n (un b) bs),P]=some (.bool true)/\aI [eY n as,eY n bs,P]=some (.bool true)/\∀ e:Int,aX P (mI e)=some (.bool (ET (kO (De n as bs) 0 8) e)):=by
  rcases Ap n14.2 ao bo (show as.length<=100 by omega) (show bs.length<=100 by omega) with ⟨e,he,ho,hp⟩ | ⟨ho,base,b,p,hb0,hb,hp',hp,hne⟩
  ·refine ⟨_,hp,FZ _ _ _ _ e (by omega) (by omega) ?_,?_,fun e'=>?_⟩
   ·rw [Fs (by omega) as bs (by omega) (by omega) e,(kN ho).1]
   ·rw [SA,ho]
    show some (PyData.bool (((e:Nat):Int)==((e:Nat):Int)))=_
    rw [beq_self_eq_true]
   ·rw [ho,Js]
    rfl
  ·have pn:0<2 ^ n:=Nat.pow_pos (by decide)
   have q:xI (MA.Q4.mul (aF n (un 0) as base) (aF n (un b) bs p)) (MA.Q4.mul (aF n (un b) as p) (aF n (un 0) bs base))=false:=by
    rw [Bool.eq_false_iff]
    intro z
    exact hne (eqQ_iff.mp z)
   obtain ⟨Mx,emx,hmx⟩:=KQ (a:=((0:Nat):Int)) (b:=(base:Int)) (c:=(b:Int)) (d:=(p:Int)) (N:=((2 ^ n:Nat):Int)) (by omega) (by omega) (by omega) (by omega)
   refine ⟨_,hp,FY _ _ _ _ _ _ _ _ _ Mx (by omega) (by omega) (by omega) (by omega) emx (nD n _) hmx ?_,?_,fun e'=>?_⟩
   ·exact (Fq ao bo (by omega) (by omega) pn hb0 hb hp').trans (by rw [q]; rfl)
   ·exact (yc n14.2 ao bo (by omega) (by omega) pn hb0 hb hp').trans (by rw [q]; rfl)
   ·rw [ho,GX]; rfl
 obtain ⟨P,hp,hg,hs,hq⟩:=main
 have rgK:bi [.int (K:Nat)]=some (iW 0 K):=jr (j:=(K:Int)) (by omega) (by omega)
 obtain ⟨δ,lp,_⟩:=ig (b:=kL) (k:=13) (fun _ δ=>∃ z13 z14,δ = [.fz (.list (ns.map .int)),.fz (.int c),.fz (.int (n:Nat)),.fz (.int (M:Nat)),.fz (.list (cs.map .int)),.fz (.list (os.map .int)),.fz (.list (ts.map .int)),.fz (io as),.fz (eY n as),.fz (eY n bs),.fz (.list (ce n fun b=>aF n (un b) as)),.fz (.list (ce n fun b=>aF n (un b) bs)),.fz P,z13,z14]) K (by
  rintro i hi δ ⟨z13,z14,rfl⟩
  exact ⟨_,K3 _ _ _ _ _ _ _ _ _ _ _ _ _ _ _ _ (SA i) (hq i),_,_,rfl⟩) [.fz (.list (ns.map .int)),.fz (.int c),.fz (.int (n:Nat)),.fz (.int (M:Nat)),.fz (.list (cs.map .int)),.fz (.list (os.map .int)),.fz (.list (ts.map .int)),.fz (io as),.fz (eY n as),.fz (eY n bs),.fz (.list (ce n fun b=>aF n (un b) as)),.fz (.list (ce n fun b=>aF n (un b) bs)),.fz P,.un,.un] ⟨_,_,rfl⟩
 refine qg rfl ⟨δ,(congrFun FK _).trans ?_⟩
 refine (bc (a1 _ _ hc)).trans ?_
 refine (bc (a2 _ _)).trans ?_
 refine (bc (a3 _ _ _ hw)).trans ?_
 refine (bc (a4 _ _ _ _ eM)).trans ?_
 refine (bc (a5 _ _ _ _ _ sc)).trans ?_
 refine (bc (a6 _ _ _ _ _ _ (po _ rfl))).trans ?_
 refine (bc (a7 _ _ _ _ _ _ _ (pt _ rfl))).trans ?_
 refine (bc (a8 _ _ _ _ _ _ _ _ P3)).trans ?_
 refine (bc (a9 _ _ _ _ _ _ _ _)).trans ?_
 refine (bc (a10 _ _ _ _ _ _ _ _ _ _ S2)).trans ?_
 refine (bc (LB _ _ _ _ _ _ _ _ _ _ _ L1)).trans ?_
 refine (bc (LA _ _ _ _ _ _ _ _ _ _ _ _ L2)).trans ?_
 refine (bc (Lz _ _ _ _ _ _ _ _ _ _ _ _ _ hp)).trans ?_
 refine (bc (Ly _ _ _ _ _ _ _ _ _ _ _ _ _ hg hs)).trans ?_
 refine (bc (Lx _ _ _ _ _ _ _ _ _ _ _ _ _ _ _ _ eK rgK lp)).trans ?_
 exact Lw _
end GN
namespace GN
open PySem PySem.Spec PyProof.Rows L2 VL
structure Txt (mg:Str->Option Value):Prop where
 min:mg "min" = none
 max:mg "max" = none
 tuple:mg "tuple" = none
 range:mg "range" = none
 len:mg "len" = none
 all:mg "all" = none
 list:mg "list" = none
 isinstance:mg "isinstance" = none
 int:mg "int" = none
 bool:mg "bool" = none
section
variable {P:Program} {w:World} {K:PySem.W.Frag} {mg:Str->Option Value} {base:Heap}
theorem mU:FnScope jE ["joined","most"] (aj fC):=⟨rfl,rfl,rfl,by decide +kernel,rfl,by decide +kernel,by decide +kernel⟩
theorem nh {f:Addr} {fd:FuncData} {dV:Value} (F:FunV K "twos_shared" "twos_shared" fC f fd dV) (T:Txt mg):FnOk P w K mg base dN 1 f fd ["joined","most"] (fh K b6):=
 cr (k:=0) (b:=fL) F mU fun cdv A outer s H E hr=>(ah (bE (aB (cO hr.units) (aa 0) ad (aA _)) (aq (ax (aa 1))) aS) (aq (ax (aJ (Jk rfl) rfl T.min (by decide +kernel) (ab (aa 1) (ab (ag br (vJ (ag iS (aa 0) (i8 i9 (aa 0)))) ad) ae))))))
theorem t7:FnScope pN ["a","b","c","d"] (aj jp):=⟨rfl,rfl,rfl,by decide +kernel,rfl,by decide +kernel,by decide +kernel⟩
theorem uh {f:Addr} {fd:FuncData} {dV:Value} (F:FunV K "by_root" "by_root" jp f fd dV) (T:Txt mg):FnOk P w K mg base dN 1 f fd ["a","b","c","d"] (fh K dQ):=
 cr (k:=0) (b:=kZ) F t7 fun cdv A outer s H E hr=>(aq (ax (aK (ab (ag br (aa 1) (aa 3)) (ab (ag bz (aa 0) (aa 2)) (ab (ag bz (aa 1) (aa 3)) (ab (ag br (aa 2) (aa 0)) ae)))))))
theorem sc_number:FnScope oy ["a","b","c","d","k"] (aj ib):=⟨rfl,rfl,rfl,by decide +kernel,rfl,by decide +kernel,by decide +kernel⟩
theorem wI {f:Addr} {fd:FuncData} {dV:Value} (F:FunV K "number" "number" ib f fd dV) (T:Txt mg) (C_twos_shared:Cal P w K mg base "twos_shared" 1 b6 []) (C_by_root:Cal P w K mg base "by_root" 1 dQ []):FnOk P w K mg base dN 2 f fd ["a","b","c","d","k"] (fh K dG):=
 cr (k:=1) (b:=kr) F sc_number fun cdv A outer s H E hr=>(ah (az 5 sc_number.nd (au C_twos_shared (hr.mono (by decide)) rfl (ab (ag xn (ag xn (ag xn (aa 0) (aa 1)) (aa 2)) (aa 3)) (ab (ag dq (aa 4) ad) ae)))) (ah (az 0 sc_number.nd (ag vO (aa 0) (aa 5))) (ah (az 1 sc_number.nd (ag vO (aa 1) (aa 5))) (ah (az 2 sc_number.nd (ag vO (aa 2) (aa 5))) (ah (az 3 sc_number.nd (ag vO (aa 3) (aa 5))) (ah (az 4 sc_number.nd (ag br (aa 4) (ag cX ad (aa 5)))) (ah (bE (WV.tv (j2 (aB (cO hr.units) (aa 4) ad (aA _)) (j2 (aB (cO hr.units) (ag cH (ag br (aa 0) (aa 2)) ad) ad (aA _)) (iU (aB (cO hr.units) (ag cH (ag br (aa 1) (aa 3)) ad) ad (aA _)))))) (aq (ax (aK (ab (aa 0) (ab (aa 1) (ab (aa 2) (ab (aa 3) (ab (aa 4) ae)))))))) aS) (ah (az 6 sc_number.nd (au C_by_root (hr.mono (by decide)) rfl (ab (aa 0) (ab (aa 1) (ab (aa 2) (ab (aa 3) ae)))))) (aq (ax (aK (ab (ag dq (af ar (aa 6) ad (fun _ _=>rfl)) ad) (ab (ag dq (af ar (aa 6) ad (fun _ _=>rfl)) ad) (ab (ag dq (af ar (aa 6) ad (fun _ _=>rfl)) ad) (ab (ag dq (af ar (aa 6) ad (fun _ _=>rfl)) ad) (ab (ag br (aa 4) ad) ae))))))))))))))))
theorem sc_parts_over:FnScope ku ["x","k"] (aj f9):=⟨rfl,rfl,rfl,by decide +kernel,rfl,by decide +kernel,by decide +kernel⟩
theorem oJ {f:Addr} {fd:FuncData} {dV:Value} (F:FunV K "parts_over" "parts_over" f9 f fd dV) (T:Txt mg) (C_by_root:Cal P w K mg base "by_root" 1 dQ []):FnOk P w K mg base dN 2 f fd ["x","k"] (fh K cD):=
 cr (k:=1) (b:=gm) F sc_parts_over fun cdv A outer s H E hr=>(ah (az 2 sc_parts_over.nd (ag br (aa 1) (af ar (aa 0) ad (fun _ _=>rfl)))) (ah (az 3 sc_parts_over.nd (ag dq (aa 2) ad)) (ah (az 4 sc_parts_over.nd (ag gv (af ar (aa 0) ad (fun _ _=>rfl)) (aa 3))) (ah (az 5 sc_parts_over.nd (ag gv (af ar (aa 0) ad (fun _ _=>rfl)) (aa 3))) (ah (az 6 sc_parts_over.nd (ag gv (af ar (aa 0) ad (fun _ _=>rfl)) (aa 3))) (ah (az 7 sc_parts_over.nd (ag gv (af ar (aa 0) ad (fun _ _=>rfl)) (aa 3))) (ah (bE (aB (cO hr.units) (ag cH (aa 2) ad) ad (aA _)) (aq (ax (au C_by_root (hr.mono (by decide)) rfl (ab (aa 4) (ab (aa 5) (ab (aa 6) (ab (aa 7) ae))))))) aS) (aq (ax (aK (ab (aa 4) (ab (aa 5) (ab (aa 6) (ab (aa 7) ae))))))))))))))
theorem sc_plus:FnScope As ["x","y"] (aj qd):=⟨rfl,rfl,rfl,by decide +kernel,rfl,by decide +kernel,by decide +kernel⟩
theorem BD {f:Addr} {fd:FuncData} {dV:Value} (F:FunV K "plus" "plus" qd f fd dV) (T:Txt mg) (C_parts_over:Cal P w K mg base "parts_over" 2 cD []) (C_number:Cal P w K mg base "number" 2 dG []):FnOk P w K mg base dN 3 f fd ["x","y"] (fh K gY):=
 cr (k:=2) (b:=uR) F sc_plus fun cdv A outer s H E hr=>(ah (az 2 sc_plus.nd (aJ (Ac rfl) rfl T.max (by decide +kernel) (ab (af ar (aa 0) ad (fun _ _=>rfl)) (ab (af ar (aa 1) ad (fun _ _=>rfl)) ae)))) (ah (az 3 sc_plus.nd (au C_parts_over (hr.mono (by decide)) rfl (ab (aa 0) (ab (aa 2) ae)))) (ah (az 4 sc_plus.nd (au C_parts_over (hr.mono (by decide)) rfl (ab (aa 1) (ab (aa 2) ae)))) (aq (ax (au C_number (hr.mono (by decide)) rfl (ab (ag bz (af ar (aa 3) ad (fun _ _=>rfl)) (af ar (aa 4) ad (fun _ _=>rfl))) (ab (ag bz (af ar (aa 3) ad (fun _ _=>rfl)) (af ar (aa 4) ad (fun _ _=>rfl))) (ab (ag bz (af ar (aa 3) ad (fun _ _=>rfl)) (af ar (aa 4) ad (fun _ _=>rfl))) (ab (ag bz (af ar (aa 3) ad (fun _ _=>rfl)) (af ar (aa 4) ad (fun _ _=>rfl))) (ab (aa 2) ae)))))))))))
theorem yu:FnScope v0 ["x","y"] (aj mD):=⟨rfl,rfl,rfl,by decide +kernel,rfl,by decide +kernel,by decide +kernel⟩
theorem yU {f:Addr} {fd:FuncData} {dV:Value} (F:FunV K "times" "times" mD f fd dV) (T:Txt mg) (C_number:Cal P w K mg base "number" 2 dG []):FnOk P w K mg base dN 3 f fd ["x","y"] (fh K cU):=
 cr (k:=2) (b:=rl) F yu fun cdv A outer s H E hr=>(aq (ax (au C_number (hr.mono (by decide)) rfl (ab (ag br (ag br (ag br (ag cX (af ar (aa 0) ad (fun _ _=>rfl)) (af ar (aa 1) ad (fun _ _=>rfl))) (ag cX (af ar (aa 0) ad (fun _ _=>rfl)) (af ar (aa 1) ad (fun _ _=>rfl)))) (ag cX (af ar (aa 0) ad (fun _ _=>rfl)) (af ar (aa 1) ad (fun _ _=>rfl)))) (ag cX (af ar (aa 0) ad (fun _ _=>rfl)) (af ar (aa 1) ad (fun _ _=>rfl)))) (ab (ag br (ag br (ag bz (ag cX (af ar (aa 0) ad (fun _ _=>rfl)) (af ar (aa 1) ad (fun _ _=>rfl))) (ag cX (af ar (aa 0) ad (fun _ _=>rfl)) (af ar (aa 1) ad (fun _ _=>rfl)))) (ag cX (af ar (aa 0) ad (fun _ _=>rfl)) (af ar (aa 1) ad (fun _ _=>rfl)))) (ag cX (af ar (aa 0) ad (fun _ _=>rfl)) (af ar (aa 1) ad (fun _ _=>rfl)))) (ab (ag br (ag bz (ag bz (ag cX (af ar (aa 0) ad (fun _ _=>rfl)) (af ar (aa 1) ad (fun _ _=>rfl))) (ag cX (af ar (aa 0) ad (fun _ _=>rfl)) (af ar (aa 1) ad (fun _ _=>rfl)))) (ag cX (af ar (aa 0) ad (fun _ _=>rfl)) (af ar (aa 1) ad (fun _ _=>rfl)))) (ag cX (af ar (aa 0) ad (fun _ _=>rfl)) (af ar (aa 1) ad (fun _ _=>rfl)))) (ab (ag bz (ag bz (ag bz (ag cX (af ar (aa 0) ad (fun _ _=>rfl)) (af ar (aa 1) ad (fun _ _=>rfl))) (ag cX (af ar (aa 0) ad (fun _ _=>rfl)) (af ar (aa 1) ad (fun _ _=>rfl)))) (ag cX (af ar (aa 0) ad (fun _ _=>rfl)) (af ar (aa 1) ad (fun _ _=>rfl)))) (ag cX (af ar (aa 0) ad (fun _ _=>rfl)) (af ar (aa 1) ad (fun _ _=>rfl)))) (ab (ag bz (af ar (aa 0) ad (fun _ _=>rfl)) (af ar (aa 1) ad (fun _ _=>rfl))) ae))))))))
theorem t8:FnScope pO ["x"] (aj jq):=⟨rfl,rfl,rfl,by decide +kernel,rfl,by decide +kernel,by decide +kernel⟩
theorem ui {f:Addr} {fd:FuncData} {dV:Value} (F:FunV K "against" "against" jq f fd dV) (T:Txt mg):FnOk P w K mg base dN 1 f fd ["x"] (fh K eI):=
 cr (k:=0) (b:=lg) F t8 fun cdv A outer s H E hr=>(aq (ax (aK (ab (i8 i9 (af ar (aa 0) ad (fun _ _=>rfl))) (ab (i8 i9 (af ar (aa 0) ad (fun _ _=>rfl))) (ab (i8 i9 (af ar (aa 0) ad (fun _ _=>rfl))) (ab (i8 i9 (af ar (aa 0) ad (fun _ _=>rfl))) (ab (af ar (aa 0) ad (fun _ _=>rfl)) ae))))))))
theorem sc_turned:FnScope tE ["x","e"] (aj j9):=⟨rfl,rfl,rfl,by decide +kernel,rfl,by decide +kernel,by decide +kernel⟩
theorem wH {f:Addr} {fd:FuncData} {dV:Value} (F:FunV K "turned" "turned" j9 f fd dV) (T:Txt mg):FnOk P w K mg base dN 1 f fd ["x","e"] (fh K dh):=
 cr (k:=0) (b:=oi) F sc_turned fun cdv A outer s H E hr=>(ah (az 2 sc_turned.nd (aK (ab (af ar (aa 0) ad (fun _ _=>rfl)) (ab (af ar (aa 0) ad (fun _ _=>rfl)) (ab (af ar (aa 0) ad (fun _ _=>rfl)) (ab (af ar (aa 0) ad (fun _ _=>rfl)) (ab (i8 i9 (af ar (aa 0) ad (fun _ _=>rfl))) (ab (i8 i9 (af ar (aa 0) ad (fun _ _=>rfl))) (ab (i8 i9 (af ar (aa 0) ad (fun _ _=>rfl))) (ab (i8 i9 (af ar (aa 0) ad (fun _ _=>rfl))) ae)))))))))) (aq (ax (aK (ab (af ar (aa 2) (ag cH (ag br ad (aa 1)) ad) (fun _ _=>rfl)) (ab (af ar (aa 2) (ag cH (ag br ad (aa 1)) ad) (fun _ _=>rfl)) (ab (af ar (aa 2) (ag cH (ag br ad (aa 1)) ad) (fun _ _=>rfl)) (ab (af ar (aa 2) (ag cH (ag br ad (aa 1)) ad) (fun _ _=>rfl)) (ab (af ar (aa 0) ad (fun _ _=>rfl)) ae)))))))))
theorem wx:FnScope tG ["x"] (aj kc):=⟨rfl,rfl,rfl,by decide +kernel,rfl,by decide +kernel,by decide +kernel⟩
theorem wJ {f:Addr} {fd:FuncData} {dV:Value} (F:FunV K "halved" "halved" kc f fd dV) (T:Txt mg) (C_number:Cal P w K mg base "number" 2 dG []):FnOk P w K mg base dN 3 f fd ["x"] (fh K d7):=
 cr (k:=2) (b:=oj) F wx fun cdv A outer s H E hr=>(aq (ax (au C_number (hr.mono (by decide)) rfl (ab (af ar (aa 0) ad (fun _ _=>rfl)) (ab (af ar (aa 0) ad (fun _ _=>rfl)) (ab (af ar (aa 0) ad (fun _ _=>rfl)) (ab (af ar (aa 0) ad (fun _ _=>rfl)) (ab (ag bz (af ar (aa 0) ad (fun _ _=>rfl)) ad) ae))))))))
theorem yt:FnScope vZ ["wires","wire"] (aj mC):=⟨rfl,rfl,rfl,by decide +kernel,rfl,by decide +kernel,by decide +kernel⟩
theorem yT {f:Addr} {fd:FuncData} {dV:Value} (F:FunV K "worth" "worth" mC f fd dV) (T:Txt mg):FnOk P w K mg base dN 1 f fd ["wires","wire"] (fh K gi):=
 cr (k:=0) (b:=rk) F yt fun cdv A outer s H E hr=>(aq (ax (ag gv ad (ag br (ag br (aa 0) ad) (aa 1)))))
theorem qb:FnScope jf ["wires","place"] (aj dz):=⟨rfl,rfl,rfl,by decide +kernel,rfl,by decide +kernel,by decide +kernel⟩
theorem qm {f:Addr} {fd:FuncData} {dV:Value} (F:FunV K "beginning" "beginning" dz f fd dV) (T:Txt mg) (T_NOUGHT:TopV K mg "NOUGHT" (.tuple [.int 0,.int 0,.int 0,.int 0,.int 0])) (T_ONE:TopV K mg "ONE" (.tuple [.int 1,.int 0,.int 0,.int 0,.int 0])):FnOk P w K mg base dN 1 f fd ["wires","place"] (fh K cF):=
 cr (k:=0) (b:=jc) F qb fun cdv A outer s H E hr=>(aq (ax (dk gk rfl T.tuple (by decide +kernel) (ab (fJ (vars:=["p"]) (caps:=[(1,"place")]) (by change BlkOk (aj dz).names jf _ _ _; exact ⟨rfl,by decide +kernel,by decide +kernel,by decide +kernel,by decide +kernel⟩) rfl (bu rfl T.range (ab (ag gv ad (aa 0)) ae)) cS (fun _ _ _ _=>bZ (i:=0) (show (["p","place"]:List Str).Nodup by decide +kernel) rfl (Or.inl rfl) (.inr rfl)) (fun _ _ _ _=>(qP (aB (cO hr.units) (aa 0) (aa 1) (aA _)) (mG T_ONE rfl) (mG T_NOUGHT rfl)))) ae))))
theorem sc_swung:FnScope v6 ["state","bit"] (aj mE):=⟨rfl,rfl,rfl,by decide +kernel,rfl,by decide +kernel,by decide +kernel⟩
theorem yV {f:Addr} {fd:FuncData} {dV:Value} (F:FunV K "swung" "swung" mE f fd dV) (T:Txt mg) (C_halved:Cal P w K mg base "halved" 3 d7 []) (C_plus:Cal P w K mg base "plus" 3 gY []) (C_against:Cal P w K mg base "against" 1 eI []):FnOk P w K mg base dN 4 f fd ["state","bit"] (fh K gQ):=
 cr (k:=3) (b:=rm) F sc_swung fun cdv A outer s H E hr=>(ah (pV 2 sc_swung.nd ae) (ah (dt PassesOwn.never rfl (bu rfl T.range (ab (aJ cQ rfl T.len (by decide +kernel) (ab (aa 0) ae)) ae)) (cC 3 sc_swung.nd) (aq (bE (aB (cO hr.units) (ag iS (aa 3) (aa 1)) ad (aA _)) (aq (mQ 2 (au C_halved (hr.mono (by decide)) rfl (ab (au C_plus (hr.mono (by decide)) rfl (ab (af ar (aa 0) (aa 3) (fun _ _=>rfl)) (ab (af ar (aa 0) (ag lF (aa 3) (aa 1)) (fun _ _=>rfl)) ae))) ae)))) (aq (mQ 2 (au C_halved (hr.mono (by decide)) rfl (ab (au C_plus (hr.mono (by decide)) rfl (ab (af ar (aa 0) (ag lF (aa 3) (aa 1)) (fun _ _=>rfl)) (ab (au C_against (hr.mono (by decide)) rfl (ab (af ar (aa 0) (aa 3) (fun _ _=>rfl)) ae)) ae))) ae))))))) (aq (rN 2 (ax (dk gk rfl T.tuple (by decide +kernel) (ab (aa 2) ae)))))))
theorem lN:FnScope gC ["state","held","e"] (aj dw):=⟨rfl,rfl,rfl,by decide +kernel,rfl,by decide +kernel,by decide +kernel⟩
theorem lR {f:Addr} {fd:FuncData} {dV:Value} (F:FunV K "turned_where" "turned_where" dw f fd dV) (T:Txt mg) (C_turned:Cal P w K mg base "turned" 1 dh []):FnOk P w K mg base dN 2 f fd ["state","held","e"] (fh K bG):=
 cr (k:=1) (b:=gy) F lN fun cdv A outer s H E hr=>(aq (ax (dk gk rfl T.tuple (by decide +kernel) (ab (fJ (vars:=["p"]) (caps:=[(0,"state"),(1,"held"),(2,"e")]) (by change BlkOk (aj dw).names gC _ _ _; exact ⟨rfl,by decide +kernel,by decide +kernel,by decide +kernel,by decide +kernel⟩) rfl (bu rfl T.range (ab (aJ cQ rfl T.len (by decide +kernel) (ab (aa 0) ae)) ae)) cS (fun _ _ _ _=>bZ (i:=0) (show (["p","state","held","e"]:List Str).Nodup by decide +kernel) rfl (Or.inl rfl) (.inr rfl)) (fun _ _ _ _=>(qP (aB (cO hr.units) (ag iS (aa 0) (aa 2)) (aa 2) (aA _)) (au C_turned (hr.mono (by decide)) rfl (ab (af ar (aa 1) (aa 0) (fun _ _=>rfl)) (ab (aa 3) ae))) (af ar (aa 1) (aa 0) (fun _ _=>rfl))))) ae))))
theorem kF:FnScope f6 ["state","held","bit"] (aj da):=⟨rfl,rfl,rfl,by decide +kernel,rfl,by decide +kernel,by decide +kernel⟩
theorem kG {f:Addr} {fd:FuncData} {dV:Value} (F:FunV K "flipped_where" "flipped_where" da f fd dV) (T:Txt mg):FnOk P w K mg base dN 1 f fd ["state","held","bit"] (fh K bn):=
 cr (k:=0) (b:=fX) F kF fun cdv A outer s H E hr=>(aq (ax (dk gk rfl T.tuple (by decide +kernel) (ab (fJ (vars:=["p"]) (caps:=[(0,"state"),(1,"held"),(2,"bit")]) (by change BlkOk (aj da).names f6 _ _ _; exact ⟨rfl,by decide +kernel,by decide +kernel,by decide +kernel,by decide +kernel⟩) rfl (bu rfl T.range (ab (aJ cQ rfl T.len (by decide +kernel) (ab (aa 0) ae)) ae)) cS (fun _ _ _ _=>bZ (i:=0) (show (["p","state","held","bit"]:List Str).Nodup by decide +kernel) rfl (Or.inl rfl) (.inr rfl)) (fun _ _ _ _=>(qP (aB (cO hr.units) (ag iS (aa 0) (aa 2)) (aa 2) (aA _)) (af ar (aa 1) (ag lF (aa 0) (aa 3)) (fun _ _=>rfl)) (af ar (aa 1) (aa 0) (fun _ _=>rfl))))) ae))))
theorem qa:FnScope lK ["place","both"] (aj gK):=⟨rfl,rfl,rfl,by decide +kernel,rfl,by decide +kernel,by decide +kernel⟩
theorem ql {f:Addr} {fd:FuncData} {dV:Value} (F:FunV K "exchanged" "exchanged" gK f fd dV) (T:Txt mg):FnOk P w K mg base dN 1 f fd ["place","both"] (fh K cE):=
 cr (k:=0) (b:=gU) F qa fun cdv A outer s H E hr=>(aq (ax (qP (aB zY (ag iS (aa 0) (aa 1)) (aK (ab ad (ab (aa 1) ae))) (by with_unfolding_all rfl)) (aa 0) (ag lF (aa 0) (aa 1)))))
theorem sc_done:FnScope uY ["state","row"] (aj mW):=⟨rfl,rfl,rfl,by decide +kernel,rfl,by decide +kernel,by decide +kernel⟩
theorem BF {f:Addr} {fd:FuncData} {dV:Value} (F:FunV K "done" "done" mW f fd dV) (T:Txt mg) (C_worth:Cal P w K mg base "worth" 1 gi []) (C_swung:Cal P w K mg base "swung" 4 gQ []) (C_turned_where:Cal P w K mg base "turned_where" 2 bG []) (C_flipped_where:Cal P w K mg base "flipped_where" 1 bn []) (C_exchanged:Cal P w K mg base "exchanged" 1 cE []):FnOk P w K mg base dN 5 f fd ["state","row"] (fh K dn):=
 cr (k:=4) (b:=jb) F sc_done fun cdv A outer s H E hr=>(ah (az 2 sc_done.nd (ag br (vJ (aJ cQ rfl T.len (by decide +kernel) (ab (aa 0) ae))) ad)) (ah (az 3 sc_done.nd (au C_worth (hr.mono (by decide)) rfl (ab (aa 2) (ab (af ar (aa 1) ad (fun _ _=>rfl)) ae)))) (ah (bE (aB (cO hr.units) (af ar (aa 1) ad (fun _ _=>rfl)) aL (aA _)) (aq (ax (au C_swung (hr.mono (by decide)) rfl (ab (aa 0) (ab (aa 3) ae))))) aS) (ah (bE (aB (cO hr.units) (af ar (aa 1) ad (fun _ _=>rfl)) aL (aA _)) (aq (ax (au C_turned_where (hr.mono (by decide)) rfl (ab (aa 0) (ab (aa 3) (ab (af ar (aa 1) ad (fun _ _=>rfl)) ae)))))) aS) (ah (bE (aB (cO hr.units) (af ar (aa 1) ad (fun _ _=>rfl)) aL (aA _)) (aq (ax (au C_flipped_where (hr.mono (by decide)) rfl (ab (aa 0) (ab ad (ab (aa 3) ae)))))) aS) (ah (az 4 sc_done.nd (au C_worth (hr.mono (by decide)) rfl (ab (aa 2) (ab (af ar (aa 1) ad (fun _ _=>rfl)) ae)))) (ah (bE (aB (cO hr.units) (af ar (aa 1) ad (fun _ _=>rfl)) aL (aA _)) (aq (ax (au C_flipped_where (hr.mono (by decide)) rfl (ab (aa 0) (ab (aa 3) (ab (aa 4) ae)))))) aS) (ah (bE (aB (cO hr.units) (af ar (aa 1) ad (fun _ _=>rfl)) aL (aA _)) (aq (ax (au C_turned_where (hr.mono (by decide)) rfl (ab (aa 0) (ab (ag xn (aa 3) (aa 4)) (ab ad ae)))))) aS) (aq (ax (dk gk rfl T.tuple (by decide +kernel) (ab (fJ (vars:=["p"]) (caps:=[(0,"state"),(3,"first"),(4,"second")]) (by change BlkOk (aj mW).names uY _ _ _; exact ⟨rfl,by decide +kernel,by decide +kernel,by decide +kernel,by decide +kernel⟩) rfl (bu rfl T.range (ab (aJ cQ rfl T.len (by decide +kernel) (ab (aa 0) ae)) ae)) cS (fun _ _ _ _=>bZ (i:=0) (show (["p","state","first","second"]:List Str).Nodup by decide +kernel) rfl (Or.inl rfl) (.inr rfl)) (fun _ _ _ _=>(af ar (aa 1) (au C_exchanged (hr.mono (by decide)) rfl (ab (aa 0) (ab (ag xn (aa 2) (aa 3)) ae))) (fun _ _=>rfl)))) ae))))))))))))
theorem sc_all_done:FnScope oA ["state","rows"] (aj iu):=⟨rfl,rfl,rfl,by decide +kernel,rfl,by decide +kernel,by decide +kernel⟩
theorem su {f:Addr} {fd:FuncData} {dV:Value} (F:FunV K "all_done" "all_done" iu f fd dV) (T:Txt mg) (C_done:Cal P w K mg base "done" 5 dn []):FnOk P w K mg base dN 6 f fd ["state","rows"] (fh K cg):=
 cr (k:=5) (b:=jZ) F sc_all_done fun cdv A outer s H E hr=>(ah (dt PassesOwn.never rfl (eE (aa 1)) (cC 2 sc_all_done.nd) (aq (az 0 sc_all_done.nd (au C_done (hr.mono (by decide)) rfl (ab (aa 0) (ab (aa 2) ae)))))) (aq (ax (aa 0))))
theorem qc:FnScope jg ["rows"] (aj fP):=⟨rfl,rfl,rfl,by decide +kernel,rfl,by decide +kernel,by decide +kernel⟩
theorem qo {f:Addr} {fd:FuncData} {dV:Value} (F:FunV K "all_plain" "all_plain" fP f fd dV) (T:Txt mg) (T_PLAIN:TopV K mg "PLAIN" (.tuple [.str "swing",.str "turn",.str "flip",.str "tie",.str "sign",.str "cross"])):FnOk P w K mg base dN 1 f fd ["rows"] (fh K cG):=
 cr (k:=0) (b:=jd) F qc fun cdv A outer s H E hr=>(aq (ax (aJ (DO rfl) rfl T.all (by decide +kernel) (ab (fJ (vars:=["row"]) (caps:=[]) (by change BlkOk (aj fP).names jg _ _ _; exact ⟨rfl,by decide +kernel,by decide +kernel,by decide +kernel,by decide +kernel⟩) rfl (eE (aa 0)) cS (fun _ _ _ _=>bZ (i:=0) (show (["row"]:List Str).Nodup by decide +kernel) rfl (Or.inl rfl) (.inr rfl)) (fun _ _ _ _=>(gZ zY (af ar (aa 0) ad (fun _ _=>rfl)) (mG T_PLAIN rfl) (by with_unfolding_all rfl)))) ae))))
theorem wy:FnScope tH ["circuit","place"] (aj kd):=⟨rfl,rfl,rfl,by decide +kernel,rfl,by decide +kernel,by decide +kernel⟩
theorem wK {f:Addr} {fd:FuncData} {dV:Value} (F:FunV K "column" "column" kd f fd dV) (T:Txt mg) (C_all_done:Cal P w K mg base "all_done" 6 cg []) (C_all_plain:Cal P w K mg base "all_plain" 1 cG []) (C_beginning:Cal P w K mg base "beginning" 1 cF []):FnOk P w K mg base dN 7 f fd ["circuit","place"] (fh K aV):=
 cr (k:=6) (b:=oo) F wy fun cdv A outer s H E hr=>(ah (bE (jK (jJ (au C_all_plain (hr.mono (by decide)) rfl (ab (af ar (aa 0) ad (fun _ _=>rfl)) ae)))) (aq x8) aS) (aq (ax (au C_all_done (hr.mono (by decide)) rfl (ab (au C_beginning (hr.mono (by decide)) rfl (ab (af ar (aa 0) ad (fun _ _=>rfl)) (ab (aa 1) ae))) (ab (af ar (aa 0) ad (fun _ _=>rfl)) ae))))))
theorem r6:FnScope oz ["circuit"] (aj ir):=⟨rfl,rfl,rfl,by decide +kernel,rfl,by decide +kernel,by decide +kernel⟩
theorem sn {f:Addr} {fd:FuncData} {dV:Value} (F:FunV K "is_plain" "is_plain" ir f fd dV) (T:Txt mg) (C_all_plain:Cal P w K mg base "all_plain" 1 cG []):FnOk P w K mg base dN 2 f fd ["circuit"] (fh K cV):=
 cr (k:=1) (b:=jX) F r6 fun cdv A outer s H E hr=>(aq (ax (au C_all_plain (hr.mono (by decide)) rfl (ab (af ar (aa 0) ad (fun _ _=>rfl)) ae))))
theorem lO:FnScope je ["one","other"] (aj eT):=⟨rfl,rfl,rfl,by decide +kernel,rfl,by decide +kernel,by decide +kernel⟩
theorem lS {f:Addr} {fd:FuncData} {dV:Value} (F:FunV K "refuse_apart" "refuse_apart" eT f fd dV) (T:Txt mg) (C_is_plain:Cal P w K mg base "is_plain" 2 cV []):FnOk P w K mg base dN 3 f fd ["one","other"] (fh K aU):=
 cr (k:=2) (b:=gz) F lO fun cdv A outer s H E hr=>(ah (bE (WV.tv (j2 (jK (jJ (au C_is_plain (hr.mono (by decide)) rfl (ab (aa 0) ae)))) (iU (jK (jJ (au C_is_plain (hr.mono (by decide)) rfl (ab (aa 1) ae))))))) (aq x8) aS) (aq (bE (aB (oQ hr.units) (af ar (aa 0) ad (fun _ _=>rfl)) (af ar (aa 1) ad (fun _ _=>rfl)) (aA _)) (aq x8) aS)))
theorem sc_columns_apart:FnScope f7 ["circuit","apart"] (aj db):=⟨rfl,rfl,rfl,by decide +kernel,rfl,by decide +kernel,by decide +kernel⟩
theorem kH {f:Addr} {fd:FuncData} {dV:Value} (F:FunV K "columns_apart" "columns_apart" db f fd dV) (T:Txt mg) (C_all_done:Cal P w K mg base "all_done" 6 cg []):FnOk P w K mg base dN 7 f fd ["circuit","apart"] (fh K bq):=
 cr (k:=6) (b:=fY) F sc_columns_apart fun cdv A outer s H E hr=>(ah (az 2 sc_columns_apart.nd (dk gk rfl T.tuple (by decide +kernel) (ab (fJ (vars:=["b"]) (caps:=[(1,"apart")]) (by change BlkOk (aj db).names f7 _ _ _; exact ⟨rfl,by decide +kernel,by decide +kernel,by decide +kernel,by decide +kernel⟩) rfl (bu rfl T.range (ab (ag gv ad (af ar (aa 0) ad (fun _ _=>rfl))) ae)) cS (fun _ _ _ _=>bZ (i:=0) (show (["b","apart"]:List Str).Nodup by decide +kernel) rfl (Or.inl rfl) (.inr rfl)) (fun _ _ _ _=>(aK (ab (ag gv ad (ag cX (aa 1) (aa 0))) (ab ad (ab ad (ab ad (ab ad ae)))))))) ae))) (aq (ax (au C_all_done (hr.mono (by decide)) rfl (ab (aa 2) (ab (af ar (aa 0) ad (fun _ _=>rfl)) ae))))))
theorem sc_turn_to:FnScope li ["one","other"] (aj h7):=⟨rfl,rfl,rfl,by decide +kernel,rfl,by decide +kernel,by decide +kernel⟩
theorem ug {f:Addr} {fd:FuncData} {dV:Value} (F:FunV K "turn_to" "turn_to" h7 f fd dV) (T:Txt mg) (C_turned:Cal P w K mg base "turned" 1 dh []):FnOk P w K mg base dN 2 f fd ["one","other"] (fh K eH):=
 cr (k:=1) (b:=kY) F sc_turn_to fun cdv A outer s H E hr=>(ah (dt PassesOwn.never rfl (bu rfl T.range (ab ad ae)) (cC 2 sc_turn_to.nd) (aq (bE (aB (cO hr.units) (dk gk rfl T.tuple (by decide +kernel) (ab (fJ (vars:=["x"]) (caps:=[(2,"e")]) (by change BlkOk (aj h7).names li _ _ _; exact ⟨rfl,by decide +kernel,by decide +kernel,by decide +kernel,by decide +kernel⟩) rfl (eE (aa 0)) cS (fun _ _ _ _=>bZ (i:=0) (show (["x","e"]:List Str).Nodup by decide +kernel) rfl (Or.inl rfl) (.inr rfl)) (fun _ _ _ _=>(au C_turned (hr.mono (by decide)) rfl (ab (aa 0) (ab (aa 1) ae))))) ae)) (aa 1) (aA _)) (aq (ax (aa 2))) aS))) (aq (ax zT)))
theorem sc_turn_apart:FnScope iN ["one","other"] (aj eS):=⟨rfl,rfl,rfl,by decide +kernel,rfl,by decide +kernel,by decide +kernel⟩
theorem oH {f:Addr} {fd:FuncData} {dV:Value} (F:FunV K "turn_apart" "turn_apart" eS f fd dV) (T:Txt mg) (C_turn_to:Cal P w K mg base "turn_to" 2 eH []) (C_columns_apart:Cal P w K mg base "columns_apart" 7 bq []):FnOk P w K mg base dN 8 f fd ["one","other"] (fh K bH):=
 cr (k:=7) (b:=iJ) F sc_turn_apart fun cdv A outer s H E hr=>(ah (az 2 sc_turn_apart.nd (aJ (Ab rfl) rfl T.max (by decide +kernel) (ab (fJ (vars:=["rows"]) (caps:=[]) (by change BlkOk (aj eS).names iN _ _ _; exact ⟨rfl,by decide +kernel,by decide +kernel,by decide +kernel,by decide +kernel⟩) rfl (eE (aK (ab (af ar (aa 0) ad (fun _ _=>rfl)) (ab (af ar (aa 1) ad (fun _ _=>rfl)) ae)))) cS (fun _ _ _ _=>bZ (i:=0) (show (["rows"]:List Str).Nodup by decide +kernel) rfl (Or.inl rfl) (.inr rfl)) (fun _ _ _ _=>(aJ cQ rfl T.len (by decide +kernel) (ab (nK (vars:=["row"]) (caps:=[]) (BlkOk.none rfl (by decide +kernel) (by decide +kernel) (by decide +kernel)) rfl (eE (aa 0)) cS (fun _ _ _ _=>bZ (i:=0) (show (["row"]:List Str).Nodup by decide +kernel) rfl (Or.inl rfl) (.inr rfl)) (fun _ _ _ _=>(aB (cO hr.units) (af ar (aa 0) ad (fun _ _=>rfl)) aL (aA _))) (fun _ _ _ _=>(aa 0))) ae)))) ae))) (ah (az 3 sc_turn_apart.nd (ag bz (ag dq (aa 2) ad) ad)) (aq (ax (au C_turn_to (hr.mono (by decide)) rfl (ab (au C_columns_apart (hr.mono (by decide)) rfl (ab (aa 0) (ab (aa 3) ae))) (ab (au C_columns_apart (hr.mono (by decide)) rfl (ab (aa 1) (ab (aa 3) ae))) ae)))))))
theorem sc_unlike_paper:FnScope gB ["one","other"] (aj du):=⟨rfl,rfl,rfl,by decide +kernel,rfl,by decide +kernel,by decide +kernel⟩
theorem lQ {f:Addr} {fd:FuncData} {dV:Value} (F:FunV K "unlike_paper" "unlike_paper" du f fd dV) (T:Txt mg) (T_NOUGHT:TopV K mg "NOUGHT" (.tuple [.int 0,.int 0,.int 0,.int 0,.int 0])) (C_column:Cal P w K mg base "column" 7 aV []) (C_times:Cal P w K mg base "times" 3 cU []):FnOk P w K mg base dN 8 f fd ["one","other"] (fh K bP):=
 cr (k:=7) (b:=eZ) F sc_unlike_paper fun cdv A outer s H E hr=>(ah (az 2 sc_unlike_paper.nd (au C_column (hr.mono (by decide)) rfl (ab (aa 0) (ab ad ae)))) (ah (az 3 sc_unlike_paper.nd (au C_column (hr.mono (by decide)) rfl (ab (aa 1) (ab ad ae)))) (ah (az 4 sc_unlike_paper.nd (af ar (nK (vars:=["p"]) (caps:=[(2,"f")]) (by change BlkOk (aj du).names gB _ _ _; exact ⟨rfl,by decide +kernel,by decide +kernel,by decide +kernel,by decide +kernel⟩) rfl (bu rfl T.range (ab (aJ cQ rfl T.len (by decide +kernel) (ab (aa 2) ae)) ae)) cS (fun _ _ _ _=>bZ (i:=0) (show (["p","f"]:List Str).Nodup by decide +kernel) rfl (Or.inl rfl) (.inr rfl)) (fun _ _ _ _=>(aB (oQ hr.units) (af ar (aa 1) (aa 0) (fun _ _=>rfl)) (mG T_NOUGHT rfl) (aA _))) (fun _ _ _ _=>(aa 0))) ad (fun _ _=>rfl))) (aq (dt PassesOwn.never rfl (bu rfl T.range (ab (aJ cQ rfl T.len (by decide +kernel) (ab (aa 2) ae)) ae)) (cC 5 sc_unlike_paper.nd) (ah (az 6 sc_unlike_paper.nd (au C_column (hr.mono (by decide)) rfl (ab (aa 0) (ab (aa 5) ae)))) (ah (az 7 sc_unlike_paper.nd (au C_column (hr.mono (by decide)) rfl (ab (aa 1) (ab (aa 5) ae)))) (aq (dt PassesOwn.never rfl (bu rfl T.range (ab (aJ cQ rfl T.len (by decide +kernel) (ab (aa 2) ae)) ae)) (cC 8 sc_unlike_paper.nd) (aq (bE (aB (oQ hr.units) (au C_times (hr.mono (by decide)) rfl (ab (af ar (aa 2) (aa 4) (fun _ _=>rfl)) (ab (af ar (aa 7) (aa 8) (fun _ _=>rfl)) ae))) (au C_times (hr.mono (by decide)) rfl (ab (af ar (aa 6) (aa 8) (fun _ _=>rfl)) (ab (af ar (aa 3) (aa 4) (fun _ _=>rfl)) ae))) (aA _)) (aq (ax (aK (ab aL (ab ad (ab (aa 4) (ab (aa 5) (ab (aa 8) ae)))))))) aS)))))))))))
theorem sc_alike_paper:FnScope jF ["one","other"] (aj fD):=⟨rfl,rfl,rfl,by decide +kernel,rfl,by decide +kernel,by decide +kernel⟩
theorem ni {f:Addr} {fd:FuncData} {dV:Value} (F:FunV K "alike_paper" "alike_paper" fD f fd dV) (T:Txt mg) (C_refuse_apart:Cal P w K mg base "refuse_apart" 3 aU []) (C_turn_apart:Cal P w K mg base "turn_apart" 8 bH []) (C_unlike_paper:Cal P w K mg base "unlike_paper" 8 bP []):FnOk P w K mg base dN 9 f fd ["one","other"] (fh K aY):=
 cr (k:=8) (b:=fM) F sc_alike_paper fun cdv A outer s H E hr=>(ah (u6 (au C_refuse_apart (hr.mono (by decide)) rfl (ab (aa 0) (ab (aa 1) ae)))) (ah (az 2 sc_alike_paper.nd (au C_turn_apart (hr.mono (by decide)) rfl (ab (aa 0) (ab (aa 1) ae)))) (ah (bE (aB Gd (aa 2) zT (aA _)) (aq (ax (aK (ab aL (ab (aa 2) ae))))) aS) (aq (ax (au C_unlike_paper (hr.mono (by decide)) rfl (ab (aa 0) (ab (aa 1) ae))))))))
theorem sc_is_apart:FnScope iO ["one","other","paper"] (aj fo):=⟨rfl,rfl,rfl,by decide +kernel,rfl,by decide +kernel,by decide +kernel⟩
theorem ss {f:Addr} {fd:FuncData} {dV:Value} (F:FunV K "is_apart" "is_apart" fo f fd dV) (T:Txt mg) (C_times:Cal P w K mg base "times" 3 cU []) (C_column:Cal P w K mg base "column" 7 aV []):FnOk P w K mg base dN 8 f fd ["one","other","paper"] (fh K dH):=
 cr (k:=7) (b:=jY) F sc_is_apart fun cdv A outer s H E hr=>(ah (j6 3 sc_is_apart.nd (vars:=["k"]) (caps:=[(0,"one"),(2,"paper")]) (by change BlkOk (aj fo).names iO _ _ _; exact ⟨rfl,by decide +kernel,by decide +kernel,by decide +kernel,by decide +kernel⟩) rfl (eE (aK (ab ad (ab ad ae)))) cS (fun _ _ _ _=>bZ (i:=0) (show (["k","one","paper"]:List Str).Nodup by decide +kernel) rfl (Or.inl rfl) (.inr rfl)) (fun _ _ _ _=>(af ar (au C_column (hr.mono (by decide)) rfl (ab (aa 1) (ab (af ar (aa 2) (aa 0) (fun _ _=>rfl)) ae))) (af ar (aa 2) (ag bz (aa 0) ad) (fun _ _=>rfl)) (fun _ _=>rfl)))) (ah (j6 4 sc_is_apart.nd (vars:=["k"]) (caps:=[(1,"other"),(2,"paper")]) (by change BlkOk (aj fo).names iO _ _ _; exact ⟨rfl,by decide +kernel,by decide +kernel,by decide +kernel,by decide +kernel⟩) rfl (eE (aK (ab ad (ab ad ae)))) cS (fun _ _ _ _=>bZ (i:=0) (show (["k","other","paper"]:List Str).Nodup by decide +kernel) rfl (Or.inl rfl) (.inr rfl)) (fun _ _ _ _=>(af ar (au C_column (hr.mono (by decide)) rfl (ab (aa 1) (ab (af ar (aa 2) (aa 0) (fun _ _=>rfl)) ae))) (af ar (aa 2) (ag bz (aa 0) ad) (fun _ _=>rfl)) (fun _ _=>rfl)))) (aq (ax (gZ (oQ hr.units) (au C_times (hr.mono (by decide)) rfl (ab (af ar (aa 3) ad (fun _ _=>rfl)) (ab (af ar (aa 4) ad (fun _ _=>rfl)) ae))) (au C_times (hr.mono (by decide)) rfl (ab (af ar (aa 3) ad (fun _ _=>rfl)) (ab (af ar (aa 4) ad (fun _ _=>rfl)) ae))) (aA _))))))
theorem sc_paper_stands:FnScope gD ["one","other","paper"] (aj dy):=⟨rfl,rfl,rfl,by decide +kernel,rfl,by decide +kernel,by decide +kernel⟩
theorem lT {f:Addr} {fd:FuncData} {dV:Value} (F:FunV K "paper_stands" "paper_stands" dy f fd dV) (T:Txt mg) (C_refuse_apart:Cal P w K mg base "refuse_apart" 3 aU []) (C_is_apart:Cal P w K mg base "is_apart" 8 dH []) (C_turn_apart:Cal P w K mg base "turn_apart" 8 bH []):FnOk P w K mg base dN 9 f fd ["one","other","paper"] (fh K aI):=
 cr (k:=8) (b:=dI) F sc_paper_stands fun cdv A outer s H E hr=>(ah (u6 (au C_refuse_apart (hr.mono (by decide)) rfl (ab (aa 0) (ab (aa 1) ae)))) (ah (bE (aB (cO hr.units) (af ar (aa 2) ad (fun _ _=>rfl)) aL (aA _)) (aq (ax (gZ (cO hr.units) (au C_turn_apart (hr.mono (by decide)) rfl (ab (aa 0) (ab (aa 1) ae))) (af ar (aa 2) ad (fun _ _=>rfl)) (aA _)))) aS) (ah (az 3 sc_paper_stands.nd (ag gv ad (af ar (aa 0) ad (fun _ _=>rfl)))) (aq (ax (nM (aJ (DO rfl) rfl T.all (by decide +kernel) (ab (fJ (vars:=["place"]) (caps:=[(3,"places")]) (by change BlkOk (aj dy).names gD _ _ _; exact ⟨rfl,by decide +kernel,by decide +kernel,by decide +kernel,by decide +kernel⟩) rfl (eE (di (aa 2) (eu ad) eA)) cS (fun _ _ _ _=>bZ (i:=0) (show (["place","places"]:List Str).Nodup by decide +kernel) rfl (Or.inl rfl) (.inr rfl)) (fun _ _ _ _=>(zU Ld uF ad (aa 0) (aa 1)))) ae)) (qN (au C_is_apart (hr.mono (by decide)) rfl (ab (aa 0) (ab (aa 1) (ab (aa 2) ae)))))))))))
theorem lP:FnScope ji ["script","k"] (aj eW):=⟨rfl,rfl,rfl,by decide +kernel,rfl,by decide +kernel,by decide +kernel⟩
theorem lX {f:Addr} {fd:FuncData} {dV:Value} (F:FunV K "_law_cell_at" "_law_cell_at" eW f fd dV) (T:Txt mg):FnOk P w K mg base dN 1 f fd ["script","k"] (fh K bQ):=
 cr (k:=0) (b:=e9) F lP fun cdv A outer s H E hr=>(ah (bE (aB uF (aa 1) (aJ cQ rfl T.len (by decide +kernel) (ab (aa 0) ae)) (aA _)) (aq (ax (af ar (aa 0) (aa 1) (fun _ _=>rfl)))) aS) (aq (ax ad)))
theorem sc__law_row:FnScope oB ["cell","wires"] (aj iw):=⟨rfl,rfl,rfl,by decide +kernel,rfl,by decide +kernel,by decide +kernel⟩
theorem sv {f:Addr} {fd:FuncData} {dV:Value} (F:FunV K "_law_row" "_law_row" iw f fd dV) (T:Txt mg):FnOk P w K mg base dN 1 f fd ["cell","wires"] (fh K aC):=
 cr (k:=0) (b:=dJ) F sc__law_row fun cdv A outer s H E hr=>(ah (az 2 sc__law_row.nd (ag cH (aa 0) ad)) (ah (az 3 sc__law_row.nd (ag cH (ag dq (aa 0) ad) (aa 1))) (ah (bE (WV.tv (iV (aB (cO hr.units) (aa 1) ad (aA _)) (ip (aB nP (aa 2) ad (aA _))))) (aq (az 2 sc__law_row.nd (ag cH (aa 2) ad))) aS) (ah (bE (aB (cO hr.units) (aa 2) ad (aA _)) (aq (ax (aK (ab aL (ab (aa 3) (ab (ag bz ad (ag cH (ag dq (aa 0) ad) ad)) ae)))))) aS) (ah (bE (WV.tv (j2 (aB (cO hr.units) (aa 2) ad (aA _)) (iU (aB (cO hr.units) (aa 2) ad (aA _))))) (aq (ax (aK (ab (af ar (eX (ab aL (ab aL (ab aL ae)))) (aa 2) (fun _ _=>rfl)) (ab (aa 3) ae))))) aS) (ah (az 4 sc__law_row.nd (ag cH (ag bz (ag bz (aa 3) ad) (ag cH (ag dq (aa 0) ad) (ag br (aa 1) ad))) (aa 1))) (aq (ax (aK (ab (af ar (eX (ab aL (ab aL (ab aL ae)))) (ag br (aa 2) ad) (fun _ _=>rfl)) (ab (aa 4) (ab (aa 3) ae))))))))))))
theorem sc__law_turned:FnScope jH ["x","e"] (aj fF):=⟨rfl,rfl,rfl,by decide +kernel,rfl,by decide +kernel,by decide +kernel⟩
theorem nk {f:Addr} {fd:FuncData} {dV:Value} (F:FunV K "_law_turned" "_law_turned" fF f fd dV) (T:Txt mg):FnOk P w K mg base dN 1 f fd ["x","e"] (fh K aZ):=
 cr (k:=0) (b:=g8) F sc__law_turned fun cdv A outer s H E hr=>(ah (dt PassesOwn.never rfl (bu rfl T.range (ab (ag cH (aa 1) ad) ae)) (cC 2 sc__law_turned.nd) (aq (az 0 sc__law_turned.nd (aK (ab (i8 i9 (af ar (aa 0) ad (fun _ _=>rfl))) (ab (af ar (aa 0) ad (fun _ _=>rfl)) (ab (af ar (aa 0) ad (fun _ _=>rfl)) (ab (af ar (aa 0) ad (fun _ _=>rfl)) ae)))))))) (aq (ax (aa 0))))
theorem sc__law_raised:FnScope jI ["x","many"] (aj fG):=⟨rfl,rfl,rfl,by decide +kernel,rfl,by decide +kernel,by decide +kernel⟩
theorem nr {f:Addr} {fd:FuncData} {dV:Value} (F:FunV K "_law_raised" "_law_raised" fG f fd dV) (T:Txt mg):FnOk P w K mg base dN 1 f fd ["x","many"] (fh K bN):=
 cr (k:=0) (b:=hE) F sc__law_raised fun cdv A outer s H E hr=>(ah (dt PassesOwn.never rfl (bu rfl T.range (ab (aa 1) ae)) (cC 2 sc__law_raised.nd) (aq (az 0 sc__law_raised.nd (aK (ab (ag br (af ar (aa 0) ad (fun _ _=>rfl)) (af ar (aa 0) ad (fun _ _=>rfl))) (ab (ag bz (af ar (aa 0) ad (fun _ _=>rfl)) (af ar (aa 0) ad (fun _ _=>rfl))) (ab (ag bz (af ar (aa 0) ad (fun _ _=>rfl)) (af ar (aa 0) ad (fun _ _=>rfl))) (ab (ag br (af ar (aa 0) ad (fun _ _=>rfl)) (af ar (aa 0) ad (fun _ _=>rfl))) ae)))))))) (aq (ax (aa 0))))
theorem sc__law_times:FnScope ky ["x","y"] (aj gd):=⟨rfl,rfl,rfl,by decide +kernel,rfl,by decide +kernel,by decide +kernel⟩
theorem oN {f:Addr} {fd:FuncData} {dV:Value} (F:FunV K "_law_times" "_law_times" gd f fd dV) (T:Txt mg):FnOk P w K mg base dN 1 f fd ["x","y"] (fh K b7):=
 cr (k:=0) (b:=iL) F sc__law_times fun cdv A outer s H E hr=>(ah (pV 2 sc__law_times.nd (ab ad (ab ad (ab ad (ab ad (ab ad (ab ad (ab ad ae)))))))) (ah (dt PassesOwn.never rfl (bu rfl T.range (ab ad ae)) (cC 3 sc__law_times.nd) (aq (dt PassesOwn.never rfl (bu rfl T.range (ab ad ae)) (cC 4 sc__law_times.nd) (aq (jN 2 (ag bz (aa 3) (aa 4)) (ag bz (iF 2 (ag bz (aa 3) (aa 4)) (fun _ _=>rfl)) (ag cX (af ar (aa 0) (aa 3) (fun _ _=>rfl)) (af ar (aa 1) (aa 4) (fun _ _=>rfl))))))))) (aq (ax (aK (ab (ag br (iF 2 ad (fun _ _=>rfl)) (iF 2 ad (fun _ _=>rfl))) (ab (ag br (iF 2 ad (fun _ _=>rfl)) (iF 2 ad (fun _ _=>rfl))) (ab (ag br (iF 2 ad (fun _ _=>rfl)) (iF 2 ad (fun _ _=>rfl))) (ab (iF 2 ad (fun _ _=>rfl)) ae)))))))))
theorem sc__law_moved:FnScope kz ["place","row","wires"] (aj gg):=⟨rfl,rfl,rfl,by decide +kernel,rfl,by decide +kernel,by decide +kernel⟩
theorem oO {f:Addr} {fd:FuncData} {dV:Value} (F:FunV K "_law_moved" "_law_moved" gg f fd dV) (T:Txt mg):FnOk P w K mg base dN 1 f fd ["place","row","wires"] (fh K bh):=
 cr (k:=0) (b:=cZ) F sc__law_moved fun cdv A outer s H E hr=>(ah (az 3 sc__law_moved.nd (ag gv ad (ag br (ag br (aa 2) ad) (af ar (aa 1) ad (fun _ _=>rfl))))) (ah (bE (aB (cO hr.units) (af ar (aa 1) ad (fun _ _=>rfl)) aL (aA _)) (aq (ax (ag lF (aa 0) (aa 3)))) aS) (ah (az 4 sc__law_moved.nd (ag gv ad (ag br (ag br (aa 2) ad) (af ar (aa 1) ad (fun _ _=>rfl))))) (ah (bE (WV.tv (iV (aB (cO hr.units) (af ar (aa 1) ad (fun _ _=>rfl)) aL (aA _)) (ip (aB nP (ag iS (aa 0) (aa 3)) ad (aA _))))) (aq (ax (ag lF (aa 0) (aa 4)))) aS) (ah (bE (WV.tv (iV (aB (cO hr.units) (af ar (aa 1) ad (fun _ _=>rfl)) aL (aA _)) (ip (aB (oQ hr.units) (gZ nP (ag iS (aa 0) (aa 3)) ad (aA _)) (gZ nP (ag iS (aa 0) (aa 4)) ad (aA _)) (aA _))))) (aq (ax (ag lF (aa 0) (ag xn (aa 3) (aa 4))))) aS) (aq (ax (aa 0))))))))
theorem sc__law_row_done:FnScope iT ["state","row","wires"] (aj el):=⟨rfl,rfl,rfl,by decide +kernel,rfl,by decide +kernel,by decide +kernel⟩
theorem kI {f:Addr} {fd:FuncData} {dV:Value} (F:FunV K "_law_row_done" "_law_row_done" el f fd dV) (T:Txt mg) (C__law_turned:Cal P w K mg base "_law_turned" 1 aZ []) (C__law_moved:Cal P w K mg base "_law_moved" 1 bh []):FnOk P w K mg base dN 2 f fd ["state","row","wires"] (fh K bI):=
 cr (k:=1) (b:=fZ) F sc__law_row_done fun cdv A outer s H E hr=>(ah (pU 3 sc__law_row_done.nd (vM rfl T.list (ab (aa 0) ae))) (ah (az 4 sc__law_row_done.nd (ag gv ad (ag br (ag br (aa 2) ad) (af ar (aa 1) ad (fun _ _=>rfl))))) (ah (dt PassesOwn.never rfl (bu rfl T.range (ab (aJ cQ rfl T.len (by decide +kernel) (ab (aa 0) ae)) ae)) (cC 5 sc__law_row_done.nd) (ah (az 6 sc__law_row_done.nd (af ar (aa 0) (aa 5) (fun _ _=>rfl))) (aq (bE (aB (cO hr.units) (af ar (aa 1) ad (fun _ _=>rfl)) aL (aA _)) (ah (az 7 sc__law_row_done.nd (af ar (aa 0) (ag lF (aa 5) (aa 4)) (fun _ _=>rfl))) (aq (bE (aB nP (ag iS (aa 5) (aa 4)) ad (aA _)) (aq (jN 3 (aa 5) (aK (ab (ag br (af ar (aa 7) ad (fun _ _=>rfl)) (af ar (aa 6) ad (fun _ _=>rfl))) (ab (ag br (af ar (aa 7) ad (fun _ _=>rfl)) (af ar (aa 6) ad (fun _ _=>rfl))) (ab (ag br (af ar (aa 7) ad (fun _ _=>rfl)) (af ar (aa 6) ad (fun _ _=>rfl))) (ab (ag br (af ar (aa 7) ad (fun _ _=>rfl)) (af ar (aa 6) ad (fun _ _=>rfl))) ae))))))) (aq (jN 3 (aa 5) (aK (ab (ag bz (af ar (aa 6) ad (fun _ _=>rfl)) (af ar (aa 7) ad (fun _ _=>rfl))) (ab (ag bz (af ar (aa 6) ad (fun _ _=>rfl)) (af ar (aa 7) ad (fun _ _=>rfl))) (ab (ag bz (af ar (aa 6) ad (fun _ _=>rfl)) (af ar (aa 7) ad (fun _ _=>rfl))) (ab (ag bz (af ar (aa 6) ad (fun _ _=>rfl)) (af ar (aa 7) ad (fun _ _=>rfl))) ae)))))))))) (aq (bE (WV.tv (iV (aB (cO hr.units) (af ar (aa 1) ad (fun _ _=>rfl)) aL (aA _)) (ip (aB nP (ag iS (aa 5) (aa 4)) ad (aA _))))) (aq (jN 3 (aa 5) (au C__law_turned (hr.mono (by decide)) rfl (ab (aa 6) (ab (af ar (aa 1) ad (fun _ _=>rfl)) ae))))) (aq (bE (WV.tv (iV (aB (cO hr.units) (af ar (aa 1) ad (fun _ _=>rfl)) aL (aA _)) (iV (aB nP (ag iS (aa 5) (aa 4)) ad (aA _)) (ip (aB nP (ag iS (aa 5) (ag gv ad (ag br (ag br (aa 2) ad) (af ar (aa 1) ad (fun _ _=>rfl))))) ad (aA _)))))) (aq (jN 3 (aa 5) (au C__law_turned (hr.mono (by decide)) rfl (ab (aa 6) (ab ad ae))))) (aq (bE (aB zY (af ar (aa 1) ad (fun _ _=>rfl)) (aK (ab aL (ab aL (ab aL ae)))) (by with_unfolding_all rfl)) (aq (jN 3 (au C__law_moved (hr.mono (by decide)) rfl (ab (aa 5) (ab (aa 1) (ab (aa 2) ae)))) (aa 6))) aS)))))))))) (aq (rN 3 (ax (aa 3)))))))
theorem sc__law_columns:FnScope jh ["circuit"] (aj eV):=⟨rfl,rfl,rfl,by decide +kernel,rfl,by decide +kernel,by decide +kernel⟩
theorem lV {f:Addr} {fd:FuncData} {dV:Value} (F:FunV K "_law_columns" "_law_columns" eV f fd dV) (T:Txt mg) (C__law_row_done:Cal P w K mg base "_law_row_done" 2 bI []):FnOk P w K mg base dN 3 f fd ["circuit"] (fh K aW):=
 cr (k:=2) (b:=gA) F sc__law_columns fun cdv A outer s H E hr=>(ah (pV 1 sc__law_columns.nd ae) (ah (dt PassesOwn.never rfl (bu rfl T.range (ab (ag gv ad (af ar (aa 0) ad (fun _ _=>rfl))) ae)) (cC 2 sc__law_columns.nd) (ah (pU 3 sc__law_columns.nd (Ga (eX (ab (aK (ab ad (ab ad (ab ad (ab ad ae))))) ae)) (ag gv ad (af ar (aa 0) ad (fun _ _=>rfl))))) (ah (jN 3 (aa 2) (aK (ab ad (ab ad (ab ad (ab ad ae)))))) (ah (dt PassesOwn.never rfl (eE (af ar (aa 0) ad (fun _ _=>rfl))) (cC 4 sc__law_columns.nd) (aq (rN 3 (az 3 sc__law_columns.nd (au C__law_row_done (hr.mono (by decide)) rfl (ab (aa 3) (ab (aa 4) (ab (af ar (aa 0) ad (fun _ _=>rfl)) ae)))))))) (aq (rN 3 (mQ 1 (aa 3)))))))) (aq (rN 1 (ax (aa 1))))))
theorem mV:FnScope hJ ["circuit"] (aj dX):=⟨rfl,rfl,rfl,by decide +kernel,rfl,by decide +kernel,by decide +kernel⟩
theorem nl {f:Addr} {fd:FuncData} {dV:Value} (F:FunV K "_law_swings" "_law_swings" dX f fd dV) (T:Txt mg):FnOk P w K mg base dN 1 f fd ["circuit"] (fh K b8):=
 cr (k:=0) (b:=g9) F mV fun cdv A outer s H E hr=>(aq (ax (aJ cQ rfl T.len (by decide +kernel) (ab (nK (vars:=["row"]) (caps:=[]) (by change BlkOk (aj dX).names hJ _ _ _; exact ⟨rfl,by decide +kernel,by decide +kernel,by decide +kernel,by decide +kernel⟩) rfl (eE (af ar (aa 0) ad (fun _ _=>rfl))) cS (fun _ _ _ _=>bZ (i:=0) (show (["row"]:List Str).Nodup by decide +kernel) rfl (Or.inl rfl) (.inr rfl)) (fun _ _ _ _=>(aB (cO hr.units) (af ar (aa 0) ad (fun _ _=>rfl)) aL (aA _))) (fun _ _ _ _=>(aa 0))) ae))))
theorem sc__law_turns_alike:FnScope gE ["one","other","first","second","e"] (aj cT):=⟨rfl,rfl,rfl,by decide +kernel,rfl,by decide +kernel,by decide +kernel⟩
theorem jA {f:Addr} {fd:FuncData} {dV:Value} (F:FunV K "_law_turns_alike" "_law_turns_alike" cT f fd dV) (T:Txt mg) (C__law_swings:Cal P w K mg base "_law_swings" 1 b8 []) (C__law_raised:Cal P w K mg base "_law_raised" 1 bN []) (C__law_turned:Cal P w K mg base "_law_turned" 1 aZ []):FnOk P w K mg base dN 2 f fd ["one","other","first","second","e"] (fh K bm):=
 cr (k:=1) (b:=eF) F sc__law_turns_alike fun cdv A outer s H E hr=>(ah (az 5 sc__law_turns_alike.nd (ag br (au C__law_swings (hr.mono (by decide)) rfl (ab (aa 1) ae)) (au C__law_swings (hr.mono (by decide)) rfl (ab (aa 0) ae)))) (ah (dt PassesOwn.never rfl (bu rfl T.range (ab (aJ cQ rfl T.len (by decide +kernel) (ab (aa 2) ae)) ae)) (cC 6 sc__law_turns_alike.nd) (aq (dt PassesOwn.never rfl (bu rfl T.range (ab (aJ cQ rfl T.len (by decide +kernel) (ab (aa 2) ae)) ae)) (cC 7 sc__law_turns_alike.nd) (ah (az 8 sc__law_turns_alike.nd (au C__law_raised (hr.mono (by decide)) rfl (ab (au C__law_turned (hr.mono (by decide)) rfl (ab (af ar (af ar (aa 2) (aa 6) (fun _ _=>rfl)) (aa 7) (fun _ _=>rfl)) (ab (aa 4) ae))) (ab (aJ (Ac rfl) rfl T.max (by decide +kernel) (ab ad (ab (aa 5) ae))) ae)))) (aq (bE (aB (oQ hr.units) (aa 8) (au C__law_raised (hr.mono (by decide)) rfl (ab (af ar (af ar (aa 3) (aa 6) (fun _ _=>rfl)) (aa 7) (fun _ _=>rfl)) (ab (aJ (Ac rfl) rfl T.max (by decide +kernel) (ab ad (ab (i8 i9 (aa 5)) ae))) ae))) (aA _)) (aq (ax km)) aS)))))) (aq (ax km))))
theorem sc__law_unlike:FnScope jG ["first","second","spots"] (aj fE):=⟨rfl,rfl,rfl,by decide +kernel,rfl,by decide +kernel,by decide +kernel⟩
theorem nj {f:Addr} {fd:FuncData} {dV:Value} (F:FunV K "_law_unlike" "_law_unlike" fE f fd dV) (T:Txt mg) (C__law_times:Cal P w K mg base "_law_times" 1 b7 []):FnOk P w K mg base dN 2 f fd ["first","second","spots"] (fh K ck):=
 cr (k:=1) (b:=g7) F sc__law_unlike fun cdv A outer s H E hr=>(ah (az 3 sc__law_unlike.nd (au C__law_times (hr.mono (by decide)) rfl (ab (af ar (af ar (aa 0) (af ar (aa 2) ad (fun _ _=>rfl)) (fun _ _=>rfl)) (af ar (aa 2) ad (fun _ _=>rfl)) (fun _ _=>rfl)) (ab (af ar (af ar (aa 1) (af ar (aa 2) ad (fun _ _=>rfl)) (fun _ _=>rfl)) (af ar (aa 2) ad (fun _ _=>rfl)) (fun _ _=>rfl)) ae)))) (aq (ax (gZ (oQ hr.units) (aa 3) (au C__law_times (hr.mono (by decide)) rfl (ab (af ar (af ar (aa 0) (af ar (aa 2) ad (fun _ _=>rfl)) (fun _ _=>rfl)) (af ar (aa 2) ad (fun _ _=>rfl)) (fun _ _=>rfl)) (ab (af ar (af ar (aa 1) (af ar (aa 2) ad (fun _ _=>rfl)) (fun _ _=>rfl)) (af ar (aa 2) ad (fun _ _=>rfl)) (fun _ _=>rfl)) ae))) (aA _)))))
theorem oF:FnScope kw ["row"] (aj gb):=⟨rfl,rfl,rfl,by decide +kernel,rfl,by decide +kernel,by decide +kernel⟩
theorem oK {f:Addr} {fd:FuncData} {dV:Value} (F:FunV K "_law_wires" "_law_wires" gb f fd dV) (T:Txt mg):FnOk P w K mg base dN 1 f fd ["row"] (fh K bg):=
 cr (k:=0) (b:=gn) F oF fun cdv A outer s H E hr=>(ah (bE (aB (cO hr.units) (af ar (aa 0) ad (fun _ _=>rfl)) aL (aA _)) (aq (ax (eX (ab (af ar (aa 0) ad (fun _ _=>rfl)) ae)))) aS) (aq (ax (dk Gg rfl T.list (by decide +kernel) (ab (di (aa 0) (eu ad) eA) ae)))))
theorem sc__law_nothing:FnScope gF ["cell","wires"] (aj eU):=⟨rfl,rfl,rfl,by decide +kernel,rfl,by decide +kernel,by decide +kernel⟩
theorem lU {f:Addr} {fd:FuncData} {dV:Value} (F:FunV K "_law_nothing" "_law_nothing" eU f fd dV) (T:Txt mg) (C__law_row:Cal P w K mg base "_law_row" 1 aC []):FnOk P w K mg base dN 2 f fd ["cell","wires"] (fh K ca):=
 cr (k:=1) (b:=e6) F sc__law_nothing fun cdv A outer s H E hr=>(ah (az 2 sc__law_nothing.nd (ag cH (aa 0) (aa 1))) (ah (az 3 sc__law_nothing.nd (ag bz ad (ag cH (ag dq (aa 0) ad) ad))) (ah (az 4 sc__law_nothing.nd (au C__law_row (hr.mono (by decide)) rfl (ab (ag dq (aa 0) ad) (ab (aa 1) ae)))) (ah (az 5 sc__law_nothing.nd (aa 4)) (ah (bE (aB (cO hr.units) (af ar (aa 4) ad (fun _ _=>rfl)) aL (aA _)) (aq (az 5 sc__law_nothing.nd (aK (ab aL (ab (af ar (aa 4) ad (fun _ _=>rfl)) (ab (ag br ad (af ar (aa 4) ad (fun _ _=>rfl))) ae)))))) aS) (ah (az 6 sc__law_nothing.nd (aK (ab aL (ab (aa 2) ae)))) (ah (pV 7 sc__law_nothing.nd (ab (eX (ab (aa 4) (ab (aa 5) ae))) (ab (eX (ab (aa 6) (ab (aK (ab aL (ab (aa 2) (ab ad ae)))) (ab (aa 6) (ab (aK (ab aL (ab (aa 2) ae))) ae))))) (ab (eX (ab (aK (ab aL (ab (aa 2) (ab (aa 3) ae)))) (ab (aK (ab aL (ab (aa 2) (ab (ag br ad (aa 3)) ae)))) ae))) ae)))) (ah (bE (aB nP (aa 1) ad (aA _)) (ah (az 8 sc__law_nothing.nd (ag cH (ag bz (ag bz (aa 2) ad) (ag cH (ag dq (aa 0) ad) (ag br (aa 1) ad))) (aa 1))) (ah (mQ 7 (eX (ab (aK (ab aL (ab (aa 8) (ab (aa 2) ae)))) (ab (aK (ab aL (ab (aa 2) (ab (aa 8) ae)))) (ab (aK (ab aL (ab (aa 8) (ab (aa 2) ae)))) (ab (aK (ab aL (ab (aa 2) (ab (aa 8) ae)))) ae)))))) (aq (mQ 7 (eX (ab (aK (ab aL (ab (aa 8) (ab (aa 2) ae)))) (ab (aa 6) (ab (aK (ab aL (ab (aa 8) (ab (aa 2) ae)))) (ab (aa 6) ae))))))))) aS) (aq (ax (iF 7 (ag cH (ag dq (aa 0) ad) (CL 7 rfl T.len)) (fun _ _=>rfl))))))))))))
theorem sc__law_changed:FnScope fg ["rows","cell","wires","room"] (aj dA):=⟨rfl,rfl,rfl,by decide +kernel,rfl,by decide +kernel,by decide +kernel⟩
theorem lW {f:Addr} {fd:FuncData} {dV:Value} (F:FunV K "_law_changed" "_law_changed" dA f fd dV) (T:Txt mg) (C__law_nothing:Cal P w K mg base "_law_nothing" 2 ca []) (C__law_wires:Cal P w K mg base "_law_wires" 1 bg []):FnOk P w K mg base dN 3 f fd ["rows","cell","wires","room"] (fh K cN):=
 cr (k:=2) (b:=dL) F sc__law_changed fun cdv A outer s H E hr=>(ah (az 4 sc__law_changed.nd (ag dq (aa 1) ad)) (ah (az 5 sc__law_changed.nd (ag cH (aa 4) (ag bz (aJ cQ rfl T.len (by decide +kernel) (ab (aa 0) ae)) ad))) (ah (bE (WV.tv (iV (aB (cO hr.units) (ag cH (aa 1) ad) ad (aA _)) (ip (aB uF (ag bz (aa 5) ad) (aJ cQ rfl T.len (by decide +kernel) (ab (aa 0) ae)) (aA _))))) (ah (x9 6 sc__law_changed.nd (vars:=["wire"]) (caps:=[(0,"rows"),(5,"at")]) (by change BlkOk (aj dA).names fg _ _ _; exact ⟨rfl,by decide +kernel,by decide +kernel,by decide +kernel,by decide +kernel⟩) rfl (eE (au C__law_wires (hr.mono (by decide)) rfl (ab (af ar (aa 0) (aa 5) (fun _ _=>rfl)) ae))) cS (fun _ _ _ _=>bZ (i:=0) (show (["wire","rows","at"]:List Str).Nodup by decide +kernel) rfl (Or.inl rfl) (.inr rfl)) (fun _ _ _ _=>(aB zY (aa 0) (au C__law_wires (hr.mono (by decide)) rfl (ab (af ar (aa 1) (ag bz (aa 2) ad) (fun _ _=>rfl)) ae)) (by with_unfolding_all rfl))) (fun _ _ _ _=>(aa 0))) (aq (bE (aB (cO hr.units) (aa 6) (eX ae) (aA _)) (aq (ax (aK (ab (ag bz (ag bz (di (aa 0) eA (eu (aa 5))) (eX (ab (af ar (aa 0) (ag bz (aa 5) ad) (fun _ _=>rfl)) (ab (af ar (aa 0) (aa 5) (fun _ _=>rfl)) ae)))) (di (aa 0) (eu (ag bz (aa 5) ad)) eA)) (ab ad ae))))) aS))) aS) (ah (az 7 sc__law_changed.nd (au C__law_nothing (hr.mono (by decide)) rfl (ab (ag dq (aa 4) ad) (ab (aa 2) ae)))) (ah (az 8 sc__law_changed.nd ad) (ah (bE (aB (cO hr.units) (ag cH (aa 1) ad) ad (aA _)) (ah (az 9 sc__law_changed.nd (ag cH (ag dq (aa 4) ad) (aa 2))) (ah (az 8 sc__law_changed.nd (ag bz ad (ag cH (ag dq (aa 4) ad) ad))) (aq (az 7 sc__law_changed.nd (eX (ab (aK (ab aL (ab (aa 9) ae))) (ab (aK (ab aL (ab (aa 9) (ab (aa 8) ae)))) (ab (aK (ab aL (ab (aa 9) ae))) (ab (aK (ab aL (ab (aa 9) (ab (aa 8) ae)))) ae))))))))) aS) (ah (bE (aB nP (ag bz (aJ cQ rfl T.len (by decide +kernel) (ab (aa 0) ae)) (aJ cQ rfl T.len (by decide +kernel) (ab (aa 7) ae))) (aa 3) (aA _)) (aq (ax (aK (ab (aa 0) (ab ad ae))))) aS) (aq (ax (aK (ab (ag bz (ag bz (di (aa 0) eA (eu (aa 5))) (aa 7)) (di (aa 0) (eu (aa 5)) eA)) (ab (aa 8) ae))))))))))))
theorem oG:FnScope kx ["found"] (aj gc):=⟨rfl,rfl,rfl,by decide +kernel,rfl,by decide +kernel,by decide +kernel⟩
theorem oM {f:Addr} {fd:FuncData} {dV:Value} (F:FunV K "_law_whole" "_law_whole" gc f fd dV) (T:Txt mg):FnOk P w K mg base dN 1 f fd ["found"] (fh K dR):=
 cr (k:=0) (b:=iK) F oG fun cdv A outer s H E hr=>(aq (ax (nM (qO (T:="int") rfl T.isinstance rfl T.int (by decide +kernel) (by decide) (by decide) (aa 0)) (qN (F6 (qO (T:="bool") rfl T.isinstance rfl T.bool (by decide +kernel) (by decide) (by decide) (aa 0)))))))
theorem sc__law_good:FnScope lL ["one","other","first","second","paper"] (aj gL):=⟨rfl,rfl,rfl,by decide +kernel,rfl,by decide +kernel,by decide +kernel⟩
theorem qp {f:Addr} {fd:FuncData} {dV:Value} (F:FunV K "_law_good" "_law_good" gL f fd dV) (T:Txt mg) (C__law_unlike:Cal P w K mg base "_law_unlike" 2 ck []) (C__law_turns_alike:Cal P w K mg base "_law_turns_alike" 2 bm []) (C__law_whole:Cal P w K mg base "_law_whole" 1 dR []):FnOk P w K mg base dN 3 f fd ["one","other","first","second","paper"] (fh K cb):=
 cr (k:=2) (b:=gW) F sc__law_good fun cdv A outer s H E hr=>(ah (bE (WV.tv (j2 (jK (jJ (qO (T:="tuple") rfl T.isinstance rfl T.tuple (by decide +kernel) (by decide) (by decide) (aa 4)))) (iU (aB uF (aJ cQ rfl T.len (by decide +kernel) (ab (aa 4) ae)) ad (aA _))))) (aq (ax km)) aS) (ah (dt PassesOwn.never rfl (eE (di (aa 4) (eu ad) eA)) (cC 5 sc__law_good.nd) (aq (bE (WV.tv (j2 (jK (jJ (au C__law_whole (hr.mono (by decide)) rfl (ab (aa 5) ae)))) (iU (aB uF (aa 5) ad (aA _))))) (aq (ax km)) aS))) (ah (bE (aB (cO hr.units) (af ar (aa 4) ad (fun _ _=>rfl)) aL (aA _)) (aq (ax (nM (gZ (cO hr.units) (aJ cQ rfl T.len (by decide +kernel) (ab (aa 4) ae)) ad (aA _)) (nM (gZ uF (af ar (aa 4) ad (fun _ _=>rfl)) ad (aA _)) (qN (au C__law_turns_alike (hr.mono (by decide)) rfl (ab (aa 0) (ab (aa 1) (ab (aa 2) (ab (aa 3) (ab (af ar (aa 4) ad (fun _ _=>rfl)) ae))))))))))) aS) (ah (bE (WV.tv (j2 (aB (oQ hr.units) (af ar (aa 4) ad (fun _ _=>rfl)) aL (aA _)) (iU (aB (oQ hr.units) (aJ cQ rfl T.len (by decide +kernel) (ab (aa 4) ae)) ad (aA _))))) (aq (ax km)) aS) (aq (ax (nM (gZ uF (aJ (Ab rfl) rfl T.max (by decide +kernel) (ab (di (aa 4) (eu ad) eA) ae)) (aJ cQ rfl T.len (by decide +kernel) (ab (aa 2) ae)) (aA _)) (qN (au C__law_unlike (hr.mono (by decide)) rfl (ab (aa 2) (ab (aa 3) (ab (di (aa 4) (eu ad) eA) ae))))))))))))
theorem sc__law_second:FnScope hR ["rows","cells","wires","room","head"] (aj dY):=⟨rfl,rfl,rfl,by decide +kernel,rfl,by decide +kernel,by decide +kernel⟩
theorem nq {f:Addr} {fd:FuncData} {dV:Value} (F:FunV K "_law_second" "_law_second" dY f fd dV) (T:Txt mg) (C__law_row:Cal P w K mg base "_law_row" 1 aC []) (C__law_changed:Cal P w K mg base "_law_changed" 3 cN []) (L_K:NoL K):FnOk P w K mg base dN 4 f fd ["rows","cells","wires","room","head"] (fh K cJ):=
 Jb (k:=3) (b:=d9) F sc__law_second fun cdv A outer s H E hr=>(q9 (bE (aB (cO hr.units) (ag cH (ag dq (aa 4) ad) ad) ad (aA _)) (aq (ax (fJ (vars:=["cell"]) (caps:=[(2,"wires")]) (by change BlkOk (aj dY).names hR _ _ _; exact ⟨rfl,by decide +kernel,by decide +kernel,by decide +kernel,by decide +kernel⟩) rfl (eE (di (aa 1) eA (eu (aa 3)))) cS (fun _ _ _ _=>bZ (i:=0) (show (["cell","wires"]:List Str).Nodup by decide +kernel) rfl (Or.inl rfl) (.inr rfl)) (fun _ _ _ _=>(au C__law_row (hr.mono (by decide)) rfl (ab (aa 0) (ab (aa 1) ae))))))) aS) (q9 (pU 5 sc__law_second.nd (vM rfl T.list (ab (aa 0) ae))) (q9 (Hk 5 (dt PassesOwn.never rfl (eE (aa 1)) (cC 6 sc__law_second.nd) (aq (Ba 5 sc__law_second.nd L_K C__law_changed (hr.mono (by decide)) rfl (ab (aa 6) (ab (aa 2) (ab (aa 3) ae))))))) (Ae 5 (WV.tv (iV (aB (cO hr.units) (ag cH (ag dq (aa 4) ad) ad) ad (aA _)) (ip (aB nP (aJ cQ rfl T.len (by decide +kernel) (ab (aa 5) ae)) ad (aA _))))) (ag cH (ag dq (aa 4) ad) (aJ cQ rfl T.len (by decide +kernel) (ab (aa 5) ae))) (au C__law_row (hr.mono (by decide)) rfl (ab (ag dq (aa 4) ad) (ab (aa 2) ae))) (Jq (aq (ax (aa 5))))))))
theorem sc_law:FnScope tF ["script"] (aj iP):=⟨rfl,rfl,rfl,by decide +kernel,rfl,by decide +kernel,by decide +kernel⟩
theorem E5 {f:Addr} {fd:FuncData} {dV:Value} (F:FunV K "law" "law" iP f fd dV) (T:Txt mg) (C__law_cell_at:Cal P w K mg base "_law_cell_at" 1 bQ []) (C__law_columns:Cal P w K mg base "_law_columns" 3 aW []) (C_alike_paper:Cal P w K mg base "alike_paper" 9 aY []) (C__law_row:Cal P w K mg base "_law_row" 1 aC []) (C_paper_stands:Cal P w K mg base "paper_stands" 9 aI []) (C__law_second:Cal P w K mg base "_law_second" 4 cJ []) (C__law_good:Cal P w K mg base "_law_good" 3 cb []):FnOk P w K mg base dN 10 f fd ["script"] (fh K zO):=
 cr (k:=9) (b:=Ai) F sc_law fun cdv A outer s H E hr=>(ah (az 1 sc_law.nd (au C__law_cell_at (hr.mono (by decide)) rfl (ab (aa 0) (ab ad ae)))) (ah (az 2 sc_law.nd (ag bz ad (ag cH (aa 1) ad))) (ah (bE (aB (cO hr.units) (ag cH (ag dq (aa 1) ad) ad) ad (aA _)) (aq (az 2 sc_law.nd ad)) aS) (ah (az 3 sc_law.nd (af ar (eX (ab ad (ab ad (ab ad (ab ad ae))))) (ag br (aa 2) ad) (fun _ _=>rfl))) (ah (az 4 sc_law.nd (di (aa 0) (eu ad) eA)) (ah (j6 5 sc_law.nd (vars:=["k"]) (caps:=[(4,"cells")]) (by change BlkOk (aj iP).names tF _ _ _; exact ⟨rfl,by decide +kernel,by decide +kernel,by decide +kernel,by decide +kernel⟩) rfl (pz rfl T.range (ab ad (ab (aJ cQ rfl T.len (by decide +kernel) (ab (aa 4) ae)) (ab ad ae)))) cS (fun _ _ _ _=>bZ (i:=0) (show (["k","cells"]:List Str).Nodup by decide +kernel) rfl (Or.inl rfl) (.inr rfl)) (fun _ _ _ _=>(af ar (aa 1) (aa 0) (fun _ _=>rfl)))) (ah (j6 6 sc_law.nd (vars:=["k"]) (caps:=[(4,"cells")]) (by change BlkOk (aj iP).names tF _ _ _; exact ⟨rfl,by decide +kernel,by decide +kernel,by decide +kernel,by decide +kernel⟩) rfl (pz rfl T.range (ab ad (ab (aJ cQ rfl T.len (by decide +kernel) (ab (aa 4) ae)) (ab ad ae)))) cS (fun _ _ _ _=>bZ (i:=0) (show (["k","cells"]:List Str).Nodup by decide +kernel) rfl (Or.inl rfl) (.inr rfl)) (fun _ _ _ _=>(af ar (aa 1) (aa 0) (fun _ _=>rfl)))) (ah (j6 7 sc_law.nd (vars:=["cell"]) (caps:=[(2,"wires")]) (by change BlkOk (aj iP).names tF _ _ _; exact ⟨rfl,by decide +kernel,by decide +kernel,by decide +kernel,by decide +kernel⟩) rfl (eE (di (aa 5) eA (eu (ag bz (ag dq (aa 3) ad) ad)))) cS (fun _ _ _ _=>bZ (i:=0) (show (["cell","wires"]:List Str).Nodup by decide +kernel) rfl (Or.inl rfl) (.inr rfl)) (fun _ _ _ _=>(au C__law_row (hr.mono (by decide)) rfl (ab (aa 0) (ab (aa 1) ae))))) (ah (az 8 sc_law.nd (aK (ab (aa 2) (ab (dk gk rfl T.tuple (by decide +kernel) (ab (aa 7) ae)) ae)))) (ah (az 9 sc_law.nd (aK (ab (aa 2) (ab (dk gk rfl T.tuple (by decide +kernel) (ab (au C__law_second (hr.mono (by decide)) rfl (ab (aa 7) (ab (aa 6) (ab (aa 2) (ab (aa 3) (ab (aa 1) ae)))))) ae)) ae)))) (ah (az 10 sc_law.nd (au C__law_columns (hr.mono (by decide)) rfl (ab (aa 8) ae))) (ah (az 11 sc_law.nd (au C__law_columns (hr.mono (by decide)) rfl (ab (aa 9) ae))) (ah (az 12 sc_law.nd (au C_alike_paper (hr.mono (by decide)) rfl (ab (aa 8) (ab (aa 9) ae)))) (ah (bE (WV.tv (j2 (jK (jJ (au C__law_good (hr.mono (by decide)) rfl (ab (aa 8) (ab (aa 9) (ab (aa 10) (ab (aa 11) (ab (aa 12) ae)))))))) (iU (aB CQ (au C_paper_stands (hr.mono (by decide)) rfl (ab (aa 8) (ab (aa 9) (ab (aa 12) ae)))) km (aA _))))) (aq (ax km)) aS) (ah (dt PassesOwn.never rfl (bu rfl T.range (ab (af ar (eX (ab ad (ab ad (ab ad (ab ad ae))))) (ag br (aa 2) ad) (fun _ _=>rfl)) ae)) (cC 13 sc_law.nd) (ah (az 14 sc_law.nd (au C_paper_stands (hr.mono (by decide)) rfl (ab (aa 8) (ab (aa 9) (ab (aK (ab aL (ab (aa 13) ae))) ae))))) (aq (bE (WV.tv (j2 (jK (jJ (qO (T:="bool") rfl T.isinstance rfl T.bool (by decide +kernel) (by decide) (by decide) (aa 14)))) (iU (aB (oQ hr.units) (aa 14) (gZ (cO hr.units) (aa 12) (aK (ab aL (ab (aa 13) ae))) (aA _)) (aA _))))) (aq (ax km)) aS)))) (aq (ax km)))))))))))))))))
end
theorem nW:aE "twos_shared" fC ["joined","most"]:=fun _ _ _ _ _ _ us hl=>by obtain ⟨_,_,rfl⟩:=fW hl; exact rfl
theorem uP:aE "by_root" jp ["a","b","c","d"]:=fun _ _ _ _ _ _ us hl=>by obtain ⟨_,_,_,_,rfl⟩:=FJ hl; exact rfl
theorem oX:aE "parts_over" f9 ["x","k"]:=fun _ _ _ _ _ _ us hl=>by obtain ⟨_,_,rfl⟩:=fW hl; exact rfl
theorem C7:aE "plus" qd ["x","y"]:=fun _ _ _ _ _ _ us hl=>by obtain ⟨_,_,rfl⟩:=fW hl; exact rfl
theorem Ag:aE "times" mD ["x","y"]:=fun _ _ _ _ _ _ us hl=>by obtain ⟨_,_,rfl⟩:=fW hl; exact rfl
theorem uQ:aE "against" jq ["x"]:=fun _ _ _ _ _ _ us hl=>by obtain ⟨_,rfl⟩:=qF hl; exact rfl
theorem xv:aE "turned" j9 ["x","e"]:=fun _ _ _ _ _ _ us hl=>by obtain ⟨_,_,rfl⟩:=fW hl; exact rfl
theorem xw:aE "halved" kc ["x"]:=fun _ _ _ _ _ _ us hl=>by obtain ⟨_,rfl⟩:=qF hl; exact rfl
theorem Af:aE "worth" mC ["wires","wire"]:=fun _ _ _ _ _ _ us hl=>by obtain ⟨_,_,rfl⟩:=fW hl; exact rfl
theorem Ah:aE "swung" mE ["state","bit"]:=fun _ _ _ _ _ _ us hl=>by obtain ⟨_,_,rfl⟩:=fW hl; exact rfl
theorem mf:aE "turned_where" dw ["state","held","e"]:=fun _ _ _ _ _ _ us hl=>by obtain ⟨_,_,_,rfl⟩:=sH hl; exact rfl
theorem kU:aE "flipped_where" da ["state","held","bit"]:=fun _ _ _ _ _ _ us hl=>by obtain ⟨_,_,_,rfl⟩:=sH hl; exact rfl
theorem re:aE "exchanged" gK ["place","both"]:=fun _ _ _ _ _ _ us hl=>by obtain ⟨_,_,rfl⟩:=fW hl; exact rfl
theorem C8:aE "done" mW ["state","row"]:=fun _ _ _ _ _ _ us hl=>by obtain ⟨_,_,rfl⟩:=fW hl; exact rfl
theorem tf:aE "all_done" iu ["state","rows"]:=fun _ _ _ _ _ _ us hl=>by obtain ⟨_,_,rfl⟩:=fW hl; exact rfl
theorem rh:aE "all_plain" fP ["rows"]:=fun _ _ _ _ _ _ us hl=>by obtain ⟨_,rfl⟩:=qF hl; exact rfl
theorem xx:aE "column" kd ["circuit","place"]:=fun _ _ _ _ _ _ us hl=>by obtain ⟨_,_,rfl⟩:=fW hl; exact rfl
theorem sZ:aE "is_plain" ir ["circuit"]:=fun _ _ _ _ _ _ us hl=>by obtain ⟨_,rfl⟩:=qF hl; exact rfl
theorem mh:aE "refuse_apart" eT ["one","other"]:=fun _ _ _ _ _ _ us hl=>by obtain ⟨_,_,rfl⟩:=fW hl; exact rfl
theorem kW:aE "columns_apart" db ["circuit","apart"]:=fun _ _ _ _ _ _ us hl=>by obtain ⟨_,_,rfl⟩:=fW hl; exact rfl
theorem uO:aE "turn_to" h7 ["one","other"]:=fun _ _ _ _ _ _ us hl=>by obtain ⟨_,_,rfl⟩:=fW hl; exact rfl
theorem oW:aE "turn_apart" eS ["one","other"]:=fun _ _ _ _ _ _ us hl=>by obtain ⟨_,_,rfl⟩:=fW hl; exact rfl
theorem md:aE "unlike_paper" du ["one","other"]:=fun _ _ _ _ _ _ us hl=>by obtain ⟨_,_,rfl⟩:=fW hl; exact rfl
theorem nX:aE "alike_paper" fD ["one","other"]:=fun _ _ _ _ _ _ us hl=>by obtain ⟨_,_,rfl⟩:=fW hl; exact rfl
theorem s9:aE "is_apart" fo ["one","other","paper"]:=fun _ _ _ _ _ _ us hl=>by obtain ⟨_,_,_,rfl⟩:=sH hl; exact rfl
theorem mi:aE "paper_stands" dy ["one","other","paper"]:=fun _ _ _ _ _ _ us hl=>by obtain ⟨_,_,_,rfl⟩:=sH hl; exact rfl
theorem mq:aE "_law_cell_at" eW ["script","k"]:=fun _ _ _ _ _ _ us hl=>by obtain ⟨_,_,rfl⟩:=fW hl; exact rfl
theorem tj:aE "_law_row" iw ["cell","wires"]:=fun _ _ _ _ _ _ us hl=>by obtain ⟨_,_,rfl⟩:=fW hl; exact rfl
theorem nZ:aE "_law_turned" fF ["x","e"]:=fun _ _ _ _ _ _ us hl=>by obtain ⟨_,_,rfl⟩:=fW hl; exact rfl
theorem oh:aE "_law_raised" fG ["x","many"]:=fun _ _ _ _ _ _ us hl=>by obtain ⟨_,_,rfl⟩:=fW hl; exact rfl
theorem o0:aE "_law_times" gd ["x","y"]:=fun _ _ _ _ _ _ us hl=>by obtain ⟨_,_,rfl⟩:=fW hl; exact rfl
theorem o4:aE "_law_moved" gg ["place","row","wires"]:=fun _ _ _ _ _ _ us hl=>by obtain ⟨_,_,_,rfl⟩:=sH hl; exact rfl
theorem kX:aE "_law_row_done" el ["state","row","wires"]:=fun _ _ _ _ _ _ us hl=>by obtain ⟨_,_,_,rfl⟩:=sH hl; exact rfl
theorem mm:aE "_law_columns" eV ["circuit"]:=fun _ _ _ _ _ _ us hl=>by obtain ⟨_,rfl⟩:=qF hl; exact rfl
theorem oa:aE "_law_swings" dX ["circuit"]:=fun _ _ _ _ _ _ us hl=>by obtain ⟨_,rfl⟩:=qF hl; exact rfl
theorem jB:aE "_law_turns_alike" cT ["one","other","first","second","e"]:=fun _ _ _ _ _ _ us hl=>by obtain ⟨_,_,_,_,_,rfl⟩:=B6 hl; exact rfl
theorem nY:aE "_law_unlike" fE ["first","second","spots"]:=fun _ _ _ _ _ _ us hl=>by obtain ⟨_,_,_,rfl⟩:=sH hl; exact rfl
theorem oY:aE "_law_wires" gb ["row"]:=fun _ _ _ _ _ _ us hl=>by obtain ⟨_,rfl⟩:=qF hl; exact rfl
theorem mj:aE "_law_nothing" eU ["cell","wires"]:=fun _ _ _ _ _ _ us hl=>by obtain ⟨_,_,rfl⟩:=fW hl; exact rfl
theorem mn:aE "_law_changed" dA ["rows","cell","wires","room"]:=fun _ _ _ _ _ _ us hl=>by obtain ⟨_,_,_,_,rfl⟩:=FJ hl; exact rfl
theorem oZ:aE "_law_whole" gc ["found"]:=fun _ _ _ _ _ _ us hl=>by obtain ⟨_,rfl⟩:=qF hl; exact rfl
theorem rj:aE "_law_good" gL ["one","other","first","second","paper"]:=fun _ _ _ _ _ _ us hl=>by obtain ⟨_,_,_,_,_,rfl⟩:=B6 hl; exact rfl
theorem og:aE "_law_second" dY ["rows","cells","wires","room","head"]:=fun _ _ _ _ _ _ us hl=>by obtain ⟨_,_,_,_,_,rfl⟩:=B6 hl; exact rfl
theorem Gn {l:PySem.W.OpenLaw} {w:World} {K:PySem.W.Frag} {h:Heap} {mg:Str->Option Value} {fa f2 f10 f45 t2 t10 f_NOUGHT f_ONE f_PLAIN:Addr} {od2 an2 od10 an10 od45 an45 td2 td10 td_NOUGHT td_ONE td_PLAIN:Option Addr} {sl2 sl10 sl45 ts2 ts10 ts_NOUGHT ts_ONE ts_PLAIN:Array (Option Value)} {oc2 kV2 dc2 pm2 cd2 ct2 oc10 kV10 dc10 pm10 cd10 ct10 oc45 kV45 dc45 pm45 cd45 ct45 tc2 tc10:Value} {tn2 tn10 tn_NOUGHT tn_ONE tn_PLAIN:Nat} {tk2_0 tk10_0 tk_NOUGHT_0 tk_NOUGHT_1 tk_NOUGHT_2 tk_NOUGHT_3 tk_NOUGHT_4 tk_ONE_0 tk_ONE_1 tk_ONE_2 tk_ONE_3 tk_ONE_4 tk_PLAIN_0 tk_PLAIN_1 tk_PLAIN_2 tk_PLAIN_3 tk_PLAIN_4 tk_PLAIN_5:Tok} (X:K.In h) (G:h.Ns mainGlobals mg) (hfa:mg "law" = some (.ref fa))
  (D0:DefIn K "twos_shared" "twos_shared" fC)
  (D1:DefIn K "by_root" "by_root" jp)
  (a2:PySem.W.nsIn K mainGlobals "number" = some (some (.ref f2))) (l2:K.lookup f2=some ⟨oc2,od2,.func (PySem.W.fnOf "number" "number" (cW ib) (cj ib) (aj ib) (.ref t2) kV2 dc2 pm2 an2 cd2 ct2),sl2⟩) (c2:PySem.W.codeIn K cd2 "number" = true) (k2:PySem.W.keepIn K (.ref f2)=true)
  (d2:K.lookup t2=some ⟨tc2,td2,.seq #[.int 0 tk2_0] tn2,ts2⟩)
  (D3:DefIn K "parts_over" "parts_over" f9)
  (D4:DefIn K "plus" "plus" qd)
  (D5:DefIn K "times" "times" mD)
  (D6:DefIn K "against" "against" jq)
  (D7:DefIn K "turned" "turned" j9)
  (D8:DefIn K "halved" "halved" kc)
  (D9:DefIn K "worth" "worth" mC)
  (a10:PySem.W.nsIn K mainGlobals "beginning" = some (some (.ref f10))) (l10:K.lookup f10=some ⟨oc10,od10,.func (PySem.W.fnOf "beginning" "beginning" (cW dz) (cj dz) (aj dz) (.ref t10) kV10 dc10 pm10 an10 cd10 ct10),sl10⟩) (c10:PySem.W.codeIn K cd10 "beginning" = true) (k10:PySem.W.keepIn K (.ref f10)=true)
  (d10:K.lookup t10=some ⟨tc10,td10,.seq #[.int 0 tk10_0] tn10,ts10⟩)
  (D11:DefIn K "swung" "swung" mE)
  (D12:DefIn K "turned_where" "turned_where" dw)
  (D13:DefIn K "flipped_where" "flipped_where" da)
  (D14:DefIn K "exchanged" "exchanged" gK)
  (D15:DefIn K "done" "done" mW)
  (D16:DefIn K "all_done" "all_done" iu)
  (D17:DefIn K "all_plain" "all_plain" fP)
  (D18:DefIn K "column" "column" kd)
  (D19:DefIn K "is_plain" "is_plain" ir)
  (D20:DefIn K "refuse_apart" "refuse_apart" eT)
  (D21:DefIn K "columns_apart" "columns_apart" db)
  (D22:DefIn K "turn_to" "turn_to" h7)
  (D23:DefIn K "turn_apart" "turn_apart" eS)
  (D24:DefIn K "unlike_paper" "unlike_paper" du)
  (D25:DefIn K "alike_paper" "alike_paper" fD)
  (D26:DefIn K "is_apart" "is_apart" fo)
  (D27:DefIn K "paper_stands" "paper_stands" dy)
  (D28:DefIn K "_law_cell_at" "_law_cell_at" eW)
  (D29:DefIn K "_law_row" "_law_row" iw)
  (D30:DefIn K "_law_turned" "_law_turned" fF)
  (D31:DefIn K "_law_raised" "_law_raised" fG)
  (D32:DefIn K "_law_times" "_law_times" gd)
  (D33:DefIn K "_law_moved" "_law_moved" gg)
  (D34:DefIn K "_law_row_done" "_law_row_done" el)
  (D35:DefIn K "_law_columns" "_law_columns" eV)
  (D36:DefIn K "_law_swings" "_law_swings" dX)
  (D37:DefIn K "_law_turns_alike" "_law_turns_alike" cT)
  (D38:DefIn K "_law_unlike" "_law_unlike" fE)
  (D39:DefIn K "_law_wires" "_law_wires" gb)
  (D40:DefIn K "_law_nothing" "_law_nothing" eU)
  (D41:DefIn K "_law_changed" "_law_changed" dA)
  (D42:DefIn K "_law_whole" "_law_whole" gc)
  (D43:DefIn K "_law_good" "_law_good" gL)
  (D44:DefIn K "_law_second" "_law_second" dY)
  (a45:PySem.W.nsIn K mainGlobals "law" = some (some (.ref f45))) (l45:K.lookup f45=some ⟨oc45,od45,.func (PySem.W.fnOf "law" "law" (cW iP) (cj iP) (aj iP) .none kV45 dc45 pm45 an45 cd45 ct45),sl45⟩) (c45:PySem.W.codeIn K cd45 "law" = true) (k45:PySem.W.keepIn K (.ref f45)=true)
  (z_min:PySem.W.nsIn K mainGlobals "min" = some none)
  (z_max:PySem.W.nsIn K mainGlobals "max" = some none)
  (z_tuple:PySem.W.nsIn K mainGlobals "tuple" = some none)
  (z_range:PySem.W.nsIn K mainGlobals "range" = some none)
  (z_len:PySem.W.nsIn K mainGlobals "len" = some none)
  (z_all:PySem.W.nsIn K mainGlobals "all" = some none)
  (z_list:PySem.W.nsIn K mainGlobals "list" = some none)
  (z_isinstance:PySem.W.nsIn K mainGlobals "isinstance" = some none)
  (z_int:PySem.W.nsIn K mainGlobals "int" = some none)
  (z_bool:PySem.W.nsIn K mainGlobals "bool" = some none)
  (a_NOUGHT:PySem.W.nsIn K mainGlobals "NOUGHT" = some (some (.ref f_NOUGHT))) (d_NOUGHT:K.lookup f_NOUGHT=some ⟨.type "tuple",td_NOUGHT,.seq #[.int 0 tk_NOUGHT_0,.int 0 tk_NOUGHT_1,.int 0 tk_NOUGHT_2,.int 0 tk_NOUGHT_3,.int 0 tk_NOUGHT_4] tn_NOUGHT,ts_NOUGHT⟩)
  (a_ONE:PySem.W.nsIn K mainGlobals "ONE" = some (some (.ref f_ONE))) (d_ONE:K.lookup f_ONE=some ⟨.type "tuple",td_ONE,.seq #[.int 1 tk_ONE_0,.int 0 tk_ONE_1,.int 0 tk_ONE_2,.int 0 tk_ONE_3,.int 0 tk_ONE_4] tn_ONE,ts_ONE⟩)
  (a_PLAIN:PySem.W.nsIn K mainGlobals "PLAIN" = some (some (.ref f_PLAIN))) (d_PLAIN:K.lookup f_PLAIN=some ⟨.type "tuple",td_PLAIN,.seq #[.str "swing" tk_PLAIN_0,.str "turn" tk_PLAIN_1,.str "flip" tk_PLAIN_2,.str "tie" tk_PLAIN_3,.str "sign" tk_PLAIN_4,.str "cross" tk_PLAIN_5] tn_PLAIN,ts_PLAIN⟩)
  (xl:(List.all K fun p=>!Ji p.2.cls)=true)
   :∃ fd:FuncData,(∀ (s:Shared) (v:Value),BindsTo s fd ⟨[v],[]⟩ [("script",v)])/\∀ base:Heap,K.In base->base.Ns mainGlobals mg->FnOk l.prog w K mg base dN 10 fa fd ["script"] (u9 K):=by
 have e:=hfa.symm.trans (PySem.W.mg_of X G a45)
 cases e
 have T:Txt mg:=⟨PySem.W.mg_none_of X G z_min,PySem.W.mg_none_of X G z_max,PySem.W.mg_none_of X G z_tuple,PySem.W.mg_none_of X G z_range,PySem.W.mg_none_of X G z_len,PySem.W.mg_none_of X G z_all,PySem.W.mg_none_of X G z_list,PySem.W.mg_none_of X G z_isinstance,PySem.W.mg_none_of X G z_int,PySem.W.mg_none_of X G z_bool⟩
 have T_NOUGHT:TopV K mg "NOUGHT" (.tuple [.int 0,.int 0,.int 0,.int 0,.int 0]):=TopV.tup (xs:=[.int 0,.int 0,.int 0,.int 0,.int 0]) (PySem.W.mg_of X G a_NOUGHT) d_NOUGHT (by simp [sizeLine]) (.cons ⟨_,rfl⟩ (.cons ⟨_,rfl⟩ (.cons ⟨_,rfl⟩ (.cons ⟨_,rfl⟩ (.cons ⟨_,rfl⟩ (.nil)))))) fun _=>.cons (.int _) (.cons (.int _) (.cons (.int _) (.cons (.int _) (.cons (.int _) (.nil)))))
 have T_ONE:TopV K mg "ONE" (.tuple [.int 1,.int 0,.int 0,.int 0,.int 0]):=TopV.tup (xs:=[.int 1,.int 0,.int 0,.int 0,.int 0]) (PySem.W.mg_of X G a_ONE) d_ONE (by simp [sizeLine]) (.cons ⟨_,rfl⟩ (.cons ⟨_,rfl⟩ (.cons ⟨_,rfl⟩ (.cons ⟨_,rfl⟩ (.cons ⟨_,rfl⟩ (.nil)))))) fun _=>.cons (.int _) (.cons (.int _) (.cons (.int _) (.cons (.int _) (.cons (.int _) (.nil)))))
 have T_PLAIN:TopV K mg "PLAIN" (.tuple [.str "swing",.str "turn",.str "flip",.str "tie",.str "sign",.str "cross"]):=TopV.tup (xs:=[.str "swing",.str "turn",.str "flip",.str "tie",.str "sign",.str "cross"]) (PySem.W.mg_of X G a_PLAIN) d_PLAIN (by simp [sizeLine]) (.cons ⟨_,rfl⟩ (.cons ⟨_,rfl⟩ (.cons ⟨_,rfl⟩ (.cons ⟨_,rfl⟩ (.cons ⟨_,rfl⟩ (.cons ⟨_,rfl⟩ (.nil))))))) fun _=>.cons (.str _) (.cons (.str _) (.cons (.str _) (.cons (.str _) (.cons (.str _) (.cons (.str _) (.nil))))))
 have F2:=mF (st:=ib) l2 c2 k2
 have F10:=mF (st:=dz) l10 c10 k10
 have F45:=mF (st:=iP) l45 c45 k45
 have L_K:NoL K:=NoL.of xl
 refine ⟨PySem.W.fnOf "law" "law" (cW iP) (cj iP) (aj iP) .none kV45 dc45 pm45 an45 cd45 ct45,fun s v=>.of_eq rfl,fun base _ _=>?_⟩
 have C_twos_shared:Cal l.prog w K mg base "twos_shared" 1 b6 []:=D0.cal X G nW fun _ _ F=>nh F T
 have C_by_root:Cal l.prog w K mg base "by_root" 1 dQ []:=D1.cal X G uP fun _ _ F=>uh F T
 have O2:FnOk l.prog w K mg base dN 2 _ _ _ (fh K dG):=wI F2 T C_twos_shared C_by_root
 have C_number:Cal l.prog w K mg base "number" 2 dG []:=⟨⟨_,_,_,[],[],O2,PySem.W.mg_of X G a2,k2,F2.bindsK d2 rfl (ps:=["a","b","c","d","k"]) 5 rfl (fun _ _ _ _ _ _ us hl=>by obtain ⟨_,_,_,_,_,rfl⟩:=B6 hl; exact rfl),.nil,fun _=>.nil⟩⟩
 have C_parts_over:Cal l.prog w K mg base "parts_over" 2 cD []:=D3.cal X G oX fun _ _ F=>oJ F T C_by_root
 have C_plus:Cal l.prog w K mg base "plus" 3 gY []:=D4.cal X G C7 fun _ _ F=>BD F T C_parts_over C_number
 have C_times:Cal l.prog w K mg base "times" 3 cU []:=D5.cal X G Ag fun _ _ F=>yU F T C_number
 have C_against:Cal l.prog w K mg base "against" 1 eI []:=D6.cal X G uQ fun _ _ F=>ui F T
 have C_turned:Cal l.prog w K mg base "turned" 1 dh []:=D7.cal X G xv fun _ _ F=>wH F T
 have C_halved:Cal l.prog w K mg base "halved" 3 d7 []:=D8.cal X G xw fun _ _ F=>wJ F T C_number
 have C_worth:Cal l.prog w K mg base "worth" 1 gi []:=D9.cal X G Af fun _ _ F=>yT F T
 have O10:FnOk l.prog w K mg base dN 1 _ _ _ (fh K cF):=qm F10 T T_NOUGHT T_ONE
 have C_beginning:Cal l.prog w K mg base "beginning" 1 cF []:=⟨⟨_,_,_,[],[],O10,PySem.W.mg_of X G a10,k10,F10.bindsK d10 rfl (ps:=["wires","place"]) 2 rfl (fun _ _ _ _ _ _ us hl=>by obtain ⟨_,_,rfl⟩:=fW hl; exact rfl),.nil,fun _=>.nil⟩⟩
 have C_swung:Cal l.prog w K mg base "swung" 4 gQ []:=D11.cal X G Ah fun _ _ F=>yV F T C_halved C_plus C_against
 have C_turned_where:Cal l.prog w K mg base "turned_where" 2 bG []:=D12.cal X G mf fun _ _ F=>lR F T C_turned
 have C_flipped_where:Cal l.prog w K mg base "flipped_where" 1 bn []:=D13.cal X G kU fun _ _ F=>kG F T
 have C_exchanged:Cal l.prog w K mg base "exchanged" 1 cE []:=D14.cal X G re fun _ _ F=>ql F T
 have C_done:Cal l.prog w K mg base "done" 5 dn []:=D15.cal X G C8 fun _ _ F=>BF F T C_worth C_swung C_turned_where C_flipped_where C_exchanged
 have C_all_done:Cal l.prog w K mg base "all_done" 6 cg []:=D16.cal X G tf fun _ _ F=>su F T C_done
 have C_all_plain:Cal l.prog w K mg base "all_plain" 1 cG []:=D17.cal X G rh fun _ _ F=>qo F T T_PLAIN
 have C_column:Cal l.prog w K mg base "column" 7 aV []:=D18.cal X G xx fun _ _ F=>wK F T C_all_done C_all_plain C_beginning
 have C_is_plain:Cal l.prog w K mg base "is_plain" 2 cV []:=D19.cal X G sZ fun _ _ F=>sn F T C_all_plain
 have C_refuse_apart:Cal l.prog w K mg base "refuse_apart" 3 aU []:=D20.cal X G mh fun _ _ F=>lS F T C_is_plain
 have C_columns_apart:Cal l.prog w K mg base "columns_apart" 7 bq []:=D21.cal X G kW fun _ _ F=>kH F T C_all_done
 have C_turn_to:Cal l.prog w K mg base "turn_to" 2 eH []:=D22.cal X G uO fun _ _ F=>ug F T C_turned
 have C_turn_apart:Cal l.prog w K mg base "turn_apart" 8 bH []:=D23.cal X G oW fun _ _ F=>oH F T C_turn_to C_columns_apart
 have C_unlike_paper:Cal l.prog w K mg base "unlike_paper" 8 bP []:=D24.cal X G md fun _ _ F=>lQ F T T_NOUGHT C_column C_times
 have C_alike_paper:Cal l.prog w K mg base "alike_paper" 9 aY []:=D25.cal X G nX fun _ _ F=>ni F T C_refuse_apart C_turn_apart C_unlike_paper
 have C_is_apart:Cal l.prog w K mg base "is_apart" 8 dH []:=D26.cal X G s9 fun _ _ F=>ss F T C_times C_column
 have C_paper_stands:Cal l.prog w K mg base "paper_stands" 9 aI []:=D27.cal X G mi fun _ _ F=>lT F T C_refuse_apart C_is_apart C_turn_apart
 have C__law_cell_at:Cal l.prog w K mg base "_law_cell_at" 1 bQ []:=D28.cal X G mq fun _ _ F=>lX F T
 have C__law_row:Cal l.prog w K mg base "_law_row" 1 aC []:=D29.cal X G tj fun _ _ F=>sv F T
 have C__law_turned:Cal l.prog w K mg base "_law_turned" 1 aZ []:=D30.cal X G nZ fun _ _ F=>nk F T
 have C__law_raised:Cal l.prog w K mg base "_law_raised" 1 bN []:=D31.cal X G oh fun _ _ F=>nr F T
 have C__law_times:Cal l.prog w K mg base "_law_times" 1 b7 []:=D32.cal X G o0 fun _ _ F=>oN F T
 have C__law_moved:Cal l.prog w K mg base "_law_moved" 1 bh []:=D33.cal X G o4 fun _ _ F=>oO F T
 have C__law_row_done:Cal l.prog w K mg base "_law_row_done" 2 bI []:=D34.cal X G kX fun _ _ F=>kI F T C__law_turned C__law_moved
 have C__law_columns:Cal l.prog w K mg base "_law_columns" 3 aW []:=D35.cal X G mm fun _ _ F=>lV F T C__law_row_done
 have C__law_swings:Cal l.prog w K mg base "_law_swings" 1 b8 []:=D36.cal X G oa fun _ _ F=>nl F T
 have C__law_turns_alike:Cal l.prog w K mg base "_law_turns_alike" 2 bm []:=D37.cal X G jB fun _ _ F=>jA F T C__law_swings C__law_raised C__law_turned
 have C__law_unlike:Cal l.prog w K mg base "_law_unlike" 2 ck []:=D38.cal X G nY fun _ _ F=>nj F T C__law_times
 have C__law_wires:Cal l.prog w K mg base "_law_wires" 1 bg []:=D39.cal X G oY fun _ _ F=>oK F T
 have C__law_nothing:Cal l.prog w K mg base "_law_nothing" 2 ca []:=D40.cal X G mj fun _ _ F=>lU F T C__law_row
 have C__law_changed:Cal l.prog w K mg base "_law_changed" 3 cN []:=D41.cal X G mn fun _ _ F=>lW F T C__law_nothing C__law_wires
 have C__law_whole:Cal l.prog w K mg base "_law_whole" 1 dR []:=D42.cal X G oZ fun _ _ F=>oM F T
 have C__law_good:Cal l.prog w K mg base "_law_good" 3 cb []:=D43.cal X G rj fun _ _ F=>qp F T C__law_unlike C__law_turns_alike C__law_whole
 have C__law_second:Cal l.prog w K mg base "_law_second" 4 cJ []:=D44.cal X G og fun _ _ F=>nq F T C__law_row C__law_changed L_K
 have O45:FnOk l.prog w K mg base dN 10 _ _ _ (fh K zO):=E5 F45 T C__law_cell_at C__law_columns C_alike_paper C__law_row C_paper_stands C__law_second C__law_good
 exact Iv O45 fun ns hl=>law_true ns hl
end GN
open PySem PySem.W PyProof.Rows
set_option maxRecDepth 1000000 in
set_option maxHeartbeats 0 in
theorem PySem.Challenge.cw_wavewires_k59_whole_alike_or_not_holds : PySem.Challenge.rw_wavewires_k59_whole_alike_or_not.Holds := by
  refine topT ?_
  k_fill
  refine VL.GQ (k := 10) (l := PySem.Challenge.rw_wavewires_k59_whole_alike_or_not) rfl ⟨rfl, by decide, by decide⟩ rfl (fun w h Y => PySem.W.kIn_of Y) ?F
  case F =>
    intro w mg fa h KX G hmg
    refine' GN.Gn KX G hmg (VL.DefIn.mk ?a0 ?l0 ?c0 ?k0) (VL.DefIn.mk ?a1 ?l1 ?c1 ?k1) ?a2 ?l2 ?c2 ?k2 ?d2 (VL.DefIn.mk ?a3 ?l3 ?c3 ?k3) (VL.DefIn.mk ?a4 ?l4 ?c4 ?k4) (VL.DefIn.mk ?a5 ?l5 ?c5 ?k5) (VL.DefIn.mk ?a6 ?l6 ?c6 ?k6) (VL.DefIn.mk ?a7 ?l7 ?c7 ?k7) (VL.DefIn.mk ?a8 ?l8 ?c8 ?k8) (VL.DefIn.mk ?a9 ?l9 ?c9 ?k9) ?a10 ?l10 ?c10 ?k10 ?d10 (VL.DefIn.mk ?LB ?l11 ?c11 ?k11) (VL.DefIn.mk ?LA ?l12 ?c12 ?k12) (VL.DefIn.mk ?Lz ?l13 ?c13 ?k13) (VL.DefIn.mk ?Ly ?l14 ?c14 ?k14) (VL.DefIn.mk ?Lx ?l15 ?c15 ?k15) (VL.DefIn.mk ?Lw ?l16 ?c16 ?k16) (VL.DefIn.mk ?a17 ?l17 ?c17 ?k17) (VL.DefIn.mk ?a18 ?l18 ?c18 ?k18) (VL.DefIn.mk ?a19 ?l19 ?c19 ?k19) (VL.DefIn.mk ?a20 ?l20 ?c20 ?k20) (VL.DefIn.mk ?a21 ?l21 ?c21 ?k21) (VL.DefIn.mk ?a22 ?l22 ?c22 ?k22) (VL.DefIn.mk ?a23 ?l23 ?c23 ?k23) (VL.DefIn.mk ?a24 ?l24 ?c24 ?k24) (VL.DefIn.mk ?a25 ?l25 ?c25 ?k25) (VL.DefIn.mk ?a26 ?l26 ?c26 ?k26) (VL.DefIn.mk ?a27 ?l27 ?c27 ?k27) (VL.DefIn.mk ?a28 ?l28 ?c28 ?k28) (VL.DefIn.mk ?a29 ?l29 ?c29 ?k29) (VL.DefIn.mk ?a30 ?l30 ?c30 ?k30) (VL.DefIn.mk ?a31 ?l31 ?c31 ?k31) (VL.DefIn.mk ?a32 ?l32 ?c32 ?k32) (VL.DefIn.mk ?a33 ?l33 ?c33 ?k33) (VL.DefIn.mk ?a34 ?l34 ?c34 ?k34) (VL.DefIn.mk ?a35 ?l35 ?c35 ?k35) (VL.DefIn.mk ?a36 ?l36 ?c36 ?k36) (VL.DefIn.mk ?a37 ?l37 ?c37 ?k37) (VL.DefIn.mk ?a38 ?l38 ?c38 ?k38) (VL.DefIn.mk ?a39 ?l39 ?c39 ?k39) (VL.DefIn.mk ?a40 ?l40 ?c40 ?k40) (VL.DefIn.mk ?a41 ?l41 ?c41 ?k41) (VL.DefIn.mk ?a42 ?l42 ?c42 ?k42) (VL.DefIn.mk ?a43 ?l43 ?c43 ?k43) (VL.DefIn.mk ?a44 ?l44 ?c44 ?k44) ?a45 ?l45 ?c45 ?k45 ?z_min ?z_max ?z_tuple ?z_range ?z_len ?z_all ?z_list ?z_isinstance ?z_int ?z_bool ?a_NOUGHT ?d_NOUGHT ?a_ONE ?d_ONE ?a_PLAIN ?d_PLAIN ?xl
    (case a0 => k_is)
    (case l0 => k_is)
    (case c0 => k_is)
    (case k0 => k_is)
    (case a1 => k_is)
    (case l1 => k_is)
    (case c1 => k_is)
    (case k1 => k_is)
    (case a2 => k_is)
    (case l2 => k_is)
    (case c2 => k_is)
    (case k2 => k_is)
    (case d2 => k_is)
    (case a3 => k_is)
    (case l3 => k_is)
    (case c3 => k_is)
    (case k3 => k_is)
    (case a4 => k_is)
    (case l4 => k_is)
    (case c4 => k_is)
    (case k4 => k_is)
    (case a5 => k_is)
    (case l5 => k_is)
    (case c5 => k_is)
    (case k5 => k_is)
    (case a6 => k_is)
    (case l6 => k_is)
    (case c6 => k_is)
    (case k6 => k_is)
    (case a7 => k_is)
    (case l7 => k_is)
    (case c7 => k_is)
    (case k7 => k_is)
    (case a8 => k_is)
    (case l8 => k_is)
    (case c8 => k_is)
    (case k8 => k_is)
    (case a9 => k_is)
    (case l9 => k_is)
    (case c9 => k_is)
    (case k9 => k_is)
    (case a10 => k_is)
    (case l10 => k_is)
    (case c10 => k_is)
    (case k10 => k_is)
    (case d10 => k_is)
    (case LB => k_is)
    (case l11 => k_is)
    (case c11 => k_is)
    (case k11 => k_is)
    (case LA => k_is)
    (case l12 => k_is)
    (case c12 => k_is)
    (case k12 => k_is)
    (case Lz => k_is)
    (case l13 => k_is)
    (case c13 => k_is)
    (case k13 => k_is)
    (case Ly => k_is)
    (case l14 => k_is)
    (case c14 => k_is)
    (case k14 => k_is)
    (case Lx => k_is)
    (case l15 => k_is)
    (case c15 => k_is)
    (case k15 => k_is)
    (case Lw => k_is)
    (case l16 => k_is)
    (case c16 => k_is)
    (case k16 => k_is)
    (case a17 => k_is)
    (case l17 => k_is)
    (case c17 => k_is)
    (case k17 => k_is)
    (case a18 => k_is)
    (case l18 => k_is)
    (case c18 => k_is)
    (case k18 => k_is)
    (case a19 => k_is)
    (case l19 => k_is)
    (case c19 => k_is)
    (case k19 => k_is)
    (case a20 => k_is)
    (case l20 => k_is)
    (case c20 => k_is)
    (case k20 => k_is)
    (case a21 => k_is)
    (case l21 => k_is)
    (case c21 => k_is)
    (case k21 => k_is)
    (case a22 => k_is)
    (case l22 => k_is)
    (case c22 => k_is)
    (case k22 => k_is)
    (case a23 => k_is)
    (case l23 => k_is)
    (case c23 => k_is)
    (case k23 => k_is)
    (case a24 => k_is)
    (case l24 => k_is)
    (case c24 => k_is)
    (case k24 => k_is)
    (case a25 => k_is)
    (case l25 => k_is)
    (case c25 => k_is)
    (case k25 => k_is)
    (case a26 => k_is)
    (case l26 => k_is)
    (case c26 => k_is)
    (case k26 => k_is)
    (case a27 => k_is)
    (case l27 => k_is)
    (case c27 => k_is)
    (case k27 => k_is)
    (case a28 => k_is)
    (case l28 => k_is)
    (case c28 => k_is)
    (case k28 => k_is)
    (case a29 => k_is)
    (case l29 => k_is)
    (case c29 => k_is)
    (case k29 => k_is)
    (case a30 => k_is)
    (case l30 => k_is)
    (case c30 => k_is)
    (case k30 => k_is)
    (case a31 => k_is)
    (case l31 => k_is)
    (case c31 => k_is)
    (case k31 => k_is)
    (case a32 => k_is)
    (case l32 => k_is)
    (case c32 => k_is)
    (case k32 => k_is)
    (case a33 => k_is)
    (case l33 => k_is)
    (case c33 => k_is)
    (case k33 => k_is)
    (case a34 => k_is)
    (case l34 => k_is)
    (case c34 => k_is)
    (case k34 => k_is)
    (case a35 => k_is)
    (case l35 => k_is)
    (case c35 => k_is)
    (case k35 => k_is)
    (case a36 => k_is)
    (case l36 => k_is)
    (case c36 => k_is)
    (case k36 => k_is)
    (case a37 => k_is)
    (case l37 => k_is)
    (case c37 => k_is)
    (case k37 => k_is)
    (case a38 => k_is)
    (case l38 => k_is)
    (case c38 => k_is)
    (case k38 => k_is)
    (case a39 => k_is)
    (case l39 => k_is)
    (case c39 => k_is)
    (case k39 => k_is)
    (case a40 => k_is)
    (case l40 => k_is)
    (case c40 => k_is)
    (case k40 => k_is)
    (case a41 => k_is)
    (case l41 => k_is)
    (case c41 => k_is)
    (case k41 => k_is)
    (case a42 => k_is)
    (case l42 => k_is)
    (case c42 => k_is)
    (case k42 => k_is)
    (case a43 => k_is)
    (case l43 => k_is)
    (case c43 => k_is)
    (case k43 => k_is)
    (case a44 => k_is)
    (case l44 => k_is)
    (case c44 => k_is)
    (case k44 => k_is)
    (case a45 => k_is)
    (case l45 => k_is)
    (case c45 => k_is)
    (case k45 => k_is)
    (case z_min => k_is)
    (case z_max => k_is)
    (case z_tuple => k_is)
    (case z_range => k_is)
    (case z_len => k_is)
    (case z_all => k_is)
    (case z_list => k_is)
    (case z_isinstance => k_is)
    (case z_int => k_is)
    (case z_bool => k_is)
    (case a_NOUGHT => k_is)
    (case d_NOUGHT => k_is)
    (case a_ONE => k_is)
    (case d_ONE => k_is)
    (case a_PLAIN => k_is)
    (case d_PLAIN => k_is)
    (case xl => first | rfl | kernel_rfl | decide +kernel)
