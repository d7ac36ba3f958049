import PyProof.Rows.All
import Wide.All
import OpenK.AllK
import Wide.FinOn
import Lean
import PyProof.EqAt
import PyProof.EqKinds
import PyProof.TupleCall
import PySem.Challenge.RW_wavewires_k64_shortened_walked
section TopS
set_option Elab.async false
set_option linter.all false
open PySem PySem.W PyProof.Rows
def viewQ : Program := view PySem.Challenge.rw_wavewires_k64_shortened_walked.prog [1, 2, 4, 6, 8, 9, 10, 11, 13, 14, 15, 16, 17, 18, 19, 20, 22, 24, 25, 26, 27, 28, 29, 30, 31, 32, 33, 34, 35, 36, 37, 38, 39, 40, 41]
local macro_rules
  | `(tactic| o_head $H) => do
    let hw := Lean.mkIdent `hw
    let hc := Lean.mkIdent `hc
    `(tactic| refine holds_open (q := viewQ) (loose := ["lets_by"]) (Xt := fun s => xlAt viewQ [] s && recOk (RowW.records (OpenRow.toRowW PySem.Challenge.rw_wavewires_k64_shortened_walked.row)) s) (XP := XL viewQ []) (Yf := Hook.obs $H) (Ya := Hook.val $H) (YP := Hook.says $H) (N := 6000) (fun w => by (unfold openEnds fencedOpening topFrom; rw [Fast.te10274390034422433532, Fast.te14082659384304107361, Fast.te1435165496053646825, Fast.te14289696077712309145, Fast.te14364793385576792824, Fast.te4187177175401517315, Fast.te5923862056798008813]; kernel_rfl)) (Hook.of $H) (Hook.keeps $H) (fun s e => xl_of s (Bool.and_eq_true_iff.mp e).1) XL.keeps (by rfl) (by rfl) (by rfl) (fun s e => recFacts_of (Bool.and_eq_true_iff.mp e).2) (by rfl) (by first | assumption | decide +kernel) (by decide +kernel) ⟨rfl, rfl, rfl, rfl, rfl, by decide +kernel⟩ ?$hw ?$hc)
set_option maxRecDepth 1000000 in
set_option maxHeartbeats 0 in
open_top topT for PySem.Challenge.rw_wavewires_k64_shortened_walked
end TopS
noncomputable section
set_option Elab.async false
set_option linter.all false
set_option maxRecDepth 100000
namespace L2
open PySem PySem.Spec PyProof.Rows
abbrev aY:=Sum Int Str
noncomputable def nI:aY->Value->Bool
 | .inl k,v=>Value.isInt k v
 | .inr x,v=>Value.isStrOf x v
noncomputable def Hm (w:World):aY->Int
 | .inl k=>hashInt k
 | .inr x=>hashStr w x
theorem ca:∀ {k:aY} {v:Value},nI k v=true->(∃ i t,k=Sum.inl i/\v=Value.int i t)\/(∃ x t,k=Sum.inr x/\v=Value.str x t)
 | .inl i,v,h=>by
  obtain ⟨t,e⟩:=Value.isInt_shape (k:=i) (v:=v) h
  exact .inl ⟨i,t,rfl,e⟩
 | .inr x,v,h=>by
  obtain ⟨t,e⟩:=Value.isStrOf_shape (x:=x) (v:=v) h
  exact .inr ⟨x,t,rfl,e⟩
theorem u4 (i:Int) (t:Tok):nI (.inl i) (.int i t)=true:=by simp [nI,Value.isInt]
theorem uZ (x:Str) (t:Tok):nI (.inr x) (.str x t)=true:=by simp [nI,Value.isStrOf]
theorem Cf (a b:Int):decide ((Sum.inl a:aY)=Sum.inl b)=(a==b):=by
 by_cases e:a=b
 ·subst e; simp
 ·have h:¬ (Sum.inl a:aY)=Sum.inl b:=fun q=>e (Sum.inl.inj q)
  rw [decide_eq_false h]
  exact (beq_eq_false_iff_ne.mpr e).symm
theorem Cc (a b:Str):decide ((Sum.inr a:aY)=Sum.inr b)=decide (a=b):=by
 by_cases e:a=b
 ·subst e; simp
 ·have h:¬ (Sum.inr a:aY)=Sum.inr b:=fun q=>e (Sum.inr.inj q)
  rw [decide_eq_false h,decide_eq_false e]
theorem Ce (a:Int) (b:Str):decide ((Sum.inl a:aY)=Sum.inr b)=false:=decide_eq_false (fun q=>nomatch q)
theorem Cd (a:Str) (b:Int):decide ((Sum.inr a:aY)=Sum.inl b)=false:=decide_eq_false (fun q=>nomatch q)
noncomputable def ci (prog:Program) (w:World):PySem.KeyKind prog w aY where
 is:=nI
 hash:=Hm w
 inj:=fun v a b ha hb=>by
  rcases ca ha with ⟨i,t,rfl,rfl⟩ | ⟨x,t,rfl,rfl⟩
  ·rcases ca hb with ⟨j,u,rfl,e⟩ | ⟨y,u,rfl,e⟩
   ·injection e with e1 _; rw [e1]
   ·exact nomatch e
  ·rcases ca hb with ⟨j,u,rfl,e⟩ | ⟨y,u,rfl,e⟩
   ·exact nomatch e
   ·injection e with e1 _; rw [e1]
 byValue:=fun k v h=>by
  rcases ca h with ⟨i,t,rfl,rfl⟩ | ⟨x,t,rfl,rfl⟩ <;> rfl
 pyHash:=fun hv h=>by
  rcases ca hv with ⟨i,t,rfl,rfl⟩ | ⟨x,t,rfl,rfl⟩
  ·exact wpAny_pyHash_int h
  ·exact wpAny_pyHash_str h
 eqBool:=fun hu hv h=>by
  rcases ca hu with ⟨i,t,rfl,rfl⟩ | ⟨x,t,rfl,rfl⟩
  ·rcases ca hv with ⟨j,u,rfl,rfl⟩ | ⟨y,u,rfl,rfl⟩
   ·rw [Cf] at h; exact wpAny_eqBool_int h
   ·rw [Ce] at h; exact SeqAt.EqAt.int_str i t y u _ _ _ _ h
  ·rcases ca hv with ⟨j,u,rfl,rfl⟩ | ⟨y,u,rfl,rfl⟩
   ·rw [Cd] at h; exact SeqAt.EqAt.str_int x t j u _ _ _ _ h
   ·rw [Cc] at h; exact wpAny_eqBool_str h
 «strs»:=fun k x t v h=>by
  rcases ca h with ⟨i,u,rfl,e⟩ | ⟨y,u,rfl,e⟩
  ·exact nomatch e
  ·injection e with e1 _
   subst e1
   cases v <;> rfl
theorem qp (prog:Program) (w:World) (i:Int) (t:Tok):(ci prog w).is (.inl i) (.int i t)=true:=u4 i t
theorem qo (prog:Program) (w:World) (x:Str) (t:Tok):(ci prog w).is (.inr x) (.str x t)=true:=uZ x t
end L2
namespace L2
open PySem PySem.Spec PyProof.Rows
inductive V where
 | non | bl (b:Bool) | int (i:Int) | str (x:Str) | byt (b:Array UInt8) | flt (b:UInt64) | ref (a:Addr) | ty (n:String)
 deriving DecidableEq
def RelV:V->Value->Prop
 | .non,u=>u=Value.none
 | .bl b,u=>u=Value.bool b
 | .int i,u=>∃ t,u=Value.int i t
 | .str x,u=>∃ t,u=Value.str x t
 | .byt b,u=>∃ t,u=Value.bytes b t
 | .flt b,u=>∃ t,u=Value.float b t
 | .ref a,u=>u=Value.ref a
 | .ty n,u=>u=Value.type n
abbrev Vals:List V->List Value->Prop:=Paired RelV
theorem Vals.length {xs:List V} {us:List Value} (r:Vals xs us):xs.length=us.length:=Paired.length r
theorem Vals.get:∀ {xs:List V} {us:List Value} {i:Nat} {x:V},Vals xs us->xs[i]? = some x->∃ u,us[i]? = some u/\RelV x u
 | _,_,_,_,.nil,e=>by simp at e
 | _,_,0,_,.cons r _,e=>by simp at e; subst e; exact ⟨_,rfl,r⟩
 | _,_,i+1,x,.cons _ t,e=>by
  obtain ⟨u,h1,h2⟩:=Vals.get (i:=i) (x:=x) t (by simpa using e)
  exact ⟨u,by simpa using h1,h2⟩
theorem Vals.append:∀ {xs ys:List V} {us ws:List Value},Vals xs us->Vals ys ws->Vals (xs++ys) (us++ws)
 | _,_,_,_,.nil,s=>s
 | _,_,_,_,.cons r t,s=>.cons r (Vals.append t s)
theorem Vals.take:∀ {xs:List V} {us:List Value} (n:Nat),Vals xs us->Vals (xs.take n) (us.take n)
 | _,_,0,_=>.nil
 | _,_,_+1,.nil=>.nil
 | _,_,n+1,.cons r t=>.cons r (Vals.take n t)
theorem Vals.drop:∀ {xs:List V} {us:List Value} (n:Nat),Vals xs us->Vals (xs.drop n) (us.drop n)
 | _,_,0,r=>r
 | _,_,_+1,.nil=>.nil
 | _,_,n+1,.cons _ t=>Vals.drop n t
def RelO:Option V->Option Value->Prop
 | some v,some u=>RelV v u
 | none,none=>True
 | _,_=>False
def KV {κ:Type}:List (κ × V)->List (κ × Value)->Prop:=Paired fun (p:κ × V) (q:κ × Value)=>p.1=q.1/\RelV p.2 q.2
noncomputable def kV:aY->V
 | .inl i=>.int i
 | .inr x=>.str x
inductive HO where
 | lst (xs:List V)
 | tup (xs:List V)
 | dK (kvs:List (aY×V)) | dT (kvs:List (List aY×V))
 | set (S:Int->Bool) (n:Nat)
 | ins (C dx:Addr) (fs:List (Str×V))
 | own (x:Addr)
 | xd (fs:List (Str×V))
 | met (f x:Addr)
 | rng (lo hi:Int)
 | frz (o:Obj) (u:HO)
 | tbl (ps:Array Value)
 | ext (φ:Heap->Prop)
abbrev Hp:=Addr->Option HO
noncomputable def upd (H:Hp) (a:Addr) (o:HO):Hp:=fun b=>if b=a then some o else H b
theorem aL {H:Hp} {a:Addr} {o:HO}:upd H a o a=some o:=by unfold upd; rw [if_pos rfl]
theorem aQ {H:Hp} {a b:Addr} {o:HO} (h:b≠a):upd H a o b=H b:=by unfold upd; rw [if_neg h]
theorem bF {H:Hp} {a b:Addr} {o:HO} (h:H a=some o) (h':H b=none):a≠b:=by
 intro e; subst e; rw [h] at h'; cases h'
section
variable (P:Program) (w:World)
def NoDi (h:Heap) (a:Addr):Prop:=∃ o,h.get? a=some o/\o.dict=none
theorem NoDi.new (h:Heap) (o:Obj) (e:o.dict=none:=by rfl) (f:o.isFreed=false:=by rfl):NoDi (h.push o) h.objs.size:=⟨o,Heap.get?_push_size h f,e⟩
def ObjOk (H:Hp) (h:Heap) (a:Addr):HO->Prop
 | .lst xs=>xs.length<=sizeLine/\∃ (its:List Value) (n:Nat),Vals xs its/\h.get? a=some { cls:=.type "list",data:=.seq its.toArray n }
 | .tup xs=>xs.length<=sizeLine/\∃ its:List Value,Vals xs its/\IsTup h a its.toArray/\NoDi h a
 | .dK kvs=>kvs.length<=sizeLine/\(a==sysModules)=false/\∃ vs,KV kvs vs/\h.DictOf (ci P w) a vs
 | .dT kvs=>kvs.length<=sizeLine/\(a==sysModules)=false/\∃ xs:List (List aY×Addr×Value),
   Paired (fun (p:List aY×V) (q:List aY×Addr×Value)=>p.1=q.1/\H q.2.1=some (.tup (p.1.map kV))/\RelV p.2 q.2.2) kvs xs /\
   ∃ o es ep,h.get? a=some o/\o.ExactDict/\o.data=.dict es ep/\es.toList=xs.map (entryOfKey (tupleKind (ci P w)))/\(xs.map (·.1)).Nodup
 | .set S n=>h.SetOf (intKind P w) a S n
 | .ins C dx fs=>H dx=some (.own a)/\fs.length<=1000/\dx≠a/\h.get? a=some (PySem.W.instObj C dx) /\
   ∃ mA,h.Ns1 dx mA/\(∀ f,RelO (fs.lookup f) (mA f))/\PySem.Within mA (fs.map (·.1))
 | .own _=>∃ o,h.get? a=some o
 | .xd fs=>∃ mA,h.Ns1 a mA/\∀ f,RelO (fs.lookup f) (mA f)
 | .rng lo hi=>∃ t u v,h.get? a=some { cls:=.type "range",data:=.fields #[.int lo t,.int hi u,.int 1 v] }
 | .frz o u=>h.get? a=some o/\ObjOk H h a u
 | .tbl ps=>h.get? a=some { cls:=.none,data:=.fields ps }
 | .met f x=>h.get? a=some (PySem.W.methodObj (.ref f) (.ref x))
 | .ext φ=>φ h/\(∃ o,h.get? a=some o)/\∀ h1 h2:Heap,φ h1->(∀ o,h1.get? a=some o->h2.get? a=some o) -> φ h2
def HOk (H:Hp) (h:Heap):Prop:=∀ a o,H a=some o->ObjOk P w H h a o
end
section
variable {P:Program} {w:World} {H H':Hp} {h h':Heap} {a:Addr} {o:HO}
theorem ObjOk.lt (x:ObjOk P w H h a o):a<h.objs.size:=by
 cases o with
 | lst xs=>obtain ⟨_,_,_,_,e⟩:=x; exact Heap.lt_size e
 | tup xs=>obtain ⟨_,_,_,p⟩:=x; exact p.1.lt
 | dK kvs=>obtain ⟨_,_,_,_,o,_,_,e,_⟩:=x; exact Heap.lt_size e
 | dT kvs=>obtain ⟨_,_,_,_,o,_,_,e,_⟩:=x; exact Heap.lt_size e
 | set S n=>obtain ⟨o,_,_,_,e,_⟩:=x; exact Heap.lt_size e
 | ins C dx fs=>obtain ⟨_,_,_,e,_⟩:=x; exact Heap.lt_size e
 | own y=>obtain ⟨_,e⟩:=x; exact Heap.lt_size e
 | xd fs=>obtain ⟨_,⟨_,_,_,e,_⟩,_⟩:=x; exact Heap.lt_size e
 | rng lo hi=>obtain ⟨_,_,_,e⟩:=x; exact Heap.lt_size e
 | frz ob u=>obtain ⟨e,_⟩:=x; exact Heap.lt_size e
 | tbl ps=>exact Heap.lt_size (show h.get? a=some _ from x)
 | met f y=>exact Heap.lt_size (show h.get? a=some _ from x)
 | ext φ=>obtain ⟨_,⟨_,e⟩,_⟩:=x; exact Heap.lt_size e
theorem Paired.mapP {α β:Type} {F G:α -> β -> Prop}:∀ {l₁:List α} {l₂:List β},Paired F l₁ l₂ -> (∀ a b,F a b->G a b)->Paired G l₁ l₂
 | _,_,.nil,_=>.nil
 | _,_,.cons r t,f=>.cons (f _ _ r) (Paired.mapP t f)
theorem ObjOk.stay (x:ObjOk P w H h a o) (k:∀ b u,(b=a\/H b=some (.own a))->h.get? b=some u->h'.get? b=some u)
  (ho:∀ b,H b=some (.own a)->H' b=some (.own a)) (ht:∀ b xs,H b=some (.tup xs)->H' b=some (.tup xs)):ObjOk P w H' h' a o:=by
 induction o with
 | lst xs=>obtain ⟨z,its,n,r,e⟩:=x; exact ⟨z,its,n,r,k _ _ (.inl rfl) e⟩
 | tup xs=>obtain ⟨z,its,r,⟨ob,e,c⟩,od,e',c'⟩:=x; exact ⟨z,its,r,⟨ob,k _ _ (.inl rfl) e,c⟩,od,k _ _ (.inl rfl) e',c'⟩
 | dK kvs=>obtain ⟨z,y,vs,r,ob,es,ep,e,c⟩:=x; exact ⟨z,y,vs,r,ob,es,ep,k _ _ (.inl rfl) e,c⟩
 | dT kvs=>
  obtain ⟨z,y,xs,r,ob,es,ep,e,c⟩:=x
  exact ⟨z,y,xs,Paired.mapP r fun p q z=>⟨z.1,ht _ _ z.2.1,z.2.2⟩,ob,es,ep,k _ _ (.inl rfl) e,c⟩
 | set S n=>obtain ⟨ob,es,ep,t,e,c⟩:=x; exact ⟨ob,es,ep,t,k _ _ (.inl rfl) e,c⟩
 | ins C dx fs=>
  obtain ⟨d,z,ne,e,mA,⟨od,es,ep,e2,c⟩,r⟩:=x
  exact ⟨ho _ d,z,ne,k _ _ (.inl rfl) e,mA,⟨od,es,ep,k _ _ (.inr d) e2,c⟩,r⟩
 | own y=>obtain ⟨ob,e⟩:=x; exact ⟨ob,k _ _ (.inl rfl) e⟩
 | xd fs=>obtain ⟨mA,⟨od,es,ep,e,c⟩,r⟩:=x; exact ⟨mA,⟨od,es,ep,k _ _ (.inl rfl) e,c⟩,r⟩
 | rng lo hi=>obtain ⟨t,u,v,e⟩:=x; exact ⟨t,u,v,k _ _ (.inl rfl) e⟩
 | frz ob u ih=>obtain ⟨e,q⟩:=x; exact ⟨k _ _ (.inl rfl) e,ih q⟩
 | tbl ps=>
  have e:h.get? a=some { cls:=.none,data:=.fields ps }:=x
  show h'.get? a=some { cls:=.none,data:=.fields ps }
  exact k a _ (.inl rfl) e
 | met f y=>
  have e:h.get? a=some (PySem.W.methodObj (.ref f) (.ref y)):=x
  show h'.get? a=some (PySem.W.methodObj (.ref f) (.ref y))
  exact k a _ (.inl rfl) e
 | ext φ=>obtain ⟨p,⟨o,e⟩,st⟩:=x; exact ⟨st _ _ p fun o q=>k _ _ (.inl rfl) q,⟨o,k _ _ (.inl rfl) e⟩,st⟩
theorem HOk.lt (x:HOk P w H h) (e:H a=some o):a<h.objs.size:=(x a o e).lt
theorem HOk.fresh (x:HOk P w H h) (e:h.objs.size<=a):H a=none:=by
 cases q:H a with
 | none=>rfl
 | some u=>exact absurd (Nat.lt_of_lt_of_le (x.lt q) e) (Nat.lt_irrefl _)
theorem HOk.kept (x:HOk P w H h) (k:∀ b u,h.get? b=some u->h'.get? b=some u):HOk P w H h':=fun a o e=>
 (x a o e).stay (fun b u _ q=>k b u q) (fun _ q=>q) fun _ _ q=>q
theorem HOk.laid (x:HOk P w H h) (k:∀ b u,h.get? b=some u->h'.get? b=some u) (hp:h.objs.size<=a) (new:ObjOk P w (upd H a o) h' a o):HOk P w (upd H a o) h':=fun b u e=>by
 have hn:=x.fresh hp
 by_cases hb:b=a
 ·subst hb; rw [aL] at e; cases e; exact new
 ·rw [aQ hb] at e
  exact (x b u e).stay (fun c v _ q=>k c v q) (fun c q=>by rw [aQ (bF q hn)]; exact q) fun c xs q=>by rw [aQ (bF q hn)]; exact q
end
def Rd (H:Hp) (a:Addr) (u:HO):Prop:=H a=some u\/∃ o,H a=some (.frz o u)
theorem Rd.ok {P:Program} {w:World} {H:Hp} {h:Heap} {a:Addr} {u:HO} (r:Rd H a u) (x:HOk P w H h):ObjOk P w H h a u:=by
 rcases r with r | ⟨o,r⟩
 ·exact x a u r
 ·obtain ⟨_,q⟩:=x a _ r
  exact q
def FN:Option HO->Prop
 | some (.lst _)=>True
 | some (.dK _)=>True
 | some (.dT _)=>True
 | some (.set _ _)=>True
 | some (.ins _ _ _)=>True
 | some (.ext _)=>True
 | _=>False
section
variable {P:Program} {w:World} {H:Hp} {h h':Heap} {x e:Addr} {o':HO}
theorem HOk.write (ok:HOk P w H h) (mu:FN (H x)) (he:e=x\/H e=some (.own x)) (k:∀ b u,b≠e->h.get? b=some u->h'.get? b=some u) (heo:∃ u,h'.get? e=some u)
  (new:ObjOk P w (upd H x o') h' x o'):HOk P w (upd H x o') h':=fun b u q=>by
 have nown:∀ c y,H c=some (.own y)->c≠x:=fun c y r z=>by subst z; rw [r] at mu; exact mu
 have ntup:∀ c xs,H c=some (.tup xs)->c≠x:=fun c xs r z=>by subst z; rw [r] at mu; exact mu
 by_cases hb:b=x
 ·subst hb; rw [aL] at q; cases q; exact new
 ·rw [aQ hb] at q
  by_cases hbe:b=e
  ·have q':H b=some (.own x):=by
    rcases he with z | z
    ·exact absurd (hbe.trans z) hb
    ·rw [hbe]; exact z
   rw [q] at q'; cases q'
   obtain ⟨v,hv⟩:=heo
   exact ⟨v,by rw [hbe]; exact hv⟩
  ·refine (ok b u q).stay (fun c v hc r=>k c v ?_ r) (fun c r=>by rw [aQ (nown c b r)]; exact r) fun c xs r=>by rw [aQ (ntup c xs r)]; exact r
   rcases hc with rfl | hc
   ·exact hbe
   ·rintro rfl
    rcases he with z | z
    ·exact nown c b hc z
    ·rw [hc] at z; cases z; exact hb rfl
end
structure Un (fs ex:List Addr) (H H':Hp) (h h':Heap):Prop where
 keep:∀ b o,h.get? b=some o->H b=none->b ∉ fs->b ∉ ex->h'.get? b=some o
 slot:∀ b o,h.get? b=some o->H b=none->b∈fs->b ∉ ex->∃ sl,h'.get? b=some { o with slots:=sl }
 free:∀ b o,h.get? b=some o->H b=none->b ∉ ex->H' b=none
 there:∀ b o,h.get? b=some o->b ∉ ex->∃ o',h'.get? b=some o'
 tups:∀ b xs,H b=some (.tup xs)->H' b=some (.tup xs)
 frzs:∀ b o u,H b=some (.frz o u)->H' b=some (.frz o u)
 tbls:∀ b ps,H b=some (.tbl ps)->∃ more,H' b=some (.tbl (ps++more))
section
variable {fs fs' ex ex':List Addr} {H H1 H2:Hp} {h h1 h2 h':Heap} {a x e:Addr} {o:HO}
theorem Un.any (u:Un fs ex H H1 h h1) {b:Addr} {ob:Obj} (q:h.get? b=some ob) (n:H b=none) (hx:b ∉ ex):∃ sl,h1.get? b=some { ob with slots:=sl }:=by
 by_cases hb:b∈fs
 ·exact u.slot b ob q n hb hx
 ·exact ⟨ob.slots,u.keep b ob q n hb hx⟩
theorem Un.kept (k:∀ b u,h.get? b=some u->h'.get? b=some u):Un fs ex H H h h':=
 ⟨fun b ob q _ _ _=>k b ob q,fun b ob q _ _ _=>⟨ob.slots,k b ob q⟩,fun _ _ _ n _=>n,fun b ob q _=>⟨ob,k b ob q⟩,fun _ _ q=>q,fun _ _ _ q=>q,fun _ ps q=>⟨#[],by rw [q]; simp⟩⟩
theorem Un.refl:Un fs ex H H h h:=Un.kept fun _ _ q=>q
theorem Un.laid (k:∀ b u,h.get? b=some u->h'.get? b=some u) (hp:h.objs.size<=a) (hn:H a=none):Un fs ex H (upd H a o) h h' where
 keep:=fun b u q _ _ _=>k b u q
 slot:=fun b u q _ _ _=>⟨u.slots,k b u q⟩
 free:=fun b u q n _=>by rw [aQ (Nat.ne_of_lt (Nat.lt_of_lt_of_le (Heap.lt_size q) hp))]; exact n
 there:=fun b u q _=>⟨u,k b u q⟩
 tups:=fun b xs q=>by rw [aQ (bF q hn)]; exact q
 frzs:=fun b u xs q=>by rw [aQ (bF q hn)]; exact q
 tbls:=fun b ps q=>⟨#[],by rw [aQ (bF q hn),q]; simp⟩
theorem Un.write (mu:FN (H x)) (he:e=x\/H e=some (.own x)) (k:∀ b u,b≠e->h.get? b=some u->h'.get? b=some u) (heo:∃ u,h'.get? e=some u):Un fs ex H (upd H x o) h h':=by
 have hx:∀ b,H b=none->b≠x:=fun b n z=>by subst z; rw [n] at mu; exact mu
 have hb:∀ b,H b=none->b≠e:=fun b n z=>by
  subst z
  rcases he with r | r
  ·exact hx b n r
  ·rw [n] at r; cases r
 have hm:∀ b u,H b=some u->¬ FN (some u)->b≠x:=fun b u q nm z=>by subst z; rw [q] at mu; exact nm mu
 refine ⟨fun b u q n _ _=>k b u (hb b n) q,fun b u q n _ _=>⟨u.slots,k b u (hb b n) q⟩,fun b u q n _=>by rw [aQ (hx b n)]; exact n,fun b u q _=>?_,
  fun b xs q=>by rw [aQ (hm b _ q fun z=>z)]; exact q,fun b u xs q=>by rw [aQ (hm b _ q fun z=>z)]; exact q,fun b ps q=>⟨#[],by rw [aQ (hm b _ q fun z=>z),q]; simp⟩⟩
 by_cases hbe:b=e
 ·subst hbe; exact heo
 ·exact ⟨u,k b u hbe q⟩
end
noncomputable def FR (h:Heap) (H:Hp):List Addr:=(List.range h.objs.size).filter fun a=>(H a).isSome
noncomputable def o0 (h:Heap) (H:Hp):Heap:=PySem.W.hideAll h (FR h H)
theorem vd (h:Heap) (H:Hp):(o0 h H).objs.size=h.objs.size:=PySem.W.hideAll_size _ _
theorem xi {h:Heap} {H:Hp} {b:Addr} {o:Obj} (e:h.get? b=some o) (n:H b=none):(o0 h H).get? b=some o:=
 PySem.W.hideAll_get _ e fun hm=>by
  have q:(H b).isSome=true:=(List.mem_filter.mp hm).2
  rw [n] at q; simp at q
theorem zx {h:Heap} {H:Hp} {b:Addr} {o:Obj} (e:(o0 h H).get? b=some o):h.get? b=some o/\H b=none:=by
 have e':h.get? b=some o:=PySem.W.of_hideAll (FR h H) e
 refine ⟨e',?_⟩
 cases q:H b with
 | none=>rfl
 | some x=>
  have hm:b∈FR h H:=List.mem_filter.mpr ⟨List.mem_range.mpr (Heap.lt_size e'),by simp [q]⟩
  have z:(o0 h H).get? b=none:=PySem.W.hideAll_none (FR h H) hm
  rw [z] at e; cases e
noncomputable def ul (g h:Heap) (L:Addr):List (Addr×Obj):=(List.range h.objs.size).filterMap fun a=>if a=L\/(g.get? a).isSome=true then none else (h.get? a).map fun o=>(a,o)
theorem qv {g h:Heap} {L a:Addr} {o:Obj} (h1:a≠L) (h2:g.get? a=none) (h3:h.get? a=some o):(a,o)∈ul g h L:=
 List.mem_filterMap.mpr ⟨a,List.mem_range.mpr (Heap.lt_size h3),by simp [h1,h2,h3]⟩
noncomputable def rest (g h:Heap) (L d:Addr):List (Addr×Obj):=(ul g h L).filter fun p=>decide (p.1≠d)
theorem mem_rest {g h:Heap} {L d a:Addr} {o:Obj} (h1:a≠L) (h2:g.get? a=none) (h3:h.get? a=some o) (h4:a≠d):(a,o)∈rest g h L d:=
 List.mem_filter.mpr ⟨qv h1 h2 h3,decide_eq_true h4⟩
end L2
namespace L2
open PySem PySem.Spec PyProof.Rows
structure Mod (K:PySem.W.Frag) (mg:Str->Option Value) (base:Heap):Prop where
 kin:K.In base
 glob:base.Ns mainGlobals mg
 blt:∃ mb,base.Ns builtinsNs mb/\∀ x:Str,x ≠ "__name__" -> mb x=bootBuiltins x
 nolimit:base.NoLimit
structure Cx where
 prog:Program
 w:World
 K:PySem.W.Frag
 mg:Str->Option Value
 base:Heap
 A:Around
 N:List Str
 s₀:Shared
 H₀:Hp
 env:Env
 outer:List Env
 stack:List Env
 ex:List Addr
 fn:Str->Bool
 calm:Bool
 pn:List (Addr×Obj)
 xe:Value->Shared->Prop
noncomputable def t0 (l:List Env):List Addr:=l.filterMap (·.frame)
abbrev Cx.fs (X:Cx):List Addr:=t0 X.outer
def AM (sc:Scope) (x:Str):Prop:=sc.names.lookup x=some .local\/sc.names.lookup x=some .cell\/sc.names.lookup x=some .free
def xT (sc:Scope) (x:Str):Prop:=sc.names.lookup x=some .local\/sc.names.lookup x=some .cell
def Ia (env:Env) (h:Heap) (m:Str->Option Value) (x:Str) (u:Value):Prop:=
 (env.kindOf x=some .local/\m x=some u)\/((env.kindOf x=some .cell\/env.kindOf x=some .free)/\∃ c,env.cells.lookup x=some c/\h.IsCell c (some u))
structure Cx.Ok (X:Cx):Prop where
 mod:Mod X.K X.mg X.base
 kind:X.env.scope.kind=.function
 glob:X.env.globals=mainGlobals
 blt:X.env.builtins=builtinsNs
 above:X.s₀.heap.objs.size<=X.env.locals
 inj:∀ x y c,X.env.cells.lookup x=some c->X.env.cells.lookup y=some c->x=y
 has:∀ x,(X.env.kindOf x=some .cell\/X.env.kindOf x=some .free)->∃ c,X.env.cells.lookup x=some c
 cab:∀ x c,X.fn x=true->X.env.cells.lookup x=some c->X.s₀.heap.objs.size<=c
 hd:X.calm=true->X.A.handled=none
 frames:X.A.frames=some X.stack
 stk:X.stack=X.outer\/(X.stack=X.env::X.outer/\X.env.frame=some X.env.locals)
 exf:∀ b∈X.ex,b≠X.env.locals/\∀ x c,X.env.cells.lookup x=some c->c≠b
 bs:∀ b o,X.base.get? b=some o->X.s₀.heap.get? b=some o/\X.H₀ b=none
 bsz:X.base.objs.size<=X.s₀.heap.objs.size
 noex:∀ b o,X.base.get? b=some o->b ∉ X.ex
 exfs:∀ b∈X.ex,b ∉ X.fs
 funs:X.s₀.heap.FunFrames X.base X.outer
 frf:∀ b∈X.fs,X.H₀ b=none
structure Inv (X:Cx) (pins:List (Addr×Obj)) (σ:List (Option V)) (H:Hp) (s:Shared):Prop where
 ok:X.Ok
 os:s.os=X.s₀.os
 bare:AllBare s.gens
 base:Un X.fs X.ex X.H₀ H X.s₀.heap s.heap
 loc:∃ m,s.heap.Ns X.env.locals m/\∀ (i:Nat) (x:Str) (v:V),X.N[i]? = some x -> σ[i]? = some (some v)->AM X.env.scope x->∃ u,RelV v u/\Ia X.env s.heap m x u
 cell:∀ x c,X.env.cells.lookup x=some c->∃ v,s.heap.IsCell c v
 free:H X.env.locals=none
 freeC:∀ x c,X.env.cells.lookup x=some c->H c=none
 pin:∀ p∈X.pn++pins,s.heap.get? p.1=some p.2/\H p.1=none/\p.1≠X.env.locals/\p.1 ∉ X.fs/\∀ v,p.2.data≠.cell v
 hok:HOk X.prog X.w H s.heap
 len:σ.length=X.N.length
section
variable {X:Cx} {pins:List (Addr×Obj)} {σ:List (Option V)} {H H':Hp} {s:Shared} {h':Heap}
theorem Cx.Ok.nofr (ok:X.Ok) {b:Addr} {o:Obj} (e:X.base.get? b=some o):b ∉ X.fs:=fun hb=>by
 have:=(ok.funs.mem hb).1
 rw [e] at this; cases this
theorem Inv.bs (I:Inv X pins σ H s):∀ b o,X.base.get? b=some o->s.heap.get? b=some o/\H b=none:=fun b o e=>
 ⟨I.base.keep b o (I.ok.bs b o e).1 (I.ok.bs b o e).2 (I.ok.nofr e) (I.ok.noex b o e),I.base.free b o (I.ok.bs b o e).1 (I.ok.bs b o e).2 (I.ok.noex b o e)⟩
theorem Inv.bk (I:Inv X pins σ H s):∀ b o,X.base.get? b=some o->s.heap.get? b=some o:=fun b o e=>(I.bs b o e).1
theorem Inv.mod (I:Inv X pins σ H s):Mod X.K X.mg X.base:=I.ok.mod
theorem Inv.kIn (I:Inv X pins σ H s):X.K.In s.heap:=I.ok.mod.kin.keeps I.bk
theorem Inv.fr (I:Inv X pins σ H s):∃ m,Fr X.base X.env.locals s.heap m:=
 let ⟨m,hn,_⟩:=I.loc
 ⟨m,hn,I.bk,Nat.le_trans I.ok.bsz I.ok.above⟩
theorem Inv.lt (I:Inv X pins σ H s):X.env.locals<s.heap.objs.size:=let ⟨_,hn,_⟩:=I.loc; hn.lt
theorem Inv.sz (I:Inv X pins σ H s):X.s₀.heap.objs.size<=s.heap.objs.size:=Nat.le_trans I.ok.above (Nat.le_of_lt I.lt)
theorem Inv.nofs (I:Inv X pins σ H s) {a:Addr} (h:s.heap.objs.size<=a):a ∉ X.fs:=fun hb=>by
 obtain ⟨_,o,ho,_⟩:=I.ok.funs.mem hb
 exact absurd (Nat.lt_of_lt_of_le (Heap.lt_size ho) (Nat.le_trans I.sz h)) (Nat.lt_irrefl _)
theorem Inv.cne (I:Inv X pins σ H s):∀ x c,X.env.cells.lookup x=some c->c≠X.env.locals:=fun x c e z=>by
 obtain ⟨v,o,ho,hd⟩:=I.cell x c e
 obtain ⟨m,⟨o',es,ep,ho',hd',_⟩,_⟩:=I.loc
 rw [z,ho'] at ho; cases ho; rw [hd'] at hd; cases hd
theorem Inv.funs (I:Inv X pins σ H s):s.heap.FunFrames X.base X.outer:=by
 have all:∀ (l:List Env),(∀ b∈t0 l,b∈X.fs)->X.s₀.heap.FunFrames X.base l->s.heap.FunFrames X.base l:=by
  intro l
  induction l with
  | nil=>intro _ _; trivial
  | cons env r ih=>
   intro hs hl
   obtain ⟨hk,⟨L,o,hf,hn,ho,hd⟩,hr⟩:=hl
   have hL:L∈X.fs:=hs L (by unfold t0; rw [List.filterMap_cons,hf]; exact List.mem_cons_self)
   obtain ⟨sl,e⟩:=I.base.slot L o ho (I.ok.frf L hL) hL fun z=>I.ok.exfs L z hL
   exact ⟨hk,⟨L,_,hf,hn,e,hd⟩,ih (fun b hb=>hs b (by unfold t0; rw [List.filterMap_cons,hf]; exact List.mem_cons_of_mem _ hb)) hr⟩
 exact all X.outer (fun _ hb=>hb) I.ok.funs
theorem Inv.stack (I:Inv X pins σ H s):s.heap.FunFrames X.base X.stack:=by
 rcases I.ok.stk with e | ⟨e,hf⟩
 ·rw [e]; exact I.funs
 ·rw [e]
  obtain ⟨m,hn,_⟩:=I.loc
  refine .cons (by rw [I.ok.kind]; decide) hf hn ?_ I.funs
  exact Heap.get?_none_of_le (Nat.le_trans I.ok.bsz I.ok.above)
theorem Inv.stkSub (I:Inv X pins σ H s):∀ b∈t0 X.stack,b∈X.env.locals::X.fs:=fun b hb=>by
 rcases I.ok.stk with e | ⟨e,hf⟩
 ·rw [e] at hb; exact List.mem_cons_of_mem _ hb
 ·rw [e] at hb
  unfold t0 at hb
  rw [List.filterMap_cons,hf] at hb
  exact hb
theorem Inv.stkFree (I:Inv X pins σ H s):∀ b∈t0 X.stack,H b=none:=fun b hb=>by
 rcases List.mem_cons.mp (I.stkSub b hb) with e | hb
 ·rw [e]; exact I.free
 ·obtain ⟨_,o,ho,_⟩:=I.ok.funs.mem hb
  exact I.base.free b o ho (I.ok.frf b hb) fun z=>I.ok.exfs b z hb
theorem Inv.step {g':Array GenState} {t':Nat} {d':Drawn} {ch:List Addr} (I:Inv X pins σ H s)
  (hch:∀ b∈ch,(b∈X.ex\/X.s₀.heap.objs.size<=b)/\b≠X.env.locals/\(∀ x c,X.env.cells.lookup x=some c->c≠b)/\∀ p∈X.pn++pins,p.1≠b)
  (keep:∀ b o,b≠X.env.locals->b ∉ X.fs->b ∉ ch->s.heap.get? b=some o->H b=none->h'.get? b=some o)
  (slot:∀ b o,b≠X.env.locals->b∈X.fs->b ∉ ch->s.heap.get? b=some o->H b=none->∃ sl,h'.get? b=some { o with slots:=sl }) (free:∀ b o,b ∉ ch->s.heap.get? b=some o->H b=none->H' b=none)
  (there:∀ b o,b ∉ ch->s.heap.get? b=some o->∃ o',h'.get? b=some o')
  (tups:∀ b xs,H b=some (.tup xs)->H' b=some (.tup xs)) (frzs:∀ b o u,H b=some (.frz o u)->H' b=some (.frz o u)) (tbls:∀ b ps,H b=some (.tbl ps)->∃ more,H' b=some (.tbl (ps++more)))
  (ns:∀ m,s.heap.Ns X.env.locals m->h'.Ns X.env.locals m) (hok:HOk X.prog X.w H' h') (hg:AllBare g') :
  Inv X pins σ H' { s with heap:=h',gens:=g',drawn:=d',toks:=t' }:=by
 have neL:∀ b o,X.s₀.heap.get? b=some o->b≠X.env.locals:=fun b o e=>Nat.ne_of_lt (Nat.lt_of_lt_of_le (Heap.lt_size e) I.ok.above)
 have neC:∀ b o,X.s₀.heap.get? b=some o->b ∉ X.ex->b ∉ ch:=fun b o e hx hb=>by
  rcases (hch b hb).1 with z | z
  ·exact hx z
  ·exact absurd (Nat.lt_of_lt_of_le (Heap.lt_size e) z) (Nat.lt_irrefl _)
 have cellK:∀ x c,X.env.cells.lookup x=some c->∀ v,s.heap.IsCell c v->h'.IsCell c v:=fun x c e v ⟨o,ho,hd⟩=>by
  have nch:c ∉ ch:=fun z=>(hch c z).2.2.1 x c e rfl
  by_cases hc:c∈X.fs
  ·obtain ⟨sl,q⟩:=slot c o (I.cne x c e) hc nch ho (I.freeC x c e)
   exact ⟨_,q,hd⟩
  ·exact ⟨o,keep c o (I.cne x c e) hc nch ho (I.freeC x c e),hd⟩
 refine ⟨I.ok,I.os,hg,⟨fun b o e n hb hx=>?_,fun b o e n hb hx=>?_,fun b o e n hx=>?_,fun b o e hx=>?_,fun b xs e=>tups b xs (I.base.tups b xs e),fun b o xs e=>frzs b o xs (I.base.frzs b o xs e),fun b ps e=>?_⟩,?_,fun x c e=>?_,?_,fun x c e=>?_,fun p hp=>?_,hok,I.len⟩
 ·exact keep b o (neL b o e) hb (neC b o e hx) (I.base.keep b o e n hb hx) (I.base.free b o e n hx)
 ·obtain ⟨sl,e1⟩:=I.base.slot b o e n hb hx
  obtain ⟨sl',e2⟩:=slot b _ (neL b o e) hb (neC b o e hx) e1 (I.base.free b o e n hx)
  exact ⟨sl',e2⟩
 ·obtain ⟨o',e1⟩:=I.base.there b o e hx
  exact free b o' (neC b o e hx) e1 (I.base.free b o e n hx)
 ·obtain ⟨o',e1⟩:=I.base.there b o e hx
  exact there b o' (neC b o e hx) e1
 ·obtain ⟨m1,e1⟩:=I.base.tbls b ps e
  obtain ⟨m2,e2⟩:=tbls b _ e1
  exact ⟨m1++m2,by rw [e2,Array.append_assoc]⟩
 ·obtain ⟨m,hn,hl⟩:=I.loc
  refine ⟨m,ns m hn,fun i x v e1 e2 e3=>?_⟩
  obtain ⟨u,r,l⟩:=hl i x v e1 e2 e3
  refine ⟨u,r,?_⟩
  rcases l with l | ⟨k,c,e,z⟩
  ·exact .inl l
  ·exact .inr ⟨k,c,e,cellK x c e _ z⟩
 ·obtain ⟨v,z⟩:=I.cell x c e
  exact ⟨v,cellK x c e v z⟩
 ·obtain ⟨m,⟨o,_,_,ho,_⟩,_⟩:=I.loc
  exact free _ o (fun z=>(hch _ z).2.1 rfl) ho I.free
 ·obtain ⟨v,o,ho,hd⟩:=I.cell x c e
  exact free c o (fun z=>(hch c z).2.2.1 x c e rfl) ho (I.freeC x c e)
 ·obtain ⟨e,n,ne,nf,d⟩:=I.pin p hp
  have nch:p.1 ∉ ch:=fun z=>(hch p.1 z).2.2.2 p hp rfl
  exact ⟨keep p.1 p.2 ne nf nch e n,free p.1 p.2 nch e n,ne,nf,d⟩
theorem Inv.un {t':Nat} (I:Inv X pins σ H s) (u:Un X.fs [] H H' s.heap h') (hok:HOk X.prog X.w H' h'):Inv X pins σ H' { s with heap:=h',toks:=t' }:=by
 obtain ⟨m,⟨o,es,ep,ho,r⟩,_⟩:=id I.loc
 obtain ⟨sl,hL⟩:=u.any ho I.free (by simp)
 exact I.step (g':=s.gens) (d':=s.drawn) (ch:=[]) (fun _ z=>nomatch z) (fun b o _ hb _ e n=>u.keep b o e n hb (by simp)) (fun b o _ hb _ e n=>u.slot b o e n hb (by simp)) (fun b o _ e n=>u.free b o e n (by simp)) (fun b o _ e=>u.there b o e (by simp)) u.tups u.frzs u.tbls (fun m' hm=>by
  obtain ⟨o',es',ep',ho',r'⟩:=hm
  rw [ho] at ho'; cases ho'
  exact ⟨_,es',ep',hL,r'⟩) hok I.bare
theorem Inv.call {g':Array GenState} {t':Nat} {d':Drawn} {ch:List Addr} (I:Inv X pins σ H s) (u:Un (t0 X.stack) ch H H' s.heap h') (hok:HOk X.prog X.w H' h') (hg:AllBare g')
  (hch:∀ b∈ch,(b∈X.ex\/X.s₀.heap.objs.size<=b)/\b≠X.env.locals/\(∀ x c,X.env.cells.lookup x=some c->c≠b)/\∀ p∈X.pn++pins,p.1≠b) :
  Inv X pins σ H' { s with heap:=h',gens:=g',drawn:=d',toks:=t' }:=by
 obtain ⟨m,⟨o,es,ep,ho,r⟩,_⟩:=id I.loc
 obtain ⟨sl,hL⟩:=u.any ho I.free fun z=>(hch _ z).2.1 rfl
 exact I.step (ch:=ch) hch (fun b o hL hb hc e n=>u.keep b o e n (fun z=>(List.mem_cons.mp (I.stkSub b z)).elim hL hb) hc) (fun b o _ _ hc e n=>u.any e n hc) (fun b o hc e n=>u.free b o e n hc) (fun b o hc e=>u.there b o e hc) u.tups u.frzs u.tbls (fun m' hm=>by
  obtain ⟨o',es',ep',ho',r'⟩:=hm
  rw [ho] at ho'; cases ho'
  exact ⟨_,es',ep',hL,r'⟩) hok hg
theorem Inv.turned {t':Nat} {it:Addr} (I:Inv X pins σ H s) (k:∀ b o,b≠it->s.heap.get? b=some o->h'.get? b=some o) (hn:H it=none) (hL:it≠X.env.locals)
  (h1:it∈X.ex\/X.s₀.heap.objs.size<=it) (h2:∀ x c,X.env.cells.lookup x=some c->c≠it) (h3:∀ p∈X.pn++pins,p.1≠it):Inv X pins σ H { s with heap:=h',toks:=t' }:=by
 have nit:∀ b u,H b=some u->b≠it:=fun b u e z=>by rw [z,hn] at e; cases e
 refine I.step (g':=s.gens) (d':=s.drawn) (ch:=[it]) (fun b hb=>?_) (fun b o _ _ hc e _=>k b o (fun z=>hc (by simp [z])) e) (fun b o _ _ hc e _=>⟨o.slots,k b o (fun z=>hc (by simp [z])) e⟩) (fun _ _ _ _ n=>n)
  (fun b o hc e=>⟨o,k b o (fun z=>hc (by simp [z])) e⟩) (fun _ _ e=>e) (fun _ _ _ e=>e) (fun b ps e=>⟨#[],by rw [e]; simp⟩) (fun m hm=>?_) (fun b u e=>?_) I.bare
 ·have e:b=it:=by simpa using hb
  subst e
  exact ⟨h1,hL,h2,h3⟩
 ·obtain ⟨o,es,ep,ho,r⟩:=hm
  exact ⟨o,es,ep,k _ o (Ne.symm hL) ho,r⟩
 ·refine (I.hok b u e).stay (fun c v hc q=>k c v ?_ q) (fun _ q=>q) fun _ _ q=>q
  rcases hc with z | z
  ·rw [z]; exact nit b u e
  ·exact nit c _ z
theorem Inv.tok (I:Inv X pins σ H s) (t:Nat):Inv X pins σ H { s with toks:=t }:=I.un (h':=s.heap) (t':=t) Un.refl I.hok
theorem Inv.kept {t':Nat} (I:Inv X pins σ H s) (k:∀ b u,s.heap.get? b=some u->h'.get? b=some u):Inv X pins σ H { s with heap:=h',toks:=t' }:=I.un (Un.kept k) (I.hok.kept k)
theorem Inv.laid {a:Addr} {o:HO} {t':Nat} (I:Inv X pins σ H s) (k:∀ b u,s.heap.get? b=some u->h'.get? b=some u) (hp:s.heap.objs.size<=a) (new:ObjOk X.prog X.w (upd H a o) h' a o) :
  Inv X pins σ (upd H a o) { s with heap:=h',toks:=t' }:=I.un (Un.laid k hp (I.hok.fresh hp)) (I.hok.laid k hp new)
theorem Inv.write {x e:Addr} {o:HO} {t':Nat} (I:Inv X pins σ H s) (mu:FN (H x)) (he:e=x\/H e=some (.own x)) (k:∀ b u,b≠e->s.heap.get? b=some u->h'.get? b=some u) (heo:∃ u,h'.get? e=some u)
  (new:ObjOk X.prog X.w (upd H x o) h' x o):Inv X pins σ (upd H x o) { s with heap:=h',toks:=t' }:=I.un (Un.write mu he k heo) (I.hok.write mu he k heo new)
theorem Inv.weak {σ':List (Option V)} (I:Inv X pins σ H s) (hl:σ'.length = σ.length) (w:∀ (i:Nat) v,σ'[i]? = some (some v) -> σ[i]? = some (some v)):Inv X pins σ' H s:=
 ⟨I.ok,I.os,I.bare,I.base,let ⟨m,hn,hl'⟩:=I.loc; ⟨m,hn,fun i x v e1 e2 e3=>hl' i x v e1 (w i v e2) e3⟩,I.cell,I.free,I.freeC,I.pin,I.hok,hl.trans I.len⟩
theorem Inv.pins_of {pins':List (Addr×Obj)} (I:Inv X pins σ H s) (h:∀ p∈pins',s.heap.get? p.1=some p.2/\H p.1=none/\p.1≠X.env.locals/\p.1 ∉ X.fs/\∀ v,p.2.data≠.cell v):Inv X pins' σ H s:=
 ⟨I.ok,I.os,I.bare,I.base,I.loc,I.cell,I.free,I.freeC,fun p hp=>(List.mem_append.mp hp).elim (fun z=>I.pin p (List.mem_append_left _ z)) (h p),I.hok,I.len⟩
theorem qk {N:List Str} (hN:N.Nodup) {i j:Nat} {x:Str} (a:N[i]? = some x) (b:N[j]? = some x):i=j:=by
 obtain ⟨h1,e1⟩:=List.getElem?_eq_some_iff.mp a
 obtain ⟨h2,e2⟩:=List.getElem?_eq_some_iff.mp b
 exact (List.getElem_inj hN).mp (e1.trans e2.symm)
theorem uw {M:Model} {A:Around} {E:Value->Shared->Prop} {i:Nat} {x:Str} {v:V} {u:Value} {Q:Unit->Shared->Prop} (I:Inv X pins σ H s) (hN:X.N.Nodup) (hi:X.N[i]? = some x) (hx:xT X.env.scope x) (r:RelV v u)
  (h:∀ s',Inv X pins (σ.set i (some v)) H s'->(∃ a,Heap.SameBut a s.heap s'.heap/\(a=X.env.locals\/X.env.cells.lookup x=some a))->Q () s') (hf:X.fn x=true\/X.env.scope.names.lookup x=some .local:=by first | exact .inl rfl | exact .inr rfl | assumption):wpAny M A (storeName X.env x u) Q E s:=by
 obtain ⟨m,hn,hl⟩:=id I.loc
 have hcls:(X.env.scope.kind == .class||(X.env.scope.kind == .module&&X.env.locals != X.env.globals))=false:=by rw [I.ok.kind]; rfl
 have hiσ:i < σ.length:=by rw [I.len]; exact (List.getElem?_eq_some_iff.mp hi).1
 have cne:=I.cne
 have tracked:∀ {a:Addr} {h':Heap},(∃ o,s.heap.get? a=some o/\H a=none)->Heap.SameBut a s.heap h'->HOk X.prog X.w H h':=fun {a h'} ha hs b ob e=>by
  obtain ⟨_,_,hfree⟩:=ha
  refine (I.hok b ob e).stay (fun c w' hc q=>(hs.2 c ?_).trans q) (fun _ q=>q) fun _ _ q=>q
  rintro rfl
  rcases hc with rfl | hc
  ·rw [hfree] at e; cases e
  ·rw [hfree] at hc; cases hc
 rcases hx with hk | hk
 ·refine wpAny_storeName_local hk hn (fun h' hn' hs=>?_) hcls
  obtain ⟨oL,_,_,hoL,_⟩:=id hn
  refine h _ ⟨I.ok,I.os,I.bare,⟨fun b o e n hb hx=>?_,fun b o e n hb hx=>?_,I.base.free,fun b o e hx=>?_,I.base.tups,I.base.frzs,I.base.tbls⟩,⟨_,hn',fun j y v' e1 e2 e3=>?_⟩,fun y c e=>?_,I.free,I.freeC,fun p hp=>?_,tracked ⟨oL,hoL,I.free⟩ hs,by simpa using I.len⟩ ⟨_,hs,.inl rfl⟩
  ·exact (hs.2 b (Nat.ne_of_lt (Nat.lt_of_lt_of_le (Heap.lt_size e) I.ok.above))).trans (I.base.keep b o e n hb hx)
  ·obtain ⟨sl,e1⟩:=I.base.slot b o e n hb hx
   exact ⟨sl,(hs.2 b (Nat.ne_of_lt (Nat.lt_of_lt_of_le (Heap.lt_size e) I.ok.above))).trans e1⟩
  ·obtain ⟨o',e1⟩:=I.base.there b o e hx
   exact ⟨o',(hs.2 b (Nat.ne_of_lt (Nat.lt_of_lt_of_le (Heap.lt_size e) I.ok.above))).trans e1⟩
  ·by_cases hj:j=i
   ·subst hj
    rw [hi] at e1; cases e1
    rw [List.getElem?_set_self hiσ] at e2
    cases e2
    exact ⟨u,r,.inl ⟨hk,by simp⟩⟩
   ·rw [List.getElem?_set_ne (Ne.symm hj)] at e2
    obtain ⟨u',r',q⟩:=hl j y v' e1 e2 e3
    refine ⟨u',r',?_⟩
    rcases q with ⟨k,e⟩ | ⟨k,c,e,z⟩
    ·refine .inl ⟨k,?_⟩
     have:y≠x:=fun e=>hj (qk hN e1 (e ▸ hi))
     simp [this,e]
    ·exact .inr ⟨k,c,e,z.sameBut hs (cne y c e)⟩
  ·obtain ⟨w',z⟩:=I.cell y c e
   exact ⟨w',z.sameBut hs (cne y c e)⟩
  ·obtain ⟨e,n,ne,nf,d⟩:=I.pin p hp
   exact ⟨(hs.2 p.1 ne).trans e,n,ne,nf,d⟩
 ·have hfn:X.fn x=true:=by
   rcases hf with z | z
   ·exact z
   ·rw [z] at hk; cases hk
  obtain ⟨c,hc⟩:=I.ok.has x (.inl hk)
  obtain ⟨w',z⟩:=I.cell x c hc
  refine wpAny_storeName_cell I.ok.kind hk hc z (fun h' hc' hs=>?_)
  obtain ⟨oc,hoc,hocd⟩:=id z
  refine h { s with heap:=h' } ⟨I.ok,I.os,I.bare,⟨fun b o e n hb hx=>?_,fun b o e n hb hx=>?_,I.base.free,fun b o e hx=>?_,I.base.tups,I.base.frzs,I.base.tbls⟩,⟨m,hn.sameBut hs (Ne.symm (cne x c hc)),fun j y v' e1 e2 e3=>?_⟩,fun y c' e=>?_,I.free,I.freeC,fun p hp=>?_,tracked ⟨oc,hoc,I.freeC x c hc⟩ hs,by simpa using I.len⟩ ⟨c,hs,.inr hc⟩
  ·exact (hs.2 b (Nat.ne_of_lt (Nat.lt_of_lt_of_le (Heap.lt_size e) (I.ok.cab x c hfn hc)))).trans (I.base.keep b o e n hb hx)
  ·obtain ⟨sl,e1⟩:=I.base.slot b o e n hb hx
   exact ⟨sl,(hs.2 b (Nat.ne_of_lt (Nat.lt_of_lt_of_le (Heap.lt_size e) (I.ok.cab x c hfn hc)))).trans e1⟩
  ·obtain ⟨o',e1⟩:=I.base.there b o e hx
   exact ⟨o',(hs.2 b (Nat.ne_of_lt (Nat.lt_of_lt_of_le (Heap.lt_size e) (I.ok.cab x c hfn hc)))).trans e1⟩
  ·by_cases hj:j=i
   ·subst hj
    rw [hi] at e1; cases e1
    rw [List.getElem?_set_self hiσ] at e2
    cases e2
    exact ⟨u,r,.inr ⟨.inl hk,c,hc,hc'⟩⟩
   ·rw [List.getElem?_set_ne (Ne.symm hj)] at e2
    obtain ⟨u',r',q⟩:=hl j y v' e1 e2 e3
    refine ⟨u',r',?_⟩
    rcases q with q | ⟨k,c',e,z'⟩
    ·exact .inl q
    ·refine .inr ⟨k,c',e,z'.sameBut hs ?_⟩
     rintro rfl
     exact hj (qk hN e1 (I.ok.inj _ _ _ e hc ▸ hi))
  ·by_cases hcc:c'=c
   ·subst hcc; exact ⟨_,hc'⟩
   ·obtain ⟨w2,z2⟩:=I.cell y c' e
    exact ⟨w2,z2.sameBut hs hcc⟩
  ·obtain ⟨e,n,ne,nf,d⟩:=I.pin p hp
   refine ⟨(hs.2 p.1 ?_).trans e,n,ne,nf,d⟩
   intro q
   rw [q,hoc] at e
   have q':oc=p.2:=Option.some.inj e
   exact d w' (by rw [<- q']; exact hocd)
theorem pT {M:Model} {A:Around} {E:Value->Shared->Prop} {i:Nat} {x:Str} {v:V} {u:Value} {Q:Unit->Shared->Prop} (I:Inv X pins σ H s) (hN:X.N.Nodup) (hi:X.N[i]? = some x) (hx:xT X.env.scope x) (r:RelV v u)
  (h:∀ s',Inv X pins (σ.set i (some v)) H s'->Q () s') (hf:X.fn x=true\/X.env.scope.names.lookup x=some .local:=by first | exact .inl rfl | exact .inr rfl | assumption):wpAny M A (storeName X.env x u) Q E s:=
 uw I hN hi hx r (fun s' I' _=>h s' I') hf
theorem Inv.call' {s':Shared} {ch:List Addr} (I:Inv X pins σ H s) (ho:s'.os=s.os) (u:Un (t0 X.stack) ch H H' s.heap s'.heap) (hok:HOk X.prog X.w H' s'.heap) (hg:AllBare s'.gens)
  (hch:∀ b∈ch,(b∈X.ex\/X.s₀.heap.objs.size<=b)/\b≠X.env.locals/\(∀ x c,X.env.cells.lookup x=some c->c≠b)/\∀ p∈X.pn++pins,p.1≠b):Inv X pins σ H' s':=by
 obtain ⟨h',g',d',t',o'⟩:=s'
 have e:o'=s.os:=ho
 subst e
 exact I.call (g':=g') (t':=t') (d':=d') u hok hg hch
end
abbrev XK:=Value->Option Addr->Hp->Prop
abbrev St:=List (Option V)
abbrev VK:=V->Hp->Prop
abbrev TE:=St->Hp->VK->Prop
abbrev TT:=St->Hp->(Bool->Hp->Prop)->Prop
abbrev TA:=St->Hp->(List V->Hp->Prop)->Prop
structure Ends where
 nx:St->Hp->Prop
 rt:VK
 bk:St->Hp->Prop:=fun _ _=>False
 ct:St->Hp->Prop:=fun _ _=>False
abbrev TS:=Ends->St->Hp->Prop
def EP (X:Cx) (pins:List (Addr×Obj)) (σ:St) (Q:VK) (u:Value) (s':Shared):Prop:=∃ v H',Inv X pins σ H' s'/\RelV v u/\Q v H'
def TP (X:Cx) (pins:List (Addr×Obj)) (σ:St) (Q:Bool->Hp->Prop) (b:Bool) (s':Shared):Prop:=∃ H',Inv X pins σ H' s'/\Q b H'
def AP (X:Cx) (pins:List (Addr×Obj)) (σ:St) (Q:List V->Hp->Prop) (us:List Value) (s':Shared):Prop:=∃ vs H',Inv X pins σ H' s'/\Vals vs us/\Q vs H'
def SP (X:Cx) (pins:List (Addr×Obj)) (D:Ends) (f:Flow) (s':Shared):Prop:=
 match f with
 | .next=>∃ σ' H',Inv X pins σ' H' s'/\D.nx σ' H'
 | .brk=>∃ σ' H',Inv X pins σ' H' s'/\D.bk σ' H'
 | .cont=>∃ σ' H',Inv X pins σ' H' s'/\D.ct σ' H'
 | .ret u=>∃ v σ' H',Inv X pins σ' H' s'/\RelV v u/\D.rt v H'
def PE (X:Cx) (e:Expr) (t:TE):Prop:=
 ∀ (pins:List (Addr×Obj)) (s:Shared) (σ:St) (H:Hp) (Q:VK),Inv X pins σ H s->t σ H Q->wpAny (model X.prog X.w) X.A (eval e X.env) (EP X pins σ Q) X.xe s
def PT (X:Cx) (e:Expr) (t:TT):Prop:=
 ∀ (pins:List (Addr×Obj)) (s:Shared) (σ:St) (H:Hp) (Q:Bool->Hp->Prop),Inv X pins σ H s->t σ H Q->wpAny (model X.prog X.w) X.A (isTrue e X.env (eval e X.env)) (TP X pins σ Q) X.xe s
def PW (X:Cx) (e:Expr) (t:TT):Prop:=
 ∀ (whole:Sem Value) (pins:List (Addr×Obj)) (s:Shared) (σ:St) (H:Hp) (Q:Bool->Hp->Prop),Inv X pins σ H s->t σ H Q->wpAny (model X.prog X.w) X.A (isTrue e X.env whole) (TP X pins σ Q) X.xe s
theorem PW.pt {X:Cx} {e:Expr} {t:TT} (h:PW X e t):PT X e t:=h _
def PA (X:Cx) (es:List Expr) (t:TA):Prop:=
 ∀ (pos:Pos) (pins:List (Addr×Obj)) (s:Shared) (σ:St) (H:Hp) (Q:List V->Hp->Prop),Inv X pins σ H s->t σ H Q->wpAny (model X.prog X.w) X.A (spliced (backTo pos (starEach es X.env))) (AP X pins σ Q) X.xe s
def PS (X:Cx) (st:Stmt) (t:TS):Prop:=
 ∀ (pins:List (Addr×Obj)) (s:Shared) (σ:St) (H:Hp) (D:Ends),Inv X pins σ H s->t D σ H->wpAny (model X.prog X.w) X.A (exec st X.env) (SP X pins D) X.xe s
def PSs (X:Cx) (st:List Stmt) (t:TS):Prop:=
 ∀ (pins:List (Addr×Obj)) (s:Shared) (σ:St) (H:Hp) (D:Ends),Inv X pins σ H s->t D σ H->wpAny (model X.prog X.w) X.A (execs st X.env) (SP X pins D) X.xe s
theorem cf {α:Type} {t:Sem α} {Q Q':α -> Shared->Prop} {M:Model} {A:Around} {E:Value->Shared->Prop} {s:Shared} (h:wpAny M A t Q E s) (hQ:∀ a s,Q a s->Q' a s):wpAny M A t Q' E s:=wpAny_mono h hQ fun _ _ x=>x
end L2
namespace L2
open PySem PySem.Spec PyProof.Rows
section
variable {X:Cx}
def Gv (i:Nat):TE:=fun σ H Q=>∃ v,σ[i]? = some (some v)/\Q v H
def tC (v:V):TE:=fun _ H Q=>Q v H
theorem iR {i:Nat} {x:Str} {pos:Pos} (hN:X.N[i]? = some x) (hv:AM X.env.scope x) (hd:(x==("__debug__":Str))=false:=by decide) (hcd:(x==("__classdict__":Str))=false:=by decide):PE X (.Name x pos) (Gv i):=by
 intro pins s σ H Q I h
 obtain ⟨v,e,h⟩:=h
 obtain ⟨m,hn,hl⟩:=I.loc
 obtain ⟨u,r,l⟩:=hl i x v hN e hv
 have fin:EP X pins σ Q u s:=⟨v,H,I,r,h⟩
 rcases l with ⟨hk,hm⟩ | ⟨hk,c,hc,hcell⟩
 ·exact wpAny_Name (wpAny_loadName_local I.ok.kind hk hn hm fin) hd
 ·rcases hk with hk | hk
  ·exact wpAny_Name (wpAny_loadName_cell I.ok.kind hk hc hcell fin) hd
  ·exact wpAny_Name (wpAny_loadName_free I.ok.kind hk hc hcell fin hcd) hd
theorem wk {i j pos}:PE X (.Constant (.int i) j pos) (tC (.int i)):=fun _ _ _ H _ I h=>wpAny_Constant_int ⟨.int i,H,I.tok _,⟨_,rfl⟩,h⟩
theorem Ee {b j pos}:PE X (.Constant (.bool b) j pos) (tC (.bl b)):=fun _ _ _ H _ I h=>Constant_bool ⟨.bl b,H,I,rfl,h⟩
theorem BP {j pos}:PE X (.Constant .none j pos) (tC .non):=fun _ _ _ H _ I h=>Constant_none ⟨.non,H,I,rfl,h⟩
theorem BM {x j pos}:PE X (.Constant (.str x) j pos) (tC (.str x)):=fun _ _ _ H _ I h=>Calls.Constant_str ⟨.str x,H,I.tok _,⟨_,rfl⟩,h⟩
def Gl (X:Cx) (x:Str):Prop:=X.env.kindOf x=some .globalImplicit
theorem tQ {E:Value->Shared->Prop} {pins:List (Addr×Obj)} {s:Shared} {σ:St} {H:Hp} {x:Str} {u:Value} {pos:Pos} {Q:Value->Shared->Prop} (I:Inv X pins σ H s) (hg:Gl X x) (hm:X.mg x=some u) (h:Q u s)
  (hd:(x==("__debug__":Str))=false:=by decide):wpAny (model X.prog X.w) X.A (eval (.Name x pos) X.env) Q E s:=
 Calls.Name_function_global I.ok.kind hg (Calls.loadGlobal_global (by rw [I.ok.glob]; exact I.mod.glob.keeps I.bk) hm h) hd
theorem j7 {E:Value->Shared->Prop} {pins:List (Addr×Obj)} {s:Shared} {σ:St} {H:Hp} {x:Str} {u:Value} {pos:Pos} {Q:Value->Shared->Prop} (I:Inv X pins σ H s) (hg:Gl X x) (hm:X.mg x=none) (hv:bootBuiltins x=some u) (h:Q u s)
  (hn:x ≠ "__name__":=by decide) (hd:(x==("__debug__":Str))=false:=by decide):wpAny (model X.prog X.w) X.A (eval (.Name x pos) X.env) Q E s:=by
 obtain ⟨mb,h1,h2⟩:=I.mod.blt
 exact Calls.Name_function_global I.ok.kind hg (Calls.loadGlobal_builtin (by rw [I.ok.glob]; exact I.mod.glob.keeps I.bk) hm (by rw [I.ok.blt]; exact h1.keeps I.bk) ((h2 x hn).trans hv) h) hd
theorem zi {x:Str} {v:V} {u:Value} {pos:Pos} (hg:Gl X x) (hm:X.mg x=some u) (r:RelV v u) (hd:(x==("__debug__":Str))=false:=by decide):PE X (.Name x pos) (tC v):=
 fun _ _ _ H _ I h=>tQ I hg hm ⟨v,H,I,r,h⟩ hd
theorem zo {x:Str} {v:V} {u:Value} {pos:Pos} (hg:Gl X x) (hm:X.mg x=none) (hv:bootBuiltins x=some u) (r:RelV v u) (hn:x ≠ "__name__":=by decide) (hd:(x==("__debug__":Str))=false:=by decide):PE X (.Name x pos) (tC v):=
 fun _ _ _ H _ I h=>j7 I hg hm hv ⟨v,H,I,r,h⟩ hn hd
variable {a b:Expr} {ta tb:TE} {pos:Pos}
def tB (t:TE):TT:=fun σ H Q=>t σ H fun x H1=>∃ c,x=.bl c/\Q c H1
theorem BF {e:Expr} {t:TE} (h:PE X e t) (he:∀ whole,isTrue e X.env whole=(do let v <- whole; standAt e.pos; holding [v] (truthy v)):=by intro _; rfl):PT X e (tB t):=by
 intro pins s σ H Q I hw
 refine isTrue_plain (cf (h pins s σ H _ I hw) fun v s1 ⟨x,H1,I1,r1,q1⟩=>?_) (he _)
 obtain ⟨d,rfl,q⟩:=q1
 cases r1
 exact wpAny_truthy_bool ⟨H1,I1,q⟩
variable {tA tB':TT} {rest:List Expr}
def GH (t u:TT):TT:=fun σ H Q=>t σ H fun c H1=>if c=true then u σ H1 Q else Q false H1
def Jm (t u:TT):TT:=fun σ H Q=>t σ H fun c H1=>if c=true then Q true H1 else u σ H1 Q
def GC (t:TT):TT:=fun σ H Q=>t σ H fun c H1=>Q (!c) H1
theorem yY (ha:PT X a tA):PW X (.BoolOp .And [a] pos) tA:=by
 intro wh pins s σ H Q I h
 refine isTrue_and (cf (ha pins s σ H Q I h) fun c s1 e=>?_)
 cases c with
 | true=>exact isTrue_and_nil e
 | false=>exact e
theorem BC (ha:PT X a tA):PW X (.BoolOp .Or [a] pos) tA:=by
 intro wh pins s σ H Q I h
 refine isTrue_or (cf (ha pins s σ H Q I h) fun c s1 e=>?_)
 cases c with
 | false=>exact isTrue_or_nil e
 | true=>exact e
theorem BE (ha:PT X a tA) (hb:PW X (.BoolOp .And (b::rest) pos) tB'):PW X (.BoolOp .And (a::b::rest) pos) (GH tA tB'):=by
 intro wh pins s σ H Q I h
 refine isTrue_and (cf (ha pins s σ H _ I h) fun c s1 ⟨H1,I1,q1⟩=>?_)
 cases c with
 | true=>exact hb wh pins s1 σ H1 Q I1 q1
 | false=>exact ⟨H1,I1,q1⟩
theorem DX (ha:PT X a tA) (hb:PW X (.BoolOp .Or (b::rest) pos) tB'):PW X (.BoolOp .Or (a::b::rest) pos) (Jm tA tB'):=by
 intro wh pins s σ H Q I h
 refine isTrue_or (cf (ha pins s σ H _ I h) fun c s1 ⟨H1,I1,q1⟩=>?_)
 cases c with
 | true=>exact ⟨H1,I1,q1⟩
 | false=>exact hb wh pins s1 σ H1 Q I1 q1
theorem BG (ha:PT X a tA):PT X (.UnaryOp .Not a pos) (GC tA):=by
 intro pins s σ H Q I h
 exact isTrue_not (ha pins s σ H (fun c H1=>Q (!c) H1) I h)
def DL (ta tb:TE):TE:=fun σ H Q=>ta σ H fun x H1=>∃ c,x=.bl c/\if c=true then tb σ H1 Q else Q (.bl false) H1
def GB (ta tb:TE):TE:=fun σ H Q=>ta σ H fun x H1=>∃ c,x=.bl c/\if c=true then Q (.bl true) H1 else tb σ H1 Q
def DD (ta:TE):TE:=fun σ H Q=>ta σ H fun x H1=>∃ c,x=.bl c/\Q (.bl (!c)) H1
theorem BN {op} {t:TE} (h:PE X a t):PE X (.BoolOp op [a] pos) t:=fun pins s σ H Q I hw=>BoolOp_one (h pins s σ H Q I hw)
theorem BR (ha:PE X a ta) (hb:PE X (.BoolOp .And (b::rest) pos) tb):PE X (.BoolOp .And (a::b::rest) pos) (DL ta tb):=by
 intro pins s σ H Q I h
 refine BoolOp_and (cf (ha pins s σ H _ I h) fun v s1 ⟨x,H1,I1,r1,q1⟩=>?_)
 obtain ⟨c,rfl,q1⟩:=q1
 cases r1
 refine wpAny_truthy_bool ?_
 cases c with
 | true=>exact hb pins s1 σ H1 Q I1 q1
 | false=>exact ⟨.bl false,H1,I1,rfl,q1⟩
theorem Ec (ha:PE X a ta) (hb:PE X (.BoolOp .Or (b::rest) pos) tb):PE X (.BoolOp .Or (a::b::rest) pos) (GB ta tb):=by
 intro pins s σ H Q I h
 refine BoolOp_or (cf (ha pins s σ H _ I h) fun v s1 ⟨x,H1,I1,r1,q1⟩=>?_)
 obtain ⟨c,rfl,q1⟩:=q1
 cases r1
 refine wpAny_truthy_bool ?_
 cases c with
 | false=>exact hb pins s1 σ H1 Q I1 q1
 | true=>exact ⟨.bl true,H1,I1,rfl,q1⟩
theorem BO (ha:PE X a ta):PE X (.UnaryOp .Not a pos) (DD ta):=by
 intro pins s σ H Q I h
 refine UnaryOp_ (cf (ha pins s σ H _ I h) fun v s1 ⟨x,H1,I1,r1,q1⟩=>?_)
 obtain ⟨c,rfl,q1⟩:=q1
 cases r1
 exact not_of (wpAny_truthy_bool ⟨.bl (!c),H1,I1,rfl,q1⟩)
def Jn (t:TT) (ta tb:TE):TE:=fun σ H Q=>t σ H fun c H1=>if c=true then ta σ H1 Q else tb σ H1 Q
theorem wm {c:Expr} (hc:PT X c tA) (ha:PE X a ta) (hb:PE X b tb):PE X (.IfExp c a b pos) (Jn tA ta tb):=by
 intro pins s σ H Q I h
 refine wpAny_IfExp (cf (hc pins s σ H _ I h) fun d s1 ⟨H1,I1,q1⟩=>?_)
 cases d with
 | true=>exact ha pins s1 σ H1 Q I1 q1
 | false=>exact hb pins s1 σ H1 Q I1 q1
end
end L2
namespace L2
open PySem PySem.Spec PyProof.Rows
def SqL (K:PySem.W.Frag) (H:Hp) (a:Addr) (xs:List V):Prop:=
 Rd H a (.lst xs) \/
  ∃ (o:Obj) (its:Array Value) (n:Nat),K.lookup a=some o/\o.cls=.type "list" /\ o.dict=none/\o.data=.seq its n/\its.size<=sizeLine/\Vals xs its.toList
def SqT (K:PySem.W.Frag) (H:Hp) (a:Addr) (xs:List V):Prop:=
 Rd H a (.tup xs) \/
  ∃ (o:Obj) (its:Array Value) (n:Nat),K.lookup a=some o/\o.cls=.type "tuple" /\ o.data=.seq its n/\its.size<=sizeLine/\Vals xs its.toList/\o.dict=none
noncomputable def H9:Value->Option V
 | .none=>some .non
 | .bool b=>some (.bl b)
 | .int i _=>some (.int i)
 | .str x _=>some (.str x)
 | .bytes b _=>some (.byt b)
 | .float b _=>some (.flt b)
 | .ref a=>some (.ref a)
 | .type n=>some (.ty n)
 | _=>none
theorem RelV.abs {x:V} {u:Value} (r:RelV x u):H9 u=some x:=by
 cases x with
 | non=>cases r; rfl
 | bl _=>cases r; rfl
 | int _=>obtain ⟨t,rfl⟩:=r; rfl
 | str _=>obtain ⟨t,rfl⟩:=r; rfl
 | byt _=>obtain ⟨t,rfl⟩:=r; rfl
 | flt _=>obtain ⟨t,rfl⟩:=r; rfl
 | ref _=>cases r; rfl
 | ty _=>cases r; rfl
theorem RelV.inj {x y:V} {u:Value} (r:RelV x u) (q:RelV y u):x=y:=Option.some.inj (r.abs.symm.trans q.abs)
theorem Vals.inj:∀ {xs ys:List V} {us:List Value},Vals xs us->Vals ys us->xs=ys
 | _,_,_,.nil,.nil=>rfl
 | _,_,_,.cons r t,.cons r' t'=>by rw [r.inj r',Vals.inj t t']
section
variable {X:Cx} {pins:List (Addr×Obj)} {σ:St} {H:Hp} {s:Shared} {a:Addr} {xs ys:List V}
theorem SqL.of {K:PySem.W.Frag} (h:H a=some (.lst xs)):SqL K H a xs:=.inl (.inl h)
theorem SqT.of {K:PySem.W.Frag} (h:H a=some (.tup xs)):SqT K H a xs:=.inl (.inl h)
theorem Inv.list (I:Inv X pins σ H s) (h:SqL X.K H a xs):∃ its:List Value,Vals xs its/\PlainL s.heap a its.toArray/\xs.length<=sizeLine:=by
 rcases h with h | ⟨o,its,n,hk,hc,hd,hs,hz,r⟩
 ·obtain ⟨z,its,n,r,e⟩:=h.ok I.hok
  exact ⟨its,r,⟨_,n,e,rfl,rfl,rfl⟩,z⟩
 ·refine ⟨its.toList,r,⟨o,n,I.kIn a o hk,hc,hd,by simpa using hs⟩,?_⟩
  have e:=r.length
  simp only [Array.length_toList] at e
  omega
theorem Inv.tuple (I:Inv X pins σ H s) (h:SqT X.K H a xs):∃ its:List Value,Vals xs its/\IsTup s.heap a its.toArray/\xs.length<=sizeLine:=by
 rcases h with h | ⟨o,its,n,hk,hc,hs,hz,r,hd⟩
 ·obtain ⟨z,its,r,p⟩:=h.ok I.hok
  exact ⟨its,r,p.1,z⟩
 ·refine ⟨its.toList,r,⟨o,I.kIn a o hk,hc,n,by simpa using hs⟩,?_⟩
  have e:=r.length
  simp only [Array.length_toList] at e
  omega
theorem Inv.list_inj (I:Inv X pins σ H s) (h:SqL X.K H a xs) (h':SqL X.K H a ys):xs=ys:=by
 obtain ⟨its,r,⟨o,n,e,_,_,d⟩,_⟩:=I.list h
 obtain ⟨its',r',⟨o',n',e',_,_,d'⟩,_⟩:=I.list h'
 rw [e] at e'; cases e'
 rw [d] at d'
 injection d' with d1 _
 have:its=its':=by simpa using congrArg Array.toList d1
 subst this
 exact r.inj r'
theorem Inv.tuple_inj (I:Inv X pins σ H s) (h:SqT X.K H a xs) (h':SqT X.K H a ys):xs=ys:=by
 obtain ⟨its,r,⟨o,e,_,n,d⟩,_⟩:=I.tuple h
 obtain ⟨its',r',⟨o',e',_,n',d'⟩,_⟩:=I.tuple h'
 rw [e] at e'; cases e'
 rw [d] at d'
 injection d' with d1 _
 have:its=its':=by simpa using congrArg Array.toList d1
 subst this
 exact r.inj r'
end
abbrev Cx.wish (X:Cx) (E:Value->Shared->Prop):Cx:={ X with xe:=E }
abbrev Cx.nox (X:Cx):Cx:=X.wish fun _ _=>False
theorem Cx.Ok.wish {X:Cx} (ok:X.Ok) (E:Value->Shared->Prop):(X.wish E).Ok:=
 ⟨ok.mod,ok.kind,ok.glob,ok.blt,ok.above,ok.inj,ok.has,ok.cab,ok.hd,ok.frames,ok.stk,ok.exf,ok.bs,ok.bsz,ok.noex,ok.exfs,ok.funs,ok.frf⟩
theorem Cx.Ok.unwish {X:Cx} {E:Value->Shared->Prop} (ok:(X.wish E).Ok):X.Ok:=
 ⟨ok.mod,ok.kind,ok.glob,ok.blt,ok.above,ok.inj,ok.has,ok.cab,ok.hd,ok.frames,ok.stk,ok.exf,ok.bs,ok.bsz,ok.noex,ok.exfs,ok.funs,ok.frf⟩
section
variable {X:Cx} {pins:List (Addr×Obj)} {σ:St} {H:Hp} {s:Shared} {E:Value->Shared->Prop}
theorem Inv.wish (I:Inv X pins σ H s) (E:Value->Shared->Prop):Inv (X.wish E) pins σ H s:=⟨I.ok.wish E,I.os,I.bare,I.base,I.loc,I.cell,I.free,I.freeC,I.pin,I.hok,I.len⟩
theorem Inv.unwish (I:Inv (X.wish E) pins σ H s):Inv X pins σ H s:=⟨I.ok.unwish,I.os,I.bare,I.base,I.loc,I.cell,I.free,I.freeC,I.pin,I.hok,I.len⟩
theorem SP.unwish {D:Ends} {f:Flow} {s':Shared} (h:SP (X.wish E) pins D f s'):SP X pins D f s':=by
 cases f with
 | next=>obtain ⟨σ',H',I,q⟩:=h; exact ⟨σ',H',I.unwish,q⟩
 | brk=>obtain ⟨σ',H',I,q⟩:=h; exact ⟨σ',H',I.unwish,q⟩
 | cont=>obtain ⟨σ',H',I,q⟩:=h; exact ⟨σ',H',I.unwish,q⟩
 | ret u=>obtain ⟨v,σ',H',I,r,q⟩:=h; exact ⟨v,σ',H',I.unwish,r,q⟩
theorem PSs.nox {st:List Stmt} {t:TS} (h:PSs X.nox st t):PSs X st t:=fun pins s σ H D I hw=>
 wpAny_mono (h pins s σ H D (I.wish _) hw) (fun _ _ q=>q.unwish) fun _ _ z=>False.elim z
end
section
variable {X:Cx} {st:Stmt} {rest:List Stmt} {t u:TS} {e:Expr} {te:TE} {pos:Pos}
def DF:TS:=fun D σ H=>D.nx σ H
def Gz (t u:TS):TS:=fun D σ H=>t { D with nx:=u D } σ H
theorem y9:PSs X [] DF:=fun _ _ σ H _ I h=>wpAny_execs_nil ⟨σ,H,I,h⟩
theorem g8 (h1:PS X st t) (h2:PSs X rest u):PSs X (st::rest) (Gz t u):=by
 intro pins s σ H D I h
 refine wpAny_execs_cons (cf (h1 pins s σ H { D with nx:=u D } I h) fun f s1 q=>?_)
 cases f with
 | next=>
  obtain ⟨σ',H',I',q⟩:=q
  exact h2 pins s1 σ' H' D I' q
 | ret v=>exact q
 | brk=>exact q
 | cont=>exact q
theorem y8 (h1:PS X st t):PSs X [st] t:=by
 intro pins s σ H D I h
 refine wpAny_execs_cons (cf (h1 pins s σ H D I h) fun f s1 q=>?_)
 cases f with
 | next=>exact wpAny_execs_nil q
 | ret v=>exact q
 | brk=>exact q
 | cont=>exact q
theorem Inv.quiet {pins:List (Addr×Obj)} {σ:St} {H:Hp} {s:Shared} (I:Inv X pins σ H s):interactive X.env=false:=by simp [interactive,I.ok.kind]
def DG (te:TE):TS:=fun D σ H=>te σ H fun _ H1=>D.nx σ H1
theorem oz (he:PE X e te) (hs:swapsWith e none pos.line X.env=pure false:=by rfl):PS X (.Expr e pos) (DG te):=by
 intro pins s σ H D I h
 exact wpAny_Expr_any (cf (he pins s σ H _ I h) fun v s1 ⟨x,H1,I1,r1,q1⟩=>⟨σ,H1,I1,q1⟩) I.quiet hs
def GA (te:TE):TS:=fun D σ H=>te σ H D.rt
theorem BH (he:PE X e te):PS X (.Return (some e) pos) (GA te):=by
 intro pins s σ H D I h
 exact wpAny_Return_some (cf (he pins s σ H _ I h) fun v s1 ⟨x,H1,I1,r1,q1⟩=>⟨x,σ,H1,I1,r1,q1⟩)
def GF (c:TT) (t u:TS):TS:=fun D σ H=>c σ H fun b H1=>if b=true then t D σ H1 else u D σ H1
theorem D6 {c:Expr} {a b:List Stmt} {tc:TT} (hc:PT X c tc) (ha:PSs X a t) (hb:PSs X b u):PS X (.If c a b pos) (GF tc t u):=by
 intro pins s σ H D I h
 refine wpAny_If (cf (hc pins s σ H _ I h) fun d s1 ⟨H1,I1,q1⟩=>?_)
 cases d with
 | true=>exact ha pins s1 σ H1 D I1 q1
 | false=>exact hb pins s1 σ H1 D I1 q1
end
abbrev TG:=V->St->Hp->(St->Hp->Prop)->Prop
abbrev AN:=List V->St->Hp->(St->Hp->Prop)->Prop
def PG (X:Cx) (target:Expr) (t:TG):Prop:=
 ∀ (pins:List (Addr×Obj)) (s:Shared) (σ:St) (H:Hp) (v:V) (u:Value) (Q:St->Hp->Prop),Inv X pins σ H s->RelV v u->t v σ H Q ->
  wpAny (model X.prog X.w) X.A (assign target X.env u) (fun _ s'=>∃ σ' H',Inv X pins σ' H' s'/\Q σ' H') X.xe s
def PGs (X:Cx) (ts:List Expr) (t:AN):Prop:=
 ∀ (pins:List (Addr×Obj)) (s:Shared) (σ:St) (H:Hp) (vs:List V) (us:List Value) (Q:St->Hp->Prop),Inv X pins σ H s->Vals vs us->t vs σ H Q ->
  wpAny (model X.prog X.w) X.A (assignInOrder ((assignEach ts X.env).map (·.2)) us) (fun _ s'=>∃ σ' H',Inv X pins σ' H' s'/\Q σ' H') X.xe s
section
variable {X:Cx} {pos:Pos}
def xp (i:Nat):TG:=fun v σ H Q=>Q (σ.set i (some v)) H
theorem cu {i:Nat} {x:Str} (hN:X.N.Nodup) (hi:X.N[i]? = some x) (hx:xT X.env.scope x) (hf:X.fn x=true\/X.env.scope.names.lookup x=some .local:=by first | exact .inl rfl | exact .inr rfl | assumption):PG X (.Name x pos) (xp i):=by
 intro pins s σ H v u Q I r h
 exact wpAny_assign_Name (pT I hN hi hx r (fun s' I'=>⟨_,H,I',h⟩) hf)
noncomputable def HA:AN:=fun vs σ H Q=>vs=[]/\Q σ H
def Fa (t:TG) (u:AN):AN:=fun vs σ H Q=>∃ v r,vs=v::r/\t v σ H fun σ' H'=>u r σ' H' Q
theorem zg:PGs X [] HA:=by
 intro pins s σ H vs us Q I r h
 obtain ⟨e,h⟩:=h
 subst e
 cases r
 exact assignInOrder_nil ⟨σ,H,I,h⟩
theorem wc {e:Expr} {es:List Expr} {t:TG} {u:AN} (h1:PG X e t) (h2:PGs X es u)
  (hs:(assignEach (e::es) X.env).map (·.2)=assign e X.env::(assignEach es X.env).map (·.2):=by rfl):PGs X (e::es) (Fa t u):=by
 intro pins s σ H vs us Q I r h
 obtain ⟨v,vr,e1,h⟩:=h
 subst e1
 cases r with
 | cons r rr=>
  rw [hs]
  refine assignInOrder_cons (cf (h1 pins s σ H _ _ _ I r h) fun _ s1 ⟨σ1,H1,I1,q1⟩=>?_)
  exact h2 pins s1 σ1 H1 _ _ Q I1 rr q1
def Hy (K:PySem.W.Frag) (n:Nat) (t:AN):TG:=fun v σ H Q=>∃ a xs,v=.ref a/\SqT K H a xs/\xs.length=n/\t xs σ H Q
theorem BK {es:List Expr} {k:Nat} {t:AN} {n:Nat} (hc:X.calm=true) (h:PGs X es t)
  (hn:(assignEach es X.env).length=n:=by rfl) (hst:(assignEach es X.env).findIdx? (·.1)=none:=by rfl):PG X (.Tuple es k pos) (Hy X.K n t):=by
 intro pins s σ H v u Q I r hw
 obtain ⟨a,xs,e1,hq,hl,hw⟩:=hw
 subst e1
 cases r
 obtain ⟨its,rv,ht,hz⟩:=I.tuple hq
 refine assign_Tuple_tuple (I.ok.hd hc) ht (by simp [hn,<- hl,rv.length]) hst fun h' hx=>?_
 have I1:Inv X pins σ H { s with heap:=h' }:=I.kept (t':=s.toks) fun b o e=>hx b o (Nat.ne_of_lt (Heap.lt_size e)) e
 exact h pins _ σ H xs _ Q I1 (by simpa using rv) hw
def DK (te:TE) (g:TG):TS:=fun D σ H=>te σ H fun x H1=>g x σ H1 D.nx
theorem BI {tg e:Expr} {te:TE} {g:TG} (he:PE X e te) (hg:PG X tg g) (hs:swapsWithSole [tg] e pos.line X.env=pure false:=by rfl) (hw:swappedStores [tg] e X.env=pure none:=by rfl)
  (h1:(assignEach [tg] X.env).map (·.2)=[assign tg X.env]:=by rfl):PS X (.Assign [tg] e pos) (DK te g):=by
 intro pins s σ H D I h
 refine wpAny_Assign_stores (cf (he pins s σ H _ I h) fun v s1 ⟨x,H1,I1,r1,q1⟩=>?_) hs hw
 rw [h1]
 exact cf (hg pins s1 σ H1 x v _ I1 r1 q1) fun _ s2 q=>q
theorem v7 {i:Nat} {x:Str} {e:Expr} {te:TE} {pos':Pos} (hN:X.N.Nodup) (hi:X.N[i]? = some x) (hx:xT X.env.scope x) (he:PE X e te) (hs:swapsWith e (some (.Name x pos')) pos.line X.env=pure false:=by rfl) (hf:X.fn x=true\/X.env.scope.names.lookup x=some .local:=by first | exact .inl rfl | exact .inr rfl | assumption) :
  PS X (.Assign [.Name x pos'] e pos) (DK te (xp i)):=by
 intro pins s σ H D I h
 refine wpAny_Assign_Name (cf (he pins s σ H _ I h) fun v s1 ⟨y,H1,I1,r1,q1⟩=>?_) hs
 exact pT I1 hN hi hx r1 (fun s2 I2=>⟨_,H1,I2,q1⟩) hf
end
section
variable {X:Cx} {pos:Pos}
def Bs (c:TT) (tb:TS):TS:=fun D σ H=>∃ W:Nat->St->Hp->Prop,(∃ m,W m σ H)/\∀ m σ H,W m σ H ->
 c σ H fun b H1=>if b=true then ∃ N:St->Hp->Prop,(∀ σ' H',N σ' H'->∃ m',m'<m/\W m' σ' H')/\tb { D with nx:=N,ct:=N,bk:=D.nx } σ H1 else D.nx σ H1
theorem v6 {c:Expr} {body:List Stmt} {tc:TT} {tb:TS} (hp:PassesOwn (model X.prog X.w) X.A X.env X.xe) (hc:PT X c tc) (hb:PSs X body tb):PS X (.While c body [] pos) (Bs tc tb):=by
 intro pins s σ H D I h
 obtain ⟨W,⟨m0,w0⟩,turn⟩:=h
 refine wpAny_While (codeAny_whileLoop (fun n s'=>∃ σ' H',Inv X pins σ' H' s'/\W n σ' H') ?_ m0 ⟨σ,H,I,w0⟩)
 rintro n s1 ⟨σ1,H1,I1,w1⟩
 refine wpAny_passesOwn hp (cf (hc pins s1 σ1 H1 _ I1 (turn n σ1 H1 w1)) fun b s2 ⟨H2,I2,q2⟩=>?_)
 cases b with
 | true=>
  obtain ⟨N,hN,q2⟩:=q2
  rw [if_pos rfl]
  refine wpAny_passesOwn hp (cf (hb pins s2 σ1 H2 _ I2 q2) fun f s3 q3=>?_)
  cases f with
  | next=>
   obtain ⟨σ3,H3,I3,n3⟩:=q3
   obtain ⟨m',hm,w3⟩:=hN σ3 H3 n3
   exact ⟨m',hm,σ3,H3,I3,w3⟩
  | cont=>
   obtain ⟨σ3,H3,I3,n3⟩:=q3
   obtain ⟨m',hm,w3⟩:=hN σ3 H3 n3
   exact ⟨m',hm,σ3,H3,I3,w3⟩
  | brk=>exact q3
  | ret v=>exact q3
 | false=>
  rw [if_neg Bool.false_ne_true]
  exact wpAny_execs_nil ⟨σ1,H2,I2,q2⟩
end
structure It where
 go:Nat->Hp->Prop
 yld:Nat->Hp->V->Hp->Prop
 stop:Nat->Hp->Prop
def i7 (X:Cx) (pins:List (Addr×Obj)) (H:Hp) (b:Addr):Prop:=
 H b=none/\b≠X.env.locals/\b ∉ X.fs/\(b∈X.ex\/X.s₀.heap.objs.size<=b)/\(∀ x c,X.env.cells.lookup x=some c->c≠b)/\∀ p∈X.pn++pins,p.1≠b
theorem Inv.fpOk {X:Cx} {pins:List (Addr×Obj)} {σ:St} {H H':Hp} {s:Shared} {b:Addr} (I:Inv X pins σ H s) (hb:s.heap.objs.size<=b) (hn:H' b=none):i7 X pins H' b:=by
 refine ⟨hn,Nat.ne_of_gt (Nat.lt_of_lt_of_le I.lt hb),I.nofs hb,.inr (Nat.le_trans I.sz hb),fun x c e z=>?_,fun p hp z=>?_⟩
 ·obtain ⟨v,q⟩:=I.cell x c e
  exact absurd (Nat.lt_of_lt_of_le q.lt (by rw [z]; exact hb)) (Nat.lt_irrefl _)
 ·exact absurd (Nat.lt_of_lt_of_le (Heap.lt_size (I.pin p hp).1) (by rw [z]; exact hb)) (Nat.lt_irrefl _)
structure TurnG (Cm:Cx->Prop) (P:Program) (w:World) (K:PySem.W.Frag) (tg:Expr) (J:It) (fp:List Addr) (it:Addr) (tn:Nat->Heap->Prop):Prop where
 mem:it∈fp
 obj:∀ i h,tn i h->∀ b∈fp,∃ o,h.get? b=some o/\∀ v,o.data≠.cell v
 keep:∀ i h h',tn i h->(∀ b∈fp,∀ o,h.get? b=some o->h'.get? b=some o)->tn i h'
 item:∀ (X:Cx),X.prog=P->X.w=w->X.K=K->Cm X->∀ (i:Nat) (pins:List (Addr×Obj)) (s:Shared) (σ:St) (H:Hp) (E:Value->Shared->Prop),Inv X pins σ H s->(∀ b∈fp,i7 X pins H b)->tn i s.heap->J.go i H ->
  wpAny (model P w) X.A (pyNext (.ref it)) (fun r s1=>∃ u,r=some u /\
   wpAny (model P w) X.A (letOwnedTupleGo tg (.ref it) u) (fun _ s2=>∃ x H',Inv X pins σ H' s2/\RelV x u/\J.yld i H x H'/\tn (i+1) s2.heap/\∀ b∈fp,H' b=none) E s1) E s
 done:∀ (X:Cx),X.prog=P->X.w=w->X.K=K->Cm X->∀ (i:Nat) (pins:List (Addr×Obj)) (s:Shared) (σ:St) (H:Hp) (E:Value->Shared->Prop),Inv X pins σ H s->(∀ b∈fp,i7 X pins H b)->tn i s.heap->J.stop i H ->
  wpAny (model P w) X.A (pyNext (.ref it)) (fun r s1=>r=none/\Inv X pins σ H s1) E s
 self:∀ (A:Around) (i:Nat) (s:Shared) (Q:Value->Shared->Prop) (E:Value->Shared->Prop),tn i s.heap->Q (.ref it) s->wpAny (model P w) A (pyIter (.ref it)) Q E s
abbrev xR (P:Program) (w:World) (K:PySem.W.Frag) (tg:Expr) (J:It) (fp:List Addr) (it:Addr) (tn:Nat->Heap->Prop):Prop:=TurnG (fun X=>X.calm=true) P w K tg J fp it tn
abbrev TI:=St->Hp->(It->Hp->Prop)->Prop
def IZ (X:Cx) (pins:List (Addr×Obj)) (σ:St) (tg:Expr) (R:It->Hp->Prop) (itv:Value) (s2:Shared):Prop:=
 ∃ (it:Addr) (fp:List Addr) (tn:Nat->Heap->Prop) (J:It) (H':Hp),itv=.ref it/\Inv X pins σ H' s2/\xR X.prog X.w X.K tg J fp it tn/\tn 0 s2.heap/\(∀ b∈fp,i7 X pins H' b)/\R J H'
def PI (X:Cx) (tg iter:Expr) (wi:TI):Prop:=
 ∀ (pins:List (Addr×Obj)) (s:Shared) (σ:St) (H:Hp) (R:It->Hp->Prop),Inv X pins σ H s->wi σ H R ->
  wpAny (model X.prog X.w) X.A (eval iter X.env) (fun v s1=>wpAny (model X.prog X.w) X.A (pyIter v) (IZ X pins σ tg R) X.xe s1) X.xe s
theorem xm {M:Model} {A:Around} {E:Value->Shared->Prop} {s:Shared} {tg:Expr} {it:Addr} {u:Value} {o:Obj} {n:String} {vs:Array Value} {Q:Unit->Shared->Prop} (ho:s.heap.get? it=some o) (hc:o.cls=.type n) (hd:o.data=.fields vs)
  (hn:["enumerate","zip","dict_itemiterator","dict_reverseitemiterator","odict_iterator","itertools.zip_longest","itertools.pairwise"].contains n=false) (hQ:Q () s):wpAny M A (letOwnedTupleGo tg (.ref it) u) Q E s:=by
 unfold letOwnedTupleGo
 cases tg <;> first
  | exact wpAny_pure hQ
  | (cases u <;> first
    | exact wpAny_pure hQ
    | (refine wpAny_bind (wpAny_load ho ?_)
       rw [hc,hd]
       show wpAny M A (if (["enumerate","zip","dict_itemiterator","dict_reverseitemiterator","odict_iterator","itertools.zip_longest","itertools.pairwise"].contains n&&vs[0]? == some (rawInt _))=true then _ else _) Q E s
       rw [if_neg (by intro h; rw [hn,Bool.false_and] at h; cases h)]
       exact wpAny_pure hQ))
noncomputable def Jb (K:PySem.W.Frag) (a:Addr):It:=
 ⟨fun i H=>∃ xs x,SqL K H a xs/\xs[i]? = some x,fun i H x H'=>H'=H/\∀ xs,SqL K H a xs->xs[i]? = some x,fun i H=>∃ xs,SqL K H a xs/\xs.length<=i⟩
noncomputable def Ja (K:PySem.W.Frag) (a:Addr):It:=
 ⟨fun i H=>∃ xs x,SqT K H a xs/\xs[i]? = some x,fun i H x H'=>H'=H/\∀ xs,SqT K H a xs->xs[i]? = some x,fun i H=>∃ xs,SqT K H a xs/\xs.length<=i⟩
noncomputable def C6 (lo:Int) (n:Nat):It:=⟨fun i _=>i<n,fun i H x H'=>H'=H/\x=.int (lo+i),fun i _=>n<=i⟩
theorem uu {P:Program} {w:World} {K:PySem.W.Frag} {tg:Expr} (a it:Addr):xR P w K tg (Jb K a) [it] it (fun i h=>h.IsListIter it a i) where
 mem:=by simp
 obj:=fun i h st b hb=>by
  have e:b=it:=by simpa using hb
  subst e
  obtain ⟨o,e,c,d⟩:=st
  exact ⟨o,e,fun v z=>by rw [d] at z; cases z⟩
 keep:=fun i h h' st k=>st.at fun o e=>k it (by simp) o e
 item:=by
  intro X hP hw hK hc i pins s σ H E I hf st hg
  subst hP hw hK
  obtain ⟨xs,x,hq,hx⟩:=hg
  obtain ⟨its,rv,p,hz⟩:=I.list hq
  obtain ⟨u,hu,ru⟩:=rv.get hx
  obtain ⟨f0,f1,f2,f3,f4,f5⟩:=hf it (by simp)
  refine wpAny_pyNext_list_item st p.isList (x:=u) (by simpa using hu) fun h' st' sb=>?_
  have I1:Inv X pins σ H { s with heap:=h' }:=I.turned (t':=s.toks) (fun b o hb e=>(sb.2 b hb).trans e) f0 f1 f3 f4 f5
  obtain ⟨o,e,c,d⟩:=id st'
  exact ⟨u,rfl,xm (s:={ s with heap:=h' }) e c d (by decide) ⟨x,H,I1,ru,⟨rfl,fun ys hy=>by rw [I.list_inj hy hq]; exact hx⟩,st',fun b hb=>(hf b hb).1⟩⟩
 done:=by
  intro X hP hw hK hc i pins s σ H E I hf st hg
  subst hP hw hK
  obtain ⟨xs,hq,hx⟩:=hg
  obtain ⟨its,rv,p,hz⟩:=I.list hq
  obtain ⟨f0,f1,f2,f3,f4,f5⟩:=hf it (by simp)
  have hl:=rv.length
  exact wpAny_pyNext_list_end (I.ok.hd hc) st p.isList (by simp; omega) fun h' eb=>⟨rfl,I.turned (t':=s.toks) (fun b o hb e=>eb b o hb e) f0 f1 f3 f4 f5⟩
 self:=fun _ _ _ _ _ st h=>wpAny_pyIter_listiter st h
theorem rK {P:Program} {w:World} {K:PySem.W.Frag} {tg:Expr} (a it:Addr):xR P w K tg (Ja K a) [it] it (fun i h=>h.IsTupleIter it a i) where
 mem:=by simp
 obj:=fun i h st b hb=>by
  have e:b=it:=by simpa using hb
  subst e
  obtain ⟨o,e,c,d⟩:=st
  exact ⟨o,e,fun v z=>by rw [d] at z; cases z⟩
 keep:=fun i h h' st k=>st.at fun o e=>k it (by simp) o e
 item:=by
  intro X hP hw hK hc i pins s σ H E I hf st hg
  subst hP hw hK
  obtain ⟨xs,x,hq,hx⟩:=hg
  obtain ⟨its,rv,p,hz⟩:=I.tuple hq
  obtain ⟨u,hu,ru⟩:=rv.get hx
  obtain ⟨f0,f1,f2,f3,f4,f5⟩:=hf it (by simp)
  refine wpAny_pyNext_tuple_item st (show s.heap.IsTuple a its.toArray from p) (x:=u) (by simpa using hu) fun h' st' sb=>?_
  have I1:Inv X pins σ H { s with heap:=h' }:=I.turned (t':=s.toks) (fun b o hb e=>(sb.2 b hb).trans e) f0 f1 f3 f4 f5
  obtain ⟨o,e,c,d⟩:=id st'
  exact ⟨u,rfl,xm (s:={ s with heap:=h' }) e c d (by decide) ⟨x,H,I1,ru,⟨rfl,fun ys hy=>by rw [I.tuple_inj hy hq]; exact hx⟩,st',fun b hb=>(hf b hb).1⟩⟩
 done:=by
  intro X hP hw hK hc i pins s σ H E I hf st hg
  subst hP hw hK
  obtain ⟨xs,hq,hx⟩:=hg
  obtain ⟨its,rv,p,hz⟩:=I.tuple hq
  obtain ⟨f0,f1,f2,f3,f4,f5⟩:=hf it (by simp)
  have hl:=rv.length
  exact wpAny_pyNext_tuple_end (I.ok.hd hc) st (show s.heap.IsTuple a its.toArray from p) (by simp; omega) fun h' eb=>⟨rfl,I.turned (t':=s.toks) (fun b o hb e=>eb b o hb e) f0 f1 f3 f4 f5⟩
 self:=fun _ _ _ _ _ st h=>wpAny_pyIter_tupleiter st h
theorem rL {P:Program} {w:World} {K:PySem.W.Frag} {tg:Expr} (it:Addr) (lo:Int) (n:Nat):xR P w K tg (C6 lo n) [it] it (fun i h=>IsRangeIter h it (lo+(i:Nat)*1) ((n:Int)-(i:Nat)) 1) where
 mem:=by simp
 obj:=fun i h st b hb=>by
  have e:b=it:=by simpa using hb
  subst e
  exact ⟨_,st,fun v z=>by
   have z':Data.fields _=Data.cell v:=z
   cases z'⟩
 keep:=fun i h h' st k=>k it (by simp) _ st
 item:=by
  intro X hP hw hK hc i pins s σ H E I hf st hg
  subst hP hw hK
  obtain ⟨f0,f1,f2,f3,f4,f5⟩:=hf it (by simp)
  have W:=Walks.range (prog:=X.prog) (w:=X.w) (I.ok.hd hc) it lo 1 n
  refine W.item i s _ _ hg st fun v h' tk hv st' kk=>?_
  obtain ⟨t,rfl⟩:=hv
  have I1:Inv X pins σ H { s with heap:=h',toks:=tk }:=I.turned (fun b o hb e=>kk b o (by simpa using hb) e) f0 f1 f3 f4 f5
  refine ⟨_,rfl,xm (s:={ s with heap:=h',toks:=tk }) (n:="range_iterator") st' rfl rfl (by decide) ⟨.int (lo+i),H,I1,⟨t,?_⟩,⟨rfl,rfl⟩,st',fun b hb=>(hf b hb).1⟩⟩
  rw [Int.mul_one]
 done:=by
  intro X hP hw hK hc i pins s σ H E I hf st hg
  subst hP hw hK
  obtain ⟨f0,f1,f2,f3,f4,f5⟩:=hf it (by simp)
  exact wpAny_pyNext_range_end (I.ok.hd hc) st (by have:n<=i:=hg; omega) fun h' eb=>⟨rfl,I.turned (t':=s.toks) (fun b o hb e=>eb b o hb e) f0 f1 f3 f4 f5⟩
 self:=fun _ _ _ _ _ st h=>wpAny_pyIter_rangeiter st h
end L2
namespace L2
open PySem PySem.Spec PyProof.Rows
section
variable {X:Cx} {tg:Expr}
def E8 (K:PySem.W.Frag) (tl:TE):TI:=fun σ H R=>tl σ H fun x H1=>∃ a,x=.ref a/\(∃ xs,SqL K H1 a xs)/\R (Jb K a) H1
def Hu (K:PySem.W.Frag) (tl:TE):TI:=fun σ H R=>tl σ H fun x H1=>∃ a,x=.ref a/\(∃ xs,SqT K H1 a xs)/\R (Ja K a) H1
theorem zf {l:Expr} {tl:TE} (hl:PE X l tl):PI X tg l (E8 X.K tl):=by
 intro pins s σ H R I h
 refine cf (hl pins s σ H _ I h) fun v s1 ⟨x,H1,I1,r1,q1⟩=>?_
 obtain ⟨a,e,⟨xs,hq⟩,q⟩:=q1
 subst e
 cases r1
 obtain ⟨its,rv,p,hz⟩:=I1.list hq
 refine wpAny_pyIter_list p.isList ?_
 refine ⟨s1.heap.objs.size,[s1.heap.objs.size],_,_,H1,rfl,I1.kept (t':=s1.toks) fun b o e=>Heap.get?_push_of_some _ e,uu a _,⟨_,Heap.get?_push_size _ rfl,rfl,rfl⟩,fun b hb=>?_,q⟩
 have e:b=s1.heap.objs.size:=by simpa using hb
 subst e
 exact I1.fpOk (Nat.le_refl _) (I1.hok.fresh (Nat.le_refl _))
theorem BJ {l:Expr} {tl:TE} (hl:PE X l tl):PI X tg l (Hu X.K tl):=by
 intro pins s σ H R I h
 refine cf (hl pins s σ H _ I h) fun v s1 ⟨x,H1,I1,r1,q1⟩=>?_
 obtain ⟨a,e,⟨xs,hq⟩,q⟩:=q1
 subst e
 cases r1
 obtain ⟨its,rv,p,hz⟩:=I1.tuple hq
 refine wpAny_pyIter_tuple (show s1.heap.IsTuple a its.toArray from p) ?_
 refine ⟨s1.heap.objs.size,[s1.heap.objs.size],_,_,H1,rfl,I1.kept (t':=s1.toks) fun b o e=>Heap.get?_push_of_some _ e,rK a _,⟨_,Heap.get?_push_size _ rfl,rfl,rfl⟩,fun b hb=>?_,q⟩
 have e:b=s1.heap.objs.size:=by simpa using hb
 subst e
 exact I1.fpOk (Nat.le_refl _) (I1.hok.fresh (Nat.le_refl _))
theorem qa {pins:List (Addr×Obj)} {σ:St} {H:Hp} {s:Shared} {R:It->Hp->Prop} {E:Value->Shared->Prop} {lo hi:Int} {t u v:Tok} {tk:Nat} (I:Inv X pins σ H s) (h1:-(2 ^ 62)<=lo) (h2:lo<2 ^ 62) (h3:-(2 ^ 62)<=hi) (h4:hi<2 ^ 62)
  (q:R (C6 lo (hi-lo).toNat) H):wpAny (model X.prog X.w) X.A (pyIter (.ref s.heap.objs.size)) (IZ X pins σ tg R) E { s with heap:=s.heap.push { cls:=.type "range",data:=.fields #[.int lo t,.int hi u,.int 1 v] },toks:=tk }:=by
 refine wpAny_pyIter_range (IsRange.new ..) (small_one h1 h2 h3 h4) ?_
 have I1:Inv X pins σ H { s with heap:=s.heap.push { cls:=.type "range",data:=.fields #[.int lo t,.int hi u,.int 1 v] },toks:=tk }:=I.kept fun b o e=>Heap.get?_push_of_some _ e
 refine ⟨(s.heap.push { cls:=.type "range",data:=.fields #[.int lo t,.int hi u,.int 1 v] }).objs.size,[(s.heap.push { cls:=.type "range",data:=.fields #[.int lo t,.int hi u,.int 1 v] }).objs.size],_,_,H,rfl,
  I1.kept (t':=tk) fun b o e=>Heap.get?_push_of_some _ e,rL _ lo (hi-lo).toNat,?_,fun b hb=>?_,q⟩
 ·have e1:lo+((0:Nat):Int)*1=lo:=by simp
  have e2:(((hi-lo).toNat:Nat):Int)-((0:Nat):Int)=Builtin.Range.rangeSize lo hi 1:=by rw [rangeSize_one]; split <;> omega
  show IsRangeIter _ _ (lo+((0:Nat):Int)*1) ((((hi-lo).toNat:Nat):Int)-((0:Nat):Int)) 1
  rw [e1,e2]
  exact Heap.get?_push_size _ rfl
 ·have e:b=(s.heap.push { cls:=.type "range",data:=.fields #[.int lo t,.int hi u,.int 1 v] }).objs.size:=by simpa using hb
  subst e
  exact I1.fpOk (Nat.le_refl _) (I1.hok.fresh (Nat.le_refl _))
def E7 (ta:TA):TI:=fun σ H R=>ta σ H fun vs H1=>∃ j:Int,vs=[.int j] /\ -(2 ^ 62)<=j/\j<2 ^ 62/\R (C6 0 j.toNat) H1
def E6 (ta:TA):TI:=fun σ H R=>ta σ H fun vs H1=>∃ i j:Int,vs=[.int i,.int j]/\(-(2 ^ 62)<=i/\i<2 ^ 62 /\ -(2 ^ 62)<=j/\j<2 ^ 62)/\R (C6 i (j-i).toNat) H1
theorem nv {a:Expr} {ta:TA} {p pos:Pos} (hg:Gl X "range") (hm:X.mg "range" = none) (ha:PA X [a] ta) (hs:starEach [a] X.env=[(false,eval a X.env)]:=by rfl):PI X tg (.Call (.Name "range" p) [a] [] pos) (E7 ta):=by
 intro pins s σ H R I h
 refine Call_ (j7 I hg hm boot_range (PyProof.Rows.callWith_type1 (cf (ha pos pins s σ H _ I h) fun us s1 ⟨vs,H1,I1,r1,q1⟩=>?_) hs rfl))
 obtain ⟨j,e,q1,q2,q⟩:=q1
 subst e
 cases r1 with
 | cons r rr=>
  cases rr
  obtain ⟨t,rfl⟩:=r
  exact call_range_1 (qa I1 (by omega) (by omega) q1 q2 (by simpa using q))
theorem uI {a b:Expr} {ta:TA} {p pos:Pos} (hg:Gl X "range") (hm:X.mg "range" = none) (ha:PA X [a,b] ta) (hs:starEach [a,b] X.env=[(false,eval a X.env),(false,eval b X.env)]:=by rfl) (hs2:starEach [b] X.env=[(false,eval b X.env)]:=by rfl) :
  PI X tg (.Call (.Name "range" p) [a,b] [] pos) (E6 ta):=by
 intro pins s σ H R I h
 refine Call_ (j7 I hg hm boot_range (PyProof.Rows.callWith_type1 (cf (ha pos pins s σ H _ I h) fun us s1 ⟨vs,H1,I1,r1,q1⟩=>?_) (by rw [hs,hs2]) (by rw [hs2]; rfl)))
 obtain ⟨i,j,e,⟨q1,q2,q3,q4⟩,q⟩:=q1
 subst e
 cases r1 with
 | cons r rr=>
  cases rr with
  | cons r' rr=>
   cases rr
   obtain ⟨t,rfl⟩:=r
   obtain ⟨t',rfl⟩:=r'
   exact call_range_2 (qa I1 q1 q2 q3 q4 q)
def GG (wi:TI) (g:TG) (tb:TS):TS:=fun D σ H=>wi σ H fun J H1=>∃ W:Nat->Nat->St->Hp->Prop,(∃ m,W 0 m σ H1)/\∀ i m σ H,W i m σ H ->
 (J.stop i H/\D.nx σ H)\/(J.go i H/\∃ N:St->Hp->Prop,(∀ σ' H',N σ' H'->∃ m',m'<m/\W (i+1) m' σ' H')/\∀ x H',J.yld i H x H'->g x σ H' fun σ2 H2=>tb { D with nx:=N,ct:=N,bk:=D.nx } σ2 H2)
noncomputable def oA (fp:List Addr) (h:Heap):List (Addr×Obj):=fp.filterMap fun b=>(h.get? b).map fun o=>(b,o)
theorem cJ {fp:List Addr} {h:Heap} {b:Addr} {o:Obj} (hb:b∈fp) (e:h.get? b=some o):(b,o)∈oA fp h:=List.mem_filterMap.mpr ⟨b,hb,by rw [e]; rfl⟩
theorem uO {fp:List Addr} {h:Heap} {p:Addr×Obj} (hp:p∈oA fp h):p.1∈fp/\h.get? p.1=some p.2:=by
 obtain ⟨b,hb,e⟩:=List.mem_filterMap.mp hp
 cases q:h.get? b with
 | none=>rw [q] at e; cases e
 | some o=>
  rw [q] at e
  have e':(b,o)=p:=Option.some.inj e
  subst e'
  exact ⟨hb,q⟩
theorem Inv.pinned {pins:List (Addr×Obj)} {σ:St} {H:Hp} {s:Shared} {fp:List Addr} (I:Inv X pins σ H s) (hf:∀ b∈fp,i7 X pins H b) (ho:∀ b∈fp,∃ o,s.heap.get? b=some o/\∀ v,o.data≠.cell v):Inv X (pins++oA fp s.heap) σ H s:=
 I.pins_of fun p hp=>(List.mem_append.mp hp).elim (fun z=>I.pin p (List.mem_append_right _ z)) fun z=>by
  obtain ⟨hb,e⟩:=uO z
  obtain ⟨f0,f1,f2,_⟩:=hf p.1 hb
  obtain ⟨o,e',d⟩:=ho p.1 hb
  rw [e] at e'; cases e'
  exact ⟨e,f0,f1,f2,d⟩
theorem Inv.unpinned {pins pl:List (Addr×Obj)} {σ:St} {H:Hp} {s:Shared} (I:Inv X (pins++pl) σ H s):Inv X pins σ H s:=I.pins_of fun p hp=>I.pin p (List.mem_append_right _ (List.mem_append_left _ hp))
theorem v8 {iter:Expr} {body:List Stmt} {wi:TI} {g:TG} {tb:TS} {pos:Pos} (hp:PassesOwn (model X.prog X.w) X.A X.env X.xe) (hc:X.calm=true) (hi:PI X tg iter wi) (hg:PG X tg g) (hb:PSs X body tb)
  (hs:∀ x,foldedSetIterable iter X.env x=pure x:=by intro _; rfl):PS X (.For tg iter body [] pos) (GG wi g tb):=by
 intro pins s σ H D I h
 refine wpAny_For (cf (hi pins s σ H _ I h) fun v s1 h1=>cf h1 fun itv s2 h2=>?_) hs
 obtain ⟨it,fp,tn,J,H2,e,I2,T,st2,f2,W,⟨m0,w0⟩,turn⟩:=h2
 subst e
 have stat:∀ {H':Hp},(∀ b∈fp,H' b=none)->∀ b∈fp,i7 X pins H' b:=fun hn b hb=>⟨hn b hb,(f2 b hb).2⟩
 refine codeAny_forLoop_any (fun n s'=>∃ i σ' H',Inv X pins σ' H' s'/\tn i s'.heap/\(∀ b∈fp,H' b=none)/\W i n σ' H') ?_ m0 ⟨0,σ,H2,I2,st2,fun b hb=>(f2 b hb).1,w0⟩
 rintro n s3 ⟨i,σ3,H3,I3,st3,fr3,w3⟩
 rcases turn i n σ3 H3 w3 with ⟨stop,qn⟩ | ⟨go,N,hN,step⟩
 ·refine wpAny_passesOwn hp (cf (T.done X rfl rfl rfl hc i pins s3 σ3 H3 X.xe I3 (stat fr3) st3 stop) fun r s4 ⟨hr,I4⟩=>?_)
  subst hr
  exact wpAny_execs_nil ⟨σ3,H3,I4,qn⟩
 ·refine wpAny_passesOwn hp (cf (T.item X rfl rfl rfl hc i pins s3 σ3 H3 X.xe I3 (stat fr3) st3 go) fun r s4 ⟨u,hr,h4⟩=>?_)
  subst hr
  refine wpAny_passesOwn hp (cf h4 fun _ s5 ⟨x,H5,I5,r5,y5,st5,fr5⟩=>?_)
  have I5':=I5.pinned (stat fr5) (T.obj _ _ st5)
  refine wpAny_passesOwn hp (cf (hg _ s5 σ3 H5 x u _ I5' r5 (step x H5 y5)) fun _ s6 ⟨σ6,H6,I6,q6⟩=>?_)
  refine wpAny_passesOwn hp (cf (hb _ s6 σ6 H6 _ I6 q6) fun f s7 q7=>?_)
  have again:∀ {σ7:St} {H7:Hp},Inv X (pins++oA fp s5.heap) σ7 H7 s7->N σ7 H7->∃ m,m<n/\∃ i σ' H',Inv X pins σ' H' s7/\tn i s7.heap/\(∀ b∈fp,H' b=none)/\W i m σ' H':=fun {σ7 H7} I7 n7=>by
   obtain ⟨m',hm,w7⟩:=hN σ7 H7 n7
   refine ⟨m',hm,i+1,σ7,H7,I7.unpinned,T.keep _ _ _ st5 fun b hb o e=>(I7.pin (b,o) (List.mem_append_right _ (List.mem_append_right _ (cJ hb e)))).1,fun b hb=>?_,w7⟩
   obtain ⟨o,e,d⟩:=T.obj _ _ st5 b hb
   exact (I7.pin (b,o) (List.mem_append_right _ (List.mem_append_right _ (cJ hb e)))).2.1
  cases f with
  | next=>obtain ⟨σ7,H7,I7,n7⟩:=q7; exact again I7 n7
  | cont=>obtain ⟨σ7,H7,I7,n7⟩:=q7; exact again I7 n7
  | brk=>obtain ⟨σ7,H7,I7,q7⟩:=q7; exact ⟨σ7,H7,I7.unpinned,q7⟩
  | ret v=>obtain ⟨x7,σ7,H7,I7,r7,q7⟩:=q7; exact ⟨x7,σ7,H7,I7.unpinned,r7,q7⟩
end
end L2
namespace L2
open PySem PySem.Spec PyProof.Rows
abbrev R2:=V->V->Hp->VK->Prop
def OpR (X:Cx) (f:Value->Value->Sem Value) (r:R2):Prop:=
 ∀ (pins:List (Addr×Obj)) (s:Shared) (σ:St) (H:Hp) (x y:V) (v u:Value) (Q:VK),Inv X pins σ H s->RelV x v->RelV y u->r x y H Q ->
  wpAny (model X.prog X.w) X.A (f v u) (EP X pins σ Q) X.xe s
def FL (X:Cx) (f:Value->Sem Value) (r:V->Hp->VK->Prop):Prop:=
 ∀ (pins:List (Addr×Obj)) (s:Shared) (σ:St) (H:Hp) (x:V) (v:Value) (Q:VK),Inv X pins σ H s->RelV x v->r x H Q ->
  wpAny (model X.prog X.w) X.A (f v) (EP X pins σ Q) X.xe s
def CallR (X:Cx) (f:Value) (r:List V->Hp->VK->Prop):Prop:=
 ∀ (pins:List (Addr×Obj)) (s:Shared) (σ:St) (H:Hp) (xs:List V) (us:List Value) (Q:VK),Inv X pins σ H s->Vals xs us->r xs H Q ->
  wpAny (model X.prog X.w) X.A (call f us) (EP X pins σ Q) X.xe s
def DC (r:R2) (ta tb:TE):TE:=fun σ H Q=>ta σ H fun x H1=>tb σ H1 fun y H2=>r x y H2 Q
def Jk (r:V->Hp->VK->Prop) (ta:TE):TE:=fun σ H Q=>ta σ H fun x H1=>r x H1 Q
def rI (C:Int->Int->Prop) (g:Int->Int->V):R2:=fun x y H Q=>∃ i j,x=.int i/\y=.int j/\C i j/\Q (g i j) H
def xV (g:Int->Int->V):R2:=fun x y H Q=>∃ i j,x=.int i/\y=.int j/\Q (g i j) H
def rU (g:Int->V):V->Hp->VK->Prop:=fun x H Q=>∃ i,x=.int i/\Q (g i) H
section
variable {X:Cx} {a b c:Expr} {ta tb tc:TE} {pos:Pos}
theorem CW (ha:PE X a ta) (hb:PE X b tb) {pins:List (Addr×Obj)} {s:Shared} {σ:St} {H:Hp} {R:V->V->Hp->Prop} (I:Inv X pins σ H s)
  (h:ta σ H fun x H1=>tb σ H1 fun y H2=>R x y H2) {Q:Value->Shared->Prop} {f:Value->Value->Sem Value}
  (hf:∀ v u s2 x y H2,Inv X pins σ H2 s2->RelV x v->RelV y u->R x y H2->wpAny (model X.prog X.w) X.A (f v u) Q X.xe s2) :
  wpAny (model X.prog X.w) X.A (eval a X.env) (fun v s₁=>wpAny (model X.prog X.w) X.A (eval b X.env) (fun u s₂=>wpAny (model X.prog X.w) X.A (f v u) Q X.xe s₂) X.xe s₁) X.xe s:=by
 refine cf (ha pins s σ H _ I h) fun v s1 ⟨x,H1,I1,r1,q1⟩=>?_
 refine cf (hb pins s1 σ H1 _ I1 q1) fun u s2 ⟨y,H2,I2,r2,q2⟩=>?_
 exact hf v u s2 x y H2 I2 r1 r2 q2
theorem Ed {op:Operator} {r:R2} (ho:OpR X (binaryOp op) r) (ha:PE X a ta) (hb:PE X b tb):PE X (.BinOp a op b pos) (DC r ta tb):=by
 intro pins s σ H Q I h
 exact wpAny_BinOp (CW ha hb I h fun v u s2 x y H2 I2 rx ry q=>ho pins s2 σ H2 x y v u Q I2 rx ry q)
theorem Eb {op:UnaryOp} {r:V->Hp->VK->Prop} (ho:FL X (unaryOp op) r) (ha:PE X a ta):PE X (.UnaryOp op a pos) (Jk r ta):=by
 intro pins s σ H Q I h
 exact UnaryOp_ (cf (ha pins s σ H _ I h) fun v s1 ⟨x,H1,I1,r1,q1⟩=>ho pins s1 σ H1 x v Q I1 r1 q1)
theorem G2 {f:Value->Value->Sem Value} {C:Int->Int->Prop} {g:Int->Int->Int}
  (rule:∀ (i j:Int) (t u:Tok) (s:Shared) (Q:Value->Shared->Prop) (E:Value->Shared->Prop),C i j->Q (.int (g i j) s.toks) { s with toks:=s.toks+1 }->wpAny (model X.prog X.w) X.A (f (.int i t) (.int j u)) Q E s) :
  OpR X f (rI C fun i j=>.int (g i j)):=by
 intro pins s σ H x y v u Q I rx ry h
 obtain ⟨i,j,rfl,rfl,hc,q⟩:=h
 obtain ⟨t,rfl⟩:=rx
 obtain ⟨t',rfl⟩:=ry
 exact rule i j t t' s _ _ hc ⟨.int (g i j),H,I.tok _,⟨_,rfl⟩,q⟩
theorem Em {f:Value->Value->Sem Value} {g:Int->Int->Int}
  (rule:∀ (i j:Int) (t u:Tok) (s:Shared) (Q:Value->Shared->Prop) (E:Value->Shared->Prop),Q (.int (g i j) s.toks) { s with toks:=s.toks+1 }->wpAny (model X.prog X.w) X.A (f (.int i t) (.int j u)) Q E s) :
  OpR X f (xV fun i j=>.int (g i j)):=by
 intro pins s σ H x y v u Q I rx ry h
 obtain ⟨i,j,rfl,rfl,q⟩:=h
 obtain ⟨t,rfl⟩:=rx
 obtain ⟨t',rfl⟩:=ry
 exact rule i j t t' s _ _ ⟨.int (g i j),H,I.tok _,⟨_,rfl⟩,q⟩
theorem zu {f:Value->Value->Sem Value} {g:Int->Int->Bool}
  (rule:∀ (i j:Int) (t u:Tok) (s:Shared) (Q:Value->Shared->Prop) (E:Value->Shared->Prop),Q (.bool (g i j)) s->wpAny (model X.prog X.w) X.A (f (.int i t) (.int j u)) Q E s) :
  OpR X f (xV fun i j=>.bl (g i j)):=by
 intro pins s σ H x y v u Q I rx ry h
 obtain ⟨i,j,rfl,rfl,q⟩:=h
 obtain ⟨t,rfl⟩:=rx
 obtain ⟨t',rfl⟩:=ry
 exact rule i j t t' s _ _ ⟨.bl (g i j),H,I,rfl,q⟩
def Ie (i j:Int):Prop:=0<j/\j<1073741824
theorem BW:OpR X (binaryOp .Add) (xV fun i j=>.int (i+j)):=Em fun _ _ _ _ _ _ _ q=>add_int q
theorem BS:OpR X (binaryOp .Sub) (xV fun i j=>.int (i-j)):=Em fun _ _ _ _ _ _ _ q=>sub_int q
theorem zr:OpR X (binaryOp .FloorDiv) (rI Ie fun i j=>.int (i / j)):=G2 fun i j _ _ _ _ _ hc q=>by
 have h1:(0:Int)<j:=hc.1
 have h2:j<1073741824:=hc.2
 exact floordiv_int (by omega) (by rw [Int.fdiv_eq_ediv_of_nonneg i (by omega)]; exact q) (.inl (PyProof.noPylong_small (by omega)))
theorem BT:OpR X (binaryOp .Mod) (rI (fun _ j=>0<j) fun i j=>.int (i % j)):=G2 fun i j _ _ _ _ _ hc q=>by
 have h1:(0:Int)<j:=hc
 exact mod_int' (by omega) (by rw [Int.fmod_eq_emod_of_nonneg i (by omega)]; exact q)
theorem Jd {f:Value->Sem Value} {g:Int->Int}
  (rule:∀ (i:Int) (t:Tok) (s:Shared) (Q:Value->Shared->Prop) (E:Value->Shared->Prop),Q (.int (g i) s.toks) { s with toks:=s.toks+1 }->wpAny (model X.prog X.w) X.A (f (.int i t)) Q E s) :
  FL X f (rU fun i=>.int (g i)):=by
 intro pins s σ H x v Q I rx h
 obtain ⟨i,rfl,q⟩:=h
 obtain ⟨t,rfl⟩:=rx
 exact rule i t s _ _ ⟨.int (g i),H,I.tok _,⟨_,rfl⟩,q⟩
theorem Bo:FL X (unaryOp .USub) (rU fun i=>.int (-i)):=Jd fun _ _ _ _ _ q=>neg_int q
end
section
variable {X:Cx} {a b c:Expr} {ta tb tc:TE} {pos:Pos}
theorem xt {pins:List (Addr×Obj)} {σ:St} {H:Hp} {s:Shared} {Q:VK} {k k':Bool} (I:Inv X pins σ H s) (q:Q (.bl k) H) (e:k=k'):EP X pins σ Q (.bool k') s:=by
 subst e
 exact ⟨.bl k,H,I,rfl,q⟩
theorem Eh:OpR X (compareOp .Lt) (xV fun i j=>.bl (decide (i<j))):=zu fun _ _ _ _ _ _ _ q=>lt_int q
theorem Ei:OpR X (compareOp .LtE) (xV fun i j=>.bl (decide (i<=j))):=zu fun _ _ _ _ _ _ _ q=>le_int q
theorem Ek:OpR X (compareOp .Gt) (xV fun i j=>.bl (decide (j<i))):=zu fun _ _ _ _ _ _ _ q=>gt_int q
theorem El:OpR X (compareOp .GtE) (xV fun i j=>.bl (decide (j<=i))):=zu fun _ _ _ _ _ _ _ q=>ge_int q
theorem BU:OpR X (compareOp .Is) (fun x y H Q=>y=.non/\Q (.bl (decide (x=.non))) H):=by
 intro pins s σ H x y v u Q I rx ry h
 obtain ⟨rfl,q⟩:=h
 cases ry
 refine is_none_gen (xt I q ?_)
 cases x <;> first
  | (cases rx; rfl)
  | (obtain ⟨t,rfl⟩:=rx; rfl)
theorem zq:OpR X (compareOp .IsNot) (fun x y H Q=>y=.non/\Q (.bl (!decide (x=.non))) H):=by
 intro pins s σ H x y v u Q I rx ry h
 obtain ⟨rfl,q⟩:=h
 cases ry
 refine isnot_none_gen (xt I q ?_)
 cases x <;> first
  | (cases rx; rfl)
  | (obtain ⟨t,rfl⟩:=rx; rfl)
theorem aw (b:Expr) {op:CmpOp} (h:op≠.In:=by decide) (h2:op≠.NotIn:=by decide):behindInMarks op b=false:=by
 have e1:(op==CmpOp.In)=false:=by cases op <;> first | rfl | exact absurd rfl h
 have e2:(op==CmpOp.NotIn)=false:=by cases op <;> first | rfl | exact absurd rfl h2
 cases b <;> simp [behindInMarks,e1,e2]
theorem zm {op:CmpOp} {r:R2} (ho:OpR X (compareOp op) r) (ha:PE X a ta) (hb:PE X b tb) (hm:behindInMarks op b=false):PE X (.Compare a [op] [b] pos) (DC r ta tb):=by
 intro pins s σ H Q I h
 exact wpAny_Compare1 (CW ha hb I h fun v u s2 x y H2 I2 rx ry q=>ho pins s2 σ H2 x y v u Q I2 rx ry q) hm
def AS (t:TE):TT:=fun σ H Q=>t σ H fun x H'=>∃ k,x=.bl k/\Q k H'
theorem yZ {op:CmpOp} {r:R2} (ho:OpR X (compareOp op) r) (ha:PE X a ta) (hb:PE X b tb) (hm:behindInMarks op b=false):PT X (.Compare a [op] [b] pos) (AS (DC r ta tb)):=by
 intro pins s σ H Q I h
 refine wpAny_isTrue_Compare1 (cf (ha pins s σ H _ I h) fun v s1 ⟨x,H1,I1,r1,q1⟩=>cf (hb pins s1 σ H1 _ I1 q1) fun u s2 ⟨y,H2,I2,r2,q2⟩=>
  cf (ho pins s2 σ H2 x y v u _ I2 r1 r2 q2) fun c s3 ⟨z,H3,I3,r3,k,e,q3⟩=>?_) hm
 subst e
 cases r3
 exact wpAny_truthy_bool ⟨H3,I3,q3⟩
def vG (r r':R2) (ta tb tc:TE):TE:=fun σ H Q=>ta σ H fun x H1=>tb σ H1 fun y H2=>r x y H2 fun z H3=>∃ k,z=.bl k /\
 (if k=true then tc σ H3 fun w' H4=>r' y w' H4 Q else Q (.bl false) H3)
theorem vZ {op op':CmpOp} {r r':R2} (ho:OpR X (compareOp op) r) (ho':OpR X (compareOp op') r') (ha:PE X a ta) (hb:PE X b tb) (hc:PE X c tc)
  (hm:lastMarks [op,op'] [b,c]=false:=by with_unfolding_all rfl):PT X (.Compare a [op,op'] [b,c] pos) (AS (vG r r' ta tb tc)):=by
 intro pins s σ H Q I h
 refine isTrue_chain (cf (ha pins s σ H _ I h) fun v s1 ⟨x,H1,I1,r1,q1⟩=>test_link (cf (hb pins s1 σ H1 _ I1 q1) fun u s2 ⟨y,H2,I2,r2,q2⟩=>
  cf (ho pins s2 σ H2 x y v u _ I2 r1 r2 q2) fun d s3 ⟨z,H3,I3,r3,k,e,q3⟩=>?_)) hm
 subst e
 cases r3
 refine wpAny_truthy_bool ?_
 cases k with
 | false=>
  obtain ⟨k',e',q'⟩:=q3
  cases e'
  exact ite_ff ⟨H3,I3,q'⟩
 | true=>
  refine ite_tt (test_last (cf (hc pins s3 σ H3 _ I3 q3) fun w' s4 ⟨z',H4,I4,r4,q4⟩=>cf (ho' pins s4 σ H4 y z' u w' _ I4 r2 r4 q4) fun d' s5 ⟨z2,H5,I5,r5,k2,e2,q5⟩=>?_))
  subst e2
  cases r5
  exact wpAny_truthy_bool ⟨H5,I5,q5⟩
theorem se:(sizeLine:Nat)<2 ^ 63:=by rw [sizeLine_eq]; decide
theorem rX:OpR X (binaryOp .Add) (fun x y H Q=>∃ i j,x=.str i/\y=.str j/\i.length+j.length<=sizeLine/\Q (.str (i++j)) H):=by
 intro pins s σ H x y v u Q I rx ry h
 obtain ⟨i,j,rfl,rfl,hz,q⟩:=h
 obtain ⟨t,rfl⟩:=rx
 obtain ⟨t',rfl⟩:=ry
 exact add_str (fun t' tk=>⟨.str (i++j),H,I.tok _,⟨_,rfl⟩,q⟩) hz
theorem lC {x:V} {us:List Value} (r:Vals [x] us):∃ u,us=[u]/\RelV x u:=by
 cases r with
 | cons r1 r2=>cases r2; exact ⟨_,rfl,r1⟩
theorem vz {x y:V} {us:List Value} (r:Vals [x,y] us):∃ u w',us=[u,w']/\RelV x u/\RelV y w':=by
 cases r with
 | cons r1 r2=>
  cases r2 with
  | cons r3 r4=>cases r4; exact ⟨_,_,rfl,r1,r3⟩
theorem vh (hc:X.calm=true):CallR X (.builtin "max") (fun xs H Q=>∃ i j,xs=[.int i,.int j]/\Q (.int (if j>i then j else i)) H):=by
 intro pins s σ H xs us Q I r h
 obtain ⟨i,j,rfl,q⟩:=h
 obtain ⟨u,w',rfl,⟨t,rfl⟩,⟨t',rfl⟩⟩:=vz r
 refine max_two_ints (I.ok.hd hc) fun h' tk k=>⟨_,H,I.kept k,?_,q⟩
 by_cases hj:j>i
 ·rw [if_pos hj,if_pos hj]; exact ⟨_,rfl⟩
 ·rw [if_neg hj,if_neg hj]; exact ⟨_,rfl⟩
theorem vg (hc:X.calm=true):CallR X (.builtin "min") (fun xs H Q=>∃ i j,xs=[.int i,.int j]/\Q (.int (if j<i then j else i)) H):=by
 intro pins s σ H xs us Q I r h
 obtain ⟨i,j,rfl,q⟩:=h
 obtain ⟨u,w',rfl,⟨t,rfl⟩,⟨t',rfl⟩⟩:=vz r
 refine min_two_ints (I.ok.hd hc) fun h' tk k=>⟨_,H,I.kept k,?_,q⟩
 by_cases hj:j<i
 ·rw [if_pos hj,if_pos hj]; exact ⟨_,rfl⟩
 ·rw [if_neg hj,if_neg hj]; exact ⟨_,rfl⟩
theorem vi:CallR X (.type "int") (fun xs H Q=>(∃ i,xs=[.int i]/\Q (.int i) H)\/∃ k,xs=[.bl k]/\Q (.int (if k then 1 else 0)) H):=by
 intro pins s σ H xs us Q I r h
 rcases h with ⟨i,rfl,q⟩ | ⟨k,rfl,q⟩
 ·obtain ⟨u,rfl,t,rfl⟩:=lC r
  exact call_int_int ⟨.int i,H,I,⟨_,rfl⟩,q⟩
 ·obtain ⟨u,rfl,r1⟩:=lC r
  cases r1
  exact call_int_bool ⟨.int (if k then 1 else 0),H,I.tok _,⟨_,rfl⟩,q⟩
def Ib (K:PySem.W.Frag) (x:V) (H:Hp) (n:Nat):Prop:=
 match x with
 | .str y=>y.length<=sizeLine/\n=y.length
 | .byt y=>y.size<=sizeLine/\n=y.size
 | .ref p=>(∃ xs,SqL K H p xs/\n=xs.length)\/∃ xs,SqT K H p xs/\n=xs.length
 | _=>False
theorem q8:CallR X (.builtin "len") (fun xs H Q=>∃ x n,xs=[x]/\Ib X.K x H n/\Q (.int n) H):=by
 intro pins s σ H xs us Q I r h
 obtain ⟨x,n,rfl,e,q⟩:=h
 obtain ⟨u,rfl,rx⟩:=lC r
 have hl:=se
 have hs:sizeLine=16777216:=sizeLine_eq
 cases x with
 | str y=>
  obtain ⟨t,rfl⟩:=rx
  obtain ⟨hy,e'⟩:y.length<=sizeLine/\n=y.length:=e
  subst e'
  exact len_str (by omega) ⟨.int _,H,I.tok _,⟨_,rfl⟩,q⟩
 | byt y=>
  obtain ⟨t,rfl⟩:=rx
  obtain ⟨hy,e'⟩:y.size<=sizeLine/\n=y.size:=e
  subst e'
  exact PySem.W.len_bytes (by omega) ⟨.int _,H,I.tok _,⟨_,rfl⟩,q⟩
 | ref p=>
  cases rx
  have e':(∃ xs,SqL X.K H p xs/\n=xs.length)\/∃ xs,SqT X.K H p xs/\n=xs.length:=e
  rcases e' with ⟨xs,hx,e'⟩ | ⟨xs,hx,e'⟩
  ·subst e'
   obtain ⟨its,r',pl,hz⟩:=I.list hx
   have hlen:=r'.length
   exact Calls.call_len_list pl.isList (by simp only [List.size_toArray]; omega) ⟨.int xs.length,H,I.tok _,⟨_,by simp only [List.size_toArray]; rw [hlen]⟩,q⟩
  ·subst e'
   obtain ⟨its,r',pl,hz⟩:=I.tuple hx
   have hlen:=r'.length
   exact len_tuple pl (by simp only [List.size_toArray]; omega) ⟨.int xs.length,H,I.tok _,⟨_,by simp only [List.size_toArray]; rw [hlen]⟩,q⟩
 | _=>exact (show False from e).elim
end
end L2
namespace L2
open PySem PySem.Spec PyProof.Rows
structure ObjM (h:Heap) (x dx C:Addr) (mA:Str->Option Value):Prop where
 obj:h.get? x=some (PySem.W.instObj C dx)
 ns:h.Ns1 dx mA
 ne:dx≠x
theorem uV {h:Heap} {dx:Addr} {mA:Str->Option Value} (n:h.Ns1 dx mA):∃ od,h.get? dx=some od/\∀ name,PySem.W.lookIn name od=some (mA name):=by
 obtain ⟨o,es,ep,ho,hd,hk,_,hm⟩:=n
 refine ⟨o,ho,fun name=>?_⟩
 have e:=hm name
 unfold nsFind findBy at e
 rw [<- Array.find?_toList] at e
 unfold PySem.W.lookIn
 rw [hd]
 dsimp only
 split
 ·rename_i y q
  rw [q] at e
  exact congrArg some e
 ·rename_i q
  rw [q] at e
  have a:es.toList.any (·.refKey)=false:=by
   rw [List.any_eq_false]
   intro y hy
   obtain ⟨z,t,hkey⟩:=hk y (Array.mem_toList_iff.mp hy)
   simp [DictEntry.refKey,hkey]
  have a':¬ es.toList.any (·.refKey)=true:=by rw [a]; exact Bool.false_ne_true
  rw [if_neg a']
  exact congrArg some e
theorem ObjM.look {h:Heap} {x dx C:Addr} {mA:Str->Option Value} (I:ObjM h x dx C mA):∃ od,PySem.W.InstAt h x (PySem.W.instObj C dx) C (some od)/\∀ name,PySem.W.lookIn name od=some (mA name):=
 let ⟨od,ho,hl⟩:=uV I.ns
 ⟨od,⟨I.obj,rfl,rfl,ho⟩,hl⟩
section
variable {P:Program} {w:World} {H H':Hp} {h h':Heap} {a C dx:Addr} {fs fs':List (Str×V)}
theorem Ak (hok:HOk P w H h) (e:H a=some (.ins C dx fs)):∃ mA,ObjM h a dx C mA/\(∀ f,RelO (fs.lookup f) (mA f))/\PySem.Within mA (fs.map (·.1))/\fs.length<=1000/\H dx=some (.own a):=by
 obtain ⟨d,z,ne,ob,mA,n,r,q⟩:=(show ObjOk P w H h a (.ins C dx fs) from hok a _ e)
 exact ⟨mA,⟨ob,n,ne⟩,r,q,z,d⟩
end
structure Cls (K:PySem.W.Frag) (C:Addr):Prop where
 pg:PySem.W.plainGet K C Str.empty=true
 hd:PySem.W.hasDictIn K C=true
 po:PySem.W.plainOver K C=true
 sa:PySem.W.findIn K (.ref C) "__setattr__" = some (some (.builtin "object.__setattr__"))
theorem Cls.get {K:PySem.W.Frag} {C:Addr} (c:Cls K C) (f:Str):PySem.W.plainGet K C f=true:=c.pg
section
variable {X:Cx} {pins:List (Addr×Obj)} {σ:St} {H:Hp} {s:Shared} {A:Around} {E:Value->Shared->Prop} {Q:Value->Shared->Prop} {c:Value} {b:Bool}
inductive TyOf (K:PySem.W.Frag) (H:Hp):V->Value->Prop where
 | non:TyOf K H .non (.type "NoneType")
 | bl (x:Bool):TyOf K H (.bl x) (.type "bool")
 | int (i:Int):TyOf K H (.int i) (.type "int")
 | str (x:Str):TyOf K H (.str x) (.type "str")
 | flt (x:UInt64):TyOf K H (.flt x) (.type "float")
 | lst {a:Addr} {xs:List V} (e:H a=some (.lst xs)):TyOf K H (.ref a) (.type "list")
 | frz {a:Addr} {o:Obj} {xs:List V} (e:H a=some (.frz o (.lst xs))):TyOf K H (.ref a) (.type "list")
 | tup {a:Addr} {xs:List V} (e:H a=some (.tup xs)):TyOf K H (.ref a) (.type "tuple")
 | dK {a:Addr} {kvs:List (aY×V)} (e:H a=some (.dK kvs)):TyOf K H (.ref a) (.type "dict")
 | dT {a:Addr} {kvs:List (List aY×V)} (e:H a=some (.dT kvs)):TyOf K H (.ref a) (.type "dict")
 | ins {a C dx:Addr} {fs:List (Str×V)} (e:H a=some (.ins C dx fs)) (cl:Cls K C) (ha:PySem.W.findIn K (.ref C) "__class__" = some (some (.builtin "object.__class__")))
   (hn:PySem.W.specialIn K (.builtin "object.__class__") "__get__" = some (some (.builtin "getset_descriptor.__get__"))) (htk:PySem.W.takesIn K (.builtin "object.__class__")=some true)
   (hm:PySem.W.mroIn K C (.type "object")=some true):TyOf K H (.ref a) (.ref C)
theorem io {x:V} {u t:Value} (I:Inv X pins σ H s) (rx:RelV x u) (ty:TyOf X.K H x t) (e:PySem.W.kitOne X.K t c=some b) (h:∀ tk,Q (.bool b) { s with toks:=tk }) :
  wpAny (model X.prog X.w) A (call (.builtin "isinstance") [u,c]) Q E s:=by
 cases ty with
 | non=>cases (show u=Value.none from rx); exact PySem.W.kia_one PySem.W.kitx_none I.kIn True.intro e (fun z=>nomatch z) h
 | bl y=>cases (show u=Value.bool y from rx); exact PySem.W.kia_one PySem.W.kitx_bool I.kIn True.intro e (fun z=>nomatch z) h
 | int i=>obtain ⟨t,q⟩:=(show ∃ t,u=Value.int i t from rx); cases q; exact PySem.W.kia_one PySem.W.kitx_int I.kIn True.intro e (fun z=>nomatch z) h
 | str y=>obtain ⟨t,q⟩:=(show ∃ t,u=Value.str y t from rx); cases q; exact PySem.W.kia_one PySem.W.kitx_str I.kIn True.intro e (fun z=>nomatch z) h
 | flt y=>obtain ⟨t,q⟩:=(show ∃ t,u=Value.float y t from rx); cases q; exact PySem.W.kia_one PySem.W.kitx_float I.kIn True.intro e (fun z=>nomatch z) h
 | @lst a xs ea=>
  cases (show u=Value.ref a from rx)
  obtain ⟨_,_,n,_,h1⟩:=(show ObjOk X.prog X.w H s.heap a (.lst xs) from I.hok a _ ea)
  exact PySem.W.kia_one PySem.W.kitx_list I.kIn ⟨_,h1,rfl⟩ e (fun z=>nomatch z) h
 | @frz a ob xs ea=>
  cases (show u=Value.ref a from rx)
  obtain ⟨_,_,_,n,_,h1⟩:=(show ObjOk X.prog X.w H s.heap a (.frz ob (.lst xs)) from I.hok a _ ea)
  exact PySem.W.kia_one PySem.W.kitx_list I.kIn ⟨_,h1,rfl⟩ e (fun z=>nomatch z) h
 | @tup a xs ea=>
  cases (show u=Value.ref a from rx)
  obtain ⟨_,_,_,p⟩:=(show ObjOk X.prog X.w H s.heap a (.tup xs) from I.hok a _ ea)
  obtain ⟨o,h1,h2,_⟩:=p.1
  exact PySem.W.kia_one PySem.W.kitx_tuple I.kIn ⟨o,h1,h2⟩ e (fun z=>nomatch z) h
 | @dK a kvs ea=>
  cases (show u=Value.ref a from rx)
  obtain ⟨_,_,vs,_,p⟩:=(show ObjOk X.prog X.w H s.heap a (.dK kvs) from I.hok a _ ea)
  obtain ⟨o,es,ep,h1,h2,_⟩:=p
  exact PySem.W.kia_one PySem.W.kitx_dict I.kIn ⟨o,h1,h2.1⟩ e (fun z=>nomatch z) h
 | @dT a kvs ea=>
  cases (show u=Value.ref a from rx)
  obtain ⟨_,_,xs,_,o,es,ep,h1,h2,_⟩:=(show ObjOk X.prog X.w H s.heap a (.dT kvs) from I.hok a _ ea)
  exact PySem.W.kia_one PySem.W.kitx_dict I.kIn ⟨o,h1,h2.1⟩ e (fun z=>nomatch z) h
 | @ins a C dx fs ea cl ha hn htk hm=>
  cases (show u=Value.ref a from rx)
  obtain ⟨mA,O,_⟩:=Ak I.hok ea
  obtain ⟨od,J,_⟩:=O.look
  exact PySem.W.kia_one (PySem.W.kitx_own (cl.get _) cl.hd ha hn htk hm) I.kIn J e (fun z=>nomatch z) h
end
end L2
namespace L2
open PySem PySem.Spec PyProof.Rows
structure Room (k:Nat) (A:Around):Prop where
 hd:A.handled=none
 dp:A.depth+3*k+5<recursionLimit
 un:A.units+16*k+200<cLine
theorem Room.mono {j k:Nat} {A:Around} (r:Room k A) (h:j<=k):Room j A:=⟨r.hd,by have:=r.dp; omega,by have:=r.un; omega⟩
theorem Room.deeper {k:Nat} {A:Around} (r:Room (k+1) A) (env:Env):Room k (A.deeper env):=
 ⟨r.hd,by have:=r.dp; show A.depth+1+3*k+5<_; omega,by have:=r.un; show A.units+3+16*k+200<_; omega⟩
theorem Room.depth {k:Nat} {A:Around} (r:Room k A):A.depth<recursionLimit:=by have:=r.dp; omega
theorem Room.units {k:Nat} {A:Around} (r:Room k A):A.units+64<cLine:=by have:=r.un; omega
def GD:TA:=fun _ H Q=>Q [] H
def DI (ta:TE) (tr:TA):TA:=fun σ H Q=>ta σ H fun x H1=>tr σ H1 fun xs H2=>Q (x::xs) H2
section
variable {X:Cx} {e:Expr} {es:List Expr} {te:TE} {t:TA} {pos:Pos}
theorem iS:PA X [] GD:=fun _ _ _ _ H Q I h=>Calls.spliced_nil ⟨[],H,I,.nil,h⟩
theorem fR (ha:PE X e te) (hr:PA X es t) (hs:starEach (e::es) X.env=(false,eval e X.env)::starEach es X.env:=by rfl):PA X (e::es) (DI te t):=by
 intro pos pins s σ H Q I h
 rw [hs]
 show wpAny _ _ (spliced ((false,eval e X.env)::backTo pos (starEach es X.env))) _ _ s
 refine Calls.spliced_cons (cf (ha pins s σ H _ I h) fun u s1 ⟨x,H1,I1,r1,q1⟩=>?_)
 exact cf (hr pos pins s1 σ H1 _ I1 q1) fun us s2 ⟨xs,H2,I2,r2,q2⟩=>⟨x::xs,H2,I2,.cons r1 r2,q2⟩
def Gy (t:TA):TE:=fun σ H Q=>t σ H fun xs H1=>xs.length<=sizeLine/\∀ p,H1 p=none->Q (.ref p) (upd H1 p (.tup xs))
def GE (t:TA):TE:=fun σ H Q=>t σ H fun xs H1=>xs.length<=sizeLine/\∀ p,H1 p=none->Q (.ref p) (upd H1 p (.lst xs))
theorem BL {x1} (h:PA X es t):PE X (.Tuple es x1 pos) (Gy t):=by
 intro pins s σ H Q I hq
 refine wpAny_Tuple_spliced (cf (h pos pins s σ H _ I hq) fun us s1 ⟨xs,H1,I1,r,z,q⟩=>⟨by rw [<- r.length]; exact z,?_⟩)
 have hf:H1 s1.heap.objs.size=none:=I1.hok.fresh (Nat.le_refl _)
 refine ⟨.ref s1.heap.objs.size,upd H1 s1.heap.objs.size (.tup xs),I1.laid (t':=s1.toks) (fun b u e=>Heap.get?_push_of_some _ e) (Nat.le_refl _) ?_,rfl,q _ hf⟩
 exact ⟨z,us,r,⟨_,Heap.get?_push_size _ rfl,rfl,_,rfl⟩,NoDi.new _ _⟩
theorem wg (h:PA X es t):PE X (.List es pos) (GE t):=by
 intro pins s σ H Q I hq
 refine wpAny_List_spliced (cf (h pos pins s σ H _ I hq) fun us s1 ⟨xs,H1,I1,r,z,q⟩=>⟨by rw [<- r.length]; exact z,?_⟩)
 have hf:H1 s1.heap.objs.size=none:=I1.hok.fresh (Nat.le_refl _)
 refine ⟨.ref s1.heap.objs.size,upd H1 s1.heap.objs.size (.lst xs),I1.laid (t':=s1.toks) (fun b u e=>Heap.get?_push_of_some _ e) (Nat.le_refl _) ?_,rfl,q _ hf⟩
 exact ⟨z,us,0,r,Heap.get?_push_size _ rfl⟩
end
abbrev Sp:=List V->Hp->VK->XK->Prop
abbrev uq:=List Env->Hp->Shared->XK->Value->Shared->Prop
structure Env0 (P:Program) (w:World) (K:PySem.W.Frag) (mg:Str->Option Value) (base:Heap) (A:Around) (outer:List Env) (s:Shared) (H:Hp):Prop where
 frames:A.frames=some outer
 mod:Mod K mg base
 bs:∀ b o,base.get? b=some o->s.heap.get? b=some o/\H b=none
 bsz:base.objs.size<=s.heap.objs.size
 funs:s.heap.FunFrames base outer
 frf:∀ b∈t0 outer,H b=none
 hok:HOk P w H s.heap
 bare:AllBare s.gens
def CE (outer:List Env) (P:Program) (w:World) (H:Hp) (s:Shared) (Q:VK) (u:Value) (s':Shared):Prop:=
 ∃ v H',s'.os=s.os/\AllBare s'.gens/\Un (t0 outer) [] H H' s.heap s'.heap/\HOk P w H' s'.heap/\RelV v u/\Q v H'
def CR (CX:uq) (outer:List Env) (P:Program) (w:World) (H:Hp) (s:Shared) (Q:VK) (E:XK) (r:Result) (s':Shared):Prop:=
 match r with
 | .ok (.ret u)=>CE outer P w H s Q u s'
 | .ok _=>False
 | .error e=>CX outer H s E e s'
structure FnOk (P:Program) (w:World) (K:PySem.W.Frag) (mg:Str->Option Value) (base:Heap) (CX:uq) (k:Nat) (f:Addr) (fd:FuncData) (ps:List Str) (sp:Sp):Prop where
 len:∀ vs H Q E,sp vs H Q E->vs.length=ps.length
 run:∀ (A:Around) (outer:List Env) (s:Shared) (H:Hp) (args:Args) (us:List Value) (vs:List V) (Q:VK) (E:XK),Room k A->Env0 P w K mg base A outer s H->BindsTo s fd args (ps.zip us)->Vals vs us->sp vs H Q E ->
  codeAny (model P w) A (.call (.ref f) args) (CR CX outer P w H s Q E) s
theorem FnOk.imp {P:Program} {w:World} {K:PySem.W.Frag} {mg:Str->Option Value} {base:Heap} {CX:uq} {k:Nat} {f:Addr} {fd:FuncData} {ps:List Str} {sp sp':Sp} (F:FnOk P w K mg base CX k f fd ps sp)
  (h:∀ vs H Q E,sp' vs H Q E->sp vs H Q E):FnOk P w K mg base CX k f fd ps sp':=
 ⟨fun vs H Q E q=>F.len vs H Q E (h _ _ _ _ q),fun A outer s H args us vs Q E hr he hb hv hs=>F.run A outer s H args us vs Q E hr he hb hv (h _ _ _ _ hs)⟩
section
variable {X:Cx} {pins:List (Addr×Obj)} {σ:St} {H:Hp} {s s':Shared}
theorem Inv.env0 (I:Inv X pins σ H s):Env0 X.prog X.w X.K X.mg X.base X.A X.stack s H:=
 ⟨I.ok.frames,I.ok.mod,I.bs,Nat.le_trans I.ok.bsz I.sz,I.stack,I.stkFree,I.hok,I.bare⟩
theorem Inv.after {Q:VK} {u:Value} (I:Inv X pins σ H s) (h:CE X.stack X.prog X.w H s Q u s'):EP X pins σ Q u s':=by
 obtain ⟨v,H',os,bare,un,hok,r,q⟩:=h
 obtain ⟨hh,g,d,t,os'⟩:=s'
 obtain rfl:os'=s.os:=os
 exact ⟨v,H',I.call (h':=hh) (g':=g) (d':=d) (t':=t) (ch:=[]) un hok bare (fun b z=>absurd z (by simp)),r,q⟩
end
def DJ (sp:Sp) (dvs:List V) (E:XK) (t:TA):TE:=fun σ H Q=>t σ H fun vs H1=>sp (vs++dvs) H1 Q E
def Binds (K:PySem.W.Frag) (fd:FuncData) (ps:List Str) (ds:List Value):Prop:=
 ∀ (s:Shared) (us:List Value),K.In s.heap->(us++ds).length=ps.length->BindsTo s fd ⟨us,[]⟩ (ps.zip (us++ds))
theorem Binds.all {K:PySem.W.Frag} {fd:FuncData} {ps:List Str} (h:∀ us:List Value,us.length=ps.length->bindArgs fd ⟨us,[]⟩=pure (ps.zip us)):Binds K fd ps []:=fun s us _ hl=>by
 rw [List.append_nil] at hl ⊢
 exact .of_eq (h us hl)
def pG (CX:uq) (X:Cx) (E:XK):Prop:=∀ (pins:List (Addr×Obj)) (σ:St) (H:Hp) (s:Shared) (e:Value) (s':Shared),Inv X pins σ H s->CX X.stack H s E e s'->X.xe e s'
section
variable {X:Cx} {CX:uq} {k:Nat} {f C:Addr} {fd:FuncData} {ps:List Str} {sp:Sp} {dvs:List V} {ds:List Value} {E:XK} {x m:Str} {p pos apos:Pos} {e o:Expr} {es:List Expr} {ta:TE} {t:TA}
theorem vV {pins:List (Addr×Obj)} {σ:St} {H:Hp} {s:Shared} {Q:VK} {us:List Value} {vs:List V} (F:FnOk X.prog X.w X.K X.mg X.base CX k f fd ps sp) (hr:Room k X.A) (hb:Binds X.K fd ps ds) (hd:Vals dvs ds) (hx:pG CX X E)
  (I:Inv X pins σ H s) (r:Vals vs us) (h:sp (vs++dvs) H Q E):wpAny (model X.prog X.w) X.A (call (.ref f) us) (EP X pins σ Q) X.xe s:=by
 have r2:Vals (vs++dvs) (us++ds):=r.append hd
 have hl:(us++ds).length=ps.length:=by rw [<- r2.length]; exact F.len _ _ _ _ h
 refine wpAny_call (codeAny_mono (F.run X.A X.stack s H ⟨us,[]⟩ (us++ds) (vs++dvs) Q E hr I.env0 (hb s us I.kIn hl) r2 h) fun r s' hq=>?_)
 cases r with
 | error e=>exact hx pins σ H s e s' I hq
 | ok fl=>
  cases fl with
  | ret u=>exact I.after hq
  | next=>exact False.elim hq
  | brk=>exact False.elim hq
  | cont=>exact False.elim hq
theorem zn (F:FnOk X.prog X.w X.K X.mg X.base CX k f fd ps sp) (hr:Room k X.A) (hg:Gl X x) (hm:X.mg x=some (.ref f)) (hk:PySem.W.keepIn X.K (.ref f)=true) (hb:Binds X.K fd ps ds) (hd:Vals dvs ds) (hx:pG CX X E)
  (ha:PA X (e::es) t) (hdb:(x==("__debug__":Str))=false:=by decide) (he:starEach (e::es) X.env=(false,eval e X.env)::starEach es X.env:=by rfl) (hpl:(backTo pos (starEach es X.env)).any (·.1)=false:=by rfl) :
  PE X (.Call (.Name x p) (e::es) [] pos) (DJ sp dvs E t):=by
 intro pins s σ H Q I h
 refine wpAny_Call_Name_kw (tQ I hg hm ?_ hdb)
 refine PySem.W.callWith_K (h₀:=X.base) I.ok.mod.kin hk (cf (ha pos pins s σ H _ I h) fun us s1 ⟨vs,H1,I1,r,q⟩=>⟨I1.kIn,?_⟩) he hpl
 exact vV F hr hb hd hx I1 r q
end
structure FnScope (N P:List Str) (sc:Scope):Prop where
 kind:sc.kind=.function
 co:sc.isCoroutine=false
 gen:sc.isGenerator=false
 nd:N.Nodup
 pre:N.take P.length=P
 par:∀ x∈P,sc.names.lookup x=some .local\/sc.names.lookup x=some .cell
 nofree:∀ y∈sc.names,y.2≠.free
theorem nW {kindOf:Str->Option NameKind} {x:Str}:∀ {binds:List (Str×Value)} {m:Str->Option Value},(∀ v,(x,v) ∉ binds)->bindL kindOf binds m x=m x
 | [],_,_=>rfl
 | (n,v)::r,m,h=>by
  unfold bindL
  rw [nW fun w hw=>h w (List.mem_cons_of_mem _ hw)]
  split
  ·have:x≠n:=by rintro rfl; exact h v List.mem_cons_self
   simp [this]
  ·rfl
theorem n0 {kindOf:Str->Option NameKind} {x:Str}:∀ {binds:List (Str×Value)} {m:Str->Option Value},(∀ v,(x,v) ∉ binds)->bindC kindOf binds m x=m x
 | [],_,_=>rfl
 | (n,v)::r,m,h=>by
  unfold bindC
  rw [n0 fun w hw=>h w (List.mem_cons_of_mem _ hw)]
  split
  ·rfl
  ·have:x≠n:=by rintro rfl; exact h v List.mem_cons_self
   simp [this]
theorem nZ {kindOf:Str->Option NameKind} {x:Str} {v:Value}:∀ {P:List Str} {vs:List Value} {i:Nat} {m:Str->Option Value},P.Nodup->P[i]? = some x->vs[i]? = some v->kindOf x=some .local ->
  bindL kindOf (P.zip vs) m x=some v
 | [],_,_,_,_,h,_,_=>by simp at h
 | _::_,[],_,_,_,_,h,_=>by simp at h
 | p::P,w::vs,0,m,nd,h1,h2,hk=>by
  simp at h1 h2; subst h1; subst h2
  show bindL kindOf ((p,w)::P.zip vs) m p=_
  unfold bindL
  rw [nW fun v hv=>(List.nodup_cons.mp nd).1 (List.of_mem_zip hv).1,if_pos hk]
  simp
 | p::P,w::vs,i+1,m,nd,h1,h2,hk=>by
  show bindL kindOf ((p,w)::P.zip vs) m x=_
  unfold bindL
  exact nZ (i:=i) (List.nodup_cons.mp nd).2 (by simpa using h1) (by simpa using h2) hk
theorem n9 {kindOf:Str->Option NameKind} {x:Str} {v:Value}:∀ {P:List Str} {vs:List Value} {i:Nat} {m:Str->Option Value},P.Nodup->P[i]? = some x->vs[i]? = some v->kindOf x≠some .local ->
  bindC kindOf (P.zip vs) m x=some v
 | [],_,_,_,_,h,_,_=>by simp at h
 | _::_,[],_,_,_,_,h,_=>by simp at h
 | p::P,w::vs,0,m,nd,h1,h2,hk=>by
  simp at h1 h2; subst h1; subst h2
  show bindC kindOf ((p,w)::P.zip vs) m p=_
  unfold bindC
  rw [n0 fun v hv=>(List.nodup_cons.mp nd).1 (List.of_mem_zip hv).1,if_neg hk]
  simp
 | p::P,w::vs,i+1,m,nd,h1,h2,hk=>by
  show bindC kindOf ((p,w)::P.zip vs) m x=_
  unfold bindC
  exact n9 (i:=i) (List.nodup_cons.mp nd).2 (by simpa using h1) (by simpa using h2) hk
noncomputable def g6 (N:List Str) (vs:List V):St:=vs.map some++List.replicate (N.length-vs.length) none
noncomputable def qU (CX:uq) (P:Program) (w:World) (K:PySem.W.Frag) (mg:Str->Option Value) (base:Heap) (N:List Str) (qual:Str) (scope:Scope) (f:Addr) (cd:Value) (A:Around) (outer:List Env) (s:Shared) (H:Hp) (E:XK):Cx where
 prog:=P
 w:=w
 K:=K
 mg:=mg
 base:=base
 A:=A.deeper (envOfC qual scope s.heap.objs.size f cd)
 N:=N
 s₀:=s
 H₀:=H
 env:=envOfC qual scope s.heap.objs.size f cd
 outer:=outer
 stack:=envOfC qual scope s.heap.objs.size f cd::outer
 ex:=[]
 calm:=true
 fn:=fun _=>true
 pn:=[]
 xe:=fun e s'=>wpAny (model P w) (A.deeper (envOfC qual scope s.heap.objs.size f cd)) (leaving (envOfC qual scope s.heap.objs.size f cd) e) (fun _ s''=>CX outer H s E e s'') (fun e' s''=>CX outer H s E e' s'') s'
theorem qZ {sc:Scope} {n:Nat} {x:Str} (h:sc.names.lookup x=some .cell):∃ c,(cellsFrom n sc.names []).lookup x=some c:=by
 have q:=PySem.W.cellsFrom_some sc.names n [] (.inl h)
 exact Option.isSome_iff_exists.mp q
theorem u8 {CX:uq} {P:Program} {w:World} {K:PySem.W.Frag} {mg:Str->Option Value} {base:Heap} {N ps:List Str} {qual:Str} {scope:Scope} {f:Addr} {cd:Value} {A:Around} {outer:List Env} {s s1:Shared} {H:Hp} {E:XK} {us:List Value} {vs:List V}
  (S:FnScope N ps scope) (hd:A.handled=none) (e0:Env0 P w K mg base A outer s H) (hl:vs.length=ps.length) (r:Vals vs us)
  (x:InCallC s s.heap.objs.size (bindL (envOfC qual scope s.heap.objs.size f cd).kindOf (ps.zip us) fun _=>none) (cellsFrom (s.heap.objs.size+1) scope.names []) (bindC (envOfC qual scope s.heap.objs.size f cd).kindOf (ps.zip us) fun _=>none) s1) :
  Inv (qU CX P w K mg base N qual scope f cd A outer s H E) [] (g6 N vs) H s1:=by
 have hpl:ps.length<=N.length:=by have:=congrArg List.length S.pre; rw [List.length_take] at this; omega
 obtain ⟨h1,tk,rfl,hk⟩:=x.done
 have noA:∀ b:Addr,b ∉ (qU CX P w K mg base N qual scope f cd A outer s H E).ex:=fun b z=>absurd (show b∈([]:List Addr) from z) (by simp)
 refine ⟨⟨e0.mod,S.kind,rfl,rfl,Nat.le_refl _,fun y z c h1 h2=>?_,fun y hy=>?_,fun y c _ h=>?_,fun _=>hd,Around.frames_deeper e0.frames,.inr ⟨rfl,rfl⟩,fun b z=>absurd z (noA b),e0.bs,e0.bsz,fun b _ _=>noA b,fun b z=>absurd z (noA b),e0.funs,e0.frf⟩,
  rfl,e0.bare,Un.kept hk,⟨_,x.toInCall.ns,fun i y v h1 h2 h3=>?_⟩,fun y c h=>⟨_,x.cell y c h⟩,e0.hok.fresh (Nat.le_refl _),fun y c h=>?_,fun p hp=>absurd (show p∈([]:List (Addr×Obj)) from hp) (by simp),e0.hok.kept hk,?_⟩
 ·exact name_of_addr x.apart (PySem.mem_of_lookup h1) (PySem.mem_of_lookup h2)
 ·have hy:scope.names.lookup y=some .cell\/scope.names.lookup y=some .free:=hy
  rcases hy with hy | hy
  ·exact qZ hy
  ·exact absurd rfl (S.nofree _ (PySem.mem_of_lookup hy))
 ·exact Nat.le_of_lt (x.above y c (PySem.mem_of_lookup h))
 ·have hi:i<vs.length:=by
   unfold g6 at h2
   by_cases hi:i<vs.length
   ·exact hi
   ·rw [List.getElem?_append_right (by simpa using hi)] at h2
    rw [List.getElem?_replicate] at h2
    split at h2 <;> cases h2
  have ha:vs[i]? = some v:=by
   unfold g6 at h2
   rw [List.getElem?_append_left (by simpa using hi),List.getElem?_map] at h2
   cases e:vs[i]? with
   | none=>rw [e] at h2; cases h2
   | some a=>rw [e] at h2; cases h2; rfl
  obtain ⟨u,hu,rv⟩:=r.get ha
  have hp:ps[i]? = some y:=by
   rw [<- S.pre,List.getElem?_take_of_lt (by omega)]; exact h1
  have ndP:ps.Nodup:=by rw [<- S.pre]; exact S.nd.sublist (List.take_sublist _ _)
  refine ⟨u,rv,?_⟩
  rcases S.par y (List.mem_of_getElem? hp) with k | k
  ·exact .inl ⟨k,nZ ndP hp hu k⟩
  ·obtain ⟨c,e⟩:=qZ (n:=s.heap.objs.size+1) k
   refine .inr ⟨.inl k,c,e,?_⟩
   have q:=x.cell y c e
   rw [n9 ndP hp hu (by show scope.names.lookup y≠_; rw [k]; decide)] at q
   exact q
 ·exact e0.hok.fresh (Nat.le_of_lt (x.above y c (PySem.mem_of_lookup h)))
 ·unfold g6
  show _=N.length
  rw [List.length_append,List.length_map,List.length_replicate]
  omega
theorem Bh {CX:uq} {P:Program} {w:World} {K:PySem.W.Frag} {mg:Str->Option Value} {base:Heap} {k:Nat} {f:Addr} {name qual:Str} {params:Arguments} {body:List Stmt} {scope:Scope} {dV kV doc pm cdv ct oc:Value} {an od:Option Addr}
  {osl:Array (Option Value)} {N ps:List Str} {sp:Sp} (lk:K.lookup f=some ⟨oc,od,.func (PySem.W.fnOf name qual params body scope dV kV doc pm an cdv ct),osl⟩) (hcd:PySem.W.codeIn K cdv qual=true) (S:FnScope N ps scope)
  (len:∀ vs H Q E,sp vs H Q E->vs.length=ps.length)
  (hbody:∀ (A:Around) (outer:List Env) (s:Shared) (H:Hp) (vs:List V) (Q:VK) (E:XK),Room k (A.deeper (envOfC qual scope s.heap.objs.size f cdv))->sp vs H Q E ->
   ∃ t,PSs (qU CX P w K mg base N qual scope f cdv A outer s H E) body t/\t { nx:=fun _ H'=>Q .non H',rt:=Q } (g6 N vs) H) :
  FnOk P w K mg base CX (k+1) f (PySem.W.fnOf name qual params body scope dV kV doc pm an cdv ct) ps sp:=by
 refine ⟨len,fun A outer s H args us vs Q E hr e0 hb r hsp=>?_⟩
 have hl:=len _ _ _ _ hsp
 have KX:K.In s.heap:=e0.mod.kin.keeps fun b o e=>(e0.bs b o e).1
 have lim:s.heap.NoLimit:=e0.mod.nolimit.keeps fun b o e=>(e0.bs b o e).1
 have hkind:∀ y∈ps.zip us,scope.names.lookup y.1=some .local\/(scope.names.lookup y.1=some .cell/\((cellsFrom (s.heap.objs.size+1) scope.names []).lookup y.1).isSome=true):=fun ⟨n,v⟩ hy=>by
  rcases S.par n (List.of_mem_zip hy).1 with q | q
  ·exact .inl q
  ·exact .inr ⟨q,PySem.W.cellsFrom_some _ _ _ (.inl q)⟩
 refine codeAny_call_function hr.depth (KX _ _ lk) rfl S.co S.gen rfl (PySem.W.codeRec_of KX hcd) (hb _ _ _ _ ?_)
 refine wpAny_newFunctionEnv_cells S.kind hkind fun env he s1 x=>?_
 subst he
 refine ⟨lim.keeps x.toInCall.keep,codeAny_func ?_⟩
 obtain ⟨t,ht,hq⟩:=hbody A outer s H vs Q E (hr.deeper _) hsp
 have I:Inv (qU CX P w K mg base N qual scope f cdv A outer s H E) [] (g6 N vs) H s1:=u8 S hr.hd e0 hl r x
 refine wpAny_mono (ht [] s1 (g6 N vs) H _ I hq) (fun fl s' hs=>?_) fun e s' hs=>hs
 have fin:∀ {σ':St} {H':Hp} {v:V} {u:Value},Inv (qU CX P w K mg base N qual scope f cdv A outer s H E) [] σ' H' s'->RelV v u->Q v H'->CE outer P w H s Q u s':=
  fun {σ' H' v u} J rv q=>⟨v,H',J.os,J.bare,J.base,J.hok,rv,q⟩
 cases fl with
 | ret u=>
  obtain ⟨v,σ',H',J,rv,q⟩:=hs
  exact fin J rv q
 | next=>
  obtain ⟨σ',H',J,q⟩:=hs
  exact fin (v:=V.non) (u:=Value.none) J rfl q
 | brk=>
  obtain ⟨_,_,_,q⟩:=hs
  exact False.elim q
 | cont=>
  obtain ⟨_,_,_,q⟩:=hs
  exact False.elim q
end L2
namespace L2
open PySem PySem.Spec PyProof.Rows
section
variable {X:Cx} {x:Str} {p pos:Pos} {e:Expr} {es:List Expr} {t:TA} {id T:String} {r:List V->Hp->VK->Prop}
def ID (r:List V->Hp->VK->Prop) (t:TA):TE:=fun σ H Q=>t σ H fun vs H1=>r vs H1 Q
theorem lO (hc:CallR X (.builtin id) r) (hg:Gl X x) (hm:X.mg x=none) (hv:bootBuiltins x=some (.builtin id)) (ha:PA X (e::es) t) (hn:x ≠ "__name__":=by decide) (hdb:(x==("__debug__":Str))=false:=by decide)
  (he:starEach (e::es) X.env=(false,eval e X.env)::starEach es X.env:=by rfl) (hpl:(backTo pos (starEach es X.env)).any (·.1)=false:=by rfl):PE X (.Call (.Name x p) (e::es) [] pos) (ID r t):=by
 intro pins s σ H Q I h
 refine wpAny_Call_Name_kw (j7 I hg hm hv ?_ hn hdb)
 exact PyProof.Rows.callWith_builtin1 (cf (ha pos pins s σ H _ I h) fun us s1 ⟨vs,H1,I1,r1,q1⟩=>hc pins s1 σ H1 vs us Q I1 r1 q1) he hpl
theorem uK (hc:CallR X (.type T) r) (hg:Gl X x) (hm:X.mg x=none) (hv:bootBuiltins x=some (.type T)) (ha:PA X (e::es) t) (hn:x ≠ "__name__":=by decide) (hdb:(x==("__debug__":Str))=false:=by decide)
  (he:starEach (e::es) X.env=(false,eval e X.env)::starEach es X.env:=by rfl) (hpl:(backTo pos (starEach es X.env)).any (·.1)=false:=by rfl):PE X (.Call (.Name x p) (e::es) [] pos) (ID r t):=by
 intro pins s σ H Q I h
 refine wpAny_Call_Name_kw (j7 I hg hm hv ?_ hn hdb)
 exact PyProof.Rows.callWith_type1 (cf (ha pos pins s σ H _ I h) fun us s1 ⟨vs,H1,I1,r1,q1⟩=>hc pins s1 σ H1 vs us Q I1 r1 q1) he hpl
end
end L2
namespace HT
open PySem PyProof.Rows
section
variable {prog:Program} {w:World} {A:Around} {E:Value->Shared->Prop} {s:Shared}
theorem AC {t b:Addr} {vs ws:List Value} {Q:Value->Shared->Prop} (ht:IsTup s.heap t vs.toArray) (hb:IsTup s.heap b ws.toArray) (hv:vs≠[])
  (h1:ws=[]->Q (.ref t) s) (h2:ws≠[]->Q (.ref s.heap.objs.size) { s with heap:=s.heap.push { cls:=.type "tuple",data:=.seq (vs++ws).toArray } })
  (hsz:vs.length+ws.length<=sizeLine):wpAny (model prog w) A (binaryOp .Add (.ref t) (.ref b)) Q E s:=by
 obtain ⟨⟨cls,dd,data,sl⟩,ho,hc,n,hd⟩:=id ht
 obtain ⟨⟨cls2,dd2,data2,sl2⟩,ho2,hc2,n2,hd2⟩:=id hb
 simp only at hc hd hc2 hd2
 subst hc hd hc2 hd2
 have e:vs.toArray++ws.toArray=(vs++ws).toArray:=by simp
 by_cases hw:ws=[]
 ·exact concat_meets ⟨_,ho,rfl⟩ ⟨_,ho2,rfl⟩ noFill_tuple_add seq_tuple_add PySem.F.slot_tuple_add PySem.F.entry_tuple_add (PySem.F.args_tuple_add_2 _ _)
   (tuple_addW1 t b vs.toArray ws.toArray n n2 dd dd2 sl sl2 (by simpa using hv) (by simp [hw])) ⟨ho,ho2,h1 hw⟩
 ·refine concat_meets ⟨_,ho,rfl⟩ ⟨_,ho2,rfl⟩ noFill_tuple_add seq_tuple_add PySem.F.slot_tuple_add PySem.F.entry_tuple_add (PySem.F.args_tuple_add_2 _ _)
   (tuple_addW2 t b vs.toArray ws.toArray n n2 dd dd2 sl sl2 (by simpa using hv) (by simpa using hw) (by rw [List.size_toArray,List.size_toArray]; exact hsz)) ⟨ho,ho2,?_⟩
  rw [e]
  exact h2 hw
noncomputable def sIx (n d:Nat):Option Int->Nat
 | none=>d
 | some v=>if v<0 then (v+(n:Int)).toNat else min v.toNat n
theorem Bx (n d:Nat) (hd:d<=n) (o:Option Int):sIx n d o<=n:=by
 cases o with
 | none=>exact hd
 | some v=>
  show (if v<0 then (v+(n:Int)).toNat else min v.toNat n)<=n
  by_cases hv:v<0
  ·rw [if_pos hv]; omega
  ·rw [if_neg hv]; exact Nat.min_le_right _ _
theorem ud (v:Int) (n d:Nat):(if v<0 then max (v+(n:Int)) 0 else min v (n:Int))=((sIx n d (some v):Nat):Int):=by
 show (if v<0 then max (v+(n:Int)) 0 else min v (n:Int))=(((if v<0 then (v+(n:Int)).toNat else min v.toNat n):Nat):Int)
 by_cases hv:v<0
 ·simp only [if_pos hv]; omega
 ·simp only [if_neg hv]; omega
theorem sQ (lo hi:Option Int) (n:Nat):Builtin.Slice.sliceAdjust lo hi 1 (n:Int)=(((sIx n 0 lo:Nat):Int),((sIx n n hi:Nat):Int)):=by
 have h1:¬ ((1:Int)<0):=by omega
 unfold Builtin.Slice.sliceAdjust
 simp only [h1,if_false]
 refine Prod.ext ?_ ?_
 ·cases lo with
  | none=>rfl
  | some v=>exact ud v n 0
 ·cases hi with
  | none=>rfl
  | some v=>exact ud v n n
theorem rV (i j:Nat):Builtin.Slice.slicePlaces (i:Int) (j:Int) 1=j-i:=by
 unfold Builtin.Slice.slicePlaces
 have h1:(1:Int)>0:=by omega
 simp only [h1,if_true,Int.ediv_one]
 split <;> omega
theorem lK {v:Value} {o:Option Int} {Q:Option Int->Shared->Prop} (p:IsPart v o) (h:Q o s):wpAny (model prog w) A (Builtin.Slice.slicePartIndex v) Q E s:=by
 cases p with
 | none=>exact slicePart_none h
 | int i t=>exact slicePart_int h
theorem gr {sl:Addr} {vl vu:Value} {lo hi:Option Int} {n:Nat} {Q:Int×Int×Nat->Shared->Prop} (hs:s.heap.IsSliceOf sl vl vu .none) (pl:IsPart vl lo) (pu:IsPart vu hi)
  (h:Q (((sIx n 0 lo:Nat):Int),1,sIx n n hi-sIx n 0 lo) s):wpAny (model prog w) A (Builtin.Slice.sliceApplied (.ref sl) (pure (n:Int))) Q E s:=by
 obtain ⟨os,hos,hcs,hds⟩:=id hs
 unfold Builtin.Slice.sliceApplied Builtin.Slice.sliceFields
 refine wpAny_bind (wpAny_bind (wpAny_field hos hds (x:=vl) rfl (wpAny_bind (wpAny_field hos hds (x:=vu) rfl (wpAny_bind (wpAny_field hos hds (x:=.none) rfl (wpAny_pure ?_)))))))
 refine wpAny_bind (slicePart_none ?_)
 show wpAny _ _ (if ((1:Int)==0)=true then _ else _) _ _ s
 rw [if_neg (by decide)]
 refine wpAny_bind (lK pl (wpAny_bind (lK pu (wpAny_bind (wpAny_pure ?_)))))
 show wpAny _ _ (match Builtin.Slice.sliceAdjust lo hi 1 (n:Int) with | (lo,hi)=>pure (lo,(1:Int),Builtin.Slice.slicePlaces lo hi 1)) _ _ s
 rw [sQ lo hi n]
 show wpAny _ _ (pure (((sIx n 0 lo:Nat):Int),(1:Int),Builtin.Slice.slicePlaces ((sIx n 0 lo:Nat):Int) ((sIx n n hi:Nat):Int) 1)) _ _ s
 rw [rV]
 exact wpAny_pure h
theorem wb (xs:Array Value) (i k:Nat):((List.range k).filterMap fun (m:Nat)=>xs[((i:Int)+(m:Int)*1).toNat]?).toArray=((xs.toList.drop i).take k).toArray:=by
 have e:(fun (m:Nat)=>xs[((i:Int)+(m:Int)*1).toNat]?)=fun m=>xs[i+m]?:=by
  funext m
  have:((i:Int)+(m:Int)*1).toNat=i+m:=by omega
  rw [this]
 rw [e]
 have:=pick_run xs i k
 rw [List.filterMap_map] at this
 have e2:((fun x=>xs[x]?) ∘ fun x=>i+x)=fun m=>xs[i+m]?:=rfl
 rw [e2] at this
 rw [this]
theorem jA {t sl:Addr} {items:Array Value} {vl vu:Value} {lo hi:Option Int} {Q:Value->Shared->Prop} (ht:IsTup s.heap t items) (hs:s.heap.IsSliceOf sl vl vu .none) (pl:IsPart vl lo) (pu:IsPart vu hi)
  (hw:¬ (sIx items.size 0 lo=0/\sIx items.size items.size hi=items.size))
  (h:Q (.ref s.heap.objs.size) { s with heap:=s.heap.push { cls:=.type "tuple",data:=.seq ((items.toList.drop (sIx items.size 0 lo)).take (sIx items.size items.size hi-sIx items.size 0 lo)).toArray } })
  (hsz:items.size<=sizeLine):wpAny (model prog w) A (getItem (.ref t) (.ref sl)) Q E s:=by
 have htake:sizeOk (.seq ((items.toList.drop (sIx items.size 0 lo)).take (sIx items.size items.size hi-sIx items.size 0 lo)).toArray):=by
  show ((items.toList.drop (sIx items.size 0 lo)).take (sIx items.size items.size hi-sIx items.size 0 lo)).toArray.size<=sizeLine
  rw [List.size_toArray,List.length_take,List.length_drop,Array.length_toList]
  omega
 have hj:sIx items.size items.size hi<=items.size:=Bx _ _ (Nat.le_refl _) hi
 obtain ⟨os,hos,hcs,hds⟩:=id hs
 have hTs:s.TypeIs (.ref sl) "slice":=⟨os,hos,hcs⟩
 unfold getItem
 try with_reducible refine wpAny_holding ?_
 first | refine wpAny_bind (wpAny_pure ?_) | skip
 refine wpAny_bind (wpAny_sequenceKey ht.typeIs (by decide) ?_)
 refine wpAny_bind (wpAny_callSpecial?_slot (name:=Str.ofString "__getitem__") ht.typeIs PyProof.Rows.slot_tuple_getitem
  (wpAny_call_entry PyProof.Rows.slot_tuple_getitem ht.typeIs entry_tuple_getitem ?_ (args_tuple_getitem _ _)))
 show wpAny _ _ (Builtin.Tuple.tupleItemsOf (.ref t) >>= _) _ _ s
 refine wpAny_bind (tupleItemsOf_ ht ?_)
 refine wpAny_bind (wpAny_typeOf hTs ?_)
 rw [if_pos (by decide)]
 refine wpAny_bind (gr hs pl pu ?_)
 have hno:¬ ((((sIx items.size 0 lo:Nat):Int)==0&&(1:Int)==1&&(sIx items.size items.size hi-sIx items.size 0 lo)==items.size)=true):=by
  intro q
  rw [Bool.and_eq_true,Bool.and_eq_true] at q
  have q1:((sIx items.size 0 lo:Nat):Int)=0:=eq_of_beq q.1.1
  have q2:sIx items.size items.size hi-sIx items.size 0 lo=items.size:=eq_of_beq q.2
  exact hw ⟨by omega,by omega⟩
 show wpAny _ _ (if (((sIx items.size 0 lo:Nat):Int)==0&&(1:Int)==1&&(sIx items.size items.size hi-sIx items.size 0 lo)==items.size)=true then _ else _) _ _ s
 rw [if_neg hno,wb]
 first
  | exact wpAny_bind (m:=Builtin.Tuple.tupleExact _) (wpAny_newObj_type (wpAny_pure ⟨_,rfl,wpAny_pure h⟩) htake)
  | exact wpAny_bind (m:=Builtin.Tuple.tupleExact _) (wpAny_newObj_type (wpAny_bind (wpAny_pure (wpAny_pure ⟨_,rfl,wpAny_pure h⟩))) htake)
  | exact wpAny_bind (wpAny_bind (m:=Builtin.Tuple.tupleExact _) (wpAny_newObj_type (wpAny_pure (wpAny_pure ⟨_,rfl,wpAny_pure h⟩)) htake))
  | exact wpAny_bind (wpAny_bind (m:=Builtin.Tuple.tupleExact _) (wpAny_newObj_type (wpAny_pure ⟨_,rfl,wpAny_pure h⟩) htake))
end
end HT
namespace L2
open PySem PySem.Spec PyProof.Rows
abbrev TO:=St->Hp->(Option Int->Hp->Prop)->Prop
def PO (X:Cx) (e:Option Expr) (t:TO):Prop:=
 ∀ (pins:List (Addr×Obj)) (s:Shared) (σ:St) (H:Hp) (Q:Option Int->Hp->Prop),Inv X pins σ H s->t σ H Q ->
  wpAny (model X.prog X.w) X.A (evalPart e X.env) (fun u s'=>∃ o H',Inv X pins σ H' s'/\IsPart u o/\Q o H') X.xe s
noncomputable def yE:TO:=fun _ H Q=>Q none H
def DB (t:TE):TO:=fun σ H Q=>t σ H fun x H1=>∃ i,x=.int i/\Q (some i) H1
section
variable {X:Cx} {e:Expr} {te:TE} {lo hi:Option Expr} {tl th:TO} {pos p2:Pos}
theorem ze:PO X none yE:=by
 intro pins s σ H Q I h
 rw [evalPart_none]
 exact wpAny_pure ⟨none,H,I,.none,h⟩
theorem zd (h:PE X e te):PO X (some e) (DB te):=by
 intro pins s σ H Q I hw
 rw [evalPart_some]
 refine cf (h pins s σ H _ I hw) fun u s1 ⟨x,H1,I1,r1,q1⟩=>?_
 obtain ⟨i,rfl,q⟩:=q1
 obtain ⟨t,rfl⟩:=r1
 exact ⟨some i,H1,I1,.int i t,q⟩
def SlR (X:Cx) (r:V->Option Int->Option Int->Hp->VK->Prop):Prop:=
 ∀ (pins:List (Addr×Obj)) (s:Shared) (σ:St) (H:Hp) (x:V) (v vl vu:Value) (lo hi:Option Int) (sl:Addr) (Q:VK),Inv X pins σ H s->RelV x v->s.heap.IsSliceOf sl vl vu .none->IsPart vl lo->IsPart vu hi->r x lo hi H Q ->
  ∃ T id,typeLookup (.type T) "__getitem__" = pure (some (.builtin id))/\s.TypeIs v T/\wpAny (model X.prog X.w) X.A (getItem v (.ref sl)) (EP X pins σ Q) X.xe s
theorem SlR.or {r r':V->Option Int->Option Int->Hp->VK->Prop} (h:SlR X r) (h':SlR X r'):SlR X (fun x lo hi H Q=>r x lo hi H Q\/r' x lo hi H Q):=by
 intro pins s σ H x v vl vu lo hi sl Q I rx hs pl pu q
 rcases q with q | q
 ·exact h pins s σ H x v vl vu lo hi sl Q I rx hs pl pu q
 ·exact h' pins s σ H x v vl vu lo hi sl Q I rx hs pl pu q
def Jl (r:V->Option Int->Option Int->Hp->VK->Prop) (te:TE) (tl th:TO):TE:=fun σ H Q=>te σ H fun x H1=>tl σ H1 fun l H2=>th σ H2 fun u H3=>r x l u H3 Q
theorem wf {r:V->Option Int->Option Int->Hp->VK->Prop} (hr:SlR X r) (he:PE X e te) (hl:PO X lo tl) (hu:PO X hi th):PE X (.Subscript e (.Slice lo hi none p2) pos) (Jl r te tl th):=by
 intro pins s σ H Q I h
 refine Subscript_ (cf (he pins s σ H _ I h) fun v s1 ⟨x,H1,I1,r1,q1⟩=>?_)
 refine wpAny_Slice (cf (hl pins s1 σ H1 _ I1 q1) fun vl s2 ⟨l,H2,I2,pl,q2⟩=>cf (hu pins s2 σ H2 _ I2 q2) fun vu s3 ⟨u,H3,I3,pu,q3⟩=>?_)
 rw [evalPart_none]
 refine wpAny_pure ?_
 have I4:Inv X pins σ H3 { s3 with heap:=s3.heap.push { cls:=.type "slice",data:=.fields #[vl,vu,.none] } }:=I3.kept (t':=s3.toks) fun b ob q=>Heap.get?_push_of_some _ q
 obtain ⟨T,id,hT,ht,hg⟩:=hr pins { s3 with heap:=s3.heap.push { cls:=.type "slice",data:=.fields #[vl,vu,.none] } } σ H3 x v vl vu l u s3.heap.objs.size Q I4 r1 (Heap.IsSliceOf.new ..) pl pu q3
 show wpAny (model X.prog X.w) X.A (subscriptTail e (.Slice lo hi none p2) v (.ref s3.heap.objs.size)) (EP X pins σ Q) X.xe { s3 with heap:=s3.heap.push { cls:=.type "slice",data:=.fields #[vl,vu,.none] } }
 exact tail_any (ops:=[.ref s3.heap.objs.size,v]) ht hT hg (by with_unfolding_all rfl)
noncomputable def m4 (xs:List V) (lo hi:Option Int):List V:=(xs.drop (HT.sIx xs.length 0 lo)).take (HT.sIx xs.length xs.length hi-HT.sIx xs.length 0 lo)
theorem kE (xs:List V) (lo hi:Option Int):(m4 xs lo hi).length<=xs.length:=by
 unfold m4
 rw [List.length_take,List.length_drop]
 omega
def GT (K:PySem.W.Frag):V->Option Int->Option Int->Hp->VK->Prop:=fun x lo hi H Q=>∃ a xs,x=.ref a/\SqT K H a xs /\
 ¬ (HT.sIx xs.length 0 lo=0/\HT.sIx xs.length xs.length hi=xs.length)/\∀ p,H p=none->Q (.ref p) (upd H p (.tup (m4 xs lo hi)))
theorem sl_tup:SlR X (GT X.K):=by
 intro pins s σ H x v vl vu lo hi sl Q I rx hs pl pu h
 obtain ⟨a,xs,rfl,hx,hw,q⟩:=h
 cases rx
 obtain ⟨its,r,ht,hz⟩:=I.tuple hx
 have hlen:its.toArray.size=xs.length:=by rw [List.size_toArray]; exact r.length.symm
 refine ⟨"tuple",_,PyProof.Rows.slot_tuple_getitem.lookup,ht.typeIs,?_⟩
 refine HT.jA ht hs pl pu (by rw [hlen]; exact hw) ?_ (by rw [hlen]; exact hz)
 rw [hlen]
 refine ⟨.ref s.heap.objs.size,_,I.laid (t':=s.toks) (o:=.tup (m4 xs lo hi)) (fun b ob q=>Heap.get?_push_of_some _ q) (Nat.le_refl _) ?_,rfl,q _ (I.hok.fresh (Nat.le_refl _))⟩
 exact ⟨Nat.le_trans (kE xs lo hi) hz,_,(r.drop (HT.sIx xs.length 0 lo)).take (HT.sIx xs.length xs.length hi-HT.sIx xs.length 0 lo),IsTup.new _ _,NoDi.new _ _⟩
def DW (K:PySem.W.Frag):R2:=fun x y H Q=>∃ a b xs ys,x=.ref a/\y=.ref b/\SqT K H a xs/\SqT K H b ys/\xs≠[]/\xs.length+ys.length<=sizeLine /\
 (ys=[]->Q (.ref a) H)/\(ys≠[]->∀ p,H p=none->Q (.ref p) (upd H p (.tup (xs++ys))))
theorem Vals.nil_iff {xs:List V} {us:List Value} (r:Vals xs us):us=[]↔xs=[]:=by
 cases r with
 | nil=>simp
 | cons _ _=>simp
theorem zt:OpR X (binaryOp .Add) (DW X.K):=by
 intro pins s σ H x y v u Q I rx ry h
 obtain ⟨a,b,xs,ys,rfl,rfl,ha,hb,hx,hz,q1,q2⟩:=h
 cases rx
 cases ry
 obtain ⟨its,r1,p1,_⟩:=I.tuple ha
 obtain ⟨its2,r2,p2,_⟩:=I.tuple hb
 refine HT.AC p1 p2 (fun z=>hx (r1.nil_iff.mp z)) (fun z=>⟨.ref a,H,I,rfl,q1 (r2.nil_iff.mp z)⟩) (fun z=>?_) (by rw [<- r1.length,<- r2.length]; exact hz)
 refine ⟨.ref s.heap.objs.size,_,I.laid (t':=s.toks) (o:=.tup (xs++ys)) (fun b ob q=>Heap.get?_push_of_some _ q) (Nat.le_refl _) ?_,rfl,q2 (fun w=>z (r2.nil_iff.mpr w)) _ (I.hok.fresh (Nat.le_refl _))⟩
 exact ⟨by rw [List.length_append]; exact hz,_,r1.append r2,IsTup.new _ _,NoDi.new _ _⟩
end
end L2
namespace L2
open PySem PySem.Spec PyProof.Rows
noncomputable def Bd (n:Nat) (i:Int):Option Nat:=if 0<=i then (if i<n then some i.toNat else none) else if -(n:Int)<=i then some (i+n).toNat else none
noncomputable def kr {α:Type} (xs:List α) (i:Int):Option α:=(Bd xs.length i).bind fun j=>xs[j]?
theorem Af {n:Nat} {i:Int} {j:Nat} (h:Bd n i=some j):seqIndex? i n=some j/\j<n /\ -(n:Int)<=i/\i<n:=by
 unfold Bd at h
 by_cases h0:0<=i
 ·rw [if_pos h0] at h
  by_cases h1:i<n
  ·rw [if_pos h1] at h
   have e:i.toNat=j:=Option.some.inj h
   exact ⟨by rw [seqIndex_of h0 h1,e],by omega,by omega,h1⟩
  ·rw [if_neg h1] at h; cases h
 ·rw [if_neg h0] at h
  by_cases h1:-(n:Int)<=i
  ·rw [if_pos h1] at h
   have e:(i+n).toNat=j:=Option.some.inj h
   exact ⟨by rw [seqIndex_neg (by omega) h1,e],by omega,h1,by omega⟩
  ·rw [if_neg h1] at h; cases h
theorem uj {α:Type} {xs:List α} {i:Int} {v:α} (h:kr xs i=some v):∃ j,seqIndex? i xs.length=some j/\xs[j]? = some v/\j<xs.length /\ -(xs.length:Int)<=i/\i<xs.length:=by
 unfold kr at h
 cases e:Bd xs.length i with
 | none=>rw [e] at h; cases h
 | some j=>
  rw [e] at h
  obtain ⟨h1,h2,h3,h4⟩:=Af e
  exact ⟨j,h1,h,h2,h3,h4⟩
def ls (b:Expr):Prop:=∀ o i,subscripted b false o i=operate [o,i] (getItem o i)
def IxR (X:Cx) (r:R2):Prop:=
 ∀ (value slice:Expr) (pins:List (Addr×Obj)) (s:Shared) (σ:St) (H:Hp) (x y:V) (v u:Value) (Q:VK),Inv X pins σ H s->RelV x v->RelV y u->r x y H Q ->
  subscripted slice false v u=operate [v,u] (getItem v u)->wpAny (model X.prog X.w) X.A (subscriptTail value slice v u) (EP X pins σ Q) X.xe s
def JA (X:Cx) (id:String) (r:V->List V->Hp->VK->Prop):Prop:=
 ∀ (pins:List (Addr×Obj)) (s:Shared) (σ:St) (H:Hp) (x:V) (xs:List V) (v:Value) (us:List Value) (Q:VK),Inv X pins σ H s->RelV x v->Vals xs us->r x xs H Q ->
  wpAny (model X.prog X.w) X.A (call (.builtin id) (v::us)) (EP X pins σ Q) X.xe s
section
variable {X:Cx} {a b:Expr} {ta tb:TE} {pos:Pos}
theorem IxR.or {r r':R2} (h:IxR X r) (h':IxR X r'):IxR X (fun x y H Q=>r x y H Q\/r' x y H Q):=by
 intro value slice pins s σ H x y v u Q I rx ry q hs
 rcases q with q | q
 ·exact h value slice pins s σ H x y v u Q I rx ry q hs
 ·exact h' value slice pins s σ H x y v u Q I rx ry q hs
theorem wj {r:R2} (hr:IxR X r) (ha:PE X a ta) (hb:PE X b tb) (hs:ls b):PE X (.Subscript a b pos) (DC r ta tb):=by
 intro pins s σ H Q I h
 exact Subscript_ (CW ha hb I h fun v u s2 x y H2 I2 rx ry q=>hr a b pins s2 σ H2 x y v u Q I2 rx ry q (hs _ _))
def GX (K:PySem.W.Frag):R2:=fun x y H Q=>∃ p xs i v,x=.ref p/\y=.int i/\SqL K H p xs/\kr xs i=some v/\Q v H
def GW (K:PySem.W.Frag):R2:=fun x y H Q=>∃ p xs i v,x=.ref p/\y=.int i/\SqT K H p xs/\kr xs i=some v/\Q v H
theorem ix_list:IxR X (GX X.K):=by
 intro value slice pins s σ H x y v u Q I rx ry h hs
 obtain ⟨p,xs,i,z,rfl,rfl,hq,he,q⟩:=h
 cases rx
 obtain ⟨t,rfl⟩:=ry
 obtain ⟨its,r,pl,hz⟩:=I.list hq
 obtain ⟨j,h1,h2,h3,h4,h5⟩:=uj he
 obtain ⟨w,ew,rw'⟩:=r.get h2
 have hl:=r.length
 have hn:=se
 have fin:EP X pins σ Q w s:=⟨z,H,I,rw',q⟩
 by_cases h0:0<=i
 ·have hj:i.toNat=j:=by
   rw [seqIndex_of h0 h5] at h1
   exact Option.some.inj h1
  exact item_listR pl.isList h0 (by omega) (by rw [hj]; simpa using ew) fin hs
 ·have hj:(i+(its.toArray.size:Int)).toNat=j:=by
   rw [seqIndex_neg (by omega) h4] at h1
   rw [List.size_toArray,<- hl]
   exact Option.some.inj h1
  exact subscriptTail_builtinR (x:=w) pl.isList.typeIs slot_list_getitem.lookup
   (wpAny_getItem_list_neg (Q:=fun r s'=>r=w/\EP X pins σ Q r s') pl.isList (by omega) (by rw [List.size_toArray] <;> omega) (by omega) (by rw [hj]; simpa using ew) ⟨rfl,fin⟩) hs
theorem xb:IxR X (GW X.K):=by
 intro value slice pins s σ H x y v u Q I rx ry h hs
 obtain ⟨p,xs,i,z,rfl,rfl,hq,he,q⟩:=h
 cases rx
 obtain ⟨t,rfl⟩:=ry
 obtain ⟨its,r,pl,hz⟩:=I.tuple hq
 obtain ⟨j,h1,h2,h3,h4,h5⟩:=uj he
 obtain ⟨w,ew,rw'⟩:=r.get h2
 have hl:=r.length
 have hn:=se
 have fin:EP X pins σ Q w s:=⟨z,H,I,rw',q⟩
 exact subscriptTail_builtinR (x:=w) pl.typeIs slot_tuple_getitem.lookup
  (getItem_tuple (j:=j) (Q:=fun r s'=>r=w/\EP X pins σ Q r s') pl (by omega) (by omega) (by rw [List.size_toArray,<- hl]; exact h1) (by simpa using ew) ⟨rfl,fin⟩) hs
theorem ol (lo hi:Option Int) (n:Nat):(sliceBounds lo hi none n).1=((HT.sIx n 0 lo:Nat):Int)/\(sliceBounds lo hi none n).2.1=((HT.sIx n n hi:Nat):Int)/\(sliceBounds lo hi none n).2.2=1:=by
 refine ⟨?_,?_,rfl⟩
 ·cases lo with
  | none=>simp [sliceBounds,HT.sIx]
  | some i=>
   simp only [sliceBounds,HT.sIx,Option.getD_none,show (1:Int)>0 by decide,if_true]
   by_cases h:i<0
   ·simp only [h,if_true] <;> omega
   ·simp only [h,if_false] <;> omega
 ·cases hi with
  | none=>simp [sliceBounds,HT.sIx]
  | some i=>
   simp only [sliceBounds,HT.sIx,Option.getD_none,show (1:Int)>0 by decide,if_true]
   by_cases h:i<0
   ·simp only [h,if_true] <;> omega
   ·simp only [h,if_false] <;> omega
theorem mQ (its:List Value) (lo hi:Option Int):slicePick its.toArray lo hi none=((its.drop (HT.sIx its.length 0 lo)).take (HT.sIx its.length its.length hi-HT.sIx its.length 0 lo)).toArray:=by
 obtain ⟨h1,h2,h3⟩:=ol lo hi its.toArray.size
 unfold slicePick
 rw [h1,h2,h3]
 simp only [sliceRange_one,pick_run,List.size_toArray] <;> rfl
def GU (K:PySem.W.Frag):V->Option Int->Option Int->Hp->VK->Prop:=fun x lo hi H Q=>∃ a xs,x=.ref a/\SqL K H a xs/\∀ p,H p=none->Q (.ref p) (upd H p (.lst (m4 xs lo hi)))
theorem sl_list:SlR X (GU X.K):=by
 intro pins s σ H x v vl vu lo hi sl Q I rx hs pl pu h
 obtain ⟨a,xs,rfl,hx,q⟩:=h
 cases rx
 obtain ⟨its,r,ht,hz⟩:=I.list hx
 have hlen:=r.length
 refine ⟨"list",_,slot_list_getitem.lookup,ht.isList.typeIs,?_⟩
 refine wpAny_getItem_list_slice ht.isList hs pl pu .none (by simp) ?_ (by rw [List.size_toArray] <;> omega)
 rw [mQ,<- hlen]
 refine ⟨.ref s.heap.objs.size,_,I.laid (t':=s.toks) (o:=.lst (m4 xs lo hi)) (fun b ob q=>Heap.get?_push_of_some _ q) (Nat.le_refl _) ?_,rfl,q _ (I.hok.fresh (Nat.le_refl _))⟩
 exact ⟨Nat.le_trans (kE xs lo hi) hz,_,0,(r.drop (HT.sIx xs.length 0 lo)).take (HT.sIx xs.length xs.length hi-HT.sIx xs.length 0 lo),Heap.get?_push_size _ rfl⟩
noncomputable def fT:V->Bool
 | .non=>true
 | .bl _=>true
 | .int _=>true
 | .str _=>true
 | _=>false
noncomputable def yo:V->V->Bool
 | .non,.non=>true
 | .bl a,.bl b=>a==b
 | .bl a,.int b=>(if a then 1 else 0)==b
 | .int a,.bl b=>a==(if b then 1 else 0)
 | .int a,.int b=>a==b
 | .str a,.str b=>a==b
 | _,_=>false
theorem CM {A:Around} {s:Shared} {y x:V} {u v:Value} (ry:RelV y u) (rx:RelV x v) (fy:fT y=true) (fx:fT x=true):SeqAt.EqAt A s u v (yo y x):=by
 cases y with
 | non=>
  cases ry
  cases x with
  | non=>cases rx; exact SeqAt.EqAt.same _
  | bl b=>cases rx; exact SeqAt.EqAt.none_bool b
  | int b=>obtain ⟨t,rfl⟩:=rx; exact SeqAt.EqAt.none_int b t
  | str b=>obtain ⟨t,rfl⟩:=rx; exact SeqAt.EqAt.none_str b t
  | _=>exact absurd (show false=true from fx) Bool.false_ne_true
 | bl a=>
  cases ry
  cases x with
  | non=>cases rx; exact SeqAt.EqAt.bool_none a
  | bl b=>cases rx; exact SeqAt.EqAt.bool_bool a b
  | int b=>obtain ⟨t,rfl⟩:=rx; exact SeqAt.EqAt.bool_int a b t
  | str b=>obtain ⟨t,rfl⟩:=rx; exact SeqAt.EqAt.bool_str a b t
  | _=>exact absurd (show false=true from fx) Bool.false_ne_true
 | int a=>
  obtain ⟨t',rfl⟩:=ry
  cases x with
  | non=>cases rx; exact SeqAt.EqAt.int_none a t'
  | bl b=>cases rx; exact SeqAt.EqAt.int_bool a t' b
  | int b=>obtain ⟨t,rfl⟩:=rx; exact SeqAt.EqAt.int_int a t' b t
  | str b=>obtain ⟨t,rfl⟩:=rx; exact SeqAt.EqAt.int_str a t' b t
  | _=>exact absurd (show false=true from fx) Bool.false_ne_true
 | str a=>
  obtain ⟨t',rfl⟩:=ry
  cases x with
  | non=>cases rx; exact SeqAt.EqAt.str_none a t'
  | bl b=>cases rx; exact SeqAt.EqAt.str_bool a t' b
  | int b=>obtain ⟨t,rfl⟩:=rx; exact SeqAt.EqAt.str_int a t' b t
  | str b=>obtain ⟨t,rfl⟩:=rx; exact SeqAt.EqAt.str_str a t' b t
  | _=>exact absurd (show false=true from fx) Bool.false_ne_true
 | _=>exact absurd (show false=true from fy) Bool.false_ne_true
noncomputable def m3 (x:V) (u:Value):Bool:=match u with
 | .none=>yo .non x
 | .bool b=>yo (.bl b) x
 | .int i _=>yo (.int i) x
 | .str z _=>yo (.str z) x
 | _=>false
theorem xz {x y:V} {u:Value} (r:RelV y u) (f:fT y=true):m3 x u=yo y x:=by
 cases y with
 | non=>cases r; rfl
 | bl b=>cases r; rfl
 | int i=>obtain ⟨t,rfl⟩:=r; rfl
 | str z=>obtain ⟨t,rfl⟩:=r; rfl
 | _=>exact absurd (show false=true from f) Bool.false_ne_true
theorem jR {x:V}:∀ {xs:List V} {us:List Value},Vals xs us->xs.all fT=true->us.any (m3 x)=xs.any fun y=>yo y x
 | _,_,.nil,_=>rfl
 | y::xs,u::us,.cons r t,f=>by
  rw [List.all_cons,Bool.and_eq_true] at f
  rw [List.any_cons,List.any_cons,xz r f.1,jR t f.2]
theorem hV {A:Around} {s:Shared} {x:V} {v:Value} (rx:RelV x v) (fx:fT x=true):∀ {xs:List V} {us:List Value},Vals xs us->xs.all fT=true->∀ u∈us,SeqAt.EqAt A s u v (m3 x u)
 | _,_,.nil,_=>fun u hu=>by cases hu
 | y::xs,u::us,.cons r t,f=>fun u' hu=>by
  rw [List.all_cons,Bool.and_eq_true] at f
  rcases List.mem_cons.mp hu with rfl | hu
  ·rw [xz r f.1]; exact CM r rx f.1 fx
  ·exact hV rx fx t f.2 u' hu
noncomputable def Gb (x:V) (xs:List V):Bool:=xs.any fun y=>yo y x
def FZ (K:PySem.W.Frag) (neg:Bool):R2:=fun x y H Q=>∃ p xs,y=.ref p/\(SqL K H p xs\/SqT K H p xs)/\fT x=true/\xs.all fT=true/\Q (.bl (if neg then !Gb x xs else Gb x xs)) H
theorem uL:OpR X (compareOp .In) (FZ X.K false):=by
 intro pins s σ H x y v u Q I rx ry h
 obtain ⟨p,xs,rfl,hq,fx,fs,q⟩:=h
 cases ry
 rcases hq with hq | hq
 ·obtain ⟨its,r,pl,hz⟩:=I.list hq
  refine SeqAt.in_listAt (m3 x) pl.isList (fun w hw=>hV rx fx r fs w (by simpa using hw)) ⟨.bl _,H,I,rfl,?_⟩
  rw [show its.toArray.any (m3 x)=its.any (m3 x) by simp,jR r fs]
  exact q
 ·obtain ⟨its,r,pl,hz⟩:=I.tuple hq
  refine SeqAt.in_tupleAt (m3 x) pl (fun w hw=>hV rx fx r fs w (by simpa using hw)) ⟨.bl _,H,I,rfl,?_⟩
  rw [show its.toArray.any (m3 x)=its.any (m3 x) by simp,jR r fs]
  exact q
theorem oF:OpR X (compareOp .NotIn) (FZ X.K true):=by
 intro pins s σ H x y v u Q I rx ry h
 obtain ⟨p,xs,rfl,hq,fx,fs,q⟩:=h
 cases ry
 rcases hq with hq | hq
 ·obtain ⟨its,r,pl,hz⟩:=I.list hq
  refine SeqAt.notIn_listAt (m3 x) pl.isList (fun w hw=>hV rx fx r fs w (by simpa using hw)) ⟨.bl _,H,I,rfl,?_⟩
  rw [show its.toArray.any (m3 x)=its.any (m3 x) by simp,jR r fs]
  exact q
 ·obtain ⟨its,r,pl,hz⟩:=I.tuple hq
  refine SeqAt.notIn_tupleAt (m3 x) pl (fun w hw=>hV rx fx r fs w (by simpa using hw)) ⟨.bl _,H,I,rfl,?_⟩
  rw [show its.toArray.any (m3 x)=its.any (m3 x) by simp,jR r fs]
  exact q
theorem pe:CallR X (.type "list") (fun xs H Q=>∃ p ys,xs=[.ref p]/\(SqL X.K H p ys\/SqT X.K H p ys)/\∀ l,H l=none->Q (.ref l) (upd H l (.lst ys))):=by
 intro pins s σ H xs us Q I r h
 obtain ⟨p,ys,rfl,hq,q⟩:=h
 obtain ⟨u,rfl,rx⟩:=lC r
 cases rx
 have fin:∀ (its:List Value),Vals ys its->ys.length<=sizeLine->∀ (h':Heap) (c':Nat),(∀ b o',s.heap.get? b=some o'->h'.get? b=some o') ->
   h'.get? s.heap.objs.size=some { cls:=.type "list",dict:=none,data:=.seq its.toArray c',slots:=#[] }->EP X pins σ Q (.ref s.heap.objs.size) { s with heap:=h' }:=fun its r' hz h' c' kp e=>
  ⟨.ref s.heap.objs.size,_,I.laid (t':=s.toks) kp (Nat.le_refl _) (show ObjOk X.prog X.w _ h' _ (.lst ys) from ⟨hz,its,c',r',e⟩),rfl,q _ (I.hok.fresh (Nat.le_refl _))⟩
 rcases hq with hq | hq
 ·obtain ⟨its,r',pl,hz⟩:=I.list hq
  have hlen:=r'.length
  obtain ⟨o,ho,hc,n,hd⟩:=pl.isList
  exact call_list_seq p (.inl rfl) ho hc hd (fun h' c' kp e=>fin its r' hz h' c' kp e) (by simp only [List.size_toArray] <;> omega)
 ·obtain ⟨its,r',pl,hz⟩:=I.tuple hq
  have hlen:=r'.length
  obtain ⟨o,ho,hc,n,hd⟩:=pl
  exact call_list_seq p (.inr rfl) ho hc hd (fun h' c' kp e=>fin its r' hz h' c' kp e) (by simp only [List.size_toArray] <;> omega)
theorem m6:CallR X (.type "tuple") (fun xs H Q=>∃ p ys,xs=[.ref p]/\((SqL X.K H p ys/\∀ l,H l=none->Q (.ref l) (upd H l (.tup ys)))\/(SqT X.K H p ys/\Q (.ref p) H))):=by
 intro pins s σ H xs us Q I r h
 obtain ⟨p,ys,rfl,h⟩:=h
 obtain ⟨u,rfl,rx⟩:=lC r
 cases rx
 rcases h with ⟨hq,q⟩ | ⟨hq,q⟩
 ·obtain ⟨its,r',pl,hz⟩:=I.list hq
  have hlen:=r'.length
  refine call_tuple_list pl.isList (fun h' kp=>?_) (by simp only [List.size_toArray] <;> omega)
  have I1:Inv X pins σ H { s with heap:=h' }:=I.kept (t':=s.toks) kp
  have I2:Inv X pins σ (upd H h'.objs.size (.tup ys)) { s with heap:=h'.push { cls:=.type "tuple",data:=.seq its.toArray } }:=
   I1.laid (t':=s.toks) (fun b o e=>Heap.get?_push_of_some _ e) (Nat.le_refl _) (show ObjOk X.prog X.w _ _ _ (.tup ys) from ⟨hz,its,r',IsTup.new _ _,NoDi.new _ _⟩)
  exact ⟨.ref h'.objs.size,_,I2,rfl,q _ (I1.hok.fresh (Nat.le_refl _))⟩
 ·obtain ⟨its,r',pl,hz⟩:=I.tuple hq
  exact call_tuple_same pl ⟨.ref p,H,I,rfl,q⟩
def Ir (K:PySem.W.Frag) (T:String) (x:V) (H:Hp):Prop:=match x with
 | .str _=>T = "str"
 | .int _=>T = "int"
 | .ref p=>(T = "list" /\ ∃ xs,SqL K H p xs)\/(T = "tuple" /\ ∃ o,K.lookup p=some o/\o.cls=.type "tuple" /\ o.dict=none) \/
   (T = "dict" /\ ((∃ kvs,H p=some (.dK kvs))\/∃ kvs,H p=some (.dT kvs)))\/(T = "set" /\ ∃ S n,H p=some (.set S n))
 | _=>False
theorem Bp {pins:List (Addr×Obj)} {σ:St} {H:Hp} {s:Shared} {T:String} {x:V} {v:Value} (I:Inv X pins σ H s) (r:RelV x v) (ty:Ir X.K T x H) :
  s.TypeIs v T/\∀ a,v=.ref a->∃ ob,s.heap.get? a=some ob/\ob.dict=none:=by
 cases x with
 | str z=>
  obtain ⟨t,rfl⟩:=r
  cases (show T = "str" from ty)
  exact ⟨typeIs_str s z t,fun _ e=>nomatch e⟩
 | int i=>
  obtain ⟨t,rfl⟩:=r
  cases (show T = "int" from ty)
  exact ⟨typeIs_int s i t,fun _ e=>nomatch e⟩
 | ref p=>
  cases r
  rcases ty with ⟨rfl,xs,hq⟩ | ⟨rfl,o,hk,hc,hd⟩ | ⟨rfl,hk⟩ | ⟨rfl,S,n,hk⟩
  ·obtain ⟨its,_,pl,_⟩:=I.list hq
   refine ⟨pl.isList.typeIs,fun a e=>?_⟩
   cases e
   obtain ⟨o,n,e,c,hd,_⟩:=pl
   exact ⟨o,e,hd⟩
  ·refine ⟨⟨o,I.kIn p o hk,hc⟩,fun a e=>?_⟩
   cases e
   exact ⟨o,I.kIn _ o hk,hd⟩
  ·have z:∃ o,s.heap.get? p=some o/\o.ExactDict:=by
    rcases hk with ⟨kvs,hk⟩ | ⟨kvs,hk⟩
    ·obtain ⟨_,_,_,_,o,_,_,e,ex,_⟩:=I.hok p _ hk
     exact ⟨o,e,ex⟩
    ·obtain ⟨_,_,_,_,o,_,_,e,ex,_⟩:=I.hok p _ hk
     exact ⟨o,e,ex⟩
   obtain ⟨o,e,ex⟩:=z
   refine ⟨⟨o,e,ex.1⟩,fun a e2=>?_⟩
   cases e2
   exact ⟨o,e,ex.2.1⟩
  ·obtain ⟨o,_,_,_,e,ex,_⟩:=I.hok p _ hk
   refine ⟨⟨o,e,ex.1⟩,fun a e2=>?_⟩
   cases e2
   exact ⟨o,e,ex.2.1⟩
 | _=>exact False.elim ty
def Jo (K:PySem.W.Frag) (T:String) (r:V->List V->Hp->VK->Prop) (to:TE) (t:TA):TE:=fun σ H Q=>to σ H fun x H1=>Ir K T x H1/\t σ H1 fun xs H2=>r x xs H2 Q
variable {o e:Expr} {es:List Expr} {to:TE} {t:TA} {name:Str} {apos cpos:Pos} {T id:String} {r:V->List V->Hp->VK->Prop}
theorem wp (pa:PlainAttrs T) (slot:Slot T name id) (hty:typeOf (.builtin id)=pure (.type "method_descriptor")) (hm:JA X id r) (ho:PE X o to) (ha:PA X (e::es) t)
  (hbase:attributeBase o name X.env (eval o X.env)=eval o X.env:=by rfl)
  (hfew:((backTo cpos (starEach (e::es) X.env)).all (fun x=>!x.1)&&(backToKw cpos (keywordEach [] X.env)).all (fun x=>x.1.isSome)
   && decide ((e::es).length+([]:List Keyword).length+(if ([]:List Keyword).isEmpty then 0 else 1)<30))=true:=by rfl)
  (hline:(apos.endLine==cpos.line)=true:=by rfl) (hs:starEach (e::es) X.env=(false,eval e X.env)::starEach es X.env:=by rfl) (hplain:(backTo cpos (starEach es X.env)).any (·.1)=false:=by rfl) :
  PE X (.Call (.Attribute o name apos) (e::es) [] cpos) (Jo X.K T r to t):=by
 intro pins s σ H Q I h
 refine wpAny_Call_method_late hbase hfew hline rfl (cf (ho pins s σ H _ I h) fun v s1 ⟨x,H1,I1,r1,ty,q1⟩=>?_)
 obtain ⟨h1,h2⟩:=Bp I1 r1 ty
 refine ⟨T,id,pa,slot,hty,h1,h2,?_⟩
 have hA:=ha cpos pins s1 σ H1 _ I1 q1
 rw [hs] at hA ⊢
 refine Calls.callWith_builtin (by show (false||(backTo cpos (starEach es X.env)).any (·.1))=false; rw [hplain] <;> rfl) (Calls.evalArgs_plain ?_)
 exact cf hA fun us s2 ⟨vs,H2,I2,r2,q2⟩=>hm pins s2 σ H2 x vs v us Q I2 r1 r2 q2
end
end L2
namespace L2
open PySem PySem.Spec PyProof.Rows
def I0 (X:Cx) (id:String) (r:V->List V->Hp->VK->Prop):Prop:=
 ∀ (pins:List (Addr×Obj)) (s:Shared) (σ:St) (H:Hp) (x:V) (xs:List V) (v:Value) (us:List Value) (Q:VK),Inv X pins σ H s->RelV x v->Vals xs us->r x xs H Q ->
  wpAny (model X.prog X.w) X.A (call (.builtin id) (v::us)) (EP X pins σ Q) X.xe s
theorem Vals.one:∀ {x:V} {us:List Value},Vals [x] us->∃ u,us=[u]/\RelV x u
 | _,_,h=>by
  cases h with
  | cons r t=>
   cases t
   exact ⟨_,rfl,r⟩
theorem Vals.rep {xs:List V} {us:List Value} (h:Vals xs us):∀ k:Nat,Vals (List.replicate k xs).flatten (List.replicate k us).flatten
 | 0=>.nil
 | k+1=>by
  rw [List.replicate_succ,List.replicate_succ,List.flatten_cons,List.flatten_cons]
  exact Vals.append h (Vals.rep h k)
section
variable {X:Cx} {pins:List (Addr×Obj)} {σ:St} {H:Hp} {s:Shared} {l b:Addr} {xs ys zs:List V}
theorem Inv.lset {its its':List Value} {n:Nat} {f:Array Value->Array Value} {t':Nat} (I:Inv X pins σ H s) (hH:H l=some (.lst xs))
  (e:s.heap.get? l=some { cls:=.type "list",data:=.seq its.toArray n }) (hf:f its.toArray=its'.toArray) (hv:Vals ys its') (hz:ys.length<=sizeLine) :
  Inv X pins σ (upd H l (.lst ys)) { s with heap:=s.heap.update l (Obj.mapSeq f),toks:=t' }:=by
 have q:=PySem.IsL.update e f
 rw [hf] at q
 refine I.write (x:=l) (e:=l) (by rw [hH]; exact trivial) (.inl rfl) (fun b' u hb hu=>(Heap.get?_update_other s.heap (Obj.mapSeq f) (Ne.symm hb)).trans hu) ⟨_,q⟩ ?_
 exact ⟨hz,its',_,hv,q⟩
theorem Inv.lnew {its:List Value} {t':Nat} (I:Inv X pins σ H s) (hv:Vals ys its) (hz:ys.length<=sizeLine) :
  Inv X pins σ (upd H s.heap.objs.size (.lst ys)) { s with heap:=s.heap.push { cls:=.type "list",data:=.seq its.toArray },toks:=t' }:=
 I.laid (fun _ _ q=>Heap.get?_push_of_some _ q) (Nat.le_refl _) ⟨hz,its,0,hv,Heap.get?_push_size _ rfl⟩
theorem Inv.fresh (I:Inv X pins σ H s):H s.heap.objs.size=none:=I.hok.fresh (Nat.le_refl _)
theorem Inv.lstM (I:Inv X pins σ H s) (hH:H l=some (.lst xs)):xs.length<=sizeLine/\∃ (its:List Value) (n:Nat),Vals xs its/\xs.length=its.length/\s.heap.get? l=some { cls:=.type "list",data:=.seq its.toArray n }:=by
 obtain ⟨z,its,n,r,e⟩:=I.hok l _ hH
 exact ⟨z,its,n,r,r.length,e⟩
theorem wA {n:Nat} (h:n<=sizeLine):Builtin.List.listTooLong n=false:=by
 unfold Builtin.List.listTooLong
 exact decide_eq_false (by omega)
end
section
variable {X:Cx}
def yU:V->List V->Hp->VK->Prop:=fun x vs H Q=>∃ l xs y,x=.ref l/\vs=[y]/\H l=some (.lst xs)/\xs.length<sizeLine/\Q .non (upd H l (.lst (xs++[y])))
theorem ny:I0 X "list.append" yU:=by
 intro pins s σ H x vs v us Q I rx rv h
 obtain ⟨l,xs,y,rfl,rfl,hH,hz,q⟩:=h
 cases rx
 obtain ⟨u,rfl,ru⟩:=rv.one
 obtain ⟨z,its,n,r,hl,e⟩:=I.lstM hH
 refine call_meets F.slot_list_append ⟨_,e,rfl⟩ F.entry_list_append (F.args_list_append_2 _ _) (PySem.list_append l its.toArray n u (by rw [List.size_toArray]; omega)) ⟨e,?_⟩
 refine ⟨.non,_,I.lset (its':=its++[u]) hH e (by simp) (r.append (.cons ru .nil)) ?_,rfl,q⟩
 rw [List.length_append,List.length_singleton]
 omega
end
end L2
namespace Att
open PySem PySem.W PySem.Calls PyProof.Rows
theorem kO {P:Params} {h:Heap}:∀ (ns:List Int) (vs:List Value),WellAll P h vs (ns.map WData.int)->IntsAre vs ns:=by
 intro ns
 induction ns with
 | nil=>
  intro vs w
  rw [List.map_nil] at w
  cases w
  exact .nil
 | cons n ns ih=>
  intro vs w
  rw [List.map_cons] at w
  cases w with
  | cons a b=>
   cases a
   exact .cons _ _ (ih _ b)
theorem uC {l:OpenLaw} {n:Nat} (hn:l.most=some n) {P:Params} {h:Heap} {args:List WData} {vals:List Value}
  (hpre:l.row.toRowW.claim.pre args=true) (hwl:WellAll P h vals args) :
  ∃ a vs ns,vals=[Value.ref a]/\args=[WData.list (ns.map WData.int)]/\h.get? a=some { cls:=.type "list",data:=.seq vs.toArray }/\IntsAre vs ns/\ns.length<=n:=by
 have hsh:WShape.hasAll [] args [.list .int]=true:=(pre_splitW hpre).1
 have hc:l.pre.holds [] { args:=args }=true:=(pre_splitW hpre).2
 obtain ⟨d,r,rfl,h1,h2⟩:=hasAllW_cons hsh
 obtain rfl:=hasAllW_nil h2
 obtain ⟨xs,rfl,h3⟩:=hasW_list h1
 obtain ⟨ns,rfl⟩:=items_int h3
 have hlen:ns.length<=n:=by
  unfold OpenLaw.pre at hc
  have h4:(WTm.not (.lt (.lit (.int (n:Int))) (.len (.arg 0)))).holds [] { args:=[.list (ns.map .int)] }=true:=by
   have h4:=(holds_andW hc).1
   rw [hn] at h4
   exact h4
  have h5:=condW_of h4 (w_not (w_lt w_lit (w_len_list (w_arg rfl))))
  rw [List.length_map] at h5
  refine Nat.le_of_not_lt fun q=>?_
  have q':(n:Int)<((ns.length:Nat):Int):=by omega
  first
   | (rw [decide_eq_true q'] at h5; exact absurd h5 (by decide))
   | (simp at h5; omega)
 cases hwl with
 | cons w1 w2=>
  cases w2
  cases w1 with
  | list ho hall=>exact ⟨_,_,ns,rfl,rfl,ho,kO ns _ hall,hlen⟩
theorem uH (l:OpenLaw) (args:List WData):l.row.toRowW.claim.post args (.bool true) args=true:=
 postW_of (r:=l.row.toRowW) (X:=(true==true))
  (show WShape.has [] (.bool true) .bool=true by first | rfl | decide | simp [WShape.has,WShape.arms,WShape.armsAll])
  (show (WTm.eq .res (.lit (.bool true))).value [] { args:=args,res:=some (.bool true),after:=args }=some (.bool (true==true)) from w_eq_bool (w_res rfl) w_lit) rfl
theorem rp {l:OpenLaw} {n:Nat} {q:Program} {loose:List Str} {XP:(Str->Option Value)->Heap->Prop} {YP:World->Heap->Prop} {d:DefRec}
  (hn:l.most=some n) (hdf:d.params.defaults=[])
  (call:∀ (w:World) (s₀ s₁:Shared) (mg mb:Str->Option Value) (fa:Addr) (o:Obj) (pm cd doc:Value) (a:Addr) (vs:List Value) (ns:List Int),
   Ground q loose [] XP w s₀ mg mb s₁.heap->YP w s₁.heap ->
   s₁.heap.get? fa=some o->o.data=.func (docDef d.name d.params d.body d.scope pm cd doc)->s₁.heap.CodeRec cd d.name->mg d.name=some (.ref fa) ->
   s₁.heap.get? a=some { cls:=.type "list",data:=.seq vs.toArray }->IntsAre vs ns->ns.length<=n->s₁.gens = #[] ->
   codeAny (model l.prog w) callerA (.call (.ref fa) ⟨[.ref a],[]⟩) (fun r s'=>r=.ok (.ret (.bool true))/\OldK s₁.heap s'.heap/\s'.os=s₁.os/\AllBare s'.gens) s₁) :
  WalkO q loose XP YP l.row.toRowW d [] (fun f vs=>PySem.call f vs):=by
 intro w s₀ s₁ mg mb G Y fa o pm cd doc dV kV ho hd hcd hD hmg hg args vals as hpre hlay hrd hwl hlo
 obtain rfl:dV=.none:=Dflts.none hD hdf
 obtain rfl:kV=.none:=Dflts.noKw hD
 obtain ⟨a,vs,ns,rfl,rfl,hobj,hints,hlen⟩:=uC hn hpre hwl
 refine enter_call (codeAny_mono (call w s₀ s₁ mg mb fa o pm cd doc a vs ns G Y ho (fd_plain hd) hcd hmg hobj hints hlen hg) fun r s' hq=>?_)
 obtain ⟨rfl,h2,h3,h4⟩:=hq
 exact ⟨.inl ⟨.bool true,.bool true,[],rfl,fun _=>rfl,.bool true,uH l _,fun _=>⟨List.Pairwise.nil,fun _ hm=>(nomatch hm)⟩⟩,h2,h3,h4⟩
section
variable {prog:Program} {w:World} {A:Around} {E:Value->Shared->Prop} {s:Shared} {K:Frag}
noncomputable def Hh (h:Heap) (L d:Addr):List (Addr×Obj):=(List.range h.objs.size).filterMap fun a=>if a=L\/a=d then none else (h.get? a).map fun o=>(a,o)
end
end Att
namespace L2
open PySem PySem.Spec PyProof.Rows
theorem gm:∀ {vs:List Value} {ns:List Int},IntsAre vs ns->Vals (ns.map V.int) vs
 | _,_,.nil=>.nil
 | _,_,.cons n t h=>.cons ⟨t,rfl⟩ (gm h)
def C5 (H:Hp):Prop:=∀ b,H b=none\/∃ o xs,H b=some (.frz o (.lst xs))
theorem wS {P:Program} {w:World} {K:PySem.W.Frag} {mg mb:Str->Option Value} {CX:uq} {k:Nat} {fa a:Addr} {fd:FuncData} {x:Str} {sp:Sp} {s₁:Shared} {vs:List Value} {ns:List Int}
  (KX:K.In s₁.heap) (hns:s₁.heap.Ns mainGlobals mg) (hb:s₁.heap.Ns builtinsNs mb) (hbb:∀ x:Str,x ≠ "__name__" -> mb x=bootBuiltins x) (hlim:s₁.heap.NoLimit) (hg:s₁.gens = #[])
  (ha:s₁.heap.get? a=some { cls:=.type "list",data:=.seq vs.toArray }) (hi:IntsAre vs ns) (hl:ns.length<=sizeLine) (hr:Room k callerA)
  (F:∀ base:Heap,K.In base->base.Ns mainGlobals mg->FnOk P w K mg base CX k fa fd [x] sp) (hbind:∀ (s:Shared) (u:Value),BindsTo s fd ⟨[u],[]⟩ [(x,u)])
  (hsp:∀ H:Hp,C5 H->SqL K H a (ns.map V.int)->sp [.ref a] H (fun v _=>v=.bl true) fun _ _ _=>False)
  (hCX:∀ H e s',CX [] H s₁ (fun _ _ _=>False) e s'->False) :
  codeAny (model P w) callerA (.call (.ref fa) ⟨[.ref a],[]⟩) (fun r s'=>r=.ok (.ret (.bool true))/\OldK s₁.heap s'.heap/\s'.os=s₁.os/\AllBare s'.gens) s₁:=by
 have rv:=gm hi
 have lenV:=hi.length
 have core:∀ H:Hp,C5 H->SqL K H a (ns.map V.int)->HOk P w H s₁.heap->(∀ b,H b≠none->b=a)->(H a≠none->K.lookup a=none) ->
   codeAny (model P w) callerA (.call (.ref fa) ⟨[.ref a],[]⟩) (fun r s'=>r=.ok (.ret (.bool true))/\OldK s₁.heap s'.heap/\s'.os=s₁.os/\AllBare s'.gens) s₁:=by
  intro H hO hS hok hA hK
  have base_of:∀ {b:Addr} {o:Obj},s₁.heap.get? b=some o->H b=none->(o0 s₁.heap H).get? b=some o:=fun e n=>xi e n
  have noA:∀ {b:Addr} {o:Obj} {es:Array DictEntry} {ep:Nat},s₁.heap.get? b=some o->o.data=.dict es ep->H b=none:=fun {b o es ep} e d=>by
   cases q:H b with
   | none=>rfl
   | some u=>
    have e':b=a:=hA b (by rw [q]; simp)
    subst e'
    rw [ha] at e; cases e
    have d':Data.seq vs.toArray _=Data.dict es ep:=d
    cases d'
  have nsK:∀ {b:Addr} {m:Str->Option Value},s₁.heap.Ns b m->(o0 s₁.heap H).Ns b m:=fun {b m} ⟨o,es,ep,e,d,r⟩=>⟨o,es,ep,base_of e (noA e d),d,r⟩
  have hKb:K.In (o0 s₁.heap H):=fun b o e=>base_of (KX b o e) (by
   cases q:H b with
   | none=>rfl
   | some u=>
    have e':b=a:=hA b (by rw [q]; simp)
    subst e'
    rw [hK (by rw [q]; simp)] at e; cases e)
  have hM:Mod K mg (o0 s₁.heap H):=⟨hKb,nsK hns,⟨mb,nsK hb,hbb⟩,let ⟨mc,h1,h2⟩:=hlim; ⟨mc,nsK h1,h2⟩⟩
  have e0:Env0 P w K mg (o0 s₁.heap H) callerA [] s₁ H:=⟨rfl,hM,fun b o e=>zx e,Nat.le_of_eq (vd _ _),trivial,fun b hb=>absurd (show b∈([]:List Addr) from hb) (by simp),hok,.of_eq hg⟩
  refine codeAny_mono ((F _ hKb (nsK hns)).run callerA [] s₁ H ⟨[.ref a],[]⟩ [.ref a] [.ref a] _ _ hr e0 (hbind s₁ (.ref a)) (.cons rfl .nil) (hsp H hO hS)) fun r s' h=>?_
  cases r with
  | error e=>exact (hCX H e s' h).elim
  | ok fl=>
   cases fl with
   | next=>exact False.elim h
   | brk=>exact False.elim h
   | cont=>exact False.elim h
   | ret u=>
    obtain ⟨v,H',os,bare,un,hok',r',q⟩:=h
    have q':v=.bl true:=q
    subst q'
    obtain rfl:u=Value.bool true:=r'
    refine ⟨rfl,OldK.of_keep fun b o e=>?_,os,bare⟩
    cases q:H b with
    | none=>exact un.keep b o e q (by intro z; exact absurd (show b∈([]:List Addr) from z) (by simp)) (by simp)
    | some u=>
     rcases hO b with z | ⟨ob,xs,z⟩
     ·rw [q] at z; cases z
     ·have z2:=un.frzs b ob _ z
      obtain ⟨e1,_⟩:=hok b _ z
      obtain ⟨e2,_⟩:=hok' b _ z2
      rw [e] at e1; cases e1
      exact e2
 cases hk:K.lookup a with
 | some o=>
  have e:=KX a o hk
  rw [ha] at e
  cases e
  refine core (fun _=>none) (fun _=>.inl rfl) (.inr ⟨_,vs.toArray,_,hk,rfl,rfl,rfl,by rw [List.size_toArray,lenV]; exact hl,by simpa using rv⟩) (fun b u z=>by have z':(none:Option HO)=some u:=z; cases z') (fun b z=>absurd rfl z) fun z=>absurd rfl z
 | none=>
  refine core (fun b=>if b=a then some (.frz { cls:=.type "list",data:=.seq vs.toArray } (.lst (ns.map V.int))) else none) (fun b=>?_) (.inl (.inr ⟨{ cls:=.type "list",data:=.seq vs.toArray },if_pos rfl⟩)) (fun b u z=>?_) (fun b z=>?_) fun _=>hk
  ·by_cases hb:b=a
   ·exact .inr ⟨_,_,if_pos hb⟩
   ·exact .inl (if_neg hb)
  ·by_cases hb:b=a
   ·have z':=(if_pos hb).symm.trans z
    cases z'
    subst hb
    exact ⟨ha,by rw [List.length_map]; exact hl,vs,_,rv,ha⟩
   ·have z':=(if_neg hb).symm.trans z
    cases z'
  ·by_cases hb:b=a
   ·exact hb
   ·exact absurd (if_neg hb) z
end L2
namespace L2
open PySem PySem.Spec PyProof.Rows
abbrev JH {K:PySem.W.Frag} {h:Heap} (_:K.In h):PySem.W.Frag:=K
theorem yy {l:PySem.W.OpenLaw} {n k:Nat} {q:Program} {loose:List Str} {XP:(Str->Option Value)->Heap->Prop} {YP:World->Heap->Prop} {d:DefRec} {K:Params->PySem.W.Frag} {CX:World->uq} {sp:World->Sp} {x:Str}
  (hn:l.most=some n) (hn2:n<=sizeLine) (hdf:d.params.defaults=[]) (hr:Room k callerA)
  (hY:∀ (w:World) (h:Heap),YP w h->(K w.params).In h)
  (F:∀ (w:World) (mg:Str->Option Value) (fa:Addr) (h:Heap),(K w.params).In h->h.Ns mainGlobals mg->mg d.name=some (.ref fa) ->
   ∃ fd:FuncData,(∀ (s:Shared) (u:Value),BindsTo s fd ⟨[u],[]⟩ [(x,u)]) /\
    ∀ base:Heap,(K w.params).In base->base.Ns mainGlobals mg->FnOk l.prog w (K w.params) mg base (CX w) k fa fd [x] (sp w))
  (hsp:∀ (w:World) (H:Hp) (a:Addr) (ns:List Int),ns.length<=n->C5 H->SqL (K w.params) H a (ns.map V.int)->sp w [.ref a] H (fun v _=>v=.bl true) fun _ _ _=>False)
  (hCX:∀ (w:World) (H:Hp) (s:Shared) (e:Value) (s':Shared),CX w [] H s (fun _ _ _=>False) e s'->False) :
  PySem.W.WalkO q loose XP YP l.row.toRowW d [] (fun f vs=>PySem.call f vs):=by
 refine Att.rp hn hdf fun w s₀ s₁ mg mb fa o pm cd doc a vs ns G Y ho hd hcd hmg hobj hints hlen hg=>?_
 have KX:=hY w _ Y
 obtain ⟨fd,hb,hF⟩:=F w mg fa _ KX G.T.g hmg
 exact wS KX G.T.g G.T.b G.T.builtins G.T.nolimit hg hobj hints (Nat.le_trans hlen hn2) hr hF hb (fun H hO hS=>hsp w H a ns hlen hO hS) fun H e s'=>hCX w H s₁ e s'
end L2
namespace L2
open PySem PySem.Spec PyProof.Rows
noncomputable def di (s:Stmt):Arguments:=match s with
 | .FunctionDef _ a _ _ _ _ _ _ _ _=>a
 | _=>{ posonlyargs:=[],args:=[],vararg:=none,kwonlyargs:=[],kw_defaults:=[],kwarg:=none,defaults:=[] }
noncomputable def cz (s:Stmt):List Stmt:=match s with
 | .FunctionDef _ _ b _ _ _ _ _ _ _=>b
 | _=>[]
noncomputable def ar (s:Stmt):Scope:=match s with
 | .FunctionDef _ _ _ _ _ _ sc _ _ _=>sc
 | _=>{ kind:=.function,names:=[],isGenerator:=false,isCoroutine:=false }
abbrev d0:uq:=fun _ _ _ _ _ _=>False
abbrev E0:XK:=fun _ _ _=>False
theorem AU {X:Cx}:pG d0 X E0:=fun _ _ _ _ _ _ _ h=>h.elim
def Same (H H':Hp):Prop:=∀ b o,H b=some o->H' b=some o
theorem Same.refl (H:Hp):Same H H:=fun _ _ h=>h
theorem Same.trans {H H1 H2:Hp} (a:Same H H1) (b:Same H1 H2):Same H H2:=fun c o h=>b c o (a c o h)
end L2
set_option maxHeartbeats 4000000
namespace VL
open PySem L2
abbrev D:=PyData
inductive Oc where
 | l (ds:List D) | d (es:List (aY×D))
inductive Sl where
 | un | fz (d:D) | own (c:Oc) | fr (ds:List D)
abbrev Sl.ow (ds:List D):Sl:=.own (.l ds)
abbrev Sl.od (es:List (aY×D)):Sl:=.own (.d es)
noncomputable def iL:aY->D
 | .inl i=>.int i
 | .inr x=>.str x
noncomputable def Hq (n:Str) (ds:List (Str×D)):List (D×D):=(.str "ins",.str n)::ds.map fun q=>(.str q.1,q.2)
noncomputable def Aw (es:List (aY×Int)):List (D×D):=es.map fun p=>(iL p.1,.int p.2)
abbrev Dv:=List Sl
inductive Fl where
 | nx | bk | ct | rt (d:D)
abbrev Sf:=Dv->Option (Fl×Dv)
@[simp] noncomputable def o2 (f1 f2:Dv->Option D) (g:D->D->Option D):Dv->Option D:=fun δ=>(f1 δ).bind fun x=>(f2 δ).bind fun y=>g x y
@[simp] noncomputable def o1 (f:Dv->Option D) (g:D->Option D):Dv->Option D:=fun δ=>(f δ).bind g
@[simp] noncomputable def os (f:Dv->Option (List D)) (g:List D->Option D):Dv->Option D:=fun δ=>(f δ).bind g
noncomputable def asB:D->Option Bool
 | .bool b=>some b
 | _=>none
@[simp] theorem FH (b:Bool):asB (.bool b)=some b:=rfl
@[simp] noncomputable def ob (f:Dv->Option D):Dv->Option Bool:=fun δ=>(f δ).bind asB
@[simp] noncomputable def dF (t u:Dv->Option Bool):Dv->Option Bool:=fun δ=>(t δ).bind fun b=>if b=true then u δ else some false
@[simp] noncomputable def oT (t u:Dv->Option Bool):Dv->Option Bool:=fun δ=>(t δ).bind fun b=>if b=true then some true else u δ
@[simp] noncomputable def j5 (t:Dv->Option Bool):Dv->Option Bool:=fun δ=>(t δ).map (!·)
@[simp] noncomputable def gw (f1 f2:Dv->Option D):Dv->Option D:=fun δ=>(f1 δ).bind fun x=>(asB x).bind fun b=>if b=true then f2 δ else some (.bool false)
@[simp] noncomputable def Es (f1 f2:Dv->Option D):Dv->Option D:=fun δ=>(f1 δ).bind fun x=>(asB x).bind fun b=>if b=true then some (.bool true) else f2 δ
@[simp] noncomputable def zy (d:D):Option D:=(asB d).map fun b=>.bool (!b)
@[simp] noncomputable def F0 (t:Dv->Option Bool) (f1 f2:Dv->Option D):Dv->Option D:=fun δ=>(t δ).bind fun b=>if b=true then f1 δ else f2 δ
noncomputable def GK:Option Sl->Option D
 | some (.fz d)=>some d
 | some (.fr ds)=>some (.list ds)
 | _=>none
@[simp] theorem GJ (ds:List D):GK (some (.fr ds))=some (.list ds):=rfl
@[simp] theorem GI (d:D):GK (some (.fz d))=some d:=rfl
@[simp] noncomputable def oV (i:Nat):Dv->Option D:=fun δ=>GK δ[i]?
@[simp] noncomputable def oC (d:D):Dv->Option D:=fun _=>some d
@[simp] noncomputable def ao:Dv->Option (List D):=fun _=>some []
@[simp] noncomputable def ac (f:Dv->Option D) (fs:Dv->Option (List D)):Dv->Option (List D):=fun δ=>(f δ).bind fun x=>(fs δ).bind fun xs=>some (x::xs)
noncomputable def be (ds:List D):Option D:=if ds.length<=sizeLine then some (.tuple ds) else none
noncomputable def cK (ds:List D):Option D:=if ds.length<=sizeLine then some (.list ds) else none
theorem kT {ds:List D} (h:ds.length<=16777216):be ds=some (.tuple ds):=if_pos h
theorem lc {ds:List D} (h:ds.length<=16777216):cK ds=some (.list ds):=if_pos h
@[simp] theorem Iy:be []=some (.tuple []):=rfl
@[simp] theorem Ix (a:D):be [a]=some (.tuple [a]):=kT (by simp)
@[simp] theorem Iw (a b:D):be [a,b]=some (.tuple [a,b]):=kT (by simp)
@[simp] theorem Iv (a b c:D):be [a,b,c]=some (.tuple [a,b,c]):=kT (by simp)
@[simp] theorem Iu (a b c d:D):be [a,b,c,d]=some (.tuple [a,b,c,d]):=kT (by simp)
@[simp] theorem IP:cK []=some (.list []):=rfl
@[simp] theorem IN (a:D):cK [a]=some (.list [a]):=lc (by simp)
@[simp] theorem IM (a b:D):cK [a,b]=some (.list [a,b]):=lc (by simp)
@[simp] theorem IL (a b c:D):cK [a,b,c]=some (.list [a,b,c]):=lc (by simp)
@[simp] theorem IK (a b c d e:D):cK [a,b,c,d,e]=some (.list [a,b,c,d,e]):=lc (by simp)
instance (i j:Int):Decidable (IntMulOk i j):=by unfold IntMulOk; infer_instance
noncomputable def iI (g:Int->Int->Int):D->D->Option D
 | .int i,.int j=>some (.int (g i j))
 | _,_=>none
noncomputable def iC (C:Int->Int->Bool) (g:Int->Int->Int):D->D->Option D
 | .int i,.int j=>if C i j=true then some (.int (g i j)) else none
 | _,_=>none
noncomputable def iB (g:Int->Int->Bool):D->D->Option D
 | .int i,.int j=>some (.bool (g i j))
 | _,_=>none
@[simp] theorem Hv (g:Int->Int->Int) (i j:Int):iI g (.int i) (.int j)=some (.int (g i j)):=rfl
@[simp] theorem Hw (g:Int->Int->Bool) (i j:Int):iB g (.int i) (.int j)=some (.bool (g i j)):=rfl
theorem sv {C:Int->Int->Bool} {g:Int->Int->Int} {i j:Int} (h:C i j=true):iC C g (.int i) (.int j)=some (.int (g i j)):=if_pos h
noncomputable def HY (i j:Int):Bool:=decide (IntMulOk i j)
noncomputable def H0 (i j:Int):Bool:=decide (0<j/\j<1073741824)
noncomputable def HZ (i j:Int):Bool:=decide (0<j)
abbrev Bv:=iI fun i j=>i-j
abbrev B3:=iC HY fun i j=>i*j
abbrev jG:=iC H0 fun i j=>i / j
abbrev cH:=iC HZ fun i j=>i % j
abbrev qy:=iB fun i j=>decide (i<j)
abbrev IR:=iB fun i j=>decide (i<=j)
abbrev Gf:=iB fun i j=>decide (j<i)
abbrev CB:=iB fun i j=>decide (j<=i)
@[simp] theorem Ex {i j:Int} (h:IntMulOk i j):B3 (.int i) (.int j)=some (.int (i*j)):=sv (decide_eq_true h)
@[simp] theorem Fu {i j:Int} (h:0<j) (h2:j<1073741824):jG (.int i) (.int j)=some (.int (i / j)):=sv (decide_eq_true ⟨h,h2⟩)
@[simp] theorem hU {i j:Int} (h:0<j):cH (.int i) (.int j)=some (.int (i % j)):=sv (decide_eq_true h)
noncomputable def negD:D->Option D
 | .int i=>some (.int (-i))
 | _=>none
@[simp] theorem Ev (i:Int):negD (.int i)=some (.int (-i)):=rfl
noncomputable def bL:D->D->Option D
 | .int i,.int j=>some (.int (i+j))
 | .str x,.str y=>if x.length+y.length<=sizeLine then some (.str (x++y)) else none
 | .list xs,.list ys=>if xs.length+ys.length<=sizeLine then some (.list (xs++ys)) else none
 | .tuple xs,.tuple ys=>if xs.length+ys.length<=sizeLine then some (.tuple (xs++ys)) else none
 | _,_=>none
@[simp] theorem FK (i j:Int):bL (.int i) (.int j)=some (.int (i+j)):=rfl
theorem vm {xs ys:List D} (h:xs.length+ys.length<=16777216):bL (.list xs) (.list ys)=some (.list (xs++ys)):=if_pos h
noncomputable def kU (d:D):Bool:=PySem.SeqAt.shaped d
noncomputable def aH:D->D->Option D:=fun a b=>if kU a=true/\kU b=true then some (.bool (PyData.eqv a b)) else none
noncomputable def neD:D->D->Option D:=fun a b=>if kU a=true/\kU b=true then some (.bool (!PyData.eqv a b)) else none
@[simp] theorem At (i j:Int):aH (.int i) (.int j)=some (.bool (i==j)):=rfl
@[simp] theorem F1 (i j:Int):neD (.int i) (.int j)=some (.bool (!(i==j))):=rfl
@[simp] theorem xA (i j:Bool):aH (.bool i) (.bool j)=some (.bool (i==j)):=rfl
@[simp] theorem Ew (i j:Bool):neD (.bool i) (.bool j)=some (.bool (!(i==j))):=rfl
noncomputable def u7 (d:D):Bool:=match d with
 | .none=>true
 | _=>false
noncomputable def isD:D->D->Option D:=fun a b=>match b with
 | .none=>some (.bool (u7 a))
 | _=>none
noncomputable def jy:D->D->Option D:=fun a b=>match b with
 | .none=>some (.bool (!u7 a))
 | _=>none
@[simp] theorem EM (a:D):isD a .none=some (.bool (u7 a)):=rfl
@[simp] theorem Ci (a:D):jy a .none=some (.bool (!u7 a)):=rfl
@[simp] theorem EL:u7 .none=true:=rfl
@[simp] theorem F8 (i:Int):u7 (.int i)=false:=rfl
noncomputable def aC:D->D->Option D
 | .list xs,.int i=>kr xs i
 | .tuple xs,.int i=>kr xs i
 | _,_=>none
@[simp] theorem EJ (xs:List D) (i:Int):aC (.list xs) (.int i)=kr xs i:=rfl
@[simp] theorem Dd (xs:List D) (i:Int):aC (.tuple xs) (.int i)=kr xs i:=rfl
theorem gj {α:Type} {xs:List α} {i:Int} {j:Nat} {v:α} (hi:i=j) (h:xs[j]? = some v):kr xs i=some v:=by
 have hl:j<xs.length:=(List.getElem?_eq_some_iff.mp h).1
 subst hi
 unfold kr Bd
 rw [if_pos (by omega),if_pos (by omega)]
 simpa using h
@[simp] theorem at0 {α:Type} (a:α) (r:List α):kr (a::r) 0=some a:=gj (j:=0) rfl rfl
@[simp] theorem at1 {α:Type} (a b:α) (r:List α):kr (a::b::r) 1=some b:=gj (j:=1) rfl rfl
@[simp] theorem CY {α:Type} (a b c:α) (r:List α):kr (a::b::c::r) 2=some c:=gj (j:=2) rfl rfl
@[simp] theorem Jz {α:Type} (a b c d:α) (r:List α):kr (a::b::c::d::r) 3=some d:=gj (j:=3) rfl rfl
@[simp] theorem Jy {α:Type} (a b c d e:α) (r:List α):kr (a::b::c::d::e::r) 4=some e:=gj (j:=4) rfl rfl
noncomputable def cw:List D->Option D
 | [.list xs]=>some (.int xs.length)
 | [.tuple xs]=>some (.int xs.length)
 | _=>none
@[simp] theorem Dc (xs:List D):cw [.list xs]=some (.int xs.length):=rfl
@[simp] theorem B8 (xs:List D):cw [.tuple xs]=some (.int xs.length):=rfl
noncomputable def zB:List D->Option D
 | [.int i,.int j]=>some (.int (if j<i then j else i))
 | _=>none
noncomputable def r6:List D->Option D
 | [.int i,.int j]=>some (.int (if j>i then j else i))
 | _=>none
@[simp] theorem Ey (i j:Int):zB [.int i,.int j]=some (.int (if j<i then j else i)):=rfl
@[simp] theorem cX (i j:Int):r6 [.int i,.int j]=some (.int (if j>i then j else i)):=rfl
noncomputable def u9:List D->Option D
 | [.int i]=>some (.int i)
 | [.bool b]=>some (.int (if b then 1 else 0))
 | _=>none
@[simp] theorem EW (i:Int):u9 [.int i]=some (.int i):=rfl
@[simp] theorem Dj (b:Bool):u9 [.bool b]=some (.int (if b then 1 else 0)):=rfl
noncomputable def tL:List D->Option D
 | [.list xs]=>some (.list xs)
 | [.tuple xs]=>some (.list xs)
 | _=>none
@[simp] theorem B5 (xs:List D):tL [.list xs]=some (.list xs):=rfl
@[simp] theorem A4 (xs:List D):tL [.tuple xs]=some (.list xs):=rfl
noncomputable def jY:List D->Option D
 | [.list xs]=>some (.tuple xs)
 | [.tuple xs]=>some (.tuple xs)
 | _=>none
@[simp] theorem AQ (xs:List D):jY [.list xs]=some (.tuple xs):=rfl
@[simp] theorem yB (xs:List D):jY [.tuple xs]=some (.tuple xs):=rfl
noncomputable def FG:D->Option D
 | .int i=>some (.int (Builtin.Int.intBits i))
 | _=>none
@[simp] theorem Dn (i:Int):FG (.int i)=some (.int (Builtin.Int.intBits i)):=rfl
noncomputable def tyN:D->String
 | .none=>"NoneType"
 | .bool _=>"bool"
 | .int _=>"int"
 | .str _=>"str"
 | .list _=>"list"
 | .tuple _=>"tuple"
 | .dict _=>"dict"
noncomputable def Cs (t T:String):Bool:=t==T||(t == "bool" && T == "int")
noncomputable def tS:D->Bool
 | .dict _=>true
 | _=>false
noncomputable def cT (T:String) (d:D):Option D:=if tS d=true then none else if T = "int" \/ T = "bool" \/ T = "str" \/ T = "list" \/ T = "tuple" then some (.bool (Cs (tyN d) T)) else none
@[simp] theorem Bf (i:Int):cT "int" (.int i)=some (.bool true):=rfl
@[simp] theorem Ai (i:Int):cT "bool" (.int i)=some (.bool false):=rfl
@[simp] theorem Ah (i:Bool):cT "int" (.bool i)=some (.bool true):=rfl
@[simp] theorem ym (i:Bool):cT "bool" (.bool i)=some (.bool true):=rfl
@[simp] theorem vo (xs:List D):cT "tuple" (.tuple xs)=some (.bool true):=rfl
@[simp] theorem yl (xs:List D):cT "list" (.list xs)=some (.bool true):=rfl
@[simp] noncomputable def aS (f:Dv->Option D):Sf:=fun δ=>(f δ).bind fun d=>some (.rt d,δ)
@[simp] noncomputable def bS (i:Nat) (f:Dv->Option D):Sf:=fun δ=>(f δ).bind fun d=>some (.nx,δ.set i (.fz d))
@[simp] noncomputable def IG (f:Dv->Option D):Sf:=fun δ=>(f δ).bind fun _=>some (.nx,δ)
@[simp] noncomputable def cR:Sf:=fun δ=>some (.nx,δ)
@[simp] noncomputable def JE:Sf:=fun δ=>some (.bk,δ)
@[simp] noncomputable def JD:Sf:=fun δ=>some (.ct,δ)
@[simp] noncomputable def sSeq (s t:Sf):Sf:=fun δ=>(s δ).bind fun r=>match r with
 | (.nx,δ')=>t δ'
 | r=>some r
@[simp] noncomputable def sIf (t:Dv->Option Bool) (u w:Sf):Sf:=fun δ=>(t δ).bind fun c=>if c=true then u δ else w δ
noncomputable def dFz (i:Nat) (δ:Dv):Dv:=match δ[i]? with
 | some (.own (.l ds))=>δ.set i (.fz (.list ds))
 | _=>δ
@[simp] noncomputable def gN (i:Nat):D->Dv->Option Dv:=fun d δ=>some (δ.set i (.fz d))
noncomputable def loop (g:D->Dv->Option Dv) (b:Sf):List D->Sf
 | [],δ=>some (.nx,δ)
 | d::ds,δ=>(g d δ).bind fun δ1=>(b δ1).bind fun r=>match r with
  | (.nx,δ2)=>loop g b ds δ2
  | (.ct,δ2)=>loop g b ds δ2
  | (.bk,δ2)=>some (.nx,δ2)
  | (.rt x,δ2)=>some (.rt x,δ2)
@[simp] theorem EB (g:D->Dv->Option Dv) (b:Sf) (δ:Dv):loop g b [] δ = some (.nx,δ):=rfl
@[simp] noncomputable def iQ (f:Dv->Option (List D)) (g:D->Dv->Option Dv) (b:Sf):Sf:=fun δ=>(f δ).bind fun ds=>loop g b ds δ
noncomputable def gk (t:Dv->Option Bool) (b:Sf):Nat->Sf
 | 0,_=>none
 | n+1,δ=>(t δ).bind fun c=>if c=true then (b δ).bind fun r=>match r with
   | (.nx,δ2)=>gk t b n δ2
   | (.ct,δ2)=>gk t b n δ2
   | (.bk,δ2)=>some (.nx,δ2)
   | (.rt x,δ2)=>some (.rt x,δ2)
  else some (.nx,δ)
noncomputable def mS (lo:Int) (n:Nat):List D:=(List.range n).map fun k=>.int (lo+(k:Nat))
noncomputable def d8:List D->Option (List D)
 | [.int j]=>if j<2 ^ 62 /\ -(2 ^ 62)<=j then some (mS 0 j.toNat) else none
 | _=>none
noncomputable def dR:List D->Option (List D)
 | [.int i,.int j]=>if (i<2 ^ 62 /\ -(2 ^ 62)<=i)/\j<2 ^ 62 /\ -(2 ^ 62)<=j then some (mS i (j-i).toNat) else none
 | _=>none
theorem il {j:Int} (h:j<4611686018427387904) (h2:-4611686018427387904<=j):d8 [.int j]=some (mS 0 j.toNat):=if_pos ⟨h,h2⟩
@[simp] noncomputable def oL (fs:Dv->Option (List D)) (g:List D->Option (List D)):Dv->Option (List D):=fun δ=>(fs δ).bind g
noncomputable def dc:D->Option (List D)
 | .list xs=>some xs
 | .tuple xs=>some xs
 | _=>none
@[simp] theorem De (xs:List D):dc (.list xs)=some xs:=rfl
@[simp] theorem Ch (xs:List D):dc (.tuple xs)=some xs:=rfl
noncomputable def lstI:D->Option (List D)
 | .list xs=>some xs
 | _=>none
noncomputable def Gr:D->Option (List D)
 | .tuple xs=>some xs
 | _=>none
@[simp] noncomputable def oI (f:Dv->Option D) (g:D->Option (List D)):Dv->Option (List D):=fun δ=>(f δ).bind g
@[simp] noncomputable def kZ:Dv->Option (Option Int):=fun _=>some none
noncomputable def asI:D->Option (Option Int)
 | .int i=>some (some i)
 | _=>none
@[simp] theorem Gj (i:Int):asI (.int i)=some (some i):=rfl
@[simp] noncomputable def oP (f:Dv->Option D):Dv->Option (Option Int):=fun δ=>(f δ).bind asI
noncomputable def gA (xs:List D) (lo hi:Option Int):List D:=(xs.drop (HT.sIx xs.length 0 lo)).take (HT.sIx xs.length xs.length hi-HT.sIx xs.length 0 lo)
noncomputable def gY:D->Option Int->Option Int->Option D
 | .list xs,lo,hi=>some (.list (gA xs lo hi))
 | .tuple xs,lo,hi=>some (.tuple (gA xs lo hi))
 | _,_,_=>none
@[simp] noncomputable def iW (f:Dv->Option D) (l u:Dv->Option (Option Int)):Dv->Option D:=fun δ=>(f δ).bind fun x=>(l δ).bind fun i=>(u δ).bind fun j=>gY x i j
noncomputable def aj (N:List Str) (as:List D):Dv:=as.map .fz++List.replicate (N.length-as.length) .un
noncomputable def runB (N:List Str) (n:Nat) (b:Sf):List D->Option D:=fun as=>if as.length=n then (b (aj N as)).bind fun r=>match r with
  | (.rt d,_)=>some d
  | (.nx,_)=>some .none
  | _=>none
 else none
end VL
namespace VL
open PySem PySem.Spec PyProof.Rows L2
abbrev Fg:=PySem.W.Frag
abbrev St:=L2.St
noncomputable def HF (a C:Addr):HO:=.ext fun h=>∃ o,h.get? a=some o/\o.cls=.ref C/\∃ vs,o.data=.fields vs/\vs[2]? = some .none
theorem Rd.same {H H':Hp} {a:Addr} {u:HO} (h:Rd H a u) (s:Same H H'):Rd H' a u:=by
 rcases h with h | ⟨o,h⟩
 ·exact .inl (s _ _ h)
 ·exact .inr ⟨o,s _ _ h⟩
inductive FI (K:Fg) (Z:Hp):V->D->Prop
 | int (i:Int):FI K Z (.int i) (.int i)
 | pair {b:Addr} {i j:Int}:SqT K Z b [.int i,.int j]->FI K Z (.ref b) (.tuple [.int i,.int j])
inductive FF (K:Fg) (Z:Hp):V->D->Prop
 | int (i:Int):FF K Z (.int i) (.int i)
 | lst {b:Addr} {xs:List V} {ds:List D}:Z b=some (.lst xs)->Paired (FI K Z) xs ds->FF K Z (.ref b) (.list ds)
inductive Opq (K:Fg) (Z:Hp) (a:Addr):List (D×D)->Prop
 | exc {n:Str} {C:Addr}:PySem.W.nsIn K mainGlobals n=some (some (.ref C))->Rd Z a (HF a C)->Opq K Z a [(.str "exc",.str n)]
 | fn {n:Str}:PySem.W.nsIn K mainGlobals n=some (some (.ref a))->Opq K Z a [(.str "fn",.str n)]
 | ins {n:Str} {C dx:Addr} {fs:List (Str×V)} {ds:List (Str×D)}:PySem.W.nsIn K mainGlobals n=some (some (.ref C))->Z a=some (.ins C dx fs)->Paired (fun (p:Str×V) (q:Str×D)=>p.1=q.1/\FF K Z p.2 q.2) fs ds->Opq K Z a (Hq n ds)
 | dct {kvs:List (D×D)} {es:List (aY×Int)}:kvs=Aw es->Z a=some (.dK (es.map fun p=>(p.1,V.int p.2)))->Opq K Z a kvs
theorem Av {es:List (aY×Int)} {a:D} {x:Str} {r:List (D×D)} (h:(a,PyData.str x)::r=Aw es):False:=by
 cases es with
 | nil=>cases h
 | cons e es=>simp [Aw] at h
theorem SqT.same {K:Fg} {H H':Hp} {a:Addr} {xs:List V} (h:SqT K H a xs) (s:Same H H'):SqT K H' a xs:=by
 rcases h with h | h
 ·exact .inl (Rd.same h s)
 ·exact .inr h
theorem FI.same {K:Fg} {Z Z':Hp} (s:Same Z Z') {v:V} {d:D} (h:FI K Z v d):FI K Z' v d:=by
 cases h with
 | int i=>exact .int i
 | pair q=>exact .pair (SqT.same q s)
theorem FF.same {K:Fg} {Z Z':Hp} (s:Same Z Z') {v:V} {d:D} (h:FF K Z v d):FF K Z' v d:=by
 cases h with
 | int i=>exact .int i
 | lst q r=>exact .lst (s _ _ q) (Paired.mapP r fun _ _=>FI.same s)
theorem Opq.same {K:Fg} {Z Z':Hp} {a:Addr} {kvs:List (D×D)} (s:Same Z Z') (h:Opq K Z a kvs):Opq K Z' a kvs:=by
 cases h with
 | exc h1 h2=>exact .exc h1 (Rd.same h2 s)
 | fn h1=>exact .fn h1
 | ins h1 h2 h3=>exact .ins h1 (s _ _ h2) (Paired.mapP h3 fun _ _ q=>⟨q.1,q.2.same s⟩)
 | dct h1 h2=>exact .dct h1 (s _ _ h2)
mutual
inductive Rep (K:Fg) (Z:Hp):V->D->Prop
 | non:Rep K Z .non .none
 | bl (b:Bool):Rep K Z (.bl b) (.bool b)
 | int (i:Int):Rep K Z (.int i) (.int i)
 | str (x:Str):Rep K Z (.str x) (.str x)
 | tup {a:Addr} {xs:List V} {ds:List D}:SqT K Z a xs->Reps K Z xs ds->Rep K Z (.ref a) (.tuple ds)
 | lst {a:Addr} {xs:List V} {ds:List D}:SqL K Z a xs->Reps K Z xs ds->Rep K Z (.ref a) (.list ds)
 | opq {a:Addr} {kvs:List (D×D)}:Opq K Z a kvs->Rep K Z (.ref a) (.dict kvs)
 | gdc {a:Addr} {kvs:List (aY×V)} {es:List (aY×D)} {l:List (D×D)}:Z a=some (.dK kvs)->es.map (·.1)=kvs.map (·.1)->Reps K Z (kvs.map (·.2)) (es.map (·.2))->l=es.map (fun p=>(iL p.1,p.2))->Rep K Z (.ref a) (.dict ((.none,.none)::l))
inductive Reps (K:Fg) (Z:Hp):List V->List D->Prop
 | nil:Reps K Z [] []
 | cons {v:V} {d:D} {vs:List V} {ds:List D}:Rep K Z v d->Reps K Z vs ds->Reps K Z (v::vs) (d::ds)
end
theorem SqL.same {K:Fg} {H H':Hp} {a:Addr} {xs:List V} (h:SqL K H a xs) (s:Same H H'):SqL K H' a xs:=by
 rcases h with h | h
 ·exact .inl (Rd.same h s)
 ·exact .inr h
mutual
theorem Rep.same {K:Fg} {Z Z':Hp} (s:Same Z Z'):∀ {v:V} {d:D},Rep K Z v d->Rep K Z' v d
 | _,_,.non=>.non
 | _,_,.bl b=>.bl b
 | _,_,.int i=>.int i
 | _,_,.str x=>.str x
 | _,_,.tup h r=>.tup (SqT.same h s) (Reps.same s r)
 | _,_,.lst h r=>.lst (SqL.same h s) (Reps.same s r)
 | _,_,.opq h=>.opq (Opq.same s h)
 | _,_,.gdc h k r e=>.gdc (s _ _ h) k (Reps.same s r) e
theorem Reps.same {K:Fg} {Z Z':Hp} (s:Same Z Z'):∀ {vs:List V} {ds:List D},Reps K Z vs ds->Reps K Z' vs ds
 | _,_,.nil=>.nil
 | _,_,.cons h r=>.cons (Rep.same s h) (Reps.same s r)
end
theorem Reps.length {K:Fg} {Z:Hp}:∀ {vs:List V} {ds:List D},Reps K Z vs ds->vs.length=ds.length
 | _,_,.nil=>rfl
 | _,_,.cons _ r=>congrArg (· + 1) (Reps.length r)
theorem Reps.get {K:Fg} {Z:Hp}:∀ {vs:List V} {ds:List D} {i:Nat} {d:D},Reps K Z vs ds->ds[i]? = some d->∃ v,vs[i]? = some v/\Rep K Z v d
 | _,_,_,_,.nil,e=>by simp at e
 | _,_,0,_,.cons r _,e=>by simp at e; subst e; exact ⟨_,rfl,r⟩
 | _,_,i+1,d,.cons _ t,e=>by
  obtain ⟨u,h1,h2⟩:=Reps.get (i:=i) (d:=d) t (by simpa using e)
  exact ⟨u,by simpa using h1,h2⟩
theorem Reps.append {K:Fg} {Z:Hp}:∀ {xs ys:List V} {us ws:List D},Reps K Z xs us->Reps K Z ys ws->Reps K Z (xs++ys) (us++ws)
 | _,_,_,_,.nil,s=>s
 | _,_,_,_,.cons r t,s=>.cons r (Reps.append t s)
theorem Reps.take {K:Fg} {Z:Hp}:∀ {xs:List V} {us:List D} (n:Nat),Reps K Z xs us->Reps K Z (xs.take n) (us.take n)
 | _,_,0,_=>.nil
 | _,_,_+1,.nil=>.nil
 | _,_,n+1,.cons r t=>.cons r (Reps.take n t)
theorem Reps.drop {K:Fg} {Z:Hp}:∀ {xs:List V} {us:List D} (n:Nat),Reps K Z xs us->Reps K Z (xs.drop n) (us.drop n)
 | _,_,0,r=>r
 | _,_,_+1,.nil=>.nil
 | _,_,n+1,.cons _ t=>Reps.drop n t
theorem Rep.int_eq {K:Fg} {Z:Hp} {v:V} {i:Int} (h:Rep K Z v (.int i)):v=.int i:=by cases h; rfl
theorem Rep.bl_eq {K:Fg} {Z:Hp} {v:V} {b:Bool} (h:Rep K Z v (.bool b)):v=.bl b:=by cases h; rfl
theorem Reps.ints {K:Fg} {Z:Hp}:∀ ns:List Int,Reps K Z (ns.map V.int) (ns.map PyData.int)
 | []=>.nil
 | n::r=>.cons (.int n) (Reps.ints r)
mutual
theorem Rep.reads {X:Cx} {pins:List (Addr×Obj)} {σ:St} {H Z:Hp} {s:Shared} (I:Inv X pins σ H s) (zh:Same Z H):∀ {v:V} {d:D} {u:Value},Rep X.K Z v d->RelV v u->d.canLay0=true->∃ as,Reads s.heap u d as
 | _,_,u,.non,r,_=>by cases (show u=Value.none from r); exact ⟨_,.none⟩
 | _,_,u,.bl b,r,_=>by cases (show u=Value.bool b from r); exact ⟨_,.bool b⟩
 | _,_,u,.int i,r,_=>by obtain ⟨t,rfl⟩:=(show ∃ t,u=Value.int i t from r); exact ⟨_,.int i t⟩
 | _,_,u,.str x,r,_=>by obtain ⟨t,rfl⟩:=(show ∃ t,u=Value.str x t from r); exact ⟨_,.str x t⟩
 | _,_,u,.tup (a:=a) h q,r,hc=>by
  cases (show u=Value.ref a from r)
  obtain ⟨its,rv,ht,_⟩:=I.tuple (SqT.same h zh)
  obtain ⟨as,ra⟩:=Reps.reads I zh q rv hc
  obtain ⟨o,e,c,n,dd⟩:=ht
  exact ⟨_,reads_tuple_at e c dd (by simpa using ra)⟩
 | _,_,u,.lst (a:=a) h q,r,hc=>by
  cases (show u=Value.ref a from r)
  obtain ⟨its,rv,ht,_⟩:=I.list (SqL.same h zh)
  obtain ⟨as,ra⟩:=Reps.reads I zh q rv hc
  obtain ⟨o,n,e,c,_,dd⟩:=ht
  exact ⟨_,reads_list_at e c dd (by simpa using ra)⟩
 | _,_,u,.opq h,r,hc=>by cases hc
 | _,_,u,.gdc h k q e,r,hc=>by cases hc
theorem Reps.reads {X:Cx} {pins:List (Addr×Obj)} {σ:St} {H Z:Hp} {s:Shared} (I:Inv X pins σ H s) (zh:Same Z H):∀ {vs:List V} {ds:List D} {us:List Value},Reps X.K Z vs ds->Vals vs us->PyData.canLayAll0 ds=true->∃ as,ReadsAll s.heap us ds as
 | _,_,_,.nil,.nil,_=>⟨_,.nil⟩
 | _,_,_,.cons h q,.cons r t,hc=>by
  have hc':=Bool.and_eq_true_iff.mp hc
  obtain ⟨as,ha⟩:=Rep.reads I zh h r hc'.1
  obtain ⟨bs,hb⟩:=Reps.reads I zh q t hc'.2
  exact ⟨_,.cons ha hb⟩
end
noncomputable def Eu:HO->Bool
 | .frz _ (.lst _)=>false
 | _=>true
def NoF (Z Z':Hp):Prop:=∀ b o xs,Z' b=some (.frz o (.lst xs))->Z b=some (.frz o (.lst xs))
theorem NoF.refl (Z:Hp):NoF Z Z:=fun _ _ _ e=>e
theorem NoF.trans {Z Z1 Z2:Hp} (a:NoF Z Z1) (b:NoF Z1 Z2):NoF Z Z2:=fun c o xs e=>a c o xs (b c o xs e)
theorem NoF.upd {Z Z':Hp} (a:NoF Z Z') (p:Addr) {u:HO} (hu:Eu u=true:=by rfl):NoF Z (upd Z' p u):=fun b o xs e=>by
 by_cases hb:b=p
 ·subst hb
  rw [aL] at e
  cases e
  cases hu
 ·rw [aQ hb] at e
  exact a b o xs e
structure New (Z H Z' H':Hp):Prop where
 z:Same Z Z'
 h:Same H H'
 zh:Same Z' H'
 o:∀ b,H b≠none->Z' b=Z b
 nf:NoF Z Z'
theorem New.refl {Z H:Hp} (zh:Same Z H):New Z H Z H:=⟨Same.refl _,Same.refl _,zh,fun _ _=>rfl,NoF.refl _⟩
theorem eZ {H:Hp} {p:Addr} {o:HO} (h:H p=none):Same H (upd H p o):=fun b u e=>by
 rw [aQ (bF e h)]; exact e
theorem jB {Z H:Hp} (zh:Same Z H) {p:Addr} (h:H p=none):Z p=none:=by
 cases e:Z p with
 | none=>rfl
 | some o=>rw [zh p o e] at h; cases h
theorem New.add {Z H:Hp} (zh:Same Z H) {p:Addr} (hp:H p=none) (o:HO) (hf:Eu o=true:=by rfl):New Z H (upd Z p o) (upd H p o) where
 nf:=(NoF.refl Z).upd p hf
 z:=eZ (jB zh hp)
 h:=eZ hp
 zh:=fun b u e=>by
  by_cases hb:b=p
  ·subst hb; rw [aL] at e ⊢; exact e
  ·rw [aQ hb] at e ⊢; exact zh b u e
 o:=fun b hb=>by
  have:b≠p:=fun z=>hb (z ▸ hp)
  rw [aQ this]
def sS (K:Fg) (Z:Hp) (kvs:List (aY×V)) (es:List (aY×D)):Prop:=es.map (·.1)=kvs.map (·.1)/\Reps K Z (kvs.map (·.2)) (es.map (·.2))
inductive OwR (K:Fg) (Z:Hp):HO->Oc->Prop
 | lst {xs:List V} {ds:List D}:Reps K Z xs ds->OwR K Z (.lst xs) (.l ds)
 | dct {kvs:List (aY×V)} {es:List (aY×D)}:sS K Z kvs es->OwR K Z (.dK kvs) (.d es)
theorem OwR.same {K:Fg} {Z Z':Hp} {o:HO} {c:Oc} (h:OwR K Z o c) (s:Same Z Z'):OwR K Z' o c:=by
 cases h with
 | lst r=>exact .lst (r.same s)
 | dct r=>exact .dct ⟨r.1,r.2.same s⟩
def FrOk (K:Fg) (H₀ Z₀ Z:Hp) (δ:Dv) (σ:St):Prop:=∀ (i:Nat) ds,δ[i]? = some (.fr ds)->∃ a xs,σ[i]? = some (some (.ref a))/\H₀ a=none/\Z₀ a=none/\Z a=some (.lst xs)/\Reps K Z xs ds
theorem FrOk.same {K:Fg} {H₀ Z₀ Z Z':Hp} {δ:Dv} {σ:St} (h:FrOk K H₀ Z₀ Z δ σ) (s:Same Z Z'):FrOk K H₀ Z₀ Z' δ σ:=fun i ds e=>
 let ⟨a,xs,h1,h2,h3,h4,h5⟩:=h i ds e; ⟨a,xs,h1,h2,h3,s _ _ h4,h5.same s⟩
theorem FrOk.put {K:Fg} {H₀ Z₀ Z:Hp} {δ:Dv} {σ σ':St} (h:FrOk K H₀ Z₀ Z δ σ) {i:Nat} {x:Sl} (hx:∀ ds,x≠Sl.fr ds) (hs:∀ j:Nat,i≠j -> σ'[j]? = σ[j]?):FrOk K H₀ Z₀ Z (δ.set i x) σ':=fun j ds e=>by
 by_cases hj:i=j
 ·subst hj
  have hl:i < δ.length:=by have:=(List.getElem?_eq_some_iff.mp e).1; simpa using this
  rw [List.getElem?_set_self hl] at e
  exact absurd (Option.some.inj e) (hx ds)
 ·rw [List.getElem?_set_ne hj] at e
  obtain ⟨a,xs,h1,r⟩:=h j ds e
  exact ⟨a,xs,by rw [hs j hj]; exact h1,r⟩
structure Hold (K:Fg) (H₀ Z₀ Z:Hp) (δ:Dv) (σ:St) (H:Hp):Prop where
 zh:Same Z H
 h0:Same H₀ H
 z0:Same Z₀ Z
 zb:∀ b,H₀ b≠none->Z b=Z₀ b
 len:δ.length = σ.length
 fz:∀ (i:Nat) d,δ[i]? = some (.fz d)->∃ v,σ[i]? = some (some v)/\Rep K Z v d
 own:∀ (i:Nat) c,δ[i]? = some (.own c)->∃ a o,σ[i]? = some (some (.ref a))/\H₀ a=none/\Z a=none/\H a=some o/\OwR K Z o c
 dja:∀ (i j:Nat) c c' a,i≠j -> δ[i]? = some (.own c) -> δ[j]? = some (.own c') -> σ[i]? = some (some (.ref a)) -> σ[j]? ≠ some (some (V.ref a))
 fr:FrOk K H₀ Z₀ Z δ σ
 nf:NoF Z₀ Z
section
variable {K:Fg} {H₀ Z₀ Z Z' H H':Hp} {δ:Dv} {σ:St}
theorem Hold.ow (h:Hold K H₀ Z₀ Z δ σ H) (i:Nat) (ds:List D) (e:δ[i]? = some (.ow ds)):∃ a xs,σ[i]? = some (some (.ref a))/\H₀ a=none/\Z a=none/\H a=some (.lst xs)/\Reps K Z xs ds:=by
 obtain ⟨a,o,h1,h2,h3,h4,h5⟩:=h.own i _ e
 cases h5 with
 | lst r=>exact ⟨a,_,h1,h2,h3,h4,r⟩
theorem Hold.new (h:Hold K H₀ Z₀ Z δ σ H) (n:New Z H Z' H'):Hold K H₀ Z₀ Z' δ σ H' where
 zh:=n.zh
 h0:=h.h0.trans n.h
 z0:=h.z0.trans n.z
 zb:=fun b hb=>by
  have:H b≠none:=by
   cases e:H₀ b with
   | none=>exact absurd e hb
   | some o=>rw [h.h0 b o e]; intro z; cases z
  rw [n.o b this,h.zb b hb]
 len:=h.len
 fz:=fun i d e=>let ⟨v,a,r⟩:=h.fz i d e; ⟨v,a,r.same n.z⟩
 own:=fun i ds e=>by
  obtain ⟨a,xs,h1,h2,h3,h4,h5⟩:=h.own i ds e
  exact ⟨a,xs,h1,h2,by rw [n.o a (by rw [h4]; intro z; cases z)]; exact h3,n.h a _ h4,h5.same n.z⟩
 dja:=h.dja
 fr:=h.fr.same n.z
 nf:=h.nf.trans n.nf
theorem Hold.set (h:Hold K H₀ Z₀ Z δ σ H) {i:Nat} {v:V} {d:D} (r:Rep K Z v d):Hold K H₀ Z₀ Z (δ.set i (.fz d)) (σ.set i (some v)) H where
 zh:=h.zh
 h0:=h.h0
 z0:=h.z0
 zb:=h.zb
 len:=by simp [h.len]
 fz:=fun j e q=>by
  by_cases hj:i=j
  ·subst hj
   have hl:i < δ.length:=by
    have:=(List.getElem?_eq_some_iff.mp q).1
    simpa using this
   rw [List.getElem?_set_self hl] at q
   cases q
   exact ⟨v,List.getElem?_set_self (by rw [<- h.len]; exact hl),r⟩
  ·rw [List.getElem?_set_ne hj] at q
   obtain ⟨u,a,b⟩:=h.fz j e q
   exact ⟨u,by rw [List.getElem?_set_ne hj]; exact a,b⟩
 own:=fun j es q=>by
  by_cases hj:i=j
  ·subst hj
   have hl:i < δ.length:=by
    have:=(List.getElem?_eq_some_iff.mp q).1
    simpa using this
   rw [List.getElem?_set_self hl] at q
   cases q
  ·rw [List.getElem?_set_ne hj] at q ⊢
   exact h.own j es q
 dja:=fun j k ds es a hjk q1 q2=>by
  by_cases hj:i=j
  ·subst hj
   have hl:i < δ.length:=by
    have:=(List.getElem?_eq_some_iff.mp q1).1
    simpa using this
   rw [List.getElem?_set_self hl] at q1
   cases q1
  ·by_cases hk:i=k
   ·subst hk
    have hl:i < δ.length:=by
     have:=(List.getElem?_eq_some_iff.mp q2).1
     simpa using this
    rw [List.getElem?_set_self hl] at q2
    cases q2
   ·rw [List.getElem?_set_ne hj] at q1
    rw [List.getElem?_set_ne hk] at q2
    rw [List.getElem?_set_ne hj,List.getElem?_set_ne hk]
    exact h.dja j k ds es a hjk q1 q2
 fr:=h.fr.put (fun _ z=>nomatch z) fun _ hj=>List.getElem?_set_ne hj
 nf:=h.nf
theorem Hold.setW (h:Hold K H₀ Z₀ Z δ σ H) {i:Nat} {p:Addr} {o:HO} {c:Oc} (hp:H p=none) (r:OwR K Z o c):Hold K H₀ Z₀ Z (δ.set i (.own c)) (σ.set i (some (.ref p))) (upd H p o) where
 zh:=h.zh.trans (eZ hp)
 h0:=h.h0.trans (eZ hp)
 z0:=h.z0
 zb:=h.zb
 len:=by simp [h.len]
 fz:=fun j e q=>by
  by_cases hj:i=j
  ·subst hj
   have hl:i < δ.length:=by
    have:=(List.getElem?_eq_some_iff.mp q).1
    simpa using this
   rw [List.getElem?_set_self hl] at q
   cases q
  ·rw [List.getElem?_set_ne hj] at q
   obtain ⟨u,a,b⟩:=h.fz j e q
   exact ⟨u,by rw [List.getElem?_set_ne hj]; exact a,b⟩
 own:=fun j es q=>by
  by_cases hj:i=j
  ·subst hj
   have hl:i < δ.length:=by
    have:=(List.getElem?_eq_some_iff.mp q).1
    simpa using this
   rw [List.getElem?_set_self hl] at q
   cases q
   exact ⟨p,o,List.getElem?_set_self (by rw [<- h.len]; exact hl),jB h.h0 hp,jB h.zh hp,aL,r⟩
  ·rw [List.getElem?_set_ne hj] at q ⊢
   obtain ⟨a,ys,h1,h2,h3,h4,h5⟩:=h.own j es q
   exact ⟨a,ys,h1,h2,h3,by rw [aQ (bF h4 hp)]; exact h4,h5⟩
 dja:=fun j k ds es a hjk q1 q2=>by
  have old:∀ {m:Nat} {fs:Oc},δ[m]? = some (.own fs) -> σ[m]? ≠ some (some (V.ref p)):=fun {m fs} q z=>by
   obtain ⟨b,ys,h1,h2,h3,h4,h5⟩:=h.own m fs q
   rw [h1] at z
   cases z
   rw [hp] at h4
   cases h4
  have hl:∀ {m:Nat} {x:Sl},(δ.set i x)[m]? ≠ none->m < σ.length:=fun {m x} q=>by
   have:m<(δ.set i x).length:=by
    rcases Nat.lt_or_ge m (δ.set i x).length with g | g
    ·exact g
    ·exact absurd (List.getElem?_eq_none_iff.mpr g) q
   rw [<- h.len]; simpa using this
  by_cases hj:i=j
  ·subst hj
   have h1:i < σ.length:=hl (by rw [q1]; intro z; cases z)
   rw [List.getElem?_set_self h1]
   intro e
   cases e
   rw [List.getElem?_set_ne hjk] at q2 ⊢
   exact old q2
  ·rw [List.getElem?_set_ne hj] at q1 ⊢
   by_cases hk:i=k
   ·subst hk
    have h1:i < σ.length:=hl (by rw [q2]; intro z; cases z)
    intro e z
    rw [List.getElem?_set_self h1] at z
    cases z
    exact old q1 e
   ·rw [List.getElem?_set_ne hk] at q2 ⊢
    exact h.dja j k ds es a hjk q1 q2
 fr:=h.fr.put (fun _ z=>nomatch z) fun _ hj=>List.getElem?_set_ne hj
 nf:=h.nf
theorem Hold.setO (h:Hold K H₀ Z₀ Z δ σ H) {i:Nat} {p:Addr} {xs:List V} {ds:List D} (hp:H p=none) (r:Reps K Z xs ds):Hold K H₀ Z₀ Z (δ.set i (.ow ds)) (σ.set i (some (.ref p))) (upd H p (.lst xs)):=h.setW hp (.lst r)
theorem Hold.chgW (h:Hold K H₀ Z₀ Z δ σ H) {i:Nat} {p:Addr} {o:HO} {ds es:Oc} (e:δ[i]? = some (.own ds)) (ep:σ[i]? = some (some (.ref p))) (r:OwR K Z o es):Hold K H₀ Z₀ Z (δ.set i (.own es)) σ (upd H p o):=by
 obtain ⟨a,zs,h1,h2,h3,h4,h5⟩:=h.own i ds e
 rw [ep] at h1
 cases h1
 have hl:i < δ.length:=(List.getElem?_eq_some_iff.mp e).1
 refine ⟨fun b o' q=>?_,fun b o' q=>?_,h.z0,h.zb,by simp [h.len],fun j d q=>?_,fun j d q=>?_,fun j k d1 d2 a hjk q1 q2=>?_,h.fr.put (fun _ z=>nomatch z) fun _ _=>rfl,h.nf⟩
 ·rw [aQ (bF q h3)]; exact h.zh b o' q
 ·rw [aQ (bF q h2)]; exact h.h0 b o' q
 ·by_cases hj:i=j
  ·subst hj
   rw [List.getElem?_set_self hl] at q
   cases q
  ·rw [List.getElem?_set_ne hj] at q
   exact h.fz j d q
 ·by_cases hj:i=j
  ·subst hj
   rw [List.getElem?_set_self hl] at q
   cases q
   exact ⟨p,o,ep,h2,h3,aL,r⟩
  ·rw [List.getElem?_set_ne hj] at q
   obtain ⟨b,ws,g1,g2,g3,g4,g5⟩:=h.own j d q
   refine ⟨b,ws,g1,g2,g3,?_,g5⟩
   have:b≠p:=fun z=>by subst z; exact h.dja i j ds d b hj e q ep g1
   rw [aQ this]; exact g4
 ·have f:∀ {m:Nat} {dm:Oc},(δ.set i (.own es))[m]? = some (.own dm)->∃ dm',δ[m]? = some (.own dm'):=fun {m dm} q=>by
   by_cases hm:i=m
   ·subst hm; exact ⟨ds,e⟩
   ·rw [List.getElem?_set_ne hm] at q; exact ⟨dm,q⟩
  obtain ⟨e1,g1⟩:=f q1
  obtain ⟨e2,g2⟩:=f q2
  exact h.dja j k e1 e2 a hjk g1 g2
theorem Hold.chg (h:Hold K H₀ Z₀ Z δ σ H) {i:Nat} {p:Addr} {xs ys:List V} {ds es:List D} (e:δ[i]? = some (.ow ds)) (ep:σ[i]? = some (some (.ref p))) (r:Reps K Z ys es):Hold K H₀ Z₀ Z (δ.set i (.ow es)) σ (upd H p (.lst ys)):=h.chgW e ep (.lst r)
theorem Hold.frz (h:Hold K H₀ Z₀ Z δ σ H) {i:Nat} {ds:List D} (e:δ[i]? = some (.ow ds)):∃ Z',Same Z Z'/\Hold K H₀ Z₀ Z' (δ.set i (.fz (.list ds))) σ H:=by
 obtain ⟨a,xs,h1,h2,h3,h4,h5⟩:=h.ow i ds e
 have hl:i < δ.length:=(List.getElem?_eq_some_iff.mp e).1
 have sz:Same Z (upd Z a (.lst xs)):=eZ h3
 refine ⟨upd Z a (.lst xs),sz,fun b o q=>?_,h.h0,h.z0.trans sz,fun b hb=>?_,by simp [h.len],fun j d q=>?_,fun j d q=>?_,fun j k d1 d2 b hjk q1 q2=>?_,(h.fr.same sz).put (fun _ z=>nomatch z) fun _ _=>rfl,h.nf.upd a⟩
 ·by_cases hb:b=a
  ·subst hb; rw [aL] at q; cases q; exact h4
  ·rw [aQ hb] at q; exact h.zh b o q
 ·rw [aQ (fun z=>hb (by rw [z]; exact h2))]; exact h.zb b hb
 ·by_cases hj:i=j
  ·subst hj
   rw [List.getElem?_set_self hl] at q
   cases q
   exact ⟨.ref a,h1,.lst (SqL.of aL) (h5.same sz)⟩
  ·rw [List.getElem?_set_ne hj] at q
   obtain ⟨v,g1,g2⟩:=h.fz j d q
   exact ⟨v,g1,g2.same sz⟩
 ·by_cases hj:i=j
  ·subst hj
   rw [List.getElem?_set_self hl] at q
   cases q
  ·rw [List.getElem?_set_ne hj] at q
   obtain ⟨b,ws,g1,g2,g3,g4,g5⟩:=h.own j d q
   have:b≠a:=fun z=>by subst z; exact h.dja i j _ d b hj e q h1 g1
   exact ⟨b,ws,g1,g2,by rw [aQ this]; exact g3,g4,g5.same sz⟩
 ·by_cases hj:i=j
  ·subst hj
   rw [List.getElem?_set_self hl] at q1
   cases q1
  ·by_cases hk:i=k
   ·subst hk
    rw [List.getElem?_set_self hl] at q2
    cases q2
   ·rw [List.getElem?_set_ne hj] at q1
    rw [List.getElem?_set_ne hk] at q2
    exact h.dja j k d1 d2 b hjk q1 q2
end
def tV (K:Fg) (f:Dv->Option D):TE:=fun σ H Q=>∃ H₀ Z₀ Z δ d,Hold K H₀ Z₀ Z δ σ H/\f δ = some d/\∀ v Z' H',Hold K H₀ Z₀ Z' δ σ H'->Same Z Z'->Rep K Z' v d->Q v H'
def C7 (K:Fg) (f:Dv->Option Bool):TT:=fun σ H Q=>∃ H₀ Z₀ Z δ b,Hold K H₀ Z₀ Z δ σ H/\f δ = some b/\∀ Z' H',Hold K H₀ Z₀ Z' δ σ H'->Same Z Z'->Q b H'
def IB (K:Fg) (f:Dv->Option (List D)):TA:=fun σ H Q=>∃ H₀ Z₀ Z δ ds,Hold K H₀ Z₀ Z δ σ H/\f δ = some ds/\∀ vs Z' H',Hold K H₀ Z₀ Z' δ σ H'->Same Z Z'->Reps K Z' vs ds->Q vs H'
def Fl.to (K:Fg) (Z:Hp) (D:Ends) (σ:St) (H:Hp):Fl->Prop
 | .nx=>D.nx σ H
 | .bk=>D.bk σ H
 | .ct=>D.ct σ H
 | .rt d=>∀ v,Rep K Z v d->D.rt v H
def Dy (K:Fg) (f:Dv->Option (Fl×Dv)):TS:=fun D σ H=>∃ H₀ Z₀ Z δ r,Hold K H₀ Z₀ Z δ σ H/\f δ = some r/\∀ σ' H' Z',Hold K H₀ Z₀ Z' r.2 σ' H'->Same Z Z'->r.1.to K Z' D σ' H'
def EV (X:Cx) (e:Expr) (f:Dv->Option D):Prop:=PE X e (tV X.K f)
def TV (X:Cx) (e:Expr) (f:Dv->Option Bool):Prop:=PT X e (C7 X.K f)
def AV (X:Cx) (es:List Expr) (f:Dv->Option (List D)):Prop:=PA X es (IB X.K f)
def SV (X:Cx) (st:Stmt) (f:Dv->Option (Fl×Dv)):Prop:=PS X st (Dy X.K f)
def BV (X:Cx) (st:List Stmt) (f:Dv->Option (Fl×Dv)):Prop:=PSs X st (Dy X.K f)
theorem PE.imp {X:Cx} {e:Expr} {t t':TE} (h:PE X e t) (i:∀ σ H Q,t' σ H Q->t σ H Q):PE X e t':=fun pins s σ H Q I hw=>h pins s σ H Q I (i _ _ _ hw)
theorem PT.imp {X:Cx} {e:Expr} {t t':TT} (h:PT X e t) (i:∀ σ H Q,t' σ H Q->t σ H Q):PT X e t':=fun pins s σ H Q I hw=>h pins s σ H Q I (i _ _ _ hw)
theorem PA.imp {X:Cx} {es:List Expr} {t t':TA} (h:PA X es t) (i:∀ σ H Q,t' σ H Q->t σ H Q):PA X es t':=fun pos pins s σ H Q I hw=>h pos pins s σ H Q I (i _ _ _ hw)
theorem PS.imp {X:Cx} {st:Stmt} {t t':TS} (h:PS X st t) (i:∀ D σ H,t' D σ H->t D σ H):PS X st t':=fun pins s σ H D I hw=>h pins s σ H D I (i _ _ _ hw)
theorem PSs.imp {X:Cx} {st:List Stmt} {t t':TS} (h:PSs X st t) (i:∀ D σ H,t' D σ H->t D σ H):PSs X st t':=fun pins s σ H D I hw=>h pins s σ H D I (i _ _ _ hw)
theorem OpR.imp {X:Cx} {f:Value->Value->Sem Value} {r r':R2} (h:OpR X f r) (i:∀ x y H Q,r' x y H Q->r x y H Q):OpR X f r':=fun pins s σ H x y v u Q I rx ry q=>h pins s σ H x y v u Q I rx ry (i _ _ _ _ q)
theorem CallR.imp {X:Cx} {f:Value} {r r':List V->Hp->VK->Prop} (h:CallR X f r) (i:∀ xs H Q,r' xs H Q->r xs H Q):CallR X f r':=fun pins s σ H xs us Q I rx q=>h pins s σ H xs us Q I rx (i _ _ _ q)
def rD (K:Fg) (g:D->D->Option D):R2:=fun x y H Q=>∃ Z a b d,Same Z H/\Rep K Z x a/\Rep K Z y b/\g a b=some d/\∀ v Z' H',New Z H Z' H'->Rep K Z' v d->Q v H'
def IH (K:Fg) (g:D->Option D):V->Hp->VK->Prop:=fun x H Q=>∃ Z a d,Same Z H/\Rep K Z x a/\g a=some d/\∀ v Z' H',New Z H Z' H'->Rep K Z' v d->Q v H'
def vX (K:Fg) (g:List D->Option D):List V->Hp->VK->Prop:=fun xs H Q=>∃ Z as d,Same Z H/\Reps K Z xs as/\g as=some d/\∀ v Z' H',New Z H Z' H'->Rep K Z' v d->Q v H'
def fE (K:Fg) (g:List D->Option D):Sp:=fun vs H Q _=>vX K g vs H Q
section
variable {X:Cx} {a b c e:Expr} {es:List Expr} {pos p:Pos} {f f1 f2 f3:Dv->Option D} {fs:Dv->Option (List D)} {ft fu:Dv->Option Bool}
theorem bind_some {α β:Type} {o:Option α} {k:α -> Option β} {r:β} (h:o.bind k=some r):∃ a,o=some a/\k a=some r:=by
 cases o with
 | none=>cases h
 | some a=>exact ⟨a,rfl,h⟩
theorem two {K:Fg} {g:D->D->Option D} {σ:St} {H:Hp} {Q:VK} {r:R2} (hr:∀ x y H Q,rD K g x y H Q->r x y H Q) (h:tV K (o2 f1 f2 g) σ H Q):DC r (tV K f1) (tV K f2) σ H Q:=by
 obtain ⟨H₀,Z₀,Z,δ,d,hh,e,k⟩:=h
 obtain ⟨x,e1,e⟩:=bind_some e
 obtain ⟨y,e2,e⟩:=bind_some e
 refine ⟨H₀,Z₀,Z,δ,x,hh,e1,fun v Z1 H1 hh1 s1 r1=>⟨H₀,Z₀,Z1,δ,y,hh1,e2,fun u Z2 H2 hh2 s2 r2=>hr _ _ _ _ ⟨Z2,x,y,d,hh2.zh,r1.same s2,r2,e,fun w Z3 H3 n r3=>?_⟩⟩⟩
 exact k w Z3 H3 (hh2.new n) ((s1.trans s2).trans n.z) r3
theorem aN {op:Operator} {g:D->D->Option D} (ho:OpR X (binaryOp op) (rD X.K g)) (ha:EV X a f1) (hb:EV X b f2):EV X (.BinOp a op b pos) (o2 f1 f2 g):=
 PE.imp (Ed ho ha hb) fun _ _ _ h=>two (fun _ _ _ _ q=>q) h
theorem Fj {op:UnaryOp} {g:D->Option D} (ho:FL X (unaryOp op) (IH X.K g)) (ha:EV X a f):EV X (.UnaryOp op a pos) (o1 f g):=
 PE.imp (Eb ho ha) fun σ H Q h=>by
  obtain ⟨H₀,Z₀,Z,δ,d,hh,e,k⟩:=h
  obtain ⟨x,e1,e⟩:=bind_some e
  exact ⟨H₀,Z₀,Z,δ,x,hh,e1,fun v Z1 H1 hh1 s1 r1=>⟨Z1,x,d,hh1.zh,r1,e,fun w Z3 H3 n r3=>k w Z3 H3 (hh1.new n) (s1.trans n.z) r3⟩⟩
theorem cj {op:CmpOp} {g:D->D->Option D} (ho:OpR X (compareOp op) (rD X.K g)) (ha:EV X a f1) (hb:EV X b f2) (hm:behindInMarks op b=false):EV X (.Compare a [op] [b] pos) (o2 f1 f2 g):=
 PE.imp (zm ho ha hb hm) fun _ _ _ h=>two (fun _ _ _ _ q=>q) h
theorem mH {d:D} {b:Bool} (h:asB d=some b):d=.bool b:=by
 cases d <;> simp [asB] at h
 subst h; rfl
theorem Gu {K:Fg} {σ:St} {H:Hp} {Q:Bool->Hp->Prop} (h:C7 K (ob f) σ H Q):tV K f σ H fun x H1=>∃ c,x=.bl c/\Q c H1:=by
 obtain ⟨H₀,Z₀,Z,δ,d,hh,e,k⟩:=h
 obtain ⟨x,e1,e⟩:=bind_some e
 have:=mH e
 subst this
 exact ⟨H₀,Z₀,Z,δ,_,hh,e1,fun v Z1 H1 hh1 s1 r1=>⟨_,r1.bl_eq,k Z1 H1 hh1 s1⟩⟩
theorem az {op:CmpOp} {g:D->D->Option D} (ho:OpR X (compareOp op) (rD X.K g)) (ha:EV X a f1) (hb:EV X b f2) (hm:behindInMarks op b=false):TV X (.Compare a [op] [b] pos) (ob (o2 f1 f2 g)):=
 PT.imp (yZ ho ha hb hm) fun σ H Q h=>by
  have h':=Gu h
  exact two (f1:=f1) (f2:=f2) (g:=g) (fun _ _ _ _ q=>q) h'
theorem cE (ha:EV X a f) (he:∀ whole,isTrue a X.env whole=(do let v <- whole; standAt a.pos; holding [v] (truthy v)):=by intro _; rfl):TV X a (ob f):=
 PT.imp (BF ha he) fun _ _ _ h=>Gu h
def WV (X:Cx) (e:Expr) (f:Dv->Option Bool):Prop:=PW X e (C7 X.K f)
theorem PW.imp {X:Cx} {e:Expr} {t t':TT} (h:PW X e t) (i:∀ σ H Q,t' σ H Q->t σ H Q):PW X e t':=fun whole pins s σ H Q I hw=>h whole pins s σ H Q I (i _ _ _ hw)
theorem cg (ha:TV X a ft):WV X (.BoolOp .And [a] pos) ft:=yY ha
theorem eE (ha:TV X a ft):WV X (.BoolOp .Or [a] pos) ft:=BC ha
theorem cD {rest:List Expr} (ha:TV X a ft) (hb:WV X (.BoolOp .And (b::rest) pos) fu):WV X (.BoolOp .And (a::b::rest) pos) (dF ft fu):=
 PW.imp (BE ha hb) fun σ H Q h=>by
  obtain ⟨H₀,Z₀,Z,δ,d,hh,e,k⟩:=h
  obtain ⟨x,e1,e⟩:=bind_some e
  refine ⟨H₀,Z₀,Z,δ,x,hh,e1,fun Z1 H1 hh1 s1=>?_⟩
  cases x with
  | true=>exact ⟨H₀,Z₀,Z1,δ,d,hh1,e,fun Z2 H2 hh2 s2=>k Z2 H2 hh2 (s1.trans s2)⟩
  | false=>cases e; exact k Z1 H1 hh1 s1
theorem d5 {rest:List Expr} (ha:TV X a ft) (hb:WV X (.BoolOp .Or (b::rest) pos) fu):WV X (.BoolOp .Or (a::b::rest) pos) (oT ft fu):=
 PW.imp (DX ha hb) fun σ H Q h=>by
  obtain ⟨H₀,Z₀,Z,δ,d,hh,e,k⟩:=h
  obtain ⟨x,e1,e⟩:=bind_some e
  refine ⟨H₀,Z₀,Z,δ,x,hh,e1,fun Z1 H1 hh1 s1=>?_⟩
  cases x with
  | true=>cases e; exact k Z1 H1 hh1 s1
  | false=>exact ⟨H₀,Z₀,Z1,δ,d,hh1,e,fun Z2 H2 hh2 s2=>k Z2 H2 hh2 (s1.trans s2)⟩
theorem WV.tv (h:WV X a ft):TV X a ft:=PW.pt h
theorem fZ (ha:TV X a ft):TV X (.UnaryOp .Not a pos) (j5 ft):=
 PT.imp (BG ha) fun σ H Q h=>by
  obtain ⟨H₀,Z₀,Z,δ,d,hh,e,k⟩:=h
  cases e1:ft δ with
  | none=>unfold j5 at e; rw [e1] at e; cases e
  | some x=>
   unfold j5 at e
   rw [e1] at e
   cases e
   exact ⟨H₀,Z₀,Z,δ,x,hh,e1,fun Z1 H1 hh1 s1=>k Z1 H1 hh1 s1⟩
theorem gh {op} (h:EV X a f):EV X (.BoolOp op [a] pos) f:=BN h
theorem eK {rest:List Expr} (ha:EV X a f1) (hb:EV X (.BoolOp .And (b::rest) pos) f2):EV X (.BoolOp .And (a::b::rest) pos) (gw f1 f2):=
 PE.imp (BR ha hb) fun σ H Q h=>by
  obtain ⟨H₀,Z₀,Z,δ,d,hh,e,k⟩:=h
  obtain ⟨x,e1,e⟩:=bind_some e
  obtain ⟨c,e2,e⟩:=bind_some e
  have:=mH e2
  subst this
  refine ⟨H₀,Z₀,Z,δ,_,hh,e1,fun v Z1 H1 hh1 s1 r1=>⟨c,r1.bl_eq,?_⟩⟩
  cases c with
  | true=>exact ⟨H₀,Z₀,Z1,δ,d,hh1,e,fun v Z2 H2 hh2 s2 r2=>k v Z2 H2 hh2 (s1.trans s2) r2⟩
  | false=>cases e; exact k _ Z1 H1 hh1 s1 (.bl false)
theorem Fk {rest:List Expr} (ha:EV X a f1) (hb:EV X (.BoolOp .Or (b::rest) pos) f2):EV X (.BoolOp .Or (a::b::rest) pos) (Es f1 f2):=
 PE.imp (Ec ha hb) fun σ H Q h=>by
  obtain ⟨H₀,Z₀,Z,δ,d,hh,e,k⟩:=h
  obtain ⟨x,e1,e⟩:=bind_some e
  obtain ⟨c,e2,e⟩:=bind_some e
  have:=mH e2
  subst this
  refine ⟨H₀,Z₀,Z,δ,_,hh,e1,fun v Z1 H1 hh1 s1 r1=>⟨c,r1.bl_eq,?_⟩⟩
  cases c with
  | true=>cases e; exact k _ Z1 H1 hh1 s1 (.bl true)
  | false=>exact ⟨H₀,Z₀,Z1,δ,d,hh1,e,fun v Z2 H2 hh2 s2 r2=>k v Z2 H2 hh2 (s1.trans s2) r2⟩
theorem CG (ha:EV X a f):EV X (.UnaryOp .Not a pos) (o1 f zy):=
 PE.imp (BO ha) fun σ H Q h=>by
  obtain ⟨H₀,Z₀,Z,δ,d,hh,e,k⟩:=h
  obtain ⟨x,e1,e⟩:=bind_some e
  cases e2:asB x with
  | none=>unfold zy at e; rw [e2] at e; cases e
  | some c=>
   unfold zy at e
   rw [e2] at e
   cases e
   have:=mH e2
   subst this
   exact ⟨H₀,Z₀,Z,δ,_,hh,e1,fun v Z1 H1 hh1 s1 r1=>⟨c,r1.bl_eq,k _ Z1 H1 hh1 s1 (.bl _)⟩⟩
theorem sD (hc:TV X c ft) (ha:EV X a f1) (hb:EV X b f2):EV X (.IfExp c a b pos) (F0 ft f1 f2):=
 PE.imp (wm hc ha hb) fun σ H Q h=>by
  obtain ⟨H₀,Z₀,Z,δ,d,hh,e,k⟩:=h
  obtain ⟨x,e1,e⟩:=bind_some e
  refine ⟨H₀,Z₀,Z,δ,x,hh,e1,fun Z1 H1 hh1 s1=>?_⟩
  cases x with
  | true=>exact ⟨H₀,Z₀,Z1,δ,d,hh1,e,fun v Z2 H2 hh2 s2 r2=>k v Z2 H2 hh2 (s1.trans s2) r2⟩
  | false=>exact ⟨H₀,Z₀,Z1,δ,d,hh1,e,fun v Z2 H2 hh2 s2 r2=>k v Z2 H2 hh2 (s1.trans s2) r2⟩
theorem Hold.read {K:Fg} {H₀ Z₀ Z H:Hp} {δ:Dv} {σ:St} (hh:Hold K H₀ Z₀ Z δ σ H) {i:Nat} {d:D} (h:oV i δ = some d):∃ v,σ[i]? = some (some v)/\Rep K Z v d:=by
 unfold oV at h
 cases q:δ[i]? with
 | none=>rw [q] at h; cases h
 | some x=>
  rw [q] at h
  cases x with
  | fz e=>cases h; exact hh.fz i _ q
  | un=>cases h
  | own _=>cases h
  | fr ds=>
   cases h
   obtain ⟨a,xs,h1,_,_,h4,h5⟩:=hh.fr i ds q
   exact ⟨.ref a,h1,.lst (SqL.of h4) h5⟩
theorem aa (i:Nat) {x:Str} (hN:X.N[i]? = some x:=by rfl) (hv:AM X.env.scope x:=by first | exact Or.inl rfl | exact Or.inr (Or.inl rfl) | exact Or.inr (Or.inr rfl)) (hd:(x==("__debug__":Str))=false:=by decide) (hcd:(x==("__classdict__":Str))=false:=by decide) :
  EV X (.Name x pos) (oV i):=
 PE.imp (iR hN hv hd hcd) fun σ H Q h=>by
  obtain ⟨H₀,Z₀,Z,δ,d,hh,e,k⟩:=h
  obtain ⟨v,q,r⟩:=hh.read e
  exact ⟨v,q,k v Z H hh (Same.refl _) r⟩
theorem xw {d:D} {v:V} (h:PE X e (tC v)) (r:∀ Z,Rep X.K Z v d):EV X e (oC d):=
 PE.imp h fun σ H Q h=>by
  obtain ⟨H₀,Z₀,Z,δ,d',hh,e,k⟩:=h
  cases e
  exact k v Z H hh (Same.refl _) (r Z)
theorem ae {i j}:EV X (.Constant (.int i) j pos) (oC (.int i)):=xw wk fun _=>.int i
theorem df {i j}:EV X (.Constant (.bool i) j pos) (oC (.bool i)):=xw Ee fun _=>.bl i
theorem cU {j}:EV X (.Constant .none j pos) (oC .none):=xw BP fun _=>.non
theorem ap {i j}:EV X (.Constant (.str i) j pos) (oC (.str i)):=xw BM fun _=>.str i
theorem af:AV X [] ao:=
 PA.imp iS fun σ H Q h=>by
  obtain ⟨H₀,Z₀,Z,δ,d,hh,e,k⟩:=h
  cases e
  exact k [] Z H hh (Same.refl _) .nil
theorem ab (ha:EV X e f) (hr:AV X es fs) (hs:starEach (e::es) X.env=(false,eval e X.env)::starEach es X.env:=by rfl):AV X (e::es) (ac f fs):=
 PA.imp (fR ha hr hs) fun σ H Q h=>by
  obtain ⟨H₀,Z₀,Z,δ,d,hh,e,k⟩:=h
  obtain ⟨x,e1,e⟩:=bind_some e
  obtain ⟨xs,e2,e⟩:=bind_some e
  cases e
  exact ⟨H₀,Z₀,Z,δ,x,hh,e1,fun v Z1 H1 hh1 s1 r1=>⟨H₀,Z₀,Z1,δ,xs,hh1,e2,fun vs Z2 H2 hh2 s2 r2=>k _ Z2 H2 hh2 (s1.trans s2) (.cons (r1.same s2) r2)⟩⟩
theorem aG {x1} (h:AV X es fs):EV X (.Tuple es x1 pos) (os fs be):=
 PE.imp (BL h) fun σ H Q h=>by
  obtain ⟨H₀,Z₀,Z,δ,d,hh,e,k⟩:=h
  obtain ⟨xs,e1,e⟩:=bind_some e
  refine ⟨H₀,Z₀,Z,δ,xs,hh,e1,fun vs Z1 H1 hh1 s1 r1=>?_⟩
  by_cases hl:xs.length<=sizeLine
  ·rw [be,if_pos hl] at e
   cases e
   refine ⟨by rw [r1.length]; exact hl,fun p hp=>?_⟩
   have n:=New.add hh1.zh hp (.tup vs)
   exact k _ _ _ (hh1.new n) (s1.trans n.z) (.tup (SqT.of aL) (r1.same n.z))
  ·rw [be,if_neg hl] at e; cases e
theorem bQ (h:AV X es fs):EV X (.List es pos) (os fs cK):=
 PE.imp (wg h) fun σ H Q h=>by
  obtain ⟨H₀,Z₀,Z,δ,d,hh,e,k⟩:=h
  obtain ⟨xs,e1,e⟩:=bind_some e
  refine ⟨H₀,Z₀,Z,δ,xs,hh,e1,fun vs Z1 H1 hh1 s1 r1=>?_⟩
  by_cases hl:xs.length<=sizeLine
  ·rw [cK,if_pos hl] at e
   cases e
   refine ⟨by rw [r1.length]; exact hl,fun p hp=>?_⟩
   have n:=New.add hh1.zh hp (.lst vs)
   exact k _ _ _ (hh1.new n) (s1.trans n.z) (.lst (SqL.of aL) (r1.same n.z))
  ·rw [cK,if_neg hl] at e; cases e
theorem args {K:Fg} {g:List D->Option D} {σ:St} {H:Hp} {Q:VK} (h:tV K (os fs g) σ H Q):IB K fs σ H fun vs H1=>vX K g vs H1 Q:=by
 obtain ⟨H₀,Z₀,Z,δ,d,hh,e,k⟩:=h
 obtain ⟨xs,e1,e⟩:=bind_some e
 exact ⟨H₀,Z₀,Z,δ,xs,hh,e1,fun vs Z1 H1 hh1 s1 r1=>⟨Z1,xs,d,hh1.zh,r1,e,fun w Z3 H3 n r3=>k w Z3 H3 (hh1.new n) (s1.trans n.z) r3⟩⟩
theorem bm {x:Str} {id:String} {g:List D->Option D} (hc:CallR X (.builtin id) (vX X.K g)) (hg:Gl X x) (hm:X.mg x=none) (hv:bootBuiltins x=some (.builtin id)) (ha:AV X (e::es) fs) (hn:x ≠ "__name__":=by decide) (hdb:(x==("__debug__":Str))=false:=by decide)
  (he:starEach (e::es) X.env=(false,eval e X.env)::starEach es X.env:=by rfl) (hpl:(backTo pos (starEach es X.env)).any (·.1)=false:=by rfl):EV X (.Call (.Name x p) (e::es) [] pos) (os fs g):=
 PE.imp (lO hc hg hm hv ha hn hdb he hpl) fun _ _ _ h=>args h
theorem eX {x:Str} {id:String} {g:List D->Option D} (hc:CallR X (.type id) (vX X.K g)) (hg:Gl X x) (hm:X.mg x=none) (hv:bootBuiltins x=some (.type id)) (ha:AV X (e::es) fs) (hn:x ≠ "__name__":=by decide) (hdb:(x==("__debug__":Str))=false:=by decide)
  (he:starEach (e::es) X.env=(false,eval e X.env)::starEach es X.env:=by rfl) (hpl:(backTo pos (starEach es X.env)).any (·.1)=false:=by rfl):EV X (.Call (.Name x p) (e::es) [] pos) (os fs g):=
 PE.imp (uK hc hg hm hv ha hn hdb he hpl) fun _ _ _ h=>args h
theorem As {k:Nat} {fa:Addr} {fd:FuncData} {ps:List Str} {x:Str} {g:List D->Option D} {dd:List D} {dv:List V} {ds:List Value} (F:FnOk X.prog X.w X.K X.mg X.base d0 k fa fd ps (fE X.K g)) (hr:Room k X.A) (hg:Gl X x) (hm:X.mg x=some (.ref fa)) (hk:PySem.W.keepIn X.K (.ref fa)=true)
  (hb:Binds X.K fd ps ds) (hd:Vals dv ds) (hdd:∀ Z,Reps X.K Z dv dd) (hx:pG d0 X E0) (ha:AV X (e::es) fs) (hdb:(x==("__debug__":Str))=false:=by decide) (he:starEach (e::es) X.env=(false,eval e X.env)::starEach es X.env:=by rfl) (hpl:(backTo pos (starEach es X.env)).any (·.1)=false:=by rfl) :
  EV X (.Call (.Name x p) (e::es) [] pos) (os fs fun as=>g (as++dd)):=
 PE.imp (zn F hr hg hm hk hb hd hx ha hdb he hpl) fun σ H Q h=>by
  obtain ⟨H₀,Z₀,Z,δ,xs,hh,e1,q⟩:=args h
  refine ⟨H₀,Z₀,Z,δ,xs,hh,e1,fun vs Z1 H1 hh1 s1 r1=>?_⟩
  obtain ⟨Z2,as,d,zh,ra,eg,kk⟩:=q vs Z1 H1 hh1 s1 r1
  exact ⟨Z2,as++dd,d,zh,ra.append (hdd Z2),eg,kk⟩
theorem IxR.imp {r r':R2} (h:IxR X r) (i:∀ x y H Q,r' x y H Q->r x y H Q):IxR X r':=fun value slice pins s σ H x y v u Q I rx ry q hs=>h value slice pins s σ H x y v u Q I rx ry (i _ _ _ _ q) hs
theorem ai {g:D->D->Option D} (ho:IxR X (rD X.K g)) (ha:EV X a f1) (hb:EV X b f2) (hs:ls b):EV X (.Subscript a b pos) (o2 f1 f2 g):=
 PE.imp (wj ho ha hb hs) fun _ _ _ h=>two (fun _ _ _ _ q=>q) h
end
end VL
namespace VL
open PySem PySem.Spec PyProof.Rows L2
section
variable {X:Cx} {a b c e tg:Expr} {es:List Expr} {pos p:Pos} {f f1 f2 f3:Dv->Option D} {fs:Dv->Option (List D)} {ft fu:Dv->Option Bool} {st:Stmt} {sts body:List Stmt} {s1 s2:Dv->Option (Fl×Dv)}
theorem Ej {F:Value->Value->Sem Value} {g:Int->Int->Int} (h:OpR X F (xV fun i j=>.int (g i j))):OpR X F (rD X.K (iI g)):=
 OpR.imp h fun x y H Q q=>by
  obtain ⟨Z,a,b,d,zh,ra,rb,e,k⟩:=q
  cases ra <;> cases rb <;> simp [iI] at e
  subst e
  exact ⟨_,_,rfl,rfl,k _ Z H (New.refl zh) (.int _)⟩
theorem tF {F:Value->Value->Sem Value} {g:Int->Int->Bool} (h:OpR X F (xV fun i j=>.bl (g i j))):OpR X F (rD X.K (iB g)):=
 OpR.imp h fun x y H Q q=>by
  obtain ⟨Z,a,b,d,zh,ra,rb,e,k⟩:=q
  cases ra <;> cases rb <;> simp [iB] at e
  subst e
  exact ⟨_,_,rfl,rfl,k _ Z H (New.refl zh) (.bl _)⟩
theorem wt {F:Value->Value->Sem Value} {P:Int->Int->Prop} {C:Int->Int->Bool} {g:Int->Int->Int} (h:OpR X F (rI P fun i j=>.int (g i j))) (hc:∀ i j,C i j=true->P i j):OpR X F (rD X.K (iC C g)):=
 OpR.imp h fun x y H Q q=>by
  obtain ⟨Z,a,b,d,zh,ra,rb,e,k⟩:=q
  cases ra with
  | int i=>
   cases rb with
   | int j=>
    by_cases hh:C i j=true
    ·simp only [iC,if_pos hh] at e
     cases e
     exact ⟨_,_,rfl,rfl,hc _ _ hh,k _ Z H (New.refl zh) (.int _)⟩
    ·simp only [iC,if_neg hh] at e
     cases e
   | _=>simp [iC] at e
  | _=>simp [iC] at e
theorem Bj:OpR X (binaryOp .Sub) (rD X.K Bv):=Ej BS
theorem CQ:OpR X (binaryOp .Mult) (rD X.K B3):=wt (P:=fun i j=>IntMulOk i j) (G2 fun _ _ _ _ _ _ _ hc q=>mul_int q hc) fun i j h=>of_decide_eq_true h
theorem jH:OpR X (binaryOp .FloorDiv) (rD X.K jG):=wt zr fun i j h=>(of_decide_eq_true h:0<j/\j<1073741824)
theorem dg:OpR X (binaryOp .Mod) (rD X.K cH):=wt BT fun i j h=>of_decide_eq_true h
theorem o9:OpR X (compareOp .Lt) (rD X.K qy):=tF Eh
theorem HN:OpR X (compareOp .LtE) (rD X.K IR):=tF Ei
theorem HR:OpR X (compareOp .Gt) (rD X.K Gf):=tF Ek
theorem Fx:OpR X (compareOp .GtE) (rD X.K CB):=tF El
theorem Fw:FL X (unaryOp .USub) (IH X.K negD):=by
 intro pins s σ H x v Q I rx q
 obtain ⟨Z,a,d,zh,ra,e,k⟩:=q
 cases ra <;> simp [negD] at e
 subst e
 exact Bo pins s σ H _ v Q I rx ⟨_,rfl,k _ Z H (New.refl zh) (.int _)⟩
theorem Rep.str_eq {K:Fg} {Z:Hp} {v:V} {x:Str} (h:Rep K Z v (.str x)):v=.str x:=by cases h; rfl
theorem Rep.tup_ex {K:Fg} {Z:Hp} {v:V} {ds:List D} (h:Rep K Z v (.tuple ds)):∃ a xs,v=.ref a/\SqT K Z a xs/\Reps K Z xs ds:=by
 cases h with
 | tup p q=>exact ⟨_,_,rfl,p,q⟩
theorem Rep.lst_ex {K:Fg} {Z:Hp} {v:V} {ds:List D} (h:Rep K Z v (.list ds)):∃ a xs,v=.ref a/\SqL K Z a xs/\Reps K Z xs ds:=by
 cases h with
 | lst p q=>exact ⟨_,_,rfl,p,q⟩
theorem em {p:Prop} [Decidable p] {α:Type} {x y:α} (h:(if p then some x else none)=some y):p/\x=y:=by
 by_cases q:p
 ·rw [if_pos q] at h; exact ⟨q,Option.some.inj h⟩
 ·rw [if_neg q] at h; cases h
theorem C3 {a b d:D} (h:bL a b=some d):(∃ i,a=.int i)\/(∃ x,a=.str x)\/(∃ xs,a=.list xs)\/∃ xs,a=.tuple xs:=by
 cases a with
 | int i=>exact .inl ⟨_,rfl⟩
 | str i=>exact .inr (.inl ⟨_,rfl⟩)
 | list i=>exact .inr (.inr (.inl ⟨_,rfl⟩))
 | tuple i=>exact .inr (.inr (.inr ⟨_,rfl⟩))
 | _=>cases h
theorem C4 {i:Int} {b d:D} (h:bL (.int i) b=some d):∃ j,b=.int j/\d=.int (i+j):=by
 cases b with
 | int j=>exact ⟨j,rfl,(Option.some.inj h).symm⟩
 | _=>cases h
theorem C1 {i:Str} {b d:D} (h:bL (.str i) b=some d):∃ j,b=.str j/\i.length+j.length<=sizeLine/\d=.str (i++j):=by
 cases b with
 | str j=>obtain ⟨p,q⟩:=em h; exact ⟨j,rfl,p,q.symm⟩
 | _=>cases h
theorem C2 {i:List D} {b d:D} (h:bL (.list i) b=some d):∃ j,b=.list j/\i.length+j.length<=sizeLine/\d=.list (i++j):=by
 cases b with
 | list j=>obtain ⟨p,q⟩:=em h; exact ⟨j,rfl,p,q.symm⟩
 | _=>cases h
theorem C0 {i:List D} {b d:D} (h:bL (.tuple i) b=some d):∃ j,b=.tuple j/\i.length+j.length<=sizeLine/\d=.tuple (i++j):=by
 cases b with
 | tuple j=>obtain ⟨p,q⟩:=em h; exact ⟨j,rfl,p,q.symm⟩
 | _=>cases h
theorem bY:OpR X (binaryOp .Add) (rD X.K bL):=by
 intro pins s σ H x y v u Q I rx ry q
 obtain ⟨Z,a,b,d,zh,ra,rb,e,k⟩:=q
 rcases C3 e with ⟨i,rfl⟩ | ⟨i,rfl⟩ | ⟨ds,rfl⟩ | ⟨ds,rfl⟩
 ·obtain ⟨j,rfl,rfl⟩:=C4 e
  cases ra.int_eq
  cases rb.int_eq
  exact BW pins s σ H _ _ v u Q I rx ry ⟨_,_,rfl,rfl,k _ Z H (New.refl zh) (.int _)⟩
 ·obtain ⟨j,rfl,hl,rfl⟩:=C1 e
  cases ra.str_eq
  cases rb.str_eq
  exact rX pins s σ H _ _ v u Q I rx ry ⟨_,_,rfl,rfl,hl,k _ Z H (New.refl zh) (.str _)⟩
 ·obtain ⟨es,rfl,hl,rfl⟩:=C2 e
  obtain ⟨a,xs,rfl,h1,q1⟩:=ra.lst_ex
  obtain ⟨b,ys,rfl,h2,q2⟩:=rb.lst_ex
  cases rx
  cases ry
  obtain ⟨its,r1,p1,z1⟩:=I.list (SqL.same h1 zh)
  obtain ⟨its2,r2,p2,z2⟩:=I.list (SqL.same h2 zh)
  obtain ⟨⟨cls,dd,data,sl⟩,n1,ho,hc,hdd,hd⟩:=p1
  obtain ⟨⟨cls2,dd2,data2,sl2⟩,n2,ho2,hc2,hdd2,hd2⟩:=p2
  simp only at hc hd hc2 hd2
  subst hc hd hc2 hd2
  have hl1:=r1.length
  have hl2:=r2.length
  have ql1:=q1.length
  have ql2:=q2.length
  refine concat_meets ⟨_,ho,rfl⟩ ⟨_,ho2,rfl⟩ noFill_list_add seq_list_add PySem.F.slot_list_add PySem.F.entry_list_add (PySem.F.args_list_add_2 _ _) (list_addW a b its.toArray its2.toArray n1 n2 dd dd2 sl sl2 (by simp; omega)) ⟨ho,ho2,?_⟩
  have ea:its.toArray++its2.toArray=(its++its2).toArray:=by simp
  rw [ea]
  have n:=New.add zh I.fresh (.lst (xs++ys))
  exact ⟨.ref _,_,I.lnew (t':=s.toks) (r1.append r2) (by rw [List.length_append]; omega),rfl,k _ _ _ n (.lst (SqL.of aL) ((q1.append q2).same n.z))⟩
 ·obtain ⟨es,rfl,hl,rfl⟩:=C0 e
  obtain ⟨a,xs,rfl,h1,q1⟩:=ra.tup_ex
  obtain ⟨b,ys,rfl,h2,q2⟩:=rb.tup_ex
  by_cases h0:ds.length=0
  ·have hd0:ds=[]:=List.eq_nil_of_length_eq_zero h0
   subst hd0
   cases q1
   cases rx
   cases ry
   obtain ⟨its,r1,p1,z1⟩:=I.tuple (SqT.same h1 zh)
   obtain ⟨its2,r2,p2,z2⟩:=I.tuple (SqT.same h2 zh)
   cases r1
   obtain ⟨⟨cls,dd,data,sl⟩,ho,hc,n,hd⟩:=id p1
   obtain ⟨⟨cls2,dd2,data2,sl2⟩,ho2,hc2,n2,hd2⟩:=id p2
   simp only at hc hd hc2 hd2
   subst hc hd hc2 hd2
   exact concat_meets ⟨_,ho,rfl⟩ ⟨_,ho2,rfl⟩ noFill_tuple_add seq_tuple_add PySem.F.slot_tuple_add PySem.F.entry_tuple_add (PySem.F.args_tuple_add_2 _ _)
    (tuple_addW0 a b _ its2.toArray n n2 dd dd2 sl sl2 (by simp)) ⟨ho,ho2,⟨.ref b,H,I,rfl,k _ Z H (New.refl zh) (.tup h2 q2)⟩⟩
  refine zt pins s σ H _ _ v u Q I rx ry ⟨a,b,xs,ys,rfl,rfl,SqT.same h1 zh,SqT.same h2 zh,fun z=>h0 (by rw [<- q1.length,z]; rfl),by rw [q1.length,q2.length]; exact hl,fun z=>?_,fun z p hp=>?_⟩
  ·subst z
   cases q2
   rw [List.append_nil] at k
   exact k _ Z H (New.refl zh) (.tup h1 q1)
  ·have n:=New.add zh hp (.tup (xs++ys))
   exact k _ _ _ n (.tup (SqT.of aL) ((q1.append q2).same n.z))
theorem fF {d:D} (h:kU d=true):d.canLay0=true:=(Bool.and_eq_true_iff.mp h).1
theorem bh (hu:X.A.units+64<cLine):OpR X (compareOp .Eq) (rD X.K aH):=by
 intro pins s σ H x y v u Q I rx ry q
 obtain ⟨Z,a,b,d,zh,ra,rb,e,k⟩:=q
 by_cases hs:kU a=true/\kU b=true
 ·rw [aH,if_pos hs] at e
  cases e
  obtain ⟨as,r1⟩:=ra.reads I zh rx (fF hs.1)
  obtain ⟨bs,r2⟩:=rb.reads I zh ry (fF hs.2)
  exact eq_dataH r1 r2 hs.1 hs.2 hu ⟨.bl _,H,I,rfl,k _ Z H (New.refl zh) (.bl _)⟩
 ·rw [aH,if_neg hs] at e; cases e
theorem ki (hu:X.A.units+64<cLine):OpR X (compareOp .NotEq) (rD X.K neD):=by
 intro pins s σ H x y v u Q I rx ry q
 obtain ⟨Z,a,b,d,zh,ra,rb,e,k⟩:=q
 by_cases hs:kU a=true/\kU b=true
 ·rw [neD,if_pos hs] at e
  cases e
  obtain ⟨as,r1⟩:=ra.reads I zh rx (fF hs.1)
  obtain ⟨bs,r2⟩:=rb.reads I zh ry (fF hs.2)
  exact ne_dataH r1 r2 hs.1 hs.2 hu ⟨.bl _,H,I,rfl,k _ Z H (New.refl zh) (.bl _)⟩
 ·rw [neD,if_neg hs] at e; cases e
theorem xf {K:Fg} {Z:Hp} {v:V} {d:D} (r:Rep K Z v d):decide (v=.non)=u7 d:=by cases r <;> rfl
theorem HQ:OpR X (compareOp .Is) (rD X.K isD):=
 OpR.imp BU fun x y H Q q=>by
  obtain ⟨Z,a,b,d,zh,ra,rb,e,k⟩:=q
  cases rb <;> simp [isD] at e
  subst e
  exact ⟨rfl,by rw [xf ra]; exact k _ Z H (New.refl zh) (.bl _)⟩
theorem sJ:OpR X (compareOp .IsNot) (rD X.K jy):=
 OpR.imp zq fun x y H Q q=>by
  obtain ⟨Z,a,b,d,zh,ra,rb,e,k⟩:=q
  cases rb <;> simp [jy] at e
  subst e
  exact ⟨rfl,by rw [xf ra]; exact k _ Z H (New.refl zh) (.bl _)⟩
theorem Reps.at {K:Fg} {Z:Hp} {vs:List V} {ds:List D} {i:Int} {d:D} (r:Reps K Z vs ds) (h:kr ds i=some d):∃ v,kr vs i=some v/\Rep K Z v d:=by
 unfold kr at h ⊢
 rw [r.length]
 obtain ⟨j,e,h⟩:=bind_some h
 obtain ⟨v,q,rr⟩:=r.get h
 exact ⟨v,by rw [e]; exact q,rr⟩
theorem EK {a b d:D} (h:aC a b=some d):(∃ xs,a=.list xs)\/∃ xs,a=.tuple xs:=by
 cases a with
 | list i=>exact .inl ⟨_,rfl⟩
 | tuple i=>exact .inr ⟨_,rfl⟩
 | _=>cases h
theorem Be {xs:List D} {b d:D} (h:aC (.list xs) b=some d):∃ i,b=.int i/\kr xs i=some d:=by
 cases b with
 | int i=>exact ⟨i,rfl,h⟩
 | _=>cases h
theorem aB:IxR X (rD X.K aC):=
 IxR.imp (ix_list.or xb) fun x y H Q q=>by
  obtain ⟨Z,a,b,d,zh,ra,rb,e,k⟩:=q
  rcases EK e with ⟨xs,rfl⟩ | ⟨xs,rfl⟩
  ·obtain ⟨i,rfl,e⟩:=Be e
   obtain ⟨a,vs,rfl,h1,q1⟩:=ra.lst_ex
   cases rb.int_eq
   obtain ⟨v,ev,rv⟩:=q1.at e
   exact .inl ⟨_,_,_,v,rfl,rfl,SqL.same h1 zh,ev,k v Z H (New.refl zh) rv⟩
  ·obtain ⟨i,rfl,e⟩:=Be (xs:=xs) (b:=b) (by cases b <;> exact e)
   obtain ⟨a,vs,rfl,h1,q1⟩:=ra.tup_ex
   cases rb.int_eq
   obtain ⟨v,ev,rv⟩:=q1.at e
   exact .inr ⟨_,_,_,v,rfl,rfl,SqT.same h1 zh,ev,k v Z H (New.refl zh) rv⟩
theorem dS:CallR X (.builtin "len") (vX X.K cw):=
 CallR.imp q8 fun xs H Q q=>by
  obtain ⟨Z,as,d,zh,ra,e,k⟩:=q
  cases ra with
  | nil=>cases e
  | cons r1 r2=>
   cases r2 with
   | cons _ _=>cases r1 <;> cases e
   | nil=>
    cases r1 with
    | lst h1 q1=>cases e; exact ⟨_,_,rfl,.inl ⟨_,SqL.same h1 zh,rfl⟩,k _ Z H (New.refl zh) (by rw [q1.length]; exact .int _)⟩
    | tup h1 q1=>cases e; exact ⟨_,_,rfl,.inr ⟨_,SqT.same h1 zh,rfl⟩,k _ Z H (New.refl zh) (by rw [q1.length]; exact .int _)⟩
    | _=>cases e
theorem pQ {K:Fg} {Z:Hp} {xs:List V} {as:List D} {d:D} {g:List D->Option D} {h:Int->Int->Int} (hg:∀ as d,g as=some d->∃ i j,as=[.int i,.int j]/\d=.int (h i j)) (r:Reps K Z xs as) (e:g as=some d) :
  ∃ i j,xs=[.int i,.int j]/\d=.int (h i j):=by
 obtain ⟨i,j,rfl,rfl⟩:=hg _ _ e
 cases r with
 | cons r1 r2=>
  cases r2 with
  | cons r3 r4=>
   cases r4
   exact ⟨i,j,by rw [r1.int_eq,r3.int_eq],rfl⟩
theorem FC (hc:X.calm=true):CallR X (.builtin "min") (vX X.K zB):=
 CallR.imp (vg hc) fun xs H Q q=>by
  obtain ⟨Z,as,d,zh,ra,e,k⟩:=q
  obtain ⟨i,j,rfl,rfl⟩:=pQ (h:=fun i j=>if j<i then j else i) (fun as d h=>by unfold zB at h; split at h <;> cases h; exact ⟨_,_,rfl,rfl⟩) ra e
  exact ⟨i,j,rfl,k _ Z H (New.refl zh) (.int _)⟩
theorem Bk (hc:X.calm=true):CallR X (.builtin "max") (vX X.K r6):=
 CallR.imp (vh hc) fun xs H Q q=>by
  obtain ⟨Z,as,d,zh,ra,e,k⟩:=q
  obtain ⟨i,j,rfl,rfl⟩:=pQ (h:=fun i j=>if j>i then j else i) (fun as d h=>by unfold r6 at h; split at h <;> cases h; exact ⟨_,_,rfl,rfl⟩) ra e
  exact ⟨i,j,rfl,k _ Z H (New.refl zh) (.int _)⟩
theorem Bl:CallR X (.type "int") (vX X.K u9):=
 CallR.imp vi fun xs H Q q=>by
  obtain ⟨Z,as,d,zh,ra,e,k⟩:=q
  cases ra with
  | nil=>cases e
  | cons r1 r2=>
   cases r2 with
   | cons _ _=>cases r1 <;> cases e
   | nil=>
    cases r1 with
    | int i=>cases e; exact .inl ⟨_,rfl,k _ Z H (New.refl zh) (.int _)⟩
    | bl i=>cases e; exact .inr ⟨_,rfl,k _ Z H (New.refl zh) (.int _)⟩
    | _=>cases e
theorem CU:CallR X (.type "list") (vX X.K tL):=
 CallR.imp pe fun xs H Q q=>by
  obtain ⟨Z,as,d,zh,ra,e,k⟩:=q
  cases ra with
  | nil=>cases e
  | cons r1 r2=>
   cases r2 with
   | cons _ _=>cases r1 <;> cases e
   | nil=>
    cases r1 with
    | lst h1 q1=>cases e; exact ⟨_,_,rfl,.inl (SqL.same h1 zh),fun l hl=>let n:=New.add zh hl (.lst _); k _ _ _ n (.lst (SqL.of aL) (q1.same n.z))⟩
    | tup h1 q1=>cases e; exact ⟨_,_,rfl,.inr (SqT.same h1 zh),fun l hl=>let n:=New.add zh hl (.lst _); k _ _ _ n (.lst (SqL.of aL) (q1.same n.z))⟩
    | _=>cases e
theorem pf:CallR X (.type "tuple") (vX X.K jY):=
 CallR.imp m6 fun xs H Q q=>by
  obtain ⟨Z,as,d,zh,ra,e,k⟩:=q
  cases ra with
  | nil=>cases e
  | cons r1 r2=>
   cases r2 with
   | cons _ _=>cases r1 <;> cases e
   | nil=>
    cases r1 with
    | lst h1 q1=>cases e; exact ⟨_,_,rfl,.inl ⟨SqL.same h1 zh,fun l hl=>let n:=New.add zh hl (.tup _); k _ _ _ n (.tup (SqT.of aL) (q1.same n.z))⟩⟩
    | tup h1 q1=>cases e; exact ⟨_,_,rfl,.inr ⟨SqT.same h1 zh,k _ Z H (New.refl zh) (.tup h1 q1)⟩⟩
    | _=>cases e
theorem Cb (K:Fg) {t T:String} (ht:t = "NoneType" \/ t = "bool" \/ t = "int" \/ t = "str" \/ t = "list" \/ t = "tuple") (hT:T = "int" \/ T = "bool" \/ T = "str" \/ T = "list" \/ T = "tuple"):PySem.W.kitOne K (.type t) (.type T)=some (Cs t T):=by
 rcases ht with rfl | rfl | rfl | rfl | rfl | rfl <;> rcases hT with rfl | rfl | rfl | rfl | rfl <;> rfl
theorem Rep.ty {K:Fg} {Z H:Hp} {v:V} {d:D} (zh:Same Z H) (r:Rep K Z v d) (hD:¬tS d=true):(tyN d = "NoneType" \/ tyN d = "bool" \/ tyN d = "int" \/ tyN d = "str" \/ tyN d = "list" \/ tyN d = "tuple"):=by
 cases r <;> simp [tyN]
 ·exact absurd rfl hD
 ·exact absurd rfl hD
theorem Cr {pins:List (Addr×Obj)} {σ:St} {H Z:Hp} {s:Shared} {x:V} {u:Value} {d:D} {T:String} {A:Around} {E:Value->Shared->Prop} {Q:Value->Shared->Prop} (I:Inv X pins σ H s) (zh:Same Z H) (rx:RelV x u) (r:Rep X.K Z x d) (hD:¬tS d=true)
  (hT:T = "int" \/ T = "bool" \/ T = "str" \/ T = "list" \/ T = "tuple") (h:∀ tk,Q (.bool (Cs (tyN d) T)) { s with toks:=tk }):wpAny (model X.prog X.w) A (call (.builtin "isinstance") [u,.type T]) Q E s:=by
 have ko:=Cb X.K (Rep.ty zh r hD) hT
 cases r with
 | non=>exact io I rx (.non) ko h
 | bl b=>exact io I rx (.bl b) ko h
 | int b=>exact io I rx (.int b) ko h
 | str b=>exact io I rx (.str b) ko h
 | @tup a xs ds h1 q1=>
  cases (show u=Value.ref a from rx)
  obtain ⟨its,_,p,_⟩:=I.tuple (SqT.same h1 zh)
  obtain ⟨o,h1,h2,_⟩:=p
  exact PySem.W.kia_one PySem.W.kitx_tuple I.kIn ⟨o,h1,h2⟩ ko (fun z=>nomatch z) h
 | @lst a xs ds h1 q1=>
  cases (show u=Value.ref a from rx)
  obtain ⟨its,_,p,_⟩:=I.list (SqL.same h1 zh)
  obtain ⟨o,n,h1,h2,_⟩:=p
  exact PySem.W.kia_one PySem.W.kitx_list I.kIn ⟨o,h1,h2⟩ ko (fun z=>nomatch z) h
 | opq h1=>exact absurd rfl hD
 | gdc _ _ _ _=>exact absurd rfl hD
theorem FD (T:String):CallR X (.builtin "isinstance") (fun xs H Q=>∃ x Z d r,xs=[x,.ty T]/\Same Z H/\Rep X.K Z x d/\cT T d=some r/\∃ b,r=.bool b/\Q (.bl b) H):=by
 intro pins s σ H xs us Q I rv h
 obtain ⟨x,Z,d,r,rfl,zh,rr,e,b,rfl,q⟩:=h
 obtain ⟨u,w',rfl,r1,r2⟩:=vz rv
 cases (show w'=Value.type T from r2)
 by_cases hD:tS d=true
 ·rw [cT,if_pos hD] at e; cases e
 by_cases hT:T = "int" \/ T = "bool" \/ T = "str" \/ T = "list" \/ T = "tuple"
 ·rw [cT,if_neg hD,if_pos hT] at e
  cases e
  exact Cr I zh r1 rr hD hT fun tk=>⟨.bl _,H,I.tok _,rfl,q⟩
 ·rw [cT,if_neg hD,if_neg hT] at e; cases e
theorem fo {x:Str} {T:String} {p2:Pos} (hg:Gl X "isinstance") (hm:X.mg "isinstance" = none) (hgT:Gl X x) (hmT:X.mg x=none) (hvT:bootBuiltins x=some (.type T)) (hnT:x ≠ "__name__") (hdT:(x==("__debug__":Str))=false) (ha:EV X a f)
  (he:starEach (a::[.Name x p2]) X.env=(false,eval a X.env)::starEach [.Name x p2] X.env:=by rfl) (he2:starEach ((.Name x p2)::[]) X.env=(false,eval (.Name x p2) X.env)::starEach [] X.env:=by rfl) (hpl:(backTo pos (starEach [.Name x p2] X.env)).any (·.1)=false:=by rfl) :
  EV X (.Call (.Name "isinstance" p) [a,.Name x p2] [] pos) (o1 f (cT T)):=
 PE.imp (lO (FD T) hg hm PyProof.Rows.boot_isinstance (fR ha (fR (zo (v:=.ty T) hgT hmT hvT rfl hnT hdT) iS he2) he) (by decide) (by decide) he hpl) fun σ H Q h=>by
  obtain ⟨H₀,Z₀,Z,δ,d,hh,e,k⟩:=h
  obtain ⟨y,e1,e⟩:=bind_some e
  refine ⟨H₀,Z₀,Z,δ,y,hh,e1,fun v Z1 H1 hh1 s1 r1=>⟨v,Z1,y,d,rfl,hh1.zh,r1,e,?_⟩⟩
  have:∃ b,d=.bool b:=by
   unfold cT at e
   split at e
   ·cases e
   ·split at e
    ·cases e; exact ⟨_,rfl⟩
    ·cases e
  obtain ⟨b,rfl⟩:=this
  exact ⟨b,rfl,k _ Z1 H1 hh1 s1 (.bl b)⟩
end
end VL
namespace VL
open PySem PySem.Spec PyProof.Rows L2
section
variable {X:Cx} {a b c e tg iter:Expr} {es:List Expr} {pos p:Pos} {f f1 f2 f3:Dv->Option D} {fs:Dv->Option (List D)} {ft fu:Dv->Option Bool} {st:Stmt} {sts body orelse:List Stmt} {s1 s2 s3:Sf}
theorem aA (he:EV X e f):SV X (.Return (some e) pos) (aS f):=
 PS.imp (BH he) fun D σ H h=>by
  obtain ⟨H₀,Z₀,Z,δ,r,hh,e,k⟩:=h
  obtain ⟨x,e1,e⟩:=bind_some e
  cases e
  exact ⟨H₀,Z₀,Z,δ,x,hh,e1,fun v Z1 H1 hh1 s1 r1=>k σ H1 Z1 hh1 s1 v r1⟩
theorem ba (i:Nat) {x:Str} {pos':Pos} (hN:X.N.Nodup) (he:EV X e f) (hi:X.N[i]? = some x:=by rfl) (hx:xT X.env.scope x:=by first | exact Or.inl rfl | exact Or.inr rfl) (hs:swapsWith e (some (.Name x pos')) pos.line X.env=pure false:=by rfl)
  (hf:X.fn x=true\/X.env.scope.names.lookup x=some .local:=by first | exact .inl rfl | exact .inr rfl | assumption):SV X (.Assign [.Name x pos'] e pos) (bS i f):=
 PS.imp (v7 hN hi hx he hs hf) fun D σ H h=>by
  obtain ⟨H₀,Z₀,Z,δ,r,hh,e,k⟩:=h
  obtain ⟨x,e1,e⟩:=bind_some e
  cases e
  exact ⟨H₀,Z₀,Z,δ,x,hh,e1,fun v Z1 H1 hh1 s1 r1=>k _ H1 Z1 (hh1.set r1) s1⟩
theorem Et {D:Ends} {σ:St} {H:Hp} {K:Fg} (h:Dy K cR D σ H):D.nx σ H:=by
 obtain ⟨H₀,Z₀,Z,δ,r,hh,e,k⟩:=h
 cases e
 exact k σ H Z hh (Same.refl _)
theorem aE:BV X [] cR:=PSs.imp y9 fun D σ H h=>Et h
theorem ah (h1:SV X st s1) (h2:BV X sts s2):BV X (st::sts) (sSeq s1 s2):=
 PSs.imp (g8 h1 h2) fun D σ H h=>by
  obtain ⟨H₀,Z₀,Z,δ,r,hh,e,k⟩:=h
  obtain ⟨⟨fl,δ'⟩,e1,e⟩:=bind_some e
  refine ⟨H₀,Z₀,Z,δ,(fl,δ'),hh,e1,fun σ' H' Z' hh' s'=>?_⟩
  cases fl with
  | nx=>exact ⟨H₀,Z₀,Z',δ',r,hh',e,fun σ2 H2 Z2 hh2 s2=>by
    have:=k σ2 H2 Z2 hh2 (s'.trans s2)
    obtain ⟨fl,δ2⟩:=r
    cases fl <;> exact this⟩
  | bk=>cases e; exact k σ' H' Z' hh' s'
  | ct=>cases e; exact k σ' H' Z' hh' s'
  | rt d=>cases e; exact k σ' H' Z' hh' s'
theorem ak (h1:SV X st s1):BV X [st] s1:=y8 h1
theorem aM (hc:TV X c ft) (ha:BV X body s1) (hb:BV X orelse s2):SV X (.If c body orelse pos) (sIf ft s1 s2):=
 PS.imp (D6 hc ha hb) fun D σ H h=>by
  obtain ⟨H₀,Z₀,Z,δ,r,hh,e,k⟩:=h
  obtain ⟨x,e1,e⟩:=bind_some e
  refine ⟨H₀,Z₀,Z,δ,x,hh,e1,fun Z1 H1 hh1 t1=>?_⟩
  cases x with
  | true=>exact ⟨H₀,Z₀,Z1,δ,r,hh1,e,fun σ2 H2 Z2 hh2 t2=>k σ2 H2 Z2 hh2 (t1.trans t2)⟩
  | false=>exact ⟨H₀,Z₀,Z1,δ,r,hh1,e,fun σ2 H2 Z2 hh2 t2=>k σ2 H2 Z2 hh2 (t1.trans t2)⟩
theorem Fb {K:Fg} (i:Nat) {D:Ends} {σ:St} {H:Hp} (h:Dy K (fun δ=>s1 (dFz i δ)) D σ H):Dy K s1 D σ H:=by
 obtain ⟨H₀,Z₀,Z,δ,r,hh,e,k⟩:=h
 have e:s1 (dFz i δ)=some r:=e
 unfold dFz at e
 split at e
 ·rename_i ds q
  obtain ⟨Z1,t1,hh1⟩:=hh.frz q
  exact ⟨H₀,Z₀,Z1,_,r,hh1,e,fun σ2 H2 Z2 hh2 t2=>k σ2 H2 Z2 hh2 (t1.trans t2)⟩
 ·exact ⟨H₀,Z₀,Z,_,r,hh,e,k⟩
theorem nr (i:Nat) (h:SV X st s1):SV X st (fun δ=>s1 (dFz i δ)):=PS.imp h fun D σ H q=>Fb i q
def Jj (K:Fg) (g:D->Dv->Option Dv):TG:=fun v σ H Q=>∃ H₀ Z₀ Z δ d δ',Hold K H₀ Z₀ Z δ σ H/\Rep K Z v d/\g d δ = some δ'/\∀ σ' H' Z',Hold K H₀ Z₀ Z' δ' σ' H'->Same Z Z'->Q σ' H'
def GV (X:Cx) (tg:Expr) (g:D->Dv->Option Dv):Prop:=PG X tg (Jj X.K g)
theorem PG.imp {t t':TG} (h:PG X tg t) (i:∀ v σ H Q,t' v σ H Q->t v σ H Q):PG X tg t':=fun pins s σ H x v Q I r q=>h pins s σ H x v Q I r (i _ _ _ _ q)
theorem bU (i:Nat) {x:Str} (hN:X.N.Nodup) (hi:X.N[i]? = some x:=by rfl) (hx:xT X.env.scope x:=by first | exact Or.inl rfl | exact Or.inr rfl)
  (hf:X.fn x=true\/X.env.scope.names.lookup x=some .local:=by first | exact .inl rfl | exact .inr rfl | assumption):GV X (.Name x pos) (gN i):=
 PG.imp (cu hN hi hx hf) fun v σ H Q h=>by
  obtain ⟨H₀,Z₀,Z,δ,d,δ',hh,r,e,k⟩:=h
  cases e
  exact k _ H Z (hh.set r) (Same.refl _)
structure ItOk (K:Fg) (Z:Hp) (J:It) (ds:List D):Prop where
 go:∀ (i:Nat) (H:Hp),Same Z H->i<ds.length->J.go i H
 yld:∀ (i:Nat) (H:Hp) x H' d,Same Z H->ds[i]? = some d->J.yld i H x H'->H'=H/\Rep K Z x d
 stop:∀ (i:Nat) (H:Hp),Same Z H->ds.length<=i->J.stop i H
def Gw (K:Fg) (f:Dv->Option (List D)):TI:=fun σ H R=>∃ H₀ Z₀ Z δ ds,Hold K H₀ Z₀ Z δ σ H/\f δ = some ds/\∀ J Z' H',Hold K H₀ Z₀ Z' δ σ H'->Same Z Z'->ItOk K Z' J ds->R J H'
def IV (X:Cx) (tg iter:Expr) (f:Dv->Option (List D)):Prop:=PI X tg iter (Gw X.K f)
theorem PI.imp {t t':TI} (h:PI X tg iter t) (i:∀ σ H R,t' σ H R->t σ H R):PI X tg iter t':=fun pins s σ H R I q=>h pins s σ H R I (i _ _ _ q)
theorem eG {g:D->Dv->Option Dv} (hp:PassesOwn (model X.prog X.w) X.A X.env X.xe) (hc:X.calm=true) (hi:IV X tg iter fs) (hg:GV X tg g) (hb:BV X body s1)
  (hs:∀ x,foldedSetIterable iter X.env x=pure x:=by intro _; rfl):SV X (.For tg iter body [] pos) (iQ fs g s1):=
 PS.imp (v8 hp hc hi hg hb hs) fun D σ H h=>by
  obtain ⟨H₀,Z₀,Z,δ,r,hh,e,k⟩:=h
  obtain ⟨ds,e1,e⟩:=bind_some e
  refine ⟨H₀,Z₀,Z,δ,ds,hh,e1,fun J Z1 H1 hh1 t1 ok=>?_⟩
  refine ⟨fun i m σ H=>m=ds.length-i/\i<=ds.length/\∃ Zc δc,Hold X.K H₀ Z₀ Zc δc σ H/\Same Z1 Zc/\loop g s1 (ds.drop i) δc=some r,⟨ds.length,by simp,Nat.zero_le _,Z1,δ,hh1,Same.refl _,e⟩,?_⟩
  rintro i m σ2 H2 ⟨rfl,hi2,Zc,δc,hhc,tc,ec⟩
  have zh:Same Z1 H2:=tc.trans hhc.zh
  by_cases hlt:i<ds.length
  ·refine .inr ⟨ok.go i H2 zh hlt,fun σ3 H3=>∃ Zc δc,Hold X.K H₀ Z₀ Zc δc σ3 H3/\Same Z1 Zc/\loop g s1 (ds.drop (i+1)) δc=some r,fun σ3 H3 q=>⟨ds.length-(i+1),by omega,rfl,hlt,q⟩,fun x H3 y=>?_⟩
   have ed:ds[i]? = some ds[i]:=by simp [hlt]
   obtain ⟨rfl,rx⟩:=ok.yld i H2 x H3 _ zh ed y
   rw [List.drop_eq_getElem_cons hlt] at ec
   obtain ⟨δ1,g1,ec⟩:=bind_some ec
   obtain ⟨⟨fl,δ2⟩,g2,ec⟩:=bind_some ec
   refine ⟨H₀,Z₀,Zc,δc,_,δ1,hhc,rx.same tc,g1,fun σ4 H4 Z4 hh4 t4=>⟨H₀,Z₀,Z4,δ1,(fl,δ2),hh4,g2,fun σ5 H5 Z5 hh5 t5=>?_⟩⟩
   cases fl with
   | nx=>exact ⟨Z5,δ2,hh5,(tc.trans t4).trans t5,ec⟩
   | ct=>exact ⟨Z5,δ2,hh5,(tc.trans t4).trans t5,ec⟩
   | bk=>cases ec; exact k σ5 H5 Z5 hh5 (((t1.trans tc).trans t4).trans t5)
   | rt d=>cases ec; exact k σ5 H5 Z5 hh5 (((t1.trans tc).trans t4).trans t5)
  ·have e2:ds.drop i=[]:=List.drop_eq_nil_iff.mpr (by omega)
   rw [e2] at ec
   cases ec
   exact .inl ⟨ok.stop i H2 zh (by omega),k σ2 H2 Zc hhc (t1.trans tc)⟩
theorem vI (n:Dv->Nat) (hp:PassesOwn (model X.prog X.w) X.A X.env X.xe) (hc:TV X c ft) (hb:BV X body s1):SV X (.While c body [] pos) (fun δ=>gk ft s1 (n δ) δ):=
 PS.imp (v6 hp hc hb) fun D σ H h=>by
  obtain ⟨H₀,Z₀,Z,δ,r,hh,e,k⟩:=h
  refine ⟨fun m σ H=>∃ Zc δc,Hold X.K H₀ Z₀ Zc δc σ H/\Same Z Zc/\gk ft s1 m δc=some r,⟨n δ,Z,δ,hh,Same.refl _,e⟩,?_⟩
  rintro m σ2 H2 ⟨Zc,δc,hhc,tc,ec⟩
  cases m with
  | zero=>cases ec
  | succ m=>
   obtain ⟨cc,g1,ec⟩:=bind_some ec
   refine ⟨H₀,Z₀,Zc,δc,cc,hhc,g1,fun Z3 H3 hh3 t3=>?_⟩
   cases cc with
   | false=>cases ec; exact k σ2 H3 Z3 hh3 (tc.trans t3)
   | true=>
    obtain ⟨⟨fl,δ2⟩,g2,ec⟩:=bind_some ec
    refine ⟨fun σ4 H4=>∃ Zc δc,Hold X.K H₀ Z₀ Zc δc σ4 H4/\Same Z Zc/\gk ft s1 m δc=some r,fun σ4 H4 q=>⟨m,Nat.lt_succ_self m,q⟩,?_⟩
    refine ⟨H₀,Z₀,Z3,δc,(fl,δ2),hh3,g2,fun σ5 H5 Z5 hh5 t5=>?_⟩
    cases fl with
    | nx=>exact ⟨Z5,δ2,hh5,(tc.trans t3).trans t5,ec⟩
    | ct=>exact ⟨Z5,δ2,hh5,(tc.trans t3).trans t5,ec⟩
    | bk=>cases ec; exact k σ5 H5 Z5 hh5 ((tc.trans t3).trans t5)
    | rt d=>cases ec; exact k σ5 H5 Z5 hh5 ((tc.trans t3).trans t5)
theorem mi {K:Fg} {Z:Hp} {lo:Int} {n:Nat}:ItOk K Z (C6 lo n) (mS lo n) where
 go:=fun i H _ h=>by simpa [mS,C6] using h
 yld:=fun i H x H' d _ e y=>by
  obtain ⟨rfl,rfl⟩:=y
  refine ⟨rfl,?_⟩
  unfold mS at e
  rw [List.getElem?_map] at e
  cases q:(List.range n)[i]? with
  | none=>rw [q] at e; cases e
  | some k=>
   rw [q] at e
   cases e
   have:k=i:=by
    obtain ⟨h,h2⟩:=List.getElem?_eq_some_iff.mp q
    simpa using h2.symm
   subst this
   exact .int _
 stop:=fun i H _ h=>by simpa [mS,C6] using h
theorem im (hg:Gl X "range") (hm:X.mg "range" = none) (ha:AV X [a] fs) (hs:starEach [a] X.env=[(false,eval a X.env)]:=by rfl):IV X tg (.Call (.Name "range" p) [a] [] pos) (oL fs d8):=
 PI.imp (nv hg hm ha hs) fun σ H R h=>by
  obtain ⟨H₀,Z₀,Z,δ,ds,hh,e,k⟩:=h
  obtain ⟨as,e1,e⟩:=bind_some e
  refine ⟨H₀,Z₀,Z,δ,as,hh,e1,fun vs Z1 H1 hh1 t1 r1=>?_⟩
  unfold d8 at e
  split at e
  ·rename_i j
   split at e
   ·rename_i hj
    cases e
    cases r1 with
    | cons q1 q2=>
     cases q2
     exact ⟨j,by rw [q1.int_eq],hj.2,hj.1,k _ Z1 H1 hh1 t1 mi⟩
   ·cases e
  ·cases e
theorem eW (hg:Gl X "range") (hm:X.mg "range" = none) (ha:AV X [a,b] fs) (hs:starEach [a,b] X.env=[(false,eval a X.env),(false,eval b X.env)]:=by rfl) (hs2:starEach [b] X.env=[(false,eval b X.env)]:=by rfl):IV X tg (.Call (.Name "range" p) [a,b] [] pos) (oL fs dR):=
 PI.imp (uI hg hm ha hs hs2) fun σ H R h=>by
  obtain ⟨H₀,Z₀,Z,δ,ds,hh,e,k⟩:=h
  obtain ⟨as,e1,e⟩:=bind_some e
  refine ⟨H₀,Z₀,Z,δ,as,hh,e1,fun vs Z1 H1 hh1 t1 r1=>?_⟩
  unfold dR at e
  split at e
  ·rename_i i j
   split at e
   ·rename_i hj
    cases e
    cases r1 with
    | cons q1 q2=>
     cases q2 with
     | cons q2 q3=>
      cases q3
      exact ⟨i,j,by rw [q1.int_eq,q2.int_eq],⟨hj.1.2,hj.1.1,hj.2.2,hj.2.1⟩,k _ Z1 H1 hh1 t1 mi⟩
   ·cases e
  ·cases e
theorem Ag (ha:EV X a f):IV X tg a (oI f lstI):=
 PI.imp (zf ha) fun σ H R h=>by
  obtain ⟨H₀,Z₀,Z,δ,ds,hh,e,k⟩:=h
  obtain ⟨y,e1,e⟩:=bind_some e
  refine ⟨H₀,Z₀,Z,δ,y,hh,e1,fun v Z1 H1 hh1 t1 r1=>?_⟩
  cases r1 with
  | @lst l xs ds' h1 q1=>
   cases e
   refine ⟨l,rfl,⟨xs,SqL.same h1 hh1.zh⟩,k _ Z1 H1 hh1 t1 ⟨fun i H2 z hi=>?_,fun i H2 x H3 d z ed y=>?_,fun i H2 z hi=>⟨xs,SqL.same h1 z,by rw [q1.length]; exact hi⟩⟩⟩
   ·have hi':i<xs.length:=by rw [q1.length]; exact hi
    exact ⟨xs,xs[i],SqL.same h1 z,by simp [hi']⟩
   ·obtain ⟨rfl,y⟩:=y
    obtain ⟨v,ev,rv⟩:=q1.get ed
    have:=y xs (SqL.same h1 z)
    rw [ev] at this
    cases this
    exact ⟨rfl,rv⟩
  | _=>cases e
theorem Cg (ha:EV X a f):IV X tg a (oI f Gr):=
 PI.imp (BJ ha) fun σ H R h=>by
  obtain ⟨H₀,Z₀,Z,δ,ds,hh,e,k⟩:=h
  obtain ⟨y,e1,e⟩:=bind_some e
  refine ⟨H₀,Z₀,Z,δ,y,hh,e1,fun v Z1 H1 hh1 t1 r1=>?_⟩
  cases r1 with
  | @tup l xs ds' h1 q1=>
   cases e
   refine ⟨l,rfl,⟨xs,SqT.same h1 hh1.zh⟩,k _ Z1 H1 hh1 t1 ⟨fun i H2 z hi=>?_,fun i H2 x H3 d z ed y=>?_,fun i H2 z hi=>⟨xs,SqT.same h1 z,by rw [q1.length]; exact hi⟩⟩⟩
   ·have hi':i<xs.length:=by rw [q1.length]; exact hi
    exact ⟨xs,xs[i],SqT.same h1 z,by simp [hi']⟩
   ·obtain ⟨rfl,y⟩:=y
    obtain ⟨v,ev,rv⟩:=q1.get ed
    have:=y xs (SqT.same h1 z)
    rw [ev] at this
    cases this
    exact ⟨rfl,rv⟩
  | _=>cases e
end
section
variable {X:Cx} {e:Expr} {lo hi:Option Expr} {p2 pos:Pos} {f:Dv->Option D}
noncomputable def Ji (K:Fg) (f:Dv->Option (Option Int)):TO:=fun σ H Q=>∃ H₀ Z₀ Z δ d,Hold K H₀ Z₀ Z δ σ H/\f δ = some d/\∀ Z' H',Hold K H₀ Z₀ Z' δ σ H'->Same Z Z'->Q d H'
def OV (X:Cx) (e:Option Expr) (f:Dv->Option (Option Int)):Prop:=PO X e (Ji X.K f)
theorem PO.imp {eo:Option Expr} {t t':TO} (h:PO X eo t) (i:∀ σ H Q,t' σ H Q->t σ H Q):PO X eo t':=fun pins s σ H Q I q=>h pins s σ H Q I (i _ _ _ q)
theorem bT:OV X none kZ:=PO.imp ze fun σ H Q h=>by
 obtain ⟨H₀,Z₀,Z,δ,d,hh,e,k⟩:=h
 cases e
 exact k Z H hh (Same.refl _)
theorem aV (h:EV X e f):OV X (some e) (oP f):=PO.imp (zd h) fun σ H Q h=>by
 obtain ⟨H₀,Z₀,Z,δ,d,hh,e,k⟩:=h
 obtain ⟨x,e1,e⟩:=bind_some e
 refine ⟨H₀,Z₀,Z,δ,x,hh,e1,fun v Z1 H1 hh1 t1 r1=>?_⟩
 cases r1 <;> simp [asI] at e
 subst e
 exact ⟨_,rfl,k Z1 H1 hh1 t1⟩
theorem Reps.cut {K:Fg} {Z:Hp} {vs:List V} {ds:List D} (r:Reps K Z vs ds) (lo hi:Option Int):Reps K Z (m4 vs lo hi) (gA ds lo hi):=by
 unfold m4 gA
 rw [r.length]
 exact (r.drop _).take _
theorem sK {ds:List D} {lo hi:Option Int} (h1:HT.sIx ds.length 0 lo=0) (h2:HT.sIx ds.length ds.length hi=ds.length):gA ds lo hi=ds:=by
 unfold gA
 rw [h1,h2]
 simp
section
variable {prog:Program} {w:World} {A:Around} {E:Value->Shared->Prop} {s:Shared}
theorem oh {t sl:Addr} {items:Array Value} {vl vu:Value} {lo hi:Option Int} {Q:Value->Shared->Prop} (ht:IsTup s.heap t items) (hs:s.heap.IsSliceOf sl vl vu .none) (pl:IsPart vl lo) (pu:IsPart vu hi)
  (h1:HT.sIx items.size 0 lo=0) (h2:HT.sIx items.size items.size hi=items.size) (h:Q (.ref t) s):wpAny (model prog w) A (getItem (.ref t) (.ref sl)) Q E s:=by
 obtain ⟨osl,hos,hcs,hds⟩:=id hs
 have ty:s.TypeIs (.ref sl) "slice":=⟨osl,hos,hcs⟩
 unfold getItem
 try with_reducible refine wpAny_holding ?_
 first | refine wpAny_bind (wpAny_pure ?_) | skip
 refine wpAny_bind (wpAny_sequenceKey ht.typeIs (by decide) ?_)
 refine wpAny_bind (wpAny_callSpecial?_slot (name:=Str.ofString "__getitem__") ht.typeIs PyProof.Rows.slot_tuple_getitem
  (wpAny_call_entry PyProof.Rows.slot_tuple_getitem ht.typeIs PyProof.Rows.entry_tuple_getitem ?_ (PyProof.Rows.args_tuple_getitem _ _)))
 show wpAny _ _ (Builtin.Tuple.tupleItemsOf (.ref t) >>= _) _ _ s
 refine wpAny_bind (tupleItemsOf_ ht ?_)
 refine wpAny_bind (wpAny_typeOf ty ?_)
 rw [if_pos (by decide)]
 refine wpAny_bind (HT.gr hs pl pu ?_)
 have yes:(((((HT.sIx items.size 0 lo:Nat):Int)==0)&&((1:Int)==1))&&((HT.sIx items.size items.size hi-HT.sIx items.size 0 lo)==items.size))=true:=by
  rw [h1,h2]; simp
 show wpAny _ _ (if (((((HT.sIx items.size 0 lo:Nat):Int)==0)&&((1:Int)==1))&&((HT.sIx items.size items.size hi-HT.sIx items.size 0 lo)==items.size))=true then _ else _) _ _ s
 rw [if_pos yes]
 unfold Builtin.Tuple.tupleIsExact
 refine wpAny_bind (wpAny_bind (wpAny_typeOf ht.typeIs (wpAny_pure ?_)))
 rw [if_pos (by decide)]
 exact wpAny_bind (wpAny_rule (wpAny_pure ⟨_,rfl,wpAny_pure h⟩))
end
def GS (K:PySem.W.Frag):V->Option Int->Option Int->Hp->VK->Prop:=fun x lo hi H Q=>∃ a xs,x=.ref a/\SqT K H a xs/\HT.sIx xs.length 0 lo=0/\HT.sIx xs.length xs.length hi=xs.length/\Q (.ref a) H
theorem yK:SlR X (GS X.K):=by
 intro pins s σ H x v vl vu lo hi sl Q I rx hs pl pu h
 obtain ⟨a,xs,rfl,hx,w1,w2,q⟩:=h
 cases rx
 obtain ⟨its,r,ht,hz⟩:=I.tuple hx
 have hlen:its.toArray.size=xs.length:=by rw [List.size_toArray]; exact r.length.symm
 refine ⟨"tuple",_,PyProof.Rows.slot_tuple_getitem.lookup,ht.typeIs,?_⟩
 exact oh ht hs pl pu (by rw [hlen]; exact w1) (by rw [hlen]; exact w2) ⟨.ref a,H,I,rfl,q⟩
theorem aX {fl fu:Dv->Option (Option Int)} (he:EV X e f) (hl:OV X lo fl) (hu:OV X hi fu):EV X (.Subscript e (.Slice lo hi none p2) pos) (iW f fl fu):=
 PE.imp (wf (sl_list.or (sl_tup.or yK)) he hl hu) fun σ H Q h=>by
  obtain ⟨H₀,Z₀,Z,δ,d,hh,e,k⟩:=h
  obtain ⟨x,e1,e⟩:=bind_some e
  obtain ⟨i,e2,e⟩:=bind_some e
  obtain ⟨j,e3,e⟩:=bind_some e
  refine ⟨H₀,Z₀,Z,δ,x,hh,e1,fun v Z1 H1 hh1 t1 r1=>⟨H₀,Z₀,Z1,δ,i,hh1,e2,fun Z2 H2 hh2 t2=>⟨H₀,Z₀,Z2,δ,j,hh2,e3,fun Z3 H3 hh3 t3=>?_⟩⟩⟩
  have r3:=(r1.same t2).same t3
  have tt:=(t1.trans t2).trans t3
  cases r3 with
  | @lst a xs ds h1 q1=>
   cases e
   refine .inl ⟨_,_,rfl,SqL.same h1 hh3.zh,fun p hp=>?_⟩
   have n:=New.add hh3.zh hp (.lst (m4 xs i j))
   exact k _ _ _ (hh3.new n) (tt.trans n.z) (.lst (SqL.of aL) ((q1.cut i j).same n.z))
  | @tup a xs ds h1 q1=>
   simp only [gY] at e
   cases e
   by_cases hw:HT.sIx ds.length 0 i=0/\HT.sIx ds.length ds.length j=ds.length
   ·refine .inr (.inr ⟨_,_,rfl,SqT.same h1 hh3.zh,by rw [q1.length]; exact hw.1,by rw [q1.length]; exact hw.2,?_⟩)
    refine k _ _ _ hh3 tt ?_
    rw [sK hw.1 hw.2]
    exact .tup h1 q1
   ·refine .inr (.inl ⟨_,_,rfl,SqT.same h1 hh3.zh,by rw [q1.length]; exact hw,fun p hp=>?_⟩)
    have n:=New.add hh3.zh hp (.tup (m4 xs i j))
    exact k _ _ _ (hh3.new n) (tt.trans n.z) (.tup (SqT.of aL) ((q1.cut i j).same n.z))
  | _=>cases e
end
structure FunV (K:PySem.W.Frag) (x qual:Str) (st:Stmt) (f:Addr) (fd:FuncData) (dV:Value):Prop where
 ex:∃ (oc:Value) (od:Option Addr) (kV doc pm:Value) (an:Option Addr) (cdv ct:Value) (osl:Array (Option Value)),
  fd=PySem.W.fnOf x qual (di st) (cz st) (ar st) dV kV doc pm an cdv ct/\K.lookup f=some ⟨oc,od,.func fd,osl⟩/\PySem.W.codeIn K cdv qual=true
 kp:PySem.W.keepIn K (.ref f)=true
section
variable {P:Program} {w:World} {K:PySem.W.Frag} {mg:Str->Option Value} {base:Heap}
theorem ux {N:List Str} {vs:List V} {as:List D} {Z:Hp} (r:Reps K Z vs as):∀ (i:Nat) d,(aj N as)[i]? = some (.fz d)->∃ v,(g6 N vs)[i]? = some (some v)/\Rep K Z v d:=by
 intro i d e
 unfold aj at e
 unfold L2.g6
 by_cases hi:i<as.length
 ·rw [List.getElem?_append_left (by simpa using hi),List.getElem?_map] at e
  cases q:as[i]? with
  | none=>rw [q] at e; cases e
  | some d'=>
   rw [q] at e
   cases e
   obtain ⟨v,ev,rv⟩:=r.get q
   exact ⟨v,by rw [List.getElem?_append_left (by simpa [r.length] using hi),List.getElem?_map,ev]; rfl,rv⟩
 ·rw [List.getElem?_append_right (by simpa using hi),List.getElem?_replicate] at e
  split at e <;> cases e
theorem nt {N:List Str} {as:List D}:∀ (i:Nat) ds,(aj N as)[i]? ≠ some (.own ds):=by
 intro i ds e
 unfold aj at e
 by_cases hi:i<as.length
 ·rw [List.getElem?_append_left (by simpa using hi),List.getElem?_map] at e
  cases q:as[i]? with
  | none=>rw [q] at e; cases e
  | some d'=>rw [q] at e; cases e
 ·rw [List.getElem?_append_right (by simpa using hi),List.getElem?_replicate] at e
  split at e <;> cases e
theorem vL {N:List Str} {as:List D}:∀ (i:Nat) ds,(aj N as)[i]? ≠ some (.fr ds):=by
 intro i ds e
 unfold aj at e
 by_cases hi:i<as.length
 ·rw [List.getElem?_append_left (by simpa using hi),List.getElem?_map] at e
  cases q:as[i]? with
  | none=>rw [q] at e; cases e
  | some d'=>rw [q] at e; cases e
 ·rw [List.getElem?_append_right (by simpa using hi),List.getElem?_replicate] at e
  split at e <;> cases e
theorem mo {N:List Str} {vs:List V} {as:List D} {Z H:Hp} (zh:Same Z H) (r:Reps K Z vs as):Hold K H Z Z (aj N as) (g6 N vs) H:=
 ⟨zh,Same.refl _,Same.refl _,fun _ _=>rfl,by simp [aj,L2.g6,r.length],ux r,fun i ds e=>absurd e (nt i ds),fun i j ds es a _ e=>absurd e (nt i ds),fun i ds e=>absurd e (vL i ds),NoF.refl _⟩
theorem HB {x qual:Str} {st:Stmt} {f:Addr} {fd:FuncData} {dV:Value} {N ps:List Str} {k:Nat} {g:List D->Option D} {b:Sf} (F:FunV K x qual st f fd dV) (S:FnScope N ps (ar st)) (len:∀ as d,g as=some d->as.length=ps.length)
  (hb:∀ (cdv:Value) (A:Around) (outer:List Env) (s:Shared) (H:Hp) (E:XK),Room k (A.deeper (envOfC qual (ar st) s.heap.objs.size f cdv))->BV (qU d0 P w K mg base N qual (ar st) f cdv A outer s H E).nox (cz st) b)
  (hg:∀ as d,g as=some d->∃ δ',b (aj N as)=some (.rt d,δ')\/(d=.none/\b (aj N as)=some (.nx,δ'))):FnOk P w K mg base d0 (k+1) f fd ps (fE K g):=by
 obtain ⟨oc,od,kV,doc,pm,an,cdv,ct,osl,rfl,lk,hcd⟩:=F.ex
 refine Bh lk hcd S (fun vs H Q E h=>?_) fun A outer s H vs Q E hr hsp=>?_
 ·obtain ⟨Z,as,d,zh,r,e,_⟩:=h
  rw [r.length]
  exact len as d e
 ·refine ⟨_,PSs.nox (hb cdv A outer s H E hr),?_⟩
  obtain ⟨Z,as,d,zh,r,e,kk⟩:=hsp
  have hh:=mo (N:=N) zh r
  have fin:∀ {σ':St} {H' Z':Hp} {δ':Dv},Hold K H Z Z' δ' σ' H'->Same Z Z'->New Z H Z' H':=fun h' z'=>⟨z',h'.h0,h'.zh,h'.zb,h'.nf⟩
  obtain ⟨δ',e2 | ⟨rfl,e2⟩⟩:=hg as d e
  ·exact ⟨H,Z,Z,_,_,hh,e2,fun σ' H' Z' h' z' v rv=>kk v Z' H' (fin h' z') rv⟩
  ·exact ⟨H,Z,Z,_,_,hh,e2,fun σ' H' Z' h' z'=>kk _ Z' H' (fin h' z') .non⟩
theorem FunV.binds {x qual:Str} {st:Stmt} {f:Addr} {fd:FuncData} {ps:List Str} (F:FunV K x qual st f fd .none)
  (h:∀ (kV doc pm:Value) (an:Option Addr) (cdv ct:Value) (us:List Value),us.length=ps.length->bindArgs (PySem.W.fnOf x qual (di st) (cz st) (ar st) .none kV doc pm an cdv ct) ⟨us,[]⟩=pure (ps.zip us)):Binds K fd ps []:=by
 obtain ⟨oc,od,kV,doc,pm,an,cdv,ct,osl,rfl,lk,hcd⟩:=F.ex
 exact .all (h kV doc pm an cdv ct)
theorem FunV.bindsD {x qual:Str} {st:Stmt} {f T:Addr} {fd:FuncData} {ps:List Str} {o:Obj} {items:Array Value} {n:Nat} {ds:List Value} (F:FunV K x qual st f fd (.ref T)) (ho:K.lookup T=some o) (hs:o.data=.seq items n) (nu:Nat) (hn:nu+ds.length=ps.length)
  (h:∀ (kV doc pm:Value) (an:Option Addr) (cdv ct:Value) (us:List Value),us.length=nu->∃ kk,bindArgs (PySem.W.fnOf x qual (di st) (cz st) (ar st) (.ref T) kV doc pm an cdv ct) ⟨us,[]⟩=seqItems? (.ref T) >>= kk/\kk (some items)=pure (ps.zip (us++ds))):Binds K fd ps ds:=by
 obtain ⟨oc,od,kV,doc,pm,an,cdv,ct,osl,rfl,lk,hcd⟩:=F.ex
 intro s us KX hl
 obtain ⟨kk,h1,h2⟩:=h kV doc pm an cdv ct us (by rw [List.length_append] at hl; omega)
 exact BindsTo.of_defaults rfl (KX _ _ ho) hs h1 h2
theorem o5 {x qual:Str} {st:Stmt} {f:Addr} {dV oc:Value} {od an:Option Addr} {osl:Array (Option Value)} {kV doc pm cdv ct:Value} (l:K.lookup f=some ⟨oc,od,.func (PySem.W.fnOf x qual (di st) (cz st) (ar st) dV kV doc pm an cdv ct),osl⟩)
  (c:PySem.W.codeIn K cdv qual=true) (k:PySem.W.keepIn K (.ref f)=true):FunV K x qual st f (PySem.W.fnOf x qual (di st) (cz st) (ar st) dV kV doc pm an cdv ct) dV:=⟨⟨oc,od,kV,doc,pm,an,cdv,ct,osl,rfl,l,c⟩,k⟩
def sX (K:PySem.W.Frag):Sp:=fun vs H Q _=>∃ (a:Addr) (ns:List Int),vs=[.ref a]/\SqL K H a (ns.map V.int)/\ns.length<=63/\∀ H',Q (.bl true) H'
end
theorem Dt {k:Nat} {l:PySem.W.OpenLaw} {q:Program} {loose:List Str} {XP:(Str->Option Value)->Heap->Prop} {YP:World->Heap->Prop} {d:DefRec} {K:Params->PySem.W.Frag} (hn:l.most=some 63) (hr:Room k callerA) (hdf:d.params.defaults=[])
  (hY:∀ (w:World) (h:Heap),YP w h->(K w.params).In h)
  (F:∀ (w:World) (mg:Str->Option Value) (fa:Addr) (h:Heap),(K w.params).In h->h.Ns mainGlobals mg->mg d.name=some (.ref fa) ->
   ∃ fd:FuncData,(∀ (s:Shared) (u:Value),BindsTo s fd ⟨[u],[]⟩ [("script",u)])/\∀ base:Heap,(K w.params).In base->base.Ns mainGlobals mg->FnOk l.prog w (K w.params) mg base d0 k fa fd ["script"] (sX (K w.params))) :
  PySem.W.WalkO q loose XP YP l.row.toRowW d [] (fun f vs=>PySem.call f vs):=
 L2.yy (n:=63) (k:=k) (x:="script") (CX:=fun _=>d0) (sp:=fun w=>sX (K w.params)) hn (by decide) hdf hr hY F (fun _ _ a ns hl _ hS=>⟨a,ns,rfl,hS,hl,fun _=>rfl⟩) fun _ _ _ _ _ z=>z
section
variable {P:Program} {w:World} {K:PySem.W.Frag} {mg:Str->Option Value} {base:Heap}
theorem cG {x qual:Str} {st:Stmt} {f:Addr} {fd:FuncData} {dV:Value} {N ps:List Str} {k:Nat} {b:Sf} (F:FunV K x qual st f fd dV) (S:FnScope N ps (ar st))
  (hb:∀ (cdv:Value) (A:Around) (outer:List Env) (s:Shared) (H:Hp) (E:XK),Room k (A.deeper (envOfC qual (ar st) s.heap.objs.size f cdv))->BV (qU d0 P w K mg base N qual (ar st) f cdv A outer s H E).nox (cz st) b) :
  FnOk P w K mg base d0 (k+1) f fd ps (fE K (runB N ps.length b)):=by
 refine HB F S (fun as d h=>?_) hb fun as d h=>?_
 ·unfold runB at h
  split at h
  ·assumption
  ·cases h
 ·unfold runB at h
  split at h
  ·obtain ⟨⟨fl,δ'⟩,e,h⟩:=bind_some h
   cases fl with
   | nx=>cases h; exact ⟨δ',.inr ⟨rfl,e⟩⟩
   | rt d=>cases h; exact ⟨δ',.inl e⟩
   | bk=>cases h
   | ct=>cases h
  ·cases h
structure Cal (P:Program) (w:World) (K:PySem.W.Frag) (mg:Str->Option Value) (base:Heap) (x:Str) (k:Nat) (g:List D->Option D) (dd:List D):Prop where
 ex:∃ (fa:Addr) (fd:FuncData) (ps:List Str) (ds:List Value) (dv:List V),FnOk P w K mg base d0 k fa fd ps (fE K g)/\mg x=some (.ref fa)/\PySem.W.keepIn K (.ref fa)=true/\Binds K fd ps ds/\Vals dv ds/\∀ Z,Reps K Z dv dd
theorem Cal.mk0 {x:Str} {k:Nat} {g:List D->Option D} {fa:Addr} {fd:FuncData} {ps:List Str} (F:FnOk P w K mg base d0 k fa fd ps (fE K g)) (hm:mg x=some (.ref fa)) (hk:PySem.W.keepIn K (.ref fa)=true) (hb:Binds K fd ps []):Cal P w K mg base x k g []:=
 ⟨⟨fa,fd,ps,[],[],F,hm,hk,hb,.nil,fun _=>.nil⟩⟩
end
section
variable {X:Cx} {e:Expr} {es:List Expr} {p pos:Pos} {fs:Dv->Option (List D)}
theorem xv {k:Nat} {x:Str} {g:List D->Option D} {dd:List D} (C:Cal X.prog X.w X.K X.mg X.base x k g dd) (hr:Room k X.A) (hg:Gl X x) (ha:AV X (e::es) fs) (hdb:(x==("__debug__":Str))=false:=by decide) (he:starEach (e::es) X.env=(false,eval e X.env)::starEach es X.env:=by rfl)
  (hpl:(backTo pos (starEach es X.env)).any (·.1)=false:=by rfl):EV X (.Call (.Name x p) (e::es) [] pos) (os fs fun as=>g (as++dd)):=by
 obtain ⟨fa,fd,ps,ds,dv,F,hm,hk,hb,hd,hdd⟩:=C.ex
 exact As F hr hg hm hk hb hd hdd AU ha hdb he hpl
variable {tg a:Expr} {f:Dv->Option D}
theorem dJ (ha:EV X a f):IV X tg a (oI f dc):=by
 intro pins s σ H R I h
 obtain ⟨H₀,Z₀,Z,δ,ds,hh,e,k⟩:=h
 obtain ⟨y,e1,e⟩:=bind_some e
 cases y with
 | list xs=>exact Ag ha pins s σ H R I ⟨H₀,Z₀,Z,δ,ds,hh,by unfold oI; rw [e1]; exact e,k⟩
 | tuple xs=>exact Cg ha pins s σ H R I ⟨H₀,Z₀,Z,δ,ds,hh,by unfold oI; rw [e1]; exact e,k⟩
 | _=>cases e
end
end VL
namespace VL
open PySem PySem.Spec PyProof.Rows L2
noncomputable def iZ (env:Env):List (Str×NameKind)->List (Str×Addr)->List (Str×Addr)
 | [],cs=>cs
 | (n,k)::r,cs=>if k == .free then iZ env r ((n,(env.cells.lookup n).getD 0)::cs) else iZ env r cs
theorem mr {env:Env}:∀ (l:List (Str×NameKind)) (cs:List (Str×Addr)),(∀ y∈l,y.2=.free->∃ c,env.cells.lookup y.1=some c) ->
  (forIn l cs fun (x:Str×NameKind) (r:List (Str×Addr))=>(if (x.2==NameKind.free)=true then do let c <- cellOf env x.1; pure (ForInStep.yield ((x.1,c)::r)) else pure (ForInStep.yield r):Sem (ForInStep (List (Str×Addr)))))=pure (iZ env l cs)
 | [],cs,_=>rfl
 | (n,k)::r,cs,h=>by
  have ih:=fun cs'=>mr r cs' fun y hy=>h y (List.mem_cons_of_mem _ hy)
  rw [List.forIn_cons]
  cases hk:k==NameKind.free with
  | true=>
   have hk':k=.free:=by simpa using hk
   obtain ⟨c,ec⟩:=h (n,k) List.mem_cons_self hk'
   have e1:cellOf env n=pure c:=by unfold cellOf; rw [ec]
   simp only [hk,if_true,e1,pure_bind,iZ,ec,Option.getD_some]
   exact ih _
  | false=>
   simp only [hk,Bool.false_eq_true,if_false,pure_bind,iZ]
   exact ih _
theorem d4 {scope:Scope} {env:Env} (h:∀ y∈scope.names,y.2=.free->∃ c,env.cells.lookup y.1=some c):closureFor scope env=pure (iZ env scope.names []):=by
 simp only [closureFor]
 have:=mr (env:=env) scope.names [] h
 first
  | (rw [this]; rfl)
  | (simp only [this]; rfl)
  | (unfold closureFor; simp_all)
theorem bZ {env:Env}:∀ (l:List (Str×NameKind)) (cs:List (Str×Addr)) (y:Str) (c:Addr),(∀ z∈l,z.2=.free->∃ c,env.cells.lookup z.1=some c)->(iZ env l cs).lookup y=some c->cs.lookup y=some c\/env.cells.lookup y=some c
 | [],cs,y,c,_,e=>.inl e
 | (n,k)::r,cs,y,c,h,e=>by
  unfold iZ at e
  have hr:=fun z hz=>h z (List.mem_cons_of_mem _ hz)
  split at e
  ·rename_i hk
   rcases bZ r _ y c hr e with q | q
   ·rw [List.lookup_cons] at q
    cases hy:y==n with
    | true=>
     have hy':y=n:=by simpa using hy
     subst hy'
     rw [hy] at q
     obtain ⟨c',ec⟩:=h (y,k) List.mem_cons_self (by simpa using hk)
     simp only [ec,Option.getD_some] at q
     cases q
     exact .inr ec
    | false=>rw [hy] at q; exact .inl q
   ·exact .inr q
  ·exact bZ r cs y c hr e
theorem jJ {env:Env}:∀ (l:List (Str×NameKind)) (cs:List (Str×Addr)) (y:Str),((y,NameKind.free)∈l\/(cs.lookup y).isSome=true)->((iZ env l cs).lookup y).isSome=true
 | [],cs,y,h=>by
  rcases h with h | h
  ·cases h
  ·exact h
 | (n,k)::r,cs,y,h=>by
  unfold iZ
  split
  ·rename_i hk
   refine jJ r _ y ?_
   rcases h with h | h
   ·rcases List.mem_cons.mp h with e | e
    ·cases e; exact .inr (by simp [List.lookup_cons])
    ·exact .inl e
   ·refine .inr ?_
    rw [List.lookup_cons]
    cases hy:y==n with
    | true=>rfl
    | false=>exact h
  ·rename_i hk
   refine jJ r cs y ?_
   rcases h with h | h
   ·rcases List.mem_cons.mp h with e | e
    ·cases e; exact absurd rfl hk
    ·exact .inl e
   ·exact .inr h
theorem fg {env:Env} {y:Str}:∀ (l:List (Str×NameKind)),(∀ z∈l,z.2≠.cell) ->
  (((l.map fun (n,k)=>if (k==NameKind.free&&env.scope.kind == .function&&env.kindOf n==some .cell) then (n,NameKind.cell) else (n,k)).lookup y=some .cell\/(l.map fun (n,k)=>if (k==NameKind.free&&env.scope.kind == .function&&env.kindOf n==some .cell) then (n,NameKind.cell) else (n,k)).lookup y=some .free)↔l.lookup y=some .free)
 | [],_=>by simp
 | (n,k)::r,h=>by
  have ih:=fg (env:=env) (y:=y) r fun z hz=>h z (List.mem_cons_of_mem _ hz)
  have hk:k≠.cell:=h (n,k) List.mem_cons_self
  rw [List.map_cons]
  cases hy:y==n with
  | true=>
   by_cases hc:(k==NameKind.free&&env.scope.kind == .function&&env.kindOf n==some .cell)=true
   ·have hf:k=.free:=by
     simp only [Bool.and_eq_true] at hc
     simpa using hc.1.1
    simp only [if_pos hc,List.lookup_cons,hy]
    simp [hf]
   ·simp only [if_neg hc,List.lookup_cons,hy]
    simp [hk]
  | false=>
   by_cases hc:(k==NameKind.free&&env.scope.kind == .function&&env.kindOf n==some .cell)=true
   ·simp only [if_pos hc,List.lookup_cons,hy]; exact ih
   ·simp only [if_neg hc,List.lookup_cons,hy]; exact ih
noncomputable def dj (X:Cx) (scope:Scope) (N:List Str) (C:Addr) (s₀:Shared) (H₀:Hp) (ex:List Addr):Cx:=
 { X with N:=N,s₀:=s₀,H₀:=H₀,env:=compEnvC scope (iZ X.env scope.names []) C X.env,outer:=X.stack,stack:=X.stack,ex:=ex,fn:=fun _=>false,pn:=[],xe:=fun _ _=>False }
structure BlkOk (on:List (Str×NameKind)) (ON:List Str) (scope:Scope) (vars:List Str) (caps:List (Nat×Str)):Prop where
 kind:scope.kind=.function
 cell:∀ y∈scope.names,y.2≠.cell
 names:∀ y∈scope.names,y.2=.local->scope.names.lookup y.1=some .local
 free:∀ y∈scope.names,y.2=.free->on.lookup y.1=some .cell\/on.lookup y.1=some .free
 cap:∀ p∈caps,ON[p.1]? = some p.2/\scope.names.lookup p.2=some .free
section
variable {X:Cx} {pins:List (Addr×Obj)} {σ:St} {H H':Hp} {s s':Shared} {scope:Scope} {vars:List Str} {caps:List (Nat×Str)} {fp:List Addr} {C:Addr}
noncomputable def gi (σ:St) (caps:List (Nat×Str)):St:=caps.map fun p=>(σ[p.1]?).getD none
theorem BlkOk.cells (B:BlkOk X.env.scope.names X.N scope vars caps) (I:Inv X pins σ H s):∀ y∈scope.names,y.2=.free->∃ c,X.env.cells.lookup y.1=some c:=fun y hy e=>I.ok.has y.1 (B.free y hy e)
theorem sO (B:BlkOk X.env.scope.names X.N scope vars caps) (I:Inv X pins σ H s) (hf:∀ b∈fp,i7 X pins H b) (hlt:∀ b∈fp,b<s.heap.objs.size) (hC:s.heap.objs.size<=C):(dj X scope (vars++caps.map (·.2)) C s H fp).Ok where
 mod:=I.ok.mod
 kind:=B.kind
 glob:=I.ok.glob
 blt:=I.ok.blt
 above:=hC
 inj:=fun x y c e1 e2=>by
  rcases bZ _ _ _ _ (B.cells I) e1 with q1 | q1
  ·cases q1
  ·rcases bZ _ _ _ _ (B.cells I) e2 with q2 | q2
   ·cases q2
   ·exact I.ok.inj x y c q1 q2
 has:=fun x e=>by
  have:scope.names.lookup x=some .free:=(fg scope.names B.cell).mp e
  have:=jJ (env:=X.env) scope.names [] x (.inl (PySem.mem_of_lookup this))
  exact Option.isSome_iff_exists.mp this
 cab:=fun x c e=>nomatch e
 hd:=I.ok.hd
 frames:=I.ok.frames
 stk:=.inl rfl
 exf:=fun b hb=>⟨Nat.ne_of_lt (Nat.lt_of_lt_of_le (hlt b hb) hC),fun x c e=>by
  rcases bZ _ _ _ _ (B.cells I) e with q | q
  ·cases q
  ·exact (hf b hb).2.2.2.2.1 x c q⟩
 bs:=I.bs
 bsz:=Nat.le_trans I.ok.bsz I.sz
 noex:=fun b o e hb=>by
  rcases (hf b hb).2.2.2.1 with z | z
  ·exact I.ok.noex b o e z
  ·exact absurd (Nat.lt_of_lt_of_le (Heap.lt_size e) (Nat.le_trans I.ok.bsz z)) (Nat.lt_irrefl _)
 exfs:=fun b hb z=>by
  rcases List.mem_cons.mp (I.stkSub b z) with q | q
  ·exact (hf b hb).2.1 q
  ·exact (hf b hb).2.2.1 q
 funs:=I.stack
 frf:=I.stkFree
theorem uh (B:BlkOk X.env.scope.names X.N scope vars caps) (I:Inv X pins σ H s) (hf:∀ b∈fp,i7 X pins H b) (hlt:∀ b∈fp,b<s.heap.objs.size) (hC:s.heap.objs.size<=C) {h₁:Heap} {m:Str->Option Value} {tk:Nat} (hns:h₁.Ns C m) (old:∀ b o,s.heap.get? b=some o->h₁.get? b=some o) :
  Inv (dj X scope (vars++caps.map (·.2)) C s H fp) [] (vars.map (fun _=>none)++gi σ caps) H { s with heap:=h₁,toks:=tk }:=by
 refine ⟨sO B I hf hlt hC,rfl,I.bare,Un.kept old,⟨m,hns,fun i x v e1 e2 e3=>?_⟩,fun x c e=>?_,I.hok.fresh hC,fun x c e=>?_,fun p hp=>absurd (show p∈([]:List (Addr×Obj)) from hp) (by simp),I.hok.kept old,?_⟩
 ·have e1:(vars++caps.map (·.2))[i]? = some x:=e1
  by_cases hi:i<vars.length
  ·rw [List.getElem?_append_left (by simpa using hi),List.getElem?_map] at e2
   cases q:vars[i]? <;> rw [q] at e2 <;> cases e2
  ·rw [List.getElem?_append_right (by simpa using hi)] at e1 e2
   simp only [List.length_map] at e2
   unfold gi at e2
   rw [List.getElem?_map] at e1 e2
   cases q:caps[i-vars.length]? with
   | none=>rw [q] at e1; cases e1
   | some p=>
    rw [q] at e1 e2
    cases e1
    have hp:=List.mem_of_getElem? q
    obtain ⟨g1,g2⟩:=B.cap p hp
    have gf:X.env.scope.names.lookup p.2=some .cell\/X.env.scope.names.lookup p.2=some .free:=B.free (p.2,.free) (PySem.mem_of_lookup g2) rfl
    have ev:σ[p.1]? = some (some v):=by
     have e2:(σ[p.1]?).getD none=some v:=Option.some.inj e2
     cases z:σ[p.1]? with
     | none=>rw [z] at e2; cases e2
     | some w=>rw [z] at e2; rw [show w=some v from e2]
    obtain ⟨m',_,hl⟩:=I.loc
    obtain ⟨u,r,l⟩:=hl p.1 p.2 v g1 ev (gf.elim (fun z=>.inr (.inl z)) fun z=>.inr (.inr z))
    refine ⟨u,r,.inr ⟨?_,?_⟩⟩
    ·exact (fg scope.names B.cell).mpr g2
    ·rcases l with ⟨z,_⟩ | ⟨_,c,ec,hc⟩
     ·have z:X.env.scope.names.lookup p.2=some .local:=z
      rcases gf with w | w <;> rw [z] at w <;> cases w
     ·obtain ⟨c',q'⟩:=Option.isSome_iff_exists.mp (jJ (env:=X.env) scope.names [] p.2 (.inl (PySem.mem_of_lookup g2)))
      rcases bZ _ _ _ _ (B.cells I) q' with w | w
      ·cases w
      ·rw [ec] at w
       cases w
       obtain ⟨o,ho,hd⟩:=hc
       exact ⟨c,q',o,old c o ho,hd⟩
 ·rcases bZ _ _ _ _ (B.cells I) e with q | q
  ·cases q
  ·obtain ⟨v,o,ho,hd⟩:=I.cell x c q
   exact ⟨v,o,old c o ho,hd⟩
 ·rcases bZ _ _ _ _ (B.cells I) e with q | q
  ·cases q
  ·exact I.freeC x c q
 ·simp [dj,gi]
theorem ug (I:Inv X pins σ H s) (hf:∀ b∈fp,i7 X pins H b) {D:Addr} {s':Shared} {σ':St} {N:List Str} {ys:List V} {its:List Value} (hC:s.heap.objs.size<=C) (hD:s.heap.objs.size<=D) (hDC:D≠C)
  (J:Inv (dj X scope N C s H fp) [] σ' H' s') (hD':H' D=none) (hp:s'.heap.PlainList D its.toArray) (hv:Vals ys its) (hz:ys.length<=sizeLine) {h':Heap} (hs:Heap.SameBut C s'.heap h') :
  Inv X pins σ (upd H' D (.lst ys)) { s' with heap:=h' }:=by
 have U:Un (t0 X.stack) fp H H' s.heap s'.heap:=J.base
 have neC:∀ b o,s.heap.get? b=some o->b≠C:=fun b o e=>Nat.ne_of_lt (Nat.lt_of_lt_of_le (Heap.lt_size e) hC)
 have neD:∀ b o,s.heap.get? b=some o->b≠D:=fun b o e=>Nat.ne_of_lt (Nat.lt_of_lt_of_le (Heap.lt_size e) hD)
 have mv:∀ b o,b≠C->s'.heap.get? b=some o->h'.get? b=some o:=fun b o hb e=>hs.extBut b o hb e
 have tD:∀ b o,H' b=some o->(upd H' D (.lst ys)) b=some o:=fun b o e=>by rw [aQ (bF e hD')]; exact e
 refine I.call' (s':={ s' with heap:=h' }) (ch:=fp) J.os ⟨fun b o e n h1 h2=>mv b o (neC b o e) (U.keep b o e n h1 h2),fun b o e n h1 h2=>?_,fun b o e n h2=>?_,fun b o e h2=>?_,fun b xs e=>tD _ _ (U.tups b xs e),fun b o xs e=>tD _ _ (U.frzs b o xs e),fun b ps e=>?_⟩ (fun b o e=>?_) J.bare
  (fun b hb=>⟨(hf b hb).2.2.2.1,(hf b hb).2.1,(hf b hb).2.2.2.2.1,(hf b hb).2.2.2.2.2⟩)
 ·obtain ⟨sl,q⟩:=U.slot b o e n h1 h2
  exact ⟨sl,mv b _ (neC b o e) q⟩
 ·rw [aQ (neD b o e)]; exact U.free b o e n h2
 ·obtain ⟨o',q⟩:=U.there b o e h2
  exact ⟨o',mv b _ (neC b o e) q⟩
 ·obtain ⟨more,q⟩:=U.tbls b ps e
  exact ⟨more,tD _ _ q⟩
 ·by_cases hb:b=D
  ·subst hb
   rw [aL] at e
   cases e
   obtain ⟨n,q⟩:=hp
   exact ⟨hz,its,n,hv,mv _ _ hDC q⟩
  ·rw [aQ hb] at e
   refine (J.hok b o e).stay (fun c v hc q=>mv c v ?_ q) (fun c q=>tD _ _ q) fun c xs q=>tD _ _ q
   intro z
   have fc:H' C=none:=J.free
   rcases hc with w | w
   ·rw [<- w,z,fc] at e; cases e
   ·rw [z,fc] at w; cases w
theorem qV (elt target iter:Expr) (scope:Scope) (pos:Pos) (it acc:Value) (env:Env) :
  compTurn (.ListComp elt [⟨target,iter,[],0⟩] scope pos) 0 it acc env=(standAt iter.pos >>= fun _=>pyNext it >>= fun r=>match r with
   | none=>pure (.done .next)
   | some v=>letOwnedTupleGo target it v >>= fun _=>assign target env v >>= fun _=>
    (eval elt env >>= fun x=>call (.builtin "list.append") [acc,x] >>= fun _=>pure ()) >>= fun _=>
     again (.compLoop (.ListComp elt [⟨target,iter,[],0⟩] scope pos) 0 it acc env)):=by rfl
def uo (σ σ':St):Prop:=σ.length = σ'.length/\∀ (i:Nat) v,σ[i]? = some (some v) -> σ'[i]? = some (some v)
def vF (wi:TI) (g:TG) (te:TE) (vars:List Str) (caps:List (Nat×Str)):TE:=fun σ H Q=>wi σ H fun J H1=>∃ W:Nat->Nat->List V->Hp->Prop,(∃ m,W 0 m [] H1)/\∀ i m ys H,W i m ys H ->
 (J.stop i H/\ys.length<=sizeLine/\∀ p,H p=none->Q (.ref p) (upd H p (.lst ys))) \/
 (J.go i H/\ys.length<sizeLine/\∀ x H',J.yld i H x H'->g x (vars.map (fun _=>none)++gi σ caps) H' fun σ2 H2=>uo (vars.map (fun _=>none)++gi σ caps) σ2/\te σ2 H2 fun y H3=>∃ m',m'<m/\W (i+1) m' (ys++[y]) H3)
theorem kR {prog:Program} {w:World} {A:Around} {R:Result->Shared->Prop} {s:Shared} {elt target iter:Expr} {scope:Scope} {pos:Pos} {it acc:Value} {env:Env} (I:Nat->Shared->Prop)
  (turn:∀ n s,I n s->wpAny (model prog w) A (pyNext it) (fun r s₁=>match r with
   | none=>R (.ok .next) s₁
   | some v=>wpAny (model prog w) A (letOwnedTupleGo target it v) (fun _ s₁=>wpAny (model prog w) A (assign target env v) (fun _ s₂=>wpAny (model prog w) A (eval elt env) (fun x s₃=>
     wpAny (model prog w) A (call (.builtin "list.append") [acc,x]) (fun _ s₄=>∃ m,m<n/\I m s₄) (fun _ _=>False) s₃) (fun _ _=>False) s₂) (fun _ _=>False) s₁) (fun _ _=>False) s₁) (fun _ _=>False) s)
  (n:Nat) (h:I n s):codeAny (model prog w) A (.compLoop (.ListComp elt [⟨target,iter,[],0⟩] scope pos) 0 it acc env) R s:=by
 refine codeAny_loop rfl I (fun n s hI=>?_) n h
 show wpAny _ _ ((compTurn (.ListComp elt [⟨target,iter,[],0⟩] scope pos) 0 it acc env).onRaise (fun x=>do noteFrame x env; theTreesLotGoes x)) _ _ s
 refine wpAny_noted ?_
 rw [qV]
 refine wpAny_bind (wpAny_standAt (wpAny_bind (wpAny_mono (turn n s hI) (fun r s₁ h₁=>?_) fun _ _ h'=>h'.elim)))
 cases r with
 | none=>exact wpAny_pure h₁
 | some v=>
  refine wpAny_bind (wpAny_mono h₁ (fun _ s₁ h₁=>?_) fun _ _ h'=>h'.elim)
  exact wpAny_bind (wpAny_mono h₁ (fun _ s₂ h₂=>wpAny_bind (wpAny_bind (wpAny_mono h₂ (fun x s₃ h₃=>wpAny_bind (wpAny_mono h₃
   (fun _ s₄ h₄=>wpAny_pure (wpAny_pure ⟨rfl,h₄⟩)) fun _ _ h'=>h'.elim)) fun _ _ h'=>h'.elim))) fun _ _ h'=>h'.elim)
end
section
variable {X:Cx} {scope:Scope} {vars:List Str} {caps:List (Nat×Str)} {elt tg iter:Expr} {pos:Pos} {wi:TI} {g:TG} {te:TE}
theorem mD (B:BlkOk X.env.scope.names X.N scope vars caps) (hc:X.calm=true)
  (hg:∀ C s₀ H₀ ex,PG (dj X scope (vars++caps.map (·.2)) C s₀ H₀ ex) tg g) (he:∀ C s₀ H₀ ex,PE (dj X scope (vars++caps.map (·.2)) C s₀ H₀ ex) elt te)
  {pins:List (Addr×Obj)} {σ:St} {H2:Hp} {s2:Shared} {Q:VK} {it:Addr} {fp:List Addr} {tn:Nat->Heap->Prop} {J:It} (I2:Inv X pins σ H2 s2) (T:xR X.prog X.w X.K tg J fp it tn) (st2:tn 0 s2.heap) (f2:∀ b∈fp,i7 X pins H2 b)
  {W:Nat->Nat->List V->Hp->Prop} {m0:Nat} (w0:W 0 m0 [] H2) (turn:∀ i m ys H,W i m ys H ->
   (J.stop i H/\ys.length<=sizeLine/\∀ p,H p=none->Q (.ref p) (upd H p (.lst ys))) \/
   (J.go i H/\ys.length<sizeLine/\∀ x H',J.yld i H x H'->g x (vars.map (fun _=>none)++gi σ caps) H' fun σ2 H2=>uo (vars.map (fun _=>none)++gi σ caps) σ2/\te σ2 H2 fun y H3=>∃ m',m'<m/\W (i+1) m' (ys++[y]) H3))
  {RR:Value->Addr->Result->Shared->Prop} {E:Value->Shared->Prop}
  (hRR:∀ D C s' m,s'.heap.Ns C m->D≠C->s2.heap.objs.size<=D->s2.heap.objs.size<=C->∀ H',H' C=none->(∀ h',Heap.SameBut C s'.heap h'->Inv X pins σ H' { s' with heap:=h' })->Q (.ref D) H'->RR (.ref D) C (.ok .next) s') :
  wpAny (model X.prog X.w) X.A (newList []) (fun acc s₃=>wpAny (model X.prog X.w) X.A (newFunctionEnv scope X.env.globals (iZ X.env scope.names []) [] X.env.qual none .none (some X.env)) (fun cenv s₄=>
   codeAny (model X.prog X.w) X.A (.compStart (.ListComp elt [⟨tg,iter,[],0⟩] scope pos) 0 (.ref it) acc { cenv with scope:=relabel scope X.env }) (RR acc cenv.locals) s₄) E s₃) E s2:=by
 refine wpAny_newObj_type (wpAny_newFunctionEnv B.cell (by intro y hy; simp at hy) (fun h₁ hns₁ hsb₁=>?_) B.kind)
 dsimp only at hns₁ hsb₁ ⊢
 generalize hP:s2.heap.push { cls:=.type "list",dict:=none,data:=.seq ([]:List Value).toArray }=HP at hns₁ hsb₁ ⊢
 have hCs:HP.objs.size=s2.heap.objs.size+1:=by rw [<- hP,Heap.size_push]
 have hDC:s2.heap.objs.size≠HP.objs.size:=by rw [hCs]; exact Nat.ne_of_lt (Nat.lt_succ_self _)
 have hCle:s2.heap.objs.size<=HP.objs.size:=by rw [hCs]; exact Nat.le_succ _
 have old:∀ b o,s2.heap.get? b=some o->h₁.get? b=some o:=fun b o e=>hsb₁.extBut b o (Nat.ne_of_lt (Nat.lt_of_lt_of_le (Heap.lt_size e) hCle)) (Heap.get?_push_of_some _ (hP ▸ Heap.get?_push_of_some _ e))
 have hacc:h₁.PlainList s2.heap.objs.size #[]:=⟨_,hsb₁.extBut _ _ hDC (Heap.get?_push_of_some _ (hP ▸ Heap.get?_push_size _ rfl))⟩
 have flt:∀ b∈fp,b<s2.heap.objs.size:=fun b hb=>by
  obtain ⟨o,e,_⟩:=T.obj _ _ st2 b hb
  exact Heap.lt_size e
 have st1:tn 0 h₁:=T.keep _ _ _ st2 fun b _ o e=>old b o e
 have loop:∀ s3:Shared,s3={ s2 with heap:=h₁,toks:=s2.toks+([]:List (Str×Value)).length } ->
   codeAny (model X.prog X.w) X.A (.compLoop (.ListComp elt [⟨tg,iter,[],0⟩] scope pos) 0 (.ref it) (.ref s2.heap.objs.size) (compEnvC scope (iZ X.env scope.names []) HP.objs.size X.env))
    (RR (.ref s2.heap.objs.size) HP.objs.size) s3:=by
  rintro s3 rfl
  have X':=dj X scope (vars++caps.map (·.2)) HP.objs.size s2 H2 fp
  have fpo:∀ {H':Hp},(∀ b∈fp,H' b=none)->∀ b∈fp,i7 (dj X scope (vars++caps.map (·.2)) HP.objs.size s2 H2 fp) [] H' b:=fun hn b hb=>by
   have ok:=sO B I2 f2 flt hCle
   exact ⟨hn b hb,(ok.exf b hb).1,ok.exfs b hb,.inl hb,(ok.exf b hb).2,fun p hp=>absurd (show p∈([]:List (Addr×Obj)) from hp) (by simp)⟩
  refine kR (fun n s=>∃ i ys H its,Inv (dj X scope (vars++caps.map (·.2)) HP.objs.size s2 H2 fp) [] (vars.map (fun _=>none)++gi σ caps) H s/\tn i s.heap/\(∀ b∈fp,H b=none)/\s.heap.PlainList s2.heap.objs.size (List.toArray its)/\H s2.heap.objs.size=none/\Vals ys its/\W i n ys H) ?_ m0
   ⟨0,[],H2,[],uh B I2 f2 flt hCle hns₁ old,st1,fun b hb=>(f2 b hb).1,hacc,I2.hok.fresh (Nat.le_refl _),.nil,w0⟩
  rintro n s4 ⟨i,ys,H4,its,I4,st4,fr4,pl4,nD4,v4,w4⟩
  obtain ⟨nn,eD⟩:=id pl4
  have DnL:s2.heap.objs.size≠(dj X scope (vars++caps.map (·.2)) HP.objs.size s2 H2 fp).env.locals:=hDC
  have Dfs:s2.heap.objs.size ∉ (dj X scope (vars++caps.map (·.2)) HP.objs.size s2 H2 fp).fs:=fun z=>by
   rcases List.mem_cons.mp (I2.stkSub _ z) with q | q
   ·have:=I2.lt; rw [<- q] at this; exact Nat.lt_irrefl _ this
   ·exact I2.nofs (Nat.le_refl _) q
  have Dfp:∀ b∈fp,s2.heap.objs.size≠b:=fun b hb z=>by have:=flt b hb; rw [<- z] at this; exact Nat.lt_irrefl _ this
  have DnC:∀ x c,(dj X scope (vars++caps.map (·.2)) HP.objs.size s2 H2 fp).env.cells.lookup x=some c->c≠s2.heap.objs.size:=fun x c e z=>by
   rcases bZ _ _ _ _ (B.cells I2) e with q | q
   ·cases q
   ·obtain ⟨v,o,ho,_⟩:=I2.cell x c q
    have:=Heap.lt_size ho
    rw [z] at this
    exact Nat.lt_irrefl _ this
  have pinD:∀ {σ':St} {H':Hp} {s':Shared},Inv (dj X scope (vars++caps.map (·.2)) HP.objs.size s2 H2 fp) [(s2.heap.objs.size,{ cls:=.type "list",data:=.seq its.toArray nn })] σ' H' s'->s'.heap.PlainList s2.heap.objs.size its.toArray/\H' s2.heap.objs.size=none:=fun {σ' H' s'} I'=>by
   obtain ⟨q1,q2,_⟩:=I'.pin (s2.heap.objs.size,{ cls:=.type "list",data:=.seq its.toArray nn }) (by simp [dj])
   exact ⟨⟨nn,q1⟩,q2⟩
  have I4p:Inv (dj X scope (vars++caps.map (·.2)) HP.objs.size s2 H2 fp) [(s2.heap.objs.size,{ cls:=.type "list",data:=.seq its.toArray nn })] (vars.map (fun _=>none)++gi σ caps) H4 s4:=
   I4.pins_of fun p hp=>by
    have e:p=(s2.heap.objs.size,{ cls:=.type "list",data:=.seq its.toArray nn }):=by simpa [dj] using hp
    subst e
    exact ⟨eD,nD4,DnL,Dfs,fun v z=>by cases z⟩
  have fpo':∀ {H':Hp},(∀ b∈fp,H' b=none)->∀ b∈fp,i7 (dj X scope (vars++caps.map (·.2)) HP.objs.size s2 H2 fp) [(s2.heap.objs.size,{ cls:=.type "list",data:=.seq its.toArray nn })] H' b:=fun hn b hb=>by
   obtain ⟨q1,q2,q3,q4,q5,_⟩:=fpo hn b hb
   exact ⟨q1,q2,q3,q4,q5,fun p hp=>by
    have e:p=(s2.heap.objs.size,{ cls:=.type "list",data:=.seq its.toArray nn }):=by simpa [dj] using hp
    subst e
    exact Dfp b hb⟩
  have unp:∀ {pl:List (Addr×Obj)} {σ':St} {H':Hp} {s':Shared},Inv (dj X scope (vars++caps.map (·.2)) HP.objs.size s2 H2 fp) pl σ' H' s'->Inv (dj X scope (vars++caps.map (·.2)) HP.objs.size s2 H2 fp) [] σ' H' s':=fun {pl σ' H' s'} I'=>
   I'.pins_of fun p hp=>absurd (show p∈([]:List (Addr×Obj)) from hp) (by simp)
  rcases turn i n ys H4 w4 with ⟨stop,hz,qn⟩ | ⟨go,hz,step⟩
  ·refine cf (T.done (dj X scope (vars++caps.map (·.2)) HP.objs.size s2 H2 fp) rfl rfl rfl hc i _ s4 _ H4 _ I4p (fpo' fr4) st4 stop) fun r s5 ⟨hr,I5⟩=>?_
   subst hr
   obtain ⟨p5,n5⟩:=pinD I5
   obtain ⟨m5,ns5,_⟩:=I5.loc
   refine hRR _ _ s5 m5 ns5 hDC (Nat.le_refl _) hCle _ ?_ (fun h' hs'=>ug I2 f2 hCle (Nat.le_refl _) hDC (unp I5) n5 p5 v4 hz hs') (qn _ n5)
   rw [aQ hDC.symm]
   exact I5.free
  ·refine cf (T.item (dj X scope (vars++caps.map (·.2)) HP.objs.size s2 H2 fp) rfl rfl rfl hc i _ s4 _ H4 _ I4p (fpo' fr4) st4 go) fun r s5 ⟨u,hr,h5⟩=>?_
   subst hr
   refine cf h5 fun _ s6 ⟨x,H6,I6,rx,yx,st6,fr6⟩=>?_
   have I6p:=I6.pinned (fpo' fr6) (T.obj _ _ st6)
   refine cf (hg _ _ _ _ _ s6 _ H6 x u _ I6p rx (step x H6 yx)) fun _ s7 ⟨σ7,H7,I7,kp,q7⟩=>?_
   refine cf (he _ _ _ _ _ s7 σ7 H7 _ I7 q7) fun v s8 ⟨y,H8,I8,ry,m',hm,w8⟩=>?_
   obtain ⟨p8,n8⟩:=pinD I8.unpinned
   have st8:tn (i+1) s8.heap:=T.keep _ _ _ st6 fun b hb o e=>(I8.pin (b,o) (List.mem_append_right _ (List.mem_append_right _ (cJ hb e)))).1
   have fr8:∀ b∈fp,H8 b=none:=fun b hb=>by
    obtain ⟨o,e,d⟩:=T.obj _ _ st6 b hb
    exact (I8.pin (b,o) (List.mem_append_right _ (List.mem_append_right _ (cJ hb e)))).2.1
   have hl:=v4.length
   refine wpAny_list_append_plain p8 (fun h9 p9 sb9=>⟨m',hm,i+1,ys++[y],H8,its++[v],?_,?_,fr8,by simpa using p9,n8,v4.append (.cons ry .nil),w8⟩) (by simp; omega)
   ·have I9:Inv (dj X scope (vars++caps.map (·.2)) HP.objs.size s2 H2 fp) [] σ7 H8 { s8 with heap:=h9,toks:=s8.toks }:=
     (unp I8).turned (it:=s2.heap.objs.size) (fun b o hb e=>sb9.extBut b o hb e) n8 DnL (.inr (Nat.le_refl _)) DnC fun p hp=>absurd (show p∈([]:List (Addr×Obj)) from hp) (by simp)
    exact I9.weak kp.1 kp.2
   ·exact T.keep _ _ _ st8 fun b hb o e=>sb9.extBut b o (Dfp b hb).symm e
 exact codeAny_compStart_list (loop _ rfl) (T.self _ 0 _ _ _ st1 (loop _ rfl))
theorem zk (B:BlkOk X.env.scope.names X.N scope vars caps) (hc:X.calm=true) (hi:PI X tg iter wi)
  (hg:∀ C s₀ H₀ ex,PG (dj X scope (vars++caps.map (·.2)) C s₀ H₀ ex) tg g) (he:∀ C s₀ H₀ ex,PE (dj X scope (vars++caps.map (·.2)) C s₀ H₀ ex) elt te) (hs:∀ x,foldedSetIterable iter X.env x=pure x:=by intro _; rfl) :
  PE X (.ListComp elt [⟨tg,iter,[],0⟩] scope pos) (vF wi g te vars caps):=by
 intro pins s σ H Q I h
 rw [eval_ListComp]
 refine wpAny_comprehension_free (use:=none) rfl hs (d4 (B.cells I)) B.kind B.names ?_
 show wpAny _ _ (eval iter X.env) _ _ s
 refine cf (hi pins s σ H _ I h) fun v s1 h1=>cf h1 fun itv s2 h2=>?_
 obtain ⟨it,fp,tn,J,H2,e,I2,T,st2,f2,W,⟨m0,w0⟩,turn⟩:=h2
 subst e
 exact mD B hc hg he I2 T st2 f2 w0 turn (RR:=fun acc C=>compPost (model X.prog X.w) X.A X.xe none (EP X pins σ Q) acc C) fun D C s' m ns _ _ _ H' _ k q=>⟨m,ns,fun h' hs'=>⟨.ref D,H',k h' hs',rfl,q⟩⟩
theorem za {i:Nat} {y:Str} {py spos:Pos} (B:BlkOk X.env.scope.names X.N scope vars caps) (hc:X.calm=true) (hi:PI X tg iter wi)
  (hg:∀ C s₀ H₀ ex,PG (dj X scope (vars++caps.map (·.2)) C s₀ H₀ ex) tg g) (he:∀ C s₀ H₀ ex,PE (dj X scope (vars++caps.map (·.2)) C s₀ H₀ ex) elt te)
  (hN:X.N.Nodup) (hy:X.N[i]? = some y) (hx:xT X.env.scope y) (hsw:swapsWith (.ListComp elt [⟨tg,iter,[],0⟩] scope pos) (some (.Name y py)) spos.line X.env=pure true)
  (hf:X.fn y=true\/X.env.scope.names.lookup y=some .local) (hs:∀ x,foldedSetIterable iter X.env x=pure x:=by intro _; rfl) :
  PS X (.Assign [.Name y py] (.ListComp elt [⟨tg,iter,[],0⟩] scope pos) spos) (fun D σ H=>vF wi g te vars caps σ H fun v H1=>D.nx (σ.set i (some v)) H1):=by
 intro pins s σ H DE I h
 rw [exec_Assign_Name_used _ _ _ _ hsw]
 refine wpAny_bind (wpAny_standAt (wpAny_bind ?_))
 show wpAny _ X.A (do let _ <- comprehension (.ListComp elt [⟨tg,iter,[],0⟩] scope pos) scope X.env _ (newList []) false (eval iter X.env) (some (assign (.Name y py) X.env))) _ _ s
 refine wpAny_bind (wpAny_mono (wpAny_comprehension_free (use:=some (assign (.Name y py) X.env)) (Q:=fun _ s'=>SP X pins DE .next s') rfl hs (d4 (B.cells I)) B.kind B.names
  (cf (hi pins s σ H _ I h) fun v s1 h1=>cf h1 fun itv s2 h2=>?_)) (fun _ s' hq=>wpAny_pure (wpAny_pure hq)) fun _ _ e=>e)
 obtain ⟨it,fp,tn,J,H2,e,I2,T,st2,f2,W,⟨m0,w0⟩,turn⟩:=h2
 subst e
 refine mD (Q:=fun v H1=>DE.nx (σ.set i (some v)) H1) B hc hg he I2 T st2 f2 w0 turn (RR:=fun acc C=>compPost (model X.prog X.w) X.A X.xe (some (assign (.Name y py) X.env)) (fun _ s'=>SP X pins DE .next s') acc C) ?_
 intro D C s' m ns hDC hD hC H' hHC k q
 obtain ⟨oC,es,ep,eC,dC,rC⟩:=ns
 have I':Inv X pins σ H' s':=k s'.heap (Heap.SameBut.refl ..)
 have nL:C≠X.env.locals:=fun z=>by have:=I2.lt; rw [<- z] at this; exact absurd (Nat.lt_of_lt_of_le this hC) (Nat.lt_irrefl _)
 have nF:C ∉ X.fs:=I2.nofs hC
 have nCell:∀ x c,X.env.cells.lookup x=some c->c≠C:=fun x c e z=>by
  obtain ⟨v,o,ho,_⟩:=I2.cell x c e
  have:=Heap.lt_size ho
  rw [z] at this
  exact absurd (Nat.lt_of_lt_of_le this hC) (Nat.lt_irrefl _)
 have nPin:∀ p∈X.pn++pins,p.1≠C:=fun p hp z=>by
  have:=Heap.lt_size (I2.pin p hp).1
  rw [z] at this
  exact absurd (Nat.lt_of_lt_of_le this hC) (Nat.lt_irrefl _)
 have Ip:Inv X (pins++[(C,oC)]) σ H' s':=I'.pins_of fun p hp=>by
  rcases List.mem_append.mp hp with z | z
  ·exact I'.pin p (List.mem_append_right _ z)
  ·have e:p=(C,oC):=by simpa using z
   subst e
   exact ⟨eC,hHC,nL,nF,fun v z=>by rw [dC] at z; cases z⟩
 refine cf (cu (pos:=py) hN hy hx hf _ s' σ H' (.ref D) (.ref D) (fun σ' H''=>σ' = σ.set i (some (.ref D))/\H''=H'/\DE.nx σ' H'') Ip rfl ⟨rfl,rfl,q⟩) fun _ s'' ⟨σ'',H'',I'',e1,e2,q''⟩=>?_
 subst e1 e2
 have eC'':s''.heap.get? C=some oC:=(I''.pin (C,oC) (List.mem_append_right _ (List.mem_append_right _ (by simp)))).1
 refine ⟨m,⟨oC,es,ep,eC'',dC,rC⟩,fun h' hs'=>⟨_,H'',?_,q''⟩⟩
 exact I''.unpinned.turned (t':=s''.toks) (it:=C) (fun b o hb e=>hs'.extBut b o hb e) hHC nL (.inr (Nat.le_trans I2.sz hC)) nCell nPin
end
noncomputable def DP:Option Sl->Sl
 | some (.fz d)=>.fz d
 | _=>.un
@[simp] theorem GO (d:D):DP (some (.fz d))=.fz d:=rfl
noncomputable def dN (δ:Dv) (caps:List (Nat×Str)):Dv:=caps.map fun p=>DP δ[p.1]?
noncomputable def uQ (f:D->Option D):List D->Option (List D)
 | []=>some []
 | d::ds=>(f d).bind fun e=>(uQ f ds).bind fun es=>some (e::es)
noncomputable def hJ (fi:Dv->Option (List D)) (caps:List (Nat×Str)) (bv:D->Option (List D)) (fe:Dv->Option D):Dv->Option D:=fun δ=>(fi δ).bind fun ds=>if ds.length<=sizeLine then (uQ (fun d=>(bv d).bind fun vs=>fe (vs.map .fz++dN δ caps)) ds).bind fun es=>some (.list es) else none
noncomputable def sM:D->Option (List D):=fun d=>some [d]
theorem kC {f:D->Option D}:∀ {ds es:List D},uQ f ds=some es->es.length=ds.length
 | [],es,h=>by cases h; rfl
 | d::ds,es,h=>by
  obtain ⟨e,_,h⟩:=bind_some h
  obtain ⟨es',h2,h⟩:=bind_some h
  cases h
  exact congrArg (· + 1) (kC h2)
theorem qx {f:D->Option D}:∀ {ds es:List D} {i:Nat} {d:D},uQ f ds=some es->ds[i]? = some d->∃ e,f d=some e/\es[i]? = some e
 | [],es,i,d,h,q=>by simp at q
 | d::ds,es,i,d',h,q=>by
  obtain ⟨e,h1,h⟩:=bind_some h
  obtain ⟨es',h2,h⟩:=bind_some h
  cases h
  cases i with
  | zero=>simp at q; subst q; exact ⟨e,h1,rfl⟩
  | succ i=>simp at q; obtain ⟨e',g1,g2⟩:=qx (i:=i) h2 q; exact ⟨e',g1,by simpa using g2⟩
def sR (K:Fg) (g:TG) (n:Nat) (bv:D->Option (List D)):Prop:=∀ (x:V) (Z:Hp) (d:D) (vs:List D) (σc:St) (H:Hp) (R:St->Hp->Prop),Rep K Z x d->Same Z H->bv d=some vs->(∀ us,Reps K Z us vs->us.length=n->R (us.map some ++ σc) H)->g x (List.replicate n none ++ σc) H R
theorem eF {K:Fg}:sR K (xp 0) 1 sM:=fun x Z d vs σc H R r zh e k=>by
 cases e
 exact k [x] (.cons r .nil) rfl
section
variable {X:Cx} {scope:Scope} {vars:List Str} {caps:List (Nat×Str)} {elt tg iter:Expr} {pos:Pos} {g:TG} {fi:Dv->Option (List D)} {fe:Dv->Option D} {bv:D->Option (List D)}
theorem xJ {σ:St} {δ:Dv} {K:Fg} {H₀ Z₀ Z H:Hp} (hh:Hold K H₀ Z₀ Z δ σ H):∀ (j:Nat) d,(dN δ caps)[j]? = some (.fz d)->∃ v,(gi σ caps)[j]? = some (some v)/\Rep K Z v d:=fun j d e=>by
 unfold dN at e
 unfold gi
 rw [List.getElem?_map] at e ⊢
 cases q:caps[j]? with
 | none=>rw [q] at e; cases e
 | some p=>
  rw [q] at e
  have e:DP δ[p.1]? = .fz d:=Option.some.inj e
  cases z:δ[p.1]? with
  | none=>rw [z] at e; cases e
  | some sl=>
   rw [z] at e
   cases sl with
   | fz d'=>
    cases e
    obtain ⟨v,g1,g2⟩:=hh.fz p.1 _ z
    exact ⟨v,by show some ((σ[p.1]?).getD none)=_; rw [g1]; rfl,g2⟩
   | un=>cases e
   | own _=>cases e
   | fr _=>cases e
theorem AD {δ:Dv}:∀ (j:Nat) ds,(dN δ caps)[j]? ≠ some (.own ds):=fun j ds e=>by
 unfold dN at e
 rw [List.getElem?_map] at e
 cases q:caps[j]? with
 | none=>rw [q] at e; cases e
 | some p=>
  rw [q] at e
  have e:DP δ[p.1]? = .own ds:=Option.some.inj e
  cases z:δ[p.1]? with
  | none=>rw [z] at e; cases e
  | some sl=>rw [z] at e; cases sl <;> cases e
theorem AE {δ:Dv}:∀ (j:Nat) ds,(dN δ caps)[j]? ≠ some (.fr ds):=fun j ds e=>by
 unfold dN at e
 rw [List.getElem?_map] at e
 cases q:caps[j]? with
 | none=>rw [q] at e; cases e
 | some p=>
  rw [q] at e
  have e:DP δ[p.1]? = .fr ds:=Option.some.inj e
  cases z:δ[p.1]? with
  | none=>rw [z] at e; cases e
  | some sl=>rw [z] at e; cases sl <;> cases e
theorem rf {σ:St} {δ:Dv} {K:Fg} {H₀ Z₀ Z H:Hp} (hh:Hold K H₀ Z₀ Z δ σ H) {us:List V} {vs:List D} (r:Reps K Z us vs):Hold K H Z Z (vs.map .fz++dN δ caps) (us.map some++gi σ caps) H:=by
 have hl:=r.length
 refine ⟨hh.zh,Same.refl _,Same.refl _,fun _ _=>rfl,by simp [dN,gi,hl],fun i d e=>?_,fun i ds e=>?_,fun i j ds es a _ e=>?_,fun i ds e=>?_,NoF.refl _⟩
 ·by_cases hi:i<vs.length
  ·rw [List.getElem?_append_left (by simpa using hi),List.getElem?_map] at e
   cases q:vs[i]? with
   | none=>rw [q] at e; cases e
   | some d'=>
    rw [q] at e
    cases e
    obtain ⟨v,g1,g2⟩:=r.get q
    exact ⟨v,by rw [List.getElem?_append_left (by simpa [hl] using hi),List.getElem?_map,g1]; rfl,g2⟩
  ·rw [List.getElem?_append_right (by simpa using hi)] at e
   obtain ⟨v,g1,g2⟩:=xJ hh _ d e
   refine ⟨v,?_,g2⟩
   rw [List.getElem?_append_right (by simpa [hl] using hi)]
   simp only [List.length_map] at g1 ⊢
   rw [hl]; exact g1
 all_goals
  exfalso
  by_cases hi:i<vs.length
  ·rw [List.getElem?_append_left (by simpa using hi),List.getElem?_map] at e
   cases q:vs[i]? <;> rw [q] at e <;> cases e
  ·rw [List.getElem?_append_right (by simpa using hi)] at e
   first | exact AD _ _ e | exact AE _ _ e
theorem nR (tk:sR X.K g vars.length bv) {σ:St} {H:Hp} {Q:VK} (h:tV X.K (hJ fi caps bv fe) σ H Q):vF (Gw X.K fi) g (tV X.K fe) vars caps σ H Q:=by
 obtain ⟨H₀,Z₀,Z,δ,d,hh,e,k⟩:=h
 obtain ⟨ds,e1,e⟩:=bind_some e
 by_cases hz:ds.length<=sizeLine
 ·rw [if_pos hz] at e
  obtain ⟨es,e2,e⟩:=bind_some e
  cases e
  have le:=kC e2
  have hv:vars.map (fun _=>(none:Option V))=List.replicate vars.length none:=by rw [List.map_const']
  refine ⟨H₀,Z₀,Z,δ,ds,hh,e1,fun J Z1 H1 hh1 t1 ok=>?_⟩
  refine ⟨fun i m ys H=>m=ds.length-i/\i<=ds.length/\∃ Zc,Hold X.K H₀ Z₀ Zc δ σ H/\Same Z1 Zc/\Reps X.K Zc ys (es.take i),⟨ds.length,by simp,Nat.zero_le _,Z1,hh1,Same.refl _,by simpa using .nil⟩,?_⟩
  rintro i m ys H2 ⟨rfl,hi2,Zc,hhc,tc,rc⟩
  have zh:Same Z1 H2:=tc.trans hhc.zh
  have ly:=rc.length
  rw [List.length_take] at ly
  by_cases hlt:i<ds.length
  ·refine .inr ⟨ok.go i H2 zh hlt,by omega,fun x H3 y=>?_⟩
   have ed:ds[i]? = some ds[i]:=by simp [hlt]
   obtain ⟨rfl,rx⟩:=ok.yld i H2 x H3 _ zh ed y
   obtain ⟨ei,f1,f2⟩:=qx e2 ed
   obtain ⟨vs,f3,f1⟩:=bind_some f1
   rw [hv]
   refine tk x Zc ds[i] vs (gi σ caps) H3 _ (rx.same tc) hhc.zh f3 fun us ru hn=>⟨⟨by simp [hn],fun j v q=>?_⟩,?_⟩
   ·by_cases hj:j<vars.length
    ·rw [List.getElem?_append_left (by simpa using hj),List.getElem?_replicate] at q
     split at q <;> cases q
    ·rw [List.getElem?_append_right (by simpa using hj)] at q
     rw [List.getElem?_append_right (by simpa [hn] using hj)]
     simpa [hn] using q
   ·refine ⟨H3,Zc,Zc,_,ei,rf hhc ru,f1,fun v Z4 H4 h4 t4 r4=>⟨ds.length-(i+1),by omega,rfl,hlt,Z4,hhc.new ⟨t4,h4.h0,h4.zh,h4.zb,h4.nf⟩,tc.trans t4,?_⟩⟩
    have:es.take (i+1)=es.take i++[ei]:=by
     rw [List.take_add_one,f2]; rfl
    rw [this]
    exact (rc.same t4).append (.cons r4 .nil)
  ·have hie:i=ds.length:=by omega
   subst hie
   refine .inl ⟨ok.stop _ H2 zh (Nat.le_refl _),by omega,fun p hp=>?_⟩
   rw [<- le,List.take_length] at rc
   have n:=New.add hhc.zh hp (.lst ys)
   exact k _ _ _ (hhc.new n) ((t1.trans tc).trans n.z) (.lst (SqL.of aL) (rc.same n.z))
 ·rw [if_neg hz] at e; cases e
theorem jD (B:BlkOk X.env.scope.names X.N scope vars caps) (hc:X.calm=true) (hi:IV X tg iter fi) (tk:sR X.K g vars.length bv)
  (hg:∀ C s₀ H₀ ex,PG (dj X scope (vars++caps.map (·.2)) C s₀ H₀ ex) tg g) (he:∀ C s₀ H₀ ex,EV (dj X scope (vars++caps.map (·.2)) C s₀ H₀ ex) elt fe) (hs:∀ x,foldedSetIterable iter X.env x=pure x:=by intro _; rfl) :
  EV X (.ListComp elt [⟨tg,iter,[],0⟩] scope pos) (hJ fi caps bv fe):=
 PE.imp (zk (te:=tV X.K fe) B hc hi hg he hs) fun _ _ _ h=>nR tk h
theorem yF (i:Nat) {y:Str} {py spos:Pos} (hN:X.N.Nodup) (B:BlkOk X.env.scope.names X.N scope vars caps) (hc:X.calm=true) (hi:IV X tg iter fi) (tk:sR X.K g vars.length bv)
  (hg:∀ C s₀ H₀ ex,PG (dj X scope (vars++caps.map (·.2)) C s₀ H₀ ex) tg g) (he:∀ C s₀ H₀ ex,EV (dj X scope (vars++caps.map (·.2)) C s₀ H₀ ex) elt fe)
  (hy:X.N[i]? = some y:=by rfl) (hx:xT X.env.scope y:=by first | exact Or.inl rfl | exact Or.inr rfl) (hsw:swapsWith (.ListComp elt [⟨tg,iter,[],0⟩] scope pos) (some (.Name y py)) spos.line X.env=pure true:=by rfl)
  (hf:X.fn y=true\/X.env.scope.names.lookup y=some .local:=by first | exact .inl rfl | exact .inr rfl | assumption) (hs:∀ x,foldedSetIterable iter X.env x=pure x:=by intro _; rfl) :
  SV X (.Assign [.Name y py] (.ListComp elt [⟨tg,iter,[],0⟩] scope pos) spos) (bS i (hJ fi caps bv fe)):=
 PS.imp (za (te:=tV X.K fe) B hc hi hg he hN hy hx hsw hf hs) fun D σ H h=>by
  obtain ⟨H₀,Z₀,Z,δ,r,hh,e,k⟩:=h
  obtain ⟨x,e1,e⟩:=bind_some e
  cases e
  exact nR tk ⟨H₀,Z₀,Z,δ,x,hh,e1,fun v Z1 H1 hh1 s1 r1=>k _ H1 Z1 (hh1.set r1) s1⟩
end
end VL
namespace VL
open PySem PySem.Spec PyProof.Rows L2
section
variable {X:Cx} {e:Expr} {es:List Expr} {p pos:Pos} {fs:Dv->Option (List D)}
theorem aD {k:Nat} {x:Str} {g:List D->Option D} (C:Cal X.prog X.w X.K X.mg X.base x k g []) (hr:Room k X.A) (hg:Gl X x) (ha:AV X (e::es) fs) (hdb:(x==("__debug__":Str))=false:=by decide) (he:starEach (e::es) X.env=(false,eval e X.env)::starEach es X.env:=by rfl)
  (hpl:(backTo pos (starEach es X.env)).any (·.1)=false:=by rfl):EV X (.Call (.Name x p) (e::es) [] pos) (os fs g):=by
 have h:=xv C hr hg ha hdb he hpl (p:=p) (pos:=pos)
 have e:(fun as=>g (as++[]))=g:=by funext as; rw [List.append_nil]
 rw [e] at h
 exact h
end
noncomputable def xU:Option Sl->Option (List D)
 | some (.own (.l ds))=>some ds
 | _=>none
@[simp] theorem GL (ds:List D):xU (some (.ow ds))=some ds:=rfl
theorem rR {o:Option Sl} {ds:List D} (h:xU o=some ds):o=some (.ow ds):=by
 cases o with
 | none=>cases h
 | some x=>
  cases x with
  | own c=>
   cases c with
   | l es=>cases h; rfl
   | d es=>cases h
  | un=>cases h
  | fz d=>cases h
  | fr _=>cases h
@[simp] noncomputable def uE (i:Nat) (fs:Dv->Option (List D)):Sf:=fun δ=>(fs δ).bind fun ds=>if ds.length<=sizeLine then some (.nx,δ.set i (.ow ds)) else none
@[simp] noncomputable def B1 (i:Nat) (f:Dv->Option D):Dv->Option D:=fun δ=>(xU δ[i]?).bind fun ds=>(f δ).bind fun k=>aC (.list ds) k
@[simp] noncomputable def wz (i:Nat):Dv->Option D:=fun δ=>(xU δ[i]?).bind fun ds=>some (.int ds.length)
noncomputable def DZ (ds:List D) (k v:D):Option (List D):=match k with
 | .int j=>(Bd ds.length j).map fun n=>ds.set n v
 | _=>none
@[simp] theorem DY (ds:List D) (j:Int) (v:D):DZ ds (.int j) v=(Bd ds.length j).map fun n=>ds.set n v:=rfl
@[simp] noncomputable def Jq (i:Nat) (fk fv:Dv->Option D):Sf:=fun δ=>(fv δ).bind fun v=>(fk δ).bind fun k=>(xU δ[i]?).bind fun ds=>(DZ ds k v).bind fun ds'=>some (.nx,δ.set i (.ow ds'))
@[simp] noncomputable def pY (i:Nat) (f:Dv->Option D):Sf:=fun δ=>(f δ).bind fun v=>(xU δ[i]?).bind fun ds=>if ds.length<sizeLine then some (.nx,δ.set i (.ow (ds++[v]))) else none
section
variable {X:Cx} {e b:Expr} {es:List Expr} {p pos tpos apos:Pos} {fs:Dv->Option (List D)} {f fk fv:Dv->Option D}
theorem lI (i:Nat) {x:Str} {pos':Pos} (hN:X.N.Nodup) (ha:AV X es fs) (hi:X.N[i]? = some x:=by rfl) (hx:xT X.env.scope x:=by first | exact Or.inl rfl | exact Or.inr rfl) (hs:swapsWith (.List es p) (some (.Name x pos')) pos.line X.env=pure false:=by rfl)
  (hf:X.fn x=true\/X.env.scope.names.lookup x=some .local:=by first | exact .inl rfl | exact .inr rfl | assumption):SV X (.Assign [.Name x pos'] (.List es p) pos) (uE i fs):=
 PS.imp (v7 hN hi hx (wg ha) hs hf) fun D σ H h=>by
  obtain ⟨H₀,Z₀,Z,δ,r,hh,e,k⟩:=h
  obtain ⟨ds,e1,e⟩:=bind_some e
  by_cases hl:ds.length<=sizeLine
  ·rw [if_pos hl] at e
   cases e
   exact ⟨H₀,Z₀,Z,δ,ds,hh,e1,fun vs Z1 H1 hh1 t1 r1=>⟨by rw [r1.length]; exact hl,fun p hp=>k _ _ Z1 (hh1.setO hp r1) t1⟩⟩
  ·rw [if_neg hl] at e; cases e
theorem lQ {K:Fg} {H₀ Z₀ Z:Hp} {δ:Dv} {σ:St} {H:Hp} (hh:Hold K H₀ Z₀ Z δ σ H) {i:Nat} {ds:List D} (h:xU δ[i]? = some ds):∃ a xs,σ[i]? = some (some (V.ref a))/\H a=some (.lst xs)/\Reps K Z xs ds:=by
 obtain ⟨a,xs,h1,_,_,h4,h5⟩:=hh.ow i ds (rR h)
 exact ⟨a,xs,h1,h4,h5⟩
theorem CH (i:Nat) {x:Str} (hb:EV X b f) (hs:ls b) (hN:X.N[i]? = some x:=by rfl) (hv:AM X.env.scope x:=by first | exact Or.inl rfl | exact Or.inr (Or.inl rfl) | exact Or.inr (Or.inr rfl)) (hd:(x==("__debug__":Str))=false:=by decide) (hcd:(x==("__classdict__":Str))=false:=by decide) :
  EV X (.Subscript (.Name x p) b pos) (B1 i f):=
 PE.imp (wj ix_list (iR hN hv hd hcd) hb hs) fun σ H Q h=>by
  obtain ⟨H₀,Z₀,Z,δ,d,hh,e,k⟩:=h
  obtain ⟨ds,e1,e⟩:=bind_some e
  obtain ⟨y,e2,e⟩:=bind_some e
  obtain ⟨a,xs,h1,h4,h5⟩:=lQ hh e1
  refine ⟨_,h1,H₀,Z₀,Z,δ,y,hh,e2,fun v Z1 H1 hh1 t1 r1=>?_⟩
  obtain ⟨a',xs',g1,g4,g5⟩:=lQ hh1 e1
  rw [h1] at g1
  cases g1
  cases r1 with
  | int j=>
   obtain ⟨w,ew,rw'⟩:=g5.at e
   exact ⟨_,_,_,w,rfl,rfl,SqL.of g4,ew,k w Z1 H1 hh1 t1 rw'⟩
  | _=>cases e
theorem Aq (i:Nat) {x:Str} {p2:Pos} (hg:Gl X "len") (hm:X.mg "len" = none) (hN:X.N[i]? = some x:=by rfl) (hv:AM X.env.scope x:=by first | exact Or.inl rfl | exact Or.inr (Or.inl rfl) | exact Or.inr (Or.inr rfl)) (hd:(x==("__debug__":Str))=false:=by decide) (hcd:(x==("__classdict__":Str))=false:=by decide)
  (he:starEach [.Name x p2] X.env=(false,eval (.Name x p2) X.env)::starEach [] X.env:=by rfl) (hpl:(backTo pos (starEach [] X.env)).any (·.1)=false:=by rfl):EV X (.Call (.Name "len" p) [.Name x p2] [] pos) (wz i):=
 PE.imp (lO q8 hg hm PySem.boot_len (fR (iR hN hv hd hcd) iS he) (by decide) (by decide) he hpl) fun σ H Q h=>by
  obtain ⟨H₀,Z₀,Z,δ,d,hh,e,k⟩:=h
  obtain ⟨ds,e1,e⟩:=bind_some e
  cases e
  obtain ⟨a,xs,h1,h4,h5⟩:=lQ hh e1
  exact ⟨_,h1,_,_,rfl,.inl ⟨xs,SqL.of h4,rfl⟩,k _ Z H hh (Same.refl _) (by rw [h5.length]; exact .int _)⟩
theorem j0 (i:Nat) {x:Str} {cpos:Pos} (hv':EV X e f) (hN:X.N[i]? = some x:=by rfl) (hv:AM X.env.scope x:=by first | exact Or.inl rfl | exact Or.inr (Or.inl rfl) | exact Or.inr (Or.inr rfl)) (hd:(x==("__debug__":Str))=false:=by decide) (hcd:(x==("__classdict__":Str))=false:=by decide)
  (hbase:attributeBase (.Name x p) "append" X.env (eval (.Name x p) X.env)=eval (.Name x p) X.env:=by rfl)
  (hfew:((backTo cpos (starEach [e] X.env)).all (fun x=>!x.1)&&(backToKw cpos (keywordEach [] X.env)).all (fun x=>x.1.isSome)
   && decide ([e].length+([]:List Keyword).length+(if ([]:List Keyword).isEmpty then 0 else 1)<30))=true:=by rfl)
  (hline:(apos.endLine==cpos.line)=true:=by rfl) (hs:starEach [e] X.env=(false,eval e X.env)::starEach [] X.env:=by rfl) (hplain:(backTo cpos (starEach [] X.env)).any (·.1)=false:=by rfl)
  (hsw:swapsWith (.Call (.Attribute (.Name x p) "append" apos) [e] [] cpos) none pos.line X.env=pure false:=by rfl):SV X (.Expr (.Call (.Attribute (.Name x p) "append" apos) [e] [] cpos) pos) (pY i f):=
 PS.imp (oz (wp PySem.F.plainAttrs_list PySem.F.slot_list_append PySem.F.type_list_append ny (iR hN hv hd hcd) (fR hv' iS hs) hbase hfew hline hs hplain) hsw) fun D σ H h=>by
  obtain ⟨H₀,Z₀,Z,δ,r,hh,e,k⟩:=h
  obtain ⟨v,e1,e⟩:=bind_some e
  obtain ⟨ds,e2,e⟩:=bind_some e
  by_cases hl:ds.length<sizeLine
  ·rw [if_pos hl] at e
   cases e
   obtain ⟨a,xs,h1,h4,h5⟩:=lQ hh e2
   refine ⟨_,h1,.inl ⟨rfl,xs,SqL.of h4⟩,H₀,Z₀,Z,δ,v,hh,e1,fun w Z1 H1 hh1 t1 r1=>?_⟩
   obtain ⟨a',xs',g1,g4,g5⟩:=lQ hh1 e2
   rw [h1] at g1
   cases g1
   exact ⟨a,xs',w,rfl,rfl,g4,by rw [g5.length]; exact hl,k σ _ Z1 (hh1.chg (xs:=xs') (rR e2) h1 (g5.append (.cons r1 .nil))) t1⟩
  ·rw [if_neg hl] at e; cases e
end
end VL
namespace VL
open PySem PySem.Spec PyProof.Rows L2
section
def rO (wi:TI) (g:TG) (tt:TT) (te:TE) (vars:List Str) (caps:List (Nat×Str)):TE:=fun σ H Q=>wi σ H fun J H1=>∃ W:Nat->Nat->List V->Hp->Prop,(∃ m,W 0 m [] H1)/\∀ i m ys H,W i m ys H ->
 (J.stop i H/\ys.length<=sizeLine/\∀ p,H p=none->Q (.ref p) (upd H p (.lst ys))) \/
 (J.go i H/\ys.length<sizeLine/\∀ x H',J.yld i H x H'->g x (vars.map (fun _=>none)++gi σ caps) H' fun σ2 H2=>uo (vars.map (fun _=>none)++gi σ caps) σ2/\tt σ2 H2 fun b H3=>if b=true then te σ2 H3 fun y H4=>∃ m',m'<m/\W (i+1) m' (ys++[y]) H4 else ∃ m',m'<m/\W (i+1) m' ys H3)
theorem kj {prog:Program} {w:World} {A:Around} {R:Result->Shared->Prop} {s:Shared} {elt target iter cnd:Expr} {scope:Scope} {pos:Pos} {it acc:Value} {env:Env} (I:Nat->Shared->Prop)
  (turn:∀ n s,I n s->wpAny (model prog w) A (pyNext it) (fun r s₁=>match r with
   | none=>R (.ok .next) s₁
   | some v=>wpAny (model prog w) A (letOwnedTupleGo target it v) (fun _ s₁=>wpAny (model prog w) A (assign target env v) (fun _ s₂=>wpAny (model prog w) A (isTrue cnd env (eval cnd env)) (fun ok s₂=>if ok=true then wpAny (model prog w) A (eval elt env) (fun x s₃=>
     wpAny (model prog w) A (call (.builtin "list.append") [acc,x]) (fun _ s₄=>∃ m,m<n/\I m s₄) (fun _ _=>False) s₃) (fun _ _=>False) s₂ else ∃ m,m<n/\I m s₂) (fun _ _=>False) s₂) (fun _ _=>False) s₁) (fun _ _=>False) s₁) (fun _ _=>False) s)
  (n:Nat) (h:I n s):codeAny (model prog w) A (.compLoop (.ListComp elt [⟨target,iter,[cnd],0⟩] scope pos) 0 it acc env) R s:=by
 refine codeAny_loop rfl I (fun n s hI=>?_) n h
 show wpAny _ _ ((compTurn (.ListComp elt [⟨target,iter,[cnd],0⟩] scope pos) 0 it acc env).onRaise (fun x=>do noteFrame x env; theTreesLotGoes x)) _ _ s
 refine wpAny_noted ?_
 rw [compTurn_list]
 refine wpAny_bind (wpAny_standAt (wpAny_bind (wpAny_mono (turn n s hI) (fun r s₁ h₁=>?_) fun _ _ h'=>h'.elim)))
 cases r with
 | none=>exact wpAny_pure h₁
 | some v=>
  refine wpAny_bind (wpAny_mono h₁ (fun _ s₁ h₁=>?_) fun _ _ h'=>h'.elim)
  refine wpAny_bind (wpAny_mono h₁ (fun _ s₂ h₂=>?_) fun _ _ h'=>h'.elim)
  refine wpAny_bind (wpAny_tests_one (wpAny_mono h₂ (fun okb s₃ h₃=>?_) fun _ _ h'=>h'.elim))
  cases okb with
  | false=>exact wpAny_pure ⟨rfl,h₃⟩
  | true=>exact wpAny_bind (wpAny_bind (wpAny_mono h₃ (fun x s₄ h₄=>wpAny_bind (wpAny_mono h₄ (fun _ s₅ h₅=>wpAny_pure (wpAny_pure ⟨rfl,h₅⟩)) fun _ _ h'=>h'.elim)) fun _ _ h'=>h'.elim))
end
section
variable {X:Cx} {scope:Scope} {vars:List Str} {caps:List (Nat×Str)} {elt tg iter cnd:Expr} {pos:Pos} {wi:TI} {g:TG} {tt:TT} {te:TE}
theorem kF {Cm:Cx->Prop} (B:BlkOk X.env.scope.names X.N scope vars caps)
  (hg:∀ C s₀ H₀ ex,PG (dj X scope (vars++caps.map (·.2)) C s₀ H₀ ex) tg g) (hb:∀ C s₀ H₀ ex,PT (dj X scope (vars++caps.map (·.2)) C s₀ H₀ ex) cnd tt) (he:∀ C s₀ H₀ ex,PE (dj X scope (vars++caps.map (·.2)) C s₀ H₀ ex) elt te)
  {pins:List (Addr×Obj)} {σ:St} {H2:Hp} {s2:Shared} {Q:VK} {it:Addr} {fp:List Addr} {tn:Nat->Heap->Prop} {J:It} (I2:Inv X pins σ H2 s2) (T:TurnG Cm X.prog X.w X.K tg J fp it tn) (st2:tn 0 s2.heap) (f2:∀ b∈fp,i7 X pins H2 b) (hc:∀ C,Cm (dj X scope (vars++caps.map (·.2)) C s2 H2 fp))
  {W:Nat->Nat->List V->Hp->Prop} {m0:Nat} (w0:W 0 m0 [] H2) (turn:∀ i m ys H,W i m ys H ->
   (J.stop i H/\ys.length<=sizeLine/\∀ p,H p=none->Q (.ref p) (upd H p (.lst ys))) \/
   (J.go i H/\ys.length<sizeLine/\∀ x H',J.yld i H x H'->g x (vars.map (fun _=>none)++gi σ caps) H' fun σ2 H2=>uo (vars.map (fun _=>none)++gi σ caps) σ2/\tt σ2 H2 fun b H3=>if b=true then te σ2 H3 fun y H4=>∃ m',m'<m/\W (i+1) m' (ys++[y]) H4 else ∃ m',m'<m/\W (i+1) m' ys H3))
  {RR:Value->Addr->Result->Shared->Prop} {E:Value->Shared->Prop}
  (hRR:∀ D C s' m,s'.heap.Ns C m->D≠C->s2.heap.objs.size<=D->s2.heap.objs.size<=C->∀ H',H' C=none->(∀ h',Heap.SameBut C s'.heap h'->Inv X pins σ H' { s' with heap:=h' })->Q (.ref D) H'->RR (.ref D) C (.ok .next) s') :
  wpAny (model X.prog X.w) X.A (newList []) (fun acc s₃=>wpAny (model X.prog X.w) X.A (newFunctionEnv scope X.env.globals (iZ X.env scope.names []) [] X.env.qual none .none (some X.env)) (fun cenv s₄=>
   codeAny (model X.prog X.w) X.A (.compStart (.ListComp elt [⟨tg,iter,[cnd],0⟩] scope pos) 0 (.ref it) acc { cenv with scope:=relabel scope X.env }) (RR acc cenv.locals) s₄) E s₃) E s2:=by
 refine wpAny_newObj_type (wpAny_newFunctionEnv B.cell (by intro y hy; simp at hy) (fun h₁ hns₁ hsb₁=>?_) B.kind)
 dsimp only at hns₁ hsb₁ ⊢
 generalize hP:s2.heap.push { cls:=.type "list",dict:=none,data:=.seq ([]:List Value).toArray }=HP at hns₁ hsb₁ ⊢
 have hCs:HP.objs.size=s2.heap.objs.size+1:=by rw [<- hP,Heap.size_push]
 have hDC:s2.heap.objs.size≠HP.objs.size:=by rw [hCs]; exact Nat.ne_of_lt (Nat.lt_succ_self _)
 have hCle:s2.heap.objs.size<=HP.objs.size:=by rw [hCs]; exact Nat.le_succ _
 have old:∀ b o,s2.heap.get? b=some o->h₁.get? b=some o:=fun b o e=>hsb₁.extBut b o (Nat.ne_of_lt (Nat.lt_of_lt_of_le (Heap.lt_size e) hCle)) (Heap.get?_push_of_some _ (hP ▸ Heap.get?_push_of_some _ e))
 have hacc:h₁.PlainList s2.heap.objs.size #[]:=⟨_,hsb₁.extBut _ _ hDC (Heap.get?_push_of_some _ (hP ▸ Heap.get?_push_size _ rfl))⟩
 have flt:∀ b∈fp,b<s2.heap.objs.size:=fun b hb=>by
  obtain ⟨o,e,_⟩:=T.obj _ _ st2 b hb
  exact Heap.lt_size e
 have st1:tn 0 h₁:=T.keep _ _ _ st2 fun b _ o e=>old b o e
 have loop:∀ s3:Shared,s3={ s2 with heap:=h₁,toks:=s2.toks+([]:List (Str×Value)).length } ->
   codeAny (model X.prog X.w) X.A (.compLoop (.ListComp elt [⟨tg,iter,[cnd],0⟩] scope pos) 0 (.ref it) (.ref s2.heap.objs.size) (compEnvC scope (iZ X.env scope.names []) HP.objs.size X.env))
    (RR (.ref s2.heap.objs.size) HP.objs.size) s3:=by
  rintro s3 rfl
  have X':=dj X scope (vars++caps.map (·.2)) HP.objs.size s2 H2 fp
  have fpo:∀ {H':Hp},(∀ b∈fp,H' b=none)->∀ b∈fp,i7 (dj X scope (vars++caps.map (·.2)) HP.objs.size s2 H2 fp) [] H' b:=fun hn b hb=>by
   have ok:=sO B I2 f2 flt hCle
   exact ⟨hn b hb,(ok.exf b hb).1,ok.exfs b hb,.inl hb,(ok.exf b hb).2,fun p hp=>absurd (show p∈([]:List (Addr×Obj)) from hp) (by simp)⟩
  refine kj (fun n s=>∃ i ys H its,Inv (dj X scope (vars++caps.map (·.2)) HP.objs.size s2 H2 fp) [] (vars.map (fun _=>none)++gi σ caps) H s/\tn i s.heap/\(∀ b∈fp,H b=none)/\s.heap.PlainList s2.heap.objs.size (List.toArray its)/\H s2.heap.objs.size=none/\Vals ys its/\W i n ys H) ?_ m0
   ⟨0,[],H2,[],uh B I2 f2 flt hCle hns₁ old,st1,fun b hb=>(f2 b hb).1,hacc,I2.hok.fresh (Nat.le_refl _),.nil,w0⟩
  rintro n s4 ⟨i,ys,H4,its,I4,st4,fr4,pl4,nD4,v4,w4⟩
  obtain ⟨nn,eD⟩:=id pl4
  have DnL:s2.heap.objs.size≠(dj X scope (vars++caps.map (·.2)) HP.objs.size s2 H2 fp).env.locals:=hDC
  have Dfs:s2.heap.objs.size ∉ (dj X scope (vars++caps.map (·.2)) HP.objs.size s2 H2 fp).fs:=fun z=>by
   rcases List.mem_cons.mp (I2.stkSub _ z) with q | q
   ·have:=I2.lt; rw [<- q] at this; exact Nat.lt_irrefl _ this
   ·exact I2.nofs (Nat.le_refl _) q
  have Dfp:∀ b∈fp,s2.heap.objs.size≠b:=fun b hb z=>by have:=flt b hb; rw [<- z] at this; exact Nat.lt_irrefl _ this
  have DnC:∀ x c,(dj X scope (vars++caps.map (·.2)) HP.objs.size s2 H2 fp).env.cells.lookup x=some c->c≠s2.heap.objs.size:=fun x c e z=>by
   rcases bZ _ _ _ _ (B.cells I2) e with q | q
   ·cases q
   ·obtain ⟨v,o,ho,_⟩:=I2.cell x c q
    have:=Heap.lt_size ho
    rw [z] at this
    exact Nat.lt_irrefl _ this
  have pinD:∀ {σ':St} {H':Hp} {s':Shared},Inv (dj X scope (vars++caps.map (·.2)) HP.objs.size s2 H2 fp) [(s2.heap.objs.size,{ cls:=.type "list",data:=.seq its.toArray nn })] σ' H' s'->s'.heap.PlainList s2.heap.objs.size its.toArray/\H' s2.heap.objs.size=none:=fun {σ' H' s'} I'=>by
   obtain ⟨q1,q2,_⟩:=I'.pin (s2.heap.objs.size,{ cls:=.type "list",data:=.seq its.toArray nn }) (by simp [dj])
   exact ⟨⟨nn,q1⟩,q2⟩
  have I4p:Inv (dj X scope (vars++caps.map (·.2)) HP.objs.size s2 H2 fp) [(s2.heap.objs.size,{ cls:=.type "list",data:=.seq its.toArray nn })] (vars.map (fun _=>none)++gi σ caps) H4 s4:=
   I4.pins_of fun p hp=>by
    have e:p=(s2.heap.objs.size,{ cls:=.type "list",data:=.seq its.toArray nn }):=by simpa [dj] using hp
    subst e
    exact ⟨eD,nD4,DnL,Dfs,fun v z=>by cases z⟩
  have fpo':∀ {H':Hp},(∀ b∈fp,H' b=none)->∀ b∈fp,i7 (dj X scope (vars++caps.map (·.2)) HP.objs.size s2 H2 fp) [(s2.heap.objs.size,{ cls:=.type "list",data:=.seq its.toArray nn })] H' b:=fun hn b hb=>by
   obtain ⟨q1,q2,q3,q4,q5,_⟩:=fpo hn b hb
   exact ⟨q1,q2,q3,q4,q5,fun p hp=>by
    have e:p=(s2.heap.objs.size,{ cls:=.type "list",data:=.seq its.toArray nn }):=by simpa [dj] using hp
    subst e
    exact Dfp b hb⟩
  have unp:∀ {pl:List (Addr×Obj)} {σ':St} {H':Hp} {s':Shared},Inv (dj X scope (vars++caps.map (·.2)) HP.objs.size s2 H2 fp) pl σ' H' s'->Inv (dj X scope (vars++caps.map (·.2)) HP.objs.size s2 H2 fp) [] σ' H' s':=fun {pl σ' H' s'} I'=>
   I'.pins_of fun p hp=>absurd (show p∈([]:List (Addr×Obj)) from hp) (by simp)
  rcases turn i n ys H4 w4 with ⟨stop,hz,qn⟩ | ⟨go,hz,step⟩
  ·refine cf (T.done (dj X scope (vars++caps.map (·.2)) HP.objs.size s2 H2 fp) rfl rfl rfl (hc _) i _ s4 _ H4 _ I4p (fpo' fr4) st4 stop) fun r s5 ⟨hr,I5⟩=>?_
   subst hr
   obtain ⟨p5,n5⟩:=pinD I5
   obtain ⟨m5,ns5,_⟩:=I5.loc
   refine hRR _ _ s5 m5 ns5 hDC (Nat.le_refl _) hCle _ ?_ (fun h' hs'=>ug I2 f2 hCle (Nat.le_refl _) hDC (unp I5) n5 p5 v4 hz hs') (qn _ n5)
   rw [aQ hDC.symm]
   exact I5.free
  ·refine cf (T.item (dj X scope (vars++caps.map (·.2)) HP.objs.size s2 H2 fp) rfl rfl rfl (hc _) i _ s4 _ H4 _ I4p (fpo' fr4) st4 go) fun r s5 ⟨u,hr,h5⟩=>?_
   subst hr
   refine cf h5 fun _ s6 ⟨x,H6,I6,rx,yx,st6,fr6⟩=>?_
   have I6p:=I6.pinned (fpo' fr6) (T.obj _ _ st6)
   refine cf (hg _ _ _ _ _ s6 _ H6 x u _ I6p rx (step x H6 yx)) fun _ s7 ⟨σ7,H7,I7,kp,q7⟩=>?_
   refine cf (hb _ _ _ _ _ s7 σ7 H7 _ I7 q7) fun okb s7' q7'=>?_
   obtain ⟨H7',I7',q7'⟩:=q7'
   cases okb with
   | false=>
    obtain ⟨m',hm,w8⟩:=q7'
    rw [if_neg (by decide)]
    obtain ⟨p8,n8⟩:=pinD I7'.unpinned
    have st8:tn (i+1) s7'.heap:=T.keep _ _ _ st6 fun b hb o e=>(I7'.pin (b,o) (List.mem_append_right _ (List.mem_append_right _ (cJ hb e)))).1
    have fr8:∀ b∈fp,H7' b=none:=fun b hb=>by
     obtain ⟨o,e,d⟩:=T.obj _ _ st6 b hb
     exact (I7'.pin (b,o) (List.mem_append_right _ (List.mem_append_right _ (cJ hb e)))).2.1
    exact ⟨m',hm,i+1,ys,H7',its,(unp I7').weak kp.1 kp.2,st8,fr8,p8,n8,v4,w8⟩
   | true=>
   rw [if_pos rfl]
   rw [if_pos rfl] at q7'
   refine cf (he _ _ _ _ _ s7' σ7 H7' _ I7' q7') fun v s8 ⟨y,H8,I8,ry,m',hm,w8⟩=>?_
   obtain ⟨p8,n8⟩:=pinD I8.unpinned
   have st8:tn (i+1) s8.heap:=T.keep _ _ _ st6 fun b hb o e=>(I8.pin (b,o) (List.mem_append_right _ (List.mem_append_right _ (cJ hb e)))).1
   have fr8:∀ b∈fp,H8 b=none:=fun b hb=>by
    obtain ⟨o,e,d⟩:=T.obj _ _ st6 b hb
    exact (I8.pin (b,o) (List.mem_append_right _ (List.mem_append_right _ (cJ hb e)))).2.1
   have hl:=v4.length
   refine wpAny_list_append_plain p8 (fun h9 p9 sb9=>⟨m',hm,i+1,ys++[y],H8,its++[v],?_,?_,fr8,by simpa using p9,n8,v4.append (.cons ry .nil),w8⟩) (by simp; omega)
   ·have I9:Inv (dj X scope (vars++caps.map (·.2)) HP.objs.size s2 H2 fp) [] σ7 H8 { s8 with heap:=h9,toks:=s8.toks }:=
     (unp I8).turned (it:=s2.heap.objs.size) (fun b o hb e=>sb9.extBut b o hb e) n8 DnL (.inr (Nat.le_refl _)) DnC fun p hp=>absurd (show p∈([]:List (Addr×Obj)) from hp) (by simp)
    exact I9.weak kp.1 kp.2
   ·exact T.keep _ _ _ st8 fun b hb o e=>sb9.extBut b o (Dfp b hb).symm e
 exact codeAny_compStart_list (loop _ rfl) (T.self _ 0 _ _ _ st1 (loop _ rfl))
theorem wo (B:BlkOk X.env.scope.names X.N scope vars caps) (hc:X.calm=true) (hi:PI X tg iter wi)
  (hg:∀ C s₀ H₀ ex,PG (dj X scope (vars++caps.map (·.2)) C s₀ H₀ ex) tg g) (hb:∀ C s₀ H₀ ex,PT (dj X scope (vars++caps.map (·.2)) C s₀ H₀ ex) cnd tt) (he:∀ C s₀ H₀ ex,PE (dj X scope (vars++caps.map (·.2)) C s₀ H₀ ex) elt te) (hs:∀ x,foldedSetIterable iter X.env x=pure x:=by intro _; rfl) :
  PE X (.ListComp elt [⟨tg,iter,[cnd],0⟩] scope pos) (rO wi g tt te vars caps):=by
 intro pins s σ H Q I h
 rw [eval_ListComp]
 refine wpAny_comprehension_free (use:=none) rfl hs (d4 (B.cells I)) B.kind B.names ?_
 show wpAny _ _ (eval iter X.env) _ _ s
 refine cf (hi pins s σ H _ I h) fun v s1 h1=>cf h1 fun itv s2 h2=>?_
 obtain ⟨it,fp,tn,J,H2,e,I2,T,st2,f2,W,⟨m0,w0⟩,turn⟩:=h2
 subst e
 exact kF (Cm:=fun X=>X.calm=true) B hg hb he I2 T st2 f2 (fun _=>hc) w0 turn (RR:=fun acc C=>compPost (model X.prog X.w) X.A X.xe none (EP X pins σ Q) acc C) fun D C s' m ns _ _ _ H' _ k q=>⟨m,ns,fun h' hs'=>⟨.ref D,H',k h' hs',rfl,q⟩⟩
theorem v9 {i:Nat} {y:Str} {py spos:Pos} (B:BlkOk X.env.scope.names X.N scope vars caps) (hc:X.calm=true) (hi:PI X tg iter wi)
  (hg:∀ C s₀ H₀ ex,PG (dj X scope (vars++caps.map (·.2)) C s₀ H₀ ex) tg g) (hb:∀ C s₀ H₀ ex,PT (dj X scope (vars++caps.map (·.2)) C s₀ H₀ ex) cnd tt) (he:∀ C s₀ H₀ ex,PE (dj X scope (vars++caps.map (·.2)) C s₀ H₀ ex) elt te)
  (hN:X.N.Nodup) (hy:X.N[i]? = some y) (hx:xT X.env.scope y) (hsw:swapsWith (.ListComp elt [⟨tg,iter,[cnd],0⟩] scope pos) (some (.Name y py)) spos.line X.env=pure true)
  (hf:X.fn y=true\/X.env.scope.names.lookup y=some .local) (hs:∀ x,foldedSetIterable iter X.env x=pure x:=by intro _; rfl) :
  PS X (.Assign [.Name y py] (.ListComp elt [⟨tg,iter,[cnd],0⟩] scope pos) spos) (fun D σ H=>rO wi g tt te vars caps σ H fun v H1=>D.nx (σ.set i (some v)) H1):=by
 intro pins s σ H DE I h
 rw [exec_Assign_Name_used _ _ _ _ hsw]
 refine wpAny_bind (wpAny_standAt (wpAny_bind ?_))
 show wpAny _ X.A (do let _ <- comprehension (.ListComp elt [⟨tg,iter,[cnd],0⟩] scope pos) scope X.env _ (newList []) false (eval iter X.env) (some (assign (.Name y py) X.env))) _ _ s
 refine wpAny_bind (wpAny_mono (wpAny_comprehension_free (use:=some (assign (.Name y py) X.env)) (Q:=fun _ s'=>SP X pins DE .next s') rfl hs (d4 (B.cells I)) B.kind B.names
  (cf (hi pins s σ H _ I h) fun v s1 h1=>cf h1 fun itv s2 h2=>?_)) (fun _ s' hq=>wpAny_pure (wpAny_pure hq)) fun _ _ e=>e)
 obtain ⟨it,fp,tn,J,H2,e,I2,T,st2,f2,W,⟨m0,w0⟩,turn⟩:=h2
 subst e
 refine kF (Cm:=fun X=>X.calm=true) (Q:=fun v H1=>DE.nx (σ.set i (some v)) H1) B hg hb he I2 T st2 f2 (fun _=>hc) w0 turn (RR:=fun acc C=>compPost (model X.prog X.w) X.A X.xe (some (assign (.Name y py) X.env)) (fun _ s'=>SP X pins DE .next s') acc C) ?_
 intro D C s' m ns hDC hD hC H' hHC k q
 obtain ⟨oC,es,ep,eC,dC,rC⟩:=ns
 have I':Inv X pins σ H' s':=k s'.heap (Heap.SameBut.refl ..)
 have nL:C≠X.env.locals:=fun z=>by have:=I2.lt; rw [<- z] at this; exact absurd (Nat.lt_of_lt_of_le this hC) (Nat.lt_irrefl _)
 have nF:C ∉ X.fs:=I2.nofs hC
 have nCell:∀ x c,X.env.cells.lookup x=some c->c≠C:=fun x c e z=>by
  obtain ⟨v,o,ho,_⟩:=I2.cell x c e
  have:=Heap.lt_size ho
  rw [z] at this
  exact absurd (Nat.lt_of_lt_of_le this hC) (Nat.lt_irrefl _)
 have nPin:∀ p∈X.pn++pins,p.1≠C:=fun p hp z=>by
  have:=Heap.lt_size (I2.pin p hp).1
  rw [z] at this
  exact absurd (Nat.lt_of_lt_of_le this hC) (Nat.lt_irrefl _)
 have Ip:Inv X (pins++[(C,oC)]) σ H' s':=I'.pins_of fun p hp=>by
  rcases List.mem_append.mp hp with z | z
  ·exact I'.pin p (List.mem_append_right _ z)
  ·have e:p=(C,oC):=by simpa using z
   subst e
   exact ⟨eC,hHC,nL,nF,fun v z=>by rw [dC] at z; cases z⟩
 refine cf (cu (pos:=py) hN hy hx hf _ s' σ H' (.ref D) (.ref D) (fun σ' H''=>σ' = σ.set i (some (.ref D))/\H''=H'/\DE.nx σ' H'') Ip rfl ⟨rfl,rfl,q⟩) fun _ s'' ⟨σ'',H'',I'',e1,e2,q''⟩=>?_
 subst e1 e2
 have eC'':s''.heap.get? C=some oC:=(I''.pin (C,oC) (List.mem_append_right _ (List.mem_append_right _ (by simp)))).1
 refine ⟨m,⟨oC,es,ep,eC'',dC,rC⟩,fun h' hs'=>⟨_,H'',?_,q''⟩⟩
 exact I''.unpinned.turned (t':=s''.toks) (it:=C) (fun b o hb e=>hs'.extBut b o hb e) hHC nL (.inr (Nat.le_trans I2.sz hC)) nCell nPin
end
noncomputable def gO (t:D->Option Bool) (f:D->Option D):List D->Option (List D)
 | []=>some []
 | d::ds=>(t d).bind fun b=>if b=true then (f d).bind fun e=>(gO t f ds).bind fun es=>some (e::es) else gO t f ds
@[simp] theorem Fi {t:D->Option Bool} {f:D->Option D}:gO t f []=some []:=rfl
noncomputable def fh (fi:Dv->Option (List D)) (caps:List (Nat×Str)) (bv:D->Option (List D)) (ft:Dv->Option Bool) (fe:Dv->Option D):Dv->Option D:=fun δ=>(fi δ).bind fun ds=>if ds.length<=sizeLine then (gO (fun d=>(bv d).bind fun vs=>ft (vs.map .fz++dN δ caps)) (fun d=>(bv d).bind fun vs=>fe (vs.map .fz++dN δ caps)) ds).bind fun es=>some (.list es) else none
theorem kh {t:D->Option Bool} {f:D->Option D}:∀ {ds es:List D} {i:Nat} {d:D},gO t f ds=some es->ds[i]? = some d->∃ xs,gO t f (ds.take i)=some xs/\∃ b,t d=some b/\(b=false->gO t f (ds.take (i+1))=some xs)/\(b=true->∃ e,f d=some e/\gO t f (ds.take (i+1))=some (xs++[e]))
 | [],es,i,d,h,q=>by simp at q
 | d::ds,es,i,d',h,q=>by
  obtain ⟨b,h1,h⟩:=bind_some h
  cases i with
  | zero=>
   simp at q; subst q
   refine ⟨[],rfl,b,h1,fun hb=>?_,fun hb=>?_⟩
   ·subst hb; simp [gO,h1]
   ·subst hb
    rw [if_pos rfl] at h
    obtain ⟨e,h2,h⟩:=bind_some h
    exact ⟨e,h2,by simp [gO,h1,h2]⟩
  | succ i=>
   simp at q
   cases b with
   | false=>
    rw [if_neg (by decide)] at h
    obtain ⟨xs,g1,b',g2,g3,g4⟩:=kh (i:=i) h q
    refine ⟨xs,by simp [gO,h1,g1],b',g2,fun hb=>by simpa [gO,h1] using g3 hb,fun hb=>?_⟩
    obtain ⟨e,k1,k2⟩:=g4 hb
    exact ⟨e,k1,by simpa [gO,h1] using k2⟩
   | true=>
    rw [if_pos rfl] at h
    obtain ⟨e0,h2,h⟩:=bind_some h
    obtain ⟨es',h3,h⟩:=bind_some h
    obtain ⟨xs,g1,b',g2,g3,g4⟩:=kh (i:=i) h3 q
    refine ⟨e0::xs,by simp [gO,h1,h2,g1],b',g2,fun hb=>by simp [gO,h1,h2,g3 hb],fun hb=>?_⟩
    obtain ⟨e,k1,k2⟩:=g4 hb
    exact ⟨e,k1,by simp [gO,h1,h2,k2]⟩
theorem o7 {t:D->Option Bool} {f:D->Option D}:∀ {ds es:List D},gO t f ds=some es->es.length<=ds.length
 | [],es,h=>by cases h; exact Nat.le_refl _
 | d::ds,es,h=>by
  obtain ⟨b,h1,h⟩:=bind_some h
  cases b with
  | false=>rw [if_neg (by decide)] at h; exact Nat.le_succ_of_le (o7 h)
  | true=>
   rw [if_pos rfl] at h
   obtain ⟨e0,h2,h⟩:=bind_some h
   obtain ⟨es',h3,h⟩:=bind_some h
   cases h
   exact Nat.succ_le_succ (o7 h3)
section
variable {X:Cx} {scope:Scope} {vars:List Str} {caps:List (Nat×Str)} {elt tg iter cnd:Expr} {pos:Pos} {g:TG} {fi:Dv->Option (List D)} {ft:Dv->Option Bool} {fe:Dv->Option D} {bv:D->Option (List D)}
theorem mz (tk:sR X.K g vars.length bv) {σ:St} {H:Hp} {Q:VK} (h:tV X.K (fh fi caps bv ft fe) σ H Q):rO (Gw X.K fi) g (C7 X.K ft) (tV X.K fe) vars caps σ H Q:=by
 obtain ⟨H₀,Z₀,Z,δ,d,hh,e,k⟩:=h
 obtain ⟨ds,e1,e⟩:=bind_some e
 by_cases hz:ds.length<=sizeLine
 ·rw [if_pos hz] at e
  obtain ⟨es,e2,e⟩:=bind_some e
  cases e
  have hv:vars.map (fun _=>(none:Option V))=List.replicate vars.length none:=by rw [List.map_const']
  refine ⟨H₀,Z₀,Z,δ,ds,hh,e1,fun J Z1 H1 hh1 t1 ok=>?_⟩
  refine ⟨fun i m ys H=>m=ds.length-i/\i<=ds.length/\∃ Zc xs,Hold X.K H₀ Z₀ Zc δ σ H/\Same Z1 Zc/\gO (fun d=>(bv d).bind fun vs=>ft (vs.map .fz++dN δ caps)) (fun d=>(bv d).bind fun vs=>fe (vs.map .fz++dN δ caps)) (ds.take i)=some xs/\Reps X.K Zc ys xs,⟨ds.length,by simp,Nat.zero_le _,Z1,[],hh1,Same.refl _,rfl,.nil⟩,?_⟩
  rintro i m ys H2 ⟨rfl,hi2,Zc,xs,hhc,tc,fx,rc⟩
  have zh:Same Z1 H2:=tc.trans hhc.zh
  have ly:=rc.length
  have lx:=o7 fx
  rw [List.length_take] at lx
  by_cases hlt:i<ds.length
  ·refine .inr ⟨ok.go i H2 zh hlt,by omega,fun x H3 y=>?_⟩
   have ed:ds[i]? = some ds[i]:=by simp [hlt]
   obtain ⟨rfl,rx⟩:=ok.yld i H2 x H3 _ zh ed y
   obtain ⟨xs',f0,b,fb,ff,ftr⟩:=kh e2 ed
   rw [fx] at f0
   cases f0
   obtain ⟨vs,f3,f1⟩:=bind_some fb
   rw [hv]
   refine tk x Zc ds[i] vs (gi σ caps) H3 _ (rx.same tc) hhc.zh f3 fun us ru hn=>⟨⟨by simp [hn],fun j v q=>?_⟩,?_⟩
   ·by_cases hj:j<vars.length
    ·rw [List.getElem?_append_left (by simpa using hj),List.getElem?_replicate] at q
     split at q <;> cases q
    ·rw [List.getElem?_append_right (by simpa using hj)] at q
     rw [List.getElem?_append_right (by simpa [hn] using hj)]
     simpa [hn] using q
   ·refine ⟨H3,Zc,Zc,_,b,rf hhc ru,f1,fun Z3 H3' h3 t3=>?_⟩
    have hh3:=hhc.new ⟨t3,h3.h0,h3.zh,h3.zb,h3.nf⟩
    cases b with
    | false=>
     dsimp only
     rw [if_neg (by decide)]
     exact ⟨ds.length-(i+1),by omega,rfl,hlt,Z3,xs,hh3,tc.trans t3,ff rfl,rc.same t3⟩
    | true=>
     dsimp only
     rw [if_pos rfl]
     obtain ⟨ei,f2,f4⟩:=ftr rfl
     rw [f3] at f2
     refine ⟨H3,Zc,Z3,_,ei,h3,f2,fun v Z4 H4 h4 t4 r4=>⟨ds.length-(i+1),by omega,rfl,hlt,Z4,xs++[ei],?_,(tc.trans t3).trans t4,f4,((rc.same t3).same t4).append (.cons r4 .nil)⟩⟩
     exact hhc.new ⟨t3.trans t4,h4.h0,h4.zh,h4.zb,h4.nf⟩
  ·have hie:i=ds.length:=by omega
   subst hie
   refine .inl ⟨ok.stop _ H2 zh (Nat.le_refl _),by omega,fun p hp=>?_⟩
   rw [List.take_length,e2] at fx
   cases fx
   have n:=New.add hhc.zh hp (.lst ys)
   exact k _ _ _ (hhc.new n) ((t1.trans tc).trans n.z) (.lst (SqL.of aL) (rc.same n.z))
 ·rw [if_neg hz] at e; cases e
theorem h7 (B:BlkOk X.env.scope.names X.N scope vars caps) (hc:X.calm=true) (hi:IV X tg iter fi) (tk:sR X.K g vars.length bv)
  (hg:∀ C s₀ H₀ ex,PG (dj X scope (vars++caps.map (·.2)) C s₀ H₀ ex) tg g) (hb:∀ C s₀ H₀ ex,TV (dj X scope (vars++caps.map (·.2)) C s₀ H₀ ex) cnd ft) (he:∀ C s₀ H₀ ex,EV (dj X scope (vars++caps.map (·.2)) C s₀ H₀ ex) elt fe) (hs:∀ x,foldedSetIterable iter X.env x=pure x:=by intro _; rfl) :
  EV X (.ListComp elt [⟨tg,iter,[cnd],0⟩] scope pos) (fh fi caps bv ft fe):=
 PE.imp (wo (tt:=C7 X.K ft) (te:=tV X.K fe) B hc hi hg hb he hs) fun _ _ _ h=>mz tk h
theorem vJ (i:Nat) {y:Str} {py spos:Pos} (hN:X.N.Nodup) (B:BlkOk X.env.scope.names X.N scope vars caps) (hc:X.calm=true) (hi:IV X tg iter fi) (tk:sR X.K g vars.length bv)
  (hg:∀ C s₀ H₀ ex,PG (dj X scope (vars++caps.map (·.2)) C s₀ H₀ ex) tg g) (hb:∀ C s₀ H₀ ex,TV (dj X scope (vars++caps.map (·.2)) C s₀ H₀ ex) cnd ft) (he:∀ C s₀ H₀ ex,EV (dj X scope (vars++caps.map (·.2)) C s₀ H₀ ex) elt fe)
  (hy:X.N[i]? = some y:=by rfl) (hx:xT X.env.scope y:=by first | exact Or.inl rfl | exact Or.inr rfl) (hsw:swapsWith (.ListComp elt [⟨tg,iter,[cnd],0⟩] scope pos) (some (.Name y py)) spos.line X.env=pure true:=by rfl)
  (hf:X.fn y=true\/X.env.scope.names.lookup y=some .local:=by first | exact .inl rfl | exact .inr rfl | assumption) (hs:∀ x,foldedSetIterable iter X.env x=pure x:=by intro _; rfl) :
  SV X (.Assign [.Name y py] (.ListComp elt [⟨tg,iter,[cnd],0⟩] scope pos) spos) (bS i (fh fi caps bv ft fe)):=
 PS.imp (v9 (tt:=C7 X.K ft) (te:=tV X.K fe) B hc hi hg hb he hN hy hx hsw hf hs) fun D σ H h=>by
  obtain ⟨H₀,Z₀,Z,δ,r,hh,e,k⟩:=h
  obtain ⟨x,e1,e⟩:=bind_some e
  cases e
  exact mz tk ⟨H₀,Z₀,Z,δ,x,hh,e1,fun v Z1 H1 hh1 s1 r1=>k _ H1 Z1 (hh1.set r1) s1⟩
end
end VL
namespace VL
open PySem PySem.Spec PyProof.Rows L2
noncomputable def uP (f1 f2 f3:Dv->Option D) (g g':D->D->Option D):Dv->Option D:=fun δ=>(f1 δ).bind fun a=>(f2 δ).bind fun b=>(g a b).bind fun r=>(asB r).bind fun k=>if k=true then (f3 δ).bind fun c=>g' b c else some (.bool false)
section
variable {X:Cx} {a b c:Expr} {pos:Pos} {f1 f2 f3:Dv->Option D}
theorem sL {K:Fg} {g g':D->D->Option D} {σ:St} {H:Hp} {Q:VK} (h:tV K (uP f1 f2 f3 g g') σ H Q):vG (rD K g) (rD K g') (tV K f1) (tV K f2) (tV K f3) σ H Q:=by
 obtain ⟨H₀,Z₀,Z,δ,d,hh,e,k⟩:=h
 obtain ⟨x,e1,ea⟩:=bind_some e
 obtain ⟨y,e2,eb⟩:=bind_some ea
 obtain ⟨r,e3,ec⟩:=bind_some eb
 obtain ⟨kk,e4,ed⟩:=bind_some ec
 clear e ea eb ec
 have er:=mH e4
 subst er
 refine ⟨H₀,Z₀,Z,δ,x,hh,e1,fun v1 Z1 H1 hh1 s1 r1=>⟨H₀,Z₀,Z1,δ,y,hh1,e2,fun v2 Z2 H2 hh2 s2 r2=>?_⟩⟩
 refine ⟨Z2,x,y,_,hh2.zh,r1.same s2,r2,e3,fun v3 Z3 H3 n r3=>⟨kk,r3.bl_eq,?_⟩⟩
 cases kk with
 | true=>
  rw [if_pos rfl] at ed ⊢
  obtain ⟨z,e5,e⟩:=bind_some ed
  refine ⟨H₀,Z₀,Z3,δ,z,hh2.new n,e5,fun v4 Z4 H4 hh4 s4 r4=>⟨Z4,y,z,d,hh4.zh,(r2.same n.z).same s4,r4,e,fun v5 Z5 H5 n5 r5=>?_⟩⟩
  exact k v5 Z5 H5 (hh4.new n5) ((((s1.trans s2).trans n.z).trans s4).trans n5.z) r5
 | false=>
  rw [if_neg (by decide)] at ed ⊢
  cases ed
  exact k _ Z3 H3 (hh2.new n) ((s1.trans s2).trans n.z) (.bl _)
theorem vB {op op':CmpOp} {g g':D->D->Option D} (ho:OpR X (compareOp op) (rD X.K g)) (ho':OpR X (compareOp op') (rD X.K g')) (ha:EV X a f1) (hb:EV X b f2) (hc:EV X c f3)
  (hm:lastMarks [op,op'] [b,c]=false:=by with_unfolding_all rfl):TV X (.Compare a [op,op'] [b,c] pos) (ob (uP f1 f2 f3 g g')):=
 PT.imp (vZ ho ho' ha hb hc hm) fun _ _ _ h=>sL (Gu h)
end
noncomputable def xq:D->Bool
 | .none=>true
 | .bool _=>true
 | .int _=>true
 | .str _=>true
 | _=>false
noncomputable def tZ (x:D) (ds:List D):Bool:=ds.any fun y=>PyData.eqv y x
noncomputable def de (neg:Bool):D->D->Option D:=fun a b=>(dc b).bind fun ds=>if xq a=true/\ds.all xq=true then some (.bool (if neg=true then !tZ a ds else tZ a ds)) else none
theorem Rep.flat {K:Fg} {Z:Hp} {v:V} {d:D} (r:Rep K Z v d):fT v=xq d:=by cases r <;> rfl
theorem Rep.eqF {K:Fg} {Z:Hp} {v u:V} {d e:D} (r:Rep K Z v d) (q:Rep K Z u e) (h1:xq d=true) (h2:xq e=true):yo v u=PyData.eqv d e:=by
 cases r <;> first | (cases q <;> first | rfl | cases h2) | cases h1
theorem Reps.allF {K:Fg} {Z:Hp}:∀ {vs:List V} {ds:List D},Reps K Z vs ds->vs.all fT=ds.all xq
 | _,_,.nil=>rfl
 | _,_,.cons r t=>by rw [List.all_cons,List.all_cons,r.flat,t.allF]
theorem Reps.inF {K:Fg} {Z:Hp} {x:V} {a:D} (q:Rep K Z x a) (h:xq a=true):∀ {vs:List V} {ds:List D},Reps K Z vs ds->ds.all xq=true->Gb x vs=tZ a ds
 | _,_,.nil,_=>rfl
 | _,_,.cons r t,f=>by
  rw [List.all_cons,Bool.and_eq_true] at f
  show (yo _ x||Gb x _)=(PyData.eqv _ a||tZ a _)
  rw [r.eqF q f.1 h,t.inF q h f.2]
theorem tX {K:Fg} {neg:Bool} {x y:V} {H:Hp} {Q:VK} (h:rD K (de neg) x y H Q):FZ K neg x y H Q:=by
 obtain ⟨Z,a,b,d,zh,ra,rb,e,k⟩:=h
 obtain ⟨ds,e1,e⟩:=bind_some e
 by_cases c:xq a=true/\ds.all xq=true
 ·rw [if_pos c] at e
  cases e
  have go:∀ (xs:List V),Reps K Z xs ds->(∃ p,y=.ref p/\(SqL K H p xs\/SqT K H p xs))->FZ K neg x y H Q:=fun xs r ⟨p,ey,hq⟩=>by
   refine ⟨p,xs,ey,hq,by rw [ra.flat]; exact c.1,by rw [r.allF]; exact c.2,?_⟩
   have:=r.inF ra c.1 c.2
   rw [this]
   exact k _ Z H (New.refl zh) (.bl _)
  cases rb with
  | lst h q=>cases e1; exact go _ q ⟨_,rfl,.inl (SqL.same h zh)⟩
  | tup h q=>cases e1; exact go _ q ⟨_,rfl,.inr (SqT.same h zh)⟩
  | _=>cases e1
 ·rw [if_neg c] at e; cases e
theorem kQ {X:Cx}:OpR X (compareOp .In) (rD X.K (de false)):=OpR.imp uL fun _ _ _ _ h=>tX h
theorem Ay {X:Cx}:OpR X (compareOp .NotIn) (rD X.K (de true)):=OpR.imp oF fun _ _ _ _ h=>tX h
noncomputable def gT:List (D->Dv->Option Dv)->List D->Dv->Option Dv
 | [],[],δ=>some δ
 | g::gs,d::ds,δ=>(g d δ).bind fun δ1=>gT gs ds δ1
 | _,_,_=>none
noncomputable def xn (gs:List (D->Dv->Option Dv)):D->Dv->Option Dv
 | .tuple ds,δ=>gT gs ds δ
 | _,_=>none
@[simp] theorem Hz (δ:Dv):gT [] [] δ = some δ:=rfl
@[simp] theorem Gh (g:D->Dv->Option Dv) (gs:List (D->Dv->Option Dv)) (d:D) (ds:List D) (δ:Dv):gT (g::gs) (d::ds) δ = (g d δ).bind fun δ1=>gT gs ds δ1:=rfl
@[simp] theorem Gg (gs:List (D->Dv->Option Dv)) (ds:List D) (δ:Dv):xn gs (.tuple ds) δ = gT gs ds δ:=rfl
theorem xo:∀ {gs:List (D->Dv->Option Dv)} {ds:List D} {δ δ':Dv},gT gs ds δ = some δ'->ds.length=gs.length
 | [],[],_,_,_=>rfl
 | [],_::_,_,_,h=>by cases h
 | _::_,[],_,_,h=>by cases h
 | g::gs,d::ds,δ,δ',h=>by
  obtain ⟨δ1,_,h⟩:=bind_some h
  exact congrArg (· + 1) (xo h)
noncomputable def Gx (K:Fg) (gs:List (D->Dv->Option Dv)):AN:=fun vs σ H Q=>∃ H₀ Z₀ Z δ ds δ',Hold K H₀ Z₀ Z δ σ H/\Reps K Z vs ds/\gT gs ds δ = some δ'/\∀ σ' H' Z',Hold K H₀ Z₀ Z' δ' σ' H'->Same Z Z'->Q σ' H'
def Gm (X:Cx) (es:List Expr) (gs:List (D->Dv->Option Dv)):Prop:=PGs X es (Gx X.K gs)
section
variable {X:Cx} {pos:Pos} {e:Expr} {es:List Expr} {g:D->Dv->Option Dv} {gs:List (D->Dv->Option Dv)}
theorem PGs.imp {t t':AN} (h:PGs X es t) (i:∀ v σ H Q,t' v σ H Q->t v σ H Q):PGs X es t':=fun pins s σ H x v Q I r q=>h pins s σ H x v Q I r (i _ _ _ _ q)
theorem ld:Gm X [] []:=PGs.imp zg fun vs σ H Q h=>by
 obtain ⟨H₀,Z₀,Z,δ,ds,δ',hh,r,e,k⟩:=h
 cases r with
 | nil=>cases e; exact ⟨rfl,k σ H Z hh (Same.refl _)⟩
 | cons _ _=>cases e
theorem ez (h1:GV X e g) (h2:Gm X es gs) (hs:(assignEach (e::es) X.env).map (·.2)=assign e X.env::(assignEach es X.env).map (·.2):=by rfl):Gm X (e::es) (g::gs):=
 PGs.imp (wc h1 h2 hs) fun vs σ H Q h=>by
  obtain ⟨H₀,Z₀,Z,δ,ds,δ',hh,r,e,k⟩:=h
  cases r with
  | nil=>cases e
  | cons r t=>
   obtain ⟨δ1,e1,e⟩:=bind_some e
   exact ⟨_,_,rfl,H₀,Z₀,Z,δ,_,δ1,hh,r,e1,fun σ1 H1 Z1 hh1 s1=>⟨H₀,Z₀,Z1,δ1,_,δ',hh1,t.same s1,e,fun σ2 H2 Z2 hh2 s2=>k σ2 H2 Z2 hh2 (s1.trans s2)⟩⟩
theorem o4 {k:Nat} (hc:X.calm=true) (h:Gm X es gs) (hn:(assignEach es X.env).length=gs.length:=by rfl) (hst:(assignEach es X.env).findIdx? (·.1)=none:=by rfl):GV X (.Tuple es k pos) (xn gs):=
 PG.imp (BK hc h hn hst) fun v σ H Q h=>by
  obtain ⟨H₀,Z₀,Z,δ,d,δ',hh,r,e,k⟩:=h
  cases r with
  | tup q t=>
   have el:_=gs.length:=xo (gs:=gs) e
   exact ⟨_,_,rfl,SqT.same q hh.zh,by rw [t.length]; exact el,H₀,Z₀,Z,δ,_,δ',hh,t,e,k⟩
  | _=>cases e
noncomputable def sAsg (f:Dv->Option D) (g:D->Dv->Option Dv):Sf:=fun δ=>(f δ).bind fun d=>(g d δ).bind fun δ'=>some (.nx,δ')
theorem vK {tg:Expr} {f:Dv->Option D} (he:EV X e f) (hg:GV X tg g) (hs:swapsWithSole [tg] e pos.line X.env=pure false:=by rfl) (hw:swappedStores [tg] e X.env=pure none:=by rfl)
  (h1:(assignEach [tg] X.env).map (·.2)=[assign tg X.env]:=by rfl):SV X (.Assign [tg] e pos) (sAsg f g):=
 PS.imp (BI he hg hs hw h1) fun D σ H h=>by
  obtain ⟨H₀,Z₀,Z,δ,r,hh,e,k⟩:=h
  obtain ⟨d,e1,e⟩:=bind_some e
  obtain ⟨δ',e2,e⟩:=bind_some e
  cases e
  exact ⟨H₀,Z₀,Z,δ,d,hh,e1,fun v Z1 H1 hh1 s1 r1=>⟨H₀,Z₀,Z1,δ,d,δ',hh1,r1,e2,fun σ' H' Z' hh' s'=>k σ' H' Z' hh' (s1.trans s')⟩⟩
end
noncomputable def wN:Nat:=1000000
theorem iM {t:Dv->Option Bool} {b:Sf}:∀ {n m:Nat} {δ:Dv} {r:Fl×Dv},gk t b n δ = some r->n<=m->gk t b m δ = some r
 | 0,_,_,_,h,_=>by cases h
 | n+1,0,_,_,_,hm=>by omega
 | n+1,m+1,δ,r,h,hm=>by
  have hm:n<=m:=by omega
  obtain ⟨c,h1,h⟩:=bind_some h
  show ((t δ).bind fun c=>_)=_
  rw [h1,Option.bind_some]
  cases c with
  | false=>exact h
  | true=>
   rw [if_pos rfl] at h ⊢
   obtain ⟨⟨fl,δ2⟩,h2,h⟩:=bind_some h
   rw [h2,Option.bind_some]
   cases fl with
   | nx=>exact iM h hm
   | ct=>exact iM h hm
   | bk=>exact h
   | rt d=>exact h
theorem rJ {t:Dv->Option Bool} {b:Sf} {δ:Dv} (n:Nat) (h:t δ = some false):gk t b (n+1) δ = some (.nx,δ):=by
 show ((t δ).bind fun c=>_)=_
 rw [h]; rfl
theorem vw {t:Dv->Option Bool} {b:Sf} {δ δ2:Dv} {r:Fl×Dv} (n:Nat) (h:t δ = some true) (h2:b δ = some (.nx,δ2)) (h3:gk t b n δ2=some r):gk t b (n+1) δ = some r:=by
 show ((t δ).bind fun c=>_)=_
 rw [h,Option.bind_some,if_pos rfl,h2,Option.bind_some]
 exact h3
theorem b8 {g:D->Dv->Option Dv} {b:Sf} {d:D} {ds:List D} {δ δ1 δ2:Dv} (h1:g d δ = some δ1) (h2:b δ1=some (.nx,δ2)):loop g b (d::ds) δ = loop g b ds δ2:=by
 show ((g d δ).bind fun δ1=>_)=_
 rw [h1,Option.bind_some,h2]; rfl
theorem hW {g:D->Dv->Option Dv} {b:Sf} {d x:D} {ds:List D} {δ δ1 δ2:Dv} (h1:g d δ = some δ1) (h2:b δ1=some (.rt x,δ2)):loop g b (d::ds) δ = some (.rt x,δ2):=by
 show ((g d δ).bind fun δ1=>_)=_
 rw [h1,Option.bind_some,h2]; rfl
theorem q9 {X:Cx} {ss:List Stmt}:BV X ss (fun _=>none):=fun pins s σ H D I h=>by
 obtain ⟨_,_,_,_,_,_,e,_⟩:=h
 cases e
end VL
namespace VL
open PySem PySem.Spec PyProof.Rows L2
def tO (K:Fg) (f:Dv->Option (List D)):TE:=fun σ H Q=>∃ H₀ Z₀ Z δ ds,Hold K H₀ Z₀ Z δ σ H/\f δ = some ds/\∀ p vs Z' H',Hold K H₀ Z₀ Z' δ σ H'->Same Z Z'->H' p=none->Reps K Z' vs ds->Q (.ref p) (upd H' p (.lst vs))
def EO (X:Cx) (e:Expr) (f:Dv->Option (List D)):Prop:=PE X e (tO X.K f)
noncomputable def G7 (f:Dv->Option D):Dv->Option (List D):=fun δ=>(f δ).bind lstI
@[simp] noncomputable def IE (i:Nat) (f:Dv->Option (List D)):Sf:=fun δ=>(f δ).bind fun ds=>some (.nx,δ.set i (.ow ds))
noncomputable def uB (t:Sf):Fl×Dv->Option (Fl×Dv)
 | (.nx,δ)=>t δ
 | r=>some r
@[simp] theorem FW (t:Sf) (δ:Dv):uB t (.nx,δ)=t δ:=rfl
@[simp] theorem FV (t:Sf) (d:D) (δ:Dv):uB t (.rt d,δ)=some (.rt d,δ):=rfl
@[simp] theorem FY (t:Sf) (δ:Dv):uB t (.bk,δ)=some (.bk,δ):=rfl
@[simp] theorem FX (t:Sf) (δ:Dv):uB t (.ct,δ)=some (.ct,δ):=rfl
noncomputable def Gd (u w:Sf) (δ:Dv):Bool->Option (Fl×Dv)
 | true=>u δ
 | false=>w δ
@[simp] theorem IT (u w:Sf) (δ:Dv):Gd u w δ true=u δ:=rfl
@[simp] theorem IU (u w:Sf) (δ:Dv):Gd u w δ false=w δ:=rfl
theorem ag (s t:Sf) (δ:Dv):sSeq s t δ = (s δ).bind (uB t):=by
 unfold sSeq uB
 congr 1
theorem aq (t:Dv->Option Bool) (u w:Sf) (δ:Dv):sIf t u w δ = (t δ).bind (Gd u w δ):=by
 unfold sIf
 congr 1
 funext c
 cases c <;> rfl
end VL
namespace VL
open PySem PySem.Spec PyProof.Rows L2
noncomputable def pi:List D->Option (List Bool)
 | []=>some []
 | .bool b::r=>(pi r).map (b :: ·)
 | _=>none
noncomputable def xQ:List D->Option D
 | [.list xs]=>(pi xs).map fun bs=>.bool (bs.all id)
 | _=>none
theorem re {α:Type} (f:α -> Bool):∀ xs:List α,pi (xs.map fun a=>.bool (f a))=some (xs.map f)
 | []=>rfl
 | a::r=>by simp [pi,re f r]
theorem xP {α:Type} (f:α -> Bool) (xs:List α):xQ [.list (xs.map fun a=>.bool (f a))]=some (.bool (xs.all f)):=by
 simp [xQ,re,List.all_map]
noncomputable def DS:D->Option D
 | .list xs=>some (.list xs.reverse)
 | _=>none
@[simp] theorem Bz (xs:List D):DS (.list xs)=some (.list xs.reverse):=rfl
noncomputable def DT:D->Option (List D)
 | .list xs=>some xs.reverse
 | .tuple xs=>some xs.reverse
 | _=>none
@[simp] theorem Da (xs:List D):DT (.list xs)=some xs.reverse:=rfl
@[simp] theorem BA (xs:List D):DT (.tuple xs)=some xs.reverse:=rfl
@[simp] noncomputable def IF:Sf:=fun _=>none
@[simp] noncomputable def Js (i:Nat) (f:Dv->Option D):Sf:=fun δ=>(f δ).bind fun v=>(dc v).bind fun es=>(xU δ[i]?).bind fun ds=>if ds.length+es.length<=sizeLine then some (.nx,δ.set i (.ow (ds++es))) else none
section
variable {X:Cx} {e:Expr} {es:List Expr} {p pos tpos apos:Pos} {f:Dv->Option D} {st:Stmt}
theorem uf {K:Fg} {Z:Hp}:∀ {xs:List V} {ds:List D} {bs:List Bool} {its:List Value},Reps K Z xs ds->Vals xs its->pi ds=some bs->its.length=bs.length/\∀ (i:Nat) (v:Value),its[i]? = some v->∃ b,bs[i]? = some b/\v=.bool b
 | _,_,bs,_,.nil,.nil,h=>by cases h; exact ⟨rfl,fun i v q=>by simp at q⟩
 | _,_,bs,_,.cons r t,.cons q u,h=>by
  cases r with
  | bl b=>
   unfold pi at h
   cases g:pi _ with
   | none=>rw [g] at h; cases h
   | some cs=>
    rw [g] at h
    cases h
    obtain ⟨h1,h2⟩:=uf t u g
    refine ⟨by simp [h1],fun i v e=>?_⟩
    cases i with
    | zero=>simp at e; subst e; exact ⟨b,rfl,q⟩
    | succ i=>simp at e; simpa using h2 i v e
  | _=>cases h
theorem FE (hc:X.calm=true):CallR X (.builtin "all") (vX X.K xQ):=by
 intro pins s σ H xs us Q I rs q
 obtain ⟨Z,as,d,zh,ra,e,k⟩:=q
 cases ra with
 | nil=>cases e
 | cons r1 r2=>
  cases r2 with
  | cons _ _=>cases r1 <;> cases e
  | nil=>
   cases r1 with
   | @lst l ys ds h1 q1=>
    have e:(pi ds).map (fun bs=>PyData.bool (bs.all id))=some d:=e
    cases g:pi ds with
    | none=>rw [g] at e; cases e
    | some bs=>
     rw [g] at e
     cases e
     obtain ⟨u,rfl,ru⟩:=lC rs
     cases ru
     obtain ⟨its,rv,pl,hz⟩:=I.list (SqL.same h1 zh)
     obtain ⟨hlen,hget⟩:=uf q1 rv g
     have hl:=pl.isList
     have hlt:l<s.heap.objs.size:=by obtain ⟨_,e,_⟩:=hl; exact Heap.lt_size e
     refine call_all_walk (wpAny_pyIter_list hl ?_)
     refine ⟨s.heap.objs.size,[s.heap.objs.size,l],[s.heap.objs.size],its.toArray.size,_,_,fun i=>(bs[i]?).getD true,rfl,Walks.list (A:=X.A.in1) (I.ok.hd hc) _ l (Nat.ne_of_lt hlt) its.toArray,
      ⟨⟨_,Heap.get?_push_size _ rfl,rfl,rfl⟩,hl.push _⟩,fun i v s' Q' E' hP hQ=>?_,fun h' tk hk=>?_⟩
     ·obtain ⟨b,e,rfl⟩:=hget i v (by simpa using hP)
      simp only [e,Option.getD_some] at hQ
      exact wpAny_truthy_bool hQ
     ·have e:((List.range its.toArray.size).all fun i=>(bs[i]?).getD true)=bs.all id:=by
       rw [List.size_toArray,hlen]; exact LSm.range_all bs
      rw [e]
      exact ⟨.bl _,H,I.kept (t':=tk) (LSm.kept_iter hk),rfl,k _ Z H (New.refl zh) (.bl _)⟩
   | _=>cases e
theorem DM {st:Stmt}:SV X st IF:=fun pins s σ H D I h=>by
 obtain ⟨_,_,_,_,_,_,e,_⟩:=h
 cases e
end
end VL
namespace VL
open PySem PySem.Spec PyProof.Rows L2
end VL
namespace VL
open PySem PySem.Spec PyProof.Rows L2
noncomputable def GR:D->Option (List D)
 | .tuple xs=>some xs.reverse
 | _=>none
@[simp] theorem By (xs:List D):GR (.tuple xs)=some xs.reverse:=rfl
end VL
namespace VL
open PySem PySem.Spec PyProof.Rows L2
def F2 (h:Heap) (e:Addr):Prop:=∃ oe vs,h.get? e=some oe/\oe.data=.fields vs/\vs[2]? = some .none
def Id (base:Heap) (l:List Env) (e:Addr) (cls a0:Value) (h:Heap):Prop:=Heap.FlyingW base l e cls a0 h/\F2 h e
end VL
namespace VL
open PySem PySem.Spec PyProof.Rows L2
noncomputable def mO (n:Str):D:=.dict [(.str "fn",.str n)]
abbrev Xf:=Dv->Option (Str×Dv)
@[simp] noncomputable def JB:Xf:=fun _=>none
@[simp] noncomputable def Go (n:Str) (f:Dv->Option D):Xf:=fun δ=>(f δ).bind fun _=>some (n,δ)
@[simp] noncomputable def xE (f:Dv->Option Str):Xf:=fun δ=>(f δ).bind fun n=>some (n,δ)
@[simp] noncomputable def JC (t:Dv->Option Bool) (u w:Xf):Xf:=fun δ=>(t δ).bind fun c=>if c=true then u δ else w δ
@[simp] noncomputable def Gn (s:Sf) (u:Xf):Xf:=fun δ=>(s δ).bind fun r=>match r with
 | (.nx,δ')=>u δ'
 | _=>none
@[simp] noncomputable def Iq (u1:Xf) (s:Sf) (u:Xf):Xf:=fun δ=>match u1 δ with
 | some r=>some r
 | none=>Gn s u δ
@[simp] noncomputable def JF (fs:Dv->Option (List D)) (g:List D->Option Str):Dv->Option Str:=fun δ=>(fs δ).bind g
structure Thrown (P:Program) (w:World) (outer:List Env) (H:Hp) (s:Shared) (x C:Addr) (H':Hp) (s':Shared):Prop where
 os:s'.os=s.os
 bare:AllBare s'.gens
 un:Un (t0 outer) [] H H' s.heap s'.heap
 hok:HOk P w H' s'.heap
 sm:Same H H'
 is:H' x=some (HF x C)
 fly:∃ B t,Id B outer x (.ref C) t s'.heap/\(∀ b o,H' b=some o->b≠x->∃ ob,B.get? b=some ob)/\(∀ b o,s.heap.get? b=some o->H b=none->b ∉ t0 outer->B.get? b=some o)
end VL
namespace VL
open PySem PySem.Spec PyProof.Rows L2
end VL
namespace VL
open PySem PySem.Spec PyProof.Rows L2
end VL
namespace VL
open PySem PySem.Spec PyProof.Rows L2
theorem jq {H H':Hp} {b:Addr} (s:Same H H') (h:H' b=none):H b=none:=by
 cases e:H b with
 | none=>rfl
 | some o=>rw [s b o e] at h; cases h
inductive Flung (m:Bool) (X:Cx) (n:Str) (Z H:Hp) (s:Shared) (e:Value) (s':Shared):Prop
 | made {x C:Addr} {vs:List Value}:m=true->PySem.W.nsIn X.K mainGlobals n=some (some (.ref C))->e=.ref x->s'={ s with heap:=s'.heap }->Heap.MadeExcOf s.heap s'.heap x (.ref C) vs->Flung m X n Z H s e s'
 | thrown {x C:Addr} {H' Z':Hp}:PySem.W.nsIn X.K mainGlobals n=some (some (.ref C))->e=.ref x->Thrown X.prog X.w X.stack H s x C H' s'->New Z H Z' H'->Z' x=some (HF x C)->H x=none->Flung m X n Z H s e s'
def Jg (m:Bool) (X:Cx) (f:Xf):TS:=fun _ σ H=>∃ H₀ Z₀ Z δ r,Hold X.K H₀ Z₀ Z δ σ H/\f δ = some r/\∀ pins σ' H' Z' s e s',Hold X.K H₀ Z₀ Z' r.2 σ' H'->Same Z Z'->Inv X pins σ' H' s->Flung m X r.1 Z' H' s e s'->X.xe e s'
def SX (m:Bool) (X:Cx) (st:Stmt) (f:Xf):Prop:=PS X st (Jg m X f)
end VL
namespace VL
open PySem PySem.Spec PyProof.Rows L2
end VL
namespace VL
open PySem PySem.Spec PyProof.Rows L2
noncomputable def mY:Sl->Bool
 | .own _=>true
 | _=>false
@[simp] theorem F7 (d:D):mY (.fz d)=false:=rfl
@[simp] theorem F5:mY .un=false:=rfl
noncomputable def uy:Nat->Dv->Bool
 | _,[]=>true
 | 0,_::r=>r.all fun s=>!mY s
 | n+1,s::r=>!mY s&&uy n r
@[simp] theorem C8 (s:Sl) (r:Dv):uy 0 (s::r)=r.all fun s=>!mY s:=rfl
@[simp] theorem C9 (n:Nat) (s:Sl) (r:Dv):uy (n+1) (s::r)=(!mY s&&uy n r):=rfl
noncomputable def iH (i:Nat) (ft:Dv->Option Bool):Dv->Option Bool:=fun δ=>if uy i δ = true then ft (dFz i δ) else none
theorem pU:∀ (i:Nat) (δ:Dv),uy i δ = true->∀ (j:Nat) (ds:Oc),δ[j]? = some (.own ds)->j=i
 | _,[],_,j,ds,e=>by simp at e
 | 0,s::r,h,0,ds,e=>rfl
 | 0,s::r,h,j+1,ds,e=>by
  have:=List.all_eq_true.mp h (.own ds) (List.mem_of_getElem? (by simpa using e))
  cases this
 | i+1,s::r,h,0,ds,e=>by
  have h:=(Bool.and_eq_true_iff.mp h).1
  have e:s=.own ds:=by simpa using e
  subst e; cases h
 | i+1,s::r,h,j+1,ds,e=>congrArg (· + 1) (pU i r (Bool.and_eq_true_iff.mp h).2 j ds (by simpa using e))
theorem yA {X:Cx} {e:Expr} {ft:Dv->Option Bool} (i:Nat) (h:TV X e ft):TV X e (iH i ft):=
 PT.imp h fun σ H Q q=>by
  obtain ⟨H₀,Z₀,Z,δ,b,hh,e,k⟩:=q
  unfold iH at e
  split at e
  rotate_left
  ·cases e
  rename_i hso
  unfold dFz at e
  split at e
  ·rename_i ds q
   obtain ⟨a,xs,h1,h2,h3,h4,h5⟩:=hh.ow i ds q
   have hl:i < δ.length:=(List.getElem?_eq_some_iff.mp q).1
   have sz:Same Z (upd Z a (.lst xs)):=eZ h3
   have hh1:Hold X.K H₀ Z₀ (upd Z a (.lst xs)) (δ.set i (.fz (.list ds))) σ H:=by
    refine ⟨fun b o q=>?_,hh.h0,hh.z0.trans sz,fun b hb=>?_,by simp [hh.len],fun j d q=>?_,fun j d q=>?_,fun j k d1 d2 b hjk q1 q2=>?_,(hh.fr.same sz).put (fun _ z=>nomatch z) fun _ _=>rfl,hh.nf.upd a⟩
    ·by_cases hb:b=a
     ·subst hb; rw [aL] at q; cases q; exact h4
     ·rw [aQ hb] at q; exact hh.zh b o q
    ·rw [aQ (fun z=>hb (by rw [z]; exact h2))]; exact hh.zb b hb
    ·by_cases hj:i=j
     ·subst hj
      rw [List.getElem?_set_self hl] at q
      cases q
      exact ⟨.ref a,h1,.lst (SqL.of aL) (h5.same sz)⟩
     ·rw [List.getElem?_set_ne hj] at q
      obtain ⟨v,g1,g2⟩:=hh.fz j d q
      exact ⟨v,g1,g2.same sz⟩
    ·by_cases hj:i=j
     ·subst hj
      rw [List.getElem?_set_self hl] at q
      cases q
     ·rw [List.getElem?_set_ne hj] at q
      obtain ⟨b,ws,g1,g2,g3,g4,g5⟩:=hh.own j d q
      have:b≠a:=fun z=>by subst z; rename_i q0; exact hh.dja i j _ d b hj q0 q h1 g1
      exact ⟨b,ws,g1,g2,by rw [aQ this]; exact g3,g4,g5.same sz⟩
    ·by_cases hj:i=j
     ·subst hj
      rw [List.getElem?_set_self hl] at q1
      cases q1
     ·by_cases hk:i=k
      ·subst hk
       rw [List.getElem?_set_self hl] at q2
       cases q2
      ·rw [List.getElem?_set_ne hj] at q1
       rw [List.getElem?_set_ne hk] at q2
       exact hh.dja j k d1 d2 b hjk q1 q2
   refine ⟨H₀,Z₀,_,_,b,hh1,e,fun Z2 H2 hh2 t2=>?_⟩
   have zl:Same Z (fun c=>if c=a then none else Z2 c):=fun c o q=>by
    have hc:c≠a:=bF q h3
    show (if c=a then none else Z2 c)=some o
    rw [if_neg hc]
    exact t2 c o (sz c o q)
   have back:Hold X.K H₀ Z₀ (fun c=>if c=a then none else Z2 c) δ σ H2:=by
    refine ⟨fun b o q=>?_,hh2.h0,hh.z0.trans zl,fun b hb=>?_,hh.len,fun j d q=>?_,fun j d q=>?_,hh.dja,hh.fr.same zl,fun b o xs q=>by
     have q:(if b=a then none else Z2 b)=_:=q
     split at q
     ·cases q
     ·exact hh2.nf b o xs q⟩
    ·have q:(if b=a then none else Z2 b)=some o:=q
     split at q
     ·cases q
     ·exact hh2.zh b o q
    ·show (if b=a then none else Z2 b)=_
     rw [if_neg (fun z=>hb (by rw [z]; exact h2))]
     exact hh2.zb b hb
    ·obtain ⟨v,g1,g2⟩:=hh.fz j d q
     exact ⟨v,g1,g2.same zl⟩
    ·by_cases hj:i=j
     ·subst hj
      rename_i q0
      rw [q0] at q
      cases q
      refine ⟨a,.lst xs,h1,h2,by simp,hh2.zh a _ (t2 a _ aL),.lst (h5.same zl)⟩
     ·exact absurd (pU i δ hso j d q) (Ne.symm hj)
   exact k _ H2 back zl
  ·exact ⟨H₀,Z₀,Z,_,b,hh,e,k⟩
end VL
namespace VL
open PySem PySem.Spec PyProof.Rows L2
@[simp] noncomputable def Ig (f:Dv->Option D) (u:Dv->Option Str):Dv->Option Str:=fun δ=>(f δ).bind fun _=>u δ
end VL
namespace VL
open PySem PySem.Spec PyProof.Rows L2
noncomputable def iY:D->Option Str
 | .dict [(.str k,.str n)]=>if k = "fn" then some n else none
 | _=>none
theorem nO (n:Str):iY (mO n)=some n:=by simp [iY,mO]
noncomputable def iX (i:Nat) (fs:Dv->Option (List D)) (tbl:List (Str×(List D->Option D))):Dv->Option D:=fun δ=>(oV i δ).bind fun d=>(iY d).bind fun n=>(tbl.lookup n).bind fun g=>(fs δ).bind g
@[simp] noncomputable def ti (i:Nat) (f:Dv->Option D):Sf:=fun δ=>(f δ).bind fun v=>(lstI v).bind fun es=>(xU δ[i]?).bind fun ds=>if ds.length+es.length<=sizeLine then some (.nx,δ.set i (.ow (ds++es))) else none
theorem ve {d:D} {n:Str} (h:iY d=some n):d=mO n:=by
 unfold iY at h
 split at h
 ·split at h
  ·rename_i hk; subst hk; cases h; rfl
  ·cases h
 ·cases h
structure CalF (P:Program) (w:World) (K:PySem.W.Frag) (mg:Str->Option Value) (base:Heap) (x:Str) (k:Nat) (g:List D->Option D):Prop where
 ex:∃ (fa:Addr) (fd:FuncData) (ps:List Str),FnOk P w K mg base d0 k fa fd ps (fE K g)/\PySem.W.nsIn K mainGlobals x=some (some (.ref fa))/\mg x=some (.ref fa)/\PySem.W.keepIn K (.ref fa)=true/\Binds K fd ps []
theorem sy {P:Program} {w:World} {K:PySem.W.Frag} {mg:Str->Option Value} {base:Heap} {k:Nat}:∀ n g,([]:List (Str×(List D->Option D))).lookup n=some g->∃ j,j<=k/\CalF P w K mg base n j g:=fun _ _ h=>by cases h
theorem o3 {P:Program} {w:World} {K:PySem.W.Frag} {mg:Str->Option Value} {base:Heap} {k j:Nat} {c:Str} {gc:List D->Option D} {tbl:List (Str×(List D->Option D))} (hj:j<=k) (V:CalF P w K mg base c j gc) (h:∀ n g,tbl.lookup n=some g->∃ j,j<=k/\CalF P w K mg base n j g):∀ n g,((c,gc)::tbl).lookup n=some g->∃ j,j<=k/\CalF P w K mg base n j g:=fun n g e=>by
 rw [List.lookup_cons] at e
 split at e
 ·rename_i hn
  cases e
  have:n=c:=by simpa using hn
  subst this
  exact ⟨j,hj,V⟩
 ·exact h n g e
structure Fnm (K:PySem.W.Frag) (mg:Str->Option Value) (x:Str):Prop where
 ex:∃ fa,PySem.W.nsIn K mainGlobals x=some (some (.ref fa))/\mg x=some (.ref fa)
section
variable {X:Cx} {e:Expr} {es:List Expr} {p pos:Pos} {fs:Dv->Option (List D)}
theorem qQ {x:Str} (F:Fnm X.K X.mg x) (hg:Gl X x) (hdb:(x==("__debug__":Str))=false:=by decide):EV X (.Name x pos) (oC (mO x)):=by
 obtain ⟨fa,h1,h2⟩:=F.ex
 exact xw (zi (v:=.ref fa) (u:=.ref fa) hg h2 rfl hdb) fun Z=>.opq (.fn h1)
theorem ms (i:Nat) {x:Str} {k:Nat} {tbl:List (Str×(List D->Option D))} (hT:∀ n g,tbl.lookup n=some g->∃ j,j<=k/\CalF X.prog X.w X.K X.mg X.base n j g) (hr:Room k X.A) (ha:AV X (e::es) fs) (hN:X.N[i]? = some x:=by rfl) (hv:AM X.env.scope x:=by first | exact Or.inl rfl | exact Or.inr (Or.inl rfl) | exact Or.inr (Or.inr rfl)) (hdb:(x==("__debug__":Str))=false:=by decide) (hcd:(x==("__classdict__":Str))=false:=by decide)
  (he:starEach (e::es) X.env=(false,eval e X.env)::starEach es X.env:=by rfl) (hpl:(backTo pos (starEach es X.env)).any (·.1)=false:=by rfl):EV X (.Call (.Name x p) (e::es) [] pos) (iX i fs tbl):=by
 intro pins s σ H Q I h
 obtain ⟨H₀,Z₀,Z,δ,d,hh,e0,kk⟩:=h
 unfold iX at e0
 obtain ⟨c,e1,e0⟩:=bind_some e0
 obtain ⟨n,e2,e4⟩:=bind_some e0
 obtain ⟨g,e3,e5⟩:=bind_some e4
 have:=ve e2
 subst this
 obtain ⟨v,hσ,rv⟩:=hh.read e1
 obtain ⟨j,hj,CF⟩:=hT n g e3
 obtain ⟨fa,fd,ps,F,hns,hm,hk,hb⟩:=CF.ex
 have hva:v=.ref fa:=by
  cases rv with
  | opq o=>
   cases o with
   | fn h1=>rw [hns] at h1; cases h1; rfl
   | dct h1 _=>exact absurd h1 fun z=>Av z
 subst hva
 refine wpAny_Call_Name_kw (cf (iR hN hv hdb hcd pins s σ H (fun v' H'=>v'=.ref fa/\H'=H) I ⟨_,hσ,rfl,rfl⟩) fun u s1 hq=>?_)
 obtain ⟨v',H',I1,r1,hv',hH'⟩:=hq
 subst hv'
 subst hH'
 cases (show u=Value.ref fa from r1)
 have ht:tV X.K (os fs g) σ H' Q:=⟨H₀,Z₀,Z,δ,d,hh,e5,kk⟩
 obtain ⟨H₀',Z₀',Z',δ',xs,hh',ea,q⟩:=args ht
 refine PySem.W.callWith_K (h₀:=X.base) I1.ok.mod.kin hk (cf (ha pos pins s1 σ H' (fun vs H1=>fE X.K g (vs++[]) H1 Q E0) I1 ⟨H₀',Z₀',Z',δ',xs,hh',ea,fun vs Z1 H1 hh1 t1 r1=>?_⟩) fun us s2 ⟨vs,H1,I2,r,q2⟩=>⟨I2.kIn,vV F (hr.mono hj) hb .nil AU I2 r q2⟩) he hpl
 show fE X.K g (vs++[]) H1 Q E0
 rw [List.append_nil]
 exact q vs Z1 H1 hh1 t1 r1
end
theorem sC (l:Addr) (items:Array Value) (n:Nat) (b:Addr) (items2:Array Value) (n2:Nat) (sl:Array (Option Value)) (hc0:¬(!items.isEmpty&&Builtin.List.listTooLong (items.size+items2.size))=true) (hc1:items.size<=sizeLine) (hs2:items.size+items2.size<=sizeLine+1) :
  Meets (Builtin.«list.extend» ⟨[.ref l,.ref b],[]⟩) (fun _ R s=>s.heap.get? l=some { cls:=.type "list",dict:=none,data:=.seq items n,slots:=#[] }/\s.heap.get? b=some { cls:=.type "list",dict:=none,data:=.seq items2 n2,slots:=sl }/\R (.ok (.ret Value.none)) { s with heap:=s.heap.update l (Obj.mapSeq fun x=>x++items2),toks:=s.toks }):=
 .of_wp fun prog w A R s h=>by
  obtain ⟨hp,g,d,tk,os⟩:=s; obtain ⟨hl,hb,h⟩:=h; have f1:=AutoSeq1.idx_int; have f2:=AutoSeq1.sub_tuple_tuple; have f3:=AutoSeq1.sub_list_list; have f4:=AutoSeq1.sub_tuple_list; have f5:=AutoSeq1.sub_list_tuple;
  have hz':(items++items2).size<=sizeLine+1:=by rw [Array.size_append]; exact hs2
  wp_walk using (wpAny_updateSeq hl rfl (hz:=hc1) (_hz':=hz')),AutoSeq1.wpAny_loadPart' hl,AutoSeq1.wpAny_loadPart' hb; exact ⟨_,rfl,h⟩
def DU (K:Fg):V->List V->Hp->VK->Prop:=fun x vs H Q=>∃ l b xs zs,x=.ref l/\vs=[.ref b]/\H l=some (.lst xs)/\SqL K H b zs/\xs.length+zs.length<=sizeLine/\Q .non (upd H l (.lst (xs++zs)))
section
variable {X:Cx}
theorem zA:I0 X "list.extend" (DU X.K):=by
 intro pins s σ H x vs v us Q I rx rv h
 obtain ⟨l,b,xs,zs,rfl,rfl,hH,hB,hz,q⟩:=h
 cases rx
 obtain ⟨u,rfl,ru⟩:=rv.one
 cases ru
 obtain ⟨z,its,n,r,hl,e⟩:=I.lstM hH
 obtain ⟨its2,r2,⟨o2,n2,e2,hc,hd,hs⟩,z2⟩:=I.list hB
 have hl2:=r2.length
 obtain ⟨c2,d2,dt2,sl2⟩:=o2
 dsimp only at hc hd hs
 subst hc hd hs
 have hsz:its.toArray.size+its2.toArray.size<=sizeLine:=by rw [List.size_toArray,List.size_toArray]; omega
 have hlong:¬ (!its.toArray.isEmpty&&Builtin.List.listTooLong (its.toArray.size+its2.toArray.size))=true:=by
  rw [wA hsz,Bool.and_false]
  exact Bool.false_ne_true
 refine call_meets F.slot_list_extend ⟨_,e,rfl⟩ F.entry_list_extend (F.args_list_extend_2 _ _)
  (sC l its.toArray n b its2.toArray n2 sl2 hlong (by rw [List.size_toArray]; omega) (by omega)) ⟨e,e2,?_⟩
 refine ⟨.non,_,I.lset (its':=its++its2) hH e (by simp) (r.append r2) ?_,rfl,q⟩
 rw [List.length_append]
 omega
end
section
variable {X:Cx} {e:Expr} {f:Dv->Option D} {p pos apos:Pos}
theorem oj (i:Nat) {x:Str} {cpos:Pos} (hv':EV X e f) (hN:X.N[i]? = some x:=by rfl) (hv:AM X.env.scope x:=by first | exact Or.inl rfl | exact Or.inr (Or.inl rfl) | exact Or.inr (Or.inr rfl)) (hd:(x==("__debug__":Str))=false:=by decide) (hcd:(x==("__classdict__":Str))=false:=by decide)
  (hbase:attributeBase (.Name x p) "extend" X.env (eval (.Name x p) X.env)=eval (.Name x p) X.env:=by rfl)
  (hfew:((backTo cpos (starEach [e] X.env)).all (fun x=>!x.1)&&(backToKw cpos (keywordEach [] X.env)).all (fun x=>x.1.isSome)
   && decide ([e].length+([]:List Keyword).length+(if ([]:List Keyword).isEmpty then 0 else 1)<30))=true:=by rfl)
  (hline:(apos.endLine==cpos.line)=true:=by rfl) (hs:starEach [e] X.env=(false,eval e X.env)::starEach [] X.env:=by rfl) (hplain:(backTo cpos (starEach [] X.env)).any (·.1)=false:=by rfl)
  (hsw:swapsWith (.Call (.Attribute (.Name x p) "extend" apos) [e] [] cpos) none pos.line X.env=pure false:=by rfl):SV X (.Expr (.Call (.Attribute (.Name x p) "extend" apos) [e] [] cpos) pos) (ti i f):=
 PS.imp (oz (wp PySem.F.plainAttrs_list PySem.F.slot_list_extend PySem.F.type_list_extend zA (iR hN hv hd hcd) (fR hv' iS hs) hbase hfew hline hs hplain) hsw) fun D σ H h=>by
  obtain ⟨H₀,Z₀,Z,δ,r,hh,e,k⟩:=h
  obtain ⟨v,e1,e⟩:=bind_some e
  obtain ⟨es,e3,e⟩:=bind_some e
  obtain ⟨ds,e2,e⟩:=bind_some e
  by_cases hl:ds.length+es.length<=sizeLine
  ·rw [if_pos hl] at e
   cases e
   cases v with
   | list es'=>
    cases e3
    obtain ⟨a,xs,h1,h4,h5⟩:=lQ hh e2
    refine ⟨_,h1,.inl ⟨rfl,xs,SqL.of h4⟩,H₀,Z₀,Z,δ,_,hh,e1,fun w Z1 H1 hh1 t1 r1=>?_⟩
    obtain ⟨a',xs',g1,g4,g5⟩:=lQ hh1 e2
    rw [h1] at g1
    cases g1
    cases r1 with
    | lst q1 q2=>
     exact ⟨a,_,xs',_,rfl,rfl,g4,SqL.same q1 hh1.zh,by rw [g5.length,q2.length]; exact hl,k σ _ Z1 (hh1.chg (xs:=xs') (rR e2) h1 (g5.append q2)) t1⟩
   | _=>cases e3
  ·rw [if_neg hl] at e; cases e
end
end VL
namespace VL
open PySem PySem.Spec PyProof.Rows L2
end VL
namespace VL
open PySem PySem.Spec PyProof.Rows L2
end VL
namespace VL
open PySem PySem.Spec PyProof.Rows L2
theorem sh {α:Type}:∀ {us:List α},us.length=1->∃ a,us=[a]
 | [a],_=>⟨a,rfl⟩
theorem gb {α:Type} {us:List α} (h:us.length=2):∃ a b,us=[a,b]:=by
 cases us with
 | nil=>cases h
 | cons a r=>
  obtain ⟨b,rfl⟩:=sh (Nat.succ.inj h)
  exact ⟨a,b,rfl⟩
theorem uW {α:Type} {us:List α} (h:us.length=3):∃ a b c,us=[a,b,c]:=by
 cases us with
 | nil=>cases h
 | cons a r=>
  obtain ⟨b,c,rfl⟩:=gb (Nat.succ.inj h)
  exact ⟨a,b,c,rfl⟩
theorem Hg {α:Type} {us:List α} (h:us.length=4):∃ a b c d,us=[a,b,c,d]:=by
 cases us with
 | nil=>cases h
 | cons a r=>
  obtain ⟨b,c,d,rfl⟩:=uW (Nat.succ.inj h)
  exact ⟨a,b,c,d,rfl⟩
end VL
namespace VL
open PySem PySem.Spec PyProof.Rows L2
end VL
namespace VL
open PySem PySem.Spec PyProof.Rows L2
end VL
namespace VL
open PySem PySem.Spec PyProof.Rows L2
def DefIn (K:PySem.W.Frag) (x y:Str) (st:Stmt):Prop:=∃ f fd,PySem.W.nsIn K mainGlobals x=some (some (.ref f))/\FunV K y y st f fd .none/\PySem.W.keepIn K (.ref f)=true
def aW (x:Str) (st:Stmt) (ps:List Str):Prop:=∀ (kV doc pm:Value) (an:Option Addr) (cdv ct:Value) (us:List Value),us.length=ps.length->bindArgs (PySem.W.fnOf x x (di st) (cz st) (ar st) .none kV doc pm an cdv ct) ⟨us,[]⟩=pure (ps.zip us)
section
variable {P:Program} {w:World} {K:PySem.W.Frag} {mg:Str->Option Value} {base h:Heap} {x y:Str} {st:Stmt} {k:Nat} {ps:List Str}
theorem DefIn.mk {f:Addr} {oc:Value} {od an:Option Addr} {osl:Array (Option Value)} {kV doc pm cdv ct:Value} (a:PySem.W.nsIn K mainGlobals x=some (some (.ref f))) (l:K.lookup f=some ⟨oc,od,.func (PySem.W.fnOf y y (di st) (cz st) (ar st) .none kV doc pm an cdv ct),osl⟩)
  (c:PySem.W.codeIn K cdv y=true) (k:PySem.W.keepIn K (.ref f)=true):DefIn K x y st:=⟨_,_,a,o5 l c k,k⟩
variable (D:DefIn K x y st) (X:K.In h) (G:h.Ns mainGlobals mg) (b:aW y st ps)
include D X G
theorem DefIn.fnm:Fnm K mg x:=by
 obtain ⟨f,fd,a,F,hk⟩:=D
 exact ⟨⟨_,a,PySem.W.mg_of X G a⟩⟩
include b
theorem DefIn.cal {g:List VL.D->Option VL.D} (ok:∀ f fd,FunV K y y st f fd .none->FnOk P w K mg base d0 k f fd ps (fE K g)):Cal P w K mg base x k g []:=by
 obtain ⟨f,fd,a,F,hk⟩:=D
 exact Cal.mk0 (ok f fd F) (PySem.W.mg_of X G a) hk (F.binds b)
theorem DefIn.calR {g:List VL.D->Option VL.D} (ok:∀ f fd,FunV K y y st f fd .none->mg x=some (.ref f)->PySem.W.keepIn K (.ref f)=true->Binds K fd ps []->FnOk P w K mg base d0 k f fd ps (fE K g)):Cal P w K mg base x k g []:=by
 obtain ⟨f,fd,a,F,hk⟩:=D
 exact Cal.mk0 (ok f fd F (PySem.W.mg_of X G a) hk (F.binds b)) (PySem.W.mg_of X G a) hk (F.binds b)
theorem DefIn.calF {g:List VL.D->Option VL.D} (ok:∀ f fd,FunV K y y st f fd .none->FnOk P w K mg base d0 k f fd ps (fE K g)):CalF P w K mg base x k g:=by
 obtain ⟨f,fd,a,F,hk⟩:=D
 exact ⟨⟨_,_,_,ok f fd F,a,PySem.W.mg_of X G a,hk,F.binds b⟩⟩
end
noncomputable def IY (fd:FuncData) (us:List Value):{kk:Option (Array Value)->Sem (List (Str×Value)) // bindArgs fd ⟨us,[]⟩=seqItems? fd.defaults >>= kk}:=⟨_,rfl⟩
theorem FunV.bindsK {K:PySem.W.Frag} {x qual:Str} {st:Stmt} {f T:Addr} {fd:FuncData} {ps:List Str} {o:Obj} {items:Array Value} {n:Nat} {ds:List Value} (F:FunV K x qual st f fd (.ref T)) (ho:K.lookup T=some o) (hs:o.data=.seq items n) (nu:Nat) (hn:nu+ds.length=ps.length)
  (h:∀ (kV doc pm:Value) (an:Option Addr) (cdv ct:Value) (us:List Value),us.length=nu->(IY (PySem.W.fnOf x qual (di st) (cz st) (ar st) (.ref T) kV doc pm an cdv ct) us).1 (some items)=pure (ps.zip (us++ds))):Binds K fd ps ds:=
 F.bindsD ho hs nu hn fun kV doc pm an cdv ct us hl=>⟨_,(IY (PySem.W.fnOf x qual (di st) (cz st) (ar st) (.ref T) kV doc pm an cdv ct) us).2,h kV doc pm an cdv ct us hl⟩
end VL
namespace VL
open PySem PySem.Spec PyProof.Rows L2
open AutoSeq1 (wpAny_loadPart')
end VL
namespace VL
open PySem PySem.Spec PyProof.Rows L2
noncomputable def Jx (z:Bool):D->D->Option D
 | .bool a,.bool b=>some (.bool (z != (a==b)))
 | _,_=>none
@[simp] theorem EN (z a b:Bool):Jx z (.bool a) (.bool b)=some (.bool (z != (a==b))):=rfl
end VL
namespace VL
open PySem PySem.Spec PyProof.Rows L2
end VL
namespace L2
open PySem PySem.Spec PyProof.Rows
end L2
namespace L2
open PySem PySem.Spec PyProof.Rows
end L2
namespace L2
open PySem PySem.Spec PyProof.Rows
end L2
namespace L2
open PySem PySem.Spec PyProof.Rows
end L2
namespace L2
open PySem PySem.Spec PyProof.Rows
end L2
namespace L2
open PySem PySem.Spec PyProof.Rows
end L2
namespace L2
open PySem PySem.Spec PyProof.Rows
end L2
namespace L2
open PySem PySem.Spec PyProof.Rows
end L2
namespace L2
open PySem PySem.Spec PyProof.Rows
end L2
namespace L2
open PySem PySem.Spec PyProof.Rows
end L2
namespace L2
open PySem PySem.Spec PyProof.Rows
section
variable {κ:Type} [DecidableEq κ]
noncomputable def jd (kvs:List (κ × V)) (k:κ):Option V:=(kvs.find? fun kv=>decide (kv.1=k)).map (·.2)
noncomputable def j3 (kvs:List (κ × V)) (k:κ) (v:V):List (κ × V):=
 if (kvs.any fun kv=>decide (kv.1=k))=true then kvs.map (fun kv=>if kv.1=k then (kv.1,v) else kv) else kvs++[(k,v)]
theorem jb {p:κ × V} {r:List (κ × V)} {k:κ} (e:p.1=k):jd (p::r) k=some p.2:=by simp [jd,List.find?_cons,e]
theorem jc {p:κ × V} {r:List (κ × V)} {k:κ} (e:¬ p.1=k):jd (p::r) k=jd r k:=by simp [jd,List.find?_cons,e]
theorem pN (k:κ):∀ kvs:List (κ × V),(kvs.any fun kv=>decide (kv.1=k))=(jd kvs k).isSome
 | []=>rfl
 | p::r=>by
  rw [List.any_cons]
  by_cases e:p.1=k
  ·simp only [jb e,decide_eq_true e,Bool.true_or,Option.isSome_some]
  ·rw [jc e,decide_eq_false e,Bool.false_or]; exact pN k r
theorem qA (kvs:List (κ × V)) (k:κ) (v:V):(j3 kvs k v).length<=kvs.length+1:=by
 unfold j3
 split
 ·rw [List.length_map]; omega
 ·rw [List.length_append,List.length_cons,List.length_nil]; omega
theorem qc {kvs:List (κ × V)} {k:κ} (v:V) (h:jd kvs k=none):j3 kvs k v=kvs++[(k,v)]:=by
 unfold j3
 rw [pN,h]
 exact if_neg (by decide)
theorem RelO.isSome_eq {o:Option V} {u:Option Value} (r:RelO o u):o.isSome=u.isSome:=by
 cases o with
 | none=>cases u with
  | none=>rfl
  | some _=>exact (show False from r).elim
 | some _=>cases u with
  | none=>exact (show False from r).elim
  | some _=>rfl
theorem RelO.getD {o:Option V} {u:Option Value} {d:V} {d':Value} (r:RelO o u) (rd:RelV d d'):RelV (o.getD d) (u.getD d'):=by
 cases o with
 | none=>cases u with
  | none=>exact rd
  | some _=>exact (show False from r).elim
 | some _=>cases u with
  | none=>exact (show False from r).elim
  | some _=>exact r
theorem KV.val {kvs:List (κ × V)} {vs:List (κ × Value)} (r:KV kvs vs) (k:κ):RelO (jd kvs k) (valueAt vs k):=by
 unfold KV at r
 induction r with
 | nil=>exact True.intro
 | @cons p q ps qs h t ih=>
  obtain ⟨h1,h2⟩:=h
  by_cases e:p.1=k
  ·have e':q.1=k:=h1.symm.trans e
   have b:valueAt (q::qs) k=some q.2:=by simp [valueAt,List.find?_cons,e']
   rw [jb e,b]; exact h2
  ·have e':¬ q.1=k:=fun z=>e (h1.trans z)
   have b:valueAt (q::qs) k=valueAt qs k:=by simp [valueAt,List.find?_cons,e']
   rw [jc e,b]; exact ih
theorem KV.any {kvs:List (κ × V)} {vs:List (κ × Value)} (r:KV kvs vs) (k:κ):(kvs.any fun kv=>decide (kv.1=k))=vs.any fun kv=>decide (kv.1=k):=by
 unfold KV at r
 induction r with
 | nil=>rfl
 | cons h t ih=>rw [List.any_cons,List.any_cons,ih,h.1]
theorem KV.repl {kvs:List (κ × V)} {vs:List (κ × Value)} (r:KV kvs vs) (k:κ) {y:V} {u:Value} (ry:RelV y u) :
  KV (kvs.map fun kv=>if kv.1=k then (kv.1,y) else kv) (vs.map fun kv=>if kv.1=k then (kv.1,u) else kv):=by
 unfold KV at r ⊢
 induction r with
 | nil=>exact .nil
 | @cons p q ps qs h t ih=>
  rw [List.map_cons,List.map_cons]
  refine .cons ?_ ih
  obtain ⟨h1,h2⟩:=h
  by_cases e:p.1=k
  ·rw [if_pos e,if_pos (h1.symm.trans e)]; exact ⟨h1,ry⟩
  ·rw [if_neg e,if_neg (fun z=>e (h1.trans z))]; exact ⟨h1,h2⟩
theorem KV.put {kvs:List (κ × V)} {vs:List (κ × Value)} (r:KV kvs vs) (k:κ) {y:V} {u:Value} (ry:RelV y u):KV (j3 kvs k y) (stored vs k u):=by
 unfold j3 stored
 rw [r.any k]
 by_cases e:(vs.any fun kv=>decide (kv.1=k))=true
 ·rw [if_pos e,if_pos e]; exact r.repl k ry
 ·rw [if_neg e,if_neg e]; exact Paired.snoc r ⟨rfl,ry⟩
end
theorem tR {P:Program} {w:World} {k:aY} {u:Value} (r:RelV (kV k) u):(ci P w).is k u=true:=by
 cases k with
 | inl i=>obtain ⟨t,e⟩:=(show ∃ t,u=Value.int i t from r); subst e; exact qp P w i t
 | inr x=>obtain ⟨t,e⟩:=(show ∃ t,u=Value.str x t from r); subst e; exact qo P w x t
theorem nJ {P:Program} {w:World}:∀ {ks:List aY} {us:List Value},Vals (ks.map kV) us->ItemsAre (ci P w) ks us
 | [],_,r=>by rw [List.map_nil] at r; cases r; exact .nil
 | k::ks,_,r=>by
  rw [List.map_cons] at r
  cases r with
  | cons h t=>exact .cons (tR h) (nJ t)
abbrev KT (H:Hp):List (List aY×V)->List (List aY×Addr×Value)->Prop:=Paired fun p q=>p.1=q.1/\H q.2.1=some (.tup (p.1.map kV))/\RelV p.2 q.2.2
theorem KT.val {H:Hp} {kvs:List (List aY×V)} {xs:List (List aY×Addr×Value)} (r:KT H kvs xs) (k:List aY):RelO (jd kvs k) ((atKey xs k).map (·.2)):=by
 induction r with
 | nil=>exact True.intro
 | @cons p q ps qs h t ih=>
  obtain ⟨h1,_,h2⟩:=h
  by_cases e:p.1=k
  ·have e':q.1=k:=h1.symm.trans e
   have b:atKey (q::qs) k=some q.2:=by simp [atKey,List.find?_cons,e']
   rw [jb e,b]; exact h2
  ·have e':¬ q.1=k:=fun z=>e (h1.trans z)
   have b:atKey (q::qs) k=atKey qs k:=by simp [atKey,List.find?_cons,e']
   rw [jc e,b]; exact ih
section
variable {P:Program} {w:World} {H:Hp} {h:Heap} {a:Addr}
theorem AT {u:HO} (ok:HOk P w H h) (e:Rd H a u):ObjOk P w H h a u:=e.ok ok
theorem t9 {kvs:List (aY×V)} (ok:HOk P w H h) (e:Rd H a (.dK kvs)):kvs.length<=sizeLine/\(a==sysModules)=false/\∃ vs,KV kvs vs/\h.DictOf (ci P w) a vs:=
 show ObjOk P w H h a (.dK kvs) from AT ok e
theorem Ft {kvs:List (aY×V)} (ok:HOk P w H h) (e:H a=some (.dK kvs)):kvs.length<=sizeLine/\(a==sysModules)=false/\∃ vs,KV kvs vs/\h.DictOf (ci P w) a vs:=t9 ok (.inl e)
theorem si {ks:List aY} (ok:HOk P w H h) (e:H a=some (.tup (ks.map kV))):(tupleKind (ci P w)).is h ks a:=by
 obtain ⟨_,its,r,⟨o,h1,h2,n,h3⟩,_⟩:=(show ObjOk P w H h a (.tup (ks.map kV)) from ok a _ e)
 exact ⟨o,its.toArray,n,h1,h2,h3,by simpa using nJ r⟩
theorem xB {kvs:List (List aY×V)} (ok:HOk P w H h) (e:Rd H a (.dT kvs)):kvs.length<=sizeLine/\(a==sysModules)=false /\
  ∃ xs,KT H kvs xs/\h.DictOfH (tupleKind (ci P w)) a xs:=by
 obtain ⟨z,y,xs,r,o,es,ep,h1,h2,h3,h4,h5⟩:=(show ObjOk P w H h a (.dT kvs) from AT ok e)
 refine ⟨z,y,xs,r,o,es,ep,h1,h2,h3,h4,fun x hx=>?_,h5⟩
 have all:∀ {l:List (List aY×V)} {m:List (List aY×Addr×Value)},KT H l m->∀ x∈m,(tupleKind (ci P w)).is h x.1 x.2.1:=by
  intro l m q
  induction q with
  | nil=>intro x hx; exact nomatch hx
  | @cons p q ps qs hq t ih=>
   intro x hx
   rcases List.mem_cons.mp hx with e | hx
   ·subst e
    exact si ok (by rw [<- hq.1]; exact hq.2.1)
   ·exact ih x hx
 exact all r x hx
end
def DGet (H:Hp) (a:Addr) (y:V) (r:Option V):Prop:=
 (∃ kvs k,Rd H a (.dK kvs)/\y=kV k/\r=jd kvs k)\/∃ kvs k b,Rd H a (.dT kvs)/\y=.ref b/\H b=some (.tup (k.map kV))/\r=jd kvs k
theorem DGet.k {H:Hp} {a:Addr} {kvs:List (aY×V)} {k:aY} (e:H a=some (.dK kvs)):DGet H a (kV k) (jd kvs k):=.inl ⟨kvs,k,.inl e,rfl,rfl⟩
section
variable {X:Cx} {pins:List (Addr×Obj)} {σ:St} {H:Hp} {s:Shared} {a:Addr} {y v:V} {u r:Value} {o:Option V} {A:Around} {E:Value->Shared->Prop}
theorem Inv.big (I:Inv X pins σ H s):sysModules<s.heap.objs.size:=by
 have h:mainGlobals<s.heap.objs.size:=(I.mod.glob.keeps I.bk).lt
 exact Nat.lt_trans (by decide) h
theorem kQ {Q:Value->Shared->Prop} (hu:A.units+1<cLine) (I:Inv X pins σ H s) (g:DGet H a y o) (ry:RelV y u) (h:∀ s',Inv X pins σ H s'->Q (.bool o.isSome) s') :
  wpAny (model X.prog X.w) A (compareOp .In u (.ref a)) Q E s:=by
 rcases g with ⟨kvs,k,e,ey,l⟩ | ⟨kvs,k,b,e,ey,eb,l⟩
 ·subst ey
  obtain ⟨z,hd,vs,rel,dd⟩:=t9 I.hok e
  refine wpAny_in_of (tR ry) hd dd.mapOf ?_
  rw [<- (rel.val k).isSome_eq,<- l]
  exact h _ (I.tok _)
 ·subst ey
  cases (show u=Value.ref b from ry)
  obtain ⟨z,hd,xs,rel,dd⟩:=xB I.hok e
  refine wpAny_in_heap (tupleKind_room_in1 hu) (si I.hok eb) hd dd ?_
  have q:=(rel.val k).isSome_eq
  rw [Option.isSome_map] at q
  rw [<- q,<- l]
  exact h _ (I.tok _)
theorem Ax {h':Heap} {t':Nat} {ob:HO} (I:Inv X pins σ H s) (mu:FN (H a)) (hs:Heap.SameBut a s.heap h') (he:∃ q,h'.get? a=some q) (new:ObjOk X.prog X.w (upd H a ob) h' a ob) :
  Inv X pins σ (upd H a ob) { s with heap:=h',toks:=t' }:=
 I.write (x:=a) (e:=a) mu (.inl rfl) (fun b q hb z=>(hs.2 b hb).trans z) he new
theorem CP {P:Program} {w:World} {H':Hp} {h':Heap} {kvs:List (aY×V)} {vs:List (aY×Value)} (z:kvs.length<=sizeLine) (hd:(a==sysModules)=false) (rel:KV kvs vs) (dd:h'.DictOf (ci P w) a vs) :
  ObjOk P w H' h' a (.dK kvs):=⟨z,hd,vs,rel,dd⟩
end
theorem xD {P:Program} {w:World} {H:Hp} (h:Heap) (hb:sysModules<h.objs.size):ObjOk P w H (h.push { cls:=.type "dict",data:=.dict #[] }) h.objs.size (.dK []):=
 ⟨Nat.zero_le _,beq_eq_false_iff_ne.mpr (Ne.symm (Nat.ne_of_lt hb)),[],.nil,Heap.DictOf.new h⟩
def oi:List (TE×TE)->St->Hp->(List (V×V)->Hp->Prop)->Prop
 | [],_,H,Q=>Q [] H
 | (tk,tv)::r,σ,H,Q=>tk σ H fun x H1=>tv σ H1 fun y H2=>oi r σ H2 fun ps H3=>Q ((x,y)::ps) H3
abbrev VV:List (V×V)->List (Value×Value)->Prop:=Paired fun p q=>RelV p.1 q.1/\RelV p.2 q.2
def FM (X:Cx) (pos:Pos) (keys:List (Option Expr)) (values:List Expr) (trs:List (TE×TE)):Prop:=
 ∀ (pins:List (Addr×Obj)) (s:Shared) (σ:St) (H:Hp) (Q:List (V×V)->Hp->Prop),Inv X pins σ H s->oi trs σ H Q ->
  wpAny (model X.prog X.w) X.A (evalPairs (pairTrees keys values X.env pos)) (fun vs s'=>∃ ps H',Inv X pins σ H' s'/\VV ps vs/\Q ps H') X.xe s
theorem zc {X:Cx} {pos:Pos}:FM X pos [] [] []:=fun pins s σ H Q I h=>pairTrees_nil_walk ⟨[],H,I,.nil,h⟩
theorem wa {X:Cx} {pos:Pos} {k v:Expr} {ks:List (Option Expr)} {vs:List Expr} {tk tv:TE} {trs:List (TE×TE)} (hk:PE X k tk) (hv:PE X v tv) (hr:FM X pos ks vs trs) :
  FM X pos (some k::ks) (v::vs) ((tk,tv)::trs):=fun pins s σ H Q I h=>
 pairTrees_cons_walk (cf (hk pins s σ H _ I h) fun u s1 ⟨x,H1,I1,rx,q1⟩=>cf (hv pins s1 σ H1 _ I1 q1) fun w2 s2 ⟨y,H2,I2,ry,q2⟩=>
  cf (hr pins s2 σ H2 _ I2 q2) fun ws s3 ⟨ps,H3,I3,rel,q3⟩=>⟨(x,y)::ps,H3,I3,.cons ⟨rx,ry⟩ rel,q3⟩)
noncomputable def gJ (kvs more:List (aY×V)):List (aY×V):=more.foldl (fun acc kv=>j3 acc kv.1 kv.2) kvs
theorem KV.merge:∀ {more:List (aY×V)} {rs:List (aY×Value)} {kvs:List (aY×V)} {vs:List (aY×Value)},KV more rs->KV kvs vs->KV (gJ kvs more) (merged vs rs):=by
 intro more rs kvs vs r
 unfold KV at r
 induction r generalizing kvs vs with
 | nil=>intro q; exact q
 | @cons p q ps qs h t ih=>
  intro r0
  have e:KV (j3 kvs p.1 p.2) (stored vs q.1 q.2):=by
   have:=r0.put p.1 h.2
   rw [<- h.1]; exact this
  exact ih e
theorem iK:∀ (more kvs:List (aY×V)),(gJ kvs more).length<=kvs.length+more.length
 | [],kvs=>by show kvs.length<=kvs.length+0; omega
 | p::r,kvs=>by
  have h1:=iK r (j3 kvs p.1 p.2)
  have h2:=qA kvs p.1 p.2
  show (gJ (j3 kvs p.1 p.2) r).length<=_
  rw [List.length_cons]; omega
theorem mE {P:Program} {w:World}:∀ {kvs:List (aY×V)} {ws:List (Value×Value)},VV (kvs.map fun kv=>(kV kv.1,kv.2)) ws->∃ rs,Carries (ci P w) ws rs/\KV kvs rs
 | [],_,r=>by rw [List.map_nil] at r; cases r; exact ⟨[],True.intro,.nil⟩
 | p::kvs,_,r=>by
  rw [List.map_cons] at r
  cases r with
  | @cons a b as bs h t=>
   obtain ⟨rs,c,q⟩:=mE (P:=P) (w:=w) t
   obtain ⟨b1,b2⟩:=b
   exact ⟨(p.1,b2)::rs,⟨tR h.1,rfl,c⟩,.cons ⟨rfl,h.2⟩ q⟩
def DH (trs:List (TE×TE)):TE:=fun σ H Q=>∀ p,H p=none->oi trs σ (upd H p (.dK [])) fun ps H2=>H2 p=some (.dK [])/\∃ kvs:List (aY×V),ps=kvs.map (fun kv=>(kV kv.1,kv.2))/\kvs.length<=15/\Q (.ref p) (upd H2 p (.dK (gJ [] kvs)))
theorem zj {X:Cx} {pos:Pos} {keys:List (Option Expr)} {values:List Expr} {trs:List (TE×TE)} (h:FM X pos keys values trs) (hall:keys.all (·.isSome)=true) (hl:keys.length=values.length) (h0:keys≠[])
  (h15:keys.length<=15):PE X (.Dict keys values pos) (DH trs):=by
 intro pins s σ H Q I q
 have hn:=I.hok.fresh (Nat.le_refl s.heap.objs.size)
 have I1:=I.laid (a:=s.heap.objs.size) (o:=.dK []) (h':=s.heap.push { cls:=.type "dict",data:=.dict #[] }) (t':=s.toks) (fun _ _ q=>Heap.get?_push_of_some _ q) (Nat.le_refl _) (xD s.heap I.big)
 refine wpAny_Dict_walk (knd:=ci X.prog X.w) hall hl h0 h15 (cf (h pins _ σ _ _ I1 (q _ hn)) fun ws s2 ⟨ps,H2,I2,rel,e,kvs,ep,lk,q2⟩=>?_)
 subst ep
 obtain ⟨rs,c,rk⟩:=mE (P:=X.prog) (w:=X.w) rel
 obtain ⟨z,hd,vs0,r0,dd⟩:=Ft I2.hok e
 cases r0
 refine ⟨rs,c,dd,fun h' dd' hs=>⟨.ref s.heap.objs.size,_,?_,rfl,q2⟩⟩
 have hz:(gJ [] kvs).length<=sizeLine:=by
  have h1:=iK kvs []
  rw [List.length_nil] at h1
  rw [sizeLine_eq]; omega
 have he:∃ q,h'.get? s.heap.objs.size=some q:=let ⟨q,_,_,hq,_⟩:=dd'; ⟨q,hq⟩
 exact Ax I2 (by rw [e]; exact True.intro) hs he (CP hz hd (rk.merge .nil) dd')
structure M2 (X:Cx) (o:Expr) (m:Str) (apos:Pos) (e f:Expr) (cpos:Pos):Prop where
 base:attributeBase o m X.env (eval o X.env)=eval o X.env
 few:((backTo cpos (starEach [e,f] X.env)).all (fun x=>!x.1)&&(backToKw cpos (keywordEach [] X.env)).all (fun x=>x.1.isSome)
  && decide (([e,f]:List Expr).length+([]:List Keyword).length+(if ([]:List Keyword).isEmpty then 0 else 1)<30))=true
 line:(apos.endLine==cpos.line)=true
 trees:backTo cpos (starEach [e,f] X.env)=[(false,eval e X.env),(false,eval f X.env)]
def Jc (H:Hp) (a:Addr):Prop:=(∃ kvs,Rd H a (.dK kvs))\/∃ kvs,Rd H a (.dT kvs)
theorem Cu {X:Cx} {pins:List (Addr×Obj)} {σ:St} {H:Hp} {s:Shared} {a:Addr} (I:Inv X pins σ H s) (d:Jc H a) :
  s.TypeIs (.ref a) "dict" /\ (∀ b,Value.ref a=.ref b->∃ ob,s.heap.get? b=some ob/\ob.dict=none)/\(a==sysModules)=false:=by
 rcases d with ⟨kvs,e⟩ | ⟨kvs,e⟩
 ·obtain ⟨_,hd,vs,_,dd⟩:=t9 I.hok e
  refine ⟨dd.typeIs,fun b q=>?_,hd⟩
  cases q
  obtain ⟨ob,_,_,h1,h2,_⟩:=dd
  exact ⟨ob,h1,h2.2.1⟩
 ·obtain ⟨_,hd,xs,_,dd⟩:=xB I.hok e
  refine ⟨dd.typeIs,fun b q=>?_,hd⟩
  cases q
  obtain ⟨ob,_,_,h1,h2,_⟩:=dd
  exact ⟨ob,h1,h2.2.1⟩
section
variable {X:Cx} {pins:List (Addr×Obj)} {σ:St} {H:Hp} {s:Shared} {a:Addr} {y d:V} {u r:Value} {o:Option V} {A:Around} {E:Value->Shared->Prop}
theorem CS {Q:Value->Shared->Prop} (hu:A.units+1<cLine) (I:Inv X pins σ H s) (g:DGet H a y o) (ry:RelV y u) (rd:RelV d r) (h:∀ w' s',Inv X pins σ H s'->RelV (o.getD d) w'->Q w' s') :
  wpAny (model X.prog X.w) A (call (.builtin "dict.get") [.ref a,u,r]) Q E s:=by
 rcases g with ⟨kvs,k,e,ey,l⟩ | ⟨kvs,k,b,e,ey,eb,l⟩
 ·subst ey
  obtain ⟨z,hd,vs,rel,dd⟩:=t9 I.hok e
  refine call_meetsIn PySem.F.slot_dict_get dd.typeIs PySem.F.entry_dict_get (PySem.F.args_dict_get_3 _ _ _) (meets_dict_get_default (ci X.prog X.w) a (tR ry) hd r) ⟨_,dd.mapOf,h _ _ (I.tok _) ?_⟩
  rw [l]
  exact (rel.val k).getD rd
 ·subst ey
  cases (show u=Value.ref b from ry)
  obtain ⟨z,hd,xs,rel,dd⟩:=xB I.hok e
  refine call_meetsIn PySem.F.slot_dict_get dd.typeIs PySem.F.entry_dict_get (PySem.F.args_dict_get_3 _ _ _) (meetsH_dict_get_default (tupleKind (ci X.prog X.w)) a b hd r) ⟨tupleKind_room_in1 hu,k,xs,si I.hok eb,dd,h _ _ (I.tok _) ?_⟩
  rw [l]
  exact (rel.val k).getD rd
end
def Bt (td ty tx:TE):TE:=fun σ H Q=>td σ H fun x H1=>∃ a,x=.ref a/\Jc H1 a/\ty σ H1 fun y H2=>tx σ H2 fun z H3=>∃ o,DGet H3 a y o/\Q (o.getD z) H3
section
variable {X:Cx} {o e f:Expr} {apos cpos:Pos} {td ty tx:TE}
theorem wn (hu:X.A.units+1<cLine) (ho:PE X o td) (he:PE X e ty) (hf:PE X f tx) (m:M2 X o "get" apos e f cpos):PE X (.Call (.Attribute o "get" apos) [e,f] [] cpos) (Bt td ty tx):=by
 intro pins s σ H Q I h
 refine wpAny_Call_method m.base m.few m.line PySem.F.plainAttrs_dict PySem.F.slot_dict_get PySem.F.type_dict_get (cf (ho pins s σ H _ I h) fun u s1 ⟨x,H1,I1,rx,a,ex,d,q1⟩=>?_)
 subst ex
 obtain rfl:u=Value.ref a:=rx
 obtain ⟨t1,t2,_⟩:=Cu I1 d
 refine ⟨t1,t2,?_⟩
 rw [m.trees]
 refine Calls.callWith_builtin rfl (Calls.evalArgs_plain (Calls.spliced_cons (cf (he pins s1 σ H1 _ I1 q1) fun iv s2 ⟨y,H2,I2,ry,q2⟩=>
  Calls.spliced_cons (cf (hf pins s2 σ H2 _ I2 q2) fun fv s3 ⟨z,H3,I3,rz,ov,g,q3⟩=>Calls.spliced_nil ?_))))
 exact CS hu I3 g ry rz fun w' s4 I4 rw'=>⟨_,H3,I4,rw',q3⟩
end
end L2
namespace Att
open PySem PySem.W PySem.Calls PyProof.Rows
end Att
namespace L2
open PySem PySem.Spec PyProof.Rows
end L2
namespace L2
open PySem PySem.Spec PyProof.Rows
end L2
namespace L2
open PySem PySem.Spec PyProof.Rows
end L2
namespace VL
open PySem PySem.Spec PyProof.Rows L2
noncomputable def qH:D->Option aY
 | .int i=>some (.inl i)
 | .str x=>some (.inr x)
 | _=>none
@[simp] theorem EI (i:Int):qH (.int i)=some (.inl i):=rfl
noncomputable def Jp:Option Sl->Option (List (aY×D))
 | some (.own (.d es))=>some es
 | _=>none
@[simp] theorem GM (es:List (aY×D)):Jp (some (.od es))=some es:=rfl
noncomputable def kP (es:List (aY×D)) (k:aY):Option D:=(es.find? fun p=>decide (p.1=k)).map (·.2)
theorem qG {K:Fg} {Z:Hp} {v:V} {d:D} {k:aY} (r:Rep K Z v d) (h:qH d=some k):v=kV k:=by
 cases d with
 | int i=>cases h; exact r.int_eq
 | str x=>cases h; exact r.str_eq
 | _=>cases h
theorem p0 {K:Fg} {Z:Hp} {kvs:List (aY×V)} {es:List (aY×D)} (h:sS K Z kvs es):kvs.length=es.length:=by
 have:=congrArg List.length h.1
 rw [List.length_map,List.length_map] at this
 exact this.symm
theorem uF {K:Fg} {Z:Hp} {kv:aY×V} {kvs:List (aY×V)} {es:List (aY×D)} (h:sS K Z (kv::kvs) es):∃ d fs,es=(kv.1,d)::fs/\Rep K Z kv.2 d/\sS K Z kvs fs:=by
 obtain ⟨h1,h2⟩:=h
 cases es with
 | nil=>cases h1
 | cons e fs=>
  obtain ⟨k,d⟩:=e
  rw [List.map_cons,List.map_cons,List.cons.injEq] at h1
  cases h2 with
  | cons r q=>exact ⟨d,fs,by rw [<- h1.1],r,h1.2,q⟩
theorem p6 {K:Fg} {Z:Hp} (k:aY):∀ {kvs:List (aY×V)} {es:List (aY×D)},sS K Z kvs es->(jd kvs k=none/\kP es k=none)\/∃ v d,jd kvs k=some v/\kP es k=some d/\Rep K Z v d
 | [],es,h=>by
  have:es=[]:=List.length_eq_zero_iff.mp (p0 h).symm
  subst this
  exact .inl ⟨rfl,rfl⟩
 | kv::kvs,es,h=>by
  obtain ⟨d,fs,rfl,r,q⟩:=uF h
  by_cases e:kv.1=k
  ·exact .inr ⟨kv.2,d,jb e,by simp [kP,List.find?_cons,e],r⟩
  ·rw [jc e]
   have:kP ((kv.1,d)::fs) k=kP fs k:=by simp [kP,List.find?_cons,e]
   rw [this]
   exact p6 k q
theorem Je {n:Nat} (h:n+64<cLine):n+1<cLine:=by omega
end VL
namespace VL
open PySem PySem.Spec PyProof.Rows L2
noncomputable def qJ (x:Int):List Int->List Int
 | []=>[x]
 | y::r=>if x<=y then x::y::r else y::qJ x r
noncomputable def gK:List Int->List Int
 | []=>[]
 | x::r=>qJ x (gK r)
theorem kc (x:Int):∀ l:List Int,(qJ x l).Perm (x::l)
 | []=>.refl _
 | y::r=>by
  unfold qJ
  split
  ·exact .refl _
  ·exact ((kc x r).cons y).trans (.swap x y r)
theorem hZ:∀ l:List Int,(gK l).Perm l
 | []=>.refl _
 | x::r=>(kc x _).trans ((hZ r).cons x)
theorem tW (x:Int):∀ l:List Int,l.Pairwise (· <= ·)->(qJ x l).Pairwise (· <= ·)
 | [],_=>by simp [qJ]
 | y::r,h=>by
  obtain ⟨h1,h2⟩:=List.pairwise_cons.mp h
  unfold qJ
  split
  ·rename_i hx
   exact List.pairwise_cons.mpr ⟨fun z hz=>by rcases List.mem_cons.mp hz with rfl | hz; exact hx; exact Int.le_trans hx (h1 z hz),h⟩
  ·rename_i hx
   refine List.pairwise_cons.mpr ⟨fun z hz=>?_,tW x r h2⟩
   rcases List.mem_cons.mp ((kc x r).mem_iff.mp hz) with rfl | hz
   ·omega
   ·exact h1 z hz
theorem nM:∀ l:List Int,(gK l).Pairwise (· <= ·)
 | []=>.nil
 | x::r=>tW x _ (nM r)
theorem lJ:∀ {a b:List Int},a.Perm b->a.Pairwise (· <= ·)->b.Pairwise (· <= ·)->a=b
 | [],b,p,_,_=>(List.nil_perm.mp p).symm
 | x::a,b,p,ha,hb=>by
  cases b with
  | nil=>exact absurd (List.perm_nil.mp p) (by simp)
  | cons y b=>
   obtain ⟨ha1,ha2⟩:=List.pairwise_cons.mp ha
   obtain ⟨hb1,hb2⟩:=List.pairwise_cons.mp hb
   have e:x=y:=by
    have h1:x∈y::b:=p.mem_iff.mp List.mem_cons_self
    have h2:y∈x::a:=p.mem_iff.mpr List.mem_cons_self
    rcases List.mem_cons.mp h1 with h1 | h1
    ·exact h1
    ·rcases List.mem_cons.mp h2 with h2 | h2
     ·exact h2.symm
     ·exact Int.le_antisymm (ha1 y h2) (hb1 x h1)
   subst e
   rw [lJ (List.perm_cons x |>.mp p) ha2 hb2]
theorem u6 {a b:List Int} (p:a.Perm b) (h:a.Pairwise (· <= ·)):a=gK b:=lJ (p.trans (hZ b).symm) h (nM b)
theorem gm:∀ {out:List Value} {l:List Int},IntsAre out l->Vals (l.map V.int) out
 | _,_,.nil=>.nil
 | _,_,.cons n t r=>.cons ⟨t,rfl⟩ (gm r)
theorem hX {h:Heap} {a b:Addr} {f:Obj->Obj} {o:Obj} (hab:b≠a) (e:h.get? b=some o):(h.update a f).get? b=some o:=(Heap.get?_update_other _ _ (Ne.symm hab)).trans e
end VL
namespace VL
open PySem PySem.Spec PyProof.Rows L2
end VL
namespace VL
open PySem PySem.Spec PyProof.Rows L2
noncomputable def Do:List D->Option D
 | [.list a,.list b]=>some (.list (List.zipWith (fun x y=>.tuple [x,y]) a b))
 | _=>none
@[simp] noncomputable def JG (fs:Dv->Option (List D)) (g:List D->Option D):Dv->Option D:=fun δ=>(fs δ).bind g
@[simp] theorem FO (a b:List D):Do [.list a,.list b]=some (.list (List.zipWith (fun x y=>.tuple [x,y]) a b)):=rfl
end VL
namespace VL
open PySem PySem.Spec PyProof.Rows L2
theorem sk (k:aY):qH (iL k)=some k:=by cases k <;> rfl
end VL
namespace VL
open PySem PySem.Spec PyProof.Rows L2
noncomputable def E5 (neg:Bool):D->D->Option D
 | a,.list xs=>if kU a=true/\PyData.canLayAll0 xs=true then some (.bool (if neg=true then !tZ a xs else tZ a xs)) else none
 | a,.tuple xs=>if kU a=true/\PyData.canLayAll0 xs=true then some (.bool (if neg=true then !tZ a xs else tZ a xs)) else none
 | _,_=>none
theorem Gq {k:Nat} {A:Around} (r:Room k A):A.units+65<cLine:=by have:=r.un; omega
section
variable {X:Cx}
theorem xF (hu:X.A.units+65<cLine):OpR X (compareOp .NotIn) (rD X.K (E5 true)):=by
 intro pins s σ H x y v u Q I rx ry q
 obtain ⟨Z,a,b,d,zh,ra,rb,e,k⟩:=q
 cases b with
 | list xs=>
  obtain ⟨hs,e⟩:=em e
  cases e
  obtain ⟨as,r1⟩:=ra.reads I zh rx (fF hs.1)
  obtain ⟨bs,r2⟩:=rb.reads I zh ry hs.2
  exact SeqAt.notIn_list_reads r2 r1 hs.2 (fF hs.1) (room_in_shaped hs.1 hu) ⟨.bl _,H,I,rfl,k _ Z H (New.refl zh) (.bl _)⟩
 | tuple xs=>
  obtain ⟨hs,e⟩:=em e
  cases e
  obtain ⟨as,r1⟩:=ra.reads I zh rx (fF hs.1)
  obtain ⟨bs,r2⟩:=rb.reads I zh ry hs.2
  exact SeqAt.notIn_tuple_reads r2 r1 hs.2 (fF hs.1) (room_in_shaped hs.1 hu) ⟨.bl _,H,I,rfl,k _ Z H (New.refl zh) (.bl _)⟩
 | _=>cases e
end
end VL
namespace VL
open PySem PySem.Spec PyProof.Rows L2
section
variable {cmp:Nat->Nat->(Bool->Shared->Prop)->Shared->Prop} {N:Nat} {key:Nat->Int}
noncomputable def ky (key:Nat->Int) (p:Array Nat) (i:Nat):Int:=key (p.getD i 0)
variable {s:Shared} (hinj:∀ i j,i<N->j<N->key i=key j->i=j) (hc:∀ i j,i<N->j<N->i≠j->∀ C:Bool->Shared->Prop,C (decide (key i<key j)) s->cmp i j C s)
end
end VL
namespace VL
open PySem PySem.Spec PyProof.Rows L2
end VL
namespace VL
open PySem PySem.Spec PyProof.Rows L2
end VL
namespace VL
open PySem PySem.Spec PyProof.Rows L2
end VL
namespace VL
open PySem PySem.Spec PyProof.Rows L2
end VL
namespace VL
open PySem PySem.Spec PyProof.Rows L2
mutual
def pH:D->Bool
 | .none=>true
 | .bool _=>true
 | .int _=>true
 | .str _=>true
 | .tuple xs=>lfA xs
 | _=>false
def lfA:List D->Bool
 | []=>true
 | d::ds=>pH d&&lfA ds
end
noncomputable def zK:Sl->Bool
 | .un=>true
 | .fz d=>pH d
 | .own (.l ds)=>lfA ds
 | _=>false
theorem B6 {xs:List D} (h:pH (.tuple xs)=true):lfA xs=true:=by simpa [pH] using h
theorem tN {d:D} {ds:List D} (h:lfA (d::ds)=true):pH d=true/\lfA ds=true:=by
 rw [<- Bool.and_eq_true_iff]; simpa [lfA] using h
theorem zJ {xs:List D} (h:pH (.list xs)=true):False:=by simp [pH] at h
theorem tM {xs:List (D×D)} (h:pH (.dict xs)=true):False:=by simp [pH] at h
end VL
namespace VL
open PySem PySem.Spec PyProof.Rows L2
noncomputable def vq (δ:Dv):Dv:=δ.map fun s=>if zK s=true then s else .un
theorem vM {K:Fg} {Z Z':Hp} (h:∀ b xs,Rd Z b (.tup xs)->Rd Z' b (.tup xs)) {b:Addr} {xs:List V} (r:SqT K Z b xs):SqT K Z' b xs:=by
 rcases r with r | r
 ·exact .inl (h b xs r)
 ·exact .inr r
mutual
theorem Rep.lf {K:Fg} {Z Z':Hp} (h:∀ b xs,Rd Z b (.tup xs)->Rd Z' b (.tup xs)):∀ {v:V} {d:D},Rep K Z v d->pH d=true->Rep K Z' v d
 | _,_,.non,_=>.non
 | _,_,.bl b,_=>.bl b
 | _,_,.int i,_=>.int i
 | _,_,.str x,_=>.str x
 | _,_,.tup q r,hl=>.tup (vM h q) (Reps.lf h r (B6 hl))
 | _,_,.lst q r,hl=>(zJ hl).elim
 | _,_,.opq q,hl=>(tM hl).elim
 | _,_,.gdc _ _ _ _,hl=>(tM hl).elim
theorem Reps.lf {K:Fg} {Z Z':Hp} (h:∀ b xs,Rd Z b (.tup xs)->Rd Z' b (.tup xs)):∀ {vs:List V} {ds:List D},Reps K Z vs ds->lfA ds=true->Reps K Z' vs ds
 | _,_,.nil,_=>.nil
 | _,_,.cons q r,hl=>.cons (Rep.lf h q (tN hl).1) (Reps.lf h r (tN hl).2)
end
def NoL (K:Fg):Prop:=∀ a o,K.lookup a=some o->o.cls≠.type "list"
noncomputable def Fy:Value->Bool
 | .type s=>s == "list"
 | _=>false
theorem NoL.of {K:Fg} (h:(List.all K fun p=>!Fy p.2.cls)=true):NoL K:=fun a o e hc=>by
 have m:∃ b,(b,o)∈K:=by
  clear h
  induction K with
  | nil=>cases e
  | cons q K ih=>
   obtain ⟨b,o'⟩:=q
   rw [List.lookup_cons] at e
   split at e
   ·cases e; exact ⟨b,List.mem_cons_self⟩
   ·obtain ⟨c,hm⟩:=ih e; exact ⟨c,List.mem_cons_of_mem _ hm⟩
 obtain ⟨b,m⟩:=m
 have:=List.all_eq_true.mp h _ m
 dsimp only at this
 rw [hc] at this
 cases this
section
variable {K:Fg} {H₀ Z₀ Z H:Hp} {δ:Dv} {σ:St}
theorem jI {j:Nat} {s:Sl} (e:(vq δ)[j]? = some s):s=.un\/(δ[j]? = some s/\zK s=true):=by
 unfold vq at e
 rw [List.getElem?_map] at e
 cases q:δ[j]? with
 | none=>rw [q] at e; cases e
 | some t=>
  rw [q] at e
  have e:(if zK t=true then t else .un)=s:=Option.some.inj e
  split at e
  ·subst e; exact .inr ⟨rfl,by assumption⟩
  ·exact .inl e.symm
end
end VL
namespace VL
open PySem PySem.Spec PyProof.Rows L2
end VL
namespace VL
open PySem PySem.Spec PyProof.Rows L2
section
variable {K:Fg} {H₀ Z₀ Z H:Hp} {δ:Dv} {σ:St} {p:Addr} {o:HO}
theorem Hold.aside (h:Hold K H₀ Z₀ Z δ σ H) (hp:H p=none) (o:HO):Hold K (upd H₀ p o) Z₀ Z δ σ (upd H p o) where
 zh:=h.zh.trans (eZ hp)
 h0:=fun b u e=>by
  by_cases hb:b=p
  ·subst hb; rw [aL] at e ⊢; exact e
  ·rw [aQ hb] at e ⊢; exact h.h0 b u e
 z0:=h.z0
 zb:=fun b hb=>by
  by_cases e:b=p
  ·subst e
   have z1:=jB h.zh hp
   rw [z1,jq h.z0 z1]
  ·rw [aQ e] at hb; exact h.zb b hb
 len:=h.len
 fz:=h.fz
 own:=fun i c e=>by
  obtain ⟨a,u,h1,h2,h3,h4,h5⟩:=h.own i c e
  have:a≠p:=fun z=>by rw [z,hp] at h4; cases h4
  exact ⟨a,u,h1,by rw [aQ this]; exact h2,h3,by rw [aQ this]; exact h4,h5⟩
 dja:=h.dja
 fr:=fun i ds e=>by
  obtain ⟨a,xs,h1,h2,h3,h4,h5⟩:=h.fr i ds e
  have:a≠p:=fun z=>by have:=h.zh _ _ h4; rw [z,hp] at this; cases this
  exact ⟨a,xs,h1,by rw [aQ this]; exact h2,h3,h4,h5⟩
 nf:=h.nf
theorem Hold.inside (h:Hold K (upd H₀ p o) Z₀ Z δ σ H) (h0:H₀ p=none) (hz:Z₀ p=none):H p=some o/\Hold K H₀ Z₀ Z δ σ (fun b=>if b=p then none else H b):=by
 have hzp:Z p=none:=by rw [h.zb p (by rw [aL]; intro z; cases z)]; exact hz
 refine ⟨h.h0 p o aL,fun b u e=>?_,fun b u e=>?_,h.z0,fun b hb=>?_,h.len,h.fz,fun i c e=>?_,h.dja,fun i ds e=>?_,h.nf⟩
 ·show (if b=p then none else H b)=some u
  rw [if_neg (bF e hzp)]; exact h.zh b u e
 ·show (if b=p then none else H b)=some u
  have:=bF e h0
  rw [if_neg this]; exact h.h0 b u (by rw [aQ this]; exact e)
 ·exact h.zb b (by rw [aQ (fun z=>hb (by rw [z]; exact h0))]; exact hb)
 ·obtain ⟨a,u,h1,h2,h3,h4,h5⟩:=h.own i c e
  have:a≠p:=fun z=>by rw [z,aL] at h2; cases h2
  exact ⟨a,u,h1,by rw [aQ this] at h2; exact h2,h3,by show (if a=p then none else H a)=_; rw [if_neg this]; exact h4,h5⟩
 ·obtain ⟨a,xs,h1,h2,h3,h4,h5⟩:=h.fr i ds e
  have:a≠p:=fun z=>by rw [z,aL] at h2; cases h2
  exact ⟨a,xs,h1,by rw [aQ this] at h2; exact h2,h3,h4,h5⟩
end
end VL
namespace VL
open PySem PySem.Spec PyProof.Rows L2
end VL
namespace VL
open PySem PySem.Spec PyProof.Rows L2
end VL
namespace VL
open PySem PySem.Spec PyProof.Rows L2
noncomputable def su:List D->Option (List Int)
 | []=>some []
 | .int i::r=>(su r).bind fun l=>some (i::l)
 | _::_=>none
end VL
namespace VL
open PySem PySem.Spec PyProof.Rows L2
section
variable {X:Cx}
variable {e:Expr} {p p2 pos pos2:Pos} {te:TE} {f:Dv->Option D}
theorem iN:∀ {l:List Int} {us:List Value},Vals (l.map V.int) us->IntsAre us l
 | [],[],.nil=>.nil
 | n::l,u::us,.cons h r=>by
  obtain ⟨t,rfl⟩:=h
  exact .cons n t (iN r)
theorem qI {K:Fg} {Z:Hp}:∀ {vs:List V} {ds:List D} {l:List Int},Reps K Z vs ds->su ds=some l->vs=l.map V.int
 | _,_,_,.nil,h=>by cases h; rfl
 | _,.int i::ds,l,.cons r rs,h=>by
  obtain ⟨l',e,h⟩:=bind_some h
  cases h
  rw [r.int_eq,qI rs e]
  rfl
 | _,.none::ds,l,.cons r rs,h=>by cases h
 | _,.bool _::ds,l,.cons r rs,h=>by cases h
 | _,.str _::ds,l,.cons r rs,h=>by cases h
 | _,.list _::ds,l,.cons r rs,h=>by cases h
 | _,.tuple _::ds,l,.cons r rs,h=>by cases h
 | _,.dict _::ds,l,.cons r rs,h=>by cases h
end
end VL
namespace VL
open PySem PySem.Spec PyProof.Rows
noncomputable def dL:Bool->Keyed->Array Keyed->Nat->Nat->Nat->StateT SortSt Sem (Option Nat):=sortPriv% PySem.Builtin.gallop
noncomputable def cW:Nat->StateT SortSt Sem Unit:=sortPriv% PySem.Builtin.setMinGallop
noncomputable def lT:Array Keyed->Array Keyed->StateT SortSt Sem (Array Keyed):=sortPriv% PySem.Builtin.mergeLo
noncomputable def lU:Array Keyed->Array Keyed->StateT SortSt Sem (Array Keyed):=sortPriv% PySem.Builtin.mergeHi
noncomputable def gQ (left:Bool) (key:Keyed) (arr:Array Keyed) (base i:Nat):StateT SortSt Sem (Option Bool):=do
 let x <- elem' arr (base+i)
 if left then lt' x key else return (<- lt' key x).map (!·)
theorem sA (left:Bool) (key:Keyed) (arr:Array Keyed) (base n hint:Nat):dL left key arr base n hint=(do
 let mut lastofs:=0
 let mut ofs:=1
 let mut lo:=0
 let mut hi:=0
 let some right <- gQ left key arr base hint | return none
 if right then
  let maxofs:=n-hint
  for _ in [0:n] do
   if ofs>=maxofs then break
   let some more <- gQ left key arr base (hint+ofs) | return none
   if !more then break
   lastofs:=ofs
   ofs:=2*ofs+1
  lo:=hint+lastofs+1
  hi:=hint+min ofs maxofs
 else
  let maxofs:=hint+1
  for _ in [0:n] do
   if ofs>=maxofs then break
   let some found <- gQ left key arr base (hint-ofs) | return none
   if found then break
   lastofs:=ofs
   ofs:=2*ofs+1
  lo:=hint+1-min ofs maxofs
  hi:=hint-lastofs
 for _ in [0:n] do
  if lo>=hi then break
  let m:=lo+(hi-lo) / 2
  let some more <- gQ left key arr base m | return none
  if more then lo:=m+1 else hi:=m
 return some hi):=rfl
end VL
namespace VL
open PySem PySem.Spec PyProof.Rows
section
variable {M:Model} {A:Around} {E:Value->Shared->Prop} {s:Shared} {st:SortSt}
theorem kD {left:Bool} {key:Keyed} {arr:Array Keyed} {base n:Nat} {B:Nat->Bool} {lo hi:Nat} {Q:Option (Option Nat)×Nat×Nat->SortSt->Prop}
  (hb:∀ i,i<n->∀ Q:Option Bool->SortSt->Prop,Q (some (B i)) st->wpS M A E s (gQ left key arr base i) Q st) (mono:∀ i j,i<=j->j<n->B j=true->B i=true)
  (h1:lo<=hi) (h2:hi<=n) (hlo:∀ i,i<lo->B i=true) (hhi:∀ i,hi<=i->i<n->B i=false)
  (h:∀ r,r<=n->(∀ i,i<r->B i=true)->(∀ i,r<=i->i<n->B i=false)->Q (none,r,r) st) :
  wpS M A E s (forIn [0:n] ((none,lo,hi):Option (Option Nat)×Nat×Nat) fun _ c=>do
   if c.2.1>=c.2.2 then pure (ForInStep.done (none,c.2.1,c.2.2)) else do
    let x <- gQ left key arr base (c.2.1+(c.2.2-c.2.1) / 2)
    match x with
    | some more=>if more=true then pure (ForInStep.yield (none,c.2.1+(c.2.2-c.2.1) / 2+1,c.2.2)) else pure (ForInStep.yield (none,c.2.1,c.2.1+(c.2.2-c.2.1) / 2))
    | _=>pure (ForInStep.done (some none,c.2.1,c.2.2))) Q st:=by
 refine wpS_forRange (I:=fun t c st'=>st'=st/\∃ lo hi,c=(none,lo,hi)/\lo<=hi/\hi<=n/\hi-lo<=n-t/\(∀ i,i<lo->B i=true)/\(∀ i,hi<=i->i<n->B i=false)) ?step ?fin ⟨rfl,lo,hi,rfl,h1,h2,by omega,hlo,hhi⟩
 case fin=>
  rintro c st' ⟨rfl,lo,hi,rfl,a1,a2,a3,a4,a5⟩
  have:lo=hi:=by omega
  subst this
  exact h lo a2 a4 a5
 case step=>
  rintro t c st' _ ht ⟨rfl,lo,hi,rfl,a1,a2,a3,a4,a5⟩
  dsimp only
  by_cases q:lo>=hi
  ·rw [if_pos q]
   have:lo=hi:=by omega
   subst this
   exact wpS_pure (h lo a2 a4 a5)
  ·rw [if_neg q]
   refine wpS_bind (hb _ (by omega) _ ?_)
   dsimp only
   cases e:B (lo+(hi-lo) / 2) with
   | true=>
    simp only [if_true]
    refine wpS_pure ⟨rfl,_,_,rfl,by omega,a2,by omega,fun i hi'=>mono i _ (by omega) (by omega) e,a5⟩
   | false=>
    simp only [Bool.false_eq_true,if_false]
    refine wpS_pure ⟨rfl,_,_,rfl,by omega,by omega,by omega,a4,fun i h3 h4=>?_⟩
    cases e2:B i with
    | false=>rfl
    | true=>rw [mono _ i h3 h4 e2] at e; cases e
theorem rG {left:Bool} {key:Keyed} {arr:Array Keyed} {base n hint:Nat} {B:Nat->Bool} {Q:Option Nat->SortSt->Prop} (hh:hint<n)
  (hb:∀ i,i<n->∀ Q:Option Bool->SortSt->Prop,Q (some (B i)) st->wpS M A E s (gQ left key arr base i) Q st) (mono:∀ i j,i<=j->j<n->B j=true->B i=true)
  (h:∀ r,r<=n->(∀ i,i<r->B i=true)->(∀ i,r<=i->i<n->B i=false)->Q (some r) st) :
  wpS M A E s (dL left key arr base n hint) Q st:=by
 rw [sA]
 refine wpS_bind (hb hint hh _ ?_)
 dsimp only
 cases e:B hint with
 | true=>
  simp only [if_true]
  refine wpS_bind (wpS_mono (wpS_forRange (I:=fun t c st'=>st'=st/\∃ last ofs,c=(none,last,ofs)/\last<ofs/\t+1<=ofs/\hint+last<n/\B (hint+last)=true)
   (Q:=fun c st'=>st'=st/\∃ last ofs,c=(none,last,ofs)/\last<ofs/\hint+last<n/\B (hint+last)=true/\(n-hint<=ofs\/B (hint+ofs)=false)) ?step ?fin ⟨rfl,0,1,rfl,by omega,by omega,by omega,by simpa using e⟩) ?post)
  case fin=>
   rintro c st' ⟨rfl,last,ofs,rfl,a1,a2,a3,a4⟩
   exact ⟨rfl,last,ofs,rfl,a1,a3,a4,.inl (by omega)⟩
  case step=>
   rintro t c st' _ ht ⟨rfl,last,ofs,rfl,a1,a2,a3,a4⟩
   dsimp only
   by_cases q:ofs>=n-hint
   ·rw [if_pos q]
    exact wpS_pure ⟨rfl,last,ofs,rfl,a1,a3,a4,.inl q⟩
   ·rw [if_neg q]
    refine wpS_bind (hb _ (by omega) _ ?_)
    dsimp only
    cases e2:B (hint+ofs) with
    | false=>
     simp only [Bool.not_false,if_true]
     exact wpS_pure ⟨rfl,last,ofs,rfl,a1,a3,a4,.inr e2⟩
    | true=>
     simp only [Bool.not_true,Bool.false_eq_true,if_false]
     exact wpS_pure ⟨rfl,ofs,2*ofs+1,rfl,by omega,by omega,by omega,e2⟩
  case post=>
   rintro c st' ⟨rfl,last,ofs,rfl,a1,a3,a4,a5⟩
   dsimp only
   refine wpS_bind (kD (lo:=hint+last+1) (hi:=hint+min ofs (n-hint)) hb mono (by omega) (by omega) (fun i hi=>mono i _ (by omega) a3 a4) (fun i h3 h4=>?_) fun r r1 r2 r3=>?_)
   ·rcases a5 with a5 | a5
    ·omega
    ·cases e2:B i with
     | false=>rfl
     | true=>rw [mono _ i (by omega) h4 e2] at a5; cases a5
   ·exact wpS_pure (h r r1 r2 r3)
 | false=>
  simp only [Bool.false_eq_true,if_false]
  refine wpS_bind (wpS_mono (wpS_forRange (I:=fun t c st'=>st'=st/\∃ last ofs,c=(none,last,ofs)/\last<ofs/\t+1<=ofs/\last<=hint/\B (hint-last)=false)
   (Q:=fun c st'=>st'=st/\∃ last ofs,c=(none,last,ofs)/\last<ofs/\last<=hint/\B (hint-last)=false/\(hint+1<=ofs\/B (hint-ofs)=true)) ?step ?fin ⟨rfl,0,1,rfl,by omega,by omega,by omega,by simpa using e⟩) ?post)
  case fin=>
   rintro c st' ⟨rfl,last,ofs,rfl,a1,a2,a3,a4⟩
   exact ⟨rfl,last,ofs,rfl,a1,a3,a4,.inl (by omega)⟩
  case step=>
   rintro t c st' _ ht ⟨rfl,last,ofs,rfl,a1,a2,a3,a4⟩
   dsimp only
   by_cases q:ofs>=hint+1
   ·rw [if_pos q]
    exact wpS_pure ⟨rfl,last,ofs,rfl,a1,a3,a4,.inl q⟩
   ·rw [if_neg q]
    refine wpS_bind (hb _ (by omega) _ ?_)
    dsimp only
    cases e2:B (hint-ofs) with
    | true=>
     simp only [if_true]
     exact wpS_pure ⟨rfl,last,ofs,rfl,a1,a3,a4,.inr e2⟩
    | false=>
     simp only [Bool.false_eq_true,if_false]
     exact wpS_pure ⟨rfl,ofs,2*ofs+1,rfl,by omega,by omega,by omega,e2⟩
  case post=>
   rintro c st' ⟨rfl,last,ofs,rfl,a1,a3,a4,a5⟩
   dsimp only
   refine wpS_bind (kD (lo:=hint+1-min ofs (hint+1)) (hi:=hint-last) hb mono (by omega) (by omega) (fun i hi=>?_) (fun i h3 h4=>?_) fun r r1 r2 r3=>?_)
   ·rcases a5 with a5 | a5
    ·omega
    ·exact mono i _ (by omega) (by omega) a5
   ·cases e2:B i with
    | false=>rfl
    | true=>rw [mono _ i (by omega) h4 e2] at a4; cases a4
   ·exact wpS_pure (h r r1 r2 r3)
end
end VL
namespace VL
open PySem PySem.Spec PyProof.Rows
section
variable {κ:Keyed->Int} {all out l ra rb:List Keyed} {m:Keyed}
def Asc (κ:Keyed->Int) (l:List Keyed):Prop:=l.Pairwise fun x y=>κ x <= κ y
theorem Asc.app (h1:Asc κ l) (h2:Asc κ ra) (h:∀ x∈l,∀ y∈ra,κ x <= κ y):Asc κ (l++ra):=List.pairwise_append.mpr ⟨h1,h2,h⟩
theorem Asc.left (h:Asc κ (l++ra)):Asc κ l:=(List.pairwise_append.mp h).1
theorem Asc.right (h:Asc κ (l++ra)):Asc κ ra:=(List.pairwise_append.mp h).2.1
theorem Asc.mid (h:Asc κ (l++ra)):∀ x∈l,∀ y∈ra,κ x <= κ y:=(List.pairwise_append.mp h).2.2
structure LI (κ:Keyed->Int) (all out ra rb:List Keyed):Prop where
 pm:(out++(ra++rb)).Perm all
 so:Asc κ out
 le:∀ x∈out,∀ y∈ra++rb,κ x <= κ y
 sa:Asc κ ra
 sb:Asc κ rb
theorem LI.mvA (h:LI κ all out (l++ra) rb) (q:∀ x∈l,∀ y∈rb,κ x <= κ y):LI κ all (out++l) ra rb where
 pm:=by
  have:=h.pm
  simpa [List.append_assoc] using this
 so:=h.so.app h.sa.left fun x hx y hy=>h.le x hx y (by simp [hy])
 le x hx y hy:=by
  rcases List.mem_append.mp hx with hx | hx
  ·exact h.le x hx y (by simp at hy ⊢; rcases hy with hy | hy <;> simp [hy])
  ·rcases List.mem_append.mp hy with hy | hy
   ·exact h.sa.mid x hx y hy
   ·exact q x hx y hy
 sa:=h.sa.right
 sb:=h.sb
theorem LI.swap (h:LI κ all out ra rb):LI κ all out rb ra where
 pm:=((List.Perm.refl out).append List.perm_append_comm).trans h.pm
 so:=h.so
 le x hx y hy:=h.le x hx y (by simp at hy ⊢; exact hy.symm)
 sa:=h.sb
 sb:=h.sa
theorem LI.mvB (h:LI κ all out ra (l++rb)) (q:∀ x∈l,∀ y∈ra,κ x <= κ y):LI κ all (out++l) ra rb:=(h.swap.mvA q).swap
theorem LI.endA (h:LI κ all out ra []):(out++ra).Perm all/\Asc κ (out++ra):=⟨by simpa using h.pm,h.so.app h.sa fun x hx y hy=>h.le x hx y (by simp [hy])⟩
theorem LI.endB (h:LI κ all out [] rb):(out++rb).Perm all/\Asc κ (out++rb):=h.swap.endA
theorem LI.last (h:LI κ all out [m] rb) (q:∀ y∈rb,κ y <= κ m):(out++(rb++[m])).Perm all/\Asc κ (out++(rb++[m])):=
 ⟨h.swap.pm,h.so.app (h.sb.app (List.pairwise_singleton _ _) fun x hx y hy=>by rw [List.mem_singleton.mp hy]; exact q x hx) fun x hx y hy=>h.le x hx y (by simp at hy ⊢; exact hy.symm)⟩
end
section
variable {M:Model} {A:Around} {E:Value->Shared->Prop} {s:Shared} {κ:Keyed->Int} {S:Keyed->Prop} {kd:SortKind}
def dB (M:Model) (A:Around) (E:Value->Shared->Prop) (s:Shared) (kd:SortKind) (κ:Keyed->Int) (S:Keyed->Prop):Prop:=
 ∀ x y,S x->S y->∀ (st:SortSt) (Q:Option Bool->SortSt->Prop),kindOf st=kd->Q (some (decide (κ x < κ y))) st->wpS M A E s (lt' x y) Q st
theorem bd {arr:Array Keyed} {i:Nat} {x:Keyed} {st:SortSt} {Q:Keyed->SortSt->Prop} (h:arr[i]? = some x) (q:Q x st):wpS M A E s (elem' arr i) Q st:=by
 rw [elem'_eq,h]; exact wpS_pure q
structure Stretch (κ:Keyed->Int) (S:Keyed->Prop) (arr:Array Keyed) (base n:Nat) (l:List Keyed):Prop where
 eq:(arr.toList.drop base).take n=l
 len:l.length=n
 all:∀ x∈l,S x
 asc:Asc κ l
theorem Stretch.get {arr:Array Keyed} {base n:Nat} {l:List Keyed} (h:Stretch κ S arr base n l) {i:Nat} (hi:i<l.length):arr[base+i]? = some l[i]:=by
 have e:((arr.toList.drop base).take n)[i]? = l[i]?:=by rw [h.eq]
 rw [List.getElem?_take_of_lt (by have:=h.len; omega),List.getElem?_drop,Array.getElem?_toList,List.getElem?_eq_getElem hi] at e
 exact e
theorem yv (T:dB M A E s kd κ S) {left:Bool} {key:Keyed} {arr:Array Keyed} {base i:Nat} {x:Keyed} {st:SortSt} {Q:Option Bool->SortSt->Prop} (hk:S key) (hx:arr[base+i]? = some x) (sx:S x) (ek:kindOf st=kd)
  (q:Q (some (if left=true then decide (κ x < κ key) else !decide (κ key < κ x))) st):wpS M A E s (gQ left key arr base i) Q st:=by
 unfold gQ
 refine wpS_bind (bd hx ?_)
 cases left with
 | true=>
  simp only [if_true] at q ⊢
  exact T x key sx hk st _ ek q
 | false=>
  simp only [Bool.false_eq_true,if_false] at q ⊢
  exact wpS_bind (T key x hk sx st _ ek (wpS_pure q))
theorem ik (T:dB M A E s kd κ S) {left:Bool} {key:Keyed} {arr:Array Keyed} {base n hint:Nat} {l:List Keyed} {st:SortSt} {Q:Option Nat->SortSt->Prop} (hs:Stretch κ S arr base n l) (hk:S key) (ek:kindOf st=kd) (hh:hint<n)
  (h:∀ l1 l2,l=l1++l2->(∀ x∈l1,if left=true then κ x < κ key else κ x <= κ key)->(∀ x∈l2,if left=true then κ key <= κ x else κ key < κ x)->Q (some l1.length) st) :
  wpS M A E s (dL left key arr base n hint) Q st:=by
 have hl:=hs.len
 refine rG (B:=fun i=>if left=true then decide (κ (l.getD i key) < κ key) else !decide (κ key < κ (l.getD i key))) hh (fun i hi Q' q=>?_) (fun i j hij hj e=>?_) fun r hr r1 r2=>?_
 ·have e:l.getD i key=l[i]:=by simp [hl,hi]
  rw [e] at q
  exact yv T hk (hs.get (by omega)) (hs.all _ (List.getElem_mem _)) ek q
 ·have e1:l.getD i key=l[i]'(by omega):=by simp [hl,show i<n by omega]
  have e2:l.getD j key=l[j]'(by omega):=by simp [hl,hj]
  have c:κ (l[i]'(by omega)) <= κ (l[j]'(by omega)):=by
   rcases Nat.lt_or_ge i j with q | q
   ·exact List.pairwise_iff_getElem.mp hs.asc i j (by omega) (by omega) q
   ·have:i=j:=by omega
    subst this; exact Int.le_refl _
  rw [e1]
  rw [e2] at e
  cases left with
  | true=>simp only [if_true,decide_eq_true_eq] at e ⊢; omega
  | false=>
   simp only [Bool.false_eq_true,if_false,Bool.not_eq_true',decide_eq_false_iff_not] at e ⊢
   omega
 ·have:=h (l.take r) (l.drop r) (List.take_append_drop r l).symm (fun x hx=>?_) (fun x hx=>?_)
  ·rw [List.length_take,hl,Nat.min_eq_left hr] at this; exact this
  ·obtain ⟨i,hi,rfl⟩:=List.mem_iff_getElem.mp hx
   rw [List.length_take] at hi
   have q:=r1 i (by omega)
   have e:l.getD i key=l[i]'(by omega):=by simp [hl,show i<n by omega]
   rw [e] at q
   rw [List.getElem_take]
   cases left with
   | true=>simpa using q
   | false=>simpa using q
  ·obtain ⟨i,hi,rfl⟩:=List.mem_iff_getElem.mp hx
   rw [List.length_drop] at hi
   have q:=r2 (r+i) (by omega) (by omega)
   have e:l.getD (r+i) key=l[r+i]'(by omega):=by simp [hl,show r+i<n by omega]
   rw [e] at q
   rw [List.getElem_drop]
   cases left with
   | true=>simpa using q
   | false=>simpa using q
end
end VL
namespace VL
open PySem PySem.Spec PyProof.Rows
theorem qr (a b:Array Keyed):lT a b=(do
 rule "list.sort.merge-lo"
 let mut out:Array Keyed:=#[<- elem' b 0]
 let mut ia:=0
 let mut ib:=1
 if ib==b.size then return out++a.extract ia a.size++b.extract ib b.size
 if ia+1==a.size then return out++b.extract ib b.size++a.extract ia a.size
 let mut minGallop:=gallopOf (<- get)
 for _ in [0:a.size+b.size] do
  let mut acount:=0
  let mut bcount:=0
  for _ in [0:a.size+b.size] do
   let some bWins <- lt' (<- elem' b ib) (<- elem' a ia) | return out++a.extract ia a.size++b.extract ib b.size
   if bWins then
    out:=out.push (<- elem' b ib); ib:=ib+1; bcount:=bcount+1; acount:=0
    if ib==b.size then return out++a.extract ia a.size++b.extract ib b.size
    if bcount>=minGallop then break
   else
    out:=out.push (<- elem' a ia); ia:=ia+1; acount:=acount+1; bcount:=0
    if ia+1==a.size then return out++b.extract ib b.size++a.extract ia a.size
    if acount>=minGallop then break
  rule "list.sort.gallop"
  minGallop:=minGallop+1
  for _ in [0:a.size+b.size] do
   if minGallop>1 then minGallop:=minGallop-1
   cW minGallop
   let some k <- dL false (<- elem' b ib) a ia (a.size-ia) 0 | return out++a.extract ia a.size++b.extract ib b.size
   acount:=k
   if k>0 then
    out:=out++a.extract ia (ia+k); ia:=ia+k
    if ia+1==a.size then return out++b.extract ib b.size++a.extract ia a.size
    if ia==a.size then return out++a.extract ia a.size++b.extract ib b.size
   out:=out.push (<- elem' b ib); ib:=ib+1
   if ib==b.size then return out++a.extract ia a.size++b.extract ib b.size
   let some k <- dL true (<- elem' a ia) b ib (b.size-ib) 0 | return out++a.extract ia a.size++b.extract ib b.size
   bcount:=k
   if k>0 then
    out:=out++b.extract ib (ib+k); ib:=ib+k
    if ib==b.size then return out++a.extract ia a.size++b.extract ib b.size
   out:=out.push (<- elem' a ia); ia:=ia+1
   if ia+1==a.size then return out++b.extract ib b.size++a.extract ia a.size
   if acount<7&&bcount<7 then break
  minGallop:=minGallop+1
  cW minGallop
 unsupported "internal:list.sort.merge-bound"):=rfl
section
variable {M:Model} {A:Around} {E:Value->Shared->Prop} {s:Shared} {κ:Keyed->Int} {S:Keyed->Prop} {kd:SortKind}
def SameBut (st st':SortSt):Prop:=kindOf st'=kindOf st/\arrOf st'=arrOf st/\pendingOf st'=pendingOf st/\failedOf st'=failedOf st
theorem SameBut.refl (st:SortSt):SameBut st st:=⟨rfl,rfl,rfl,rfl⟩
theorem i8 {st0 st:SortSt} {g:Nat} {Q:Unit->SortSt->Prop} (sm:SameBut st0 st) (q:∀ st',SameBut st0 st'->Q () st'):wpS M A E s (cW g) Q st:=by
 show wpS M A E s (modify fun x=>SortSt.mk' (kindOf x) (arrOf x) (pendingOf x) g (failedOf x)) Q st
 exact wpS_modify (q _ sm)
def MI (κ:Keyed->Int) (a b out:Array Keyed) (ia ib:Nat):Prop:=LI κ (a.toList++b.toList) out.toList (a.toList.drop ia) (b.toList.drop ib)
def i6 (κ:Keyed->Int) (a b out:Array Keyed):Prop:=out.toList.Perm (a.toList++b.toList)/\Asc κ out.toList
variable {a b out:Array Keyed} {ia ib:Nat}
theorem jE {xs:Array Keyed} {i:Nat} {x:Keyed} (h:xs[i]? = some x):xs.toList.drop i=[x]++xs.toList.drop (i+1):=by
 rw [<- Array.getElem?_toList] at h
 obtain ⟨q,e⟩:=List.getElem?_eq_some_iff.mp h
 rw [List.drop_eq_getElem_cons q,e]; rfl
theorem dX {xs:Array Keyed} {i:Nat} (h:i<xs.size):∃ x,xs[i]? = some x:=⟨xs[i],Array.getElem?_eq_getElem h⟩
theorem jF {xs:Array Keyed} {i k:Nat} {l1 l2:List Keyed} (h:xs.toList.drop i=l1++l2) (hk:l1.length=k):(xs.extract i (i+k)).toList=l1/\xs.toList.drop (i+k)=l2:=by
 constructor
 ·rw [Array.toList_extract,List.extract_eq_drop_take,h,show i+k-i=k by omega,<- hk,List.take_left]
 ·rw [<- List.drop_drop,h,<- hk,List.drop_left]
theorem Ap {xs:Array Keyed} (i:Nat):(xs.extract i xs.size).toList=xs.toList.drop i:=by
 rw [Array.toList_extract,List.extract_eq_drop_take,List.take_of_length_le (by simp)]
theorem MI.pushB (h:MI κ a b out ia ib) {y:Keyed} (hy:b[ib]? = some y) (q:∀ x∈a.toList.drop ia,κ y <= κ x):MI κ a b (out.push y) ia (ib+1):=by
 unfold MI at h ⊢
 rw [jE hy] at h
 rw [Array.toList_push]
 exact h.mvB fun x hx z hz=>by rw [List.mem_singleton.mp hx]; exact q z hz
theorem MI.pushA (h:MI κ a b out ia ib) {y:Keyed} (hy:a[ia]? = some y) (q:∀ x∈b.toList.drop ib,κ y <= κ x):MI κ a b (out.push y) (ia+1) ib:=by
 unfold MI at h ⊢
 rw [jE hy] at h
 rw [Array.toList_push]
 exact h.mvA fun x hx z hz=>by rw [List.mem_singleton.mp hx]; exact q z hz
theorem MI.appA (h:MI κ a b out ia ib) {l1 l2:List Keyed} (e:a.toList.drop ia=l1++l2) (q:∀ x∈l1,∀ y∈b.toList.drop ib,κ x <= κ y):MI κ a b (out++a.extract ia (ia+l1.length)) (ia+l1.length) ib:=by
 obtain ⟨e1,e2⟩:=jF e rfl
 unfold MI at h ⊢
 rw [Array.toList_append,e1,e2]
 rw [e] at h
 exact h.mvA q
theorem MI.appB (h:MI κ a b out ia ib) {l1 l2:List Keyed} (e:b.toList.drop ib=l1++l2) (q:∀ x∈l1,∀ y∈a.toList.drop ia,κ x <= κ y):MI κ a b (out++b.extract ib (ib+l1.length)) ia (ib+l1.length):=by
 obtain ⟨e1,e2⟩:=jF e rfl
 unfold MI at h ⊢
 rw [Array.toList_append,e1,e2]
 rw [e] at h
 exact h.mvB q
theorem MI.done (h:MI κ a b out ia ib) (e:ib=b.size\/ia=a.size):i6 κ a b (out++a.extract ia a.size++b.extract ib b.size):=by
 unfold i6
 unfold MI at h
 rw [Array.toList_append,Array.toList_append,Ap,Ap]
 rcases e with e | e
 ·have:b.toList.drop ib=[]:=by rw [e]; exact List.drop_of_length_le (by simp)
  rw [this] at h ⊢
  rw [List.append_nil]
  exact h.endA
 ·have:a.toList.drop ia=[]:=by rw [e]; exact List.drop_of_length_le (by simp)
  rw [this] at h ⊢
  rw [List.append_nil]
  exact h.endB
theorem MI.last (h:MI κ a b out ia ib) (e:ia+1=a.size) (q:∀ x,a[a.size-1]? = some x->∀ y∈b.toList,κ y <= κ x):i6 κ a b (out++b.extract ib b.size++a.extract ia a.size):=by
 unfold i6
 obtain ⟨x,hx⟩:=dX (xs:=a) (i:=ia) (by omega)
 have hd:=jE hx
 have:a.toList.drop (ia+1)=[]:=by rw [e]; exact List.drop_of_length_le (by simp)
 rw [this,List.append_nil] at hd
 unfold MI at h
 rw [Array.toList_append,Array.toList_append,Ap,Ap,hd,List.append_assoc]
 rw [hd] at h
 exact h.last fun y hy=>q x (by rw [show a.size-1=ia by omega]; exact hx) y (List.mem_of_mem_drop hy)
end
end VL
namespace VL
open PySem PySem.Spec PyProof.Rows
section
variable {M:Model} {A:Around} {E:Value->Shared->Prop} {s:Shared} {κ:Keyed->Int} {S:Keyed->Prop} {kd:SortKind}
variable {a b:Array Keyed}
theorem Asc.rest {xs:Array Keyed} (h:Asc κ xs.toList) (i:Nat):Asc κ (xs.toList.drop i):=List.Pairwise.drop h
theorem jQ {xs:Array Keyed} (h:Asc κ xs.toList) {i:Nat} {x:Keyed} (e:xs[i]? = some x):∀ y∈xs.toList.drop i,κ x <= κ y:=fun y hy=>by
 have q:=h.rest i
 rw [jE e] at q hy
 rcases List.mem_append.mp hy with hy | hy
 ·rw [List.mem_singleton.mp hy]; exact Int.le_refl _
 ·exact q.mid x (List.mem_singleton.mpr rfl) y hy
theorem eQ {xs:Array Keyed} {i:Nat} {x:Keyed} (e:xs[i]? = some x):x∈xs.toList:=by
 rw [<- Array.getElem?_toList] at e; exact List.mem_of_getElem? e
theorem sW {xs:Array Keyed} (h:Asc κ xs.toList) (hS:∀ x∈xs.toList,S x) (i:Nat):Stretch κ S xs i (xs.size-i) (xs.toList.drop i) where
 eq:=List.take_of_length_le (by simp)
 len:=by simp
 all x hx:=hS x (List.mem_of_mem_drop hx)
 asc:=h.rest i
def xS (κ:Keyed->Int) (a b:Array Keyed) (B:Nat) (ro:Option (Array Keyed)) (out:Array Keyed) (ia ib:Nat):Prop:=
 (∃ r,ro=some r/\i6 κ a b r)\/(ro=none/\MI κ a b out ia ib/\ia+1<a.size/\ib<b.size/\(a.size-ia)+(b.size-ib)<=B)
abbrev Gs:Type:=Option (Array Keyed)×Array Keyed×Nat×Nat×Nat×Nat×Nat
def GsQ (κ:Keyed->Int) (a b:Array Keyed) (B:Nat) (st:SortSt) (r:ForInStep Gs) (st':SortSt):Prop:=SameBut st st'/\match r with
 | .done c=>xS κ a b B c.1 c.2.1 c.2.2.1 c.2.2.2.1
 | .yield c=>c.1=none/\xS κ a b B c.1 c.2.1 c.2.2.1 c.2.2.2.1
noncomputable def F3 (a b out:Array Keyed) (ia ib g k k1:Nat):StateT SortSt Sem (ForInStep Gs):=do
 let x <- elem' a ia
 if (ia+1+1==a.size)=true then pure (.done (some (out.push x++b.extract ib b.size++a.extract (ia+1) a.size),out.push x,ia+1,ib,g,k,k1))
 else if (decide (k<7)&&decide (k1<7))=true then pure (.done (none,out.push x,ia+1,ib,g,k,k1)) else pure (.yield (none,out.push x,ia+1,ib,g,k,k1))
noncomputable def IQ (a b out:Array Keyed) (ia ib g k n2:Nat):StateT SortSt Sem (ForInStep Gs):=do
 let y <- elem' b ib
 if (ib+1==b.size)=true then pure (.done (some (out.push y++a.extract ia a.size++b.extract (ib+1) b.size),out.push y,ia,ib+1,g,k,n2))
 else do
  let x <- elem' a ia
  let r <- dL true x b (ib+1) (b.size-(ib+1)) 0
  match r with
  | some k1=>
   if k1>0 then
    if (ib+1+k1==b.size)=true then pure (.done (some (out.push y++b.extract (ib+1) (ib+1+k1)++a.extract ia a.size++b.extract (ib+1+k1) b.size),out.push y++b.extract (ib+1) (ib+1+k1),ia,ib+1+k1,g,k,k1))
    else F3 a b (out.push y++b.extract (ib+1) (ib+1+k1)) ia (ib+1+k1) g k k1
   else F3 a b (out.push y) ia (ib+1) g k k1
  | _=>pure (.done (some (out.push y++a.extract ia a.size++b.extract (ib+1) b.size),out.push y,ia,ib+1,g,k,n2))
theorem wK {st st':SortSt} {out:Array Keyed} {ia ib g k k1 B:Nat} {x:Keyed} (m:MI κ a b out ia ib) (hx:a[ia]? = some x) (q:∀ z∈b.toList.drop ib,κ x <= κ z) (hl:∀ x,a[a.size-1]? = some x->∀ y∈b.toList,κ y <= κ x) (p1:ia+1<a.size) (p2:ib<b.size) (p3:(a.size-ia)+(b.size-ib)<=B) (sm:SameBut st st') :
  wpS M A E s (F3 a b out ia ib g k k1) (GsQ κ a b B st) st':=by
 unfold F3
 refine wpS_bind (bd hx ?_)
 have m':=m.pushA hx q
 by_cases c:(ia+1+1==a.size)=true
 ·rw [if_pos c]
  exact wpS_pure ⟨sm,.inl ⟨_,rfl,m'.last (by simpa using c) hl⟩⟩
 rw [if_neg c]
 have c:ia+1+1≠a.size:=by simpa using c
 have pt:xS κ a b B none (out.push x) (ia+1) ib:=.inr ⟨rfl,m',by omega,p2,by omega⟩
 split
 ·exact wpS_pure ⟨sm,pt⟩
 ·exact wpS_pure ⟨sm,rfl,pt⟩
theorem wL (T:dB M A E s kd κ S) {st st':SortSt} {out:Array Keyed} {ia ib g k n2 B:Nat} {y:Keyed} (sa:Asc κ a.toList) (sb:Asc κ b.toList) (Sa:∀ x∈a.toList,S x) (Sb:∀ x∈b.toList,S x) (m:MI κ a b out ia ib) (hy:b[ib]? = some y) (q:∀ z∈a.toList.drop ia,κ y <= κ z) (hl:∀ x,a[a.size-1]? = some x->∀ y∈b.toList,κ y <= κ x)
  (p1:ia+1<a.size) (p2:ib<b.size) (p3:(a.size-ia)+(b.size-ib)<=B) (sm:SameBut st st') (ek:kindOf st=kd):wpS M A E s (IQ a b out ia ib g k n2) (GsQ κ a b B st) st':=by
 unfold IQ
 refine wpS_bind (bd hy ?_)
 have mB:=m.pushB hy q
 by_cases c3:(ib+1==b.size)=true
 ·rw [if_pos c3]
  exact wpS_pure ⟨sm,.inl ⟨_,rfl,mB.done (.inl (by simpa using c3))⟩⟩
 rw [if_neg c3]
 have c3:ib+1≠b.size:=by simpa using c3
 obtain ⟨x,hx⟩:=dX (xs:=a) (i:=ia) (by omega)
 refine wpS_bind (bd hx ?_)
 refine wpS_bind (ik T (sW sb Sb (ib+1)) (Sa x (eQ hx)) (sm.1.trans ek) (by omega) fun k1 k2 ek2 f1 f2=>?_)
 simp only [if_true] at f1 f2
 dsimp only
 rcases Nat.eq_zero_or_pos k1.length with h1 | h1
 ·rw [if_neg (by omega)]
  have:k1=[]:=List.length_eq_zero_iff.mp h1
  subst this
  exact wK mB hx (fun z hz=>f2 z (by rw [ek2,List.nil_append] at hz; exact hz)) hl p1 (by omega) (by omega) sm
 ·rw [if_pos h1]
  have mC:=mB.appB ek2 fun z hz u hu=>Int.le_trans (Int.le_of_lt (f1 z hz)) (jQ sa hx u hu)
  have ln:k1.length+k2.length=b.size-(ib+1):=by
   have:=congrArg List.length ek2
   rw [List.length_append,List.length_drop,Array.length_toList] at this
   exact this.symm
  by_cases c4:(ib+1+k1.length==b.size)=true
  ·rw [if_pos c4]
   exact wpS_pure ⟨sm,.inl ⟨_,rfl,mC.done (.inl (by simpa using c4))⟩⟩
  rw [if_neg c4]
  have c4:ib+1+k1.length≠b.size:=by simpa using c4
  exact wK mC hx (fun z hz=>f2 z (by rw [(jF ek2 rfl).2] at hz; exact hz)) hl p1 (by omega) (by omega) sm
theorem GsQ.y {B:Nat} {st st':SortSt} {c:Gs} (h:GsQ κ a b B st (.yield c) st'):SameBut st st'/\∃ out ia ib g x y,c=(none,out,ia,ib,g,x,y)/\MI κ a b out ia ib/\ia+1<a.size/\ib<b.size/\(a.size-ia)+(b.size-ib)<=B:=by
 obtain ⟨sm,e,pt⟩:=h
 obtain ⟨ro,out,ia,ib,g,x,y⟩:=c
 have e:ro=none:=e
 subst e
 rcases pt with ⟨r,e,_⟩ | ⟨_,m,p1,p2,p3⟩
 ·cases e
 ·exact ⟨sm,out,ia,ib,g,x,y,rfl,m,p1,p2,p3⟩
theorem pJ (T:dB M A E s kd κ S) {st:SortSt} {Q:Array Keyed->SortSt->Prop} (sa:Asc κ a.toList) (sb:Asc κ b.toList) (Sa:∀ x∈a.toList,S x) (Sb:∀ x∈b.toList,S x) (na:1<=a.size) (nb:1<=b.size)
  (h0:∀ y,b[0]? = some y->∀ x∈a.toList,κ y <= κ x) (hl:∀ x,a[a.size-1]? = some x->∀ y∈b.toList,κ y <= κ x) (ek:kindOf st=kd) (h:∀ out st',i6 κ a b out->SameBut st st'->Q out st'):wpS M A E s (lT a b) Q st:=by
 rw [qr]
 refine wpS_bind (wpS_lift (wpAny_rule ⟨rfl,?_⟩))
 obtain ⟨y0,hy0⟩:=dX (xs:=b) (i:=0) (by omega)
 refine wpS_bind (bd hy0 ?_)
 dsimp only
 have m0:MI κ a b #[] 0 0:=⟨by simp,List.Pairwise.nil,fun x hx=>by simp at hx,sa,sb⟩
 have m1:MI κ a b #[y0] 0 1:=m0.pushB hy0 fun x hx=>h0 y0 hy0 x hx
 by_cases c1:(1==b.size)=true
 ·rw [if_pos c1]
  exact wpS_pure (h _ _ (m1.done (.inl (by simpa using c1))) (.refl _))
 rw [if_neg c1]
 have c1:1≠b.size:=by simpa using c1
 by_cases c2:(0+1==a.size)=true
 ·rw [if_pos c2]
  exact wpS_pure (h _ _ (m1.last (by simpa using c2) hl) (.refl _))
 rw [if_neg c2]
 have c2:0+1≠a.size:=by simpa using c2
 refine wpS_bind (wpS_get ?_)
 refine wpS_bind (wpS_mono (wpS_forRange (I:=fun t c st'=>SameBut st st'/\∃ out ia ib g,c=(none,out,ia,ib,g)/\MI κ a b out ia ib/\ia+1<a.size/\ib<b.size/\(a.size-ia)+(b.size-ib)+t+1<=a.size+b.size)
  (Q:=fun c st'=>SameBut st st'/\∃ r,c.1=some r/\i6 κ a b r) ?step ?fin ⟨.refl _,_,_,_,_,rfl,m1,by omega,by omega,by omega⟩) ?post)
 case fin=>
  rintro c st' ⟨sm,out,ia,ib,g,rfl,m,p1,p2,p3⟩
  omega
 case post=>
  rintro c st' ⟨sm,r,e,g⟩
  rw [e]
  exact wpS_pure (h r st' g sm)
 case step=>
  rintro t c st1 _ ht ⟨sm1,out,ia,ib,g,rfl,m,p1,p2,p3⟩
  dsimp only
  refine wpS_bind (wpS_mono (wpS_forRange (I:=fun u c st'=>SameBut st st'/\∃ out ia ib x y,c=(none,out,ia,ib,x,y)/\MI κ a b out ia ib/\ia+1<a.size/\ib<b.size/\(a.size-ia)+(b.size-ib)+t+1+min u 1<=a.size+b.size)
   (Q:=fun c st'=>SameBut st st'/\xS κ a b (a.size+b.size-t-2) c.1 c.2.1 c.2.2.1 c.2.2.2.1) ?step1 ?fin1 ⟨sm1,_,_,_,_,_,rfl,m,p1,p2,by omega⟩) ?post1)
  case fin1=>
   rintro c st' ⟨sm,out,ia,ib,x,y,rfl,m,p1,p2,p3⟩
   exact ⟨sm,.inr ⟨rfl,m,p1,p2,show a.size-ia+(b.size-ib)<=_ by omega⟩⟩
  case step1=>
   rintro u c st2 _ hu ⟨sm2,out,ia,ib,n1,n2,rfl,m,p1,p2,p3⟩
   dsimp only
   obtain ⟨y,hy⟩:=dX (xs:=b) (i:=ib) p2
   obtain ⟨x,hx⟩:=dX (xs:=a) (i:=ia) (by omega)
   refine wpS_bind (bd hy (wpS_bind (bd hx (wpS_bind (T y x (Sb y (eQ hy)) (Sa x (eQ hx)) st2 _ (sm2.1.trans ek) ?_)))))
   dsimp only
   by_cases q:κ y < κ x
   ·simp only [q,decide_true,if_true]
    refine wpS_bind (bd hy ?_)
    have m':=m.pushB hy fun z hz=>Int.le_trans (Int.le_of_lt q) (jQ sa hx z hz)
    by_cases c3:(ib+1==b.size)=true
    ·rw [if_pos c3]
     exact wpS_pure ⟨sm2,.inl ⟨_,rfl,m'.done (.inl (by simpa using c3))⟩⟩
    rw [if_neg c3]
    have c3:ib+1≠b.size:=by simpa using c3
    split
    ·exact wpS_pure ⟨sm2,.inr ⟨rfl,m',p1,show ib+1<b.size by omega,show a.size-ia+(b.size-(ib+1))<=_ by omega⟩⟩
    ·exact wpS_pure ⟨sm2,_,_,_,_,_,rfl,m',p1,by omega,by omega⟩
   ·simp only [q,decide_false,Bool.false_eq_true,if_false]
    refine wpS_bind (bd hx ?_)
    have m':=m.pushA hx fun z hz=>Int.le_trans (Int.not_lt.mp q) (jQ sb hy z hz)
    by_cases c3:(ia+1+1==a.size)=true
    ·rw [if_pos c3]
     exact wpS_pure ⟨sm2,.inl ⟨_,rfl,m'.last (by simpa using c3) hl⟩⟩
    rw [if_neg c3]
    have c3:ia+1+1≠a.size:=by simpa using c3
    split
    ·exact wpS_pure ⟨sm2,.inr ⟨rfl,m',show ia+1+1<a.size by omega,p2,show a.size-(ia+1)+(b.size-ib)<=_ by omega⟩⟩
    ·exact wpS_pure ⟨sm2,_,_,_,_,_,rfl,m',by omega,p2,by omega⟩
  case post1=>
   rintro ⟨ro,out,ia,ib,n1,n2⟩ st2 ⟨sm2,pt⟩
   rcases pt with ⟨r,e,gd⟩ | ⟨e,m,p1,p2,p3⟩
   ·have e:ro=some r:=e
    subst e
    exact wpS_pure ⟨sm2,r,rfl,gd⟩
   have e:ro=none:=e
   subst e
   dsimp only at m p1 p2 p3 ⊢
   refine wpS_bind (wpS_lift (wpAny_rule ⟨rfl,?_⟩))
   refine wpS_bind (wpS_mono (wpS_forRange (I:=fun u c st'=>SameBut st st'/\∃ out ia ib g x y,c=(none,out,ia,ib,g,x,y)/\MI κ a b out ia ib/\ia+1<a.size/\ib<b.size/\(a.size-ia)+(b.size-ib)<=a.size+b.size-t-2)
    (Q:=fun c st'=>SameBut st st'/\xS κ a b (a.size+b.size-t-2) c.1 c.2.1 c.2.2.1 c.2.2.2.1) ?step2 ?fin2 ⟨sm2,_,_,_,_,_,_,rfl,m,p1,p2,p3⟩) ?post2)
   case fin2=>
    rintro c st' ⟨sm,out,ia,ib,g,x,y,rfl,m,p1,p2,p3⟩
    exact ⟨sm,.inr ⟨rfl,m,p1,p2,p3⟩⟩
   case post2=>
    rintro ⟨ro,out,ia,ib,g,n1,n2⟩ st3 ⟨sm3,pt⟩
    rcases pt with ⟨r,e,gd⟩ | ⟨e,m,p1,p2,p3⟩
    ·have e:ro=some r:=e
     subst e
     exact wpS_pure ⟨sm3,r,rfl,gd⟩
    have e:ro=none:=e
    subst e
    dsimp only at m p1 p2 p3 ⊢
    exact wpS_bind (i8 sm3 fun st4 sm4=>wpS_pure ⟨sm4,_,_,_,_,rfl,m,p1,p2,by omega⟩)
   case step2=>
    rintro u c st3 _ hu ⟨sm3,out,ia,ib,g,n1,n2,rfl,m,p1,p2,p3⟩
    dsimp only
    obtain ⟨y,hy⟩:=dX (xs:=b) (i:=ib) p2
    have Sy:=Sb y (eQ hy)
    rcases Nat.lt_or_ge 1 g with hg | hg
    all_goals
     first
     | rw [if_pos hg]
     | rw [if_neg (Nat.not_lt.mpr hg)]
     refine wpS_bind (i8 sm3 fun st4 sm4=>?_)
     refine wpS_bind (bd hy ?_)
     refine wpS_bind (ik T (sW sa Sa ia) Sy (sm4.1.trans ek) (by omega) fun l1 l2 el e1 e2=>?_)
     simp only [Bool.false_eq_true,if_false] at e1 e2
     dsimp only
     rcases Nat.eq_zero_or_pos l1.length with h1 | h1
     ·rw [if_neg (by omega)]
      have l1n:l1=[]:=List.length_eq_zero_iff.mp h1
      subst l1n
      refine wpS_mono (wL (B:=a.size+b.size-t-2) (out:=out) (ia:=ia) (ib:=ib) (k:=0) (n2:=n2) T sa sb Sa Sb m hy (fun z hz=>Int.le_of_lt (e2 z (by rw [el,List.nil_append] at hz; exact hz))) hl p1 p2 p3 sm4 ek) fun r st5 gq=>?_
      cases r with
      | done c=>exact gq
      | yield c=>exact gq.y
     ·rw [if_pos h1]
      have mA:=m.appA el fun x hx z hz=>Int.le_trans (e1 x hx) (jQ sb hy z hz)
      have ln:l1.length+l2.length=a.size-ia:=by
       have:=congrArg List.length el
       rw [List.length_append,List.length_drop,Array.length_toList] at this
       exact this.symm
      by_cases c3:(ia+l1.length+1==a.size)=true
      ·rw [if_pos c3]
       exact wpS_pure ⟨sm4,.inl ⟨_,rfl,mA.last (by simpa using c3) hl⟩⟩
      rw [if_neg c3]
      by_cases c4:(ia+l1.length==a.size)=true
      ·rw [if_pos c4]
       exact wpS_pure ⟨sm4,.inl ⟨_,rfl,mA.done (.inr (by simpa using c4))⟩⟩
      rw [if_neg c4]
      have c3:ia+l1.length+1≠a.size:=by simpa using c3
      have c4:ia+l1.length≠a.size:=by simpa using c4
      refine wpS_mono (wL (B:=a.size+b.size-t-2) (out:=out++a.extract ia (ia+l1.length)) (ia:=ia+l1.length) (ib:=ib) (k:=l1.length) (n2:=n2) T sa sb Sa Sb mA hy (fun z hz=>Int.le_of_lt (e2 z (by rw [(jF el rfl).2] at hz; exact hz))) hl (by omega) p2 (by omega) sm4 ek) fun r st5 gq=>?_
      cases r with
      | done c=>exact gq
      | yield c=>exact gq.y
end
end VL
namespace VL
open PySem PySem.Spec PyProof.Rows
theorem qt (a b:Array Keyed):lU a b=(do
 rule "list.sort.merge-hi"
 let mut na:=a.size-1
 let mut nb:=b.size
 let mut out:Array Keyed:=#[<- elem' a na]
 if na==0 then return a.extract 0 na++b.extract 0 nb++out.reverse
 if nb==1 then return b.extract 0 nb++a.extract 0 na++out.reverse
 let mut minGallop:=gallopOf (<- get)
 for _ in [0:a.size+b.size] do
  let mut acount:=0
  let mut bcount:=0
  for _ in [0:a.size+b.size] do
   let some aWins <- lt' (<- elem' b (nb-1)) (<- elem' a (na-1)) | return a.extract 0 na++b.extract 0 nb++out.reverse
   if aWins then
    na:=na-1; out:=out.push (<- elem' a na); acount:=acount+1; bcount:=0
    if na==0 then return a.extract 0 na++b.extract 0 nb++out.reverse
    if acount>=minGallop then break
   else
    nb:=nb-1; out:=out.push (<- elem' b nb); bcount:=bcount+1; acount:=0
    if nb==1 then return b.extract 0 nb++a.extract 0 na++out.reverse
    if bcount>=minGallop then break
  rule "list.sort.gallop"
  minGallop:=minGallop+1
  for _ in [0:a.size+b.size] do
   if minGallop>1 then minGallop:=minGallop-1
   cW minGallop
   let some at_ <- dL false (<- elem' b (nb-1)) a 0 na (na-1) | return a.extract 0 na++b.extract 0 nb++out.reverse
   let k:=na-at_
   acount:=k
   if k>0 then
    out:=out++(a.extract at_ na).reverse; na:=at_
    if na==0 then return a.extract 0 na++b.extract 0 nb++out.reverse
   nb:=nb-1; out:=out.push (<- elem' b nb)
   if nb==1 then return b.extract 0 nb++a.extract 0 na++out.reverse
   let some at_ <- dL true (<- elem' a (na-1)) b 0 nb (nb-1) | return a.extract 0 na++b.extract 0 nb++out.reverse
   let k:=nb-at_
   bcount:=k
   if k>0 then
    out:=out++(b.extract at_ nb).reverse; nb:=at_
    if nb==1 then return b.extract 0 nb++a.extract 0 na++out.reverse
    if nb==0 then return a.extract 0 na++b.extract 0 nb++out.reverse
   na:=na-1; out:=out.push (<- elem' a na)
   if na==0 then return a.extract 0 na++b.extract 0 nb++out.reverse
   if acount<7&&bcount<7 then break
  minGallop:=minGallop+1
  cW minGallop
 unsupported "internal:list.sort.merge-bound"):=rfl
section
variable {M:Model} {A:Around} {E:Value->Shared->Prop} {s:Shared} {κ:Keyed->Int} {S:Keyed->Prop} {kd:SortKind}
variable {a b out:Array Keyed} {na nb:Nat}
theorem asc_neg {l:List Keyed}:Asc (fun x=>- κ x) l↔Asc κ l.reverse:=by
 unfold Asc
 rw [List.pairwise_reverse]
 constructor
 ·intro h; exact h.imp fun {x y} (q:- κ x <= - κ y)=>(by omega:κ y <= κ x)
 ·intro h; exact h.imp fun {x y} (q:κ y <= κ x)=>(by omega:- κ x <= - κ y)
def HI (κ:Keyed->Int) (a b out:Array Keyed) (na nb:Nat):Prop:=LI (fun x=>- κ x) (a.toList++b.toList) out.toList (a.toList.take na).reverse (b.toList.take nb).reverse
theorem jg {xs:Array Keyed} {i:Nat} {x:Keyed} (h:xs[i]? = some x):(xs.toList.take (i+1)).reverse=[x]++(xs.toList.take i).reverse:=by
 rw [<- Array.getElem?_toList] at h
 rw [List.take_add_one,h]
 simp
theorem HI.pushB (h:HI κ a b out na (nb+1)) {y:Keyed} (hy:b[nb]? = some y) (q:∀ x∈a.toList.take na,κ x <= κ y):HI κ a b (out.push y) na nb:=by
 unfold HI at h ⊢
 rw [jg hy] at h
 rw [Array.toList_push]
 exact h.mvB fun x hx z hz=>by
  have:=q z (List.mem_reverse.mp hz)
  rw [List.mem_singleton.mp hx]
  omega
theorem HI.pushA (h:HI κ a b out (na+1) nb) {y:Keyed} (hy:a[na]? = some y) (q:∀ x∈b.toList.take nb,κ x <= κ y):HI κ a b (out.push y) na nb:=by
 unfold HI at h ⊢
 rw [jg hy] at h
 rw [Array.toList_push]
 exact h.mvA fun x hx z hz=>by
  have:=q z (List.mem_reverse.mp hz)
  rw [List.mem_singleton.mp hx]
  omega
theorem jh {xs:Array Keyed} {n:Nat} {l1 l2:List Keyed} (hn:n<=xs.size) (h:xs.toList.take n=l1++l2):(xs.extract l1.length n).reverse.toList=l2.reverse/\xs.toList.take l1.length=l1:=by
 have hl:l1.length+l2.length=n:=by
  have:=congrArg List.length h
  rw [List.length_append,List.length_take,Array.length_toList] at this
  omega
 constructor
 ·rw [Array.toList_reverse,Array.toList_extract,List.extract_eq_drop_take]
  congr 1
  have:(xs.toList.take n).drop l1.length=l2:=by rw [h,List.drop_left]
  rw [<- this,List.drop_take]
 ·have:(xs.toList.take n).take l1.length=l1:=by rw [h,List.take_left]
  rw [List.take_take,Nat.min_eq_left (by omega)] at this
  exact this
theorem HI.appA (h:HI κ a b out na nb) {l1 l2:List Keyed} (hn:na<=a.size) (e:a.toList.take na=l1++l2) (q:∀ x∈l2,∀ y∈b.toList.take nb,κ y <= κ x):HI κ a b (out++(a.extract l1.length na).reverse) l1.length nb:=by
 obtain ⟨e1,e2⟩:=jh hn e
 unfold HI at h ⊢
 rw [Array.toList_append,e1,e2]
 rw [e,List.reverse_append] at h
 exact h.mvA fun x hx y hy=>by have:=q x (List.mem_reverse.mp hx) y (List.mem_reverse.mp hy); omega
theorem HI.appB (h:HI κ a b out na nb) {l1 l2:List Keyed} (hn:nb<=b.size) (e:b.toList.take nb=l1++l2) (q:∀ x∈l2,∀ y∈a.toList.take na,κ y <= κ x):HI κ a b (out++(b.extract l1.length nb).reverse) na l1.length:=by
 obtain ⟨e1,e2⟩:=jh hn e
 unfold HI at h ⊢
 rw [Array.toList_append,e1,e2]
 rw [e,List.reverse_append] at h
 exact h.mvB fun x hx y hy=>by have:=q x (List.mem_reverse.mp hx) y (List.mem_reverse.mp hy); omega
theorem xu {xs:Array Keyed} (n:Nat):(xs.extract 0 n).toList=xs.toList.take n:=by
 rw [Array.toList_extract,List.extract_eq_drop_take,Nat.sub_zero,List.drop_zero]
theorem mq {l:List Keyed} {r:Array Keyed} (e:r.toList=l.reverse) (h:l.Perm (a.toList++b.toList)/\Asc (fun x=>- κ x) l):i6 κ a b r:=by
 unfold i6
 rw [e]
 exact ⟨(List.reverse_perm l).trans h.1,asc_neg.mp h.2⟩
theorem HI.done (h:HI κ a b out na nb) (e:na=0\/nb=0):i6 κ a b (a.extract 0 na++b.extract 0 nb++out.reverse):=by
 unfold HI at h
 rcases e with rfl | rfl
 ·rw [List.take_zero,List.reverse_nil] at h
  exact mq (by simp [xu]) h.endB
 ·rw [List.take_zero,List.reverse_nil] at h
  exact mq (by simp [xu]) h.endA
theorem HI.first (h:HI κ a b out na nb) (e:nb=1) (q:∀ y,b[0]? = some y->∀ x∈a.toList,κ y <= κ x) (hb:1<=b.size):i6 κ a b (b.extract 0 nb++a.extract 0 na++out.reverse):=by
 subst e
 obtain ⟨y,hy⟩:=dX (xs:=b) (i:=0) (by omega)
 unfold HI at h
 have t:=jg hy
 rw [List.take_zero,List.reverse_nil,List.append_nil] at t
 have t:(b.toList.take 1).reverse=[y]:=t
 rw [t] at h
 have t2:b.toList.take 1=[y]:=by rw [<- List.reverse_reverse (b.toList.take 1),t]; rfl
 exact mq (by simp [xu,t2]) (h.swap.last fun x hx=>by have:=q y hy x (List.mem_of_mem_take (List.mem_reverse.mp hx)); omega)
theorem jP {xs:Array Keyed} (h:Asc κ xs.toList) {i:Nat} {x:Keyed} (e:xs[i]? = some x):∀ y∈xs.toList.take (i+1),κ y <= κ x:=fun y hy=>by
 have q:Asc κ (xs.toList.take (i+1)):=List.Pairwise.take h
 have t:xs.toList.take (i+1)=xs.toList.take i++[x]:=by rw [<- List.reverse_reverse (xs.toList.take (i+1)),jg e]; simp
 rw [t] at q hy
 rcases List.mem_append.mp hy with hy | hy
 ·exact q.mid y hy x (List.mem_singleton.mpr rfl)
 ·rw [List.mem_singleton.mp hy]; exact Int.le_refl _
theorem pS {xs:Array Keyed} (h:Asc κ xs.toList) (hS:∀ x∈xs.toList,S x) {n:Nat} (hn:n<=xs.size):Stretch κ S xs 0 n (xs.toList.take n) where
 eq:=by rw [List.drop_zero]
 len:=by rw [List.length_take,Array.length_toList]; omega
 all x hx:=hS x (List.mem_of_mem_take hx)
 asc:=List.Pairwise.take h
end
end VL
namespace VL
open PySem PySem.Spec PyProof.Rows
section
variable {M:Model} {A:Around} {E:Value->Shared->Prop} {s:Shared} {κ:Keyed->Int} {S:Keyed->Prop} {kd:SortKind}
variable {a b:Array Keyed}
abbrev Hs:Type:=Option (Array Keyed)×Nat×Nat×Array Keyed×Nat×Nat×Nat
def rA (κ:Keyed->Int) (a b:Array Keyed) (B:Nat) (ro:Option (Array Keyed)) (na nb:Nat) (out:Array Keyed):Prop:=
 (∃ r,ro=some r/\i6 κ a b r)\/(ro=none/\HI κ a b out na nb/\1<=na/\2<=nb/\na<=a.size/\nb<=b.size/\na+nb<=B)
def HsQ (κ:Keyed->Int) (a b:Array Keyed) (B:Nat) (st:SortSt) (r:ForInStep Hs) (st':SortSt):Prop:=SameBut st st'/\match r with
 | .done c=>rA κ a b B c.1 c.2.1 c.2.2.1 c.2.2.2.1
 | .yield c=>c.1=none/\rA κ a b B c.1 c.2.1 c.2.2.1 c.2.2.2.1
noncomputable def Ge (a b out:Array Keyed) (na nb g k k1:Nat):StateT SortSt Sem (ForInStep Hs):=do
 let x <- elem' a (na-1)
 if (na-1==0)=true then pure (.done (some (a.extract 0 (na-1)++b.extract 0 nb++(out.push x).reverse),na-1,nb,out.push x,g,k,k1))
 else if (decide (k<7)&&decide (k1<7))=true then pure (.done (none,na-1,nb,out.push x,g,k,k1)) else pure (.yield (none,na-1,nb,out.push x,g,k,k1))
noncomputable def IW (a b out:Array Keyed) (na nb g k n2:Nat):StateT SortSt Sem (ForInStep Hs):=do
 let y <- elem' b (nb-1)
 if (nb-1==1)=true then pure (.done (some (b.extract 0 (nb-1)++a.extract 0 na++(out.push y).reverse),na,nb-1,out.push y,g,k,n2))
 else do
  let x <- elem' a (na-1)
  let r <- dL true x b 0 (nb-1) (nb-1-1)
  match r with
  | some k1=>
   if nb-1-k1>0 then
    if (k1==1)=true then pure (.done (some (b.extract 0 k1++a.extract 0 na++(out.push y++(b.extract k1 (nb-1)).reverse).reverse),na,k1,out.push y++(b.extract k1 (nb-1)).reverse,g,k,nb-1-k1))
    else if (k1==0)=true then pure (.done (some (a.extract 0 na++b.extract 0 k1++(out.push y++(b.extract k1 (nb-1)).reverse).reverse),na,k1,out.push y++(b.extract k1 (nb-1)).reverse,g,k,nb-1-k1))
    else Ge a b (out.push y++(b.extract k1 (nb-1)).reverse) na k1 g k (nb-1-k1)
   else Ge a b (out.push y) na (nb-1) g k (nb-1-k1)
  | _=>pure (.done (some (a.extract 0 na++b.extract 0 (nb-1)++(out.push y).reverse),na,nb-1,out.push y,g,k,n2))
theorem xj {st st':SortSt} {out:Array Keyed} {na nb g k k1 B:Nat} {x:Keyed} (m:HI κ a b out na nb) (hx:a[na-1]? = some x) (q:∀ z∈b.toList.take nb,κ z <= κ x) (p1:1<=na) (p2:2<=nb) (p4:na<=a.size) (p5:nb<=b.size) (p3:na+nb<=B) (sm:SameBut st st') :
  wpS M A E s (Ge a b out na nb g k k1) (HsQ κ a b B st) st':=by
 unfold Ge
 refine wpS_bind (bd hx ?_)
 have m':HI κ a b (out.push x) (na-1) nb:=HI.pushA (by rw [show na-1+1=na by omega]; exact m) hx q
 by_cases c:(na-1==0)=true
 ·rw [if_pos c]
  exact wpS_pure ⟨sm,.inl ⟨_,rfl,m'.done (.inl (by simpa using c))⟩⟩
 rw [if_neg c]
 have c:na-1≠0:=by simpa using c
 have pt:rA κ a b B none (na-1) nb (out.push x):=.inr ⟨rfl,m',by omega,p2,by omega,p5,by omega⟩
 split
 ·exact wpS_pure ⟨sm,pt⟩
 ·exact wpS_pure ⟨sm,rfl,pt⟩
theorem xk (T:dB M A E s kd κ S) {st st':SortSt} {out:Array Keyed} {na nb g k n2 B:Nat} {y:Keyed} (sa:Asc κ a.toList) (sb:Asc κ b.toList) (Sa:∀ x∈a.toList,S x) (Sb:∀ x∈b.toList,S x) (m:HI κ a b out na nb) (hy:b[nb-1]? = some y) (q:∀ z∈a.toList.take na,κ z <= κ y) (h0:∀ y,b[0]? = some y->∀ x∈a.toList,κ y <= κ x)
  (p1:1<=na) (p2:2<=nb) (p4:na<=a.size) (p5:nb<=b.size) (p3:na+nb<=B) (sm:SameBut st st') (ek:kindOf st=kd):wpS M A E s (IW a b out na nb g k n2) (HsQ κ a b B st) st':=by
 unfold IW
 refine wpS_bind (bd hy ?_)
 have mB:HI κ a b (out.push y) na (nb-1):=HI.pushB (by rw [show nb-1+1=nb by omega]; exact m) hy q
 by_cases c3:(nb-1==1)=true
 ·rw [if_pos c3]
  exact wpS_pure ⟨sm,.inl ⟨_,rfl,mB.first (by simpa using c3) h0 (by omega)⟩⟩
 rw [if_neg c3]
 have c3:nb-1≠1:=by simpa using c3
 obtain ⟨x,hx⟩:=dX (xs:=a) (i:=na-1) (by omega)
 refine wpS_bind (bd hx ?_)
 have ax:∀ u∈a.toList.take na,κ u <= κ x:=fun u hu=>jP sa hx u (by rw [show na-1+1=na by omega]; exact hu)
 refine wpS_bind (ik T (pS sb Sb (n:=nb-1) (by omega)) (Sa x (eQ hx)) (sm.1.trans ek) (by omega) fun k1 k2 ek2 f1 f2=>?_)
 simp only [if_true] at f1 f2
 dsimp only
 have ln:k1.length+k2.length=nb-1:=by
  have:=congrArg List.length ek2
  rw [List.length_append,List.length_take,Array.length_toList] at this
  omega
 rcases Nat.eq_zero_or_pos (nb-1-k1.length) with h1 | h1
 ·rw [if_neg (by omega)]
  have:k2=[]:=List.length_eq_zero_iff.mp (by omega)
  subst this
  exact xj mB hx (fun z hz=>Int.le_of_lt (f1 z (by rw [ek2,List.append_nil] at hz; exact hz))) p1 (by omega) p4 (by omega) (by omega) sm
 ·rw [if_pos h1]
  have mC:=mB.appB (by omega) ek2 fun z hz u hu=>Int.le_trans (ax u hu) (f2 z hz)
  by_cases c4:(k1.length==1)=true
  ·rw [if_pos c4]
   exact wpS_pure ⟨sm,.inl ⟨_,rfl,mC.first (by simpa using c4) h0 (by omega)⟩⟩
  rw [if_neg c4]
  by_cases c5:(k1.length==0)=true
  ·rw [if_pos c5]
   exact wpS_pure ⟨sm,.inl ⟨_,rfl,mC.done (.inr (by simpa using c5))⟩⟩
  rw [if_neg c5]
  have c4:k1.length≠1:=by simpa using c4
  have c5:k1.length≠0:=by simpa using c5
  exact xj mC hx (fun z hz=>Int.le_of_lt (f1 z (by rw [(jh (by omega) ek2).2] at hz; exact hz))) p1 (by omega) p4 (by omega) (by omega) sm
theorem HsQ.y {B:Nat} {st st':SortSt} {c:Hs} (h:HsQ κ a b B st (.yield c) st'):SameBut st st'/\∃ na nb out g x y,c=(none,na,nb,out,g,x,y)/\HI κ a b out na nb/\1<=na/\2<=nb/\na<=a.size/\nb<=b.size/\na+nb<=B:=by
 obtain ⟨sm,e,pt⟩:=h
 obtain ⟨ro,na,nb,out,g,x,y⟩:=c
 have e:ro=none:=e
 subst e
 rcases pt with ⟨r,e,_⟩ | ⟨_,m,p1,p2,p3⟩
 ·cases e
 ·exact ⟨sm,na,nb,out,g,x,y,rfl,m,p1,p2,p3⟩
theorem pK (T:dB M A E s kd κ S) {st:SortSt} {Q:Array Keyed->SortSt->Prop} (sa:Asc κ a.toList) (sb:Asc κ b.toList) (Sa:∀ x∈a.toList,S x) (Sb:∀ x∈b.toList,S x) (na:1<=a.size) (nb:1<=b.size)
  (h0:∀ y,b[0]? = some y->∀ x∈a.toList,κ y <= κ x) (hl:∀ x,a[a.size-1]? = some x->∀ y∈b.toList,κ y <= κ x) (ek:kindOf st=kd) (h:∀ out st',i6 κ a b out->SameBut st st'->Q out st'):wpS M A E s (lU a b) Q st:=by
 rw [qt]
 refine wpS_bind (wpS_lift (wpAny_rule ⟨rfl,?_⟩))
 obtain ⟨x0,hx0⟩:=dX (xs:=a) (i:=a.size-1) (by omega)
 refine wpS_bind (bd hx0 ?_)
 dsimp only
 have m0:HI κ a b #[] a.size b.size:=by
  have e1:a.toList.take a.size=a.toList:=List.take_of_length_le (by simp)
  have e2:b.toList.take b.size=b.toList:=List.take_of_length_le (by simp)
  unfold HI
  rw [e1,e2]
  exact ⟨by rw [List.nil_append]; exact (List.reverse_perm _).append (List.reverse_perm _),List.Pairwise.nil,fun x hx=>by simp at hx,asc_neg.mpr (by rw [List.reverse_reverse]; exact sa),asc_neg.mpr (by rw [List.reverse_reverse]; exact sb)⟩
 have m1:HI κ a b #[x0] (a.size-1) b.size:=HI.pushA (out:=#[]) (nb:=b.size) (na:=a.size-1) (by rw [show a.size-1+1=a.size by omega]; exact m0) hx0 fun z hz=>hl x0 hx0 z (List.mem_of_mem_take hz)
 by_cases c1:(a.size-1==0)=true
 ·rw [if_pos c1]
  exact wpS_pure (h _ _ (m1.done (.inl (by simpa using c1))) (.refl _))
 rw [if_neg c1]
 have c1:a.size-1≠0:=by simpa using c1
 by_cases c2:(b.size==1)=true
 ·rw [if_pos c2]
  exact wpS_pure (h _ _ (m1.first (by simpa using c2) h0 nb) (.refl _))
 rw [if_neg c2]
 have c2:b.size≠1:=by simpa using c2
 refine wpS_bind (wpS_get ?_)
 refine wpS_bind (wpS_mono (wpS_forRange (I:=fun t c st'=>SameBut st st'/\∃ na nb out g,c=(none,na,nb,out,g)/\HI κ a b out na nb/\1<=na/\2<=nb/\na<=a.size/\nb<=b.size/\na+nb+t+1<=a.size+b.size)
  (Q:=fun c st'=>SameBut st st'/\∃ r,c.1=some r/\i6 κ a b r) ?step ?fin ⟨.refl _,_,_,_,_,rfl,m1,by omega,by omega,by omega,by omega,by omega⟩) ?post)
 case fin=>
  rintro c st' ⟨sm,na,nb,out,g,rfl,m,p1,p2,p4,p5,p3⟩
  omega
 case post=>
  rintro c st' ⟨sm,r,e,g⟩
  rw [e]
  exact wpS_pure (h r st' g sm)
 case step=>
  rintro t c st1 _ ht ⟨sm1,na,nb,out,g,rfl,m,p1,p2,p4,p5,p3⟩
  dsimp only
  refine wpS_bind (wpS_mono (wpS_forRange (I:=fun u c st'=>SameBut st st'/\∃ na nb out x y,c=(none,na,nb,out,x,y)/\HI κ a b out na nb/\1<=na/\2<=nb/\na<=a.size/\nb<=b.size/\na+nb+t+1+min u 1<=a.size+b.size)
   (Q:=fun c st'=>SameBut st st'/\rA κ a b (a.size+b.size-t-2) c.1 c.2.1 c.2.2.1 c.2.2.2.1) ?step1 ?fin1 ⟨sm1,_,_,_,_,_,rfl,m,p1,p2,p4,p5,by omega⟩) ?post1)
  case fin1=>
   rintro c st' ⟨sm,na,nb,out,x,y,rfl,m,p1,p2,p4,p5,p3⟩
   exact ⟨sm,.inr ⟨rfl,m,p1,p2,p4,p5,show na+nb<=_ by omega⟩⟩
  case step1=>
   rintro u c st2 _ hu ⟨sm2,na,nb,out,n1,n2,rfl,m,p1,p2,p4,p5,p3⟩
   dsimp only
   obtain ⟨y,hy⟩:=dX (xs:=b) (i:=nb-1) (by omega)
   obtain ⟨x,hx⟩:=dX (xs:=a) (i:=na-1) (by omega)
   have ax:∀ u∈a.toList.take na,κ u <= κ x:=fun u hu=>jP sa hx u (by rw [show na-1+1=na by omega]; exact hu)
   have bx:∀ u∈b.toList.take nb,κ u <= κ y:=fun u hu=>jP sb hy u (by rw [show nb-1+1=nb by omega]; exact hu)
   refine wpS_bind (bd hy (wpS_bind (bd hx (wpS_bind (T y x (Sb y (eQ hy)) (Sa x (eQ hx)) st2 _ (sm2.1.trans ek) ?_)))))
   dsimp only
   by_cases q:κ y < κ x
   ·simp only [q,decide_true,if_true]
    refine wpS_bind (bd hx ?_)
    have m':HI κ a b (out.push x) (na-1) nb:=HI.pushA (by rw [show na-1+1=na by omega]; exact m) hx fun z hz=>Int.le_trans (bx z hz) (Int.le_of_lt q)
    by_cases c3:(na-1==0)=true
    ·rw [if_pos c3]
     exact wpS_pure ⟨sm2,.inl ⟨_,rfl,m'.done (.inl (by simpa using c3))⟩⟩
    rw [if_neg c3]
    have c3:na-1≠0:=by simpa using c3
    split
    ·exact wpS_pure ⟨sm2,.inr ⟨rfl,m',show 1<=na-1 by omega,p2,show na-1<=_ by omega,p5,show na-1+nb<=_ by omega⟩⟩
    ·exact wpS_pure ⟨sm2,_,_,_,_,_,rfl,m',by omega,p2,by omega,p5,by omega⟩
   ·simp only [q,decide_false,Bool.false_eq_true,if_false]
    refine wpS_bind (bd hy ?_)
    have m':HI κ a b (out.push y) na (nb-1):=HI.pushB (by rw [show nb-1+1=nb by omega]; exact m) hy fun z hz=>Int.le_trans (ax z hz) (Int.not_lt.mp q)
    by_cases c3:(nb-1==1)=true
    ·rw [if_pos c3]
     exact wpS_pure ⟨sm2,.inl ⟨_,rfl,m'.first (by simpa using c3) h0 (by omega)⟩⟩
    rw [if_neg c3]
    have c3:nb-1≠1:=by simpa using c3
    split
    ·exact wpS_pure ⟨sm2,.inr ⟨rfl,m',p1,show 2<=nb-1 by omega,p4,show nb-1<=_ by omega,show na+(nb-1)<=_ by omega⟩⟩
    ·exact wpS_pure ⟨sm2,_,_,_,_,_,rfl,m',p1,by omega,p4,by omega,by omega⟩
  case post1=>
   rintro ⟨ro,na,nb,out,n1,n2⟩ st2 ⟨sm2,pt⟩
   rcases pt with ⟨r,e,gd⟩ | ⟨e,m,p1,p2,p4,p5,p3⟩
   ·have e:ro=some r:=e
    subst e
    exact wpS_pure ⟨sm2,r,rfl,gd⟩
   have e:ro=none:=e
   subst e
   dsimp only at m p1 p2 p3 p4 p5 ⊢
   refine wpS_bind (wpS_lift (wpAny_rule ⟨rfl,?_⟩))
   refine wpS_bind (wpS_mono (wpS_forRange (I:=fun u c st'=>SameBut st st'/\∃ na nb out g x y,c=(none,na,nb,out,g,x,y)/\HI κ a b out na nb/\1<=na/\2<=nb/\na<=a.size/\nb<=b.size/\na+nb<=a.size+b.size-t-2)
    (Q:=fun c st'=>SameBut st st'/\rA κ a b (a.size+b.size-t-2) c.1 c.2.1 c.2.2.1 c.2.2.2.1) ?step2 ?fin2 ⟨sm2,_,_,_,_,_,_,rfl,m,p1,p2,p4,p5,p3⟩) ?post2)
   case fin2=>
    rintro c st' ⟨sm,na,nb,out,g,x,y,rfl,m,p⟩
    exact ⟨sm,.inr ⟨rfl,m,p⟩⟩
   case post2=>
    rintro ⟨ro,na,nb,out,g,n1,n2⟩ st3 ⟨sm3,pt⟩
    rcases pt with ⟨r,e,gd⟩ | ⟨e,m,p1,p2,p4,p5,p3⟩
    ·have e:ro=some r:=e
     subst e
     exact wpS_pure ⟨sm3,r,rfl,gd⟩
    have e:ro=none:=e
    subst e
    dsimp only at m p1 p2 p3 p4 p5 ⊢
    exact wpS_bind (i8 sm3 fun st4 sm4=>wpS_pure ⟨sm4,_,_,_,_,rfl,m,p1,p2,p4,p5,by omega⟩)
   case step2=>
    rintro u c st3 _ hu ⟨sm3,na,nb,out,g,n1,n2,rfl,m,p1,p2,p4,p5,p3⟩
    dsimp only
    obtain ⟨y,hy⟩:=dX (xs:=b) (i:=nb-1) (by omega)
    have Sy:=Sb y (eQ hy)
    have bx:∀ u∈b.toList.take nb,κ u <= κ y:=fun u hu=>jP sb hy u (by rw [show nb-1+1=nb by omega]; exact hu)
    rcases Nat.lt_or_ge 1 g with hg | hg
    all_goals
     first
     | rw [if_pos hg]
     | rw [if_neg (Nat.not_lt.mpr hg)]
     refine wpS_bind (i8 sm3 fun st4 sm4=>?_)
     refine wpS_bind (bd hy ?_)
     refine wpS_bind (ik T (pS sa Sa p4) Sy (sm4.1.trans ek) (by omega) fun l1 l2 el e1 e2=>?_)
     simp only [Bool.false_eq_true,if_false] at e1 e2
     dsimp only
     have ln:l1.length+l2.length=na:=by
      have:=congrArg List.length el
      rw [List.length_append,List.length_take,Array.length_toList] at this
      omega
     rcases Nat.eq_zero_or_pos (na-l1.length) with h1 | h1
     ·rw [if_neg (by omega)]
      have l2n:l2=[]:=List.length_eq_zero_iff.mp (by omega)
      subst l2n
      refine wpS_mono (xk (B:=a.size+b.size-t-2) (out:=out) (na:=na) (nb:=nb) (k:=na-l1.length) (n2:=n2) T sa sb Sa Sb m hy (fun z hz=>e1 z (by rw [el,List.append_nil] at hz; exact hz)) h0 p1 p2 p4 p5 p3 sm4 ek) fun r st5 gq=>?_
      cases r with
      | done c=>exact gq
      | yield c=>exact gq.y
     ·rw [if_pos h1]
      have mA:=m.appA p4 el fun x hx z hz=>Int.le_trans (bx z hz) (Int.le_of_lt (e2 x hx))
      by_cases c3:(l1.length==0)=true
      ·rw [if_pos c3]
       exact wpS_pure ⟨sm4,.inl ⟨_,rfl,mA.done (.inl (by simpa using c3))⟩⟩
      rw [if_neg c3]
      have c3:l1.length≠0:=by simpa using c3
      refine wpS_mono (xk (B:=a.size+b.size-t-2) (out:=out++(a.extract l1.length na).reverse) (na:=l1.length) (nb:=nb) (k:=na-l1.length) (n2:=n2) T sa sb Sa Sb mA hy (fun z hz=>e1 z (by rw [(jh p4 el).2] at hz; exact hz)) h0 (by omega) p2 (by omega) p5 (by omega) sm4 ek) fun r st5 gq=>?_
      cases r with
      | done c=>exact gq
      | yield c=>exact gq.y
end
end VL
namespace VL
open PySem PySem.Spec PyProof.Rows
theorem qu (i:Nat):mergeAt' i=(do
 let s <- get
 let (some (sa,na,power),some (sb,nb,_)):=((pendingOf s)[i]?,(pendingOf s)[i+1]?) | unsupported "internal:list.sort.pending"
 set (setPending s (((pendingOf s).setIfInBounds i (sa,na+nb,power)).eraseIdxIfInBounds (i+1)))
 let some k <- dL false (<- elem' (arrOf s) sb) (arrOf s) sa na 0 | return false
 let (sa,na):=(sa+k,na-k)
 if na==0 then return true
 let some nb <- dL true (<- elem' (arrOf s) (sa+na-1)) (arrOf s) sb nb (nb-1) | return false
 if nb==0 then return true
 let x:=(arrOf s).extract sa sb
 let y:=(arrOf s).extract sb (sb+nb)
 let merged <- if na<=nb then lT x y else lU x y
 modify fun s=>setArr s (merged.toList.zipIdx.foldl (fun a (p,j)=>a.setIfInBounds (sa+j) p) (arrOf s))
 return (failedOf (<- get)).isNone):=rfl
section
variable {M:Model} {A:Around} {E:Value->Shared->Prop} {s:Shared} {κ:Keyed->Int} {S:Keyed->Prop} {kd:SortKind}
theorem yr {σ:Type} {x:σ} {Q:PUnit -> σ -> Prop} {st:σ} (h:Q ⟨⟩ x):wpS M A E s (set x:StateT σ Sem PUnit) Q st:=by
 unfold wpS; rw [StateT.run_set]; exact wpAny_pure ⟨rfl,h⟩
theorem lw (o:Nat):∀ (l:List Keyed) (k:Nat) (xs:Array Keyed),o+k+l.length<=xs.size->((l.zipIdx k).foldl (fun (a:Array Keyed) (q:Keyed×Nat)=>a.setIfInBounds (o+q.2) q.1) xs).toList=xs.toList.take (o+k)++l++xs.toList.drop (o+k+l.length)
 | [],k,xs,_=>by simp
 | x::l,k,xs,h=>by
  rw [List.length_cons] at h
  rw [List.zipIdx_cons,List.foldl_cons,lw o l (k+1) _ (by rw [Array.size_setIfInBounds]; omega),Array.toList_setIfInBounds]
  have hk:o+k<xs.toList.length:=by rw [Array.length_toList]; omega
  rw [show o+(k+1)=o+k+1 by omega,List.take_add_one,List.take_set_of_le (Nat.le_refl _),List.getElem?_set_self hk,List.drop_set_of_lt (by omega),List.length_cons,show o+k+1+l.length=o+k+(l.length+1) by omega]
  simp
theorem yq (T:dB M A E s kd κ S) {st:SortSt} {L1 g1 g2 L2:List Keyed} {i pw pw2:Nat} {Q:Bool->SortSt->Prop} (ek:kindOf st=kd) (hf:failedOf st=none) (ha:(arrOf st).toList=L1++(g1++(g2++L2))) (a1:Asc κ g1) (a2:Asc κ g2) (n1:g1≠[]) (n2:g2≠[]) (hS:∀ x∈g1++g2,S x)
  (p1:(pendingOf st)[i]? = some (L1.length,g1.length,pw)) (p2:(pendingOf st)[i+1]? = some (L1.length+g1.length,g2.length,pw2))
  (h:∀ st' g,g.Perm (g1++g2)->Asc κ g->(arrOf st').toList=L1++(g++L2)->kindOf st'=kd->failedOf st'=none->pendingOf st'=((pendingOf st).setIfInBounds i (L1.length,g1.length+g2.length,pw)).eraseIdxIfInBounds (i+1)->Q true st') :
  wpS M A E s (mergeAt' i) Q st:=by
 rw [qu]
 refine wpS_bind (wpS_get ?_)
 rw [p1,p2]
 dsimp only
 refine wpS_bind (yr ?_)
 have sz:(arrOf st).size=L1.length+(g1.length+(g2.length+L2.length)):=by
  have:=congrArg List.length ha
  simpa using this
 have l1:1<=g1.length:=List.length_pos_iff.mpr n1
 have l2:1<=g2.length:=List.length_pos_iff.mpr n2
 have st1:Stretch κ S (arrOf st) L1.length g1.length g1:=⟨by rw [ha,List.drop_left,List.take_left],rfl,fun x hx=>hS x (by simp [hx]),a1⟩
 have st2:Stretch κ S (arrOf st) (L1.length+g1.length) g2.length g2:=⟨by rw [ha,<- List.drop_drop,List.drop_left,List.drop_left,List.take_left],rfl,fun x hx=>hS x (by simp [hx]),a2⟩
 have hb:=st2.get (i:=0) (by omega)
 rw [Nat.add_zero] at hb
 have Sb0:S g2[0]:=st2.all _ (List.getElem_mem _)
 have b0:∀ z∈g2,κ g2[0] <= κ z:=fun z hz=>by
  obtain ⟨j,hj,rfl⟩:=List.mem_iff_getElem.mp hz
  rcases Nat.eq_zero_or_pos j with q | q
  ·subst q; exact Int.le_refl _
  ·exact List.pairwise_iff_getElem.mp a2 0 j (by omega) hj q
 have same:∀ Z:SortSt,arrOf Z=arrOf st->kindOf Z=kindOf st->failedOf Z=failedOf st->pendingOf Z=((pendingOf st).setIfInBounds i (L1.length,g1.length+g2.length,pw)).eraseIdxIfInBounds (i+1)->(∀ x∈g1,∀ y∈g2,κ x <= κ y)->Q true Z:=fun Z e1 e2 e3 e4 q=>
  h Z (g1++g2) (List.Perm.refl _) (a1.app a2 q) (by rw [e1,ha,List.append_assoc]) (e2.trans ek) (e3.trans hf) e4
 refine wpS_bind (bd hb ?_)
 refine wpS_bind (ik T st1 Sb0 ek (by omega) fun u1 u2 eu e1 e2=>?_)
 simp only [Bool.false_eq_true,if_false] at e1 e2
 dsimp only
 have lu:u1.length+u2.length=g1.length:=by rw [eu,List.length_append]
 by_cases c1:(g1.length-u1.length==0)=true
 ·rw [if_pos c1]
  have:u2=[]:=List.length_eq_zero_iff.mp (by have:g1.length-u1.length=0:=(by simpa using c1); omega)
  subst this
  rw [List.append_nil] at eu
  refine wpS_pure (same _ rfl rfl rfl rfl fun x hx y hy=>Int.le_trans (e1 x (eu ▸ hx)) (b0 y hy))
 rw [if_neg c1]
 have c1:g1.length-u1.length≠0:=by simpa using c1
 have hlast:(arrOf st)[L1.length+u1.length+(g1.length-u1.length)-1]? = some g1[g1.length-1]:=by
  rw [show L1.length+u1.length+(g1.length-u1.length)-1=L1.length+(g1.length-1) by omega]
  exact st1.get (by omega)
 have gl:∀ z∈g1,κ z <= κ g1[g1.length-1]:=fun z hz=>by
  obtain ⟨j,hj,rfl⟩:=List.mem_iff_getElem.mp hz
  rcases Nat.lt_or_ge j (g1.length-1) with q | q
  ·exact List.pairwise_iff_getElem.mp a1 j _ hj (by omega) q
  ·have:j=g1.length-1:=by omega
   subst this; exact Int.le_refl _
 refine wpS_bind (bd hlast ?_)
 refine wpS_bind (ik T st2 (st1.all _ (List.getElem_mem _)) ek (by omega) fun v1 v2 ev f1 f2=>?_)
 simp only [if_true] at f1 f2
 dsimp only
 by_cases c2:(v1.length==0)=true
 ·rw [if_pos c2]
  have:v1=[]:=List.length_eq_zero_iff.mp (by simpa using c2)
  subst this
  rw [List.nil_append] at ev
  refine wpS_pure (same _ rfl rfl rfl rfl fun x hx y hy=>Int.le_trans (gl x hx) (f2 y (ev ▸ hy)))
 rw [if_neg c2]
 have c2:v1.length≠0:=by simpa using c2
 have lv:v1.length+v2.length=g2.length:=by rw [ev,List.length_append]
 have ex:((arrOf st).extract (L1.length+u1.length) (L1.length+g1.length)).toList=u2:=by
  rw [Array.toList_extract,List.extract_eq_drop_take,ha,eu,<- List.drop_drop,List.drop_left,List.append_assoc,List.drop_left,List.length_append,show L1.length+(u1.length+u2.length)-(L1.length+u1.length)=u2.length by omega,List.take_left]
 have ey:((arrOf st).extract (L1.length+g1.length) (L1.length+g1.length+v1.length)).toList=v1:=by
  rw [Array.toList_extract,List.extract_eq_drop_take,ha,<- List.drop_drop,List.drop_left,List.drop_left,ev,List.append_assoc,show L1.length+g1.length+v1.length-(L1.length+g1.length)=v1.length by omega,List.take_left]
 have hm:∀ (mg:Array Keyed) (st':SortSt),i6 κ ((arrOf st).extract (L1.length+u1.length) (L1.length+g1.length)) ((arrOf st).extract (L1.length+g1.length) (L1.length+g1.length+v1.length)) mg->SameBut (setPending st (((pendingOf st).setIfInBounds i (L1.length,g1.length+g2.length,pw)).eraseIdxIfInBounds (i+1))) st' ->
   wpS M A E s (do
    modify fun s=>setArr s (mg.toList.zipIdx.foldl (fun (a:Array Keyed) (q:Keyed×Nat)=>a.setIfInBounds (L1.length+u1.length+q.2) q.1) (arrOf s))
    return (failedOf (<- get)).isNone) Q st':=fun mg st' gd sm=>by
  obtain ⟨gp,ga⟩:=gd
  rw [ex,ey] at gp
  have ea:arrOf st'=arrOf st:=sm.2.1
  have lm:mg.toList.length=u2.length+v1.length:=by rw [gp.length_eq,List.length_append]
  refine wpS_bind (wpS_modify (wpS_bind (wpS_get (wpS_pure ?_))))
  have fn:failedOf st'=none:=sm.2.2.2.trans hf
  show Q (failedOf st').isNone _
  rw [fn]
  refine h _ (u1++mg.toList++v2) ?_ ?_ ?_ (sm.1.trans ek) fn sm.2.2.1
  ·rw [eu,ev]
   have:=((List.Perm.refl u1).append gp).append (List.Perm.refl v2)
   simpa [List.append_assoc] using this
  ·have mem:∀ z,z∈mg.toList->z∈u2\/z∈v1:=fun z hz=>List.mem_append.mp (gp.mem_iff.mp hz)
   have au:=eu ▸ a1
   have av:=ev ▸ a2
   have v0:∀ z∈v1,κ g2[0] <= κ z:=fun z hz=>b0 z (by rw [ev]; simp [hz])
   refine (au.left.app ga fun x hx z hz=>?_).app av.right fun x hx z hz=>?_
   ·rcases mem z hz with q | q
    ·exact au.mid x hx z q
    ·exact Int.le_trans (e1 x hx) (v0 z q)
   ·rcases List.mem_append.mp hx with q | q
    ·exact Int.le_trans (gl x (by rw [eu]; simp [q])) (f2 z hz)
    ·rcases mem x q with q | q
     ·exact Int.le_trans (gl x (by rw [eu]; simp [q])) (f2 z hz)
     ·exact av.mid x q z hz
  ·show (mg.toList.zipIdx.foldl _ (arrOf st')).toList=_
   rw [ea,lw (L1.length+u1.length) mg.toList 0 (arrOf st) (by rw [lm,sz]; omega),Nat.add_zero,ha,eu,ev,lm]
   have t1:(L1++(u1++u2++(v1++v2++L2))).take (L1.length+u1.length)=L1++u1:=by
    rw [show L1++(u1++u2++(v1++v2++L2))=(L1++u1)++(u2++(v1++v2++L2)) by simp [List.append_assoc],<- List.length_append,List.take_left]
   have t2:(L1++(u1++u2++(v1++v2++L2))).drop (L1.length+u1.length+(u2.length+v1.length))=v2++L2:=by
    rw [show L1++(u1++u2++(v1++v2++L2))=(L1++u1++(u2++v1))++(v2++L2) by simp [List.append_assoc],<- List.length_append,<- List.length_append,<- List.length_append,List.drop_left]
   rw [t1,t2]
   simp [List.append_assoc]
 have ax:Asc κ ((arrOf st).extract (L1.length+u1.length) (L1.length+g1.length)).toList:=by rw [ex]; exact (eu ▸ a1).right
 have ay:Asc κ ((arrOf st).extract (L1.length+g1.length) (L1.length+g1.length+v1.length)).toList:=by rw [ey]; exact (ev ▸ a2).left
 have SX:∀ x∈((arrOf st).extract (L1.length+u1.length) (L1.length+g1.length)).toList,S x:=by rw [ex]; exact fun x hx=>hS x (by rw [eu]; simp [hx])
 have SY:∀ x∈((arrOf st).extract (L1.length+g1.length) (L1.length+g1.length+v1.length)).toList,S x:=by rw [ey]; exact fun x hx=>hS x (by rw [ev]; simp [hx])
 have nX:1<=((arrOf st).extract (L1.length+u1.length) (L1.length+g1.length)).size:=by rw [<- Array.length_toList,ex]; omega
 have nY:1<=((arrOf st).extract (L1.length+g1.length) (L1.length+g1.length+v1.length)).size:=by rw [<- Array.length_toList,ey]; omega
 have h0:∀ y,((arrOf st).extract (L1.length+g1.length) (L1.length+g1.length+v1.length))[0]? = some y->∀ x∈((arrOf st).extract (L1.length+u1.length) (L1.length+g1.length)).toList,κ y <= κ x:=fun y hy x hx=>by
  rw [<- Array.getElem?_toList,ey] at hy
  have:g2[0]? = some y:=by rw [ev,List.getElem?_append_left (by omega)]; exact hy
  obtain ⟨_,e⟩:=List.getElem?_eq_some_iff.mp this
  rw [ex] at hx
  rw [<- e]
  exact Int.le_of_lt (e2 x hx)
 have hl:∀ x,((arrOf st).extract (L1.length+u1.length) (L1.length+g1.length))[((arrOf st).extract (L1.length+u1.length) (L1.length+g1.length)).size-1]? = some x->∀ y∈((arrOf st).extract (L1.length+g1.length) (L1.length+g1.length+v1.length)).toList,κ y <= κ x:=fun x hx y hy=>by
  rw [<- Array.length_toList,<- Array.getElem?_toList,ex] at hx
  have:g1[g1.length-1]? = some x:=by
   rw [<- hx]
   have:g1.length-1=u1.length+(u2.length-1):=by omega
   rw [this]
   conv=>lhs; rw [eu]
   rw [List.getElem?_append_right (by omega),Nat.add_sub_cancel_left]
  obtain ⟨_,e⟩:=List.getElem?_eq_some_iff.mp this
  rw [ey] at hy
  rw [<- e]
  exact Int.le_of_lt (f1 y hy)
 by_cases c3:g1.length-u1.length<=v1.length
 ·rw [if_pos c3]
  exact wpS_bind (pJ T ax ay SX SY nX nY h0 hl ek fun mg st' gd sm=>hm mg st' gd sm)
 ·rw [if_neg c3]
  exact wpS_bind (pK T ax ay SX SY nX nY h0 hl ek fun mg st' gd sm=>hm mg st' gd sm)
end
end VL
namespace VL
open PySem PySem.Spec PyProof.Rows
noncomputable def KA (κ:Keyed->Int) (xs:Array Keyed) (i:Nat):Int:=match xs[i]? with
 | some p=>κ p
 | none=>0
def mK (κ:Keyed->Int) (xs:Array Keyed) (lo k:Nat):Prop:=∀ i j,i<=j->j<k->KA κ xs (lo+i)<=KA κ xs (lo+j)
def kw (κ:Keyed->Int) (xs:Array Keyed) (lo k:Nat):Prop:=∀ i j,i<=j->j<k->KA κ xs (lo+j)<=KA κ xs (lo+i)
section
variable {M:Model} {A:Around} {E:Value->Shared->Prop} {s:Shared} {κ:Keyed->Int} {S:Keyed->Prop} {kd:SortKind}
theorem ij {xs ys:Array Keyed} {i j:Nat} (h:xs[i]? = ys[j]?):KA κ xs i=KA κ ys j:=by unfold KA; rw [h]
theorem og {xs:Array Keyed} {src d:Nat} (hs:src<xs.size) (hd:d<=src) (k:Nat) :
  KA κ (bubble xs src d) k=if k=src-d then KA κ xs src else if src-d<k/\k<=src then KA κ xs (k-1) else KA κ xs k:=by
 have e:=getElem?_bubble hs d hd k
 by_cases h1:k=src-d
 ·rw [if_pos h1] at e ⊢; exact ij e
 ·rw [if_neg h1] at e ⊢
  by_cases h2:src-d<k/\k<=src
  ·rw [if_pos h2] at e ⊢; exact ij e
  ·rw [if_neg h2] at e ⊢; exact ij e
theorem ku {xs:Array Keyed} {i j:Nat} (hj:j<=xs.size) (k:Nat):KA κ (mirror xs i j ((j-i) / 2)) k=if i<=k/\k<j then KA κ xs (i+j-1-k) else KA κ xs k:=by
 have e:=getElem?_mirror_all (i:=i) hj k
 by_cases h1:i<=k/\k<j
 ·rw [if_pos h1] at e ⊢; exact ij e
 ·rw [if_neg h1] at e ⊢; exact ij e
theorem cB {xs:Array Keyed} {i j:Nat} (hj:j<=xs.size) (heq:∀ k,i<=k->k<j->KA κ xs k=KA κ xs (j-1)) (k:Nat):KA κ (mirror xs i j ((j-i) / 2)) k=KA κ xs k:=by
 rw [ku hj]
 split
 ·rw [heq _ (by omega) (by omega),heq k (by omega) (by omega)]
 ·rfl
structure SB (S:Keyed->Prop) (kd:SortKind) (lo:Nat) (st0 st:SortSt):Prop where
 perm:(arrOf st).Perm (arrOf st0)
 pre:∀ k,k<lo->(arrOf st)[k]? = (arrOf st0)[k]?
 kind:kindOf st=kd
 failed:failedOf st=none
 pend:pendingOf st=pendingOf st0
 gal:gallopOf st=gallopOf st0
 all:∀ x∈(arrOf st0).toList,S x
theorem SB.size {lo:Nat} {st0 st:SortSt} (h:SB S kd lo st0 st):(arrOf st).size=(arrOf st0).size:=h.perm.size_eq
theorem SB.setArr {lo:Nat} {st0 st:SortSt} (h:SB S kd lo st0 st) {xs:Array Keyed} (hp:xs.Perm (arrOf st)) (hq:∀ k,k<lo->xs[k]? = (arrOf st)[k]?):SB S kd lo st0 (setArr st xs):=
 ⟨hp.trans h.perm,fun k hk=>(hq k hk).trans (h.pre k hk),h.kind,h.failed,h.pend,h.gal,h.all⟩
theorem SB.at {lo:Nat} {st0 st:SortSt} (h:SB S kd lo st0 st) {i:Nat} (hi:i<(arrOf st0).size):∃ x,(arrOf st)[i]? = some x/\S x /\ κ x=KA κ (arrOf st) i:=by
 obtain ⟨x,hx⟩:=dX (xs:=arrOf st) (i:=i) (by rw [h.size]; exact hi)
 exact ⟨x,hx,h.all x ((Array.perm_iff_toList_perm.mp h.perm).mem_iff.mp (eQ hx)),by unfold KA; rw [hx]⟩
theorem i9 (T:dB M A E s kd κ S) {lo:Nat} {st0 st:SortSt} {i j:Nat} {Q:Option Bool->SortSt->Prop} (hB:SB S kd lo st0 st) (hi:i<(arrOf st0).size) (hj:j<(arrOf st0).size)
  (h:Q (some (decide (KA κ (arrOf st) i<KA κ (arrOf st) j))) st):wpS M A E s (ltAt' i j) Q st:=by
 obtain ⟨x,e1,s1,k1⟩:=hB.at (κ:=κ) hi
 obtain ⟨y,e2,s2,k2⟩:=hB.at (κ:=κ) hj
 rw [ltAt'_eq]
 refine wpS_bind (wpS_get ?_)
 exact wpS_bind (bd e1 (wpS_bind (bd e2 (T x y s1 s2 st _ hB.kind (by rw [k1,k2]; exact h)))))
theorem gI {xs:Array Keyed} {i j lo:Nat} (hj:j<=xs.size) (hi:lo<=i):∀ k,k<lo->(mirror xs i j ((j-i) / 2))[k]? = xs[k]?:=fun k hk=>by
 rw [getElem?_mirror_all hj,if_neg (by omega)]
theorem sN {xs:Array Keyed} {src d lo:Nat} (hs:src<xs.size) (hd:d<=src) (hl:lo<=src-d):∀ k,k<lo->(bubble xs src d)[k]? = xs[k]?:=fun k hk=>by
 rw [getElem?_bubble hs d hd,if_neg (by omega),if_neg (by omega)]
theorem yu (T:dB M A E s kd κ S) {lo:Nat} {st0 st:SortSt} {n ok:Nat} {Q:Bool->SortSt->Prop} (hn:lo+n<=(arrOf st0).size) (hok:ok<=n) (hB:SB S kd lo st0 st) (hs:mK κ (arrOf st) lo ok)
  (h:∀ st',SB S kd lo st0 st'->mK κ (arrOf st') lo n->Q true st'):wpS M A E s (binarySort' lo n ok) Q st:=by
 rw [binarySort'_eq]
 refine wpS_bind (wpS_mono (wpS_forRange (I:=fun k c st'=>c=(none,())/\SB S kd lo st0 st'/\mK κ (arrOf st') lo (min k n))
  (Q:=fun c st'=>c=(none,())/\SB S kd lo st0 st'/\mK κ (arrOf st') lo n) ?step ?fin ?init) ?post)
 case post=>
  rintro c st' ⟨rfl,hB',hs'⟩
  exact wpS_pure (h st' hB' hs')
 case init=>
  refine ⟨rfl,hB,fun i j hij hj=>?_⟩
  by_cases h1:ok=0
  ·have:i=j:=by omega
   subst this; exact Int.le_refl _
  ·exact hs i j hij (by omega)
 case fin=>
  rintro c st' ⟨hc,hB',hs'⟩
  refine ⟨hc,hB',?_⟩
  rwa [show min (max (max ok 1) n) n=n by omega] at hs'
 case step=>
  rintro k c st' hak hkn ⟨rfl,hB',hs'⟩
  rw [show min k n=k by omega] at hs'
  have hk:lo+k<(arrOf st0).size:=by omega
  refine wpS_bind (wpS_mono (wpS_forRange (I:=fun x c st''=>st''=st'/\∃ l r,c=(none,l,r)/\l<=r/\r<=k/\r-l<=k-x /\
    (∀ i,i<l->KA κ (arrOf st') (lo+i)<=KA κ (arrOf st') (lo+k))/\(∀ i,r<=i->i<k->KA κ (arrOf st') (lo+k)<KA κ (arrOf st') (lo+i)))
   (Q:=fun c st''=>st''=st'/\∃ l r,c=(none,l,r)/\l<=k /\
    (∀ i,i<l->KA κ (arrOf st') (lo+i)<=KA κ (arrOf st') (lo+k))/\(∀ i,l<=i->i<k->KA κ (arrOf st') (lo+k)<KA κ (arrOf st') (lo+i))) ?istep ?ifin ?iinit) ?ipost)
  case iinit=>exact ⟨rfl,0,k,rfl,by omega,by omega,by omega,fun i hi=>by omega,fun i h1 h2=>by omega⟩
  case ifin=>
   rintro c st'' ⟨rfl,l,r,rfl,hlr,hrk,hm,hlo,hhi⟩
   have:l=r:=by omega
   subst this
   exact ⟨rfl,l,l,rfl,hrk,hlo,hhi⟩
  case istep=>
   rintro x c st'' _ hxk ⟨rfl,l,r,rfl,hlr,hrk,hm,hlo,hhi⟩
   dsimp only
   by_cases hge:l>=r
   ·rw [if_pos hge]
    have:l=r:=by omega
    subst this
    exact wpS_pure ⟨rfl,l,l,rfl,hrk,hlo,hhi⟩
   ·rw [if_neg hge]
    refine wpS_bind (i9 T hB' hk (by omega) ?_)
    by_cases hless:KA κ (arrOf st'') (lo+k)<KA κ (arrOf st'') (lo+(l+r) / 2)
    ·simp only [hless,decide_true,if_true]
     refine wpS_pure ⟨rfl,l,(l+r) / 2,rfl,by omega,by omega,by omega,hlo,fun i h1 h2=>?_⟩
     exact Int.lt_of_lt_of_le hless (hs' _ _ h1 h2)
    ·simp only [hless,decide_false,Bool.false_eq_true,if_false]
     refine wpS_pure ⟨rfl,(l+r) / 2+1,r,rfl,by omega,by omega,by omega,fun i h1=>?_,hhi⟩
     exact Int.le_trans (hs' i ((l+r) / 2) (by omega) (by omega)) (Int.not_lt.mp hless)
  case ipost=>
   rintro c st'' ⟨rfl,l,r,rfl,hlk,hlo,hhi⟩
   show wpS _ _ _ _ (do moveDown' (lo+k) (lo+l); pure (ForInStep.yield (none,()))) _ _
   rw [moveDown'_eq]
   have hks:lo+k<(arrOf st'').size:=by rw [hB'.size]; exact hk
   refine wpS_bind (wpS_modify (wpS_pure ⟨rfl,hB'.setArr (bubble_perm _ _ _) (sN hks (by omega) (by omega)),?_⟩))
   rw [show min (k+1) n=k+1 by omega]
   intro i j hij hj
   show KA κ (bubble (arrOf st'') (lo+k) (lo+k-(lo+l))) (lo+i)<=KA κ (bubble (arrOf st'') (lo+k) (lo+k-(lo+l))) (lo+j)
   rw [og hks (by omega),og hks (by omega),show lo+k-(lo+k-(lo+l))=lo+l by omega]
   have r1:∀ i,l<i->lo+i-1=lo+(i-1):=fun i hi=>by omega
   repeat' split
   all_goals first
    | (exfalso; omega)
    | exact Int.le_refl _
    | exact hlo _ (by omega)
    | (rw [r1 _ (by omega)]; exact Int.le_of_lt (hhi _ (by omega) (by omega)))
    | (rw [r1 _ (by omega),r1 _ (by omega)]; exact hs' _ _ (by omega) (by omega))
    | (rw [r1 _ (by omega)]; exact hs' _ _ (by omega) (by omega))
    | exact hs' _ _ (by omega) (by omega)
end
end VL
namespace VL
open PySem PySem.Spec PyProof.Rows
noncomputable def ascL (lo a nrem:Nat):StateT SortSt Sem AscSt:=
 forIn [a:nrem] ((none,a):AscSt) fun _ c=>do
  let x <- ltAt' (lo+c.snd) (lo+c.snd-1)
  match x with
  | some smaller=>if smaller=true then pure (ForInStep.done (none,c.snd)) else pure (ForInStep.yield (none,c.snd+1))
  | _=>pure (ForInStep.done (some none,c.snd))
noncomputable def lH (lo n nrem:Nat):StateT SortSt Sem (Option Nat):=do
 reverseSlice' lo (lo+n)
 let c <- ascL lo n nrem
 match c.fst with
 | some r=>pure r
 | none=>pure (some c.snd)
noncomputable def ua (lo n nrem:Nat):StateT SortSt Sem DescSt:=
 forIn [n:nrem] ((none,n,0):DescSt) fun _ c=>do
  let x <- ltAt' (lo+c.snd.fst) (lo+c.snd.fst-1)
  match x with
  | some smaller=>
   if smaller=true then
    if c.snd.snd>0 then do
     reverseSlice' (lo+c.snd.fst-(c.snd.snd+1)) (lo+c.snd.fst)
     pure (ForInStep.yield (none,c.snd.fst+1,0))
    else pure (ForInStep.yield (none,c.snd.fst+1,0))
   else do
    let x <- ltAt' (lo+c.snd.fst-1) (lo+c.snd.fst)
    match x with
    | some larger=>
     if larger=true then pure (ForInStep.done (none,c.snd.fst,c.snd.snd))
     else pure (ForInStep.yield (none,c.snd.fst+1,c.snd.snd+1))
    | _=>pure (ForInStep.done (some none,c.snd.fst,c.snd.snd))
  | _=>pure (ForInStep.done (some none,c.snd.fst,c.snd.snd))
noncomputable def gz (lo n nrem:Nat):StateT SortSt Sem (Option Nat):=do
 liftM (rule "list.sort.descending-run")
 let c <- ua lo (n+1) nrem
 match c.fst with
 | some r=>pure r
 | none=>
  if c.snd.snd>0 then do
   reverseSlice' (lo+c.snd.fst-(c.snd.snd+1)) (lo+c.snd.fst)
   lH lo c.snd.fst nrem
  else lH lo c.snd.fst nrem
theorem pd (lo nrem:Nat):countRun' lo nrem=(do
  let c <- ascL lo 1 nrem
  match c.fst with
  | some r=>pure r
  | none=>
   if (c.snd==nrem)=true then pure (some c.snd)
   else if c.snd>1 then do
    let x <- ltAt' lo (lo+c.snd-1)
    match x with
    | some rose=>if rose=true then pure (some c.snd) else do
      reverseSlice' lo (lo+c.snd)
      gz lo c.snd nrem
    | _=>pure none
   else gz lo c.snd nrem):=by
 rw [countRun'_eq]
 unfold gz lH ua ascL
 dsimp only
 congr 1
 funext c
 obtain ⟨r,n⟩:=c
 cases r with
 | some r=>rfl
 | none=>
  dsimp only
  split
  ·rfl
  ·split
   ·congr 1
    funext x
    cases x with
    | none=>rfl
    | some rose=>
     dsimp only
     split
     ·rfl
     ·congr 1
      funext u0
      congr 1
      funext u1
      congr 1
      congr 1
      funext c2
      obtain ⟨r2,n2,q2⟩:=c2
      cases r2 with
      | some r2=>rfl
      | none=>
       dsimp only
       split
       ·congr 1
        funext u2
        congr 1
        funext u3
        congr 1
        funext c3
        obtain ⟨r3,n3⟩:=c3
        cases r3 <;> rfl
       ·congr 1
        funext u3
        congr 1
        funext c3
        obtain ⟨r3,n3⟩:=c3
        cases r3 <;> rfl
   ·congr 1
    funext u1
    congr 1
    congr 1
    funext c2
    obtain ⟨r2,n2,q2⟩:=c2
    cases r2 with
    | some r2=>rfl
    | none=>
     dsimp only
     split
     ·congr 1
      funext u2
      congr 1
      funext u3
      congr 1
      funext c3
      obtain ⟨r3,n3⟩:=c3
      cases r3 <;> rfl
     ·congr 1
      funext u3
      congr 1
      funext c3
      obtain ⟨r3,n3⟩:=c3
      cases r3 <;> rfl
section
variable {M:Model} {A:Around} {E:Value->Shared->Prop} {s:Shared} {κ:Keyed->Int} {S:Keyed->Prop} {kd:SortKind} {lo:Nat} {st0 st:SortSt}
theorem kS {i j:Nat} {Q:Unit->SortSt->Prop} (h:Q () (setArr st (mirror (arrOf st) i j ((j-i) / 2)))):wpS M A E s (reverseSlice' i j) Q st:=by
 rw [reverseSlice'_eq]; exact wpS_modify h
theorem pL (T:dB M A E s kd κ S) {a nrem:Nat} {Q:AscSt->SortSt->Prop} (hn:lo+nrem<=(arrOf st0).size) (ha:1<=a) (han:a<=nrem) (hB:SB S kd lo st0 st) (hs:mK κ (arrOf st) lo a)
  (h:∀ n,a<=n->n<=nrem->mK κ (arrOf st) lo n->(n=nrem\/KA κ (arrOf st) (lo+n)<KA κ (arrOf st) (lo+n-1))->Q (none,n) st):wpS M A E s (ascL lo a nrem) Q st:=by
 unfold ascL
 refine wpS_forRange (I:=fun x c st'=>st'=st/\c=(none,x)/\mK κ (arrOf st) lo x) ?step ?fin ⟨rfl,rfl,hs⟩
 case fin=>
  rintro c st' ⟨rfl,rfl,hs'⟩
  rw [show max a nrem=nrem by omega] at hs' ⊢
  exact h nrem han (Nat.le_refl _) hs' (.inl rfl)
 case step=>
  rintro x c st' hax hxn ⟨rfl,rfl,hs'⟩
  dsimp only
  refine wpS_bind (i9 T hB (by omega) (by omega) ?_)
  by_cases hless:KA κ (arrOf st') (lo+x)<KA κ (arrOf st') (lo+x-1)
  ·simp only [hless,decide_true,if_true]
   exact wpS_pure (h x hax (by omega) hs' (.inr hless))
  ·simp only [hless,decide_false,Bool.false_eq_true,if_false]
   refine wpS_pure ⟨rfl,rfl,fun i j hij hj=>?_⟩
   by_cases hjx:j<x
   ·exact hs' i j hij hjx
   ·have hj':j=x:=by omega
    subst hj'
    by_cases hi':i=j
    ·subst hi'; exact Int.le_refl _
    ·rw [show lo+j-1=lo+(j-1) by omega] at hless
     exact Int.le_trans (hs' i (j-1) (by omega) (by omega)) (Int.not_lt.mp hless)
theorem lz (T:dB M A E s kd κ S) {n nrem:Nat} {Q:Option Nat->SortSt->Prop} (hn:lo+nrem<=(arrOf st0).size) (h1:1<=n) (hnn:n<=nrem) (hB:SB S kd lo st0 st) (hs:kw κ (arrOf st) lo n)
  (h:∀ m st',SB S kd lo st0 st'->1<=m->m<=nrem->mK κ (arrOf st') lo m->Q (some m) st'):wpS M A E s (lH lo n nrem) Q st:=by
 unfold lH
 have hsz:lo+n<=(arrOf st).size:=by rw [hB.size]; omega
 refine wpS_bind (kS ?_)
 have hB':SB S kd lo st0 (setArr st (mirror (arrOf st) lo (lo+n) ((lo+n-lo) / 2))):=hB.setArr (mirror_perm _ _ _ _) (gI hsz (Nat.le_refl _))
 refine wpS_bind (pL T hn h1 hnn hB' ?_ fun m hm1 hm2 hsm _=>wpS_pure (h m _ hB' (by omega) hm2 hsm))
 intro i j hij hj
 show KA κ (mirror (arrOf st) lo (lo+n) ((lo+n-lo) / 2)) (lo+i)<=KA κ (mirror (arrOf st) lo (lo+n) ((lo+n-lo) / 2)) (lo+j)
 rw [ku hsz,ku hsz,if_pos (by omega),if_pos (by omega),show lo+(lo+n)-1-(lo+i)=lo+(n-1-i) by omega,show lo+(lo+n)-1-(lo+j)=lo+(n-1-j) by omega]
 exact hs _ _ (by omega) (by omega)
theorem ur (T:dB M A E s kd κ S) {n nrem:Nat} {Q:DescSt->SortSt->Prop} (hn:lo+nrem<=(arrOf st0).size) (h1:1<=n) (hnn:n<=nrem) (hB:SB S kd lo st0 st) (hs:kw κ (arrOf st) lo n)
  (h:∀ m neq st',SB S kd lo st0 st'->n<=m->m<=nrem->kw κ (arrOf st') lo m->neq+1<=m->(∀ i,lo+m-(neq+1)<=i->i<lo+m->KA κ (arrOf st') i=KA κ (arrOf st') (lo+m-1))->Q (none,m,neq) st'):wpS M A E s (ua lo n nrem) Q st:=by
 unfold ua
 refine wpS_forRange (I:=fun x c st'=>∃ neq,c=(none,x,neq)/\SB S kd lo st0 st'/\kw κ (arrOf st') lo x/\neq+1<=x /\
   (∀ i,lo+x-(neq+1)<=i->i<lo+x->KA κ (arrOf st') i=KA κ (arrOf st') (lo+x-1))) ?step ?fin ⟨0,rfl,hB,hs,by omega,fun i h1 h2=>by congr 1; omega⟩
 case fin=>
  rintro c st' ⟨neq,rfl,hB',hs',hq,he⟩
  rw [show max n nrem=nrem by omega] at hs' hq he ⊢
  exact h nrem neq st' hB' hnn (Nat.le_refl _) hs' hq he
 case step=>
  rintro x c st' hax hxn ⟨neq,rfl,hB',hs',hq,he⟩
  dsimp only
  have hsz:lo+x<=(arrOf st').size:=by rw [hB'.size]; omega
  have e1:lo+x-1=lo+(x-1):=by omega
  refine wpS_bind (i9 T hB' (by omega) (by omega) ?_)
  by_cases hless:KA κ (arrOf st') (lo+x)<KA κ (arrOf st') (lo+x-1)
  ·simp only [hless,decide_true,if_true]
   have step1:∀ xs:Array Keyed,(∀ k,KA κ xs k=KA κ (arrOf st') k)->kw κ xs lo (x+1):=by
    intro xs hk i j hij hj
    rw [hk,hk]
    by_cases hjx:j<x
    ·exact hs' i j hij hjx
    ·have hj':j=x:=by omega
     subst hj'
     by_cases hi':i=j
     ·subst hi'; exact Int.le_refl _
     ·rw [e1] at hless
      exact Int.le_trans (Int.le_of_lt hless) (hs' i (j-1) (by omega) (by omega))
   by_cases hneq:neq>0
   ·rw [if_pos hneq]
    refine wpS_bind (kS (wpS_pure ⟨0,rfl,hB'.setArr (mirror_perm _ _ _ _) (gI hsz (by omega)),step1 _ (cB hsz he),by omega,fun i h1 h2=>by congr 1; omega⟩))
   ·rw [if_neg hneq]
    exact wpS_pure ⟨0,rfl,hB',step1 _ (fun _=>rfl),by omega,fun i h1 h2=>by congr 1; omega⟩
  ·simp only [hless,decide_false,Bool.false_eq_true,if_false]
   refine wpS_bind (i9 T hB' (by omega) (by omega) ?_)
   by_cases hlarger:KA κ (arrOf st') (lo+x-1)<KA κ (arrOf st') (lo+x)
   ·simp only [hlarger,decide_true,if_true]
    exact wpS_pure (h x neq st' hB' hax (by omega) hs' hq he)
   ·simp only [hlarger,decide_false,Bool.false_eq_true,if_false]
    have heqx:KA κ (arrOf st') (lo+x)=KA κ (arrOf st') (lo+x-1):=by omega
    refine wpS_pure ⟨neq+1,rfl,hB',fun i j hij hj=>?_,by omega,fun i h1 h2=>?_⟩
    ·by_cases hjx:j<x
     ·exact hs' i j hij hjx
     ·have hj':j=x:=by omega
      subst hj'
      by_cases hi':i=j
      ·subst hi'; exact Int.le_refl _
      ·rw [heqx,e1]; exact hs' i (j-1) (by omega) (by omega)
    ·rw [show lo+(x+1)-1=lo+x by omega]
     by_cases hix:i=lo+x
     ·subst hix; rfl
     ·rw [heqx]; exact he i (by omega) (by omega)
theorem iz (T:dB M A E s kd κ S) {n nrem:Nat} {Q:Option Nat->SortSt->Prop} (hn:lo+nrem<=(arrOf st0).size) (hnn:n+1<=nrem) (hB:SB S kd lo st0 st) (hs:kw κ (arrOf st) lo (n+1))
  (h:∀ m st',SB S kd lo st0 st'->1<=m->m<=nrem->mK κ (arrOf st') lo m->Q (some m) st'):wpS M A E s (gz lo n nrem) Q st:=by
 unfold gz
 refine wpS_bind (wpS_lift (wpAny_rule ⟨rfl,?_⟩))
 refine wpS_bind (ur T hn (by omega) hnn hB hs fun m neq st' hB' hm1 hm2 hs' hq he=>?_)
 dsimp only
 have hsz:lo+m<=(arrOf st').size:=by rw [hB'.size]; omega
 by_cases hneq:neq>0
 ·rw [if_pos hneq]
  refine wpS_bind (kS (lz T hn (by omega) hm2 (hB'.setArr (mirror_perm _ _ _ _) (gI hsz (by omega))) ?_ h))
  intro i j hij hj
  show KA κ (mirror (arrOf st') _ _ _) (lo+j)<=KA κ (mirror (arrOf st') _ _ _) (lo+i)
  rw [cB hsz he,cB hsz he]
  exact hs' i j hij hj
 ·rw [if_neg hneq]
  exact lz T hn (by omega) hm2 hB' hs' h
theorem yt (T:dB M A E s kd κ S) {nrem:Nat} {Q:Option Nat->SortSt->Prop} (hn:lo+nrem<=(arrOf st0).size) (h1:1<=nrem) (hB:SB S kd lo st0 st)
  (h:∀ m st',SB S kd lo st0 st'->1<=m->m<=nrem->mK κ (arrOf st') lo m->Q (some m) st'):wpS M A E s (countRun' lo nrem) Q st:=by
 rw [pd]
 refine wpS_bind (pL T hn (Nat.le_refl 1) h1 hB (fun i j hij hj=>by rw [show i=j by omega]; exact Int.le_refl _) fun n hn1 hn2 hsn hor=>?_)
 dsimp only
 by_cases hnn:n=nrem
 ·rw [if_pos (by simpa using hnn)]
  exact wpS_pure (h n st hB hn1 hn2 hsn)
 ·rw [if_neg (by simpa using hnn)]
  have hlt:KA κ (arrOf st) (lo+n)<KA κ (arrOf st) (lo+(n-1)):=by
   have:=hor.resolve_left hnn
   rwa [show lo+n-1=lo+(n-1) by omega] at this
  by_cases hgt:n>1
  ·rw [if_pos hgt]
   refine wpS_bind (i9 T hB (by omega) (by omega) ?_)
   by_cases hrose:KA κ (arrOf st) lo<KA κ (arrOf st) (lo+n-1)
   ·simp only [hrose,decide_true,if_true]
    exact wpS_pure (h n st hB hn1 hn2 hsn)
   ·simp only [hrose,decide_false,Bool.false_eq_true,if_false]
    have hsz:lo+n<=(arrOf st).size:=by rw [hB.size]; omega
    have hall:∀ k,k<n->KA κ (arrOf st) (lo+k)=KA κ (arrOf st) (lo+n-1):=by
     intro k hk
     have a1:=hsn 0 k (by omega) hk
     have a2:=hsn k (n-1) (by omega) (by omega)
     rw [Nat.add_zero] at a1
     rw [show lo+n-1=lo+(n-1) by omega] at hrose ⊢
     omega
    have hall':∀ k,lo<=k->k<lo+n->KA κ (arrOf st) k=KA κ (arrOf st) (lo+n-1):=fun k k1 k2=>by
     have:=hall (k-lo) (by omega)
     rwa [show lo+(k-lo)=k by omega] at this
    refine wpS_bind (kS (iz T hn (by omega) (hB.setArr (mirror_perm _ _ _ _) (gI hsz (Nat.le_refl _))) ?_ h))
    intro i j hij hj
    show KA κ (mirror (arrOf st) _ _ _) (lo+j)<=KA κ (mirror (arrOf st) _ _ _) (lo+i)
    rw [cB hsz hall',cB hsz hall']
    by_cases hjn:j<n
    ·rw [hall i (by omega),hall j hjn]; exact Int.le_refl _
    ·have hj':j=n:=by omega
     subst hj'
     by_cases hi':i=j
     ·subst hi'; exact Int.le_refl _
     ·rw [hall i (by omega),show lo+j-1=lo+(j-1) by omega]; exact Int.le_of_lt hlt
  ·rw [if_neg hgt]
   have hn1':n=1:=by omega
   subst hn1'
   refine iz T hn (by omega) hB ?_ h
   intro i j hij hj
   by_cases hi':i=j
   ·subst hi'; exact Int.le_refl _
   ·have hi0:i=0:=by omega
    have hj1:j=1:=by omega
    subst hi0; subst hj1
    exact Int.le_of_lt hlt
end
end VL
namespace VL
open PySem PySem.Spec PyProof.Rows
noncomputable def jZ:Nat->List (List Keyed)->List (Nat×Nat)
 | _,[]=>[]
 | o,g::gs=>(o,g.length)::jZ (o+g.length) gs
theorem je:∀ (A B:List (List Keyed)) (o:Nat),jZ o (A++B)=jZ o A++jZ (o+A.flatten.length) B
 | [],B,o=>by simp [jZ]
 | g::A,B,o=>by
  rw [List.cons_append,jZ,jZ,je A B,List.flatten_cons,List.length_append,Nat.add_assoc]; rfl
theorem lG:∀ (A:List (List Keyed)) (o:Nat),(jZ o A).length=A.length
 | [],_=>rfl
 | g::A,o=>by rw [jZ,List.length_cons,List.length_cons,lG A]
section
variable {M:Model} {A:Around} {E:Value->Shared->Prop} {s:Shared} {κ:Keyed->Int} {S:Keyed->Prop} {kd:SortKind} {all:List Keyed}
structure RS (κ:Keyed->Int) (S:Keyed->Prop) (kd:SortKind) (all:List Keyed) (st:SortSt) (segs:List (List Keyed)) (rest:List Keyed):Prop where
 arr:(arrOf st).toList=segs.flatten++rest
 tl:(pendingOf st).toList.map (fun e=>(e.1,e.2.1))=jZ 0 segs
 asc:∀ g∈segs,Asc κ g
 ne:∀ g∈segs,g≠[]
 kind:kindOf st=kd
 failed:failedOf st=none
 perm:(arrOf st).toList.Perm all
 sall:∀ x∈all,S x
theorem RS.size {st:SortSt} {segs:List (List Keyed)} {rest:List Keyed} (h:RS κ S kd all st segs rest):(pendingOf st).size=segs.length:=by
 have:=congrArg List.length h.tl
 rw [List.length_map,Array.length_toList,lG] at this
 exact this
theorem CT {α:Type} {l:List α} {i:Nat} (h:i+1<l.length):∃ A x y B,l=A++x::y::B/\A.length=i:=
 ⟨l.take i,l[i],l[i+1],l.drop (i+2),by
  conv=>lhs; rw [<- List.take_append_drop i l]
  rw [List.drop_eq_getElem_cons (by omega),List.drop_eq_getElem_cons h],by rw [List.length_take]; omega⟩
theorem lA (T:dB M A E s kd κ S) {st:SortSt} {segs:List (List Keyed)} {rest:List Keyed} {i:Nat} {Q:Bool->SortSt->Prop} (h:RS κ S kd all st segs rest) (hi:i+1<segs.length)
  (q:∀ st' segs',RS κ S kd all st' segs' rest->segs'.length+1=segs.length->segs'.flatten.length=segs.flatten.length->Q true st'):wpS M A E s (mergeAt' i) Q st:=by
 obtain ⟨S1,g1,g2,S2,rfl,e⟩:=CT hi
 have ha:(arrOf st).toList=S1.flatten++(g1++(g2++(S2.flatten++rest))):=by rw [h.arr]; simp [List.append_assoc]
 have ht:=h.tl
 rw [je] at ht
 simp only [jZ,Nat.zero_add] at ht
 obtain ⟨P1,P2,ep,e1,e2⟩:=List.map_eq_append_iff.mp ht
 obtain ⟨⟨a1,a2,pw⟩,P3,rfl,f1,e3⟩:=List.map_eq_cons_iff.mp e2
 obtain ⟨⟨b1,b2,pw2⟩,P4,rfl,f2,e4⟩:=List.map_eq_cons_iff.mp e3
 simp only [Prod.mk.injEq] at f1 f2
 obtain ⟨rfl,rfl⟩:=f1
 obtain ⟨rfl,rfl⟩:=f2
 have lP:P1.length=i:=by
  have:=congrArg List.length e1
  rw [List.length_map,lG] at this
  omega
 have p1:(pendingOf st)[i]? = some (S1.flatten.length,g1.length,pw):=by
  rw [<- Array.getElem?_toList,ep,List.getElem?_append_right (by omega),lP,Nat.sub_self]; rfl
 have p2:(pendingOf st)[i+1]? = some (S1.flatten.length+g1.length,g2.length,pw2):=by
  rw [<- Array.getElem?_toList,ep,List.getElem?_append_right (by omega),lP,show i+1-i=1 by omega]; rfl
 refine yq T h.kind h.failed ha (h.asc _ (by simp)) (h.asc _ (by simp)) (h.ne _ (by simp)) (h.ne _ (by simp)) (fun x hx=>h.sall x (h.perm.mem_iff.mp (by rw [ha]; simp at hx ⊢; rcases hx with hx | hx <;> simp [hx]))) p1 p2 fun st' g gp ga ea ek ef epd=>?_
 have lg:g.length=g1.length+g2.length:=by rw [gp.length_eq,List.length_append]
 refine q st' (S1++g::S2) ⟨by rw [ea]; simp [List.append_assoc],?_,fun x hx=>?_,fun x hx=>?_,ek,ef,?_,h.sall⟩ (by simp; omega) (by simp [lg]; omega)
 ·rw [epd,Array.toList_eraseIdxIfInBounds,Array.toList_setIfInBounds,ep,<- lP]
  have t1:(P1++(S1.flatten.length,g1.length,pw)::(S1.flatten.length+g1.length,g2.length,pw2)::P4).set P1.length (S1.flatten.length,g1.length+g2.length,pw)=P1++(S1.flatten.length,g1.length+g2.length,pw)::(S1.flatten.length+g1.length,g2.length,pw2)::P4:=by simp
  rw [t1]
  have t2:(P1++(S1.flatten.length,g1.length+g2.length,pw)::(S1.flatten.length+g1.length,g2.length,pw2)::P4).eraseIdx (P1.length+1)=P1++(S1.flatten.length,g1.length+g2.length,pw)::P4:=by
   rw [List.eraseIdx_append_of_length_le (by omega),show P1.length+1-P1.length=1 by omega]; rfl
  rw [t2,List.map_append,e1,List.map_cons,e4,je,jZ,lg,Nat.zero_add,Nat.add_assoc]
 ·rcases List.mem_append.mp hx with hx | hx
  ·exact h.asc x (by simp [hx])
  ·rcases List.mem_cons.mp hx with rfl | hx
   ·exact ga
   ·exact h.asc x (by simp [hx])
 ·rcases List.mem_append.mp hx with hx | hx
  ·exact h.ne x (by simp [hx])
  ·rcases List.mem_cons.mp hx with rfl | hx
   ·have:=h.ne g1 (by simp)
    intro z
    subst z
    have:=List.length_pos_iff.mpr this
    simp at lg
    omega
   ·exact h.ne x (by simp [hx])
 ·have hp:=h.perm
  rw [ha] at hp
  rw [ea]
  refine List.Perm.trans ((List.Perm.refl S1.flatten).append ?_) hp
  rw [<- List.append_assoc g1]
  exact gp.append_right _
end
end VL
namespace VL
open PySem PySem.Spec PyProof.Rows
section
variable {M:Model} {A:Around} {E:Value->Shared->Prop} {s:Shared} {κ:Keyed->Int} {S:Keyed->Prop} {kd:SortKind} {all:List Keyed}
theorem tm {st0 st:SortSt} {segs:List (List Keyed)} {rest:List Keyed} {n:Nat} (h:RS κ S kd all st0 segs rest) (hB:SB S kd segs.flatten.length st0 st) (hu:mK κ (arrOf st) segs.flatten.length n) (hn:segs.flatten.length+n<=(arrOf st0).size) :
  ∃ rest',RS κ S kd all st segs rest'/\Asc κ (rest'.take n)/\rest'.length=rest.length:=by
 have hp:(arrOf st).toList.Perm (arrOf st0).toList:=Array.perm_iff_toList_perm.mp hB.perm
 have pre0:∀ lo,(∀ k,k<lo->(arrOf st)[k]? = (arrOf st0)[k]?)->(arrOf st).toList.take lo=(arrOf st0).toList.take lo:=fun lo hq=>by
  apply List.ext_getElem?
  intro k
  by_cases hk:k<lo
  ·rw [List.getElem?_take_of_lt hk,List.getElem?_take_of_lt hk,Array.getElem?_toList,Array.getElem?_toList]
   exact hq k hk
  ·rw [List.getElem?_eq_none (by rw [List.length_take]; omega),List.getElem?_eq_none (by rw [List.length_take]; omega)]
 have pre:(arrOf st).toList.take segs.flatten.length=segs.flatten:=by rw [pre0 _ hB.pre,h.arr,List.take_left]
 have arr:(arrOf st).toList=segs.flatten++(arrOf st).toList.drop segs.flatten.length:=by
  conv=>lhs; rw [<- List.take_append_drop segs.flatten.length (arrOf st).toList,pre]
 have pm:=hp
 rw [arr,h.arr] at pm
 have pr:=(List.perm_append_left_iff _).mp pm
 refine ⟨_,⟨arr,by rw [hB.pend]; exact h.tl,h.asc,h.ne,hB.kind,hB.failed,hp.trans h.perm,h.sall⟩,?_,pr.length_eq⟩
 have get:∀ i,i<n->((arrOf st).toList.drop segs.flatten.length)[i]? = (arrOf st)[segs.flatten.length+i]?:=fun i _=>by rw [List.getElem?_drop,Array.getElem?_toList]
 refine List.pairwise_iff_getElem.mpr fun i j hi hj hij=>?_
 rw [List.length_take] at hi hj
 have:=hu i j (by omega) (by omega)
 unfold KA at this
 rw [<- get i (by omega),<- get j (by omega),List.getElem?_eq_getElem (by omega),List.getElem?_eq_getElem (by omega)] at this
 rw [List.getElem_take,List.getElem_take]
 exact this
theorem RS.push {st:SortSt} {segs:List (List Keyed)} {rest:List Keyed} {n pw:Nat} (h:RS κ S kd all st segs rest) (ha:Asc κ (rest.take n)) (h1:1<=n) (hn:n<=rest.length) :
  RS κ S kd all (setPending st ((pendingOf st).push (segs.flatten.length,n,pw))) (segs++[rest.take n]) (rest.drop n):=by
 have ln:(rest.take n).length=n:=by rw [List.length_take]; omega
 refine ⟨?_,?_,fun g hg=>?_,fun g hg=>?_,h.kind,h.failed,h.perm,h.sall⟩
 ·rw [List.flatten_append,List.append_assoc]
  simp only [List.flatten_cons,List.flatten_nil,List.append_nil]
  rw [List.take_append_drop]
  exact h.arr
 ·show ((pendingOf st).push _).toList.map _=_
  rw [Array.toList_push,List.map_append,h.tl,je]
  simp [jZ,ln]
 ·rcases List.mem_append.mp hg with hg | hg
  ·exact h.asc g hg
  ·rw [List.mem_singleton.mp hg]; exact ha
 ·rcases List.mem_append.mp hg with hg | hg
  ·exact h.ne g hg
  ·rw [List.mem_singleton.mp hg]
   intro z
   rw [z] at ln
   simp at ln
   omega
theorem RS.pow {st:SortSt} {segs:List (List Keyed)} {rest:List Keyed} {pw i:Nat} (h:RS κ S kd all st segs rest):RS κ S kd all (setPending st ((pendingOf st).modify i fun x=>(x.1,x.2.1,pw))) segs rest:=by
 refine ⟨h.arr,?_,h.asc,h.ne,h.kind,h.failed,h.perm,h.sall⟩
 rw [<- h.tl]
 show ((pendingOf st).modify i _).toList.map _=_
 rw [Array.toList_modify]
 apply List.ext_getElem?
 intro k
 rw [List.getElem?_map,List.getElem?_map,List.getElem?_modify]
 cases (pendingOf st).toList[k]? with
 | none=>rfl
 | some x=>
  by_cases e:i=k
  ·simp [e]
  ·simp [e]
noncomputable def nB (size pw:Nat):StateT SortSt Sem (Option Unit×Unit):=
 forIn [0:size] ((none,()):Option Unit×Unit) fun _ _=>do
  let d <- get
  match if (pendingOf d).size>1 then (pendingOf d)[(pendingOf d).size-2]? else none with
  | some (_,_,older)=>
   if older<=pw then pure (ForInStep.done (none,()))
   else do
    let ok <- mergeAt' ((pendingOf d).size-2)
    if (!ok)=true then pure (ForInStep.done (some (),())) else pure (ForInStep.yield (none,()))
  | _=>pure (ForInStep.done (none,()))
theorem js (T:dB M A E s kd κ S) {st:SortSt} {segs:List (List Keyed)} {rest:List Keyed} {size pw:Nat} (r:RS κ S kd all st segs rest) :
  wpS M A E s (nB size pw) (fun c st'=>c=(none,())/\∃ segs',RS κ S kd all st' segs' rest/\segs'.flatten.length=segs.flatten.length) st:=by
 unfold nB
 refine wpS_forRange (I:=fun _ c st'=>c=(none,())/\∃ segs',RS κ S kd all st' segs' rest/\segs'.flatten.length=segs.flatten.length) ?step (fun _ _ h=>h) ⟨rfl,segs,r,rfl⟩
 rintro t c st' _ _ ⟨rfl,segs',r',e'⟩
 refine wpS_bind (wpS_get ?_)
 have hs:=r'.size
 by_cases c1:(pendingOf st').size>1
 ·rw [if_pos c1,Array.getElem?_eq_getElem (by omega)]
  dsimp only
  split
  ·exact wpS_pure ⟨rfl,segs',r',e'⟩
  ·refine wpS_bind (lA T r' (by omega) fun st2 segs2 r2 _ e2=>?_)
   simp only [Bool.not_true,Bool.false_eq_true,if_false]
   exact wpS_pure ⟨rfl,segs2,r2,e2.trans e'⟩
 ·rw [if_neg c1]
  exact wpS_pure ⟨rfl,segs',r',e'⟩
theorem lh {segs:List (List Keyed)} {rest:List Keyed} {n:Nat} {st2:SortSt} {segs2:List (List Keyed)} (r2:RS κ S kd all st2 segs2 rest) (ha:Asc κ (rest.take n)) (h1:1<=n) (hn:n<=rest.length) (e2:segs2.flatten.length=segs.flatten.length):wpS M A E s (do
   modify fun s=>setPending s ((pendingOf s).push (segs.flatten.length,n,0))
   pure (ForInStep.yield ((none:Option Unit),segs.flatten.length+n))) (fun c st'=>∃ segs' rest',c=.yield (none,segs'.flatten.length)/\RS κ S kd all st' segs' rest'/\segs'.flatten.length=segs.flatten.length+n) st2:=by
 have ln:(segs2++[rest.take n]).flatten.length=segs.flatten.length+n:=by
  rw [List.flatten_append,List.length_append,e2]
  simp
  omega
 refine wpS_bind (wpS_modify (wpS_pure ⟨segs2++[rest.take n],rest.drop n,by rw [ln],?_,ln⟩))
 rw [<- e2]
 exact r2.push ha h1 hn
theorem pI (T:dB M A E s kd κ S) {st:SortSt} {Q:Unit->SortSt->Prop} (hk:kindOf st=kd) (hf:failedOf st=none) (hp:pendingOf st = #[]) (hS:∀ x∈(arrOf st).toList,S x)
  (h:∀ st',(arrOf st').toList.Perm (arrOf st).toList->failedOf st'=none->Asc κ (arrOf st').toList->Q () st'):wpS M A E s sortRuns' Q st:=by
 rw [sortRuns'_eq]
 refine wpS_bind (wpS_get ?_)
 dsimp only
 have r0:RS κ S kd (arrOf st).toList st [] (arrOf st).toList:=⟨rfl,by rw [hp]; rfl,(fun _ z=>nomatch z),(fun _ z=>nomatch z),hk,hf,List.Perm.refl _,hS⟩
 have sz:∀ {st':SortSt} {segs:List (List Keyed)} {rest:List Keyed},RS κ S kd (arrOf st).toList st' segs rest->(arrOf st').size=(arrOf st).size:=fun r=>by
  have:=r.perm.length_eq
  rwa [Array.length_toList,Array.length_toList] at this
 refine wpS_bind (wpS_mono (wpS_forRange (I:=fun t c st'=>∃ segs rest,c=(none,segs.flatten.length)/\RS κ S kd (arrOf st).toList st' segs rest/\t<=segs.flatten.length)
  (Q:=fun c st'=>∃ segs,c.1=none/\RS κ S kd (arrOf st).toList st' segs []) ?step ?fin ⟨[],_,rfl,r0,by simp⟩) ?post)
 case fin=>
  rintro c st' ⟨segs,rest,rfl,r,ht⟩
  have l:=congrArg List.length r.arr
  rw [List.length_append,Array.length_toList,sz r] at l
  have:rest=[]:=List.length_eq_zero_iff.mp (by omega)
  subst this
  exact ⟨segs,rfl,r⟩
 case post=>
  rintro c st' ⟨segs,hc,r⟩
  rw [hc]
  dsimp only
  have nl:segs.length<=(arrOf st).size:=by
   have l:=congrArg List.length r.arr
   rw [List.append_nil,Array.length_toList,sz r] at l
   have:∀ L:List (List Keyed),(∀ g∈L,g≠[])->L.length<=L.flatten.length:=by
    intro L
    induction L with
    | nil=>intro _; simp
    | cons g L ih=>
     intro hg
     have:=ih fun x hx=>hg x (List.mem_cons_of_mem _ hx)
     have:=List.length_pos_iff.mpr (hg g List.mem_cons_self)
     rw [List.flatten_cons,List.length_append,List.length_cons]
     omega
   have:=this segs r.ne
   omega
  refine wpS_bind (wpS_mono (wpS_forRange (I:=fun t c st'=>c=(none,())/\∃ segs,RS κ S kd (arrOf st).toList st' segs []/\(segs.length<=1\/segs.length+t<=(arrOf st).size))
   (Q:=fun c st'=>c=(none,())/\∃ segs,RS κ S kd (arrOf st).toList st' segs []/\segs.length<=1) ?step2 ?fin2 ⟨rfl,segs,r,.inr nl⟩) ?post2)
  case fin2=>
   rintro c st2 ⟨rfl,segs,r,hq⟩
   exact ⟨rfl,segs,r,by omega⟩
  case post2=>
   rintro c st2 ⟨rfl,segs,r,hq⟩
   refine wpS_pure (h st2 r.perm r.failed ?_)
   rw [r.arr,List.append_nil]
   match segs,hq with
   | [],_=>exact List.Pairwise.nil
   | [g],_=>simpa using r.asc g (by simp)
  case step2=>
   rintro t c st2 _ ht ⟨rfl,segs,r,hq⟩
   refine wpS_bind (wpS_get ?_)
   have hs:=r.size
   by_cases c1:(pendingOf st2).size<=1
   ·rw [if_pos c1]
    exact wpS_pure ⟨rfl,segs,r,by omega⟩
   ·rw [if_neg c1]
    have ix:∀ (c:Prop) [Decidable c],(if c then (pendingOf st2).size-2-1 else (pendingOf st2).size-2)+1<segs.length:=fun c _=>by split <;> omega
    refine wpS_bind (lA T r (ix _) fun st3 segs3 r3 e3 _=>?_)
    simp only [Bool.not_true,Bool.false_eq_true,if_false]
    exact wpS_pure ⟨rfl,segs3,r3,by omega⟩
 case step=>
  rintro t c st' _ ht ⟨segs,rest,rfl,r,hl⟩
  dsimp only
  have l:=congrArg List.length r.arr
  rw [List.length_append,Array.length_toList,sz r] at l
  by_cases c1:segs.flatten.length>=(arrOf st).size
  ·rw [if_pos c1]
   have:rest=[]:=List.length_eq_zero_iff.mp (by omega)
   subst this
   exact wpS_pure ⟨segs,rfl,r⟩
  rw [if_neg c1]
  have b0:SB S kd segs.flatten.length st' st':=⟨Array.Perm.refl _,fun _ _=>rfl,r.kind,r.failed,rfl,rfl,fun x hx=>hS x (r.perm.mem_iff.mp hx)⟩
  refine wpS_bind (yt T (by rw [sz r]; omega) (by omega) b0 fun m st2 b2 m1 m2 u2=>?_)
  dsimp only
  by_cases c2:m<minRun' (arrOf st).size (arrOf st).size 0
  ·rw [if_pos c2]
   refine wpS_bind (wpS_lift (wpAny_rule ⟨rfl,?_⟩))
   refine wpS_bind (yu T (by rw [sz r]; omega) (by omega) b2 u2 fun st3 b3 u3=>?_)
   simp only [Bool.not_true,Bool.false_eq_true,if_false]
   obtain ⟨rest',r3,a3,l3⟩:=tm r b3 u3 (by rw [sz r]; omega)
   refine wpS_mono (Q:=fun c st'=>∃ segs' rest',c=.yield (none,segs'.flatten.length)/\RS κ S kd (arrOf st).toList st' segs' rest'/\segs'.flatten.length=segs.flatten.length+(min ((arrOf st).size-segs.flatten.length) (minRun' (arrOf st).size (arrOf st).size 0))) ?_ ?_
   ·refine wpS_bind (wpS_get ?_)
    cases e:(pendingOf st3).back? with
    | none=>exact lh r3 a3 (by omega) (by omega) rfl
    | some x=>
     obtain ⟨s1,n1,p1⟩:=x
     dsimp only
     refine wpS_bind (wpS_mono (js (size:=(arrOf st).size) (pw:=power' (arrOf st).size (2*s1+n1) (2*s1+n1+n1+(min ((arrOf st).size-segs.flatten.length) (minRun' (arrOf st).size (arrOf st).size 0))) (arrOf st).size) T r3) ?_)
     rintro c st5 ⟨rfl,segs5,r5,e5⟩
     dsimp only
     exact wpS_bind (wpS_modify (lh r5.pow a3 (by omega) (by omega) e5))
   ·rintro c st4 ⟨segs',rest2,rfl,r4,e4⟩
    exact ⟨segs',rest2,rfl,r4,by omega⟩
  ·rw [if_neg c2]
   obtain ⟨rest',r3,a3,l3⟩:=tm r b2 u2 (by rw [sz r]; omega)
   refine wpS_mono (Q:=fun c st'=>∃ segs' rest',c=.yield (none,segs'.flatten.length)/\RS κ S kd (arrOf st).toList st' segs' rest'/\segs'.flatten.length=segs.flatten.length+m) ?_ ?_
   ·refine wpS_bind (wpS_get ?_)
    cases e:(pendingOf st2).back? with
    | none=>exact lh r3 a3 m1 (by omega) rfl
    | some x=>
     obtain ⟨s1,n1,p1⟩:=x
     dsimp only
     refine wpS_bind (wpS_mono (js (size:=(arrOf st).size) (pw:=power' (arrOf st).size (2*s1+n1) (2*s1+n1+n1+m) (arrOf st).size) T r3) ?_)
     rintro c st5 ⟨rfl,segs5,r5,e5⟩
     dsimp only
     exact wpS_bind (wpS_modify (lh r5.pow a3 m1 (by omega) e5))
   ·rintro c st4 ⟨segs',rest2,rfl,r4,e4⟩
    exact ⟨segs',rest2,rfl,r4,by omega⟩
end
end VL
namespace VL
open PySem PySem.Spec PyProof.Rows L2
section
variable {prog:Program} {w:World} {A:Around} {E:Value->Shared->Prop} {s:Shared}
theorem iJ {a:Addr} {vs:List Value} {n:Nat} {P:PySem.Fin->Shared->Prop} {kd:SortKind} {κ:Keyed->Int} {S:Keyed->Prop} (ho:s.heap.get? a=some (seqObj "list" vs.toArray n)) (PA:Heap->Prop) (x:PA s.heap) (keeps:∀ h h':Heap,PA h->(∀ b o,o.cls=.type "tuple" -> h.get? b=some o->h'.get? b=some o)->PA h')
  (kindw:2<=vs.length->∀ s':Shared,PA s'.heap->∀ Q:SortKind->Shared->Prop,Q kd s'->wpAny (model prog w) A (keyKind' vs.toArray) Q E s') (T:∀ s':Shared,PA s'.heap->dB (model prog w) A E s' kd κ S) (hS:∀ v∈vs,S (v,v)) (hz:vs.length<=sizeLine)
  (h:∀ out:List Value,out.Perm vs->(out.Pairwise fun x y=>κ (x,x) <= κ (y,y))->P (.done (.ret .none)) { s with heap:=sortedHeap s.heap a vs out.toArray }) :
  wpAny (model prog w) A (Builtin.«list.sort» ⟨[.ref a],[]⟩) P E s:=by
 rw [list_sort_plain]
 have ha:a<s.heap.objs.size:=Heap.lt_size ho
 refine wpAny_bind (listItems_at ho rfl ?_)
 refine wpAny_bind (listUpdate_at ho rfl ?_)
 obtain ⟨e1,ho1⟩:∃ e1,(s.heap.update a (Obj.mapSeq fun _=>#[])).get? a=some (seqObj "list" #[] e1):=⟨_,get?_update_seq ho (fun _=>#[])⟩
 refine wpAny_bind (seqEpoch_at ho1 rfl ?_)
 refine wpAny_bind (wpAny_newTuple ?_)
 refine wpAny_bind (wpAny_newList ?_)
 refine wpAny_holding ?_
 have ho6:(((s.heap.update a (Obj.mapSeq fun _=>#[])).push (seqObj "tuple" vs.toArray 0)).push (seqObj "list" #[] 0)).get? a=some (seqObj "list" #[] e1):=Heap.get?_push_of_some _ (Heap.get?_push_of_some _ ho1)
 have kp:∀ b o,o.cls=.type "tuple" -> s.heap.get? b=some o->(((s.heap.update a (Obj.mapSeq fun _=>#[])).push (seqObj "tuple" vs.toArray 0)).push (seqObj "list" #[] 0)).get? b=some o:=fun b o hc eo=>by
  have hb:b≠a:=fun z=>by
   subst z
   rw [ho] at eo
   cases eo
   exact absurd hc (by intro z; injection z with z; exact absurd z (by decide))
  exact Heap.get?_push_of_some _ (Heap.get?_push_of_some _ (hX hb eo))
 have x6:=keeps _ _ x kp
 show wpAny (model prog w) A _ P E { s with heap:=((s.heap.update a (Obj.mapSeq fun _=>#[])).push (seqObj "tuple" vs.toArray 0)).push (seqObj "list" #[] 0) }
 dsimp only
 have fin:∀ st':SortSt,(arrOf st').toList.Perm (pairsOf vs).toList->failedOf st'=none->Asc κ (arrOf st').toList ->
   wpAny (model prog w) A (do
    let sorted:=(arrOf st').map (·.2)
    let touched:=(<- seqEpoch a) != e1
    Builtin.List.listUpdate (.ref a) fun _=>sorted
    if let some e:=failedOf st' then rule "list.sort.comparison-raised"; throw e
    if touched then rule "list.sort.modified"; raiseError "ValueError" "list modified during sort"
    ret .none) P E { s with heap:=((s.heap.update a (Obj.mapSeq fun _=>#[])).push (seqObj "tuple" vs.toArray 0)).push (seqObj "list" #[] 0) }:=fun st' hp hf hs=>by
  have hm:∀ p∈(arrOf st').toList,p=(p.2,p.2):=fun p hq=>by
   have:=hp.mem_iff.mp hq
   rw [pairsOf_toList] at this
   exact Prod.ext (mem_zip_self this).1 rfl
  have e2:((arrOf st').map (·.2)).toList=(arrOf st').toList.map (·.2):=Array.toList_map
  have pm:((arrOf st').toList.map (·.2)).Perm vs:=by
   have:=hp.map (·.2)
   rw [pairsOf_toList,List.map_snd_zip (Nat.le_refl _)] at this
   exact this
  have hsz:((arrOf st').map (·.2)).size=vs.length:=by rw [<- Array.length_toList,e2,pm.length_eq]
  refine wpAny_bind (seqEpoch_at ho6 rfl ?_)
  refine wpAny_bind (listUpdate_at ho6 rfl ?_ (hsz2:=by rw [hsz]; exact Nat.le_succ_of_le hz))
  rw [hf]
  simp only [bne_self_eq_false,Bool.false_eq_true,if_false]
  have ea:(arrOf st').map (·.2)=((arrOf st').toList.map (·.2)).toArray:=by rw [<- e2]
  refine wpAny_pure ?_
  have hh:=h ((arrOf st').toList.map (·.2)) pm ?_
  ·rw [<- ea] at hh
   exact hh
  ·rw [List.pairwise_map]
   refine List.Pairwise.imp_of_mem ?_ hs
   intro p q hp' hq' hle
   rw [hm p hp',hm q hq'] at hle
   exact hle
 by_cases h2:vs.toArray.size<2
 ·rw [if_pos h2,if_pos h2]
  refine wpAny_bind (wpAny_pure ?_)
  rw [StateT.run_pure]
  refine wpAny_bind (wpAny_pure ?_)
  refine fin (SortSt.mk' general' (vs.toArray.zip vs.toArray) #[] 7 none) (List.Perm.refl _) rfl ?_
  show Asc κ (pairsOf vs).toList
  rw [pairsOf_toList]
  match vs,h2 with
  | [],_=>exact List.Pairwise.nil
  | [v],_=>exact List.pairwise_singleton _ _
  | _::_::_,h2=>simp at h2; omega
 ·rw [if_neg h2,if_neg h2]
  refine wpAny_bind (kindw (by simp at h2; omega) _ x6 _ ?_)
  refine wpAny_bind (wpAny_mono (pI (T _ x6) (st:=SortSt.mk' kd (vs.toArray.zip vs.toArray) #[] 7 none)
   (Q:=fun _ st'=>(arrOf st').toList.Perm (pairsOf vs).toList/\failedOf st'=none/\Asc κ (arrOf st').toList) rfl rfl rfl (fun p hp=>?_) fun st' a1 a2 a3=>⟨a1,a2,a3⟩) ?_ fun _ _ e=>e)
  ·have hp:p∈(pairsOf vs).toList:=hp
   rw [pairsOf_toList] at hp
   obtain ⟨q1,q2⟩:=mem_zip_self hp
   have:p=(p.1,p.1):=Prod.ext rfl q1.symm
   rw [this]
   exact hS _ q2
  ·rintro ⟨⟨⟩,st'⟩ s' ⟨rfl,hp,hf,hs⟩
   exact fin st' hp hf hs
theorem rN:dB (model prog w) A E s oneType' (fun p=>numOf p.1) (fun p=>∃ n t,p.1=Value.int n t):=fun x y hx hy st Q ek q=>by
 obtain ⟨n,t,e1⟩:=hx
 obtain ⟨m,u,e2⟩:=hy
 rw [lt'_eq]
 refine wpS_bind (wpS_get ?_)
 rw [ek,keyLt'_oneType,e1,e2]
 have q:Q (some (decide (numOf x.1<numOf y.1))) st:=q
 rw [e1,e2] at q
 exact wpS_bind (wpS_lift (wpAny_attempt (oneLt_int ⟨rfl,wpS_pure q⟩)))
theorem lY {a:Addr} {vs:List Value} {ns:List Int} {n:Nat} {P:PySem.Fin->Shared->Prop} (ho:s.heap.get? a=some (seqObj "list" vs.toArray n)) (hI:IntsAre vs ns) (hz:vs.length<=sizeLine)
  (h:∀ (out:Array Value) (ns':List Int),IntsAre out.toList ns'->ns'.Perm ns->ns'.Pairwise (· <= ·)->P (.done (.ret .none)) { s with heap:=sortedHeap s.heap a vs out }) :
  wpAny (model prog w) A (Builtin.«list.sort» ⟨[.ref a],[]⟩) P E s:=by
 refine iJ (kd:=oneType') (κ:=fun p=>numOf p.1) (S:=fun p=>∃ n t,p.1=Value.int n t) ho (fun _=>True) trivial (fun _ _ _ _=>trivial) (fun h2 s' _ Q q=>?_) (fun _ _=>rN) (fun v hv=>hI.all v hv) hz fun out pm hs=>?_
 ·obtain ⟨v₁,v₂,rest,rfl⟩:∃ v₁ v₂ rest,vs=v₁ :: v₂ :: rest:=by
   match vs,h2 with
   | v₁ :: v₂ :: rest,_=>exact ⟨v₁,v₂,rest,rfl⟩
  rw [keyKind_ints hI]
  exact wpAny_pure q
 ·refine h out.toArray (out.map numOf) (intsAre_map out fun v hv=>hI.all v (pm.mem_iff.mp hv)) ?_ ?_
  ·have:=pm.map numOf
   rwa [hI.nums] at this
  ·rw [List.pairwise_map]; exact hs
end
end VL
namespace VL
open PySem PySem.Spec PyProof.Rows L2
noncomputable def gW:aY->aY->Bool
 | .inl a,.inl b=>decide (a<b)
 | .inr a,.inr b=>decide (a.cps.toList<b.cps.toList)
 | .inl _,.inr _=>true
 | .inr _,.inl _=>false
noncomputable def eI:List aY->List aY->Bool
 | [],[]=>false
 | [],_::_=>true
 | _::_,[]=>false
 | a::r,b::t=>if a=b then eI r t else gW a b
noncomputable def va (x:List aY):List (List aY)->List (List aY)
 | []=>[x]
 | y::r=>if eI y x then y::va x r else x::y::r
noncomputable def eJ:List (List aY)->List (List aY)
 | []=>[]
 | x::r=>va x (eJ r)
noncomputable def w6:List D->Option (List aY)
 | []=>some []
 | d::r=>(qH d).bind fun k=>(w6 r).bind fun l=>some (k::l)
noncomputable def EH:D->Option (List aY)
 | .tuple ds=>w6 ds
 | _=>none
noncomputable def qF:List D->Option (List (List aY))
 | []=>some []
 | d::r=>(EH d).bind fun k=>(qF r).bind fun l=>some (k::l)
noncomputable def Df:aY->Bool
 | .inl _=>true
 | .inr _=>false
noncomputable def jf:List aY->Bool
 | .inr _::r=>r.all Df
 | _=>false
noncomputable def rq:List aY->Bool
 | .inl _::r=>r.all Df
 | _=>false
noncomputable def cV (d:D):Option D:=(dc d).bind fun ds=>match su ds with
 | some l=>some (.list ((gK l).map .int))
 | none=>(qF ds).bind fun ks=>if ks.all jf||ks.all rq then some (.list ((eJ ks).map fun k=>.tuple (k.map iL))) else none
theorem str_eq {x y:Str} (h:x.cps.toList=y.cps.toList):x=y:=by
 cases x; cases y
 simp only [Str.mk.injEq]
 exact Array.toList_inj.mp h
theorem uY (a:aY):gW a a=false:=by
 cases a with
 | inl a=>simp [gW]
 | inr a=>simp [gW,List.lt_irrefl]
theorem uX (a b:aY) (h:a≠b):gW a b=!gW b a:=by
 cases a with
 | inl a=>
  cases b with
  | inl b=>
   have:a≠b:=fun z=>h (by rw [z])
   simp only [gW]
   rcases Int.lt_trichotomy a b with q | q | q
   ·rw [decide_eq_true q,decide_eq_false (by omega)]; rfl
   ·exact absurd q this
   ·rw [decide_eq_false (by omega),decide_eq_true q]; rfl
  | inr b=>rfl
 | inr a=>
  cases b with
  | inl b=>rfl
  | inr b=>
   have:a.cps.toList≠b.cps.toList:=fun z=>h (by rw [str_eq z])
   simp only [gW]
   by_cases q:a.cps.toList<b.cps.toList
   ·rw [decide_eq_true q,decide_eq_false (List.lt_asymm q)]; rfl
   ·rw [decide_eq_false q]
    have q:=List.not_lt.mp q
    rcases List.le_iff_lt_or_eq.mp q with q | q
    ·rw [decide_eq_true q]; rfl
    ·exact absurd q.symm this
theorem w9 {a b c:aY} (h1:gW a b=true) (h2:gW b c=true):gW a c=true:=by
 cases a <;> cases b <;> cases c <;> simp only [gW,decide_eq_true_eq,Bool.false_eq_true] at h1 h2 ⊢
 ·omega
 ·exact List.lt_trans h1 h2
theorem lZ:∀ a:List aY,eI a a=false
 | []=>rfl
 | x::r=>by simp [eI,lZ r]
theorem jv:∀ (a b:List aY),a≠b->eI a b=!eI b a
 | [],[],h=>absurd rfl h
 | [],_::_,_=>rfl
 | _::_,[],_=>rfl
 | x::r,y::t,h=>by
  by_cases e:x=y
  ·subst e
   simp only [eI,if_true]
   exact jv r t fun z=>h (by rw [z])
  ·simp only [eI]
   rw [if_neg e,if_neg (Ne.symm e)]
   exact uX x y e
theorem jw:∀ {a b c:List aY},eI a b=true->eI b c=true->eI a c=true
 | [],[],_,h,_=>by cases h
 | [],_::_,[],_,h=>by cases h
 | [],_::_,_::_,_,_=>rfl
 | _::_,[],_,h,_=>by cases h
 | _::_,_::_,[],_,h=>by cases h
 | x::r,y::t,z::u,h1,h2=>by
  simp only [eI] at h1 h2 ⊢
  by_cases e:x=y
  ·subst e
   rw [if_pos rfl] at h1
   by_cases e2:x=z
   ·subst e2
    rw [if_pos rfl] at h2 ⊢
    exact jw h1 h2
   ·rw [if_neg e2] at h2 ⊢
    exact h2
  ·rw [if_neg e] at h1
   by_cases e2:y=z
   ·subst e2
    rw [if_neg e]
    exact h1
   ·rw [if_neg e2] at h2
    have h3:=w9 h1 h2
    by_cases e3:x=z
    ·subst e3
     rw [uY] at h3
     cases h3
    ·rw [if_neg e3]; exact h3
def qC (a b:List aY):Prop:=eI b a=false
theorem wP {a b:List aY} (h1:qC a b) (h2:qC b a):a=b:=by
 by_cases e:a=b
 ·exact e
 ·have:=jv a b e
  unfold qC at h1 h2
  rw [h1,h2] at this
  cases this
theorem B9 {a b c:List aY} (h1:qC a b) (h2:qC b c):qC a c:=by
 unfold qC at *
 cases h:eI c a with
 | false=>rfl
 | true=>
  by_cases e:b=c
  ·subst e; rw [h] at h1; cases h1
  ·have:=jv b c e
   rw [h2] at this
   rw [jw (by simpa using this) h] at h1
   cases h1
theorem j9 (x:List aY):∀ l,(va x l).Perm (x::l)
 | []=>.refl _
 | y::r=>by
  unfold va
  split
  ·exact ((j9 x r).cons y).trans (.swap x y r)
  ·exact .refl _
theorem fS:∀ l,(eJ l).Perm l
 | []=>.refl _
 | x::r=>(j9 x _).trans ((fS r).cons x)
theorem tU (x:List aY):∀ l,l.Pairwise qC->(va x l).Pairwise qC
 | [],_=>List.pairwise_singleton _ _
 | y::r,h=>by
  unfold va
  obtain ⟨h1,h2⟩:=List.pairwise_cons.mp h
  split
  ·rename_i q
   refine List.pairwise_cons.mpr ⟨fun z hz=>?_,tU x r h2⟩
   rcases List.mem_cons.mp ((j9 x r).mem_iff.mp hz) with rfl | hz
   ·unfold qC
    cases e:eI z y with
    | false=>rfl
    | true=>
     have:=jw q e
     rw [lZ] at this
     cases this
   ·exact h1 z hz
  ·rename_i q
   have q:qC x y:=by simpa [qC] using q
   refine List.pairwise_cons.mpr ⟨fun z hz=>?_,h⟩
   rcases List.mem_cons.mp hz with rfl | hz
   ·exact q
   ·exact B9 q (h1 z hz)
theorem j8:∀ l,(eJ l).Pairwise qC
 | []=>.nil
 | x::r=>tU x _ (j8 r)
theorem kx:∀ {a b:List (List aY)},a.Perm b->a.Pairwise qC->b.Pairwise qC->a=b
 | [],b,p,_,_=>(List.nil_perm.mp p).symm
 | x::r,[],p,_,_=>absurd p.length_eq (by simp)
 | x::r,y::t,p,h1,h2=>by
  obtain ⟨a1,a2⟩:=List.pairwise_cons.mp h1
  obtain ⟨b1,b2⟩:=List.pairwise_cons.mp h2
  have e:x=y:=by
   rcases List.mem_cons.mp (p.mem_iff.mp (List.mem_cons_self (a:=x) (l:=r))) with e | e
   ·exact e
   ·rcases List.mem_cons.mp (p.mem_iff.mpr (List.mem_cons_self (a:=y) (l:=t))) with f | f
    ·exact f.symm
    ·exact wP (a1 y f) (b1 x e)
  subst e
  rw [kx ((List.perm_cons x).mp p) a2 b2]
theorem nK {a b:List (List aY)} (p:a.Perm b) (h:a.Pairwise qC):a=eJ b:=kx (p.trans (fS b).symm) h (j8 b)
theorem mj {a b:List (List aY)} (p:a.Perm b):eJ a=eJ b:=nK ((fS a).trans p) (j8 a)
end VL
namespace VL
open PySem PySem.Spec PyProof.Rows L2
section
variable {prog:Program} {w:World} {A:Around} {E:Value->Shared->Prop} {s:Shared}
def Ic:aY->Value->Prop
 | .inl i,v=>∃ t,v=.int i t
 | .inr x,v=>∃ t,v=.str x t
inductive KVals:List aY->List Value->Prop
 | nil:KVals [] []
 | cons {k v ks vs}:Ic k v->KVals ks vs->KVals (k::ks) (v::vs)
theorem KVals.one:∀ {k k':List aY} {vs:List Value},KVals k vs->KVals k' vs->k=k'
 | _,_,_,.nil,.nil=>rfl
 | _,_,_,.cons (k:=a) h1 r1,.cons (k:=b) h2 r2=>by
  have e:=KVals.one r1 r2
  subst e
  cases a <;> cases b <;> obtain ⟨t,rfl⟩:=h1 <;> obtain ⟨u,h2⟩:=h2 <;> first | cases h2; rfl | cases h2
noncomputable def fV:List aY->List aY->Bool
 | a::r,b::t=>if a=b then fV r t else Df a==Df b
 | _,_=>true
theorem wO {fin:Bool} {Q:Bool->Shared->Prop}:∀ {k1 k2:List aY} {xs ys:List Value} {i:Nat},KVals k1 xs->KVals k2 ys->fV k1 k2=true->fin=decide (xs.length<ys.length)->Q (eI k1 k2) s->PySem.W.KatLex prog w A true fin Q (xs.zip ys) i s
 | _,_,_,_,i,.nil,.nil,_,hf,q=>by
  subst hf
  exact PySem.W.kat_nil q
 | _,_,_,_,i,.nil,.cons h r,_,hf,q=>by
  subst hf
  exact PySem.W.kat_nil (by simpa [eI] using q)
 | _,_,_,_,i,.cons h r,.nil,_,hf,q=>by
  subst hf
  rw [List.zip_nil_right]
  exact PySem.W.kat_nil (by simpa [eI] using q)
 | _,_,_,_,i,.cons (k:=a) (vs:=xs) h1 r1,.cons (k:=b) (vs:=ys) h2 r2,hc,hf,q=>by
  have hf:fin=decide (xs.length<ys.length):=by rw [hf]; simp
  rw [List.zip_cons_cons]
  refine PySem.W.kat_cons ?_
  simp only [eI,fV] at q hc
  by_cases e:a=b
  ·subst e
   rw [if_pos rfl] at q hc
   have go:=wO (i:=i+1) r1 r2 hc hf q
   cases a with
   | inl a=>
    obtain ⟨t,rfl⟩:=h1
    obtain ⟨u,rfl⟩:=h2
    refine SeqAt.EqAt.int_int a t a u _ _ _ _ ?_
    rw [beq_self_eq_true]
    exact PySem.W.kat_yes go
   | inr a=>
    obtain ⟨t,rfl⟩:=h1
    obtain ⟨u,rfl⟩:=h2
    refine SeqAt.EqAt.str_str a t a u _ _ _ _ ?_
    rw [beq_self_eq_true]
    exact PySem.W.kat_yes go
  ·rw [if_neg e] at q hc
   cases a with
   | inl a=>
    cases b with
    | inr b=>cases hc
    | inl b=>
     obtain ⟨t,rfl⟩:=h1
     obtain ⟨u,rfl⟩:=h2
     refine SeqAt.EqAt.int_int a t b u _ _ _ _ ?_
     rw [beq_eq_false_iff_ne.mpr fun z=>e (by rw [z])]
     refine PySem.W.kat_no ?_
     cases i with
     | zero=>exact oneLt_int q
     | succ i=>exact PySem.W.kat_one _ _ (lt_int q)
   | inr a=>
    cases b with
    | inl b=>cases hc
    | inr b=>
     obtain ⟨t,rfl⟩:=h1
     obtain ⟨u,rfl⟩:=h2
     refine SeqAt.EqAt.str_str a t b u _ _ _ _ ?_
     rw [beq_eq_false_iff_ne.mpr fun z=>e (by rw [z])]
     refine PySem.W.kat_no ?_
     cases i with
     | zero=>exact oneLt_str q
     | succ i=>exact PySem.W.kat_one _ _ (lt_str q)
def KAt (h:Heap) (v:Value) (k:List aY):Prop:=∃ b o xs n,v=.ref b/\h.get? b=some o/\o.cls=.type "tuple" /\ o.data=.seq xs n/\KVals k xs.toList
theorem KAt.one {h:Heap} {v:Value} {k k':List aY} (h1:KAt h v k) (h2:KAt h v k'):k=k':=by
 obtain ⟨b,o,xs,n,rfl,e1,e2,e3,e4⟩:=h1
 obtain ⟨b',o',xs',n',q,f1,f2,f3,f4⟩:=h2
 cases q
 rw [e1] at f1
 cases f1
 rw [e3] at f3
 cases f3
 exact e4.one f4
theorem KAt.keeps {h h':Heap} {v:Value} {k:List aY} (x:KAt h v k) (kp:∀ b o,o.cls=.type "tuple" -> h.get? b=some o->h'.get? b=some o):KAt h' v k:=by
 obtain ⟨b,o,xs,n,rfl,e1,e2,e3,e4⟩:=x
 exact ⟨b,o,xs,n,rfl,kp b o e2 e1,e2,e3,e4⟩
theorem Br {x y:Value} {k1 k2:List aY} {Q:Bool->Shared->Prop} (h1:KAt s.heap x k1) (h2:KAt s.heap y k2) (hc:fV k1 k2=true) (q:Q (eI k1 k2) s):wpAny (model prog w) A (keyLt' (tuples' true) x y) Q E s:=by
 obtain ⟨b,o,xs,n,rfl,e1,e2,e3,e4⟩:=h1
 obtain ⟨b',o',xs',n',rfl,f1,f2,f3,f4⟩:=h2
 exact PySem.W.kat_lt e1 e3 f1 f3 (wO e4 f4 hc (by simp) q)
noncomputable def jm (ks:List (List aY)) (k:List aY):Int:=((ks.filter fun x=>eI x k).length:Nat)
theorem kg {α:Type} {p q:α -> Bool}:∀ (l:List α),(∀ x∈l,p x=true->q x=true)->(l.filter p).length<=(l.filter q).length
 | [],_=>Nat.le_refl _
 | x::l,h=>by
  have ih:=kg l fun y hy=>h y (List.mem_cons_of_mem _ hy)
  have hx:=h x List.mem_cons_self
  rw [List.filter_cons,List.filter_cons]
  cases e:p x with
  | false=>
   rw [if_neg (by simp)]
   split
   ·rw [List.length_cons]; omega
   ·exact ih
  | true=>
   rw [if_pos rfl,if_pos (hx e),List.length_cons,List.length_cons]; omega
theorem nP {α:Type} {p q:α -> Bool}:∀ (l:List α),(∀ x∈l,p x=true->q x=true)->(∃ x∈l,p x=false/\q x=true)->(l.filter p).length<(l.filter q).length
 | [],_,⟨x,hx,_⟩=>by cases hx
 | x::l,h,⟨y,hy,h1,h2⟩=>by
  have ih:=kg l fun y hy=>h y (List.mem_cons_of_mem _ hy)
  have hx:=h x List.mem_cons_self
  rw [List.filter_cons,List.filter_cons]
  rcases List.mem_cons.mp hy with rfl | hy
  ·rw [if_neg (by rw [h1]; simp),if_pos h2,List.length_cons]; omega
  ·have ih:=nP l (fun y hy=>h y (List.mem_cons_of_mem _ hy)) ⟨y,hy,h1,h2⟩
   cases e:p x with
   | false=>
    rw [if_neg (by simp)]
    split
    ·rw [List.length_cons]; omega
    ·exact ih
   | true=>
    rw [if_pos rfl,if_pos (hx e),List.length_cons,List.length_cons]; omega
theorem p7 {ks:List (List aY)} {x y:List aY} (hx:x∈ks):decide (jm ks x<jm ks y)=eI x y:=by
 unfold jm
 cases e:eI x y with
 | true=>
  refine decide_eq_true ?_
  exact Int.ofNat_lt.mpr (nP ks (fun z _ hz=>jw hz e) ⟨x,hx,lZ x,e⟩)
 | false=>
  refine decide_eq_false ?_
  have:=kg (p:=fun z=>eI z y) (q:=fun z=>eI z x) ks fun z _ hz=>by
   by_cases q:y=x
   ·subst q; exact hz
   ·have:=jv y x q
    rw [e] at this
    exact jw hz this
  omega
open Classical in
noncomputable def sn (h:Heap) (v:Value):List aY:=if q:∃ k,KAt h v k then q.choose else []
theorem oZ {h:Heap} {v:Value} {k:List aY} (x:KAt h v k):sn h v=k:=by
 unfold sn
 have q:∃ k,KAt h v k:=⟨k,x⟩
 rw [dif_pos q]
 exact q.choose_spec.one x
theorem rM {h0:Heap} {ks:List (List aY)} (hc:∀ x∈ks,∀ y∈ks,fV x y=true) (kp:∀ b o,o.cls=.type "tuple" -> h0.get? b=some o->s.heap.get? b=some o) :
  dB (model prog w) A E s (tuples' true) (fun p=>jm ks (sn h0 p.1)) (fun p=>∃ k∈ks,KAt h0 p.1 k):=fun x y hx hy st Q ek q=>by
 obtain ⟨k1,m1,a1⟩:=hx
 obtain ⟨k2,m2,a2⟩:=hy
 have q:Q (some (decide (jm ks (sn h0 x.1)<jm ks (sn h0 y.1)))) st:=q
 rw [oZ a1,oZ a2,p7 m1] at q
 rw [lt'_eq]
 refine wpS_bind (wpS_get ?_)
 rw [ek]
 exact wpS_bind (wpS_lift (wpAny_attempt (Br (a1.keeps kp) (a2.keeps kp) (hc _ m1 _ m2) ⟨rfl,wpS_pure q⟩)))
theorem mm:∀ {a b:List aY},a.all Df=true->b.all Df=true->fV a b=true
 | [],_,_,_=>by simp [fV]
 | _::_,[],_,_=>by simp [fV]
 | x::r,y::t,h1,h2=>by
  simp only [List.all_cons,Bool.and_eq_true] at h1 h2
  simp only [fV]
  split
  ·exact mm h1.2 h2.2
  ·rw [h1.1,h2.1]; rfl
theorem vE {a b:List aY} (h1:jf a=true) (h2:jf b=true):fV a b=true:=by
 match a,b,h1,h2 with
 | .inr x::r,.inr y::t,h1,h2=>
  simp only [fV]
  split
  ·exact mm h1 h2
  ·rfl
theorem AK {a b:List aY} (h1:rq a=true) (h2:rq b=true):fV a b=true:=by
 match a,b,h1,h2 with
 | .inl x::r,.inl y::t,h1,h2=>
  simp only [fV]
  split
  ·exact mm h1 h2
  ·rfl
inductive KAts (h:Heap):List Value->List (List aY)->Prop
 | nil:KAts h [] []
 | cons {v k vs ks}:KAt h v k->KAts h vs ks->KAts h (v::vs) (k::ks)
theorem KAts.keeps {h h':Heap} (kp:∀ b o,o.cls=.type "tuple" -> h.get? b=some o->h'.get? b=some o):∀ {vs:List Value} {ks:List (List aY)},KAts h vs ks->KAts h' vs ks
 | _,_,.nil=>.nil
 | _,_,.cons x r=>.cons (x.keeps kp) (KAts.keeps kp r)
theorem KAts.map {h:Heap}:∀ {vs:List Value} {ks:List (List aY)},KAts h vs ks->vs.map (sn h)=ks
 | _,_,.nil=>rfl
 | _,_,.cons x r=>by rw [List.map_cons,oZ x,KAts.map r]
theorem KAts.mem {h:Heap}:∀ {vs:List Value} {ks:List (List aY)},KAts h vs ks->∀ v∈vs,∃ k∈ks,KAt h v k
 | _,_,.cons (k:=k) x r,v,hv=>by
  rcases List.mem_cons.mp hv with rfl | hv
  ·exact ⟨k,List.mem_cons_self,x⟩
  ·obtain ⟨k',m,y⟩:=KAts.mem r v hv
   exact ⟨k',List.mem_cons_of_mem _ m,y⟩
theorem KAts.of_map {h:Heap}:∀ {vs:List Value},(∀ v∈vs,∃ k,KAt h v k)->KAts h vs (vs.map (sn h))
 | [],_=>.nil
 | v::vs,H=>by
  obtain ⟨k,x⟩:=H v List.mem_cons_self
  rw [List.map_cons,oZ x]
  exact .cons x (KAts.of_map fun u hu=>H u (List.mem_cons_of_mem _ hu))
noncomputable def AO:Bool->Value
 | true=>.type "str"
 | false=>.type "int"
theorem KAts.tups {h:Heap} {b:Bool}:∀ {vs:List Value} {ks:List (List aY)},KAts h vs ks->(∀ k∈ks,(if b then jf k else rq k)=true)->∃ fs:List Value,fs.length=vs.length/\PySem.W.KatTups h vs fs/\∀ v∈fs,∀ M:Model,PySem.W.Looks M h (typeOf v) (AO b)
 | _,_,.nil,_=>⟨[],rfl,trivial,fun v h=>by cases h⟩
 | _,_,.cons (k:=k) x r,hk=>by
  obtain ⟨fs,h1,h2,h3⟩:=KAts.tups r fun k' m=>hk k' (List.mem_cons_of_mem _ m)
  obtain ⟨a,o,xs,n,rfl,e1,e2,e3,e4⟩:=x
  have hk:=hk k List.mem_cons_self
  obtain ⟨f,ef,lf⟩:∃ f,xs[0]? = some f/\∀ M:Model,PySem.W.Looks M h (typeOf f) (AO b):=by
   cases b with
   | true=>
    match k,hk,e4 with
    | .inr y::t,_,e4=>
     generalize exs:xs.toList=l at e4
     cases e4 with
     | cons hv hr=>
      obtain ⟨u,rfl⟩:=hv
      refine ⟨_,by rw [<- Array.getElem?_toList,exs]; rfl,fun M=>PySem.W.Looks.of_pure rfl⟩
   | false=>
    match k,hk,e4 with
    | .inl y::t,_,e4=>
     generalize exs:xs.toList=l at e4
     cases e4 with
     | cons hv hr=>
      obtain ⟨u,rfl⟩:=hv
      refine ⟨_,by rw [<- Array.getElem?_toList,exs]; rfl,fun M=>PySem.W.Looks.of_pure rfl⟩
  refine ⟨f::fs,by rw [List.length_cons,List.length_cons,h1],⟨⟨a,o,xs,n,rfl,e1,e2,e3,ef⟩,h2⟩,fun v hv=>?_⟩
  rcases List.mem_cons.mp hv with rfl | hv
  ·exact lf
  ·exact h3 v hv
theorem uG {α β:Type} {f:α -> β} {R:β -> β -> Prop} {l:List α} (h:l.Pairwise fun x y=>R (f x) (f y)):(l.map f).Pairwise R:=List.pairwise_map.mpr h
theorem lX {a:Addr} {vs:List Value} {ks:List (List aY)} {n:Nat} {P:PySem.Fin->Shared->Prop} (ho:s.heap.get? a=some (seqObj "list" vs.toArray n)) (x:KAts s.heap vs ks) (hk:(ks.all jf||ks.all rq)=true) (hz:vs.length<=sizeLine)
  (h:∀ out:List Value,out.Perm vs->KAts s.heap out (eJ ks)->P (.done (.ret .none)) { s with heap:=sortedHeap s.heap a vs out.toArray }) :
  wpAny (model prog w) A (Builtin.«list.sort» ⟨[.ref a],[]⟩) P E s:=by
 have hc:∀ x∈ks,∀ y∈ks,fV x y=true:=fun x hx y hy=>by
  rcases Bool.or_eq_true_iff.mp hk with q | q
  ·exact vE (List.all_eq_true.mp q x hx) (List.all_eq_true.mp q y hy)
  ·exact AK (List.all_eq_true.mp q x hx) (List.all_eq_true.mp q y hy)
 obtain ⟨b,hb⟩:∃ b:Bool,∀ k∈ks,(if b then jf k else rq k)=true:=by
  rcases Bool.or_eq_true_iff.mp hk with q | q
  ·exact ⟨true,fun k m=>List.all_eq_true.mp q k m⟩
  ·exact ⟨false,fun k m=>List.all_eq_true.mp q k m⟩
 refine iJ (kd:=tuples' true) (κ:=fun p=>jm ks (sn s.heap p.1)) (S:=fun p=>∃ k∈ks,KAt s.heap p.1 k) ho (fun h'=>∀ (b:Addr) (o:Obj),o.cls=.type "tuple" -> s.heap.get? b=some o->h'.get? b=some o) (fun _ _ _ e=>e) (fun h1 h2 (p:∀ (b:Addr) (o:Obj),o.cls=.type "tuple" -> s.heap.get? b=some o->h1.get? b=some o) kp b o (ec:o.cls=.type "tuple") e=>kp b o ec (p b o ec e)) (fun h2 s' kp Q q=>?_) (fun s' kp=>rM hc kp) (fun v hv=>x.mem v hv) hz fun out pm hs=>?_
 ·obtain ⟨fs,f1,f2,f3⟩:=(x.keeps kp).tups hb
  refine PySem.W.kat_kind (T:=AO b) f2 (by omega) (fun v hv=>f3 v hv _) (by cases b <;> decide) ?_
  have:(AO b != Value.type "tuple")=true:=by cases b <;> decide
  rw [this]
  exact q
 ·have H:∀ v∈out,∃ k,KAt s.heap v k:=fun v hv=>by
   obtain ⟨k,_,y⟩:=x.mem v (pm.mem_iff.mp hv)
   exact ⟨k,y⟩
  have X:=KAts.of_map H
  have pk:(out.map (sn s.heap)).Perm ks:=by
   have:=pm.map (sn s.heap)
   rwa [x.map] at this
  have e:out.map (sn s.heap)=eJ ks:=by
   refine nK pk ?_
   refine uG ?_
   refine List.Pairwise.imp_of_mem ?_ hs
   intro p q hp hq hle
   have m:sn s.heap q∈ks:=pk.mem_iff.mp (List.mem_map.mpr ⟨q,hq,rfl⟩)
   have:=p7 (y:=sn s.heap p) m
   unfold qC
   rw [<- this]
   have hle:jm ks (sn s.heap p)<=jm ks (sn s.heap q):=hle
   exact decide_eq_false (by omega)
  rw [e] at X
  exact h out pm X
end
end VL
namespace VL
open PySem PySem.Spec PyProof.Rows L2
section
variable {X:Cx}
noncomputable def sj:aY->V
 | .inl i=>.int i
 | .inr x=>.str x
noncomputable def Iz:Value->V
 | .ref b=>.ref b
 | _=>.non
inductive KeyVs (K:Fg) (H:Hp):List V->List (List aY)->Prop
 | nil:KeyVs K H [] []
 | cons {b k vs ks}:SqT K H b (k.map sj)->KeyVs K H vs ks->KeyVs K H (.ref b::vs) (k::ks)
theorem mf:∀ {k:List aY} {us:List Value},Vals (k.map sj) us->KVals k us
 | [],_,.nil=>.nil
 | .inl i::k,_,.cons h r=>.cons h (mf r)
 | .inr x::k,_,.cons h r=>.cons h (mf r)
theorem xa {pins:List (Addr×Obj)} {σ:St} {H:Hp} {s:Shared} (I:Inv X pins σ H s) {b:Addr} {k:List aY} (h:SqT X.K H b (k.map sj)):KAt s.heap (.ref b) k:=by
 obtain ⟨its,r,⟨o,e1,e2,n,e3⟩,z⟩:=I.tuple h
 exact ⟨b,o,its.toArray,n,rfl,e1,e2,e3,by simpa using mf r⟩
theorem qD {pins:List (Addr×Obj)} {σ:St} {Z H:Hp} {s:Shared} (I:Inv X pins σ H s) (zh:Same Z H):∀ {vs:List V} {ks:List (List aY)} {its:List Value},KeyVs X.K Z vs ks->Vals vs its->KAts s.heap its ks/\∀ u∈its,∃ (b:Addr) (k:List aY),u=.ref b/\SqT X.K Z b (k.map sj)
 | _,_,_,.nil,.nil=>⟨.nil,fun u h=>by cases h⟩
 | _,_,_,.cons (b:=b) (k:=k) h r,.cons hv hr=>by
  obtain ⟨a2,a3⟩:=qD I zh r hr
  have hv:=hv
  cases hv
  refine ⟨.cons (xa I (SqT.same h zh)) a2,fun u hu=>?_⟩
  rcases List.mem_cons.mp hu with rfl | hu
  ·exact ⟨b,k,rfl,h⟩
  ·exact a3 u hu
theorem mh {pins:List (Addr×Obj)} {σ:St} {Z H:Hp} {s:Shared} (I:Inv X pins σ H s) (zh:Same Z H):∀ {out:List Value} {ks:List (List aY)},KAts s.heap out ks->(∀ u∈out,∃ (b:Addr) (k:List aY),u=.ref b/\SqT X.K Z b (k.map sj))->KeyVs X.K Z (out.map Iz) ks/\Vals (out.map Iz) out
 | _,_,.nil,_=>⟨.nil,.nil⟩
 | _,_,.cons h r,hs=>by
  obtain ⟨a1,a2⟩:=mh I zh r fun u hu=>hs u (List.mem_cons_of_mem _ hu)
  obtain ⟨b,k',rfl,q⟩:=hs _ List.mem_cons_self
  have:=h.one (xa I (SqT.same q zh))
  subst this
  exact ⟨.cons q a1,.cons rfl a2⟩
def Gk (K:Fg) (H:Hp) (vs:List V) (P:List V->Prop):Prop:=
 (∃ l:List Int,vs=l.map V.int/\P ((gK l).map V.int))\/∃ ks,KeyVs K H vs ks/\(ks.all jf||ks.all rq)=true/\∀ vs',KeyVs K H vs' (eJ ks)->P vs'
theorem rP {pins:List (Addr×Obj)} {σ:St} {H:Hp} {s:Shared} {a:Addr} {vs:List V} {Q:VK} {Z:Hp} (I:Inv X pins σ H s) (zh:Same Z H) (hs:SqL X.K H a vs\/SqT X.K H a vs) (hsrt:Gk X.K Z vs fun vs'=>∀ l,H l=none->Q (.ref l) (upd H l (.lst vs'))) :
  wpAny (model X.prog X.w) X.A (call (.builtin "sorted") [.ref a]) (EP X pins σ Q) X.xe s:=by
 obtain ⟨its,rv,T,o,n,hT,e1,e2,e3,hz⟩:∃ (its:List Value),Vals vs its/\∃ (T:String) (o:Obj) (n:Nat),(T = "list" \/ T = "tuple")/\s.heap.get? a=some o/\o.cls=.type T/\o.data=.seq its.toArray n/\its.length<=sizeLine:=by
  rcases hs with hs | hs
  ·obtain ⟨its,r,⟨o,n,e1,e2,e3,e4⟩,z⟩:=I.list hs
   exact ⟨its,r,"list",o,n,.inl rfl,e1,e2,e4,by rw [<- r.length]; exact z⟩
  ·obtain ⟨its,r,⟨o,e1,e2,n,e3⟩,z⟩:=I.tuple hs
   exact ⟨its,r,"tuple",o,n,.inr rfl,e1,e2,e3,by rw [<- r.length]; exact z⟩
 refine Calls.call_function_entry kind_sorted plain_sorted entry_sorted (args_sorted1 _) ?_
 unfold Builtin.«sorted»
 refine wpAny_bind (m:=checkCount "sorted" 1 1 _) (wpAny_pure ?_)
 refine wpAny_bind (wpAny_collect_seq a hT e1 e2 e3 (fun h' hk'=>?_) (by simpa using hz))
 show wpAny _ _ (newList its >>= _) _ _ { s with heap:=h' }
 refine wpAny_bind (wpAny_newList ?_ hz)
 have hoL:(h'.push (seqObj "list" its.toArray 0)).get? h'.objs.size=some (seqObj "list" its.toArray 0):=Heap.get?_push_size _ rfl
 have I1:Inv X pins σ H { s with heap:=h' }:=I.kept (t':=s.toks) hk'
 have I2:Inv X pins σ H { s with heap:=h'.push (seqObj "list" its.toArray 0) }:=I1.kept (t':=s.toks) fun b o eo=>Heap.get?_push_of_some _ eo
 have fin:∀ (out:List Value) (vs':List V),Vals vs' out->out.length=its.length->(∀ l,H l=none->Q (.ref l) (upd H l (.lst vs')))->EP X pins σ Q (.ref h'.objs.size) { s with heap:=sortedHeap (h'.push (seqObj "list" its.toArray 0)) h'.objs.size its out.toArray }:=fun out vs' r hl q=>by
  have kp:∀ b o,h'.get? b=some o->(sortedHeap (h'.push (seqObj "list" its.toArray 0)) h'.objs.size its out.toArray).get? b=some o:=fun b o eo=>by
   have hb:b≠h'.objs.size:=Nat.ne_of_lt (Heap.lt_size eo)
   exact hX hb (Heap.get?_push_of_some _ (Heap.get?_push_of_some _ (hX hb (Heap.get?_push_of_some _ eo))))
  obtain ⟨e1,ho1⟩:∃ e1,((h'.push (seqObj "list" its.toArray 0)).update h'.objs.size (Obj.mapSeq fun _=>#[])).get? h'.objs.size=some (seqObj "list" #[] e1):=⟨_,get?_update_seq hoL (fun _=>#[])⟩
  have ho2:=Heap.get?_push_of_some (seqObj "list" #[] 0) (Heap.get?_push_of_some (seqObj "tuple" its.toArray 0) ho1)
  have ho3:=get?_update_seq ho2 (fun _=>out.toArray)
  have L:=I1.laid (h':=sortedHeap (h'.push (seqObj "list" its.toArray 0)) h'.objs.size its out.toArray) (a:=h'.objs.size) (o:=.lst vs') (t':=s.toks) kp (Nat.le_refl _)
   (show ObjOk X.prog X.w _ _ _ (.lst vs') from ⟨by rw [r.length,hl]; exact hz,out,_,r,ho3⟩)
  exact ⟨.ref h'.objs.size,_,L,rfl,q _ (I1.hok.fresh (Nat.le_refl _))⟩
 rcases hsrt with ⟨l,rfl,q⟩ | ⟨ks,kv,ok,q⟩
 ·refine wpAny_bind (wpAny_holding (wpAny_call_entry slot_list_sort ⟨_,hoL,rfl⟩ entry_list_sort (lY hoL (iN rv) hz fun out ns' a1 a2 a3=>⟨_,rfl,?_⟩) (args_list_sort _)))
  refine wpAny_pure ⟨_,rfl,?_⟩
  have e:=u6 a2 a3
  subst e
  have:=fin out.toList _ (gm a1) (by rw [IntsAre.length a1,(hZ l).length_eq]; exact (IntsAre.length (iN rv)).symm) q
  simpa using this
 ·obtain ⟨v2,v3⟩:=qD I2 zh kv rv
  refine wpAny_bind (wpAny_holding (wpAny_call_entry slot_list_sort ⟨_,hoL,rfl⟩ entry_list_sort (lX hoL v2 ok hz fun out pm ka=>⟨_,rfl,?_⟩) (args_list_sort _)))
  refine wpAny_pure ⟨_,rfl,?_⟩
  obtain ⟨b1,b2⟩:=mh I2 zh ka fun u hu=>v3 u (pm.mem_iff.mp hu)
  exact fin out _ b2 pm.length_eq (q _ b1)
theorem nE {K:Fg} {Z:Hp}:∀ {us:List V} {ds:List D} {k:List aY},Reps K Z us ds->w6 ds=some k->us=k.map sj
 | _,_,_,.nil,h=>by cases h; rfl
 | _,d::ds,_,.cons r rs,h=>by
  obtain ⟨x,e1,h⟩:=bind_some h
  obtain ⟨k',e2,h⟩:=bind_some h
  cases h
  rw [List.map_cons,<- nE rs e2]
  cases r <;> cases e1 <;> rfl
theorem nH {K:Fg} {Z:Hp}:∀ {vs:List V} {ds:List D} {ks:List (List aY)},Reps K Z vs ds->qF ds=some ks->KeyVs K Z vs ks
 | _,_,_,.nil,h=>by cases h; exact .nil
 | _,d::ds,_,.cons r rs,h=>by
  obtain ⟨k,e1,h⟩:=bind_some h
  obtain ⟨k',e2,h⟩:=bind_some h
  cases h
  cases r with
  | tup sq r2=>
   have e:=nE r2 e1
   subst e
   exact .cons sq (nH rs e2)
  | _=>cases e1
theorem j2 {K:Fg} {Z:Hp}:∀ k:List aY,Reps K Z (k.map sj) (k.map iL)
 | []=>.nil
 | .inl i::k=>.cons (.int i) (j2 k)
 | .inr x::k=>.cons (.str x) (j2 k)
theorem nG {K:Fg} {Z:Hp}:∀ {vs:List V} {ks:List (List aY)},KeyVs K Z vs ks->Reps K Z vs (ks.map fun k=>.tuple (k.map iL))
 | _,_,.nil=>.nil
 | _,_,.cons h r=>.cons (.tup h (j2 _)) (nG r)
variable {e:Expr} {p pos:Pos} {te:TE} {f:Dv->Option D}
def DA (K:Fg) (te:TE):TE:=fun σ H Q=>te σ H fun v H1=>∃ (a:Addr) (vs:List V) (Z:Hp),[v]=[V.ref a]/\Same Z H1/\(SqL K H1 a vs\/SqT K H1 a vs)/\Gk K Z vs fun vs'=>∀ l,H1 l=none->Q (.ref l) (upd H1 l (.lst vs'))
theorem uJ (hg:Gl X "sorted") (hm:X.mg "sorted" = none) (ha:PE X e te) (he:starEach [e] X.env=(false,eval e X.env)::starEach [] X.env:=by rfl) (hpl:(backTo pos (starEach [] X.env)).any (·.1)=false:=by rfl) :
  PE X (.Call (.Name "sorted" p) [e] [] pos) (DA X.K te):=by
 intro pins s σ H Q I h
 refine wpAny_Call_Name_kw (j7 I hg hm (u:=.builtin "sorted") (by decide +kernel) ?_ (by decide) (by decide))
 refine PyProof.Rows.callWith_builtin1 (cf (fR ha iS he pos pins s σ H (fun xs H1=>∃ (a:Addr) (vs:List V) (Z:Hp),xs=[V.ref a]/\Same Z H1/\(SqL X.K H1 a vs\/SqT X.K H1 a vs)/\Gk X.K Z vs fun vs'=>∀ l,H1 l=none->Q (.ref l) (upd H1 l (.lst vs'))) I (by exact h)) fun us s1 ⟨vs,H1,I1,r1,q1⟩=>?_) he hpl
 obtain ⟨a,xs,Z,e1,zh,hsq,q⟩:=q1
 subst e1
 obtain ⟨u,rfl,rx⟩:=lC r1
 cases rx
 exact rP I1 zh hsq q
theorem Au (hg:Gl X "sorted") (hm:X.mg "sorted" = none) (ha:EV X e f) (he:starEach [e] X.env=(false,eval e X.env)::starEach [] X.env:=by rfl) (hpl:(backTo pos (starEach [] X.env)).any (·.1)=false:=by rfl) :
  EO X (.Call (.Name "sorted" p) [e] [] pos) (G7 (o1 f cV)):=
 PE.imp (uJ hg hm ha he hpl) fun σ H Q h=>by
  obtain ⟨H₀,Z₀,Z,δ,ds0,hh,e0,k⟩:=h
  obtain ⟨d,e,e0⟩:=bind_some e0
  obtain ⟨d1,e1,e⟩:=bind_some e
  refine ⟨H₀,Z₀,Z,δ,d1,hh,e1,fun v Z1 H1 hh1 t1 r1=>?_⟩
  unfold cV at e
  obtain ⟨ds,e2,e⟩:=bind_some e
  have key:∀ vs,Reps X.K Z1 vs ds->Gk X.K Z1 vs fun vs'=>∀ l,H1 l=none->Q (.ref l) (upd H1 l (.lst vs')):=fun vs rs=>by
   cases e3:su ds with
   | some l=>
    rw [e3] at e
    cases e
    cases e0
    exact .inl ⟨l,qI rs e3,fun b hb=>k b _ Z1 H1 hh1 t1 hb (Reps.ints _)⟩
   | none=>
    rw [e3] at e
    obtain ⟨ks,e4,e⟩:=bind_some e
    obtain ⟨ok,e⟩:=em e
    cases e
    cases e0
    exact .inr ⟨ks,nH rs e4,ok,fun vs' kv b hb=>k b _ Z1 H1 hh1 t1 hb (nG kv)⟩
  cases r1 with
  | lst sq rs=>
   cases e2
   exact ⟨_,_,Z1,rfl,hh1.zh,.inl (SqL.same sq hh1.zh),key _ rs⟩
  | tup sq rs=>
   cases e2
   exact ⟨_,_,Z1,rfl,hh1.zh,.inr (SqT.same sq hh1.zh),key _ rs⟩
  | _=>cases e2
theorem Fm {g:Dv->Option D} (h:EO X e (G7 g)) (hl:∀ δ d,g δ = some d->∃ ds,d=.list ds):EV X e g:=
 PE.imp h fun σ H Q h=>by
  obtain ⟨H₀,Z₀,Z,δ,d,hh,e,k⟩:=h
  obtain ⟨ds,rfl⟩:=hl _ _ e
  refine ⟨H₀,Z₀,Z,δ,ds,hh,by unfold G7; rw [e]; rfl,fun p vs Z1 H1 hh1 t1 hp r1=>?_⟩
  have n:=New.add hh1.zh hp (.lst vs)
  exact k _ _ _ (hh1.new n) (t1.trans n.z) (.lst (SqL.of aL) (r1.same n.z))
theorem rQ {d d':D} (h:cV d=some d'):∃ ds,d'=.list ds:=by
 unfold cV at h
 obtain ⟨ds,_,h⟩:=bind_some h
 cases e3:su ds with
 | some l=>rw [e3] at h; cases h; exact ⟨_,rfl⟩
 | none=>
  rw [e3] at h
  obtain ⟨ks,_,h⟩:=bind_some h
  obtain ⟨_,h⟩:=em h
  cases h
  exact ⟨_,rfl⟩
theorem li (hg:Gl X "sorted") (hm:X.mg "sorted" = none) (ha:EV X e f) (he:starEach [e] X.env=(false,eval e X.env)::starEach [] X.env:=by rfl) (hpl:(backTo pos (starEach [] X.env)).any (·.1)=false:=by rfl) :
  EV X (.Call (.Name "sorted" p) [e] [] pos) (o1 f cV):=
 Fm (Au hg hm ha he hpl) fun δ d e=>by
  obtain ⟨d1,_,e⟩:=bind_some e
  exact rQ e
end
end VL
namespace VL
open PySem PySem.Spec PyProof.Rows L2
end VL
namespace VL
open PySem PySem.Spec PyProof.Rows L2
noncomputable def Zp (A:List Addr) (H Z:Hp):Hp:=fun b=>if b∈A then H b else Z b
end VL
namespace VL
open PySem PySem.Spec PyProof.Rows L2
end VL
namespace VL
open PySem PySem.Spec PyProof.Rows L2
end VL
namespace VL
open PySem PySem.Spec PyProof.Rows L2
end VL
namespace VL
open PySem PySem.Spec PyProof.Rows L2
end VL
namespace VL
open PySem PySem.Spec PyProof.Rows L2
end VL
namespace VL
open PySem PySem.Spec PyProof.Rows L2
@[simp] noncomputable def Jr (i:Nat) (fk fv:Dv->Option D):Sf:=fun δ=>(fk δ).bind fun dk=>(fv δ).bind fun v=>(xU δ[i]?).bind fun ds=>match dk with
 | .int k=>if 0<=k/\k.toNat<=ds.length/\ds.length<sizeLine then some (.nx,δ.set i (.ow (ds.take k.toNat++v::ds.drop k.toNat))) else none
 | _=>none
end VL
namespace VL
open PySem PySem.Spec PyProof.Rows L2
noncomputable def pO:List (D×D)->Option (List (aY×D))
 | []=>some []
 | p::r=>(qH p.1).bind fun k=>(pO r).bind fun es=>some ((k,p.2)::es)
noncomputable def yn (es:List (aY×D)):List (D×D):=es.map fun p=>(iL p.1,p.2)
theorem lD:∀ es:List (aY×D),pO (yn es)=some es
 | []=>rfl
 | (k,d)::r=>by
  have e:yn ((k,d)::r)=(iL k,d)::yn r:=rfl
  rw [e,pO,sk,Option.bind_some,lD r]
  rfl
noncomputable def rW:List D->Option (List (aY×D))
 | []=>some []
 | k::v::r=>(qH k).bind fun k=>(rW r).bind fun es=>some ((k,v)::es)
 | _=>none
noncomputable def qT:List aY->Bool
 | []=>true
 | k::r=>!(r.any fun x=>decide (x=k))&&qT r
noncomputable def o8 (ds:List D):Option D:=(rW ds).bind fun es=>if qT (es.map (·.1))=true/\es.length<=15 then some (.dict ((.none,.none)::yn es)) else none
noncomputable def nN:List D->Option D
 | [.dict ((.none,.none)::l),k,y]=>(pO l).bind fun es=>(qH k).bind fun k=>some ((kP es k).getD y)
 | _=>none
section
variable {K:Fg}
theorem CC {Z:Hp} {v:V} {l:List (D×D)} {es:List (aY×D)} (r:Rep K Z v (.dict ((.none,.none)::l))) (h:pO l=some es):∃ a kvs,v=.ref a/\Z a=some (.dK kvs)/\sS K Z kvs es:=by
 generalize hd:(PyData.dict ((PyData.none,PyData.none)::l):D)=d at r
 cases r with
 | @opq a _ q=>
  cases hd
  cases q with
  | dct h1 h2=>
   rename_i es
   cases es with
   | nil=>cases h1
   | cons e es=>simp [Aw] at h1
 | @gdc a kvs fs l' h1 h2 h3 h4=>
  cases hd
  have:pO (yn fs)=some es:=by rw [<- h]; exact congrArg pO h4.symm
  rw [lD] at this
  cases this
  exact ⟨a,kvs,rfl,h1,h2,h3⟩
 | _=>cases hd
theorem qc {κ:Type} [DecidableEq κ] {kvs:List (κ × V)} {k:κ} (v:V) (h:k ∉ kvs.map (·.1)):j3 kvs k v=kvs++[(k,v)]:=by
 unfold j3
 rw [if_neg]
 intro q
 obtain ⟨p,hp,e⟩:=List.any_eq_true.mp q
 exact h (by rw [<- of_decide_eq_true e]; exact List.mem_map_of_mem hp)
theorem nA:∀ (more kvs:List (aY×V)),qT (more.map (·.1))=true->(∀ k∈more.map (·.1),k ∉ kvs.map (·.1))->gJ kvs more=kvs++more
 | [],kvs,_,_=>by simp [gJ]
 | (k,v)::r,kvs,h,hn=>by
  have h':(!((r.map (·.1)).any fun x=>decide (x=k))&&qT (r.map (·.1)))=true:=h
  obtain ⟨h1,h2⟩:=Bool.and_eq_true_iff.mp h'
  have e:gJ kvs ((k,v)::r)=gJ (j3 kvs k v) r:=rfl
  rw [e,qc v (hn k (by simp)),nA r _ h2,List.append_assoc]
  ·rfl
  ·intro x hx
   rw [List.map_append,List.mem_append]
   rintro (z | z)
   ·exact hn x (List.mem_cons_of_mem _ hx) z
   ·have:x=k:=by simpa using z
    subst this
    have:((r.map (·.1)).any fun y=>decide (y=x))=true:=List.any_eq_true.mpr ⟨x,hx,decide_eq_true rfl⟩
    rw [this] at h1
    cases h1
noncomputable def fT (ps:List (V×V)):List V:=ps.flatMap fun p=>[p.1,p.2]
theorem qd {Z:Hp}:∀ {ps:List (V×V)} {xs:List D} {es:List (aY×D)},Reps K Z (fT ps) xs->rW xs=some es->∃ kvs:List (aY×V),ps=kvs.map (fun kv=>(kV kv.1,kv.2))/\sS K Z kvs es
 | [],xs,es,r,h=>by
  cases (show Reps K Z [] xs from r)
  cases h
  exact ⟨[],rfl,rfl,.nil⟩
 | (x,y)::ps,xs,es,r,h=>by
  have r':Reps K Z (x::y::fT ps) xs:=r
  match xs,r' with
  | _::_::_,.cons r1 (.cons r2 r3)=>
   obtain ⟨ky,e1,h⟩:=bind_some h
   obtain ⟨fs,e2,h⟩:=bind_some h
   cases h
   obtain ⟨kvs,rfl,q1,q2⟩:=qd r3 e2
   obtain rfl:=qG r1 e1
   exact ⟨(ky,y)::kvs,rfl,by simp [q1],.cons r2 q2⟩
def Jh (K:Fg) (fs:Dv->Option (List D)) (σ:St) (H:Hp) (Q:List (V×V)->Hp->Prop):Prop:=
 ∃ H₀ Z₀ Z δ xs,Hold K H₀ Z₀ Z δ σ H/\fs δ = some xs/\∀ ps Z1 H1,Hold K H₀ Z₀ Z1 δ σ H1->Same Z Z1->Reps K Z1 (fT ps) xs->Q ps H1
end
def DV (X:Cx) (pos:Pos) (ks:List (Option Expr)) (vs:List Expr) (fs:Dv->Option (List D)):Prop:=∃ trs,FM X pos ks vs trs/\∀ σ H Q,Jh X.K fs σ H Q->oi trs σ H Q
section
variable {X:Cx} {pos:Pos} {ks:List (Option Expr)} {vs:List Expr} {k v:Expr} {fs:Dv->Option (List D)} {fk fv:Dv->Option D}
theorem sI:DV X pos [] [] ao:=⟨[],zc,fun σ H Q h=>by
 obtain ⟨H₀,Z₀,Z,δ,xs,hh,e,q⟩:=h
 cases e
 exact q [] Z H hh (fun _ _ e=>e) .nil⟩
theorem gP (hk:EV X k fk) (hv:EV X v fv) (hr:DV X pos ks vs fs):DV X pos (some k::ks) (v::vs) (ac fk (ac fv fs)):=by
 obtain ⟨trs,h1,h2⟩:=hr
 refine ⟨_,wa hk hv h1,fun σ H Q h=>?_⟩
 obtain ⟨H₀,Z₀,Z,δ,xs,hh,e,q⟩:=h
 obtain ⟨dk,e1,e⟩:=bind_some e
 obtain ⟨ys,e2,e⟩:=bind_some e
 cases e
 obtain ⟨dv,e3,e⟩:=bind_some e2
 obtain ⟨zs,e4,e⟩:=bind_some e
 cases e
 exact ⟨H₀,Z₀,Z,δ,dk,hh,e1,fun x Z1 H1 hh1 t1 r1=>⟨H₀,Z₀,Z1,δ,dv,hh1,e3,fun y Z2 H2 hh2 t2 r2=>h2 σ H2 _ ⟨H₀,Z₀,Z2,δ,zs,hh2,e4,fun ps Z3 H3 hh3 t3 r3=>q ((x,y)::ps) Z3 H3 hh3 (t1.trans (t2.trans t3)) (.cons ((r1.same t2).same t3) (.cons (r2.same t3) r3))⟩⟩⟩
theorem sE (h:DV X pos ks vs fs) (hall:ks.all (·.isSome)=true:=by rfl) (hl:ks.length=vs.length:=by rfl) (h0:ks≠[]:=by simp) (h15:ks.length<=15:=by decide):EV X (.Dict ks vs pos) (os fs o8):=by
 obtain ⟨trs,h1,h2⟩:=h
 refine PE.imp (zj h1 hall hl h0 h15) fun σ H Q h=>?_
 obtain ⟨H₀,Z₀,Z,δ,d,hh,e,kk⟩:=h
 obtain ⟨xs,e1,e⟩:=bind_some e
 obtain ⟨es,e2,e⟩:=bind_some e
 obtain ⟨⟨hd,hl'⟩,e⟩:=em e
 cases e
 intro p hp
 have z0:=jq hh.z0 (jB hh.zh hp)
 have h0:H₀ p=none:=by
  cases e:H₀ p with
  | none=>rfl
  | some o=>rw [hh.h0 p o e] at hp; cases hp
 refine h2 σ _ _ ⟨_,Z₀,Z,δ,xs,hh.aside hp (.dK []),e1,fun ps Z1 H1 hh1 t1 r1=>?_⟩
 obtain ⟨g1,g2⟩:=hh1.inside h0 z0
 obtain ⟨kvs,rfl,rk⟩:=qd r1 e2
 have hn:(fun b=>if b=p then none else H1 b) p=none:=if_pos rfl
 have len:kvs.length=es.length:=p0 rk
 refine ⟨g1,kvs,rfl,by omega,?_⟩
 rw [nA kvs [] (by rw [<- rk.1]; exact hd) (fun k _ z=>nomatch z),List.nil_append]
 have n:=New.add g2.zh hn (.dK kvs)
 have eH:upd (fun b=>if b=p then none else H1 b) p (.dK kvs)=upd H1 p (.dK kvs):=funext fun b=>by
  by_cases hb:b=p
  ·subst hb; rw [aL,aL]
  ·rw [aQ hb,aQ hb]; exact if_neg hb
 have st:=g2.new n
 have nz:=n.z
 rw [eH] at st
 exact kk _ _ _ st (t1.trans nz) (.gdc aL rk.1 (rk.2.same nz) rfl)
theorem Ar {a b c:Expr} {f fk fx:Dv->Option D} {apos cpos:Pos} (hu:X.A.units+1<cLine) (ha:EV X a f) (hb:EV X b fk) (hc:EV X c fx) (m:M2 X a "get" apos b c cpos):EV X (.Call (.Attribute a "get" apos) [b,c] [] cpos) (os (ac f (ac fk (ac fx ao))) nN):=
 PE.imp (wn hu ha hb hc m) fun σ H Q h=>by
  obtain ⟨H₀,Z₀,Z,δ,d,hh,e,k⟩:=h
  obtain ⟨xs,e0,e⟩:=bind_some e
  obtain ⟨x,e1,e0⟩:=bind_some e0
  obtain ⟨ys,e2,e0⟩:=bind_some e0
  cases e0
  obtain ⟨y,e3,e2⟩:=bind_some e2
  obtain ⟨zs,e4,e2⟩:=bind_some e2
  cases e2
  obtain ⟨z,e5,e4⟩:=bind_some e4
  obtain ⟨ws,e6,e4⟩:=bind_some e4
  cases e4
  cases e6
  match x,e with
  | .dict ((.none,.none)::l),e=>
   obtain ⟨es,e7,e⟩:=bind_some e
   obtain ⟨ky,e8,e⟩:=bind_some e
   cases e
   refine ⟨H₀,Z₀,Z,δ,_,hh,e1,fun v Z1 H1 hh1 t1 r1=>?_⟩
   obtain ⟨ad,kvs,rfl,g4,g5⟩:=CC r1 e7
   refine ⟨ad,rfl,.inl ⟨kvs,.inl (hh1.zh _ _ g4)⟩,H₀,Z₀,Z1,δ,y,hh1,e3,fun v Z2 H2 hh2 t2 r2=>⟨H₀,Z₀,Z2,δ,z,hh2,e5,fun u Z3 H3 hh3 t3 r3=>?_⟩⟩
   obtain rfl:=qG r2 e8
   have g4':=hh3.zh _ _ (t3 _ _ (t2 _ _ g4))
   rcases p6 ky g5 with ⟨q,q'⟩ | ⟨w,d',q1,q2,rw'⟩
   ·refine ⟨none,q ▸ DGet.k g4',k u Z3 H3 hh3 (t1.trans (t2.trans t3)) ?_⟩
    rw [q']; exact r3
   ·refine ⟨some w,q1 ▸ DGet.k g4',k w Z3 H3 hh3 (t1.trans (t2.trans t3)) ?_⟩
    rw [q2]; exact (rw'.same t2).same t3
end
end VL
namespace VL
open PySem PySem.Spec PyProof.Rows L2
end VL
namespace VL
open PySem PySem.Spec PyProof.Rows L2
end VL
namespace VL
open PySem PySem.Spec PyProof.Rows L2
noncomputable def vU (i:Nat) (f:Dv->Option D):Sf:=fun δ=>(f δ).bind fun _=>match δ[i]? with
 | some (.fz (.tuple (.list es::_)))=>if es.length<sizeLine then some (.nx,vq δ) else none
 | _=>none
noncomputable def tI (Z:Hp):Hp:=fun c=>match Z c with
 | some (.lst _)=>none
 | some (.frz _ (.lst _))=>none
 | o=>o
theorem noZ_sub {Z:Hp}:Same (tI Z) Z:=fun c o e=>by
 unfold tI at e
 split at e
 ·cases e
 ·cases e
 ·exact e
theorem tH {Z:Hp} (b:Addr) (xs:List V) (r:Rd Z b (.tup xs)):Rd (tI Z) b (.tup xs):=by
 rcases r with r | ⟨o,r⟩
 ·exact .inl (by unfold tI; rw [r])
 ·exact .inr ⟨o,by unfold tI; rw [r]⟩
theorem wC {Z:Hp} {c:Addr} (e:Z c=none):tI Z c=none:=by unfold tI; rw [e]
theorem zz {Z:Hp} {c:Addr} {o:Obj} {xs:List V}:tI Z c≠some (.frz o (.lst xs)):=fun e=>by
 unfold tI at e
 split at e
 ·cases e
 ·cases e
 ·rename_i h1 h2
  exact h2 _ _ e
noncomputable def Zn:Hp:=fun _=>none
section
variable {K:Fg} {H₀ Z₀ Z H H':Hp} {δ:Dv} {σ:St}
theorem Hold.forget (h:Hold K H₀ Z₀ Z δ σ H) (hs:∀ c,Z c=none->H' c=H c) (zh:Same (tI Z) H'):Hold K Zn Zn (tI Z) (vq δ) σ H':=by
 refine ⟨zh,fun b o q=>(nomatch q),fun b o q=>(nomatch q),fun b hb=>absurd rfl hb,by simp [vq,h.len],fun j d q=>?_,fun j d q=>?_,fun j k d1 d2 b hjk q1 q2=>?_,fun j d q=>?_,fun b o xs q=>absurd q zz⟩
 ·rcases jI q with z | ⟨q,hs⟩
  ·cases z
  ·obtain ⟨v,g1,g2⟩:=h.fz j d q
   exact ⟨v,g1,Rep.lf tH g2 hs⟩
 ·rcases jI q with z | ⟨q,hl⟩
  ·cases z
  ·cases d with
   | l es=>
    obtain ⟨b,ws,g1,g2,g3,g4,g5⟩:=h.ow j es q
    exact ⟨b,.lst ws,g1,rfl,wC g3,by rw [hs b g3]; exact g4,.lst (Reps.lf tH g5 hl)⟩
   | d es=>cases hl
 ·rcases jI q1 with z | ⟨q1,_⟩
  ·cases z
  ·rcases jI q2 with z | ⟨q2,_⟩
   ·cases z
   ·exact h.dja j k d1 d2 b hjk q1 q2
 ·rcases jI q with z | ⟨q,hs⟩
  ·cases z
  ·cases hs
end
def IA (K:Fg) (f:Sf):TS:=fun D σ H=>∃ Z δ r,Hold K Zn Zn Z δ σ H/\f δ = some r/\∀ σ' H' Z',Hold K Zn Zn Z' r.2 σ' H'->r.1.to K Z' D σ' H'
def BQ (X:Cx) (sts:List Stmt) (f:Sf):Prop:=PSs X sts (IA X.K f)
section
variable {X:Cx} {e c b tg iter:Expr} {a:Expr} {st:Stmt} {body sts:List Stmt} {s1 s2:Sf} {f:Dv->Option D} {fs:Dv->Option (List D)} {p p3 pos apos spos cpos:Pos}
theorem Bm (h:BV X sts s1):BQ X sts s1:=PSs.imp h fun D σ H q=>by
 obtain ⟨Z,δ,r,hh,e,k⟩:=q
 exact ⟨Zn,Zn,Z,δ,r,hh,e,fun σ' H' Z' h' _=>k σ' H' Z' h'⟩
theorem ph (h1:SV X st s1) (h2:BQ X sts s2):BQ X (st::sts) (sSeq s1 s2):=
 PSs.imp (g8 h1 h2) fun D σ H h=>by
  obtain ⟨Z,δ,r,hh,e,k⟩:=h
  obtain ⟨⟨fl,δ'⟩,e1,e⟩:=bind_some e
  refine ⟨Zn,Zn,Z,δ,(fl,δ'),hh,e1,fun σ' H' Z' hh' s'=>?_⟩
  cases fl with
  | nx=>exact ⟨Z',δ',r,hh',e,fun σ2 H2 Z2 hh2=>by
    have:=k σ2 H2 Z2 hh2
    obtain ⟨fl,δ2⟩:=r
    cases fl <;> exact this⟩
  | bk=>cases e; exact k σ' H' Z' hh'
  | ct=>cases e; exact k σ' H' Z' hh'
  | rt d=>cases e; exact k σ' H' Z' hh'
theorem AH (i:Nat) {x:Str} {j:Nat} (hK:NoL X.K) (hv':EV X e f) (h2:BQ X sts s2) (hN:X.N[i]? = some x:=by rfl) (hv:AM X.env.scope x:=by first | exact Or.inl rfl | exact Or.inr (Or.inl rfl) | exact Or.inr (Or.inr rfl)) (hd:(x==("__debug__":Str))=false:=by decide) (hcd:(x==("__classdict__":Str))=false:=by decide)
  (hix:ls (.Constant (.int 0) j p3):=by intro _ _; rfl)
  (hbase:attributeBase (.Subscript (.Name x p) (.Constant (.int 0) j p3) spos) "append" X.env (eval (.Subscript (.Name x p) (.Constant (.int 0) j p3) spos) X.env)=eval (.Subscript (.Name x p) (.Constant (.int 0) j p3) spos) X.env:=by rfl)
  (hfew:((backTo cpos (starEach [e] X.env)).all (fun x=>!x.1)&&(backToKw cpos (keywordEach [] X.env)).all (fun x=>x.1.isSome)
   && decide ([e].length+([]:List Keyword).length+(if ([]:List Keyword).isEmpty then 0 else 1)<30))=true:=by rfl)
  (hline:(apos.endLine==cpos.line)=true:=by rfl) (hs:starEach [e] X.env=(false,eval e X.env)::starEach [] X.env:=by rfl) (hplain:(backTo cpos (starEach [] X.env)).any (·.1)=false:=by rfl)
  (hsw:swapsWith (.Call (.Attribute (.Subscript (.Name x p) (.Constant (.int 0) j p3) spos) "append" apos) [e] [] cpos) none pos.line X.env=pure false:=by rfl):BQ X (.Expr (.Call (.Attribute (.Subscript (.Name x p) (.Constant (.int 0) j p3) spos) "append" apos) [e] [] cpos) pos::sts) (sSeq (vU i f) s2):=
 PSs.imp (g8 (oz (wp PySem.F.plainAttrs_list PySem.F.slot_list_append PySem.F.type_list_append ny (wj xb (iR hN hv hd hcd) wk hix) (fR hv' iS hs) hbase hfew hline hs hplain) hsw) h2) fun D σ H h=>by
  obtain ⟨Z,δ,r,hh,e,k⟩:=h
  obtain ⟨⟨fl,δ'⟩,e1,e⟩:=bind_some e
  obtain ⟨v,e2,e1⟩:=bind_some e1
  split at e1
  rotate_left
  ·cases e1
  rename_i es rest q
  split at e1
  rotate_left
  ·cases e1
  rename_i hc
  cases e1
  obtain ⟨vt,h1,rv⟩:=hh.fz i _ q
  cases rv with
  | tup s0 q0=>
   rename_i t ws
   cases q0 with
   | cons r0 rr=>
    cases r0 with
    | lst sl rl=>
     rename_i al xs
     have ht:=s0
     have la:Z al=some (.lst xs):=by
      rcases sl with (z | ⟨o,z⟩) | ⟨o,its,m,z,hcl,_⟩
      ·exact z
      ·exact absurd (hh.nf _ _ _ z) (fun z=>nomatch z)
      ·exact absurd hcl (hK _ o z)
     refine ⟨_,h1,_,_,0,.ref al,rfl,rfl,SqT.same s0 hh.zh,by unfold kr; simp [Bd],.inl ⟨rfl,xs,SqL.of (hh.zh _ _ la)⟩,Zn,Zn,Z,δ,v,hh,e2,fun w Z1 H1 hh1 t1 r1=>?_⟩
     have la1:Z1 al=some (.lst xs):=t1 _ _ la
     have len:xs.length<sizeLine:=by rw [rl.length]; exact hc
     refine ⟨al,xs,w,rfl,rfl,hh1.zh _ _ la1,len,tI Z1,_,r,hh1.forget (fun c hcn=>?_) (fun c o hco=>?_),e,k⟩
     ·rw [aQ (fun z=>by subst z; rw [la1] at hcn; cases hcn)]
     ·have:c≠al:=fun z=>by
       subst z
       unfold tI at hco
       rw [la1] at hco
       cases hco
      rw [aQ this]
      exact hh1.zh c o (noZ_sub c o hco)
def Dz (K:Fg) (f:Dv->Option (List D)):TI:=fun σ H R=>∃ H₀ Z₀ Z δ ds,Hold K H₀ Z₀ Z δ σ H/\f δ = some ds/\∀ J Z' H',Hold K H₀ Z₀ Z' δ σ H'->Same Z Z'->(∀ Zx,ItOk K Zx J ds)->R J H'
theorem sr (hg:Gl X "range") (hm:X.mg "range" = none) (ha:AV X [a] fs) (hs:starEach [a] X.env=[(false,eval a X.env)]:=by rfl):PI X tg (.Call (.Name "range" p) [a] [] pos) (Dz X.K (oL fs d8)):=
 PI.imp (nv hg hm ha hs) fun σ H R h=>by
  obtain ⟨H₀,Z₀,Z,δ,ds,hh,e,k⟩:=h
  obtain ⟨as,e1,e⟩:=bind_some e
  refine ⟨H₀,Z₀,Z,δ,as,hh,e1,fun vs Z1 H1 hh1 t1 r1=>?_⟩
  unfold d8 at e
  split at e
  ·rename_i j
   split at e
   ·rename_i hj
    cases e
    cases r1 with
    | cons q1 q2=>
     cases q2
     exact ⟨j,by rw [q1.int_eq],hj.2,hj.1,k _ Z1 H1 hh1 t1 fun _=>mi⟩
   ·cases e
  ·cases e
theorem CV {g:D->Dv->Option Dv} (hp:PassesOwn (model X.prog X.w) X.A X.env X.xe) (hc:X.calm=true) (hi:PI X tg iter (Dz X.K fs)) (hg:GV X tg g) (hb:BQ X body s1) (h2:BQ X sts s2)
  (hs:∀ x,foldedSetIterable iter X.env x=pure x:=by intro _; rfl):BQ X (.For tg iter body [] pos::sts) (sSeq (iQ fs g s1) s2):=
 PSs.imp (g8 (v8 hp hc hi hg hb hs) h2) fun D σ H h=>by
  obtain ⟨Z,δ,r,hh,e,k⟩:=h
  obtain ⟨⟨fl,δ'⟩,e1,e⟩:=bind_some e
  obtain ⟨ds,e2,e1⟩:=bind_some e1
  have k':∀ σ' H' Z',Hold X.K Zn Zn Z' δ' σ' H'->fl.to X.K Z' { D with nx:=IA X.K s2 D } σ' H':=fun σ' H' Z' hh'=>by
   cases fl with
   | nx=>exact ⟨Z',δ',r,hh',e,k⟩
   | bk=>cases e; exact k σ' H' Z' hh'
   | ct=>cases e; exact k σ' H' Z' hh'
   | rt d=>cases e; exact k σ' H' Z' hh'
  refine ⟨Zn,Zn,Z,δ,ds,hh,e2,fun J Z1 H1 hh1 t1 ok=>?_⟩
  refine ⟨fun i m σ H=>m=ds.length-i/\i<=ds.length/\∃ Zc δc,Hold X.K Zn Zn Zc δc σ H/\loop g s1 (ds.drop i) δc=some (fl,δ'),⟨ds.length,by simp,Nat.zero_le _,Z1,δ,hh1,e1⟩,?_⟩
  rintro i m σ2 H2 ⟨rfl,hi2,Zc,δc,hhc,ec⟩
  by_cases hlt:i<ds.length
  ·refine .inr ⟨(ok Zc).go i H2 hhc.zh hlt,fun σ3 H3=>∃ Zc δc,Hold X.K Zn Zn Zc δc σ3 H3/\loop g s1 (ds.drop (i+1)) δc=some (fl,δ'),fun σ3 H3 q=>⟨ds.length-(i+1),by omega,rfl,hlt,q⟩,fun x H3 y=>?_⟩
   have ed:ds[i]? = some ds[i]:=by simp [hlt]
   obtain ⟨rfl,rx⟩:=(ok Zc).yld i H2 x H3 _ hhc.zh ed y
   rw [List.drop_eq_getElem_cons hlt] at ec
   obtain ⟨δ1,g1,ec⟩:=bind_some ec
   obtain ⟨⟨fl2,δ2⟩,g2,ec⟩:=bind_some ec
   refine ⟨Zn,Zn,Zc,δc,_,δ1,hhc,rx,g1,fun σ4 H4 Z4 hh4 t4=>⟨Z4,δ1,(fl2,δ2),hh4,g2,fun σ5 H5 Z5 hh5=>?_⟩⟩
   cases fl2 with
   | nx=>exact ⟨Z5,δ2,hh5,ec⟩
   | ct=>exact ⟨Z5,δ2,hh5,ec⟩
   | bk=>cases ec; exact k' σ5 H5 Z5 hh5
   | rt d=>cases ec; exact k' σ5 H5 Z5 hh5
  ·have e3:ds.drop i=[]:=List.drop_eq_nil_iff.mpr (by omega)
   rw [e3] at ec
   cases ec
   exact .inl ⟨(ok Zc).stop i H2 hhc.zh (by omega),k' σ2 H2 Zc hhc⟩
def IC (K:Fg) (f:Sf):TS:=fun D σ H=>∃ H₀ Z₀ Z δ r,Hold K H₀ Z₀ Z δ σ H/\f δ = some r/\∀ σ' H' Z' H₁ Z₁,Hold K H₁ Z₁ Z' r.2 σ' H'->r.1.to K Z' D σ' H'
theorem xO (h1:SV X st s1) (h2:BQ X sts s2):PSs X (st::sts) (IC X.K (sSeq s1 (fun δ=>s2 (vq δ)))):=
 PSs.imp (g8 h1 h2) fun D σ H h=>by
  obtain ⟨H₀,Z₀,Z,δ,r,hh,e,k⟩:=h
  obtain ⟨⟨fl,δ'⟩,e1,e⟩:=bind_some e
  refine ⟨H₀,Z₀,Z,δ,(fl,δ'),hh,e1,fun σ' H' Z' hh' s'=>?_⟩
  cases fl with
  | nx=>exact ⟨tI Z',vq δ',r,hh'.forget (fun _ _=>rfl) (noZ_sub.trans hh'.zh),e,fun σ2 H2 Z2 hh2=>by
    have:=k σ2 H2 Z2 _ _ hh2
    obtain ⟨fl,δ2⟩:=r
    cases fl <;> exact this⟩
  | bk=>cases e; exact k σ' H' Z' _ _ hh'
  | ct=>cases e; exact k σ' H' Z' _ _ hh'
  | rt d=>cases e; exact k σ' H' Z' _ _ hh'
end
section
variable {P:Program} {w:World} {K:PySem.W.Frag} {mg:Str->Option Value} {base:Heap}
def FS (K:Fg) (g:List D->Option D):Sp:=fun vs H Q _=>∃ Z as d,Same Z H/\Reps K Z vs as/\g as=some d/\∀ v Z' H',Rep K Z' v d->Q v H'
theorem HC {x qual:Str} {st:Stmt} {f:Addr} {fd:FuncData} {dV:Value} {N ps:List Str} {k:Nat} {b:Sf} (F:FunV K x qual st f fd dV) (S:FnScope N ps (ar st))
  (hb:∀ (cdv:Value) (A:Around) (outer:List Env) (s:Shared) (H:Hp) (E:XK),Room k (A.deeper (envOfC qual (ar st) s.heap.objs.size f cdv))->PSs (qU d0 P w K mg base N qual (ar st) f cdv A outer s H E).nox (cz st) (IC K b)) :
  FnOk P w K mg base d0 (k+1) f fd ps (FS K (runB N ps.length b)):=by
 obtain ⟨oc,od,kV,doc,pm,an,cdv,ct,osl,rfl,lk,hcd⟩:=F.ex
 have hlen:∀ as d,runB N ps.length b as=some d->as.length=ps.length:=fun as d h=>by
  unfold runB at h
  split at h
  ·assumption
  ·cases h
 refine Bh lk hcd S (fun vs H Q E h=>?_) fun A outer s H vs Q E hr hsp=>?_
 ·obtain ⟨Z,as,d,zh,r,e,_⟩:=h
  rw [r.length]
  exact hlen as d e
 ·refine ⟨_,PSs.nox (hb cdv A outer s H E hr),?_⟩
  obtain ⟨Z,as,d,zh,r,e,kk⟩:=hsp
  have hh:=mo (N:=N) zh r
  unfold runB at e
  split at e
  ·obtain ⟨⟨fl,δ'⟩,e2,e⟩:=bind_some e
   cases fl with
   | nx=>cases e; exact ⟨H,Z,Z,_,_,hh,e2,fun σ' H' Z' _ _ h'=>kk _ Z' H' .non⟩
   | rt d=>cases e; exact ⟨H,Z,Z,_,_,hh,e2,fun σ' H' Z' _ _ h' v rv=>kk v Z' H' rv⟩
   | bk=>cases e
   | ct=>cases e
  ·cases e
theorem EG {g:List D->Option D} {k:Nat} {f:Addr} {fd:FuncData} (F:FnOk P w K mg base d0 k f fd ["script"] (FS K g)) (hg:∀ ns:List Int,ns.length<=63->g [.list (ns.map .int)]=some (.bool true)):FnOk P w K mg base d0 k f fd ["script"] (sX K):=
 F.imp fun vs H Q E h=>by
  obtain ⟨a,ns,rfl,hS,hl,q⟩:=h
  exact ⟨H,[.list (ns.map .int)],.bool true,Same.refl _,.cons (.lst hS (Reps.ints ns)) .nil,hg ns hl,fun v Z' H' r=>by cases r; exact q H'⟩
end
end VL
namespace MA
open PySem
noncomputable def Jf (j most:Int):Int:=if j=0 then most else if (Builtin.Int.intBits (Builtin.bitAnd j (-j)):Int)-1<most then (Builtin.Int.intBits (Builtin.bitAnd j (-j)):Int)-1 else most
theorem ui {a:Int} {m:Nat} (h:a.natAbs<2 ^ m):Builtin.Int.intBits a<=m:=by
 unfold Builtin.Int.intBits
 split
 ·exact Nat.zero_le _
 ·rename_i h0
  have h0:a≠0:=by simpa using h0
  have:a.natAbs.log2<m:=(Nat.log2_lt (by omega)).mpr h
  omega
structure Q4 where
 a:Int
 b:Int
 c:Int
 d:Int
namespace Q4
end Q4
structure S2 where
 p:Int
 q:Int
namespace S2
end S2
inductive Row where
 | swing (j:Nat) | turn (j:Nat) (e:Nat) | flip (j:Nat) | tie (i j:Nat) | sign (i j:Nat) | cross (i j:Nat)
def Row.ok (n:Nat):Row->Prop
 | .swing j=>j<n
 | .turn j e=>j<n/\1<=e/\e<=7
 | .flip j=>j<n
 | .tie i j=>i<n/\j<n/\i≠j
 | .sign i j=>i<n/\j<n/\i≠j
 | .cross i j=>i<n/\j<n/\i≠j
noncomputable def IX (n:Nat):Nat:=if n=0 then 0 else n % 2+IX (n / 2)
termination_by n
decreasing_by omega
noncomputable def par (n:Nat):Nat:=IX n % 2
def Sh (k:Nat) (d:PyData):Prop:=d.canLay0=true/\d.depth<=k
theorem Sh.int (k:Nat) (i:Int):Sh k (.int i):=⟨by simp [PyData.canLay0],by simp [PyData.depth]⟩
theorem Sh.all {k:Nat}:∀ (xs:List PyData),(∀ x∈xs,Sh k x)->PyData.canLayAll0 xs=true/\PyData.depthAll xs<=k
 | [],_=>⟨by simp [PyData.canLayAll0],by simp [PyData.depthAll]⟩
 | x::xs,h=>by
  obtain ⟨a,b⟩:=Sh.all xs fun y hy=>h y (List.mem_cons_of_mem _ hy)
  obtain ⟨c,d⟩:=h x List.mem_cons_self
  refine ⟨by simp [PyData.canLayAll0,a,c],?_⟩
  simp only [PyData.depthAll]
  omega
theorem Sh.tuple {k:Nat} {xs:List PyData} (h:∀ x∈xs,Sh k x):Sh (k+1) (.tuple xs):=by
 obtain ⟨a,b⟩:=Sh.all xs h
 exact ⟨by simp [PyData.canLay0,a],by simp only [PyData.depth]; omega⟩
theorem Sh.list {k:Nat} {xs:List PyData} (h:∀ x∈xs,Sh k x):Sh (k+1) (.list xs):=by
 obtain ⟨a,b⟩:=Sh.all xs h
 exact ⟨by simp [PyData.canLay0,a],by simp only [PyData.depth]; omega⟩
end MA
namespace GN
open PySem L2 VL
noncomputable def iq (i:Nat):Stmt:=PySem.Challenge.pw_wavewires_k64_shortened_walked.main.body.getD i (.Pass ⟨0,0,0,0⟩)
abbrev gD:Stmt:=iq 4
abbrev dZ:List Str:=["row"]
noncomputable def bG (G:List D->Option D):Sf:=sSeq (sIf (ob (o2 (o2 (oV 0) (oC (.int 0)) aC) (oC (.str "where")) aH)) (aS (os (ac (o2 (oV 0) (oC (.int 2)) aC) (ao)) G)) (cR)) (sSeq (sIf (ob (o2 (o2 (oV 0) (oC (.int 0)) aC) (os (ac (oC (.str "tie")) (ac (oC (.str "sign")) (ac (oC (.str "cross")) (ao)))) be) (de false))) (aS (os (ac (os (ac (o2 (oV 0) (oC (.int 1)) aC) (ac (o2 (oV 0) (oC (.int 2)) aC) (ao))) zB) (ac (os (ac (o2 (oV 0) (oC (.int 1)) aC) (ac (o2 (oV 0) (oC (.int 2)) aC) (ao))) r6) (ao))) be)) (cR)) (aS (os (ac (o2 (oV 0) (oC (.int 1)) aC) (ao)) be)))
noncomputable def b6:Nat->List D->Option D
 | 0=>runB dZ 1 (fun _=>none)
 | m+1=>runB dZ 1 (bG (b6 m))
noncomputable def bf:List D->Option D:=b6 8
abbrev fG:Stmt:=iq 13
abbrev kG:List Str:=["one","other"]
noncomputable def dy:Sf:=sSeq (sIf (ob (o2 (o2 (oV 0) (oC (.int 0)) aC) (os (ac (oC (.str "turn")) (ac (oC (.str "look")) (ao))) be) (de false))) (aS (oC (.bool false))) (cR)) (sSeq (sIf (ob (o2 (o2 (oV 0) (oC (.int 0)) aC) (os (ac (oC (.str "sign")) (ac (oC (.str "cross")) (ao))) be) (de false))) (aS (gw (o2 (o2 (oV 0) (oC (.int 0)) aC) (o2 (oV 1) (oC (.int 0)) aC) aH) (o2 (os (ac (oV 0) (ao)) bf) (os (ac (oV 1) (ao)) bf) aH))) (cR)) (aS (o2 (oV 0) (oV 1) aH)))
noncomputable def bJ:List D->Option D:=runB kG 2 dy
abbrev gE:Stmt:=iq 11
abbrev mL:List Str:=["row","look","mark"]
noncomputable def fA:Sf:=aS (gw (o2 (o2 (oV 0) (oC (.int 0)) aC) (oC (.str "where")) aH) (gw (o2 (o2 (oV 1) (oC (.int 0)) aC) (oC (.str "look")) aH) (o2 (o2 (oV 0) (oC (.int 1)) aC) (oV 2) aH)))
noncomputable def bP:List D->Option D:=runB mL 3 fA
abbrev kX:Stmt:=iq 9
abbrev um:List Str:=["row","wire"]
noncomputable def dO:Sf:=sSeq (sIf (ob (o2 (o2 (oV 0) (oC (.int 0)) aC) (os (ac (oC (.str "swing")) (ac (oC (.str "cross")) (ao))) be) (de false))) (aS (oC .none)) (cR)) (aS (Es (o2 (o2 (oV 0) (oC (.int 0)) aC) (oC (.str "flip")) aH) (gw (o2 (o2 (oV 0) (oC (.int 0)) aC) (oC (.str "tie")) aH) (o2 (o2 (oV 0) (oC (.int 2)) aC) (oV 1) aH))))
noncomputable def cb:List D->Option D:=runB um 2 dO
abbrev eN:Stmt:=iq 10
abbrev jU:List Str:=["one","other","wire","first"]
noncomputable def eS:Sf:=sSeq (bS 3 (os (ac (oV 0) (ac (oV 2) (ao))) cb)) (aS (gw (o2 (oV 3) (oC .none) jy) (o2 (oV 3) (os (ac (oV 1) (ac (oV 2) (ao))) cb) aH)))
noncomputable def bV:List D->Option D:=runB jU 3 eS
abbrev fK:Stmt:=iq 8
abbrev kI:List Str:=["row"]
noncomputable def dz:Sf:=aS (F0 (ob (o2 (o2 (oV 0) (oC (.int 0)) aC) (oC (.str "where")) aH)) (o2 (oV 0) (oC (.int 2)) aC) (oV 0))
noncomputable def bB:List D->Option D:=runB kI 1 dz
abbrev dw:Stmt:=iq 12
abbrev ip:List Str:=["one","other","mark","shared"]
noncomputable def iU:Dv->Option D:=fh (oI (os (ac (oV 0) (ao)) bf) dc) [(1,"other")] sM (ob (o2 (oV 0) (os (ac (oV 1) (ao)) bf) (de false))) (oV 0)
noncomputable def iT:Dv->Option D:=hJ (oI (oV 3) dc) [(0,"one"),(1,"other")] sM (os (ac (os (ac (oV 1) (ao)) bB) (ac (os (ac (oV 2) (ao)) bB) (ac (oV 0) (ao)))) bV)
noncomputable def kq:Sf:=sSeq (sIf (dF (ob (o2 (o2 (oV 0) (oC (.int 0)) aC) (oC (.str "look")) aH)) (ob (o2 (o2 (oV 1) (oC (.int 0)) aC) (oC (.str "look")) aH))) (aS (oC (.bool false))) (cR)) (sSeq (sIf (oT (ob (os (ac (oV 0) (ac (oV 1) (ac (oV 2) (ao)))) bP)) (ob (os (ac (oV 1) (ac (oV 0) (ac (oV 2) (ao)))) bP))) (aS (oC (.bool false))) (cR)) (sSeq (bS 3 (iU)) (aS (os (ac (iT) (ao)) xQ))))
noncomputable def cC:List D->Option D:=runB ip 3 kq
abbrev dh:Stmt:=iq 14
abbrev gX:List Str:=["rows","p","steps","q"]
noncomputable def b4:Sf:=sSeq (sIf (ob (os (ac (o2 (oV 0) (oV 1) aC) (ac (o2 (oV 0) (oV 3) aC) (ao))) bJ)) (pY 2 (os (ac (oC (.str "gone")) (ac (oV 1) (ac (oV 3) (ao)))) be)) (cR)) (sSeq (sIf (dF (ob (o2 (o2 (o2 (oV 0) (oV 1) aC) (oC (.int 0)) aC) (oC (.str "turn")) aH)) (ob (o2 (iW (o2 (oV 0) (oV 1) aC) (kZ) (oP (oC (.int 2)))) (iW (o2 (oV 0) (oV 3) aC) (kZ) (oP (oC (.int 2)))) aH))) (pY 2 (os (ac (oC (.str "joined")) (ac (oV 1) (ac (oV 3) (ao)))) be)) (cR)) (sIf (j5 (ob (os (ac (o2 (oV 0) (oV 1) aC) (ac (o2 (oV 0) (oV 3) aC) (ao))) (fun as=>cC (as++[.none]))))) (fun δ=>(aS (oV 2)) (dFz 2 δ)) (cR)))
noncomputable def dn:Sf:=sSeq (uE 2 (ao)) (sSeq (iQ (oL (ac (o2 (oV 1) (oC (.int 1)) bL) (ac (os (ac (oV 0) (ao)) cw) (ao))) dR) (gN 3) (b4)) (fun δ=>(aS (oV 2)) (dFz 2 δ)))
noncomputable def bp:List D->Option D:=runB gX 2 dn
abbrev fH:Stmt:=iq 15
abbrev bM:List Str:=["row","wire"]
noncomputable def aK (G:List D->Option D):Sf:=sSeq (sIf (ob (o2 (o2 (oV 0) (oC (.int 0)) aC) (oC (.str "where")) aH)) (aS (os (ac (oC (.str "where")) (ac (o2 (oV 0) (oC (.int 1)) aC) (ac (os (ac (o2 (oV 0) (oC (.int 2)) aC) (ac (oV 1) (ao))) G) (ao)))) be)) (cR)) (sSeq (sIf (ob (o2 (oV 0) (os (ac (oC (.str "flip")) (ac (oV 1) (ao))) be) aH)) (aS (os (ac (oC (.str "turn")) (ac (oV 1) (ac (oC (.int 4)) (ao)))) be)) (cR)) (sSeq (sIf (ob (o2 (oV 0) (os (ac (oC (.str "turn")) (ac (oV 1) (ac (oC (.int 4)) (ao)))) be) aH)) (aS (os (ac (oC (.str "flip")) (ac (oV 1) (ao))) be)) (cR)) (sSeq (sIf (dF (ob (o2 (o2 (oV 0) (oC (.int 0)) aC) (oC (.str "tie")) aH)) (ob (o2 (o2 (oV 0) (oC (.int 2)) aC) (oV 1) aH))) (aS (os (ac (oC (.str "sign")) (ac (o2 (oV 0) (oC (.int 1)) aC) (ac (oV 1) (ao)))) be)) (cR)) (sSeq (sIf (ob (o2 (o2 (oV 0) (oC (.int 0)) aC) (oC (.str "sign")) aH)) (aS (os (ac (oC (.str "tie")) (ac (F0 (ob (o2 (o2 (oV 0) (oC (.int 1)) aC) (oV 1) aH)) (o2 (oV 0) (oC (.int 2)) aC) (o2 (oV 0) (oC (.int 1)) aC)) (ac (oV 1) (ao)))) be)) (cR)) (aS (oC .none))))))
noncomputable def bb:Nat->List D->Option D
 | 0=>runB bM 2 (fun _=>none)
 | m+1=>runB bM 2 (aK (bb m))
noncomputable def ck:List D->Option D:=bb 8
abbrev b9:Stmt:=iq 16
abbrev dQ:List Str:=["rows","p","wire","at"]
noncomputable def cv:Dv->Option D:=fh (oL (ac (o2 (oV 1) (oC (.int 1)) bL) (ac (os (ac (oV 0) (ao)) cw) (ao))) dR) [(0,"rows"),(2,"wire")] sM (ob (o2 (oV 2) (os (ac (o2 (oV 1) (oV 0) aC) (ao)) bf) (de false))) (oV 0)
noncomputable def bO:Sf:=sSeq (sIf (ob (o2 (o2 (o2 (oV 0) (oV 1) aC) (oC (.int 0)) aC) (oC (.str "swing")) neD)) (aS (os (ao) cK)) (cR)) (sSeq (bS 2 (o2 (o2 (oV 0) (oV 1) aC) (oC (.int 1)) aC)) (sSeq (bS 3 (iW (cv) (kZ) (oP (oC (.int 2))))) (sSeq (sIf (dF (ob (o2 (os (ac (oV 3) (ao)) cw) (oC (.int 2)) aH)) (dF (ob (o2 (o2 (oV 0) (o2 (oV 3) (oC (.int 1)) aC) aC) (o2 (oV 0) (oV 1) aC) aH)) (ob (o2 (os (ac (o2 (oV 0) (o2 (oV 3) (oC (.int 0)) aC) aC) (ac (oV 2) (ao))) ck) (oC .none) jy)))) (aS (os (ac (os (ac (oC (.str "swung")) (ac (oV 1) (ac (o2 (oV 3) (oC (.int 0)) aC) (ac (o2 (oV 3) (oC (.int 1)) aC) (ao))))) be) (ao)) cK)) (cR)) (aS (os (ao) cK)))))
noncomputable def aJ:List D->Option D:=runB dQ 2 bO
abbrev fI:Stmt:=iq 17
abbrev N_slides_of:List Str:=["circuit","rows","steps","p"]
noncomputable def dH:Sf:=sSeq (ti 2 (os (ac (oV 1) (ac (oV 3) (ao))) bp)) (ti 2 (os (ac (oV 1) (ac (oV 3) (ao))) aJ))
noncomputable def ie:Sf:=sSeq (bS 1 (o2 (oV 0) (oC (.int 1)) aC)) (sSeq (uE 2 (ao)) (sSeq (iQ (oL (ac (os (ac (oV 1) (ao)) cw) (ao)) d8) (gN 3) (dH)) (fun δ=>(aS (o1 (oV 2) cV)) (dFz 2 δ))))
noncomputable def bc:List D->Option D:=runB N_slides_of 1 ie
abbrev jl:Stmt:=iq 18
abbrev rE:List Str:=["one","other","e"]
noncomputable def jO:Sf:=sSeq (bS 2 (o2 (o2 (o2 (oV 0) (oC (.int 2)) aC) (o2 (oV 1) (oC (.int 2)) aC) bL) (oC (.int 8)) cH)) (aS (F0 (ob (o2 (oV 2) (oC (.int 0)) aH)) (oC .none) (os (ac (oC (.str "turn")) (ac (o2 (oV 0) (oC (.int 1)) aC) (ac (oV 2) (ao)))) be)))
noncomputable def dM:List D->Option D:=runB rE 2 jO
abbrev eM:Stmt:=iq 19
abbrev jT:List Str:=["rows","step"]
noncomputable def dP:Sf:=sSeq (sIf (ob (o2 (o2 (oV 1) (oC (.int 0)) aC) (oC (.str "gone")) aH)) (aS (os (ac (o2 (oV 1) (oC (.int 1)) aC) (ac (oC .none) (ac (o2 (oV 1) (oC (.int 2)) aC) (ac (oC .none) (ao))))) o8)) (cR)) (sSeq (sIf (ob (o2 (o2 (oV 1) (oC (.int 0)) aC) (oC (.str "joined")) aH)) (aS (os (ac (o2 (oV 1) (oC (.int 1)) aC) (ac (oC .none) (ac (o2 (oV 1) (oC (.int 2)) aC) (ac (os (ac (o2 (oV 0) (o2 (oV 1) (oC (.int 1)) aC) aC) (ac (o2 (oV 0) (o2 (oV 1) (oC (.int 2)) aC) aC) (ao))) dM) (ao))))) o8)) (cR)) (aS (os (ac (o2 (oV 1) (oC (.int 1)) aC) (ac (oC .none) (ac (o2 (oV 1) (oC (.int 2)) aC) (ac (os (ac (o2 (oV 0) (o2 (oV 1) (oC (.int 2)) aC) aC) (ac (o2 (o2 (oV 0) (o2 (oV 1) (oC (.int 1)) aC) aC) (oC (.int 1)) aC) (ao))) ck) (ac (o2 (oV 1) (oC (.int 3)) aC) (ac (oC .none) (ao))))))) o8)))
noncomputable def bq:List D->Option D:=runB jT 2 dP
abbrev j1:Stmt:=iq 20
abbrev N_slid:List Str:=["circuit","step","changes","rows"]
noncomputable def oD:Dv->Option D:=hJ (oL (ac (os (ac (o2 (oV 0) (oC (.int 1)) aC) (ao)) cw) (ao)) d8) [(0,"circuit"),(2,"changes")] sM (os (ac (oV 2) (ac (oV 0) (ac (o2 (o2 (oV 1) (oC (.int 1)) aC) (oV 0) aC) ao))) nN)
noncomputable def oB:Dv->Option D:=fh (oI (oV 3) dc) [] sM (ob (o2 (oV 0) (oC .none) jy)) (oV 0)
noncomputable def sP:Sf:=sSeq (sIf (ob (o2 (oV 1) (os (ac (oV 0) (ao)) bc) (E5 true))) (IF) (cR)) (sSeq (bS 2 (os (ac (o2 (oV 0) (oC (.int 1)) aC) (ac (oV 1) (ao))) bq)) (sSeq (bS 3 (oD)) (aS (os (ac (o2 (oV 0) (oC (.int 0)) aC) (ac (os (ac (oB) (ao)) jY) (ao))) be))))
noncomputable def gM:List D->Option D:=runB N_slid 2 sP
abbrev jj:Stmt:=iq 6
abbrev rB:List Str:=["thing","steps_for","behind_step","chain","steps"]
noncomputable def gn:Dv->Option Bool:=ob (o2 (oV 4) (os (ao) cK) neD)
noncomputable def gx:Sf:=sSeq (pY 3 (o2 (oV 4) (oC (.int 0)) aC)) (sSeq (bS 0 (iX 2 (ac (oV 0) (ac (o2 (oV 4) (oC (.int 0)) aC) (ao))) (("slid",gM)::[]))) (bS 4 (iX 1 (ac (oV 0) (ao)) (("slides_of",bc)::[]))))
noncomputable def mG:Sf:=sSeq (uE 3 (ao)) (sSeq (bS 4 (iX 1 (ac (oV 0) (ao)) (("slides_of",bc)::[]))) (sSeq (fun δ=>gk (gn) (gx) wN δ) (fun δ=>(aS (os (ac (oV 3) (ac (oV 0) (ao))) be)) (dFz 3 δ))))
noncomputable def gy:List D->Option D:=runB rB 3 mG
abbrev fJ:Stmt:=iq 22
abbrev kH:List Str:=["circuit"]
noncomputable def ii:Sf:=aS (os (ac (oV 0) (ac (oC (mO "slides_of")) (ac (oC (mO "slid")) (ao)))) gy)
noncomputable def bX:List D->Option D:=runB kH 1 ii
abbrev fQ:Stmt:=iq 24
abbrev kN:List Str:=["script","k"]
noncomputable def fY:Sf:=sSeq (sIf (ob (o2 (oV 1) (os (ac (oV 0) (ao)) cw) qy)) (aS (o2 (oV 0) (oV 1) aC)) (cR)) (aS (oC (.int 0)))
noncomputable def cn:List D->Option D:=runB kN 2 fY
abbrev fM:Stmt:=iq 25
abbrev kK:List Str:=["cell","prime","near"]
noncomputable def fX:Sf:=sSeq (bS 2 (o2 (oV 0) (oC (.int 1000003)) cH)) (aS (o2 (o2 (o2 (oV 2) (oC (.int 11)) bL) (o2 (oV 2) (oC (.int 48271)) bL) B3) (oV 1) cH))
noncomputable def bt:List D->Option D:=runB kK 2 fX
abbrev gF:Stmt:=iq 26
abbrev mM:List Str:=["cell","wires","looks","plain","seed","j","i"]
noncomputable def b7:Sf:=sSeq (bS 4 (o2 (os (ac (oV 0) (ac (oC (.int 2147483647)) (ao))) bt) (oC (.int 7)) jG)) (sSeq (bS 5 (o2 (o2 (oV 4) (oC (.int 16)) jG) (oV 1) cH)) (sSeq (bS 6 (o2 (o2 (o2 (oV 5) (oC (.int 1)) bL) (o2 (o2 (oV 4) (oC (.int 96)) jG) (os (ac (oC (.int 1)) (ac (o2 (oV 1) (oC (.int 1)) Bv) (ao))) r6) cH) bL) (oV 1) cH)) (sSeq (sIf (ob (o2 (o2 (oV 0) (oC (.int 16)) cH) (oC (.int 4)) qy)) (aS (os (ac (oC (.str "swing")) (ac (oV 5) (ao))) be)) (cR)) (sSeq (sIf (ob (o2 (o2 (oV 0) (oC (.int 16)) cH) (oC (.int 7)) qy)) (aS (os (ac (oC (.str "turn")) (ac (oV 5) (ac (o2 (oC (.int 1)) (o2 (o2 (oV 4) (oC (.int 600)) jG) (oC (.int 7)) cH) bL) (ao)))) be)) (cR)) (sSeq (sIf (dF (ob (uP (oC (.int 7)) (o2 (oV 0) (oC (.int 16)) cH) (oC (.int 13)) qy qy)) (ob (o2 (oV 1) (oC (.int 1)) Gf))) (aS (os (ac (o2 (os (ac (oC (.str "tie")) (ac (oC (.str "sign")) (ac (oC (.str "cross")) (ac (oC (.str "tie")) (ac (oC (.str "sign")) (ao)))))) cK) (o2 (o2 (oV 0) (oC (.int 16)) cH) (oC (.int 8)) Bv) aC) (ac (oV 6) (ac (oV 5) (ao)))) be)) (cR)) (sSeq (sIf (oT (ob (o2 (o2 (oV 0) (oC (.int 16)) cH) (oC (.int 7)) aH)) (ob (oV 3))) (aS (os (ac (oC (.str "flip")) (ac (oV 5) (ao))) be)) (cR)) (sSeq (sIf (dF (ob (o2 (oV 2) (oC (.int 6)) qy)) (oT (ob (o2 (o2 (oV 0) (oC (.int 16)) cH) (oC (.int 14)) qy)) (ob (o2 (oV 2) (oC (.int 0)) aH)))) (aS (os (ac (oC (.str "look")) (ac (oV 5) (ao))) be)) (cR)) (sSeq (sIf (ob (o2 (oV 2) (oC (.int 0)) aH)) (aS (os (ac (oC (.str "swing")) (ac (oV 5) (ao))) be)) (cR)) (aS (os (ac (oC (.str "where")) (ac (o2 (o2 (oV 4) (oC (.int 4200)) jG) (oV 2) cH) (ac (o2 (os (ac (os (ac (oC (.str "flip")) (ac (oV 5) (ao))) be) (ac (os (ac (oC (.str "turn")) (ac (oV 5) (ac (oC (.int 4)) (ao)))) be) (ao))) cK) (o2 (o2 (oV 4) (oC (.int 29400)) jG) (oC (.int 2)) cH) aC) (ao)))) be))))))))))
noncomputable def aR:List D->Option D:=runB mM 4 b7
abbrev fO:Stmt:=iq 28
abbrev dD:List Str:=["found","due","k"]
noncomputable def dI (G:List D->Option D):Sf:=sIf (j5 (ob (os (ac (o2 (oV 0) (oV 2) aC) (ac (o2 (oV 1) (oV 2) aC) (ao))) G))) (aS (oC (.bool false))) (cR)
noncomputable def cp (G:List D->Option D):Sf:=sSeq (sIf (ob (o1 (oV 1) (cT "tuple"))) (sSeq (sIf (oT (j5 (ob (o1 (oV 0) (cT "tuple")))) (ob (o2 (os (ac (oV 0) (ao)) cw) (os (ac (oV 1) (ao)) cw) neD))) (aS (oC (.bool false))) (cR)) (sSeq (iQ (oL (ac (os (ac (oV 1) (ao)) cw) (ao)) d8) (gN 2) (dI G)) (aS (oC (.bool true))))) (cR)) (sSeq (sIf (ob (o1 (oV 1) (cT "str"))) (aS (gw (o1 (oV 0) (cT "str")) (o2 (oV 0) (oV 1) aH))) (cR)) (aS (gw (o1 (oV 0) (cT "int")) (gw (o1 (o1 (oV 0) (cT "bool")) zy) (o2 (oV 0) (oV 1) aH)))))
noncomputable def br:Nat->List D->Option D
 | 0=>runB dD 2 (fun _=>none)
 | m+1=>runB dD 2 (cp (br m))
noncomputable def cm:List D->Option D:=br 8
abbrev eO:Stmt:=iq 29
abbrev jV:List Str:=["cells","wires","rows","looks","cell","row","seed"]
noncomputable def da:Sf:=sSeq (bS 5 (os (ac (oV 4) (ac (oV 1) (ac (oV 3) (ac (oC (.bool false)) (ao))))) aR)) (sSeq (bS 6 (o2 (os (ac (o2 (oV 4) (oC (.int 5)) jG) (ac (oC (.int 86028121)) (ao))) bt) (oC (.int 7)) jG)) (sSeq (sIf (iH 2 (dF (ob (o2 (o2 (oV 4) (oC (.int 5)) cH) (oC (.int 2)) qy)) (dF (ob (o2 (oV 2) (os (ao) cK) neD)) (ob (o2 (o2 (o2 (oV 2) (o2 (oV 6) (os (ac (oV 2) (ao)) cw) cH) aC) (oC (.int 0)) aC) (oC (.str "look")) neD))))) (sSeq (bS 5 (B1 2 (o2 (oV 6) (wz 2) cH))) (sIf (dF (ob (o2 (o2 (oV 5) (oC (.int 0)) aC) (os (ac (oC (.str "sign")) (ac (oC (.str "cross")) (ao))) be) (de false))) (ob (o2 (o2 (o2 (oV 6) (oC (.int 64)) jG) (oC (.int 2)) cH) (oC (.int 1)) aH))) (bS 5 (os (ac (o2 (oV 5) (oC (.int 0)) aC) (ac (o2 (oV 5) (oC (.int 2)) aC) (ac (o2 (oV 5) (oC (.int 1)) aC) (ao)))) be)) (cR))) (cR)) (sSeq (sIf (dF (ob (o2 (o2 (oV 5) (oC (.int 0)) aC) (oC (.str "look")) aH)) (ob (o2 (oV 3) (oC (.int 3)) aH))) (bS 5 (os (ac (oC (.str "swing")) (ac (o2 (oV 5) (oC (.int 1)) aC) (ao))) be)) (cR)) (sSeq (bS 3 (o2 (oV 3) (os (ac (o2 (o2 (oV 5) (oC (.int 0)) aC) (oC (.str "look")) aH) (ao)) u9) bL)) (pY 2 (oV 5))))))
noncomputable def gS:Sf:=sSeq (uE 2 (ao)) (sSeq (bS 3 (oC (.int 0))) (sSeq (iQ (oI (oV 0) dc) (gN 4) (da)) (fun δ=>(aS (os (ac (oV 1) (ac (os (ac (oV 2) (ao)) jY) (ao))) be)) (dFz 2 δ))))
noncomputable def cy:List D->Option D:=runB jV 2 gS
abbrev dE:Stmt:=iq 30
abbrev cA:List Str:=["row"]
noncomputable def f9 (G:List D->Option D):Dv->Option D:=hJ (oI (iW (oV 0) (oP (oC (.int 1))) (kZ)) dc) [] sM (os (ac (oV 0) (ac (oC (.str "other")) (ao))) be)
noncomputable def bi (G:List D->Option D):Sf:=sSeq (sIf (ob (o2 (o2 (oV 0) (oC (.int 0)) aC) (oC (.str "where")) aH)) (aS (os (ac (o2 (oV 0) (oC (.int 2)) aC) (ao)) G)) (cR)) (sSeq (sIf (oT (ob (o2 (o2 (oV 0) (oC (.int 0)) aC) (oC (.str "turn")) aH)) (ob (o2 (o2 (oV 0) (oC (.int 0)) aC) (oC (.str "look")) aH))) (aS (os (ac (os (ac (o2 (oV 0) (oC (.int 1)) aC) (ac (oC (.str "hold")) (ao))) be) (ao)) cK)) (cR)) (sSeq (sIf (ob (o2 (o2 (oV 0) (oC (.int 0)) aC) (oC (.str "flip")) aH)) (aS (os (ac (os (ac (o2 (oV 0) (oC (.int 1)) aC) (ac (oC (.str "flip")) (ao))) be) (ao)) cK)) (cR)) (sSeq (sIf (ob (o2 (o2 (oV 0) (oC (.int 0)) aC) (oC (.str "tie")) aH)) (aS (os (ac (os (ac (o2 (oV 0) (oC (.int 1)) aC) (ac (oC (.str "hold")) (ao))) be) (ac (os (ac (o2 (oV 0) (oC (.int 2)) aC) (ac (oC (.str "flip")) (ao))) be) (ao))) cK)) (cR)) (sSeq (sIf (ob (o2 (o2 (oV 0) (oC (.int 0)) aC) (oC (.str "sign")) aH)) (aS (os (ac (os (ac (o2 (oV 0) (oC (.int 1)) aC) (ac (oC (.str "hold")) (ao))) be) (ac (os (ac (o2 (oV 0) (oC (.int 2)) aC) (ac (oC (.str "hold")) (ao))) be) (ao))) cK)) (cR)) (aS (f9 G))))))
noncomputable def bz:Nat->List D->Option D
 | 0=>runB cA 1 (fun _=>none)
 | m+1=>runB cA 1 (bi (bz m))
noncomputable def bA:List D->Option D:=bz 8
abbrev fP:Stmt:=iq 31
abbrev kM:List Str:=["one","other","mark","words","wire","kind","beside","what"]
noncomputable def cx:Sf:=sIf (dF (ob (o2 (oV 4) (oV 6) aH)) (oT (ob (o2 (oV 5) (oV 7) neD)) (ob (o2 (oV 5) (oC (.str "other")) aH)))) (aS (oC (.bool false))) (cR)
noncomputable def dG:Sf:=iQ (oI (os (ac (oV 1) (ao)) bA) dc) (xn [gN 6,gN 7]) (cx)
noncomputable def cq:Sf:=sSeq (bS 3 (os (ac (o2 (oV 0) (oC (.int 0)) aC) (ac (o2 (oV 1) (oC (.int 0)) aC) (ao))) cK)) (sSeq (sIf (ob (o2 (oV 3) (os (ac (oC (.str "look")) (ac (oC (.str "look")) (ao))) cK) aH)) (aS (oC (.bool false))) (cR)) (sSeq (sIf (oT (dF (ob (o2 (oV 3) (os (ac (oC (.str "look")) (ac (oC (.str "where")) (ao))) cK) aH)) (ob (o2 (o2 (oV 1) (oC (.int 1)) aC) (oV 2) aH))) (dF (ob (o2 (oV 3) (os (ac (oC (.str "where")) (ac (oC (.str "look")) (ao))) cK) aH)) (ob (o2 (o2 (oV 0) (oC (.int 1)) aC) (oV 2) aH)))) (aS (oC (.bool false))) (cR)) (sSeq (iQ (oI (os (ac (oV 0) (ao)) bA) dc) (xn [gN 4,gN 5]) (dG)) (aS (oC (.bool true))))))
noncomputable def bu:List D->Option D:=runB kM 3 cq
abbrev b5:Stmt:=iq 32
abbrev du:List Str:=["rows","place"]
noncomputable def eL:Dv->Option D:=fh (oI (iW (oV 0) (kZ) (oP (oV 1))) dc) [] sM (ob (o2 (o2 (oV 0) (oC (.int 0)) aC) (oC (.str "look")) aH)) (oV 0)
noncomputable def dt:Sf:=aS (os (ac (eL) (ao)) cw)
noncomputable def bg:List D->Option D:=runB du 2 dt
abbrev eP:Stmt:=iq 33
abbrev jW:List Str:=["rows","p","q","place"]
noncomputable def db:Sf:=sIf (j5 (ob (os (ac (o2 (oV 0) (oV 1) aC) (ac (o2 (oV 0) (oV 3) aC) (ac (os (ac (oV 0) (ac (oV 3) (ao))) bg) (ao)))) bu))) (aS (oC (.bool false))) (cR)
noncomputable def gU:Sf:=sSeq (iQ (oL (ac (o2 (oV 1) (oC (.int 1)) bL) (ac (oV 2) (ao))) dR) (gN 3) (db)) (aS (oC (.bool true)))
noncomputable def bI:List D->Option D:=runB jW 3 gU
abbrev fL:Stmt:=iq 34
abbrev kJ:List Str:=["one","other"]
noncomputable def dA:Sf:=sSeq (sIf (ob (o2 (o2 (oV 0) (oC (.int 0)) aC) (os (ac (oC (.str "turn")) (ac (oC (.str "look")) (ao))) be) (de false))) (aS (oC (.bool false))) (cR)) (sSeq (sIf (dF (ob (o2 (o2 (oV 0) (oC (.int 0)) aC) (os (ac (oC (.str "sign")) (ac (oC (.str "cross")) (ao))) be) (de false))) (ob (o2 (o2 (oV 0) (oC (.int 0)) aC) (o2 (oV 1) (oC (.int 0)) aC) aH))) (aS (o2 (o1 (iW (oV 0) (oP (oC (.int 1))) (kZ)) cV) (o1 (iW (oV 1) (oP (oC (.int 1))) (kZ)) cV) aH)) (cR)) (aS (o2 (oV 0) (oV 1) aH)))
noncomputable def bK:List D->Option D:=runB kJ 2 dA
abbrev cO:Stmt:=iq 35
abbrev bj:List Str:=["row","wire"]
noncomputable def iE (G:List D->Option D):Dv->Option D:=hJ (oI (os (ac (o2 (oV 0) (oC (.int 2)) aC) (ac (oV 1) (ao))) G) dc) [(0,"row")] sM (os (ac (oC (.str "where")) (ac (o2 (oV 1) (oC (.int 1)) aC) (ac (oV 0) (ao)))) be)
noncomputable def d3 (G:List D->Option D):Dv->Option D:=fh (oI (iW (oV 0) (oP (oC (.int 1))) (kZ)) dc) [(1,"wire")] sM (ob (o2 (oV 0) (oV 1) neD)) (oV 0)
noncomputable def aF (G:List D->Option D):Sf:=sSeq (sIf (ob (o2 (o2 (oV 0) (oC (.int 0)) aC) (oC (.str "where")) aH)) (aS (iE G)) (cR)) (sSeq (sIf (ob (o2 (oV 0) (os (ac (oC (.str "flip")) (ac (oV 1) (ao))) be) aH)) (aS (os (ac (os (ac (oC (.str "turn")) (ac (oV 1) (ac (oC (.int 4)) (ao)))) be) (ao)) cK)) (cR)) (sSeq (sIf (ob (o2 (oV 0) (os (ac (oC (.str "turn")) (ac (oV 1) (ac (oC (.int 4)) (ao)))) be) aH)) (aS (os (ac (os (ac (oC (.str "flip")) (ac (oV 1) (ao))) be) (ao)) cK)) (cR)) (sSeq (sIf (dF (ob (o2 (o2 (oV 0) (oC (.int 0)) aC) (oC (.str "tie")) aH)) (ob (o2 (o2 (oV 0) (oC (.int 2)) aC) (oV 1) aH))) (aS (os (ac (os (ac (oC (.str "sign")) (ac (o2 (oV 0) (oC (.int 1)) aC) (ac (oV 1) (ao)))) be) (ao)) cK)) (cR)) (sSeq (sIf (dF (ob (o2 (o2 (oV 0) (oC (.int 0)) aC) (oC (.str "sign")) aH)) (ob (o2 (oV 1) (iW (oV 0) (oP (oC (.int 1))) (kZ)) (de false)))) (aS (os (ac (os (ac (oC (.str "tie")) (ac (o2 (d3 G) (oC (.int 0)) aC) (ac (oV 1) (ao)))) be) (ao)) cK)) (cR)) (aS (os (ao) cK))))))
noncomputable def aI:Nat->List D->Option D
 | 0=>runB bj 2 (fun _=>none)
 | m+1=>runB bj 2 (aF (aI m))
noncomputable def bW:List D->Option D:=aI 8
abbrev e9:Stmt:=iq 36
abbrev i5:List Str:=["rows","step","p","q","t","place"]
noncomputable def g9:Dv->Option D:=hJ (oI (os (ac (o2 (oV 0) (oV 5) aC) (ao)) bA) dc) [] sM (o2 (oV 0) (oC (.int 0)) aC)
noncomputable def cL:Sf:=sIf (dF (ob (o2 (oV 5) (oV 3) neD)) (ob (o2 (o2 (o2 (oV 0) (oV 2) aC) (oC (.int 1)) aC) (g9) (de false)))) (aS (oC (.bool false))) (cR)
noncomputable def fB:Sf:=sSeq (sAsg (iW (oV 1) (oP (oC (.int 1))) (oP (oC (.int 3)))) (xn [gN 2,gN 3])) (sSeq (sIf (ob (o2 (o2 (oV 1) (oC (.int 0)) aC) (oC (.str "gone")) aH)) (aS (gw (os (ac (o2 (oV 0) (oV 2) aC) (ac (o2 (oV 0) (oV 3) aC) (ao))) bK) (os (ac (oV 0) (ac (oV 2) (ac (oV 3) (ao)))) bI))) (cR)) (sSeq (sIf (ob (o2 (o2 (oV 1) (oC (.int 0)) aC) (oC (.str "joined")) aH)) (aS (gw (o2 (o2 (o2 (oV 0) (oV 2) aC) (oC (.int 0)) aC) (oC (.str "turn")) aH) (gw (o2 (iW (o2 (oV 0) (oV 3) aC) (kZ) (oP (oC (.int 2)))) (iW (o2 (oV 0) (oV 2) aC) (kZ) (oP (oC (.int 2)))) aH) (os (ac (oV 0) (ac (oV 2) (ac (oV 3) (ao)))) bI)))) (cR)) (sSeq (bS 4 (o2 (oV 1) (oC (.int 3)) aC)) (sSeq (sIf (oT (ob (o2 (o2 (o2 (oV 0) (oV 2) aC) (oC (.int 0)) aC) (oC (.str "swing")) neD)) (oT (ob (o2 (o2 (oV 0) (oV 2) aC) (o2 (oV 0) (oV 4) aC) neD)) (ob (o2 (os (ac (o2 (oV 0) (oV 3) aC) (ac (o2 (o2 (oV 0) (oV 2) aC) (oC (.int 1)) aC) (ao))) bW) (os (ao) cK) aH)))) (aS (oC (.bool false))) (cR)) (sSeq (iQ (oL (ac (o2 (oV 2) (oC (.int 1)) bL) (ac (oV 4) (ao))) dR) (gN 5) (cL)) (aS (oC (.bool true))))))))
noncomputable def bn:List D->Option D:=runB i5 2 fB
abbrev cP:Stmt:=iq 37
abbrev eU:List Str:=["rows","found","many","p","q"]
noncomputable def f8:Dv->Option D:=hJ (oL (ac (o2 (oV 4) (oC (.int 1)) bL) (ac (oV 2) (ao))) dR) [(3,"p"),(4,"q")] sM (os (ac (oC (.str "swung")) (ac (oV 1) (ac (oV 2) (ac (oV 0) (ao))))) be)
noncomputable def f7:Dv->Option D:=fh (oI (oV 1) dc) [(0,"rows")] sM (ob (os (ac (oV 1) (ac (oV 0) (ao))) bn)) (oV 0)
noncomputable def cZ:Sf:=sSeq (pY 1 (os (ac (oC (.str "gone")) (ac (oV 3) (ac (oV 4) (ao)))) be)) (sSeq (pY 1 (os (ac (oC (.str "joined")) (ac (oV 3) (ac (oV 4) (ao)))) be)) (sIf (ob (o2 (o2 (o2 (oV 0) (oV 3) aC) (oC (.int 0)) aC) (oC (.str "swing")) aH)) (ti 1 (f8)) (cR)))
noncomputable def cY:Sf:=iQ (oL (ac (o2 (oV 3) (oC (.int 1)) bL) (ac (oV 2) (ao))) dR) (gN 4) (cZ)
noncomputable def gR:Sf:=sSeq (uE 1 (ao)) (sSeq (bS 2 (os (ac (oV 0) (ao)) cw)) (sSeq (iQ (oL (ac (oV 2) (ao)) d8) (gN 3) (cY)) (fun δ=>(aS (o1 (f7) cV)) (dFz 1 δ))))
noncomputable def bH:List D->Option D:=runB eU 1 gR
abbrev fN:Stmt:=iq 38
abbrev kL:List Str:=["circuit","step","rows","p","q","eighths","t"]
noncomputable def eB:Sf:=sSeq (bS 2 (os (ac (o2 (oV 0) (oC (.int 1)) aC) (ao)) tL)) (sSeq (sAsg (iW (oV 1) (oP (oC (.int 1))) (oP (oC (.int 3)))) (xn [gN 3,gN 4])) (sSeq (sIf (ob (o2 (o2 (oV 1) (oC (.int 0)) aC) (oC (.str "gone")) aH)) (bS 2 (o2 (o2 (iW (oV 2) (kZ) (oP (oV 3))) (iW (oV 2) (oP (o2 (oV 3) (oC (.int 1)) bL)) (oP (oV 4))) bL) (iW (oV 2) (oP (o2 (oV 4) (oC (.int 1)) bL)) (kZ)) bL)) (sIf (ob (o2 (o2 (oV 1) (oC (.int 0)) aC) (oC (.str "joined")) aH)) (sSeq (bS 5 (o2 (o2 (o2 (o2 (oV 2) (oV 3) aC) (oC (.int 2)) aC) (o2 (o2 (oV 2) (oV 4) aC) (oC (.int 2)) aC) bL) (oC (.int 8)) cH)) (bS 2 (o2 (o2 (o2 (iW (oV 2) (kZ) (oP (oV 3))) (iW (oV 2) (oP (o2 (oV 3) (oC (.int 1)) bL)) (oP (oV 4))) bL) (iW (os (ac (os (ac (oC (.str "turn")) (ac (o2 (o2 (oV 2) (oV 4) aC) (oC (.int 1)) aC) (ac (oV 5) (ao)))) be) (ao)) cK) (kZ) (oP (oV 5))) bL) (iW (oV 2) (oP (o2 (oV 4) (oC (.int 1)) bL)) (kZ)) bL))) (sSeq (bS 6 (o2 (oV 1) (oC (.int 3)) aC)) (bS 2 (o2 (o2 (o2 (o2 (iW (oV 2) (kZ) (oP (oV 3))) (iW (oV 2) (oP (o2 (oV 3) (oC (.int 1)) bL)) (oP (oV 4))) bL) (os (ac (o2 (oV 2) (oV 4) aC) (ac (o2 (o2 (oV 2) (oV 3) aC) (oC (.int 1)) aC) (ao))) bW) bL) (iW (oV 2) (oP (o2 (oV 4) (oC (.int 1)) bL)) (oP (oV 6))) bL) (iW (oV 2) (oP (o2 (oV 6) (oC (.int 1)) bL)) (kZ)) bL))))) (aS (os (ac (o2 (oV 0) (oC (.int 0)) aC) (ac (os (ac (oV 2) (ao)) jY) (ao))) be))))
noncomputable def bC:List D->Option D:=runB kL 2 eB
abbrev cQ:Stmt:=iq 39
abbrev gB:List Str:=["step","rows","last","place"]
noncomputable def bN:Sf:=sSeq (sIf (oT (j5 (ob (o1 (oV 3) (cT "int")))) (oT (ob (o1 (oV 3) (cT "bool"))) (oT (ob (o2 (oV 3) (oV 2) IR)) (ob (o2 (oV 3) (os (ac (oV 1) (ao)) cw) CB))))) (aS (oC (.bool false))) (cR)) (bS 2 (oV 3))
noncomputable def dY:Sf:=sSeq (sIf (oT (j5 (ob (o1 (oV 0) (cT "tuple")))) (oT (ob (o2 (os (ac (oV 0) (ao)) cw) (oC (.int 3)) qy)) (ob (o2 (o2 (oV 0) (oC (.int 0)) aC) (os (ac (oC (.str "gone")) (ac (oC (.str "joined")) (ac (oC (.str "swung")) (ao)))) cK) (de true))))) (aS (oC (.bool false))) (cR)) (sSeq (sIf (ob (o2 (os (ac (oV 0) (ao)) cw) (o2 (oC (.int 3)) (os (ac (o2 (o2 (oV 0) (oC (.int 0)) aC) (oC (.str "swung")) aH) (ao)) u9) bL) neD)) (aS (oC (.bool false))) (cR)) (sSeq (bS 2 (o1 (oC (.int 1)) negD)) (sSeq (iQ (oI (iW (oV 0) (oP (oC (.int 1))) (kZ)) dc) (gN 3) (bN)) (aS (os (ac (oV 1) (ac (oV 0) (ao))) bn)))))
noncomputable def bw:List D->Option D:=runB gB 2 dY
abbrev gG:Stmt:=iq 40
abbrev mN:List Str:=["found","circuit","here","step","ahead"]
noncomputable def eh:Sf:=sSeq (sIf (j5 (ob (os (ac (oV 3) (ac (o2 (oV 2) (oC (.int 1)) aC) (ao))) bw))) (aS (oC .none)) (cR)) (sSeq (bS 4 (os (ac (o2 (oV 2) (oC (.int 1)) aC) (ao)) cw)) (sSeq (bS 2 (os (ac (oV 2) (ac (oV 3) (ao))) bC)) (sIf (ob (o2 (os (ac (o2 (oV 2) (oC (.int 1)) aC) (ao)) cw) (oV 4) CB)) (aS (oC .none)) (cR))))
noncomputable def i3:Sf:=sSeq (sIf (oT (j5 (ob (o1 (oV 0) (cT "tuple")))) (oT (ob (o2 (os (ac (oV 0) (ao)) cw) (oC (.int 2)) neD)) (j5 (ob (o1 (o2 (oV 0) (oC (.int 0)) aC) (cT "list")))))) (aS (oC .none)) (cR)) (sSeq (bS 2 (oV 1)) (sSeq (iQ (oI (o2 (oV 0) (oC (.int 0)) aC) dc) (gN 3) (eh)) (sSeq (sIf (oT (j5 (ob (os (ac (o2 (oV 0) (oC (.int 1)) aC) (ac (oV 2) (ao))) cm))) (ob (o2 (os (ac (o2 (oV 2) (oC (.int 1)) aC) (ao)) bH) (os (ao) cK) neD))) (aS (oC .none)) (cR)) (aS (oV 2)))))
noncomputable def cM:List D->Option D:=runB mN 2 i3
abbrev jk:Stmt:=iq 41
abbrev Bn:List Str:=["script","circuit","turn","found","here","again"]
noncomputable def md:Sf:=sSeq (bS 3 (os (ac (os (ac (o2 (oV 1) (oC (.int 0)) aC) (ac (o2 (oV 1) (oC (.int 1)) aC) (ao))) be) (ao)) bX)) (sSeq (bS 4 (os (ac (oV 3) (ac (oV 1) (ao))) cM)) (sSeq (sIf (ob (o2 (oV 4) (oC .none) isD)) (aS (oC (.bool false))) (cR)) (sSeq (vU 3 (os (ac (oC (.str "gone")) (ac (oC (.int 0)) (ac (oC (.int 0)) (ao)))) be)) (cR))))
noncomputable def xN:Sf:=sSeq (bS 1 (os (ac (iW (oV 0) (oP (oC (.int 2))) (oP (oC (.int 16)))) (ac (o2 (oC (.int 1)) (o2 (os (ac (oV 0) (ac (oC (.int 0)) (ao))) cn) (oC (.int 4)) cH) bL) (ao))) cy)) (fun δ=>(sSeq (iQ (oL (ac (oC (.int 2)) (ao)) d8) (gN 2) (md)) (sSeq (bS 5 (os (ac (oV 4) (ao)) bX)) (aS (gw (o2 (o2 (oV 5) (oC (.int 0)) aC) (os (ao) cK) aH) (os (ac (o2 (oV 5) (oC (.int 1)) aC) (ac (oV 4) (ao))) cm))))) (vq δ))
noncomputable def qN:List D->Option D:=runB Bn 1 xN
open MA (Row)
inductive Rw where
 | pl (r:Row) | look (j:Nat) | wflip (m j:Nat) | wsign (m j:Nat)
noncomputable def rowD:Row->D
 | .swing j=>.tuple [.str "swing",.int j]
 | .turn j e=>.tuple [.str "turn",.int j,.int e]
 | .flip j=>.tuple [.str "flip",.int j]
 | .tie i j=>.tuple [.str "tie",.int i,.int j]
 | .sign i j=>.tuple [.str "sign",.int i,.int j]
 | .cross i j=>.tuple [.str "cross",.int i,.int j]
noncomputable def rwD:Rw->D
 | .pl r=>rowD r
 | .look j=>.tuple [.str "look",.int j]
 | .wflip m j=>.tuple [.str "where",.int m,.tuple [.str "flip",.int j]]
 | .wsign m j=>.tuple [.str "where",.int m,.tuple [.str "turn",.int j,.int 4]]
def Rw.ok (w l:Nat):Rw->Prop
 | .pl r=>r.ok w
 | .look j=>j<w/\l<6
 | .wflip m j=>m<l/\j<w
 | .wsign m j=>m<l/\j<w
noncomputable def Rw.isLook:Rw->Bool
 | .look _=>true
 | _=>false
noncomputable def Rw.isPl:Rw->Bool
 | .pl _=>true
 | _=>false
noncomputable def iw (a:Str):Bool:=kU (.str a)
theorem cS {a b:Str} (ha:iw a=true) (hb:iw b=true):aH (.str a) (.str b)=some (.bool (a==b)):=if_pos ⟨ha,hb⟩
theorem G8 {a b:Str} (ha:iw a=true) (hb:iw b=true):neD (.str a) (.str b)=some (.bool (!(a==b))):=if_pos ⟨ha,hb⟩
theorem aU:iw "swing" = true:=by decide +kernel
theorem aO:iw "turn" = true:=by decide +kernel
theorem aP:iw "flip" = true:=by decide +kernel
theorem bD:iw "tie" = true:=by decide +kernel
theorem bo:iw "sign" = true:=by decide +kernel
theorem bE:iw "cross" = true:=by decide +kernel
theorem aT:iw "look" = true:=by decide +kernel
theorem aZ:iw "where" = true:=by decide +kernel
@[simp] theorem wW:aH (.str "swing") (.str "swing")=some (.bool true):=(cS aU aU).trans (congrArg (fun z=>some (PyData.bool z)) (show (("swing":Str)==("swing":Str))=true by decide +kernel))
@[simp] theorem x5:aH (.str "swing") (.str "turn")=some (.bool false):=(cS aU aO).trans (congrArg (fun z=>some (PyData.bool z)) (show (("swing":Str)==("turn":Str))=false by decide +kernel))
@[simp] theorem ya:aH (.str "swing") (.str "flip")=some (.bool false):=(cS aU aP).trans (congrArg (fun z=>some (PyData.bool z)) (show (("swing":Str)==("flip":Str))=false by decide +kernel))
@[simp] theorem zS:aH (.str "swing") (.str "tie")=some (.bool false):=(cS aU bD).trans (congrArg (fun z=>some (PyData.bool z)) (show (("swing":Str)==("tie":Str))=false by decide +kernel))
@[simp] theorem x8:aH (.str "swing") (.str "sign")=some (.bool false):=(cS aU bo).trans (congrArg (fun z=>some (PyData.bool z)) (show (("swing":Str)==("sign":Str))=false by decide +kernel))
@[simp] theorem x9:aH (.str "swing") (.str "look")=some (.bool false):=(cS aU aT).trans (congrArg (fun z=>some (PyData.bool z)) (show (("swing":Str)==("look":Str))=false by decide +kernel))
@[simp] theorem wV:aH (.str "swing") (.str "where")=some (.bool false):=(cS aU aZ).trans (congrArg (fun z=>some (PyData.bool z)) (show (("swing":Str)==("where":Str))=false by decide +kernel))
@[simp] theorem x4:aH (.str "turn") (.str "swing")=some (.bool false):=(cS aO aU).trans (congrArg (fun z=>some (PyData.bool z)) (show (("turn":Str)==("swing":Str))=false by decide +kernel))
@[simp] theorem zM:aH (.str "turn") (.str "turn")=some (.bool true):=(cS aO aO).trans (congrArg (fun z=>some (PyData.bool z)) (show (("turn":Str)==("turn":Str))=true by decide +kernel))
@[simp] theorem zP:aH (.str "turn") (.str "flip")=some (.bool false):=(cS aO aP).trans (congrArg (fun z=>some (PyData.bool z)) (show (("turn":Str)==("flip":Str))=false by decide +kernel))
@[simp] theorem A5:aH (.str "turn") (.str "tie")=some (.bool false):=(cS aO bD).trans (congrArg (fun z=>some (PyData.bool z)) (show (("turn":Str)==("tie":Str))=false by decide +kernel))
@[simp] theorem zN:aH (.str "turn") (.str "sign")=some (.bool false):=(cS aO bo).trans (congrArg (fun z=>some (PyData.bool z)) (show (("turn":Str)==("sign":Str))=false by decide +kernel))
@[simp] theorem zO:aH (.str "turn") (.str "look")=some (.bool false):=(cS aO aT).trans (congrArg (fun z=>some (PyData.bool z)) (show (("turn":Str)==("look":Str))=false by decide +kernel))
@[simp] theorem xZ:aH (.str "turn") (.str "where")=some (.bool false):=(cS aO aZ).trans (congrArg (fun z=>some (PyData.bool z)) (show (("turn":Str)==("where":Str))=false by decide +kernel))
@[simp] theorem yg:aH (.str "flip") (.str "swing")=some (.bool false):=(cS aP aU).trans (congrArg (fun z=>some (PyData.bool z)) (show (("flip":Str)==("swing":Str))=false by decide +kernel))
@[simp] theorem z9:aH (.str "flip") (.str "turn")=some (.bool false):=(cS aP aO).trans (congrArg (fun z=>some (PyData.bool z)) (show (("flip":Str)==("turn":Str))=false by decide +kernel))
@[simp] theorem Ac:aH (.str "flip") (.str "flip")=some (.bool true):=(cS aP aP).trans (congrArg (fun z=>some (PyData.bool z)) (show (("flip":Str)==("flip":Str))=true by decide +kernel))
@[simp] theorem Bc:aH (.str "flip") (.str "tie")=some (.bool false):=(cS aP bD).trans (congrArg (fun z=>some (PyData.bool z)) (show (("flip":Str)==("tie":Str))=false by decide +kernel))
@[simp] theorem Aa:aH (.str "flip") (.str "sign")=some (.bool false):=(cS aP bo).trans (congrArg (fun z=>some (PyData.bool z)) (show (("flip":Str)==("sign":Str))=false by decide +kernel))
@[simp] theorem Ab:aH (.str "flip") (.str "look")=some (.bool false):=(cS aP aT).trans (congrArg (fun z=>some (PyData.bool z)) (show (("flip":Str)==("look":Str))=false by decide +kernel))
@[simp] theorem yf:aH (.str "flip") (.str "where")=some (.bool false):=(cS aP aZ).trans (congrArg (fun z=>some (PyData.bool z)) (show (("flip":Str)==("where":Str))=false by decide +kernel))
@[simp] theorem zR:aH (.str "tie") (.str "swing")=some (.bool false):=(cS bD aU).trans (congrArg (fun z=>some (PyData.bool z)) (show (("tie":Str)==("swing":Str))=false by decide +kernel))
@[simp] theorem A6:aH (.str "tie") (.str "turn")=some (.bool false):=(cS bD aO).trans (congrArg (fun z=>some (PyData.bool z)) (show (("tie":Str)==("turn":Str))=false by decide +kernel))
@[simp] theorem A9:aH (.str "tie") (.str "flip")=some (.bool false):=(cS bD aP).trans (congrArg (fun z=>some (PyData.bool z)) (show (("tie":Str)==("flip":Str))=false by decide +kernel))
@[simp] theorem Ca:aH (.str "tie") (.str "tie")=some (.bool true):=(cS bD bD).trans (congrArg (fun z=>some (PyData.bool z)) (show (("tie":Str)==("tie":Str))=true by decide +kernel))
@[simp] theorem A7:aH (.str "tie") (.str "sign")=some (.bool false):=(cS bD bo).trans (congrArg (fun z=>some (PyData.bool z)) (show (("tie":Str)==("sign":Str))=false by decide +kernel))
@[simp] theorem A8:aH (.str "tie") (.str "look")=some (.bool false):=(cS bD aT).trans (congrArg (fun z=>some (PyData.bool z)) (show (("tie":Str)==("look":Str))=false by decide +kernel))
@[simp] theorem zQ:aH (.str "tie") (.str "where")=some (.bool false):=(cS bD aZ).trans (congrArg (fun z=>some (PyData.bool z)) (show (("tie":Str)==("where":Str))=false by decide +kernel))
@[simp] theorem yc:aH (.str "sign") (.str "swing")=some (.bool false):=(cS bo aU).trans (congrArg (fun z=>some (PyData.bool z)) (show (("sign":Str)==("swing":Str))=false by decide +kernel))
@[simp] theorem zT:aH (.str "sign") (.str "turn")=some (.bool false):=(cS bo aO).trans (congrArg (fun z=>some (PyData.bool z)) (show (("sign":Str)==("turn":Str))=false by decide +kernel))
@[simp] theorem zW:aH (.str "sign") (.str "flip")=some (.bool false):=(cS bo aP).trans (congrArg (fun z=>some (PyData.bool z)) (show (("sign":Str)==("flip":Str))=false by decide +kernel))
@[simp] theorem Ba:aH (.str "sign") (.str "tie")=some (.bool false):=(cS bo bD).trans (congrArg (fun z=>some (PyData.bool z)) (show (("sign":Str)==("tie":Str))=false by decide +kernel))
@[simp] theorem zU:aH (.str "sign") (.str "sign")=some (.bool true):=(cS bo bo).trans (congrArg (fun z=>some (PyData.bool z)) (show (("sign":Str)==("sign":Str))=true by decide +kernel))
@[simp] theorem zV:aH (.str "sign") (.str "look")=some (.bool false):=(cS bo aT).trans (congrArg (fun z=>some (PyData.bool z)) (show (("sign":Str)==("look":Str))=false by decide +kernel))
@[simp] theorem yb:aH (.str "sign") (.str "where")=some (.bool false):=(cS bo aZ).trans (congrArg (fun z=>some (PyData.bool z)) (show (("sign":Str)==("where":Str))=false by decide +kernel))
@[simp] theorem wY:aH (.str "cross") (.str "swing")=some (.bool false):=(cS bE aU).trans (congrArg (fun z=>some (PyData.bool z)) (show (("cross":Str)==("swing":Str))=false by decide +kernel))
@[simp] theorem yh:aH (.str "cross") (.str "turn")=some (.bool false):=(cS bE aO).trans (congrArg (fun z=>some (PyData.bool z)) (show (("cross":Str)==("turn":Str))=false by decide +kernel))
@[simp] theorem yk:aH (.str "cross") (.str "flip")=some (.bool false):=(cS bE aP).trans (congrArg (fun z=>some (PyData.bool z)) (show (("cross":Str)==("flip":Str))=false by decide +kernel))
@[simp] theorem Ad:aH (.str "cross") (.str "tie")=some (.bool false):=(cS bE bD).trans (congrArg (fun z=>some (PyData.bool z)) (show (("cross":Str)==("tie":Str))=false by decide +kernel))
@[simp] theorem yi:aH (.str "cross") (.str "sign")=some (.bool false):=(cS bE bo).trans (congrArg (fun z=>some (PyData.bool z)) (show (("cross":Str)==("sign":Str))=false by decide +kernel))
@[simp] theorem wZ:aH (.str "cross") (.str "cross")=some (.bool true):=(cS bE bE).trans (congrArg (fun z=>some (PyData.bool z)) (show (("cross":Str)==("cross":Str))=true by decide +kernel))
@[simp] theorem yj:aH (.str "cross") (.str "look")=some (.bool false):=(cS bE aT).trans (congrArg (fun z=>some (PyData.bool z)) (show (("cross":Str)==("look":Str))=false by decide +kernel))
@[simp] theorem wX:aH (.str "cross") (.str "where")=some (.bool false):=(cS bE aZ).trans (congrArg (fun z=>some (PyData.bool z)) (show (("cross":Str)==("where":Str))=false by decide +kernel))
@[simp] theorem ye:aH (.str "look") (.str "swing")=some (.bool false):=(cS aT aU).trans (congrArg (fun z=>some (PyData.bool z)) (show (("look":Str)==("swing":Str))=false by decide +kernel))
@[simp] theorem zX:aH (.str "look") (.str "turn")=some (.bool false):=(cS aT aO).trans (congrArg (fun z=>some (PyData.bool z)) (show (("look":Str)==("turn":Str))=false by decide +kernel))
@[simp] theorem z8:aH (.str "look") (.str "flip")=some (.bool false):=(cS aT aP).trans (congrArg (fun z=>some (PyData.bool z)) (show (("look":Str)==("flip":Str))=false by decide +kernel))
@[simp] theorem Bb:aH (.str "look") (.str "tie")=some (.bool false):=(cS aT bD).trans (congrArg (fun z=>some (PyData.bool z)) (show (("look":Str)==("tie":Str))=false by decide +kernel))
@[simp] theorem zY:aH (.str "look") (.str "sign")=some (.bool false):=(cS aT bo).trans (congrArg (fun z=>some (PyData.bool z)) (show (("look":Str)==("sign":Str))=false by decide +kernel))
@[simp] theorem zZ:aH (.str "look") (.str "look")=some (.bool true):=(cS aT aT).trans (congrArg (fun z=>some (PyData.bool z)) (show (("look":Str)==("look":Str))=true by decide +kernel))
@[simp] theorem yd:aH (.str "look") (.str "where")=some (.bool false):=(cS aT aZ).trans (congrArg (fun z=>some (PyData.bool z)) (show (("look":Str)==("where":Str))=false by decide +kernel))
@[simp] theorem wU:aH (.str "where") (.str "swing")=some (.bool false):=(cS aZ aU).trans (congrArg (fun z=>some (PyData.bool z)) (show (("where":Str)==("swing":Str))=false by decide +kernel))
@[simp] theorem xX:aH (.str "where") (.str "turn")=some (.bool false):=(cS aZ aO).trans (congrArg (fun z=>some (PyData.bool z)) (show (("where":Str)==("turn":Str))=false by decide +kernel))
@[simp] theorem xY:aH (.str "where") (.str "look")=some (.bool false):=(cS aZ aT).trans (congrArg (fun z=>some (PyData.bool z)) (show (("where":Str)==("look":Str))=false by decide +kernel))
@[simp] theorem wT:aH (.str "where") (.str "where")=some (.bool true):=(cS aZ aZ).trans (congrArg (fun z=>some (PyData.bool z)) (show (("where":Str)==("where":Str))=true by decide +kernel))
@[simp] theorem Dl:de false (.str "swing") (.tuple [.str "swing",.str "turn",.str "flip",.str "tie",.str "sign",.str "cross"])=some (.bool true):=by rfl
@[simp] theorem Dh:de false (.str "swing") (.tuple [.str "tie",.str "sign",.str "cross"])=some (.bool false):=by rfl
@[simp] theorem EX:de false (.str "turn") (.tuple [.str "swing",.str "turn",.str "flip",.str "tie",.str "sign",.str "cross"])=some (.bool true):=by rfl
@[simp] theorem ER:de false (.str "turn") (.tuple [.str "tie",.str "sign",.str "cross"])=some (.bool false):=by rfl
@[simp] theorem E1:de false (.str "flip") (.tuple [.str "swing",.str "turn",.str "flip",.str "tie",.str "sign",.str "cross"])=some (.bool true):=by rfl
@[simp] theorem EU:de false (.str "flip") (.tuple [.str "tie",.str "sign",.str "cross"])=some (.bool false):=by rfl
@[simp] theorem Ga:de false (.str "tie") (.tuple [.str "swing",.str "turn",.str "flip",.str "tie",.str "sign",.str "cross"])=some (.bool true):=by rfl
@[simp] theorem F9:de false (.str "tie") (.tuple [.str "tie",.str "sign",.str "cross"])=some (.bool true):=by rfl
@[simp] theorem EY:de false (.str "sign") (.tuple [.str "swing",.str "turn",.str "flip",.str "tie",.str "sign",.str "cross"])=some (.bool true):=by rfl
@[simp] theorem ES:de false (.str "sign") (.tuple [.str "tie",.str "sign",.str "cross"])=some (.bool true):=by rfl
@[simp] theorem Dm:de false (.str "cross") (.tuple [.str "swing",.str "turn",.str "flip",.str "tie",.str "sign",.str "cross"])=some (.bool true):=by rfl
@[simp] theorem Di:de false (.str "cross") (.tuple [.str "tie",.str "sign",.str "cross"])=some (.bool true):=by rfl
@[simp] theorem EZ:de false (.str "look") (.tuple [.str "swing",.str "turn",.str "flip",.str "tie",.str "sign",.str "cross"])=some (.bool false):=by rfl
@[simp] theorem ET:de false (.str "look") (.tuple [.str "tie",.str "sign",.str "cross"])=some (.bool false):=by rfl
@[simp] theorem Dk:de false (.str "where") (.tuple [.str "swing",.str "turn",.str "flip",.str "tie",.str "sign",.str "cross"])=some (.bool false):=by rfl
@[simp] theorem Dg:de false (.str "where") (.tuple [.str "tie",.str "sign",.str "cross"])=some (.bool false):=by rfl
theorem wH (c:Int):∃ T:Nat,bt [.int c,.int 2147483647]=some (.int T):=by
 have h0:0<=c % 1000003:=Int.emod_nonneg _ (by decide)
 have h1:c % 1000003<1000003:=Int.emod_lt_of_pos _ (by decide)
 have m:IntMulOk (c % 1000003+11) (c % 1000003+48271):=.of_left (Nat.le_trans (MA.ui (m:=21) (by omega)) (by decide))
 have h2:0<=(c % 1000003+11)*(c % 1000003+48271) % 2147483647:=Int.emod_nonneg _ (by decide)
 refine ⟨((c % 1000003+11)*(c % 1000003+48271) % 2147483647).toNat,?_⟩
 rw [Int.toNat_of_nonneg h2]
 simp [-sSeq,-sIf,ag,aq,bt,runB,fX,aj,m]
theorem Ea (m:Int) (h1:7<m) (h2:m<13):∃ s:Str,kr [PyData.str "tie",.str "sign",.str "cross",.str "tie",.str "sign"] (m-8)=some (.str s)/\(s = "tie" \/ s = "sign" \/ s = "cross"):=by
 have:m=8\/m=9\/m=10\/m=11\/m=12:=by omega
 rcases this with h | h | h | h | h <;> subst h
 ·exact ⟨"tie",at0 _ _,.inl rfl⟩
 ·exact ⟨"sign",at1 _ _ _,.inr (.inl rfl)⟩
 ·exact ⟨"cross",CY _ _ _ _,.inr (.inr rfl)⟩
 ·exact ⟨"tie",Jz _ _ _ _ _,.inl rfl⟩
 ·exact ⟨"sign",Jy _ _ _ _ _ _,.inr (.inl rfl)⟩
section
variable (c w l T j t i mx q:Int) (hm0:0<=c % 16) (hm1:c % 16<16) (hT:bt [.int c,.int 2147483647]=some (.int T)) (hj:cH (.int (T / 7 / 16)) (.int w)=some (.int j)) (hx:r6 [.int 1,.int (w-1)]=some (.int mx)) (ht:cH (.int (T / 7 / 96)) (.int mx)=some (.int t)) (hi:cH (.int (j+1+t)) (.int w)=some (.int i))
include hT hj hx ht hi
theorem r8 (p:Bool) (h:c % 16<4):aR [.int c,.int w,.int l,.bool p]=some (.tuple [.str "swing",.int j]):=by
 simp [-sSeq,-sIf,ag,aq,-cX,aR,runB,b7,aj,hT,hj,hx,ht,hi,h]
theorem uS (p:Bool) (h:¬ c % 16<4) (h2:c % 16<7):aR [.int c,.int w,.int l,.bool p]=some (.tuple [.str "turn",.int j,.int (1+T / 7 / 600 % 7)]):=by
 simp [-sSeq,-sIf,ag,aq,-cX,aR,runB,b7,aj,hT,hj,hx,ht,hi,h,h2]
theorem wJ (p:Bool) (h:¬ c % 16<4) (h2:¬ c % 16<7) (h3:7<c % 16) (h4:c % 16<13) (h5:1<w) (s:D) (hs:kr [PyData.str "tie",.str "sign",.str "cross",.str "tie",.str "sign"] (c % 16-8)=some s):aR [.int c,.int w,.int l,.bool p]=some (.tuple [s,.int i,.int j]):=by
 simp [-sSeq,-sIf,ag,aq,-cX,aR,runB,b7,aj,hT,hj,hx,ht,hi,h,h2,h3,h4,h5,uP,hs]
theorem uU (p:Bool) (h:¬ c % 16<4) (h2:¬ c % 16<7) (h3:¬ (7<c % 16/\c % 16<13/\1<w)) (h4:c % 16=7\/p=true):aR [.int c,.int w,.int l,.bool p]=some (.tuple [.str "flip",.int j]):=by
 by_cases a:7<c % 16
 ·by_cases b:c % 16<13
  ·have d:¬ 1<w:=fun z=>h3 ⟨a,b,z⟩
   have e:¬ c % 16=7:=by omega
   have f:p=true:=by rcases h4 with z | z; exact absurd z e; exact z
   simp [-sSeq,-sIf,ag,aq,-cX,aR,runB,b7,aj,hT,hj,hx,ht,hi,h,h2,a,b,d,e,f,uP]
  ·have e:¬ c % 16=7:=by omega
   have f:p=true:=by rcases h4 with z | z; exact absurd z e; exact z
   simp [-sSeq,-sIf,ag,aq,-cX,aR,runB,b7,aj,hT,hj,hx,ht,hi,h,h2,a,b,e,f,uP]
 ·have e:c % 16=7:=by omega
  simp [-sSeq,-sIf,ag,aq,-cX,aR,runB,b7,aj,hT,hj,hx,ht,hi,e,uP]
theorem uT (h:¬ c % 16<4) (h2:¬ c % 16<7) (h3:¬ (7<c % 16/\c % 16<13/\1<w)) (h4:¬ c % 16=7) (h5:l<6) (h6:c % 16<14\/l=0):aR [.int c,.int w,.int l,.bool false]=some (.tuple [.str "look",.int j]):=by
 have a:7<c % 16:=by omega
 have k:(dF (ob (uP (oC (.int 7)) (o2 (oV 0) (oC (.int 16)) cH) (oC (.int 13)) qy qy)) (ob (o2 (oV 1) (oC (.int 1)) Gf))) [.fz (.int c),.fz (.int w),.fz (.int l),.fz (.bool false),.fz (.int (T / 7)),.fz (.int j),.fz (.int i)]=some false:=by
  by_cases b:c % 16<13
  ·have d:¬ 1<w:=fun z=>h3 ⟨a,b,z⟩
   simp [uP,a,b,d]
  ·simp [uP,a,b]
 rcases h6 with z | z
 ·simp [-sSeq,-sIf,ag,aq,-dF,-cX,aR,runB,b7,aj,hT,hj,hx,ht,hi,h,h2,k,h4]
  simp [h5,z]
 ·simp [-sSeq,-sIf,ag,aq,-dF,-cX,aR,runB,b7,aj,hT,hj,hx,ht,hi,h,h2,k,h4]
  simp [h5,z]
theorem lV (h:¬ c % 16<4) (h2:¬ c % 16<7) (h3:¬ (7<c % 16/\c % 16<13/\1<w)) (h4:¬ c % 16=7) (h5:¬ (l<6/\(c % 16<14\/l=0))) (h6:¬ l=0) (hq:cH (.int (T / 7 / 4200)) (.int l)=some (.int q)) (s:D) (hs:kr [PyData.tuple [.str "flip",.int j],.tuple [.str "turn",.int j,.int 4]] (T / 7 / 29400 % 2)=some s):aR [.int c,.int w,.int l,.bool false]=some (.tuple [.str "where",.int q,s]):=by
 have a:7<c % 16:=by omega
 have k:(dF (ob (uP (oC (.int 7)) (o2 (oV 0) (oC (.int 16)) cH) (oC (.int 13)) qy qy)) (ob (o2 (oV 1) (oC (.int 1)) Gf))) [.fz (.int c),.fz (.int w),.fz (.int l),.fz (.bool false),.fz (.int (T / 7)),.fz (.int j),.fz (.int i)]=some false:=by
  by_cases b:c % 16<13
  ·have d:¬ 1<w:=fun z=>h3 ⟨a,b,z⟩
   simp [uP,a,b,d]
  ·simp [uP,a,b]
 have k2:(dF (ob (o2 (oV 2) (oC (.int 6)) qy)) (oT (ob (o2 (o2 (oV 0) (oC (.int 16)) cH) (oC (.int 14)) qy)) (ob (o2 (oV 2) (oC (.int 0)) aH)))) [.fz (.int c),.fz (.int w),.fz (.int l),.fz (.bool false),.fz (.int (T / 7)),.fz (.int j),.fz (.int i)]=some false:=by
  by_cases b:l<6
  ·have d:¬ c % 16<14:=fun z=>h5 ⟨b,.inl z⟩
   simp [b,d,h6]
  ·simp [b]
 have h6':(l==0)=false:=by simpa using h6
 simp [-sSeq,-sIf,ag,aq,-dF,-cX,aR,runB,b7,aj,hT,hj,hx,ht,hi,h,h2,k,k2,h4,h6,h6',hq,hs]
end
theorem zH (c:Int) (w l:Nat) (hw:1<=w) (p:Bool):∃ r:Rw,aR [.int c,.int w,.int l,.bool p]=some (rwD r)/\r.ok w l/\(p=true->r.isPl=true):=by
 obtain ⟨T,hT⟩:=wH c
 have hw0:(0:Int)<w:=by omega
 have a1:=Int.emod_nonneg ((T:Int) / 7 / 16) (show (w:Int)≠0 by omega)
 have a2:=Int.emod_lt_of_pos ((T:Int) / 7 / 16) hw0
 obtain ⟨j,hj⟩:∃ j:Nat,(T:Int) / 7 / 16 % w=j:=⟨((T:Int) / 7 / 16 % w).toNat,by omega⟩
 have ej:=hU (i:=(T:Int) / 7 / 16) hw0
 rw [hj] at ej a1 a2
 obtain ⟨mx,ex,x1,x2,x3⟩:=(⟨_,cX 1 (w-1),by split <;> omega,by split <;> omega,by split <;> omega⟩:∃ m:Int,r6 [.int 1,.int ((w:Int)-1)]=some (.int m)/\1<=m/\(w:Int)-1<=m/\(m=1\/m=w-1))
 have b1:=Int.emod_nonneg ((T:Int) / 7 / 96) (show mx≠0 by omega)
 have b2:=Int.emod_lt_of_pos ((T:Int) / 7 / 96) (show 0<mx by omega)
 have et:=hU (i:=(T:Int) / 7 / 96) (show 0<mx by omega)
 generalize (T:Int) / 7 / 96 % mx=t at *
 have c1:=Int.emod_nonneg ((j:Int)+1+t) (show (w:Int)≠0 by omega)
 have c2:=Int.emod_lt_of_pos ((j:Int)+1+t) hw0
 have ei:=hU (i:=(j:Int)+1+t) hw0
 obtain ⟨i,hi⟩:∃ i:Nat,((j:Int)+1+t) % w=i:=⟨(((j:Int)+1+t) % w).toNat,by omega⟩
 have hij:1<w->i≠j:=fun h1 z=>by
  have:t+1<w:=by omega
  by_cases hh:(j:Int)+1+t<w
  ·rw [Int.emod_eq_of_lt (by omega) hh] at hi; omega
  ·have:((j:Int)+1+t) % w=(j:Int)+1+t-w:=by
    rw [<- Int.sub_emod_right,Int.emod_eq_of_lt (by omega) (by omega)]
   omega
 rw [hi] at ei c1 c2
 have m0:0<=c % 16:=Int.emod_nonneg _ (by decide)
 by_cases h1:c % 16<4
 ·exact ⟨.pl (.swing j),r8 c w l T j t i mx hT ej ex et ei p h1,(show j<w by omega),fun _=>rfl⟩
 by_cases h2:c % 16<7
 ·obtain ⟨e,he⟩:∃ e:Nat,1+(T:Int) / 7 / 600 % 7=e:=⟨(1+(T:Int) / 7 / 600 % 7).toNat,by omega⟩
  have q:=uS c w l T j t i mx hT ej ex et ei p h1 h2
  rw [he] at q
  exact ⟨.pl (.turn j e),q,(show j<w/\1<=e/\e<=7 by omega),fun _=>rfl⟩
 by_cases h3:7<c % 16/\c % 16<13/\(1:Int)<w
 ·obtain ⟨s,hs,h⟩:=Ea (c % 16) h3.1 h3.2.1
  have q:=wJ c w l T j t i mx hT ej ex et ei p h1 h2 h3.1 h3.2.1 h3.2.2 _ hs
  have k:i<w/\j<w/\i≠j:=⟨by omega,by omega,hij (by omega)⟩
  rcases h with rfl | rfl | rfl
  ·exact ⟨.pl (.tie i j),q,k,fun _=>rfl⟩
  ·exact ⟨.pl (.sign i j),q,k,fun _=>rfl⟩
  ·exact ⟨.pl (.cross i j),q,k,fun _=>rfl⟩
 by_cases h4:c % 16=7\/p=true
 ·exact ⟨.pl (.flip j),uU c w l T j t i mx hT ej ex et ei p h1 h2 h3 h4,(show j<w by omega),fun _=>rfl⟩
 have hp:p=false:=by cases p; rfl; exact absurd (.inr rfl) h4
 subst hp
 have h4':¬ c % 16=7:=fun z=>h4 (.inl z)
 by_cases h5:(l:Int)<6/\(c % 16<14\/(l:Int)=0)
 ·exact ⟨.look j,uT c w l T j t i mx hT ej ex et ei h1 h2 h3 h4' h5.1 h5.2,(show j<w/\l<6 by omega),fun z=>(nomatch z)⟩
 have h6:¬ (l:Int)=0:=by omega
 have hq:=hU (i:=(T:Int) / 7 / 4200) (show (0:Int)<l by omega)
 have d1:=Int.emod_nonneg ((T:Int) / 7 / 4200) (show (l:Int)≠0 by omega)
 have d2:=Int.emod_lt_of_pos ((T:Int) / 7 / 4200) (show (0:Int)<l by omega)
 obtain ⟨m,hm⟩:∃ m:Nat,(T:Int) / 7 / 4200 % l=m:=⟨((T:Int) / 7 / 4200 % l).toNat,by omega⟩
 rw [hm] at hq d1 d2
 have k:m<l/\j<w:=by omega
 have:(T:Int) / 7 / 29400 % 2=0\/(T:Int) / 7 / 29400 % 2=1:=by omega
 rcases this with z | z
 ·exact ⟨.wflip m j,lV c w l T j t i mx m hT ej ex et ei h1 h2 h3 h4' h5 h6 hq _ (by rw [z]; exact at0 _ _),k,fun z=>(nomatch z)⟩
 ·exact ⟨.wsign m j,lV c w l T j t i mx m hT ej ex et ei h1 h2 h3 h4' h5 h6 hq _ (by rw [z]; exact at1 _ _ _),k,fun z=>(nomatch z)⟩
@[simp] theorem Gc (u w:Sf) (δ:Dv) (a b:Int):Gd u w δ (a==b)=if a=b then u δ else w δ:=by
 by_cases h:a=b
 ·subst h; simp
 ·have:(a==b)=false:=by simpa using h
  rw [this,if_neg h]; rfl
theorem qw {α:Type} {f:D->Option D} {h k:α -> D}:∀ (xs:List α),(∀ x∈xs,f (h x)=some (k x))->uQ f (xs.map h)=some (xs.map k)
 | [],_=>rfl
 | x::xs,H=>by
  show ((f (h x)).bind fun y=>_)=_
  rw [H x List.mem_cons_self]
  show ((uQ f (xs.map h)).bind fun ys=>_)=_
  rw [qw xs fun y hy=>H y (List.mem_cons_of_mem _ hy)]
  rfl
theorem qP {α:Type} {t:D->Option Bool} {f:D->Option D} {h k:α -> D} {b:α -> Bool}:∀ (xs:List α),(∀ x∈xs,t (h x)=some (b x))->(∀ x∈xs,b x=true->f (h x)=some (k x))->gO t f (xs.map h)=some ((xs.filter b).map k)
 | [],_,_=>rfl
 | x::xs,H,G=>by
  have ih:=qP (k:=k) xs (fun y hy=>H y (List.mem_cons_of_mem _ hy)) (fun y hy=>G y (List.mem_cons_of_mem _ hy))
  show ((t (h x)).bind fun c=>_)=_
  rw [H x List.mem_cons_self,Option.bind_some]
  cases e:b x with
  | false=>simp [e,ih]
  | true=>simp [e,ih,G x List.mem_cons_self e]
theorem fq {α:Type} {fi:Dv->Option (List D)} {caps:List (Nat×Str)} {fe:Dv->Option D} {δ:Dv} {h k:α -> D} {xs:List α} (e:fi δ = some (xs.map h)) (hl:xs.length<=16777216) (H:∀ x∈xs,fe (.fz (h x)::dN δ caps)=some (k x)):hJ fi caps sM fe δ = some (.list (xs.map k)):=by
 unfold hJ
 rw [e,Option.bind_some,if_pos (by rw [List.length_map]; exact hl),qw xs (k:=k) fun x hx=>by
  show fe _=_
  exact H x hx]
 rfl
theorem eY {α:Type} {fi:Dv->Option (List D)} {caps:List (Nat×Str)} {ft:Dv->Option Bool} {fe:Dv->Option D} {δ:Dv} {h k:α -> D} {b:α -> Bool} {xs:List α} (e:fi δ = some (xs.map h)) (hl:xs.length<=16777216) (H:∀ x∈xs,ft (.fz (h x)::dN δ caps)=some (b x)) (G:∀ x∈xs,b x=true->fe (.fz (h x)::dN δ caps)=some (k x)):fh fi caps sM ft fe δ = some (.list ((xs.filter b).map k)):=by
 unfold fh
 rw [e,Option.bind_some,if_pos (by rw [List.length_map]; exact hl),qP xs (b:=b) (k:=k) (fun x hx=>by
  show ft _=_
  exact H x hx) (fun x hx hb=>by
  show fe _=_
  exact G x hx hb)]
 rfl
noncomputable def bR (w:Nat) (rs:List Rw):D:=.tuple [.int w,.tuple (rs.map rwD)]
theorem lW {b:Sf} {k:Nat} (I:Nat->Dv->Prop) (n:Nat) (h:∀ i,i<n->∀ δ,I i δ -> ∃ δ2,b (δ.set k (.fz (.int i)))=some (.nx,δ2)/\I (i+1) δ2):∀ δ,I 0 δ -> ∃ δ',loop (gN k) b (mS 0 n) δ = some (.nx,δ')/\I n δ':=by
 have go:∀ (m i:Nat),i+m=n->∀ δ,I i δ -> ∃ δ',loop (gN k) b ((List.range' i m).map fun (k:Nat)=>PyData.int (0+(k:Int))) δ = some (.nx,δ')/\I n δ':=by
  intro m
  induction m with
  | zero=>intro i e δ h; exact ⟨δ,rfl,by rw [<- e]; exact h⟩
  | succ m ih=>
   intro i e δ hi
   obtain ⟨δ2,e2,h2⟩:=h i (by omega) δ hi
   obtain ⟨δ',e3,h3⟩:=ih (i+1) (by omega) δ2 h2
   refine ⟨δ',?_,h3⟩
   rw [<- e3,List.range'_succ,List.map_cons]
   exact b8 (δ1:=δ.set k (.fz (.int i))) (by simp) e2
 intro δ h0
 have:=go n 0 (by omega) δ h0
 rw [<- List.range_eq_range'] at this
 exact this
theorem lL {a b:Sf} {δ δ1:Dv} (h:a δ = some (.nx,δ1)):sSeq a b δ = b δ1:=by simp [h]
theorem zw:iw "hold" = true:=by decide +kernel
theorem qf:iw "other" = true:=by decide +kernel
def eR:Rw->Prop
 | .pl (.tie i j)=>i≠j
 | .pl (.sign i j)=>i≠j
 | .pl (.cross i j)=>i≠j
 | _=>True
theorem Am {w l:Nat} {r:Rw} (h:r.ok w l):eR r:=by
 cases r with
 | pl r=>cases r <;> first | exact h.2.2 | exact trivial
 | _=>exact trivial
inductive Kd where
 | hold | flip | other
deriving DecidableEq
noncomputable def Kd.s:Kd->Str
 | .hold=>"hold"
 | .flip=>"flip"
 | .other=>"other"
theorem Kd.ok (k:Kd):iw k.s=true:=by cases k; exact zw; exact aP; exact qf
theorem Kd.beq (a b:Kd):(a.s==b.s)=decide (a=b):=by cases a <;> cases b <;> decide +kernel
noncomputable def kl:Rw->List (Nat×Kd)
 | .pl (.swing j)=>[(j,.other)]
 | .pl (.turn j _)=>[(j,.hold)]
 | .pl (.flip j)=>[(j,.flip)]
 | .pl (.tie i j)=>[(i,.hold),(j,.flip)]
 | .pl (.sign i j)=>[(i,.hold),(j,.hold)]
 | .pl (.cross i j)=>[(i,.other),(j,.other)]
 | .look j=>[(j,.hold)]
 | .wflip _ j=>[(j,.flip)]
 | .wsign _ j=>[(j,.hold)]
noncomputable def nD (p:Nat×Kd):D:=.tuple [.int p.1,.str p.2.s]
theorem sl2 (a b:D):gY (.tuple [a,b]) (some 1) none=some (.tuple [b]):=rfl
theorem sl3 (a b c:D):gY (.tuple [a,b,c]) (some 1) none=some (.tuple [b,c]):=rfl
theorem Jw (G:List D->Option D) (s:Str) (j:Int):f9 G [.fz (.tuple [.str s,.int j])]=some (.list [.tuple [.int j,.str "other"]]):=by
 have:=fq (fi:=oI (iW (oV 0) (oP (oC (.int 1))) (kZ)) dc) (caps:=[]) (fe:=VL.os (ac (oV 0) (ac (oC (.str "other")) (ao))) be) (δ:=[.fz (.tuple [.str s,.int j])]) (h:=PyData.int) (k:=fun x=>.tuple [.int x,.str "other"]) (xs:=[j]) (by simp [sl2]) (by simp) (fun x _=>by simp [dN])
 exact this
theorem Jv (G:List D->Option D) (s:Str) (i j:Int):f9 G [.fz (.tuple [.str s,.int i,.int j])]=some (.list [.tuple [.int i,.str "other"],.tuple [.int j,.str "other"]]):=by
 have:=fq (fi:=oI (iW (oV 0) (oP (oC (.int 1))) (kZ)) dc) (caps:=[]) (fe:=VL.os (ac (oV 0) (ac (oC (.str "other")) (ao))) be) (δ:=[.fz (.tuple [.str s,.int i,.int j])]) (h:=PyData.int) (k:=fun x=>.tuple [.int x,.str "other"]) (xs:=[i,j]) (by simp [sl3]) (by simp) (fun x _=>by simp [dN])
 exact this
theorem r9 (G:List D->Option D) (r:Row):runB cA 1 (bi G) [rowD r]=some (.list ((kl (.pl r)).map nD)):=by
 cases r with
 | swing j=>have:=Jw G "swing" j; simp [-sSeq,-sIf,ag,aq,runB,bi,aj,rowD,kl,nD,Kd.s,this]
 | cross i j=>have:=Jv G "cross" i j; simp [-sSeq,-sIf,ag,aq,runB,bi,aj,rowD,kl,nD,Kd.s,this]
 | turn j e=>simp [-sSeq,-sIf,ag,aq,runB,bi,aj,rowD,kl,nD,Kd.s]
 | flip j=>simp [-sSeq,-sIf,ag,aq,runB,bi,aj,rowD,kl,nD,Kd.s]
 | tie i j=>simp [-sSeq,-sIf,ag,aq,runB,bi,aj,rowD,kl,nD,Kd.s]
 | sign i j=>simp [-sSeq,-sIf,ag,aq,runB,bi,aj,rowD,kl,nD,Kd.s]
theorem qz (G:List D->Option D) (m:Int) (I L:D) (h:G [I]=some L):runB cA 1 (bi G) [.tuple [.str "where",.int m,I]]=some L:=by
 simp [-sSeq,-sIf,ag,aq,runB,bi,aj,h]
theorem zI (G:List D->Option D) (j:Nat):runB cA 1 (bi G) [rwD (.look j)]=some (.list ((kl (.look j)).map nD)):=by
 simp [-sSeq,-sIf,ag,aq,runB,bi,aj,rwD,kl,nD,Kd.s]
theorem j6 (r:Rw):bA [rwD r]=some (.list ((kl r).map nD)):=by
 cases r with
 | pl r=>exact r9 (bz 7) r
 | look j=>exact zI (bz 7) j
 | wflip m j=>exact qz (bz 7) m _ _ (r9 (bz 6) (.flip j))
 | wsign m j=>exact qz (bz 7) m _ _ (r9 (bz 6) (.turn j 4))
noncomputable def bad (p q:Nat×Kd):Bool:=(p.1==q.1)&&(decide (p.2≠q.2)||decide (p.2=.other))
theorem E2 (z0 z1 z2 z3:Sl) (a b:Int) (s t:Str) (h:¬ a=b):cx [z0,z1,z2,z3,.fz (.int a),.fz (.str s),.fz (.int b),.fz (.str t)]=some (.nx,[z0,z1,z2,z3,.fz (.int a),.fz (.str s),.fz (.int b),.fz (.str t)]):=by
 simp [-sSeq,-sIf,ag,aq,cx,h]
theorem E4 (z0 z1 z2 z3:Sl) (a:Int) (s t:Str) (c2 c3:Bool) (e1:neD (.str s) (.str t)=some (.bool c2)) (e2:aH (.str s) (.str "other")=some (.bool c3)):cx [z0,z1,z2,z3,.fz (.int a),.fz (.str s),.fz (.int a),.fz (.str t)]=some (if (c2||c3) then .rt (.bool false) else .nx,[z0,z1,z2,z3,.fz (.int a),.fz (.str s),.fz (.int a),.fz (.str t)]):=by
 cases c2 <;> cases c3 <;> simp [-sSeq,-sIf,ag,aq,cx,e1,e2]
theorem Cv (z0 z1 z2 z3:Sl) (p q:Nat×Kd):cx [z0,z1,z2,z3,.fz (.int p.1),.fz (.str p.2.s),.fz (.int q.1),.fz (.str q.2.s)]=some (if bad p q then .rt (.bool false) else .nx,[z0,z1,z2,z3,.fz (.int p.1),.fz (.str p.2.s),.fz (.int q.1),.fz (.str q.2.s)]):=by
 obtain ⟨p1,p2⟩:=p
 obtain ⟨q1,q2⟩:=q
 dsimp only
 have e1:=G8 p2.ok q2.ok
 have e2:aH (.str p2.s) (.str "other")=some (.bool (decide (p2=.other))):=(cS p2.ok qf).trans (by rw [show ("other":Str)=Kd.other.s from rfl,Kd.beq])
 rw [Kd.beq] at e1
 by_cases h:p1=q1
 ·subst h
  rw [E4 z0 z1 z2 z3 p1 p2.s q2.s _ _ e1 e2]
  have:bad (p1,p2) (p1,q2)=(!decide (p2=q2)||decide (p2=.other)):=by
   unfold bad
   simp
  rw [this]
 ·have h':¬ (p1:Int)=q1:=by omega
  rw [E2 z0 z1 z2 z3 p1 q1 p2.s q2.s h']
  have:bad (p1,p2) (q1,q2)=false:=by
   unfold bad
   simp [h]
  rw [this]
  rfl
theorem tY (z0 z1 z2 z3:Sl) (p:Nat×Kd):∀ (qs:List (Nat×Kd)) (z6 z7:Sl),∃ y6 y7,loop (xn [gN 6,gN 7]) cx (qs.map nD) [z0,z1,z2,z3,.fz (.int p.1),.fz (.str p.2.s),z6,z7]=some (if qs.any (bad p) then .rt (.bool false) else .nx,[z0,z1,z2,z3,.fz (.int p.1),.fz (.str p.2.s),y6,y7])
 | [],z6,z7=>⟨z6,z7,rfl⟩
 | q::qs,z6,z7=>by
  obtain ⟨y6,y7,e⟩:=tY z0 z1 z2 z3 p qs (.fz (.int q.1)) (.fz (.str q.2.s))
  have st:=Cv z0 z1 z2 z3 p q
  have g:xn [gN 6,gN 7] (nD q) [z0,z1,z2,z3,.fz (.int p.1),.fz (.str p.2.s),z6,z7]=some [z0,z1,z2,z3,.fz (.int p.1),.fz (.str p.2.s),.fz (.int q.1),.fz (.str q.2.s)]:=by simp [nD]
  cases h:bad p q with
  | true=>
   rw [h] at st
   refine ⟨.fz (.int q.1),.fz (.str q.2.s),?_⟩
   rw [List.map_cons,hW g st,List.any_cons,h]
   rfl
  | false=>
   rw [h] at st
   refine ⟨y6,y7,?_⟩
   rw [List.map_cons,b8 g st,e,List.any_cons,h]
   rfl
theorem zp (z0 z2 z3:Sl) (O:D) (p:Nat×Kd) (qs:List (Nat×Kd)) (hk:bA [O]=some (.list (qs.map nD))) (z6 z7:Sl):∃ y6 y7,dG [z0,.fz O,z2,z3,.fz (.int p.1),.fz (.str p.2.s),z6,z7]=some (if qs.any (bad p) then .rt (.bool false) else .nx,[z0,.fz O,z2,z3,.fz (.int p.1),.fz (.str p.2.s),y6,y7]):=by
 obtain ⟨y6,y7,e⟩:=tY z0 (.fz O) z2 z3 p qs z6 z7
 refine ⟨y6,y7,?_⟩
 rw [<- e]
 simp [dG,hk]
theorem qe (z0 z2 z3:Sl) (O:D) (qs:List (Nat×Kd)) (hk:bA [O]=some (.list (qs.map nD))):∀ (ps:List (Nat×Kd)) (z4 z5 z6 z7:Sl),∃ δ,loop (xn [gN 4,gN 5]) dG (ps.map nD) [z0,.fz O,z2,z3,z4,z5,z6,z7]=some (if ps.any (fun p=>qs.any (bad p)) then .rt (.bool false) else .nx,δ)
 | [],z4,z5,z6,z7=>⟨_,rfl⟩
 | p::ps,z4,z5,z6,z7=>by
  obtain ⟨y6,y7,st⟩:=zp z0 z2 z3 O p qs hk z6 z7
  have g:xn [gN 4,gN 5] (nD p) [z0,.fz O,z2,z3,z4,z5,z6,z7]=some [z0,.fz O,z2,z3,.fz (.int p.1),.fz (.str p.2.s),z6,z7]:=by simp [nD]
  cases h:qs.any (bad p) with
  | true=>
   rw [h] at st
   refine ⟨[z0,.fz O,z2,z3,.fz (.int p.1),.fz (.str p.2.s),y6,y7],?_⟩
   rw [List.map_cons,hW g st,List.any_cons,h]
   rfl
  | false=>
   rw [h] at st
   obtain ⟨δ,e⟩:=qe z0 z2 z3 O qs hk ps (.fz (.int p.1)) (.fz (.str p.2.s)) y6 y7
   refine ⟨δ,?_⟩
   rw [List.map_cons,b8 g st,e,List.any_cons,h]
   rfl
noncomputable def kt (r q:Rw) (m:Int):Bool:=match r with
 | .wflip k _=>q.isLook&&((k:Int)==m)
 | .wsign k _=>q.isLook&&((k:Int)==m)
 | _=>false
noncomputable def nS (r q:Rw):Bool:=(kl r).any fun p=>(kl q).any (bad p)
noncomputable def jx (r q:Rw) (m:Int):Bool:=!(r.isLook&&q.isLook) && !(kt q r m||kt r q m) && !nS r q
noncomputable def Rw.wd:Rw->Str
 | .pl (.swing _)=>"swing"
 | .pl (.turn _ _)=>"turn"
 | .pl (.flip _)=>"flip"
 | .pl (.tie _ _)=>"tie"
 | .pl (.sign _ _)=>"sign"
 | .pl (.cross _ _)=>"cross"
 | .look _=>"look"
 | .wflip _ _=>"where"
 | .wsign _ _=>"where"
theorem ce (r:Rw):aC (rwD r) (.int 0)=some (.str r.wd):=by
 cases r with
 | pl r=>cases r <;> exact at0 _ _
 | _=>exact at0 _ _
theorem d7 (r:Rw):iw r.wd=true:=by
 cases r with
 | pl r=>cases r; exact aU; exact aO; exact aP; exact bD; exact bo; exact bE
 | look j=>exact aT
 | wflip m j=>exact aZ
 | wsign m j=>exact aZ
noncomputable def Rw.isW:Rw->Bool
 | .wflip _ _=>true
 | .wsign _ _=>true
 | _=>false
theorem fD (r:Rw):(r.wd==("look":Str))=r.isLook:=by
 cases r with
 | pl r=>
  cases r
  ·exact (by decide +kernel:(("swing":Str) == "look")=false)
  ·exact (by decide +kernel:(("turn":Str) == "look")=false)
  ·exact (by decide +kernel:(("flip":Str) == "look")=false)
  ·exact (by decide +kernel:(("tie":Str) == "look")=false)
  ·exact (by decide +kernel:(("sign":Str) == "look")=false)
  ·exact (by decide +kernel:(("cross":Str) == "look")=false)
 | look j=>exact (by decide +kernel:(("look":Str) == "look")=true)
 | wflip m j=>exact (by decide +kernel:(("where":Str) == "look")=false)
 | wsign m j=>exact (by decide +kernel:(("where":Str) == "look")=false)
theorem lB (r:Rw):(r.wd==("where":Str))=r.isW:=by
 cases r with
 | pl r=>
  cases r
  ·exact (by decide +kernel:(("swing":Str) == "where")=false)
  ·exact (by decide +kernel:(("turn":Str) == "where")=false)
  ·exact (by decide +kernel:(("flip":Str) == "where")=false)
  ·exact (by decide +kernel:(("tie":Str) == "where")=false)
  ·exact (by decide +kernel:(("sign":Str) == "where")=false)
  ·exact (by decide +kernel:(("cross":Str) == "where")=false)
 | look j=>exact (by decide +kernel:(("look":Str) == "where")=false)
 | wflip m j=>exact (by decide +kernel:(("where":Str) == "where")=true)
 | wsign m j=>exact (by decide +kernel:(("where":Str) == "where")=true)
theorem fU (r:Rw):aH (.str r.wd) (.str "look")=some (.bool r.isLook):=by rw [cS (d7 r) aT,fD]
theorem tJ (r:Rw):neD (.str r.wd) (.str "look")=some (.bool (!r.isLook)):=by rw [G8 (d7 r) aT,fD]
theorem qR (r:Rw):aH (.str r.wd) (.str "where")=some (.bool r.isW):=by rw [cS (d7 r) aZ,lB]
theorem uA {a:Str} (h:iw a=true):(PyData.str a).canLay0=true:=(Bool.and_eq_true_iff.mp h).1
theorem CL {a b c d:Str} (ha:iw a=true) (hb:iw b=true) (hc:iw c=true) (hd:iw d=true):aH (.list [.str a,.str b]) (.list [.str c,.str d])=some (.bool (a==c&&b==d)):=by
 have h1:kU (.list [.str a,.str b])=true:=by
  show (PyData.canLay0 _&&decide (PyData.depth _<=64))=true
  have x1:=uA ha; have x2:=uA hb
  simp [PyData.canLay0,PyData.canLayAll0,PyData.depth,PyData.depthAll] at x1 x2 ⊢
  exact ⟨x1,x2⟩
 have h2:kU (.list [.str c,.str d])=true:=by
  show (PyData.canLay0 _&&decide (PyData.depth _<=64))=true
  have x1:=uA hc; have x2:=uA hd
  simp [PyData.canLay0,PyData.canLayAll0,PyData.depth,PyData.depthAll] at x1 x2 ⊢
  exact ⟨x1,x2⟩
 unfold aH
 rw [if_pos ⟨h1,h2⟩]
 simp [PyData.eqv,PyData.eqvAll]
theorem wD {r:Rw} (h:r.isW=true):∃ k:Nat,aC (rwD r) (.int 1)=some (.int k)/\∀ q m,kt r q m=(q.isLook&&((k:Int)==m)):=by
 cases r with
 | wflip k j=>exact ⟨k,at1 _ _ _,fun _ _=>rfl⟩
 | wsign k j=>exact ⟨k,at1 _ _ _,fun _ _=>rfl⟩
 | _=>cases h
theorem pF {r:Rw} (h:r.isW=false) (q:Rw) (m:Int):kt r q m=false:=by
 cases r with
 | wflip k j=>cases h
 | wsign k j=>cases h
 | _=>rfl
theorem Hf (A B:D) (m ka kb:Int) (a b:Str) (s1 s2 s3 c1 c2 cl:Bool) (δ:Dv) (a0:aC A (.int 0)=some (.str a)) (b0:aC B (.int 0)=some (.str b)) (L:List D) (hA:bA [A]=some (.list L))
  (e1:aH (.list [.str a,.str b]) (.list [.str "look",.str "look"])=some (.bool s1)) (e2:aH (.list [.str a,.str b]) (.list [.str "look",.str "where"])=some (.bool s2)) (e3:aH (.list [.str a,.str b]) (.list [.str "where",.str "look"])=some (.bool s3))
  (m1:s2=true->aC B (.int 1)=some (.int kb)/\(kb==m)=c1) (m2:s3=true->aC A (.int 1)=some (.int ka)/\(ka==m)=c2) (lp:loop (xn [gN 4,gN 5]) dG L [.fz A,.fz B,.fz (.int m),.fz (.list [.str a,.str b]),.un,.un,.un,.un]=some (if cl then .rt (.bool false) else .nx,δ)) :
  bu [A,B,.int m]=some (.bool (!s1 && !((s2&&c1)||(s3&&c2)) && !cl)):=by
 cases s1 with
 | true=>simp [-sSeq,-sIf,ag,aq,bu,runB,cq,aj,a0,b0,e1]
 | false=>
  cases s2 with
  | true=>
   obtain ⟨q1,q2⟩:=m1 rfl
   cases c1 with
   | true=>simp [-sSeq,-sIf,ag,aq,bu,runB,cq,aj,a0,b0,e1,e2,q1,q2]
   | false=>
    cases s3 with
    | true=>
     obtain ⟨q3,q4⟩:=m2 rfl
     cases c2 <;> cases cl <;> simp [-sSeq,-sIf,ag,aq,bu,runB,cq,aj,a0,b0,e1,e2,e3,q1,q2,q3,q4,hA] <;> simp [lp]
    | false=>cases cl <;> simp [-sSeq,-sIf,ag,aq,bu,runB,cq,aj,a0,b0,e1,e2,e3,q1,q2,hA] <;> simp [lp]
  | false=>
   cases s3 with
   | true=>
    obtain ⟨q3,q4⟩:=m2 rfl
    cases c2 <;> cases cl <;> simp [-sSeq,-sIf,ag,aq,bu,runB,cq,aj,a0,b0,e1,e2,e3,q3,q4,hA] <;> simp [lp]
   | false=>cases cl <;> simp [-sSeq,-sIf,ag,aq,bu,runB,cq,aj,a0,b0,e1,e2,e3,hA] <;> simp [lp]
theorem wM (r q:Rw) (m:Int):bu [rwD r,rwD q,.int m]=some (.bool (jx r q m)):=by
 have e1:=CL (d7 r) (d7 q) aT aT
 have e2:=CL (d7 r) (d7 q) aT aZ
 have e3:=CL (d7 r) (d7 q) aZ aT
 rw [fD,fD] at e1
 rw [fD,lB] at e2
 rw [lB,fD] at e3
 obtain ⟨δ,lp⟩:=qe (.fz (rwD r)) (.fz (.int m)) (.fz (.list [.str r.wd,.str q.wd])) (rwD q) (kl q) (j6 q) (kl r) .un .un .un .un
 obtain ⟨kb,c1,m1,w1⟩:∃ (kb:Int) (c1:Bool),((r.isLook&&q.isW)=true->aC (rwD q) (.int 1)=some (.int kb)/\(kb==m)=c1)/\((r.isLook&&q.isW&&c1)=kt q r m):=by
  cases h:q.isW with
  | true=>
   obtain ⟨k,h1,h2⟩:=wD h
   exact ⟨k,_,fun _=>⟨h1,rfl⟩,by rw [h2]; simp⟩
  | false=>exact ⟨0,false,fun z=>by simp at z,by rw [pF h]; simp⟩
 obtain ⟨ka,c2,m2,w2⟩:∃ (ka:Int) (c2:Bool),((r.isW&&q.isLook)=true->aC (rwD r) (.int 1)=some (.int ka)/\(ka==m)=c2)/\((r.isW&&q.isLook&&c2)=kt r q m):=by
  cases h:r.isW with
  | true=>
   obtain ⟨k,h1,h2⟩:=wD h
   exact ⟨k,_,fun _=>⟨h1,rfl⟩,by rw [h2]; simp⟩
  | false=>exact ⟨0,false,fun z=>by simp at z,by rw [pF h]; simp⟩
 have:=Hf (rwD r) (rwD q) m ka kb _ _ _ _ _ c1 c2 (nS r q) δ (ce r) (ce q) _ (j6 r) e1 e2 e3 m1 m2 lp
 rw [w1,w2] at this
 exact this
noncomputable def wl:Rw->List Nat
 | .pl (.swing j)=>[j]
 | .pl (.turn j _)=>[j]
 | .pl (.flip j)=>[j]
 | .pl (.tie i j)=>[min i j,max i j]
 | .pl (.sign i j)=>[min i j,max i j]
 | .pl (.cross i j)=>[min i j,max i j]
 | .look j=>[j]
 | .wflip _ j=>[j]
 | .wsign _ j=>[j]
theorem rH (G:List D->Option D) (r:Row):runB dZ 1 (bG G) [rowD r]=some (.tuple ((wl (.pl r)).map fun n:Nat=>.int n)):=by
 cases r with
 | swing j=>simp [-sSeq,-sIf,ag,aq,runB,bG,aj,rowD,wl]
 | turn j e=>simp [-sSeq,-sIf,ag,aq,runB,bG,aj,rowD,wl]
 | flip j=>simp [-sSeq,-sIf,ag,aq,runB,bG,aj,rowD,wl]
 | tie i j=>simp [-sSeq,-sIf,ag,aq,runB,bG,aj,rowD,wl]; refine ⟨?_,?_⟩ <;> split <;> omega
 | sign i j=>simp [-sSeq,-sIf,ag,aq,runB,bG,aj,rowD,wl]; refine ⟨?_,?_⟩ <;> split <;> omega
 | cross i j=>simp [-sSeq,-sIf,ag,aq,runB,bG,aj,rowD,wl]; refine ⟨?_,?_⟩ <;> split <;> omega
theorem pM (G:List D->Option D) (m:Int) (I L:D) (h:G [I]=some L):runB dZ 1 (bG G) [.tuple [.str "where",.int m,I]]=some L:=by
 simp [-sSeq,-sIf,ag,aq,runB,bG,aj,h]
theorem yw (G:List D->Option D) (j:Nat):runB dZ 1 (bG G) [rwD (.look j)]=some (.tuple ((wl (.look j)).map fun n:Nat=>.int n)):=by
 simp [-sSeq,-sIf,ag,aq,runB,bG,aj,rwD,wl]
theorem ja (r:Rw):bf [rwD r]=some (.tuple ((wl r).map fun n:Nat=>.int n)):=by
 cases r with
 | pl r=>exact rH (b6 7) r
 | look j=>exact yw (b6 7) j
 | wflip m j=>exact pM (b6 7) m _ _ (rH (b6 6) (.flip j))
 | wsign m j=>exact pM (b6 7) m _ _ (rH (b6 6) (.turn j 4))
noncomputable def inr:Rw->D
 | .wflip _ j=>.tuple [.str "flip",.int j]
 | .wsign _ j=>.tuple [.str "turn",.int j,.int 4]
 | r=>rwD r
theorem qK (r:Rw):bB [rwD r]=some (inr r):=by
 cases r with
 | pl r=>cases r <;> simp [-sSeq,-sIf,ag,aq,bB,runB,dz,aj,rwD,rowD,inr]
 | look j=>simp [-sSeq,-sIf,ag,aq,bB,runB,dz,aj,rwD,inr]
 | wflip m j=>simp [-sSeq,-sIf,ag,aq,bB,runB,dz,aj,rwD,inr]
 | wsign m j=>simp [-sSeq,-sIf,ag,aq,bB,runB,dz,aj,rwD,inr]
noncomputable def fl (r:Rw) (w:Nat):Option Bool:=match r with
 | .pl (.swing _)=>none
 | .pl (.cross _ _)=>none
 | .pl (.flip _)=>some true
 | .wflip _ _=>some true
 | .pl (.tie _ j)=>some (j==w)
 | _=>some false
noncomputable def mZ:Option Bool->D
 | none=>.none
 | some b=>.bool b
theorem vb:de false (.str "swing") (.tuple [.str "swing",.str "cross"])=some (.bool true):=by rfl
theorem vc:de false (.str "cross") (.tuple [.str "swing",.str "cross"])=some (.bool true):=by rfl
theorem qL:de false (.str "turn") (.tuple [.str "swing",.str "cross"])=some (.bool false):=by rfl
theorem qM:de false (.str "flip") (.tuple [.str "swing",.str "cross"])=some (.bool false):=by rfl
theorem Al:de false (.str "tie") (.tuple [.str "swing",.str "cross"])=some (.bool false):=by rfl
theorem xg:de false (.str "sign") (.tuple [.str "swing",.str "cross"])=some (.bool false):=by rfl
theorem xh:de false (.str "look") (.tuple [.str "swing",.str "cross"])=some (.bool false):=by rfl
theorem lb (a b:Nat):(((a:Int)==(b:Int)):Bool)=(a==b):=by
 rw [Bool.eq_iff_iff,beq_iff_eq,beq_iff_eq]; omega
theorem jC (r:Rw) (w:Nat):cb [inr r,.int w]=some (mZ (fl r w)):=by
 cases r with
 | pl r=>
  cases r with
  | swing j=>simp [-sSeq,-sIf,ag,aq,cb,runB,dO,aj,rwD,rowD,inr,fl,mZ,vb]
  | turn j e=>simp [-sSeq,-sIf,ag,aq,cb,runB,dO,aj,rwD,rowD,inr,fl,mZ,qL]
  | flip j=>simp [-sSeq,-sIf,ag,aq,cb,runB,dO,aj,rwD,rowD,inr,fl,mZ,qM]
  | tie i j=>simp [-sSeq,-sIf,ag,aq,cb,runB,dO,aj,rwD,rowD,inr,fl,mZ,Al]; exact lb j w
  | sign i j=>simp [-sSeq,-sIf,ag,aq,cb,runB,dO,aj,rwD,rowD,inr,fl,mZ,xg]
  | cross i j=>simp [-sSeq,-sIf,ag,aq,cb,runB,dO,aj,rwD,rowD,inr,fl,mZ,vc]
 | look j=>simp [-sSeq,-sIf,ag,aq,cb,runB,dO,aj,rwD,inr,fl,mZ,xh]
 | wflip m j=>simp [-sSeq,-sIf,ag,aq,cb,runB,dO,aj,inr,fl,mZ,qM]
 | wsign m j=>simp [-sSeq,-sIf,ag,aq,cb,runB,dO,aj,inr,fl,mZ,qL]
noncomputable def mJ (r q:Rw) (w:Nat):Bool:=match fl r w with
 | none=>false
 | some b=>fl q w==some b
theorem CJ (b:Bool):aH (.bool b) .none=some (.bool false):=by cases b <;> rfl
theorem xL (A B F G:D) (w:Int) (b1:Bool) (r:Bool) (f1:cb [A,.int w]=some F) (f2:cb [B,.int w]=some G) (h1:u7 F=!b1) (h2:b1=true->aH F G=some (.bool r)):bV [A,B,.int w]=some (.bool (b1&&r)):=by
 cases b1 with
 | false=>simp [-sSeq,-sIf,ag,aq,bV,runB,eS,aj,f1,h1]
 | true=>have h2:=h2 rfl; simp [-sSeq,-sIf,ag,aq,bV,runB,eS,aj,f1,f2,h1,h2]
theorem AI (r q:Rw) (w:Nat):bV [inr r,inr q,.int w]=some (.bool (mJ r q w)):=by
 unfold mJ
 cases h:fl r w with
 | none=>exact xL _ _ _ _ w false false (jC r w) (jC q w) (by rw [h]; rfl) (fun z=>nomatch z)
 | some b=>
  have:=xL _ _ _ _ w true (fl q w==some b) (jC r w) (jC q w) (by rw [h]; rfl) (fun _=>by
   rw [h]
   cases h2:fl q w with
   | none=>exact CJ b
   | some c=>show aH (.bool b) (.bool c)=_; rw [xA]; cases b <;> cases c <;> rfl)
  rw [Bool.true_and] at this
  exact this
theorem jz (w:Nat) (ws:List Nat):de false (.int w) (.tuple (ws.map fun n:Nat=>.int n))=some (.bool (ws.any (· == w))):=by
 have h1:(ws.map fun n:Nat=>PyData.int n).all xq=true:=by rw [List.all_eq_true]; intro x hx; obtain ⟨r,_,rfl⟩:=List.mem_map.mp hx; rfl
 have h2:tZ (.int w) (ws.map fun n:Nat=>PyData.int n)=ws.any (· == w):=by
  unfold tZ
  rw [List.any_map]
  exact congrArg (fun z=>ws.any z) (funext fun n=>by
   show PyData.eqv (.int n) (.int w)=_
   simp only [PyData.eqv]
   exact lb n w)
 unfold de
 show (if _ then _ else _)=_
 rw [if_pos ⟨rfl,h1⟩,h2]
 rfl
noncomputable def rS (r q:Rw):List Nat:=(wl r).filter fun w=>(wl q).any (· == w)
theorem vy (r:Rw):(wl r).length<=2:=by
 cases r with
 | pl r=>cases r <;> simp [wl]
 | _=>simp [wl]
theorem Ju (r q:Rw) (z2 z3:Sl):iU [.fz (rwD r),.fz (rwD q),z2,z3]=some (.list ((rS r q).map fun n:Nat=>.int n)):=by
 have hr:=ja r
 have hq:=ja q
 have:=eY (fi:=oI (VL.os (ac (oV 0) (ao)) bf) dc) (caps:=[(1,"other")]) (ft:=ob (o2 (oV 0) (VL.os (ac (oV 1) (ao)) bf) (de false))) (fe:=oV 0) (δ:=[.fz (rwD r),.fz (rwD q),z2,z3]) (h:=fun n:Nat=>PyData.int n) (k:=fun n:Nat=>PyData.int n) (b:=fun w=>(wl q).any (· == w)) (xs:=wl r) (by simp [hr]) (Nat.le_trans (vy r) (by decide)) (fun w _=>by simp [dN,hq,jz]) (fun w _ _=>by simp)
 exact this
theorem Jt (r q:Rw) (z2:Sl):iT [.fz (rwD r),.fz (rwD q),z2,.fz (.list ((rS r q).map fun n:Nat=>.int n))]=some (.list ((rS r q).map fun w=>.bool (mJ r q w))):=by
 have hr:=qK r
 have hq:=qK q
 have:=fq (fi:=oI (oV 3) dc) (caps:=[(0,"one"),(1,"other")]) (fe:=VL.os (ac (VL.os (ac (oV 1) (ao)) bB) (ac (VL.os (ac (oV 2) (ao)) bB) (ac (oV 0) (ao)))) bV) (δ:=[.fz (rwD r),.fz (rwD q),z2,.fz (.list ((rS r q).map fun n:Nat=>.int n))]) (h:=fun n:Nat=>PyData.int n) (k:=fun w=>.bool (mJ r q w)) (xs:=rS r q) (by simp) (Nat.le_trans (List.length_filter_le _ _) (Nat.le_trans (vy r) (by decide))) (fun w _=>by simp [dN,hr,hq,AI])
 exact this
theorem FJ (A B M:D) (a b:Str) (k:D) (s1 s2 c:Bool) (a0:aC A (.int 0)=some (.str a)) (b0:aC B (.int 0)=some (.str b)) (e1:aH (.str a) (.str "where")=some (.bool s1)) (e2:aH (.str b) (.str "look")=some (.bool s2)) (h:s1=true->s2=true->aC A (.int 1)=some k/\aH k M=some (.bool c)):bP [A,B,M]=some (.bool (s1&&s2&&c)):=by
 cases s1 with
 | false=>simp [-sSeq,-sIf,ag,aq,bP,runB,fA,aj,a0,e1]
 | true=>
  cases s2 with
  | false=>simp [-sSeq,-sIf,ag,aq,bP,runB,fA,aj,a0,b0,e1,e2]
  | true=>
   obtain ⟨h1,h2⟩:=h rfl rfl
   simp [-sSeq,-sIf,ag,aq,bP,runB,fA,aj,a0,b0,e1,e2,h1,h2]
theorem uk (r q:Rw) (M:D) (m:Int) (hM:M=.int m\/(M=.none/\m = -1)):bP [rwD r,rwD q,M]=some (.bool (kt r q m)):=by
 cases h:r.isW with
 | true=>
  obtain ⟨k,h1,h2⟩:=wD h
  have:=FJ (rwD r) (rwD q) M _ _ (.int k) true q.isLook ((k:Int)==m) (ce r) (ce q) (by rw [qR,h]) (fU q) (fun _ _=>⟨h1,by
   rcases hM with rfl | ⟨rfl,rfl⟩
   ·exact At _ _
   ·have:((k:Int) == -1)=false:=by
     have:¬ (k:Int) = -1:=by omega
     simpa using this
    rw [this]; rfl⟩)
  rw [h2]
  simpa using this
 | false=>
  have:=FJ (rwD r) (rwD q) M _ _ .none false q.isLook false (ce r) (ce q) (by rw [qR,h]) (fU q) (fun z=>nomatch z)
  rw [pF h]
  simpa using this
theorem Hk (A B M:D) (a b:Str) (s1 s2 c1 c2 r:Bool) (S L:D) (a0:aC A (.int 0)=some (.str a)) (b0:aC B (.int 0)=some (.str b)) (e1:aH (.str a) (.str "look")=some (.bool s1)) (e2:aH (.str b) (.str "look")=some (.bool s2)) (h1:bP [A,B,M]=some (.bool c1)) (h2:bP [B,A,M]=some (.bool c2)) (p1:iU [.fz A,.fz B,.fz M,.un]=some S) (p2:iT [.fz A,.fz B,.fz M,.fz S]=some L) (al:xQ [L]=some (.bool r)):cC [A,B,M]=some (.bool (!(s1&&s2) && !(c2||c1)&&r)):=by
 cases s1 <;> cases s2 <;> cases c1 <;> cases c2 <;> simp [-sSeq,-sIf,ag,aq,cC,runB,kq,aj,a0,b0,e1,e2,h1,h2,p1,p2,al]
noncomputable def free (r q:Rw):Bool:=(rS r q).all (mJ r q)
theorem sg (r q:Rw) (M:D) (m:Int) (hM:M=.int m\/(M=.none/\m = -1)):cC [rwD r,rwD q,M]=some (.bool (!(r.isLook&&q.isLook) && !(kt q r m||kt r q m)&&free r q)):=by
 refine Hk (rwD r) (rwD q) M _ _ _ _ _ _ _ _ _ (ce r) (ce q) (fU r) (fU q) (uk r q M m hM) (uk q r M m hM) (Ju r q _ _) (Jt r q _) ?_
 rw [xP]
 rfl
theorem nj {r:Rw} (w:Nat):w∈wl r↔∃ k,(w,k)∈kl r:=by
 cases r with
 | pl r=>
  cases r with
  | tie i j=>
   simp only [wl,kl,List.mem_cons,List.not_mem_nil,or_false,Prod.mk.injEq]
   constructor
   ·intro h
    have:w=i\/w=j:=by omega
    rcases this with h | h
    ·exact ⟨.hold,.inl ⟨h,rfl⟩⟩
    ·exact ⟨.flip,.inr ⟨h,rfl⟩⟩
   ·rintro ⟨k,⟨h,_⟩ | ⟨h,_⟩⟩ <;> omega
  | sign i j=>
   simp only [wl,kl,List.mem_cons,List.not_mem_nil,or_false,Prod.mk.injEq]
   constructor
   ·intro h
    have:w=i\/w=j:=by omega
    rcases this with h | h
    ·exact ⟨.hold,.inl ⟨h,rfl⟩⟩
    ·exact ⟨.hold,.inr ⟨h,rfl⟩⟩
   ·rintro ⟨k,⟨h,_⟩ | ⟨h,_⟩⟩ <;> omega
  | cross i j=>
   simp only [wl,kl,List.mem_cons,List.not_mem_nil,or_false,Prod.mk.injEq]
   constructor
   ·intro h
    have:w=i\/w=j:=by omega
    rcases this with h | h
    ·exact ⟨.other,.inl ⟨h,rfl⟩⟩
    ·exact ⟨.other,.inr ⟨h,rfl⟩⟩
   ·rintro ⟨k,⟨h,_⟩ | ⟨h,_⟩⟩ <;> omega
  | _=>simp [wl,kl]
 | _=>simp [wl,kl]
noncomputable def Kd.c:Kd->Option Bool
 | .hold=>some false
 | .flip=>some true
 | .other=>none
theorem t8 {r:Rw} (h:eR r) {w:Nat} {k:Kd} (hk:(w,k)∈kl r):fl r w=k.c:=by
 cases r with
 | pl r=>
  cases r with
  | tie i j=>
   have h:i≠j:=h
   simp only [kl,List.mem_cons,Prod.mk.injEq,List.not_mem_nil,or_false] at hk
   rcases hk with ⟨rfl,rfl⟩ | ⟨rfl,rfl⟩
   ·have:(j==w)=false:=by simpa using (Ne.symm h)
    simp [fl,Kd.c,this]
   ·simp [fl,Kd.c]
  | swing j=>simp only [kl,List.mem_cons,Prod.mk.injEq,List.not_mem_nil,or_false] at hk; obtain ⟨rfl,rfl⟩:=hk; rfl
  | turn j e=>simp only [kl,List.mem_cons,Prod.mk.injEq,List.not_mem_nil,or_false] at hk; obtain ⟨rfl,rfl⟩:=hk; rfl
  | flip j=>simp only [kl,List.mem_cons,Prod.mk.injEq,List.not_mem_nil,or_false] at hk; obtain ⟨rfl,rfl⟩:=hk; rfl
  | sign i j=>simp only [kl,List.mem_cons,Prod.mk.injEq,List.not_mem_nil,or_false] at hk; rcases hk with ⟨rfl,rfl⟩ | ⟨rfl,rfl⟩ <;> rfl
  | cross i j=>simp only [kl,List.mem_cons,Prod.mk.injEq,List.not_mem_nil,or_false] at hk; rcases hk with ⟨rfl,rfl⟩ | ⟨rfl,rfl⟩ <;> rfl
 | look j=>simp only [kl,List.mem_cons,Prod.mk.injEq,List.not_mem_nil,or_false] at hk; obtain ⟨rfl,rfl⟩:=hk; rfl
 | wflip m j=>simp only [kl,List.mem_cons,Prod.mk.injEq,List.not_mem_nil,or_false] at hk; obtain ⟨rfl,rfl⟩:=hk; rfl
 | wsign m j=>simp only [kl,List.mem_cons,Prod.mk.injEq,List.not_mem_nil,or_false] at hk; obtain ⟨rfl,rfl⟩:=hk; rfl
theorem sB {r q:Rw} (hr:eR r) (hq:eR q):free r q=!nS r q:=by
 have key:free r q=true↔nS r q=false:=by
  unfold free nS rS
  rw [List.all_eq_true,List.any_eq_false]
  constructor
  ·intro h p hp z
   obtain ⟨q',hq',hb⟩:=List.any_eq_true.mp z
   obtain ⟨w,k⟩:=p
   obtain ⟨w',k'⟩:=q'
   unfold bad at hb
   obtain ⟨hb1,hb2⟩:=Bool.and_eq_true_iff.mp hb
   have e:w=w':=by simpa using hb1
   subst e
   have al:=h w (List.mem_filter.mpr ⟨nj w |>.mpr ⟨k,hp⟩,List.any_eq_true.mpr ⟨w,nj w |>.mpr ⟨k',hq'⟩,by simp⟩⟩)
   unfold mJ at al
   rw [t8 hr hp,t8 hq hq'] at al
   cases k <;> cases k' <;> simp [Kd.c] at al hb2
  ·intro h w hw
   obtain ⟨h1,h2⟩:=List.mem_filter.mp hw
   obtain ⟨w2,h3,h4⟩:=List.any_eq_true.mp h2
   have e:w2=w:=by simpa using h4
   subst e
   obtain ⟨k,hk⟩:=(nj w2).mp h1
   obtain ⟨k',hk'⟩:=(nj w2).mp h3
   have nb:bad (w2,k) (w2,k')=false:=by
    cases e:bad (w2,k) (w2,k') with
    | false=>rfl
    | true=>exact absurd (List.any_eq_true.mpr ⟨_,hk',e⟩) (h _ hk)
   unfold mJ
   rw [t8 hr hk,t8 hq hk']
   cases k <;> cases k' <;> simp [bad,Kd.c] at nb ⊢
 cases h1:free r q <;> cases h2:nS r q <;> simp_all
theorem EE {r q:Rw} (hr:eR r) (hq:eR q) (M:D) (m:Int) (hM:M=.int m\/(M=.none/\m = -1)):cC [rwD r,rwD q,M]=some (.bool (jx r q m)):=by
 rw [sg r q M m hM,sB hr hq]
 rfl
noncomputable def G6:Sf:=bS 5 (os (ac (oV 4) (ac (oV 1) (ac (oV 3) (ac (oC (.bool false)) (ao))))) aR)
noncomputable def G5:Sf:=bS 6 (o2 (os (ac (o2 (oV 4) (oC (.int 5)) jG) (ac (oC (.int 86028121)) (ao))) bt) (oC (.int 7)) jG)
noncomputable def wy:Sf:=sIf (iH 2 (dF (ob (o2 (o2 (oV 4) (oC (.int 5)) cH) (oC (.int 2)) qy)) (dF (ob (o2 (oV 2) (os (ao) cK) neD)) (ob (o2 (o2 (o2 (oV 2) (o2 (oV 6) (os (ac (oV 2) (ao)) cw) cH) aC) (oC (.int 0)) aC) (oC (.str "look")) neD))))) (sSeq (bS 5 (B1 2 (o2 (oV 6) (wz 2) cH))) (sIf (dF (ob (o2 (o2 (oV 5) (oC (.int 0)) aC) (os (ac (oC (.str "sign")) (ac (oC (.str "cross")) (ao))) be) (de false))) (ob (o2 (o2 (o2 (oV 6) (oC (.int 64)) jG) (oC (.int 2)) cH) (oC (.int 1)) aH))) (bS 5 (os (ac (o2 (oV 5) (oC (.int 0)) aC) (ac (o2 (oV 5) (oC (.int 2)) aC) (ac (o2 (oV 5) (oC (.int 1)) aC) (ao)))) be)) (cR))) (cR)
noncomputable def Db:Sf:=sIf (dF (ob (o2 (o2 (oV 5) (oC (.int 0)) aC) (oC (.str "look")) aH)) (ob (o2 (oV 3) (oC (.int 3)) aH))) (bS 5 (os (ac (oC (.str "swing")) (ac (o2 (oV 5) (oC (.int 1)) aC) (ao))) be)) (cR)
noncomputable def G4:Sf:=bS 3 (o2 (oV 3) (os (ac (o2 (o2 (oV 5) (oC (.int 0)) aC) (oC (.str "look")) aH) (ao)) u9) bL)
noncomputable def G3:Sf:=pY 2 (oV 5)
theorem wv:da=sSeq G6 (sSeq G5 (sSeq wy (sSeq Db (sSeq G4 (G3))))):=rfl
theorem zG (c p:Int) (hp:0<p):∃ T:Nat,bt [.int c,.int p]=some (.int T):=by
 have h0:0<=c % 1000003:=Int.emod_nonneg _ (by decide)
 have h1:c % 1000003<1000003:=Int.emod_lt_of_pos _ (by decide)
 have m:IntMulOk (c % 1000003+11) (c % 1000003+48271):=.of_left (Nat.le_trans (MA.ui (m:=21) (by omega)) (by decide))
 have h2:0<=(c % 1000003+11)*(c % 1000003+48271) % p:=Int.emod_nonneg _ (by omega)
 refine ⟨((c % 1000003+11)*(c % 1000003+48271) % p).toNat,?_⟩
 rw [Int.toNat_of_nonneg h2]
 simp [-sSeq,-sIf,ag,aq,bt,runB,fX,aj,m,hp]
noncomputable def GQ (r:Rw):MA.Sh 2 (rwD r):=by
 have a:=fun k=>MA.Sh.int k
 have st:∀ (k:Nat) {s:Str},iw s=true->MA.Sh k (.str s):=fun k s h=>⟨uA h,by simp [PyData.depth]⟩
 cases r with
 | pl r=>
  cases r <;> refine MA.Sh.tuple fun x hx=>?_ <;> simp only [List.mem_cons,List.not_mem_nil,or_false] at hx
  ·rcases hx with rfl | rfl; exact st 1 aU; exact a 1 _
  ·rcases hx with rfl | rfl | rfl; exact st 1 aO; exact a 1 _; exact a 1 _
  ·rcases hx with rfl | rfl; exact st 1 aP; exact a 1 _
  ·rcases hx with rfl | rfl | rfl; exact st 1 bD; exact a 1 _; exact a 1 _
  ·rcases hx with rfl | rfl | rfl; exact st 1 bo; exact a 1 _; exact a 1 _
  ·rcases hx with rfl | rfl | rfl; exact st 1 bE; exact a 1 _; exact a 1 _
 | look j=>
  refine MA.Sh.tuple fun x hx=>?_
  simp only [List.mem_cons,List.not_mem_nil,or_false] at hx
  rcases hx with rfl | rfl; exact st 1 aT; exact a 1 _
 | wflip m j=>
  refine MA.Sh.tuple fun x hx=>?_
  simp only [List.mem_cons,List.not_mem_nil,or_false] at hx
  rcases hx with rfl | rfl | rfl
  ·exact st 1 aZ
  ·exact a 1 _
  ·refine MA.Sh.tuple fun x hx=>?_
   simp only [List.mem_cons,List.not_mem_nil,or_false] at hx
   rcases hx with rfl | rfl; exact st 0 aP; exact a 0 _
 | wsign m j=>
  refine MA.Sh.tuple fun x hx=>?_
  simp only [List.mem_cons,List.not_mem_nil,or_false] at hx
  rcases hx with rfl | rfl | rfl
  ·exact st 1 aZ
  ·exact a 1 _
  ·refine MA.Sh.tuple fun x hx=>?_
   simp only [List.mem_cons,List.not_mem_nil,or_false] at hx
   rcases hx with rfl | rfl | rfl; exact st 0 aO; exact a 0 _; exact a 0 _
theorem B2 (rs:List Rw):neD (.list (rs.map rwD)) (.list [])=some (.bool (!rs.isEmpty)):=by
 have h:MA.Sh 3 (.list (rs.map rwD)):=MA.Sh.list fun x hx=>by obtain ⟨r,_,rfl⟩:=List.mem_map.mp hx; exact GQ r
 have h1:kU (.list (rs.map rwD))=true:=by
  show (PyData.canLay0 _&&decide (PyData.depth _<=64))=true
  rw [h.1,decide_eq_true (Nat.le_trans h.2 (by decide))]; rfl
 have h2:kU (.list ([]:List D))=true:=by rfl
 unfold neD
 rw [if_pos ⟨h1,h2⟩]
 cases rs with
 | nil=>rfl
 | cons r rs=>simp [PyData.eqv,PyData.eqvAll]
section
variable (z0 z1:Sl) (l c:Int) (hz0:mY z0=false) (hz1:mY z1=false)
include hz0 hz1
theorem BZ (rs:List Rw) (R:D) (sd:Int) (h:¬ c % 5<2\/rs=[]):wy [z0,z1,.ow (rs.map rwD),.fz (.int l),.fz (.int c),.fz R,.fz (.int sd)]=some (.nx,[z0,z1,.ow (rs.map rwD),.fz (.int l),.fz (.int c),.fz R,.fz (.int sd)]):=by
 by_cases h1:c % 5<2
 ·have e:rs=[]:=by rcases h with h | h; exact absurd h1 h; exact h
  subst e
  have nn:neD (.list ([]:List D)) (.list [])=some (.bool false):=rfl
  simp [-sSeq,-sIf,ag,aq,wy,iH,dFz,hz0,hz1,h1,nn]
 ·simp [-sSeq,-sIf,ag,aq,wy,iH,dFz,hz0,hz1,h1]
theorem wx (ds:List D) (R Q:D) (q:Str) (sd k n:Int) (h1:c % 5<2) (nn:neD (.list ds) (.list [])=some (.bool true)) (hn:(ds.length:Int)=n) (hk:cH (.int sd) (.int n)=some (.int k)) (hQ:kr ds k=some Q) (q0:aC Q (.int 0)=some (.str q)) (ql:neD (.str q) (.str "look")=some (.bool false)):wy [z0,z1,.ow ds,.fz (.int l),.fz (.int c),.fz R,.fz (.int sd)]=some (.nx,[z0,z1,.ow ds,.fz (.int l),.fz (.int c),.fz R,.fz (.int sd)]):=by
 simp [-sSeq,-sIf,ag,aq,wy,iH,dFz,hz0,hz1,h1,nn,hn,hk,hQ,q0,ql]
theorem oS (ds:List D) (R Q Q':D) (q:Str) (sd k n:Int) (b:Bool) (h1:c % 5<2) (nn:neD (.list ds) (.list [])=some (.bool true)) (hn:(ds.length:Int)=n) (hk:cH (.int sd) (.int n)=some (.int k)) (hQ:kr ds k=some Q) (q0:aC Q (.int 0)=some (.str q)) (ql:neD (.str q) (.str "look")=some (.bool true)) (qs:de false (.str q) (.tuple [.str "sign",.str "cross"])=some (.bool b)) (hb:b=true->∃ x y,aC Q (.int 1)=some x/\aC Q (.int 2)=some y/\Q'=.tuple [.str q,y,x]):wy [z0,z1,.ow ds,.fz (.int l),.fz (.int c),.fz R,.fz (.int sd)]=some (.nx,[z0,z1,.ow ds,.fz (.int l),.fz (.int c),.fz (if b=true/\sd / 64 % 2=1 then Q' else Q),.fz (.int sd)]):=by
 cases b with
 | false=>simp [-sSeq,-sIf,ag,aq,wy,iH,dFz,hz0,hz1,h1,nn,hn,hk,hQ,q0,ql,qs]
 | true=>
  obtain ⟨x,y,x1,y1,rfl⟩:=hb rfl
  by_cases h2:sd / 64 % 2=1
  ·simp [-sSeq,-sIf,ag,aq,wy,iH,dFz,hz0,hz1,h1,nn,hn,hk,hQ,q0,ql,qs,x1,y1,h2]
  ·simp [-sSeq,-sIf,ag,aq,wy,iH,dFz,hz0,hz1,h1,nn,hn,hk,hQ,q0,ql,qs,x1,y1,h2]
end
theorem Ho (r:Rw):de false (.str r.wd) (.tuple [.str "sign",.str "cross"])=some (.bool (match r with | .pl (.sign _ _)=>true | .pl (.cross _ _)=>true | _=>false)):=by
 cases r with
 | pl r=>cases r <;> rfl
 | _=>rfl
theorem B0 (z0 z1:Sl) (hz0:mY z0=false) (hz1:mY z1=false) (l c:Int) (rs:List Rw) (P:Rw->Prop) (hP1:∀ i j,P (.pl (.sign i j))->P (.pl (.sign j i))) (hP2:∀ i j,P (.pl (.cross i j))->P (.pl (.cross j i))) (hg:∀ r∈rs,P r) (r0:Rw) (h0:P r0) (sd:Nat):∃ r':Rw,P r'/\wy [z0,z1,.ow (rs.map rwD),.fz (.int l),.fz (.int c),.fz (rwD r0),.fz (.int sd)]=some (.nx,[z0,z1,.ow (rs.map rwD),.fz (.int l),.fz (.int c),.fz (rwD r'),.fz (.int sd)]):=by
 by_cases h1:¬ c % 5<2\/rs=[]
 ·exact ⟨r0,h0,BZ z0 z1 l c hz0 hz1 rs _ sd h1⟩
 ·have h5:c % 5<2:=Classical.byContradiction fun z=>h1 (.inl z)
  have hne:rs≠[]:=fun z=>h1 (.inr z)
  have hlen:0<rs.length:=List.length_pos_iff.mpr hne
  have nn:=B2 rs
  have he:rs.isEmpty=false:=by cases rs; exact absurd rfl hne; rfl
  rw [he] at nn
  have hk:=hU (i:=(sd:Int)) (show (0:Int)<(rs.length:Int) by omega)
  have a1:=Int.emod_nonneg (sd:Int) (show (rs.length:Int)≠0 by omega)
  have a2:=Int.emod_lt_of_pos (sd:Int) (show (0:Int)<(rs.length:Int) by omega)
  obtain ⟨k,ek⟩:∃ k:Nat,(sd:Int) % (rs.length:Int)=k:=⟨_,(Int.toNat_of_nonneg a1).symm⟩
  rw [ek] at hk a2
  have hkl:k<rs.length:=by omega
  have hQ:kr (rs.map rwD) (k:Int)=some (rwD rs[k]):=gj (j:=k) rfl (by simp [hkl])
  have hgk:=hg rs[k] (List.getElem_mem hkl)
  generalize rs[k]=q at hQ hgk
  have hn:((rs.map rwD).length:Int)=(rs.length:Int):=by simp
  cases hl:q.isLook with
  | true=>exact ⟨r0,h0,wx z0 z1 l c hz0 hz1 _ _ _ _ sd k _ h5 nn hn hk hQ (ce q) (by rw [tJ,hl]; rfl)⟩
  | false=>
   have ql:neD (.str q.wd) (.str "look")=some (.bool true):=by rw [tJ,hl]; rfl
   have qs:=Ho q
   by_cases hsc:(∃ i j,q=.pl (.sign i j))\/(∃ i j,q=.pl (.cross i j))
   ·rcases hsc with ⟨i,j,rfl⟩ | ⟨i,j,rfl⟩
    ·have st:=oS z0 z1 l c hz0 hz1 (rs.map rwD) (rwD r0) _ (rwD (.pl (.sign j i))) _ sd k _ true h5 nn hn hk hQ (ce _) ql qs (fun _=>⟨_,_,at1 _ _ _,CY _ _ _ _,rfl⟩)
     by_cases h2:(sd:Int) / 64 % 2=1
     ·rw [if_pos ⟨rfl,h2⟩] at st; exact ⟨.pl (.sign j i),hP1 _ _ hgk,st⟩
     ·rw [if_neg (fun z=>h2 z.2)] at st; exact ⟨_,hgk,st⟩
    ·have st:=oS z0 z1 l c hz0 hz1 (rs.map rwD) (rwD r0) _ (rwD (.pl (.cross j i))) _ sd k _ true h5 nn hn hk hQ (ce _) ql qs (fun _=>⟨_,_,at1 _ _ _,CY _ _ _ _,rfl⟩)
     by_cases h2:(sd:Int) / 64 % 2=1
     ·rw [if_pos ⟨rfl,h2⟩] at st; exact ⟨.pl (.cross j i),hP2 _ _ hgk,st⟩
     ·rw [if_neg (fun z=>h2 z.2)] at st; exact ⟨_,hgk,st⟩
   ·have qs':de false (.str q.wd) (.tuple [.str "sign",.str "cross"])=some (.bool false):=by
     rw [qs]
     cases q with
     | pl r=>
      cases r with
      | sign i j=>exact absurd (.inl ⟨i,j,rfl⟩) hsc
      | cross i j=>exact absurd (.inr ⟨i,j,rfl⟩) hsc
      | _=>rfl
     | _=>rfl
    have st:=oS z0 z1 l c hz0 hz1 (rs.map rwD) (rwD r0) (rwD q) .none _ sd k _ false h5 nn hn hk hQ (ce _) ql qs' (fun z=>nomatch z)
    rw [if_neg (fun z=>nomatch z.1)] at st
    exact ⟨q,hgk,st⟩
theorem AW (z0 z1 z2 z4 z6:Sl) (l:Int) (R j:D) (q:Str) (s:Bool) (q0:aC R (.int 0)=some (.str q)) (e:aH (.str q) (.str "look")=some (.bool s)) (hj:s=true->aC R (.int 1)=some j):Db [z0,z1,z2,.fz (.int l),z4,.fz R,z6]=some (.nx,[z0,z1,z2,.fz (.int l),z4,.fz (if s=true/\l=3 then .tuple [.str "swing",j] else R),z6]):=by
 cases s with
 | false=>simp [-sSeq,-sIf,ag,aq,Db,q0,e]
 | true=>
  have hj:=hj rfl
  by_cases h:l=3
  ·subst h
   simp [-sSeq,-sIf,ag,aq,Db,q0,e,hj]
  ·simp [-sSeq,-sIf,ag,aq,Db,q0,e,hj,h]
theorem BY (z0 z1 z2 z4 z6:Sl) (l:Int) (r:Rw) (P:Rw->Prop) (hP:∀ j,P (.pl (.swing j))) (hr:P r):∃ r':Rw,P r'/\Db [z0,z1,z2,.fz (.int l),z4,.fz (rwD r),z6]=some (.nx,[z0,z1,z2,.fz (.int l),z4,.fz (rwD r'),z6]):=by
 cases h:r.isLook with
 | false=>
  have st:=AW z0 z1 z2 z4 z6 l (rwD r) .none _ false (ce r) (by rw [fU,h]) (fun z=>nomatch z)
  rw [if_neg (fun z=>nomatch z.1)] at st
  exact ⟨r,hr,st⟩
 | true=>
  cases r with
  | look j=>
   have st:=AW z0 z1 z2 z4 z6 l (rwD (.look j)) (.int j) _ true (ce _) (fU _) (fun _=>at1 _ _ _)
   by_cases hl:l=3
   ·rw [if_pos ⟨rfl,hl⟩] at st; exact ⟨.pl (.swing j),hP j,st⟩
   ·rw [if_neg (fun z=>hl z.2)] at st; exact ⟨_,hr,st⟩
  | _=>cases h
theorem Eo (z0 z1 z2 z4 z6:Sl) (l l':Int) (R:D) (q:Str) (s:Bool) (q0:aC R (.int 0)=some (.str q)) (e:aH (.str q) (.str "look")=some (.bool s)) (hl:l+(if s=true then 1 else 0)=l'):G4 [z0,z1,z2,.fz (.int l),z4,.fz R,z6]=some (.nx,[z0,z1,z2,.fz (.int l'),z4,.fz R,z6]):=by
 simp [-sSeq,-sIf,ag,aq,G4,q0,e,hl]
theorem En (z0 z1 z3 z4 z6:Sl) (ds:List D) (R:D) (hs:ds.length<sizeLine):G3 [z0,z1,.ow ds,z3,z4,.fz R,z6]=some (.nx,[z0,z1,.ow (ds++[R]),z3,z4,.fz R,z6]):=by
 simp [-sSeq,-sIf,ag,aq,G3,hs]
theorem Er (z0 z2 z6 z5:Sl) (w l c:Int) (R:D) (h:aR [.int c,.int w,.int l,.bool false]=some R):G6 [z0,.fz (.int w),z2,.fz (.int l),.fz (.int c),z5,z6]=some (.nx,[z0,.fz (.int w),z2,.fz (.int l),.fz (.int c),.fz R,z6]):=by
 simp [-sSeq,-sIf,ag,aq,G6,h]
theorem Ep (z0 z1 z2 z3 z5 z6:Sl) (c T:Int) (h:bt [.int (c / 5),.int 86028121]=some (.int T)):G5 [z0,z1,z2,z3,.fz (.int c),z5,z6]=some (.nx,[z0,z1,z2,z3,.fz (.int c),z5,.fz (.int (T / 7))]):=by
 simp [-sSeq,-sIf,ag,aq,G5,h]
def mb (l:Nat):Rw->Prop
 | .wflip m _=>m<l
 | .wsign m _=>m<l
 | _=>True
theorem Ez {w l:Nat} {r:Rw} (h:r.ok w l):mb l r:=by
 cases r with
 | wflip m j=>exact h.1
 | wsign m j=>exact h.1
 | _=>exact trivial
theorem wE {l l':Nat} {r:Rw} (h:mb l r) (hl:l<=l'):mb l' r:=by
 cases r with
 | wflip m j=>exact Nat.lt_of_lt_of_le h hl
 | wsign m j=>exact Nat.lt_of_lt_of_le h hl
 | _=>exact trivial
noncomputable def gC (rs:List Rw):Nat:=rs.countP Rw.isLook
structure Ord (rs:List Rw):Prop where
 gd:∀ r∈rs,eR r
 al:∀ r∈rs,mb (gC rs) r
 at_:∀ i (h:i<rs.length),mb (gC (rs.take i)) rs[i]
theorem oX (a b:List Rw):gC (a++b)=gC a+gC b:=List.countP_append
theorem tK (r:Rw):gC [r]=if r.isLook=true then 1 else 0:=by simp [gC]
theorem Ord.nil:Ord []:=⟨fun _ h=>(nomatch h),fun _ h=>(nomatch h),fun _ h=>absurd h (Nat.not_lt_zero _)⟩
theorem Ord.snoc {rs:List Rw} (h:Ord rs) {r:Rw} (g:eR r) (m:mb (gC rs) r):Ord (rs++[r]):=by
 refine ⟨fun x hx=>?_,fun x hx=>?_,fun i hi=>?_⟩
 ·rcases List.mem_append.mp hx with z | z
  ·exact h.gd x z
  ·rw [List.mem_singleton.mp z]; exact g
 ·refine wE (l:=gC rs) ?_ (by rw [oX]; omega)
  rcases List.mem_append.mp hx with z | z
  ·exact h.al x z
  ·rw [List.mem_singleton.mp z]; exact m
 ·by_cases q:i<rs.length
  ·rw [List.getElem_append_left q,List.take_append_of_le_length (by omega)]
   exact h.at_ i q
  ·have e:i=rs.length:=by simp at hi; omega
   subst e
   simpa using m
theorem rZ (C:D) (w:Nat) (hw:1<=w) (l:Nat) (c:Int) (rs:List Rw) (hg:Ord rs) (hL:gC rs=l) (hs:rs.length<1000) (z5 z6:Sl):∃ (r':Rw) (y5 y6:Sl),eR r'/\mb l r'/\da [.fz C,.fz (.int w),.ow (rs.map rwD),.fz (.int l),.fz (.int c),z5,z6]=some (.nx,[.fz C,.fz (.int w),.ow ((rs++[r']).map rwD),.fz (.int (gC (rs++[r']):Nat)),.fz (.int c),y5,y6]):=by
 obtain ⟨r0,e0,ok0,_⟩:=zH c w l hw false
 obtain ⟨T,eT⟩:=zG (c / 5) 86028121 (by decide)
 obtain ⟨r1,g1,e2⟩:=B0 (.fz C) (.fz (.int w)) rfl rfl l c rs (fun r=>eR r/\mb l r) (fun i j h=>⟨Ne.symm h.1,trivial⟩) (fun i j h=>⟨Ne.symm h.1,trivial⟩) (fun r hr=>⟨hg.gd r hr,hL ▸ hg.al r hr⟩) r0 ⟨Am ok0,Ez ok0⟩ (T / 7)
 obtain ⟨r2,g2,e3⟩:=BY (.fz C) (.fz (.int w)) (.ow (rs.map rwD)) (.fz (.int c)) (.fz (.int ((T / 7:Nat):Int))) l r1 (fun r=>eR r/\mb l r) (fun _=>⟨trivial,trivial⟩) g1
 have e4:=Eo (.fz C) (.fz (.int w)) (.ow (rs.map rwD)) (.fz (.int c)) (.fz (.int ((T / 7:Nat):Int))) l ((gC (rs++[r2]):Nat):Int) (rwD r2) _ _ (ce r2) (fU r2) (by rw [oX,tK,hL]; cases r2.isLook <;> simp)
 have e5:=En (.fz C) (.fz (.int w)) (.fz (.int ((gC (rs++[r2]):Nat):Int))) (.fz (.int c)) (.fz (.int ((T / 7:Nat):Int))) (rs.map rwD) (rwD r2) (by rw [List.length_map]; show _<16777216; omega)
 refine ⟨r2,.fz (rwD r2),.fz (.int ((T / 7:Nat):Int)),g2.1,g2.2,?_⟩
 have e1:=Ep (.fz C) (.fz (.int w)) (.ow (rs.map rwD)) (.fz (.int l)) (.fz (rwD r0)) z6 c T eT
 rw [show ((T:Int) / 7)=((T / 7:Nat):Int) by omega] at e1
 rw [wv,lL (Er (.fz C) (.ow (rs.map rwD)) z6 z5 w l c _ e0),lL e1,lL e2,lL e3,lL e4,e5]
 simp
theorem lR (C:D) (w:Nat) (hw:1<=w):∀ (cs:List Int) (l:Nat) (rs:List Rw),Ord rs->gC rs=l->rs.length+cs.length<=1000->∀ z4 z5 z6,∃ (rs':List Rw) (y3 y4 y5 y6:Sl),Ord rs'/\rs'.length=rs.length+cs.length/\loop (gN 4) da (cs.map .int) [.fz C,.fz (.int w),.ow (rs.map rwD),.fz (.int l),z4,z5,z6]=some (.nx,[.fz C,.fz (.int w),.ow (rs'.map rwD),y3,y4,y5,y6])
 | [],l,rs,hg,_,_,z4,z5,z6=>⟨rs,.fz (.int l),z4,z5,z6,hg,by simp,rfl⟩
 | c::cs,l,rs,hg,hL,hl,z4,z5,z6=>by
  simp only [List.length_cons] at hl
  obtain ⟨r',y5,y6,g,m,st⟩:=rZ C w hw l c rs hg hL (by omega) z5 z6
  obtain ⟨rs',y3,y4,y5',y6',h1,h2,e⟩:=lR C w hw cs _ (rs++[r']) (hg.snoc g (hL ▸ m)) rfl (by simp; omega) (.fz (.int c)) y5 y6
  refine ⟨rs',y3,y4,y5',y6',h1,by rw [h2]; simp; omega,?_⟩
  rw [List.map_cons,b8 (δ1:=[.fz C,.fz (.int w),.ow (rs.map rwD),.fz (.int l),.fz (.int c),z5,z6]) (by simp) st,e]
theorem ww (w:Nat) (hw:1<=w) (cs:List Int) (hl:cs.length<=1000):∃ rs:List Rw,Ord rs/\rs.length=cs.length/\cy [.list (cs.map .int),.int w]=some (bR w rs):=by
 obtain ⟨rs,y3,y4,y5,y6,h1,h2,e⟩:=lR (.list (cs.map .int)) w hw cs 0 [] Ord.nil rfl (by simpa using hl) .un .un .un
 refine ⟨rs,h1,by simpa using h2,?_⟩
 have e':loop (gN 4) da (cs.map .int) [.fz (.list (cs.map .int)),.fz (.int w),.ow [],.fz (.int 0),.un,.un,.un]=_:=e
 simp [-sSeq,-sIf,ag,aq,cy,runB,gS,aj,e',dFz,bR]
noncomputable def Rw.n1:Rw->Nat
 | .pl (.swing j)=>j
 | .pl (.turn j _)=>j
 | .pl (.flip j)=>j
 | .pl (.tie i _)=>i
 | .pl (.sign i _)=>i
 | .pl (.cross i _)=>i
 | .look j=>j
 | .wflip m _=>m
 | .wsign m _=>m
theorem yM (r:Rw):gY (rwD r) none (some 2)=some (.tuple [.str r.wd,.int r.n1]):=by
 cases r with
 | pl r=>cases r <;> rfl
 | _=>rfl
theorem qm (r:Rw):aC (rwD r) (.int 1)=some (.int r.n1):=by
 cases r with
 | pl r=>cases r <;> exact at1 _ _ _
 | _=>exact at1 _ _ _
noncomputable def Rw.isT:Rw->Bool
 | .pl (.turn _ _)=>true
 | _=>false
noncomputable def Rw.isS:Rw->Bool
 | .pl (.swing _)=>true
 | _=>false
noncomputable def Rw.isTL:Rw->Bool
 | .pl (.turn _ _)=>true
 | .look _=>true
 | _=>false
noncomputable def Rw.isSC:Rw->Bool
 | .pl (.sign _ _)=>true
 | .pl (.cross _ _)=>true
 | _=>false
theorem lj (r:Rw):aH (.str r.wd) (.str "turn")=some (.bool r.isT):=by
 cases r with
 | pl r=>cases r <;> simp [Rw.wd,Rw.isT]
 | _=>simp [Rw.wd,Rw.isT]
theorem qS (r:Rw):aH (.str r.wd) (.str "swing")=some (.bool r.isS):=by
 cases r with
 | pl r=>cases r <;> simp [Rw.wd,Rw.isS]
 | _=>simp [Rw.wd,Rw.isS]
theorem gZ (r:Rw):(r.wd==("swing":Str))=r.isS:=by
 have h:=qS r
 rw [cS (d7 r) aU] at h
 simpa using h
theorem lS (r:Rw):neD (.str r.wd) (.str "swing")=some (.bool (!r.isS)):=by rw [G8 (d7 r) aU,gZ]
theorem EQ (r:Rw):de false (.str r.wd) (.tuple [.str "turn",.str "look"])=some (.bool r.isTL):=by
 cases r with
 | pl r=>cases r <;> rfl
 | _=>rfl
theorem tT (r:Rw):de false (.str r.wd) (.tuple [.str "sign",.str "cross"])=some (.bool r.isSC):=by
 cases r with
 | pl r=>cases r <;> rfl
 | _=>rfl
theorem g7 {k:Nat} {d:D} (h:MA.Sh k d) (hk:k<=64):kU d=true:=by
 show (PyData.canLay0 _&&decide (PyData.depth _<=64))=true
 rw [h.1,decide_eq_true (Nat.le_trans h.2 hk)]; rfl
theorem sY (r:Rw):kU (rwD r)=true:=g7 (GQ r) (by decide)
theorem rT {s:Str} (k:Nat) (h:iw s=true):MA.Sh k (.str s):=⟨uA h,by simp [PyData.depth]⟩
theorem Fn {a b:Str} (ha:iw a=true) (hb:iw b=true) (x y:Int):aH (.tuple [.str a,.int x]) (.tuple [.str b,.int y])=some (.bool (a==b&&x==y)):=by
 have h:∀ {a:Str},iw a=true->∀ x:Int,kU (.tuple [.str a,.int x])=true:=fun ha x=>g7 (k:=1) (MA.Sh.tuple fun z hz=>by
  simp only [List.mem_cons,List.not_mem_nil,or_false] at hz
  rcases hz with rfl | rfl
  ·exact rT 0 ha
  ·exact MA.Sh.int 0 _) (by decide)
 unfold aH
 rw [if_pos ⟨h ha x,h hb y⟩]
 simp [PyData.eqv,PyData.eqvAll]
theorem HH (a b c d:Int):aH (.tuple [.int a,.int b]) (.tuple [.int c,.int d])=some (.bool (a==c&&b==d)):=by
 have h:∀ x y:Int,kU (.tuple [.int x,.int y])=true:=fun x y=>g7 (k:=1) (MA.Sh.tuple fun z hz=>by
  simp only [List.mem_cons,List.not_mem_nil,or_false] at hz
  rcases hz with rfl | rfl <;> exact MA.Sh.int 0 _) (by decide)
 unfold aH
 rw [if_pos ⟨h a b,h c d⟩]
 simp [PyData.eqv,PyData.eqvAll]
theorem HG (a b c d:Int):aH (.list [.int a,.int b]) (.list [.int c,.int d])=some (.bool (a==c&&b==d)):=by
 have h:∀ x y:Int,kU (.list [.int x,.int y])=true:=fun x y=>g7 (k:=1) (MA.Sh.list fun z hz=>by
  simp only [List.mem_cons,List.not_mem_nil,or_false] at hz
  rcases hz with rfl | rfl <;> exact MA.Sh.int 0 _) (by decide)
 unfold aH
 rw [if_pos ⟨h a b,h c d⟩]
 simp [PyData.eqv,PyData.eqvAll]
noncomputable def te (r q:Rw):Bool:=r.wd==q.wd&&((r.n1:Int)==q.n1)
theorem sV (r q:Rw):te r q=te q r:=by
 unfold te
 rw [Bool.beq_comm (a:=r.wd),Bool.beq_comm (a:=(r.n1:Int))]
theorem AR (r q:Rw):aH (.tuple [.str r.wd,.int r.n1]) (.tuple [.str q.wd,.int q.n1])=some (.bool (te r q)):=Fn (d7 r) (d7 q) _ _
noncomputable def mP (r q:Rw):Bool:=PyData.eqv (rwD r) (rwD q)
theorem sH (r q:Rw):aH (rwD r) (rwD q)=some (.bool (mP r q)):=if_pos ⟨sY r,sY q⟩
theorem CI (r q:Rw):neD (rwD r) (rwD q)=some (.bool (!mP r q)):=if_pos ⟨sY r,sY q⟩
theorem lN (r:Rw):∃ t,rwD r=.tuple (.str r.wd::t):=by
 cases r with
 | pl r=>cases r <;> exact ⟨_,rfl⟩
 | _=>exact ⟨_,rfl⟩
theorem sF {r q:Rw} (h:mP r q=true):r.wd=q.wd:=by
 obtain ⟨t,e⟩:=lN r
 obtain ⟨u,f⟩:=lN q
 unfold mP at h
 rw [e,f] at h
 simp [PyData.eqv,PyData.eqvAll] at h
 exact h.1
theorem sG {r q:Rw} (h:(r.wd==q.wd)=false):mP r q=false:=by
 cases e:mP r q with
 | false=>rfl
 | true=>rw [sF e] at h; simp at h
theorem Gp (A B:D) (a b:Str) (s1 s2 c v e:Bool) (a0:aC A (.int 0)=some (.str a)) (b0:aC B (.int 0)=some (.str b)) (h1:de false (.str a) (.tuple [.str "turn",.str "look"])=some (.bool s1)) (h2:de false (.str a) (.tuple [.str "sign",.str "cross"])=some (.bool s2)) (e1:aH (.str a) (.str b)=some (.bool c)) (hw:s2=true->c=true->∃ W V,bf [A]=some W/\bf [B]=some V/\aH W V=some (.bool v)) (he:aH A B=some (.bool e)):bJ [A,B]=some (.bool (if s1 then false else if s2 then c&&v else e)):=by
 cases s1 with
 | true=>simp [-sSeq,-sIf,ag,aq,bJ,runB,dy,aj,a0,h1]
 | false=>
  cases s2 with
  | false=>simp [-sSeq,-sIf,ag,aq,bJ,runB,dy,aj,a0,h1,h2,he]
  | true=>
   cases c with
   | false=>simp [-sSeq,-sIf,ag,aq,bJ,runB,dy,aj,a0,b0,h1,h2,e1]
   | true=>
    obtain ⟨W,V,w1,w2,w3⟩:=hw rfl rfl
    simp [-sSeq,-sIf,ag,aq,bJ,runB,dy,aj,a0,b0,h1,h2,e1,w1,w2,w3]
theorem Ha (A B:D) (a b:Str) (s1 s2 c v e:Bool) (a0:aC A (.int 0)=some (.str a)) (b0:aC B (.int 0)=some (.str b)) (h1:de false (.str a) (.tuple [.str "turn",.str "look"])=some (.bool s1)) (h2:de false (.str a) (.tuple [.str "sign",.str "cross"])=some (.bool s2)) (e1:aH (.str a) (.str b)=some (.bool c)) (hw:s2=true->c=true->∃ SA SB W V,gY A (some 1) none=some SA/\gY B (some 1) none=some SB/\cV SA=some W/\cV SB=some V/\aH W V=some (.bool v)) (he:aH A B=some (.bool e)):bK [A,B]=some (.bool (if s1 then false else if s2&&c then v else e)):=by
 cases s1 with
 | true=>simp [-sSeq,-sIf,ag,aq,bK,runB,dA,aj,a0,h1]
 | false=>
  cases s2 with
  | false=>simp [-sSeq,-sIf,ag,aq,bK,runB,dA,aj,a0,h1,h2,he]
  | true=>
   cases c with
   | false=>simp [-sSeq,-sIf,ag,aq,bK,runB,dA,aj,a0,b0,h1,h2,e1,he]
   | true=>
    obtain ⟨SA,SB,W,V,w1,w2,w3,w4,w5⟩:=hw rfl rfl
    simp [-sSeq,-sIf,ag,aq,bK,runB,dA,aj,a0,b0,h1,h2,e1,w1,w2,w3,w4,w5]
theorem DO (i j:Nat):cV (.tuple [.int i,.int j])=some (.list [.int (min i j:Nat),.int (max i j:Nat)]):=by
 have h:gK [(i:Int),(j:Int)]=[((min i j:Nat):Int),((max i j:Nat):Int)]:=by
  simp only [gK,qJ]
  split
  ·rename_i h; rw [Nat.min_eq_left (by omega),Nat.max_eq_right (by omega)]
  ·rename_i h; rw [Nat.min_eq_right (by omega),Nat.max_eq_left (by omega)]
 show some (PyData.list ((gK [(i:Int),(j:Int)]).map .int))=_
 rw [h]; rfl
noncomputable def w2:Rw->Nat×Nat
 | .pl (.sign i j)=>(min i j,max i j)
 | .pl (.cross i j)=>(min i j,max i j)
 | _=>(0,0)
noncomputable def un (r q:Rw):Bool:=if r.isTL then false else if r.isSC then (r.wd==q.wd&&(((w2 r).1:Int)==(w2 q).1&&((w2 r).2:Int)==(w2 q).2)) else mP r q
theorem pW {r:Rw} (h:r.isSC=true):bf [rwD r]=some (.tuple [.int (w2 r).1,.int (w2 r).2]):=by
 have:=ja r
 cases r with
 | pl r=>cases r <;> first | exact this | cases h
 | _=>cases h
theorem sZ {r:Rw} (h:r.isSC=true):∃ S,gY (rwD r) (some 1) none=some S/\cV S=some (.list [.int (w2 r).1,.int (w2 r).2]):=by
 cases r with
 | pl r=>cases r <;> first | exact ⟨_,sl3 _ _ _,DO _ _⟩ | cases h
 | _=>cases h
theorem s9 {r q:Rw} (h:r.isSC=true) (e:(r.wd==q.wd)=true):q.isSC=true:=by
 have a:=tT r
 have b:=tT q
 rw [eq_of_beq e] at a
 rw [a] at b
 simp at b
 rw [<- b,h]
theorem Du (r q:Rw):bJ [rwD r,rwD q]=some (.bool (un r q)):=by
 have:=Gp (rwD r) (rwD q) r.wd q.wd r.isTL r.isSC (r.wd==q.wd) (((w2 r).1:Int)==(w2 q).1&&((w2 r).2:Int)==(w2 q).2) (mP r q) (ce r) (ce q) (EQ r) (tT r) (cS (d7 r) (d7 q)) (fun h c=>⟨_,_,pW h,pW (s9 h c),HH _ _ _ _⟩) (sH r q)
 exact this
theorem EA (r q:Rw):bK [rwD r,rwD q]=some (.bool (un r q)):=by
 have:=Ha (rwD r) (rwD q) r.wd q.wd r.isTL r.isSC (r.wd==q.wd) (((w2 r).1:Int)==(w2 q).1&&((w2 r).2:Int)==(w2 q).2) (mP r q) (ce r) (ce q) (EQ r) (tT r) (cS (d7 r) (d7 q)) (fun h c=>by
  obtain ⟨S,a1,a2⟩:=sZ h
  obtain ⟨S',b1,b2⟩:=sZ (s9 h c)
  exact ⟨_,_,_,_,a1,b1,a2,b2,HG _ _ _ _⟩) (sH r q)
 rw [this]
 unfold un
 cases h1:r.isTL with
 | true=>rfl
 | false=>
  cases h2:r.isSC with
  | false=>rfl
  | true=>
   cases h3:(r.wd==q.wd) with
   | true=>simp
   | false=>simp [sG h3]
noncomputable def cF (r:Rw) (w:Nat):Option Rw:=match r with
 | .pl (.flip j)=>if j=w then some (.pl (.turn w 4)) else none
 | .pl (.turn j e)=>if j=w/\e=4 then some (.pl (.flip w)) else none
 | .pl (.tie i j)=>if j=w then some (.pl (.sign i w)) else none
 | .pl (.sign i j)=>if i=w then some (.pl (.tie j w)) else if j=w then some (.pl (.tie i w)) else none
 | .wflip m j=>if j=w then some (.wsign m w) else none
 | .wsign m j=>if j=w then some (.wflip m w) else none
 | _=>none
theorem vH {r r':Rw} {w:Nat} (h:cF r w=some r'):w∈wl r:=by
 cases r with
 | pl r=>
  cases r with
  | flip j=>simp [cF] at h; simp [wl,h]
  | turn j e=>simp [cF] at h; simp [wl,h]
  | tie i j=>
   simp only [cF] at h
   split at h
   ·rename_i e; subst e
    simp only [wl,List.mem_cons,List.not_mem_nil,or_false]; omega
   ·cases h
  | sign i j=>
   simp only [cF] at h
   split at h
   ·rename_i e; subst e
    simp only [wl,List.mem_cons,List.not_mem_nil,or_false]; omega
   ·split at h
    ·rename_i e; subst e
     simp only [wl,List.mem_cons,List.not_mem_nil,or_false]; omega
    ·cases h
  | _=>cases h
 | look j=>cases h
 | wflip m j=>simp [cF] at h; simp [wl,h]
 | wsign m j=>simp [cF] at h; simp [wl,h]
noncomputable def kY:Option Rw->D
 | some r=>rwD r
 | none=>.none
theorem FU (s:Str) (h:iw s=true) (l:List Int):kU (.tuple (.str s::l.map .int))=true:=g7 (k:=1) (MA.Sh.tuple fun z hz=>by
  rcases List.mem_cons.mp hz with rfl | hz
  ·exact rT 0 h
  ·obtain ⟨i,_,rfl⟩:=List.mem_map.mp hz
   exact MA.Sh.int 0 _) (by decide)
theorem vp {a b:Str} (ha:iw a=true) (hb:iw b=true) (h:(a==b)=false) (l m:List Int):aH (.tuple (.str a::l.map .int)) (.tuple (.str b::m.map .int))=some (.bool false):=by
 unfold aH
 rw [if_pos ⟨FU a ha l,FU b hb m⟩]
 simp at h
 simp [PyData.eqv,PyData.eqvAll,h]
theorem eqF (j w:Int):aH (.tuple [.str "flip",.int j]) (.tuple [.str "flip",.int w])=some (.bool (j==w)):=by
 rw [Fn aP aP]; simp
theorem m3 (j e w f:Int):aH (.tuple [.str "turn",.int j,.int e]) (.tuple [.str "turn",.int w,.int f])=some (.bool (j==w&&e==f)):=by
 unfold aH
 rw [if_pos ⟨FU _ aO [j,e],FU _ aO [w,f]⟩]
 simp [PyData.eqv,PyData.eqvAll]
theorem Dq (j e w:Int):aH (.tuple [.str "turn",.int j,.int e]) (.tuple [.str "flip",.int w])=some (.bool false):=vp aO aP (by decide +kernel) [j,e] [w]
theorem Il (j e w:Int):aH (.tuple [.str "flip",.int j]) (.tuple [.str "turn",.int w,.int e])=some (.bool false):=vp aP aO (by decide +kernel) [j] [w,e]
theorem FQ (j e w:Int):aH (.tuple [.str "tie",.int j,.int e]) (.tuple [.str "flip",.int w])=some (.bool false):=vp bD aP (by decide +kernel) [j,e] [w]
theorem FP (j e w f:Int):aH (.tuple [.str "tie",.int j,.int e]) (.tuple [.str "turn",.int w,.int f])=some (.bool false):=vp bD aO (by decide +kernel) [j,e] [w,f]
theorem Ds (j e w:Int):aH (.tuple [.str "sign",.int j,.int e]) (.tuple [.str "flip",.int w])=some (.bool false):=vp bo aP (by decide +kernel) [j,e] [w]
theorem Dr (j e w f:Int):aH (.tuple [.str "sign",.int j,.int e]) (.tuple [.str "turn",.int w,.int f])=some (.bool false):=vp bo aO (by decide +kernel) [j,e] [w,f]
theorem Io (j e w:Int):aH (.tuple [.str "cross",.int j,.int e]) (.tuple [.str "flip",.int w])=some (.bool false):=vp bE aP (by decide +kernel) [j,e] [w]
theorem Im (j e w f:Int):aH (.tuple [.str "cross",.int j,.int e]) (.tuple [.str "turn",.int w,.int f])=some (.bool false):=vp bE aO (by decide +kernel) [j,e] [w,f]
theorem Ik (j w:Int):aH (.tuple [.str "swing",.int j]) (.tuple [.str "flip",.int w])=some (.bool false):=vp aU aP (by decide +kernel) [j] [w]
theorem Ij (j w f:Int):aH (.tuple [.str "swing",.int j]) (.tuple [.str "turn",.int w,.int f])=some (.bool false):=vp aU aO (by decide +kernel) [j] [w,f]
theorem Ii (j w:Int):aH (.tuple [.str "look",.int j]) (.tuple [.str "flip",.int w])=some (.bool false):=vp aT aP (by decide +kernel) [j] [w]
theorem Ih (j w f:Int):aH (.tuple [.str "look",.int j]) (.tuple [.str "turn",.int w,.int f])=some (.bool false):=vp aT aO (by decide +kernel) [j] [w,f]
section
variable (G:List D->Option D)
theorem tw (j w:Nat):runB bM 2 (aK G) [.tuple [.str "flip",.int j],.int w]=some (kY (cF (.pl (.flip j)) w)):=by
 by_cases h:j=w
 ·subst h
  simp [-sSeq,-sIf,ag,aq,runB,aK,aj,eqF,cF,kY,rwD,rowD]
 ·have h':¬ (j:Int)=w:=by omega
  simp [-sSeq,-sIf,ag,aq,runB,aK,aj,eqF,Il,cF,kY,rwD,rowD,h,h']
theorem tu (j e w:Nat):runB bM 2 (aK G) [.tuple [.str "turn",.int j,.int e],.int w]=some (kY (cF (.pl (.turn j e)) w)):=by
 by_cases h:j=w/\e=4
 ·obtain ⟨rfl,rfl⟩:=h
  have:=Dq j 4 j
  have:=m3 j 4 j 4
  simp [-sSeq,-sIf,ag,aq,runB,aK,aj,Dq,m3,cF,kY,rwD,rowD]
 ·have h':(((j:Int)==w)&&((e:Int)==4))=false:=by
   cases q:(((j:Int)==w)&&((e:Int)==4)) with
   | false=>rfl
   | true=>simp at q; exact absurd ⟨by omega,by omega⟩ h
  have u:=m3 j e w 4
  rw [h'] at u
  have s:cF (.pl (.turn j e)) w=none:=by simp only [cF]; rw [if_neg h]
  simp [-sSeq,-sIf,ag,aq,runB,aK,aj,Dq,u,s,kY]
theorem BB (i j w:Nat):runB bM 2 (aK G) [.tuple [.str "tie",.int i,.int j],.int w]=some (kY (cF (.pl (.tie i j)) w)):=by
 by_cases h:j=w
 ·subst h
  simp [-sSeq,-sIf,ag,aq,runB,aK,aj,FQ,FP,cF,kY,rwD,rowD]
 ·have h':¬ (j:Int)=w:=by omega
  simp [-sSeq,-sIf,ag,aq,runB,aK,aj,FQ,FP,cF,kY,rwD,rowD,h,h']
theorem yV (i j w:Nat) (hw:w=i\/w=j):runB bM 2 (aK G) [.tuple [.str "sign",.int i,.int j],.int w]=some (kY (cF (.pl (.sign i j)) w)):=by
 by_cases h:i=w
 ·subst h
  simp [-sSeq,-sIf,ag,aq,runB,aK,aj,Ds,Dr,cF,kY,rwD,rowD]
 ·have h':¬ (i:Int)=w:=by omega
  have h2:j=w:=by omega
  subst h2
  simp [-sSeq,-sIf,ag,aq,runB,aK,aj,Ds,Dr,cF,kY,rwD,rowD,h,h']
theorem yW (j w:Nat):runB bM 2 (aK G) [.tuple [.str "swing",.int j],.int w]=some .none:=by
 simp [-sSeq,-sIf,ag,aq,runB,aK,aj,Ik,Ij]
theorem vY (i j w:Nat):runB bM 2 (aK G) [.tuple [.str "cross",.int i,.int j],.int w]=some .none:=by
 simp [-sSeq,-sIf,ag,aq,runB,aK,aj,Io,Im]
theorem yX (j w:Nat):runB bM 2 (aK G) [.tuple [.str "look",.int j],.int w]=some .none:=by
 simp [-sSeq,-sIf,ag,aq,runB,aK,aj,Ii,Ih]
theorem qb (m w:Int) (I J:D) (h:G [I,.int w]=some J):runB bM 2 (aK G) [.tuple [.str "where",.int m,I],.int w]=some (.tuple [.str "where",.int m,J]):=by
 simp [-sSeq,-sIf,ag,aq,runB,aK,aj,h]
theorem G9 {i j w:Nat} (h:w∈[min i j,max i j]):w=i\/w=j:=by
 simp only [List.mem_cons,List.not_mem_nil,or_false] at h; omega
theorem II {r:Rw} {w:Nat} (h:w∈wl r):ck [rwD r,.int w]=some (kY (cF r w)):=by
 cases r with
 | pl r=>
  cases r with
  | swing j=>exact yW (bb 7) j w
  | turn j e=>exact tu (bb 7) j e w
  | flip j=>exact tw (bb 7) j w
  | tie i j=>exact BB (bb 7) i j w
  | sign i j=>exact yV (bb 7) i j w (G9 h)
  | cross i j=>exact vY (bb 7) i j w
 | look j=>exact yX (bb 7) j w
 | wflip m j=>
  have e:w=j:=by simpa [wl] using h
  subst e
  have a:=qb (bb 7) m w _ _ (tw (bb 6) w w)
  have s:cF (.pl (.flip w)) w=some (.pl (.turn w 4)):=by simp [cF]
  have t:cF (.wflip m w) w=some (.wsign m w):=by simp [cF]
  rw [s] at a
  rw [t]
  exact a
 | wsign m j=>
  have e:w=j:=by simpa [wl] using h
  subst e
  have a:=qb (bb 7) m w _ _ (tu (bb 6) w 4 w)
  have s:cF (.pl (.turn w 4)) w=some (.pl (.flip w)):=by simp [cF]
  have t:cF (.wsign m w) w=some (.wflip m w):=by simp [cF]
  rw [s] at a
  rw [t]
  exact a
end
noncomputable def oG (o:Option Rw):D:=.list (o.toList.map rwD)
section
variable (G:List D->Option D)
theorem oW (j w:Nat):runB bj 2 (aF G) [.tuple [.str "flip",.int j],.int w]=some (oG (cF (.pl (.flip j)) w)):=by
 by_cases h:j=w
 ·subst h
  simp [-sSeq,-sIf,ag,aq,runB,aF,aj,eqF,cF,oG,rwD,rowD]
 ·have h':¬ (j:Int)=w:=by omega
  simp [-sSeq,-sIf,ag,aq,runB,aF,aj,eqF,Il,cF,oG,rwD,rowD,h,h']
theorem oU (j e w:Nat):runB bj 2 (aF G) [.tuple [.str "turn",.int j,.int e],.int w]=some (oG (cF (.pl (.turn j e)) w)):=by
 by_cases h:j=w/\e=4
 ·obtain ⟨rfl,rfl⟩:=h
  simp [-sSeq,-sIf,ag,aq,runB,aF,aj,Dq,m3,cF,oG,rwD,rowD]
 ·have h':(((j:Int)==w)&&((e:Int)==4))=false:=by
   cases q:(((j:Int)==w)&&((e:Int)==4)) with
   | false=>rfl
   | true=>simp at q; exact absurd ⟨by omega,by omega⟩ h
  have u:=m3 j e w 4
  rw [h'] at u
  have s:cF (.pl (.turn j e)) w=none:=by simp only [cF]; rw [if_neg h]
  simp [-sSeq,-sIf,ag,aq,runB,aF,aj,Dq,u,s,oG]
theorem B4 (i j w:Nat):runB bj 2 (aF G) [.tuple [.str "tie",.int i,.int j],.int w]=some (oG (cF (.pl (.tie i j)) w)):=by
 by_cases h:j=w
 ·subst h
  simp [-sSeq,-sIf,ag,aq,runB,aF,aj,FQ,FP,cF,oG,rwD,rowD]
 ·have h':¬ (j:Int)=w:=by omega
  simp [-sSeq,-sIf,ag,aq,runB,aF,aj,FQ,FP,cF,oG,rwD,rowD,h,h']
theorem Ht (w i j:Nat):de false (.int w) (.tuple [.int i,.int j])=some (.bool ([i,j].any (· == w))):=jz w [i,j]
theorem GZ (i j w:Nat):d3 G [.fz (.tuple [.str "sign",.int i,.int j]),.fz (.int w)]=some (.list (([i,j].filter fun x=>!(x==w)).map fun n:Nat=>.int n)):=by
 have:=eY (fi:=oI (iW (oV 0) (oP (oC (.int 1))) (kZ)) dc) (caps:=[(1,"wire")]) (ft:=ob (o2 (oV 0) (oV 1) neD)) (fe:=oV 0) (δ:=[.fz (.tuple [.str "sign",.int i,.int j]),.fz (.int w)]) (h:=fun n:Nat=>PyData.int n) (k:=fun n:Nat=>PyData.int n) (b:=fun x=>!(x==w)) (xs:=[i,j]) (by simp [sl3]) (by simp) (fun x _=>by
  simp [dN,lb]) (fun x _ _=>by simp)
 exact this
theorem zD (i j w:Nat) (hg:i≠j):runB bj 2 (aF G) [.tuple [.str "sign",.int i,.int j],.int w]=some (oG (cF (.pl (.sign i j)) w)):=by
 have p:=GZ G i j w
 have n:=Ht w i j
 by_cases h:i=w
 ·subst h
  have n':de false (.int i) (.tuple [.int i,.int j])=some (.bool true):=by rw [n]; simp
  have p':d3 G [.fz (.tuple [.str "sign",.int i,.int j]),.fz (.int i)]=some (.list [.int j]):=by
   have q:(j==i)=false:=by simpa using Ne.symm hg
   rw [p]; simp [List.filter,q]
  simp [-sSeq,-sIf,ag,aq,runB,aF,aj,Ds,Dr,sl3,n',p',cF,oG,rwD,rowD]
 ·by_cases h2:j=w
  ·subst h2
   have n':de false (.int j) (.tuple [.int i,.int j])=some (.bool true):=by rw [n]; simp
   have p':d3 G [.fz (.tuple [.str "sign",.int i,.int j]),.fz (.int j)]=some (.list [.int i]):=by
    have q:(i==j)=false:=by simpa using hg
    rw [p]; simp [List.filter,q]
   simp [-sSeq,-sIf,ag,aq,runB,aF,aj,Ds,Dr,sl3,n',p',cF,oG,rwD,rowD,h]
  ·have n':de false (.int w) (.tuple [.int i,.int j])=some (.bool false):=by rw [n]; simp [h,h2]
   simp [-sSeq,-sIf,ag,aq,runB,aF,aj,Ds,Dr,sl3,n',cF,oG,rwD,rowD,h,h2]
theorem zE (j w:Nat):runB bj 2 (aF G) [.tuple [.str "swing",.int j],.int w]=some (.list []):=by
 simp [-sSeq,-sIf,ag,aq,runB,aF,aj,Ik,Ij]
theorem wG (i j w:Nat):runB bj 2 (aF G) [.tuple [.str "cross",.int i,.int j],.int w]=some (.list []):=by
 simp [-sSeq,-sIf,ag,aq,runB,aF,aj,Io,Im]
theorem zF (j w:Nat):runB bj 2 (aF G) [.tuple [.str "look",.int j],.int w]=some (.list []):=by
 simp [-sSeq,-sIf,ag,aq,runB,aF,aj,Ii,Ih]
theorem jt (m w:Nat) (I:D) (L:List Rw) (hL:L.length<=1) (h:G [I,.int w]=some (.list (L.map rwD))):runB bj 2 (aF G) [.tuple [.str "where",.int m,I],.int w]=some (.list (L.map fun r=>.tuple [.str "where",.int m,rwD r])):=by
 have c:=fq (fi:=oI (VL.os (ac (o2 (oV 0) (oC (.int 2)) aC) (ac (oV 1) (ao))) G) dc) (caps:=[(0,"row")]) (fe:=VL.os (ac (oC (.str "where")) (ac (o2 (oV 1) (oC (.int 1)) aC) (ac (oV 0) (ao)))) be) (δ:=[.fz (.tuple [.str "where",.int m,I]),.fz (.int w)]) (h:=rwD) (k:=fun r=>.tuple [.str "where",.int m,rwD r]) (xs:=L) (by simp [h]) (by omega) (fun r _=>by simp [dN])
 have c':iE G [.fz (.tuple [.str "where",.int m,I]),.fz (.int w)]=_:=c
 simp [-sSeq,-sIf,ag,aq,runB,aF,aj,c']
theorem IJ {r:Rw} {w:Nat} (h:eR r):bW [rwD r,.int w]=some (oG (cF r w)):=by
 cases r with
 | pl r=>
  cases r with
  | swing j=>exact zE (aI 7) j w
  | turn j e=>exact oU (aI 7) j e w
  | flip j=>exact oW (aI 7) j w
  | tie i j=>exact B4 (aI 7) i j w
  | sign i j=>exact zD (aI 7) i j w h
  | cross i j=>exact wG (aI 7) i j w
 | look j=>exact zF (aI 7) j w
 | wflip m j=>
  by_cases q:j=w
  ·subst q
   have a:=jt (aI 7) m j _ [.pl (.turn j 4)] (Nat.le_refl 1) ((oW (aI 6) j j).trans (by simp [cF,oG]))
   have t:cF (.wflip m j) j=some (.wsign m j):=by simp [cF]
   rw [t]
   exact a
  ·have a:=jt (aI 7) m w _ [] (Nat.zero_le 1) ((oW (aI 6) j w).trans (by simp [cF,oG,q]))
   have t:cF (.wflip m j) w=none:=by simp [cF,q]
   rw [t]
   exact a
 | wsign m j=>
  by_cases q:j=w
  ·subst q
   have a:=jt (aI 7) m j _ [.pl (.flip j)] (Nat.le_refl 1) ((oU (aI 6) j 4 j).trans (by simp [cF,oG]))
   have t:cF (.wsign m j) j=some (.wflip m j):=by simp [cF]
   rw [t]
   exact a
  ·have a:=jt (aI 7) m w _ [] (Nat.zero_le 1) ((oU (aI 6) j 4 w).trans (by simp [cF,oG,q]))
   have t:cF (.wsign m j) w=none:=by simp [cF,q]
   rw [t]
   exact a
end
inductive Sp where
 | g (p q:Nat) | j (p q:Nat) | s (p q t:Nat)
deriving DecidableEq
def zpD:Sp->D
 | .g p q=>.tuple [.str "gone",.int p,.int q]
 | .j p q=>.tuple [.str "joined",.int p,.int q]
 | .s p q t=>.tuple [.str "swung",.int p,.int q,.int t]
noncomputable def ro (rs:List Rw) (q:Nat):Rw:=(rs[q]?).getD (.look 0)
theorem kB {rs:List Rw} {q:Nat} (h:q<rs.length):ro rs q=rs[q]:=by simp [ro,h]
theorem cI {rs:List Rw} {q:Nat} (h:q<rs.length):aC (.tuple (rs.map rwD)) (.int (q:Int))=some (rwD (ro rs q)):=by
 rw [kB h]
 exact gj (j:=q) rfl (by simp [h])
theorem pZ (a m:Nat):mS (a:Int) m=(List.range' a m).map fun q:Nat=>PyData.int q:=by
 rw [List.range'_eq_map_range,List.map_map]
 exact List.map_congr_left fun k _=>by simp
theorem yT {i j:Int} (h:i<4611686018427387904) (h2:-4611686018427387904<=i) (h3:j<4611686018427387904) (h4:-4611686018427387904<=j):dR [.int i,.int j]=some (mS i (j-i).toNat):=if_pos ⟨⟨h,h2⟩,h3,h4⟩
theorem gu {a b:Nat} (ha:a<=100000) (hb:b<=100000):dR [.int (a:Int),.int (b:Int)]=some ((List.range' a (b-a)).map fun q:Nat=>PyData.int q):=by
 rw [<- pZ,yT (by omega) (by omega) (by omega) (by omega),show ((b:Int)-a).toNat=b-a by omega]
noncomputable def g0 (rs:List Rw) (p q:Nat):List Sp:=(if un (ro rs p) (ro rs q) then [.g p q] else [])++(if (ro rs p).isT&&te (ro rs p) (ro rs q) then [.j p q] else [])
noncomputable def fC (rs:List Rw) (p:Nat):List Nat->List Sp
 | []=>[]
 | q::qs=>g0 rs p q++(if jx (ro rs p) (ro rs q) (-1) then fC rs p qs else [])
theorem Dx (R A B SA SB:D) (a:Str) (p q:Int) (ds:List D) (u t v l:Bool) (ra:aC R (.int p)=some A) (rb:aC R (.int q)=some B) (hu:bJ [A,B]=some (.bool u)) (a0:aC A (.int 0)=some (.str a)) (et:aH (.str a) (.str "turn")=some (.bool t)) (sa:gY A none (some 2)=some SA) (sb:gY B none (some 2)=some SB) (ev:aH SA SB=some (.bool v)) (hl:cC [A,B,.none]=some (.bool l)) (h1:ds.length<sizeLine) (h2:ds.length+1<sizeLine):b4 [.fz R,.fz (.int p),.ow ds,.fz (.int q)] =
  some (if l then .nx else .rt (.list (ds++((if u then [.tuple [.str "gone",.int p,.int q]] else [])++(if t&&v then [.tuple [.str "joined",.int p,.int q]] else [])))),[.fz R,.fz (.int p),(if l then .ow (ds++((if u then [.tuple [.str "gone",.int p,.int q]] else [])++(if t&&v then [.tuple [.str "joined",.int p,.int q]] else []))) else .fz (.list (ds++((if u then [.tuple [.str "gone",.int p,.int q]] else [])++(if t&&v then [.tuple [.str "joined",.int p,.int q]] else []))))),.fz (.int q)]):=by
 cases u <;> cases t <;> cases v <;> cases l <;> simp [-sSeq,-sIf,ag,aq,b4,ra,rb,hu,a0,et,sa,sb,ev,hl,h1,h2,dFz]
theorem yp (rs:List Rw) (p q:Nat):(g0 rs p q).map zpD=(if un (ro rs p) (ro rs q) then [.tuple [.str "gone",.int p,.int q]] else [])++(if (ro rs p).isT&&te (ro rs p) (ro rs q) then [.tuple [.str "joined",.int p,.int q]] else []):=by
 unfold g0
 rw [List.map_append]
 congr 1 <;> split <;> rfl
theorem pR (rs:List Rw) (p q:Nat):(g0 rs p q).length<=2:=by
 unfold g0
 rw [List.length_append]
 split <;> split <;> simp
theorem vA {rs:List Rw} (ho:Ord rs) {p q:Nat} (hp:p<rs.length) (hq:q<rs.length) (ds:List D) (hd:ds.length+2<sizeLine):b4 [.fz (.tuple (rs.map rwD)),.fz (.int (p:Int)),.ow ds,.fz (.int (q:Int))]=some (if jx (ro rs p) (ro rs q) (-1) then .nx else .rt (.list (ds++(g0 rs p q).map zpD)),[.fz (.tuple (rs.map rwD)),.fz (.int (p:Int)),(if jx (ro rs p) (ro rs q) (-1) then .ow (ds++(g0 rs p q).map zpD) else .fz (.list (ds++(g0 rs p q).map zpD))),.fz (.int (q:Int))]):=by
 have gd:∀ {k},k<rs.length->eR (ro rs k):=fun h=>by rw [kB h]; exact ho.gd _ (List.getElem_mem h)
 have:=Dx (.tuple (rs.map rwD)) _ _ _ _ _ (p:Int) (q:Int) ds _ _ _ _ (cI hp) (cI hq) (Du (ro rs p) (ro rs q)) (ce _) (lj _) (yM _) (yM _) (AR (ro rs p) (ro rs q)) (EE (gd hp) (gd hq) .none (-1) (.inr ⟨rfl,rfl⟩)) (by omega) (by omega)
 rw [yp]
 exact this
theorem pP {rs:List Rw} (ho:Ord rs) {p:Nat} (hp:p<rs.length):∀ (qs:List Nat),(∀ q∈qs,q<rs.length)->∀ (ds:List D),ds.length+2*qs.length+2<sizeLine->∀ z,∃ fl δ,loop (gN 3) b4 (qs.map fun q:Nat=>.int q) [.fz (.tuple (rs.map rwD)),.fz (.int (p:Int)),.ow ds,z]=some (fl,δ)/\(fl=.rt (.list (ds++(fC rs p qs).map zpD))\/(fl=.nx/\∃ y,δ = [.fz (.tuple (rs.map rwD)),.fz (.int (p:Int)),.ow (ds++(fC rs p qs).map zpD),y]))
 | [],_,ds,_,z=>⟨.nx,_,rfl,.inr ⟨rfl,z,by simp [fC]⟩⟩
 | q::qs,hq,ds,hd,z=>by
  simp only [List.length_cons] at hd
  have st:=vA ho hp (hq q List.mem_cons_self) ds (by omega)
  have g:gN 3 (.int (q:Int)) [.fz (.tuple (rs.map rwD)),.fz (.int (p:Int)),.ow ds,z]=some [.fz (.tuple (rs.map rwD)),.fz (.int (p:Int)),.ow ds,.fz (.int (q:Int))]:=by simp
  cases hl:jx (ro rs p) (ro rs q) (-1) with
  | false=>
   rw [hl] at st
   refine ⟨_,_,by rw [List.map_cons]; exact hW g st,.inl ?_⟩
   simp [fC,hl]
  | true=>
   rw [hl] at st
   have tl:=pR rs p q
   obtain ⟨fl,δ,e,h⟩:=pP ho hp qs (fun x hx=>hq x (List.mem_cons_of_mem _ hx)) (ds++(g0 rs p q).map zpD) (by simp only [List.length_append,List.length_map]; omega) (.fz (.int (q:Int)))
   refine ⟨fl,δ,by rw [List.map_cons,b8 g st]; exact e,?_⟩
   have ee:ds++(fC rs p (q::qs)).map zpD=ds++(g0 rs p q).map zpD++(fC rs p qs).map zpD:=by
    rw [fC,hl,if_pos rfl,List.map_append,List.append_assoc]
   rw [ee]
   exact h
noncomputable def rest (rs:List Rw) (p:Nat):List Nat:=List.range' (p+1) (rs.length-(p+1))
theorem mem_rest {rs:List Rw} {p q:Nat}:q∈rest rs p↔p<q/\q<rs.length:=by
 unfold rest
 rw [List.mem_range'_1]
 omega
theorem d9 (rs:List Rw) (p:Nat):(rest rs p).length<=rs.length:=by
 unfold rest
 rw [List.length_range']
 omega
theorem Dw (R:D) (p n:Int) (L:List D) (X:D) (fl:Fl) (δ:Dv) (xs:List D) (ln:cw [R]=some (.int n)) (hr:dR [.int (p+1),.int n]=some L) (lp:loop (gN 3) b4 L [.fz R,.fz (.int p),.ow [],.un]=some (fl,δ)) (h:fl=.rt (.list xs)\/(fl=.nx/\∃ y,δ = [.fz R,.fz (.int p),.ow xs,y])):bp [R,.int p]=some (.list xs):=by
 rcases h with rfl | ⟨rfl,y,rfl⟩
 ·simp [-sSeq,-sIf,ag,aq,bp,runB,dn,aj,ln,hr,lp]
 ·simp [-sSeq,-sIf,ag,aq,bp,runB,dn,aj,ln,hr,lp,dFz]
theorem Bq {rs:List Rw} (ho:Ord rs) (hn:rs.length<=100) {p:Nat} (hp:p<rs.length):bp [.tuple (rs.map rwD),.int (p:Int)]=some (.list ((fC rs p (rest rs p)).map zpD)):=by
 have hl:=d9 rs p
 obtain ⟨fl,δ,e,h⟩:=pP ho hp (rest rs p) (fun q hq=>(mem_rest.mp hq).2) [] (by show 0+_+2<16777216; omega) .un
 refine Dw _ p rs.length _ .none fl δ _ (by simp) ?_ e h
 have:=gu (a:=p+1) (b:=rs.length) (by omega) (by omega)
 exact this
noncomputable def xW (rs:List Rw) (p w:Nat):List Nat:=(rest rs p).filter fun q=>(wl (ro rs q)).any (· == w)
theorem G1 (R:D) (p n p':Int) (w:Nat) (z:Sl) (xs:List Nat) (b:Nat->Bool) (W:Nat->D) (hx:xs.length<=16777216) (hp:p+1=p') (ln:cw [R]=some (.int n)) (hr:dR [.int p',.int n]=some (xs.map fun q:Nat=>PyData.int q)) (hw:∀ q∈xs,∃ A,aC R (.int (q:Int))=some A/\bf [A]=some (W q)) (hb:∀ q∈xs,de false (.int (w:Int)) (W q)=some (.bool (b q))):cv [.fz R,.fz (.int p),.fz (.int (w:Int)),z]=some (.list ((xs.filter b).map fun q:Nat=>.int q)):=by
 have:=eY (fi:=oL (ac (o2 (oV 1) (oC (.int 1)) bL) (ac (VL.os (ac (oV 0) (ao)) cw) (ao))) dR) (caps:=[(0,"rows"),(2,"wire")]) (ft:=ob (o2 (oV 2) (VL.os (ac (o2 (oV 1) (oV 0) aC) (ao)) bf) (de false))) (fe:=oV 0) (δ:=[.fz R,.fz (.int p),.fz (.int (w:Int)),z]) (h:=fun n:Nat=>PyData.int n) (k:=fun n:Nat=>PyData.int n) (b:=b) (xs:=xs) (by simp [ln,hp,hr]) hx (fun q hq=>by
  obtain ⟨A,h1,h2⟩:=hw q hq
  simp [dN,h1,h2,hb q hq]) (fun q _ _=>by simp)
 exact this
theorem wq {rs:List Rw} (hn:rs.length<=100) {p:Nat} (hp:p<rs.length) (w:Nat) (z:Sl):cv [.fz (.tuple (rs.map rwD)),.fz (.int (p:Int)),.fz (.int (w:Int)),z]=some (.list ((xW rs p w).map fun q:Nat=>.int q)):=by
 have hr:=gu (a:=p+1) (b:=rs.length) (by omega) (by omega)
 exact G1 _ p rs.length ((p+1:Nat):Int) w z (rest rs p) (fun q=>(wl (ro rs q)).any (· == w)) _ (Nat.le_trans (d9 rs p) (by omega)) (by omega) (by simp) hr (fun q hq=>⟨_,cI (mem_rest.mp hq).2,ja _⟩) (fun q _=>jz w _)
noncomputable def dq (rs:List Rw) (p:Nat):List Sp:=match ro rs p with
 | .pl (.swing w)=>match xW rs p w with
  | a::b::_=>if mP (ro rs b) (ro rs p)&&(cF (ro rs a) w).isSome then [.s p a b] else []
  | _=>[]
 | _=>[]
theorem vC (R A:D) (a:Str) (p:Int) (ra:aC R (.int p)=some A) (a0:aC A (.int 0)=some (.str a)) (hs:neD (.str a) (.str "swing")=some (.bool true)):aJ [R,.int p]=some (.list []):=by
 simp [-sSeq,-sIf,ag,aq,aJ,runB,bO,aj,ra,a0,hs]
section
variable (R A:D) (a:Str) (p w:Int) (ra:aC R (.int p)=some A) (a0:aC A (.int 0)=some (.str a)) (hs:neD (.str a) (.str "swing")=some (.bool false)) (a1:aC A (.int 1)=some (.int w)) (L:D) (hp1:cv [.fz R,.fz (.int p),.fz (.int w),.un]=some L)
include ra a0 hs a1 hp1
theorem nq (M:List D) (sl:gY L none (some 2)=some (.list M)) (hl:¬ M.length=2):aJ [R,.int p]=some (.list []):=by
 have h:¬ ((M.length:Nat):Int)=2:=by omega
 simp [-sSeq,-sIf,ag,aq,aJ,runB,bO,aj,ra,a0,hs,a1,hp1,sl,h]
theorem uv (x y:Int) (X Y W:D) (c n:Bool) (sl:gY L none (some 2)=some (.list [.int x,.int y])) (rx:aC R (.int x)=some X) (ry:aC R (.int y)=some Y) (e:aH Y A=some (.bool c)) (sw:c=true->ck [X,.int w]=some W/\u7 W=!n):aJ [R,.int p]=some (.list (if c&&n then [.tuple [.str "swung",.int p,.int x,.int y]] else [])):=by
 cases c with
 | false=>simp [-sSeq,-sIf,ag,aq,aJ,runB,bO,aj,ra,a0,hs,a1,hp1,sl,rx,ry,e]
 | true=>
  obtain ⟨s1,s2⟩:=sw rfl
  cases n <;> simp [-sSeq,-sIf,ag,aq,aJ,runB,bO,aj,ra,a0,hs,a1,hp1,sl,rx,ry,e,s1,jy,s2]
end
theorem xc (o:Option Rw):u7 (kY o)=!o.isSome:=by
 cases o with
 | none=>rfl
 | some r=>
  obtain ⟨t,e⟩:=lN r
  show u7 (rwD r)=false
  rw [e]; rfl
theorem vP (l:List Nat):gY (.list (l.map fun q:Nat=>PyData.int q)) none (some 2)=some (.list ((l.take 2).map fun q:Nat=>PyData.int q)):=by
 show some (PyData.list (gA _ _ _))=_
 unfold gA
 rw [List.length_map,<- List.map_drop,<- List.map_take]
 match l with
 | []=>rfl
 | [a]=>rfl
 | a::b::t=>
  have h1:HT.sIx (a::b::t).length (a::b::t).length (some 2)=2:=by
   simp [HT.sIx]
  rw [h1]
  rfl
theorem vD {rs:List Rw} (hn:rs.length<=100) {p:Nat} (hp:p<rs.length):aJ [.tuple (rs.map rwD),.int (p:Int)]=some (.list ((dq rs p).map zpD)):=by
 have ra:=cI hp
 cases hS:(ro rs p).isS with
 | false=>
  rw [vC _ _ _ _ ra (ce _) (by rw [lS,hS]; rfl)]
  have:dq rs p=[]:=by
   unfold dq
   split
   ·rename_i w e; rw [e] at hS; cases hS
   ·rfl
  rw [this]; rfl
 | true=>
  obtain ⟨w,ew⟩:∃ w,ro rs p=.pl (.swing w):=by
   cases h:ro rs p with
   | pl r=>cases r <;> first | exact ⟨_,rfl⟩ | (rw [h] at hS; cases hS)
   | _=>rw [h] at hS; cases hS
  have a1:aC (rwD (ro rs p)) (.int 1)=some (.int (w:Int)):=by rw [qm,ew]; rfl
  have hs:neD (.str (ro rs p).wd) (.str "swing")=some (.bool false):=by rw [lS,hS]; rfl
  have hp1:=wq hn hp w .un
  have sl:=vP (xW rs p w)
  have mem:∀ q∈xW rs p w,q<rs.length/\w∈wl (ro rs q):=fun q hq=>by
   obtain ⟨h1,h2⟩:=List.mem_filter.mp hq
   obtain ⟨x,hx,e⟩:=List.any_eq_true.mp h2
   exact ⟨(mem_rest.mp h1).2,by rw [<- eq_of_beq e]; exact hx⟩
  have tE:dq rs p=match xW rs p w with
   | a::b::_=>if mP (ro rs b) (ro rs p)&&(cF (ro rs a) w).isSome then [.s p a b] else []
   | _=>[]:=by
   unfold dq
   rw [ew]
  rw [tE]
  match hL:xW rs p w with
  | []=>
   rw [hL] at sl hp1
   rw [nq _ _ _ _ _ ra (ce _) hs a1 _ hp1 _ sl (by simp)]; rfl
  | [a]=>
   rw [hL] at sl hp1
   rw [nq _ _ _ _ _ ra (ce _) hs a1 _ hp1 _ sl (by simp)]; rfl
  | a::b::t=>
   have ma:=mem a (by rw [hL]; exact List.mem_cons_self)
   have mb:=mem b (by rw [hL]; exact List.mem_cons_of_mem _ List.mem_cons_self)
   rw [hL] at sl hp1
   rw [uv _ _ _ _ _ ra (ce _) hs a1 _ hp1 (a:Int) (b:Int) _ _ _ _ (cF (ro rs a) w).isSome sl (cI ma.1) (cI mb.1) (sH _ _) (fun _=>⟨II ma.2,xc _⟩)]
   simp only
   split <;> rfl
noncomputable def jS (rs:List Rw) (m:Nat):List Sp:=(List.range m).flatMap fun p=>fC rs p (rest rs p)++dq rs p
theorem lF (rs:List Rw) (p:Nat):∀ qs,(fC rs p qs).length<=2*qs.length
 | []=>Nat.le_refl _
 | q::qs=>by
  have h1:=pR rs p q
  have h2:=lF rs p qs
  rw [fC,List.length_append,List.length_cons]
  split
  ·omega
  ·simp; omega
theorem iO (rs:List Rw) (p:Nat):(dq rs p).length<=1:=by
 unfold dq
 split
 ·split
  ·split <;> simp
  ·simp
 ·simp
theorem oa (rs:List Rw) (m:Nat):jS rs (m+1)=jS rs m++(fC rs m (rest rs m)++dq rs m):=by
 unfold jS
 rw [List.range_succ,List.flatMap_append]
 simp
theorem mI (rs:List Rw):∀ m,(jS rs m).length<=m*(2*rs.length+1)
 | 0=>by simp [jS]
 | m+1=>by
  have h1:=lF rs m (rest rs m)
  have h2:=d9 rs m
  have h3:=iO rs m
  have h4:=mI rs m
  rw [oa,List.length_append,List.length_append,Nat.succ_mul]
  omega
theorem yL (C R:D) (p:Int) (ds:List D) (A B:List D) (h1:bp [R,.int p]=some (.list A)) (h2:aJ [R,.int p]=some (.list B)) (s1:ds.length+A.length<=sizeLine) (s2:ds.length+A.length+B.length<=sizeLine):dH [.fz C,.fz R,.ow ds,.fz (.int p)]=some (.nx,[.fz C,.fz R,.ow (ds++A++B),.fz (.int p)]):=by
 have s2':(ds++A).length+B.length<=sizeLine:=by rw [List.length_append]; exact s2
 simp [dH,h1,h2,s1,lstI]
 exact s2
theorem vN (C R:D) (n:Int) (L:List D) (xs:List D) (y:Sl) (X:D) (cr:aC C (.int 1)=some R) (ln:cw [R]=some (.int n)) (hr:d8 [.int n]=some L) (lp:loop (gN 3) dH L [.fz C,.fz R,.ow [],.un]=some (.nx,[.fz C,.fz R,.ow xs,y])) (hs:cV (.list xs)=some X):bc [C]=some X:=by
 simp [-sSeq,-sIf,ag,aq,bc,runB,ie,aj,cr,ln,hr,lp,dFz,hs]
theorem km (w:Nat) (rs:List Rw):aC (bR w rs) (.int 1)=some (.tuple (rs.map rwD)):=by simp [bR]
theorem uz {rs:List Rw} (ho:Ord rs) (hn:rs.length<=100) (w:Nat) (X:D) (hs:cV (.list ((jS rs rs.length).map zpD))=some X):bc [bR w rs]=some X:=by
 obtain ⟨δ',lp,z,rfl⟩:=lW (b:=dH) (k:=3) (fun i δ=>∃ z,δ = [.fz (bR w rs),.fz (.tuple (rs.map rwD)),.ow ((jS rs i).map zpD),z]) rs.length (by
  rintro i hi δ ⟨z,rfl⟩
  have l1:=lF rs i (rest rs i)
  have l2:=d9 rs i
  have l3:=iO rs i
  have l4:=mI rs i
  have l5:i*(2*rs.length+1)<=100*201:=Nat.mul_le_mul (by omega) (by omega)
  have st:=yL (bR w rs) (.tuple (rs.map rwD)) i ((jS rs i).map zpD) _ _ (Bq ho hn hi) (vD hn hi) (by simp only [List.length_map]; show _<=16777216; omega) (by simp only [List.length_map]; show _<=16777216; omega)
  refine ⟨_,st,.fz (.int i),?_⟩
  rw [oa,List.map_append,List.map_append,List.append_assoc]) [.fz (bR w rs),.fz (.tuple (rs.map rwD)),.ow [],.un] ⟨_,rfl⟩
 exact vN _ _ rs.length _ _ z X (km w rs) (by simp) (il (j:=(rs.length:Int)) (by omega) (by omega)) lp hs
theorem yD (rs:List Rw) {x:Nat} (hx:x<=rs.length):gY (.tuple (rs.map rwD)) none (some (x:Int))=some (.tuple ((rs.take x).map rwD)):=by
 show some (PyData.tuple (gA _ _ _))=_
 unfold gA
 rw [List.length_map]
 have h1:HT.sIx rs.length 0 none=0:=rfl
 have h2:HT.sIx rs.length rs.length (some (x:Int))=x:=by
  simp only [HT.sIx]
  rw [if_neg (by omega)]
  omega
 rw [h1,h2,<- List.map_drop,<- List.map_take]
 rfl
theorem zC (R T:D) (x:Int) (n:Nat) (xs:List Rw) (hl:xs.length<=16777216) (sl:gY R none (some x)=some (.tuple (xs.map rwD))) (hc:gC xs=n):bg [R,.int x]=some (.int n):=by
 have:=eY (fi:=oI (iW (oV 0) (kZ) (oP (oV 1))) dc) (caps:=[]) (ft:=ob (o2 (o2 (oV 0) (oC (.int 0)) aC) (oC (.str "look")) aH)) (fe:=oV 0) (δ:=[.fz R,.fz (.int x)]) (h:=rwD) (k:=rwD) (b:=Rw.isLook) (xs:=xs) (by simp [sl]) hl (fun r _=>by simp [dN,ce,fU]) (fun r _ _=>by simp)
 have e:eL [.fz R,.fz (.int x)]=_:=this
 have hc':((xs.filter Rw.isLook).length:Int)=n:=by rw [<- List.countP_eq_length_filter]; exact congrArg Nat.cast hc
 simp [-sSeq,-sIf,ag,aq,bg,runB,dt,aj,e,cw,hc']
theorem wF {rs:List Rw} (hn:rs.length<=100) {x:Nat} (hx:x<=rs.length):bg [.tuple (rs.map rwD),.int (x:Int)]=some (.int (gC (rs.take x))):=zC _ .none x _ _ (by rw [List.length_take]; omega) (yD rs hx) rfl
noncomputable def qX (rs:List Rw) (p:Nat) (xs:List Nat):Bool:=xs.all fun x=>jx (ro rs p) (ro rs x) (gC (rs.take x))
theorem Fz (R A B:D) (p q x m:Int) (l:Bool) (ra:aC R (.int p)=some A) (rb:aC R (.int x)=some B) (hm:bg [R,.int x]=some (.int m)) (hl:bu [A,B,.int m]=some (.bool l)):db [.fz R,.fz (.int p),.fz (.int q),.fz (.int x)]=some (if l then .nx else .rt (.bool false),[.fz R,.fz (.int p),.fz (.int q),.fz (.int x)]):=by
 cases l <;> simp [-sSeq,-sIf,ag,aq,db,ra,rb,hm,hl]
theorem qW {rs:List Rw} (hn:rs.length<=100) {p:Nat} (hp:p<rs.length) (q:Int):∀ (xs:List Nat),(∀ x∈xs,x<rs.length)->∀ z,∃ δ,loop (gN 3) db (xs.map fun x:Nat=>.int x) [.fz (.tuple (rs.map rwD)),.fz (.int (p:Int)),.fz (.int q),z]=some (if qX rs p xs then .nx else .rt (.bool false),δ)
 | [],_,z=>⟨_,rfl⟩
 | x::xs,hx,z=>by
  have hx0:=hx x List.mem_cons_self
  have st:=Fz (.tuple (rs.map rwD)) _ _ p q x _ _ (cI hp) (cI hx0) (wF hn (by omega)) (wM (ro rs p) (ro rs x) (gC (rs.take x)))
  have g:gN 3 (.int (x:Int)) [.fz (.tuple (rs.map rwD)),.fz (.int (p:Int)),.fz (.int q),z]=some [.fz (.tuple (rs.map rwD)),.fz (.int (p:Int)),.fz (.int q),.fz (.int (x:Int))]:=by simp
  cases hl:jx (ro rs p) (ro rs x) (gC (rs.take x)) with
  | false=>
   rw [hl] at st
   refine ⟨[.fz (.tuple (rs.map rwD)),.fz (.int (p:Int)),.fz (.int q),.fz (.int (x:Int))],?_⟩
   rw [List.map_cons,hW g st]
   simp [qX,hl]
  | true=>
   rw [hl] at st
   obtain ⟨δ,e⟩:=qW hn hp q xs (fun y hy=>hx y (List.mem_cons_of_mem _ hy)) (.fz (.int (x:Int)))
   refine ⟨δ,?_⟩
   rw [List.map_cons,b8 g st,e]
   simp [qX,hl]
noncomputable def AG (p q:Nat):List Nat:=List.range' (p+1) (q-(p+1))
theorem mem_btw {p q x:Nat}:x∈AG p q↔p<x/\x<q:=by
 unfold AG
 rw [List.mem_range'_1]
 omega
theorem AA (R:D) (p p' q:Int) (L:List D) (b:Bool) (δ:Dv) (hp:p+1=p') (hr:dR [.int p',.int q]=some L) (lp:loop (gN 3) db L [.fz R,.fz (.int p),.fz (.int q),.un]=some (if b then .nx else .rt (.bool false),δ)):bI [R,.int p,.int q]=some (.bool b):=by
 cases b <;> simp at lp <;> simp [-sSeq,-sIf,ag,aq,bI,runB,gU,aj,hp,hr,lp]
theorem qY {rs:List Rw} (hn:rs.length<=100) {p q:Nat} (hp:p<rs.length) (hq:q<rs.length):bI [.tuple (rs.map rwD),.int (p:Int),.int (q:Int)]=some (.bool (qX rs p (AG p q))):=by
 obtain ⟨δ,lp⟩:=qW hn hp q (AG p q) (fun x hx=>by have:=mem_btw.mp hx; omega) .un
 exact AA _ p ((p+1:Nat):Int) q _ _ δ (by omega) (gu (by omega) (by omega)) lp
noncomputable def vn (r:Rw) (w:Nat):Bool:=(kl r).any (·.1==w)
def fm (rs:List Rw):Sp->Bool
 | .g p q=>un (ro rs p) (ro rs q)&&qX rs p (AG p q)
 | .j p q=>(ro rs p).isT&&(te (ro rs q) (ro rs p)&&qX rs p (AG p q))
 | .s p q t=>!(!(ro rs p).isS||(!mP (ro rs p) (ro rs t)||(cF (ro rs q) (ro rs p).n1).toList.isEmpty))&&(AG p t).all fun x=>!(!(x==q)&&vn (ro rs x) (ro rs p).n1)
theorem gv:iw "gone" = true:=by decide +kernel
theorem dW:iw "joined" = true:=by decide +kernel
theorem dU:iw "swung" = true:=by decide +kernel
theorem k_gg:aH (.str "gone") (.str "gone")=some (.bool true):=(cS gv gv).trans (congrArg (fun z=>some (PyData.bool z)) (show (("gone":Str)==("gone":Str))=true by decide +kernel))
theorem k_jg:aH (.str "joined") (.str "gone")=some (.bool false):=(cS dW gv).trans (congrArg (fun z=>some (PyData.bool z)) (show (("joined":Str)==("gone":Str))=false by decide +kernel))
theorem k_jj:aH (.str "joined") (.str "joined")=some (.bool true):=(cS dW dW).trans (congrArg (fun z=>some (PyData.bool z)) (show (("joined":Str)==("joined":Str))=true by decide +kernel))
theorem k_sg:aH (.str "swung") (.str "gone")=some (.bool false):=(cS dU gv).trans (congrArg (fun z=>some (PyData.bool z)) (show (("swung":Str)==("gone":Str))=false by decide +kernel))
theorem k_sj:aH (.str "swung") (.str "joined")=some (.bool false):=(cS dU dW).trans (congrArg (fun z=>some (PyData.bool z)) (show (("swung":Str)==("joined":Str))=false by decide +kernel))
theorem ub (s:Str) (p q:Int):gY (.tuple [.str s,.int p,.int q]) (some 1) (some 3)=some (.tuple [.int p,.int q]):=rfl
theorem xI (s:Str) (p q t:Int):gY (.tuple [.str s,.int p,.int q,.int t]) (some 1) (some 3)=some (.tuple [.int p,.int q]):=rfl
theorem Ff (R A B:D) (p q:Int) (u c:Bool) (ra:aC R (.int p)=some A) (rb:aC R (.int q)=some B) (hu:bK [A,B]=some (.bool u)) (hc:bI [R,.int p,.int q]=some (.bool c)):bn [R,.tuple [.str "gone",.int p,.int q]]=some (.bool (u&&c)):=by
 cases u <;> simp [-sSeq,-sIf,ag,aq,bn,runB,fB,aj,sAsg,ub,k_gg,ra,rb,hu,hc]
theorem Fe (R A B SA SB:D) (a:Str) (p q:Int) (t v c:Bool) (ra:aC R (.int p)=some A) (rb:aC R (.int q)=some B) (a0:aC A (.int 0)=some (.str a)) (et:aH (.str a) (.str "turn")=some (.bool t)) (sa:gY A none (some 2)=some SA) (sb:gY B none (some 2)=some SB) (ev:aH SB SA=some (.bool v)) (hc:bI [R,.int p,.int q]=some (.bool c)):bn [R,.tuple [.str "joined",.int p,.int q]]=some (.bool (t&&(v&&c))):=by
 cases t <;> cases v <;> simp [-sSeq,-sIf,ag,aq,bn,runB,fB,aj,sAsg,ub,k_jg,k_jj,ra,rb,a0,et,sa,sb,ev,hc]
theorem Fc (r:Rw) (z0 z1 z2 z3 z4:Sl) (R:D) (x:Int) (rx:aC R (.int x)=some (rwD r)):g9 [.fz R,z1,z2,z3,z4,.fz (.int x)]=some (.list ((kl r).map fun k=>.int k.1)):=by
 have hk:(kl r).length<=2:=by
  cases r with
  | pl r=>cases r <;> simp [kl]
  | _=>simp [kl]
 have:=fq (fi:=oI (VL.os (ac (o2 (oV 0) (oV 5) aC) (ao)) bA) dc) (caps:=[]) (fe:=o2 (oV 0) (oC (.int 0)) aC) (δ:=[.fz R,z1,z2,z3,z4,.fz (.int x)]) (h:=nD) (k:=fun k=>.int k.1) (xs:=kl r) (by simp [rx,j6]) (by omega) (fun k _=>by simp [dN,nD])
 exact this
theorem E3 (w:Nat) (l:List (Nat×Kd)):de false (.int w) (.list (l.map fun k=>.int k.1))=some (.bool (l.any (·.1==w))):=by
 have h:=jz w (l.map (·.1))
 rw [List.map_map] at h
 have e:de false (.int w) (.list (l.map fun k=>.int k.1))=de false (.int w) (.tuple (l.map fun k=>.int k.1)):=rfl
 rw [e,show (l.map fun k:Nat×Kd=>PyData.int k.1)=l.map ((fun n:Nat=>PyData.int n) ∘ (·.1)) from rfl,h,List.any_map]
 rfl
theorem HD (R A S K:D) (p q t x w:Int) (c:Bool) (k:Bool) (ra:aC R (.int p)=some A) (a1:aC A (.int 1)=some (.int w)) (hp:g9 [.fz R,.fz S,.fz (.int p),.fz (.int q),.fz (.int t),.fz (.int x)]=some K) (hc:(x==q)=c) (hi:de false (.int w) K=some (.bool k)):cL [.fz R,.fz S,.fz (.int p),.fz (.int q),.fz (.int t),.fz (.int x)]=some (if !(!c&&k) then .nx else .rt (.bool false),[.fz R,.fz S,.fz (.int p),.fz (.int q),.fz (.int t),.fz (.int x)]):=by
 cases c with
 | true=>
  have h:x=q:=eq_of_beq hc
  subst h
  simp [-sSeq,-sIf,ag,aq,cL]
 | false=>
  have h:¬ x=q:=by simpa using hc
  cases k <;> simp [-sSeq,-sIf,ag,aq,cL,h,ra,a1,hp,hi]
theorem t7 {rs:List Rw} {p:Nat} (hp:p<rs.length) (S:D) (q t:Nat):∀ (xs:List Nat),(∀ x∈xs,x<rs.length)->∀ z,∃ δ,loop (gN 5) cL (xs.map fun x:Nat=>.int x) [.fz (.tuple (rs.map rwD)),.fz S,.fz (.int (p:Int)),.fz (.int (q:Int)),.fz (.int (t:Int)),z]=some (if xs.all fun x=>!(!(x==q)&&vn (ro rs x) (ro rs p).n1) then .nx else .rt (.bool false),δ)
 | [],_,z=>⟨_,rfl⟩
 | x::xs,hx,z=>by
  have hx0:=hx x List.mem_cons_self
  have st:=HD (.tuple (rs.map rwD)) _ S _ p q t x _ (x==q) _ (cI hp) (qm _) (Fc _ .un _ _ _ _ _ _ (cI hx0)) (lb x q) (E3 _ _)
  have g:gN 5 (.int (x:Int)) [.fz (.tuple (rs.map rwD)),.fz S,.fz (.int (p:Int)),.fz (.int (q:Int)),.fz (.int (t:Int)),z]=some [.fz (.tuple (rs.map rwD)),.fz S,.fz (.int (p:Int)),.fz (.int (q:Int)),.fz (.int (t:Int)),.fz (.int (x:Int))]:=by simp
  have st:cL [.fz (.tuple (rs.map rwD)),.fz S,.fz (.int (p:Int)),.fz (.int (q:Int)),.fz (.int (t:Int)),.fz (.int (x:Int))]=some (if !(!(x==q)&&vn (ro rs x) (ro rs p).n1) then .nx else .rt (.bool false),[.fz (.tuple (rs.map rwD)),.fz S,.fz (.int (p:Int)),.fz (.int (q:Int)),.fz (.int (t:Int)),.fz (.int (x:Int))]):=st
  cases hl:!(!(x==q)&&vn (ro rs x) (ro rs p).n1) with
  | false=>
   rw [hl] at st
   refine ⟨[.fz (.tuple (rs.map rwD)),.fz S,.fz (.int (p:Int)),.fz (.int (q:Int)),.fz (.int (t:Int)),.fz (.int (x:Int))],?_⟩
   rw [List.map_cons,hW g st,List.all_cons,hl]
   rfl
  | true=>
   rw [hl] at st
   obtain ⟨δ,e⟩:=t7 hp S q t xs (fun y hy=>hx y (List.mem_cons_of_mem _ hy)) (.fz (.int (x:Int)))
   refine ⟨δ,?_⟩
   rw [List.map_cons,b8 g st,e,List.all_cons,hl,Bool.true_and]
theorem ix3 (s:Str) (p q t:Int):aC (.tuple [.str s,.int p,.int q,.int t]) (.int 3)=some (.int t):=rfl
theorem Fd (R A B T W:D) (a:Str) (p p' q t w:Int) (s e v b:Bool) (L:List D) (δ:Dv) (ra:aC R (.int p)=some A) (a0:aC A (.int 0)=some (.str a)) (es:neD (.str a) (.str "swing")=some (.bool (!s))) (rt:aC R (.int t)=some T) (he:neD A T=some (.bool (!e))) (a1:aC A (.int 1)=some (.int w)) (rb:aC R (.int q)=some B) (hw:bW [B,.int w]=some W) (hv:aH W (.list [])=some (.bool v)) (hp:p+1=p') (hr:dR [.int p',.int t]=some L) (lp:loop (gN 5) cL L [.fz R,.fz (.tuple [.str "swung",.int p,.int q,.int t]),.fz (.int p),.fz (.int q),.fz (.int t),.un]=some (if b then .nx else .rt (.bool false),δ)):bn [R,.tuple [.str "swung",.int p,.int q,.int t]]=some (.bool (!(!s||(!e||v))&&b)):=by
 cases s <;> cases e <;> cases v <;> cases b <;> simp at lp es he <;> simp [-sSeq,-sIf,ag,aq,bn,runB,fB,aj,sAsg,xI,k_sg,k_sj,ix3,ra,a0,es,rt,he,a1,rb,hw,hv,hp,hr,lp]
theorem CK (o:Option Rw):aH (oG o) (.list [])=some (.bool o.toList.isEmpty):=by
 cases o with
 | none=>rfl
 | some r=>
  have h:MA.Sh 3 (.list ([r].map rwD)):=MA.Sh.list fun x hx=>by obtain ⟨r,_,rfl⟩:=List.mem_map.mp hx; exact GQ r
  have h2:kU (.list ([]:List D))=true:=by rfl
  show aH (.list ([r].map rwD)) (.list [])=_
  unfold aH
  rw [if_pos ⟨g7 h (by decide),h2⟩]
  simp [PyData.eqv,PyData.eqvAll]
def IS (n:Nat):Sp->Prop
 | .g p q=>p<n/\q<n
 | .j p q=>p<n/\q<n
 | .s p q t=>p<n/\q<n/\t<n
theorem xr {rs:List Rw} (ho:Ord rs) (hn:rs.length<=100) (x:Sp) (hx:IS rs.length x):bn [.tuple (rs.map rwD),zpD x]=some (.bool (fm rs x)):=by
 have gd:∀ {k},k<rs.length->eR (ro rs k):=fun h=>by rw [kB h]; exact ho.gd _ (List.getElem_mem h)
 cases x with
 | g p q=>exact Ff _ _ _ p q _ _ (cI hx.1) (cI hx.2) (EA _ _) (qY hn hx.1 hx.2)
 | j p q=>exact Fe _ _ _ _ _ _ p q _ _ _ (cI hx.1) (cI hx.2) (ce _) (lj _) (yM _) (yM _) (AR _ _) (qY hn hx.1 hx.2)
 | s p q t=>
  obtain ⟨h1,h2,h3⟩:=hx
  obtain ⟨δ,lp⟩:=t7 h1 (.tuple [.str "swung",.int (p:Int),.int (q:Int),.int (t:Int)]) q t (AG p t) (fun x hx=>by have:=mem_btw.mp hx; omega) .un
  exact Fd _ _ _ _ _ _ p ((p+1:Nat):Int) q t _ _ _ _ _ _ δ (cI h1) (ce _) (lS _) (cI h3) (CI _ _) (qm _) (cI h2) (IJ (gd h2)) (CK _) (by omega) (gu (by omega) (by omega)) lp
noncomputable def fW (rs:List Rw) (p q:Nat):List Sp:=.g p q :: .j p q::(if (ro rs p).isS then (rest rs q).map (Sp.s p q) else [])
noncomputable def ic (rs:List Rw) (p:Nat) (qs:List Nat):List Sp:=qs.flatMap (fW rs p)
noncomputable def eA (rs:List Rw) (m:Nat):List Sp:=(List.range m).flatMap fun p=>ic rs p (rest rs p)
theorem GY (z0 z1:Sl) (n p q q':Int) (ts:List Nat) (ht:ts.length<=16777216) (hq:q+1=q') (hr:dR [.int q',.int n]=some (ts.map fun t:Nat=>PyData.int t)):f8 [z0,z1,.fz (.int n),.fz (.int p),.fz (.int q)]=some (.list (ts.map fun t:Nat=>.tuple [.str "swung",.int p,.int q,.int t])):=by
 have:=fq (fi:=oL (ac (o2 (oV 4) (oC (.int 1)) bL) (ac (oV 2) (ao))) dR) (caps:=[(3,"p"),(4,"q")]) (fe:=VL.os (ac (oC (.str "swung")) (ac (oV 1) (ac (oV 2) (ac (oV 0) (ao))))) be) (δ:=[z0,z1,.fz (.int n),.fz (.int p),.fz (.int q)]) (h:=fun t:Nat=>PyData.int t) (k:=fun t:Nat=>.tuple [.str "swung",.int p,.int q,.int t]) (xs:=ts) (by simp [hq,hr]) ht (fun t _=>by simp [dN])
 exact this
theorem HU (R A:D) (a:Str) (n p q:Int) (s:Bool) (ds E:List D) (ra:aC R (.int p)=some A) (a0:aC A (.int 0)=some (.str a)) (es:aH (.str a) (.str "swing")=some (.bool s)) (hp:∀ z,f8 [.fz R,z,.fz (.int n),.fz (.int p),.fz (.int q)]=some (.list E)) (h1:ds.length<sizeLine) (h2:ds.length+1<sizeLine) (h3:ds.length+1+1+E.length<=sizeLine):cZ [.fz R,.ow ds,.fz (.int n),.fz (.int p),.fz (.int q)]=some (.nx,[.fz R,.ow (ds++(.tuple [.str "gone",.int p,.int q] :: .tuple [.str "joined",.int p,.int q]::(if s then E else []))),.fz (.int n),.fz (.int p),.fz (.int q)]):=by
 cases s <;> simp [-sSeq,-sIf,ag,aq,cZ,ra,a0,es,hp,h1,h2,h3,lstI]
theorem vf (rs:List Rw) (p q:Nat):(fW rs p q).map zpD=.tuple [.str "gone",.int p,.int q] :: .tuple [.str "joined",.int p,.int q]::(if (ro rs p).isS then (rest rs q).map fun t:Nat=>.tuple [.str "swung",.int p,.int q,.int t] else []):=by
 unfold fW
 rw [List.map_cons,List.map_cons]
 congr 2
 split
 ·rw [List.map_map]; rfl
 ·rfl
theorem nU (rs:List Rw) (p q:Nat):(fW rs p q).length<=rs.length+2:=by
 have:=d9 rs q
 unfold fW
 rw [List.length_cons,List.length_cons]
 split
 ·rw [List.length_map]; omega
 ·simp
theorem uc {rs:List Rw} (hn:rs.length<=100) {p:Nat} (hp:p<rs.length):∀ (qs:List Nat),(∀ q∈qs,q<rs.length)->∀ (ds:List D),ds.length+qs.length*(rs.length+2)+2<sizeLine->∀ z,∃ y,loop (gN 4) cZ (qs.map fun q:Nat=>.int q) [.fz (.tuple (rs.map rwD)),.ow ds,.fz (.int (rs.length:Int)),.fz (.int (p:Int)),z]=some (.nx,[.fz (.tuple (rs.map rwD)),.ow (ds++(ic rs p qs).map zpD),.fz (.int (rs.length:Int)),.fz (.int (p:Int)),y])
 | [],_,ds,_,z=>⟨z,by simp [ic]⟩
 | q::qs,hq,ds,hd,z=>by
  rw [List.length_cons,Nat.succ_mul] at hd
  have hq0:=hq q List.mem_cons_self
  have rl:=d9 rs q
  have cl:=nU rs p q
  have st:=HU (.tuple (rs.map rwD)) _ _ rs.length p q _ ds _ (cI hp) (ce _) (qS _) (fun z=>GY _ z rs.length p q ((q+1:Nat):Int) (rest rs q) (by omega) (by omega) (gu (a:=q+1) (b:=rs.length) (by omega) (by omega))) (by omega) (by omega) (by rw [List.length_map]; omega)
  rw [<- vf] at st
  obtain ⟨y,e⟩:=uc hn hp qs (fun x hx=>hq x (List.mem_cons_of_mem _ hx)) (ds++(fW rs p q).map zpD) (by rw [List.length_append,List.length_map]; omega) (.fz (.int (q:Int)))
  refine ⟨y,?_⟩
  rw [List.map_cons,b8 (δ1:=[.fz (.tuple (rs.map rwD)),.ow ds,.fz (.int (rs.length:Int)),.fz (.int (p:Int)),.fz (.int (q:Int))]) (by simp) st,e,ic,ic,List.flatMap_cons,List.map_append,List.append_assoc]
theorem nT (rs:List Rw) (m:Nat):eA rs (m+1)=eA rs m++ic rs m (rest rs m):=by
 unfold eA
 rw [List.range_succ,List.flatMap_append]
 simp
theorem nV (rs:List Rw) (p:Nat):∀ qs,(ic rs p qs).length<=qs.length*(rs.length+2)
 | []=>by simp [ic]
 | q::qs=>by
  have h1:=nU rs p q
  have h2:=nV rs p qs
  rw [ic,List.flatMap_cons,List.length_append,List.length_cons,Nat.succ_mul]
  unfold ic at h2
  omega
theorem mF (rs:List Rw):∀ m,(eA rs m).length<=m*(rs.length*(rs.length+2))
 | 0=>by simp [eA]
 | m+1=>by
  have h1:=nV rs m (rest rs m)
  have h2:=Nat.mul_le_mul_right (rs.length+2) (d9 rs m)
  have h3:=mF rs m
  rw [nT,List.length_append,Nat.succ_mul]
  omega
theorem Hl (R:D) (n p p':Int) (L ds es:List D) (z y:Sl) (hp:p+1=p') (hr:dR [.int p',.int n]=some L) (lp:loop (gN 4) cZ L [.fz R,.ow ds,.fz (.int n),.fz (.int p),z]=some (.nx,[.fz R,.ow es,.fz (.int n),.fz (.int p),y])):cY [.fz R,.ow ds,.fz (.int n),.fz (.int p),z]=some (.nx,[.fz R,.ow es,.fz (.int n),.fz (.int p),y]):=by
 simp [cY,hp,hr,lp]
theorem G0 (R:D) (z2 z3 z4:Sl) (xs:List Sp) (b:Sp->Bool) (hl:xs.length<=16777216) (hb:∀ x∈xs,bn [R,zpD x]=some (.bool (b x))):f7 [.fz R,.fz (.list (xs.map zpD)),z2,z3,z4]=some (.list ((xs.filter b).map zpD)):=by
 have:=eY (fi:=oI (oV 1) dc) (caps:=[(0,"rows")]) (ft:=ob (VL.os (ac (oV 1) (ac (oV 0) (ao))) bn)) (fe:=oV 0) (δ:=[.fz R,.fz (.list (xs.map zpD)),z2,z3,z4]) (h:=zpD) (k:=zpD) (b:=b) (xs:=xs) (by simp) hl (fun x hx=>by simp [dN,hb x hx]) (fun x _ _=>by simp)
 exact this
theorem Hb (R X F:D) (n:Int) (L xs:List D) (z3 z4:Sl) (ln:cw [R]=some (.int n)) (hr:d8 [.int n]=some L) (lp:loop (gN 3) cY L [.fz R,.ow [],.fz (.int n),.un,.un]=some (.nx,[.fz R,.ow xs,.fz (.int n),z3,z4])) (h2:f7 [.fz R,.fz (.list xs),.fz (.int n),z3,z4]=some F) (hs:cV F=some X):bH [R]=some X:=by
 simp [-sSeq,-sIf,ag,aq,bH,runB,gR,aj,ln,hr,lp,dFz,h2,hs]
theorem ue {rs:List Rw} {x:Sp} (h:x∈eA rs rs.length):IS rs.length x:=by
 obtain ⟨p,hp,h⟩:=List.mem_flatMap.mp h
 obtain ⟨q,hq,h⟩:=List.mem_flatMap.mp h
 have hp:=List.mem_range.mp hp
 have hq:=mem_rest.mp hq
 unfold fW at h
 rcases List.mem_cons.mp h with rfl | h
 ·exact ⟨hp,hq.2⟩
 rcases List.mem_cons.mp h with rfl | h
 ·exact ⟨hp,hq.2⟩
 split at h
 ·obtain ⟨t,ht,rfl⟩:=List.mem_map.mp h
  exact ⟨hp,hq.2,(mem_rest.mp ht).2⟩
 ·cases h
theorem uR {rs:List Rw} (ho:Ord rs) (hn:rs.length<=100) (X:D) (hs:cV (.list (((eA rs rs.length).filter (fm rs)).map zpD))=some X):bH [.tuple (rs.map rwD)]=some X:=by
 have big:∀ i,i<=rs.length->i*(rs.length*(rs.length+2))<=100*(100*102):=fun i hi=>Nat.mul_le_mul (by omega) (Nat.mul_le_mul hn (by omega))
 obtain ⟨δ',lp,z3,z4,rfl⟩:=lW (b:=cY) (k:=3) (fun i δ=>∃ z3 z4,δ = [.fz (.tuple (rs.map rwD)),.ow ((eA rs i).map zpD),.fz (.int (rs.length:Int)),z3,z4]) rs.length (by
  rintro i hi δ ⟨z3,z4,rfl⟩
  have l2:=d9 rs i
  have l4:=mF rs i
  have l5:=big i (by omega)
  have l6:(rest rs i).length*(rs.length+2)<=100*102:=Nat.mul_le_mul (by omega) (by omega)
  obtain ⟨y,e⟩:=uc hn hi (rest rs i) (fun q hq=>(mem_rest.mp hq).2) ((eA rs i).map zpD) (by rw [List.length_map]; show _<16777216; omega) z4
  have st:=Hl (.tuple (rs.map rwD)) rs.length i ((i+1:Nat):Int) _ _ _ z4 y (by omega) (gu (a:=i+1) (b:=rs.length) (by omega) (by omega)) e
  refine ⟨_,st,.fz (.int (i:Int)),y,?_⟩
  rw [nT,List.map_append]) [.fz (.tuple (rs.map rwD)),.ow [],.fz (.int (rs.length:Int)),.un,.un] ⟨_,_,rfl⟩
 have l4:=mF rs rs.length
 have l5:=big rs.length (Nat.le_refl _)
 exact Hb _ X _ rs.length _ _ z3 z4 (by simp) (il (j:=(rs.length:Int)) (by omega) (by omega)) lp (G0 _ _ _ _ (eA rs rs.length) (fm rs) (by omega) (fun x hx=>xr ho hn x (ue hx))) hs
theorem nC {rs:List Rw} (ho:Ord rs) {p x:Nat} (hp:p<x) (hx:x<rs.length):jx (ro rs p) (ro rs x) (gC (rs.take x))=jx (ro rs p) (ro rs x) (-1):=by
 have le:∀ {a b:Nat},a<=b->gC (rs.take a)<=gC (rs.take b):=fun {a b} h=>by
  have e:rs.take a=(rs.take b).take a:=by rw [List.take_take,Nat.min_eq_left h]
  rw [e]
  exact List.Sublist.countP_le (List.take_sublist _ _)
 have no:∀ {r q:Rw} {m:Nat},mb m r->∀ n:Nat,m<=n->kt r q n=kt r q (-1):=fun {r q m} h n hn=>by
  cases r with
  | wflip k j=>
   have h:k<m:=h
   simp only [kt]
   rw [show (((k:Int)==(n:Int)):Bool)=false by simp; omega,show (((k:Int) == -1):Bool)=false by simp]
  | wsign k j=>
   have h:k<m:=h
   simp only [kt]
   rw [show (((k:Int)==(n:Int)):Bool)=false by simp; omega,show (((k:Int) == -1):Bool)=false by simp]
  | _=>rfl
 have h1:=no (q:=ro rs p) (ho.at_ x hx) (gC (rs.take x)) (Nat.le_refl _)
 have h2:=no (q:=ro rs x) (ho.at_ p (by omega)) (gC (rs.take x)) (le (by omega))
 rw [<- kB hx] at h1
 rw [<- kB (show p<rs.length by omega)] at h2
 unfold jx
 rw [h1,h2]
theorem mem_twoS {rs:List Rw} {p q:Nat} {x:Sp}:x∈g0 rs p q↔(x=.g p q/\un (ro rs p) (ro rs q)=true)\/(x=.j p q/\(ro rs p).isT=true/\te (ro rs p) (ro rs q)=true):=by
 unfold g0
 rw [List.mem_append]
 cases un (ro rs p) (ro rs q) <;> cases (ro rs p).isT <;> cases te (ro rs p) (ro rs q) <;> simp
theorem mem_twoL {rs:List Rw} {p:Nat} {x:Sp}:∀ {m a:Nat},x∈fC rs p (List.range' a m)↔∃ q,a<=q/\q<a+m/\x∈g0 rs p q/\∀ y,a<=y->y<q->jx (ro rs p) (ro rs y) (-1)=true
 | 0,a=>by
  simp only [List.range'_zero,fC,List.not_mem_nil,false_iff]
  rintro ⟨q,h1,h2,_⟩
  omega
 | m+1,a=>by
  rw [List.range'_succ,fC,List.mem_append]
  constructor
  ·rintro (h | h)
   ·exact ⟨a,Nat.le_refl _,by omega,h,fun y h1 h2=>absurd h1 (by omega)⟩
   ·split at h
    ·rename_i hl
     obtain ⟨q,h1,h2,h3,h4⟩:=mem_twoL.mp h
     refine ⟨q,by omega,by omega,h3,fun y y1 y2=>?_⟩
     by_cases e:y=a
     ·rw [e]; exact hl
     ·exact h4 y (by omega) y2
    ·cases h
  ·rintro ⟨q,h1,h2,h3,h4⟩
   by_cases e:q=a
   ·subst e; exact .inl h3
   ·refine .inr ?_
    rw [if_pos (h4 a (Nat.le_refl _) (by omega))]
    exact mem_twoL.mpr ⟨q,by omega,by omega,h3,fun y y1 y2=>h4 y (by omega) y2⟩
theorem vx (r:Rw) (w:Nat):(wl r).any (· == w)=vn r w:=by
 unfold vn
 rw [Bool.eq_iff_iff,List.any_eq_true,List.any_eq_true]
 constructor
 ·rintro ⟨x,hx,e⟩
  have e:=eq_of_beq e
  subst e
  obtain ⟨k,hk⟩:=(nj x).mp hx
  exact ⟨_,hk,by simp⟩
 ·rintro ⟨k,hk,e⟩
  have e:=eq_of_beq e
  exact ⟨w,(nj w).mpr ⟨k.2,by rw [<- e]; exact hk⟩,by simp⟩
theorem qO (f:Nat->Bool) {q:Nat} {l:List Nat}:∀ {m a:Nat},(List.range' a m).filter f=q::l↔a<=q/\q<a+m/\f q=true/\(∀ x,a<=x->x<q->f x=false)/\l=(List.range' (q+1) (a+m-(q+1))).filter f
 | 0,a=>by
  simp only [List.range'_zero,List.filter_nil]
  constructor
  ·intro h; cases h
  ·rintro ⟨h1,h2,_⟩; omega
 | m+1,a=>by
  rw [List.range'_succ,List.filter_cons]
  split
  ·rename_i hf
   constructor
   ·intro h
    obtain ⟨rfl,rfl⟩:=List.cons.inj h
    exact ⟨Nat.le_refl _,by omega,hf,fun x h1 h2=>absurd h1 (by omega),by rw [show a+(m+1)-(a+1)=m by omega]⟩
   ·rintro ⟨h1,h2,h3,h4,h5⟩
    have e:q=a:=by
     by_cases e:q=a
     ·exact e
     ·have:=h4 a (Nat.le_refl _) (by omega)
      rw [hf] at this
      cases this
    subst e
    rw [h5,show q+(m+1)-(q+1)=m by omega]
  ·rename_i hf
   rw [qO f (m:=m) (a:=a+1)]
   constructor
   ·rintro ⟨h1,h2,h3,h4,h5⟩
    refine ⟨by omega,by omega,h3,fun x x1 x2=>?_,by rw [h5,show a+1+m=a+(m+1) by omega]⟩
    by_cases e:x=a
    ·rw [e]; simpa using hf
    ·exact h4 x (by omega) x2
   ·rintro ⟨h1,h2,h3,h4,h5⟩
    have e:q≠a:=fun e=>by rw [e] at h3; exact hf h3
    exact ⟨by omega,by omega,h3,fun x x1 x2=>h4 x (by omega) x2,by rw [h5,show a+1+m=a+(m+1) by omega]⟩
theorem Fh (f:Nat->Bool) {q t m a:Nat}:(∃ l,(List.range' a m).filter f=q::t::l)↔a<=q/\q<t/\t<a+m/\f q=true/\f t=true/\∀ x,a<=x->x<t->x≠q->f x=false:=by
 constructor
 ·rintro ⟨l,h⟩
  obtain ⟨h1,h2,h3,h4,h5⟩:=(qO f).mp h
  obtain ⟨k1,k2,k3,k4,_⟩:=(qO f).mp h5.symm
  refine ⟨h1,by omega,by omega,h3,k3,fun x x1 x2 x3=>?_⟩
  by_cases e:x<q
  ·exact h4 x x1 e
  ·exact k4 x (by omega) x2
 ·rintro ⟨h1,h2,h3,h4,h5,h6⟩
  refine ⟨(List.range' (t+1) (q+1+(a+m-(q+1))-(t+1))).filter f,(qO f).mpr ⟨h1,by omega,h4,fun x x1 x2=>h6 x x1 (by omega) (by omega),?_⟩⟩
  exact ((qO f).mpr ⟨by omega,by omega,h5,fun x x1 x2=>h6 x (by omega) x2 (by omega),rfl⟩).symm
theorem gL {r:Rw} (h:r.isS=true):r=.pl (.swing r.n1):=by
 cases r with
 | pl r=>cases r <;> first | rfl | cases h
 | _=>cases h
theorem Ct {r q:Rw} (h:r.isS=true) (hq:q.isS=false):(r.wd==q.wd)=false:=by
 have a:=gZ r
 have b:=gZ q
 rw [h] at a
 rw [eq_of_beq a,Bool.beq_comm,b,hq]
theorem xy (w:Nat) (r:Rw):mP (.pl (.swing w)) r=mP r (.pl (.swing w)):=by
 cases h:r.isS with
 | false=>
  have a:=Ct (r:=.pl (.swing w)) (q:=r) rfl h
  rw [sG a,sG (by rw [Bool.beq_comm]; exact a)]
 | true=>
  rw [gL h]
  simp only [mP,rwD,rowD,PyData.eqv,PyData.eqvAll]
  simp [Bool.beq_comm]
theorem nQ {w:Nat} {r:Rw} (h:mP (.pl (.swing w)) r=true):r=.pl (.swing w):=by
 have e:=sF h
 have hS:r.isS=true:=by rw [<- gZ,<- e]; exact gZ (.pl (.swing w))
 rw [gL hS] at h ⊢
 simp only [mP,rwD,rowD,PyData.eqv,PyData.eqvAll] at h
 simp at h
 have:w=r.n1:=by omega
 rw [this]
theorem mem_cand_g {rs:List Rw} {p q:Nat}:Sp.g p q∈eA rs rs.length↔p<q/\q<rs.length:=by
 constructor
 ·intro h
  obtain ⟨p',hp,h⟩:=List.mem_flatMap.mp h
  obtain ⟨q',hq,h⟩:=List.mem_flatMap.mp h
  have hq:=mem_rest.mp hq
  unfold fW at h
  rcases List.mem_cons.mp h with h | h
  ·cases h; exact hq
  rcases List.mem_cons.mp h with h | h
  ·cases h
  split at h
  ·obtain ⟨t,ht,h⟩:=List.mem_map.mp h
   cases h
  ·cases h
 ·intro h
  exact List.mem_flatMap.mpr ⟨p,List.mem_range.mpr (by omega),List.mem_flatMap.mpr ⟨q,mem_rest.mpr h,List.mem_cons_self⟩⟩
theorem mem_cand_j {rs:List Rw} {p q:Nat}:Sp.j p q∈eA rs rs.length↔p<q/\q<rs.length:=by
 constructor
 ·intro h
  obtain ⟨p',hp,h⟩:=List.mem_flatMap.mp h
  obtain ⟨q',hq,h⟩:=List.mem_flatMap.mp h
  have hq:=mem_rest.mp hq
  unfold fW at h
  rcases List.mem_cons.mp h with h | h
  ·cases h
  rcases List.mem_cons.mp h with h | h
  ·cases h; exact hq
  split at h
  ·obtain ⟨t,ht,h⟩:=List.mem_map.mp h
   cases h
  ·cases h
 ·intro h
  exact List.mem_flatMap.mpr ⟨p,List.mem_range.mpr (by omega),List.mem_flatMap.mpr ⟨q,mem_rest.mpr h,List.mem_cons_of_mem _ List.mem_cons_self⟩⟩
theorem mem_cand_s {rs:List Rw} {p q t:Nat}:Sp.s p q t∈eA rs rs.length↔(ro rs p).isS=true/\p<q/\q<t/\t<rs.length:=by
 constructor
 ·intro h
  obtain ⟨p',hp,h⟩:=List.mem_flatMap.mp h
  obtain ⟨q',hq,h⟩:=List.mem_flatMap.mp h
  have hq:=mem_rest.mp hq
  unfold fW at h
  rcases List.mem_cons.mp h with h | h
  ·cases h
  rcases List.mem_cons.mp h with h | h
  ·cases h
  split at h
  ·rename_i hS
   obtain ⟨t',ht,h⟩:=List.mem_map.mp h
   have ht:=mem_rest.mp ht
   cases h
   exact ⟨hS,hq.1,ht.1,ht.2⟩
  ·cases h
 ·rintro ⟨hS,h1,h2,h3⟩
  refine List.mem_flatMap.mpr ⟨p,List.mem_range.mpr (by omega),List.mem_flatMap.mpr ⟨q,mem_rest.mpr ⟨h1,by omega⟩,List.mem_cons_of_mem _ (List.mem_cons_of_mem _ ?_)⟩⟩
  rw [if_pos hS]
  exact List.mem_map.mpr ⟨t,mem_rest.mpr ⟨h2,h3⟩,rfl⟩
theorem lr {rs:List Rw} (ho:Ord rs) {p q:Nat} (hq:q<rs.length):qX rs p (AG p q)=true↔∀ y,p+1<=y->y<q->jx (ro rs p) (ro rs y) (-1)=true:=by
 unfold qX
 rw [List.all_eq_true]
 constructor
 ·intro h y h1 h2
  rw [<- nC ho (show p<y by omega) (by omega)]
  exact h y (mem_btw.mpr ⟨by omega,h2⟩)
 ·intro h y hy
  have hy:=mem_btw.mp hy
  rw [nC ho hy.1 (by omega)]
  exact h y (by omega) hy.2
theorem mem_threeL {rs:List Rw} {p:Nat} {x:Sp}:x∈dq rs p↔∃ q t,x=.s p q t/\(ro rs p).isS=true/\(∃ l,xW rs p (ro rs p).n1=q::t::l)/\mP (ro rs t) (ro rs p)=true/\(cF (ro rs q) (ro rs p).n1).isSome=true:=by
 constructor
 ·intro h
  unfold dq at h
  split at h
  ·rename_i w ew
   split at h
   ·rename_i a b l hl
    split at h
    ·rename_i hc
     have hc:=Bool.and_eq_true_iff.mp hc
     refine ⟨a,b,List.mem_singleton.mp h,by rw [ew]; rfl,⟨l,by rw [ew]; exact hl⟩,hc.1,by rw [ew]; exact hc.2⟩
    ·cases h
   ·cases h
  ·cases h
 ·rintro ⟨q,t,rfl,hS,⟨l,hl⟩,h1,h2⟩
  unfold dq
  have ew:=gL hS
  generalize ro rs p=r at ew hl h1 h2 hS ⊢
  rw [ew]
  simp only
  rw [hl]
  simp only
  rw [<- ew,h1,h2]
  simp
theorem vS {rs:List Rw} (ho:Ord rs) (x:Sp):x∈jS rs rs.length↔x∈(eA rs rs.length).filter (fm rs):=by
 rw [List.mem_filter]
 have two:∀ {p q:Nat} {x:Sp},x∈fC rs p (rest rs p)↔∃ q,p<q/\q<rs.length/\x∈g0 rs p q/\∀ y,p+1<=y->y<q->jx (ro rs p) (ro rs y) (-1)=true:=fun {p q x}=>by
  unfold rest
  rw [mem_twoL]
  constructor
  ·rintro ⟨q,h1,h2,h3⟩; exact ⟨q,by omega,by omega,h3⟩
  ·rintro ⟨q,h1,h2,h3⟩; exact ⟨q,by omega,by omega,h3⟩
 have all:x∈jS rs rs.length↔∃ p,p<rs.length/\(x∈fC rs p (rest rs p)\/x∈dq rs p):=by
  unfold jS
  rw [List.mem_flatMap]
  constructor
  ·rintro ⟨p,hp,h⟩; exact ⟨p,List.mem_range.mp hp,List.mem_append.mp h⟩
  ·rintro ⟨p,hp,h⟩; exact ⟨p,List.mem_range.mpr hp,List.mem_append.mpr h⟩
 rw [all]
 cases x with
 | g p q=>
  rw [mem_cand_g]
  simp only [fm,Bool.and_eq_true]
  constructor
  ·rintro ⟨p',hp,h | h⟩
   ·obtain ⟨q',h1,h2,h3,h4⟩:=(two (q:=0)).mp h
    rcases mem_twoS.mp h3 with ⟨e,hu⟩ | ⟨e,_⟩
    ·cases e
     exact ⟨⟨h1,h2⟩,hu,(lr ho h2).mpr h4⟩
    ·cases e
   ·obtain ⟨q,t,e,_⟩:=mem_threeL.mp h
    cases e
  ·rintro ⟨⟨h1,h2⟩,hu,hc⟩
   exact ⟨p,by omega,.inl ((two (q:=0)).mpr ⟨q,h1,h2,mem_twoS.mpr (.inl ⟨rfl,hu⟩),(lr ho h2).mp hc⟩)⟩
 | j p q=>
  rw [mem_cand_j]
  simp only [fm,Bool.and_eq_true]
  constructor
  ·rintro ⟨p',hp,h | h⟩
   ·obtain ⟨q',h1,h2,h3,h4⟩:=(two (q:=0)).mp h
    rcases mem_twoS.mp h3 with ⟨e,hu⟩ | ⟨e,ht,hv⟩
    ·cases e
    ·cases e
     exact ⟨⟨h1,h2⟩,ht,by rw [sV]; exact hv,(lr ho h2).mpr h4⟩
   ·obtain ⟨q,t,e,_⟩:=mem_threeL.mp h
    cases e
  ·rintro ⟨⟨h1,h2⟩,ht,hv,hc⟩
   exact ⟨p,by omega,.inl ((two (q:=0)).mpr ⟨q,h1,h2,mem_twoS.mpr (.inr ⟨rfl,ht,by rw [sV]; exact hv⟩),(lr ho h2).mp hc⟩)⟩
 | s p q t=>
  rw [mem_cand_s]
  have fit:fm rs (.s p q t)=true↔(ro rs p).isS=true/\mP (ro rs p) (ro rs t)=true/\(cF (ro rs q) (ro rs p).n1).isSome=true/\∀ x,p<x->x<t->x≠q->vn (ro rs x) (ro rs p).n1=false:=by
   have he:∀ o:Option Rw,o.toList.isEmpty=!o.isSome:=fun o=>by cases o <;> rfl
   simp only [fm,he,Bool.and_eq_true,List.all_eq_true,mem_btw]
   constructor
   ·rintro ⟨h1,h2⟩
    have h1:((ro rs p).isS=true/\mP (ro rs p) (ro rs t)=true/\(cF (ro rs q) (ro rs p).n1).isSome=true):=by
     simpa using h1
    refine ⟨h1.1,h1.2.1,h1.2.2,fun x x1 x2 x3=>?_⟩
    have:=h2 x ⟨x1,x2⟩
    have n:(x==q)=false:=by simpa using x3
    rw [n] at this
    simpa using this
   ·rintro ⟨h1,h2,h3,h4⟩
    refine ⟨by rw [h1,h2,h3]; rfl,fun x hx=>?_⟩
    by_cases e:x=q
    ·subst e; simp
    ·rw [h4 x hx.1 hx.2 e]; simp
  rw [fit]
  have fw:∀ w,(∃ l,xW rs p w=q::t::l)↔p+1<=q/\q<t/\t<p+1+(rs.length-(p+1))/\vn (ro rs q) w=true/\vn (ro rs t) w=true/\∀ x,p+1<=x->x<t->x≠q->vn (ro rs x) w=false:=fun w=>by
   have e:xW rs p w=(List.range' (p+1) (rs.length-(p+1))).filter fun q=>vn (ro rs q) w:=by
    unfold xW rest
    exact List.filter_congr fun q _=>vx _ _
   rw [e]
   exact Fh _
  constructor
  ·rintro ⟨p',hp,h | h⟩
   ·obtain ⟨q',h1,h2,h3,h4⟩:=(two (q:=0)).mp h
    rcases mem_twoS.mp h3 with ⟨e,_⟩ | ⟨e,_⟩ <;> cases e
   ·obtain ⟨q',t',e,hS,hl,he,hw⟩:=mem_threeL.mp h
    cases e
    obtain ⟨a1,a2,a3,a4,a5,a6⟩:=(fw _).mp hl
    refine ⟨⟨hS,by omega,a2,by omega⟩,hS,?_,hw,fun x x1 x2 x3=>a6 x (by omega) x2 x3⟩
    rw [gL hS,xy,<- gL hS]
    exact he
  ·rintro ⟨⟨hS,h1,h2,h3⟩,_,he,hw,hx⟩
   refine ⟨p,by omega,.inr (mem_threeL.mpr ⟨q,t,rfl,hS,(fw _).mpr ⟨by omega,h2,by omega,?_,?_,fun x x1 x2 x3=>hx x (by omega) x2 x3⟩,?_,hw⟩)⟩
   ·obtain ⟨r',e⟩:=Option.isSome_iff_exists.mp hw
    rw [<- vx]
    exact List.any_eq_true.mpr ⟨_,vH e,by simp⟩
   ·rw [gL hS] at he
    rw [nQ he]
    simp [vn,kl]
   ·rw [gL hS] at he ⊢
    rw [<- xy]
    exact he
def Sp.pp:Sp->Nat
 | .g p _=>p
 | .j p _=>p
 | .s p _ _=>p
def Sp.qq:Sp->Nat
 | .g _ q=>q
 | .j _ q=>q
 | .s _ q _=>q
theorem vW (a m:Nat):(List.range' a m).Pairwise (· < ·):=List.pairwise_lt_range'
theorem hR (a m:Nat):(List.range' a m).Pairwise (· ≠ ·):=(vW a m).imp fun h=>Nat.ne_of_lt h
theorem BD {α β:Type} (f:α -> β) {R:β -> β -> Prop} {S:α -> α -> Prop} {l:List α} (h:l.Pairwise S) (hf:∀ a b,S a b->R (f a) (f b)):(l.map f).Pairwise R:=List.pairwise_map.mpr (h.imp fun h=>hf _ _ h)
theorem jK {rs:List Rw} {p q:Nat} {x:Sp} (h:x∈fW rs p q):x.pp=p/\x.qq=q:=by
 unfold fW at h
 rcases List.mem_cons.mp h with rfl | h
 ·exact ⟨rfl,rfl⟩
 rcases List.mem_cons.mp h with rfl | h
 ·exact ⟨rfl,rfl⟩
 split at h
 ·obtain ⟨t,_,rfl⟩:=List.mem_map.mp h
  exact ⟨rfl,rfl⟩
 ·cases h
theorem xK (rs:List Rw) (p q:Nat):(fW rs p q).Pairwise (· ≠ ·):=by
 unfold fW
 have hs:∀ x∈(if (ro rs p).isS then (rest rs q).map (Sp.s p q) else []),∃ t,x=.s p q t:=fun x hx=>by
  split at hx
  ·obtain ⟨t,_,rfl⟩:=List.mem_map.mp hx
   exact ⟨t,rfl⟩
  ·cases hx
 refine List.pairwise_cons.mpr ⟨fun x hx e=>?_,List.pairwise_cons.mpr ⟨fun x hx e=>?_,?_⟩⟩
 ·rcases List.mem_cons.mp hx with h | h
  ·rw [<- e] at h; cases h
  ·obtain ⟨t,h⟩:=hs x h
   rw [<- e] at h; cases h
 ·obtain ⟨t,h⟩:=hs x hx
  rw [<- e] at h; cases h
 ·split
  ·exact BD (Sp.s p q) (hR _ _) fun a b h e=>h (by cases e; rfl)
  ·exact .nil
theorem AF (rs:List Rw) (m:Nat):(eA rs m).Pairwise (· ≠ ·):=by
 unfold eA
 refine List.pairwise_flatMap.mpr ⟨fun p _=>?_,?_⟩
 ·unfold ic
  refine List.pairwise_flatMap.mpr ⟨fun q _=>xK rs p q,?_⟩
  refine (hR _ _).imp fun {a b} h x hx y hy e=>h ?_
  rw [<- (jK hx).2,<- (jK hy).2,e]
 ·have:(List.range m).Pairwise (· ≠ ·):=by rw [List.range_eq_range']; exact hR _ _
  refine this.imp fun {a b} h x hx y hy e=>h ?_
  obtain ⟨q,_,hx⟩:=List.mem_flatMap.mp hx
  obtain ⟨q',_,hy⟩:=List.mem_flatMap.mp hy
  rw [<- (jK hx).1,<- (jK hy).1,e]
theorem yz (rs:List Rw) (p q:Nat):(g0 rs p q).Pairwise (· ≠ ·):=by
 unfold g0
 split <;> split <;> simp
theorem sT {rs:List Rw} {p q:Nat} {x:Sp} (h:x∈g0 rs p q):x.pp=p/\x.qq=q:=by
 rcases mem_twoS.mp h with ⟨rfl,_⟩ | ⟨rfl,_⟩ <;> exact ⟨rfl,rfl⟩
theorem lE {rs:List Rw} {p:Nat} {x:Sp}:∀ {qs:List Nat},x∈fC rs p qs->x.pp=p/\x.qq∈qs/\∀ a b t,x≠.s a b t
 | [],h=>by cases h
 | q::qs,h=>by
  rw [fC] at h
  rcases List.mem_append.mp h with h | h
  ·have:=sT h
   refine ⟨this.1,by rw [this.2]; exact List.mem_cons_self,fun a b t e=>?_⟩
   rcases mem_twoS.mp h with ⟨f,_⟩ | ⟨f,_⟩ <;> rw [e] at f <;> cases f
  ·split at h
   ·have:=lE h
    exact ⟨this.1,List.mem_cons_of_mem _ this.2.1,this.2.2⟩
   ·cases h
theorem sU (rs:List Rw) (p:Nat):∀ {qs:List Nat},qs.Pairwise (· ≠ ·)->(fC rs p qs).Pairwise (· ≠ ·)
 | [],_=>.nil
 | q::qs,h=>by
  obtain ⟨h1,h2⟩:=List.pairwise_cons.mp h
  rw [fC]
  refine List.pairwise_append.mpr ⟨yz rs p q,?_,fun x hx y hy e=>?_⟩
  ·split
   ·exact sU rs p h2
   ·exact .nil
  ·split at hy
   ·have a:=(sT hx).2
    have b:=(lE hy).2.1
    rw [<- e,a] at b
    exact h1 q b rfl
   ·cases hy
theorem AL (rs:List Rw) (m:Nat):(jS rs m).Pairwise (· ≠ ·):=by
 unfold jS
 have three:∀ {p x},x∈dq rs p->x.pp=p/\∃ a b t,x=.s a b t:=fun h=>by
  obtain ⟨q,t,rfl,_⟩:=mem_threeL.mp h
  exact ⟨rfl,_,_,_,rfl⟩
 refine List.pairwise_flatMap.mpr ⟨fun p _=>?_,?_⟩
 ·refine List.pairwise_append.mpr ⟨sU rs p (hR _ _),?_,fun x hx y hy e=>?_⟩
  ·have:=iO rs p
   match h:dq rs p with
   | []=>exact .nil
   | [a]=>exact List.pairwise_singleton _ _
   | a::b::l=>rw [h] at this; simp at this
  ·obtain ⟨_,a,b,t,h⟩:=three hy
   exact (lE hx).2.2 a b t (e.trans h)
 ·have:(List.range m).Pairwise (· ≠ ·):=by rw [List.range_eq_range']; exact hR _ _
  refine this.imp fun {a b} h x hx y hy e=>h ?_
  have pa:x.pp=a:=by
   rcases List.mem_append.mp hx with z | z
   ·exact (lE z).1
   ·exact (three z).1
  have pb:y.pp=b:=by
   rcases List.mem_append.mp hy with z | z
   ·exact (lE z).1
   ·exact (three z).1
  rw [<- pa,<- pb,e]
theorem uD {rs:List Rw} (ho:Ord rs):(jS rs rs.length).Perm ((eA rs rs.length).filter (fm rs)):=
 (List.perm_ext_iff_of_nodup (AL rs _) ((AF rs _).sublist List.filter_sublist)).mpr fun x=>vS ho x
def spK:Sp->List aY
 | .g p q=>[.inr "gone",.inl p,.inl q]
 | .j p q=>[.inr "joined",.inl p,.inl q]
 | .s p q t=>[.inr "swung",.inl p,.inl q,.inl t]
theorem A3:(("gone":Str) == "joined")=false:=by decide +kernel
theorem A2:(("gone":Str) == "swung")=false:=by decide +kernel
theorem A1:(("joined":Str) == "gone")=false:=by decide +kernel
theorem A0:(("joined":Str) == "swung")=false:=by decide +kernel
theorem AY:(("swung":Str) == "gone")=false:=by decide +kernel
theorem AX:(("swung":Str) == "joined")=false:=by decide +kernel
theorem yG {a b:Sp} (h:spK a=spK b):a=b:=by
 have n1:=A3; have n2:=A2; have n3:=A1; have n4:=A0; have n5:=AY; have n6:=AX
 simp only [beq_eq_false_iff_ne,ne_eq] at n1 n2 n3 n4 n5 n6
 cases a <;> cases b <;> simp [spK,n1,n2,n3,n4,n5,n6] at h ⊢ <;> omega
theorem DN (x:Sp):PyData.tuple ((spK x).map iL)=zpD x:=by cases x <;> rfl
theorem Ae (x:Sp):EH (zpD x)=some (spK x):=by cases x <;> rfl
theorem qE:∀ xs:List Sp,qF (xs.map zpD)=some (xs.map spK)
 | []=>rfl
 | x::xs=>by
  rw [List.map_cons,qF,Ae,Option.bind_some,qE xs,Option.bind_some,List.map_cons]
theorem yC (x:Sp):jf (spK x)=true:=by cases x <;> rfl
theorem Aj (x:Sp) (l:List D):su (zpD x::l)=none:=by cases x <;> rfl
theorem yI (xs:List Sp):cV (.list (xs.map zpD))=some (.list ((eJ (xs.map spK)).map fun k=>.tuple (k.map iL))):=by
 cases xs with
 | nil=>rfl
 | cons x xs=>
  have h1:su ((x::xs).map zpD)=none:=Aj x _
  have h2:=qE (x::xs)
  have h3:(((x::xs).map spK).all jf||((x::xs).map spK).all rq)=true:=by
   rw [Bool.or_eq_true]
   refine .inl (List.all_eq_true.mpr fun k hk=>?_)
   obtain ⟨y,_,rfl⟩:=List.mem_map.mp hk
   exact yC y
  generalize (x::xs)=ys at h1 h2 h3
  show ((dc (.list (ys.map zpD))).bind _)=_
  have h0:dc (.list (ys.map zpD))=some (ys.map zpD):=rfl
  rw [h0,Option.bind_some]
  simp only [h1,h2,Option.bind_some]
  rw [if_pos h3]
theorem yH (xs:List Sp):∃ zs:List Sp,(zs.length=xs.length/\∀ x,x∈zs↔x∈xs)/\cV (.list (xs.map zpD))=some (.list (zs.map zpD))/\∀ ys:List Sp,ys.Perm xs->cV (.list (ys.map zpD))=some (.list (zs.map zpD)):=by
 have pull:∀ l:List (List aY),(∀ k∈l,∃ x,k=spK x)->∃ zs:List Sp,l=zs.map spK:=by
  intro l
  induction l with
  | nil=>exact fun _=>⟨[],rfl⟩
  | cons k l ih=>
   intro h
   obtain ⟨x,rfl⟩:=h k List.mem_cons_self
   obtain ⟨zs,rfl⟩:=ih fun k hk=>h k (List.mem_cons_of_mem _ hk)
   exact ⟨x::zs,rfl⟩
 have pm:=fS (xs.map spK)
 obtain ⟨zs,hz⟩:=pull (eJ (xs.map spK)) fun k hk=>by
  obtain ⟨x,_,e⟩:=List.mem_map.mp (pm.mem_iff.mp hk)
  exact ⟨x,e.symm⟩
 have hl:zs.length=xs.length:=by
  have:=pm.length_eq
  rw [hz,List.length_map,List.length_map] at this
  exact this
 have key:∀ ys:List Sp,ys.Perm xs->cV (.list (ys.map zpD))=some (.list (zs.map zpD)):=fun ys p=>by
  rw [yI,mj (p.map spK),hz,List.map_map]
  congr 2
  exact List.map_congr_left fun x _=>DN x
 have inj:∀ {a b:Sp},spK a=spK b->a=b:=fun h=>yG h
 have hm:∀ x,x∈zs↔x∈xs:=fun x=>by
  have:=pm.mem_iff (a:=spK x)
  rw [hz] at this
  constructor
  ·intro h
   obtain ⟨y,hy,e⟩:=List.mem_map.mp (this.mp (List.mem_map_of_mem h))
   rw [<- inj e]; exact hy
  ·intro h
   obtain ⟨y,hy,e⟩:=List.mem_map.mp (this.mpr (List.mem_map_of_mem h))
   rw [<- inj e]; exact hy
 exact ⟨zs,⟨hl,hm⟩,key xs (.refl _),key⟩
theorem jL {rs:List Rw} (ho:Ord rs) (hn:rs.length<=100) (w:Nat):∃ zs:List Sp,(zs.length<=100000/\∀ x,x∈zs↔x∈(eA rs rs.length).filter (fm rs))/\bc [bR w rs]=some (.list (zs.map zpD))/\bH [.tuple (rs.map rwD)]=some (.list (zs.map zpD)):=by
 obtain ⟨zs,⟨hl,hm⟩,h1,h2⟩:=yH ((eA rs rs.length).filter (fm rs))
 have p:=uD ho
 have l1:=mI rs rs.length
 have l2:rs.length*(2*rs.length+1)<=100*201:=Nat.mul_le_mul hn (by omega)
 exact ⟨zs,⟨by rw [hl,<- p.length_eq]; omega,hm⟩,uz ho hn w _ (h2 _ p),uR ho hn _ h1⟩
inductive Zp where
 | g (p q:Int) | j (p q:Int) | s (p q t:Int)
noncomputable def zqD:Zp->D
 | .g p q=>.tuple [.str "gone",.int p,.int q]
 | .j p q=>.tuple [.str "joined",.int p,.int q]
 | .s p q t=>.tuple [.str "swung",.int p,.int q,.int t]
def up:Sp->Zp
 | .g p q=>.g p q
 | .j p q=>.j p q
 | .s p q t=>.s p q t
theorem vv (x:Sp):zqD (up x)=zpD x:=by cases x <;> rfl
theorem GP (s:Str) (h:iw s=true) (l:List Int):MA.Sh 1 (.tuple (.str s::l.map .int)):=MA.Sh.tuple fun z hz=>by
  rcases List.mem_cons.mp hz with rfl | hz
  ·exact rT 0 h
  ·obtain ⟨i,_,rfl⟩:=List.mem_map.mp hz
   exact MA.Sh.int 0 _
theorem vQ (z:Zp):MA.Sh 1 (zqD z):=by
 cases z with
 | g p q=>exact GP _ gv [p,q]
 | j p q=>exact GP _ dW [p,q]
 | s p q t=>exact GP _ dU [p,q,t]
theorem xx (x:Sp) (z:Zp):PyData.eqv (zpD x) (zqD z)=true↔up x=z:=by
 have a:=A3; have b:=A2; have c:=A1; have d:=A0; have e:=AY; have f:=AX
 simp only [beq_eq_false_iff_ne,ne_eq] at a b c d e f
 cases x <;> cases z <;> simp [zpD,zqD,up,PyData.eqv,PyData.eqvAll,a,b,c,d,e,f]
theorem Cw (z:Zp) (zs:List Sp):tZ (zqD z) (zs.map zpD)=true↔∃ x∈zs,up x=z:=by
 unfold tZ
 rw [List.any_map,List.any_eq_true]
 constructor
 ·rintro ⟨x,hx,e⟩; exact ⟨x,hx,(xx x z).mp e⟩
 ·rintro ⟨x,hx,e⟩; exact ⟨x,hx,(xx x z).mpr e⟩
theorem wR:∀ zs:List Sp,PyData.canLayAll0 (zs.map zpD)=true
 | []=>rfl
 | x::zs=>by
  have h:(zpD x).canLay0=true:=by rw [<- vv]; exact (vQ (up x)).1
  rw [List.map_cons,PyData.canLayAll0,h,wR zs]
  rfl
theorem Cy (z:Zp) (zs:List Sp):E5 true (zqD z) (.list (zs.map zpD))=some (.bool (!tZ (zqD z) (zs.map zpD))):=if_pos ⟨g7 (vQ z) (by decide),wR zs⟩
theorem Bw (w n:Int) (R S L X:D) (V:List D) (F:List D) (h:bc [.tuple [.int w,R]]=some L) (hi:E5 true S L=some (.bool false)) (hc:bq [R,S]=some X) (h1:oD [.fz (.tuple [.int w,R]),.fz S,.fz X,.un]=some (.list V)) (h2:oB [.fz (.tuple [.int w,R]),.fz S,.fz X,.fz (.list V)]=some (.list F)):gM [.tuple [.int w,R],S]=some (.tuple [.int w,.tuple F]):=by
 simp [-sSeq,-sIf,ag,aq,gM,runB,sP,aj,h,hi,hc,h1,h2]
theorem Eg (C R X z:D) (S:Sl) (n:Int) (ks:List Nat) (V:Nat->D) (hk:ks.length<=16777216) (cr:aC C (.int 1)=some R) (ln:cw [R]=some (.int n)) (hr:d8 [.int n]=some (ks.map fun k:Nat=>PyData.int k)) (hv:∀ k∈ks,∃ A,aC R (.int (k:Int))=some A/\nN [X,.int (k:Int),A]=some (V k)):oD [.fz C,S,.fz X,.un]=some (.list (ks.map V)):=by
 have:=fq (fi:=oL (ac (VL.os (ac (o2 (oV 0) (oC (.int 1)) aC) (ao)) cw) (ao)) d8) (caps:=[(0,"circuit"),(2,"changes")]) (fe:=VL.os (ac (oV 2) (ac (oV 0) (ac (o2 (o2 (oV 1) (oC (.int 1)) aC) (oV 0) aC) ao))) nN) (δ:=[.fz C,S,.fz X,.un]) (h:=fun k:Nat=>PyData.int k) (k:=V) (xs:=ks) (by simp [cr,ln,hr]) hk (fun k hq=>by
  obtain ⟨A,a1,a2⟩:=hv k hq
  simp [dN,cr,a1,a2])
 exact this
theorem o6 (f:Nat->Option Rw):∀ ks:List Nat,(ks.filter fun k=>(f k).isSome).map (fun k=>kY (f k))=(ks.filterMap f).map rwD
 | []=>rfl
 | k::ks=>by
  rw [List.filter_cons,List.filterMap_cons]
  cases e:f k with
  | none=>simpa using o6 f ks
  | some r=>
   have ih:=o6 f ks
   simp only [Option.isSome_some,if_true,List.map_cons,e]
   rw [ih]; rfl
theorem Ef (z0 z1 z2:Sl) (ks:List Nat) (f:Nat->Option Rw) (hk:ks.length<=16777216):oB [z0,z1,z2,.fz (.list (ks.map fun k=>kY (f k)))]=some (.list ((ks.filterMap f).map rwD)):=by
 have:=eY (fi:=oI (oV 3) dc) (caps:=[]) (ft:=ob (o2 (oV 0) (oC .none) jy)) (fe:=oV 0) (δ:=[z0,z1,z2,.fz (.list (ks.map fun k=>kY (f k)))]) (h:=fun k=>kY (f k)) (k:=fun k=>kY (f k)) (b:=fun k=>(f k).isSome) (xs:=ks) (by simp) hk (fun k _=>by simp [dN,jy,xc]) (fun k _ _=>by simp)
 rw [o6] at this
 exact this
def mid (rs:List Rw):Sp->Option Rw
 | .g _ _=>none
 | .j p q=>match ro rs p,ro rs q with
  | .pl (.turn a e),.pl (.turn _ f)=>if (e+f) % 8=0 then none else some (.pl (.turn a ((e+f) % 8)))
  | _,_=>none
 | .s p q _=>cF (ro rs q) (ro rs p).n1
def jX (rs:List Rw) (x:Sp) (k:Nat):Option Rw:=match x with
 | .g p q=>if k=p then none else if k=q then none else some (ro rs k)
 | .j p q=>if k=p then none else if k=q then mid rs (.j p q) else some (ro rs k)
 | .s p q t=>if k=p then none else if k=q then mid rs (.s p q t) else if k=t then none else some (ro rs k)
noncomputable def kz (rs:List Rw) (a b:Nat):List Rw:=(List.range' a (b-a)).map (ro rs)
def gH (rs:List Rw) (x:Sp):List Rw:=match x with
 | .g p q=>kz rs 0 p++kz rs (p+1) q++kz rs (q+1) rs.length
 | .j p q=>kz rs 0 p++kz rs (p+1) q++(mid rs (.j p q)).toList++kz rs (q+1) rs.length
 | .s p q t=>kz rs 0 p++kz rs (p+1) q++(mid rs (.s p q t)).toList++kz rs (q+1) t++kz rs (t+1) rs.length
theorem fj {α:Type} (f:Nat->Option α) {a b p:Nat} (h1:a<=p) (h2:p<b):(List.range' a (b-a)).filterMap f=(List.range' a (p-a)).filterMap f++((f p).toList++(List.range' (p+1) (b-(p+1))).filterMap f):=by
 have e:List.range' a (b-a)=List.range' a (p-a)++p::List.range' (p+1) (b-(p+1)):=by
  have h3:b-a=(p-a)+((b-(p+1))+1):=by omega
  rw [h3,<- List.range'_append_1,List.range'_succ]
  rw [show a+(p-a)=p by omega]
 rw [e,List.filterMap_append,List.filterMap_cons]
 cases f p <;> simp
theorem Bi {α:Type} {f:Nat->Option α} {g:Nat -> α}:∀ {l:List Nat},(∀ k∈l,f k=some (g k))->l.filterMap f=l.map g
 | [],_=>rfl
 | k::l,h=>by
  rw [List.filterMap_cons,h k List.mem_cons_self,List.map_cons,Bi fun x hx=>h x (List.mem_cons_of_mem _ hx)]
theorem gg (rs:List Rw) {f:Nat->Option Rw} {a b:Nat} (h:∀ k,a<=k->k<b->f k=some (ro rs k)):(List.range' a (b-a)).filterMap f=kz rs a b:=by
 unfold kz
 refine Bi fun k hk=>?_
 have:=List.mem_range'_1.mp hk
 exact h k (by omega) (by omega)
theorem AB {rs:List Rw} {x:Sp} (hx:x∈eA rs rs.length):(List.range rs.length).filterMap (jX rs x)=gH rs x:=by
 rw [List.range_eq_range',show List.range' 0 rs.length=List.range' 0 (rs.length-0) by simp]
 cases x with
 | g p q=>
  obtain ⟨h1,h2⟩:=mem_cand_g.mp hx
  rw [fj _ (Nat.zero_le p) (by omega),fj _ (show p+1<=q by omega) h2,gg rs (a:=0) (b:=p) (fun k a b=>?_),gg rs (a:=p+1) (b:=q) (fun k a b=>?_),gg rs (a:=q+1) (b:=rs.length) (fun k a b=>?_)]
  ·simp [jX,gH]
  ·simp only [jX]; rw [if_neg (by omega),if_neg (by omega)]
  ·simp only [jX]; rw [if_neg (by omega),if_neg (by omega)]
  ·simp only [jX]; rw [if_neg (by omega),if_neg (by omega)]
 | j p q=>
  obtain ⟨h1,h2⟩:=mem_cand_j.mp hx
  rw [fj _ (Nat.zero_le p) (by omega),fj _ (show p+1<=q by omega) h2,gg rs (a:=0) (b:=p) (fun k a b=>?_),gg rs (a:=p+1) (b:=q) (fun k a b=>?_),gg rs (a:=q+1) (b:=rs.length) (fun k a b=>?_)]
  ·have e1:jX rs (.j p q) p=none:=by simp [jX]
   have e2:jX rs (.j p q) q=mid rs (.j p q):=by simp only [jX]; rw [if_neg (by omega)]; simp
   rw [e1,e2]
   simp [gH]
  ·simp only [jX]; rw [if_neg (by omega),if_neg (by omega)]
  ·simp only [jX]; rw [if_neg (by omega),if_neg (by omega)]
  ·simp only [jX]; rw [if_neg (by omega),if_neg (by omega)]
 | s p q t=>
  obtain ⟨_,h1,h2,h3⟩:=mem_cand_s.mp hx
  rw [fj _ (Nat.zero_le p) (by omega),fj _ (show p+1<=q by omega) (show q<rs.length by omega),fj _ (show q+1<=t by omega) h3,gg rs (a:=0) (b:=p) (fun k a b=>?_),gg rs (a:=p+1) (b:=q) (fun k a b=>?_),gg rs (a:=q+1) (b:=t) (fun k a b=>?_),gg rs (a:=t+1) (b:=rs.length) (fun k a b=>?_)]
  ·have e1:jX rs (.s p q t) p=none:=by simp [jX]
   have e2:jX rs (.s p q t) q=mid rs (.s p q t):=by simp only [jX]; rw [if_neg (by omega)]; simp
   have e3:jX rs (.s p q t) t=none:=by simp only [jX]; rw [if_neg (by omega),if_neg (by omega)]; simp
   rw [e1,e2,e3]
   simp [gH]
  ·simp only [jX]; rw [if_neg (by omega),if_neg (by omega),if_neg (by omega)]
  ·simp only [jX]; rw [if_neg (by omega),if_neg (by omega),if_neg (by omega)]
  ·simp only [jX]; rw [if_neg (by omega),if_neg (by omega),if_neg (by omega)]
  ·simp only [jX]; rw [if_neg (by omega),if_neg (by omega),if_neg (by omega)]
theorem Hn (A B:D) (a e f k:Int) (h1:aC A (.int 1)=some (.int a)) (h2:aC A (.int 2)=some (.int e)) (h3:aC B (.int 2)=some (.int f)) (hk:(e+f) % 8=k):dM [A,B]=some (if k=0 then .none else .tuple [.str "turn",.int a,.int k]):=by
 by_cases h:k=0
 ·subst h
  simp [-sSeq,-sIf,ag,aq,dM,runB,jO,aj,h2,h3,hk]
 ·simp [-sSeq,-sIf,ag,aq,dM,runB,jO,aj,h1,h2,h3,hk,h]
theorem CD {rs:List Rw} {p q:Nat} (h:fm rs (.j p q)=true):∃ a e f,ro rs p=.pl (.turn a e)/\ro rs q=.pl (.turn a f):=by
 simp only [fm,Bool.and_eq_true] at h
 obtain ⟨h1,h2,_⟩:=h
 obtain ⟨a,e,hp⟩:∃ a e,ro rs p=.pl (.turn a e):=by
  cases hr:ro rs p with
  | pl r=>cases r <;> first | exact ⟨_,_,rfl⟩ | (rw [hr] at h1; cases h1)
  | _=>rw [hr] at h1; cases h1
 unfold te at h2
 obtain ⟨h3,h4⟩:=Bool.and_eq_true_iff.mp h2
 have hT:(ro rs q).isT=true:=by
  have:=lj (ro rs q)
  rw [eq_of_beq h3,hp] at this
  have k:aH (.str (Rw.pl (.turn a e)).wd) (.str "turn")=some (.bool true):=lj (.pl (.turn a e))
  rw [k] at this
  simpa using this.symm
 obtain ⟨b,f,hq⟩:∃ b f,ro rs q=.pl (.turn b f):=by
  cases hr:ro rs q with
  | pl r=>cases r <;> first | exact ⟨_,_,rfl⟩ | (rw [hr] at hT; cases hT)
  | _=>rw [hr] at hT; cases hT
 rw [hp,hq] at h4
 have:b=a:=by
  have:=eq_of_beq h4
  simp [Rw.n1] at this
  omega
 subst this
 exact ⟨b,e,f,hp,hq⟩
theorem u5 {rs:List Rw} {p q:Nat} (h:fm rs (.j p q)=true):dM [rwD (ro rs p),rwD (ro rs q)]=some (kY (mid rs (.j p q))):=by
 obtain ⟨a,e,f,hp,hq⟩:=CD h
 rw [hp,hq,Hn (rwD (.pl (.turn a e))) (rwD (.pl (.turn a f))) a e f (((e+f) % 8:Nat):Int) (at1 _ _ _) (CY _ _ _ _) (CY _ _ _ _) (by omega)]
 simp only [mid,hp,hq]
 by_cases z:(e+f) % 8=0
 ·rw [if_pos (by omega),if_pos z]; rfl
 ·rw [if_neg (by omega),if_neg z]; rfl
def Gi (rs:List Rw):Sp->List (aY×D)
 | .g p q=>[(.inl p,.none),(.inl q,.none)]
 | .j p q=>[(.inl p,.none),(.inl q,kY (mid rs (.j p q)))]
 | .s p q t=>[(.inl p,.none),(.inl q,kY (mid rs (.s p q t))),(.inl t,.none)]
def FA (rs:List Rw) (x:Sp):D:=.dict ((.none,.none)::yn (Gi rs x))
theorem F4 {a b:Nat} (h:a≠b):decide ((Sum.inl (b:Int):aY)=.inl (a:Int))=false:=decide_eq_false fun z=>h (by have:=Sum.inl.inj z; omega)
theorem Fv (p q:Nat) (a b:D) (h:p≠q):o8 [.int p,a,.int q,b]=some (.dict ((.none,.none)::yn [(.inl p,a),(.inl q,b)])):=by
 have hd:qT ([((.inl (p:Int):aY),a),(.inl (q:Int),b)].map (·.1))=true:=by simp only [List.map_cons,List.map_nil,qT,List.any_cons,List.any_nil,F4 h]; rfl
 exact if_pos ⟨hd,by simp⟩
theorem HM (p q t:Nat) (a b c:D) (h:p≠q) (h2:p≠t) (h3:q≠t):o8 [.int p,a,.int q,b,.int t,c]=some (.dict ((.none,.none)::yn [(.inl p,a),(.inl q,b),(.inl t,c)])):=by
 have hd:qT ([((.inl (p:Int):aY),a),(.inl (q:Int),b),(.inl (t:Int),c)].map (·.1))=true:=by simp only [List.map_cons,List.map_nil,qT,List.any_cons,List.any_nil,F4 h,F4 h2,F4 h3]; rfl
 exact if_pos ⟨hd,by simp⟩
theorem HX (R:D) (p q:Int) (X:D) (h:o8 [.int p,.none,.int q,.none]=some X):bq [R,.tuple [.str "gone",.int p,.int q]]=some X:=by
 simp [-sSeq,-sIf,ag,aq,bq,runB,dP,aj,k_gg,h]
theorem HW (R A B M:D) (p q:Int) (X:D) (ra:aC R (.int p)=some A) (rb:aC R (.int q)=some B) (hj:dM [A,B]=some M) (h:o8 [.int p,.none,.int q,M]=some X):bq [R,.tuple [.str "joined",.int p,.int q]]=some X:=by
 simp [-sSeq,-sIf,ag,aq,bq,runB,dP,aj,k_jg,k_jj,ra,rb,hj,h]
theorem HV (R A B M:D) (p q t w:Int) (X:D) (ra:aC R (.int p)=some A) (a1:aC A (.int 1)=some (.int w)) (rb:aC R (.int q)=some B) (hj:ck [B,.int w]=some M) (h:o8 [.int p,.none,.int q,M,.int t,.none]=some X):bq [R,.tuple [.str "swung",.int p,.int q,.int t]]=some X:=by
 simp [-sSeq,-sIf,ag,aq,bq,runB,dP,aj,k_sg,k_sj,ix3,ra,a1,rb,hj,h]
theorem FB {rs:List Rw} {x:Sp} (hx:x∈eA rs rs.length) (hf:fm rs x=true):bq [.tuple (rs.map rwD),zpD x]=some (FA rs x):=by
 cases x with
 | g p q=>
  obtain ⟨h1,h2⟩:=mem_cand_g.mp hx
  exact HX _ p q _ (Fv p q _ _ (by omega))
 | j p q=>
  obtain ⟨h1,h2⟩:=mem_cand_j.mp hx
  exact HW _ _ _ _ p q _ (cI (by omega)) (cI h2) (u5 hf) (Fv p q _ _ (by omega))
 | s p q t=>
  obtain ⟨hS,h1,h2,h3⟩:=mem_cand_s.mp hx
  have hw:(cF (ro rs q) (ro rs p).n1).isSome=true:=by
   simp only [fm,Bool.and_eq_true] at hf
   cases e:cF (ro rs q) (ro rs p).n1 with
   | some r=>rfl
   | none=>rw [e] at hf; simp at hf
  obtain ⟨r',e⟩:=Option.isSome_iff_exists.mp hw
  exact HV _ _ _ _ p q t _ _ (cI (by omega)) (qm _) (cI (by omega)) (II (vH e)) (HM p q t _ _ _ (by omega) (by omega) (by omega))
theorem E9 (es:List (aY×D)) (k:Int) (A:D):nN [.dict ((.none,.none)::yn es),.int k,A]=some ((kP es (.inl k)).getD A):=by
 show ((pO (yn es)).bind fun es=>(qH (.int k)).bind fun k=>some ((kP es k).getD A))=_
 rw [lD]
 rfl
theorem ke (a b:Nat):decide ((Sum.inl (a:Int):aY)=.inl (b:Int))=decide (b=a):=by
 rw [decide_eq_decide]
 constructor
 ·intro z; have:=Sum.inl.inj z; omega
 ·rintro rfl; rfl
theorem kf (a k:Nat) (d:D) (es:List (aY×D)):kP ((.inl (a:Int),d)::es) (.inl (k:Int))=if k=a then some d else kP es (.inl (k:Int)):=by
 unfold kP
 rw [List.find?_cons]
 simp only [ke]
 by_cases h:k=a
 ·simp [h]
 ·simp [h]
theorem CA (rs:List Rw) (x:Sp) (k:Nat):nN [FA rs x,.int (k:Int),rwD (ro rs k)]=some (kY (jX rs x k)):=by
 unfold FA
 rw [E9]
 cases x with
 | g p q=>
  simp only [Gi,jX,kf]
  split
  ·rfl
  ·split <;> rfl
 | j p q=>
  simp only [Gi,jX,kf]
  split
  ·rfl
  ·split <;> rfl
 | s p q t=>
  simp only [Gi,jX,kf]
  split
  ·rfl
  ·split
   ·rfl
   ·split <;> rfl
theorem yJ {rs:List Rw} (ho:Ord rs) (hn:rs.length<=100) (w:Nat) {x:Sp} (hx:x∈eA rs rs.length) (hf:fm rs x=true) (L:D) (h:bc [bR w rs]=some L) (hi:E5 true (zpD x) L=some (.bool false)):gM [bR w rs,zpD x]=some (bR w (gH rs x)):=by
 have hr:d8 [.int (rs.length:Int)]=some ((List.range rs.length).map fun k:Nat=>PyData.int k):=by
  rw [il (j:=(rs.length:Int)) (by omega) (by omega),Int.toNat_natCast,List.range_eq_range']
  exact congrArg some (pZ 0 rs.length)
 have p1:=Eg (bR w rs) (.tuple (rs.map rwD)) (FA rs x) .none (.fz (zpD x)) rs.length (List.range rs.length) (fun k=>kY (jX rs x k)) (by simp; omega) (km w rs) (by simp) hr (fun k hk=>⟨_,cI (List.mem_range.mp hk),CA rs x k⟩)
 have p2:=Ef (.fz (bR w rs)) (.fz (zpD x)) (.fz (FA rs x)) (List.range rs.length) (jX rs x) (by simp; omega)
 rw [AB hx] at p2
 exact Bw w rs.length _ _ L _ _ _ h hi (FB hx hf) p1 p2
theorem kW (rs:List Rw) {a b:Nat} (hb:b<=rs.length):(rs.drop a).take (b-a)=kz rs a b:=by
 unfold kz
 refine List.ext_getElem ?_ fun i h1 h2=>?_
 ·rw [List.length_take,List.length_drop,List.length_map,List.length_range']; omega
 ·rw [List.length_map,List.length_range'] at h2
  rw [List.getElem_take,List.getElem_drop,List.getElem_map,List.getElem_range',kB (by omega)]
  simp
theorem FT (n:Nat) (d:Nat) {a:Nat} (h:a<=n):HT.sIx n d (some (a:Int))=a:=by
 simp only [HT.sIx]
 rw [if_neg (by omega)]
 omega
theorem pc (rs:List Rw) {a b:Nat} (ha:a<=rs.length) (hb:b<=rs.length):gY (.list (rs.map rwD)) (some (a:Int)) (some (b:Int))=some (.list ((kz rs a b).map rwD)):=by
 show some (PyData.list (gA _ _ _))=_
 unfold gA
 rw [List.length_map,FT _ _ ha,FT _ _ hb,<- List.map_drop,<- List.map_take,kW rs hb]
theorem xG (rs:List Rw) {b:Nat} (hb:b<=rs.length):gY (.list (rs.map rwD)) none (some (b:Int))=some (.list ((kz rs 0 b).map rwD)):=by
 show some (PyData.list (gA _ _ _))=_
 unfold gA
 have h1:HT.sIx rs.length 0 none=0:=rfl
 rw [List.length_map,h1,FT _ _ hb,<- List.map_drop,<- List.map_take,kW rs hb]
theorem xH (rs:List Rw) {a:Nat} (ha:a<=rs.length):gY (.list (rs.map rwD)) (some (a:Int)) none=some (.list ((kz rs a rs.length).map rwD)):=by
 show some (PyData.list (gA _ _ _))=_
 unfold gA
 have h1:HT.sIx rs.length rs.length none=rs.length:=rfl
 rw [List.length_map,h1,FT _ _ ha,<- List.map_drop,<- List.map_take,kW rs (Nat.le_refl _)]
theorem yO (rs:List Rw) (a b:Nat):(kz rs a b).length<=b:=by unfold kz; rw [List.length_map,List.length_range']; omega
theorem ad {A B:List Rw} (h:A.length+B.length<=16777216):bL (.list (A.map rwD)) (.list (B.map rwD))=some (.list ((A++B).map rwD)):=by
 rw [vm (by simpa using h),List.map_append]
theorem He (w p p' q q':Int) (T:List D) (A B C E F:D) (L:List D) (hp:p+1=p') (hq:q+1=q') (s1:gY (.list T) none (some p)=some A) (s2:gY (.list T) (some p') (some q)=some B) (s3:gY (.list T) (some q') none=some C) (a1:bL A B=some E) (a2:bL E C=some (.list L)):bC [.tuple [.int w,.tuple T],.tuple [.str "gone",.int p,.int q]]=some (.tuple [.int w,.tuple L]):=by
 simp [-sSeq,-sIf,ag,aq,bC,runB,eB,aj,sAsg,ub,k_gg,hp,hq,s1,s2,s3,a1,a2]
theorem Hd (w p p' q q' a e f k:Int) (T:List D) (X Y A B C M E F:D) (L:List D) (hp:p+1=p') (hq:q+1=q') (tp:aC (.list T) (.int p)=some X) (tq:aC (.list T) (.int q)=some Y) (x2:aC X (.int 2)=some (.int e)) (y2:aC Y (.int 2)=some (.int f)) (y1:aC Y (.int 1)=some (.int a)) (hk:(e+f) % 8=k) (s1:gY (.list T) none (some p)=some A) (s2:gY (.list T) (some p') (some q)=some B) (s4:gY (.list [.tuple [.str "turn",.int a,.int k]]) none (some k)=some M) (s3:gY (.list T) (some q') none=some C) (a1:bL A B=some E) (a2:bL E M=some F) (a3:bL F C=some (.list L)):bC [.tuple [.int w,.tuple T],.tuple [.str "joined",.int p,.int q]]=some (.tuple [.int w,.tuple L]):=by
 simp [-sSeq,-sIf,ag,aq,bC,runB,eB,aj,sAsg,ub,k_jg,k_jj,hp,hq,tp,tq,x2,y2,y1,hk,s1,s2,s3,s4,a1,a2,a3]
theorem Hc (w p p' q q' t t' v:Int) (T:List D) (X Y A B C M E F G H:D) (L:List D) (hp:p+1=p') (hq:q+1=q') (ht:t+1=t') (tp:aC (.list T) (.int p)=some X) (tq:aC (.list T) (.int q)=some Y) (x1:aC X (.int 1)=some (.int v)) (hm:bW [Y,.int v]=some M) (s1:gY (.list T) none (some p)=some A) (s2:gY (.list T) (some p') (some q)=some B) (s3:gY (.list T) (some q') (some t)=some C) (s4:gY (.list T) (some t') none=some H) (a1:bL A B=some E) (a2:bL E M=some F) (a3:bL F C=some G) (a4:bL G H=some (.list L)):bC [.tuple [.int w,.tuple T],.tuple [.str "swung",.int p,.int q,.int t]]=some (.tuple [.int w,.tuple L]):=by
 simp [-sSeq,-sIf,ag,aq,bC,runB,eB,aj,sAsg,xI,k_sg,k_sj,ix3,hp,hq,ht,tp,tq,x1,hm,s1,s2,s3,s4,a1,a2,a3,a4]
theorem HS (a k:Nat) (hk:k<8):gY (.list [.tuple [.str "turn",.int (a:Int),.int (k:Int)]]) none (some (k:Int))=some (.list ((if k=0 then (none:Option Rw) else some (.pl (.turn a k))).toList.map rwD)):=by
 by_cases h:k=0
 ·subst h; rfl
 ·rw [if_neg h]
  show some (PyData.list (gA _ _ _))=_
  unfold gA
  have h1:HT.sIx ([PyData.tuple [.str "turn",.int (a:Int),.int (k:Int)]]:List D).length 0 none=0:=rfl
  have h2:HT.sIx ([PyData.tuple [.str "turn",.int (a:Int),.int (k:Int)]]:List D).length ([PyData.tuple [.str "turn",.int (a:Int),.int (k:Int)]]:List D).length (some (k:Int))=1:=by
   simp only [HT.sIx,List.length_cons,List.length_nil]
   rw [if_neg (by omega)]
   omega
  rw [h1,h2]
  rfl
theorem oy {rs:List Rw} {q:Nat} (h:q<rs.length):aC (.list (rs.map rwD)) (.int (q:Int))=some (rwD (ro rs q)):=by
 rw [kB h]
 exact gj (j:=q) rfl (by simp [h])
theorem wI {rs:List Rw} (ho:Ord rs) (hn:rs.length<=100) (w:Nat) {x:Sp} (hx:x∈eA rs rs.length) (hf:fm rs x=true):bC [bR w rs,zpD x]=some (bR w (gH rs x)):=by
 have gd:∀ {k},k<rs.length->eR (ro rs k):=fun h=>by rw [kB h]; exact ho.gd _ (List.getElem_mem h)
 have L:=yO rs
 have ml:∀ o:Option Rw,o.toList.length<=1:=fun o=>by cases o <;> simp
 cases x with
 | g p q=>
  obtain ⟨h1,h2⟩:=mem_cand_g.mp hx
  have l1:=L 0 p; have l2:=L (p+1) q; have l3:=L (q+1) rs.length
  exact He w p ((p+1:Nat):Int) q ((q+1:Nat):Int) _ _ _ _ _ .none _ (by omega) (by omega) (xG rs (by omega)) (pc rs (by omega) (by omega)) (xH rs (by omega)) (ad (by omega)) (ad (by rw [List.length_append]; omega))
 | j p q=>
  obtain ⟨h1,h2⟩:=mem_cand_j.mp hx
  have l1:=L 0 p; have l2:=L (p+1) q; have l3:=L (q+1) rs.length
  obtain ⟨a,e,f,ep,eq⟩:=CD hf
  have tp:=oy (rs:=rs) (q:=p) (by omega)
  have tq:=oy (rs:=rs) (q:=q) (by omega)
  rw [ep] at tp
  rw [eq] at tq
  have hm:mid rs (.j p q)=if (e+f) % 8=0 then none else some (.pl (.turn a ((e+f) % 8))):=by simp only [mid,ep,eq]
  have s4:=HS a ((e+f) % 8) (by omega)
  rw [<- hm] at s4
  have m1:=ml (mid rs (.j p q))
  exact Hd w p ((p+1:Nat):Int) q ((q+1:Nat):Int) a e f (((e+f) % 8:Nat):Int) _ _ _ _ _ _ _ _ _ _ (by omega) (by omega) tp tq (CY _ _ _ _) (CY _ _ _ _) (at1 _ _ _) (by omega) (xG rs (by omega)) (pc rs (by omega) (by omega)) s4 (xH rs (by omega)) (ad (by omega)) (ad (by rw [List.length_append]; omega)) (ad (by rw [List.length_append,List.length_append]; omega))
 | s p q t=>
  obtain ⟨hS,h1,h2,h3⟩:=mem_cand_s.mp hx
  have l1:=L 0 p; have l2:=L (p+1) q; have l3:=L (q+1) t; have l4:=L (t+1) rs.length
  have m1:=ml (mid rs (.s p q t))
  have hm:bW [rwD (ro rs q),.int ((ro rs p).n1:Int)]=some (.list ((mid rs (.s p q t)).toList.map rwD)):=IJ (gd (by omega))
  exact Hc w p ((p+1:Nat):Int) q ((q+1:Nat):Int) t ((t+1:Nat):Int) _ _ _ _ _ _ _ _ _ _ _ _ _ (by omega) (by omega) (by omega) (oy (by omega)) (oy (by omega)) (qm _) hm (xG rs (by omega)) (pc rs (by omega) (by omega)) (pc rs (by omega) (by omega)) (xH rs (by omega)) (ad (by omega)) (ad (by rw [List.length_append]; omega)) (ad (by rw [List.length_append,List.length_append]; omega)) (ad (by rw [List.length_append,List.length_append,List.length_append]; omega))
def i4 (l:Nat):List Rw->Prop
 | []=>True
 | r::rs=>eR r/\mb l r/\i4 (l+gC [r]) rs
theorem ju (r:Rw) (rs:List Rw):gC (r::rs)=gC [r]+gC rs:=oX [r] rs
theorem ordF_app:∀ {a b:List Rw} {l:Nat},i4 l (a++b)↔i4 l a/\i4 (l+gC a) b
 | [],b,l=>by simp [i4,gC]
 | r::a,b,l=>by
  show (eR r/\mb l r/\i4 (l+gC [r]) (a++b))↔(eR r/\mb l r/\i4 (l+gC [r]) a)/\i4 (l+gC (r::a)) b
  rw [ordF_app,ju r a,Nat.add_assoc,and_assoc,and_assoc]
theorem tz:∀ {rs:List Rw} {l:Nat},(∀ r∈rs,eR r)->(∀ i (h:i<rs.length),mb (l+gC (rs.take i)) rs[i])->i4 l rs
 | [],_,_,_=>trivial
 | r::rs,l,hg,hm=>by
  refine ⟨hg r List.mem_cons_self,hm 0 (by simp),tz (fun x hx=>hg x (List.mem_cons_of_mem _ hx)) fun i hi=>?_⟩
  have:=hm (i+1) (by simp; omega)
  rw [List.take_succ_cons,ju,<- Nat.add_assoc] at this
  exact this
theorem tG:∀ {rs:List Rw} {l:Nat},i4 l rs->(∀ r∈rs,eR r/\mb (l+gC rs) r)/\∀ i (h:i<rs.length),mb (l+gC (rs.take i)) rs[i]
 | [],_,_=>⟨fun _ h=>(nomatch h),fun _ h=>absurd h (Nat.not_lt_zero _)⟩
 | r::rs,l,h=>by
  obtain ⟨h1,h2,h3⟩:=h
  obtain ⟨a,b⟩:=tG h3
  refine ⟨fun x hx=>?_,fun i hi=>?_⟩
  ·rw [ju]
   rcases List.mem_cons.mp hx with rfl | hx
   ·exact ⟨h1,wE h2 (by omega)⟩
   ·have:=a x hx
    rw [Nat.add_assoc] at this
    exact this
  ·match i,hi with
   | 0,_=>exact wE h2 (by omega)
   | i+1,hi=>
    have:=b i (by simp at hi; omega)
    rw [List.take_succ_cons,ju,<- Nat.add_assoc]
    exact this
theorem ord_iff {rs:List Rw}:Ord rs↔i4 0 rs:=by
 constructor
 ·intro h
  exact tz h.gd fun i hi=>by rw [Nat.zero_add]; exact h.at_ i hi
 ·intro h
  obtain ⟨a,b⟩:=tG h
  refine ⟨fun r hr=>(a r hr).1,fun r hr=>?_,fun i hi=>?_⟩
  ·have:=(a r hr).2; rw [Nat.zero_add] at this; exact this
  ·have:=b i hi; rw [Nat.zero_add] at this; exact this
theorem eV {a b:List Rw} {r:Rw} {l:Nat} (h:i4 l (a++r::b)) (hr:gC [r]=0):i4 l (a++b):=by
 obtain ⟨h1,_,_,h2⟩:=ordF_app.mp h
 rw [hr,Nat.add_zero] at h2
 exact ordF_app.mpr ⟨h1,h2⟩
theorem nw {a b:List Rw} {r r':Rw} {l:Nat} (h:i4 l (a++r::b)) (hr:gC [r]=0) (hr':gC [r']=0) (hg:eR r->eR r') (hm:∀ l,mb l r->mb l r'):i4 l (a++r'::b):=by
 obtain ⟨h1,g,m,h2⟩:=ordF_app.mp h
 rw [hr] at h2
 exact ordF_app.mpr ⟨h1,hg g,hm _ m,by rw [hr']; exact h2⟩
theorem yP (rs:List Rw):kz rs 0 rs.length=rs:=by
 rw [<- kW rs (Nat.le_refl _)]
 simp
theorem iP (rs:List Rw) {a b p:Nat} (h1:a<=p) (h2:p<b):kz rs a b=kz rs a p++ro rs p::kz rs (p+1) b:=by
 unfold kz
 have e:List.range' a (b-a)=List.range' a (p-a)++p::List.range' (p+1) (b-(p+1)):=by
  have h3:b-a=(p-a)+((b-(p+1))+1):=by omega
  rw [h3,<- List.range'_append_1,List.range'_succ]
  rw [show a+(p-a)=p by omega]
 rw [e,List.map_append,List.map_cons]
theorem oY {r:Rw} (h:r.isLook=false):gC [r]=0:=by rw [tK,h]; rfl
theorem nk {r q:Rw} (h:r.wd=q.wd) (hr:r.isLook=false):q.isLook=false:=by rw [<- fD,<- h,fD,hr]
theorem ut {r q:Rw} (h:un r q=true):r.isLook=false/\q.isLook=false:=by
 have hr:r.isTL=false:=by
  cases e:r.isTL with
  | false=>rfl
  | true=>unfold un at h; rw [e] at h; cases h
 have hl:r.isLook=false:=by cases r <;> first | rfl | cases hr
 refine ⟨hl,?_⟩
 unfold un at h
 rw [hr] at h
 cases hs:r.isSC with
 | true=>
  rw [hs] at h
  simp only [Bool.false_eq_true,if_false,if_true] at h
  exact nk (eq_of_beq (Bool.and_eq_true_iff.mp h).1) hl
 | false=>
  rw [hs] at h
  simp only [Bool.false_eq_true,if_false] at h
  exact nk (sF h) hl
theorem Bu {r r':Rw} {w:Nat} (h:cF r w=some r'):r.isLook=false/\r'.isLook=false/\(eR r->eR r')/\∀ l,mb l r->mb l r':=by
 cases r with
 | pl r=>
  cases r with
  | flip j=>simp only [cF] at h; split at h; (· cases h; exact ⟨rfl,rfl,fun _=>trivial,fun _ _=>trivial⟩); (· cases h)
  | turn j e=>simp only [cF] at h; split at h; (· cases h; exact ⟨rfl,rfl,fun _=>trivial,fun _ _=>trivial⟩); (· cases h)
  | tie i j=>
   simp only [cF] at h
   split at h
   ·rename_i e; subst e; cases h; exact ⟨rfl,rfl,fun g=>g,fun _ _=>trivial⟩
   ·cases h
  | sign i j=>
   simp only [cF] at h
   split at h
   ·rename_i e; subst e; cases h; exact ⟨rfl,rfl,fun g=>Ne.symm g,fun _ _=>trivial⟩
   ·split at h
    ·rename_i e; subst e; cases h; exact ⟨rfl,rfl,fun g=>g,fun _ _=>trivial⟩
    ·cases h
  | _=>cases h
 | look j=>cases h
 | wflip m j=>simp only [cF] at h; split at h; (· cases h; exact ⟨rfl,rfl,fun _=>trivial,fun _ q=>q⟩); (· cases h)
 | wsign m j=>simp only [cF] at h; split at h; (· cases h; exact ⟨rfl,rfl,fun _=>trivial,fun _ q=>q⟩); (· cases h)
theorem HE {rs:List Rw} {p q t:Nat} (h:fm rs (.s p q t)=true):(ro rs p).isS=true/\mP (ro rs p) (ro rs t)=true/\∃ r',cF (ro rs q) (ro rs p).n1=some r':=by
 simp only [fm,Bool.and_eq_true] at h
 obtain ⟨h1,_⟩:=h
 have he:∀ o:Option Rw,o.toList.isEmpty=!o.isSome:=fun o=>by cases o <;> rfl
 rw [he] at h1
 have h1:(ro rs p).isS=true/\mP (ro rs p) (ro rs t)=true/\(cF (ro rs q) (ro rs p).n1).isSome=true:=by simpa using h1
 exact ⟨h1.1,h1.2.1,Option.isSome_iff_exists.mp h1.2.2⟩
theorem oE {rs:List Rw} (ho:Ord rs) {x:Sp} (hx:x∈eA rs rs.length) (hf:fm rs x=true):Ord (gH rs x):=by
 have h0:=ord_iff.mp ho
 rw [<- yP rs] at h0
 refine ord_iff.mpr ?_
 cases x with
 | g p q=>
  obtain ⟨h1,h2⟩:=mem_cand_g.mp hx
  simp only [fm,Bool.and_eq_true] at hf
  obtain ⟨n1,n2⟩:=ut hf.1
  rw [iP rs (Nat.zero_le p) (by omega),iP rs (show p+1<=q by omega) h2] at h0
  have h3:=eV h0 (oY n1)
  rw [<- List.append_assoc] at h3
  exact eV h3 (oY n2)
 | j p q=>
  obtain ⟨h1,h2⟩:=mem_cand_j.mp hx
  obtain ⟨a,e,f,ep,eq⟩:=CD hf
  have n1:(ro rs p).isLook=false:=by rw [ep]; rfl
  have n2:(ro rs q).isLook=false:=by rw [eq]; rfl
  rw [iP rs (Nat.zero_le p) (by omega),iP rs (show p+1<=q by omega) h2] at h0
  have h3:=eV h0 (oY n1)
  rw [<- List.append_assoc] at h3
  simp only [gH]
  have hm:mid rs (.j p q)=if (e+f) % 8=0 then none else some (.pl (.turn a ((e+f) % 8))):=by simp only [mid,ep,eq]
  rw [hm]
  by_cases z:(e+f) % 8=0
  ·rw [if_pos z]
   simpa using eV h3 (oY n2)
  ·rw [if_neg z]
   have h4:=nw (r':=.pl (.turn a ((e+f) % 8))) h3 (oY n2) rfl (fun _=>trivial) (fun _ _=>trivial)
   simpa using h4
 | s p q t=>
  obtain ⟨_,h1,h2,h3⟩:=mem_cand_s.mp hx
  obtain ⟨hS,he,r',hr⟩:=HE hf
  obtain ⟨n2,n2',g2,m2⟩:=Bu hr
  have n1:(ro rs p).isLook=false:=by rw [gL hS]; rfl
  have n3:(ro rs t).isLook=false:=by rw [gL hS] at he; rw [nQ he]; rfl
  rw [iP rs (Nat.zero_le p) (by omega),iP rs (show p+1<=q by omega) (by omega),iP rs (show q+1<=t by omega) h3] at h0
  have k1:=eV h0 (oY n1)
  rw [<- List.append_assoc] at k1
  have k2:=nw (r':=r') k1 (oY n2) (oY n2') g2 m2
  rw [<- List.cons_append,<- List.append_assoc] at k2
  have k3:=eV k2 (oY n3)
  simp only [gH,mid,hr]
  simpa using k3
theorem lM (rs:List Rw) (a b:Nat):(kz rs a b).length=b-a:=by unfold kz; rw [List.length_map,List.length_range']
theorem jr {rs:List Rw} {x:Sp} (hx:x∈eA rs rs.length):(gH rs x).length<rs.length:=by
 have ml:∀ o:Option Rw,o.toList.length<=1:=fun o=>by cases o <;> simp
 cases x with
 | g p q=>
  obtain ⟨h1,h2⟩:=mem_cand_g.mp hx
  simp only [gH,List.length_append,lM]; omega
 | j p q=>
  obtain ⟨h1,h2⟩:=mem_cand_j.mp hx
  have:=ml (mid rs (.j p q))
  simp only [gH,List.length_append,lM]; omega
 | s p q t=>
  obtain ⟨_,h1,h2,h3⟩:=mem_cand_s.mp hx
  have:=ml (mid rs (.s p q t))
  simp only [gH,List.length_append,lM]; omega
theorem Co (i:Int):cT "tuple" (.int i)=some (.bool false):=rfl
theorem Cq (i:Int):cT "str" (.int i)=some (.bool false):=rfl
theorem Cn (i:Str):cT "tuple" (.str i)=some (.bool false):=rfl
theorem Cp (i:Str):cT "str" (.str i)=some (.bool true):=rfl
theorem yS (m:Nat) (i:Int):br (m+1) [.int i,.int i]=some (.bool true):=by
 show runB dD 2 (cp (br m)) [.int i,.int i]=_
 simp [-sSeq,-sIf,ag,aq,runB,cp,aj,Co,Cq]
theorem yR (m:Nat) (s:Str) (h:aH (.str s) (.str s)=some (.bool true)):br (m+1) [.str s,.str s]=some (.bool true):=by
 show runB dD 2 (cp (br m)) [.str s,.str s]=_
 simp [-sSeq,-sIf,ag,aq,runB,cp,aj,Cn,Cp,h]
theorem DR (G:List D->Option D) (X x:D) (i:Int) (a:aC X (.int i)=some x) (h:G [x,x]=some (.bool true)):dI G [.fz X,.fz X,.fz (.int i)]=some (.nx,[.fz X,.fz X,.fz (.int i)]):=by
 simp [-sSeq,-sIf,ag,aq,dI,a,h]
theorem DQ (G:List D->Option D) (X:D) (S:Int) (L:List D) (z:Sl) (t:cT "tuple" X=some (.bool true)) (ln:cw [X]=some (.int S)) (hN:d8 [.int S]=some L) (e:loop (gN 2) (dI G) L [.fz X,.fz X,.un]=some (.nx,[.fz X,.fz X,z])):runB dD 2 (cp G) [X,X]=some (.bool true):=by
 simp [-sSeq,-sIf,ag,aq,runB,cp,aj,t,ln,hN,e]
theorem yQ (m:Nat) (xs:List D) (hl:xs.length<=1000) (h:∀ x∈xs,br m [x,x]=some (.bool true)):br (m+1) [.tuple xs,.tuple xs]=some (.bool true):=by
 obtain ⟨δ',e,z,rfl⟩:=lW (b:=dI (br m)) (k:=2) (fun i δ=>∃ z,δ = [.fz (.tuple xs),.fz (.tuple xs),z]) xs.length (by
  rintro i hi δ ⟨z,rfl⟩
  exact ⟨_,DR _ (.tuple xs) xs[i] i (gj (j:=i) rfl (by simp [hi])) (h _ (List.getElem_mem hi)),_,rfl⟩) [.fz (.tuple xs),.fz (.tuple xs),.un] ⟨_,rfl⟩
 exact DQ _ _ xs.length _ z rfl rfl (il (j:=(xs.length:Int)) (by omega) (by omega)) e
def Dp:Nat->D->Prop
 | _,.int _=>True
 | _,.str s=>aH (.str s) (.str s)=some (.bool true)
 | n+1,.tuple xs=>xs.length<=1000/\∀ x∈xs,Dp n x
 | _,_=>False
theorem vT:∀ (n:Nat) (d:D),Dp n d->br (n+1) [d,d]=some (.bool true)
 | n,.int i,_=>yS n i
 | n,.str s,h=>by cases n <;> exact yR _ s h
 | n+1,.tuple xs,h=>yQ (n+1) xs h.1 fun x hx=>vT n x (h.2 x hx)
 | 0,.tuple _,h=>by cases h
 | n,.none,h=>by cases n <;> cases h
 | n,.bool _,h=>by cases n <;> cases h
 | n,.list _,h=>by cases n <;> cases h
 | n,.dict _,h=>by cases n <;> cases h
theorem cN (n:Nat) (i:Int):Dp n (.int i):=by cases n <;> trivial
theorem h8 (n:Nat) (s:Str) (h:aH (.str s) (.str s)=some (.bool true)):Dp n (.str s):=by cases n <;> exact h
theorem CO (n:Nat) (r:Row):Dp (n+1) (rowD r):=by
 cases r <;> refine ⟨by simp,fun x hx=>?_⟩ <;> simp only [List.mem_cons,List.not_mem_nil,or_false] at hx
 ·rcases hx with rfl | rfl; exact h8 n _ (by simp); exact cN n _
 ·rcases hx with rfl | rfl | rfl; exact h8 n _ (by simp); exact cN n _; exact cN n _
 ·rcases hx with rfl | rfl; exact h8 n _ (by simp); exact cN n _
 ·rcases hx with rfl | rfl | rfl; exact h8 n _ (by simp); exact cN n _; exact cN n _
 ·rcases hx with rfl | rfl | rfl; exact h8 n _ (by simp); exact cN n _; exact cN n _
 ·rcases hx with rfl | rfl | rfl; exact h8 n _ (by simp); exact cN n _; exact cN n _
theorem xC (n:Nat) (s:Str) (d:D) (h:aH (.str s) (.str s)=some (.bool true)) (hd:Dp n d):Dp (n+1) (.tuple [.str s,d]):=⟨by simp,fun x hx=>by
 simp only [List.mem_cons,List.not_mem_nil,or_false] at hx
 rcases hx with rfl | rfl
 ·exact h8 n _ h
 ·exact hd⟩
theorem mw (n:Nat) (s:Str) (d e:D) (h:aH (.str s) (.str s)=some (.bool true)) (hd:Dp n d) (he:Dp n e):Dp (n+1) (.tuple [.str s,d,e]):=⟨by simp,fun x hx=>by
 simp only [List.mem_cons,List.not_mem_nil,or_false] at hx
 rcases hx with rfl | rfl | rfl
 ·exact h8 n _ h
 ·exact hd
 ·exact he⟩
theorem Fq (r:Rw):Dp 2 (rwD r):=by
 cases r with
 | pl r=>exact CO 1 r
 | look j=>exact xC 1 _ _ (by simp) (cN 1 _)
 | wflip k j=>exact mw 1 _ _ _ (by simp) (cN 1 _) (xC 0 _ _ (by simp) (cN 0 _))
 | wsign k j=>exact mw 1 _ _ _ (by simp) (cN 1 _) (mw 0 _ _ _ (by simp) (cN 0 _) (cN 0 _))
theorem ll:∀ (n:Nat) (d:D),Dp n d->Dp (n+1) d
 | n,.int i,_=>trivial
 | n,.str s,h=>by cases n <;> exact h
 | n+1,.tuple xs,h=>⟨h.1,fun x hx=>ll n x (h.2 x hx)⟩
 | 0,.tuple _,h=>by cases h
 | n,.none,h=>by cases n <;> cases h
 | n,.bool _,h=>by cases n <;> cases h
 | n,.list _,h=>by cases n <;> cases h
 | n,.dict _,h=>by cases n <;> cases h
theorem Fp {d:D} (h:Dp 2 d):Dp 5 d:=ll 4 _ (ll 3 _ (ll 2 _ h))
theorem tf (w:Nat) (rs:List Rw) (hl:rs.length<=1000):cm [bR w rs,bR w rs]=some (.bool true):=by
 have h:Dp 7 (bR w rs):=⟨by simp,fun x hx=>by
  simp only [List.mem_cons,List.not_mem_nil,or_false] at hx
  rcases hx with rfl | rfl
  ·exact cN 6 _
  ·refine ⟨by simpa using hl,fun y hy=>?_⟩
   obtain ⟨r,_,rfl⟩:=List.mem_map.mp hy
   exact Fp (Fq r)⟩
 exact vT 7 _ h
theorem Ao:iY (mO "slid")=some "slid":=nO _
def rF (rs:List Rw) (x:Sp):Prop:=x∈eA rs rs.length/\fm rs x=true
inductive Run:List Rw->List Sp->List Rw->Prop
 | nil (rs:List Rw):Run rs [] rs
 | cons {rs qs:List Rw} {x:Sp} {xs:List Sp}:rF rs x->Run (gH rs x) xs qs->Run rs (x::xs) qs
theorem Bg:iY (mO "slides_of")=some "slides_of":=nO _
theorem AZ (zs:List Sp):neD (.list (zs.map zpD)) (.list [])=some (.bool (!zs.isEmpty)):=by
 have h:MA.Sh 2 (.list (zs.map zpD)):=MA.Sh.list fun x hx=>by
  obtain ⟨r,_,rfl⟩:=List.mem_map.mp hx
  rw [<- vv]; exact vQ _
 have h2:kU (.list ([]:List D))=true:=by rfl
 unfold neD
 rw [if_pos ⟨g7 h (by decide),h2⟩]
 cases zs with
 | nil=>rfl
 | cons r rs=>simp [PyData.eqv,PyData.eqvAll]
theorem ED (z0 z1 z2 z3:Sl) (L:D) (b:Bool) (h:neD L (.list [])=some (.bool b)):gn [z0,z1,z2,z3,.fz L]=some b:=by
 simp [gn,h]
theorem Hj (C C' S L L':D) (ds:List D) (hs:aC L (.int 0)=some S) (hl:ds.length<sizeLine) (h1:gM [C,S]=some C') (h2:bc [C']=some L'):gx [.fz C,.fz (mO "slides_of"),.fz (mO "slid"),.ow ds,.fz L]=some (.nx,[.fz C',.fz (mO "slides_of"),.fz (mO "slid"),.ow (ds++[S]),.fz L']):=by
 simp [gx,iX,Ao,Bg,hs,hl,h1,h2]
theorem vO {rs:List Rw} (ho:Ord rs) (hn:rs.length<=100) (w:Nat) {x:Sp} (hf:rF rs x):gM [bR w rs,zpD x]=some (bR w (gH rs x)):=by
 obtain ⟨zs,⟨hz,hm⟩,h1,_⟩:=jL ho hn w
 have ig:=Cy (up x) zs
 have hin:tZ (zqD (up x)) (zs.map zpD)=true:=(Cw _ _).mpr ⟨x,(hm x).mpr (List.mem_filter.mpr hf),rfl⟩
 rw [hin,vv] at ig
 exact yJ ho hn w hf.1 hf.2 _ h1 ig
theorem qB (w:Nat):∀ (N:Nat) (rs:List Rw),Ord rs->rs.length<=N->N<=100->∀ (zs:List Sp),(∀ x,x∈zs↔rF rs x)->∀ ds:List D,ds.length+N<=1000->∃ xs qs y,Run rs xs qs/\(xs.length<=N/\∀ x,¬ rF qs x)/\gk gn gx (N+1) [.fz (bR w rs),.fz (mO "slides_of"),.fz (mO "slid"),.ow ds,.fz (.list (zs.map zpD))]=some (.nx,[.fz (bR w qs),.fz (mO "slides_of"),.fz (mO "slid"),.ow (ds++xs.map zpD),y])
 | N,rs,ho,hN,hn,[],hm,ds,_=>⟨[],rs,.fz (.list []),.nil rs,⟨Nat.zero_le _,fun x hx=>nomatch (hm x).mpr hx⟩,by rw [rJ N (ED _ _ _ _ _ _ (AZ []))]; simp⟩
 | 0,rs,ho,hN,hn,x::zs,hm,ds,_=>by
  have hf:=(hm x).mp List.mem_cons_self
  have:=jr hf.1
  omega
 | N+1,rs,ho,hN,hn,x::zs,hm,ds,hd=>by
  have hf:=(hm x).mp List.mem_cons_self
  have hl:=jr hf.1
  have ho':=oE ho hf.1 hf.2
  obtain ⟨zs',⟨hz,hm'⟩,h1,_⟩:=jL ho' (by omega) w
  obtain ⟨xs,qs,y,hr,hx,e⟩:=qB w N (gH rs x) ho' (by omega) (by omega) zs' (fun z=>(hm' z).trans List.mem_filter) (ds++[zpD x]) (by simp; omega)
  refine ⟨x::xs,qs,y,.cons hf hr,⟨by have:=hx.1; simp; omega,hx.2⟩,?_⟩
  have st:=Hj (bR w rs) (bR w (gH rs x)) (zpD x) (.list ((x::zs).map zpD)) _ ds (at0 _ _) (by show _<16777216; omega) (vO ho (by omega) w hf) h1
  rw [vw (N+1) (ED _ _ _ _ _ _ (AZ (x::zs))) st e]
  simp
theorem yN (C L C':D) (ds:List D) (y:Sl) (h:bc [C]=some L) (lp:gk gn gx wN [.fz C,.fz (mO "slides_of"),.fz (mO "slid"),.ow [],.fz L]=some (.nx,[.fz C',.fz (mO "slides_of"),.fz (mO "slid"),.ow ds,y])):bX [C]=some (.tuple [.list ds,C']):=by
 have k:gy [C,mO "slides_of",mO "slid"]=some (.tuple [.list ds,C']):=by simp [-sSeq,-sIf,ag,aq,gy,runB,mG,aj,iX,Bg,h,lp,dFz]
 simp [-sSeq,-sIf,ag,aq,bX,runB,ii,aj,k]
theorem pV {rs:List Rw} (ho:Ord rs) (hn:rs.length<=100) (w:Nat):∃ xs qs,Run rs xs qs/\(xs.length<=100/\∀ x,¬ rF qs x)/\bX [bR w rs]=some (.tuple [.list (xs.map zpD),bR w qs]):=by
 obtain ⟨zs,⟨hz,hm⟩,h1,_⟩:=jL ho hn w
 obtain ⟨xs,qs,y,hr,hx,e⟩:=qB w 100 rs ho hn (Nat.le_refl _) zs (fun z=>(hm z).trans List.mem_filter) [] (by simp)
 rw [List.nil_append] at e
 exact ⟨xs,qs,hr,hx,yN _ _ _ _ y h1 (iM e (by show 101<=1000000; decide))⟩
theorem Hx (z0:Sl) (R:D) (l p n:Int) (ln:cw [R]=some (.int n)) (h1:l<p) (h2:p<n):bN [z0,.fz R,.fz (.int l),.fz (.int p)]=some (.nx,[z0,.fz R,.fz (.int p),.fz (.int p)]):=by
 have a:¬ p<=l:=by omega
 have b:CB (.int p) (.int n)=some (.bool false):=by
  have:¬ p>=n:=by omega
  simp [CB,this]
 have i1:cT "int" (.int p)=some (.bool true):=rfl
 have i2:cT "bool" (.int p)=some (.bool false):=rfl
 simp [-sSeq,-sIf,ag,aq,bN,i1,i2,a,ln,b]
theorem Cz (S R:D) (s:Str) (n k:Int) (L:List D) (z2 z3:Sl) (b:Bool) (t:cT "tuple" S=some (.bool true)) (ln:cw [S]=some (.int n)) (n3:¬ n<3) (s0:aC S (.int 0)=some (.str s)) (hi:de true (.str s) (.list [.str "gone",.str "joined",.str "swung"])=some (.bool false)) (es:aH (.str s) (.str "swung")=some (.bool b)) (hn:n=3+(if b=true then 1 else 0)) (sl:gY S (some 1) none=some (.tuple L)) (lp:loop (gN 3) bN L [.fz S,.fz R,.fz (.int (-1)),.un]=some (.nx,[.fz S,.fz R,z2,z3])) (hf:bn [R,S]=some (.bool true)):bw [S,R]=some (.bool true):=by
 subst hn
 cases b <;> simp [-sSeq,-sIf,ag,aq,bw,runB,dY,aj,t,ln,n3,s0,hi,es,sl,lp,hf]
theorem Cl:de true (.str "gone") (.list [.str "gone",.str "joined",.str "swung"])=some (.bool false):=by rfl
theorem Ck:de true (.str "joined") (.list [.str "gone",.str "joined",.str "swung"])=some (.bool false):=by rfl
theorem Cj:de true (.str "swung") (.list [.str "gone",.str "joined",.str "swung"])=some (.bool false):=by rfl
theorem HL:aH (.str "gone") (.str "swung")=some (.bool false):=(cS gv dU).trans (congrArg (fun z=>some (PyData.bool z)) (show (("gone":Str)==("swung":Str))=false by decide +kernel))
theorem HK:aH (.str "joined") (.str "swung")=some (.bool false):=(cS dW dU).trans (congrArg (fun z=>some (PyData.bool z)) (show (("joined":Str)==("swung":Str))=false by decide +kernel))
theorem HJ:aH (.str "swung") (.str "swung")=some (.bool true):=(cS dU dU).trans (congrArg (fun z=>some (PyData.bool z)) (show (("swung":Str)==("swung":Str))=true by decide +kernel))
theorem An {rs:List Rw} (ho:Ord rs) (hn:rs.length<=100) {x:Sp} (hf:rF rs x):bw [zpD x,.tuple (rs.map rwD)]=some (.bool true):=by
 have ln:cw [.tuple (rs.map rwD)]=some (.int (rs.length:Int)):=by simp [cw]
 have fe:=xr ho hn x (ue hf.1)
 rw [hf.2] at fe
 have st:∀ (z0:Sl) (l:Int) (p:Nat) (z:Sl) (ds:List D),l<p->p<rs.length->loop (gN 3) bN (.int (p:Int)::ds) [z0,.fz (.tuple (rs.map rwD)),.fz (.int l),z]=loop (gN 3) bN ds [z0,.fz (.tuple (rs.map rwD)),.fz (.int (p:Int)),.fz (.int (p:Int))]:=fun z0 l p z ds h1 h2=>b8 (δ1:=[z0,.fz (.tuple (rs.map rwD)),.fz (.int l),.fz (.int (p:Int))]) (by rfl) (Hx z0 _ l p rs.length ln h1 (by omega))
 cases x with
 | g p q=>
  obtain ⟨h1,h2⟩:=mem_cand_g.mp hf.1
  exact Cz _ _ "gone" 3 0 [.int p,.int q] _ _ false rfl rfl (by decide) (at0 _ _) Cl HL rfl rfl (by rw [st _ _ p _ _ (by omega) (by omega),st _ _ q _ _ (by omega) h2]; rfl) fe
 | j p q=>
  obtain ⟨h1,h2⟩:=mem_cand_j.mp hf.1
  exact Cz _ _ "joined" 3 0 [.int p,.int q] _ _ false rfl rfl (by decide) (at0 _ _) Ck HK rfl rfl (by rw [st _ _ p _ _ (by omega) (by omega),st _ _ q _ _ (by omega) h2]; rfl) fe
 | s p q t=>
  obtain ⟨_,h1,h2,h3⟩:=mem_cand_s.mp hf.1
  exact Cz _ _ "swung" 4 0 [.int p,.int q,.int t] _ _ true rfl rfl (by decide) (at0 _ _) Cj HJ rfl rfl (by rw [st _ _ p _ _ (by omega) (by omega),st _ _ q _ _ (by omega) (by omega),st _ _ t _ _ (by omega) h3]; rfl) fe
theorem Hi (z0 z1 z4:Sl) (C C' S R R':D) (n m:Int) (c1:aC C (.int 1)=some R) (h:bw [S,R]=some (.bool true)) (ln:cw [R]=some (.int n)) (hs:bC [C,S]=some C') (c1':aC C' (.int 1)=some R') (ln':cw [R']=some (.int m)) (mn:m<n):eh [z0,z1,.fz C,.fz S,z4]=some (.nx,[z0,z1,.fz C',.fz S,.fz (.int n)]):=by
 have b:CB (.int m) (.int n)=some (.bool false):=by
  have:¬ m>=n:=by omega
  simp [CB,this]
 simp [-sSeq,-sIf,ag,aq,eh,c1,h,ln,hs,c1',ln',b]
theorem zL (w:Nat) {rs qs:List Rw} {xs:List Sp} (r:Run rs xs qs):Ord rs->rs.length<=100->∀ z0 z1 z3 z4,∃ y3 y4,loop (gN 3) eh (xs.map zpD) [z0,z1,.fz (bR w rs),z3,z4]=some (.nx,[z0,z1,.fz (bR w qs),y3,y4]):=by
 induction r with
 | nil rs=>exact fun _ _ z0 z1 z3 z4=>⟨z3,z4,rfl⟩
 | @cons rs qs x xs hf r ih=>
  intro ho hn z0 z1 z3 z4
  have hl:=jr hf.1
  obtain ⟨y3,y4,e⟩:=ih (oE ho hf.1 hf.2) (by omega) z0 z1 (.fz (zpD x)) (.fz (.int (rs.length:Int)))
  refine ⟨y3,y4,?_⟩
  rw [List.map_cons,b8 (δ1:=[z0,z1,.fz (bR w rs),.fz (zpD x),z4]) (by rfl) (Hi z0 z1 z4 (bR w rs) (bR w (gH rs x)) (zpD x) _ _ (rs.length:Int) ((gH rs x).length:Int) (km w rs) (An ho hn hf) (by simp [cw]) (wI ho hn w hf.1 hf.2) (km w _) (by simp [cw]) (by omega))]
  exact e
theorem Fo (F L C C' R:D) (ds:List D) (y3 y4:Sl) (hF:F=.tuple [.list ds,C']) (lp:loop (gN 3) eh ds [.fz F,.fz C,.fz C,.un,.un]=some (.nx,[.fz F,.fz C,.fz C',y3,y4])) (sm:cm [C',C']=some (.bool true)) (c1:aC C' (.int 1)=some R) (hs:bH [R]=some (.list [])):cM [F,C]=some C':=by
 subst hF
 have i1:cT "tuple" (.tuple [.list ds,C'])=some (.bool true):=rfl
 have i2:cT "list" (.list ds)=some (.bool true):=rfl
 have nl:neD (.list []) (.list [])=some (.bool false):=by rfl
 simp [-sSeq,-sIf,ag,aq,cM,runB,i3,aj,i1,i2,lp,sm,c1,hs,nl]
theorem tj {rs qs:List Rw} {xs:List Sp} (r:Run rs xs qs):Ord rs->Ord qs/\qs.length<=rs.length:=by
 induction r with
 | nil rs=>exact fun h=>⟨h,Nat.le_refl _⟩
 | @cons rs qs x xs hf r ih=>
  intro h
  obtain ⟨a,b⟩:=ih (oE h hf.1 hf.2)
  have:=jr hf.1
  exact ⟨a,by omega⟩
theorem wB {qs:List Rw} (ho:Ord qs) (hn:qs.length<=100) (h:∀ x,¬ rF qs x):bH [.tuple (qs.map rwD)]=some (.list []):=by
 obtain ⟨zs,⟨_,hm⟩,_,h2⟩:=jL ho hn 0
 cases zs with
 | nil=>exact h2
 | cons z zs=>exact absurd (List.mem_filter.mp ((hm z).mp List.mem_cons_self)) (h z)
theorem CN (w:Nat) {rs qs:List Rw} {xs:List Sp} (r:Run rs xs qs) (ho:Ord rs) (hn:rs.length<=100) (h:∀ x,¬ rF qs x):cM [.tuple [.list (xs.map zpD),bR w qs],bR w rs]=some (bR w qs):=by
 obtain ⟨oq,lq⟩:=tj r ho
 obtain ⟨y3,y4,lp⟩:=zL w r ho hn (.fz (.tuple [.list (xs.map zpD),bR w qs])) (.fz (bR w rs)) .un .un
 exact Fo _ .none _ _ _ _ y3 y4 rfl lp (tf w qs (by omega)) (km w qs) (wB oq (by omega) h)
theorem wQ (ns:List Int) (k:Int) (hk:0<=k):∃ c,cn [.list (ns.map .int),.int k]=some (.int c):=by
 by_cases h:k<ns.length
 ·have hk':k.toNat<ns.length:=by omega
  refine ⟨ns[k.toNat],?_⟩
  have e:kr (ns.map PyData.int) k=some (.int ns[k.toNat]):=gj (j:=k.toNat) (by omega) (by simp [hk'])
  simp [cn,runB,fY,aj,h,e]
 ·exact ⟨0,by simp [cn,runB,fY,aj,h]⟩
theorem Az (ns:List Int) (lo hi:Option Int):∃ cs:List Int,cs.length<=ns.length/\gY (.list (ns.map .int)) lo hi=some (.list (cs.map .int)):=by
 refine ⟨(ns.drop (HT.sIx ns.length 0 lo)).take (HT.sIx ns.length ns.length hi-HT.sIx ns.length 0 lo),?_,?_⟩
 ·rw [List.length_take,List.length_drop]; omega
 ·show some (PyData.list (gA _ _ _))=_
  unfold gA
  rw [List.length_map,<- List.map_drop,<- List.map_take]
theorem B7 (r:Row):pH (rowD r)=true:=by cases r <;> rfl
theorem EC (r:Rw):pH (rwD r)=true:=by
 cases r with
 | pl r=>exact B7 r
 | _=>rfl
theorem tP:∀ rs:List Rw,lfA (rs.map rwD)=true
 | []=>rfl
 | r::rs=>by rw [List.map_cons]; show (pH (rwD r)&&lfA (rs.map rwD))=true; rw [EC,tP rs]; rfl
theorem sf (w:Nat) (rs:List Rw):pH (bR w rs)=true:=by
 show (true&&(lfA (rs.map rwD)&&true))=true
 rw [tP]; rfl
theorem Fs (C H:D) (t:Int) (E:List D) (T:D) (hC:pH C=true) (hH:pH H=true):vq [.un,.fz C,.fz (.int t),.fz (.tuple [.list E,T]),.fz H,.un]=[.un,.fz C,.fz (.int t),.un,.fz H,.un]:=by
 have h1:zK (.fz C)=true:=hC
 have h2:zK (.fz H)=true:=hH
 have h3:zK (.fz (.int t))=true:=rfl
 have h4:zK (.fz (.tuple [.list E,T]))=false:=rfl
 simp [vq,h1,h2,h3,h4]
theorem Hr (C H T S W:D) (t:Int) (E:List D) (z3 z4:Sl) (hC:pH C=true) (hH:pH H=true) (c0:aC C (.int 0)=some S) (c1:aC C (.int 1)=some W) (hs:bX [.tuple [S,W]]=some (.tuple [.list E,T])) (he:cM [.tuple [.list E,T],C]=some H) (hi:u7 H=false) (hl:E.length<sizeLine):md [.un,.fz C,.fz (.int t),z3,z4,.un]=some (.nx,[.un,.fz C,.fz (.int t),.un,.fz H,.un]):=by
 have d:=Fs C H t E T hC hH
 simp [-sSeq,-sIf,ag,aq,md,vU,c0,c1,hs,he,hi,hl,d]
theorem EF (S B C H T W:D) (c w:Int) (y2 y3:Sl) (h0:cn [S,.int 0]=some (.int c)) (hw:1+c % 4=w) (sl:gY S (some 2) (some 16)=some B) (k1:cy [B,.int w]=some C) (dl:vq [.fz S,.fz C,.un,.un,.un,.un]=[.un,.fz C,.un,.un,.un,.un]) (lp:loop (gN 2) md [.int 0,.int 1] [.un,.fz C,.un,.un,.un,.un]=some (.nx,[.un,.fz C,y2,y3,.fz H,.un])) (hs:bX [H]=some (.tuple [.list [],H])) (sm:cm [H,H]=some (.bool true)):qN [S]=some (.bool true):=by
 have rg:d8 [.int 2]=some [.int 0,.int 1]:=rfl
 have el:aH (.list []) (.list [])=some (.bool true):=by rfl
 simp [-sSeq,-sIf,ag,aq,qN,runB,xN,aj,h0,hw,sl,k1,dl,rg,lp,hs,el,sm]
theorem law_true (ns:List Int) (hl:ns.length<=63):qN [.list (ns.map .int)]=some (.bool true):=by
 obtain ⟨c,hc⟩:=wQ ns 0 (by decide)
 obtain ⟨w,hw⟩:∃ w:Nat,1+c % 4=(w:Int):=⟨(1+c % 4).toNat,by omega⟩
 obtain ⟨cs,hcl,hsl⟩:=Az ns (some 2) (some 16)
 obtain ⟨rs,ho,hlen,he⟩:=ww w (by omega) cs (by omega)
 have hn:rs.length<=100:=by omega
 obtain ⟨xs,qs,hr,⟨hx,hno⟩,hsh⟩:=pV ho hn w
 obtain ⟨oq,lq⟩:=tj hr ho
 obtain ⟨xs2,qs2,hr2,_,hsh2⟩:=pV oq (show qs.length<=100 by omega) w
 cases hr2 with
 | cons hf _=>exact absurd hf (hno _)
 | nil _=>
  have en:=CN w hr ho hn hno
  have isn:u7 (bR w qs)=false:=rfl
  have st:=fun (t:Int) z3 z4=>Hr (bR w rs) (bR w qs) (bR w qs) _ _ t (xs.map zpD) z3 z4 (sf w rs) (sf w qs) (at0 _ _) (km w rs) hsh en isn (by rw [List.length_map]; show _<16777216; omega)
  have lp:loop (gN 2) md [.int 0,.int 1] [.un,.fz (bR w rs),.un,.un,.un,.un]=some (.nx,[.un,.fz (bR w rs),.fz (.int 1),.un,.fz (bR w qs),.un]):=by
   rw [b8 (δ1:=[.un,.fz (bR w rs),.fz (.int 0),.un,.un,.un]) (by rfl) (st 0 .un .un),b8 (δ1:=[.un,.fz (bR w rs),.fz (.int 1),.un,.fz (bR w qs),.un]) (by rfl) (st 1 .un _)]
   rfl
  refine EF _ _ (bR w rs) (bR w qs) .none .none c w _ _ hc hw hsl he ?_ lp hsh2 (tf w qs (by omega))
  have h1:zK (.fz (bR w rs))=true:=sf w rs
  have h2:zK (.fz (.list (ns.map .int)))=false:=rfl
  simp [vq,h1,h2]
end GN
namespace GN
open PySem PySem.Spec PyProof.Rows L2 VL
structure Txt (mg:Str->Option Value):Prop where
 min:mg "min" = none
 max:mg "max" = none
 all:mg "all" = none
 range:mg "range" = none
 len:mg "len" = none
 sorted:mg "sorted" = none
 tuple:mg "tuple" = none
 isinstance:mg "isinstance" = none
 str:mg "str" = none
 int:mg "int" = none
 bool:mg "bool" = none
 list:mg "list" = none
section
variable {P:Program} {w:World} {K:PySem.W.Frag} {mg:Str->Option Value} {base:Heap}
theorem kA:FnScope dZ ["row"] (ar gD):=⟨rfl,rfl,rfl,by decide +kernel,rfl,by decide +kernel,by decide +kernel⟩
theorem jn {f:Addr} {fd:FuncData} {dV:Value} (F:FunV K "wires_of" "wires_of" gD f fd dV) (T:Txt mg) (hm:mg "wires_of" = some (.ref f)) (hk:PySem.W.keepIn K (.ref f)=true) (hb:Binds K fd ["row"] []):∀ m,FnOk P w K mg base d0 (1+m) f fd ["row"] (fE K (b6 m))
 | 0=>cG (k:=0) (b:=fun _=>none) F kA fun cdv A outer s H E hr=>q9
 | m+1=>by
  have C_wires_of:Cal P w K mg base "wires_of" (1+m) (b6 m) []:=Cal.mk0 (jn F T hm hk hb m) hm hk hb
  exact cG (k:=1+m) (b:=bG (b6 m)) F kA fun cdv A outer s H E hr=>(ah (aM (az (bh hr.units) (ai aB (aa 0) ae (fun _ _=>rfl)) ap (aw _)) (ak (aA (aD C_wires_of (hr.mono (by omega)) rfl (ab (ai aB (aa 0) ae (fun _ _=>rfl)) af)))) aE) (ah (aM (az kQ (ai aB (aa 0) ae (fun _ _=>rfl)) (aG (ab ap (ab ap (ab ap af)))) (by with_unfolding_all rfl)) (ak (aA (aG (ab (bm (FC rfl) rfl T.min (by decide +kernel) (ab (ai aB (aa 0) ae (fun _ _=>rfl)) (ab (ai aB (aa 0) ae (fun _ _=>rfl)) af))) (ab (bm (Bk rfl) rfl T.max (by decide +kernel) (ab (ai aB (aa 0) ae (fun _ _=>rfl)) (ab (ai aB (aa 0) ae (fun _ _=>rfl)) af))) af))))) aE) (ak (aA (aG (ab (ai aB (aa 0) ae (fun _ _=>rfl)) af))))))
theorem om:FnScope kG ["one","other"] (ar fG):=⟨rfl,rfl,rfl,by decide +kernel,rfl,by decide +kernel,by decide +kernel⟩
theorem oH {f:Addr} {fd:FuncData} {dV:Value} (F:FunV K "undone_by" "undone_by" fG f fd dV) (T:Txt mg) (C_wires_of:Cal P w K mg base "wires_of" 9 bf []):FnOk P w K mg base d0 10 f fd ["one","other"] (fE K bJ):=
 cG (k:=9) (b:=dy) F om fun cdv A outer s H E hr=>(ah (aM (az kQ (ai aB (aa 0) ae (fun _ _=>rfl)) (aG (ab ap (ab ap af))) (by with_unfolding_all rfl)) (ak (aA df)) aE) (ah (aM (az kQ (ai aB (aa 0) ae (fun _ _=>rfl)) (aG (ab ap (ab ap af))) (by with_unfolding_all rfl)) (ak (aA (eK (cj (bh hr.units) (ai aB (aa 0) ae (fun _ _=>rfl)) (ai aB (aa 1) ae (fun _ _=>rfl)) (aw _)) (gh (cj (bh hr.units) (aD C_wires_of (hr.mono (by decide)) rfl (ab (aa 0) af)) (aD C_wires_of (hr.mono (by decide)) rfl (ab (aa 1) af)) (aw _)))))) aE) (ak (aA (cj (bh hr.units) (aa 0) (aa 1) (aw _))))))
theorem pX:FnScope mL ["row","look","mark"] (ar gE):=⟨rfl,rfl,rfl,by decide +kernel,rfl,by decide +kernel,by decide +kernel⟩
theorem qg {f:Addr} {fd:FuncData} {dV:Value} (F:FunV K "asks_for" "asks_for" gE f fd dV) (T:Txt mg):FnOk P w K mg base d0 1 f fd ["row","look","mark"] (fE K bP):=
 cG (k:=0) (b:=fA) F pX fun cdv A outer s H E hr=>(ak (aA (eK (cj (bh hr.units) (ai aB (aa 0) ae (fun _ _=>rfl)) ap (aw _)) (eK (cj (bh hr.units) (ai aB (aa 1) ae (fun _ _=>rfl)) ap (aw _)) (gh (cj (bh hr.units) (ai aB (aa 0) ae (fun _ _=>rfl)) (aa 2) (aw _)))))))
theorem vR:FnScope um ["row","wire"] (ar kX):=⟨rfl,rfl,rfl,by decide +kernel,rfl,by decide +kernel,by decide +kernel⟩
theorem wu {f:Addr} {fd:FuncData} {dV:Value} (F:FunV K "flips" "flips" kX f fd dV) (T:Txt mg):FnOk P w K mg base d0 1 f fd ["row","wire"] (fE K cb):=
 cG (k:=0) (b:=dO) F vR fun cdv A outer s H E hr=>(ah (aM (az kQ (ai aB (aa 0) ae (fun _ _=>rfl)) (aG (ab ap (ab ap af))) (by with_unfolding_all rfl)) (ak (aA cU)) aE) (ak (aA (Fk (cj (bh hr.units) (ai aB (aa 0) ae (fun _ _=>rfl)) ap (aw _)) (gh (eK (cj (bh hr.units) (ai aB (aa 0) ae (fun _ _=>rfl)) ap (aw _)) (gh (cj (bh hr.units) (ai aB (aa 0) ae (fun _ _=>rfl)) (aa 1) (aw _)))))))))
theorem sc_both_alike:FnScope jU ["one","other","wire"] (ar eN):=⟨rfl,rfl,rfl,by decide +kernel,rfl,by decide +kernel,by decide +kernel⟩
theorem mU {f:Addr} {fd:FuncData} {dV:Value} (F:FunV K "both_alike" "both_alike" eN f fd dV) (T:Txt mg) (C_flips:Cal P w K mg base "flips" 1 cb []):FnOk P w K mg base d0 2 f fd ["one","other","wire"] (fE K bV):=
 cG (k:=1) (b:=eS) F sc_both_alike fun cdv A outer s H E hr=>(ah (ba 3 sc_both_alike.nd (aD C_flips (hr.mono (by decide)) rfl (ab (aa 0) (ab (aa 2) af)))) (ak (aA (eK (cj sJ (aa 3) cU (aw _)) (gh (cj (bh hr.units) (aa 3) (aD C_flips (hr.mono (by decide)) rfl (ab (aa 1) (ab (aa 2) af))) (aw _)))))))
theorem ot:FnScope kI ["row"] (ar fK):=⟨rfl,rfl,rfl,by decide +kernel,rfl,by decide +kernel,by decide +kernel⟩
theorem oK {f:Addr} {fd:FuncData} {dV:Value} (F:FunV K "inner_row" "inner_row" fK f fd dV) (T:Txt mg):FnOk P w K mg base d0 1 f fd ["row"] (fE K bB):=
 cG (k:=0) (b:=dz) F ot fun cdv A outer s H E hr=>(ak (aA (sD (az (bh hr.units) (ai aB (aa 0) ae (fun _ _=>rfl)) ap (aw _)) (ai aB (aa 0) ae (fun _ _=>rfl)) (aa 0))))
theorem sc_lets_by:FnScope ip ["one","other","mark"] (ar dw):=⟨rfl,rfl,rfl,by decide +kernel,rfl,by decide +kernel,by decide +kernel⟩
theorem rY {f:Addr} {fd:FuncData} {dV:Value} (F:FunV K "lets_by" "lets_by" dw f fd dV) (T:Txt mg) (C_asks_for:Cal P w K mg base "asks_for" 1 bP []) (C_wires_of:Cal P w K mg base "wires_of" 9 bf []) (C_both_alike:Cal P w K mg base "both_alike" 2 bV []) (C_inner_row:Cal P w K mg base "inner_row" 1 bB []):FnOk P w K mg base d0 10 f fd ["one","other","mark"] (fE K cC):=
 cG (k:=9) (b:=kq) F sc_lets_by fun cdv A outer s H E hr=>(ah (aM (WV.tv (cD (az (bh hr.units) (ai aB (aa 0) ae (fun _ _=>rfl)) ap (aw _)) (cg (az (bh hr.units) (ai aB (aa 1) ae (fun _ _=>rfl)) ap (aw _))))) (ak (aA df)) aE) (ah (aM (WV.tv (d5 (cE (aD C_asks_for (hr.mono (by decide)) rfl (ab (aa 0) (ab (aa 1) (ab (aa 2) af))))) (eE (cE (aD C_asks_for (hr.mono (by decide)) rfl (ab (aa 1) (ab (aa 0) (ab (aa 2) af)))))))) (ak (aA df)) aE) (ah (vJ 3 sc_lets_by.nd (vars:=["wire"]) (caps:=[(1,"other")]) (by change BlkOk (ar dw).names ip _ _ _; exact ⟨rfl,by decide +kernel,by decide +kernel,by decide +kernel,by decide +kernel⟩) rfl (dJ (aD C_wires_of (hr.mono (by decide)) rfl (ab (aa 0) af))) eF (fun _ _ _ _=>cu (i:=0) (show (["wire","other"]:List Str).Nodup by decide +kernel) rfl (Or.inl rfl) (.inr rfl)) (fun _ _ _ _=>(az kQ (aa 0) (aD C_wires_of (hr.mono (by decide)) rfl (ab (aa 1) af)) (by with_unfolding_all rfl))) (fun _ _ _ _=>(aa 0))) (ak (aA (bm (FE rfl) rfl T.all (by decide +kernel) (ab (jD (vars:=["wire"]) (caps:=[(0,"one"),(1,"other")]) (by change BlkOk (ar dw).names ip _ _ _; exact ⟨rfl,by decide +kernel,by decide +kernel,by decide +kernel,by decide +kernel⟩) rfl (dJ (aa 3)) eF (fun _ _ _ _=>cu (i:=0) (show (["wire","one","other"]:List Str).Nodup by decide +kernel) rfl (Or.inl rfl) (.inr rfl)) (fun _ _ _ _=>(aD C_both_alike (hr.mono (by decide)) rfl (ab (aD C_inner_row (hr.mono (by decide)) rfl (ab (aa 1) af)) (ab (aD C_inner_row (hr.mono (by decide)) rfl (ab (aa 2) af)) (ab (aa 0) af)))))) af)))))))
theorem sc_steps_for_two:FnScope gX ["rows","p"] (ar dh):=⟨rfl,rfl,rfl,by decide +kernel,rfl,by decide +kernel,by decide +kernel⟩
theorem j4 {f:Addr} {fd:FuncData} {dV:Value} (F:FunV K "steps_for_two" "steps_for_two" dh f fd dV) (T:Txt mg) (C_undone_by:Cal P w K mg base "undone_by" 10 bJ []) (C_lets_by1:Cal P w K mg base "lets_by" 10 cC [.none]):FnOk P w K mg base d0 11 f fd ["rows","p"] (fE K bp):=
 cG (k:=10) (b:=dn) F sc_steps_for_two fun cdv A outer s H E hr=>(ah (lI 2 sc_steps_for_two.nd af) (ah (eG PassesOwn.never rfl (eW rfl T.range (ab (aN bY (aa 1) ae) (ab (bm dS rfl T.len (by decide +kernel) (ab (aa 0) af)) af))) (bU 3 sc_steps_for_two.nd) (ah (aM (cE (aD C_undone_by (hr.mono (by decide)) rfl (ab (ai aB (aa 0) (aa 1) (fun _ _=>rfl)) (ab (ai aB (aa 0) (aa 3) (fun _ _=>rfl)) af)))) (ak (j0 2 (aG (ab ap (ab (aa 1) (ab (aa 3) af)))))) aE) (ah (aM (WV.tv (cD (az (bh hr.units) (ai aB (ai aB (aa 0) (aa 1) (fun _ _=>rfl)) ae (fun _ _=>rfl)) ap (aw _)) (cg (az (bh hr.units) (aX (ai aB (aa 0) (aa 1) (fun _ _=>rfl)) bT (aV ae)) (aX (ai aB (aa 0) (aa 3) (fun _ _=>rfl)) bT (aV ae)) (aw _))))) (ak (j0 2 (aG (ab ap (ab (aa 1) (ab (aa 3) af)))))) aE) (ak (aM (fZ (cE (xv C_lets_by1 (hr.mono (by decide)) rfl (ab (ai aB (aa 0) (aa 1) (fun _ _=>rfl)) (ab (ai aB (aa 0) (aa 3) (fun _ _=>rfl)) af))))) (ak (nr 2 (aA (aa 2)))) aE))))) (ak (nr 2 (aA (aa 2))))))
theorem ji:FnScope bM ["row","wire"] (ar fH):=⟨rfl,rfl,rfl,by decide +kernel,rfl,by decide +kernel,by decide +kernel⟩
theorem iF {f:Addr} {fd:FuncData} {dV:Value} (F:FunV K "swung_row" "swung_row" fH f fd dV) (T:Txt mg) (hm:mg "swung_row" = some (.ref f)) (hk:PySem.W.keepIn K (.ref f)=true) (hb:Binds K fd ["row","wire"] []):∀ m,FnOk P w K mg base d0 (1+m) f fd ["row","wire"] (fE K (bb m))
 | 0=>cG (k:=0) (b:=fun _=>none) F ji fun cdv A outer s H E hr=>q9
 | m+1=>by
  have C_swung_row:Cal P w K mg base "swung_row" (1+m) (bb m) []:=Cal.mk0 (iF F T hm hk hb m) hm hk hb
  exact cG (k:=1+m) (b:=aK (bb m)) F ji fun cdv A outer s H E hr=>(ah (aM (az (bh hr.units) (ai aB (aa 0) ae (fun _ _=>rfl)) ap (aw _)) (ak (aA (aG (ab ap (ab (ai aB (aa 0) ae (fun _ _=>rfl)) (ab (aD C_swung_row (hr.mono (by omega)) rfl (ab (ai aB (aa 0) ae (fun _ _=>rfl)) (ab (aa 1) af))) af)))))) aE) (ah (aM (az (bh hr.units) (aa 0) (aG (ab ap (ab (aa 1) af))) (aw _)) (ak (aA (aG (ab ap (ab (aa 1) (ab ae af)))))) aE) (ah (aM (az (bh hr.units) (aa 0) (aG (ab ap (ab (aa 1) (ab ae af)))) (aw _)) (ak (aA (aG (ab ap (ab (aa 1) af))))) aE) (ah (aM (WV.tv (cD (az (bh hr.units) (ai aB (aa 0) ae (fun _ _=>rfl)) ap (aw _)) (cg (az (bh hr.units) (ai aB (aa 0) ae (fun _ _=>rfl)) (aa 1) (aw _))))) (ak (aA (aG (ab ap (ab (ai aB (aa 0) ae (fun _ _=>rfl)) (ab (aa 1) af)))))) aE) (ah (aM (az (bh hr.units) (ai aB (aa 0) ae (fun _ _=>rfl)) ap (aw _)) (ak (aA (aG (ab ap (ab (sD (az (bh hr.units) (ai aB (aa 0) ae (fun _ _=>rfl)) (aa 1) (aw _)) (ai aB (aa 0) ae (fun _ _=>rfl)) (ai aB (aa 0) ae (fun _ _=>rfl))) (ab (aa 1) af)))))) aE) (ak (aA cU)))))))
theorem sc_steps_for_three:FnScope dQ ["rows","p"] (ar b9):=⟨rfl,rfl,rfl,by decide +kernel,rfl,by decide +kernel,by decide +kernel⟩
theorem iV {f:Addr} {fd:FuncData} {dV:Value} (F:FunV K "steps_for_three" "steps_for_three" b9 f fd dV) (T:Txt mg) (C_swung_row:Cal P w K mg base "swung_row" 9 ck []) (C_wires_of:Cal P w K mg base "wires_of" 9 bf []):FnOk P w K mg base d0 10 f fd ["rows","p"] (fE K aJ):=
 cG (k:=9) (b:=bO) F sc_steps_for_three fun cdv A outer s H E hr=>(ah (aM (az (ki hr.units) (ai aB (ai aB (aa 0) (aa 1) (fun _ _=>rfl)) ae (fun _ _=>rfl)) ap (aw _)) (ak (aA (bQ af))) aE) (ah (ba 2 sc_steps_for_three.nd (ai aB (ai aB (aa 0) (aa 1) (fun _ _=>rfl)) ae (fun _ _=>rfl))) (ah (ba 3 sc_steps_for_three.nd (aX (h7 (vars:=["q"]) (caps:=[(0,"rows"),(2,"wire")]) (by change BlkOk (ar b9).names dQ _ _ _; exact ⟨rfl,by decide +kernel,by decide +kernel,by decide +kernel,by decide +kernel⟩) rfl (eW rfl T.range (ab (aN bY (aa 1) ae) (ab (bm dS rfl T.len (by decide +kernel) (ab (aa 0) af)) af))) eF (fun _ _ _ _=>cu (i:=0) (show (["q","rows","wire"]:List Str).Nodup by decide +kernel) rfl (Or.inl rfl) (.inr rfl)) (fun _ _ _ _=>(az kQ (aa 2) (aD C_wires_of (hr.mono (by decide)) rfl (ab (ai aB (aa 1) (aa 0) (fun _ _=>rfl)) af)) (by with_unfolding_all rfl))) (fun _ _ _ _=>(aa 0))) bT (aV ae))) (ah (aM (WV.tv (cD (az (bh hr.units) (bm dS rfl T.len (by decide +kernel) (ab (aa 3) af)) ae (aw _)) (cD (az (bh hr.units) (ai aB (aa 0) (ai aB (aa 3) ae (fun _ _=>rfl)) (fun _ _=>rfl)) (ai aB (aa 0) (aa 1) (fun _ _=>rfl)) (aw _)) (cg (az sJ (aD C_swung_row (hr.mono (by decide)) rfl (ab (ai aB (aa 0) (ai aB (aa 3) ae (fun _ _=>rfl)) (fun _ _=>rfl)) (ab (aa 2) af))) cU (aw _)))))) (ak (aA (bQ (ab (aG (ab ap (ab (aa 1) (ab (ai aB (aa 3) ae (fun _ _=>rfl)) (ab (ai aB (aa 3) ae (fun _ _=>rfl)) af))))) af)))) aE) (ak (aA (bQ af)))))))
theorem sc_slides_of:FnScope N_slides_of ["circuit"] (ar fI):=⟨rfl,rfl,rfl,by decide +kernel,rfl,by decide +kernel,by decide +kernel⟩
theorem jo {f:Addr} {fd:FuncData} {dV:Value} (F:FunV K "slides_of" "slides_of" fI f fd dV) (T:Txt mg) (C_steps_for_two:Cal P w K mg base "steps_for_two" 11 bp []) (C_steps_for_three:Cal P w K mg base "steps_for_three" 10 aJ []):FnOk P w K mg base d0 12 f fd ["circuit"] (fE K bc):=
 cG (k:=11) (b:=ie) F sc_slides_of fun cdv A outer s H E hr=>(ah (ba 1 sc_slides_of.nd (ai aB (aa 0) ae (fun _ _=>rfl))) (ah (lI 2 sc_slides_of.nd af) (ah (eG PassesOwn.never rfl (im rfl T.range (ab (bm dS rfl T.len (by decide +kernel) (ab (aa 1) af)) af)) (bU 3 sc_slides_of.nd) (ah (oj 2 (aD C_steps_for_two (hr.mono (by decide)) rfl (ab (aa 1) (ab (aa 3) af)))) (ak (oj 2 (aD C_steps_for_three (hr.mono (by decide)) rfl (ab (aa 1) (ab (aa 3) af))))))) (ak (nr 2 (aA (li rfl T.sorted (aa 2))))))))
theorem sc_joined:FnScope rE ["one","other"] (ar jl):=⟨rfl,rfl,rfl,by decide +kernel,rfl,by decide +kernel,by decide +kernel⟩
theorem uN {f:Addr} {fd:FuncData} {dV:Value} (F:FunV K "joined" "joined" jl f fd dV) (T:Txt mg):FnOk P w K mg base d0 1 f fd ["one","other"] (fE K dM):=
 cG (k:=0) (b:=jO) F sc_joined fun cdv A outer s H E hr=>(ah (ba 2 sc_joined.nd (aN dg (aN bY (ai aB (aa 0) ae (fun _ _=>rfl)) (ai aB (aa 1) ae (fun _ _=>rfl))) ae)) (ak (aA (sD (az (bh hr.units) (aa 2) ae (aw _)) cU (aG (ab ap (ab (ai aB (aa 0) ae (fun _ _=>rfl)) (ab (aa 2) af))))))))
theorem mR:FnScope jT ["rows","step"] (ar eM):=⟨rfl,rfl,rfl,by decide +kernel,rfl,by decide +kernel,by decide +kernel⟩
theorem mT {f:Addr} {fd:FuncData} {dV:Value} (F:FunV K "changed_by" "changed_by" eM f fd dV) (T:Txt mg) (C_swung_row:Cal P w K mg base "swung_row" 9 ck []) (C_joined:Cal P w K mg base "joined" 1 dM []):FnOk P w K mg base d0 10 f fd ["rows","step"] (fE K bq):=
 cG (k:=9) (b:=dP) F mR fun cdv A outer s H E hr=>(ah (aM (az (bh hr.units) (ai aB (aa 1) ae (fun _ _=>rfl)) ap (aw _)) (ak (aA (sE (gP (ai aB (aa 1) ae (fun _ _=>rfl)) cU (gP (ai aB (aa 1) ae (fun _ _=>rfl)) cU sI))))) aE) (ah (aM (az (bh hr.units) (ai aB (aa 1) ae (fun _ _=>rfl)) ap (aw _)) (ak (aA (sE (gP (ai aB (aa 1) ae (fun _ _=>rfl)) cU (gP (ai aB (aa 1) ae (fun _ _=>rfl)) (aD C_joined (hr.mono (by decide)) rfl (ab (ai aB (aa 0) (ai aB (aa 1) ae (fun _ _=>rfl)) (fun _ _=>rfl)) (ab (ai aB (aa 0) (ai aB (aa 1) ae (fun _ _=>rfl)) (fun _ _=>rfl)) af))) sI))))) aE) (ak (aA (sE (gP (ai aB (aa 1) ae (fun _ _=>rfl)) cU (gP (ai aB (aa 1) ae (fun _ _=>rfl)) (aD C_swung_row (hr.mono (by decide)) rfl (ab (ai aB (aa 0) (ai aB (aa 1) ae (fun _ _=>rfl)) (fun _ _=>rfl)) (ab (ai aB (ai aB (aa 0) (ai aB (aa 1) ae (fun _ _=>rfl)) (fun _ _=>rfl)) ae (fun _ _=>rfl)) af))) (gP (ai aB (aa 1) ae (fun _ _=>rfl)) cU sI))))))))
theorem sc_slid:FnScope N_slid ["circuit","step"] (ar j1):=⟨rfl,rfl,rfl,by decide +kernel,rfl,by decide +kernel,by decide +kernel⟩
theorem zv {f:Addr} {fd:FuncData} {dV:Value} (F:FunV K "slid" "slid" j1 f fd dV) (T:Txt mg) (C_changed_by:Cal P w K mg base "changed_by" 10 bq []) (C_slides_of:Cal P w K mg base "slides_of" 12 bc []):FnOk P w K mg base d0 13 f fd ["circuit","step"] (fE K gM):=
 cG (k:=12) (b:=sP) F sc_slid fun cdv A outer s H E hr=>(ah (aM (az (xF (Gq hr)) (aa 1) (aD C_slides_of (hr.mono (by decide)) rfl (ab (aa 0) af)) (by with_unfolding_all rfl)) (ak DM) aE) (ah (ba 2 sc_slid.nd (aD C_changed_by (hr.mono (by decide)) rfl (ab (ai aB (aa 0) ae (fun _ _=>rfl)) (ab (aa 1) af)))) (ah (yF 3 sc_slid.nd (vars:=["k"]) (caps:=[(0,"circuit"),(2,"changes")]) (by change BlkOk (ar j1).names N_slid _ _ _; exact ⟨rfl,by decide +kernel,by decide +kernel,by decide +kernel,by decide +kernel⟩) rfl (im rfl T.range (ab (bm dS rfl T.len (by decide +kernel) (ab (ai aB (aa 0) ae (fun _ _=>rfl)) af)) af)) eF (fun _ _ _ _=>cu (i:=0) (show (["k","circuit","changes"]:List Str).Nodup by decide +kernel) rfl (Or.inl rfl) (.inr rfl)) (fun _ _ _ _=>(Ar (Je hr.units) (aa 2) (aa 0) (ai aB (ai aB (aa 1) ae (fun _ _=>rfl)) (aa 0) (fun _ _=>rfl)) ⟨rfl,rfl,rfl,rfl⟩))) (ak (aA (aG (ab (ai aB (aa 0) ae (fun _ _=>rfl)) (ab (eX pf rfl T.tuple (by decide +kernel) (ab (h7 (vars:=["row"]) (caps:=[]) (by change BlkOk (ar j1).names N_slid _ _ _; exact ⟨rfl,by decide +kernel,by decide +kernel,by decide +kernel,by decide +kernel⟩) rfl (dJ (aa 3)) eF (fun _ _ _ _=>cu (i:=0) (show (["row"]:List Str).Nodup by decide +kernel) rfl (Or.inl rfl) (.inr rfl)) (fun _ _ _ _=>(az sJ (aa 0) cU (aw _))) (fun _ _ _ _=>(aa 0))) af)) af))))))))
theorem sc_led_on:FnScope rB ["thing","steps_for","behind_step"] (ar jj):=⟨rfl,rfl,rfl,by decide +kernel,rfl,by decide +kernel,by decide +kernel⟩
theorem uM {f:Addr} {fd:FuncData} {dV:Value} (F:FunV K "led_on" "led_on" jj f fd dV) (T:Txt mg) (V_slides_of:CalF P w K mg base "slides_of" 12 bc) (V_slid:CalF P w K mg base "slid" 13 gM):FnOk P w K mg base d0 14 f fd ["thing","steps_for","behind_step"] (fE K gy):=
 cG (k:=13) (b:=mG) F sc_led_on fun cdv A outer s H E hr=>(ah (lI 3 sc_led_on.nd af) (ah (ba 4 sc_led_on.nd (ms 1 (k:=12) (o3 (by decide) V_slides_of sy) (hr.mono (by decide)) (ab (aa 0) af))) (ah (vI (fun _=>wN) PassesOwn.never (az (ki hr.units) (aa 4) (bQ af) (aw _)) (ah (j0 3 (ai aB (aa 4) ae (fun _ _=>rfl))) (ah (ba 0 sc_led_on.nd (ms 2 (k:=13) (o3 (by decide) V_slid sy) (hr.mono (by decide)) (ab (aa 0) (ab (ai aB (aa 4) ae (fun _ _=>rfl)) af)))) (ak (ba 4 sc_led_on.nd (ms 1 (k:=12) (o3 (by decide) V_slides_of sy) (hr.mono (by decide)) (ab (aa 0) af))))))) (ak (nr 3 (aA (aG (ab (aa 3) (ab (aa 0) af)))))))))
theorem oo:FnScope kH ["circuit"] (ar fJ):=⟨rfl,rfl,rfl,by decide +kernel,rfl,by decide +kernel,by decide +kernel⟩
theorem oJ {f:Addr} {fd:FuncData} {dV:Value} (F:FunV K "shortened" "shortened" fJ f fd dV) (T:Txt mg) (C_led_on:Cal P w K mg base "led_on" 14 gy []) (N_slid:Fnm K mg "slid") (N_slides_of:Fnm K mg "slides_of"):FnOk P w K mg base d0 15 f fd ["circuit"] (fE K bX):=
 cG (k:=14) (b:=ii) F oo fun cdv A outer s H E hr=>(ak (aA (aD C_led_on (hr.mono (by decide)) rfl (ab (aa 0) (ab (qQ N_slides_of rfl) (ab (qQ N_slid rfl) af))))))
theorem ox:FnScope kN ["script","k"] (ar fQ):=⟨rfl,rfl,rfl,by decide +kernel,rfl,by decide +kernel,by decide +kernel⟩
theorem oR {f:Addr} {fd:FuncData} {dV:Value} (F:FunV K "_law_cell" "_law_cell" fQ f fd dV) (T:Txt mg):FnOk P w K mg base d0 1 f fd ["script","k"] (fE K cn):=
 cG (k:=0) (b:=fY) F ox fun cdv A outer s H E hr=>(ah (aM (az o9 (aa 1) (bm dS rfl T.len (by decide +kernel) (ab (aa 0) af)) (aw _)) (ak (aA (ai aB (aa 0) (aa 1) (fun _ _=>rfl)))) aE) (ak (aA ae)))
theorem sc__law_turn:FnScope kK ["cell","prime"] (ar fM):=⟨rfl,rfl,rfl,by decide +kernel,rfl,by decide +kernel,by decide +kernel⟩
theorem oN {f:Addr} {fd:FuncData} {dV:Value} (F:FunV K "_law_turn" "_law_turn" fM f fd dV) (T:Txt mg):FnOk P w K mg base d0 1 f fd ["cell","prime"] (fE K bt):=
 cG (k:=0) (b:=fX) F sc__law_turn fun cdv A outer s H E hr=>(ah (ba 2 sc__law_turn.nd (aN dg (aa 0) ae)) (ak (aA (aN dg (aN CQ (aN bY (aa 2) ae) (aN bY (aa 2) ae)) (aa 1)))))
theorem sc__law_row:FnScope mM ["cell","wires","looks","plain"] (ar gF):=⟨rfl,rfl,rfl,by decide +kernel,rfl,by decide +kernel,by decide +kernel⟩
theorem qh {f:Addr} {fd:FuncData} {dV:Value} (F:FunV K "_law_row" "_law_row" gF f fd dV) (T:Txt mg) (C__law_turn:Cal P w K mg base "_law_turn" 1 bt []):FnOk P w K mg base d0 2 f fd ["cell","wires","looks","plain"] (fE K aR):=
 cG (k:=1) (b:=b7) F sc__law_row fun cdv A outer s H E hr=>(ah (ba 4 sc__law_row.nd (aN jH (aD C__law_turn (hr.mono (by decide)) rfl (ab (aa 0) (ab ae af))) ae)) (ah (ba 5 sc__law_row.nd (aN dg (aN jH (aa 4) ae) (aa 1))) (ah (ba 6 sc__law_row.nd (aN dg (aN bY (aN bY (aa 5) ae) (aN dg (aN jH (aa 4) ae) (bm (Bk rfl) rfl T.max (by decide +kernel) (ab ae (ab (aN Bj (aa 1) ae) af))))) (aa 1))) (ah (aM (az o9 (aN dg (aa 0) ae) ae (aw _)) (ak (aA (aG (ab ap (ab (aa 5) af))))) aE) (ah (aM (az o9 (aN dg (aa 0) ae) ae (aw _)) (ak (aA (aG (ab ap (ab (aa 5) (ab (aN bY ae (aN dg (aN jH (aa 4) ae) ae)) af)))))) aE) (ah (aM (WV.tv (cD (vB o9 o9 ae (aN dg (aa 0) ae) ae) (cg (az HR (aa 1) ae (aw _))))) (ak (aA (aG (ab (ai aB (bQ (ab ap (ab ap (ab ap (ab ap (ab ap af)))))) (aN Bj (aN dg (aa 0) ae) ae) (fun _ _=>rfl)) (ab (aa 6) (ab (aa 5) af)))))) aE) (ah (aM (WV.tv (d5 (az (bh hr.units) (aN dg (aa 0) ae) ae (aw _)) (eE (cE (aa 3))))) (ak (aA (aG (ab ap (ab (aa 5) af))))) aE) (ah (aM (WV.tv (cD (az o9 (aa 2) ae (aw _)) (cg (WV.tv (d5 (az o9 (aN dg (aa 0) ae) ae (aw _)) (eE (az (bh hr.units) (aa 2) ae (aw _)))))))) (ak (aA (aG (ab ap (ab (aa 5) af))))) aE) (ah (aM (az (bh hr.units) (aa 2) ae (aw _)) (ak (aA (aG (ab ap (ab (aa 5) af))))) aE) (ak (aA (aG (ab ap (ab (aN dg (aN jH (aa 4) ae) (aa 2)) (ab (ai aB (bQ (ab (aG (ab ap (ab (aa 5) af))) (ab (aG (ab ap (ab (aa 5) (ab ae af)))) af))) (aN dg (aN jH (aa 4) ae) ae) (fun _ _=>rfl)) af)))))))))))))))
theorem sc__law_same:FnScope dD ["found","due"] (ar fO):=⟨rfl,rfl,rfl,by decide +kernel,rfl,by decide +kernel,by decide +kernel⟩
theorem iG {f:Addr} {fd:FuncData} {dV:Value} (F:FunV K "_law_same" "_law_same" fO f fd dV) (T:Txt mg) (hm:mg "_law_same" = some (.ref f)) (hk:PySem.W.keepIn K (.ref f)=true) (hb:Binds K fd ["found","due"] []):∀ m,FnOk P w K mg base d0 (1+m) f fd ["found","due"] (fE K (br m))
 | 0=>cG (k:=0) (b:=fun _=>none) F sc__law_same fun cdv A outer s H E hr=>q9
 | m+1=>by
  have C__law_same:Cal P w K mg base "_law_same" (1+m) (br m) []:=Cal.mk0 (iG F T hm hk hb m) hm hk hb
  exact cG (k:=1+m) (b:=cp (br m)) F sc__law_same fun cdv A outer s H E hr=>(ah (aM (cE (fo (T:="tuple") rfl T.isinstance rfl T.tuple (by decide +kernel) (by decide) (by decide) (aa 1))) (ah (aM (WV.tv (d5 (fZ (cE (fo (T:="tuple") rfl T.isinstance rfl T.tuple (by decide +kernel) (by decide) (by decide) (aa 0)))) (eE (az (ki hr.units) (bm dS rfl T.len (by decide +kernel) (ab (aa 0) af)) (bm dS rfl T.len (by decide +kernel) (ab (aa 1) af)) (aw _))))) (ak (aA df)) aE) (ah (eG PassesOwn.never rfl (im rfl T.range (ab (bm dS rfl T.len (by decide +kernel) (ab (aa 1) af)) af)) (bU 2 sc__law_same.nd) (ak (aM (fZ (cE (aD C__law_same (hr.mono (by omega)) rfl (ab (ai aB (aa 0) (aa 2) (fun _ _=>rfl)) (ab (ai aB (aa 1) (aa 2) (fun _ _=>rfl)) af))))) (ak (aA df)) aE))) (ak (aA df)))) aE) (ah (aM (cE (fo (T:="str") rfl T.isinstance rfl T.str (by decide +kernel) (by decide) (by decide) (aa 1))) (ak (aA (eK (fo (T:="str") rfl T.isinstance rfl T.str (by decide +kernel) (by decide) (by decide) (aa 0)) (gh (cj (bh hr.units) (aa 0) (aa 1) (aw _)))))) aE) (ak (aA (eK (fo (T:="int") rfl T.isinstance rfl T.int (by decide +kernel) (by decide) (by decide) (aa 0)) (eK (CG (fo (T:="bool") rfl T.isinstance rfl T.bool (by decide +kernel) (by decide) (by decide) (aa 0))) (gh (cj (bh hr.units) (aa 0) (aa 1) (aw _)))))))))
theorem sc__law_often:FnScope jV ["cells","wires"] (ar eO):=⟨rfl,rfl,rfl,by decide +kernel,rfl,by decide +kernel,by decide +kernel⟩
theorem mW {f:Addr} {fd:FuncData} {dV:Value} (F:FunV K "_law_often" "_law_often" eO f fd dV) (T:Txt mg) (C__law_row:Cal P w K mg base "_law_row" 2 aR []) (C__law_turn:Cal P w K mg base "_law_turn" 1 bt []):FnOk P w K mg base d0 3 f fd ["cells","wires"] (fE K cy):=
 cG (k:=2) (b:=gS) F sc__law_often fun cdv A outer s H E hr=>(ah (lI 2 sc__law_often.nd af) (ah (ba 3 sc__law_often.nd ae) (ah (eG PassesOwn.never rfl (dJ (aa 0)) (bU 4 sc__law_often.nd) (ah (ba 5 sc__law_often.nd (aD C__law_row (hr.mono (by decide)) rfl (ab (aa 4) (ab (aa 1) (ab (aa 3) (ab df af)))))) (ah (ba 6 sc__law_often.nd (aN jH (aD C__law_turn (hr.mono (by decide)) rfl (ab (aN jH (aa 4) ae) (ab ae af))) ae)) (ah (aM (yA 2 (WV.tv (cD (az o9 (aN dg (aa 4) ae) ae (aw _)) (cD (az (ki hr.units) (aa 2) (bQ af) (aw _)) (cg (az (ki hr.units) (ai aB (ai aB (aa 2) (aN dg (aa 6) (bm dS rfl T.len (by decide +kernel) (ab (aa 2) af))) (fun _ _=>rfl)) ae (fun _ _=>rfl)) ap (aw _))))))) (ah (ba 5 sc__law_often.nd (CH 2 (aN dg (aa 6) (Aq 2 rfl T.len)) (fun _ _=>rfl))) (ak (aM (WV.tv (cD (az kQ (ai aB (aa 5) ae (fun _ _=>rfl)) (aG (ab ap (ab ap af))) (by with_unfolding_all rfl)) (cg (az (bh hr.units) (aN dg (aN jH (aa 6) ae) ae) ae (aw _))))) (ak (ba 5 sc__law_often.nd (aG (ab (ai aB (aa 5) ae (fun _ _=>rfl)) (ab (ai aB (aa 5) ae (fun _ _=>rfl)) (ab (ai aB (aa 5) ae (fun _ _=>rfl)) af)))))) aE))) aE) (ah (aM (WV.tv (cD (az (bh hr.units) (ai aB (aa 5) ae (fun _ _=>rfl)) ap (aw _)) (cg (az (bh hr.units) (aa 3) ae (aw _))))) (ak (ba 5 sc__law_often.nd (aG (ab ap (ab (ai aB (aa 5) ae (fun _ _=>rfl)) af))))) aE) (ah (ba 3 sc__law_often.nd (aN bY (aa 3) (eX Bl rfl T.int (by decide +kernel) (ab (cj (bh hr.units) (ai aB (aa 5) ae (fun _ _=>rfl)) ap (aw _)) af)))) (ak (j0 2 (aa 5))))))))) (ak (nr 2 (aA (aG (ab (aa 1) (ab (eX pf rfl T.tuple (by decide +kernel) (ab (aa 2) af)) af)))))))))
theorem iD:FnScope cA ["row"] (ar dE):=⟨rfl,rfl,rfl,by decide +kernel,rfl,by decide +kernel,by decide +kernel⟩
theorem hG {f:Addr} {fd:FuncData} {dV:Value} (F:FunV K "_law_kinds" "_law_kinds" dE f fd dV) (T:Txt mg) (hm:mg "_law_kinds" = some (.ref f)) (hk:PySem.W.keepIn K (.ref f)=true) (hb:Binds K fd ["row"] []):∀ m,FnOk P w K mg base d0 (1+m) f fd ["row"] (fE K (bz m))
 | 0=>cG (k:=0) (b:=fun _=>none) F iD fun cdv A outer s H E hr=>q9
 | m+1=>by
  have C__law_kinds:Cal P w K mg base "_law_kinds" (1+m) (bz m) []:=Cal.mk0 (hG F T hm hk hb m) hm hk hb
  exact cG (k:=1+m) (b:=bi (bz m)) F iD fun cdv A outer s H E hr=>(ah (aM (az (bh hr.units) (ai aB (aa 0) ae (fun _ _=>rfl)) ap (aw _)) (ak (aA (aD C__law_kinds (hr.mono (by omega)) rfl (ab (ai aB (aa 0) ae (fun _ _=>rfl)) af)))) aE) (ah (aM (WV.tv (d5 (az (bh hr.units) (ai aB (aa 0) ae (fun _ _=>rfl)) ap (aw _)) (eE (az (bh hr.units) (ai aB (aa 0) ae (fun _ _=>rfl)) ap (aw _))))) (ak (aA (bQ (ab (aG (ab (ai aB (aa 0) ae (fun _ _=>rfl)) (ab ap af))) af)))) aE) (ah (aM (az (bh hr.units) (ai aB (aa 0) ae (fun _ _=>rfl)) ap (aw _)) (ak (aA (bQ (ab (aG (ab (ai aB (aa 0) ae (fun _ _=>rfl)) (ab ap af))) af)))) aE) (ah (aM (az (bh hr.units) (ai aB (aa 0) ae (fun _ _=>rfl)) ap (aw _)) (ak (aA (bQ (ab (aG (ab (ai aB (aa 0) ae (fun _ _=>rfl)) (ab ap af))) (ab (aG (ab (ai aB (aa 0) ae (fun _ _=>rfl)) (ab ap af))) af))))) aE) (ah (aM (az (bh hr.units) (ai aB (aa 0) ae (fun _ _=>rfl)) ap (aw _)) (ak (aA (bQ (ab (aG (ab (ai aB (aa 0) ae (fun _ _=>rfl)) (ab ap af))) (ab (aG (ab (ai aB (aa 0) ae (fun _ _=>rfl)) (ab ap af))) af))))) aE) (ak (aA (jD (vars:=["wire"]) (caps:=[]) (by change BlkOk (ar dE).names cA _ _ _; exact ⟨rfl,by decide +kernel,by decide +kernel,by decide +kernel,by decide +kernel⟩) rfl (dJ (aX (aa 0) (aV ae) bT)) eF (fun _ _ _ _=>cu (i:=0) (show (["wire"]:List Str).Nodup by decide +kernel) rfl (Or.inl rfl) (.inr rfl)) (fun _ _ _ _=>(aG (ab (aa 0) (ab ap af))))))))))))
theorem sc__law_lets:FnScope kM ["one","other","mark"] (ar fP):=⟨rfl,rfl,rfl,by decide +kernel,rfl,by decide +kernel,by decide +kernel⟩
theorem oQ {f:Addr} {fd:FuncData} {dV:Value} (F:FunV K "_law_lets" "_law_lets" fP f fd dV) (T:Txt mg) (C__law_kinds:Cal P w K mg base "_law_kinds" 9 bA []):FnOk P w K mg base d0 10 f fd ["one","other","mark"] (fE K bu):=
 cG (k:=9) (b:=cq) F sc__law_lets fun cdv A outer s H E hr=>(ah (ba 3 sc__law_lets.nd (bQ (ab (ai aB (aa 0) ae (fun _ _=>rfl)) (ab (ai aB (aa 1) ae (fun _ _=>rfl)) af)))) (ah (aM (az (bh hr.units) (aa 3) (bQ (ab ap (ab ap af))) (aw _)) (ak (aA df)) aE) (ah (aM (WV.tv (d5 (WV.tv (cD (az (bh hr.units) (aa 3) (bQ (ab ap (ab ap af))) (aw _)) (cg (az (bh hr.units) (ai aB (aa 1) ae (fun _ _=>rfl)) (aa 2) (aw _))))) (eE (WV.tv (cD (az (bh hr.units) (aa 3) (bQ (ab ap (ab ap af))) (aw _)) (cg (az (bh hr.units) (ai aB (aa 0) ae (fun _ _=>rfl)) (aa 2) (aw _)))))))) (ak (aA df)) aE) (ah (eG PassesOwn.never rfl (dJ (aD C__law_kinds (hr.mono (by decide)) rfl (ab (aa 0) af))) (o4 rfl (ez (bU 4 sc__law_lets.nd) (ez (bU 5 sc__law_lets.nd) ld))) (ak (eG PassesOwn.never rfl (dJ (aD C__law_kinds (hr.mono (by decide)) rfl (ab (aa 1) af))) (o4 rfl (ez (bU 6 sc__law_lets.nd) (ez (bU 7 sc__law_lets.nd) ld))) (ak (aM (WV.tv (cD (az (bh hr.units) (aa 4) (aa 6) (aw _)) (cg (WV.tv (d5 (az (ki hr.units) (aa 5) (aa 7) (aw _)) (eE (az (bh hr.units) (aa 5) ap (aw _)))))))) (ak (aA df)) aE))))) (ak (aA df))))))
theorem ir:FnScope du ["rows","place"] (ar b5):=⟨rfl,rfl,rfl,by decide +kernel,rfl,by decide +kernel,by decide +kernel⟩
theorem iu {f:Addr} {fd:FuncData} {dV:Value} (F:FunV K "_law_marks_ahead" "_law_marks_ahead" b5 f fd dV) (T:Txt mg):FnOk P w K mg base d0 1 f fd ["rows","place"] (fE K bg):=
 cG (k:=0) (b:=dt) F ir fun cdv A outer s H E hr=>(ak (aA (bm dS rfl T.len (by decide +kernel) (ab (h7 (vars:=["row"]) (caps:=[]) (by change BlkOk (ar b5).names du _ _ _; exact ⟨rfl,by decide +kernel,by decide +kernel,by decide +kernel,by decide +kernel⟩) rfl (dJ (aX (aa 0) bT (aV (aa 1)))) eF (fun _ _ _ _=>cu (i:=0) (show (["row"]:List Str).Nodup by decide +kernel) rfl (Or.inl rfl) (.inr rfl)) (fun _ _ _ _=>(az (bh hr.units) (ai aB (aa 0) ae (fun _ _=>rfl)) ap (aw _))) (fun _ _ _ _=>(aa 0))) af))))
theorem sc__law_clear:FnScope jW ["rows","p","q"] (ar eP):=⟨rfl,rfl,rfl,by decide +kernel,rfl,by decide +kernel,by decide +kernel⟩
theorem mX {f:Addr} {fd:FuncData} {dV:Value} (F:FunV K "_law_clear" "_law_clear" eP f fd dV) (T:Txt mg) (C__law_lets:Cal P w K mg base "_law_lets" 10 bu []) (C__law_marks_ahead:Cal P w K mg base "_law_marks_ahead" 1 bg []):FnOk P w K mg base d0 11 f fd ["rows","p","q"] (fE K bI):=
 cG (k:=10) (b:=gU) F sc__law_clear fun cdv A outer s H E hr=>(ah (eG PassesOwn.never rfl (eW rfl T.range (ab (aN bY (aa 1) ae) (ab (aa 2) af))) (bU 3 sc__law_clear.nd) (ak (aM (fZ (cE (aD C__law_lets (hr.mono (by decide)) rfl (ab (ai aB (aa 0) (aa 1) (fun _ _=>rfl)) (ab (ai aB (aa 0) (aa 3) (fun _ _=>rfl)) (ab (aD C__law_marks_ahead (hr.mono (by decide)) rfl (ab (aa 0) (ab (aa 3) af))) af)))))) (ak (aA df)) aE))) (ak (aA df)))
theorem ou:FnScope kJ ["one","other"] (ar fL):=⟨rfl,rfl,rfl,by decide +kernel,rfl,by decide +kernel,by decide +kernel⟩
theorem oM {f:Addr} {fd:FuncData} {dV:Value} (F:FunV K "_law_undo" "_law_undo" fL f fd dV) (T:Txt mg):FnOk P w K mg base d0 1 f fd ["one","other"] (fE K bK):=
 cG (k:=0) (b:=dA) F ou fun cdv A outer s H E hr=>(ah (aM (az kQ (ai aB (aa 0) ae (fun _ _=>rfl)) (aG (ab ap (ab ap af))) (by with_unfolding_all rfl)) (ak (aA df)) aE) (ah (aM (WV.tv (cD (az kQ (ai aB (aa 0) ae (fun _ _=>rfl)) (aG (ab ap (ab ap af))) (by with_unfolding_all rfl)) (cg (az (bh hr.units) (ai aB (aa 0) ae (fun _ _=>rfl)) (ai aB (aa 1) ae (fun _ _=>rfl)) (aw _))))) (ak (aA (cj (bh hr.units) (li rfl T.sorted (aX (aa 0) (aV ae) bT)) (li rfl T.sorted (aX (aa 1) (aV ae) bT)) (aw _)))) aE) (ak (aA (cj (bh hr.units) (aa 0) (aa 1) (aw _))))))
theorem iA:FnScope bj ["row","wire"] (ar cO):=⟨rfl,rfl,rfl,by decide +kernel,rfl,by decide +kernel,by decide +kernel⟩
theorem hE {f:Addr} {fd:FuncData} {dV:Value} (F:FunV K "_law_swung" "_law_swung" cO f fd dV) (T:Txt mg) (hm:mg "_law_swung" = some (.ref f)) (hk:PySem.W.keepIn K (.ref f)=true) (hb:Binds K fd ["row","wire"] []):∀ m,FnOk P w K mg base d0 (1+m) f fd ["row","wire"] (fE K (aI m))
 | 0=>cG (k:=0) (b:=fun _=>none) F iA fun cdv A outer s H E hr=>q9
 | m+1=>by
  have C__law_swung:Cal P w K mg base "_law_swung" (1+m) (aI m) []:=Cal.mk0 (hE F T hm hk hb m) hm hk hb
  exact cG (k:=1+m) (b:=aF (aI m)) F iA fun cdv A outer s H E hr=>(ah (aM (az (bh hr.units) (ai aB (aa 0) ae (fun _ _=>rfl)) ap (aw _)) (ak (aA (jD (vars:=["part"]) (caps:=[(0,"row")]) (by change BlkOk (ar cO).names bj _ _ _; exact ⟨rfl,by decide +kernel,by decide +kernel,by decide +kernel,by decide +kernel⟩) rfl (dJ (aD C__law_swung (hr.mono (by omega)) rfl (ab (ai aB (aa 0) ae (fun _ _=>rfl)) (ab (aa 1) af)))) eF (fun _ _ _ _=>cu (i:=0) (show (["part","row"]:List Str).Nodup by decide +kernel) rfl (Or.inl rfl) (.inr rfl)) (fun _ _ _ _=>(aG (ab ap (ab (ai aB (aa 1) ae (fun _ _=>rfl)) (ab (aa 0) af)))))))) aE) (ah (aM (az (bh hr.units) (aa 0) (aG (ab ap (ab (aa 1) af))) (aw _)) (ak (aA (bQ (ab (aG (ab ap (ab (aa 1) (ab ae af)))) af)))) aE) (ah (aM (az (bh hr.units) (aa 0) (aG (ab ap (ab (aa 1) (ab ae af)))) (aw _)) (ak (aA (bQ (ab (aG (ab ap (ab (aa 1) af))) af)))) aE) (ah (aM (WV.tv (cD (az (bh hr.units) (ai aB (aa 0) ae (fun _ _=>rfl)) ap (aw _)) (cg (az (bh hr.units) (ai aB (aa 0) ae (fun _ _=>rfl)) (aa 1) (aw _))))) (ak (aA (bQ (ab (aG (ab ap (ab (ai aB (aa 0) ae (fun _ _=>rfl)) (ab (aa 1) af)))) af)))) aE) (ah (aM (WV.tv (cD (az (bh hr.units) (ai aB (aa 0) ae (fun _ _=>rfl)) ap (aw _)) (cg (az kQ (aa 1) (aX (aa 0) (aV ae) bT) (by with_unfolding_all rfl))))) (ak (aA (bQ (ab (aG (ab ap (ab (ai aB (h7 (vars:=["part"]) (caps:=[(1,"wire")]) (by change BlkOk (ar cO).names bj _ _ _; exact ⟨rfl,by decide +kernel,by decide +kernel,by decide +kernel,by decide +kernel⟩) rfl (dJ (aX (aa 0) (aV ae) bT)) eF (fun _ _ _ _=>cu (i:=0) (show (["part","wire"]:List Str).Nodup by decide +kernel) rfl (Or.inl rfl) (.inr rfl)) (fun _ _ _ _=>(az (ki hr.units) (aa 0) (aa 1) (aw _))) (fun _ _ _ _=>(aa 0))) ae (fun _ _=>rfl)) (ab (aa 1) af)))) af)))) aE) (ak (aA (bQ af))))))))
theorem sc__law_fit:FnScope i5 ["rows","step"] (ar e9):=⟨rfl,rfl,rfl,by decide +kernel,rfl,by decide +kernel,by decide +kernel⟩
theorem qi {f:Addr} {fd:FuncData} {dV:Value} (F:FunV K "_law_fit" "_law_fit" e9 f fd dV) (T:Txt mg) (C__law_undo:Cal P w K mg base "_law_undo" 1 bK []) (C__law_clear:Cal P w K mg base "_law_clear" 11 bI []) (C__law_swung:Cal P w K mg base "_law_swung" 9 bW []) (C__law_kinds:Cal P w K mg base "_law_kinds" 9 bA []):FnOk P w K mg base d0 12 f fd ["rows","step"] (fE K bn):=
 cG (k:=11) (b:=fB) F sc__law_fit fun cdv A outer s H E hr=>(ah (vK (aX (aa 1) (aV ae) (aV ae)) (o4 rfl (ez (bU 2 sc__law_fit.nd) (ez (bU 3 sc__law_fit.nd) ld)))) (ah (aM (az (bh hr.units) (ai aB (aa 1) ae (fun _ _=>rfl)) ap (aw _)) (ak (aA (eK (aD C__law_undo (hr.mono (by decide)) rfl (ab (ai aB (aa 0) (aa 2) (fun _ _=>rfl)) (ab (ai aB (aa 0) (aa 3) (fun _ _=>rfl)) af))) (gh (aD C__law_clear (hr.mono (by decide)) rfl (ab (aa 0) (ab (aa 2) (ab (aa 3) af)))))))) aE) (ah (aM (az (bh hr.units) (ai aB (aa 1) ae (fun _ _=>rfl)) ap (aw _)) (ak (aA (eK (cj (bh hr.units) (ai aB (ai aB (aa 0) (aa 2) (fun _ _=>rfl)) ae (fun _ _=>rfl)) ap (aw _)) (eK (cj (bh hr.units) (aX (ai aB (aa 0) (aa 3) (fun _ _=>rfl)) bT (aV ae)) (aX (ai aB (aa 0) (aa 2) (fun _ _=>rfl)) bT (aV ae)) (aw _)) (gh (aD C__law_clear (hr.mono (by decide)) rfl (ab (aa 0) (ab (aa 2) (ab (aa 3) af))))))))) aE) (ah (ba 4 sc__law_fit.nd (ai aB (aa 1) ae (fun _ _=>rfl))) (ah (aM (WV.tv (d5 (az (ki hr.units) (ai aB (ai aB (aa 0) (aa 2) (fun _ _=>rfl)) ae (fun _ _=>rfl)) ap (aw _)) (d5 (az (ki hr.units) (ai aB (aa 0) (aa 2) (fun _ _=>rfl)) (ai aB (aa 0) (aa 4) (fun _ _=>rfl)) (aw _)) (eE (az (bh hr.units) (aD C__law_swung (hr.mono (by decide)) rfl (ab (ai aB (aa 0) (aa 3) (fun _ _=>rfl)) (ab (ai aB (ai aB (aa 0) (aa 2) (fun _ _=>rfl)) ae (fun _ _=>rfl)) af))) (bQ af) (aw _)))))) (ak (aA df)) aE) (ah (eG PassesOwn.never rfl (eW rfl T.range (ab (aN bY (aa 2) ae) (ab (aa 4) af))) (bU 5 sc__law_fit.nd) (ak (aM (WV.tv (cD (az (ki hr.units) (aa 5) (aa 3) (aw _)) (cg (az kQ (ai aB (ai aB (aa 0) (aa 2) (fun _ _=>rfl)) ae (fun _ _=>rfl)) (jD (vars:=["pair"]) (caps:=[]) (by change BlkOk (ar e9).names i5 _ _ _; exact ⟨rfl,by decide +kernel,by decide +kernel,by decide +kernel,by decide +kernel⟩) rfl (dJ (aD C__law_kinds (hr.mono (by decide)) rfl (ab (ai aB (aa 0) (aa 5) (fun _ _=>rfl)) af))) eF (fun _ _ _ _=>cu (i:=0) (show (["pair"]:List Str).Nodup by decide +kernel) rfl (Or.inl rfl) (.inr rfl)) (fun _ _ _ _=>(ai aB (aa 0) ae (fun _ _=>rfl)))) (by with_unfolding_all rfl))))) (ak (aA df)) aE))) (ak (aA df))))))))
theorem sc__law_steps:FnScope eU ["rows"] (ar cP):=⟨rfl,rfl,rfl,by decide +kernel,rfl,by decide +kernel,by decide +kernel⟩
theorem mV {f:Addr} {fd:FuncData} {dV:Value} (F:FunV K "_law_steps" "_law_steps" cP f fd dV) (T:Txt mg) (C__law_fit:Cal P w K mg base "_law_fit" 12 bn []):FnOk P w K mg base d0 13 f fd ["rows"] (fE K bH):=
 cG (k:=12) (b:=gR) F sc__law_steps fun cdv A outer s H E hr=>(ah (lI 1 sc__law_steps.nd af) (ah (ba 2 sc__law_steps.nd (bm dS rfl T.len (by decide +kernel) (ab (aa 0) af))) (ah (eG PassesOwn.never rfl (im rfl T.range (ab (aa 2) af)) (bU 3 sc__law_steps.nd) (ak (eG PassesOwn.never rfl (eW rfl T.range (ab (aN bY (aa 3) ae) (ab (aa 2) af))) (bU 4 sc__law_steps.nd) (ah (j0 1 (aG (ab ap (ab (aa 3) (ab (aa 4) af))))) (ah (j0 1 (aG (ab ap (ab (aa 3) (ab (aa 4) af))))) (ak (aM (az (bh hr.units) (ai aB (ai aB (aa 0) (aa 3) (fun _ _=>rfl)) ae (fun _ _=>rfl)) ap (aw _)) (ak (oj 1 (jD (vars:=["t"]) (caps:=[(3,"p"),(4,"q")]) (by change BlkOk (ar cP).names eU _ _ _; exact ⟨rfl,by decide +kernel,by decide +kernel,by decide +kernel,by decide +kernel⟩) rfl (eW rfl T.range (ab (aN bY (aa 4) ae) (ab (aa 2) af))) eF (fun _ _ _ _=>cu (i:=0) (show (["t","p","q"]:List Str).Nodup by decide +kernel) rfl (Or.inl rfl) (.inr rfl)) (fun _ _ _ _=>(aG (ab ap (ab (aa 1) (ab (aa 2) (ab (aa 0) af))))))))) aE))))))) (ak (nr 1 (aA (li rfl T.sorted (h7 (vars:=["step"]) (caps:=[(0,"rows")]) (by change BlkOk (ar cP).names eU _ _ _; exact ⟨rfl,by decide +kernel,by decide +kernel,by decide +kernel,by decide +kernel⟩) rfl (dJ (aa 1)) eF (fun _ _ _ _=>cu (i:=0) (show (["step","rows"]:List Str).Nodup by decide +kernel) rfl (Or.inl rfl) (.inr rfl)) (fun _ _ _ _=>(cE (aD C__law_fit (hr.mono (by decide)) rfl (ab (aa 1) (ab (aa 0) af))))) (fun _ _ _ _=>(aa 0))))))))))
theorem sc__law_slid:FnScope kL ["circuit","step"] (ar fN):=⟨rfl,rfl,rfl,by decide +kernel,rfl,by decide +kernel,by decide +kernel⟩
theorem oO {f:Addr} {fd:FuncData} {dV:Value} (F:FunV K "_law_slid" "_law_slid" fN f fd dV) (T:Txt mg) (C__law_swung:Cal P w K mg base "_law_swung" 9 bW []):FnOk P w K mg base d0 10 f fd ["circuit","step"] (fE K bC):=
 cG (k:=9) (b:=eB) F sc__law_slid fun cdv A outer s H E hr=>(ah (ba 2 sc__law_slid.nd (eX CU rfl T.list (by decide +kernel) (ab (ai aB (aa 0) ae (fun _ _=>rfl)) af))) (ah (vK (aX (aa 1) (aV ae) (aV ae)) (o4 rfl (ez (bU 3 sc__law_slid.nd) (ez (bU 4 sc__law_slid.nd) ld)))) (ah (aM (az (bh hr.units) (ai aB (aa 1) ae (fun _ _=>rfl)) ap (aw _)) (ak (ba 2 sc__law_slid.nd (aN bY (aN bY (aX (aa 2) bT (aV (aa 3))) (aX (aa 2) (aV (aN bY (aa 3) ae)) (aV (aa 4)))) (aX (aa 2) (aV (aN bY (aa 4) ae)) bT)))) (ak (aM (az (bh hr.units) (ai aB (aa 1) ae (fun _ _=>rfl)) ap (aw _)) (ah (ba 5 sc__law_slid.nd (aN dg (aN bY (ai aB (ai aB (aa 2) (aa 3) (fun _ _=>rfl)) ae (fun _ _=>rfl)) (ai aB (ai aB (aa 2) (aa 4) (fun _ _=>rfl)) ae (fun _ _=>rfl))) ae)) (ak (ba 2 sc__law_slid.nd (aN bY (aN bY (aN bY (aX (aa 2) bT (aV (aa 3))) (aX (aa 2) (aV (aN bY (aa 3) ae)) (aV (aa 4)))) (aX (bQ (ab (aG (ab ap (ab (ai aB (ai aB (aa 2) (aa 4) (fun _ _=>rfl)) ae (fun _ _=>rfl)) (ab (aa 5) af)))) af)) bT (aV (aa 5)))) (aX (aa 2) (aV (aN bY (aa 4) ae)) bT))))) (ah (ba 6 sc__law_slid.nd (ai aB (aa 1) ae (fun _ _=>rfl))) (ak (ba 2 sc__law_slid.nd (aN bY (aN bY (aN bY (aN bY (aX (aa 2) bT (aV (aa 3))) (aX (aa 2) (aV (aN bY (aa 3) ae)) (aV (aa 4)))) (aD C__law_swung (hr.mono (by decide)) rfl (ab (ai aB (aa 2) (aa 4) (fun _ _=>rfl)) (ab (ai aB (ai aB (aa 2) (aa 3) (fun _ _=>rfl)) ae (fun _ _=>rfl)) af)))) (aX (aa 2) (aV (aN bY (aa 4) ae)) (aV (aa 6)))) (aX (aa 2) (aV (aN bY (aa 6) ae)) bT)))))))) (ak (aA (aG (ab (ai aB (aa 0) ae (fun _ _=>rfl)) (ab (eX pf rfl T.tuple (by decide +kernel) (ab (aa 2) af)) af))))))))
theorem sc__law_good_step:FnScope gB ["step","rows"] (ar cQ):=⟨rfl,rfl,rfl,by decide +kernel,rfl,by decide +kernel,by decide +kernel⟩
theorem jp {f:Addr} {fd:FuncData} {dV:Value} (F:FunV K "_law_good_step" "_law_good_step" cQ f fd dV) (T:Txt mg) (C__law_fit:Cal P w K mg base "_law_fit" 12 bn []):FnOk P w K mg base d0 13 f fd ["step","rows"] (fE K bw):=
 cG (k:=12) (b:=dY) F sc__law_good_step fun cdv A outer s H E hr=>(ah (aM (WV.tv (d5 (fZ (cE (fo (T:="tuple") rfl T.isinstance rfl T.tuple (by decide +kernel) (by decide) (by decide) (aa 0)))) (d5 (az o9 (bm dS rfl T.len (by decide +kernel) (ab (aa 0) af)) ae (aw _)) (eE (az Ay (ai aB (aa 0) ae (fun _ _=>rfl)) (bQ (ab ap (ab ap (ab ap af)))) (by with_unfolding_all rfl)))))) (ak (aA df)) aE) (ah (aM (az (ki hr.units) (bm dS rfl T.len (by decide +kernel) (ab (aa 0) af)) (aN bY ae (eX Bl rfl T.int (by decide +kernel) (ab (cj (bh hr.units) (ai aB (aa 0) ae (fun _ _=>rfl)) ap (aw _)) af))) (aw _)) (ak (aA df)) aE) (ah (ba 2 sc__law_good_step.nd (Fj Fw ae)) (ah (eG PassesOwn.never rfl (dJ (aX (aa 0) (aV ae) bT)) (bU 3 sc__law_good_step.nd) (ah (aM (WV.tv (d5 (fZ (cE (fo (T:="int") rfl T.isinstance rfl T.int (by decide +kernel) (by decide) (by decide) (aa 3)))) (d5 (cE (fo (T:="bool") rfl T.isinstance rfl T.bool (by decide +kernel) (by decide) (by decide) (aa 3))) (d5 (az HN (aa 3) (aa 2) (aw _)) (eE (az Fx (aa 3) (bm dS rfl T.len (by decide +kernel) (ab (aa 1) af)) (aw _))))))) (ak (aA df)) aE) (ak (ba 2 sc__law_good_step.nd (aa 3))))) (ak (aA (aD C__law_fit (hr.mono (by decide)) rfl (ab (aa 1) (ab (aa 0) af)))))))))
theorem sc__law_end:FnScope mN ["found","circuit"] (ar gG):=⟨rfl,rfl,rfl,by decide +kernel,rfl,by decide +kernel,by decide +kernel⟩
theorem qj {f:Addr} {fd:FuncData} {dV:Value} (F:FunV K "_law_end" "_law_end" gG f fd dV) (T:Txt mg) (C__law_slid:Cal P w K mg base "_law_slid" 10 bC []) (C__law_good_step:Cal P w K mg base "_law_good_step" 13 bw []) (C__law_same:Cal P w K mg base "_law_same" 9 cm []) (C__law_steps:Cal P w K mg base "_law_steps" 13 bH []):FnOk P w K mg base d0 14 f fd ["found","circuit"] (fE K cM):=
 cG (k:=13) (b:=i3) F sc__law_end fun cdv A outer s H E hr=>(ah (aM (WV.tv (d5 (fZ (cE (fo (T:="tuple") rfl T.isinstance rfl T.tuple (by decide +kernel) (by decide) (by decide) (aa 0)))) (d5 (az (ki hr.units) (bm dS rfl T.len (by decide +kernel) (ab (aa 0) af)) ae (aw _)) (eE (fZ (cE (fo (T:="list") rfl T.isinstance rfl T.list (by decide +kernel) (by decide) (by decide) (ai aB (aa 0) ae (fun _ _=>rfl))))))))) (ak (aA cU)) aE) (ah (ba 2 sc__law_end.nd (aa 1)) (ah (eG PassesOwn.never rfl (dJ (ai aB (aa 0) ae (fun _ _=>rfl))) (bU 3 sc__law_end.nd) (ah (aM (fZ (cE (aD C__law_good_step (hr.mono (by decide)) rfl (ab (aa 3) (ab (ai aB (aa 2) ae (fun _ _=>rfl)) af))))) (ak (aA cU)) aE) (ah (ba 4 sc__law_end.nd (bm dS rfl T.len (by decide +kernel) (ab (ai aB (aa 2) ae (fun _ _=>rfl)) af))) (ah (ba 2 sc__law_end.nd (aD C__law_slid (hr.mono (by decide)) rfl (ab (aa 2) (ab (aa 3) af)))) (ak (aM (az Fx (bm dS rfl T.len (by decide +kernel) (ab (ai aB (aa 2) ae (fun _ _=>rfl)) af)) (aa 4) (aw _)) (ak (aA cU)) aE)))))) (ah (aM (WV.tv (d5 (fZ (cE (aD C__law_same (hr.mono (by decide)) rfl (ab (ai aB (aa 0) ae (fun _ _=>rfl)) (ab (aa 2) af))))) (eE (az (ki hr.units) (aD C__law_steps (hr.mono (by decide)) rfl (ab (ai aB (aa 2) ae (fun _ _=>rfl)) af)) (bQ af) (aw _))))) (ak (aA cU)) aE) (ak (aA (aa 2)))))))
theorem sc_law:FnScope Bn ["script"] (ar jk):=⟨rfl,rfl,rfl,by decide +kernel,rfl,by decide +kernel,by decide +kernel⟩
theorem BX {f:Addr} {fd:FuncData} {dV:Value} (F:FunV K "law" "law" jk f fd dV) (T:Txt mg) (C__law_often:Cal P w K mg base "_law_often" 3 cy []) (C_shortened:Cal P w K mg base "shortened" 15 bX []) (C__law_end:Cal P w K mg base "_law_end" 14 cM []) (C__law_same:Cal P w K mg base "_law_same" 9 cm []) (C__law_cell:Cal P w K mg base "_law_cell" 1 cn []) (L_K:NoL K):FnOk P w K mg base d0 16 f fd ["script"] (FS K qN):=
 HC (k:=15) (b:=xN) F sc_law fun cdv A outer s H E hr=>(xO (ba 1 sc_law.nd (aD C__law_often (hr.mono (by decide)) rfl (ab (aX (aa 0) (aV ae) (aV ae)) (ab (aN bY ae (aN dg (aD C__law_cell (hr.mono (by decide)) rfl (ab (aa 0) (ab ae af))) ae)) af)))) (CV PassesOwn.never rfl (sr rfl T.range (ab ae af)) (bU 2 sc_law.nd) (ph (ba 3 sc_law.nd (aD C_shortened (hr.mono (by decide)) rfl (ab (aG (ab (ai aB (aa 1) ae (fun _ _=>rfl)) (ab (ai aB (aa 1) ae (fun _ _=>rfl)) af))) af))) (ph (ba 4 sc_law.nd (aD C__law_end (hr.mono (by decide)) rfl (ab (aa 3) (ab (aa 1) af)))) (ph (aM (az HQ (aa 4) cU (aw _)) (ak (aA df)) aE) (AH 3 L_K (aG (ab ap (ab ae (ab ae af)))) (Bm aE))))) (Bm (ah (ba 5 sc_law.nd (aD C_shortened (hr.mono (by decide)) rfl (ab (aa 4) af))) (ak (aA (eK (cj (bh hr.units) (ai aB (aa 5) ae (fun _ _=>rfl)) (bQ af) (aw _)) (gh (aD C__law_same (hr.mono (by decide)) rfl (ab (ai aB (aa 5) ae (fun _ _=>rfl)) (ab (aa 4) af)))))))))))
end
theorem rh:aW "wires_of" gD ["row"]:=fun _ _ _ _ _ _ us hl=>by obtain ⟨_,rfl⟩:=sh hl; exact rfl
theorem pj:aW "undone_by" fG ["one","other"]:=fun _ _ _ _ _ _ us hl=>by obtain ⟨_,_,rfl⟩:=gb hl; exact rfl
theorem ri:aW "asks_for" gE ["row","look","mark"]:=fun _ _ _ _ _ _ us hl=>by obtain ⟨_,_,_,rfl⟩:=uW hl; exact rfl
theorem xM:aW "flips" kX ["row","wire"]:=fun _ _ _ _ _ _ us hl=>by obtain ⟨_,_,rfl⟩:=gb hl; exact rfl
theorem m8:aW "both_alike" eN ["one","other","wire"]:=fun _ _ _ _ _ _ us hl=>by obtain ⟨_,_,_,rfl⟩:=uW hl; exact rfl
theorem px:aW "inner_row" fK ["row"]:=fun _ _ _ _ _ _ us hl=>by obtain ⟨_,rfl⟩:=sh hl; exact rfl
theorem kn:aW "steps_for_two" dh ["rows","p"]:=fun _ _ _ _ _ _ us hl=>by obtain ⟨_,_,rfl⟩:=gb hl; exact rfl
theorem pq:aW "swung_row" fH ["row","wire"]:=fun _ _ _ _ _ _ us hl=>by obtain ⟨_,_,rfl⟩:=gb hl; exact rfl
theorem i0:aW "steps_for_three" b9 ["rows","p"]:=fun _ _ _ _ _ _ us hl=>by obtain ⟨_,_,rfl⟩:=gb hl; exact rfl
theorem jM:aW "slides_of" fI ["circuit"]:=fun _ _ _ _ _ _ us hl=>by obtain ⟨_,rfl⟩:=sh hl; exact rfl
theorem vk:aW "joined" jl ["one","other"]:=fun _ _ _ _ _ _ us hl=>by obtain ⟨_,_,rfl⟩:=gb hl; exact rfl
theorem m7:aW "changed_by" eM ["rows","step"]:=fun _ _ _ _ _ _ us hl=>by obtain ⟨_,_,rfl⟩:=gb hl; exact rfl
theorem AJ:aW "slid" j1 ["circuit","step"]:=fun _ _ _ _ _ _ us hl=>by obtain ⟨_,_,rfl⟩:=gb hl; exact rfl
theorem vj:aW "led_on" jj ["thing","steps_for","behind_step"]:=fun _ _ _ _ _ _ us hl=>by obtain ⟨_,_,_,rfl⟩:=uW hl; exact rfl
theorem pv:aW "shortened" fJ ["circuit"]:=fun _ _ _ _ _ _ us hl=>by obtain ⟨_,rfl⟩:=sh hl; exact rfl
theorem pE:aW "_law_cell" fQ ["script","k"]:=fun _ _ _ _ _ _ us hl=>by obtain ⟨_,_,rfl⟩:=gb hl; exact rfl
theorem pA:aW "_law_turn" fM ["cell","prime"]:=fun _ _ _ _ _ _ us hl=>by obtain ⟨_,_,rfl⟩:=gb hl; exact rfl
theorem rj:aW "_law_row" gF ["cell","wires","looks","plain"]:=fun _ _ _ _ _ _ us hl=>by obtain ⟨_,_,_,_,rfl⟩:=Hg hl; exact rfl
theorem pC:aW "_law_same" fO ["found","due"]:=fun _ _ _ _ _ _ us hl=>by obtain ⟨_,_,rfl⟩:=gb hl; exact rfl
theorem ng:aW "_law_often" eO ["cells","wires"]:=fun _ _ _ _ _ _ us hl=>by obtain ⟨_,_,rfl⟩:=gb hl; exact rfl
theorem nh:aW "_law_kinds" dE ["row"]:=fun _ _ _ _ _ _ us hl=>by obtain ⟨_,rfl⟩:=sh hl; exact rfl
theorem pD:aW "_law_lets" fP ["one","other","mark"]:=fun _ _ _ _ _ _ us hl=>by obtain ⟨_,_,_,rfl⟩:=uW hl; exact rfl
theorem iy:aW "_law_marks_ahead" b5 ["rows","place"]:=fun _ _ _ _ _ _ us hl=>by obtain ⟨_,_,rfl⟩:=gb hl; exact rfl
theorem ni:aW "_law_clear" eP ["rows","p","q"]:=fun _ _ _ _ _ _ us hl=>by obtain ⟨_,_,_,rfl⟩:=uW hl; exact rfl
theorem pz:aW "_law_undo" fL ["one","other"]:=fun _ _ _ _ _ _ us hl=>by obtain ⟨_,_,rfl⟩:=gb hl; exact rfl
theorem m9:aW "_law_swung" cO ["row","wire"]:=fun _ _ _ _ _ _ us hl=>by obtain ⟨_,_,rfl⟩:=gb hl; exact rfl
theorem rm:aW "_law_fit" e9 ["rows","step"]:=fun _ _ _ _ _ _ us hl=>by obtain ⟨_,_,rfl⟩:=gb hl; exact rfl
theorem nc:aW "_law_steps" cP ["rows"]:=fun _ _ _ _ _ _ us hl=>by obtain ⟨_,rfl⟩:=sh hl; exact rfl
theorem pB:aW "_law_slid" fN ["circuit","step"]:=fun _ _ _ _ _ _ us hl=>by obtain ⟨_,_,rfl⟩:=gb hl; exact rfl
theorem jN:aW "_law_good_step" cQ ["step","rows"]:=fun _ _ _ _ _ _ us hl=>by obtain ⟨_,_,rfl⟩:=gb hl; exact rfl
theorem rn:aW "_law_end" gG ["found","circuit"]:=fun _ _ _ _ _ _ us hl=>by obtain ⟨_,_,rfl⟩:=gb hl; exact rfl
theorem CZ {l:PySem.W.OpenLaw} {w:World} {K:PySem.W.Frag} {h:Heap} {mg:Str->Option Value} {fa f6 f32 t6:Addr} {od6 an6 od32 an32 td6:Option Addr} {sl6 sl32 ts6:Array (Option Value)} {oc6 kV6 dc6 pm6 cd6 ct6 oc32 kV32 dc32 pm32 cd32 ct32 tc6:Value} {tn6:Nat} (X:K.In h) (G:h.Ns mainGlobals mg) (hfa:mg "law" = some (.ref fa))
  (D0:DefIn K "wires_of" "wires_of" gD)
  (D1:DefIn K "undone_by" "undone_by" fG)
  (D2:DefIn K "asks_for" "asks_for" gE)
  (D3:DefIn K "flips" "flips" kX)
  (D4:DefIn K "both_alike" "both_alike" eN)
  (D5:DefIn K "inner_row" "inner_row" fK)
  (a6:PySem.W.nsIn K mainGlobals "lets_by" = some (some (.ref f6))) (l6:K.lookup f6=some ⟨oc6,od6,.func (PySem.W.fnOf "lets_by" "lets_by" (di dw) (cz dw) (ar dw) (.ref t6) kV6 dc6 pm6 an6 cd6 ct6),sl6⟩) (c6:PySem.W.codeIn K cd6 "lets_by" = true) (k6:PySem.W.keepIn K (.ref f6)=true)
  (d6:K.lookup t6=some ⟨tc6,td6,.seq #[.none] tn6,ts6⟩)
  (D7:DefIn K "steps_for_two" "steps_for_two" dh)
  (D8:DefIn K "swung_row" "swung_row" fH)
  (D9:DefIn K "steps_for_three" "steps_for_three" b9)
  (D10:DefIn K "slides_of" "slides_of" fI)
  (D11:DefIn K "joined" "joined" jl)
  (D12:DefIn K "changed_by" "changed_by" eM)
  (D13:DefIn K "slid" "slid" j1)
  (D14:DefIn K "led_on" "led_on" jj)
  (D15:DefIn K "shortened" "shortened" fJ)
  (D16:DefIn K "_law_cell" "_law_cell" fQ)
  (D17:DefIn K "_law_turn" "_law_turn" fM)
  (D18:DefIn K "_law_row" "_law_row" gF)
  (D19:DefIn K "_law_same" "_law_same" fO)
  (D20:DefIn K "_law_often" "_law_often" eO)
  (D21:DefIn K "_law_kinds" "_law_kinds" dE)
  (D22:DefIn K "_law_lets" "_law_lets" fP)
  (D23:DefIn K "_law_marks_ahead" "_law_marks_ahead" b5)
  (D24:DefIn K "_law_clear" "_law_clear" eP)
  (D25:DefIn K "_law_undo" "_law_undo" fL)
  (D26:DefIn K "_law_swung" "_law_swung" cO)
  (D27:DefIn K "_law_fit" "_law_fit" e9)
  (D28:DefIn K "_law_steps" "_law_steps" cP)
  (D29:DefIn K "_law_slid" "_law_slid" fN)
  (D30:DefIn K "_law_good_step" "_law_good_step" cQ)
  (D31:DefIn K "_law_end" "_law_end" gG)
  (a32:PySem.W.nsIn K mainGlobals "law" = some (some (.ref f32))) (l32:K.lookup f32=some ⟨oc32,od32,.func (PySem.W.fnOf "law" "law" (di jk) (cz jk) (ar jk) .none kV32 dc32 pm32 an32 cd32 ct32),sl32⟩) (c32:PySem.W.codeIn K cd32 "law" = true) (k32:PySem.W.keepIn K (.ref f32)=true)
  (z_min:PySem.W.nsIn K mainGlobals "min" = some none)
  (z_max:PySem.W.nsIn K mainGlobals "max" = some none)
  (z_all:PySem.W.nsIn K mainGlobals "all" = some none)
  (z_range:PySem.W.nsIn K mainGlobals "range" = some none)
  (z_len:PySem.W.nsIn K mainGlobals "len" = some none)
  (z_sorted:PySem.W.nsIn K mainGlobals "sorted" = some none)
  (z_tuple:PySem.W.nsIn K mainGlobals "tuple" = some none)
  (z_isinstance:PySem.W.nsIn K mainGlobals "isinstance" = some none)
  (z_str:PySem.W.nsIn K mainGlobals "str" = some none)
  (z_int:PySem.W.nsIn K mainGlobals "int" = some none)
  (z_bool:PySem.W.nsIn K mainGlobals "bool" = some none)
  (z_list:PySem.W.nsIn K mainGlobals "list" = some none)
  (xl:(List.all K fun p=>!Fy p.2.cls)=true)
   :∃ fd:FuncData,(∀ (s:Shared) (v:Value),BindsTo s fd ⟨[v],[]⟩ [("script",v)])/\∀ base:Heap,K.In base->base.Ns mainGlobals mg->FnOk l.prog w K mg base d0 16 fa fd ["script"] (sX K):=by
 have e:=hfa.symm.trans (PySem.W.mg_of X G a32)
 cases e
 have T:Txt mg:=⟨PySem.W.mg_none_of X G z_min,PySem.W.mg_none_of X G z_max,PySem.W.mg_none_of X G z_all,PySem.W.mg_none_of X G z_range,PySem.W.mg_none_of X G z_len,PySem.W.mg_none_of X G z_sorted,PySem.W.mg_none_of X G z_tuple,PySem.W.mg_none_of X G z_isinstance,PySem.W.mg_none_of X G z_str,PySem.W.mg_none_of X G z_int,PySem.W.mg_none_of X G z_bool,PySem.W.mg_none_of X G z_list⟩
 have F6:=o5 (st:=dw) l6 c6 k6
 have F32:=o5 (st:=jk) l32 c32 k32
 have N_slides_of:Fnm K mg "slides_of":=D10.fnm X G
 have N_slid:Fnm K mg "slid":=D13.fnm X G
 have L_K:NoL K:=NoL.of xl
 refine ⟨PySem.W.fnOf "law" "law" (di jk) (cz jk) (ar jk) .none kV32 dc32 pm32 an32 cd32 ct32,fun s v=>.of_eq rfl,fun base _ _=>?_⟩
 have C_wires_of:Cal l.prog w K mg base "wires_of" 9 bf []:=D0.calR X G rh fun _ _ F m k b=>jn F T m k b 8
 have C_undone_by:Cal l.prog w K mg base "undone_by" 10 bJ []:=D1.cal X G pj fun _ _ F=>oH F T C_wires_of
 have C_asks_for:Cal l.prog w K mg base "asks_for" 1 bP []:=D2.cal X G ri fun _ _ F=>qg F T
 have C_flips:Cal l.prog w K mg base "flips" 1 cb []:=D3.cal X G xM fun _ _ F=>wu F T
 have C_both_alike:Cal l.prog w K mg base "both_alike" 2 bV []:=D4.cal X G m8 fun _ _ F=>mU F T C_flips
 have C_inner_row:Cal l.prog w K mg base "inner_row" 1 bB []:=D5.cal X G px fun _ _ F=>oK F T
 have O6:FnOk l.prog w K mg base d0 10 _ _ _ (fE K cC):=rY F6 T C_asks_for C_wires_of C_both_alike C_inner_row
 have C_lets_by1:Cal l.prog w K mg base "lets_by" 10 cC [.none]:=⟨⟨_,_,_,[.none],[.non],O6,PySem.W.mg_of X G a6,k6,F6.bindsK d6 rfl (ps:=["one","other","mark"]) 2 rfl (fun _ _ _ _ _ _ us hl=>by obtain ⟨_,_,rfl⟩:=gb hl; exact rfl),.cons (by first | exact ⟨_,rfl⟩ | rfl) (.nil),fun _=>.cons (by constructor) (.nil)⟩⟩
 have C_steps_for_two:Cal l.prog w K mg base "steps_for_two" 11 bp []:=D7.cal X G kn fun _ _ F=>j4 F T C_undone_by C_lets_by1
 have C_swung_row:Cal l.prog w K mg base "swung_row" 9 ck []:=D8.calR X G pq fun _ _ F m k b=>iF F T m k b 8
 have C_steps_for_three:Cal l.prog w K mg base "steps_for_three" 10 aJ []:=D9.cal X G i0 fun _ _ F=>iV F T C_swung_row C_wires_of
 have V_slides_of:CalF l.prog w K mg base "slides_of" 12 bc:=D10.calF X G jM fun _ _ F=>jo F T C_steps_for_two C_steps_for_three
 have C_slides_of:Cal l.prog w K mg base "slides_of" 12 bc []:=D10.cal X G jM fun _ _ F=>jo F T C_steps_for_two C_steps_for_three
 have C_joined:Cal l.prog w K mg base "joined" 1 dM []:=D11.cal X G vk fun _ _ F=>uN F T
 have C_changed_by:Cal l.prog w K mg base "changed_by" 10 bq []:=D12.cal X G m7 fun _ _ F=>mT F T C_swung_row C_joined
 have V_slid:CalF l.prog w K mg base "slid" 13 gM:=D13.calF X G AJ fun _ _ F=>zv F T C_changed_by C_slides_of
 have C_led_on:Cal l.prog w K mg base "led_on" 14 gy []:=D14.cal X G vj fun _ _ F=>uM F T V_slides_of V_slid
 have C_shortened:Cal l.prog w K mg base "shortened" 15 bX []:=D15.cal X G pv fun _ _ F=>oJ F T C_led_on N_slid N_slides_of
 have C__law_cell:Cal l.prog w K mg base "_law_cell" 1 cn []:=D16.cal X G pE fun _ _ F=>oR F T
 have C__law_turn:Cal l.prog w K mg base "_law_turn" 1 bt []:=D17.cal X G pA fun _ _ F=>oN F T
 have C__law_row:Cal l.prog w K mg base "_law_row" 2 aR []:=D18.cal X G rj fun _ _ F=>qh F T C__law_turn
 have C__law_same:Cal l.prog w K mg base "_law_same" 9 cm []:=D19.calR X G pC fun _ _ F m k b=>iG F T m k b 8
 have C__law_often:Cal l.prog w K mg base "_law_often" 3 cy []:=D20.cal X G ng fun _ _ F=>mW F T C__law_row C__law_turn
 have C__law_kinds:Cal l.prog w K mg base "_law_kinds" 9 bA []:=D21.calR X G nh fun _ _ F m k b=>hG F T m k b 8
 have C__law_lets:Cal l.prog w K mg base "_law_lets" 10 bu []:=D22.cal X G pD fun _ _ F=>oQ F T C__law_kinds
 have C__law_marks_ahead:Cal l.prog w K mg base "_law_marks_ahead" 1 bg []:=D23.cal X G iy fun _ _ F=>iu F T
 have C__law_clear:Cal l.prog w K mg base "_law_clear" 11 bI []:=D24.cal X G ni fun _ _ F=>mX F T C__law_lets C__law_marks_ahead
 have C__law_undo:Cal l.prog w K mg base "_law_undo" 1 bK []:=D25.cal X G pz fun _ _ F=>oM F T
 have C__law_swung:Cal l.prog w K mg base "_law_swung" 9 bW []:=D26.calR X G m9 fun _ _ F m k b=>hE F T m k b 8
 have C__law_fit:Cal l.prog w K mg base "_law_fit" 12 bn []:=D27.cal X G rm fun _ _ F=>qi F T C__law_undo C__law_clear C__law_swung C__law_kinds
 have C__law_steps:Cal l.prog w K mg base "_law_steps" 13 bH []:=D28.cal X G nc fun _ _ F=>mV F T C__law_fit
 have C__law_slid:Cal l.prog w K mg base "_law_slid" 10 bC []:=D29.cal X G pB fun _ _ F=>oO F T C__law_swung
 have C__law_good_step:Cal l.prog w K mg base "_law_good_step" 13 bw []:=D30.cal X G jN fun _ _ F=>jp F T C__law_fit
 have C__law_end:Cal l.prog w K mg base "_law_end" 14 cM []:=D31.cal X G rn fun _ _ F=>qj F T C__law_slid C__law_good_step C__law_same C__law_steps
 have O32:FnOk l.prog w K mg base d0 16 _ _ _ (FS K qN):=BX F32 T C__law_often C_shortened C__law_end C__law_same C__law_cell L_K
 exact EG O32 fun ns hl=>law_true ns hl
end GN
open PySem PySem.W PyProof.Rows
set_option maxRecDepth 1000000 in
set_option maxHeartbeats 0 in
theorem PySem.Challenge.cw_wavewires_k64_shortened_walked_holds : PySem.Challenge.rw_wavewires_k64_shortened_walked.Holds := by
  refine topT ?_
  k_fill
  refine VL.Dt (k := 16) (l := PySem.Challenge.rw_wavewires_k64_shortened_walked) rfl ⟨rfl, by decide, by decide⟩ rfl (fun w h Y => PySem.W.kIn_of Y) ?F
  case F =>
    intro w mg fa h KX G hmg
    refine' GN.CZ KX G hmg (VL.DefIn.mk ?a0 ?l0 ?c0 ?k0) (VL.DefIn.mk ?a1 ?l1 ?c1 ?k1) (VL.DefIn.mk ?a2 ?l2 ?c2 ?k2) (VL.DefIn.mk ?a3 ?l3 ?c3 ?k3) (VL.DefIn.mk ?a4 ?l4 ?c4 ?k4) (VL.DefIn.mk ?a5 ?l5 ?c5 ?k5) ?a6 ?l6 ?c6 ?k6 ?d6 (VL.DefIn.mk ?a7 ?l7 ?c7 ?k7) (VL.DefIn.mk ?a8 ?l8 ?c8 ?k8) (VL.DefIn.mk ?a9 ?l9 ?c9 ?k9) (VL.DefIn.mk ?a10 ?l10 ?c10 ?k10) (VL.DefIn.mk ?a11 ?l11 ?c11 ?k11) (VL.DefIn.mk ?a12 ?l12 ?c12 ?k12) (VL.DefIn.mk ?a13 ?l13 ?c13 ?k13) (VL.DefIn.mk ?a14 ?l14 ?c14 ?k14) (VL.DefIn.mk ?a15 ?l15 ?c15 ?k15) (VL.DefIn.mk ?a16 ?l16 ?c16 ?k16) (VL.DefIn.mk ?a17 ?l17 ?c17 ?k17) (VL.DefIn.mk ?a18 ?l18 ?c18 ?k18) (VL.DefIn.mk ?a19 ?l19 ?c19 ?k19) (VL.DefIn.mk ?a20 ?l20 ?c20 ?k20) (VL.DefIn.mk ?a21 ?l21 ?c21 ?k21) (VL.DefIn.mk ?a22 ?l22 ?c22 ?k22) (VL.DefIn.mk ?a23 ?l23 ?c23 ?k23) (VL.DefIn.mk ?a24 ?l24 ?c24 ?k24) (VL.DefIn.mk ?a25 ?l25 ?c25 ?k25) (VL.DefIn.mk ?a26 ?l26 ?c26 ?k26) (VL.DefIn.mk ?a27 ?l27 ?c27 ?k27) (VL.DefIn.mk ?a28 ?l28 ?c28 ?k28) (VL.DefIn.mk ?a29 ?l29 ?c29 ?k29) (VL.DefIn.mk ?a30 ?l30 ?c30 ?k30) (VL.DefIn.mk ?a31 ?l31 ?c31 ?k31) ?a32 ?l32 ?c32 ?k32 ?z_min ?z_max ?z_all ?z_range ?z_len ?z_sorted ?z_tuple ?z_isinstance ?z_str ?z_int ?z_bool ?z_list ?xl
    (case a0 => k_is)
    (case l0 => k_is)
    (case c0 => k_is)
    (case k0 => k_is)
    (case a1 => k_is)
    (case l1 => k_is)
    (case c1 => k_is)
    (case k1 => k_is)
    (case a2 => k_is)
    (case l2 => k_is)
    (case c2 => k_is)
    (case k2 => k_is)
    (case a3 => k_is)
    (case l3 => k_is)
    (case c3 => k_is)
    (case k3 => k_is)
    (case a4 => k_is)
    (case l4 => k_is)
    (case c4 => k_is)
    (case k4 => k_is)
    (case a5 => k_is)
    (case l5 => k_is)
    (case c5 => k_is)
    (case k5 => k_is)
    (case a6 => k_is)
    (case l6 => k_is)
    (case c6 => k_is)
    (case k6 => k_is)
    (case d6 => k_is)
    (case a7 => k_is)
    (case l7 => k_is)
    (case c7 => k_is)
    (case k7 => k_is)
    (case a8 => k_is)
    (case l8 => k_is)
    (case c8 => k_is)
    (case k8 => k_is)
    (case a9 => k_is)
    (case l9 => k_is)
    (case c9 => k_is)
    (case k9 => k_is)
    (case a10 => k_is)
    (case l10 => k_is)
    (case c10 => k_is)
    (case k10 => k_is)
    (case a11 => k_is)
    (case l11 => k_is)
    (case c11 => k_is)
    (case k11 => k_is)
    (case a12 => k_is)
    (case l12 => k_is)
    (case c12 => k_is)
    (case k12 => k_is)
    (case a13 => k_is)
    (case l13 => k_is)
    (case c13 => k_is)
    (case k13 => k_is)
    (case a14 => k_is)
    (case l14 => k_is)
    (case c14 => k_is)
    (case k14 => k_is)
    (case a15 => k_is)
    (case l15 => k_is)
    (case c15 => k_is)
    (case k15 => k_is)
    (case a16 => k_is)
    (case l16 => k_is)
    (case c16 => k_is)
    (case k16 => k_is)
    (case a17 => k_is)
    (case l17 => k_is)
    (case c17 => k_is)
    (case k17 => k_is)
    (case a18 => k_is)
    (case l18 => k_is)
    (case c18 => k_is)
    (case k18 => k_is)
    (case a19 => k_is)
    (case l19 => k_is)
    (case c19 => k_is)
    (case k19 => k_is)
    (case a20 => k_is)
    (case l20 => k_is)
    (case c20 => k_is)
    (case k20 => k_is)
    (case a21 => k_is)
    (case l21 => k_is)
    (case c21 => k_is)
    (case k21 => k_is)
    (case a22 => k_is)
    (case l22 => k_is)
    (case c22 => k_is)
    (case k22 => k_is)
    (case a23 => k_is)
    (case l23 => k_is)
    (case c23 => k_is)
    (case k23 => k_is)
    (case a24 => k_is)
    (case l24 => k_is)
    (case c24 => k_is)
    (case k24 => k_is)
    (case a25 => k_is)
    (case l25 => k_is)
    (case c25 => k_is)
    (case k25 => k_is)
    (case a26 => k_is)
    (case l26 => k_is)
    (case c26 => k_is)
    (case k26 => k_is)
    (case a27 => k_is)
    (case l27 => k_is)
    (case c27 => k_is)
    (case k27 => k_is)
    (case a28 => k_is)
    (case l28 => k_is)
    (case c28 => k_is)
    (case k28 => k_is)
    (case a29 => k_is)
    (case l29 => k_is)
    (case c29 => k_is)
    (case k29 => k_is)
    (case a30 => k_is)
    (case l30 => k_is)
    (case c30 => k_is)
    (case k30 => k_is)
    (case a31 => k_is)
    (case l31 => k_is)
    (case c31 => k_is)
    (case k31 => k_is)
    (case a32 => k_is)
    (case l32 => k_is)
    (case c32 => k_is)
    (case k32 => k_is)
    (case z_min => k_is)
    (case z_max => k_is)
    (case z_all => k_is)
    (case z_range => k_is)
    (case z_len => k_is)
    (case z_sorted => k_is)
    (case z_tuple => k_is)
    (case z_isinstance => k_is)
    (case z_str => k_is)
    (case z_int => k_is)
    (case z_bool => k_is)
    (case z_list => k_is)
    (case xl => first | rfl | kernel_rfl | decide +kernel)

end