import PyProof.Rows.All
import Wide.All
import OpenK.AllK
import Wide.FinOn
import Lean
import PyProof.EqAt
import PyProof.EqKinds
import PyProof.TupleCall
import PySem.Challenge.RW_wavewires_k65_chains_judged
section TopS
set_option Elab.async false
set_option linter.all false
open PySem PySem.W PyProof.Rows
def viewQ : Program := view PySem.Challenge.rw_wavewires_k65_chains_judged.prog [1, 2, 4, 6, 7, 9, 10, 11, 12, 14, 15, 16, 17, 18, 19, 20, 21, 23, 24, 26, 27, 28, 29, 30, 31, 32, 33, 34, 35, 36, 37, 38, 39, 40, 41, 42, 43]
local macro_rules
  | `(tactic| o_head $H) => do
    let hw := Lean.mkIdent `hw
    let hc := Lean.mkIdent `hc
    `(tactic| refine holds_open (q := viewQ) (loose := ["lets_by"]) (Xt := fun s => xlAt viewQ [] s && recOk (RowW.records (OpenRow.toRowW PySem.Challenge.rw_wavewires_k65_chains_judged.row)) s) (XP := XL viewQ []) (Yf := Hook.obs $H) (Ya := Hook.val $H) (YP := Hook.says $H) (N := 6000) (fun w => by (unfold openEnds fencedOpening topFrom; rw [Fast.te10274390034422433532, Fast.te14082659384304107361, Fast.te1435165496053646825, Fast.te14289696077712309145, Fast.te14364793385576792824, Fast.te4187177175401517315, Fast.te5923862056798008813]; kernel_rfl)) (Hook.of $H) (Hook.keeps $H) (fun s e => xl_of s (Bool.and_eq_true_iff.mp e).1) XL.keeps (by rfl) (by rfl) (by rfl) (fun s e => recFacts_of (Bool.and_eq_true_iff.mp e).2) (by rfl) (by first | assumption | decide +kernel) (by decide +kernel) ⟨rfl, rfl, rfl, rfl, rfl, by decide +kernel⟩ ?$hw ?$hc)
set_option maxRecDepth 1000000 in
set_option maxHeartbeats 0 in
open_top topT for PySem.Challenge.rw_wavewires_k65_chains_judged
end TopS
noncomputable section
set_option Elab.async false
set_option linter.all false
set_option maxRecDepth 100000
namespace L2
open PySem PySem.Spec PyProof.Rows
abbrev bi:=Sum Int Str
noncomputable def oM:bi->Value->Bool
 | .inl k,v=>Value.isInt k v
 | .inr x,v=>Value.isStrOf x v
noncomputable def IS (w:World):bi->Int
 | .inl k=>hashInt k
 | .inr x=>hashStr w x
theorem cu:∀ {k:bi} {v:Value},oM k v=true->(∃ i t,k=Sum.inl i/\v=Value.int i t)\/(∃ x t,k=Sum.inr x/\v=Value.str x t)
 | .inl i,v,h=>by
  obtain ⟨t,e⟩:=Value.isInt_shape (k:=i) (v:=v) h
  exact .inl ⟨i,t,rfl,e⟩
 | .inr x,v,h=>by
  obtain ⟨t,e⟩:=Value.isStrOf_shape (x:=x) (v:=v) h
  exact .inr ⟨x,t,rfl,e⟩
theorem ww (i:Int) (t:Tok):oM (.inl i) (.int i t)=true:=by simp [oM,Value.isInt]
theorem wv (x:Str) (t:Tok):oM (.inr x) (.str x t)=true:=by simp [oM,Value.isStrOf]
theorem Dx (a b:Int):decide ((Sum.inl a:bi)=Sum.inl b)=(a==b):=by
 by_cases e:a=b
 ·subst e; simp
 ·have h:¬ (Sum.inl a:bi)=Sum.inl b:=fun q=>e (Sum.inl.inj q)
  rw [decide_eq_false h]
  exact (beq_eq_false_iff_ne.mpr e).symm
theorem Dt (a b:Str):decide ((Sum.inr a:bi)=Sum.inr b)=decide (a=b):=by
 by_cases e:a=b
 ·subst e; simp
 ·have h:¬ (Sum.inr a:bi)=Sum.inr b:=fun q=>e (Sum.inr.inj q)
  rw [decide_eq_false h,decide_eq_false e]
theorem Dw (a:Int) (b:Str):decide ((Sum.inl a:bi)=Sum.inr b)=false:=decide_eq_false (fun q=>nomatch q)
theorem Du (a:Str) (b:Int):decide ((Sum.inr a:bi)=Sum.inl b)=false:=decide_eq_false (fun q=>nomatch q)
noncomputable def cz (prog:Program) (w:World):PySem.KeyKind prog w bi where
 is:=oM
 hash:=IS w
 inj:=fun v a b ha hb=>by
  rcases cu ha with ⟨i,t,rfl,rfl⟩ | ⟨x,t,rfl,rfl⟩
  ·rcases cu hb with ⟨j,u,rfl,e⟩ | ⟨y,u,rfl,e⟩
   ·injection e with e1 _; rw [e1]
   ·exact nomatch e
  ·rcases cu hb with ⟨j,u,rfl,e⟩ | ⟨y,u,rfl,e⟩
   ·exact nomatch e
   ·injection e with e1 _; rw [e1]
 byValue:=fun k v h=>by
  rcases cu h with ⟨i,t,rfl,rfl⟩ | ⟨x,t,rfl,rfl⟩ <;> rfl
 pyHash:=fun hv h=>by
  rcases cu hv with ⟨i,t,rfl,rfl⟩ | ⟨x,t,rfl,rfl⟩
  ·exact wpAny_pyHash_int h
  ·exact wpAny_pyHash_str h
 eqBool:=fun hu hv h=>by
  rcases cu hu with ⟨i,t,rfl,rfl⟩ | ⟨x,t,rfl,rfl⟩
  ·rcases cu hv with ⟨j,u,rfl,rfl⟩ | ⟨y,u,rfl,rfl⟩
   ·rw [Dx] at h; exact wpAny_eqBool_int h
   ·rw [Dw] at h; exact SeqAt.EqAt.int_str i t y u _ _ _ _ h
  ·rcases cu hv with ⟨j,u,rfl,rfl⟩ | ⟨y,u,rfl,rfl⟩
   ·rw [Du] at h; exact SeqAt.EqAt.str_int x t j u _ _ _ _ h
   ·rw [Dt] at h; exact wpAny_eqBool_str h
 «strs»:=fun k x t v h=>by
  rcases cu h with ⟨i,u,rfl,e⟩ | ⟨y,u,rfl,e⟩
  ·exact nomatch e
  ·injection e with e1 _
   subst e1
   cases v <;> rfl
theorem rK (prog:Program) (w:World) (i:Int) (t:Tok):(cz prog w).is (.inl i) (.int i t)=true:=ww i t
theorem rJ (prog:Program) (w:World) (x:Str) (t:Tok):(cz prog w).is (.inr x) (.str x t)=true:=wv x t
end L2
namespace L2
open PySem PySem.Spec PyProof.Rows
inductive V where
 | non | bl (b:Bool) | int (i:Int) | str (x:Str) | byt (b:Array UInt8) | flt (b:UInt64) | ref (a:Addr) | ty (n:String)
 deriving DecidableEq
def RelV:V->Value->Prop
 | .non,u=>u=Value.none
 | .bl b,u=>u=Value.bool b
 | .int i,u=>∃ t,u=Value.int i t
 | .str x,u=>∃ t,u=Value.str x t
 | .byt b,u=>∃ t,u=Value.bytes b t
 | .flt b,u=>∃ t,u=Value.float b t
 | .ref a,u=>u=Value.ref a
 | .ty n,u=>u=Value.type n
abbrev Vals:List V->List Value->Prop:=Paired RelV
theorem Vals.length {xs:List V} {us:List Value} (r:Vals xs us):xs.length=us.length:=Paired.length r
theorem Vals.get:∀ {xs:List V} {us:List Value} {i:Nat} {x:V},Vals xs us->xs[i]? = some x->∃ u,us[i]? = some u/\RelV x u
 | _,_,_,_,.nil,e=>by simp at e
 | _,_,0,_,.cons r _,e=>by simp at e; subst e; exact ⟨_,rfl,r⟩
 | _,_,i+1,x,.cons _ t,e=>by
  obtain ⟨u,h1,h2⟩:=Vals.get (i:=i) (x:=x) t (by simpa using e)
  exact ⟨u,by simpa using h1,h2⟩
theorem Vals.append:∀ {xs ys:List V} {us ws:List Value},Vals xs us->Vals ys ws->Vals (xs++ys) (us++ws)
 | _,_,_,_,.nil,s=>s
 | _,_,_,_,.cons r t,s=>.cons r (Vals.append t s)
theorem Vals.take:∀ {xs:List V} {us:List Value} (n:Nat),Vals xs us->Vals (xs.take n) (us.take n)
 | _,_,0,_=>.nil
 | _,_,_+1,.nil=>.nil
 | _,_,n+1,.cons r t=>.cons r (Vals.take n t)
theorem Vals.drop:∀ {xs:List V} {us:List Value} (n:Nat),Vals xs us->Vals (xs.drop n) (us.drop n)
 | _,_,0,r=>r
 | _,_,_+1,.nil=>.nil
 | _,_,n+1,.cons _ t=>Vals.drop n t
def RelO:Option V->Option Value->Prop
 | some v,some u=>RelV v u
 | none,none=>True
 | _,_=>False
def KV {κ:Type}:List (κ × V)->List (κ × Value)->Prop:=Paired fun (p:κ × V) (q:κ × Value)=>p.1=q.1/\RelV p.2 q.2
noncomputable def kV:bi->V
 | .inl i=>.int i
 | .inr x=>.str x
inductive HO where
 | lst (xs:List V)
 | tup (xs:List V)
 | dK (kvs:List (bi×V)) | dT (kvs:List (List bi×V))
 | set (S:Int->Bool) (n:Nat)
 | ins (C dx:Addr) (fs:List (Str×V))
 | own (x:Addr)
 | xd (fs:List (Str×V))
 | met (f x:Addr)
 | rng (lo hi:Int)
 | frz (o:Obj) (u:HO)
 | tbl (ps:Array Value)
 | ext (φ:Heap->Prop)
abbrev Hp:=Addr->Option HO
noncomputable def upd (H:Hp) (a:Addr) (o:HO):Hp:=fun b=>if b=a then some o else H b
theorem aN {H:Hp} {a:Addr} {o:HO}:upd H a o a=some o:=by unfold upd; rw [if_pos rfl]
theorem aI {H:Hp} {a b:Addr} {o:HO} (h:b≠a):upd H a o b=H b:=by unfold upd; rw [if_neg h]
theorem bf {H:Hp} {a b:Addr} {o:HO} (h:H a=some o) (h':H b=none):a≠b:=by
 intro e; subst e; rw [h] at h'; cases h'
section
variable (P:Program) (w:World)
def NoDi (h:Heap) (a:Addr):Prop:=∃ o,h.get? a=some o/\o.dict=none
theorem NoDi.new (h:Heap) (o:Obj) (e:o.dict=none:=by rfl) (f:o.isFreed=false:=by rfl):NoDi (h.push o) h.objs.size:=⟨o,Heap.get?_push_size h f,e⟩
def ObjOk (H:Hp) (h:Heap) (a:Addr):HO->Prop
 | .lst xs=>xs.length<=sizeLine/\∃ (its:List Value) (n:Nat),Vals xs its/\h.get? a=some { cls:=.type "list",data:=.seq its.toArray n }
 | .tup xs=>xs.length<=sizeLine/\∃ its:List Value,Vals xs its/\IsTup h a its.toArray/\NoDi h a
 | .dK kvs=>kvs.length<=sizeLine/\(a==sysModules)=false/\∃ vs,KV kvs vs/\h.DictOf (cz P w) a vs
 | .dT kvs=>kvs.length<=sizeLine/\(a==sysModules)=false/\∃ xs:List (List bi×Addr×Value),
   Paired (fun (p:List bi×V) (q:List bi×Addr×Value)=>p.1=q.1/\H q.2.1=some (.tup (p.1.map kV))/\RelV p.2 q.2.2) kvs xs /\
   ∃ o es ep,h.get? a=some o/\o.ExactDict/\o.data=.dict es ep/\es.toList=xs.map (entryOfKey (tupleKind (cz P w)))/\(xs.map (·.1)).Nodup
 | .set S n=>h.SetOf (intKind P w) a S n
 | .ins C dx fs=>H dx=some (.own a)/\fs.length<=1000/\dx≠a/\h.get? a=some (PySem.W.instObj C dx) /\
   ∃ mA,h.Ns1 dx mA/\(∀ f,RelO (fs.lookup f) (mA f))/\PySem.Within mA (fs.map (·.1))
 | .own _=>∃ o,h.get? a=some o
 | .xd fs=>∃ mA,h.Ns1 a mA/\∀ f,RelO (fs.lookup f) (mA f)
 | .rng lo hi=>∃ t u v,h.get? a=some { cls:=.type "range",data:=.fields #[.int lo t,.int hi u,.int 1 v] }
 | .frz o u=>h.get? a=some o/\ObjOk H h a u
 | .tbl ps=>h.get? a=some { cls:=.none,data:=.fields ps }
 | .met f x=>h.get? a=some (PySem.W.methodObj (.ref f) (.ref x))
 | .ext φ=>φ h/\(∃ o,h.get? a=some o)/\∀ h1 h2:Heap,φ h1->(∀ o,h1.get? a=some o->h2.get? a=some o) -> φ h2
def HOk (H:Hp) (h:Heap):Prop:=∀ a o,H a=some o->ObjOk P w H h a o
end
section
variable {P:Program} {w:World} {H H':Hp} {h h':Heap} {a:Addr} {o:HO}
theorem ObjOk.lt (x:ObjOk P w H h a o):a<h.objs.size:=by
 cases o with
 | lst xs=>obtain ⟨_,_,_,_,e⟩:=x; exact Heap.lt_size e
 | tup xs=>obtain ⟨_,_,_,p⟩:=x; exact p.1.lt
 | dK kvs=>obtain ⟨_,_,_,_,o,_,_,e,_⟩:=x; exact Heap.lt_size e
 | dT kvs=>obtain ⟨_,_,_,_,o,_,_,e,_⟩:=x; exact Heap.lt_size e
 | set S n=>obtain ⟨o,_,_,_,e,_⟩:=x; exact Heap.lt_size e
 | ins C dx fs=>obtain ⟨_,_,_,e,_⟩:=x; exact Heap.lt_size e
 | own y=>obtain ⟨_,e⟩:=x; exact Heap.lt_size e
 | xd fs=>obtain ⟨_,⟨_,_,_,e,_⟩,_⟩:=x; exact Heap.lt_size e
 | rng lo hi=>obtain ⟨_,_,_,e⟩:=x; exact Heap.lt_size e
 | frz ob u=>obtain ⟨e,_⟩:=x; exact Heap.lt_size e
 | tbl ps=>exact Heap.lt_size (show h.get? a=some _ from x)
 | met f y=>exact Heap.lt_size (show h.get? a=some _ from x)
 | ext φ=>obtain ⟨_,⟨_,e⟩,_⟩:=x; exact Heap.lt_size e
theorem Paired.mapP {α β:Type} {F G:α -> β -> Prop}:∀ {l₁:List α} {l₂:List β},Paired F l₁ l₂ -> (∀ a b,F a b->G a b)->Paired G l₁ l₂
 | _,_,.nil,_=>.nil
 | _,_,.cons r t,f=>.cons (f _ _ r) (Paired.mapP t f)
theorem ObjOk.stay (x:ObjOk P w H h a o) (k:∀ b u,(b=a\/H b=some (.own a))->h.get? b=some u->h'.get? b=some u)
  (ho:∀ b,H b=some (.own a)->H' b=some (.own a)) (ht:∀ b xs,H b=some (.tup xs)->H' b=some (.tup xs)):ObjOk P w H' h' a o:=by
 induction o with
 | lst xs=>obtain ⟨z,its,n,r,e⟩:=x; exact ⟨z,its,n,r,k _ _ (.inl rfl) e⟩
 | tup xs=>obtain ⟨z,its,r,⟨ob,e,c⟩,od,e',c'⟩:=x; exact ⟨z,its,r,⟨ob,k _ _ (.inl rfl) e,c⟩,od,k _ _ (.inl rfl) e',c'⟩
 | dK kvs=>obtain ⟨z,y,vs,r,ob,es,ep,e,c⟩:=x; exact ⟨z,y,vs,r,ob,es,ep,k _ _ (.inl rfl) e,c⟩
 | dT kvs=>
  obtain ⟨z,y,xs,r,ob,es,ep,e,c⟩:=x
  exact ⟨z,y,xs,Paired.mapP r fun p q z=>⟨z.1,ht _ _ z.2.1,z.2.2⟩,ob,es,ep,k _ _ (.inl rfl) e,c⟩
 | set S n=>obtain ⟨ob,es,ep,t,e,c⟩:=x; exact ⟨ob,es,ep,t,k _ _ (.inl rfl) e,c⟩
 | ins C dx fs=>
  obtain ⟨d,z,ne,e,mA,⟨od,es,ep,e2,c⟩,r⟩:=x
  exact ⟨ho _ d,z,ne,k _ _ (.inl rfl) e,mA,⟨od,es,ep,k _ _ (.inr d) e2,c⟩,r⟩
 | own y=>obtain ⟨ob,e⟩:=x; exact ⟨ob,k _ _ (.inl rfl) e⟩
 | xd fs=>obtain ⟨mA,⟨od,es,ep,e,c⟩,r⟩:=x; exact ⟨mA,⟨od,es,ep,k _ _ (.inl rfl) e,c⟩,r⟩
 | rng lo hi=>obtain ⟨t,u,v,e⟩:=x; exact ⟨t,u,v,k _ _ (.inl rfl) e⟩
 | frz ob u ih=>obtain ⟨e,q⟩:=x; exact ⟨k _ _ (.inl rfl) e,ih q⟩
 | tbl ps=>
  have e:h.get? a=some { cls:=.none,data:=.fields ps }:=x
  show h'.get? a=some { cls:=.none,data:=.fields ps }
  exact k a _ (.inl rfl) e
 | met f y=>
  have e:h.get? a=some (PySem.W.methodObj (.ref f) (.ref y)):=x
  show h'.get? a=some (PySem.W.methodObj (.ref f) (.ref y))
  exact k a _ (.inl rfl) e
 | ext φ=>obtain ⟨p,⟨o,e⟩,st⟩:=x; exact ⟨st _ _ p fun o q=>k _ _ (.inl rfl) q,⟨o,k _ _ (.inl rfl) e⟩,st⟩
theorem HOk.lt (x:HOk P w H h) (e:H a=some o):a<h.objs.size:=(x a o e).lt
theorem HOk.fresh (x:HOk P w H h) (e:h.objs.size<=a):H a=none:=by
 cases q:H a with
 | none=>rfl
 | some u=>exact absurd (Nat.lt_of_lt_of_le (x.lt q) e) (Nat.lt_irrefl _)
theorem HOk.kept (x:HOk P w H h) (k:∀ b u,h.get? b=some u->h'.get? b=some u):HOk P w H h':=fun a o e=>
 (x a o e).stay (fun b u _ q=>k b u q) (fun _ q=>q) fun _ _ q=>q
theorem HOk.laid (x:HOk P w H h) (k:∀ b u,h.get? b=some u->h'.get? b=some u) (hp:h.objs.size<=a) (new:ObjOk P w (upd H a o) h' a o):HOk P w (upd H a o) h':=fun b u e=>by
 have hn:=x.fresh hp
 by_cases hb:b=a
 ·subst hb; rw [aN] at e; cases e; exact new
 ·rw [aI hb] at e
  exact (x b u e).stay (fun c v _ q=>k c v q) (fun c q=>by rw [aI (bf q hn)]; exact q) fun c xs q=>by rw [aI (bf q hn)]; exact q
end
def Rd (H:Hp) (a:Addr) (u:HO):Prop:=H a=some u\/∃ o,H a=some (.frz o u)
theorem Rd.ok {P:Program} {w:World} {H:Hp} {h:Heap} {a:Addr} {u:HO} (r:Rd H a u) (x:HOk P w H h):ObjOk P w H h a u:=by
 rcases r with r | ⟨o,r⟩
 ·exact x a u r
 ·obtain ⟨_,q⟩:=x a _ r
  exact q
def G5:Option HO->Prop
 | some (.lst _)=>True
 | some (.dK _)=>True
 | some (.dT _)=>True
 | some (.set _ _)=>True
 | some (.ins _ _ _)=>True
 | some (.ext _)=>True
 | _=>False
section
variable {P:Program} {w:World} {H:Hp} {h h':Heap} {x e:Addr} {o':HO}
theorem HOk.write (ok:HOk P w H h) (mu:G5 (H x)) (he:e=x\/H e=some (.own x)) (k:∀ b u,b≠e->h.get? b=some u->h'.get? b=some u) (heo:∃ u,h'.get? e=some u)
  (new:ObjOk P w (upd H x o') h' x o'):HOk P w (upd H x o') h':=fun b u q=>by
 have nown:∀ c y,H c=some (.own y)->c≠x:=fun c y r z=>by subst z; rw [r] at mu; exact mu
 have ntup:∀ c xs,H c=some (.tup xs)->c≠x:=fun c xs r z=>by subst z; rw [r] at mu; exact mu
 by_cases hb:b=x
 ·subst hb; rw [aN] at q; cases q; exact new
 ·rw [aI hb] at q
  by_cases hbe:b=e
  ·have q':H b=some (.own x):=by
    rcases he with z | z
    ·exact absurd (hbe.trans z) hb
    ·rw [hbe]; exact z
   rw [q] at q'; cases q'
   obtain ⟨v,hv⟩:=heo
   exact ⟨v,by rw [hbe]; exact hv⟩
  ·refine (ok b u q).stay (fun c v hc r=>k c v ?_ r) (fun c r=>by rw [aI (nown c b r)]; exact r) fun c xs r=>by rw [aI (ntup c xs r)]; exact r
   rcases hc with rfl | hc
   ·exact hbe
   ·rintro rfl
    rcases he with z | z
    ·exact nown c b hc z
    ·rw [hc] at z; cases z; exact hb rfl
end
structure Un (fs ex:List Addr) (H H':Hp) (h h':Heap):Prop where
 keep:∀ b o,h.get? b=some o->H b=none->b ∉ fs->b ∉ ex->h'.get? b=some o
 slot:∀ b o,h.get? b=some o->H b=none->b∈fs->b ∉ ex->∃ sl,h'.get? b=some { o with slots:=sl }
 free:∀ b o,h.get? b=some o->H b=none->b ∉ ex->H' b=none
 there:∀ b o,h.get? b=some o->b ∉ ex->∃ o',h'.get? b=some o'
 tups:∀ b xs,H b=some (.tup xs)->H' b=some (.tup xs)
 frzs:∀ b o u,H b=some (.frz o u)->H' b=some (.frz o u)
 tbls:∀ b ps,H b=some (.tbl ps)->∃ more,H' b=some (.tbl (ps++more))
section
variable {fs fs' ex ex':List Addr} {H H1 H2:Hp} {h h1 h2 h':Heap} {a x e:Addr} {o:HO}
theorem Un.any (u:Un fs ex H H1 h h1) {b:Addr} {ob:Obj} (q:h.get? b=some ob) (n:H b=none) (hx:b ∉ ex):∃ sl,h1.get? b=some { ob with slots:=sl }:=by
 by_cases hb:b∈fs
 ·exact u.slot b ob q n hb hx
 ·exact ⟨ob.slots,u.keep b ob q n hb hx⟩
theorem Un.kept (k:∀ b u,h.get? b=some u->h'.get? b=some u):Un fs ex H H h h':=
 ⟨fun b ob q _ _ _=>k b ob q,fun b ob q _ _ _=>⟨ob.slots,k b ob q⟩,fun _ _ _ n _=>n,fun b ob q _=>⟨ob,k b ob q⟩,fun _ _ q=>q,fun _ _ _ q=>q,fun _ ps q=>⟨#[],by rw [q]; simp⟩⟩
theorem Un.refl:Un fs ex H H h h:=Un.kept fun _ _ q=>q
theorem Un.laid (k:∀ b u,h.get? b=some u->h'.get? b=some u) (hp:h.objs.size<=a) (hn:H a=none):Un fs ex H (upd H a o) h h' where
 keep:=fun b u q _ _ _=>k b u q
 slot:=fun b u q _ _ _=>⟨u.slots,k b u q⟩
 free:=fun b u q n _=>by rw [aI (Nat.ne_of_lt (Nat.lt_of_lt_of_le (Heap.lt_size q) hp))]; exact n
 there:=fun b u q _=>⟨u,k b u q⟩
 tups:=fun b xs q=>by rw [aI (bf q hn)]; exact q
 frzs:=fun b u xs q=>by rw [aI (bf q hn)]; exact q
 tbls:=fun b ps q=>⟨#[],by rw [aI (bf q hn),q]; simp⟩
theorem Un.write (mu:G5 (H x)) (he:e=x\/H e=some (.own x)) (k:∀ b u,b≠e->h.get? b=some u->h'.get? b=some u) (heo:∃ u,h'.get? e=some u):Un fs ex H (upd H x o) h h':=by
 have hx:∀ b,H b=none->b≠x:=fun b n z=>by subst z; rw [n] at mu; exact mu
 have hb:∀ b,H b=none->b≠e:=fun b n z=>by
  subst z
  rcases he with r | r
  ·exact hx b n r
  ·rw [n] at r; cases r
 have hm:∀ b u,H b=some u->¬ G5 (some u)->b≠x:=fun b u q nm z=>by subst z; rw [q] at mu; exact nm mu
 refine ⟨fun b u q n _ _=>k b u (hb b n) q,fun b u q n _ _=>⟨u.slots,k b u (hb b n) q⟩,fun b u q n _=>by rw [aI (hx b n)]; exact n,fun b u q _=>?_,
  fun b xs q=>by rw [aI (hm b _ q fun z=>z)]; exact q,fun b u xs q=>by rw [aI (hm b _ q fun z=>z)]; exact q,fun b ps q=>⟨#[],by rw [aI (hm b _ q fun z=>z),q]; simp⟩⟩
 by_cases hbe:b=e
 ·subst hbe; exact heo
 ·exact ⟨u,k b u hbe q⟩
end
noncomputable def trk (h:Heap) (H:Hp):List Addr:=(List.range h.objs.size).filter fun a=>(H a).isSome
noncomputable def p7 (h:Heap) (H:Hp):Heap:=PySem.W.hideAll h (trk h H)
theorem wE (h:Heap) (H:Hp):(p7 h H).objs.size=h.objs.size:=PySem.W.hideAll_size _ _
theorem yu {h:Heap} {H:Hp} {b:Addr} {o:Obj} (e:h.get? b=some o) (n:H b=none):(p7 h H).get? b=some o:=
 PySem.W.hideAll_get _ e fun hm=>by
  have q:(H b).isSome=true:=(List.mem_filter.mp hm).2
  rw [n] at q; simp at q
theorem AI {h:Heap} {H:Hp} {b:Addr} {o:Obj} (e:(p7 h H).get? b=some o):h.get? b=some o/\H b=none:=by
 have e':h.get? b=some o:=PySem.W.of_hideAll (trk h H) e
 refine ⟨e',?_⟩
 cases q:H b with
 | none=>rfl
 | some x=>
  have hm:b∈trk h H:=List.mem_filter.mpr ⟨List.mem_range.mpr (Heap.lt_size e'),by simp [q]⟩
  have z:(p7 h H).get? b=none:=PySem.W.hideAll_none (trk h H) hm
  rw [z] at e; cases e
noncomputable def vF (g h:Heap) (L:Addr):List (Addr×Obj):=(List.range h.objs.size).filterMap fun a=>if a=L\/(g.get? a).isSome=true then none else (h.get? a).map fun o=>(a,o)
theorem rO {g h:Heap} {L a:Addr} {o:Obj} (h1:a≠L) (h2:g.get? a=none) (h3:h.get? a=some o):(a,o)∈vF g h L:=
 List.mem_filterMap.mpr ⟨a,List.mem_range.mpr (Heap.lt_size h3),by simp [h1,h2,h3]⟩
noncomputable def rest (g h:Heap) (L d:Addr):List (Addr×Obj):=(vF g h L).filter fun p=>decide (p.1≠d)
theorem mem_rest {g h:Heap} {L d a:Addr} {o:Obj} (h1:a≠L) (h2:g.get? a=none) (h3:h.get? a=some o) (h4:a≠d):(a,o)∈rest g h L d:=
 List.mem_filter.mpr ⟨rO h1 h2 h3,decide_eq_true h4⟩
end L2
namespace L2
open PySem PySem.Spec PyProof.Rows
structure Mod (K:PySem.W.Frag) (mg:Str->Option Value) (base:Heap):Prop where
 kin:K.In base
 glob:base.Ns mainGlobals mg
 blt:∃ mb,base.Ns builtinsNs mb/\∀ x:Str,x ≠ "__name__" -> mb x=bootBuiltins x
 nolimit:base.NoLimit
structure Cx where
 prog:Program
 w:World
 K:PySem.W.Frag
 mg:Str->Option Value
 base:Heap
 A:Around
 N:List Str
 s₀:Shared
 H₀:Hp
 env:Env
 outer:List Env
 stack:List Env
 ex:List Addr
 fn:Str->Bool
 calm:Bool
 pn:List (Addr×Obj)
 xe:Value->Shared->Prop
noncomputable def iK (l:List Env):List Addr:=l.filterMap (·.frame)
abbrev Cx.fs (X:Cx):List Addr:=iK X.outer
def BO (sc:Scope) (x:Str):Prop:=sc.names.lookup x=some .local\/sc.names.lookup x=some .cell\/sc.names.lookup x=some .free
def wR (sc:Scope) (x:Str):Prop:=sc.names.lookup x=some .local\/sc.names.lookup x=some .cell
def Jy (env:Env) (h:Heap) (m:Str->Option Value) (x:Str) (u:Value):Prop:=
 (env.kindOf x=some .local/\m x=some u)\/((env.kindOf x=some .cell\/env.kindOf x=some .free)/\∃ c,env.cells.lookup x=some c/\h.IsCell c (some u))
structure Cx.Ok (X:Cx):Prop where
 mod:Mod X.K X.mg X.base
 kind:X.env.scope.kind=.function
 glob:X.env.globals=mainGlobals
 blt:X.env.builtins=builtinsNs
 above:X.s₀.heap.objs.size<=X.env.locals
 inj:∀ x y c,X.env.cells.lookup x=some c->X.env.cells.lookup y=some c->x=y
 has:∀ x,(X.env.kindOf x=some .cell\/X.env.kindOf x=some .free)->∃ c,X.env.cells.lookup x=some c
 cab:∀ x c,X.fn x=true->X.env.cells.lookup x=some c->X.s₀.heap.objs.size<=c
 hd:X.calm=true->X.A.handled=none
 frames:X.A.frames=some X.stack
 stk:X.stack=X.outer\/(X.stack=X.env::X.outer/\X.env.frame=some X.env.locals)
 exf:∀ b∈X.ex,b≠X.env.locals/\∀ x c,X.env.cells.lookup x=some c->c≠b
 bs:∀ b o,X.base.get? b=some o->X.s₀.heap.get? b=some o/\X.H₀ b=none
 bsz:X.base.objs.size<=X.s₀.heap.objs.size
 noex:∀ b o,X.base.get? b=some o->b ∉ X.ex
 exfs:∀ b∈X.ex,b ∉ X.fs
 funs:X.s₀.heap.FunFrames X.base X.outer
 frf:∀ b∈X.fs,X.H₀ b=none
structure Inv (X:Cx) (pins:List (Addr×Obj)) (σ:List (Option V)) (H:Hp) (s:Shared):Prop where
 ok:X.Ok
 os:s.os=X.s₀.os
 bare:AllBare s.gens
 base:Un X.fs X.ex X.H₀ H X.s₀.heap s.heap
 loc:∃ m,s.heap.Ns X.env.locals m/\∀ (i:Nat) (x:Str) (v:V),X.N[i]? = some x -> σ[i]? = some (some v)->BO X.env.scope x->∃ u,RelV v u/\Jy X.env s.heap m x u
 cell:∀ x c,X.env.cells.lookup x=some c->∃ v,s.heap.IsCell c v
 free:H X.env.locals=none
 freeC:∀ x c,X.env.cells.lookup x=some c->H c=none
 pin:∀ p∈X.pn++pins,s.heap.get? p.1=some p.2/\H p.1=none/\p.1≠X.env.locals/\p.1 ∉ X.fs/\∀ v,p.2.data≠.cell v
 hok:HOk X.prog X.w H s.heap
 len:σ.length=X.N.length
section
variable {X:Cx} {pins:List (Addr×Obj)} {σ:List (Option V)} {H H':Hp} {s:Shared} {h':Heap}
theorem Cx.Ok.nofr (ok:X.Ok) {b:Addr} {o:Obj} (e:X.base.get? b=some o):b ∉ X.fs:=fun hb=>by
 have:=(ok.funs.mem hb).1
 rw [e] at this; cases this
theorem Inv.bs (I:Inv X pins σ H s):∀ b o,X.base.get? b=some o->s.heap.get? b=some o/\H b=none:=fun b o e=>
 ⟨I.base.keep b o (I.ok.bs b o e).1 (I.ok.bs b o e).2 (I.ok.nofr e) (I.ok.noex b o e),I.base.free b o (I.ok.bs b o e).1 (I.ok.bs b o e).2 (I.ok.noex b o e)⟩
theorem Inv.bk (I:Inv X pins σ H s):∀ b o,X.base.get? b=some o->s.heap.get? b=some o:=fun b o e=>(I.bs b o e).1
theorem Inv.mod (I:Inv X pins σ H s):Mod X.K X.mg X.base:=I.ok.mod
theorem Inv.kIn (I:Inv X pins σ H s):X.K.In s.heap:=I.ok.mod.kin.keeps I.bk
theorem Inv.fr (I:Inv X pins σ H s):∃ m,Fr X.base X.env.locals s.heap m:=
 let ⟨m,hn,_⟩:=I.loc
 ⟨m,hn,I.bk,Nat.le_trans I.ok.bsz I.ok.above⟩
theorem Inv.lt (I:Inv X pins σ H s):X.env.locals<s.heap.objs.size:=let ⟨_,hn,_⟩:=I.loc; hn.lt
theorem Inv.sz (I:Inv X pins σ H s):X.s₀.heap.objs.size<=s.heap.objs.size:=Nat.le_trans I.ok.above (Nat.le_of_lt I.lt)
theorem Inv.nofs (I:Inv X pins σ H s) {a:Addr} (h:s.heap.objs.size<=a):a ∉ X.fs:=fun hb=>by
 obtain ⟨_,o,ho,_⟩:=I.ok.funs.mem hb
 exact absurd (Nat.lt_of_lt_of_le (Heap.lt_size ho) (Nat.le_trans I.sz h)) (Nat.lt_irrefl _)
theorem Inv.cne (I:Inv X pins σ H s):∀ x c,X.env.cells.lookup x=some c->c≠X.env.locals:=fun x c e z=>by
 obtain ⟨v,o,ho,hd⟩:=I.cell x c e
 obtain ⟨m,⟨o',es,ep,ho',hd',_⟩,_⟩:=I.loc
 rw [z,ho'] at ho; cases ho; rw [hd'] at hd; cases hd
theorem Inv.funs (I:Inv X pins σ H s):s.heap.FunFrames X.base X.outer:=by
 have all:∀ (l:List Env),(∀ b∈iK l,b∈X.fs)->X.s₀.heap.FunFrames X.base l->s.heap.FunFrames X.base l:=by
  intro l
  induction l with
  | nil=>intro _ _; trivial
  | cons env r ih=>
   intro hs hl
   obtain ⟨hk,⟨L,o,hf,hn,ho,hd⟩,hr⟩:=hl
   have hL:L∈X.fs:=hs L (by unfold iK; rw [List.filterMap_cons,hf]; exact List.mem_cons_self)
   obtain ⟨sl,e⟩:=I.base.slot L o ho (I.ok.frf L hL) hL fun z=>I.ok.exfs L z hL
   exact ⟨hk,⟨L,_,hf,hn,e,hd⟩,ih (fun b hb=>hs b (by unfold iK; rw [List.filterMap_cons,hf]; exact List.mem_cons_of_mem _ hb)) hr⟩
 exact all X.outer (fun _ hb=>hb) I.ok.funs
theorem Inv.stack (I:Inv X pins σ H s):s.heap.FunFrames X.base X.stack:=by
 rcases I.ok.stk with e | ⟨e,hf⟩
 ·rw [e]; exact I.funs
 ·rw [e]
  obtain ⟨m,hn,_⟩:=I.loc
  refine .cons (by rw [I.ok.kind]; decide) hf hn ?_ I.funs
  exact Heap.get?_none_of_le (Nat.le_trans I.ok.bsz I.ok.above)
theorem Inv.stkSub (I:Inv X pins σ H s):∀ b∈iK X.stack,b∈X.env.locals::X.fs:=fun b hb=>by
 rcases I.ok.stk with e | ⟨e,hf⟩
 ·rw [e] at hb; exact List.mem_cons_of_mem _ hb
 ·rw [e] at hb
  unfold iK at hb
  rw [List.filterMap_cons,hf] at hb
  exact hb
theorem Inv.stkFree (I:Inv X pins σ H s):∀ b∈iK X.stack,H b=none:=fun b hb=>by
 rcases List.mem_cons.mp (I.stkSub b hb) with e | hb
 ·rw [e]; exact I.free
 ·obtain ⟨_,o,ho,_⟩:=I.ok.funs.mem hb
  exact I.base.free b o ho (I.ok.frf b hb) fun z=>I.ok.exfs b z hb
theorem Inv.step {g':Array GenState} {t':Nat} {d':Drawn} {ch:List Addr} (I:Inv X pins σ H s)
  (hch:∀ b∈ch,(b∈X.ex\/X.s₀.heap.objs.size<=b)/\b≠X.env.locals/\(∀ x c,X.env.cells.lookup x=some c->c≠b)/\∀ p∈X.pn++pins,p.1≠b)
  (keep:∀ b o,b≠X.env.locals->b ∉ X.fs->b ∉ ch->s.heap.get? b=some o->H b=none->h'.get? b=some o)
  (slot:∀ b o,b≠X.env.locals->b∈X.fs->b ∉ ch->s.heap.get? b=some o->H b=none->∃ sl,h'.get? b=some { o with slots:=sl }) (free:∀ b o,b ∉ ch->s.heap.get? b=some o->H b=none->H' b=none)
  (there:∀ b o,b ∉ ch->s.heap.get? b=some o->∃ o',h'.get? b=some o')
  (tups:∀ b xs,H b=some (.tup xs)->H' b=some (.tup xs)) (frzs:∀ b o u,H b=some (.frz o u)->H' b=some (.frz o u)) (tbls:∀ b ps,H b=some (.tbl ps)->∃ more,H' b=some (.tbl (ps++more)))
  (ns:∀ m,s.heap.Ns X.env.locals m->h'.Ns X.env.locals m) (hok:HOk X.prog X.w H' h') (hg:AllBare g') :
  Inv X pins σ H' { s with heap:=h',gens:=g',drawn:=d',toks:=t' }:=by
 have neL:∀ b o,X.s₀.heap.get? b=some o->b≠X.env.locals:=fun b o e=>Nat.ne_of_lt (Nat.lt_of_lt_of_le (Heap.lt_size e) I.ok.above)
 have neC:∀ b o,X.s₀.heap.get? b=some o->b ∉ X.ex->b ∉ ch:=fun b o e hx hb=>by
  rcases (hch b hb).1 with z | z
  ·exact hx z
  ·exact absurd (Nat.lt_of_lt_of_le (Heap.lt_size e) z) (Nat.lt_irrefl _)
 have cellK:∀ x c,X.env.cells.lookup x=some c->∀ v,s.heap.IsCell c v->h'.IsCell c v:=fun x c e v ⟨o,ho,hd⟩=>by
  have nch:c ∉ ch:=fun z=>(hch c z).2.2.1 x c e rfl
  by_cases hc:c∈X.fs
  ·obtain ⟨sl,q⟩:=slot c o (I.cne x c e) hc nch ho (I.freeC x c e)
   exact ⟨_,q,hd⟩
  ·exact ⟨o,keep c o (I.cne x c e) hc nch ho (I.freeC x c e),hd⟩
 refine ⟨I.ok,I.os,hg,⟨fun b o e n hb hx=>?_,fun b o e n hb hx=>?_,fun b o e n hx=>?_,fun b o e hx=>?_,fun b xs e=>tups b xs (I.base.tups b xs e),fun b o xs e=>frzs b o xs (I.base.frzs b o xs e),fun b ps e=>?_⟩,?_,fun x c e=>?_,?_,fun x c e=>?_,fun p hp=>?_,hok,I.len⟩
 ·exact keep b o (neL b o e) hb (neC b o e hx) (I.base.keep b o e n hb hx) (I.base.free b o e n hx)
 ·obtain ⟨sl,e1⟩:=I.base.slot b o e n hb hx
  obtain ⟨sl',e2⟩:=slot b _ (neL b o e) hb (neC b o e hx) e1 (I.base.free b o e n hx)
  exact ⟨sl',e2⟩
 ·obtain ⟨o',e1⟩:=I.base.there b o e hx
  exact free b o' (neC b o e hx) e1 (I.base.free b o e n hx)
 ·obtain ⟨o',e1⟩:=I.base.there b o e hx
  exact there b o' (neC b o e hx) e1
 ·obtain ⟨m1,e1⟩:=I.base.tbls b ps e
  obtain ⟨m2,e2⟩:=tbls b _ e1
  exact ⟨m1++m2,by rw [e2,Array.append_assoc]⟩
 ·obtain ⟨m,hn,hl⟩:=I.loc
  refine ⟨m,ns m hn,fun i x v e1 e2 e3=>?_⟩
  obtain ⟨u,r,l⟩:=hl i x v e1 e2 e3
  refine ⟨u,r,?_⟩
  rcases l with l | ⟨k,c,e,z⟩
  ·exact .inl l
  ·exact .inr ⟨k,c,e,cellK x c e _ z⟩
 ·obtain ⟨v,z⟩:=I.cell x c e
  exact ⟨v,cellK x c e v z⟩
 ·obtain ⟨m,⟨o,_,_,ho,_⟩,_⟩:=I.loc
  exact free _ o (fun z=>(hch _ z).2.1 rfl) ho I.free
 ·obtain ⟨v,o,ho,hd⟩:=I.cell x c e
  exact free c o (fun z=>(hch c z).2.2.1 x c e rfl) ho (I.freeC x c e)
 ·obtain ⟨e,n,ne,nf,d⟩:=I.pin p hp
  have nch:p.1 ∉ ch:=fun z=>(hch p.1 z).2.2.2 p hp rfl
  exact ⟨keep p.1 p.2 ne nf nch e n,free p.1 p.2 nch e n,ne,nf,d⟩
theorem Inv.un {t':Nat} (I:Inv X pins σ H s) (u:Un X.fs [] H H' s.heap h') (hok:HOk X.prog X.w H' h'):Inv X pins σ H' { s with heap:=h',toks:=t' }:=by
 obtain ⟨m,⟨o,es,ep,ho,r⟩,_⟩:=id I.loc
 obtain ⟨sl,hL⟩:=u.any ho I.free (by simp)
 exact I.step (g':=s.gens) (d':=s.drawn) (ch:=[]) (fun _ z=>nomatch z) (fun b o _ hb _ e n=>u.keep b o e n hb (by simp)) (fun b o _ hb _ e n=>u.slot b o e n hb (by simp)) (fun b o _ e n=>u.free b o e n (by simp)) (fun b o _ e=>u.there b o e (by simp)) u.tups u.frzs u.tbls (fun m' hm=>by
  obtain ⟨o',es',ep',ho',r'⟩:=hm
  rw [ho] at ho'; cases ho'
  exact ⟨_,es',ep',hL,r'⟩) hok I.bare
theorem Inv.call {g':Array GenState} {t':Nat} {d':Drawn} {ch:List Addr} (I:Inv X pins σ H s) (u:Un (iK X.stack) ch H H' s.heap h') (hok:HOk X.prog X.w H' h') (hg:AllBare g')
  (hch:∀ b∈ch,(b∈X.ex\/X.s₀.heap.objs.size<=b)/\b≠X.env.locals/\(∀ x c,X.env.cells.lookup x=some c->c≠b)/\∀ p∈X.pn++pins,p.1≠b) :
  Inv X pins σ H' { s with heap:=h',gens:=g',drawn:=d',toks:=t' }:=by
 obtain ⟨m,⟨o,es,ep,ho,r⟩,_⟩:=id I.loc
 obtain ⟨sl,hL⟩:=u.any ho I.free fun z=>(hch _ z).2.1 rfl
 exact I.step (ch:=ch) hch (fun b o hL hb hc e n=>u.keep b o e n (fun z=>(List.mem_cons.mp (I.stkSub b z)).elim hL hb) hc) (fun b o _ _ hc e n=>u.any e n hc) (fun b o hc e n=>u.free b o e n hc) (fun b o hc e=>u.there b o e hc) u.tups u.frzs u.tbls (fun m' hm=>by
  obtain ⟨o',es',ep',ho',r'⟩:=hm
  rw [ho] at ho'; cases ho'
  exact ⟨_,es',ep',hL,r'⟩) hok hg
theorem Inv.turned {t':Nat} {it:Addr} (I:Inv X pins σ H s) (k:∀ b o,b≠it->s.heap.get? b=some o->h'.get? b=some o) (hn:H it=none) (hL:it≠X.env.locals)
  (h1:it∈X.ex\/X.s₀.heap.objs.size<=it) (h2:∀ x c,X.env.cells.lookup x=some c->c≠it) (h3:∀ p∈X.pn++pins,p.1≠it):Inv X pins σ H { s with heap:=h',toks:=t' }:=by
 have nit:∀ b u,H b=some u->b≠it:=fun b u e z=>by rw [z,hn] at e; cases e
 refine I.step (g':=s.gens) (d':=s.drawn) (ch:=[it]) (fun b hb=>?_) (fun b o _ _ hc e _=>k b o (fun z=>hc (by simp [z])) e) (fun b o _ _ hc e _=>⟨o.slots,k b o (fun z=>hc (by simp [z])) e⟩) (fun _ _ _ _ n=>n)
  (fun b o hc e=>⟨o,k b o (fun z=>hc (by simp [z])) e⟩) (fun _ _ e=>e) (fun _ _ _ e=>e) (fun b ps e=>⟨#[],by rw [e]; simp⟩) (fun m hm=>?_) (fun b u e=>?_) I.bare
 ·have e:b=it:=by simpa using hb
  subst e
  exact ⟨h1,hL,h2,h3⟩
 ·obtain ⟨o,es,ep,ho,r⟩:=hm
  exact ⟨o,es,ep,k _ o (Ne.symm hL) ho,r⟩
 ·refine (I.hok b u e).stay (fun c v hc q=>k c v ?_ q) (fun _ q=>q) fun _ _ q=>q
  rcases hc with z | z
  ·rw [z]; exact nit b u e
  ·exact nit c _ z
theorem Inv.tok (I:Inv X pins σ H s) (t:Nat):Inv X pins σ H { s with toks:=t }:=I.un (h':=s.heap) (t':=t) Un.refl I.hok
theorem Inv.kept {t':Nat} (I:Inv X pins σ H s) (k:∀ b u,s.heap.get? b=some u->h'.get? b=some u):Inv X pins σ H { s with heap:=h',toks:=t' }:=I.un (Un.kept k) (I.hok.kept k)
theorem Inv.laid {a:Addr} {o:HO} {t':Nat} (I:Inv X pins σ H s) (k:∀ b u,s.heap.get? b=some u->h'.get? b=some u) (hp:s.heap.objs.size<=a) (new:ObjOk X.prog X.w (upd H a o) h' a o) :
  Inv X pins σ (upd H a o) { s with heap:=h',toks:=t' }:=I.un (Un.laid k hp (I.hok.fresh hp)) (I.hok.laid k hp new)
theorem Inv.write {x e:Addr} {o:HO} {t':Nat} (I:Inv X pins σ H s) (mu:G5 (H x)) (he:e=x\/H e=some (.own x)) (k:∀ b u,b≠e->s.heap.get? b=some u->h'.get? b=some u) (heo:∃ u,h'.get? e=some u)
  (new:ObjOk X.prog X.w (upd H x o) h' x o):Inv X pins σ (upd H x o) { s with heap:=h',toks:=t' }:=I.un (Un.write mu he k heo) (I.hok.write mu he k heo new)
theorem Inv.weak {σ':List (Option V)} (I:Inv X pins σ H s) (hl:σ'.length = σ.length) (w:∀ (i:Nat) v,σ'[i]? = some (some v) -> σ[i]? = some (some v)):Inv X pins σ' H s:=
 ⟨I.ok,I.os,I.bare,I.base,let ⟨m,hn,hl'⟩:=I.loc; ⟨m,hn,fun i x v e1 e2 e3=>hl' i x v e1 (w i v e2) e3⟩,I.cell,I.free,I.freeC,I.pin,I.hok,hl.trans I.len⟩
theorem Inv.pins_of {pins':List (Addr×Obj)} (I:Inv X pins σ H s) (h:∀ p∈pins',s.heap.get? p.1=some p.2/\H p.1=none/\p.1≠X.env.locals/\p.1 ∉ X.fs/\∀ v,p.2.data≠.cell v):Inv X pins' σ H s:=
 ⟨I.ok,I.os,I.bare,I.base,I.loc,I.cell,I.free,I.freeC,fun p hp=>(List.mem_append.mp hp).elim (fun z=>I.pin p (List.mem_append_left _ z)) (h p),I.hok,I.len⟩
theorem rG {N:List Str} (hN:N.Nodup) {i j:Nat} {x:Str} (a:N[i]? = some x) (b:N[j]? = some x):i=j:=by
 obtain ⟨h1,e1⟩:=List.getElem?_eq_some_iff.mp a
 obtain ⟨h2,e2⟩:=List.getElem?_eq_some_iff.mp b
 exact (List.getElem_inj hN).mp (e1.trans e2.symm)
theorem vM {M:Model} {A:Around} {E:Value->Shared->Prop} {i:Nat} {x:Str} {v:V} {u:Value} {Q:Unit->Shared->Prop} (I:Inv X pins σ H s) (hN:X.N.Nodup) (hi:X.N[i]? = some x) (hx:wR X.env.scope x) (r:RelV v u)
  (h:∀ s',Inv X pins (σ.set i (some v)) H s'->(∃ a,Heap.SameBut a s.heap s'.heap/\(a=X.env.locals\/X.env.cells.lookup x=some a))->Q () s') (hf:X.fn x=true\/X.env.scope.names.lookup x=some .local:=by first | exact .inl rfl | exact .inr rfl | assumption):wpAny M A (storeName X.env x u) Q E s:=by
 obtain ⟨m,hn,hl⟩:=id I.loc
 have hcls:(X.env.scope.kind == .class||(X.env.scope.kind == .module&&X.env.locals != X.env.globals))=false:=by rw [I.ok.kind]; rfl
 have hiσ:i < σ.length:=by rw [I.len]; exact (List.getElem?_eq_some_iff.mp hi).1
 have cne:=I.cne
 have tracked:∀ {a:Addr} {h':Heap},(∃ o,s.heap.get? a=some o/\H a=none)->Heap.SameBut a s.heap h'->HOk X.prog X.w H h':=fun {a h'} ha hs b ob e=>by
  obtain ⟨_,_,hfree⟩:=ha
  refine (I.hok b ob e).stay (fun c w' hc q=>(hs.2 c ?_).trans q) (fun _ q=>q) fun _ _ q=>q
  rintro rfl
  rcases hc with rfl | hc
  ·rw [hfree] at e; cases e
  ·rw [hfree] at hc; cases hc
 rcases hx with hk | hk
 ·refine wpAny_storeName_local hk hn (fun h' hn' hs=>?_) hcls
  obtain ⟨oL,_,_,hoL,_⟩:=id hn
  refine h _ ⟨I.ok,I.os,I.bare,⟨fun b o e n hb hx=>?_,fun b o e n hb hx=>?_,I.base.free,fun b o e hx=>?_,I.base.tups,I.base.frzs,I.base.tbls⟩,⟨_,hn',fun j y v' e1 e2 e3=>?_⟩,fun y c e=>?_,I.free,I.freeC,fun p hp=>?_,tracked ⟨oL,hoL,I.free⟩ hs,by simpa using I.len⟩ ⟨_,hs,.inl rfl⟩
  ·exact (hs.2 b (Nat.ne_of_lt (Nat.lt_of_lt_of_le (Heap.lt_size e) I.ok.above))).trans (I.base.keep b o e n hb hx)
  ·obtain ⟨sl,e1⟩:=I.base.slot b o e n hb hx
   exact ⟨sl,(hs.2 b (Nat.ne_of_lt (Nat.lt_of_lt_of_le (Heap.lt_size e) I.ok.above))).trans e1⟩
  ·obtain ⟨o',e1⟩:=I.base.there b o e hx
   exact ⟨o',(hs.2 b (Nat.ne_of_lt (Nat.lt_of_lt_of_le (Heap.lt_size e) I.ok.above))).trans e1⟩
  ·by_cases hj:j=i
   ·subst hj
    rw [hi] at e1; cases e1
    rw [List.getElem?_set_self hiσ] at e2
    cases e2
    exact ⟨u,r,.inl ⟨hk,by simp⟩⟩
   ·rw [List.getElem?_set_ne (Ne.symm hj)] at e2
    obtain ⟨u',r',q⟩:=hl j y v' e1 e2 e3
    refine ⟨u',r',?_⟩
    rcases q with ⟨k,e⟩ | ⟨k,c,e,z⟩
    ·refine .inl ⟨k,?_⟩
     have:y≠x:=fun e=>hj (rG hN e1 (e ▸ hi))
     simp [this,e]
    ·exact .inr ⟨k,c,e,z.sameBut hs (cne y c e)⟩
  ·obtain ⟨w',z⟩:=I.cell y c e
   exact ⟨w',z.sameBut hs (cne y c e)⟩
  ·obtain ⟨e,n,ne,nf,d⟩:=I.pin p hp
   exact ⟨(hs.2 p.1 ne).trans e,n,ne,nf,d⟩
 ·have hfn:X.fn x=true:=by
   rcases hf with z | z
   ·exact z
   ·rw [z] at hk; cases hk
  obtain ⟨c,hc⟩:=I.ok.has x (.inl hk)
  obtain ⟨w',z⟩:=I.cell x c hc
  refine wpAny_storeName_cell I.ok.kind hk hc z (fun h' hc' hs=>?_)
  obtain ⟨oc,hoc,hocd⟩:=id z
  refine h { s with heap:=h' } ⟨I.ok,I.os,I.bare,⟨fun b o e n hb hx=>?_,fun b o e n hb hx=>?_,I.base.free,fun b o e hx=>?_,I.base.tups,I.base.frzs,I.base.tbls⟩,⟨m,hn.sameBut hs (Ne.symm (cne x c hc)),fun j y v' e1 e2 e3=>?_⟩,fun y c' e=>?_,I.free,I.freeC,fun p hp=>?_,tracked ⟨oc,hoc,I.freeC x c hc⟩ hs,by simpa using I.len⟩ ⟨c,hs,.inr hc⟩
  ·exact (hs.2 b (Nat.ne_of_lt (Nat.lt_of_lt_of_le (Heap.lt_size e) (I.ok.cab x c hfn hc)))).trans (I.base.keep b o e n hb hx)
  ·obtain ⟨sl,e1⟩:=I.base.slot b o e n hb hx
   exact ⟨sl,(hs.2 b (Nat.ne_of_lt (Nat.lt_of_lt_of_le (Heap.lt_size e) (I.ok.cab x c hfn hc)))).trans e1⟩
  ·obtain ⟨o',e1⟩:=I.base.there b o e hx
   exact ⟨o',(hs.2 b (Nat.ne_of_lt (Nat.lt_of_lt_of_le (Heap.lt_size e) (I.ok.cab x c hfn hc)))).trans e1⟩
  ·by_cases hj:j=i
   ·subst hj
    rw [hi] at e1; cases e1
    rw [List.getElem?_set_self hiσ] at e2
    cases e2
    exact ⟨u,r,.inr ⟨.inl hk,c,hc,hc'⟩⟩
   ·rw [List.getElem?_set_ne (Ne.symm hj)] at e2
    obtain ⟨u',r',q⟩:=hl j y v' e1 e2 e3
    refine ⟨u',r',?_⟩
    rcases q with q | ⟨k,c',e,z'⟩
    ·exact .inl q
    ·refine .inr ⟨k,c',e,z'.sameBut hs ?_⟩
     rintro rfl
     exact hj (rG hN e1 (I.ok.inj _ _ _ e hc ▸ hi))
  ·by_cases hcc:c'=c
   ·subst hcc; exact ⟨_,hc'⟩
   ·obtain ⟨w2,z2⟩:=I.cell y c' e
    exact ⟨w2,z2.sameBut hs hcc⟩
  ·obtain ⟨e,n,ne,nf,d⟩:=I.pin p hp
   refine ⟨(hs.2 p.1 ?_).trans e,n,ne,nf,d⟩
   intro q
   rw [q,hoc] at e
   have q':oc=p.2:=Option.some.inj e
   exact d w' (by rw [<- q']; exact hocd)
theorem qT {M:Model} {A:Around} {E:Value->Shared->Prop} {i:Nat} {x:Str} {v:V} {u:Value} {Q:Unit->Shared->Prop} (I:Inv X pins σ H s) (hN:X.N.Nodup) (hi:X.N[i]? = some x) (hx:wR X.env.scope x) (r:RelV v u)
  (h:∀ s',Inv X pins (σ.set i (some v)) H s'->Q () s') (hf:X.fn x=true\/X.env.scope.names.lookup x=some .local:=by first | exact .inl rfl | exact .inr rfl | assumption):wpAny M A (storeName X.env x u) Q E s:=
 vM I hN hi hx r (fun s' I' _=>h s' I') hf
theorem Inv.call' {s':Shared} {ch:List Addr} (I:Inv X pins σ H s) (ho:s'.os=s.os) (u:Un (iK X.stack) ch H H' s.heap s'.heap) (hok:HOk X.prog X.w H' s'.heap) (hg:AllBare s'.gens)
  (hch:∀ b∈ch,(b∈X.ex\/X.s₀.heap.objs.size<=b)/\b≠X.env.locals/\(∀ x c,X.env.cells.lookup x=some c->c≠b)/\∀ p∈X.pn++pins,p.1≠b):Inv X pins σ H' s':=by
 obtain ⟨h',g',d',t',o'⟩:=s'
 have e:o'=s.os:=ho
 subst e
 exact I.call (g':=g') (t':=t') (d':=d') u hok hg hch
end
abbrev XK:=Value->Option Addr->Hp->Prop
abbrev St:=List (Option V)
abbrev VK:=V->Hp->Prop
abbrev TE:=St->Hp->VK->Prop
abbrev TT:=St->Hp->(Bool->Hp->Prop)->Prop
abbrev TA:=St->Hp->(List V->Hp->Prop)->Prop
structure Ends where
 nx:St->Hp->Prop
 rt:VK
 bk:St->Hp->Prop:=fun _ _=>False
 ct:St->Hp->Prop:=fun _ _=>False
abbrev TS:=Ends->St->Hp->Prop
def EP (X:Cx) (pins:List (Addr×Obj)) (σ:St) (Q:VK) (u:Value) (s':Shared):Prop:=∃ v H',Inv X pins σ H' s'/\RelV v u/\Q v H'
def TP (X:Cx) (pins:List (Addr×Obj)) (σ:St) (Q:Bool->Hp->Prop) (b:Bool) (s':Shared):Prop:=∃ H',Inv X pins σ H' s'/\Q b H'
def AP (X:Cx) (pins:List (Addr×Obj)) (σ:St) (Q:List V->Hp->Prop) (us:List Value) (s':Shared):Prop:=∃ vs H',Inv X pins σ H' s'/\Vals vs us/\Q vs H'
def SP (X:Cx) (pins:List (Addr×Obj)) (D:Ends) (f:Flow) (s':Shared):Prop:=
 match f with
 | .next=>∃ σ' H',Inv X pins σ' H' s'/\D.nx σ' H'
 | .brk=>∃ σ' H',Inv X pins σ' H' s'/\D.bk σ' H'
 | .cont=>∃ σ' H',Inv X pins σ' H' s'/\D.ct σ' H'
 | .ret u=>∃ v σ' H',Inv X pins σ' H' s'/\RelV v u/\D.rt v H'
def PE (X:Cx) (e:Expr) (t:TE):Prop:=
 ∀ (pins:List (Addr×Obj)) (s:Shared) (σ:St) (H:Hp) (Q:VK),Inv X pins σ H s->t σ H Q->wpAny (model X.prog X.w) X.A (eval e X.env) (EP X pins σ Q) X.xe s
def PT (X:Cx) (e:Expr) (t:TT):Prop:=
 ∀ (pins:List (Addr×Obj)) (s:Shared) (σ:St) (H:Hp) (Q:Bool->Hp->Prop),Inv X pins σ H s->t σ H Q->wpAny (model X.prog X.w) X.A (isTrue e X.env (eval e X.env)) (TP X pins σ Q) X.xe s
def PW (X:Cx) (e:Expr) (t:TT):Prop:=
 ∀ (whole:Sem Value) (pins:List (Addr×Obj)) (s:Shared) (σ:St) (H:Hp) (Q:Bool->Hp->Prop),Inv X pins σ H s->t σ H Q->wpAny (model X.prog X.w) X.A (isTrue e X.env whole) (TP X pins σ Q) X.xe s
theorem PW.pt {X:Cx} {e:Expr} {t:TT} (h:PW X e t):PT X e t:=h _
def PA (X:Cx) (es:List Expr) (t:TA):Prop:=
 ∀ (pos:Pos) (pins:List (Addr×Obj)) (s:Shared) (σ:St) (H:Hp) (Q:List V->Hp->Prop),Inv X pins σ H s->t σ H Q->wpAny (model X.prog X.w) X.A (spliced (backTo pos (starEach es X.env))) (AP X pins σ Q) X.xe s
def PS (X:Cx) (st:Stmt) (t:TS):Prop:=
 ∀ (pins:List (Addr×Obj)) (s:Shared) (σ:St) (H:Hp) (D:Ends),Inv X pins σ H s->t D σ H->wpAny (model X.prog X.w) X.A (exec st X.env) (SP X pins D) X.xe s
def PSs (X:Cx) (st:List Stmt) (t:TS):Prop:=
 ∀ (pins:List (Addr×Obj)) (s:Shared) (σ:St) (H:Hp) (D:Ends),Inv X pins σ H s->t D σ H->wpAny (model X.prog X.w) X.A (execs st X.env) (SP X pins D) X.xe s
theorem cx {α:Type} {t:Sem α} {Q Q':α -> Shared->Prop} {M:Model} {A:Around} {E:Value->Shared->Prop} {s:Shared} (h:wpAny M A t Q E s) (hQ:∀ a s,Q a s->Q' a s):wpAny M A t Q' E s:=wpAny_mono h hQ fun _ _ x=>x
end L2
namespace L2
open PySem PySem.Spec PyProof.Rows
section
variable {X:Cx}
def HG (i:Nat):TE:=fun σ H Q=>∃ v,σ[i]? = some (some v)/\Q v H
def tC (v:V):TE:=fun _ H Q=>Q v H
theorem jj {i:Nat} {x:Str} {pos:Pos} (hN:X.N[i]? = some x) (hv:BO X.env.scope x) (hd:(x==("__debug__":Str))=false:=by decide) (hcd:(x==("__classdict__":Str))=false:=by decide):PE X (.Name x pos) (HG i):=by
 intro pins s σ H Q I h
 obtain ⟨v,e,h⟩:=h
 obtain ⟨m,hn,hl⟩:=I.loc
 obtain ⟨u,r,l⟩:=hl i x v hN e hv
 have fin:EP X pins σ Q u s:=⟨v,H,I,r,h⟩
 rcases l with ⟨hk,hm⟩ | ⟨hk,c,hc,hcell⟩
 ·exact wpAny_Name (wpAny_loadName_local I.ok.kind hk hn hm fin) hd
 ·rcases hk with hk | hk
  ·exact wpAny_Name (wpAny_loadName_cell I.ok.kind hk hc hcell fin) hd
  ·exact wpAny_Name (wpAny_loadName_free I.ok.kind hk hc hcell fin hcd) hd
theorem C6 {i j pos}:PE X (.Constant (.int i) j pos) (tC (.int i)):=fun _ _ _ H _ I h=>wpAny_Constant_int ⟨.int i,H,I.tok _,⟨_,rfl⟩,h⟩
theorem Fq {b j pos}:PE X (.Constant (.bool b) j pos) (tC (.bl b)):=fun _ _ _ H _ I h=>Constant_bool ⟨.bl b,H,I,rfl,h⟩
theorem C5 {j pos}:PE X (.Constant .none j pos) (tC .non):=fun _ _ _ H _ I h=>Constant_none ⟨.non,H,I,rfl,h⟩
theorem C3 {x j pos}:PE X (.Constant (.str x) j pos) (tC (.str x)):=fun _ _ _ H _ I h=>Calls.Constant_str ⟨.str x,H,I.tok _,⟨_,rfl⟩,h⟩
def Gl (X:Cx) (x:Str):Prop:=X.env.kindOf x=some .globalImplicit
theorem lT {E:Value->Shared->Prop} {pins:List (Addr×Obj)} {s:Shared} {σ:St} {H:Hp} {x:Str} {u:Value} {pos:Pos} {Q:Value->Shared->Prop} (I:Inv X pins σ H s) (hg:Gl X x) (hm:X.mg x=some u) (h:Q u s)
  (hd:(x==("__debug__":Str))=false:=by decide):wpAny (model X.prog X.w) X.A (eval (.Name x pos) X.env) Q E s:=
 Calls.Name_function_global I.ok.kind hg (Calls.loadGlobal_global (by rw [I.ok.glob]; exact I.mod.glob.keeps I.bk) hm h) hd
theorem kG {E:Value->Shared->Prop} {pins:List (Addr×Obj)} {s:Shared} {σ:St} {H:Hp} {x:Str} {u:Value} {pos:Pos} {Q:Value->Shared->Prop} (I:Inv X pins σ H s) (hg:Gl X x) (hm:X.mg x=none) (hv:bootBuiltins x=some u) (h:Q u s)
  (hn:x ≠ "__name__":=by decide) (hd:(x==("__debug__":Str))=false:=by decide):wpAny (model X.prog X.w) X.A (eval (.Name x pos) X.env) Q E s:=by
 obtain ⟨mb,h1,h2⟩:=I.mod.blt
 exact Calls.Name_function_global I.ok.kind hg (Calls.loadGlobal_builtin (by rw [I.ok.glob]; exact I.mod.glob.keeps I.bk) hm (by rw [I.ok.blt]; exact h1.keeps I.bk) ((h2 x hn).trans hv) h) hd
theorem Av {x:Str} {v:V} {u:Value} {pos:Pos} (hg:Gl X x) (hm:X.mg x=some u) (r:RelV v u) (hd:(x==("__debug__":Str))=false:=by decide):PE X (.Name x pos) (tC v):=
 fun _ _ _ H _ I h=>lT I hg hm ⟨v,H,I,r,h⟩ hd
theorem AA {x:Str} {v:V} {u:Value} {pos:Pos} (hg:Gl X x) (hm:X.mg x=none) (hv:bootBuiltins x=some u) (r:RelV v u) (hn:x ≠ "__name__":=by decide) (hd:(x==("__debug__":Str))=false:=by decide):PE X (.Name x pos) (tC v):=
 fun _ _ _ H _ I h=>kG I hg hm hv ⟨v,H,I,r,h⟩ hn hd
variable {a b:Expr} {ta tb:TE} {pos:Pos}
def tB (t:TE):TT:=fun σ H Q=>t σ H fun x H1=>∃ c,x=.bl c/\Q c H1
theorem CT {e:Expr} {t:TE} (h:PE X e t) (he:∀ whole,isTrue e X.env whole=(do let v <- whole; standAt e.pos; holding [v] (truthy v)):=by intro _; rfl):PT X e (tB t):=by
 intro pins s σ H Q I hw
 refine isTrue_plain (cx (h pins s σ H _ I hw) fun v s1 ⟨x,H1,I1,r1,q1⟩=>?_) (he _)
 obtain ⟨d,rfl,q⟩:=q1
 cases r1
 exact wpAny_truthy_bool ⟨H1,I1,q⟩
variable {tA tB':TT} {rest:List Expr}
def HW (t u:TT):TT:=fun σ H Q=>t σ H fun c H1=>if c=true then u σ H1 Q else Q false H1
def Kt (t u:TT):TT:=fun σ H Q=>t σ H fun c H1=>if c=true then Q true H1 else u σ H1 Q
def HQ (t:TT):TT:=fun σ H Q=>t σ H fun c H1=>Q (!c) H1
theorem Aj (ha:PT X a tA):PW X (.BoolOp .And [a] pos) tA:=by
 intro wh pins s σ H Q I h
 refine isTrue_and (cx (ha pins s σ H Q I h) fun c s1 e=>?_)
 cases c with
 | true=>exact isTrue_and_nil e
 | false=>exact e
theorem CP (ha:PT X a tA):PW X (.BoolOp .Or [a] pos) tA:=by
 intro wh pins s σ H Q I h
 refine isTrue_or (cx (ha pins s σ H Q I h) fun c s1 e=>?_)
 cases c with
 | false=>exact isTrue_or_nil e
 | true=>exact e
theorem CS (ha:PT X a tA) (hb:PW X (.BoolOp .And (b::rest) pos) tB'):PW X (.BoolOp .And (a::b::rest) pos) (HW tA tB'):=by
 intro wh pins s σ H Q I h
 refine isTrue_and (cx (ha pins s σ H _ I h) fun c s1 ⟨H1,I1,q1⟩=>?_)
 cases c with
 | true=>exact hb wh pins s1 σ H1 Q I1 q1
 | false=>exact ⟨H1,I1,q1⟩
theorem Fi (ha:PT X a tA) (hb:PW X (.BoolOp .Or (b::rest) pos) tB'):PW X (.BoolOp .Or (a::b::rest) pos) (Kt tA tB'):=by
 intro wh pins s σ H Q I h
 refine isTrue_or (cx (ha pins s σ H _ I h) fun c s1 ⟨H1,I1,q1⟩=>?_)
 cases c with
 | true=>exact ⟨H1,I1,q1⟩
 | false=>exact hb wh pins s1 σ H1 Q I1 q1
theorem CU (ha:PT X a tA):PT X (.UnaryOp .Not a pos) (HQ tA):=by
 intro pins s σ H Q I h
 exact isTrue_not (ha pins s σ H (fun c H1=>Q (!c) H1) I h)
def E5 (ta tb:TE):TE:=fun σ H Q=>ta σ H fun x H1=>∃ c,x=.bl c/\if c=true then tb σ H1 Q else Q (.bl false) H1
def HN (ta tb:TE):TE:=fun σ H Q=>ta σ H fun x H1=>∃ c,x=.bl c/\if c=true then Q (.bl true) H1 else tb σ H1 Q
theorem C4 {op} {t:TE} (h:PE X a t):PE X (.BoolOp op [a] pos) t:=fun pins s σ H Q I hw=>BoolOp_one (h pins s σ H Q I hw)
theorem C7 (ha:PE X a ta) (hb:PE X (.BoolOp .And (b::rest) pos) tb):PE X (.BoolOp .And (a::b::rest) pos) (E5 ta tb):=by
 intro pins s σ H Q I h
 refine BoolOp_and (cx (ha pins s σ H _ I h) fun v s1 ⟨x,H1,I1,r1,q1⟩=>?_)
 obtain ⟨c,rfl,q1⟩:=q1
 cases r1
 refine wpAny_truthy_bool ?_
 cases c with
 | true=>exact hb pins s1 σ H1 Q I1 q1
 | false=>exact ⟨.bl false,H1,I1,rfl,q1⟩
theorem Fo (ha:PE X a ta) (hb:PE X (.BoolOp .Or (b::rest) pos) tb):PE X (.BoolOp .Or (a::b::rest) pos) (HN ta tb):=by
 intro pins s σ H Q I h
 refine BoolOp_or (cx (ha pins s σ H _ I h) fun v s1 ⟨x,H1,I1,r1,q1⟩=>?_)
 obtain ⟨c,rfl,q1⟩:=q1
 cases r1
 refine wpAny_truthy_bool ?_
 cases c with
 | false=>exact hb pins s1 σ H1 Q I1 q1
 | true=>exact ⟨.bl true,H1,I1,rfl,q1⟩
def Ku (t:TT) (ta tb:TE):TE:=fun σ H Q=>t σ H fun c H1=>if c=true then ta σ H1 Q else tb σ H1 Q
theorem xG {c:Expr} (hc:PT X c tA) (ha:PE X a ta) (hb:PE X b tb):PE X (.IfExp c a b pos) (Ku tA ta tb):=by
 intro pins s σ H Q I h
 refine wpAny_IfExp (cx (hc pins s σ H _ I h) fun d s1 ⟨H1,I1,q1⟩=>?_)
 cases d with
 | true=>exact ha pins s1 σ H1 Q I1 q1
 | false=>exact hb pins s1 σ H1 Q I1 q1
end
end L2
namespace L2
open PySem PySem.Spec PyProof.Rows
def SqL (K:PySem.W.Frag) (H:Hp) (a:Addr) (xs:List V):Prop:=
 Rd H a (.lst xs) \/
  ∃ (o:Obj) (its:Array Value) (n:Nat),K.lookup a=some o/\o.cls=.type "list" /\ o.dict=none/\o.data=.seq its n/\its.size<=sizeLine/\Vals xs its.toList
def SqT (K:PySem.W.Frag) (H:Hp) (a:Addr) (xs:List V):Prop:=
 Rd H a (.tup xs) \/
  ∃ (o:Obj) (its:Array Value) (n:Nat),K.lookup a=some o/\o.cls=.type "tuple" /\ o.data=.seq its n/\its.size<=sizeLine/\Vals xs its.toList/\o.dict=none
noncomputable def Jw:Value->Option V
 | .none=>some .non
 | .bool b=>some (.bl b)
 | .int i _=>some (.int i)
 | .str x _=>some (.str x)
 | .bytes b _=>some (.byt b)
 | .float b _=>some (.flt b)
 | .ref a=>some (.ref a)
 | .type n=>some (.ty n)
 | _=>none
theorem RelV.abs {x:V} {u:Value} (r:RelV x u):Jw u=some x:=by
 cases x with
 | non=>cases r; rfl
 | bl _=>cases r; rfl
 | int _=>obtain ⟨t,rfl⟩:=r; rfl
 | str _=>obtain ⟨t,rfl⟩:=r; rfl
 | byt _=>obtain ⟨t,rfl⟩:=r; rfl
 | flt _=>obtain ⟨t,rfl⟩:=r; rfl
 | ref _=>cases r; rfl
 | ty _=>cases r; rfl
theorem RelV.inj {x y:V} {u:Value} (r:RelV x u) (q:RelV y u):x=y:=Option.some.inj (r.abs.symm.trans q.abs)
theorem Vals.inj:∀ {xs ys:List V} {us:List Value},Vals xs us->Vals ys us->xs=ys
 | _,_,_,.nil,.nil=>rfl
 | _,_,_,.cons r t,.cons r' t'=>by rw [r.inj r',Vals.inj t t']
section
variable {X:Cx} {pins:List (Addr×Obj)} {σ:St} {H:Hp} {s:Shared} {a:Addr} {xs ys:List V}
theorem SqL.of {K:PySem.W.Frag} (h:H a=some (.lst xs)):SqL K H a xs:=.inl (.inl h)
theorem SqT.of {K:PySem.W.Frag} (h:H a=some (.tup xs)):SqT K H a xs:=.inl (.inl h)
theorem Inv.list (I:Inv X pins σ H s) (h:SqL X.K H a xs):∃ its:List Value,Vals xs its/\PlainL s.heap a its.toArray/\xs.length<=sizeLine:=by
 rcases h with h | ⟨o,its,n,hk,hc,hd,hs,hz,r⟩
 ·obtain ⟨z,its,n,r,e⟩:=h.ok I.hok
  exact ⟨its,r,⟨_,n,e,rfl,rfl,rfl⟩,z⟩
 ·refine ⟨its.toList,r,⟨o,n,I.kIn a o hk,hc,hd,by simpa using hs⟩,?_⟩
  have e:=r.length
  simp only [Array.length_toList] at e
  omega
theorem Inv.tuple (I:Inv X pins σ H s) (h:SqT X.K H a xs):∃ its:List Value,Vals xs its/\IsTup s.heap a its.toArray/\xs.length<=sizeLine:=by
 rcases h with h | ⟨o,its,n,hk,hc,hs,hz,r,hd⟩
 ·obtain ⟨z,its,r,p⟩:=h.ok I.hok
  exact ⟨its,r,p.1,z⟩
 ·refine ⟨its.toList,r,⟨o,I.kIn a o hk,hc,n,by simpa using hs⟩,?_⟩
  have e:=r.length
  simp only [Array.length_toList] at e
  omega
theorem Inv.list_inj (I:Inv X pins σ H s) (h:SqL X.K H a xs) (h':SqL X.K H a ys):xs=ys:=by
 obtain ⟨its,r,⟨o,n,e,_,_,d⟩,_⟩:=I.list h
 obtain ⟨its',r',⟨o',n',e',_,_,d'⟩,_⟩:=I.list h'
 rw [e] at e'; cases e'
 rw [d] at d'
 injection d' with d1 _
 have:its=its':=by simpa using congrArg Array.toList d1
 subst this
 exact r.inj r'
theorem Inv.tuple_inj (I:Inv X pins σ H s) (h:SqT X.K H a xs) (h':SqT X.K H a ys):xs=ys:=by
 obtain ⟨its,r,⟨o,e,_,n,d⟩,_⟩:=I.tuple h
 obtain ⟨its',r',⟨o',e',_,n',d'⟩,_⟩:=I.tuple h'
 rw [e] at e'; cases e'
 rw [d] at d'
 injection d' with d1 _
 have:its=its':=by simpa using congrArg Array.toList d1
 subst this
 exact r.inj r'
end
abbrev Cx.wish (X:Cx) (E:Value->Shared->Prop):Cx:={ X with xe:=E }
abbrev Cx.nox (X:Cx):Cx:=X.wish fun _ _=>False
theorem Cx.Ok.wish {X:Cx} (ok:X.Ok) (E:Value->Shared->Prop):(X.wish E).Ok:=
 ⟨ok.mod,ok.kind,ok.glob,ok.blt,ok.above,ok.inj,ok.has,ok.cab,ok.hd,ok.frames,ok.stk,ok.exf,ok.bs,ok.bsz,ok.noex,ok.exfs,ok.funs,ok.frf⟩
theorem Cx.Ok.unwish {X:Cx} {E:Value->Shared->Prop} (ok:(X.wish E).Ok):X.Ok:=
 ⟨ok.mod,ok.kind,ok.glob,ok.blt,ok.above,ok.inj,ok.has,ok.cab,ok.hd,ok.frames,ok.stk,ok.exf,ok.bs,ok.bsz,ok.noex,ok.exfs,ok.funs,ok.frf⟩
section
variable {X:Cx} {pins:List (Addr×Obj)} {σ:St} {H:Hp} {s:Shared} {E:Value->Shared->Prop}
theorem Inv.wish (I:Inv X pins σ H s) (E:Value->Shared->Prop):Inv (X.wish E) pins σ H s:=⟨I.ok.wish E,I.os,I.bare,I.base,I.loc,I.cell,I.free,I.freeC,I.pin,I.hok,I.len⟩
theorem Inv.unwish (I:Inv (X.wish E) pins σ H s):Inv X pins σ H s:=⟨I.ok.unwish,I.os,I.bare,I.base,I.loc,I.cell,I.free,I.freeC,I.pin,I.hok,I.len⟩
theorem SP.unwish {D:Ends} {f:Flow} {s':Shared} (h:SP (X.wish E) pins D f s'):SP X pins D f s':=by
 cases f with
 | next=>obtain ⟨σ',H',I,q⟩:=h; exact ⟨σ',H',I.unwish,q⟩
 | brk=>obtain ⟨σ',H',I,q⟩:=h; exact ⟨σ',H',I.unwish,q⟩
 | cont=>obtain ⟨σ',H',I,q⟩:=h; exact ⟨σ',H',I.unwish,q⟩
 | ret u=>obtain ⟨v,σ',H',I,r,q⟩:=h; exact ⟨v,σ',H',I.unwish,r,q⟩
theorem PE.nox {e:Expr} {t:TE} (h:PE X.nox e t):PE X e t:=fun pins s σ H Q I hw=>
 wpAny_mono (h pins s σ H Q (I.wish _) hw) (fun _ _ ⟨v,H',I',r,q⟩=>⟨v,H',I'.unwish,r,q⟩) fun _ _ z=>False.elim z
theorem PT.nox {e:Expr} {t:TT} (h:PT X.nox e t):PT X e t:=fun pins s σ H Q I hw=>
 wpAny_mono (h pins s σ H Q (I.wish _) hw) (fun _ _ ⟨H',I',q⟩=>⟨H',I'.unwish,q⟩) fun _ _ z=>False.elim z
theorem PSs.nox {st:List Stmt} {t:TS} (h:PSs X.nox st t):PSs X st t:=fun pins s σ H D I hw=>
 wpAny_mono (h pins s σ H D (I.wish _) hw) (fun _ _ q=>q.unwish) fun _ _ z=>False.elim z
end
section
variable {X:Cx} {st:Stmt} {rest:List Stmt} {t u:TS} {e:Expr} {te:TE} {pos:Pos}
def EY:TS:=fun D σ H=>D.nx σ H
def HL (t u:TS):TS:=fun D σ H=>t { D with nx:=u D } σ H
theorem Am:PSs X [] EY:=fun _ _ σ H _ I h=>wpAny_execs_nil ⟨σ,H,I,h⟩
theorem rj (h1:PS X st t) (h2:PSs X rest u):PSs X (st::rest) (HL t u):=by
 intro pins s σ H D I h
 refine wpAny_execs_cons (cx (h1 pins s σ H { D with nx:=u D } I h) fun f s1 q=>?_)
 cases f with
 | next=>
  obtain ⟨σ',H',I',q⟩:=q
  exact h2 pins s1 σ' H' D I' q
 | ret v=>exact q
 | brk=>exact q
 | cont=>exact q
theorem Al (h1:PS X st t):PSs X [st] t:=by
 intro pins s σ H D I h
 refine wpAny_execs_cons (cx (h1 pins s σ H D I h) fun f s1 q=>?_)
 cases f with
 | next=>exact wpAny_execs_nil q
 | ret v=>exact q
 | brk=>exact q
 | cont=>exact q
theorem Inv.quiet {pins:List (Addr×Obj)} {σ:St} {H:Hp} {s:Shared} (I:Inv X pins σ H s):interactive X.env=false:=by simp [interactive,I.ok.kind]
def EZ (te:TE):TS:=fun D σ H=>te σ H fun _ H1=>D.nx σ H1
theorem uY (he:PE X e te) (hs:swapsWith e none pos.line X.env=pure false:=by rfl):PS X (.Expr e pos) (EZ te):=by
 intro pins s σ H D I h
 exact wpAny_Expr_any (cx (he pins s σ H _ I h) fun v s1 ⟨x,H1,I1,r1,q1⟩=>⟨σ,H1,I1,q1⟩) I.quiet hs
def HM (te:TE):TS:=fun D σ H=>te σ H D.rt
theorem CV (he:PE X e te):PS X (.Return (some e) pos) (HM te):=by
 intro pins s σ H D I h
 exact wpAny_Return_some (cx (he pins s σ H _ I h) fun v s1 ⟨x,H1,I1,r1,q1⟩=>⟨x,σ,H1,I1,r1,q1⟩)
def HU (c:TT) (t u:TS):TS:=fun D σ H=>c σ H fun b H1=>if b=true then t D σ H1 else u D σ H1
theorem BY {c:Expr} {a b:List Stmt} {tc:TT} (hc:PT X c tc) (ha:PSs X a t) (hb:PSs X b u):PS X (.If c a b pos) (HU tc t u):=by
 intro pins s σ H D I h
 refine wpAny_If (cx (hc pins s σ H _ I h) fun d s1 ⟨H1,I1,q1⟩=>?_)
 cases d with
 | true=>exact ha pins s1 σ H1 D I1 q1
 | false=>exact hb pins s1 σ H1 D I1 q1
end
abbrev TG:=V->St->Hp->(St->Hp->Prop)->Prop
abbrev BP:=List V->St->Hp->(St->Hp->Prop)->Prop
def PG (X:Cx) (target:Expr) (t:TG):Prop:=
 ∀ (pins:List (Addr×Obj)) (s:Shared) (σ:St) (H:Hp) (v:V) (u:Value) (Q:St->Hp->Prop),Inv X pins σ H s->RelV v u->t v σ H Q ->
  wpAny (model X.prog X.w) X.A (assign target X.env u) (fun _ s'=>∃ σ' H',Inv X pins σ' H' s'/\Q σ' H') X.xe s
def PGs (X:Cx) (ts:List Expr) (t:BP):Prop:=
 ∀ (pins:List (Addr×Obj)) (s:Shared) (σ:St) (H:Hp) (vs:List V) (us:List Value) (Q:St->Hp->Prop),Inv X pins σ H s->Vals vs us->t vs σ H Q ->
  wpAny (model X.prog X.w) X.A (assignInOrder ((assignEach ts X.env).map (·.2)) us) (fun _ s'=>∃ σ' H',Inv X pins σ' H' s'/\Q σ' H') X.xe s
section
variable {X:Cx} {pos:Pos}
def yA (i:Nat):TG:=fun v σ H Q=>Q (σ.set i (some v)) H
theorem cG {i:Nat} {x:Str} (hN:X.N.Nodup) (hi:X.N[i]? = some x) (hx:wR X.env.scope x) (hf:X.fn x=true\/X.env.scope.names.lookup x=some .local:=by first | exact .inl rfl | exact .inr rfl | assumption):PG X (.Name x pos) (yA i):=by
 intro pins s σ H v u Q I r h
 exact wpAny_assign_Name (qT I hN hi hx r (fun s' I'=>⟨_,H,I',h⟩) hf)
noncomputable def Jd:BP:=fun vs σ H Q=>vs=[]/\Q σ H
def Gu (t:TG) (u:BP):BP:=fun vs σ H Q=>∃ v r,vs=v::r/\t v σ H fun σ' H'=>u r σ' H' Q
theorem Au:PGs X [] Jd:=by
 intro pins s σ H vs us Q I r h
 obtain ⟨e,h⟩:=h
 subst e
 cases r
 exact assignInOrder_nil ⟨σ,H,I,h⟩
theorem xC {e:Expr} {es:List Expr} {t:TG} {u:BP} (h1:PG X e t) (h2:PGs X es u)
  (hs:(assignEach (e::es) X.env).map (·.2)=assign e X.env::(assignEach es X.env).map (·.2):=by rfl):PGs X (e::es) (Gu t u):=by
 intro pins s σ H vs us Q I r h
 obtain ⟨v,vr,e1,h⟩:=h
 subst e1
 cases r with
 | cons r rr=>
  rw [hs]
  refine assignInOrder_cons (cx (h1 pins s σ H _ _ _ I r h) fun _ s1 ⟨σ1,H1,I1,q1⟩=>?_)
  exact h2 pins s1 σ1 H1 _ _ Q I1 rr q1
def Jb (K:PySem.W.Frag) (n:Nat) (t:BP):TG:=fun v σ H Q=>∃ a xs,v=.ref a/\SqT K H a xs/\xs.length=n/\t xs σ H Q
theorem C0 {es:List Expr} {k:Nat} {t:BP} {n:Nat} (hc:X.calm=true) (h:PGs X es t)
  (hn:(assignEach es X.env).length=n:=by rfl) (hst:(assignEach es X.env).findIdx? (·.1)=none:=by rfl):PG X (.Tuple es k pos) (Jb X.K n t):=by
 intro pins s σ H v u Q I r hw
 obtain ⟨a,xs,e1,hq,hl,hw⟩:=hw
 subst e1
 cases r
 obtain ⟨its,rv,ht,hz⟩:=I.tuple hq
 refine assign_Tuple_tuple (I.ok.hd hc) ht (by simp [hn,<- hl,rv.length]) hst fun h' hx=>?_
 have I1:Inv X pins σ H { s with heap:=h' }:=I.kept (t':=s.toks) fun b o e=>hx b o (Nat.ne_of_lt (Heap.lt_size e)) e
 exact h pins _ σ H xs _ Q I1 (by simpa using rv) hw
def E4 (te:TE) (g:TG):TS:=fun D σ H=>te σ H fun x H1=>g x σ H1 D.nx
theorem CY {tg e:Expr} {te:TE} {g:TG} (he:PE X e te) (hg:PG X tg g) (hs:swapsWithSole [tg] e pos.line X.env=pure false:=by rfl) (hw:swappedStores [tg] e X.env=pure none:=by rfl)
  (h1:(assignEach [tg] X.env).map (·.2)=[assign tg X.env]:=by rfl):PS X (.Assign [tg] e pos) (E4 te g):=by
 intro pins s σ H D I h
 refine wpAny_Assign_stores (cx (he pins s σ H _ I h) fun v s1 ⟨x,H1,I1,r1,q1⟩=>?_) hs hw
 rw [h1]
 exact cx (hg pins s1 σ H1 x v _ I1 r1 q1) fun _ s2 q=>q
theorem tP {i:Nat} {x:Str} {e:Expr} {te:TE} {pos':Pos} (hN:X.N.Nodup) (hi:X.N[i]? = some x) (hx:wR X.env.scope x) (he:PE X e te) (hs:swapsWith e (some (.Name x pos')) pos.line X.env=pure false:=by rfl) (hf:X.fn x=true\/X.env.scope.names.lookup x=some .local:=by first | exact .inl rfl | exact .inr rfl | assumption) :
  PS X (.Assign [.Name x pos'] e pos) (E4 te (yA i)):=by
 intro pins s σ H D I h
 refine wpAny_Assign_Name (cx (he pins s σ H _ I h) fun v s1 ⟨y,H1,I1,r1,q1⟩=>?_) hs
 exact qT I1 hN hi hx r1 (fun s2 I2=>⟨_,H1,I2,q1⟩) hf
end
section
variable {X:Cx} {pos:Pos}
def CB (c:TT) (tb:TS):TS:=fun D σ H=>∃ W:Nat->St->Hp->Prop,(∃ m,W m σ H)/\∀ m σ H,W m σ H ->
 c σ H fun b H1=>if b=true then ∃ N:St->Hp->Prop,(∀ σ' H',N σ' H'->∃ m',m'<m/\W m' σ' H')/\tb { D with nx:=N,ct:=N,bk:=D.nx } σ H1 else D.nx σ H1
theorem xy {c:Expr} {body:List Stmt} {tc:TT} {tb:TS} (hp:PassesOwn (model X.prog X.w) X.A X.env X.xe) (hc:PT X c tc) (hb:PSs X body tb):PS X (.While c body [] pos) (CB tc tb):=by
 intro pins s σ H D I h
 obtain ⟨W,⟨m0,w0⟩,turn⟩:=h
 refine wpAny_While (codeAny_whileLoop (fun n s'=>∃ σ' H',Inv X pins σ' H' s'/\W n σ' H') ?_ m0 ⟨σ,H,I,w0⟩)
 rintro n s1 ⟨σ1,H1,I1,w1⟩
 refine wpAny_passesOwn hp (cx (hc pins s1 σ1 H1 _ I1 (turn n σ1 H1 w1)) fun b s2 ⟨H2,I2,q2⟩=>?_)
 cases b with
 | true=>
  obtain ⟨N,hN,q2⟩:=q2
  rw [if_pos rfl]
  refine wpAny_passesOwn hp (cx (hb pins s2 σ1 H2 _ I2 q2) fun f s3 q3=>?_)
  cases f with
  | next=>
   obtain ⟨σ3,H3,I3,n3⟩:=q3
   obtain ⟨m',hm,w3⟩:=hN σ3 H3 n3
   exact ⟨m',hm,σ3,H3,I3,w3⟩
  | cont=>
   obtain ⟨σ3,H3,I3,n3⟩:=q3
   obtain ⟨m',hm,w3⟩:=hN σ3 H3 n3
   exact ⟨m',hm,σ3,H3,I3,w3⟩
  | brk=>exact q3
  | ret v=>exact q3
 | false=>
  rw [if_neg Bool.false_ne_true]
  exact wpAny_execs_nil ⟨σ1,H2,I2,q2⟩
end
structure It where
 go:Nat->Hp->Prop
 yld:Nat->Hp->V->Hp->Prop
 stop:Nat->Hp->Prop
def ju (X:Cx) (pins:List (Addr×Obj)) (H:Hp) (b:Addr):Prop:=
 H b=none/\b≠X.env.locals/\b ∉ X.fs/\(b∈X.ex\/X.s₀.heap.objs.size<=b)/\(∀ x c,X.env.cells.lookup x=some c->c≠b)/\∀ p∈X.pn++pins,p.1≠b
theorem Inv.fpOk {X:Cx} {pins:List (Addr×Obj)} {σ:St} {H H':Hp} {s:Shared} {b:Addr} (I:Inv X pins σ H s) (hb:s.heap.objs.size<=b) (hn:H' b=none):ju X pins H' b:=by
 refine ⟨hn,Nat.ne_of_gt (Nat.lt_of_lt_of_le I.lt hb),I.nofs hb,.inr (Nat.le_trans I.sz hb),fun x c e z=>?_,fun p hp z=>?_⟩
 ·obtain ⟨v,q⟩:=I.cell x c e
  exact absurd (Nat.lt_of_lt_of_le q.lt (by rw [z]; exact hb)) (Nat.lt_irrefl _)
 ·exact absurd (Nat.lt_of_lt_of_le (Heap.lt_size (I.pin p hp).1) (by rw [z]; exact hb)) (Nat.lt_irrefl _)
structure TurnG (Cm:Cx->Prop) (P:Program) (w:World) (K:PySem.W.Frag) (tg:Expr) (J:It) (fp:List Addr) (it:Addr) (tn:Nat->Heap->Prop):Prop where
 mem:it∈fp
 obj:∀ i h,tn i h->∀ b∈fp,∃ o,h.get? b=some o/\∀ v,o.data≠.cell v
 keep:∀ i h h',tn i h->(∀ b∈fp,∀ o,h.get? b=some o->h'.get? b=some o)->tn i h'
 item:∀ (X:Cx),X.prog=P->X.w=w->X.K=K->Cm X->∀ (i:Nat) (pins:List (Addr×Obj)) (s:Shared) (σ:St) (H:Hp) (E:Value->Shared->Prop),Inv X pins σ H s->(∀ b∈fp,ju X pins H b)->tn i s.heap->J.go i H ->
  wpAny (model P w) X.A (pyNext (.ref it)) (fun r s1=>∃ u,r=some u /\
   wpAny (model P w) X.A (letOwnedTupleGo tg (.ref it) u) (fun _ s2=>∃ x H',Inv X pins σ H' s2/\RelV x u/\J.yld i H x H'/\tn (i+1) s2.heap/\∀ b∈fp,H' b=none) E s1) E s
 done:∀ (X:Cx),X.prog=P->X.w=w->X.K=K->Cm X->∀ (i:Nat) (pins:List (Addr×Obj)) (s:Shared) (σ:St) (H:Hp) (E:Value->Shared->Prop),Inv X pins σ H s->(∀ b∈fp,ju X pins H b)->tn i s.heap->J.stop i H ->
  wpAny (model P w) X.A (pyNext (.ref it)) (fun r s1=>r=none/\Inv X pins σ H s1) E s
 self:∀ (A:Around) (i:Nat) (s:Shared) (Q:Value->Shared->Prop) (E:Value->Shared->Prop),tn i s.heap->Q (.ref it) s->wpAny (model P w) A (pyIter (.ref it)) Q E s
abbrev y8 (P:Program) (w:World) (K:PySem.W.Frag) (tg:Expr) (J:It) (fp:List Addr) (it:Addr) (tn:Nat->Heap->Prop):Prop:=TurnG (fun X=>X.calm=true) P w K tg J fp it tn
abbrev TI:=St->Hp->(It->Hp->Prop)->Prop
def Kg (X:Cx) (pins:List (Addr×Obj)) (σ:St) (tg:Expr) (R:It->Hp->Prop) (itv:Value) (s2:Shared):Prop:=
 ∃ (it:Addr) (fp:List Addr) (tn:Nat->Heap->Prop) (J:It) (H':Hp),itv=.ref it/\Inv X pins σ H' s2/\y8 X.prog X.w X.K tg J fp it tn/\tn 0 s2.heap/\(∀ b∈fp,ju X pins H' b)/\R J H'
def PI (X:Cx) (tg iter:Expr) (wi:TI):Prop:=
 ∀ (pins:List (Addr×Obj)) (s:Shared) (σ:St) (H:Hp) (R:It->Hp->Prop),Inv X pins σ H s->wi σ H R ->
  wpAny (model X.prog X.w) X.A (eval iter X.env) (fun v s1=>wpAny (model X.prog X.w) X.A (pyIter v) (Kg X pins σ tg R) X.xe s1) X.xe s
theorem yy {M:Model} {A:Around} {E:Value->Shared->Prop} {s:Shared} {tg:Expr} {it:Addr} {u:Value} {o:Obj} {n:String} {vs:Array Value} {Q:Unit->Shared->Prop} (ho:s.heap.get? it=some o) (hc:o.cls=.type n) (hd:o.data=.fields vs)
  (hn:["enumerate","zip","dict_itemiterator","dict_reverseitemiterator","odict_iterator","itertools.zip_longest","itertools.pairwise"].contains n=false) (hQ:Q () s):wpAny M A (letOwnedTupleGo tg (.ref it) u) Q E s:=by
 unfold letOwnedTupleGo
 cases tg <;> first
  | exact wpAny_pure hQ
  | (cases u <;> first
    | exact wpAny_pure hQ
    | (refine wpAny_bind (wpAny_load ho ?_)
       rw [hc,hd]
       show wpAny M A (if (["enumerate","zip","dict_itemiterator","dict_reverseitemiterator","odict_iterator","itertools.zip_longest","itertools.pairwise"].contains n&&vs[0]? == some (rawInt _))=true then _ else _) Q E s
       rw [if_neg (by intro h; rw [hn,Bool.false_and] at h; cases h)]
       exact wpAny_pure hQ))
noncomputable def Kj (K:PySem.W.Frag) (a:Addr):It:=
 ⟨fun i H=>∃ xs x,SqL K H a xs/\xs[i]? = some x,fun i H x H'=>H'=H/\∀ xs,SqL K H a xs->xs[i]? = some x,fun i H=>∃ xs,SqL K H a xs/\xs.length<=i⟩
noncomputable def Ki (K:PySem.W.Frag) (a:Addr):It:=
 ⟨fun i H=>∃ xs x,SqT K H a xs/\xs[i]? = some x,fun i H x H'=>H'=H/\∀ xs,SqT K H a xs->xs[i]? = some x,fun i H=>∃ xs,SqT K H a xs/\xs.length<=i⟩
noncomputable def Em (lo:Int) (n:Nat):It:=⟨fun i _=>i<n,fun i H x H'=>H'=H/\x=.int (lo+i),fun i _=>n<=i⟩
theorem vK {P:Program} {w:World} {K:PySem.W.Frag} {tg:Expr} (a it:Addr):y8 P w K tg (Kj K a) [it] it (fun i h=>h.IsListIter it a i) where
 mem:=by simp
 obj:=fun i h st b hb=>by
  have e:b=it:=by simpa using hb
  subst e
  obtain ⟨o,e,c,d⟩:=st
  exact ⟨o,e,fun v z=>by rw [d] at z; cases z⟩
 keep:=fun i h h' st k=>st.at fun o e=>k it (by simp) o e
 item:=by
  intro X hP hw hK hc i pins s σ H E I hf st hg
  subst hP hw hK
  obtain ⟨xs,x,hq,hx⟩:=hg
  obtain ⟨its,rv,p,hz⟩:=I.list hq
  obtain ⟨u,hu,ru⟩:=rv.get hx
  obtain ⟨f0,f1,f2,f3,f4,f5⟩:=hf it (by simp)
  refine wpAny_pyNext_list_item st p.isList (x:=u) (by simpa using hu) fun h' st' sb=>?_
  have I1:Inv X pins σ H { s with heap:=h' }:=I.turned (t':=s.toks) (fun b o hb e=>(sb.2 b hb).trans e) f0 f1 f3 f4 f5
  obtain ⟨o,e,c,d⟩:=id st'
  exact ⟨u,rfl,yy (s:={ s with heap:=h' }) e c d (by decide) ⟨x,H,I1,ru,⟨rfl,fun ys hy=>by rw [I.list_inj hy hq]; exact hx⟩,st',fun b hb=>(hf b hb).1⟩⟩
 done:=by
  intro X hP hw hK hc i pins s σ H E I hf st hg
  subst hP hw hK
  obtain ⟨xs,hq,hx⟩:=hg
  obtain ⟨its,rv,p,hz⟩:=I.list hq
  obtain ⟨f0,f1,f2,f3,f4,f5⟩:=hf it (by simp)
  have hl:=rv.length
  exact wpAny_pyNext_list_end (I.ok.hd hc) st p.isList (by simp; omega) fun h' eb=>⟨rfl,I.turned (t':=s.toks) (fun b o hb e=>eb b o hb e) f0 f1 f3 f4 f5⟩
 self:=fun _ _ _ _ _ st h=>wpAny_pyIter_listiter st h
theorem tw {P:Program} {w:World} {K:PySem.W.Frag} {tg:Expr} (a it:Addr):y8 P w K tg (Ki K a) [it] it (fun i h=>h.IsTupleIter it a i) where
 mem:=by simp
 obj:=fun i h st b hb=>by
  have e:b=it:=by simpa using hb
  subst e
  obtain ⟨o,e,c,d⟩:=st
  exact ⟨o,e,fun v z=>by rw [d] at z; cases z⟩
 keep:=fun i h h' st k=>st.at fun o e=>k it (by simp) o e
 item:=by
  intro X hP hw hK hc i pins s σ H E I hf st hg
  subst hP hw hK
  obtain ⟨xs,x,hq,hx⟩:=hg
  obtain ⟨its,rv,p,hz⟩:=I.tuple hq
  obtain ⟨u,hu,ru⟩:=rv.get hx
  obtain ⟨f0,f1,f2,f3,f4,f5⟩:=hf it (by simp)
  refine wpAny_pyNext_tuple_item st (show s.heap.IsTuple a its.toArray from p) (x:=u) (by simpa using hu) fun h' st' sb=>?_
  have I1:Inv X pins σ H { s with heap:=h' }:=I.turned (t':=s.toks) (fun b o hb e=>(sb.2 b hb).trans e) f0 f1 f3 f4 f5
  obtain ⟨o,e,c,d⟩:=id st'
  exact ⟨u,rfl,yy (s:={ s with heap:=h' }) e c d (by decide) ⟨x,H,I1,ru,⟨rfl,fun ys hy=>by rw [I.tuple_inj hy hq]; exact hx⟩,st',fun b hb=>(hf b hb).1⟩⟩
 done:=by
  intro X hP hw hK hc i pins s σ H E I hf st hg
  subst hP hw hK
  obtain ⟨xs,hq,hx⟩:=hg
  obtain ⟨its,rv,p,hz⟩:=I.tuple hq
  obtain ⟨f0,f1,f2,f3,f4,f5⟩:=hf it (by simp)
  have hl:=rv.length
  exact wpAny_pyNext_tuple_end (I.ok.hd hc) st (show s.heap.IsTuple a its.toArray from p) (by simp; omega) fun h' eb=>⟨rfl,I.turned (t':=s.toks) (fun b o hb e=>eb b o hb e) f0 f1 f3 f4 f5⟩
 self:=fun _ _ _ _ _ st h=>wpAny_pyIter_tupleiter st h
theorem tz {P:Program} {w:World} {K:PySem.W.Frag} {tg:Expr} (it:Addr) (lo:Int) (n:Nat):y8 P w K tg (Em lo n) [it] it (fun i h=>IsRangeIter h it (lo+(i:Nat)*1) ((n:Int)-(i:Nat)) 1) where
 mem:=by simp
 obj:=fun i h st b hb=>by
  have e:b=it:=by simpa using hb
  subst e
  exact ⟨_,st,fun v z=>by
   have z':Data.fields _=Data.cell v:=z
   cases z'⟩
 keep:=fun i h h' st k=>k it (by simp) _ st
 item:=by
  intro X hP hw hK hc i pins s σ H E I hf st hg
  subst hP hw hK
  obtain ⟨f0,f1,f2,f3,f4,f5⟩:=hf it (by simp)
  have W:=Walks.range (prog:=X.prog) (w:=X.w) (I.ok.hd hc) it lo 1 n
  refine W.item i s _ _ hg st fun v h' tk hv st' kk=>?_
  obtain ⟨t,rfl⟩:=hv
  have I1:Inv X pins σ H { s with heap:=h',toks:=tk }:=I.turned (fun b o hb e=>kk b o (by simpa using hb) e) f0 f1 f3 f4 f5
  refine ⟨_,rfl,yy (s:={ s with heap:=h',toks:=tk }) (n:="range_iterator") st' rfl rfl (by decide) ⟨.int (lo+i),H,I1,⟨t,?_⟩,⟨rfl,rfl⟩,st',fun b hb=>(hf b hb).1⟩⟩
  rw [Int.mul_one]
 done:=by
  intro X hP hw hK hc i pins s σ H E I hf st hg
  subst hP hw hK
  obtain ⟨f0,f1,f2,f3,f4,f5⟩:=hf it (by simp)
  exact wpAny_pyNext_range_end (I.ok.hd hc) st (by have:n<=i:=hg; omega) fun h' eb=>⟨rfl,I.turned (t':=s.toks) (fun b o hb e=>eb b o hb e) f0 f1 f3 f4 f5⟩
 self:=fun _ _ _ _ _ st h=>wpAny_pyIter_rangeiter st h
end L2
namespace L2
open PySem PySem.Spec PyProof.Rows
section
variable {X:Cx} {tg:Expr}
def Gp (K:PySem.W.Frag) (tl:TE):TI:=fun σ H R=>tl σ H fun x H1=>∃ a,x=.ref a/\(∃ xs,SqL K H1 a xs)/\R (Kj K a) H1
def IY (K:PySem.W.Frag) (tl:TE):TI:=fun σ H R=>tl σ H fun x H1=>∃ a,x=.ref a/\(∃ xs,SqT K H1 a xs)/\R (Ki K a) H1
theorem At {l:Expr} {tl:TE} (hl:PE X l tl):PI X tg l (Gp X.K tl):=by
 intro pins s σ H R I h
 refine cx (hl pins s σ H _ I h) fun v s1 ⟨x,H1,I1,r1,q1⟩=>?_
 obtain ⟨a,e,⟨xs,hq⟩,q⟩:=q1
 subst e
 cases r1
 obtain ⟨its,rv,p,hz⟩:=I1.list hq
 refine wpAny_pyIter_list p.isList ?_
 refine ⟨s1.heap.objs.size,[s1.heap.objs.size],_,_,H1,rfl,I1.kept (t':=s1.toks) fun b o e=>Heap.get?_push_of_some _ e,vK a _,⟨_,Heap.get?_push_size _ rfl,rfl,rfl⟩,fun b hb=>?_,q⟩
 have e:b=s1.heap.objs.size:=by simpa using hb
 subst e
 exact I1.fpOk (Nat.le_refl _) (I1.hok.fresh (Nat.le_refl _))
theorem CZ {l:Expr} {tl:TE} (hl:PE X l tl):PI X tg l (IY X.K tl):=by
 intro pins s σ H R I h
 refine cx (hl pins s σ H _ I h) fun v s1 ⟨x,H1,I1,r1,q1⟩=>?_
 obtain ⟨a,e,⟨xs,hq⟩,q⟩:=q1
 subst e
 cases r1
 obtain ⟨its,rv,p,hz⟩:=I1.tuple hq
 refine wpAny_pyIter_tuple (show s1.heap.IsTuple a its.toArray from p) ?_
 refine ⟨s1.heap.objs.size,[s1.heap.objs.size],_,_,H1,rfl,I1.kept (t':=s1.toks) fun b o e=>Heap.get?_push_of_some _ e,tw a _,⟨_,Heap.get?_push_size _ rfl,rfl,rfl⟩,fun b hb=>?_,q⟩
 have e:b=s1.heap.objs.size:=by simpa using hb
 subst e
 exact I1.fpOk (Nat.le_refl _) (I1.hok.fresh (Nat.le_refl _))
theorem rg {pins:List (Addr×Obj)} {σ:St} {H:Hp} {s:Shared} {R:It->Hp->Prop} {E:Value->Shared->Prop} {lo hi:Int} {t u v:Tok} {tk:Nat} (I:Inv X pins σ H s) (h1:-(2 ^ 62)<=lo) (h2:lo<2 ^ 62) (h3:-(2 ^ 62)<=hi) (h4:hi<2 ^ 62)
  (q:R (Em lo (hi-lo).toNat) H):wpAny (model X.prog X.w) X.A (pyIter (.ref s.heap.objs.size)) (Kg X pins σ tg R) E { s with heap:=s.heap.push { cls:=.type "range",data:=.fields #[.int lo t,.int hi u,.int 1 v] },toks:=tk }:=by
 refine wpAny_pyIter_range (IsRange.new ..) (small_one h1 h2 h3 h4) ?_
 have I1:Inv X pins σ H { s with heap:=s.heap.push { cls:=.type "range",data:=.fields #[.int lo t,.int hi u,.int 1 v] },toks:=tk }:=I.kept fun b o e=>Heap.get?_push_of_some _ e
 refine ⟨(s.heap.push { cls:=.type "range",data:=.fields #[.int lo t,.int hi u,.int 1 v] }).objs.size,[(s.heap.push { cls:=.type "range",data:=.fields #[.int lo t,.int hi u,.int 1 v] }).objs.size],_,_,H,rfl,
  I1.kept (t':=tk) fun b o e=>Heap.get?_push_of_some _ e,tz _ lo (hi-lo).toNat,?_,fun b hb=>?_,q⟩
 ·have e1:lo+((0:Nat):Int)*1=lo:=by simp
  have e2:(((hi-lo).toNat:Nat):Int)-((0:Nat):Int)=Builtin.Range.rangeSize lo hi 1:=by rw [rangeSize_one]; split <;> omega
  show IsRangeIter _ _ (lo+((0:Nat):Int)*1) ((((hi-lo).toNat:Nat):Int)-((0:Nat):Int)) 1
  rw [e1,e2]
  exact Heap.get?_push_size _ rfl
 ·have e:b=(s.heap.push { cls:=.type "range",data:=.fields #[.int lo t,.int hi u,.int 1 v] }).objs.size:=by simpa using hb
  subst e
  exact I1.fpOk (Nat.le_refl _) (I1.hok.fresh (Nat.le_refl _))
def Go (ta:TA):TI:=fun σ H R=>ta σ H fun vs H1=>∃ j:Int,vs=[.int j] /\ -(2 ^ 62)<=j/\j<2 ^ 62/\R (Em 0 j.toNat) H1
def Gn (ta:TA):TI:=fun σ H R=>ta σ H fun vs H1=>∃ i j:Int,vs=[.int i,.int j]/\(-(2 ^ 62)<=i/\i<2 ^ 62 /\ -(2 ^ 62)<=j/\j<2 ^ 62)/\R (Em i (j-i).toNat) H1
theorem v6 {a:Expr} {ta:TA} {p pos:Pos} (hg:Gl X "range") (hm:X.mg "range" = none) (ha:PA X [a] ta) (hs:starEach [a] X.env=[(false,eval a X.env)]:=by rfl):PI X tg (.Call (.Name "range" p) [a] [] pos) (Go ta):=by
 intro pins s σ H R I h
 refine Call_ (kG I hg hm boot_range (PyProof.Rows.callWith_type1 (cx (ha pos pins s σ H _ I h) fun us s1 ⟨vs,H1,I1,r1,q1⟩=>?_) hs rfl))
 obtain ⟨j,e,q1,q2,q⟩:=q1
 subst e
 cases r1 with
 | cons r rr=>
  cases rr
  obtain ⟨t,rfl⟩:=r
  exact call_range_1 (rg I1 (by omega) (by omega) q1 q2 (by simpa using q))
theorem vZ {a b:Expr} {ta:TA} {p pos:Pos} (hg:Gl X "range") (hm:X.mg "range" = none) (ha:PA X [a,b] ta) (hs:starEach [a,b] X.env=[(false,eval a X.env),(false,eval b X.env)]:=by rfl) (hs2:starEach [b] X.env=[(false,eval b X.env)]:=by rfl) :
  PI X tg (.Call (.Name "range" p) [a,b] [] pos) (Gn ta):=by
 intro pins s σ H R I h
 refine Call_ (kG I hg hm boot_range (PyProof.Rows.callWith_type1 (cx (ha pos pins s σ H _ I h) fun us s1 ⟨vs,H1,I1,r1,q1⟩=>?_) (by rw [hs,hs2]) (by rw [hs2]; rfl)))
 obtain ⟨i,j,e,⟨q1,q2,q3,q4⟩,q⟩:=q1
 subst e
 cases r1 with
 | cons r rr=>
  cases rr with
  | cons r' rr=>
   cases rr
   obtain ⟨t,rfl⟩:=r
   obtain ⟨t',rfl⟩:=r'
   exact call_range_2 (rg I1 q1 q2 q3 q4 q)
def HV (wi:TI) (g:TG) (tb:TS):TS:=fun D σ H=>wi σ H fun J H1=>∃ W:Nat->Nat->St->Hp->Prop,(∃ m,W 0 m σ H1)/\∀ i m σ H,W i m σ H ->
 (J.stop i H/\D.nx σ H)\/(J.go i H/\∃ N:St->Hp->Prop,(∀ σ' H',N σ' H'->∃ m',m'<m/\W (i+1) m' σ' H')/\∀ x H',J.yld i H x H'->g x σ H' fun σ2 H2=>tb { D with nx:=N,ct:=N,bk:=D.nx } σ2 H2)
noncomputable def pH (fp:List Addr) (h:Heap):List (Addr×Obj):=fp.filterMap fun b=>(h.get? b).map fun o=>(b,o)
theorem cT {fp:List Addr} {h:Heap} {b:Addr} {o:Obj} (hb:b∈fp) (e:h.get? b=some o):(b,o)∈pH fp h:=List.mem_filterMap.mpr ⟨b,hb,by rw [e]; rfl⟩
theorem wc {fp:List Addr} {h:Heap} {p:Addr×Obj} (hp:p∈pH fp h):p.1∈fp/\h.get? p.1=some p.2:=by
 obtain ⟨b,hb,e⟩:=List.mem_filterMap.mp hp
 cases q:h.get? b with
 | none=>rw [q] at e; cases e
 | some o=>
  rw [q] at e
  have e':(b,o)=p:=Option.some.inj e
  subst e'
  exact ⟨hb,q⟩
theorem Inv.pinned {pins:List (Addr×Obj)} {σ:St} {H:Hp} {s:Shared} {fp:List Addr} (I:Inv X pins σ H s) (hf:∀ b∈fp,ju X pins H b) (ho:∀ b∈fp,∃ o,s.heap.get? b=some o/\∀ v,o.data≠.cell v):Inv X (pins++pH fp s.heap) σ H s:=
 I.pins_of fun p hp=>(List.mem_append.mp hp).elim (fun z=>I.pin p (List.mem_append_right _ z)) fun z=>by
  obtain ⟨hb,e⟩:=wc z
  obtain ⟨f0,f1,f2,_⟩:=hf p.1 hb
  obtain ⟨o,e',d⟩:=ho p.1 hb
  rw [e] at e'; cases e'
  exact ⟨e,f0,f1,f2,d⟩
theorem Inv.unpinned {pins pl:List (Addr×Obj)} {σ:St} {H:Hp} {s:Shared} (I:Inv X (pins++pl) σ H s):Inv X pins σ H s:=I.pins_of fun p hp=>I.pin p (List.mem_append_right _ (List.mem_append_left _ hp))
theorem CW {iter:Expr} {body:List Stmt} {wi:TI} {g:TG} {tb:TS} {pos:Pos} (hp:PassesOwn (model X.prog X.w) X.A X.env X.xe) (hc:X.calm=true) (hi:PI X tg iter wi) (hg:PG X tg g) (hb:PSs X body tb)
  (hs:∀ x,foldedSetIterable iter X.env x=pure x:=by intro _; rfl):PS X (.For tg iter body [] pos) (HV wi g tb):=by
 intro pins s σ H D I h
 refine wpAny_For (cx (hi pins s σ H _ I h) fun v s1 h1=>cx h1 fun itv s2 h2=>?_) hs
 obtain ⟨it,fp,tn,J,H2,e,I2,T,st2,f2,W,⟨m0,w0⟩,turn⟩:=h2
 subst e
 have stat:∀ {H':Hp},(∀ b∈fp,H' b=none)->∀ b∈fp,ju X pins H' b:=fun hn b hb=>⟨hn b hb,(f2 b hb).2⟩
 refine codeAny_forLoop_any (fun n s'=>∃ i σ' H',Inv X pins σ' H' s'/\tn i s'.heap/\(∀ b∈fp,H' b=none)/\W i n σ' H') ?_ m0 ⟨0,σ,H2,I2,st2,fun b hb=>(f2 b hb).1,w0⟩
 rintro n s3 ⟨i,σ3,H3,I3,st3,fr3,w3⟩
 rcases turn i n σ3 H3 w3 with ⟨stop,qn⟩ | ⟨go,N,hN,step⟩
 ·refine wpAny_passesOwn hp (cx (T.done X rfl rfl rfl hc i pins s3 σ3 H3 X.xe I3 (stat fr3) st3 stop) fun r s4 ⟨hr,I4⟩=>?_)
  subst hr
  exact wpAny_execs_nil ⟨σ3,H3,I4,qn⟩
 ·refine wpAny_passesOwn hp (cx (T.item X rfl rfl rfl hc i pins s3 σ3 H3 X.xe I3 (stat fr3) st3 go) fun r s4 ⟨u,hr,h4⟩=>?_)
  subst hr
  refine wpAny_passesOwn hp (cx h4 fun _ s5 ⟨x,H5,I5,r5,y5,st5,fr5⟩=>?_)
  have I5':=I5.pinned (stat fr5) (T.obj _ _ st5)
  refine wpAny_passesOwn hp (cx (hg _ s5 σ3 H5 x u _ I5' r5 (step x H5 y5)) fun _ s6 ⟨σ6,H6,I6,q6⟩=>?_)
  refine wpAny_passesOwn hp (cx (hb _ s6 σ6 H6 _ I6 q6) fun f s7 q7=>?_)
  have again:∀ {σ7:St} {H7:Hp},Inv X (pins++pH fp s5.heap) σ7 H7 s7->N σ7 H7->∃ m,m<n/\∃ i σ' H',Inv X pins σ' H' s7/\tn i s7.heap/\(∀ b∈fp,H' b=none)/\W i m σ' H':=fun {σ7 H7} I7 n7=>by
   obtain ⟨m',hm,w7⟩:=hN σ7 H7 n7
   refine ⟨m',hm,i+1,σ7,H7,I7.unpinned,T.keep _ _ _ st5 fun b hb o e=>(I7.pin (b,o) (List.mem_append_right _ (List.mem_append_right _ (cT hb e)))).1,fun b hb=>?_,w7⟩
   obtain ⟨o,e,d⟩:=T.obj _ _ st5 b hb
   exact (I7.pin (b,o) (List.mem_append_right _ (List.mem_append_right _ (cT hb e)))).2.1
  cases f with
  | next=>obtain ⟨σ7,H7,I7,n7⟩:=q7; exact again I7 n7
  | cont=>obtain ⟨σ7,H7,I7,n7⟩:=q7; exact again I7 n7
  | brk=>obtain ⟨σ7,H7,I7,q7⟩:=q7; exact ⟨σ7,H7,I7.unpinned,q7⟩
  | ret v=>obtain ⟨x7,σ7,H7,I7,r7,q7⟩:=q7; exact ⟨x7,σ7,H7,I7.unpinned,r7,q7⟩
end
end L2
namespace L2
open PySem PySem.Spec PyProof.Rows
abbrev R2:=V->V->Hp->VK->Prop
def OpR (X:Cx) (f:Value->Value->Sem Value) (r:R2):Prop:=
 ∀ (pins:List (Addr×Obj)) (s:Shared) (σ:St) (H:Hp) (x y:V) (v u:Value) (Q:VK),Inv X pins σ H s->RelV x v->RelV y u->r x y H Q ->
  wpAny (model X.prog X.w) X.A (f v u) (EP X pins σ Q) X.xe s
def G3 (X:Cx) (f:Value->Sem Value) (r:V->Hp->VK->Prop):Prop:=
 ∀ (pins:List (Addr×Obj)) (s:Shared) (σ:St) (H:Hp) (x:V) (v:Value) (Q:VK),Inv X pins σ H s->RelV x v->r x H Q ->
  wpAny (model X.prog X.w) X.A (f v) (EP X pins σ Q) X.xe s
def CallR (X:Cx) (f:Value) (r:List V->Hp->VK->Prop):Prop:=
 ∀ (pins:List (Addr×Obj)) (s:Shared) (σ:St) (H:Hp) (xs:List V) (us:List Value) (Q:VK),Inv X pins σ H s->Vals xs us->r xs H Q ->
  wpAny (model X.prog X.w) X.A (call f us) (EP X pins σ Q) X.xe s
def EW (r:R2) (ta tb:TE):TE:=fun σ H Q=>ta σ H fun x H1=>tb σ H1 fun y H2=>r x y H2 Q
def Kr (r:V->Hp->VK->Prop) (ta:TE):TE:=fun σ H Q=>ta σ H fun x H1=>r x H1 Q
def rI (C:Int->Int->Prop) (g:Int->Int->V):R2:=fun x y H Q=>∃ i j,x=.int i/\y=.int j/\C i j/\Q (g i j) H
def zc (g:Int->Int->V):R2:=fun x y H Q=>∃ i j,x=.int i/\y=.int j/\Q (g i j) H
def rU (g:Int->V):V->Hp->VK->Prop:=fun x H Q=>∃ i,x=.int i/\Q (g i) H
section
variable {X:Cx} {a b c:Expr} {ta tb tc:TE} {pos:Pos}
theorem Ec (ha:PE X a ta) (hb:PE X b tb) {pins:List (Addr×Obj)} {s:Shared} {σ:St} {H:Hp} {R:V->V->Hp->Prop} (I:Inv X pins σ H s)
  (h:ta σ H fun x H1=>tb σ H1 fun y H2=>R x y H2) {Q:Value->Shared->Prop} {f:Value->Value->Sem Value}
  (hf:∀ v u s2 x y H2,Inv X pins σ H2 s2->RelV x v->RelV y u->R x y H2->wpAny (model X.prog X.w) X.A (f v u) Q X.xe s2) :
  wpAny (model X.prog X.w) X.A (eval a X.env) (fun v s₁=>wpAny (model X.prog X.w) X.A (eval b X.env) (fun u s₂=>wpAny (model X.prog X.w) X.A (f v u) Q X.xe s₂) X.xe s₁) X.xe s:=by
 refine cx (ha pins s σ H _ I h) fun v s1 ⟨x,H1,I1,r1,q1⟩=>?_
 refine cx (hb pins s1 σ H1 _ I1 q1) fun u s2 ⟨y,H2,I2,r2,q2⟩=>?_
 exact hf v u s2 x y H2 I2 r1 r2 q2
theorem Fp {op:Operator} {r:R2} (ho:OpR X (binaryOp op) r) (ha:PE X a ta) (hb:PE X b tb):PE X (.BinOp a op b pos) (EW r ta tb):=by
 intro pins s σ H Q I h
 exact wpAny_BinOp (Ec ha hb I h fun v u s2 x y H2 I2 rx ry q=>ho pins s2 σ H2 x y v u Q I2 rx ry q)
theorem Fn {op:UnaryOp} {r:V->Hp->VK->Prop} (ho:G3 X (unaryOp op) r) (ha:PE X a ta):PE X (.UnaryOp op a pos) (Kr r ta):=by
 intro pins s σ H Q I h
 exact UnaryOp_ (cx (ha pins s σ H _ I h) fun v s1 ⟨x,H1,I1,r1,q1⟩=>ho pins s1 σ H1 x v Q I1 r1 q1)
theorem Ix {f:Value->Value->Sem Value} {C:Int->Int->Prop} {g:Int->Int->Int}
  (rule:∀ (i j:Int) (t u:Tok) (s:Shared) (Q:Value->Shared->Prop) (E:Value->Shared->Prop),C i j->Q (.int (g i j) s.toks) { s with toks:=s.toks+1 }->wpAny (model X.prog X.w) X.A (f (.int i t) (.int j u)) Q E s) :
  OpR X f (rI C fun i j=>.int (g i j)):=by
 intro pins s σ H x y v u Q I rx ry h
 obtain ⟨i,j,rfl,rfl,hc,q⟩:=h
 obtain ⟨t,rfl⟩:=rx
 obtain ⟨t',rfl⟩:=ry
 exact rule i j t t' s _ _ hc ⟨.int (g i j),H,I.tok _,⟨_,rfl⟩,q⟩
theorem Fz {f:Value->Value->Sem Value} {g:Int->Int->Int}
  (rule:∀ (i j:Int) (t u:Tok) (s:Shared) (Q:Value->Shared->Prop) (E:Value->Shared->Prop),Q (.int (g i j) s.toks) { s with toks:=s.toks+1 }->wpAny (model X.prog X.w) X.A (f (.int i t) (.int j u)) Q E s) :
  OpR X f (zc fun i j=>.int (g i j)):=by
 intro pins s σ H x y v u Q I rx ry h
 obtain ⟨i,j,rfl,rfl,q⟩:=h
 obtain ⟨t,rfl⟩:=rx
 obtain ⟨t',rfl⟩:=ry
 exact rule i j t t' s _ _ ⟨.int (g i j),H,I.tok _,⟨_,rfl⟩,q⟩
theorem AF {f:Value->Value->Sem Value} {g:Int->Int->Bool}
  (rule:∀ (i j:Int) (t u:Tok) (s:Shared) (Q:Value->Shared->Prop) (E:Value->Shared->Prop),Q (.bool (g i j)) s->wpAny (model X.prog X.w) X.A (f (.int i t) (.int j u)) Q E s) :
  OpR X f (zc fun i j=>.bl (g i j)):=by
 intro pins s σ H x y v u Q I rx ry h
 obtain ⟨i,j,rfl,rfl,q⟩:=h
 obtain ⟨t,rfl⟩:=rx
 obtain ⟨t',rfl⟩:=ry
 exact rule i j t t' s _ _ ⟨.bl (g i j),H,I,rfl,q⟩
def JB (i j:Int):Prop:=0<j/\j<1073741824
theorem Da:OpR X (binaryOp .Add) (zc fun i j=>.int (i+j)):=Fz fun _ _ _ _ _ _ _ q=>add_int q
theorem C8:OpR X (binaryOp .Sub) (zc fun i j=>.int (i-j)):=Fz fun _ _ _ _ _ _ _ q=>sub_int q
theorem AD:OpR X (binaryOp .FloorDiv) (rI JB fun i j=>.int (i / j)):=Ix fun i j _ _ _ _ _ hc q=>by
 have h1:(0:Int)<j:=hc.1
 have h2:j<1073741824:=hc.2
 exact floordiv_int (by omega) (by rw [Int.fdiv_eq_ediv_of_nonneg i (by omega)]; exact q) (.inl (PyProof.noPylong_small (by omega)))
theorem C9:OpR X (binaryOp .Mod) (rI (fun _ j=>0<j) fun i j=>.int (i % j)):=Ix fun i j _ _ _ _ _ hc q=>by
 have h1:(0:Int)<j:=hc
 exact mod_int' (by omega) (by rw [Int.fmod_eq_emod_of_nonneg i (by omega)]; exact q)
theorem Kl {f:Value->Sem Value} {g:Int->Int}
  (rule:∀ (i:Int) (t:Tok) (s:Shared) (Q:Value->Shared->Prop) (E:Value->Shared->Prop),Q (.int (g i) s.toks) { s with toks:=s.toks+1 }->wpAny (model X.prog X.w) X.A (f (.int i t)) Q E s) :
  G3 X f (rU fun i=>.int (g i)):=by
 intro pins s σ H x v Q I rx h
 obtain ⟨i,rfl,q⟩:=h
 obtain ⟨t,rfl⟩:=rx
 exact rule i t s _ _ ⟨.int (g i),H,I.tok _,⟨_,rfl⟩,q⟩
theorem Cw:G3 X (unaryOp .USub) (rU fun i=>.int (-i)):=Kl fun _ _ _ _ _ q=>neg_int q
end
section
variable {X:Cx} {a b c:Expr} {ta tb tc:TE} {pos:Pos}
theorem yC {pins:List (Addr×Obj)} {σ:St} {H:Hp} {s:Shared} {Q:VK} {k k':Bool} (I:Inv X pins σ H s) (q:Q (.bl k) H) (e:k=k'):EP X pins σ Q (.bool k') s:=by
 subst e
 exact ⟨.bl k,H,I,rfl,q⟩
theorem Fu:OpR X (compareOp .Lt) (zc fun i j=>.bl (decide (i<j))):=AF fun _ _ _ _ _ _ _ q=>lt_int q
theorem Fv:OpR X (compareOp .LtE) (zc fun i j=>.bl (decide (i<=j))):=AF fun _ _ _ _ _ _ _ q=>le_int q
theorem Fx:OpR X (compareOp .Gt) (zc fun i j=>.bl (decide (j<i))):=AF fun _ _ _ _ _ _ _ q=>gt_int q
theorem Fy:OpR X (compareOp .GtE) (zc fun i j=>.bl (decide (j<=i))):=AF fun _ _ _ _ _ _ _ q=>ge_int q
theorem AC:OpR X (compareOp .IsNot) (fun x y H Q=>y=.non/\Q (.bl (!decide (x=.non))) H):=by
 intro pins s σ H x y v u Q I rx ry h
 obtain ⟨rfl,q⟩:=h
 cases ry
 refine isnot_none_gen (yC I q ?_)
 cases x <;> first
  | (cases rx; rfl)
  | (obtain ⟨t,rfl⟩:=rx; rfl)
theorem az (b:Expr) {op:CmpOp} (h:op≠.In:=by decide) (h2:op≠.NotIn:=by decide):behindInMarks op b=false:=by
 have e1:(op==CmpOp.In)=false:=by cases op <;> first | rfl | exact absurd rfl h
 have e2:(op==CmpOp.NotIn)=false:=by cases op <;> first | rfl | exact absurd rfl h2
 cases b <;> simp [behindInMarks,e1,e2]
theorem Ay {op:CmpOp} {r:R2} (ho:OpR X (compareOp op) r) (ha:PE X a ta) (hb:PE X b tb) (hm:behindInMarks op b=false):PE X (.Compare a [op] [b] pos) (EW r ta tb):=by
 intro pins s σ H Q I h
 exact wpAny_Compare1 (Ec ha hb I h fun v u s2 x y H2 I2 rx ry q=>ho pins s2 σ H2 x y v u Q I2 rx ry q) hm
def BT (t:TE):TT:=fun σ H Q=>t σ H fun x H'=>∃ k,x=.bl k/\Q k H'
theorem Ak {op:CmpOp} {r:R2} (ho:OpR X (compareOp op) r) (ha:PE X a ta) (hb:PE X b tb) (hm:behindInMarks op b=false):PT X (.Compare a [op] [b] pos) (BT (EW r ta tb)):=by
 intro pins s σ H Q I h
 refine wpAny_isTrue_Compare1 (cx (ha pins s σ H _ I h) fun v s1 ⟨x,H1,I1,r1,q1⟩=>cx (hb pins s1 σ H1 _ I1 q1) fun u s2 ⟨y,H2,I2,r2,q2⟩=>
  cx (ho pins s2 σ H2 x y v u _ I2 r1 r2 q2) fun c s3 ⟨z,H3,I3,r3,k,e,q3⟩=>?_) hm
 subst e
 cases r3
 exact wpAny_truthy_bool ⟨H3,I3,q3⟩
def xb (r r':R2) (ta tb tc:TE):TE:=fun σ H Q=>ta σ H fun x H1=>tb σ H1 fun y H2=>r x y H2 fun z H3=>∃ k,z=.bl k /\
 (if k=true then tc σ H3 fun w' H4=>r' y w' H4 Q else Q (.bl false) H3)
theorem xw {op op':CmpOp} {r r':R2} (ho:OpR X (compareOp op) r) (ho':OpR X (compareOp op') r') (ha:PE X a ta) (hb:PE X b tb) (hc:PE X c tc)
  (hm:lastMarks [op,op'] [b,c]=false:=by with_unfolding_all rfl):PT X (.Compare a [op,op'] [b,c] pos) (BT (xb r r' ta tb tc)):=by
 intro pins s σ H Q I h
 refine isTrue_chain (cx (ha pins s σ H _ I h) fun v s1 ⟨x,H1,I1,r1,q1⟩=>test_link (cx (hb pins s1 σ H1 _ I1 q1) fun u s2 ⟨y,H2,I2,r2,q2⟩=>
  cx (ho pins s2 σ H2 x y v u _ I2 r1 r2 q2) fun d s3 ⟨z,H3,I3,r3,k,e,q3⟩=>?_)) hm
 subst e
 cases r3
 refine wpAny_truthy_bool ?_
 cases k with
 | false=>
  obtain ⟨k',e',q'⟩:=q3
  cases e'
  exact ite_ff ⟨H3,I3,q'⟩
 | true=>
  refine ite_tt (test_last (cx (hc pins s3 σ H3 _ I3 q3) fun w' s4 ⟨z',H4,I4,r4,q4⟩=>cx (ho' pins s4 σ H4 y z' u w' _ I4 r2 r4 q4) fun d' s5 ⟨z2,H5,I5,r5,k2,e2,q5⟩=>?_))
  subst e2
  cases r5
  exact wpAny_truthy_bool ⟨H5,I5,q5⟩
theorem t9:(sizeLine:Nat)<2 ^ 63:=by rw [sizeLine_eq]; decide
theorem tT:OpR X (binaryOp .Add) (fun x y H Q=>∃ i j,x=.str i/\y=.str j/\i.length+j.length<=sizeLine/\Q (.str (i++j)) H):=by
 intro pins s σ H x y v u Q I rx ry h
 obtain ⟨i,j,rfl,rfl,hz,q⟩:=h
 obtain ⟨t,rfl⟩:=rx
 obtain ⟨t',rfl⟩:=ry
 exact add_str (fun t' tk=>⟨.str (i++j),H,I.tok _,⟨_,rfl⟩,q⟩) hz
theorem mm {x:V} {us:List Value} (r:Vals [x] us):∃ u,us=[u]/\RelV x u:=by
 cases r with
 | cons r1 r2=>cases r2; exact ⟨_,rfl,r1⟩
theorem wV {x y:V} {us:List Value} (r:Vals [x,y] us):∃ u w',us=[u,w']/\RelV x u/\RelV y w':=by
 cases r with
 | cons r1 r2=>
  cases r2 with
  | cons r3 r4=>cases r4; exact ⟨_,_,rfl,r1,r3⟩
theorem wI (hc:X.calm=true):CallR X (.builtin "max") (fun xs H Q=>∃ i j,xs=[.int i,.int j]/\Q (.int (if j>i then j else i)) H):=by
 intro pins s σ H xs us Q I r h
 obtain ⟨i,j,rfl,q⟩:=h
 obtain ⟨u,w',rfl,⟨t,rfl⟩,⟨t',rfl⟩⟩:=wV r
 refine max_two_ints (I.ok.hd hc) fun h' tk k=>⟨_,H,I.kept k,?_,q⟩
 by_cases hj:j>i
 ·rw [if_pos hj,if_pos hj]; exact ⟨_,rfl⟩
 ·rw [if_neg hj,if_neg hj]; exact ⟨_,rfl⟩
theorem wH (hc:X.calm=true):CallR X (.builtin "min") (fun xs H Q=>∃ i j,xs=[.int i,.int j]/\Q (.int (if j<i then j else i)) H):=by
 intro pins s σ H xs us Q I r h
 obtain ⟨i,j,rfl,q⟩:=h
 obtain ⟨u,w',rfl,⟨t,rfl⟩,⟨t',rfl⟩⟩:=wV r
 refine min_two_ints (I.ok.hd hc) fun h' tk k=>⟨_,H,I.kept k,?_,q⟩
 by_cases hj:j<i
 ·rw [if_pos hj,if_pos hj]; exact ⟨_,rfl⟩
 ·rw [if_neg hj,if_neg hj]; exact ⟨_,rfl⟩
theorem wJ:CallR X (.type "int") (fun xs H Q=>(∃ i,xs=[.int i]/\Q (.int i) H)\/∃ k,xs=[.bl k]/\Q (.int (if k then 1 else 0)) H):=by
 intro pins s σ H xs us Q I r h
 rcases h with ⟨i,rfl,q⟩ | ⟨k,rfl,q⟩
 ·obtain ⟨u,rfl,t,rfl⟩:=mm r
  exact call_int_int ⟨.int i,H,I,⟨_,rfl⟩,q⟩
 ·obtain ⟨u,rfl,r1⟩:=mm r
  cases r1
  exact call_int_bool ⟨.int (if k then 1 else 0),H,I.tok _,⟨_,rfl⟩,q⟩
def Jz (K:PySem.W.Frag) (x:V) (H:Hp) (n:Nat):Prop:=
 match x with
 | .str y=>y.length<=sizeLine/\n=y.length
 | .byt y=>y.size<=sizeLine/\n=y.size
 | .ref p=>(∃ xs,SqL K H p xs/\n=xs.length)\/∃ xs,SqT K H p xs/\n=xs.length
 | _=>False
theorem sO:CallR X (.builtin "len") (fun xs H Q=>∃ x n,xs=[x]/\Jz X.K x H n/\Q (.int n) H):=by
 intro pins s σ H xs us Q I r h
 obtain ⟨x,n,rfl,e,q⟩:=h
 obtain ⟨u,rfl,rx⟩:=mm r
 have hl:=t9
 have hs:sizeLine=16777216:=sizeLine_eq
 cases x with
 | str y=>
  obtain ⟨t,rfl⟩:=rx
  obtain ⟨hy,e'⟩:y.length<=sizeLine/\n=y.length:=e
  subst e'
  exact len_str (by omega) ⟨.int _,H,I.tok _,⟨_,rfl⟩,q⟩
 | byt y=>
  obtain ⟨t,rfl⟩:=rx
  obtain ⟨hy,e'⟩:y.size<=sizeLine/\n=y.size:=e
  subst e'
  exact PySem.W.len_bytes (by omega) ⟨.int _,H,I.tok _,⟨_,rfl⟩,q⟩
 | ref p=>
  cases rx
  have e':(∃ xs,SqL X.K H p xs/\n=xs.length)\/∃ xs,SqT X.K H p xs/\n=xs.length:=e
  rcases e' with ⟨xs,hx,e'⟩ | ⟨xs,hx,e'⟩
  ·subst e'
   obtain ⟨its,r',pl,hz⟩:=I.list hx
   have hlen:=r'.length
   exact Calls.call_len_list pl.isList (by simp only [List.size_toArray]; omega) ⟨.int xs.length,H,I.tok _,⟨_,by simp only [List.size_toArray]; rw [hlen]⟩,q⟩
  ·subst e'
   obtain ⟨its,r',pl,hz⟩:=I.tuple hx
   have hlen:=r'.length
   exact len_tuple pl (by simp only [List.size_toArray]; omega) ⟨.int xs.length,H,I.tok _,⟨_,by simp only [List.size_toArray]; rw [hlen]⟩,q⟩
 | _=>exact (show False from e).elim
end
end L2
namespace L2
open PySem PySem.Spec PyProof.Rows
structure ObjM (h:Heap) (x dx C:Addr) (mA:Str->Option Value):Prop where
 obj:h.get? x=some (PySem.W.instObj C dx)
 ns:h.Ns1 dx mA
 ne:dx≠x
theorem wq {h:Heap} {dx:Addr} {mA:Str->Option Value} (n:h.Ns1 dx mA):∃ od,h.get? dx=some od/\∀ name,PySem.W.lookIn name od=some (mA name):=by
 obtain ⟨o,es,ep,ho,hd,hk,_,hm⟩:=n
 refine ⟨o,ho,fun name=>?_⟩
 have e:=hm name
 unfold nsFind findBy at e
 rw [<- Array.find?_toList] at e
 unfold PySem.W.lookIn
 rw [hd]
 dsimp only
 split
 ·rename_i y q
  rw [q] at e
  exact congrArg some e
 ·rename_i q
  rw [q] at e
  have a:es.toList.any (·.refKey)=false:=by
   rw [List.any_eq_false]
   intro y hy
   obtain ⟨z,t,hkey⟩:=hk y (Array.mem_toList_iff.mp hy)
   simp [DictEntry.refKey,hkey]
  have a':¬ es.toList.any (·.refKey)=true:=by rw [a]; exact Bool.false_ne_true
  rw [if_neg a']
  exact congrArg some e
theorem ObjM.look {h:Heap} {x dx C:Addr} {mA:Str->Option Value} (I:ObjM h x dx C mA):∃ od,PySem.W.InstAt h x (PySem.W.instObj C dx) C (some od)/\∀ name,PySem.W.lookIn name od=some (mA name):=
 let ⟨od,ho,hl⟩:=wq I.ns
 ⟨od,⟨I.obj,rfl,rfl,ho⟩,hl⟩
section
variable {P:Program} {w:World} {H H':Hp} {h h':Heap} {a C dx:Addr} {fs fs':List (Str×V)}
theorem Bl (hok:HOk P w H h) (e:H a=some (.ins C dx fs)):∃ mA,ObjM h a dx C mA/\(∀ f,RelO (fs.lookup f) (mA f))/\PySem.Within mA (fs.map (·.1))/\fs.length<=1000/\H dx=some (.own a):=by
 obtain ⟨d,z,ne,ob,mA,n,r,q⟩:=(show ObjOk P w H h a (.ins C dx fs) from hok a _ e)
 exact ⟨mA,⟨ob,n,ne⟩,r,q,z,d⟩
end
structure Cls (K:PySem.W.Frag) (C:Addr):Prop where
 pg:PySem.W.plainGet K C Str.empty=true
 hd:PySem.W.hasDictIn K C=true
 po:PySem.W.plainOver K C=true
 sa:PySem.W.findIn K (.ref C) "__setattr__" = some (some (.builtin "object.__setattr__"))
theorem Cls.get {K:PySem.W.Frag} {C:Addr} (c:Cls K C) (f:Str):PySem.W.plainGet K C f=true:=c.pg
section
variable {X:Cx} {pins:List (Addr×Obj)} {σ:St} {H:Hp} {s:Shared} {A:Around} {E:Value->Shared->Prop} {Q:Value->Shared->Prop} {c:Value} {b:Bool}
inductive TyOf (K:PySem.W.Frag) (H:Hp):V->Value->Prop where
 | non:TyOf K H .non (.type "NoneType")
 | bl (x:Bool):TyOf K H (.bl x) (.type "bool")
 | int (i:Int):TyOf K H (.int i) (.type "int")
 | str (x:Str):TyOf K H (.str x) (.type "str")
 | flt (x:UInt64):TyOf K H (.flt x) (.type "float")
 | lst {a:Addr} {xs:List V} (e:H a=some (.lst xs)):TyOf K H (.ref a) (.type "list")
 | frz {a:Addr} {o:Obj} {xs:List V} (e:H a=some (.frz o (.lst xs))):TyOf K H (.ref a) (.type "list")
 | tup {a:Addr} {xs:List V} (e:H a=some (.tup xs)):TyOf K H (.ref a) (.type "tuple")
 | dK {a:Addr} {kvs:List (bi×V)} (e:H a=some (.dK kvs)):TyOf K H (.ref a) (.type "dict")
 | dT {a:Addr} {kvs:List (List bi×V)} (e:H a=some (.dT kvs)):TyOf K H (.ref a) (.type "dict")
 | ins {a C dx:Addr} {fs:List (Str×V)} (e:H a=some (.ins C dx fs)) (cl:Cls K C) (ha:PySem.W.findIn K (.ref C) "__class__" = some (some (.builtin "object.__class__")))
   (hn:PySem.W.specialIn K (.builtin "object.__class__") "__get__" = some (some (.builtin "getset_descriptor.__get__"))) (htk:PySem.W.takesIn K (.builtin "object.__class__")=some true)
   (hm:PySem.W.mroIn K C (.type "object")=some true):TyOf K H (.ref a) (.ref C)
theorem iU {x:V} {u t:Value} (I:Inv X pins σ H s) (rx:RelV x u) (ty:TyOf X.K H x t) (e:PySem.W.kitOne X.K t c=some b) (h:∀ tk,Q (.bool b) { s with toks:=tk }) :
  wpAny (model X.prog X.w) A (call (.builtin "isinstance") [u,c]) Q E s:=by
 cases ty with
 | non=>cases (show u=Value.none from rx); exact PySem.W.kia_one PySem.W.kitx_none I.kIn True.intro e (fun z=>nomatch z) h
 | bl y=>cases (show u=Value.bool y from rx); exact PySem.W.kia_one PySem.W.kitx_bool I.kIn True.intro e (fun z=>nomatch z) h
 | int i=>obtain ⟨t,q⟩:=(show ∃ t,u=Value.int i t from rx); cases q; exact PySem.W.kia_one PySem.W.kitx_int I.kIn True.intro e (fun z=>nomatch z) h
 | str y=>obtain ⟨t,q⟩:=(show ∃ t,u=Value.str y t from rx); cases q; exact PySem.W.kia_one PySem.W.kitx_str I.kIn True.intro e (fun z=>nomatch z) h
 | flt y=>obtain ⟨t,q⟩:=(show ∃ t,u=Value.float y t from rx); cases q; exact PySem.W.kia_one PySem.W.kitx_float I.kIn True.intro e (fun z=>nomatch z) h
 | @lst a xs ea=>
  cases (show u=Value.ref a from rx)
  obtain ⟨_,_,n,_,h1⟩:=(show ObjOk X.prog X.w H s.heap a (.lst xs) from I.hok a _ ea)
  exact PySem.W.kia_one PySem.W.kitx_list I.kIn ⟨_,h1,rfl⟩ e (fun z=>nomatch z) h
 | @frz a ob xs ea=>
  cases (show u=Value.ref a from rx)
  obtain ⟨_,_,_,n,_,h1⟩:=(show ObjOk X.prog X.w H s.heap a (.frz ob (.lst xs)) from I.hok a _ ea)
  exact PySem.W.kia_one PySem.W.kitx_list I.kIn ⟨_,h1,rfl⟩ e (fun z=>nomatch z) h
 | @tup a xs ea=>
  cases (show u=Value.ref a from rx)
  obtain ⟨_,_,_,p⟩:=(show ObjOk X.prog X.w H s.heap a (.tup xs) from I.hok a _ ea)
  obtain ⟨o,h1,h2,_⟩:=p.1
  exact PySem.W.kia_one PySem.W.kitx_tuple I.kIn ⟨o,h1,h2⟩ e (fun z=>nomatch z) h
 | @dK a kvs ea=>
  cases (show u=Value.ref a from rx)
  obtain ⟨_,_,vs,_,p⟩:=(show ObjOk X.prog X.w H s.heap a (.dK kvs) from I.hok a _ ea)
  obtain ⟨o,es,ep,h1,h2,_⟩:=p
  exact PySem.W.kia_one PySem.W.kitx_dict I.kIn ⟨o,h1,h2.1⟩ e (fun z=>nomatch z) h
 | @dT a kvs ea=>
  cases (show u=Value.ref a from rx)
  obtain ⟨_,_,xs,_,o,es,ep,h1,h2,_⟩:=(show ObjOk X.prog X.w H s.heap a (.dT kvs) from I.hok a _ ea)
  exact PySem.W.kia_one PySem.W.kitx_dict I.kIn ⟨o,h1,h2.1⟩ e (fun z=>nomatch z) h
 | @ins a C dx fs ea cl ha hn htk hm=>
  cases (show u=Value.ref a from rx)
  obtain ⟨mA,O,_⟩:=Bl I.hok ea
  obtain ⟨od,J,_⟩:=O.look
  exact PySem.W.kia_one (PySem.W.kitx_own (cl.get _) cl.hd ha hn htk hm) I.kIn J e (fun z=>nomatch z) h
end
end L2
namespace L2
open PySem PySem.Spec PyProof.Rows
structure Room (k:Nat) (A:Around):Prop where
 hd:A.handled=none
 dp:A.depth+3*k+5<recursionLimit
 un:A.units+16*k+200<cLine
theorem Room.mono {j k:Nat} {A:Around} (r:Room k A) (h:j<=k):Room j A:=⟨r.hd,by have:=r.dp; omega,by have:=r.un; omega⟩
theorem Room.deeper {k:Nat} {A:Around} (r:Room (k+1) A) (env:Env):Room k (A.deeper env):=
 ⟨r.hd,by have:=r.dp; show A.depth+1+3*k+5<_; omega,by have:=r.un; show A.units+3+16*k+200<_; omega⟩
theorem Room.depth {k:Nat} {A:Around} (r:Room k A):A.depth<recursionLimit:=by have:=r.dp; omega
theorem Room.units {k:Nat} {A:Around} (r:Room k A):A.units+64<cLine:=by have:=r.un; omega
def HR:TA:=fun _ H Q=>Q [] H
def E2 (ta:TE) (tr:TA):TA:=fun σ H Q=>ta σ H fun x H1=>tr σ H1 fun xs H2=>Q (x::xs) H2
section
variable {X:Cx} {e:Expr} {es:List Expr} {te:TE} {t:TA} {pos:Pos}
theorem jk:PA X [] HR:=fun _ _ _ _ H Q I h=>Calls.spliced_nil ⟨[],H,I,.nil,h⟩
theorem gi (ha:PE X e te) (hr:PA X es t) (hs:starEach (e::es) X.env=(false,eval e X.env)::starEach es X.env:=by rfl):PA X (e::es) (E2 te t):=by
 intro pos pins s σ H Q I h
 rw [hs]
 show wpAny _ _ (spliced ((false,eval e X.env)::backTo pos (starEach es X.env))) _ _ s
 refine Calls.spliced_cons (cx (ha pins s σ H _ I h) fun u s1 ⟨x,H1,I1,r1,q1⟩=>?_)
 exact cx (hr pos pins s1 σ H1 _ I1 q1) fun us s2 ⟨xs,H2,I2,r2,q2⟩=>⟨x::xs,H2,I2,.cons r1 r2,q2⟩
def HK (t:TA):TE:=fun σ H Q=>t σ H fun xs H1=>xs.length<=sizeLine/\∀ p,H1 p=none->Q (.ref p) (upd H1 p (.tup xs))
def HS (t:TA):TE:=fun σ H Q=>t σ H fun xs H1=>xs.length<=sizeLine/\∀ p,H1 p=none->Q (.ref p) (upd H1 p (.lst xs))
theorem C1 {x1} (h:PA X es t):PE X (.Tuple es x1 pos) (HK t):=by
 intro pins s σ H Q I hq
 refine wpAny_Tuple_spliced (cx (h pos pins s σ H _ I hq) fun us s1 ⟨xs,H1,I1,r,z,q⟩=>⟨by rw [<- r.length]; exact z,?_⟩)
 have hf:H1 s1.heap.objs.size=none:=I1.hok.fresh (Nat.le_refl _)
 refine ⟨.ref s1.heap.objs.size,upd H1 s1.heap.objs.size (.tup xs),I1.laid (t':=s1.toks) (fun b u e=>Heap.get?_push_of_some _ e) (Nat.le_refl _) ?_,rfl,q _ hf⟩
 exact ⟨z,us,r,⟨_,Heap.get?_push_size _ rfl,rfl,_,rfl⟩,NoDi.new _ _⟩
theorem xF (h:PA X es t):PE X (.List es pos) (HS t):=by
 intro pins s σ H Q I hq
 refine wpAny_List_spliced (cx (h pos pins s σ H _ I hq) fun us s1 ⟨xs,H1,I1,r,z,q⟩=>⟨by rw [<- r.length]; exact z,?_⟩)
 have hf:H1 s1.heap.objs.size=none:=I1.hok.fresh (Nat.le_refl _)
 refine ⟨.ref s1.heap.objs.size,upd H1 s1.heap.objs.size (.lst xs),I1.laid (t':=s1.toks) (fun b u e=>Heap.get?_push_of_some _ e) (Nat.le_refl _) ?_,rfl,q _ hf⟩
 exact ⟨z,us,0,r,Heap.get?_push_size _ rfl⟩
end
abbrev Sp:=List V->Hp->VK->XK->Prop
abbrev uK:=List Env->Hp->Shared->XK->Value->Shared->Prop
structure Env0 (P:Program) (w:World) (K:PySem.W.Frag) (mg:Str->Option Value) (base:Heap) (A:Around) (outer:List Env) (s:Shared) (H:Hp):Prop where
 frames:A.frames=some outer
 mod:Mod K mg base
 bs:∀ b o,base.get? b=some o->s.heap.get? b=some o/\H b=none
 bsz:base.objs.size<=s.heap.objs.size
 funs:s.heap.FunFrames base outer
 frf:∀ b∈iK outer,H b=none
 hok:HOk P w H s.heap
 bare:AllBare s.gens
def CE (outer:List Env) (P:Program) (w:World) (H:Hp) (s:Shared) (Q:VK) (u:Value) (s':Shared):Prop:=
 ∃ v H',s'.os=s.os/\AllBare s'.gens/\Un (iK outer) [] H H' s.heap s'.heap/\HOk P w H' s'.heap/\RelV v u/\Q v H'
def CR (CX:uK) (outer:List Env) (P:Program) (w:World) (H:Hp) (s:Shared) (Q:VK) (E:XK) (r:Result) (s':Shared):Prop:=
 match r with
 | .ok (.ret u)=>CE outer P w H s Q u s'
 | .ok _=>False
 | .error e=>CX outer H s E e s'
structure FnOk (P:Program) (w:World) (K:PySem.W.Frag) (mg:Str->Option Value) (base:Heap) (CX:uK) (k:Nat) (f:Addr) (fd:FuncData) (ps:List Str) (sp:Sp):Prop where
 len:∀ vs H Q E,sp vs H Q E->vs.length=ps.length
 run:∀ (A:Around) (outer:List Env) (s:Shared) (H:Hp) (args:Args) (us:List Value) (vs:List V) (Q:VK) (E:XK),Room k A->Env0 P w K mg base A outer s H->BindsTo s fd args (ps.zip us)->Vals vs us->sp vs H Q E ->
  codeAny (model P w) A (.call (.ref f) args) (CR CX outer P w H s Q E) s
theorem FnOk.imp {P:Program} {w:World} {K:PySem.W.Frag} {mg:Str->Option Value} {base:Heap} {CX:uK} {k:Nat} {f:Addr} {fd:FuncData} {ps:List Str} {sp sp':Sp} (F:FnOk P w K mg base CX k f fd ps sp)
  (h:∀ vs H Q E,sp' vs H Q E->sp vs H Q E):FnOk P w K mg base CX k f fd ps sp':=
 ⟨fun vs H Q E q=>F.len vs H Q E (h _ _ _ _ q),fun A outer s H args us vs Q E hr he hb hv hs=>F.run A outer s H args us vs Q E hr he hb hv (h _ _ _ _ hs)⟩
section
variable {X:Cx} {pins:List (Addr×Obj)} {σ:St} {H:Hp} {s s':Shared}
theorem Inv.env0 (I:Inv X pins σ H s):Env0 X.prog X.w X.K X.mg X.base X.A X.stack s H:=
 ⟨I.ok.frames,I.ok.mod,I.bs,Nat.le_trans I.ok.bsz I.sz,I.stack,I.stkFree,I.hok,I.bare⟩
theorem Inv.after {Q:VK} {u:Value} (I:Inv X pins σ H s) (h:CE X.stack X.prog X.w H s Q u s'):EP X pins σ Q u s':=by
 obtain ⟨v,H',os,bare,un,hok,r,q⟩:=h
 obtain ⟨hh,g,d,t,os'⟩:=s'
 obtain rfl:os'=s.os:=os
 exact ⟨v,H',I.call (h':=hh) (g':=g) (d':=d) (t':=t) (ch:=[]) un hok bare (fun b z=>absurd z (by simp)),r,q⟩
end
def E3 (sp:Sp) (dvs:List V) (E:XK) (t:TA):TE:=fun σ H Q=>t σ H fun vs H1=>sp (vs++dvs) H1 Q E
def Binds (K:PySem.W.Frag) (fd:FuncData) (ps:List Str) (ds:List Value):Prop:=
 ∀ (s:Shared) (us:List Value),K.In s.heap->(us++ds).length=ps.length->BindsTo s fd ⟨us,[]⟩ (ps.zip (us++ds))
theorem Binds.all {K:PySem.W.Frag} {fd:FuncData} {ps:List Str} (h:∀ us:List Value,us.length=ps.length->bindArgs fd ⟨us,[]⟩=pure (ps.zip us)):Binds K fd ps []:=fun s us _ hl=>by
 rw [List.append_nil] at hl ⊢
 exact .of_eq (h us hl)
def qE (CX:uK) (X:Cx) (E:XK):Prop:=∀ (pins:List (Addr×Obj)) (σ:St) (H:Hp) (s:Shared) (e:Value) (s':Shared),Inv X pins σ H s->CX X.stack H s E e s'->X.xe e s'
section
variable {X:Cx} {CX:uK} {k:Nat} {f C:Addr} {fd:FuncData} {ps:List Str} {sp:Sp} {dvs:List V} {ds:List Value} {E:XK} {x m:Str} {p pos apos:Pos} {e o:Expr} {es:List Expr} {ta:TE} {t:TA}
theorem xr {pins:List (Addr×Obj)} {σ:St} {H:Hp} {s:Shared} {Q:VK} {us:List Value} {vs:List V} (F:FnOk X.prog X.w X.K X.mg X.base CX k f fd ps sp) (hr:Room k X.A) (hb:Binds X.K fd ps ds) (hd:Vals dvs ds) (hx:qE CX X E)
  (I:Inv X pins σ H s) (r:Vals vs us) (h:sp (vs++dvs) H Q E):wpAny (model X.prog X.w) X.A (call (.ref f) us) (EP X pins σ Q) X.xe s:=by
 have r2:Vals (vs++dvs) (us++ds):=r.append hd
 have hl:(us++ds).length=ps.length:=by rw [<- r2.length]; exact F.len _ _ _ _ h
 refine wpAny_call (codeAny_mono (F.run X.A X.stack s H ⟨us,[]⟩ (us++ds) (vs++dvs) Q E hr I.env0 (hb s us I.kIn hl) r2 h) fun r s' hq=>?_)
 cases r with
 | error e=>exact hx pins σ H s e s' I hq
 | ok fl=>
  cases fl with
  | ret u=>exact I.after hq
  | next=>exact False.elim hq
  | brk=>exact False.elim hq
  | cont=>exact False.elim hq
theorem Az (F:FnOk X.prog X.w X.K X.mg X.base CX k f fd ps sp) (hr:Room k X.A) (hg:Gl X x) (hm:X.mg x=some (.ref f)) (hk:PySem.W.keepIn X.K (.ref f)=true) (hb:Binds X.K fd ps ds) (hd:Vals dvs ds) (hx:qE CX X E)
  (ha:PA X (e::es) t) (hdb:(x==("__debug__":Str))=false:=by decide) (he:starEach (e::es) X.env=(false,eval e X.env)::starEach es X.env:=by rfl) (hpl:(backTo pos (starEach es X.env)).any (·.1)=false:=by rfl) :
  PE X (.Call (.Name x p) (e::es) [] pos) (E3 sp dvs E t):=by
 intro pins s σ H Q I h
 refine wpAny_Call_Name_kw (lT I hg hm ?_ hdb)
 refine PySem.W.callWith_K (h₀:=X.base) I.ok.mod.kin hk (cx (ha pos pins s σ H _ I h) fun us s1 ⟨vs,H1,I1,r,q⟩=>⟨I1.kIn,?_⟩) he hpl
 exact xr F hr hb hd hx I1 r q
end
structure FnScope (N P:List Str) (sc:Scope):Prop where
 kind:sc.kind=.function
 co:sc.isCoroutine=false
 gen:sc.isGenerator=false
 nd:N.Nodup
 pre:N.take P.length=P
 par:∀ x∈P,sc.names.lookup x=some .local\/sc.names.lookup x=some .cell
 nofree:∀ y∈sc.names,y.2≠.free
theorem o6 {kindOf:Str->Option NameKind} {x:Str}:∀ {binds:List (Str×Value)} {m:Str->Option Value},(∀ v,(x,v) ∉ binds)->bindL kindOf binds m x=m x
 | [],_,_=>rfl
 | (n,v)::r,m,h=>by
  unfold bindL
  rw [o6 fun w hw=>h w (List.mem_cons_of_mem _ hw)]
  split
  ·have:x≠n:=by rintro rfl; exact h v List.mem_cons_self
   simp [this]
  ·rfl
theorem o8 {kindOf:Str->Option NameKind} {x:Str}:∀ {binds:List (Str×Value)} {m:Str->Option Value},(∀ v,(x,v) ∉ binds)->bindC kindOf binds m x=m x
 | [],_,_=>rfl
 | (n,v)::r,m,h=>by
  unfold bindC
  rw [o8 fun w hw=>h w (List.mem_cons_of_mem _ hw)]
  split
  ·rfl
  ·have:x≠n:=by rintro rfl; exact h v List.mem_cons_self
   simp [this]
theorem o7 {kindOf:Str->Option NameKind} {x:Str} {v:Value}:∀ {P:List Str} {vs:List Value} {i:Nat} {m:Str->Option Value},P.Nodup->P[i]? = some x->vs[i]? = some v->kindOf x=some .local ->
  bindL kindOf (P.zip vs) m x=some v
 | [],_,_,_,_,h,_,_=>by simp at h
 | _::_,[],_,_,_,_,h,_=>by simp at h
 | p::P,w::vs,0,m,nd,h1,h2,hk=>by
  simp at h1 h2; subst h1; subst h2
  show bindL kindOf ((p,w)::P.zip vs) m p=_
  unfold bindL
  rw [o6 fun v hv=>(List.nodup_cons.mp nd).1 (List.of_mem_zip hv).1,if_pos hk]
  simp
 | p::P,w::vs,i+1,m,nd,h1,h2,hk=>by
  show bindL kindOf ((p,w)::P.zip vs) m x=_
  unfold bindL
  exact o7 (i:=i) (List.nodup_cons.mp nd).2 (by simpa using h1) (by simpa using h2) hk
theorem o9 {kindOf:Str->Option NameKind} {x:Str} {v:Value}:∀ {P:List Str} {vs:List Value} {i:Nat} {m:Str->Option Value},P.Nodup->P[i]? = some x->vs[i]? = some v->kindOf x≠some .local ->
  bindC kindOf (P.zip vs) m x=some v
 | [],_,_,_,_,h,_,_=>by simp at h
 | _::_,[],_,_,_,_,h,_=>by simp at h
 | p::P,w::vs,0,m,nd,h1,h2,hk=>by
  simp at h1 h2; subst h1; subst h2
  show bindC kindOf ((p,w)::P.zip vs) m p=_
  unfold bindC
  rw [o8 fun v hv=>(List.nodup_cons.mp nd).1 (List.of_mem_zip hv).1,if_neg hk]
  simp
 | p::P,w::vs,i+1,m,nd,h1,h2,hk=>by
  show bindC kindOf ((p,w)::P.zip vs) m x=_
  unfold bindC
  exact o9 (i:=i) (List.nodup_cons.mp nd).2 (by simpa using h1) (by simpa using h2) hk
noncomputable def iu (N:List Str) (vs:List V):St:=vs.map some++List.replicate (N.length-vs.length) none
noncomputable def gO (CX:uK) (P:Program) (w:World) (K:PySem.W.Frag) (mg:Str->Option Value) (base:Heap) (N:List Str) (qual:Str) (scope:Scope) (f:Addr) (cd:Value) (A:Around) (outer:List Env) (s:Shared) (H:Hp) (E:XK):Cx where
 prog:=P
 w:=w
 K:=K
 mg:=mg
 base:=base
 A:=A.deeper (envOfC qual scope s.heap.objs.size f cd)
 N:=N
 s₀:=s
 H₀:=H
 env:=envOfC qual scope s.heap.objs.size f cd
 outer:=outer
 stack:=envOfC qual scope s.heap.objs.size f cd::outer
 ex:=[]
 calm:=true
 fn:=fun _=>true
 pn:=[]
 xe:=fun e s'=>wpAny (model P w) (A.deeper (envOfC qual scope s.heap.objs.size f cd)) (leaving (envOfC qual scope s.heap.objs.size f cd) e) (fun _ s''=>CX outer H s E e s'') (fun e' s''=>CX outer H s E e' s'') s'
theorem sN {sc:Scope} {n:Nat} {x:Str} (h:sc.names.lookup x=some .cell):∃ c,(cellsFrom n sc.names []).lookup x=some c:=by
 have q:=PySem.W.cellsFrom_some sc.names n [] (.inl h)
 exact Option.isSome_iff_exists.mp q
theorem wz {CX:uK} {P:Program} {w:World} {K:PySem.W.Frag} {mg:Str->Option Value} {base:Heap} {N ps:List Str} {qual:Str} {scope:Scope} {f:Addr} {cd:Value} {A:Around} {outer:List Env} {s s1:Shared} {H:Hp} {E:XK} {us:List Value} {vs:List V}
  (S:FnScope N ps scope) (hd:A.handled=none) (e0:Env0 P w K mg base A outer s H) (hl:vs.length=ps.length) (r:Vals vs us)
  (x:InCallC s s.heap.objs.size (bindL (envOfC qual scope s.heap.objs.size f cd).kindOf (ps.zip us) fun _=>none) (cellsFrom (s.heap.objs.size+1) scope.names []) (bindC (envOfC qual scope s.heap.objs.size f cd).kindOf (ps.zip us) fun _=>none) s1) :
  Inv (gO CX P w K mg base N qual scope f cd A outer s H E) [] (iu N vs) H s1:=by
 have hpl:ps.length<=N.length:=by have:=congrArg List.length S.pre; rw [List.length_take] at this; omega
 obtain ⟨h1,tk,rfl,hk⟩:=x.done
 have noA:∀ b:Addr,b ∉ (gO CX P w K mg base N qual scope f cd A outer s H E).ex:=fun b z=>absurd (show b∈([]:List Addr) from z) (by simp)
 refine ⟨⟨e0.mod,S.kind,rfl,rfl,Nat.le_refl _,fun y z c h1 h2=>?_,fun y hy=>?_,fun y c _ h=>?_,fun _=>hd,Around.frames_deeper e0.frames,.inr ⟨rfl,rfl⟩,fun b z=>absurd z (noA b),e0.bs,e0.bsz,fun b _ _=>noA b,fun b z=>absurd z (noA b),e0.funs,e0.frf⟩,
  rfl,e0.bare,Un.kept hk,⟨_,x.toInCall.ns,fun i y v h1 h2 h3=>?_⟩,fun y c h=>⟨_,x.cell y c h⟩,e0.hok.fresh (Nat.le_refl _),fun y c h=>?_,fun p hp=>absurd (show p∈([]:List (Addr×Obj)) from hp) (by simp),e0.hok.kept hk,?_⟩
 ·exact name_of_addr x.apart (PySem.mem_of_lookup h1) (PySem.mem_of_lookup h2)
 ·have hy:scope.names.lookup y=some .cell\/scope.names.lookup y=some .free:=hy
  rcases hy with hy | hy
  ·exact sN hy
  ·exact absurd rfl (S.nofree _ (PySem.mem_of_lookup hy))
 ·exact Nat.le_of_lt (x.above y c (PySem.mem_of_lookup h))
 ·have hi:i<vs.length:=by
   unfold iu at h2
   by_cases hi:i<vs.length
   ·exact hi
   ·rw [List.getElem?_append_right (by simpa using hi)] at h2
    rw [List.getElem?_replicate] at h2
    split at h2 <;> cases h2
  have ha:vs[i]? = some v:=by
   unfold iu at h2
   rw [List.getElem?_append_left (by simpa using hi),List.getElem?_map] at h2
   cases e:vs[i]? with
   | none=>rw [e] at h2; cases h2
   | some a=>rw [e] at h2; cases h2; rfl
  obtain ⟨u,hu,rv⟩:=r.get ha
  have hp:ps[i]? = some y:=by
   rw [<- S.pre,List.getElem?_take_of_lt (by omega)]; exact h1
  have ndP:ps.Nodup:=by rw [<- S.pre]; exact S.nd.sublist (List.take_sublist _ _)
  refine ⟨u,rv,?_⟩
  rcases S.par y (List.mem_of_getElem? hp) with k | k
  ·exact .inl ⟨k,o7 ndP hp hu k⟩
  ·obtain ⟨c,e⟩:=sN (n:=s.heap.objs.size+1) k
   refine .inr ⟨.inl k,c,e,?_⟩
   have q:=x.cell y c e
   rw [o9 ndP hp hu (by show scope.names.lookup y≠_; rw [k]; decide)] at q
   exact q
 ·exact e0.hok.fresh (Nat.le_of_lt (x.above y c (PySem.mem_of_lookup h)))
 ·unfold iu
  show _=N.length
  rw [List.length_append,List.length_map,List.length_replicate]
  omega
theorem Cn {CX:uK} {P:Program} {w:World} {K:PySem.W.Frag} {mg:Str->Option Value} {base:Heap} {k:Nat} {f:Addr} {name qual:Str} {params:Arguments} {body:List Stmt} {scope:Scope} {dV kV doc pm cdv ct oc:Value} {an od:Option Addr}
  {osl:Array (Option Value)} {N ps:List Str} {sp:Sp} (lk:K.lookup f=some ⟨oc,od,.func (PySem.W.fnOf name qual params body scope dV kV doc pm an cdv ct),osl⟩) (hcd:PySem.W.codeIn K cdv qual=true) (S:FnScope N ps scope)
  (len:∀ vs H Q E,sp vs H Q E->vs.length=ps.length)
  (hbody:∀ (A:Around) (outer:List Env) (s:Shared) (H:Hp) (vs:List V) (Q:VK) (E:XK),Room k (A.deeper (envOfC qual scope s.heap.objs.size f cdv))->sp vs H Q E ->
   ∃ t,PSs (gO CX P w K mg base N qual scope f cdv A outer s H E) body t/\t { nx:=fun _ H'=>Q .non H',rt:=Q } (iu N vs) H) :
  FnOk P w K mg base CX (k+1) f (PySem.W.fnOf name qual params body scope dV kV doc pm an cdv ct) ps sp:=by
 refine ⟨len,fun A outer s H args us vs Q E hr e0 hb r hsp=>?_⟩
 have hl:=len _ _ _ _ hsp
 have KX:K.In s.heap:=e0.mod.kin.keeps fun b o e=>(e0.bs b o e).1
 have lim:s.heap.NoLimit:=e0.mod.nolimit.keeps fun b o e=>(e0.bs b o e).1
 have hkind:∀ y∈ps.zip us,scope.names.lookup y.1=some .local\/(scope.names.lookup y.1=some .cell/\((cellsFrom (s.heap.objs.size+1) scope.names []).lookup y.1).isSome=true):=fun ⟨n,v⟩ hy=>by
  rcases S.par n (List.of_mem_zip hy).1 with q | q
  ·exact .inl q
  ·exact .inr ⟨q,PySem.W.cellsFrom_some _ _ _ (.inl q)⟩
 refine codeAny_call_function hr.depth (KX _ _ lk) rfl S.co S.gen rfl (PySem.W.codeRec_of KX hcd) (hb _ _ _ _ ?_)
 refine wpAny_newFunctionEnv_cells S.kind hkind fun env he s1 x=>?_
 subst he
 refine ⟨lim.keeps x.toInCall.keep,codeAny_func ?_⟩
 obtain ⟨t,ht,hq⟩:=hbody A outer s H vs Q E (hr.deeper _) hsp
 have I:Inv (gO CX P w K mg base N qual scope f cdv A outer s H E) [] (iu N vs) H s1:=wz S hr.hd e0 hl r x
 refine wpAny_mono (ht [] s1 (iu N vs) H _ I hq) (fun fl s' hs=>?_) fun e s' hs=>hs
 have fin:∀ {σ':St} {H':Hp} {v:V} {u:Value},Inv (gO CX P w K mg base N qual scope f cdv A outer s H E) [] σ' H' s'->RelV v u->Q v H'->CE outer P w H s Q u s':=
  fun {σ' H' v u} J rv q=>⟨v,H',J.os,J.bare,J.base,J.hok,rv,q⟩
 cases fl with
 | ret u=>
  obtain ⟨v,σ',H',J,rv,q⟩:=hs
  exact fin J rv q
 | next=>
  obtain ⟨σ',H',J,q⟩:=hs
  exact fin (v:=V.non) (u:=Value.none) J rfl q
 | brk=>
  obtain ⟨_,_,_,q⟩:=hs
  exact False.elim q
 | cont=>
  obtain ⟨_,_,_,q⟩:=hs
  exact False.elim q
end L2
namespace L2
open PySem PySem.Spec PyProof.Rows
section
variable {X:Cx} {x:Str} {p pos:Pos} {e:Expr} {es:List Expr} {t:TA} {id T:String} {r:List V->Hp->VK->Prop}
def JW (r:List V->Hp->VK->Prop) (t:TA):TE:=fun σ H Q=>t σ H fun vs H1=>r vs H1 Q
theorem mJ (hc:CallR X (.builtin id) r) (hg:Gl X x) (hm:X.mg x=none) (hv:bootBuiltins x=some (.builtin id)) (ha:PA X (e::es) t) (hn:x ≠ "__name__":=by decide) (hdb:(x==("__debug__":Str))=false:=by decide)
  (he:starEach (e::es) X.env=(false,eval e X.env)::starEach es X.env:=by rfl) (hpl:(backTo pos (starEach es X.env)).any (·.1)=false:=by rfl):PE X (.Call (.Name x p) (e::es) [] pos) (JW r t):=by
 intro pins s σ H Q I h
 refine wpAny_Call_Name_kw (kG I hg hm hv ?_ hn hdb)
 exact PyProof.Rows.callWith_builtin1 (cx (ha pos pins s σ H _ I h) fun us s1 ⟨vs,H1,I1,r1,q1⟩=>hc pins s1 σ H1 vs us Q I1 r1 q1) he hpl
theorem v8 (hc:CallR X (.type T) r) (hg:Gl X x) (hm:X.mg x=none) (hv:bootBuiltins x=some (.type T)) (ha:PA X (e::es) t) (hn:x ≠ "__name__":=by decide) (hdb:(x==("__debug__":Str))=false:=by decide)
  (he:starEach (e::es) X.env=(false,eval e X.env)::starEach es X.env:=by rfl) (hpl:(backTo pos (starEach es X.env)).any (·.1)=false:=by rfl):PE X (.Call (.Name x p) (e::es) [] pos) (JW r t):=by
 intro pins s σ H Q I h
 refine wpAny_Call_Name_kw (kG I hg hm hv ?_ hn hdb)
 exact PyProof.Rows.callWith_type1 (cx (ha pos pins s σ H _ I h) fun us s1 ⟨vs,H1,I1,r1,q1⟩=>hc pins s1 σ H1 vs us Q I1 r1 q1) he hpl
end
end L2
namespace HT
open PySem PyProof.Rows
section
variable {prog:Program} {w:World} {A:Around} {E:Value->Shared->Prop} {s:Shared}
theorem BD {t b:Addr} {vs ws:List Value} {Q:Value->Shared->Prop} (ht:IsTup s.heap t vs.toArray) (hb:IsTup s.heap b ws.toArray) (hv:vs≠[])
  (h1:ws=[]->Q (.ref t) s) (h2:ws≠[]->Q (.ref s.heap.objs.size) { s with heap:=s.heap.push { cls:=.type "tuple",data:=.seq (vs++ws).toArray } })
  (hsz:vs.length+ws.length<=sizeLine):wpAny (model prog w) A (binaryOp .Add (.ref t) (.ref b)) Q E s:=by
 obtain ⟨⟨cls,dd,data,sl⟩,ho,hc,n,hd⟩:=id ht
 obtain ⟨⟨cls2,dd2,data2,sl2⟩,ho2,hc2,n2,hd2⟩:=id hb
 simp only at hc hd hc2 hd2
 subst hc hd hc2 hd2
 have e:vs.toArray++ws.toArray=(vs++ws).toArray:=by simp
 by_cases hw:ws=[]
 ·exact concat_meets ⟨_,ho,rfl⟩ ⟨_,ho2,rfl⟩ noFill_tuple_add seq_tuple_add PySem.F.slot_tuple_add PySem.F.entry_tuple_add (PySem.F.args_tuple_add_2 _ _)
   (tuple_addW1 t b vs.toArray ws.toArray n n2 dd dd2 sl sl2 (by simpa using hv) (by simp [hw])) ⟨ho,ho2,h1 hw⟩
 ·refine concat_meets ⟨_,ho,rfl⟩ ⟨_,ho2,rfl⟩ noFill_tuple_add seq_tuple_add PySem.F.slot_tuple_add PySem.F.entry_tuple_add (PySem.F.args_tuple_add_2 _ _)
   (tuple_addW2 t b vs.toArray ws.toArray n n2 dd dd2 sl sl2 (by simpa using hv) (by simpa using hw) (by rw [List.size_toArray,List.size_toArray]; exact hsz)) ⟨ho,ho2,?_⟩
  rw [e]
  exact h2 hw
noncomputable def sIx (n d:Nat):Option Int->Nat
 | none=>d
 | some v=>if v<0 then (v+(n:Int)).toNat else min v.toNat n
theorem CK (n d:Nat) (hd:d<=n) (o:Option Int):sIx n d o<=n:=by
 cases o with
 | none=>exact hd
 | some v=>
  show (if v<0 then (v+(n:Int)).toNat else min v.toNat n)<=n
  by_cases hv:v<0
  ·rw [if_pos hv]; omega
  ·rw [if_neg hv]; exact Nat.min_le_right _ _
theorem vw (v:Int) (n d:Nat):(if v<0 then max (v+(n:Int)) 0 else min v (n:Int))=((sIx n d (some v):Nat):Int):=by
 show (if v<0 then max (v+(n:Int)) 0 else min v (n:Int))=(((if v<0 then (v+(n:Int)).toNat else min v.toNat n):Nat):Int)
 by_cases hv:v<0
 ·simp only [if_pos hv]; omega
 ·simp only [if_neg hv]; omega
theorem uH (lo hi:Option Int) (n:Nat):Builtin.Slice.sliceAdjust lo hi 1 (n:Int)=(((sIx n 0 lo:Nat):Int),((sIx n n hi:Nat):Int)):=by
 have h1:¬ ((1:Int)<0):=by omega
 unfold Builtin.Slice.sliceAdjust
 simp only [h1,if_false]
 refine Prod.ext ?_ ?_
 ·cases lo with
  | none=>rfl
  | some v=>exact vw v n 0
 ·cases hi with
  | none=>rfl
  | some v=>exact vw v n n
theorem tR (i j:Nat):Builtin.Slice.slicePlaces (i:Int) (j:Int) 1=j-i:=by
 unfold Builtin.Slice.slicePlaces
 have h1:(1:Int)>0:=by omega
 simp only [h1,if_true,Int.ediv_one]
 split <;> omega
theorem mF {v:Value} {o:Option Int} {Q:Option Int->Shared->Prop} (p:IsPart v o) (h:Q o s):wpAny (model prog w) A (Builtin.Slice.slicePartIndex v) Q E s:=by
 cases p with
 | none=>exact slicePart_none h
 | int i t=>exact slicePart_int h
theorem gH {sl:Addr} {vl vu:Value} {lo hi:Option Int} {n:Nat} {Q:Int×Int×Nat->Shared->Prop} (hs:s.heap.IsSliceOf sl vl vu .none) (pl:IsPart vl lo) (pu:IsPart vu hi)
  (h:Q (((sIx n 0 lo:Nat):Int),1,sIx n n hi-sIx n 0 lo) s):wpAny (model prog w) A (Builtin.Slice.sliceApplied (.ref sl) (pure (n:Int))) Q E s:=by
 obtain ⟨os,hos,hcs,hds⟩:=id hs
 unfold Builtin.Slice.sliceApplied Builtin.Slice.sliceFields
 refine wpAny_bind (wpAny_bind (wpAny_field hos hds (x:=vl) rfl (wpAny_bind (wpAny_field hos hds (x:=vu) rfl (wpAny_bind (wpAny_field hos hds (x:=.none) rfl (wpAny_pure ?_)))))))
 refine wpAny_bind (slicePart_none ?_)
 show wpAny _ _ (if ((1:Int)==0)=true then _ else _) _ _ s
 rw [if_neg (by decide)]
 refine wpAny_bind (mF pl (wpAny_bind (mF pu (wpAny_bind (wpAny_pure ?_)))))
 show wpAny _ _ (match Builtin.Slice.sliceAdjust lo hi 1 (n:Int) with | (lo,hi)=>pure (lo,(1:Int),Builtin.Slice.slicePlaces lo hi 1)) _ _ s
 rw [uH lo hi n]
 show wpAny _ _ (pure (((sIx n 0 lo:Nat):Int),(1:Int),Builtin.Slice.slicePlaces ((sIx n 0 lo:Nat):Int) ((sIx n n hi:Nat):Int) 1)) _ _ s
 rw [tR]
 exact wpAny_pure h
theorem xB (xs:Array Value) (i k:Nat):((List.range k).filterMap fun (m:Nat)=>xs[((i:Int)+(m:Int)*1).toNat]?).toArray=((xs.toList.drop i).take k).toArray:=by
 have e:(fun (m:Nat)=>xs[((i:Int)+(m:Int)*1).toNat]?)=fun m=>xs[i+m]?:=by
  funext m
  have:((i:Int)+(m:Int)*1).toNat=i+m:=by omega
  rw [this]
 rw [e]
 have:=pick_run xs i k
 rw [List.filterMap_map] at this
 have e2:((fun x=>xs[x]?) ∘ fun x=>i+x)=fun m=>xs[i+m]?:=rfl
 rw [e2] at this
 rw [this]
theorem j1 {t sl:Addr} {items:Array Value} {vl vu:Value} {lo hi:Option Int} {Q:Value->Shared->Prop} (ht:IsTup s.heap t items) (hs:s.heap.IsSliceOf sl vl vu .none) (pl:IsPart vl lo) (pu:IsPart vu hi)
  (hw:¬ (sIx items.size 0 lo=0/\sIx items.size items.size hi=items.size))
  (h:Q (.ref s.heap.objs.size) { s with heap:=s.heap.push { cls:=.type "tuple",data:=.seq ((items.toList.drop (sIx items.size 0 lo)).take (sIx items.size items.size hi-sIx items.size 0 lo)).toArray } })
  (hsz:items.size<=sizeLine):wpAny (model prog w) A (getItem (.ref t) (.ref sl)) Q E s:=by
 have htake:sizeOk (.seq ((items.toList.drop (sIx items.size 0 lo)).take (sIx items.size items.size hi-sIx items.size 0 lo)).toArray):=by
  show ((items.toList.drop (sIx items.size 0 lo)).take (sIx items.size items.size hi-sIx items.size 0 lo)).toArray.size<=sizeLine
  rw [List.size_toArray,List.length_take,List.length_drop,Array.length_toList]
  omega
 have hj:sIx items.size items.size hi<=items.size:=CK _ _ (Nat.le_refl _) hi
 obtain ⟨os,hos,hcs,hds⟩:=id hs
 have hTs:s.TypeIs (.ref sl) "slice":=⟨os,hos,hcs⟩
 unfold getItem
 try with_reducible refine wpAny_holding ?_
 first | refine wpAny_bind (wpAny_pure ?_) | skip
 refine wpAny_bind (wpAny_sequenceKey ht.typeIs (by decide) ?_)
 refine wpAny_bind (wpAny_callSpecial?_slot (name:=Str.ofString "__getitem__") ht.typeIs PyProof.Rows.slot_tuple_getitem
  (wpAny_call_entry PyProof.Rows.slot_tuple_getitem ht.typeIs entry_tuple_getitem ?_ (args_tuple_getitem _ _)))
 show wpAny _ _ (Builtin.Tuple.tupleItemsOf (.ref t) >>= _) _ _ s
 refine wpAny_bind (tupleItemsOf_ ht ?_)
 refine wpAny_bind (wpAny_typeOf hTs ?_)
 rw [if_pos (by decide)]
 refine wpAny_bind (gH hs pl pu ?_)
 have hno:¬ ((((sIx items.size 0 lo:Nat):Int)==0&&(1:Int)==1&&(sIx items.size items.size hi-sIx items.size 0 lo)==items.size)=true):=by
  intro q
  rw [Bool.and_eq_true,Bool.and_eq_true] at q
  have q1:((sIx items.size 0 lo:Nat):Int)=0:=eq_of_beq q.1.1
  have q2:sIx items.size items.size hi-sIx items.size 0 lo=items.size:=eq_of_beq q.2
  exact hw ⟨by omega,by omega⟩
 show wpAny _ _ (if (((sIx items.size 0 lo:Nat):Int)==0&&(1:Int)==1&&(sIx items.size items.size hi-sIx items.size 0 lo)==items.size)=true then _ else _) _ _ s
 rw [if_neg hno,xB]
 first
  | exact wpAny_bind (m:=Builtin.Tuple.tupleExact _) (wpAny_newObj_type (wpAny_pure ⟨_,rfl,wpAny_pure h⟩) htake)
  | exact wpAny_bind (m:=Builtin.Tuple.tupleExact _) (wpAny_newObj_type (wpAny_bind (wpAny_pure (wpAny_pure ⟨_,rfl,wpAny_pure h⟩))) htake)
  | exact wpAny_bind (wpAny_bind (m:=Builtin.Tuple.tupleExact _) (wpAny_newObj_type (wpAny_pure (wpAny_pure ⟨_,rfl,wpAny_pure h⟩)) htake))
  | exact wpAny_bind (wpAny_bind (m:=Builtin.Tuple.tupleExact _) (wpAny_newObj_type (wpAny_pure ⟨_,rfl,wpAny_pure h⟩) htake))
end
end HT
namespace L2
open PySem PySem.Spec PyProof.Rows
abbrev TO:=St->Hp->(Option Int->Hp->Prop)->Prop
def PO (X:Cx) (e:Option Expr) (t:TO):Prop:=
 ∀ (pins:List (Addr×Obj)) (s:Shared) (σ:St) (H:Hp) (Q:Option Int->Hp->Prop),Inv X pins σ H s->t σ H Q ->
  wpAny (model X.prog X.w) X.A (evalPart e X.env) (fun u s'=>∃ o H',Inv X pins σ H' s'/\IsPart u o/\Q o H') X.xe s
noncomputable def zS:TO:=fun _ H Q=>Q none H
def EU (t:TE):TO:=fun σ H Q=>t σ H fun x H1=>∃ i,x=.int i/\Q (some i) H1
section
variable {X:Cx} {e:Expr} {te:TE} {lo hi:Option Expr} {tl th:TO} {pos p2:Pos}
theorem Ar:PO X none zS:=by
 intro pins s σ H Q I h
 rw [evalPart_none]
 exact wpAny_pure ⟨none,H,I,.none,h⟩
theorem Aq (h:PE X e te):PO X (some e) (EU te):=by
 intro pins s σ H Q I hw
 rw [evalPart_some]
 refine cx (h pins s σ H _ I hw) fun u s1 ⟨x,H1,I1,r1,q1⟩=>?_
 obtain ⟨i,rfl,q⟩:=q1
 obtain ⟨t,rfl⟩:=r1
 exact ⟨some i,H1,I1,.int i t,q⟩
def SlR (X:Cx) (r:V->Option Int->Option Int->Hp->VK->Prop):Prop:=
 ∀ (pins:List (Addr×Obj)) (s:Shared) (σ:St) (H:Hp) (x:V) (v vl vu:Value) (lo hi:Option Int) (sl:Addr) (Q:VK),Inv X pins σ H s->RelV x v->s.heap.IsSliceOf sl vl vu .none->IsPart vl lo->IsPart vu hi->r x lo hi H Q ->
  ∃ T id,typeLookup (.type T) "__getitem__" = pure (some (.builtin id))/\s.TypeIs v T/\wpAny (model X.prog X.w) X.A (getItem v (.ref sl)) (EP X pins σ Q) X.xe s
theorem SlR.or {r r':V->Option Int->Option Int->Hp->VK->Prop} (h:SlR X r) (h':SlR X r'):SlR X (fun x lo hi H Q=>r x lo hi H Q\/r' x lo hi H Q):=by
 intro pins s σ H x v vl vu lo hi sl Q I rx hs pl pu q
 rcases q with q | q
 ·exact h pins s σ H x v vl vu lo hi sl Q I rx hs pl pu q
 ·exact h' pins s σ H x v vl vu lo hi sl Q I rx hs pl pu q
def Ks (r:V->Option Int->Option Int->Hp->VK->Prop) (te:TE) (tl th:TO):TE:=fun σ H Q=>te σ H fun x H1=>tl σ H1 fun l H2=>th σ H2 fun u H3=>r x l u H3 Q
theorem xD {r:V->Option Int->Option Int->Hp->VK->Prop} (hr:SlR X r) (he:PE X e te) (hl:PO X lo tl) (hu:PO X hi th):PE X (.Subscript e (.Slice lo hi none p2) pos) (Ks r te tl th):=by
 intro pins s σ H Q I h
 refine Subscript_ (cx (he pins s σ H _ I h) fun v s1 ⟨x,H1,I1,r1,q1⟩=>?_)
 refine wpAny_Slice (cx (hl pins s1 σ H1 _ I1 q1) fun vl s2 ⟨l,H2,I2,pl,q2⟩=>cx (hu pins s2 σ H2 _ I2 q2) fun vu s3 ⟨u,H3,I3,pu,q3⟩=>?_)
 rw [evalPart_none]
 refine wpAny_pure ?_
 have I4:Inv X pins σ H3 { s3 with heap:=s3.heap.push { cls:=.type "slice",data:=.fields #[vl,vu,.none] } }:=I3.kept (t':=s3.toks) fun b ob q=>Heap.get?_push_of_some _ q
 obtain ⟨T,id,hT,ht,hg⟩:=hr pins { s3 with heap:=s3.heap.push { cls:=.type "slice",data:=.fields #[vl,vu,.none] } } σ H3 x v vl vu l u s3.heap.objs.size Q I4 r1 (Heap.IsSliceOf.new ..) pl pu q3
 show wpAny (model X.prog X.w) X.A (subscriptTail e (.Slice lo hi none p2) v (.ref s3.heap.objs.size)) (EP X pins σ Q) X.xe { s3 with heap:=s3.heap.push { cls:=.type "slice",data:=.fields #[vl,vu,.none] } }
 exact tail_any (ops:=[.ref s3.heap.objs.size,v]) ht hT hg (by with_unfolding_all rfl)
noncomputable def n9 (xs:List V) (lo hi:Option Int):List V:=(xs.drop (HT.sIx xs.length 0 lo)).take (HT.sIx xs.length xs.length hi-HT.sIx xs.length 0 lo)
theorem lh (xs:List V) (lo hi:Option Int):(n9 xs lo hi).length<=xs.length:=by
 unfold n9
 rw [List.length_take,List.length_drop]
 omega
def Il (K:PySem.W.Frag):V->Option Int->Option Int->Hp->VK->Prop:=fun x lo hi H Q=>∃ a xs,x=.ref a/\SqT K H a xs /\
 ¬ (HT.sIx xs.length 0 lo=0/\HT.sIx xs.length xs.length hi=xs.length)/\∀ p,H p=none->Q (.ref p) (upd H p (.tup (n9 xs lo hi)))
theorem sl_tup:SlR X (Il X.K):=by
 intro pins s σ H x v vl vu lo hi sl Q I rx hs pl pu h
 obtain ⟨a,xs,rfl,hx,hw,q⟩:=h
 cases rx
 obtain ⟨its,r,ht,hz⟩:=I.tuple hx
 have hlen:its.toArray.size=xs.length:=by rw [List.size_toArray]; exact r.length.symm
 refine ⟨"tuple",_,PyProof.Rows.slot_tuple_getitem.lookup,ht.typeIs,?_⟩
 refine HT.j1 ht hs pl pu (by rw [hlen]; exact hw) ?_ (by rw [hlen]; exact hz)
 rw [hlen]
 refine ⟨.ref s.heap.objs.size,_,I.laid (t':=s.toks) (o:=.tup (n9 xs lo hi)) (fun b ob q=>Heap.get?_push_of_some _ q) (Nat.le_refl _) ?_,rfl,q _ (I.hok.fresh (Nat.le_refl _))⟩
 exact ⟨Nat.le_trans (lh xs lo hi) hz,_,(r.drop (HT.sIx xs.length 0 lo)).take (HT.sIx xs.length xs.length hi-HT.sIx xs.length 0 lo),IsTup.new _ _,NoDi.new _ _⟩
def Fh (K:PySem.W.Frag):R2:=fun x y H Q=>∃ a b xs ys,x=.ref a/\y=.ref b/\SqT K H a xs/\SqT K H b ys/\xs≠[]/\xs.length+ys.length<=sizeLine /\
 (ys=[]->Q (.ref a) H)/\(ys≠[]->∀ p,H p=none->Q (.ref p) (upd H p (.tup (xs++ys))))
theorem Vals.nil_iff {xs:List V} {us:List Value} (r:Vals xs us):us=[]↔xs=[]:=by
 cases r with
 | nil=>simp
 | cons _ _=>simp
theorem AE:OpR X (binaryOp .Add) (Fh X.K):=by
 intro pins s σ H x y v u Q I rx ry h
 obtain ⟨a,b,xs,ys,rfl,rfl,ha,hb,hx,hz,q1,q2⟩:=h
 cases rx
 cases ry
 obtain ⟨its,r1,p1,_⟩:=I.tuple ha
 obtain ⟨its2,r2,p2,_⟩:=I.tuple hb
 refine HT.BD p1 p2 (fun z=>hx (r1.nil_iff.mp z)) (fun z=>⟨.ref a,H,I,rfl,q1 (r2.nil_iff.mp z)⟩) (fun z=>?_) (by rw [<- r1.length,<- r2.length]; exact hz)
 refine ⟨.ref s.heap.objs.size,_,I.laid (t':=s.toks) (o:=.tup (xs++ys)) (fun b ob q=>Heap.get?_push_of_some _ q) (Nat.le_refl _) ?_,rfl,q2 (fun w=>z (r2.nil_iff.mpr w)) _ (I.hok.fresh (Nat.le_refl _))⟩
 exact ⟨by rw [List.length_append]; exact hz,_,r1.append r2,IsTup.new _ _,NoDi.new _ _⟩
end
end L2
namespace L2
open PySem PySem.Spec PyProof.Rows
noncomputable def Dz (n:Nat) (i:Int):Option Nat:=if 0<=i then (if i<n then some i.toNat else none) else if -(n:Int)<=i then some (i+n).toNat else none
noncomputable def lj {α:Type} (xs:List α) (i:Int):Option α:=(Dz xs.length i).bind fun j=>xs[j]?
theorem Bg {n:Nat} {i:Int} {j:Nat} (h:Dz n i=some j):seqIndex? i n=some j/\j<n /\ -(n:Int)<=i/\i<n:=by
 unfold Dz at h
 by_cases h0:0<=i
 ·rw [if_pos h0] at h
  by_cases h1:i<n
  ·rw [if_pos h1] at h
   have e:i.toNat=j:=Option.some.inj h
   exact ⟨by rw [seqIndex_of h0 h1,e],by omega,by omega,h1⟩
  ·rw [if_neg h1] at h; cases h
 ·rw [if_neg h0] at h
  by_cases h1:-(n:Int)<=i
  ·rw [if_pos h1] at h
   have e:(i+n).toNat=j:=Option.some.inj h
   exact ⟨by rw [seqIndex_neg (by omega) h1,e],by omega,h1,by omega⟩
  ·rw [if_neg h1] at h; cases h
theorem vD {α:Type} {xs:List α} {i:Int} {v:α} (h:lj xs i=some v):∃ j,seqIndex? i xs.length=some j/\xs[j]? = some v/\j<xs.length /\ -(xs.length:Int)<=i/\i<xs.length:=by
 unfold lj at h
 cases e:Dz xs.length i with
 | none=>rw [e] at h; cases h
 | some j=>
  rw [e] at h
  obtain ⟨h1,h2,h3,h4⟩:=Bg e
  exact ⟨j,h1,h,h2,h3,h4⟩
def qD (b:Expr):Prop:=∀ o i,subscripted b false o i=operate [o,i] (getItem o i)
def IxR (X:Cx) (r:R2):Prop:=
 ∀ (value slice:Expr) (pins:List (Addr×Obj)) (s:Shared) (σ:St) (H:Hp) (x y:V) (v u:Value) (Q:VK),Inv X pins σ H s->RelV x v->RelV y u->r x y H Q ->
  subscripted slice false v u=operate [v,u] (getItem v u)->wpAny (model X.prog X.w) X.A (subscriptTail value slice v u) (EP X pins σ Q) X.xe s
def KK (X:Cx) (id:String) (r:V->List V->Hp->VK->Prop):Prop:=
 ∀ (pins:List (Addr×Obj)) (s:Shared) (σ:St) (H:Hp) (x:V) (xs:List V) (v:Value) (us:List Value) (Q:VK),Inv X pins σ H s->RelV x v->Vals xs us->r x xs H Q ->
  wpAny (model X.prog X.w) X.A (call (.builtin id) (v::us)) (EP X pins σ Q) X.xe s
section
variable {X:Cx} {a b:Expr} {ta tb:TE} {pos:Pos}
theorem IxR.or {r r':R2} (h:IxR X r) (h':IxR X r'):IxR X (fun x y H Q=>r x y H Q\/r' x y H Q):=by
 intro value slice pins s σ H x y v u Q I rx ry q hs
 rcases q with q | q
 ·exact h value slice pins s σ H x y v u Q I rx ry q hs
 ·exact h' value slice pins s σ H x y v u Q I rx ry q hs
theorem BZ {r:R2} (hr:IxR X r) (ha:PE X a ta) (hb:PE X b tb) (hs:qD b):PE X (.Subscript a b pos) (EW r ta tb):=by
 intro pins s σ H Q I h
 exact Subscript_ (Ec ha hb I h fun v u s2 x y H2 I2 rx ry q=>hr a b pins s2 σ H2 x y v u Q I2 rx ry q (hs _ _))
def Iq (K:PySem.W.Frag):R2:=fun x y H Q=>∃ p xs i v,x=.ref p/\y=.int i/\SqL K H p xs/\lj xs i=some v/\Q v H
def Io (K:PySem.W.Frag):R2:=fun x y H Q=>∃ p xs i v,x=.ref p/\y=.int i/\SqT K H p xs/\lj xs i=some v/\Q v H
theorem ix_list:IxR X (Iq X.K):=by
 intro value slice pins s σ H x y v u Q I rx ry h hs
 obtain ⟨p,xs,i,z,rfl,rfl,hq,he,q⟩:=h
 cases rx
 obtain ⟨t,rfl⟩:=ry
 obtain ⟨its,r,pl,hz⟩:=I.list hq
 obtain ⟨j,h1,h2,h3,h4,h5⟩:=vD he
 obtain ⟨w,ew,rw'⟩:=r.get h2
 have hl:=r.length
 have hn:=t9
 have fin:EP X pins σ Q w s:=⟨z,H,I,rw',q⟩
 by_cases h0:0<=i
 ·have hj:i.toNat=j:=by
   rw [seqIndex_of h0 h5] at h1
   exact Option.some.inj h1
  exact item_listR pl.isList h0 (by omega) (by rw [hj]; simpa using ew) fin hs
 ·have hj:(i+(its.toArray.size:Int)).toNat=j:=by
   rw [seqIndex_neg (by omega) h4] at h1
   rw [List.size_toArray,<- hl]
   exact Option.some.inj h1
  exact subscriptTail_builtinR (x:=w) pl.isList.typeIs slot_list_getitem.lookup
   (wpAny_getItem_list_neg (Q:=fun r s'=>r=w/\EP X pins σ Q r s') pl.isList (by omega) (by rw [List.size_toArray] <;> omega) (by omega) (by rw [hj]; simpa using ew) ⟨rfl,fin⟩) hs
theorem Dy:IxR X (Io X.K):=by
 intro value slice pins s σ H x y v u Q I rx ry h hs
 obtain ⟨p,xs,i,z,rfl,rfl,hq,he,q⟩:=h
 cases rx
 obtain ⟨t,rfl⟩:=ry
 obtain ⟨its,r,pl,hz⟩:=I.tuple hq
 obtain ⟨j,h1,h2,h3,h4,h5⟩:=vD he
 obtain ⟨w,ew,rw'⟩:=r.get h2
 have hl:=r.length
 have hn:=t9
 have fin:EP X pins σ Q w s:=⟨z,H,I,rw',q⟩
 exact subscriptTail_builtinR (x:=w) pl.typeIs slot_tuple_getitem.lookup
  (getItem_tuple (j:=j) (Q:=fun r s'=>r=w/\EP X pins σ Q r s') pl (by omega) (by omega) (by rw [List.size_toArray,<- hl]; exact h1) (by simpa using ew) ⟨rfl,fin⟩) hs
theorem pv (lo hi:Option Int) (n:Nat):(sliceBounds lo hi none n).1=((HT.sIx n 0 lo:Nat):Int)/\(sliceBounds lo hi none n).2.1=((HT.sIx n n hi:Nat):Int)/\(sliceBounds lo hi none n).2.2=1:=by
 refine ⟨?_,?_,rfl⟩
 ·cases lo with
  | none=>simp [sliceBounds,HT.sIx]
  | some i=>
   simp only [sliceBounds,HT.sIx,Option.getD_none,show (1:Int)>0 by decide,if_true]
   by_cases h:i<0
   ·simp only [h,if_true] <;> omega
   ·simp only [h,if_false] <;> omega
 ·cases hi with
  | none=>simp [sliceBounds,HT.sIx]
  | some i=>
   simp only [sliceBounds,HT.sIx,Option.getD_none,show (1:Int)>0 by decide,if_true]
   by_cases h:i<0
   ·simp only [h,if_true] <;> omega
   ·simp only [h,if_false] <;> omega
theorem nJ (its:List Value) (lo hi:Option Int):slicePick its.toArray lo hi none=((its.drop (HT.sIx its.length 0 lo)).take (HT.sIx its.length its.length hi-HT.sIx its.length 0 lo)).toArray:=by
 obtain ⟨h1,h2,h3⟩:=pv lo hi its.toArray.size
 unfold slicePick
 rw [h1,h2,h3]
 simp only [sliceRange_one,pick_run,List.size_toArray] <;> rfl
def Im (K:PySem.W.Frag):V->Option Int->Option Int->Hp->VK->Prop:=fun x lo hi H Q=>∃ a xs,x=.ref a/\SqL K H a xs/\∀ p,H p=none->Q (.ref p) (upd H p (.lst (n9 xs lo hi)))
theorem sl_list:SlR X (Im X.K):=by
 intro pins s σ H x v vl vu lo hi sl Q I rx hs pl pu h
 obtain ⟨a,xs,rfl,hx,q⟩:=h
 cases rx
 obtain ⟨its,r,ht,hz⟩:=I.list hx
 have hlen:=r.length
 refine ⟨"list",_,slot_list_getitem.lookup,ht.isList.typeIs,?_⟩
 refine wpAny_getItem_list_slice ht.isList hs pl pu .none (by simp) ?_ (by rw [List.size_toArray] <;> omega)
 rw [nJ,<- hlen]
 refine ⟨.ref s.heap.objs.size,_,I.laid (t':=s.toks) (o:=.lst (n9 xs lo hi)) (fun b ob q=>Heap.get?_push_of_some _ q) (Nat.le_refl _) ?_,rfl,q _ (I.hok.fresh (Nat.le_refl _))⟩
 exact ⟨Nat.le_trans (lh xs lo hi) hz,_,0,(r.drop (HT.sIx xs.length 0 lo)).take (HT.sIx xs.length xs.length hi-HT.sIx xs.length 0 lo),Heap.get?_push_size _ rfl⟩
noncomputable def gk:V->Bool
 | .non=>true
 | .bl _=>true
 | .int _=>true
 | .str _=>true
 | _=>false
noncomputable def zC:V->V->Bool
 | .non,.non=>true
 | .bl a,.bl b=>a==b
 | .bl a,.int b=>(if a then 1 else 0)==b
 | .int a,.bl b=>a==(if b then 1 else 0)
 | .int a,.int b=>a==b
 | .str a,.str b=>a==b
 | _,_=>false
theorem DX {A:Around} {s:Shared} {y x:V} {u v:Value} (ry:RelV y u) (rx:RelV x v) (fy:gk y=true) (fx:gk x=true):SeqAt.EqAt A s u v (zC y x):=by
 cases y with
 | non=>
  cases ry
  cases x with
  | non=>cases rx; exact SeqAt.EqAt.same _
  | bl b=>cases rx; exact SeqAt.EqAt.none_bool b
  | int b=>obtain ⟨t,rfl⟩:=rx; exact SeqAt.EqAt.none_int b t
  | str b=>obtain ⟨t,rfl⟩:=rx; exact SeqAt.EqAt.none_str b t
  | _=>exact absurd (show false=true from fx) Bool.false_ne_true
 | bl a=>
  cases ry
  cases x with
  | non=>cases rx; exact SeqAt.EqAt.bool_none a
  | bl b=>cases rx; exact SeqAt.EqAt.bool_bool a b
  | int b=>obtain ⟨t,rfl⟩:=rx; exact SeqAt.EqAt.bool_int a b t
  | str b=>obtain ⟨t,rfl⟩:=rx; exact SeqAt.EqAt.bool_str a b t
  | _=>exact absurd (show false=true from fx) Bool.false_ne_true
 | int a=>
  obtain ⟨t',rfl⟩:=ry
  cases x with
  | non=>cases rx; exact SeqAt.EqAt.int_none a t'
  | bl b=>cases rx; exact SeqAt.EqAt.int_bool a t' b
  | int b=>obtain ⟨t,rfl⟩:=rx; exact SeqAt.EqAt.int_int a t' b t
  | str b=>obtain ⟨t,rfl⟩:=rx; exact SeqAt.EqAt.int_str a t' b t
  | _=>exact absurd (show false=true from fx) Bool.false_ne_true
 | str a=>
  obtain ⟨t',rfl⟩:=ry
  cases x with
  | non=>cases rx; exact SeqAt.EqAt.str_none a t'
  | bl b=>cases rx; exact SeqAt.EqAt.str_bool a t' b
  | int b=>obtain ⟨t,rfl⟩:=rx; exact SeqAt.EqAt.str_int a t' b t
  | str b=>obtain ⟨t,rfl⟩:=rx; exact SeqAt.EqAt.str_str a t' b t
  | _=>exact absurd (show false=true from fx) Bool.false_ne_true
 | _=>exact absurd (show false=true from fy) Bool.false_ne_true
noncomputable def uy (x:V) (u:Value):Bool:=match u with
 | .none=>zC .non x
 | .bool b=>zC (.bl b) x
 | .int i _=>zC (.int i) x
 | .str z _=>zC (.str z) x
 | _=>false
theorem yK {x y:V} {u:Value} (r:RelV y u) (f:gk y=true):uy x u=zC y x:=by
 cases y with
 | non=>cases r; rfl
 | bl b=>cases r; rfl
 | int i=>obtain ⟨t,rfl⟩:=r; rfl
 | str z=>obtain ⟨t,rfl⟩:=r; rfl
 | _=>exact absurd (show false=true from f) Bool.false_ne_true
theorem qC {x:V}:∀ {xs:List V} {us:List Value},Vals xs us->xs.all gk=true->us.any (uy x)=xs.any fun y=>zC y x
 | _,_,.nil,_=>rfl
 | y::xs,u::us,.cons r t,f=>by
  rw [List.all_cons,Bool.and_eq_true] at f
  rw [List.any_cons,List.any_cons,yK r f.1,qC t f.2]
theorem mT {A:Around} {s:Shared} {x:V} {v:Value} (rx:RelV x v) (fx:gk x=true):∀ {xs:List V} {us:List Value},Vals xs us->xs.all gk=true->∀ u∈us,SeqAt.EqAt A s u v (uy x u)
 | _,_,.nil,_=>fun u hu=>by cases hu
 | y::xs,u::us,.cons r t,f=>fun u' hu=>by
  rw [List.all_cons,Bool.and_eq_true] at f
  rcases List.mem_cons.mp hu with rfl | hu
  ·rw [yK r f.1]; exact DX r rx f.1 fx
  ·exact mT rx fx t f.2 u' hu
noncomputable def Hn (x:V) (xs:List V):Bool:=xs.any fun y=>zC y x
def Ir (K:PySem.W.Frag) (neg:Bool):R2:=fun x y H Q=>∃ p xs,y=.ref p/\(SqL K H p xs\/SqT K H p xs)/\gk x=true/\xs.all gk=true/\Q (.bl (if neg then !Hn x xs else Hn x xs)) H
theorem v9:OpR X (compareOp .In) (Ir X.K false):=by
 intro pins s σ H x y v u Q I rx ry h
 obtain ⟨p,xs,rfl,hq,fx,fs,q⟩:=h
 cases ry
 rcases hq with hq | hq
 ·obtain ⟨its,r,pl,hz⟩:=I.list hq
  refine SeqAt.in_listAt (uy x) pl.isList (fun w hw=>mT rx fx r fs w (by simpa using hw)) ⟨.bl _,H,I,rfl,?_⟩
  rw [show its.toArray.any (uy x)=its.any (uy x) by simp,qC r fs]
  exact q
 ·obtain ⟨its,r,pl,hz⟩:=I.tuple hq
  refine SeqAt.in_tupleAt (uy x) pl (fun w hw=>mT rx fx r fs w (by simpa using hw)) ⟨.bl _,H,I,rfl,?_⟩
  rw [show its.toArray.any (uy x)=its.any (uy x) by simp,qC r fs]
  exact q
theorem qj:CallR X (.type "list") (fun xs H Q=>∃ p ys,xs=[.ref p]/\(SqL X.K H p ys\/SqT X.K H p ys)/\∀ l,H l=none->Q (.ref l) (upd H l (.lst ys))):=by
 intro pins s σ H xs us Q I r h
 obtain ⟨p,ys,rfl,hq,q⟩:=h
 obtain ⟨u,rfl,rx⟩:=mm r
 cases rx
 have fin:∀ (its:List Value),Vals ys its->ys.length<=sizeLine->∀ (h':Heap) (c':Nat),(∀ b o',s.heap.get? b=some o'->h'.get? b=some o') ->
   h'.get? s.heap.objs.size=some { cls:=.type "list",dict:=none,data:=.seq its.toArray c',slots:=#[] }->EP X pins σ Q (.ref s.heap.objs.size) { s with heap:=h' }:=fun its r' hz h' c' kp e=>
  ⟨.ref s.heap.objs.size,_,I.laid (t':=s.toks) kp (Nat.le_refl _) (show ObjOk X.prog X.w _ h' _ (.lst ys) from ⟨hz,its,c',r',e⟩),rfl,q _ (I.hok.fresh (Nat.le_refl _))⟩
 rcases hq with hq | hq
 ·obtain ⟨its,r',pl,hz⟩:=I.list hq
  have hlen:=r'.length
  obtain ⟨o,ho,hc,n,hd⟩:=pl.isList
  exact call_list_seq p (.inl rfl) ho hc hd (fun h' c' kp e=>fin its r' hz h' c' kp e) (by simp only [List.size_toArray] <;> omega)
 ·obtain ⟨its,r',pl,hz⟩:=I.tuple hq
  have hlen:=r'.length
  obtain ⟨o,ho,hc,n,hd⟩:=pl
  exact call_list_seq p (.inr rfl) ho hc hd (fun h' c' kp e=>fin its r' hz h' c' kp e) (by simp only [List.size_toArray] <;> omega)
theorem oa:CallR X (.type "tuple") (fun xs H Q=>∃ p ys,xs=[.ref p]/\((SqL X.K H p ys/\∀ l,H l=none->Q (.ref l) (upd H l (.tup ys)))\/(SqT X.K H p ys/\Q (.ref p) H))):=by
 intro pins s σ H xs us Q I r h
 obtain ⟨p,ys,rfl,h⟩:=h
 obtain ⟨u,rfl,rx⟩:=mm r
 cases rx
 rcases h with ⟨hq,q⟩ | ⟨hq,q⟩
 ·obtain ⟨its,r',pl,hz⟩:=I.list hq
  have hlen:=r'.length
  refine call_tuple_list pl.isList (fun h' kp=>?_) (by simp only [List.size_toArray] <;> omega)
  have I1:Inv X pins σ H { s with heap:=h' }:=I.kept (t':=s.toks) kp
  have I2:Inv X pins σ (upd H h'.objs.size (.tup ys)) { s with heap:=h'.push { cls:=.type "tuple",data:=.seq its.toArray } }:=
   I1.laid (t':=s.toks) (fun b o e=>Heap.get?_push_of_some _ e) (Nat.le_refl _) (show ObjOk X.prog X.w _ _ _ (.tup ys) from ⟨hz,its,r',IsTup.new _ _,NoDi.new _ _⟩)
  exact ⟨.ref h'.objs.size,_,I2,rfl,q _ (I1.hok.fresh (Nat.le_refl _))⟩
 ·obtain ⟨its,r',pl,hz⟩:=I.tuple hq
  exact call_tuple_same pl ⟨.ref p,H,I,rfl,q⟩
def JN (K:PySem.W.Frag) (T:String) (x:V) (H:Hp):Prop:=match x with
 | .str _=>T = "str"
 | .int _=>T = "int"
 | .ref p=>(T = "list" /\ ∃ xs,SqL K H p xs)\/(T = "tuple" /\ ∃ o,K.lookup p=some o/\o.cls=.type "tuple" /\ o.dict=none) \/
   (T = "dict" /\ ((∃ kvs,H p=some (.dK kvs))\/∃ kvs,H p=some (.dT kvs)))\/(T = "set" /\ ∃ S n,H p=some (.set S n))
 | _=>False
theorem Cy {pins:List (Addr×Obj)} {σ:St} {H:Hp} {s:Shared} {T:String} {x:V} {v:Value} (I:Inv X pins σ H s) (r:RelV x v) (ty:JN X.K T x H) :
  s.TypeIs v T/\∀ a,v=.ref a->∃ ob,s.heap.get? a=some ob/\ob.dict=none:=by
 cases x with
 | str z=>
  obtain ⟨t,rfl⟩:=r
  cases (show T = "str" from ty)
  exact ⟨typeIs_str s z t,fun _ e=>nomatch e⟩
 | int i=>
  obtain ⟨t,rfl⟩:=r
  cases (show T = "int" from ty)
  exact ⟨typeIs_int s i t,fun _ e=>nomatch e⟩
 | ref p=>
  cases r
  rcases ty with ⟨rfl,xs,hq⟩ | ⟨rfl,o,hk,hc,hd⟩ | ⟨rfl,hk⟩ | ⟨rfl,S,n,hk⟩
  ·obtain ⟨its,_,pl,_⟩:=I.list hq
   refine ⟨pl.isList.typeIs,fun a e=>?_⟩
   cases e
   obtain ⟨o,n,e,c,hd,_⟩:=pl
   exact ⟨o,e,hd⟩
  ·refine ⟨⟨o,I.kIn p o hk,hc⟩,fun a e=>?_⟩
   cases e
   exact ⟨o,I.kIn _ o hk,hd⟩
  ·have z:∃ o,s.heap.get? p=some o/\o.ExactDict:=by
    rcases hk with ⟨kvs,hk⟩ | ⟨kvs,hk⟩
    ·obtain ⟨_,_,_,_,o,_,_,e,ex,_⟩:=I.hok p _ hk
     exact ⟨o,e,ex⟩
    ·obtain ⟨_,_,_,_,o,_,_,e,ex,_⟩:=I.hok p _ hk
     exact ⟨o,e,ex⟩
   obtain ⟨o,e,ex⟩:=z
   refine ⟨⟨o,e,ex.1⟩,fun a e2=>?_⟩
   cases e2
   exact ⟨o,e,ex.2.1⟩
  ·obtain ⟨o,_,_,_,e,ex,_⟩:=I.hok p _ hk
   refine ⟨⟨o,e,ex.1⟩,fun a e2=>?_⟩
   cases e2
   exact ⟨o,e,ex.2.1⟩
 | _=>exact False.elim ty
def Kw (K:PySem.W.Frag) (T:String) (r:V->List V->Hp->VK->Prop) (to:TE) (t:TA):TE:=fun σ H Q=>to σ H fun x H1=>JN K T x H1/\t σ H1 fun xs H2=>r x xs H2 Q
variable {o e:Expr} {es:List Expr} {to:TE} {t:TA} {name:Str} {apos cpos:Pos} {T id:String} {r:V->List V->Hp->VK->Prop}
theorem B0 (pa:PlainAttrs T) (slot:Slot T name id) (hty:typeOf (.builtin id)=pure (.type "method_descriptor")) (hm:KK X id r) (ho:PE X o to) (ha:PA X (e::es) t)
  (hbase:attributeBase o name X.env (eval o X.env)=eval o X.env:=by rfl)
  (hfew:((backTo cpos (starEach (e::es) X.env)).all (fun x=>!x.1)&&(backToKw cpos (keywordEach [] X.env)).all (fun x=>x.1.isSome)
   && decide ((e::es).length+([]:List Keyword).length+(if ([]:List Keyword).isEmpty then 0 else 1)<30))=true:=by rfl)
  (hline:(apos.endLine==cpos.line)=true:=by rfl) (hs:starEach (e::es) X.env=(false,eval e X.env)::starEach es X.env:=by rfl) (hplain:(backTo cpos (starEach es X.env)).any (·.1)=false:=by rfl) :
  PE X (.Call (.Attribute o name apos) (e::es) [] cpos) (Kw X.K T r to t):=by
 intro pins s σ H Q I h
 refine wpAny_Call_method_late hbase hfew hline rfl (cx (ho pins s σ H _ I h) fun v s1 ⟨x,H1,I1,r1,ty,q1⟩=>?_)
 obtain ⟨h1,h2⟩:=Cy I1 r1 ty
 refine ⟨T,id,pa,slot,hty,h1,h2,?_⟩
 have hA:=ha cpos pins s1 σ H1 _ I1 q1
 rw [hs] at hA ⊢
 refine Calls.callWith_builtin (by show (false||(backTo cpos (starEach es X.env)).any (·.1))=false; rw [hplain] <;> rfl) (Calls.evalArgs_plain ?_)
 exact cx hA fun us s2 ⟨vs,H2,I2,r2,q2⟩=>hm pins s2 σ H2 x vs v us Q I2 r1 r2 q2
end
end L2
namespace L2
open PySem PySem.Spec PyProof.Rows
def Kh (X:Cx) (id:String) (r:V->List V->Hp->VK->Prop):Prop:=
 ∀ (pins:List (Addr×Obj)) (s:Shared) (σ:St) (H:Hp) (x:V) (xs:List V) (v:Value) (us:List Value) (Q:VK),Inv X pins σ H s->RelV x v->Vals xs us->r x xs H Q ->
  wpAny (model X.prog X.w) X.A (call (.builtin id) (v::us)) (EP X pins σ Q) X.xe s
theorem Vals.one:∀ {x:V} {us:List Value},Vals [x] us->∃ u,us=[u]/\RelV x u
 | _,_,h=>by
  cases h with
  | cons r t=>
   cases t
   exact ⟨_,rfl,r⟩
theorem Vals.rep {xs:List V} {us:List Value} (h:Vals xs us):∀ k:Nat,Vals (List.replicate k xs).flatten (List.replicate k us).flatten
 | 0=>.nil
 | k+1=>by
  rw [List.replicate_succ,List.replicate_succ,List.flatten_cons,List.flatten_cons]
  exact Vals.append h (Vals.rep h k)
section
variable {X:Cx} {pins:List (Addr×Obj)} {σ:St} {H:Hp} {s:Shared} {l b:Addr} {xs ys zs:List V}
theorem Inv.lset {its its':List Value} {n:Nat} {f:Array Value->Array Value} {t':Nat} (I:Inv X pins σ H s) (hH:H l=some (.lst xs))
  (e:s.heap.get? l=some { cls:=.type "list",data:=.seq its.toArray n }) (hf:f its.toArray=its'.toArray) (hv:Vals ys its') (hz:ys.length<=sizeLine) :
  Inv X pins σ (upd H l (.lst ys)) { s with heap:=s.heap.update l (Obj.mapSeq f),toks:=t' }:=by
 have q:=PySem.IsL.update e f
 rw [hf] at q
 refine I.write (x:=l) (e:=l) (by rw [hH]; exact trivial) (.inl rfl) (fun b' u hb hu=>(Heap.get?_update_other s.heap (Obj.mapSeq f) (Ne.symm hb)).trans hu) ⟨_,q⟩ ?_
 exact ⟨hz,its',_,hv,q⟩
theorem Inv.lnew {its:List Value} {t':Nat} (I:Inv X pins σ H s) (hv:Vals ys its) (hz:ys.length<=sizeLine) :
  Inv X pins σ (upd H s.heap.objs.size (.lst ys)) { s with heap:=s.heap.push { cls:=.type "list",data:=.seq its.toArray },toks:=t' }:=
 I.laid (fun _ _ q=>Heap.get?_push_of_some _ q) (Nat.le_refl _) ⟨hz,its,0,hv,Heap.get?_push_size _ rfl⟩
theorem Inv.fresh (I:Inv X pins σ H s):H s.heap.objs.size=none:=I.hok.fresh (Nat.le_refl _)
theorem Inv.lstM (I:Inv X pins σ H s) (hH:H l=some (.lst xs)):xs.length<=sizeLine/\∃ (its:List Value) (n:Nat),Vals xs its/\xs.length=its.length/\s.heap.get? l=some { cls:=.type "list",data:=.seq its.toArray n }:=by
 obtain ⟨z,its,n,r,e⟩:=I.hok l _ hH
 exact ⟨z,its,n,r,r.length,e⟩
theorem xR {n:Nat} (h:n<=sizeLine):Builtin.List.listTooLong n=false:=by
 unfold Builtin.List.listTooLong
 exact decide_eq_false (by omega)
end
section
variable {X:Cx}
def Af:V->List V->Hp->VK->Prop:=fun x vs H Q=>∃ l xs y,x=.ref l/\vs=[y]/\H l=some (.lst xs)/\xs.length<sizeLine/\Q .non (upd H l (.lst (xs++[y])))
theorem wj:Kh X "list.append" Af:=by
 intro pins s σ H x vs v us Q I rx rv h
 obtain ⟨l,xs,y,rfl,rfl,hH,hz,q⟩:=h
 cases rx
 obtain ⟨u,rfl,ru⟩:=rv.one
 obtain ⟨z,its,n,r,hl,e⟩:=I.lstM hH
 refine call_meets F.slot_list_append ⟨_,e,rfl⟩ F.entry_list_append (F.args_list_append_2 _ _) (PySem.list_append l its.toArray n u (by rw [List.size_toArray]; omega)) ⟨e,?_⟩
 refine ⟨.non,_,I.lset (its':=its++[u]) hH e (by simp) (r.append (.cons ru .nil)) ?_,rfl,q⟩
 rw [List.length_append,List.length_singleton]
 omega
end
end L2
namespace Att
open PySem PySem.W PySem.Calls PyProof.Rows
theorem lF {P:Params} {h:Heap}:∀ (ns:List Int) (vs:List Value),WellAll P h vs (ns.map WData.int)->IntsAre vs ns:=by
 intro ns
 induction ns with
 | nil=>
  intro vs w
  rw [List.map_nil] at w
  cases w
  exact .nil
 | cons n ns ih=>
  intro vs w
  rw [List.map_cons] at w
  cases w with
  | cons a b=>
   cases a
   exact .cons _ _ (ih _ b)
theorem vT {l:OpenLaw} {n:Nat} (hn:l.most=some n) {P:Params} {h:Heap} {args:List WData} {vals:List Value}
  (hpre:l.row.toRowW.claim.pre args=true) (hwl:WellAll P h vals args) :
  ∃ a vs ns,vals=[Value.ref a]/\args=[WData.list (ns.map WData.int)]/\h.get? a=some { cls:=.type "list",data:=.seq vs.toArray }/\IntsAre vs ns/\ns.length<=n:=by
 have hsh:WShape.hasAll [] args [.list .int]=true:=(pre_splitW hpre).1
 have hc:l.pre.holds [] { args:=args }=true:=(pre_splitW hpre).2
 obtain ⟨d,r,rfl,h1,h2⟩:=hasAllW_cons hsh
 obtain rfl:=hasAllW_nil h2
 obtain ⟨xs,rfl,h3⟩:=hasW_list h1
 obtain ⟨ns,rfl⟩:=items_int h3
 have hlen:ns.length<=n:=by
  unfold OpenLaw.pre at hc
  have h4:(WTm.not (.lt (.lit (.int (n:Int))) (.len (.arg 0)))).holds [] { args:=[.list (ns.map .int)] }=true:=by
   have h4:=(holds_andW hc).1
   rw [hn] at h4
   exact h4
  have h5:=condW_of h4 (w_not (w_lt w_lit (w_len_list (w_arg rfl))))
  rw [List.length_map] at h5
  refine Nat.le_of_not_lt fun q=>?_
  have q':(n:Int)<((ns.length:Nat):Int):=by omega
  first
   | (rw [decide_eq_true q'] at h5; exact absurd h5 (by decide))
   | (simp at h5; omega)
 cases hwl with
 | cons w1 w2=>
  cases w2
  cases w1 with
  | list ho hall=>exact ⟨_,_,ns,rfl,rfl,ho,lF ns _ hall,hlen⟩
theorem vY (l:OpenLaw) (args:List WData):l.row.toRowW.claim.post args (.bool true) args=true:=
 postW_of (r:=l.row.toRowW) (X:=(true==true))
  (show WShape.has [] (.bool true) .bool=true by first | rfl | decide | simp [WShape.has,WShape.arms,WShape.armsAll])
  (show (WTm.eq .res (.lit (.bool true))).value [] { args:=args,res:=some (.bool true),after:=args }=some (.bool (true==true)) from w_eq_bool (w_res rfl) w_lit) rfl
theorem sW {l:OpenLaw} {n:Nat} {q:Program} {loose:List Str} {XP:(Str->Option Value)->Heap->Prop} {YP:World->Heap->Prop} {d:DefRec}
  (hn:l.most=some n) (hdf:d.params.defaults=[])
  (call:∀ (w:World) (s₀ s₁:Shared) (mg mb:Str->Option Value) (fa:Addr) (o:Obj) (pm cd doc:Value) (a:Addr) (vs:List Value) (ns:List Int),
   Ground q loose [] XP w s₀ mg mb s₁.heap->YP w s₁.heap ->
   s₁.heap.get? fa=some o->o.data=.func (docDef d.name d.params d.body d.scope pm cd doc)->s₁.heap.CodeRec cd d.name->mg d.name=some (.ref fa) ->
   s₁.heap.get? a=some { cls:=.type "list",data:=.seq vs.toArray }->IntsAre vs ns->ns.length<=n->s₁.gens = #[] ->
   codeAny (model l.prog w) callerA (.call (.ref fa) ⟨[.ref a],[]⟩) (fun r s'=>r=.ok (.ret (.bool true))/\OldK s₁.heap s'.heap/\s'.os=s₁.os/\AllBare s'.gens) s₁) :
  WalkO q loose XP YP l.row.toRowW d [] (fun f vs=>PySem.call f vs):=by
 intro w s₀ s₁ mg mb G Y fa o pm cd doc dV kV ho hd hcd hD hmg hg args vals as hpre hlay hrd hwl hlo
 obtain rfl:dV=.none:=Dflts.none hD hdf
 obtain rfl:kV=.none:=Dflts.noKw hD
 obtain ⟨a,vs,ns,rfl,rfl,hobj,hints,hlen⟩:=vT hn hpre hwl
 refine enter_call (codeAny_mono (call w s₀ s₁ mg mb fa o pm cd doc a vs ns G Y ho (fd_plain hd) hcd hmg hobj hints hlen hg) fun r s' hq=>?_)
 obtain ⟨rfl,h2,h3,h4⟩:=hq
 exact ⟨.inl ⟨.bool true,.bool true,[],rfl,fun _=>rfl,.bool true,vY l _,fun _=>⟨List.Pairwise.nil,fun _ hm=>(nomatch hm)⟩⟩,h2,h3,h4⟩
section
variable {prog:Program} {w:World} {A:Around} {E:Value->Shared->Prop} {s:Shared} {K:Frag}
noncomputable def IL (h:Heap) (L d:Addr):List (Addr×Obj):=(List.range h.objs.size).filterMap fun a=>if a=L\/a=d then none else (h.get? a).map fun o=>(a,o)
end
end Att
namespace L2
open PySem PySem.Spec PyProof.Rows
theorem gF:∀ {vs:List Value} {ns:List Int},IntsAre vs ns->Vals (ns.map V.int) vs
 | _,_,.nil=>.nil
 | _,_,.cons n t h=>.cons ⟨t,rfl⟩ (gF h)
def El (H:Hp):Prop:=∀ b,H b=none\/∃ o xs,H b=some (.frz o (.lst xs))
theorem yd {P:Program} {w:World} {K:PySem.W.Frag} {mg mb:Str->Option Value} {CX:uK} {k:Nat} {fa a:Addr} {fd:FuncData} {x:Str} {sp:Sp} {s₁:Shared} {vs:List Value} {ns:List Int}
  (KX:K.In s₁.heap) (hns:s₁.heap.Ns mainGlobals mg) (hb:s₁.heap.Ns builtinsNs mb) (hbb:∀ x:Str,x ≠ "__name__" -> mb x=bootBuiltins x) (hlim:s₁.heap.NoLimit) (hg:s₁.gens = #[])
  (ha:s₁.heap.get? a=some { cls:=.type "list",data:=.seq vs.toArray }) (hi:IntsAre vs ns) (hl:ns.length<=sizeLine) (hr:Room k callerA)
  (F:∀ base:Heap,K.In base->base.Ns mainGlobals mg->FnOk P w K mg base CX k fa fd [x] sp) (hbind:∀ (s:Shared) (u:Value),BindsTo s fd ⟨[u],[]⟩ [(x,u)])
  (hsp:∀ H:Hp,El H->SqL K H a (ns.map V.int)->sp [.ref a] H (fun v _=>v=.bl true) fun _ _ _=>False)
  (hCX:∀ H e s',CX [] H s₁ (fun _ _ _=>False) e s'->False) :
  codeAny (model P w) callerA (.call (.ref fa) ⟨[.ref a],[]⟩) (fun r s'=>r=.ok (.ret (.bool true))/\OldK s₁.heap s'.heap/\s'.os=s₁.os/\AllBare s'.gens) s₁:=by
 have rv:=gF hi
 have lenV:=hi.length
 have core:∀ H:Hp,El H->SqL K H a (ns.map V.int)->HOk P w H s₁.heap->(∀ b,H b≠none->b=a)->(H a≠none->K.lookup a=none) ->
   codeAny (model P w) callerA (.call (.ref fa) ⟨[.ref a],[]⟩) (fun r s'=>r=.ok (.ret (.bool true))/\OldK s₁.heap s'.heap/\s'.os=s₁.os/\AllBare s'.gens) s₁:=by
  intro H hO hS hok hA hK
  have base_of:∀ {b:Addr} {o:Obj},s₁.heap.get? b=some o->H b=none->(p7 s₁.heap H).get? b=some o:=fun e n=>yu e n
  have noA:∀ {b:Addr} {o:Obj} {es:Array DictEntry} {ep:Nat},s₁.heap.get? b=some o->o.data=.dict es ep->H b=none:=fun {b o es ep} e d=>by
   cases q:H b with
   | none=>rfl
   | some u=>
    have e':b=a:=hA b (by rw [q]; simp)
    subst e'
    rw [ha] at e; cases e
    have d':Data.seq vs.toArray _=Data.dict es ep:=d
    cases d'
  have nsK:∀ {b:Addr} {m:Str->Option Value},s₁.heap.Ns b m->(p7 s₁.heap H).Ns b m:=fun {b m} ⟨o,es,ep,e,d,r⟩=>⟨o,es,ep,base_of e (noA e d),d,r⟩
  have hKb:K.In (p7 s₁.heap H):=fun b o e=>base_of (KX b o e) (by
   cases q:H b with
   | none=>rfl
   | some u=>
    have e':b=a:=hA b (by rw [q]; simp)
    subst e'
    rw [hK (by rw [q]; simp)] at e; cases e)
  have hM:Mod K mg (p7 s₁.heap H):=⟨hKb,nsK hns,⟨mb,nsK hb,hbb⟩,let ⟨mc,h1,h2⟩:=hlim; ⟨mc,nsK h1,h2⟩⟩
  have e0:Env0 P w K mg (p7 s₁.heap H) callerA [] s₁ H:=⟨rfl,hM,fun b o e=>AI e,Nat.le_of_eq (wE _ _),trivial,fun b hb=>absurd (show b∈([]:List Addr) from hb) (by simp),hok,.of_eq hg⟩
  refine codeAny_mono ((F _ hKb (nsK hns)).run callerA [] s₁ H ⟨[.ref a],[]⟩ [.ref a] [.ref a] _ _ hr e0 (hbind s₁ (.ref a)) (.cons rfl .nil) (hsp H hO hS)) fun r s' h=>?_
  cases r with
  | error e=>exact (hCX H e s' h).elim
  | ok fl=>
   cases fl with
   | next=>exact False.elim h
   | brk=>exact False.elim h
   | cont=>exact False.elim h
   | ret u=>
    obtain ⟨v,H',os,bare,un,hok',r',q⟩:=h
    have q':v=.bl true:=q
    subst q'
    obtain rfl:u=Value.bool true:=r'
    refine ⟨rfl,OldK.of_keep fun b o e=>?_,os,bare⟩
    cases q:H b with
    | none=>exact un.keep b o e q (by intro z; exact absurd (show b∈([]:List Addr) from z) (by simp)) (by simp)
    | some u=>
     rcases hO b with z | ⟨ob,xs,z⟩
     ·rw [q] at z; cases z
     ·have z2:=un.frzs b ob _ z
      obtain ⟨e1,_⟩:=hok b _ z
      obtain ⟨e2,_⟩:=hok' b _ z2
      rw [e] at e1; cases e1
      exact e2
 cases hk:K.lookup a with
 | some o=>
  have e:=KX a o hk
  rw [ha] at e
  cases e
  refine core (fun _=>none) (fun _=>.inl rfl) (.inr ⟨_,vs.toArray,_,hk,rfl,rfl,rfl,by rw [List.size_toArray,lenV]; exact hl,by simpa using rv⟩) (fun b u z=>by have z':(none:Option HO)=some u:=z; cases z') (fun b z=>absurd rfl z) fun z=>absurd rfl z
 | none=>
  refine core (fun b=>if b=a then some (.frz { cls:=.type "list",data:=.seq vs.toArray } (.lst (ns.map V.int))) else none) (fun b=>?_) (.inl (.inr ⟨{ cls:=.type "list",data:=.seq vs.toArray },if_pos rfl⟩)) (fun b u z=>?_) (fun b z=>?_) fun _=>hk
  ·by_cases hb:b=a
   ·exact .inr ⟨_,_,if_pos hb⟩
   ·exact .inl (if_neg hb)
  ·by_cases hb:b=a
   ·have z':=(if_pos hb).symm.trans z
    cases z'
    subst hb
    exact ⟨ha,by rw [List.length_map]; exact hl,vs,_,rv,ha⟩
   ·have z':=(if_neg hb).symm.trans z
    cases z'
  ·by_cases hb:b=a
   ·exact hb
   ·exact absurd (if_neg hb) z
end L2
namespace L2
open PySem PySem.Spec PyProof.Rows
abbrev KP {K:PySem.W.Frag} {h:Heap} (_:K.In h):PySem.W.Frag:=K
theorem zK {l:PySem.W.OpenLaw} {n k:Nat} {q:Program} {loose:List Str} {XP:(Str->Option Value)->Heap->Prop} {YP:World->Heap->Prop} {d:DefRec} {K:Params->PySem.W.Frag} {CX:World->uK} {sp:World->Sp} {x:Str}
  (hn:l.most=some n) (hn2:n<=sizeLine) (hdf:d.params.defaults=[]) (hr:Room k callerA)
  (hY:∀ (w:World) (h:Heap),YP w h->(K w.params).In h)
  (F:∀ (w:World) (mg:Str->Option Value) (fa:Addr) (h:Heap),(K w.params).In h->h.Ns mainGlobals mg->mg d.name=some (.ref fa) ->
   ∃ fd:FuncData,(∀ (s:Shared) (u:Value),BindsTo s fd ⟨[u],[]⟩ [(x,u)]) /\
    ∀ base:Heap,(K w.params).In base->base.Ns mainGlobals mg->FnOk l.prog w (K w.params) mg base (CX w) k fa fd [x] (sp w))
  (hsp:∀ (w:World) (H:Hp) (a:Addr) (ns:List Int),ns.length<=n->El H->SqL (K w.params) H a (ns.map V.int)->sp w [.ref a] H (fun v _=>v=.bl true) fun _ _ _=>False)
  (hCX:∀ (w:World) (H:Hp) (s:Shared) (e:Value) (s':Shared),CX w [] H s (fun _ _ _=>False) e s'->False) :
  PySem.W.WalkO q loose XP YP l.row.toRowW d [] (fun f vs=>PySem.call f vs):=by
 refine Att.sW hn hdf fun w s₀ s₁ mg mb fa o pm cd doc a vs ns G Y ho hd hcd hmg hobj hints hlen hg=>?_
 have KX:=hY w _ Y
 obtain ⟨fd,hb,hF⟩:=F w mg fa _ KX G.T.g hmg
 exact yd KX G.T.g G.T.b G.T.builtins G.T.nolimit hg hobj hints (Nat.le_trans hlen hn2) hr hF hb (fun H hO hS=>hsp w H a ns hlen hO hS) fun H e s'=>hCX w H s₁ e s'
end L2
namespace L2
open PySem PySem.Spec PyProof.Rows
noncomputable def dw (s:Stmt):Arguments:=match s with
 | .FunctionDef _ a _ _ _ _ _ _ _ _=>a
 | _=>{ posonlyargs:=[],args:=[],vararg:=none,kwonlyargs:=[],kw_defaults:=[],kwarg:=none,defaults:=[] }
noncomputable def cL (s:Stmt):List Stmt:=match s with
 | .FunctionDef _ _ b _ _ _ _ _ _ _=>b
 | _=>[]
noncomputable def aw (s:Stmt):Scope:=match s with
 | .FunctionDef _ _ _ _ _ _ sc _ _ _=>sc
 | _=>{ kind:=.function,names:=[],isGenerator:=false,isCoroutine:=false }
abbrev ez:uK:=fun _ _ _ _ _ _=>False
abbrev E0:XK:=fun _ _ _=>False
theorem B1 {X:Cx}:qE ez X E0:=fun _ _ _ _ _ _ _ h=>h.elim
def Same (H H':Hp):Prop:=∀ b o,H b=some o->H' b=some o
theorem Same.refl (H:Hp):Same H H:=fun _ _ h=>h
theorem Same.trans {H H1 H2:Hp} (a:Same H H1) (b:Same H1 H2):Same H H2:=fun c o h=>b c o (a c o h)
end L2
set_option maxHeartbeats 4000000
namespace VL
open PySem L2
abbrev D:=PyData
inductive Oc where
 | l (ds:List D) | d (es:List (bi×D))
inductive Sl where
 | un | fz (d:D) | own (c:Oc) | fr (ds:List D)
abbrev Sl.ow (ds:List D):Sl:=.own (.l ds)
abbrev Sl.od (es:List (bi×D)):Sl:=.own (.d es)
noncomputable def jb:bi->D
 | .inl i=>.int i
 | .inr x=>.str x
noncomputable def IW (n:Str) (ds:List (Str×D)):List (D×D):=(.str "ins",.str n)::ds.map fun q=>(.str q.1,q.2)
noncomputable def Bw (es:List (bi×Int)):List (D×D):=es.map fun p=>(jb p.1,.int p.2)
abbrev Dv:=List Sl
inductive Fl where
 | nx | bk | ct | rt (d:D)
abbrev Sf:=Dv->Option (Fl×Dv)
@[simp] noncomputable def o2 (f1 f2:Dv->Option D) (g:D->D->Option D):Dv->Option D:=fun δ=>(f1 δ).bind fun x=>(f2 δ).bind fun y=>g x y
@[simp] noncomputable def o1 (f:Dv->Option D) (g:D->Option D):Dv->Option D:=fun δ=>(f δ).bind g
@[simp] noncomputable def os (f:Dv->Option (List D)) (g:List D->Option D):Dv->Option D:=fun δ=>(f δ).bind g
noncomputable def asB:D->Option Bool
 | .bool b=>some b
 | _=>none
@[simp] theorem G0 (b:Bool):asB (.bool b)=some b:=rfl
@[simp] noncomputable def ob (f:Dv->Option D):Dv->Option Bool:=fun δ=>(f δ).bind asB
@[simp] noncomputable def dB (t u:Dv->Option Bool):Dv->Option Bool:=fun δ=>(t δ).bind fun b=>if b=true then u δ else some false
@[simp] noncomputable def wf (t u:Dv->Option Bool):Dv->Option Bool:=fun δ=>(t δ).bind fun b=>if b=true then some true else u δ
@[simp] noncomputable def tX (t:Dv->Option Bool):Dv->Option Bool:=fun δ=>(t δ).map (!·)
@[simp] noncomputable def jP (f1 f2:Dv->Option D):Dv->Option D:=fun δ=>(f1 δ).bind fun x=>(asB x).bind fun b=>if b=true then f2 δ else some (.bool false)
@[simp] noncomputable def FE (f1 f2:Dv->Option D):Dv->Option D:=fun δ=>(f1 δ).bind fun x=>(asB x).bind fun b=>if b=true then some (.bool true) else f2 δ
@[simp] noncomputable def KE (d:D):Option D:=(asB d).map fun b=>.bool (!b)
@[simp] noncomputable def He (t:Dv->Option Bool) (f1 f2:Dv->Option D):Dv->Option D:=fun δ=>(t δ).bind fun b=>if b=true then f1 δ else f2 δ
noncomputable def Id:Option Sl->Option D
 | some (.fz d)=>some d
 | some (.fr ds)=>some (.list ds)
 | _=>none
@[simp] theorem Ic (ds:List D):Id (some (.fr ds))=some (.list ds):=rfl
@[simp] theorem Ib (d:D):Id (some (.fz d))=some d:=rfl
@[simp] noncomputable def oV (i:Nat):Dv->Option D:=fun δ=>Id δ[i]?
@[simp] noncomputable def oC (d:D):Dv->Option D:=fun _=>some d
@[simp] noncomputable def aq:Dv->Option (List D):=fun _=>some []
@[simp] noncomputable def ae (f:Dv->Option D) (fs:Dv->Option (List D)):Dv->Option (List D):=fun δ=>(f δ).bind fun x=>(fs δ).bind fun xs=>some (x::xs)
noncomputable def bh (ds:List D):Option D:=if ds.length<=sizeLine then some (.tuple ds) else none
noncomputable def cQ (ds:List D):Option D:=if ds.length<=sizeLine then some (.list ds) else none
theorem lL {ds:List D} (h:ds.length<=16777216):bh ds=some (.tuple ds):=if_pos h
theorem pW {ds:List D} (h:ds.length<=16777216):cQ ds=some (.list ds):=if_pos h
@[simp] theorem JS:bh []=some (.tuple []):=rfl
@[simp] theorem JR (a:D):bh [a]=some (.tuple [a]):=lL (by simp)
@[simp] theorem JQ (a b:D):bh [a,b]=some (.tuple [a,b]):=lL (by simp)
@[simp] theorem JP (a b c:D):bh [a,b,c]=some (.tuple [a,b,c]):=lL (by simp)
@[simp] theorem JO (a b c d:D):bh [a,b,c,d]=some (.tuple [a,b,c,d]):=lL (by simp)
@[simp] theorem J6:cQ []=some (.list []):=rfl
@[simp] theorem J5 (a:D):cQ [a]=some (.list [a]):=pW (by simp)
@[simp] theorem J4 (a b:D):cQ [a,b]=some (.list [a,b]):=pW (by simp)
@[simp] theorem J3 (a b c d e:D):cQ [a,b,c,d,e]=some (.list [a,b,c,d,e]):=pW (by simp)
instance (i j:Int):Decidable (IntMulOk i j):=by unfold IntMulOk; infer_instance
noncomputable def iI (g:Int->Int->Int):D->D->Option D
 | .int i,.int j=>some (.int (g i j))
 | _,_=>none
noncomputable def iC (C:Int->Int->Bool) (g:Int->Int->Int):D->D->Option D
 | .int i,.int j=>if C i j=true then some (.int (g i j)) else none
 | _,_=>none
noncomputable def iB (g:Int->Int->Bool):D->D->Option D
 | .int i,.int j=>some (.bool (g i j))
 | _,_=>none
@[simp] theorem IZ (g:Int->Int->Int) (i j:Int):iI g (.int i) (.int j)=some (.int (g i j)):=rfl
@[simp] theorem Ja (g:Int->Int->Bool) (i j:Int):iB g (.int i) (.int j)=some (.bool (g i j)):=rfl
theorem uk {C:Int->Int->Bool} {g:Int->Int->Int} {i j:Int} (h:C i j=true):iC C g (.int i) (.int j)=some (.int (g i j)):=if_pos h
noncomputable def Jt (i j:Int):Bool:=decide (IntMulOk i j)
noncomputable def Jv (i j:Int):Bool:=decide (0<j/\j<1073741824)
noncomputable def Ju (i j:Int):Bool:=decide (0<j)
abbrev CH:=iI fun i j=>i-j
abbrev Dh:=iC Jt fun i j=>i*j
abbrev il:=iC Jv fun i j=>i / j
abbrev ck:=iC Ju fun i j=>i % j
abbrev rR:=iB fun i j=>decide (i<j)
abbrev J8:=iB fun i j=>decide (i<=j)
abbrev Ht:=iB fun i j=>decide (j<i)
abbrev Kc:=iB fun i j=>decide (j<=i)
@[simp] theorem FN {i j:Int} (h:IntMulOk i j):Dh (.int i) (.int j)=some (.int (i*j)):=uk (decide_eq_true h)
@[simp] theorem GI {i j:Int} (h:0<j) (h2:j<1073741824):il (.int i) (.int j)=some (.int (i / j)):=uk (decide_eq_true ⟨h,h2⟩)
@[simp] theorem fK {i j:Int} (h:0<j):ck (.int i) (.int j)=some (.int (i % j)):=uk (decide_eq_true h)
noncomputable def negD:D->Option D
 | .int i=>some (.int (-i))
 | _=>none
@[simp] theorem FJ (i:Int):negD (.int i)=some (.int (-i)):=rfl
noncomputable def bd:D->D->Option D
 | .int i,.int j=>some (.int (i+j))
 | .str x,.str y=>if x.length+y.length<=sizeLine then some (.str (x++y)) else none
 | .list xs,.list ys=>if xs.length+ys.length<=sizeLine then some (.list (xs++ys)) else none
 | .tuple xs,.tuple ys=>if xs.length+ys.length<=sizeLine then some (.tuple (xs++ys)) else none
 | _,_=>none
@[simp] theorem G2 (i j:Int):bd (.int i) (.int j)=some (.int (i+j)):=rfl
theorem pd {xs ys:List D} (h:xs.length+ys.length<=16777216):bd (.list xs) (.list ys)=some (.list (xs++ys)):=if_pos h
theorem sY {xs ys:List D} (h:xs.length+ys.length<=16777216):bd (.tuple xs) (.tuple ys)=some (.tuple (xs++ys)):=if_pos h
noncomputable def kW (d:D):Bool:=PySem.SeqAt.shaped d
noncomputable def aO:D->D->Option D:=fun a b=>if kW a=true/\kW b=true then some (.bool (PyData.eqv a b)) else none
noncomputable def neD:D->D->Option D:=fun a b=>if kW a=true/\kW b=true then some (.bool (!PyData.eqv a b)) else none
@[simp] theorem Bu (i j:Int):aO (.int i) (.int j)=some (.bool (i==j)):=rfl
@[simp] theorem Hf (i j:Int):neD (.int i) (.int j)=some (.bool (!(i==j))):=rfl
@[simp] theorem yL (i j:Bool):aO (.bool i) (.bool j)=some (.bool (i==j)):=rfl
@[simp] theorem FM (i j:Bool):neD (.bool i) (.bool j)=some (.bool (!(i==j))):=rfl
noncomputable def yo (d:D):Bool:=match d with
 | .none=>true
 | _=>false
noncomputable def KH:D->D->Option D:=fun a b=>match b with
 | .none=>some (.bool (yo a))
 | _=>none
noncomputable def jW:D->D->Option D:=fun a b=>match b with
 | .none=>some (.bool (!yo a))
 | _=>none
@[simp] theorem F5 (a:D):KH a .none=some (.bool (yo a)):=rfl
@[simp] theorem DC (a:D):jW a .none=some (.bool (!yo a)):=rfl
@[simp] theorem F4:yo .none=true:=rfl
@[simp] theorem Hk (i:Int):yo (.int i)=false:=rfl
noncomputable def aD:D->D->Option D
 | .list xs,.int i=>lj xs i
 | .tuple xs,.int i=>lj xs i
 | _,_=>none
@[simp] theorem F1 (xs:List D) (i:Int):aD (.list xs) (.int i)=lj xs i:=rfl
@[simp] theorem Eu (xs:List D) (i:Int):aD (.tuple xs) (.int i)=lj xs i:=rfl
theorem fS {α:Type} {xs:List α} {i:Int} {j:Nat} {v:α} (hi:i=j) (h:xs[j]? = some v):lj xs i=some v:=by
 have hl:j<xs.length:=(List.getElem?_eq_some_iff.mp h).1
 subst hi
 unfold lj Dz
 rw [if_pos (by omega),if_pos (by omega)]
 simpa using h
@[simp] theorem at0 {α:Type} (a:α) (r:List α):lj (a::r) 0=some a:=fS (j:=0) rfl rfl
@[simp] theorem at1 {α:Type} (a b:α) (r:List α):lj (a::b::r) 1=some b:=fS (j:=1) rfl rfl
@[simp] theorem Ed {α:Type} (a b c:α) (r:List α):lj (a::b::c::r) 2=some c:=fS (j:=2) rfl rfl
@[simp] theorem KJ {α:Type} (a b c d:α) (r:List α):lj (a::b::c::d::r) 3=some d:=fS (j:=3) rfl rfl
@[simp] theorem KI {α:Type} (a b c d e:α) (r:List α):lj (a::b::c::d::e::r) 4=some e:=fS (j:=4) rfl rfl
noncomputable def da:List D->Option D
 | [.list xs]=>some (.int xs.length)
 | [.tuple xs]=>some (.int xs.length)
 | _=>none
@[simp] theorem Et (xs:List D):da [.list xs]=some (.int xs.length):=rfl
@[simp] theorem Dl (xs:List D):da [.tuple xs]=some (.int xs.length):=rfl
noncomputable def AK:List D->Option D
 | [.int i,.int j]=>some (.int (if j<i then j else i))
 | _=>none
noncomputable def tY:List D->Option D
 | [.int i,.int j]=>some (.int (if j>i then j else i))
 | _=>none
@[simp] theorem FO (i j:Int):AK [.int i,.int j]=some (.int (if j<i then j else i)):=rfl
@[simp] theorem df (i j:Int):tY [.int i,.int j]=some (.int (if j>i then j else i)):=rfl
noncomputable def yp:List D->Option D
 | [.int i]=>some (.int i)
 | [.bool b]=>some (.int (if b then 1 else 0))
 | _=>none
@[simp] theorem Ge (i:Int):yp [.int i]=some (.int i):=rfl
@[simp] theorem EA (b:Bool):yp [.bool b]=some (.int (if b then 1 else 0)):=rfl
noncomputable def rW:List D->Option D
 | [.list xs]=>some (.list xs)
 | [.tuple xs]=>some (.list xs)
 | _=>none
@[simp] theorem Dk (xs:List D):rW [.list xs]=some (.list xs):=rfl
@[simp] theorem B9 (xs:List D):rW [.tuple xs]=some (.list xs):=rfl
noncomputable def kw:List D->Option D
 | [.list xs]=>some (.tuple xs)
 | [.tuple xs]=>some (.tuple xs)
 | _=>none
@[simp] theorem BR (xs:List D):kw [.list xs]=some (.tuple xs):=rfl
@[simp] theorem zP (xs:List D):kw [.tuple xs]=some (.tuple xs):=rfl
noncomputable def GZ:D->Option D
 | .int i=>some (.int (Builtin.Int.intBits i))
 | _=>none
@[simp] theorem EF (i:Int):GZ (.int i)=some (.int (Builtin.Int.intBits i)):=rfl
noncomputable def tyN:D->String
 | .none=>"NoneType"
 | .bool _=>"bool"
 | .int _=>"int"
 | .str _=>"str"
 | .list _=>"list"
 | .tuple _=>"tuple"
 | .dict _=>"dict"
noncomputable def DG (t T:String):Bool:=t==T||(t == "bool" && T == "int")
noncomputable def vc:D->Bool
 | .dict _=>true
 | _=>false
noncomputable def jX (T:String) (d:D):Option D:=if vc d=true then none else if T = "int" \/ T = "bool" \/ T = "str" \/ T = "list" \/ T = "tuple" then some (.bool (DG (tyN d) T)) else none
@[simp] theorem Cj (i:Int):jX "int" (.int i)=some (.bool true):=rfl
@[simp] theorem Bj (i:Int):jX "bool" (.int i)=some (.bool false):=rfl
@[simp] theorem Bi (i:Bool):jX "int" (.bool i)=some (.bool true):=rfl
@[simp] theorem zA (i:Bool):jX "bool" (.bool i)=some (.bool true):=rfl
@[simp] theorem wP (xs:List D):jX "tuple" (.tuple xs)=some (.bool true):=rfl
@[simp] theorem zz (xs:List D):jX "list" (.list xs)=some (.bool true):=rfl
@[simp] noncomputable def aY (f:Dv->Option D):Sf:=fun δ=>(f δ).bind fun d=>some (.rt d,δ)
@[simp] noncomputable def bP (i:Nat) (f:Dv->Option D):Sf:=fun δ=>(f δ).bind fun d=>some (.nx,δ.set i (.fz d))
@[simp] noncomputable def JZ (f:Dv->Option D):Sf:=fun δ=>(f δ).bind fun _=>some (.nx,δ)
@[simp] noncomputable def cZ:Sf:=fun δ=>some (.nx,δ)
@[simp] noncomputable def KM:Sf:=fun δ=>some (.bk,δ)
@[simp] noncomputable def KL:Sf:=fun δ=>some (.ct,δ)
@[simp] noncomputable def sSeq (s t:Sf):Sf:=fun δ=>(s δ).bind fun r=>match r with
 | (.nx,δ')=>t δ'
 | r=>some r
@[simp] noncomputable def sIf (t:Dv->Option Bool) (u w:Sf):Sf:=fun δ=>(t δ).bind fun c=>if c=true then u δ else w δ
noncomputable def dFz (i:Nat) (δ:Dv):Dv:=match δ[i]? with
 | some (.own (.l ds))=>δ.set i (.fz (.list ds))
 | _=>δ
@[simp] noncomputable def gN (i:Nat):D->Dv->Option Dv:=fun d δ=>some (δ.set i (.fz d))
noncomputable def loop (g:D->Dv->Option Dv) (b:Sf):List D->Sf
 | [],δ=>some (.nx,δ)
 | d::ds,δ=>(g d δ).bind fun δ1=>(b δ1).bind fun r=>match r with
  | (.nx,δ2)=>loop g b ds δ2
  | (.ct,δ2)=>loop g b ds δ2
  | (.bk,δ2)=>some (.nx,δ2)
  | (.rt x,δ2)=>some (.rt x,δ2)
@[simp] theorem FS (g:D->Dv->Option Dv) (b:Sf) (δ:Dv):loop g b [] δ = some (.nx,δ):=rfl
@[simp] noncomputable def jK (f:Dv->Option (List D)) (g:D->Dv->Option Dv) (b:Sf):Sf:=fun δ=>(f δ).bind fun ds=>loop g b ds δ
noncomputable def eV (t:Dv->Option Bool) (b:Sf):Nat->Sf
 | 0,_=>none
 | n+1,δ=>(t δ).bind fun c=>if c=true then (b δ).bind fun r=>match r with
   | (.nx,δ2)=>eV t b n δ2
   | (.ct,δ2)=>eV t b n δ2
   | (.bk,δ2)=>some (.nx,δ2)
   | (.rt x,δ2)=>some (.rt x,δ2)
  else some (.nx,δ)
noncomputable def nM (lo:Int) (n:Nat):List D:=(List.range n).map fun k=>.int (lo+(k:Nat))
noncomputable def iw:List D->Option (List D)
 | [.int j]=>if j<2 ^ 62 /\ -(2 ^ 62)<=j then some (nM 0 j.toNat) else none
 | _=>none
noncomputable def d5:List D->Option (List D)
 | [.int i,.int j]=>if (i<2 ^ 62 /\ -(2 ^ 62)<=i)/\j<2 ^ 62 /\ -(2 ^ 62)<=j then some (nM i (j-i).toNat) else none
 | _=>none
theorem kA {j:Int} (h:j<4611686018427387904) (h2:-4611686018427387904<=j):iw [.int j]=some (nM 0 j.toNat):=if_pos ⟨h,h2⟩
@[simp] noncomputable def oL (fs:Dv->Option (List D)) (g:List D->Option (List D)):Dv->Option (List D):=fun δ=>(fs δ).bind g
noncomputable def cY:D->Option (List D)
 | .list xs=>some xs
 | .tuple xs=>some xs
 | _=>none
@[simp] theorem Ev (xs:List D):cY (.list xs)=some xs:=rfl
@[simp] theorem DB (xs:List D):cY (.tuple xs)=some xs:=rfl
noncomputable def lstI:D->Option (List D)
 | .list xs=>some xs
 | _=>none
noncomputable def HE:D->Option (List D)
 | .tuple xs=>some xs
 | _=>none
@[simp] noncomputable def oI (f:Dv->Option D) (g:D->Option (List D)):Dv->Option (List D):=fun δ=>(f δ).bind g
@[simp] noncomputable def im:Dv->Option (Option Int):=fun _=>some none
noncomputable def asI:D->Option (Option Int)
 | .int i=>some (some i)
 | _=>none
@[simp] theorem Hy (i:Int):asI (.int i)=some (some i):=rfl
@[simp] noncomputable def oP (f:Dv->Option D):Dv->Option (Option Int):=fun δ=>(f δ).bind asI
noncomputable def dZ (xs:List D) (lo hi:Option Int):List D:=(xs.drop (HT.sIx xs.length 0 lo)).take (HT.sIx xs.length xs.length hi-HT.sIx xs.length 0 lo)
noncomputable def eJ:D->Option Int->Option Int->Option D
 | .list xs,lo,hi=>some (.list (dZ xs lo hi))
 | .tuple xs,lo,hi=>some (.tuple (dZ xs lo hi))
 | _,_,_=>none
@[simp] noncomputable def gC (f:Dv->Option D) (l u:Dv->Option (Option Int)):Dv->Option D:=fun δ=>(f δ).bind fun x=>(l δ).bind fun i=>(u δ).bind fun j=>eJ x i j
noncomputable def aj (N:List Str) (as:List D):Dv:=as.map .fz++List.replicate (N.length-as.length) .un
noncomputable def runB (N:List Str) (n:Nat) (b:Sf):List D->Option D:=fun as=>if as.length=n then (b (aj N as)).bind fun r=>match r with
  | (.rt d,_)=>some d
  | (.nx,_)=>some .none
  | _=>none
 else none
end VL
namespace VL
open PySem PySem.Spec PyProof.Rows L2
abbrev Fg:=PySem.W.Frag
abbrev St:=L2.St
noncomputable def n0 (a C:Addr):HO:=.ext fun h=>∃ o,h.get? a=some o/\o.cls=.ref C/\∃ vs,o.data=.fields vs/\vs[2]? = some .none
theorem Rd.same {H H':Hp} {a:Addr} {u:HO} (h:Rd H a u) (s:Same H H'):Rd H' a u:=by
 rcases h with h | ⟨o,h⟩
 ·exact .inl (s _ _ h)
 ·exact .inr ⟨o,s _ _ h⟩
inductive FI (K:Fg) (Z:Hp):V->D->Prop
 | int (i:Int):FI K Z (.int i) (.int i)
 | pair {b:Addr} {i j:Int}:SqT K Z b [.int i,.int j]->FI K Z (.ref b) (.tuple [.int i,.int j])
inductive FF (K:Fg) (Z:Hp):V->D->Prop
 | int (i:Int):FF K Z (.int i) (.int i)
 | lst {b:Addr} {xs:List V} {ds:List D}:Z b=some (.lst xs)->Paired (FI K Z) xs ds->FF K Z (.ref b) (.list ds)
inductive Opq (K:Fg) (Z:Hp) (a:Addr):List (D×D)->Prop
 | exc {n:Str} {C:Addr}:PySem.W.nsIn K mainGlobals n=some (some (.ref C))->Rd Z a (n0 a C)->Opq K Z a [(.str "exc",.str n)]
 | fn {n:Str}:PySem.W.nsIn K mainGlobals n=some (some (.ref a))->Opq K Z a [(.str "fn",.str n)]
 | ins {n:Str} {C dx:Addr} {fs:List (Str×V)} {ds:List (Str×D)}:PySem.W.nsIn K mainGlobals n=some (some (.ref C))->Z a=some (.ins C dx fs)->Paired (fun (p:Str×V) (q:Str×D)=>p.1=q.1/\FF K Z p.2 q.2) fs ds->Opq K Z a (IW n ds)
 | dct {kvs:List (D×D)} {es:List (bi×Int)}:kvs=Bw es->Z a=some (.dK (es.map fun p=>(p.1,V.int p.2)))->Opq K Z a kvs
theorem vq {es:List (bi×Int)} {a:D} {x:Str} {r:List (D×D)} (h:(a,PyData.str x)::r=Bw es):False:=by
 cases es with
 | nil=>cases h
 | cons e es=>simp [Bw] at h
theorem SqT.same {K:Fg} {H H':Hp} {a:Addr} {xs:List V} (h:SqT K H a xs) (s:Same H H'):SqT K H' a xs:=by
 rcases h with h | h
 ·exact .inl (Rd.same h s)
 ·exact .inr h
theorem FI.same {K:Fg} {Z Z':Hp} (s:Same Z Z') {v:V} {d:D} (h:FI K Z v d):FI K Z' v d:=by
 cases h with
 | int i=>exact .int i
 | pair q=>exact .pair (SqT.same q s)
theorem FF.same {K:Fg} {Z Z':Hp} (s:Same Z Z') {v:V} {d:D} (h:FF K Z v d):FF K Z' v d:=by
 cases h with
 | int i=>exact .int i
 | lst q r=>exact .lst (s _ _ q) (Paired.mapP r fun _ _=>FI.same s)
theorem Opq.same {K:Fg} {Z Z':Hp} {a:Addr} {kvs:List (D×D)} (s:Same Z Z') (h:Opq K Z a kvs):Opq K Z' a kvs:=by
 cases h with
 | exc h1 h2=>exact .exc h1 (Rd.same h2 s)
 | fn h1=>exact .fn h1
 | ins h1 h2 h3=>exact .ins h1 (s _ _ h2) (Paired.mapP h3 fun _ _ q=>⟨q.1,q.2.same s⟩)
 | dct h1 h2=>exact .dct h1 (s _ _ h2)
mutual
inductive Rep (K:Fg) (Z:Hp):V->D->Prop
 | non:Rep K Z .non .none
 | bl (b:Bool):Rep K Z (.bl b) (.bool b)
 | int (i:Int):Rep K Z (.int i) (.int i)
 | str (x:Str):Rep K Z (.str x) (.str x)
 | tup {a:Addr} {xs:List V} {ds:List D}:SqT K Z a xs->Reps K Z xs ds->Rep K Z (.ref a) (.tuple ds)
 | lst {a:Addr} {xs:List V} {ds:List D}:SqL K Z a xs->Reps K Z xs ds->Rep K Z (.ref a) (.list ds)
 | opq {a:Addr} {kvs:List (D×D)}:Opq K Z a kvs->Rep K Z (.ref a) (.dict kvs)
 | gdc {a:Addr} {kvs:List (bi×V)} {es:List (bi×D)} {l:List (D×D)}:Z a=some (.dK kvs)->es.map (·.1)=kvs.map (·.1)->Reps K Z (kvs.map (·.2)) (es.map (·.2))->l=es.map (fun p=>(jb p.1,p.2))->Rep K Z (.ref a) (.dict ((.none,.none)::l))
inductive Reps (K:Fg) (Z:Hp):List V->List D->Prop
 | nil:Reps K Z [] []
 | cons {v:V} {d:D} {vs:List V} {ds:List D}:Rep K Z v d->Reps K Z vs ds->Reps K Z (v::vs) (d::ds)
end
theorem SqL.same {K:Fg} {H H':Hp} {a:Addr} {xs:List V} (h:SqL K H a xs) (s:Same H H'):SqL K H' a xs:=by
 rcases h with h | h
 ·exact .inl (Rd.same h s)
 ·exact .inr h
mutual
theorem Rep.same {K:Fg} {Z Z':Hp} (s:Same Z Z'):∀ {v:V} {d:D},Rep K Z v d->Rep K Z' v d
 | _,_,.non=>.non
 | _,_,.bl b=>.bl b
 | _,_,.int i=>.int i
 | _,_,.str x=>.str x
 | _,_,.tup h r=>.tup (SqT.same h s) (Reps.same s r)
 | _,_,.lst h r=>.lst (SqL.same h s) (Reps.same s r)
 | _,_,.opq h=>.opq (Opq.same s h)
 | _,_,.gdc h k r e=>.gdc (s _ _ h) k (Reps.same s r) e
theorem Reps.same {K:Fg} {Z Z':Hp} (s:Same Z Z'):∀ {vs:List V} {ds:List D},Reps K Z vs ds->Reps K Z' vs ds
 | _,_,.nil=>.nil
 | _,_,.cons h r=>.cons (Rep.same s h) (Reps.same s r)
end
theorem Reps.length {K:Fg} {Z:Hp}:∀ {vs:List V} {ds:List D},Reps K Z vs ds->vs.length=ds.length
 | _,_,.nil=>rfl
 | _,_,.cons _ r=>congrArg (· + 1) (Reps.length r)
theorem Reps.get {K:Fg} {Z:Hp}:∀ {vs:List V} {ds:List D} {i:Nat} {d:D},Reps K Z vs ds->ds[i]? = some d->∃ v,vs[i]? = some v/\Rep K Z v d
 | _,_,_,_,.nil,e=>by simp at e
 | _,_,0,_,.cons r _,e=>by simp at e; subst e; exact ⟨_,rfl,r⟩
 | _,_,i+1,d,.cons _ t,e=>by
  obtain ⟨u,h1,h2⟩:=Reps.get (i:=i) (d:=d) t (by simpa using e)
  exact ⟨u,by simpa using h1,h2⟩
theorem Reps.append {K:Fg} {Z:Hp}:∀ {xs ys:List V} {us ws:List D},Reps K Z xs us->Reps K Z ys ws->Reps K Z (xs++ys) (us++ws)
 | _,_,_,_,.nil,s=>s
 | _,_,_,_,.cons r t,s=>.cons r (Reps.append t s)
theorem Reps.take {K:Fg} {Z:Hp}:∀ {xs:List V} {us:List D} (n:Nat),Reps K Z xs us->Reps K Z (xs.take n) (us.take n)
 | _,_,0,_=>.nil
 | _,_,_+1,.nil=>.nil
 | _,_,n+1,.cons r t=>.cons r (Reps.take n t)
theorem Reps.drop {K:Fg} {Z:Hp}:∀ {xs:List V} {us:List D} (n:Nat),Reps K Z xs us->Reps K Z (xs.drop n) (us.drop n)
 | _,_,0,r=>r
 | _,_,_+1,.nil=>.nil
 | _,_,n+1,.cons _ t=>Reps.drop n t
theorem Rep.int_eq {K:Fg} {Z:Hp} {v:V} {i:Int} (h:Rep K Z v (.int i)):v=.int i:=by cases h; rfl
theorem Rep.bl_eq {K:Fg} {Z:Hp} {v:V} {b:Bool} (h:Rep K Z v (.bool b)):v=.bl b:=by cases h; rfl
theorem Reps.ints {K:Fg} {Z:Hp}:∀ ns:List Int,Reps K Z (ns.map V.int) (ns.map PyData.int)
 | []=>.nil
 | n::r=>.cons (.int n) (Reps.ints r)
mutual
theorem Rep.reads {X:Cx} {pins:List (Addr×Obj)} {σ:St} {H Z:Hp} {s:Shared} (I:Inv X pins σ H s) (zh:Same Z H):∀ {v:V} {d:D} {u:Value},Rep X.K Z v d->RelV v u->d.canLay0=true->∃ as,Reads s.heap u d as
 | _,_,u,.non,r,_=>by cases (show u=Value.none from r); exact ⟨_,.none⟩
 | _,_,u,.bl b,r,_=>by cases (show u=Value.bool b from r); exact ⟨_,.bool b⟩
 | _,_,u,.int i,r,_=>by obtain ⟨t,rfl⟩:=(show ∃ t,u=Value.int i t from r); exact ⟨_,.int i t⟩
 | _,_,u,.str x,r,_=>by obtain ⟨t,rfl⟩:=(show ∃ t,u=Value.str x t from r); exact ⟨_,.str x t⟩
 | _,_,u,.tup (a:=a) h q,r,hc=>by
  cases (show u=Value.ref a from r)
  obtain ⟨its,rv,ht,_⟩:=I.tuple (SqT.same h zh)
  obtain ⟨as,ra⟩:=Reps.reads I zh q rv hc
  obtain ⟨o,e,c,n,dd⟩:=ht
  exact ⟨_,reads_tuple_at e c dd (by simpa using ra)⟩
 | _,_,u,.lst (a:=a) h q,r,hc=>by
  cases (show u=Value.ref a from r)
  obtain ⟨its,rv,ht,_⟩:=I.list (SqL.same h zh)
  obtain ⟨as,ra⟩:=Reps.reads I zh q rv hc
  obtain ⟨o,n,e,c,_,dd⟩:=ht
  exact ⟨_,reads_list_at e c dd (by simpa using ra)⟩
 | _,_,u,.opq h,r,hc=>by cases hc
 | _,_,u,.gdc h k q e,r,hc=>by cases hc
theorem Reps.reads {X:Cx} {pins:List (Addr×Obj)} {σ:St} {H Z:Hp} {s:Shared} (I:Inv X pins σ H s) (zh:Same Z H):∀ {vs:List V} {ds:List D} {us:List Value},Reps X.K Z vs ds->Vals vs us->PyData.canLayAll0 ds=true->∃ as,ReadsAll s.heap us ds as
 | _,_,_,.nil,.nil,_=>⟨_,.nil⟩
 | _,_,_,.cons h q,.cons r t,hc=>by
  have hc':=Bool.and_eq_true_iff.mp hc
  obtain ⟨as,ha⟩:=Rep.reads I zh h r hc'.1
  obtain ⟨bs,hb⟩:=Reps.reads I zh q t hc'.2
  exact ⟨_,.cons ha hb⟩
end
noncomputable def FH:HO->Bool
 | .frz _ (.lst _)=>false
 | _=>true
def NoF (Z Z':Hp):Prop:=∀ b o xs,Z' b=some (.frz o (.lst xs))->Z b=some (.frz o (.lst xs))
theorem NoF.refl (Z:Hp):NoF Z Z:=fun _ _ _ e=>e
theorem NoF.trans {Z Z1 Z2:Hp} (a:NoF Z Z1) (b:NoF Z1 Z2):NoF Z Z2:=fun c o xs e=>a c o xs (b c o xs e)
theorem NoF.upd {Z Z':Hp} (a:NoF Z Z') (p:Addr) {u:HO} (hu:FH u=true:=by rfl):NoF Z (upd Z' p u):=fun b o xs e=>by
 by_cases hb:b=p
 ·subst hb
  rw [aN] at e
  cases e
  cases hu
 ·rw [aI hb] at e
  exact a b o xs e
structure New (Z H Z' H':Hp):Prop where
 z:Same Z Z'
 h:Same H H'
 zh:Same Z' H'
 o:∀ b,H b≠none->Z' b=Z b
 nf:NoF Z Z'
theorem New.refl {Z H:Hp} (zh:Same Z H):New Z H Z H:=⟨Same.refl _,Same.refl _,zh,fun _ _=>rfl,NoF.refl _⟩
theorem New.trans {Z H Z1 H1 Z2 H2:Hp} (a:New Z H Z1 H1) (b:New Z1 H1 Z2 H2):New Z H Z2 H2:=
 ⟨a.z.trans b.z,a.h.trans b.h,b.zh,fun c hc=>by
  have:H1 c≠none:=by
   cases e:H c with
   | none=>exact absurd e hc
   | some o=>rw [a.h c o e]; intro z; cases z
  rw [b.o c this,a.o c hc],a.nf.trans b.nf⟩
theorem eK {H:Hp} {p:Addr} {o:HO} (h:H p=none):Same H (upd H p o):=fun b u e=>by
 rw [aI (bf e h)]; exact e
theorem j2 {Z H:Hp} (zh:Same Z H) {p:Addr} (h:H p=none):Z p=none:=by
 cases e:Z p with
 | none=>rfl
 | some o=>rw [zh p o e] at h; cases h
theorem New.add {Z H:Hp} (zh:Same Z H) {p:Addr} (hp:H p=none) (o:HO) (hf:FH o=true:=by rfl):New Z H (upd Z p o) (upd H p o) where
 nf:=(NoF.refl Z).upd p hf
 z:=eK (j2 zh hp)
 h:=eK hp
 zh:=fun b u e=>by
  by_cases hb:b=p
  ·subst hb; rw [aN] at e ⊢; exact e
  ·rw [aI hb] at e ⊢; exact zh b u e
 o:=fun b hb=>by
  have:b≠p:=fun z=>hb (z ▸ hp)
  rw [aI this]
def uJ (K:Fg) (Z:Hp) (kvs:List (bi×V)) (es:List (bi×D)):Prop:=es.map (·.1)=kvs.map (·.1)/\Reps K Z (kvs.map (·.2)) (es.map (·.2))
inductive OwR (K:Fg) (Z:Hp):HO->Oc->Prop
 | lst {xs:List V} {ds:List D}:Reps K Z xs ds->OwR K Z (.lst xs) (.l ds)
 | dct {kvs:List (bi×V)} {es:List (bi×D)}:uJ K Z kvs es->OwR K Z (.dK kvs) (.d es)
theorem OwR.same {K:Fg} {Z Z':Hp} {o:HO} {c:Oc} (h:OwR K Z o c) (s:Same Z Z'):OwR K Z' o c:=by
 cases h with
 | lst r=>exact .lst (r.same s)
 | dct r=>exact .dct ⟨r.1,r.2.same s⟩
def FrOk (K:Fg) (H₀ Z₀ Z:Hp) (δ:Dv) (σ:St):Prop:=∀ (i:Nat) ds,δ[i]? = some (.fr ds)->∃ a xs,σ[i]? = some (some (.ref a))/\H₀ a=none/\Z₀ a=none/\Z a=some (.lst xs)/\Reps K Z xs ds
theorem FrOk.same {K:Fg} {H₀ Z₀ Z Z':Hp} {δ:Dv} {σ:St} (h:FrOk K H₀ Z₀ Z δ σ) (s:Same Z Z'):FrOk K H₀ Z₀ Z' δ σ:=fun i ds e=>
 let ⟨a,xs,h1,h2,h3,h4,h5⟩:=h i ds e; ⟨a,xs,h1,h2,h3,s _ _ h4,h5.same s⟩
theorem FrOk.put {K:Fg} {H₀ Z₀ Z:Hp} {δ:Dv} {σ σ':St} (h:FrOk K H₀ Z₀ Z δ σ) {i:Nat} {x:Sl} (hx:∀ ds,x≠Sl.fr ds) (hs:∀ j:Nat,i≠j -> σ'[j]? = σ[j]?):FrOk K H₀ Z₀ Z (δ.set i x) σ':=fun j ds e=>by
 by_cases hj:i=j
 ·subst hj
  have hl:i < δ.length:=by have:=(List.getElem?_eq_some_iff.mp e).1; simpa using this
  rw [List.getElem?_set_self hl] at e
  exact absurd (Option.some.inj e) (hx ds)
 ·rw [List.getElem?_set_ne hj] at e
  obtain ⟨a,xs,h1,r⟩:=h j ds e
  exact ⟨a,xs,by rw [hs j hj]; exact h1,r⟩
structure Hold (K:Fg) (H₀ Z₀ Z:Hp) (δ:Dv) (σ:St) (H:Hp):Prop where
 zh:Same Z H
 h0:Same H₀ H
 z0:Same Z₀ Z
 zb:∀ b,H₀ b≠none->Z b=Z₀ b
 len:δ.length = σ.length
 fz:∀ (i:Nat) d,δ[i]? = some (.fz d)->∃ v,σ[i]? = some (some v)/\Rep K Z v d
 own:∀ (i:Nat) c,δ[i]? = some (.own c)->∃ a o,σ[i]? = some (some (.ref a))/\H₀ a=none/\Z a=none/\H a=some o/\OwR K Z o c
 dja:∀ (i j:Nat) c c' a,i≠j -> δ[i]? = some (.own c) -> δ[j]? = some (.own c') -> σ[i]? = some (some (.ref a)) -> σ[j]? ≠ some (some (V.ref a))
 fr:FrOk K H₀ Z₀ Z δ σ
 nf:NoF Z₀ Z
section
variable {K:Fg} {H₀ Z₀ Z Z' H H':Hp} {δ:Dv} {σ:St}
theorem Hold.ow (h:Hold K H₀ Z₀ Z δ σ H) (i:Nat) (ds:List D) (e:δ[i]? = some (.ow ds)):∃ a xs,σ[i]? = some (some (.ref a))/\H₀ a=none/\Z a=none/\H a=some (.lst xs)/\Reps K Z xs ds:=by
 obtain ⟨a,o,h1,h2,h3,h4,h5⟩:=h.own i _ e
 cases h5 with
 | lst r=>exact ⟨a,_,h1,h2,h3,h4,r⟩
theorem Hold.new (h:Hold K H₀ Z₀ Z δ σ H) (n:New Z H Z' H'):Hold K H₀ Z₀ Z' δ σ H' where
 zh:=n.zh
 h0:=h.h0.trans n.h
 z0:=h.z0.trans n.z
 zb:=fun b hb=>by
  have:H b≠none:=by
   cases e:H₀ b with
   | none=>exact absurd e hb
   | some o=>rw [h.h0 b o e]; intro z; cases z
  rw [n.o b this,h.zb b hb]
 len:=h.len
 fz:=fun i d e=>let ⟨v,a,r⟩:=h.fz i d e; ⟨v,a,r.same n.z⟩
 own:=fun i ds e=>by
  obtain ⟨a,xs,h1,h2,h3,h4,h5⟩:=h.own i ds e
  exact ⟨a,xs,h1,h2,by rw [n.o a (by rw [h4]; intro z; cases z)]; exact h3,n.h a _ h4,h5.same n.z⟩
 dja:=h.dja
 fr:=h.fr.same n.z
 nf:=h.nf.trans n.nf
theorem Hold.set (h:Hold K H₀ Z₀ Z δ σ H) {i:Nat} {v:V} {d:D} (r:Rep K Z v d):Hold K H₀ Z₀ Z (δ.set i (.fz d)) (σ.set i (some v)) H where
 zh:=h.zh
 h0:=h.h0
 z0:=h.z0
 zb:=h.zb
 len:=by simp [h.len]
 fz:=fun j e q=>by
  by_cases hj:i=j
  ·subst hj
   have hl:i < δ.length:=by
    have:=(List.getElem?_eq_some_iff.mp q).1
    simpa using this
   rw [List.getElem?_set_self hl] at q
   cases q
   exact ⟨v,List.getElem?_set_self (by rw [<- h.len]; exact hl),r⟩
  ·rw [List.getElem?_set_ne hj] at q
   obtain ⟨u,a,b⟩:=h.fz j e q
   exact ⟨u,by rw [List.getElem?_set_ne hj]; exact a,b⟩
 own:=fun j es q=>by
  by_cases hj:i=j
  ·subst hj
   have hl:i < δ.length:=by
    have:=(List.getElem?_eq_some_iff.mp q).1
    simpa using this
   rw [List.getElem?_set_self hl] at q
   cases q
  ·rw [List.getElem?_set_ne hj] at q ⊢
   exact h.own j es q
 dja:=fun j k ds es a hjk q1 q2=>by
  by_cases hj:i=j
  ·subst hj
   have hl:i < δ.length:=by
    have:=(List.getElem?_eq_some_iff.mp q1).1
    simpa using this
   rw [List.getElem?_set_self hl] at q1
   cases q1
  ·by_cases hk:i=k
   ·subst hk
    have hl:i < δ.length:=by
     have:=(List.getElem?_eq_some_iff.mp q2).1
     simpa using this
    rw [List.getElem?_set_self hl] at q2
    cases q2
   ·rw [List.getElem?_set_ne hj] at q1
    rw [List.getElem?_set_ne hk] at q2
    rw [List.getElem?_set_ne hj,List.getElem?_set_ne hk]
    exact h.dja j k ds es a hjk q1 q2
 fr:=h.fr.put (fun _ z=>nomatch z) fun _ hj=>List.getElem?_set_ne hj
 nf:=h.nf
theorem Hold.setW (h:Hold K H₀ Z₀ Z δ σ H) {i:Nat} {p:Addr} {o:HO} {c:Oc} (hp:H p=none) (r:OwR K Z o c):Hold K H₀ Z₀ Z (δ.set i (.own c)) (σ.set i (some (.ref p))) (upd H p o) where
 zh:=h.zh.trans (eK hp)
 h0:=h.h0.trans (eK hp)
 z0:=h.z0
 zb:=h.zb
 len:=by simp [h.len]
 fz:=fun j e q=>by
  by_cases hj:i=j
  ·subst hj
   have hl:i < δ.length:=by
    have:=(List.getElem?_eq_some_iff.mp q).1
    simpa using this
   rw [List.getElem?_set_self hl] at q
   cases q
  ·rw [List.getElem?_set_ne hj] at q
   obtain ⟨u,a,b⟩:=h.fz j e q
   exact ⟨u,by rw [List.getElem?_set_ne hj]; exact a,b⟩
 own:=fun j es q=>by
  by_cases hj:i=j
  ·subst hj
   have hl:i < δ.length:=by
    have:=(List.getElem?_eq_some_iff.mp q).1
    simpa using this
   rw [List.getElem?_set_self hl] at q
   cases q
   exact ⟨p,o,List.getElem?_set_self (by rw [<- h.len]; exact hl),j2 h.h0 hp,j2 h.zh hp,aN,r⟩
  ·rw [List.getElem?_set_ne hj] at q ⊢
   obtain ⟨a,ys,h1,h2,h3,h4,h5⟩:=h.own j es q
   exact ⟨a,ys,h1,h2,h3,by rw [aI (bf h4 hp)]; exact h4,h5⟩
 dja:=fun j k ds es a hjk q1 q2=>by
  have old:∀ {m:Nat} {fs:Oc},δ[m]? = some (.own fs) -> σ[m]? ≠ some (some (V.ref p)):=fun {m fs} q z=>by
   obtain ⟨b,ys,h1,h2,h3,h4,h5⟩:=h.own m fs q
   rw [h1] at z
   cases z
   rw [hp] at h4
   cases h4
  have hl:∀ {m:Nat} {x:Sl},(δ.set i x)[m]? ≠ none->m < σ.length:=fun {m x} q=>by
   have:m<(δ.set i x).length:=by
    rcases Nat.lt_or_ge m (δ.set i x).length with g | g
    ·exact g
    ·exact absurd (List.getElem?_eq_none_iff.mpr g) q
   rw [<- h.len]; simpa using this
  by_cases hj:i=j
  ·subst hj
   have h1:i < σ.length:=hl (by rw [q1]; intro z; cases z)
   rw [List.getElem?_set_self h1]
   intro e
   cases e
   rw [List.getElem?_set_ne hjk] at q2 ⊢
   exact old q2
  ·rw [List.getElem?_set_ne hj] at q1 ⊢
   by_cases hk:i=k
   ·subst hk
    have h1:i < σ.length:=hl (by rw [q2]; intro z; cases z)
    intro e z
    rw [List.getElem?_set_self h1] at z
    cases z
    exact old q1 e
   ·rw [List.getElem?_set_ne hk] at q2 ⊢
    exact h.dja j k ds es a hjk q1 q2
 fr:=h.fr.put (fun _ z=>nomatch z) fun _ hj=>List.getElem?_set_ne hj
 nf:=h.nf
theorem Hold.setO (h:Hold K H₀ Z₀ Z δ σ H) {i:Nat} {p:Addr} {xs:List V} {ds:List D} (hp:H p=none) (r:Reps K Z xs ds):Hold K H₀ Z₀ Z (δ.set i (.ow ds)) (σ.set i (some (.ref p))) (upd H p (.lst xs)):=h.setW hp (.lst r)
theorem Hold.chgW (h:Hold K H₀ Z₀ Z δ σ H) {i:Nat} {p:Addr} {o:HO} {ds es:Oc} (e:δ[i]? = some (.own ds)) (ep:σ[i]? = some (some (.ref p))) (r:OwR K Z o es):Hold K H₀ Z₀ Z (δ.set i (.own es)) σ (upd H p o):=by
 obtain ⟨a,zs,h1,h2,h3,h4,h5⟩:=h.own i ds e
 rw [ep] at h1
 cases h1
 have hl:i < δ.length:=(List.getElem?_eq_some_iff.mp e).1
 refine ⟨fun b o' q=>?_,fun b o' q=>?_,h.z0,h.zb,by simp [h.len],fun j d q=>?_,fun j d q=>?_,fun j k d1 d2 a hjk q1 q2=>?_,h.fr.put (fun _ z=>nomatch z) fun _ _=>rfl,h.nf⟩
 ·rw [aI (bf q h3)]; exact h.zh b o' q
 ·rw [aI (bf q h2)]; exact h.h0 b o' q
 ·by_cases hj:i=j
  ·subst hj
   rw [List.getElem?_set_self hl] at q
   cases q
  ·rw [List.getElem?_set_ne hj] at q
   exact h.fz j d q
 ·by_cases hj:i=j
  ·subst hj
   rw [List.getElem?_set_self hl] at q
   cases q
   exact ⟨p,o,ep,h2,h3,aN,r⟩
  ·rw [List.getElem?_set_ne hj] at q
   obtain ⟨b,ws,g1,g2,g3,g4,g5⟩:=h.own j d q
   refine ⟨b,ws,g1,g2,g3,?_,g5⟩
   have:b≠p:=fun z=>by subst z; exact h.dja i j ds d b hj e q ep g1
   rw [aI this]; exact g4
 ·have f:∀ {m:Nat} {dm:Oc},(δ.set i (.own es))[m]? = some (.own dm)->∃ dm',δ[m]? = some (.own dm'):=fun {m dm} q=>by
   by_cases hm:i=m
   ·subst hm; exact ⟨ds,e⟩
   ·rw [List.getElem?_set_ne hm] at q; exact ⟨dm,q⟩
  obtain ⟨e1,g1⟩:=f q1
  obtain ⟨e2,g2⟩:=f q2
  exact h.dja j k e1 e2 a hjk g1 g2
theorem Hold.chg (h:Hold K H₀ Z₀ Z δ σ H) {i:Nat} {p:Addr} {xs ys:List V} {ds es:List D} (e:δ[i]? = some (.ow ds)) (ep:σ[i]? = some (some (.ref p))) (r:Reps K Z ys es):Hold K H₀ Z₀ Z (δ.set i (.ow es)) σ (upd H p (.lst ys)):=h.chgW e ep (.lst r)
theorem Hold.frz (h:Hold K H₀ Z₀ Z δ σ H) {i:Nat} {ds:List D} (e:δ[i]? = some (.ow ds)):∃ Z',Same Z Z'/\Hold K H₀ Z₀ Z' (δ.set i (.fz (.list ds))) σ H:=by
 obtain ⟨a,xs,h1,h2,h3,h4,h5⟩:=h.ow i ds e
 have hl:i < δ.length:=(List.getElem?_eq_some_iff.mp e).1
 have sz:Same Z (upd Z a (.lst xs)):=eK h3
 refine ⟨upd Z a (.lst xs),sz,fun b o q=>?_,h.h0,h.z0.trans sz,fun b hb=>?_,by simp [h.len],fun j d q=>?_,fun j d q=>?_,fun j k d1 d2 b hjk q1 q2=>?_,(h.fr.same sz).put (fun _ z=>nomatch z) fun _ _=>rfl,h.nf.upd a⟩
 ·by_cases hb:b=a
  ·subst hb; rw [aN] at q; cases q; exact h4
  ·rw [aI hb] at q; exact h.zh b o q
 ·rw [aI (fun z=>hb (by rw [z]; exact h2))]; exact h.zb b hb
 ·by_cases hj:i=j
  ·subst hj
   rw [List.getElem?_set_self hl] at q
   cases q
   exact ⟨.ref a,h1,.lst (SqL.of aN) (h5.same sz)⟩
  ·rw [List.getElem?_set_ne hj] at q
   obtain ⟨v,g1,g2⟩:=h.fz j d q
   exact ⟨v,g1,g2.same sz⟩
 ·by_cases hj:i=j
  ·subst hj
   rw [List.getElem?_set_self hl] at q
   cases q
  ·rw [List.getElem?_set_ne hj] at q
   obtain ⟨b,ws,g1,g2,g3,g4,g5⟩:=h.own j d q
   have:b≠a:=fun z=>by subst z; exact h.dja i j _ d b hj e q h1 g1
   exact ⟨b,ws,g1,g2,by rw [aI this]; exact g3,g4,g5.same sz⟩
 ·by_cases hj:i=j
  ·subst hj
   rw [List.getElem?_set_self hl] at q1
   cases q1
  ·by_cases hk:i=k
   ·subst hk
    rw [List.getElem?_set_self hl] at q2
    cases q2
   ·rw [List.getElem?_set_ne hj] at q1
    rw [List.getElem?_set_ne hk] at q2
    exact h.dja j k d1 d2 b hjk q1 q2
end
def tV (K:Fg) (f:Dv->Option D):TE:=fun σ H Q=>∃ H₀ Z₀ Z δ d,Hold K H₀ Z₀ Z δ σ H/\f δ = some d/\∀ v Z' H',Hold K H₀ Z₀ Z' δ σ H'->Same Z Z'->Rep K Z' v d->Q v H'
def En (K:Fg) (f:Dv->Option Bool):TT:=fun σ H Q=>∃ H₀ Z₀ Z δ b,Hold K H₀ Z₀ Z δ σ H/\f δ = some b/\∀ Z' H',Hold K H₀ Z₀ Z' δ σ H'->Same Z Z'->Q b H'
def JV (K:Fg) (f:Dv->Option (List D)):TA:=fun σ H Q=>∃ H₀ Z₀ Z δ ds,Hold K H₀ Z₀ Z δ σ H/\f δ = some ds/\∀ vs Z' H',Hold K H₀ Z₀ Z' δ σ H'->Same Z Z'->Reps K Z' vs ds->Q vs H'
def Fl.to (K:Fg) (Z:Hp) (D:Ends) (σ:St) (H:Hp):Fl->Prop
 | .nx=>D.nx σ H
 | .bk=>D.bk σ H
 | .ct=>D.ct σ H
 | .rt d=>∀ v,Rep K Z v d->D.rt v H
def ES (K:Fg) (f:Dv->Option (Fl×Dv)):TS:=fun D σ H=>∃ H₀ Z₀ Z δ r,Hold K H₀ Z₀ Z δ σ H/\f δ = some r/\∀ σ' H' Z',Hold K H₀ Z₀ Z' r.2 σ' H'->Same Z Z'->r.1.to K Z' D σ' H'
def EV (X:Cx) (e:Expr) (f:Dv->Option D):Prop:=PE X e (tV X.K f)
def TV (X:Cx) (e:Expr) (f:Dv->Option Bool):Prop:=PT X e (En X.K f)
def AV (X:Cx) (es:List Expr) (f:Dv->Option (List D)):Prop:=PA X es (JV X.K f)
def SV (X:Cx) (st:Stmt) (f:Dv->Option (Fl×Dv)):Prop:=PS X st (ES X.K f)
def BV (X:Cx) (st:List Stmt) (f:Dv->Option (Fl×Dv)):Prop:=PSs X st (ES X.K f)
theorem PE.imp {X:Cx} {e:Expr} {t t':TE} (h:PE X e t) (i:∀ σ H Q,t' σ H Q->t σ H Q):PE X e t':=fun pins s σ H Q I hw=>h pins s σ H Q I (i _ _ _ hw)
theorem PT.imp {X:Cx} {e:Expr} {t t':TT} (h:PT X e t) (i:∀ σ H Q,t' σ H Q->t σ H Q):PT X e t':=fun pins s σ H Q I hw=>h pins s σ H Q I (i _ _ _ hw)
theorem PA.imp {X:Cx} {es:List Expr} {t t':TA} (h:PA X es t) (i:∀ σ H Q,t' σ H Q->t σ H Q):PA X es t':=fun pos pins s σ H Q I hw=>h pos pins s σ H Q I (i _ _ _ hw)
theorem PS.imp {X:Cx} {st:Stmt} {t t':TS} (h:PS X st t) (i:∀ D σ H,t' D σ H->t D σ H):PS X st t':=fun pins s σ H D I hw=>h pins s σ H D I (i _ _ _ hw)
theorem PSs.imp {X:Cx} {st:List Stmt} {t t':TS} (h:PSs X st t) (i:∀ D σ H,t' D σ H->t D σ H):PSs X st t':=fun pins s σ H D I hw=>h pins s σ H D I (i _ _ _ hw)
theorem OpR.imp {X:Cx} {f:Value->Value->Sem Value} {r r':R2} (h:OpR X f r) (i:∀ x y H Q,r' x y H Q->r x y H Q):OpR X f r':=fun pins s σ H x y v u Q I rx ry q=>h pins s σ H x y v u Q I rx ry (i _ _ _ _ q)
theorem CallR.imp {X:Cx} {f:Value} {r r':List V->Hp->VK->Prop} (h:CallR X f r) (i:∀ xs H Q,r' xs H Q->r xs H Q):CallR X f r':=fun pins s σ H xs us Q I rx q=>h pins s σ H xs us Q I rx (i _ _ _ q)
def rD (K:Fg) (g:D->D->Option D):R2:=fun x y H Q=>∃ Z a b d,Same Z H/\Rep K Z x a/\Rep K Z y b/\g a b=some d/\∀ v Z' H',New Z H Z' H'->Rep K Z' v d->Q v H'
def J0 (K:Fg) (g:D->Option D):V->Hp->VK->Prop:=fun x H Q=>∃ Z a d,Same Z H/\Rep K Z x a/\g a=some d/\∀ v Z' H',New Z H Z' H'->Rep K Z' v d->Q v H'
def xu (K:Fg) (g:List D->Option D):List V->Hp->VK->Prop:=fun xs H Q=>∃ Z as d,Same Z H/\Reps K Z xs as/\g as=some d/\∀ v Z' H',New Z H Z' H'->Rep K Z' v d->Q v H'
def eX (K:Fg) (g:List D->Option D):Sp:=fun vs H Q _=>xu K g vs H Q
section
variable {X:Cx} {a b c e:Expr} {es:List Expr} {pos p:Pos} {f f1 f2 f3:Dv->Option D} {fs:Dv->Option (List D)} {ft fu:Dv->Option Bool}
theorem bind_some {α β:Type} {o:Option α} {k:α -> Option β} {r:β} (h:o.bind k=some r):∃ a,o=some a/\k a=some r:=by
 cases o with
 | none=>cases h
 | some a=>exact ⟨a,rfl,h⟩
theorem two {K:Fg} {g:D->D->Option D} {σ:St} {H:Hp} {Q:VK} {r:R2} (hr:∀ x y H Q,rD K g x y H Q->r x y H Q) (h:tV K (o2 f1 f2 g) σ H Q):EW r (tV K f1) (tV K f2) σ H Q:=by
 obtain ⟨H₀,Z₀,Z,δ,d,hh,e,k⟩:=h
 obtain ⟨x,e1,e⟩:=bind_some e
 obtain ⟨y,e2,e⟩:=bind_some e
 refine ⟨H₀,Z₀,Z,δ,x,hh,e1,fun v Z1 H1 hh1 s1 r1=>⟨H₀,Z₀,Z1,δ,y,hh1,e2,fun u Z2 H2 hh2 s2 r2=>hr _ _ _ _ ⟨Z2,x,y,d,hh2.zh,r1.same s2,r2,e,fun w Z3 H3 n r3=>?_⟩⟩⟩
 exact k w Z3 H3 (hh2.new n) ((s1.trans s2).trans n.z) r3
theorem aG {op:Operator} {g:D->D->Option D} (ho:OpR X (binaryOp op) (rD X.K g)) (ha:EV X a f1) (hb:EV X b f2):EV X (.BinOp a op b pos) (o2 f1 f2 g):=
 PE.imp (Fp ho ha hb) fun _ _ _ h=>two (fun _ _ _ _ q=>q) h
theorem GD {op:UnaryOp} {g:D->Option D} (ho:G3 X (unaryOp op) (J0 X.K g)) (ha:EV X a f):EV X (.UnaryOp op a pos) (o1 f g):=
 PE.imp (Fn ho ha) fun σ H Q h=>by
  obtain ⟨H₀,Z₀,Z,δ,d,hh,e,k⟩:=h
  obtain ⟨x,e1,e⟩:=bind_some e
  exact ⟨H₀,Z₀,Z,δ,x,hh,e1,fun v Z1 H1 hh1 s1 r1=>⟨Z1,x,d,hh1.zh,r1,e,fun w Z3 H3 n r3=>k w Z3 H3 (hh1.new n) (s1.trans n.z) r3⟩⟩
theorem cR {op:CmpOp} {g:D->D->Option D} (ho:OpR X (compareOp op) (rD X.K g)) (ha:EV X a f1) (hb:EV X b f2) (hm:behindInMarks op b=false):EV X (.Compare a [op] [b] pos) (o2 f1 f2 g):=
 PE.imp (Ay ho ha hb hm) fun _ _ _ h=>two (fun _ _ _ _ q=>q) h
theorem qB {d:D} {b:Bool} (h:asB d=some b):d=.bool b:=by
 cases d <;> simp [asB] at h
 subst h; rfl
theorem HF {K:Fg} {σ:St} {H:Hp} {Q:Bool->Hp->Prop} (h:En K (ob f) σ H Q):tV K f σ H fun x H1=>∃ c,x=.bl c/\Q c H1:=by
 obtain ⟨H₀,Z₀,Z,δ,d,hh,e,k⟩:=h
 obtain ⟨x,e1,e⟩:=bind_some e
 have:=qB e
 subst this
 exact ⟨H₀,Z₀,Z,δ,_,hh,e1,fun v Z1 H1 hh1 s1 r1=>⟨_,r1.bl_eq,k Z1 H1 hh1 s1⟩⟩
theorem aA {op:CmpOp} {g:D->D->Option D} (ho:OpR X (compareOp op) (rD X.K g)) (ha:EV X a f1) (hb:EV X b f2) (hm:behindInMarks op b=false):TV X (.Compare a [op] [b] pos) (ob (o2 f1 f2 g)):=
 PT.imp (Ak ho ha hb hm) fun σ H Q h=>by
  have h':=HF h
  exact two (f1:=f1) (f2:=f2) (g:=g) (fun _ _ _ _ q=>q) h'
theorem gU (ha:EV X a f) (he:∀ whole,isTrue a X.env whole=(do let v <- whole; standAt a.pos; holding [v] (truthy v)):=by intro _; rfl):TV X a (ob f):=
 PT.imp (CT ha he) fun _ _ _ h=>HF h
def WV (X:Cx) (e:Expr) (f:Dv->Option Bool):Prop:=PW X e (En X.K f)
theorem PW.imp {X:Cx} {e:Expr} {t t':TT} (h:PW X e t) (i:∀ σ H Q,t' σ H Q->t σ H Q):PW X e t':=fun whole pins s σ H Q I hw=>h whole pins s σ H Q I (i _ _ _ hw)
theorem cn (ha:TV X a ft):WV X (.BoolOp .And [a] pos) ft:=Aj ha
theorem gR (ha:TV X a ft):WV X (.BoolOp .Or [a] pos) ft:=CP ha
theorem cA {rest:List Expr} (ha:TV X a ft) (hb:WV X (.BoolOp .And (b::rest) pos) fu):WV X (.BoolOp .And (a::b::rest) pos) (dB ft fu):=
 PW.imp (CS ha hb) fun σ H Q h=>by
  obtain ⟨H₀,Z₀,Z,δ,d,hh,e,k⟩:=h
  obtain ⟨x,e1,e⟩:=bind_some e
  refine ⟨H₀,Z₀,Z,δ,x,hh,e1,fun Z1 H1 hh1 s1=>?_⟩
  cases x with
  | true=>exact ⟨H₀,Z₀,Z1,δ,d,hh1,e,fun Z2 H2 hh2 s2=>k Z2 H2 hh2 (s1.trans s2)⟩
  | false=>cases e; exact k Z1 H1 hh1 s1
theorem io {rest:List Expr} (ha:TV X a ft) (hb:WV X (.BoolOp .Or (b::rest) pos) fu):WV X (.BoolOp .Or (a::b::rest) pos) (wf ft fu):=
 PW.imp (Fi ha hb) fun σ H Q h=>by
  obtain ⟨H₀,Z₀,Z,δ,d,hh,e,k⟩:=h
  obtain ⟨x,e1,e⟩:=bind_some e
  refine ⟨H₀,Z₀,Z,δ,x,hh,e1,fun Z1 H1 hh1 s1=>?_⟩
  cases x with
  | true=>cases e; exact k Z1 H1 hh1 s1
  | false=>exact ⟨H₀,Z₀,Z1,δ,d,hh1,e,fun Z2 H2 hh2 s2=>k Z2 H2 hh2 (s1.trans s2)⟩
theorem WV.tv (h:WV X a ft):TV X a ft:=PW.pt h
theorem pf (ha:TV X a ft):TV X (.UnaryOp .Not a pos) (tX ft):=
 PT.imp (CU ha) fun σ H Q h=>by
  obtain ⟨H₀,Z₀,Z,δ,d,hh,e,k⟩:=h
  cases e1:ft δ with
  | none=>unfold tX at e; rw [e1] at e; cases e
  | some x=>
   unfold tX at e
   rw [e1] at e
   cases e
   exact ⟨H₀,Z₀,Z,δ,x,hh,e1,fun Z1 H1 hh1 s1=>k Z1 H1 hh1 s1⟩
theorem jo {op} (h:EV X a f):EV X (.BoolOp op [a] pos) f:=C4 h
theorem iN {rest:List Expr} (ha:EV X a f1) (hb:EV X (.BoolOp .And (b::rest) pos) f2):EV X (.BoolOp .And (a::b::rest) pos) (jP f1 f2):=
 PE.imp (C7 ha hb) fun σ H Q h=>by
  obtain ⟨H₀,Z₀,Z,δ,d,hh,e,k⟩:=h
  obtain ⟨x,e1,e⟩:=bind_some e
  obtain ⟨c,e2,e⟩:=bind_some e
  have:=qB e2
  subst this
  refine ⟨H₀,Z₀,Z,δ,_,hh,e1,fun v Z1 H1 hh1 s1 r1=>⟨c,r1.bl_eq,?_⟩⟩
  cases c with
  | true=>exact ⟨H₀,Z₀,Z1,δ,d,hh1,e,fun v Z2 H2 hh2 s2 r2=>k v Z2 H2 hh2 (s1.trans s2) r2⟩
  | false=>cases e; exact k _ Z1 H1 hh1 s1 (.bl false)
theorem GE {rest:List Expr} (ha:EV X a f1) (hb:EV X (.BoolOp .Or (b::rest) pos) f2):EV X (.BoolOp .Or (a::b::rest) pos) (FE f1 f2):=
 PE.imp (Fo ha hb) fun σ H Q h=>by
  obtain ⟨H₀,Z₀,Z,δ,d,hh,e,k⟩:=h
  obtain ⟨x,e1,e⟩:=bind_some e
  obtain ⟨c,e2,e⟩:=bind_some e
  have:=qB e2
  subst this
  refine ⟨H₀,Z₀,Z,δ,_,hh,e1,fun v Z1 H1 hh1 s1 r1=>⟨c,r1.bl_eq,?_⟩⟩
  cases c with
  | true=>cases e; exact k _ Z1 H1 hh1 s1 (.bl true)
  | false=>exact ⟨H₀,Z₀,Z1,δ,d,hh1,e,fun v Z2 H2 hh2 s2 r2=>k v Z2 H2 hh2 (s1.trans s2) r2⟩
theorem ur (hc:TV X c ft) (ha:EV X a f1) (hb:EV X b f2):EV X (.IfExp c a b pos) (He ft f1 f2):=
 PE.imp (xG hc ha hb) fun σ H Q h=>by
  obtain ⟨H₀,Z₀,Z,δ,d,hh,e,k⟩:=h
  obtain ⟨x,e1,e⟩:=bind_some e
  refine ⟨H₀,Z₀,Z,δ,x,hh,e1,fun Z1 H1 hh1 s1=>?_⟩
  cases x with
  | true=>exact ⟨H₀,Z₀,Z1,δ,d,hh1,e,fun v Z2 H2 hh2 s2 r2=>k v Z2 H2 hh2 (s1.trans s2) r2⟩
  | false=>exact ⟨H₀,Z₀,Z1,δ,d,hh1,e,fun v Z2 H2 hh2 s2 r2=>k v Z2 H2 hh2 (s1.trans s2) r2⟩
theorem Hold.read {K:Fg} {H₀ Z₀ Z H:Hp} {δ:Dv} {σ:St} (hh:Hold K H₀ Z₀ Z δ σ H) {i:Nat} {d:D} (h:oV i δ = some d):∃ v,σ[i]? = some (some v)/\Rep K Z v d:=by
 unfold oV at h
 cases q:δ[i]? with
 | none=>rw [q] at h; cases h
 | some x=>
  rw [q] at h
  cases x with
  | fz e=>cases h; exact hh.fz i _ q
  | un=>cases h
  | own _=>cases h
  | fr ds=>
   cases h
   obtain ⟨a,xs,h1,_,_,h4,h5⟩:=hh.fr i ds q
   exact ⟨.ref a,h1,.lst (SqL.of h4) h5⟩
theorem aa (i:Nat) {x:Str} (hN:X.N[i]? = some x:=by rfl) (hv:BO X.env.scope x:=by first | exact Or.inl rfl | exact Or.inr (Or.inl rfl) | exact Or.inr (Or.inr rfl)) (hd:(x==("__debug__":Str))=false:=by decide) (hcd:(x==("__classdict__":Str))=false:=by decide) :
  EV X (.Name x pos) (oV i):=
 PE.imp (jj hN hv hd hcd) fun σ H Q h=>by
  obtain ⟨H₀,Z₀,Z,δ,d,hh,e,k⟩:=h
  obtain ⟨v,q,r⟩:=hh.read e
  exact ⟨v,q,k v Z H hh (Same.refl _) r⟩
theorem yH {d:D} {v:V} (h:PE X e (tC v)) (r:∀ Z,Rep X.K Z v d):EV X e (oC d):=
 PE.imp h fun σ H Q h=>by
  obtain ⟨H₀,Z₀,Z,δ,d',hh,e,k⟩:=h
  cases e
  exact k v Z H hh (Same.refl _) (r Z)
theorem af {i j}:EV X (.Constant (.int i) j pos) (oC (.int i)):=yH C6 fun _=>.int i
theorem dq {i j}:EV X (.Constant (.bool i) j pos) (oC (.bool i)):=yH Fq fun _=>.bl i
theorem fN {j}:EV X (.Constant .none j pos) (oC .none):=yH C5 fun _=>.non
theorem ar {i j}:EV X (.Constant (.str i) j pos) (oC (.str i)):=yH C3 fun _=>.str i
theorem ag:AV X [] aq:=
 PA.imp jk fun σ H Q h=>by
  obtain ⟨H₀,Z₀,Z,δ,d,hh,e,k⟩:=h
  cases e
  exact k [] Z H hh (Same.refl _) .nil
theorem ac (ha:EV X e f) (hr:AV X es fs) (hs:starEach (e::es) X.env=(false,eval e X.env)::starEach es X.env:=by rfl):AV X (e::es) (ae f fs):=
 PA.imp (gi ha hr hs) fun σ H Q h=>by
  obtain ⟨H₀,Z₀,Z,δ,d,hh,e,k⟩:=h
  obtain ⟨x,e1,e⟩:=bind_some e
  obtain ⟨xs,e2,e⟩:=bind_some e
  cases e
  exact ⟨H₀,Z₀,Z,δ,x,hh,e1,fun v Z1 H1 hh1 s1 r1=>⟨H₀,Z₀,Z1,δ,xs,hh1,e2,fun vs Z2 H2 hh2 s2 r2=>k _ Z2 H2 hh2 (s1.trans s2) (.cons (r1.same s2) r2)⟩⟩
theorem aH {x1} (h:AV X es fs):EV X (.Tuple es x1 pos) (os fs bh):=
 PE.imp (C1 h) fun σ H Q h=>by
  obtain ⟨H₀,Z₀,Z,δ,d,hh,e,k⟩:=h
  obtain ⟨xs,e1,e⟩:=bind_some e
  refine ⟨H₀,Z₀,Z,δ,xs,hh,e1,fun vs Z1 H1 hh1 s1 r1=>?_⟩
  by_cases hl:xs.length<=sizeLine
  ·rw [bh,if_pos hl] at e
   cases e
   refine ⟨by rw [r1.length]; exact hl,fun p hp=>?_⟩
   have n:=New.add hh1.zh hp (.tup vs)
   exact k _ _ _ (hh1.new n) (s1.trans n.z) (.tup (SqT.of aN) (r1.same n.z))
  ·rw [bh,if_neg hl] at e; cases e
theorem bQ (h:AV X es fs):EV X (.List es pos) (os fs cQ):=
 PE.imp (xF h) fun σ H Q h=>by
  obtain ⟨H₀,Z₀,Z,δ,d,hh,e,k⟩:=h
  obtain ⟨xs,e1,e⟩:=bind_some e
  refine ⟨H₀,Z₀,Z,δ,xs,hh,e1,fun vs Z1 H1 hh1 s1 r1=>?_⟩
  by_cases hl:xs.length<=sizeLine
  ·rw [cQ,if_pos hl] at e
   cases e
   refine ⟨by rw [r1.length]; exact hl,fun p hp=>?_⟩
   have n:=New.add hh1.zh hp (.lst vs)
   exact k _ _ _ (hh1.new n) (s1.trans n.z) (.lst (SqL.of aN) (r1.same n.z))
  ·rw [cQ,if_neg hl] at e; cases e
theorem args {K:Fg} {g:List D->Option D} {σ:St} {H:Hp} {Q:VK} (h:tV K (os fs g) σ H Q):JV K fs σ H fun vs H1=>xu K g vs H1 Q:=by
 obtain ⟨H₀,Z₀,Z,δ,d,hh,e,k⟩:=h
 obtain ⟨xs,e1,e⟩:=bind_some e
 exact ⟨H₀,Z₀,Z,δ,xs,hh,e1,fun vs Z1 H1 hh1 s1 r1=>⟨Z1,xs,d,hh1.zh,r1,e,fun w Z3 H3 n r3=>k w Z3 H3 (hh1.new n) (s1.trans n.z) r3⟩⟩
theorem bX {x:Str} {id:String} {g:List D->Option D} (hc:CallR X (.builtin id) (xu X.K g)) (hg:Gl X x) (hm:X.mg x=none) (hv:bootBuiltins x=some (.builtin id)) (ha:AV X (e::es) fs) (hn:x ≠ "__name__":=by decide) (hdb:(x==("__debug__":Str))=false:=by decide)
  (he:starEach (e::es) X.env=(false,eval e X.env)::starEach es X.env:=by rfl) (hpl:(backTo pos (starEach es X.env)).any (·.1)=false:=by rfl):EV X (.Call (.Name x p) (e::es) [] pos) (os fs g):=
 PE.imp (mJ hc hg hm hv ha hn hdb he hpl) fun _ _ _ h=>args h
theorem fE {x:Str} {id:String} {g:List D->Option D} (hc:CallR X (.type id) (xu X.K g)) (hg:Gl X x) (hm:X.mg x=none) (hv:bootBuiltins x=some (.type id)) (ha:AV X (e::es) fs) (hn:x ≠ "__name__":=by decide) (hdb:(x==("__debug__":Str))=false:=by decide)
  (he:starEach (e::es) X.env=(false,eval e X.env)::starEach es X.env:=by rfl) (hpl:(backTo pos (starEach es X.env)).any (·.1)=false:=by rfl):EV X (.Call (.Name x p) (e::es) [] pos) (os fs g):=
 PE.imp (v8 hc hg hm hv ha hn hdb he hpl) fun _ _ _ h=>args h
theorem Bs {k:Nat} {fa:Addr} {fd:FuncData} {ps:List Str} {x:Str} {g:List D->Option D} {dd:List D} {dv:List V} {ds:List Value} (F:FnOk X.prog X.w X.K X.mg X.base ez k fa fd ps (eX X.K g)) (hr:Room k X.A) (hg:Gl X x) (hm:X.mg x=some (.ref fa)) (hk:PySem.W.keepIn X.K (.ref fa)=true)
  (hb:Binds X.K fd ps ds) (hd:Vals dv ds) (hdd:∀ Z,Reps X.K Z dv dd) (hx:qE ez X E0) (ha:AV X (e::es) fs) (hdb:(x==("__debug__":Str))=false:=by decide) (he:starEach (e::es) X.env=(false,eval e X.env)::starEach es X.env:=by rfl) (hpl:(backTo pos (starEach es X.env)).any (·.1)=false:=by rfl) :
  EV X (.Call (.Name x p) (e::es) [] pos) (os fs fun as=>g (as++dd)):=
 PE.imp (Az F hr hg hm hk hb hd hx ha hdb he hpl) fun σ H Q h=>by
  obtain ⟨H₀,Z₀,Z,δ,xs,hh,e1,q⟩:=args h
  refine ⟨H₀,Z₀,Z,δ,xs,hh,e1,fun vs Z1 H1 hh1 s1 r1=>?_⟩
  obtain ⟨Z2,as,d,zh,ra,eg,kk⟩:=q vs Z1 H1 hh1 s1 r1
  exact ⟨Z2,as++dd,d,zh,ra.append (hdd Z2),eg,kk⟩
theorem IxR.imp {r r':R2} (h:IxR X r) (i:∀ x y H Q,r' x y H Q->r x y H Q):IxR X r':=fun value slice pins s σ H x y v u Q I rx ry q hs=>h value slice pins s σ H x y v u Q I rx ry (i _ _ _ _ q) hs
theorem ak {g:D->D->Option D} (ho:IxR X (rD X.K g)) (ha:EV X a f1) (hb:EV X b f2) (hs:qD b):EV X (.Subscript a b pos) (o2 f1 f2 g):=
 PE.imp (BZ ho ha hb hs) fun _ _ _ h=>two (fun _ _ _ _ q=>q) h
end
end VL
namespace VL
open PySem PySem.Spec PyProof.Rows L2
section
variable {X:Cx} {a b c e tg:Expr} {es:List Expr} {pos p:Pos} {f f1 f2 f3:Dv->Option D} {fs:Dv->Option (List D)} {ft fu:Dv->Option Bool} {st:Stmt} {sts body:List Stmt} {s1 s2:Dv->Option (Fl×Dv)}
theorem Fw {F:Value->Value->Sem Value} {g:Int->Int->Int} (h:OpR X F (zc fun i j=>.int (g i j))):OpR X F (rD X.K (iI g)):=
 OpR.imp h fun x y H Q q=>by
  obtain ⟨Z,a,b,d,zh,ra,rb,e,k⟩:=q
  cases ra <;> cases rb <;> simp [iI] at e
  subst e
  exact ⟨_,_,rfl,rfl,k _ Z H (New.refl zh) (.int _)⟩
theorem u4 {F:Value->Value->Sem Value} {g:Int->Int->Bool} (h:OpR X F (zc fun i j=>.bl (g i j))):OpR X F (rD X.K (iB g)):=
 OpR.imp h fun x y H Q q=>by
  obtain ⟨Z,a,b,d,zh,ra,rb,e,k⟩:=q
  cases ra <;> cases rb <;> simp [iB] at e
  subst e
  exact ⟨_,_,rfl,rfl,k _ Z H (New.refl zh) (.bl _)⟩
theorem xK {F:Value->Value->Sem Value} {P:Int->Int->Prop} {C:Int->Int->Bool} {g:Int->Int->Int} (h:OpR X F (rI P fun i j=>.int (g i j))) (hc:∀ i j,C i j=true->P i j):OpR X F (rD X.K (iC C g)):=
 OpR.imp h fun x y H Q q=>by
  obtain ⟨Z,a,b,d,zh,ra,rb,e,k⟩:=q
  cases ra with
  | int i=>
   cases rb with
   | int j=>
    by_cases hh:C i j=true
    ·simp only [iC,if_pos hh] at e
     cases e
     exact ⟨_,_,rfl,rfl,hc _ _ hh,k _ Z H (New.refl zh) (.int _)⟩
    ·simp only [iC,if_neg hh] at e
     cases e
   | _=>simp [iC] at e
  | _=>simp [iC] at e
theorem Cq:OpR X (binaryOp .Sub) (rD X.K CH):=Fw C8
theorem DZ:OpR X (binaryOp .Mult) (rD X.K Dh):=xK (P:=fun i j=>IntMulOk i j) (Ix fun _ _ _ _ _ _ _ hc q=>mul_int q hc) fun i j h=>of_decide_eq_true h
theorem gM:OpR X (binaryOp .FloorDiv) (rD X.K il):=xK AD fun i j h=>(of_decide_eq_true h:0<j/\j<1073741824)
theorem cE:OpR X (binaryOp .Mod) (rD X.K ck):=xK C9 fun i j h=>of_decide_eq_true h
theorem qg:OpR X (compareOp .Lt) (rD X.K rR):=u4 Fu
theorem Jk:OpR X (compareOp .LtE) (rD X.K J8):=u4 Fv
theorem Jl:OpR X (compareOp .Gt) (rD X.K Ht):=u4 Fx
theorem Jm:OpR X (compareOp .GtE) (rD X.K Kc):=u4 Fy
theorem GK:G3 X (unaryOp .USub) (J0 X.K negD):=by
 intro pins s σ H x v Q I rx q
 obtain ⟨Z,a,d,zh,ra,e,k⟩:=q
 cases ra <;> simp [negD] at e
 subst e
 exact Cw pins s σ H _ v Q I rx ⟨_,rfl,k _ Z H (New.refl zh) (.int _)⟩
theorem Rep.str_eq {K:Fg} {Z:Hp} {v:V} {x:Str} (h:Rep K Z v (.str x)):v=.str x:=by cases h; rfl
theorem Rep.tup_ex {K:Fg} {Z:Hp} {v:V} {ds:List D} (h:Rep K Z v (.tuple ds)):∃ a xs,v=.ref a/\SqT K Z a xs/\Reps K Z xs ds:=by
 cases h with
 | tup p q=>exact ⟨_,_,rfl,p,q⟩
theorem Rep.lst_ex {K:Fg} {Z:Hp} {v:V} {ds:List D} (h:Rep K Z v (.list ds)):∃ a xs,v=.ref a/\SqL K Z a xs/\Reps K Z xs ds:=by
 cases h with
 | lst p q=>exact ⟨_,_,rfl,p,q⟩
theorem eN {p:Prop} [Decidable p] {α:Type} {x y:α} (h:(if p then some x else none)=some y):p/\x=y:=by
 by_cases q:p
 ·rw [if_pos q] at h; exact ⟨q,Option.some.inj h⟩
 ·rw [if_neg q] at h; cases h
theorem Ej {a b d:D} (h:bd a b=some d):(∃ i,a=.int i)\/(∃ x,a=.str x)\/(∃ xs,a=.list xs)\/∃ xs,a=.tuple xs:=by
 cases a with
 | int i=>exact .inl ⟨_,rfl⟩
 | str i=>exact .inr (.inl ⟨_,rfl⟩)
 | list i=>exact .inr (.inr (.inl ⟨_,rfl⟩))
 | tuple i=>exact .inr (.inr (.inr ⟨_,rfl⟩))
 | _=>cases h
theorem Ek {i:Int} {b d:D} (h:bd (.int i) b=some d):∃ j,b=.int j/\d=.int (i+j):=by
 cases b with
 | int j=>exact ⟨j,rfl,(Option.some.inj h).symm⟩
 | _=>cases h
theorem Eh {i:Str} {b d:D} (h:bd (.str i) b=some d):∃ j,b=.str j/\i.length+j.length<=sizeLine/\d=.str (i++j):=by
 cases b with
 | str j=>obtain ⟨p,q⟩:=eN h; exact ⟨j,rfl,p,q.symm⟩
 | _=>cases h
theorem Ei {i:List D} {b d:D} (h:bd (.list i) b=some d):∃ j,b=.list j/\i.length+j.length<=sizeLine/\d=.list (i++j):=by
 cases b with
 | list j=>obtain ⟨p,q⟩:=eN h; exact ⟨j,rfl,p,q.symm⟩
 | _=>cases h
theorem Eg {i:List D} {b d:D} (h:bd (.tuple i) b=some d):∃ j,b=.tuple j/\i.length+j.length<=sizeLine/\d=.tuple (i++j):=by
 cases b with
 | tuple j=>obtain ⟨p,q⟩:=eN h; exact ⟨j,rfl,p,q.symm⟩
 | _=>cases h
theorem bA:OpR X (binaryOp .Add) (rD X.K bd):=by
 intro pins s σ H x y v u Q I rx ry q
 obtain ⟨Z,a,b,d,zh,ra,rb,e,k⟩:=q
 rcases Ej e with ⟨i,rfl⟩ | ⟨i,rfl⟩ | ⟨ds,rfl⟩ | ⟨ds,rfl⟩
 ·obtain ⟨j,rfl,rfl⟩:=Ek e
  cases ra.int_eq
  cases rb.int_eq
  exact Da pins s σ H _ _ v u Q I rx ry ⟨_,_,rfl,rfl,k _ Z H (New.refl zh) (.int _)⟩
 ·obtain ⟨j,rfl,hl,rfl⟩:=Eh e
  cases ra.str_eq
  cases rb.str_eq
  exact tT pins s σ H _ _ v u Q I rx ry ⟨_,_,rfl,rfl,hl,k _ Z H (New.refl zh) (.str _)⟩
 ·obtain ⟨es,rfl,hl,rfl⟩:=Ei e
  obtain ⟨a,xs,rfl,h1,q1⟩:=ra.lst_ex
  obtain ⟨b,ys,rfl,h2,q2⟩:=rb.lst_ex
  cases rx
  cases ry
  obtain ⟨its,r1,p1,z1⟩:=I.list (SqL.same h1 zh)
  obtain ⟨its2,r2,p2,z2⟩:=I.list (SqL.same h2 zh)
  obtain ⟨⟨cls,dd,data,sl⟩,n1,ho,hc,hdd,hd⟩:=p1
  obtain ⟨⟨cls2,dd2,data2,sl2⟩,n2,ho2,hc2,hdd2,hd2⟩:=p2
  simp only at hc hd hc2 hd2
  subst hc hd hc2 hd2
  have hl1:=r1.length
  have hl2:=r2.length
  have ql1:=q1.length
  have ql2:=q2.length
  refine concat_meets ⟨_,ho,rfl⟩ ⟨_,ho2,rfl⟩ noFill_list_add seq_list_add PySem.F.slot_list_add PySem.F.entry_list_add (PySem.F.args_list_add_2 _ _) (list_addW a b its.toArray its2.toArray n1 n2 dd dd2 sl sl2 (by simp; omega)) ⟨ho,ho2,?_⟩
  have ea:its.toArray++its2.toArray=(its++its2).toArray:=by simp
  rw [ea]
  have n:=New.add zh I.fresh (.lst (xs++ys))
  exact ⟨.ref _,_,I.lnew (t':=s.toks) (r1.append r2) (by rw [List.length_append]; omega),rfl,k _ _ _ n (.lst (SqL.of aN) ((q1.append q2).same n.z))⟩
 ·obtain ⟨es,rfl,hl,rfl⟩:=Eg e
  obtain ⟨a,xs,rfl,h1,q1⟩:=ra.tup_ex
  obtain ⟨b,ys,rfl,h2,q2⟩:=rb.tup_ex
  by_cases h0:ds.length=0
  ·have hd0:ds=[]:=List.eq_nil_of_length_eq_zero h0
   subst hd0
   cases q1
   cases rx
   cases ry
   obtain ⟨its,r1,p1,z1⟩:=I.tuple (SqT.same h1 zh)
   obtain ⟨its2,r2,p2,z2⟩:=I.tuple (SqT.same h2 zh)
   cases r1
   obtain ⟨⟨cls,dd,data,sl⟩,ho,hc,n,hd⟩:=id p1
   obtain ⟨⟨cls2,dd2,data2,sl2⟩,ho2,hc2,n2,hd2⟩:=id p2
   simp only at hc hd hc2 hd2
   subst hc hd hc2 hd2
   exact concat_meets ⟨_,ho,rfl⟩ ⟨_,ho2,rfl⟩ noFill_tuple_add seq_tuple_add PySem.F.slot_tuple_add PySem.F.entry_tuple_add (PySem.F.args_tuple_add_2 _ _)
    (tuple_addW0 a b _ its2.toArray n n2 dd dd2 sl sl2 (by simp)) ⟨ho,ho2,⟨.ref b,H,I,rfl,k _ Z H (New.refl zh) (.tup h2 q2)⟩⟩
  refine AE pins s σ H _ _ v u Q I rx ry ⟨a,b,xs,ys,rfl,rfl,SqT.same h1 zh,SqT.same h2 zh,fun z=>h0 (by rw [<- q1.length,z]; rfl),by rw [q1.length,q2.length]; exact hl,fun z=>?_,fun z p hp=>?_⟩
  ·subst z
   cases q2
   rw [List.append_nil] at k
   exact k _ Z H (New.refl zh) (.tup h1 q1)
  ·have n:=New.add zh hp (.tup (xs++ys))
   exact k _ _ _ n (.tup (SqT.of aN) ((q1.append q2).same n.z))
theorem fV {d:D} (h:kW d=true):d.canLay0=true:=(Bool.and_eq_true_iff.mp h).1
theorem bq (hu:X.A.units+64<cLine):OpR X (compareOp .Eq) (rD X.K aO):=by
 intro pins s σ H x y v u Q I rx ry q
 obtain ⟨Z,a,b,d,zh,ra,rb,e,k⟩:=q
 by_cases hs:kW a=true/\kW b=true
 ·rw [aO,if_pos hs] at e
  cases e
  obtain ⟨as,r1⟩:=ra.reads I zh rx (fV hs.1)
  obtain ⟨bs,r2⟩:=rb.reads I zh ry (fV hs.2)
  exact eq_dataH r1 r2 hs.1 hs.2 hu ⟨.bl _,H,I,rfl,k _ Z H (New.refl zh) (.bl _)⟩
 ·rw [aO,if_neg hs] at e; cases e
theorem j8 (hu:X.A.units+64<cLine):OpR X (compareOp .NotEq) (rD X.K neD):=by
 intro pins s σ H x y v u Q I rx ry q
 obtain ⟨Z,a,b,d,zh,ra,rb,e,k⟩:=q
 by_cases hs:kW a=true/\kW b=true
 ·rw [neD,if_pos hs] at e
  cases e
  obtain ⟨as,r1⟩:=ra.reads I zh rx (fV hs.1)
  obtain ⟨bs,r2⟩:=rb.reads I zh ry (fV hs.2)
  exact ne_dataH r1 r2 hs.1 hs.2 hu ⟨.bl _,H,I,rfl,k _ Z H (New.refl zh) (.bl _)⟩
 ·rw [neD,if_neg hs] at e; cases e
theorem DI {K:Fg} {Z:Hp} {v:V} {d:D} (r:Rep K Z v d):decide (v=.non)=yo d:=by cases r <;> rfl
theorem uA:OpR X (compareOp .IsNot) (rD X.K jW):=
 OpR.imp AC fun x y H Q q=>by
  obtain ⟨Z,a,b,d,zh,ra,rb,e,k⟩:=q
  cases rb <;> simp [jW] at e
  subst e
  exact ⟨rfl,by rw [DI ra]; exact k _ Z H (New.refl zh) (.bl _)⟩
theorem Reps.at {K:Fg} {Z:Hp} {vs:List V} {ds:List D} {i:Int} {d:D} (r:Reps K Z vs ds) (h:lj ds i=some d):∃ v,lj vs i=some v/\Rep K Z v d:=by
 unfold lj at h ⊢
 rw [r.length]
 obtain ⟨j,e,h⟩:=bind_some h
 obtain ⟨v,q,rr⟩:=r.get h
 exact ⟨v,by rw [e]; exact q,rr⟩
theorem F3 {a b d:D} (h:aD a b=some d):(∃ xs,a=.list xs)\/∃ xs,a=.tuple xs:=by
 cases a with
 | list i=>exact .inl ⟨_,rfl⟩
 | tuple i=>exact .inr ⟨_,rfl⟩
 | _=>cases h
theorem Ci {xs:List D} {b d:D} (h:aD (.list xs) b=some d):∃ i,b=.int i/\lj xs i=some d:=by
 cases b with
 | int i=>exact ⟨i,rfl,h⟩
 | _=>cases h
theorem aB:IxR X (rD X.K aD):=
 IxR.imp (ix_list.or Dy) fun x y H Q q=>by
  obtain ⟨Z,a,b,d,zh,ra,rb,e,k⟩:=q
  rcases F3 e with ⟨xs,rfl⟩ | ⟨xs,rfl⟩
  ·obtain ⟨i,rfl,e⟩:=Ci e
   obtain ⟨a,vs,rfl,h1,q1⟩:=ra.lst_ex
   cases rb.int_eq
   obtain ⟨v,ev,rv⟩:=q1.at e
   exact .inl ⟨_,_,_,v,rfl,rfl,SqL.same h1 zh,ev,k v Z H (New.refl zh) rv⟩
  ·obtain ⟨i,rfl,e⟩:=Ci (xs:=xs) (b:=b) (by cases b <;> exact e)
   obtain ⟨a,vs,rfl,h1,q1⟩:=ra.tup_ex
   cases rb.int_eq
   obtain ⟨v,ev,rv⟩:=q1.at e
   exact .inr ⟨_,_,_,v,rfl,rfl,SqT.same h1 zh,ev,k v Z H (New.refl zh) rv⟩
theorem gP:CallR X (.builtin "len") (xu X.K da):=
 CallR.imp sO fun xs H Q q=>by
  obtain ⟨Z,as,d,zh,ra,e,k⟩:=q
  cases ra with
  | nil=>cases e
  | cons r1 r2=>
   cases r2 with
   | cons _ _=>cases r1 <;> cases e
   | nil=>
    cases r1 with
    | lst h1 q1=>cases e; exact ⟨_,_,rfl,.inl ⟨_,SqL.same h1 zh,rfl⟩,k _ Z H (New.refl zh) (by rw [q1.length]; exact .int _)⟩
    | tup h1 q1=>cases e; exact ⟨_,_,rfl,.inr ⟨_,SqT.same h1 zh,rfl⟩,k _ Z H (New.refl zh) (by rw [q1.length]; exact .int _)⟩
    | _=>cases e
theorem qP {K:Fg} {Z:Hp} {xs:List V} {as:List D} {d:D} {g:List D->Option D} {h:Int->Int->Int} (hg:∀ as d,g as=some d->∃ i j,as=[.int i,.int j]/\d=.int (h i j)) (r:Reps K Z xs as) (e:g as=some d) :
  ∃ i j,xs=[.int i,.int j]/\d=.int (h i j):=by
 obtain ⟨i,j,rfl,rfl⟩:=hg _ _ e
 cases r with
 | cons r1 r2=>
  cases r2 with
  | cons r3 r4=>
   cases r4
   exact ⟨i,j,by rw [r1.int_eq,r3.int_eq],rfl⟩
theorem GS (hc:X.calm=true):CallR X (.builtin "min") (xu X.K AK):=
 CallR.imp (wH hc) fun xs H Q q=>by
  obtain ⟨Z,as,d,zh,ra,e,k⟩:=q
  obtain ⟨i,j,rfl,rfl⟩:=qP (h:=fun i j=>if j<i then j else i) (fun as d h=>by unfold AK at h; split at h <;> cases h; exact ⟨_,_,rfl,rfl⟩) ra e
  exact ⟨i,j,rfl,k _ Z H (New.refl zh) (.int _)⟩
theorem Cs (hc:X.calm=true):CallR X (.builtin "max") (xu X.K tY):=
 CallR.imp (wI hc) fun xs H Q q=>by
  obtain ⟨Z,as,d,zh,ra,e,k⟩:=q
  obtain ⟨i,j,rfl,rfl⟩:=qP (h:=fun i j=>if j>i then j else i) (fun as d h=>by unfold tY at h; split at h <;> cases h; exact ⟨_,_,rfl,rfl⟩) ra e
  exact ⟨i,j,rfl,k _ Z H (New.refl zh) (.int _)⟩
theorem GU:CallR X (.type "int") (xu X.K yp):=
 CallR.imp wJ fun xs H Q q=>by
  obtain ⟨Z,as,d,zh,ra,e,k⟩:=q
  cases ra with
  | nil=>cases e
  | cons r1 r2=>
   cases r2 with
   | cons _ _=>cases r1 <;> cases e
   | nil=>
    cases r1 with
    | int i=>cases e; exact .inl ⟨_,rfl,k _ Z H (New.refl zh) (.int _)⟩
    | bl i=>cases e; exact .inr ⟨_,rfl,k _ Z H (New.refl zh) (.int _)⟩
    | _=>cases e
theorem yU:CallR X (.type "list") (xu X.K rW):=
 CallR.imp qj fun xs H Q q=>by
  obtain ⟨Z,as,d,zh,ra,e,k⟩:=q
  cases ra with
  | nil=>cases e
  | cons r1 r2=>
   cases r2 with
   | cons _ _=>cases r1 <;> cases e
   | nil=>
    cases r1 with
    | lst h1 q1=>cases e; exact ⟨_,_,rfl,.inl (SqL.same h1 zh),fun l hl=>let n:=New.add zh hl (.lst _); k _ _ _ n (.lst (SqL.of aN) (q1.same n.z))⟩
    | tup h1 q1=>cases e; exact ⟨_,_,rfl,.inr (SqT.same h1 zh),fun l hl=>let n:=New.add zh hl (.lst _); k _ _ _ n (.lst (SqL.of aN) (q1.same n.z))⟩
    | _=>cases e
theorem qk:CallR X (.type "tuple") (xu X.K kw):=
 CallR.imp oa fun xs H Q q=>by
  obtain ⟨Z,as,d,zh,ra,e,k⟩:=q
  cases ra with
  | nil=>cases e
  | cons r1 r2=>
   cases r2 with
   | cons _ _=>cases r1 <;> cases e
   | nil=>
    cases r1 with
    | lst h1 q1=>cases e; exact ⟨_,_,rfl,.inl ⟨SqL.same h1 zh,fun l hl=>let n:=New.add zh hl (.tup _); k _ _ _ n (.tup (SqT.of aN) (q1.same n.z))⟩⟩
    | tup h1 q1=>cases e; exact ⟨_,_,rfl,.inr ⟨SqT.same h1 zh,k _ Z H (New.refl zh) (.tup h1 q1)⟩⟩
    | _=>cases e
theorem Ds (K:Fg) {t T:String} (ht:t = "NoneType" \/ t = "bool" \/ t = "int" \/ t = "str" \/ t = "list" \/ t = "tuple") (hT:T = "int" \/ T = "bool" \/ T = "str" \/ T = "list" \/ T = "tuple"):PySem.W.kitOne K (.type t) (.type T)=some (DG t T):=by
 rcases ht with rfl | rfl | rfl | rfl | rfl | rfl <;> rcases hT with rfl | rfl | rfl | rfl | rfl <;> rfl
theorem Rep.ty {K:Fg} {Z H:Hp} {v:V} {d:D} (zh:Same Z H) (r:Rep K Z v d) (hD:¬vc d=true):(tyN d = "NoneType" \/ tyN d = "bool" \/ tyN d = "int" \/ tyN d = "str" \/ tyN d = "list" \/ tyN d = "tuple"):=by
 cases r <;> simp [tyN]
 ·exact absurd rfl hD
 ·exact absurd rfl hD
theorem DD {pins:List (Addr×Obj)} {σ:St} {H Z:Hp} {s:Shared} {x:V} {u:Value} {d:D} {T:String} {A:Around} {E:Value->Shared->Prop} {Q:Value->Shared->Prop} (I:Inv X pins σ H s) (zh:Same Z H) (rx:RelV x u) (r:Rep X.K Z x d) (hD:¬vc d=true)
  (hT:T = "int" \/ T = "bool" \/ T = "str" \/ T = "list" \/ T = "tuple") (h:∀ tk,Q (.bool (DG (tyN d) T)) { s with toks:=tk }):wpAny (model X.prog X.w) A (call (.builtin "isinstance") [u,.type T]) Q E s:=by
 have ko:=Ds X.K (Rep.ty zh r hD) hT
 cases r with
 | non=>exact iU I rx (.non) ko h
 | bl b=>exact iU I rx (.bl b) ko h
 | int b=>exact iU I rx (.int b) ko h
 | str b=>exact iU I rx (.str b) ko h
 | @tup a xs ds h1 q1=>
  cases (show u=Value.ref a from rx)
  obtain ⟨its,_,p,_⟩:=I.tuple (SqT.same h1 zh)
  obtain ⟨o,h1,h2,_⟩:=p
  exact PySem.W.kia_one PySem.W.kitx_tuple I.kIn ⟨o,h1,h2⟩ ko (fun z=>nomatch z) h
 | @lst a xs ds h1 q1=>
  cases (show u=Value.ref a from rx)
  obtain ⟨its,_,p,_⟩:=I.list (SqL.same h1 zh)
  obtain ⟨o,n,h1,h2,_⟩:=p
  exact PySem.W.kia_one PySem.W.kitx_list I.kIn ⟨o,h1,h2⟩ ko (fun z=>nomatch z) h
 | opq h1=>exact absurd rfl hD
 | gdc _ _ _ _=>exact absurd rfl hD
theorem GT (T:String):CallR X (.builtin "isinstance") (fun xs H Q=>∃ x Z d r,xs=[x,.ty T]/\Same Z H/\Rep X.K Z x d/\jX T d=some r/\∃ b,r=.bool b/\Q (.bl b) H):=by
 intro pins s σ H xs us Q I rv h
 obtain ⟨x,Z,d,r,rfl,zh,rr,e,b,rfl,q⟩:=h
 obtain ⟨u,w',rfl,r1,r2⟩:=wV rv
 cases (show w'=Value.type T from r2)
 by_cases hD:vc d=true
 ·rw [jX,if_pos hD] at e; cases e
 by_cases hT:T = "int" \/ T = "bool" \/ T = "str" \/ T = "list" \/ T = "tuple"
 ·rw [jX,if_neg hD,if_pos hT] at e
  cases e
  exact DD I zh r1 rr hD hT fun tk=>⟨.bl _,H,I.tok _,rfl,q⟩
 ·rw [jX,if_neg hD,if_neg hT] at e; cases e
theorem DR {x:Str} {T:String} {p2:Pos} (hg:Gl X "isinstance") (hm:X.mg "isinstance" = none) (hgT:Gl X x) (hmT:X.mg x=none) (hvT:bootBuiltins x=some (.type T)) (hnT:x ≠ "__name__") (hdT:(x==("__debug__":Str))=false) (ha:EV X a f)
  (he:starEach (a::[.Name x p2]) X.env=(false,eval a X.env)::starEach [.Name x p2] X.env:=by rfl) (he2:starEach ((.Name x p2)::[]) X.env=(false,eval (.Name x p2) X.env)::starEach [] X.env:=by rfl) (hpl:(backTo pos (starEach [.Name x p2] X.env)).any (·.1)=false:=by rfl) :
  EV X (.Call (.Name "isinstance" p) [a,.Name x p2] [] pos) (o1 f (jX T)):=
 PE.imp (mJ (GT T) hg hm PyProof.Rows.boot_isinstance (gi ha (gi (AA (v:=.ty T) hgT hmT hvT rfl hnT hdT) jk he2) he) (by decide) (by decide) he hpl) fun σ H Q h=>by
  obtain ⟨H₀,Z₀,Z,δ,d,hh,e,k⟩:=h
  obtain ⟨y,e1,e⟩:=bind_some e
  refine ⟨H₀,Z₀,Z,δ,y,hh,e1,fun v Z1 H1 hh1 s1 r1=>⟨v,Z1,y,d,rfl,hh1.zh,r1,e,?_⟩⟩
  have:∃ b,d=.bool b:=by
   unfold jX at e
   split at e
   ·cases e
   ·split at e
    ·cases e; exact ⟨_,rfl⟩
    ·cases e
  obtain ⟨b,rfl⟩:=this
  exact ⟨b,rfl,k _ Z1 H1 hh1 s1 (.bl b)⟩
end
end VL
namespace VL
open PySem PySem.Spec PyProof.Rows L2
section
variable {X:Cx} {a b c e tg iter:Expr} {es:List Expr} {pos p:Pos} {f f1 f2 f3:Dv->Option D} {fs:Dv->Option (List D)} {ft fu:Dv->Option Bool} {st:Stmt} {sts body orelse:List Stmt} {s1 s2 s3:Sf}
theorem aC (he:EV X e f):SV X (.Return (some e) pos) (aY f):=
 PS.imp (CV he) fun D σ H h=>by
  obtain ⟨H₀,Z₀,Z,δ,r,hh,e,k⟩:=h
  obtain ⟨x,e1,e⟩:=bind_some e
  cases e
  exact ⟨H₀,Z₀,Z,δ,x,hh,e1,fun v Z1 H1 hh1 s1 r1=>k σ H1 Z1 hh1 s1 v r1⟩
theorem aX (i:Nat) {x:Str} {pos':Pos} (hN:X.N.Nodup) (he:EV X e f) (hi:X.N[i]? = some x:=by rfl) (hx:wR X.env.scope x:=by first | exact Or.inl rfl | exact Or.inr rfl) (hs:swapsWith e (some (.Name x pos')) pos.line X.env=pure false:=by rfl)
  (hf:X.fn x=true\/X.env.scope.names.lookup x=some .local:=by first | exact .inl rfl | exact .inr rfl | assumption):SV X (.Assign [.Name x pos'] e pos) (bP i f):=
 PS.imp (tP hN hi hx he hs hf) fun D σ H h=>by
  obtain ⟨H₀,Z₀,Z,δ,r,hh,e,k⟩:=h
  obtain ⟨x,e1,e⟩:=bind_some e
  cases e
  exact ⟨H₀,Z₀,Z,δ,x,hh,e1,fun v Z1 H1 hh1 s1 r1=>k _ H1 Z1 (hh1.set r1) s1⟩
theorem FG {D:Ends} {σ:St} {H:Hp} {K:Fg} (h:ES K cZ D σ H):D.nx σ H:=by
 obtain ⟨H₀,Z₀,Z,δ,r,hh,e,k⟩:=h
 cases e
 exact k σ H Z hh (Same.refl _)
theorem aJ:BV X [] cZ:=PSs.imp Am fun D σ H h=>FG h
theorem ai (h1:SV X st s1) (h2:BV X sts s2):BV X (st::sts) (sSeq s1 s2):=
 PSs.imp (rj h1 h2) fun D σ H h=>by
  obtain ⟨H₀,Z₀,Z,δ,r,hh,e,k⟩:=h
  obtain ⟨⟨fl,δ'⟩,e1,e⟩:=bind_some e
  refine ⟨H₀,Z₀,Z,δ,(fl,δ'),hh,e1,fun σ' H' Z' hh' s'=>?_⟩
  cases fl with
  | nx=>exact ⟨H₀,Z₀,Z',δ',r,hh',e,fun σ2 H2 Z2 hh2 s2=>by
    have:=k σ2 H2 Z2 hh2 (s'.trans s2)
    obtain ⟨fl,δ2⟩:=r
    cases fl <;> exact this⟩
  | bk=>cases e; exact k σ' H' Z' hh' s'
  | ct=>cases e; exact k σ' H' Z' hh' s'
  | rt d=>cases e; exact k σ' H' Z' hh' s'
theorem ap (h1:SV X st s1):BV X [st] s1:=Al h1
theorem aU (hc:TV X c ft) (ha:BV X body s1) (hb:BV X orelse s2):SV X (.If c body orelse pos) (sIf ft s1 s2):=
 PS.imp (BY hc ha hb) fun D σ H h=>by
  obtain ⟨H₀,Z₀,Z,δ,r,hh,e,k⟩:=h
  obtain ⟨x,e1,e⟩:=bind_some e
  refine ⟨H₀,Z₀,Z,δ,x,hh,e1,fun Z1 H1 hh1 t1=>?_⟩
  cases x with
  | true=>exact ⟨H₀,Z₀,Z1,δ,r,hh1,e,fun σ2 H2 Z2 hh2 t2=>k σ2 H2 Z2 hh2 (t1.trans t2)⟩
  | false=>exact ⟨H₀,Z₀,Z1,δ,r,hh1,e,fun σ2 H2 Z2 hh2 t2=>k σ2 H2 Z2 hh2 (t1.trans t2)⟩
theorem Gv {K:Fg} (i:Nat) {D:Ends} {σ:St} {H:Hp} (h:ES K (fun δ=>s1 (dFz i δ)) D σ H):ES K s1 D σ H:=by
 obtain ⟨H₀,Z₀,Z,δ,r,hh,e,k⟩:=h
 have e:s1 (dFz i δ)=some r:=e
 unfold dFz at e
 split at e
 ·rename_i ds q
  obtain ⟨Z1,t1,hh1⟩:=hh.frz q
  exact ⟨H₀,Z₀,Z1,_,r,hh1,e,fun σ2 H2 Z2 hh2 t2=>k σ2 H2 Z2 hh2 (t1.trans t2)⟩
 ·exact ⟨H₀,Z₀,Z,_,r,hh,e,k⟩
theorem mD (i:Nat) (h:SV X st s1):SV X st (fun δ=>s1 (dFz i δ)):=PS.imp h fun D σ H q=>Gv i q
def Kq (K:Fg) (g:D->Dv->Option Dv):TG:=fun v σ H Q=>∃ H₀ Z₀ Z δ d δ',Hold K H₀ Z₀ Z δ σ H/\Rep K Z v d/\g d δ = some δ'/\∀ σ' H' Z',Hold K H₀ Z₀ Z' δ' σ' H'->Same Z Z'->Q σ' H'
def GV (X:Cx) (tg:Expr) (g:D->Dv->Option Dv):Prop:=PG X tg (Kq X.K g)
theorem PG.imp {t t':TG} (h:PG X tg t) (i:∀ v σ H Q,t' v σ H Q->t v σ H Q):PG X tg t':=fun pins s σ H x v Q I r q=>h pins s σ H x v Q I r (i _ _ _ _ q)
theorem b7 (i:Nat) {x:Str} (hN:X.N.Nodup) (hi:X.N[i]? = some x:=by rfl) (hx:wR X.env.scope x:=by first | exact Or.inl rfl | exact Or.inr rfl)
  (hf:X.fn x=true\/X.env.scope.names.lookup x=some .local:=by first | exact .inl rfl | exact .inr rfl | assumption):GV X (.Name x pos) (gN i):=
 PG.imp (cG hN hi hx hf) fun v σ H Q h=>by
  obtain ⟨H₀,Z₀,Z,δ,d,δ',hh,r,e,k⟩:=h
  cases e
  exact k _ H Z (hh.set r) (Same.refl _)
structure ItOk (K:Fg) (Z:Hp) (J:It) (ds:List D):Prop where
 go:∀ (i:Nat) (H:Hp),Same Z H->i<ds.length->J.go i H
 yld:∀ (i:Nat) (H:Hp) x H' d,Same Z H->ds[i]? = some d->J.yld i H x H'->H'=H/\Rep K Z x d
 stop:∀ (i:Nat) (H:Hp),Same Z H->ds.length<=i->J.stop i H
def HH (K:Fg) (f:Dv->Option (List D)):TI:=fun σ H R=>∃ H₀ Z₀ Z δ ds,Hold K H₀ Z₀ Z δ σ H/\f δ = some ds/\∀ J Z' H',Hold K H₀ Z₀ Z' δ σ H'->Same Z Z'->ItOk K Z' J ds->R J H'
def IV (X:Cx) (tg iter:Expr) (f:Dv->Option (List D)):Prop:=PI X tg iter (HH X.K f)
theorem PI.imp {t t':TI} (h:PI X tg iter t) (i:∀ σ H R,t' σ H R->t σ H R):PI X tg iter t':=fun pins s σ H R I q=>h pins s σ H R I (i _ _ _ q)
theorem d7 {g:D->Dv->Option Dv} (hp:PassesOwn (model X.prog X.w) X.A X.env X.xe) (hc:X.calm=true) (hi:IV X tg iter fs) (hg:GV X tg g) (hb:BV X body s1)
  (hs:∀ x,foldedSetIterable iter X.env x=pure x:=by intro _; rfl):SV X (.For tg iter body [] pos) (jK fs g s1):=
 PS.imp (CW hp hc hi hg hb hs) fun D σ H h=>by
  obtain ⟨H₀,Z₀,Z,δ,r,hh,e,k⟩:=h
  obtain ⟨ds,e1,e⟩:=bind_some e
  refine ⟨H₀,Z₀,Z,δ,ds,hh,e1,fun J Z1 H1 hh1 t1 ok=>?_⟩
  refine ⟨fun i m σ H=>m=ds.length-i/\i<=ds.length/\∃ Zc δc,Hold X.K H₀ Z₀ Zc δc σ H/\Same Z1 Zc/\loop g s1 (ds.drop i) δc=some r,⟨ds.length,by simp,Nat.zero_le _,Z1,δ,hh1,Same.refl _,e⟩,?_⟩
  rintro i m σ2 H2 ⟨rfl,hi2,Zc,δc,hhc,tc,ec⟩
  have zh:Same Z1 H2:=tc.trans hhc.zh
  by_cases hlt:i<ds.length
  ·refine .inr ⟨ok.go i H2 zh hlt,fun σ3 H3=>∃ Zc δc,Hold X.K H₀ Z₀ Zc δc σ3 H3/\Same Z1 Zc/\loop g s1 (ds.drop (i+1)) δc=some r,fun σ3 H3 q=>⟨ds.length-(i+1),by omega,rfl,hlt,q⟩,fun x H3 y=>?_⟩
   have ed:ds[i]? = some ds[i]:=by simp [hlt]
   obtain ⟨rfl,rx⟩:=ok.yld i H2 x H3 _ zh ed y
   rw [List.drop_eq_getElem_cons hlt] at ec
   obtain ⟨δ1,g1,ec⟩:=bind_some ec
   obtain ⟨⟨fl,δ2⟩,g2,ec⟩:=bind_some ec
   refine ⟨H₀,Z₀,Zc,δc,_,δ1,hhc,rx.same tc,g1,fun σ4 H4 Z4 hh4 t4=>⟨H₀,Z₀,Z4,δ1,(fl,δ2),hh4,g2,fun σ5 H5 Z5 hh5 t5=>?_⟩⟩
   cases fl with
   | nx=>exact ⟨Z5,δ2,hh5,(tc.trans t4).trans t5,ec⟩
   | ct=>exact ⟨Z5,δ2,hh5,(tc.trans t4).trans t5,ec⟩
   | bk=>cases ec; exact k σ5 H5 Z5 hh5 (((t1.trans tc).trans t4).trans t5)
   | rt d=>cases ec; exact k σ5 H5 Z5 hh5 (((t1.trans tc).trans t4).trans t5)
  ·have e2:ds.drop i=[]:=List.drop_eq_nil_iff.mpr (by omega)
   rw [e2] at ec
   cases ec
   exact .inl ⟨ok.stop i H2 zh (by omega),k σ2 H2 Zc hhc (t1.trans tc)⟩
theorem qR (n:Dv->Nat) (hp:PassesOwn (model X.prog X.w) X.A X.env X.xe) (hc:TV X c ft) (hb:BV X body s1):SV X (.While c body [] pos) (fun δ=>eV ft s1 (n δ) δ):=
 PS.imp (xy hp hc hb) fun D σ H h=>by
  obtain ⟨H₀,Z₀,Z,δ,r,hh,e,k⟩:=h
  refine ⟨fun m σ H=>∃ Zc δc,Hold X.K H₀ Z₀ Zc δc σ H/\Same Z Zc/\eV ft s1 m δc=some r,⟨n δ,Z,δ,hh,Same.refl _,e⟩,?_⟩
  rintro m σ2 H2 ⟨Zc,δc,hhc,tc,ec⟩
  cases m with
  | zero=>cases ec
  | succ m=>
   obtain ⟨cc,g1,ec⟩:=bind_some ec
   refine ⟨H₀,Z₀,Zc,δc,cc,hhc,g1,fun Z3 H3 hh3 t3=>?_⟩
   cases cc with
   | false=>cases ec; exact k σ2 H3 Z3 hh3 (tc.trans t3)
   | true=>
    obtain ⟨⟨fl,δ2⟩,g2,ec⟩:=bind_some ec
    refine ⟨fun σ4 H4=>∃ Zc δc,Hold X.K H₀ Z₀ Zc δc σ4 H4/\Same Z Zc/\eV ft s1 m δc=some r,fun σ4 H4 q=>⟨m,Nat.lt_succ_self m,q⟩,?_⟩
    refine ⟨H₀,Z₀,Z3,δc,(fl,δ2),hh3,g2,fun σ5 H5 Z5 hh5 t5=>?_⟩
    cases fl with
    | nx=>exact ⟨Z5,δ2,hh5,(tc.trans t3).trans t5,ec⟩
    | ct=>exact ⟨Z5,δ2,hh5,(tc.trans t3).trans t5,ec⟩
    | bk=>cases ec; exact k σ5 H5 Z5 hh5 ((tc.trans t3).trans t5)
    | rt d=>cases ec; exact k σ5 H5 Z5 hh5 ((tc.trans t3).trans t5)
theorem sk {K:Fg} {Z:Hp} {lo:Int} {n:Nat}:ItOk K Z (Em lo n) (nM lo n) where
 go:=fun i H _ h=>by simpa [nM,Em] using h
 yld:=fun i H x H' d _ e y=>by
  obtain ⟨rfl,rfl⟩:=y
  refine ⟨rfl,?_⟩
  unfold nM at e
  rw [List.getElem?_map] at e
  cases q:(List.range n)[i]? with
  | none=>rw [q] at e; cases e
  | some k=>
   rw [q] at e
   cases e
   have:k=i:=by
    obtain ⟨h,h2⟩:=List.getElem?_eq_some_iff.mp q
    simpa using h2.symm
   subst this
   exact .int _
 stop:=fun i H _ h=>by simpa [nM,Em] using h
theorem kH (hg:Gl X "range") (hm:X.mg "range" = none) (ha:AV X [a] fs) (hs:starEach [a] X.env=[(false,eval a X.env)]:=by rfl):IV X tg (.Call (.Name "range" p) [a] [] pos) (oL fs iw):=
 PI.imp (v6 hg hm ha hs) fun σ H R h=>by
  obtain ⟨H₀,Z₀,Z,δ,ds,hh,e,k⟩:=h
  obtain ⟨as,e1,e⟩:=bind_some e
  refine ⟨H₀,Z₀,Z,δ,as,hh,e1,fun vs Z1 H1 hh1 t1 r1=>?_⟩
  unfold iw at e
  split at e
  ·rename_i j
   split at e
   ·rename_i hj
    cases e
    cases r1 with
    | cons q1 q2=>
     cases q2
     exact ⟨j,by rw [q1.int_eq],hj.2,hj.1,k _ Z1 H1 hh1 t1 sk⟩
   ·cases e
  ·cases e
theorem fD (hg:Gl X "range") (hm:X.mg "range" = none) (ha:AV X [a,b] fs) (hs:starEach [a,b] X.env=[(false,eval a X.env),(false,eval b X.env)]:=by rfl) (hs2:starEach [b] X.env=[(false,eval b X.env)]:=by rfl):IV X tg (.Call (.Name "range" p) [a,b] [] pos) (oL fs d5):=
 PI.imp (vZ hg hm ha hs hs2) fun σ H R h=>by
  obtain ⟨H₀,Z₀,Z,δ,ds,hh,e,k⟩:=h
  obtain ⟨as,e1,e⟩:=bind_some e
  refine ⟨H₀,Z₀,Z,δ,as,hh,e1,fun vs Z1 H1 hh1 t1 r1=>?_⟩
  unfold d5 at e
  split at e
  ·rename_i i j
   split at e
   ·rename_i hj
    cases e
    cases r1 with
    | cons q1 q2=>
     cases q2 with
     | cons q2 q3=>
      cases q3
      exact ⟨i,j,by rw [q1.int_eq,q2.int_eq],⟨hj.1.2,hj.1.1,hj.2.2,hj.2.1⟩,k _ Z1 H1 hh1 t1 sk⟩
   ·cases e
  ·cases e
theorem Bh (ha:EV X a f):IV X tg a (oI f lstI):=
 PI.imp (At ha) fun σ H R h=>by
  obtain ⟨H₀,Z₀,Z,δ,ds,hh,e,k⟩:=h
  obtain ⟨y,e1,e⟩:=bind_some e
  refine ⟨H₀,Z₀,Z,δ,y,hh,e1,fun v Z1 H1 hh1 t1 r1=>?_⟩
  cases r1 with
  | @lst l xs ds' h1 q1=>
   cases e
   refine ⟨l,rfl,⟨xs,SqL.same h1 hh1.zh⟩,k _ Z1 H1 hh1 t1 ⟨fun i H2 z hi=>?_,fun i H2 x H3 d z ed y=>?_,fun i H2 z hi=>⟨xs,SqL.same h1 z,by rw [q1.length]; exact hi⟩⟩⟩
   ·have hi':i<xs.length:=by rw [q1.length]; exact hi
    exact ⟨xs,xs[i],SqL.same h1 z,by simp [hi']⟩
   ·obtain ⟨rfl,y⟩:=y
    obtain ⟨v,ev,rv⟩:=q1.get ed
    have:=y xs (SqL.same h1 z)
    rw [ev] at this
    cases this
    exact ⟨rfl,rv⟩
  | _=>cases e
theorem DA (ha:EV X a f):IV X tg a (oI f HE):=
 PI.imp (CZ ha) fun σ H R h=>by
  obtain ⟨H₀,Z₀,Z,δ,ds,hh,e,k⟩:=h
  obtain ⟨y,e1,e⟩:=bind_some e
  refine ⟨H₀,Z₀,Z,δ,y,hh,e1,fun v Z1 H1 hh1 t1 r1=>?_⟩
  cases r1 with
  | @tup l xs ds' h1 q1=>
   cases e
   refine ⟨l,rfl,⟨xs,SqT.same h1 hh1.zh⟩,k _ Z1 H1 hh1 t1 ⟨fun i H2 z hi=>?_,fun i H2 x H3 d z ed y=>?_,fun i H2 z hi=>⟨xs,SqT.same h1 z,by rw [q1.length]; exact hi⟩⟩⟩
   ·have hi':i<xs.length:=by rw [q1.length]; exact hi
    exact ⟨xs,xs[i],SqT.same h1 z,by simp [hi']⟩
   ·obtain ⟨rfl,y⟩:=y
    obtain ⟨v,ev,rv⟩:=q1.get ed
    have:=y xs (SqT.same h1 z)
    rw [ev] at this
    cases this
    exact ⟨rfl,rv⟩
  | _=>cases e
end
section
variable {X:Cx} {e:Expr} {lo hi:Option Expr} {p2 pos:Pos} {f:Dv->Option D}
noncomputable def Kp (K:Fg) (f:Dv->Option (Option Int)):TO:=fun σ H Q=>∃ H₀ Z₀ Z δ d,Hold K H₀ Z₀ Z δ σ H/\f δ = some d/\∀ Z' H',Hold K H₀ Z₀ Z' δ σ H'->Same Z Z'->Q d H'
def OV (X:Cx) (e:Option Expr) (f:Dv->Option (Option Int)):Prop:=PO X e (Kp X.K f)
theorem PO.imp {eo:Option Expr} {t t':TO} (h:PO X eo t) (i:∀ σ H Q,t' σ H Q->t σ H Q):PO X eo t':=fun pins s σ H Q I q=>h pins s σ H Q I (i _ _ _ q)
theorem bj:OV X none im:=PO.imp Ar fun σ H Q h=>by
 obtain ⟨H₀,Z₀,Z,δ,d,hh,e,k⟩:=h
 cases e
 exact k Z H hh (Same.refl _)
theorem aM (h:EV X e f):OV X (some e) (oP f):=PO.imp (Aq h) fun σ H Q h=>by
 obtain ⟨H₀,Z₀,Z,δ,d,hh,e,k⟩:=h
 obtain ⟨x,e1,e⟩:=bind_some e
 refine ⟨H₀,Z₀,Z,δ,x,hh,e1,fun v Z1 H1 hh1 t1 r1=>?_⟩
 cases r1 <;> simp [asI] at e
 subst e
 exact ⟨_,rfl,k Z1 H1 hh1 t1⟩
theorem Reps.cut {K:Fg} {Z:Hp} {vs:List V} {ds:List D} (r:Reps K Z vs ds) (lo hi:Option Int):Reps K Z (n9 vs lo hi) (dZ ds lo hi):=by
 unfold n9 dZ
 rw [r.length]
 exact (r.drop _).take _
theorem uB {ds:List D} {lo hi:Option Int} (h1:HT.sIx ds.length 0 lo=0) (h2:HT.sIx ds.length ds.length hi=ds.length):dZ ds lo hi=ds:=by
 unfold dZ
 rw [h1,h2]
 simp
section
variable {prog:Program} {w:World} {A:Around} {E:Value->Shared->Prop} {s:Shared}
theorem ph {t sl:Addr} {items:Array Value} {vl vu:Value} {lo hi:Option Int} {Q:Value->Shared->Prop} (ht:IsTup s.heap t items) (hs:s.heap.IsSliceOf sl vl vu .none) (pl:IsPart vl lo) (pu:IsPart vu hi)
  (h1:HT.sIx items.size 0 lo=0) (h2:HT.sIx items.size items.size hi=items.size) (h:Q (.ref t) s):wpAny (model prog w) A (getItem (.ref t) (.ref sl)) Q E s:=by
 obtain ⟨osl,hos,hcs,hds⟩:=id hs
 have ty:s.TypeIs (.ref sl) "slice":=⟨osl,hos,hcs⟩
 unfold getItem
 try with_reducible refine wpAny_holding ?_
 first | refine wpAny_bind (wpAny_pure ?_) | skip
 refine wpAny_bind (wpAny_sequenceKey ht.typeIs (by decide) ?_)
 refine wpAny_bind (wpAny_callSpecial?_slot (name:=Str.ofString "__getitem__") ht.typeIs PyProof.Rows.slot_tuple_getitem
  (wpAny_call_entry PyProof.Rows.slot_tuple_getitem ht.typeIs PyProof.Rows.entry_tuple_getitem ?_ (PyProof.Rows.args_tuple_getitem _ _)))
 show wpAny _ _ (Builtin.Tuple.tupleItemsOf (.ref t) >>= _) _ _ s
 refine wpAny_bind (tupleItemsOf_ ht ?_)
 refine wpAny_bind (wpAny_typeOf ty ?_)
 rw [if_pos (by decide)]
 refine wpAny_bind (HT.gH hs pl pu ?_)
 have yes:(((((HT.sIx items.size 0 lo:Nat):Int)==0)&&((1:Int)==1))&&((HT.sIx items.size items.size hi-HT.sIx items.size 0 lo)==items.size))=true:=by
  rw [h1,h2]; simp
 show wpAny _ _ (if (((((HT.sIx items.size 0 lo:Nat):Int)==0)&&((1:Int)==1))&&((HT.sIx items.size items.size hi-HT.sIx items.size 0 lo)==items.size))=true then _ else _) _ _ s
 rw [if_pos yes]
 unfold Builtin.Tuple.tupleIsExact
 refine wpAny_bind (wpAny_bind (wpAny_typeOf ht.typeIs (wpAny_pure ?_)))
 rw [if_pos (by decide)]
 exact wpAny_bind (wpAny_rule (wpAny_pure ⟨_,rfl,wpAny_pure h⟩))
end
def Ik (K:PySem.W.Frag):V->Option Int->Option Int->Hp->VK->Prop:=fun x lo hi H Q=>∃ a xs,x=.ref a/\SqT K H a xs/\HT.sIx xs.length 0 lo=0/\HT.sIx xs.length xs.length hi=xs.length/\Q (.ref a) H
theorem z8:SlR X (Ik X.K):=by
 intro pins s σ H x v vl vu lo hi sl Q I rx hs pl pu h
 obtain ⟨a,xs,rfl,hx,w1,w2,q⟩:=h
 cases rx
 obtain ⟨its,r,ht,hz⟩:=I.tuple hx
 have hlen:its.toArray.size=xs.length:=by rw [List.size_toArray]; exact r.length.symm
 refine ⟨"tuple",_,PyProof.Rows.slot_tuple_getitem.lookup,ht.typeIs,?_⟩
 exact ph ht hs pl pu (by rw [hlen]; exact w1) (by rw [hlen]; exact w2) ⟨.ref a,H,I,rfl,q⟩
theorem aL {fl fu:Dv->Option (Option Int)} (he:EV X e f) (hl:OV X lo fl) (hu:OV X hi fu):EV X (.Subscript e (.Slice lo hi none p2) pos) (gC f fl fu):=
 PE.imp (xD (sl_list.or (sl_tup.or z8)) he hl hu) fun σ H Q h=>by
  obtain ⟨H₀,Z₀,Z,δ,d,hh,e,k⟩:=h
  obtain ⟨x,e1,e⟩:=bind_some e
  obtain ⟨i,e2,e⟩:=bind_some e
  obtain ⟨j,e3,e⟩:=bind_some e
  refine ⟨H₀,Z₀,Z,δ,x,hh,e1,fun v Z1 H1 hh1 t1 r1=>⟨H₀,Z₀,Z1,δ,i,hh1,e2,fun Z2 H2 hh2 t2=>⟨H₀,Z₀,Z2,δ,j,hh2,e3,fun Z3 H3 hh3 t3=>?_⟩⟩⟩
  have r3:=(r1.same t2).same t3
  have tt:=(t1.trans t2).trans t3
  cases r3 with
  | @lst a xs ds h1 q1=>
   cases e
   refine .inl ⟨_,_,rfl,SqL.same h1 hh3.zh,fun p hp=>?_⟩
   have n:=New.add hh3.zh hp (.lst (n9 xs i j))
   exact k _ _ _ (hh3.new n) (tt.trans n.z) (.lst (SqL.of aN) ((q1.cut i j).same n.z))
  | @tup a xs ds h1 q1=>
   simp only [eJ] at e
   cases e
   by_cases hw:HT.sIx ds.length 0 i=0/\HT.sIx ds.length ds.length j=ds.length
   ·refine .inr (.inr ⟨_,_,rfl,SqT.same h1 hh3.zh,by rw [q1.length]; exact hw.1,by rw [q1.length]; exact hw.2,?_⟩)
    refine k _ _ _ hh3 tt ?_
    rw [uB hw.1 hw.2]
    exact .tup h1 q1
   ·refine .inr (.inl ⟨_,_,rfl,SqT.same h1 hh3.zh,by rw [q1.length]; exact hw,fun p hp=>?_⟩)
    have n:=New.add hh3.zh hp (.tup (n9 xs i j))
    exact k _ _ _ (hh3.new n) (tt.trans n.z) (.tup (SqT.of aN) ((q1.cut i j).same n.z))
  | _=>cases e
end
structure FunV (K:PySem.W.Frag) (x qual:Str) (st:Stmt) (f:Addr) (fd:FuncData) (dV:Value):Prop where
 ex:∃ (oc:Value) (od:Option Addr) (kV doc pm:Value) (an:Option Addr) (cdv ct:Value) (osl:Array (Option Value)),
  fd=PySem.W.fnOf x qual (dw st) (cL st) (aw st) dV kV doc pm an cdv ct/\K.lookup f=some ⟨oc,od,.func fd,osl⟩/\PySem.W.codeIn K cdv qual=true
 kp:PySem.W.keepIn K (.ref f)=true
section
variable {P:Program} {w:World} {K:PySem.W.Frag} {mg:Str->Option Value} {base:Heap}
theorem vN {N:List Str} {vs:List V} {as:List D} {Z:Hp} (r:Reps K Z vs as):∀ (i:Nat) d,(aj N as)[i]? = some (.fz d)->∃ v,(iu N vs)[i]? = some (some v)/\Rep K Z v d:=by
 intro i d e
 unfold aj at e
 unfold L2.iu
 by_cases hi:i<as.length
 ·rw [List.getElem?_append_left (by simpa using hi),List.getElem?_map] at e
  cases q:as[i]? with
  | none=>rw [q] at e; cases e
  | some d'=>
   rw [q] at e
   cases e
   obtain ⟨v,ev,rv⟩:=r.get q
   exact ⟨v,by rw [List.getElem?_append_left (by simpa [r.length] using hi),List.getElem?_map,ev]; rfl,rv⟩
 ·rw [List.getElem?_append_right (by simpa using hi),List.getElem?_replicate] at e
  split at e <;> cases e
theorem oz {N:List Str} {as:List D}:∀ (i:Nat) ds,(aj N as)[i]? ≠ some (.own ds):=by
 intro i ds e
 unfold aj at e
 by_cases hi:i<as.length
 ·rw [List.getElem?_append_left (by simpa using hi),List.getElem?_map] at e
  cases q:as[i]? with
  | none=>rw [q] at e; cases e
  | some d'=>rw [q] at e; cases e
 ·rw [List.getElem?_append_right (by simpa using hi),List.getElem?_replicate] at e
  split at e <;> cases e
theorem xi {N:List Str} {as:List D}:∀ (i:Nat) ds,(aj N as)[i]? ≠ some (.fr ds):=by
 intro i ds e
 unfold aj at e
 by_cases hi:i<as.length
 ·rw [List.getElem?_append_left (by simpa using hi),List.getElem?_map] at e
  cases q:as[i]? with
  | none=>rw [q] at e; cases e
  | some d'=>rw [q] at e; cases e
 ·rw [List.getElem?_append_right (by simpa using hi),List.getElem?_replicate] at e
  split at e <;> cases e
theorem m7 {N:List Str} {vs:List V} {as:List D} {Z H:Hp} (zh:Same Z H) (r:Reps K Z vs as):Hold K H Z Z (aj N as) (iu N vs) H:=
 ⟨zh,Same.refl _,Same.refl _,fun _ _=>rfl,by simp [aj,L2.iu,r.length],vN r,fun i ds e=>absurd e (oz i ds),fun i j ds es a _ e=>absurd e (oz i ds),fun i ds e=>absurd e (xi i ds),NoF.refl _⟩
theorem Jf {x qual:Str} {st:Stmt} {f:Addr} {fd:FuncData} {dV:Value} {N ps:List Str} {k:Nat} {g:List D->Option D} {b:Sf} (F:FunV K x qual st f fd dV) (S:FnScope N ps (aw st)) (len:∀ as d,g as=some d->as.length=ps.length)
  (hb:∀ (cdv:Value) (A:Around) (outer:List Env) (s:Shared) (H:Hp) (E:XK),Room k (A.deeper (envOfC qual (aw st) s.heap.objs.size f cdv))->BV (gO ez P w K mg base N qual (aw st) f cdv A outer s H E).nox (cL st) b)
  (hg:∀ as d,g as=some d->∃ δ',b (aj N as)=some (.rt d,δ')\/(d=.none/\b (aj N as)=some (.nx,δ'))):FnOk P w K mg base ez (k+1) f fd ps (eX K g):=by
 obtain ⟨oc,od,kV,doc,pm,an,cdv,ct,osl,rfl,lk,hcd⟩:=F.ex
 refine Cn lk hcd S (fun vs H Q E h=>?_) fun A outer s H vs Q E hr hsp=>?_
 ·obtain ⟨Z,as,d,zh,r,e,_⟩:=h
  rw [r.length]
  exact len as d e
 ·refine ⟨_,PSs.nox (hb cdv A outer s H E hr),?_⟩
  obtain ⟨Z,as,d,zh,r,e,kk⟩:=hsp
  have hh:=m7 (N:=N) zh r
  have fin:∀ {σ':St} {H' Z':Hp} {δ':Dv},Hold K H Z Z' δ' σ' H'->Same Z Z'->New Z H Z' H':=fun h' z'=>⟨z',h'.h0,h'.zh,h'.zb,h'.nf⟩
  obtain ⟨δ',e2 | ⟨rfl,e2⟩⟩:=hg as d e
  ·exact ⟨H,Z,Z,_,_,hh,e2,fun σ' H' Z' h' z' v rv=>kk v Z' H' (fin h' z') rv⟩
  ·exact ⟨H,Z,Z,_,_,hh,e2,fun σ' H' Z' h' z'=>kk _ Z' H' (fin h' z') .non⟩
theorem FunV.binds {x qual:Str} {st:Stmt} {f:Addr} {fd:FuncData} {ps:List Str} (F:FunV K x qual st f fd .none)
  (h:∀ (kV doc pm:Value) (an:Option Addr) (cdv ct:Value) (us:List Value),us.length=ps.length->bindArgs (PySem.W.fnOf x qual (dw st) (cL st) (aw st) .none kV doc pm an cdv ct) ⟨us,[]⟩=pure (ps.zip us)):Binds K fd ps []:=by
 obtain ⟨oc,od,kV,doc,pm,an,cdv,ct,osl,rfl,lk,hcd⟩:=F.ex
 exact .all (h kV doc pm an cdv ct)
theorem FunV.bindsD {x qual:Str} {st:Stmt} {f T:Addr} {fd:FuncData} {ps:List Str} {o:Obj} {items:Array Value} {n:Nat} {ds:List Value} (F:FunV K x qual st f fd (.ref T)) (ho:K.lookup T=some o) (hs:o.data=.seq items n) (nu:Nat) (hn:nu+ds.length=ps.length)
  (h:∀ (kV doc pm:Value) (an:Option Addr) (cdv ct:Value) (us:List Value),us.length=nu->∃ kk,bindArgs (PySem.W.fnOf x qual (dw st) (cL st) (aw st) (.ref T) kV doc pm an cdv ct) ⟨us,[]⟩=seqItems? (.ref T) >>= kk/\kk (some items)=pure (ps.zip (us++ds))):Binds K fd ps ds:=by
 obtain ⟨oc,od,kV,doc,pm,an,cdv,ct,osl,rfl,lk,hcd⟩:=F.ex
 intro s us KX hl
 obtain ⟨kk,h1,h2⟩:=h kV doc pm an cdv ct us (by rw [List.length_append] at hl; omega)
 exact BindsTo.of_defaults rfl (KX _ _ ho) hs h1 h2
theorem qb {x qual:Str} {st:Stmt} {f:Addr} {dV oc:Value} {od an:Option Addr} {osl:Array (Option Value)} {kV doc pm cdv ct:Value} (l:K.lookup f=some ⟨oc,od,.func (PySem.W.fnOf x qual (dw st) (cL st) (aw st) dV kV doc pm an cdv ct),osl⟩)
  (c:PySem.W.codeIn K cdv qual=true) (k:PySem.W.keepIn K (.ref f)=true):FunV K x qual st f (PySem.W.fnOf x qual (dw st) (cL st) (aw st) dV kV doc pm an cdv ct) dV:=⟨⟨oc,od,kV,doc,pm,an,cdv,ct,osl,rfl,l,c⟩,k⟩
def uP (K:PySem.W.Frag):Sp:=fun vs H Q _=>∃ (a:Addr) (ns:List Int),vs=[.ref a]/\SqL K H a (ns.map V.int)/\ns.length<=63/\∀ H',Q (.bl true) H'
theorem FY {g:List D->Option D} {k:Nat} {f:Addr} {fd:FuncData} (F:FnOk P w K mg base ez k f fd ["script"] (eX K g)) (hg:∀ ns:List Int,ns.length<=63->g [.list (ns.map .int)]=some (.bool true)):FnOk P w K mg base ez k f fd ["script"] (uP K):=
 F.imp fun vs H Q E h=>by
  obtain ⟨a,ns,rfl,hS,hl,q⟩:=h
  exact ⟨H,[.list (ns.map .int)],.bool true,Same.refl _,.cons (.lst hS (Reps.ints ns)) .nil,hg ns hl,fun v Z' H' _ r=>by cases r; exact q H'⟩
end
theorem EL {k:Nat} {l:PySem.W.OpenLaw} {q:Program} {loose:List Str} {XP:(Str->Option Value)->Heap->Prop} {YP:World->Heap->Prop} {d:DefRec} {K:Params->PySem.W.Frag} (hn:l.most=some 63) (hr:Room k callerA) (hdf:d.params.defaults=[])
  (hY:∀ (w:World) (h:Heap),YP w h->(K w.params).In h)
  (F:∀ (w:World) (mg:Str->Option Value) (fa:Addr) (h:Heap),(K w.params).In h->h.Ns mainGlobals mg->mg d.name=some (.ref fa) ->
   ∃ fd:FuncData,(∀ (s:Shared) (u:Value),BindsTo s fd ⟨[u],[]⟩ [("script",u)])/\∀ base:Heap,(K w.params).In base->base.Ns mainGlobals mg->FnOk l.prog w (K w.params) mg base ez k fa fd ["script"] (uP (K w.params))) :
  PySem.W.WalkO q loose XP YP l.row.toRowW d [] (fun f vs=>PySem.call f vs):=
 L2.zK (n:=63) (k:=k) (x:="script") (CX:=fun _=>ez) (sp:=fun w=>uP (K w.params)) hn (by decide) hdf hr hY F (fun _ _ a ns hl _ hS=>⟨a,ns,rfl,hS,hl,fun _=>rfl⟩) fun _ _ _ _ _ z=>z
section
variable {P:Program} {w:World} {K:PySem.W.Frag} {mg:Str->Option Value} {base:Heap}
theorem cK {x qual:Str} {st:Stmt} {f:Addr} {fd:FuncData} {dV:Value} {N ps:List Str} {k:Nat} {b:Sf} (F:FunV K x qual st f fd dV) (S:FnScope N ps (aw st))
  (hb:∀ (cdv:Value) (A:Around) (outer:List Env) (s:Shared) (H:Hp) (E:XK),Room k (A.deeper (envOfC qual (aw st) s.heap.objs.size f cdv))->BV (gO ez P w K mg base N qual (aw st) f cdv A outer s H E).nox (cL st) b) :
  FnOk P w K mg base ez (k+1) f fd ps (eX K (runB N ps.length b)):=by
 refine Jf F S (fun as d h=>?_) hb fun as d h=>?_
 ·unfold runB at h
  split at h
  ·assumption
  ·cases h
 ·unfold runB at h
  split at h
  ·obtain ⟨⟨fl,δ'⟩,e,h⟩:=bind_some h
   cases fl with
   | nx=>cases h; exact ⟨δ',.inr ⟨rfl,e⟩⟩
   | rt d=>cases h; exact ⟨δ',.inl e⟩
   | bk=>cases h
   | ct=>cases h
  ·cases h
structure Cal (P:Program) (w:World) (K:PySem.W.Frag) (mg:Str->Option Value) (base:Heap) (x:Str) (k:Nat) (g:List D->Option D) (dd:List D):Prop where
 ex:∃ (fa:Addr) (fd:FuncData) (ps:List Str) (ds:List Value) (dv:List V),FnOk P w K mg base ez k fa fd ps (eX K g)/\mg x=some (.ref fa)/\PySem.W.keepIn K (.ref fa)=true/\Binds K fd ps ds/\Vals dv ds/\∀ Z,Reps K Z dv dd
theorem Cal.mk0 {x:Str} {k:Nat} {g:List D->Option D} {fa:Addr} {fd:FuncData} {ps:List Str} (F:FnOk P w K mg base ez k fa fd ps (eX K g)) (hm:mg x=some (.ref fa)) (hk:PySem.W.keepIn K (.ref fa)=true) (hb:Binds K fd ps []):Cal P w K mg base x k g []:=
 ⟨⟨fa,fd,ps,[],[],F,hm,hk,hb,.nil,fun _=>.nil⟩⟩
end
section
variable {X:Cx} {e:Expr} {es:List Expr} {p pos:Pos} {fs:Dv->Option (List D)}
theorem yG {k:Nat} {x:Str} {g:List D->Option D} {dd:List D} (C:Cal X.prog X.w X.K X.mg X.base x k g dd) (hr:Room k X.A) (hg:Gl X x) (ha:AV X (e::es) fs) (hdb:(x==("__debug__":Str))=false:=by decide) (he:starEach (e::es) X.env=(false,eval e X.env)::starEach es X.env:=by rfl)
  (hpl:(backTo pos (starEach es X.env)).any (·.1)=false:=by rfl):EV X (.Call (.Name x p) (e::es) [] pos) (os fs fun as=>g (as++dd)):=by
 obtain ⟨fa,fd,ps,ds,dv,F,hm,hk,hb,hd,hdd⟩:=C.ex
 exact Bs F hr hg hm hk hb hd hdd B1 ha hdb he hpl
variable {tg a:Expr} {f:Dv->Option D}
theorem db (ha:EV X a f):IV X tg a (oI f cY):=by
 intro pins s σ H R I h
 obtain ⟨H₀,Z₀,Z,δ,ds,hh,e,k⟩:=h
 obtain ⟨y,e1,e⟩:=bind_some e
 cases y with
 | list xs=>exact Bh ha pins s σ H R I ⟨H₀,Z₀,Z,δ,ds,hh,by unfold oI; rw [e1]; exact e,k⟩
 | tuple xs=>exact DA ha pins s σ H R I ⟨H₀,Z₀,Z,δ,ds,hh,by unfold oI; rw [e1]; exact e,k⟩
 | _=>cases e
end
end VL
namespace VL
open PySem PySem.Spec PyProof.Rows L2
noncomputable def jp (env:Env):List (Str×NameKind)->List (Str×Addr)->List (Str×Addr)
 | [],cs=>cs
 | (n,k)::r,cs=>if k == .free then jp env r ((n,(env.cells.lookup n).getD 0)::cs) else jp env r cs
theorem nc {env:Env}:∀ (l:List (Str×NameKind)) (cs:List (Str×Addr)),(∀ y∈l,y.2=.free->∃ c,env.cells.lookup y.1=some c) ->
  (forIn l cs fun (x:Str×NameKind) (r:List (Str×Addr))=>(if (x.2==NameKind.free)=true then do let c <- cellOf env x.1; pure (ForInStep.yield ((x.1,c)::r)) else pure (ForInStep.yield r):Sem (ForInStep (List (Str×Addr)))))=pure (jp env l cs)
 | [],cs,_=>rfl
 | (n,k)::r,cs,h=>by
  have ih:=fun cs'=>nc r cs' fun y hy=>h y (List.mem_cons_of_mem _ hy)
  rw [List.forIn_cons]
  cases hk:k==NameKind.free with
  | true=>
   have hk':k=.free:=by simpa using hk
   obtain ⟨c,ec⟩:=h (n,k) List.mem_cons_self hk'
   have e1:cellOf env n=pure c:=by unfold cellOf; rw [ec]
   simp only [hk,if_true,e1,pure_bind,jp,ec,Option.getD_some]
   exact ih _
  | false=>
   simp only [hk,Bool.false_eq_true,if_false,pure_bind,jp]
   exact ih _
theorem eF {scope:Scope} {env:Env} (h:∀ y∈scope.names,y.2=.free->∃ c,env.cells.lookup y.1=some c):closureFor scope env=pure (jp env scope.names []):=by
 simp only [closureFor]
 have:=nc (env:=env) scope.names [] h
 first
  | (rw [this]; rfl)
  | (simp only [this]; rfl)
  | (unfold closureFor; simp_all)
theorem ce {env:Env}:∀ (l:List (Str×NameKind)) (cs:List (Str×Addr)) (y:Str) (c:Addr),(∀ z∈l,z.2=.free->∃ c,env.cells.lookup z.1=some c)->(jp env l cs).lookup y=some c->cs.lookup y=some c\/env.cells.lookup y=some c
 | [],cs,y,c,_,e=>.inl e
 | (n,k)::r,cs,y,c,h,e=>by
  unfold jp at e
  have hr:=fun z hz=>h z (List.mem_cons_of_mem _ hz)
  split at e
  ·rename_i hk
   rcases ce r _ y c hr e with q | q
   ·rw [List.lookup_cons] at q
    cases hy:y==n with
    | true=>
     have hy':y=n:=by simpa using hy
     subst hy'
     rw [hy] at q
     obtain ⟨c',ec⟩:=h (y,k) List.mem_cons_self (by simpa using hk)
     simp only [ec,Option.getD_some] at q
     cases q
     exact .inr ec
    | false=>rw [hy] at q; exact .inl q
   ·exact .inr q
  ·exact ce r cs y c hr e
theorem j9 {env:Env}:∀ (l:List (Str×NameKind)) (cs:List (Str×Addr)) (y:Str),((y,NameKind.free)∈l\/(cs.lookup y).isSome=true)->((jp env l cs).lookup y).isSome=true
 | [],cs,y,h=>by
  rcases h with h | h
  ·cases h
  ·exact h
 | (n,k)::r,cs,y,h=>by
  unfold jp
  split
  ·rename_i hk
   refine j9 r _ y ?_
   rcases h with h | h
   ·rcases List.mem_cons.mp h with e | e
    ·cases e; exact .inr (by simp [List.lookup_cons])
    ·exact .inl e
   ·refine .inr ?_
    rw [List.lookup_cons]
    cases hy:y==n with
    | true=>rfl
    | false=>exact h
  ·rename_i hk
   refine j9 r cs y ?_
   rcases h with h | h
   ·rcases List.mem_cons.mp h with e | e
    ·cases e; exact absurd rfl hk
    ·exact .inl e
   ·exact .inr h
theorem fH {env:Env} {y:Str}:∀ (l:List (Str×NameKind)),(∀ z∈l,z.2≠.cell) ->
  (((l.map fun (n,k)=>if (k==NameKind.free&&env.scope.kind == .function&&env.kindOf n==some .cell) then (n,NameKind.cell) else (n,k)).lookup y=some .cell\/(l.map fun (n,k)=>if (k==NameKind.free&&env.scope.kind == .function&&env.kindOf n==some .cell) then (n,NameKind.cell) else (n,k)).lookup y=some .free)↔l.lookup y=some .free)
 | [],_=>by simp
 | (n,k)::r,h=>by
  have ih:=fH (env:=env) (y:=y) r fun z hz=>h z (List.mem_cons_of_mem _ hz)
  have hk:k≠.cell:=h (n,k) List.mem_cons_self
  rw [List.map_cons]
  cases hy:y==n with
  | true=>
   by_cases hc:(k==NameKind.free&&env.scope.kind == .function&&env.kindOf n==some .cell)=true
   ·have hf:k=.free:=by
     simp only [Bool.and_eq_true] at hc
     simpa using hc.1.1
    simp only [if_pos hc,List.lookup_cons,hy]
    simp [hf]
   ·simp only [if_neg hc,List.lookup_cons,hy]
    simp [hk]
  | false=>
   by_cases hc:(k==NameKind.free&&env.scope.kind == .function&&env.kindOf n==some .cell)=true
   ·simp only [if_pos hc,List.lookup_cons,hy]; exact ih
   ·simp only [if_neg hc,List.lookup_cons,hy]; exact ih
noncomputable def dy (X:Cx) (scope:Scope) (N:List Str) (C:Addr) (s₀:Shared) (H₀:Hp) (ex:List Addr):Cx:=
 { X with N:=N,s₀:=s₀,H₀:=H₀,env:=compEnvC scope (jp X.env scope.names []) C X.env,outer:=X.stack,stack:=X.stack,ex:=ex,fn:=fun _=>false,pn:=[],xe:=fun _ _=>False }
structure BlkOk (on:List (Str×NameKind)) (ON:List Str) (scope:Scope) (vars:List Str) (caps:List (Nat×Str)):Prop where
 kind:scope.kind=.function
 cell:∀ y∈scope.names,y.2≠.cell
 names:∀ y∈scope.names,y.2=.local->scope.names.lookup y.1=some .local
 free:∀ y∈scope.names,y.2=.free->on.lookup y.1=some .cell\/on.lookup y.1=some .free
 cap:∀ p∈caps,ON[p.1]? = some p.2/\scope.names.lookup p.2=some .free
section
variable {X:Cx} {pins:List (Addr×Obj)} {σ:St} {H H':Hp} {s s':Shared} {scope:Scope} {vars:List Str} {caps:List (Nat×Str)} {fp:List Addr} {C:Addr}
noncomputable def gE (σ:St) (caps:List (Nat×Str)):St:=caps.map fun p=>(σ[p.1]?).getD none
theorem BlkOk.cells (B:BlkOk X.env.scope.names X.N scope vars caps) (I:Inv X pins σ H s):∀ y∈scope.names,y.2=.free->∃ c,X.env.cells.lookup y.1=some c:=fun y hy e=>I.ok.has y.1 (B.free y hy e)
theorem uF (B:BlkOk X.env.scope.names X.N scope vars caps) (I:Inv X pins σ H s) (hf:∀ b∈fp,ju X pins H b) (hlt:∀ b∈fp,b<s.heap.objs.size) (hC:s.heap.objs.size<=C):(dy X scope (vars++caps.map (·.2)) C s H fp).Ok where
 mod:=I.ok.mod
 kind:=B.kind
 glob:=I.ok.glob
 blt:=I.ok.blt
 above:=hC
 inj:=fun x y c e1 e2=>by
  rcases ce _ _ _ _ (B.cells I) e1 with q1 | q1
  ·cases q1
  ·rcases ce _ _ _ _ (B.cells I) e2 with q2 | q2
   ·cases q2
   ·exact I.ok.inj x y c q1 q2
 has:=fun x e=>by
  have:scope.names.lookup x=some .free:=(fH scope.names B.cell).mp e
  have:=j9 (env:=X.env) scope.names [] x (.inl (PySem.mem_of_lookup this))
  exact Option.isSome_iff_exists.mp this
 cab:=fun x c e=>nomatch e
 hd:=I.ok.hd
 frames:=I.ok.frames
 stk:=.inl rfl
 exf:=fun b hb=>⟨Nat.ne_of_lt (Nat.lt_of_lt_of_le (hlt b hb) hC),fun x c e=>by
  rcases ce _ _ _ _ (B.cells I) e with q | q
  ·cases q
  ·exact (hf b hb).2.2.2.2.1 x c q⟩
 bs:=I.bs
 bsz:=Nat.le_trans I.ok.bsz I.sz
 noex:=fun b o e hb=>by
  rcases (hf b hb).2.2.2.1 with z | z
  ·exact I.ok.noex b o e z
  ·exact absurd (Nat.lt_of_lt_of_le (Heap.lt_size e) (Nat.le_trans I.ok.bsz z)) (Nat.lt_irrefl _)
 exfs:=fun b hb z=>by
  rcases List.mem_cons.mp (I.stkSub b z) with q | q
  ·exact (hf b hb).2.1 q
  ·exact (hf b hb).2.2.1 q
 funs:=I.stack
 frf:=I.stkFree
theorem vA (B:BlkOk X.env.scope.names X.N scope vars caps) (I:Inv X pins σ H s) (hf:∀ b∈fp,ju X pins H b) (hlt:∀ b∈fp,b<s.heap.objs.size) (hC:s.heap.objs.size<=C) {h₁:Heap} {m:Str->Option Value} {tk:Nat} (hns:h₁.Ns C m) (old:∀ b o,s.heap.get? b=some o->h₁.get? b=some o) :
  Inv (dy X scope (vars++caps.map (·.2)) C s H fp) [] (vars.map (fun _=>none)++gE σ caps) H { s with heap:=h₁,toks:=tk }:=by
 refine ⟨uF B I hf hlt hC,rfl,I.bare,Un.kept old,⟨m,hns,fun i x v e1 e2 e3=>?_⟩,fun x c e=>?_,I.hok.fresh hC,fun x c e=>?_,fun p hp=>absurd (show p∈([]:List (Addr×Obj)) from hp) (by simp),I.hok.kept old,?_⟩
 ·have e1:(vars++caps.map (·.2))[i]? = some x:=e1
  by_cases hi:i<vars.length
  ·rw [List.getElem?_append_left (by simpa using hi),List.getElem?_map] at e2
   cases q:vars[i]? <;> rw [q] at e2 <;> cases e2
  ·rw [List.getElem?_append_right (by simpa using hi)] at e1 e2
   simp only [List.length_map] at e2
   unfold gE at e2
   rw [List.getElem?_map] at e1 e2
   cases q:caps[i-vars.length]? with
   | none=>rw [q] at e1; cases e1
   | some p=>
    rw [q] at e1 e2
    cases e1
    have hp:=List.mem_of_getElem? q
    obtain ⟨g1,g2⟩:=B.cap p hp
    have gf:X.env.scope.names.lookup p.2=some .cell\/X.env.scope.names.lookup p.2=some .free:=B.free (p.2,.free) (PySem.mem_of_lookup g2) rfl
    have ev:σ[p.1]? = some (some v):=by
     have e2:(σ[p.1]?).getD none=some v:=Option.some.inj e2
     cases z:σ[p.1]? with
     | none=>rw [z] at e2; cases e2
     | some w=>rw [z] at e2; rw [show w=some v from e2]
    obtain ⟨m',_,hl⟩:=I.loc
    obtain ⟨u,r,l⟩:=hl p.1 p.2 v g1 ev (gf.elim (fun z=>.inr (.inl z)) fun z=>.inr (.inr z))
    refine ⟨u,r,.inr ⟨?_,?_⟩⟩
    ·exact (fH scope.names B.cell).mpr g2
    ·rcases l with ⟨z,_⟩ | ⟨_,c,ec,hc⟩
     ·have z:X.env.scope.names.lookup p.2=some .local:=z
      rcases gf with w | w <;> rw [z] at w <;> cases w
     ·obtain ⟨c',q'⟩:=Option.isSome_iff_exists.mp (j9 (env:=X.env) scope.names [] p.2 (.inl (PySem.mem_of_lookup g2)))
      rcases ce _ _ _ _ (B.cells I) q' with w | w
      ·cases w
      ·rw [ec] at w
       cases w
       obtain ⟨o,ho,hd⟩:=hc
       exact ⟨c,q',o,old c o ho,hd⟩
 ·rcases ce _ _ _ _ (B.cells I) e with q | q
  ·cases q
  ·obtain ⟨v,o,ho,hd⟩:=I.cell x c q
   exact ⟨v,o,old c o ho,hd⟩
 ·rcases ce _ _ _ _ (B.cells I) e with q | q
  ·cases q
  ·exact I.freeC x c q
 ·simp [dy,gE]
theorem vz (I:Inv X pins σ H s) (hf:∀ b∈fp,ju X pins H b) {D:Addr} {s':Shared} {σ':St} {N:List Str} {ys:List V} {its:List Value} (hC:s.heap.objs.size<=C) (hD:s.heap.objs.size<=D) (hDC:D≠C)
  (J:Inv (dy X scope N C s H fp) [] σ' H' s') (hD':H' D=none) (hp:s'.heap.PlainList D its.toArray) (hv:Vals ys its) (hz:ys.length<=sizeLine) {h':Heap} (hs:Heap.SameBut C s'.heap h') :
  Inv X pins σ (upd H' D (.lst ys)) { s' with heap:=h' }:=by
 have U:Un (iK X.stack) fp H H' s.heap s'.heap:=J.base
 have neC:∀ b o,s.heap.get? b=some o->b≠C:=fun b o e=>Nat.ne_of_lt (Nat.lt_of_lt_of_le (Heap.lt_size e) hC)
 have neD:∀ b o,s.heap.get? b=some o->b≠D:=fun b o e=>Nat.ne_of_lt (Nat.lt_of_lt_of_le (Heap.lt_size e) hD)
 have mv:∀ b o,b≠C->s'.heap.get? b=some o->h'.get? b=some o:=fun b o hb e=>hs.extBut b o hb e
 have tD:∀ b o,H' b=some o->(upd H' D (.lst ys)) b=some o:=fun b o e=>by rw [aI (bf e hD')]; exact e
 refine I.call' (s':={ s' with heap:=h' }) (ch:=fp) J.os ⟨fun b o e n h1 h2=>mv b o (neC b o e) (U.keep b o e n h1 h2),fun b o e n h1 h2=>?_,fun b o e n h2=>?_,fun b o e h2=>?_,fun b xs e=>tD _ _ (U.tups b xs e),fun b o xs e=>tD _ _ (U.frzs b o xs e),fun b ps e=>?_⟩ (fun b o e=>?_) J.bare
  (fun b hb=>⟨(hf b hb).2.2.2.1,(hf b hb).2.1,(hf b hb).2.2.2.2.1,(hf b hb).2.2.2.2.2⟩)
 ·obtain ⟨sl,q⟩:=U.slot b o e n h1 h2
  exact ⟨sl,mv b _ (neC b o e) q⟩
 ·rw [aI (neD b o e)]; exact U.free b o e n h2
 ·obtain ⟨o',q⟩:=U.there b o e h2
  exact ⟨o',mv b _ (neC b o e) q⟩
 ·obtain ⟨more,q⟩:=U.tbls b ps e
  exact ⟨more,tD _ _ q⟩
 ·by_cases hb:b=D
  ·subst hb
   rw [aN] at e
   cases e
   obtain ⟨n,q⟩:=hp
   exact ⟨hz,its,n,hv,mv _ _ hDC q⟩
  ·rw [aI hb] at e
   refine (J.hok b o e).stay (fun c v hc q=>mv c v ?_ q) (fun c q=>tD _ _ q) fun c xs q=>tD _ _ q
   intro z
   have fc:H' C=none:=J.free
   rcases hc with w | w
   ·rw [<- w,z,fc] at e; cases e
   ·rw [z,fc] at w; cases w
theorem sJ (elt target iter:Expr) (scope:Scope) (pos:Pos) (it acc:Value) (env:Env) :
  compTurn (.ListComp elt [⟨target,iter,[],0⟩] scope pos) 0 it acc env=(standAt iter.pos >>= fun _=>pyNext it >>= fun r=>match r with
   | none=>pure (.done .next)
   | some v=>letOwnedTupleGo target it v >>= fun _=>assign target env v >>= fun _=>
    (eval elt env >>= fun x=>call (.builtin "list.append") [acc,x] >>= fun _=>pure ()) >>= fun _=>
     again (.compLoop (.ListComp elt [⟨target,iter,[],0⟩] scope pos) 0 it acc env)):=by rfl
def vH (σ σ':St):Prop:=σ.length = σ'.length/\∀ (i:Nat) v,σ[i]? = some (some v) -> σ'[i]? = some (some v)
def xa (wi:TI) (g:TG) (te:TE) (vars:List Str) (caps:List (Nat×Str)):TE:=fun σ H Q=>wi σ H fun J H1=>∃ W:Nat->Nat->List V->Hp->Prop,(∃ m,W 0 m [] H1)/\∀ i m ys H,W i m ys H ->
 (J.stop i H/\ys.length<=sizeLine/\∀ p,H p=none->Q (.ref p) (upd H p (.lst ys))) \/
 (J.go i H/\ys.length<sizeLine/\∀ x H',J.yld i H x H'->g x (vars.map (fun _=>none)++gE σ caps) H' fun σ2 H2=>vH (vars.map (fun _=>none)++gE σ caps) σ2/\te σ2 H2 fun y H3=>∃ m',m'<m/\W (i+1) m' (ys++[y]) H3)
theorem lI {prog:Program} {w:World} {A:Around} {R:Result->Shared->Prop} {s:Shared} {elt target iter:Expr} {scope:Scope} {pos:Pos} {it acc:Value} {env:Env} (I:Nat->Shared->Prop)
  (turn:∀ n s,I n s->wpAny (model prog w) A (pyNext it) (fun r s₁=>match r with
   | none=>R (.ok .next) s₁
   | some v=>wpAny (model prog w) A (letOwnedTupleGo target it v) (fun _ s₁=>wpAny (model prog w) A (assign target env v) (fun _ s₂=>wpAny (model prog w) A (eval elt env) (fun x s₃=>
     wpAny (model prog w) A (call (.builtin "list.append") [acc,x]) (fun _ s₄=>∃ m,m<n/\I m s₄) (fun _ _=>False) s₃) (fun _ _=>False) s₂) (fun _ _=>False) s₁) (fun _ _=>False) s₁) (fun _ _=>False) s)
  (n:Nat) (h:I n s):codeAny (model prog w) A (.compLoop (.ListComp elt [⟨target,iter,[],0⟩] scope pos) 0 it acc env) R s:=by
 refine codeAny_loop rfl I (fun n s hI=>?_) n h
 show wpAny _ _ ((compTurn (.ListComp elt [⟨target,iter,[],0⟩] scope pos) 0 it acc env).onRaise (fun x=>do noteFrame x env; theTreesLotGoes x)) _ _ s
 refine wpAny_noted ?_
 rw [sJ]
 refine wpAny_bind (wpAny_standAt (wpAny_bind (wpAny_mono (turn n s hI) (fun r s₁ h₁=>?_) fun _ _ h'=>h'.elim)))
 cases r with
 | none=>exact wpAny_pure h₁
 | some v=>
  refine wpAny_bind (wpAny_mono h₁ (fun _ s₁ h₁=>?_) fun _ _ h'=>h'.elim)
  exact wpAny_bind (wpAny_mono h₁ (fun _ s₂ h₂=>wpAny_bind (wpAny_bind (wpAny_mono h₂ (fun x s₃ h₃=>wpAny_bind (wpAny_mono h₃
   (fun _ s₄ h₄=>wpAny_pure (wpAny_pure ⟨rfl,h₄⟩)) fun _ _ h'=>h'.elim)) fun _ _ h'=>h'.elim))) fun _ _ h'=>h'.elim)
end
section
variable {X:Cx} {scope:Scope} {vars:List Str} {caps:List (Nat×Str)} {elt tg iter:Expr} {pos:Pos} {wi:TI} {g:TG} {te:TE}
theorem nj (B:BlkOk X.env.scope.names X.N scope vars caps) (hc:X.calm=true)
  (hg:∀ C s₀ H₀ ex,PG (dy X scope (vars++caps.map (·.2)) C s₀ H₀ ex) tg g) (he:∀ C s₀ H₀ ex,PE (dy X scope (vars++caps.map (·.2)) C s₀ H₀ ex) elt te)
  {pins:List (Addr×Obj)} {σ:St} {H2:Hp} {s2:Shared} {Q:VK} {it:Addr} {fp:List Addr} {tn:Nat->Heap->Prop} {J:It} (I2:Inv X pins σ H2 s2) (T:y8 X.prog X.w X.K tg J fp it tn) (st2:tn 0 s2.heap) (f2:∀ b∈fp,ju X pins H2 b)
  {W:Nat->Nat->List V->Hp->Prop} {m0:Nat} (w0:W 0 m0 [] H2) (turn:∀ i m ys H,W i m ys H ->
   (J.stop i H/\ys.length<=sizeLine/\∀ p,H p=none->Q (.ref p) (upd H p (.lst ys))) \/
   (J.go i H/\ys.length<sizeLine/\∀ x H',J.yld i H x H'->g x (vars.map (fun _=>none)++gE σ caps) H' fun σ2 H2=>vH (vars.map (fun _=>none)++gE σ caps) σ2/\te σ2 H2 fun y H3=>∃ m',m'<m/\W (i+1) m' (ys++[y]) H3))
  {RR:Value->Addr->Result->Shared->Prop} {E:Value->Shared->Prop}
  (hRR:∀ D C s' m,s'.heap.Ns C m->D≠C->s2.heap.objs.size<=D->s2.heap.objs.size<=C->∀ H',H' C=none->(∀ h',Heap.SameBut C s'.heap h'->Inv X pins σ H' { s' with heap:=h' })->Q (.ref D) H'->RR (.ref D) C (.ok .next) s') :
  wpAny (model X.prog X.w) X.A (newList []) (fun acc s₃=>wpAny (model X.prog X.w) X.A (newFunctionEnv scope X.env.globals (jp X.env scope.names []) [] X.env.qual none .none (some X.env)) (fun cenv s₄=>
   codeAny (model X.prog X.w) X.A (.compStart (.ListComp elt [⟨tg,iter,[],0⟩] scope pos) 0 (.ref it) acc { cenv with scope:=relabel scope X.env }) (RR acc cenv.locals) s₄) E s₃) E s2:=by
 refine wpAny_newObj_type (wpAny_newFunctionEnv B.cell (by intro y hy; simp at hy) (fun h₁ hns₁ hsb₁=>?_) B.kind)
 dsimp only at hns₁ hsb₁ ⊢
 generalize hP:s2.heap.push { cls:=.type "list",dict:=none,data:=.seq ([]:List Value).toArray }=HP at hns₁ hsb₁ ⊢
 have hCs:HP.objs.size=s2.heap.objs.size+1:=by rw [<- hP,Heap.size_push]
 have hDC:s2.heap.objs.size≠HP.objs.size:=by rw [hCs]; exact Nat.ne_of_lt (Nat.lt_succ_self _)
 have hCle:s2.heap.objs.size<=HP.objs.size:=by rw [hCs]; exact Nat.le_succ _
 have old:∀ b o,s2.heap.get? b=some o->h₁.get? b=some o:=fun b o e=>hsb₁.extBut b o (Nat.ne_of_lt (Nat.lt_of_lt_of_le (Heap.lt_size e) hCle)) (Heap.get?_push_of_some _ (hP ▸ Heap.get?_push_of_some _ e))
 have hacc:h₁.PlainList s2.heap.objs.size #[]:=⟨_,hsb₁.extBut _ _ hDC (Heap.get?_push_of_some _ (hP ▸ Heap.get?_push_size _ rfl))⟩
 have flt:∀ b∈fp,b<s2.heap.objs.size:=fun b hb=>by
  obtain ⟨o,e,_⟩:=T.obj _ _ st2 b hb
  exact Heap.lt_size e
 have st1:tn 0 h₁:=T.keep _ _ _ st2 fun b _ o e=>old b o e
 have loop:∀ s3:Shared,s3={ s2 with heap:=h₁,toks:=s2.toks+([]:List (Str×Value)).length } ->
   codeAny (model X.prog X.w) X.A (.compLoop (.ListComp elt [⟨tg,iter,[],0⟩] scope pos) 0 (.ref it) (.ref s2.heap.objs.size) (compEnvC scope (jp X.env scope.names []) HP.objs.size X.env))
    (RR (.ref s2.heap.objs.size) HP.objs.size) s3:=by
  rintro s3 rfl
  have X':=dy X scope (vars++caps.map (·.2)) HP.objs.size s2 H2 fp
  have fpo:∀ {H':Hp},(∀ b∈fp,H' b=none)->∀ b∈fp,ju (dy X scope (vars++caps.map (·.2)) HP.objs.size s2 H2 fp) [] H' b:=fun hn b hb=>by
   have ok:=uF B I2 f2 flt hCle
   exact ⟨hn b hb,(ok.exf b hb).1,ok.exfs b hb,.inl hb,(ok.exf b hb).2,fun p hp=>absurd (show p∈([]:List (Addr×Obj)) from hp) (by simp)⟩
  refine lI (fun n s=>∃ i ys H its,Inv (dy X scope (vars++caps.map (·.2)) HP.objs.size s2 H2 fp) [] (vars.map (fun _=>none)++gE σ caps) H s/\tn i s.heap/\(∀ b∈fp,H b=none)/\s.heap.PlainList s2.heap.objs.size (List.toArray its)/\H s2.heap.objs.size=none/\Vals ys its/\W i n ys H) ?_ m0
   ⟨0,[],H2,[],vA B I2 f2 flt hCle hns₁ old,st1,fun b hb=>(f2 b hb).1,hacc,I2.hok.fresh (Nat.le_refl _),.nil,w0⟩
  rintro n s4 ⟨i,ys,H4,its,I4,st4,fr4,pl4,nD4,v4,w4⟩
  obtain ⟨nn,eD⟩:=id pl4
  have DnL:s2.heap.objs.size≠(dy X scope (vars++caps.map (·.2)) HP.objs.size s2 H2 fp).env.locals:=hDC
  have Dfs:s2.heap.objs.size ∉ (dy X scope (vars++caps.map (·.2)) HP.objs.size s2 H2 fp).fs:=fun z=>by
   rcases List.mem_cons.mp (I2.stkSub _ z) with q | q
   ·have:=I2.lt; rw [<- q] at this; exact Nat.lt_irrefl _ this
   ·exact I2.nofs (Nat.le_refl _) q
  have Dfp:∀ b∈fp,s2.heap.objs.size≠b:=fun b hb z=>by have:=flt b hb; rw [<- z] at this; exact Nat.lt_irrefl _ this
  have DnC:∀ x c,(dy X scope (vars++caps.map (·.2)) HP.objs.size s2 H2 fp).env.cells.lookup x=some c->c≠s2.heap.objs.size:=fun x c e z=>by
   rcases ce _ _ _ _ (B.cells I2) e with q | q
   ·cases q
   ·obtain ⟨v,o,ho,_⟩:=I2.cell x c q
    have:=Heap.lt_size ho
    rw [z] at this
    exact Nat.lt_irrefl _ this
  have pinD:∀ {σ':St} {H':Hp} {s':Shared},Inv (dy X scope (vars++caps.map (·.2)) HP.objs.size s2 H2 fp) [(s2.heap.objs.size,{ cls:=.type "list",data:=.seq its.toArray nn })] σ' H' s'->s'.heap.PlainList s2.heap.objs.size its.toArray/\H' s2.heap.objs.size=none:=fun {σ' H' s'} I'=>by
   obtain ⟨q1,q2,_⟩:=I'.pin (s2.heap.objs.size,{ cls:=.type "list",data:=.seq its.toArray nn }) (by simp [dy])
   exact ⟨⟨nn,q1⟩,q2⟩
  have I4p:Inv (dy X scope (vars++caps.map (·.2)) HP.objs.size s2 H2 fp) [(s2.heap.objs.size,{ cls:=.type "list",data:=.seq its.toArray nn })] (vars.map (fun _=>none)++gE σ caps) H4 s4:=
   I4.pins_of fun p hp=>by
    have e:p=(s2.heap.objs.size,{ cls:=.type "list",data:=.seq its.toArray nn }):=by simpa [dy] using hp
    subst e
    exact ⟨eD,nD4,DnL,Dfs,fun v z=>by cases z⟩
  have fpo':∀ {H':Hp},(∀ b∈fp,H' b=none)->∀ b∈fp,ju (dy X scope (vars++caps.map (·.2)) HP.objs.size s2 H2 fp) [(s2.heap.objs.size,{ cls:=.type "list",data:=.seq its.toArray nn })] H' b:=fun hn b hb=>by
   obtain ⟨q1,q2,q3,q4,q5,_⟩:=fpo hn b hb
   exact ⟨q1,q2,q3,q4,q5,fun p hp=>by
    have e:p=(s2.heap.objs.size,{ cls:=.type "list",data:=.seq its.toArray nn }):=by simpa [dy] using hp
    subst e
    exact Dfp b hb⟩
  have unp:∀ {pl:List (Addr×Obj)} {σ':St} {H':Hp} {s':Shared},Inv (dy X scope (vars++caps.map (·.2)) HP.objs.size s2 H2 fp) pl σ' H' s'->Inv (dy X scope (vars++caps.map (·.2)) HP.objs.size s2 H2 fp) [] σ' H' s':=fun {pl σ' H' s'} I'=>
   I'.pins_of fun p hp=>absurd (show p∈([]:List (Addr×Obj)) from hp) (by simp)
  rcases turn i n ys H4 w4 with ⟨stop,hz,qn⟩ | ⟨go,hz,step⟩
  ·refine cx (T.done (dy X scope (vars++caps.map (·.2)) HP.objs.size s2 H2 fp) rfl rfl rfl hc i _ s4 _ H4 _ I4p (fpo' fr4) st4 stop) fun r s5 ⟨hr,I5⟩=>?_
   subst hr
   obtain ⟨p5,n5⟩:=pinD I5
   obtain ⟨m5,ns5,_⟩:=I5.loc
   refine hRR _ _ s5 m5 ns5 hDC (Nat.le_refl _) hCle _ ?_ (fun h' hs'=>vz I2 f2 hCle (Nat.le_refl _) hDC (unp I5) n5 p5 v4 hz hs') (qn _ n5)
   rw [aI hDC.symm]
   exact I5.free
  ·refine cx (T.item (dy X scope (vars++caps.map (·.2)) HP.objs.size s2 H2 fp) rfl rfl rfl hc i _ s4 _ H4 _ I4p (fpo' fr4) st4 go) fun r s5 ⟨u,hr,h5⟩=>?_
   subst hr
   refine cx h5 fun _ s6 ⟨x,H6,I6,rx,yx,st6,fr6⟩=>?_
   have I6p:=I6.pinned (fpo' fr6) (T.obj _ _ st6)
   refine cx (hg _ _ _ _ _ s6 _ H6 x u _ I6p rx (step x H6 yx)) fun _ s7 ⟨σ7,H7,I7,kp,q7⟩=>?_
   refine cx (he _ _ _ _ _ s7 σ7 H7 _ I7 q7) fun v s8 ⟨y,H8,I8,ry,m',hm,w8⟩=>?_
   obtain ⟨p8,n8⟩:=pinD I8.unpinned
   have st8:tn (i+1) s8.heap:=T.keep _ _ _ st6 fun b hb o e=>(I8.pin (b,o) (List.mem_append_right _ (List.mem_append_right _ (cT hb e)))).1
   have fr8:∀ b∈fp,H8 b=none:=fun b hb=>by
    obtain ⟨o,e,d⟩:=T.obj _ _ st6 b hb
    exact (I8.pin (b,o) (List.mem_append_right _ (List.mem_append_right _ (cT hb e)))).2.1
   have hl:=v4.length
   refine wpAny_list_append_plain p8 (fun h9 p9 sb9=>⟨m',hm,i+1,ys++[y],H8,its++[v],?_,?_,fr8,by simpa using p9,n8,v4.append (.cons ry .nil),w8⟩) (by simp; omega)
   ·have I9:Inv (dy X scope (vars++caps.map (·.2)) HP.objs.size s2 H2 fp) [] σ7 H8 { s8 with heap:=h9,toks:=s8.toks }:=
     (unp I8).turned (it:=s2.heap.objs.size) (fun b o hb e=>sb9.extBut b o hb e) n8 DnL (.inr (Nat.le_refl _)) DnC fun p hp=>absurd (show p∈([]:List (Addr×Obj)) from hp) (by simp)
    exact I9.weak kp.1 kp.2
   ·exact T.keep _ _ _ st8 fun b hb o e=>sb9.extBut b o (Dfp b hb).symm e
 exact codeAny_compStart_list (loop _ rfl) (T.self _ 0 _ _ _ st1 (loop _ rfl))
theorem Ax (B:BlkOk X.env.scope.names X.N scope vars caps) (hc:X.calm=true) (hi:PI X tg iter wi)
  (hg:∀ C s₀ H₀ ex,PG (dy X scope (vars++caps.map (·.2)) C s₀ H₀ ex) tg g) (he:∀ C s₀ H₀ ex,PE (dy X scope (vars++caps.map (·.2)) C s₀ H₀ ex) elt te) (hs:∀ x,foldedSetIterable iter X.env x=pure x:=by intro _; rfl) :
  PE X (.ListComp elt [⟨tg,iter,[],0⟩] scope pos) (xa wi g te vars caps):=by
 intro pins s σ H Q I h
 rw [eval_ListComp]
 refine wpAny_comprehension_free (use:=none) rfl hs (eF (B.cells I)) B.kind B.names ?_
 show wpAny _ _ (eval iter X.env) _ _ s
 refine cx (hi pins s σ H _ I h) fun v s1 h1=>cx h1 fun itv s2 h2=>?_
 obtain ⟨it,fp,tn,J,H2,e,I2,T,st2,f2,W,⟨m0,w0⟩,turn⟩:=h2
 subst e
 exact nj B hc hg he I2 T st2 f2 w0 turn (RR:=fun acc C=>compPost (model X.prog X.w) X.A X.xe none (EP X pins σ Q) acc C) fun D C s' m ns _ _ _ H' _ k q=>⟨m,ns,fun h' hs'=>⟨.ref D,H',k h' hs',rfl,q⟩⟩
theorem An {i:Nat} {y:Str} {py spos:Pos} (B:BlkOk X.env.scope.names X.N scope vars caps) (hc:X.calm=true) (hi:PI X tg iter wi)
  (hg:∀ C s₀ H₀ ex,PG (dy X scope (vars++caps.map (·.2)) C s₀ H₀ ex) tg g) (he:∀ C s₀ H₀ ex,PE (dy X scope (vars++caps.map (·.2)) C s₀ H₀ ex) elt te)
  (hN:X.N.Nodup) (hy:X.N[i]? = some y) (hx:wR X.env.scope y) (hsw:swapsWith (.ListComp elt [⟨tg,iter,[],0⟩] scope pos) (some (.Name y py)) spos.line X.env=pure true)
  (hf:X.fn y=true\/X.env.scope.names.lookup y=some .local) (hs:∀ x,foldedSetIterable iter X.env x=pure x:=by intro _; rfl) :
  PS X (.Assign [.Name y py] (.ListComp elt [⟨tg,iter,[],0⟩] scope pos) spos) (fun D σ H=>xa wi g te vars caps σ H fun v H1=>D.nx (σ.set i (some v)) H1):=by
 intro pins s σ H DE I h
 rw [exec_Assign_Name_used _ _ _ _ hsw]
 refine wpAny_bind (wpAny_standAt (wpAny_bind ?_))
 show wpAny _ X.A (do let _ <- comprehension (.ListComp elt [⟨tg,iter,[],0⟩] scope pos) scope X.env _ (newList []) false (eval iter X.env) (some (assign (.Name y py) X.env))) _ _ s
 refine wpAny_bind (wpAny_mono (wpAny_comprehension_free (use:=some (assign (.Name y py) X.env)) (Q:=fun _ s'=>SP X pins DE .next s') rfl hs (eF (B.cells I)) B.kind B.names
  (cx (hi pins s σ H _ I h) fun v s1 h1=>cx h1 fun itv s2 h2=>?_)) (fun _ s' hq=>wpAny_pure (wpAny_pure hq)) fun _ _ e=>e)
 obtain ⟨it,fp,tn,J,H2,e,I2,T,st2,f2,W,⟨m0,w0⟩,turn⟩:=h2
 subst e
 refine nj (Q:=fun v H1=>DE.nx (σ.set i (some v)) H1) B hc hg he I2 T st2 f2 w0 turn (RR:=fun acc C=>compPost (model X.prog X.w) X.A X.xe (some (assign (.Name y py) X.env)) (fun _ s'=>SP X pins DE .next s') acc C) ?_
 intro D C s' m ns hDC hD hC H' hHC k q
 obtain ⟨oC,es,ep,eC,dC,rC⟩:=ns
 have I':Inv X pins σ H' s':=k s'.heap (Heap.SameBut.refl ..)
 have nL:C≠X.env.locals:=fun z=>by have:=I2.lt; rw [<- z] at this; exact absurd (Nat.lt_of_lt_of_le this hC) (Nat.lt_irrefl _)
 have nF:C ∉ X.fs:=I2.nofs hC
 have nCell:∀ x c,X.env.cells.lookup x=some c->c≠C:=fun x c e z=>by
  obtain ⟨v,o,ho,_⟩:=I2.cell x c e
  have:=Heap.lt_size ho
  rw [z] at this
  exact absurd (Nat.lt_of_lt_of_le this hC) (Nat.lt_irrefl _)
 have nPin:∀ p∈X.pn++pins,p.1≠C:=fun p hp z=>by
  have:=Heap.lt_size (I2.pin p hp).1
  rw [z] at this
  exact absurd (Nat.lt_of_lt_of_le this hC) (Nat.lt_irrefl _)
 have Ip:Inv X (pins++[(C,oC)]) σ H' s':=I'.pins_of fun p hp=>by
  rcases List.mem_append.mp hp with z | z
  ·exact I'.pin p (List.mem_append_right _ z)
  ·have e:p=(C,oC):=by simpa using z
   subst e
   exact ⟨eC,hHC,nL,nF,fun v z=>by rw [dC] at z; cases z⟩
 refine cx (cG (pos:=py) hN hy hx hf _ s' σ H' (.ref D) (.ref D) (fun σ' H''=>σ' = σ.set i (some (.ref D))/\H''=H'/\DE.nx σ' H'') Ip rfl ⟨rfl,rfl,q⟩) fun _ s'' ⟨σ'',H'',I'',e1,e2,q''⟩=>?_
 subst e1 e2
 have eC'':s''.heap.get? C=some oC:=(I''.pin (C,oC) (List.mem_append_right _ (List.mem_append_right _ (by simp)))).1
 refine ⟨m,⟨oC,es,ep,eC'',dC,rC⟩,fun h' hs'=>⟨_,H'',?_,q''⟩⟩
 exact I''.unpinned.turned (t':=s''.toks) (it:=C) (fun b o hb e=>hs'.extBut b o hb e) hHC nL (.inr (Nat.le_trans I2.sz hC)) nCell nPin
end
noncomputable def Fb:Option Sl->Sl
 | some (.fz d)=>.fz d
 | _=>.un
@[simp] theorem Ih (d:D):Fb (some (.fz d))=.fz d:=rfl
noncomputable def dS (δ:Dv) (caps:List (Nat×Str)):Dv:=caps.map fun p=>Fb δ[p.1]?
noncomputable def wk (f:D->Option D):List D->Option (List D)
 | []=>some []
 | d::ds=>(f d).bind fun e=>(wk f ds).bind fun es=>some (e::es)
noncomputable def iE (fi:Dv->Option (List D)) (caps:List (Nat×Str)) (bv:D->Option (List D)) (fe:Dv->Option D):Dv->Option D:=fun δ=>(fi δ).bind fun ds=>if ds.length<=sizeLine then (wk (fun d=>(bv d).bind fun vs=>fe (vs.map .fz++dS δ caps)) ds).bind fun es=>some (.list es) else none
noncomputable def uD:D->Option (List D):=fun d=>some [d]
theorem lb {f:D->Option D}:∀ {ds es:List D},wk f ds=some es->es.length=ds.length
 | [],es,h=>by cases h; rfl
 | d::ds,es,h=>by
  obtain ⟨e,_,h⟩:=bind_some h
  obtain ⟨es',h2,h⟩:=bind_some h
  cases h
  exact congrArg (· + 1) (lb h2)
theorem rQ {f:D->Option D}:∀ {ds es:List D} {i:Nat} {d:D},wk f ds=some es->ds[i]? = some d->∃ e,f d=some e/\es[i]? = some e
 | [],es,i,d,h,q=>by simp at q
 | d::ds,es,i,d',h,q=>by
  obtain ⟨e,h1,h⟩:=bind_some h
  obtain ⟨es',h2,h⟩:=bind_some h
  cases h
  cases i with
  | zero=>simp at q; subst q; exact ⟨e,h1,rfl⟩
  | succ i=>simp at q; obtain ⟨e',g1,g2⟩:=rQ (i:=i) h2 q; exact ⟨e',g1,by simpa using g2⟩
def uI (K:Fg) (g:TG) (n:Nat) (bv:D->Option (List D)):Prop:=∀ (x:V) (Z:Hp) (d:D) (vs:List D) (σc:St) (H:Hp) (R:St->Hp->Prop),Rep K Z x d->Same Z H->bv d=some vs->(∀ us,Reps K Z us vs->us.length=n->R (us.map some ++ σc) H)->g x (List.replicate n none ++ σc) H R
theorem eQ {K:Fg}:uI K (yA 0) 1 uD:=fun x Z d vs σc H R r zh e k=>by
 cases e
 exact k [x] (.cons r .nil) rfl
section
variable {X:Cx} {scope:Scope} {vars:List Str} {caps:List (Nat×Str)} {elt tg iter:Expr} {pos:Pos} {g:TG} {fi:Dv->Option (List D)} {fe:Dv->Option D} {bv:D->Option (List D)}
theorem yS {σ:St} {δ:Dv} {K:Fg} {H₀ Z₀ Z H:Hp} (hh:Hold K H₀ Z₀ Z δ σ H):∀ (j:Nat) d,(dS δ caps)[j]? = some (.fz d)->∃ v,(gE σ caps)[j]? = some (some v)/\Rep K Z v d:=fun j d e=>by
 unfold dS at e
 unfold gE
 rw [List.getElem?_map] at e ⊢
 cases q:caps[j]? with
 | none=>rw [q] at e; cases e
 | some p=>
  rw [q] at e
  have e:Fb δ[p.1]? = .fz d:=Option.some.inj e
  cases z:δ[p.1]? with
  | none=>rw [z] at e; cases e
  | some sl=>
   rw [z] at e
   cases sl with
   | fz d'=>
    cases e
    obtain ⟨v,g1,g2⟩:=hh.fz p.1 _ z
    exact ⟨v,by show some ((σ[p.1]?).getD none)=_; rw [g1]; rfl,g2⟩
   | un=>cases e
   | own _=>cases e
   | fr _=>cases e
theorem BE {δ:Dv}:∀ (j:Nat) ds,(dS δ caps)[j]? ≠ some (.own ds):=fun j ds e=>by
 unfold dS at e
 rw [List.getElem?_map] at e
 cases q:caps[j]? with
 | none=>rw [q] at e; cases e
 | some p=>
  rw [q] at e
  have e:Fb δ[p.1]? = .own ds:=Option.some.inj e
  cases z:δ[p.1]? with
  | none=>rw [z] at e; cases e
  | some sl=>rw [z] at e; cases sl <;> cases e
theorem BF {δ:Dv}:∀ (j:Nat) ds,(dS δ caps)[j]? ≠ some (.fr ds):=fun j ds e=>by
 unfold dS at e
 rw [List.getElem?_map] at e
 cases q:caps[j]? with
 | none=>rw [q] at e; cases e
 | some p=>
  rw [q] at e
  have e:Fb δ[p.1]? = .fr ds:=Option.some.inj e
  cases z:δ[p.1]? with
  | none=>rw [z] at e; cases e
  | some sl=>rw [z] at e; cases sl <;> cases e
theorem sQ {σ:St} {δ:Dv} {K:Fg} {H₀ Z₀ Z H:Hp} (hh:Hold K H₀ Z₀ Z δ σ H) {us:List V} {vs:List D} (r:Reps K Z us vs):Hold K H Z Z (vs.map .fz++dS δ caps) (us.map some++gE σ caps) H:=by
 have hl:=r.length
 refine ⟨hh.zh,Same.refl _,Same.refl _,fun _ _=>rfl,by simp [dS,gE,hl],fun i d e=>?_,fun i ds e=>?_,fun i j ds es a _ e=>?_,fun i ds e=>?_,NoF.refl _⟩
 ·by_cases hi:i<vs.length
  ·rw [List.getElem?_append_left (by simpa using hi),List.getElem?_map] at e
   cases q:vs[i]? with
   | none=>rw [q] at e; cases e
   | some d'=>
    rw [q] at e
    cases e
    obtain ⟨v,g1,g2⟩:=r.get q
    exact ⟨v,by rw [List.getElem?_append_left (by simpa [hl] using hi),List.getElem?_map,g1]; rfl,g2⟩
  ·rw [List.getElem?_append_right (by simpa using hi)] at e
   obtain ⟨v,g1,g2⟩:=yS hh _ d e
   refine ⟨v,?_,g2⟩
   rw [List.getElem?_append_right (by simpa [hl] using hi)]
   simp only [List.length_map] at g1 ⊢
   rw [hl]; exact g1
 all_goals
  exfalso
  by_cases hi:i<vs.length
  ·rw [List.getElem?_append_left (by simpa using hi),List.getElem?_map] at e
   cases q:vs[i]? <;> rw [q] at e <;> cases e
  ·rw [List.getElem?_append_right (by simpa using hi)] at e
   first | exact BE _ _ e | exact BF _ _ e
theorem oZ (tk:uI X.K g vars.length bv) {σ:St} {H:Hp} {Q:VK} (h:tV X.K (iE fi caps bv fe) σ H Q):xa (HH X.K fi) g (tV X.K fe) vars caps σ H Q:=by
 obtain ⟨H₀,Z₀,Z,δ,d,hh,e,k⟩:=h
 obtain ⟨ds,e1,e⟩:=bind_some e
 by_cases hz:ds.length<=sizeLine
 ·rw [if_pos hz] at e
  obtain ⟨es,e2,e⟩:=bind_some e
  cases e
  have le:=lb e2
  have hv:vars.map (fun _=>(none:Option V))=List.replicate vars.length none:=by rw [List.map_const']
  refine ⟨H₀,Z₀,Z,δ,ds,hh,e1,fun J Z1 H1 hh1 t1 ok=>?_⟩
  refine ⟨fun i m ys H=>m=ds.length-i/\i<=ds.length/\∃ Zc,Hold X.K H₀ Z₀ Zc δ σ H/\Same Z1 Zc/\Reps X.K Zc ys (es.take i),⟨ds.length,by simp,Nat.zero_le _,Z1,hh1,Same.refl _,by simpa using .nil⟩,?_⟩
  rintro i m ys H2 ⟨rfl,hi2,Zc,hhc,tc,rc⟩
  have zh:Same Z1 H2:=tc.trans hhc.zh
  have ly:=rc.length
  rw [List.length_take] at ly
  by_cases hlt:i<ds.length
  ·refine .inr ⟨ok.go i H2 zh hlt,by omega,fun x H3 y=>?_⟩
   have ed:ds[i]? = some ds[i]:=by simp [hlt]
   obtain ⟨rfl,rx⟩:=ok.yld i H2 x H3 _ zh ed y
   obtain ⟨ei,f1,f2⟩:=rQ e2 ed
   obtain ⟨vs,f3,f1⟩:=bind_some f1
   rw [hv]
   refine tk x Zc ds[i] vs (gE σ caps) H3 _ (rx.same tc) hhc.zh f3 fun us ru hn=>⟨⟨by simp [hn],fun j v q=>?_⟩,?_⟩
   ·by_cases hj:j<vars.length
    ·rw [List.getElem?_append_left (by simpa using hj),List.getElem?_replicate] at q
     split at q <;> cases q
    ·rw [List.getElem?_append_right (by simpa using hj)] at q
     rw [List.getElem?_append_right (by simpa [hn] using hj)]
     simpa [hn] using q
   ·refine ⟨H3,Zc,Zc,_,ei,sQ hhc ru,f1,fun v Z4 H4 h4 t4 r4=>⟨ds.length-(i+1),by omega,rfl,hlt,Z4,hhc.new ⟨t4,h4.h0,h4.zh,h4.zb,h4.nf⟩,tc.trans t4,?_⟩⟩
    have:es.take (i+1)=es.take i++[ei]:=by
     rw [List.take_add_one,f2]; rfl
    rw [this]
    exact (rc.same t4).append (.cons r4 .nil)
  ·have hie:i=ds.length:=by omega
   subst hie
   refine .inl ⟨ok.stop _ H2 zh (Nat.le_refl _),by omega,fun p hp=>?_⟩
   rw [<- le,List.take_length] at rc
   have n:=New.add hhc.zh hp (.lst ys)
   exact k _ _ _ (hhc.new n) ((t1.trans tc).trans n.z) (.lst (SqL.of aN) (rc.same n.z))
 ·rw [if_neg hz] at e; cases e
theorem j4 (B:BlkOk X.env.scope.names X.N scope vars caps) (hc:X.calm=true) (hi:IV X tg iter fi) (tk:uI X.K g vars.length bv)
  (hg:∀ C s₀ H₀ ex,PG (dy X scope (vars++caps.map (·.2)) C s₀ H₀ ex) tg g) (he:∀ C s₀ H₀ ex,EV (dy X scope (vars++caps.map (·.2)) C s₀ H₀ ex) elt fe) (hs:∀ x,foldedSetIterable iter X.env x=pure x:=by intro _; rfl) :
  EV X (.ListComp elt [⟨tg,iter,[],0⟩] scope pos) (iE fi caps bv fe):=
 PE.imp (Ax (te:=tV X.K fe) B hc hi hg he hs) fun _ _ _ h=>oZ tk h
theorem zU (i:Nat) {y:Str} {py spos:Pos} (hN:X.N.Nodup) (B:BlkOk X.env.scope.names X.N scope vars caps) (hc:X.calm=true) (hi:IV X tg iter fi) (tk:uI X.K g vars.length bv)
  (hg:∀ C s₀ H₀ ex,PG (dy X scope (vars++caps.map (·.2)) C s₀ H₀ ex) tg g) (he:∀ C s₀ H₀ ex,EV (dy X scope (vars++caps.map (·.2)) C s₀ H₀ ex) elt fe)
  (hy:X.N[i]? = some y:=by rfl) (hx:wR X.env.scope y:=by first | exact Or.inl rfl | exact Or.inr rfl) (hsw:swapsWith (.ListComp elt [⟨tg,iter,[],0⟩] scope pos) (some (.Name y py)) spos.line X.env=pure true:=by rfl)
  (hf:X.fn y=true\/X.env.scope.names.lookup y=some .local:=by first | exact .inl rfl | exact .inr rfl | assumption) (hs:∀ x,foldedSetIterable iter X.env x=pure x:=by intro _; rfl) :
  SV X (.Assign [.Name y py] (.ListComp elt [⟨tg,iter,[],0⟩] scope pos) spos) (bP i (iE fi caps bv fe)):=
 PS.imp (An (te:=tV X.K fe) B hc hi hg he hN hy hx hsw hf hs) fun D σ H h=>by
  obtain ⟨H₀,Z₀,Z,δ,r,hh,e,k⟩:=h
  obtain ⟨x,e1,e⟩:=bind_some e
  cases e
  exact oZ tk ⟨H₀,Z₀,Z,δ,x,hh,e1,fun v Z1 H1 hh1 s1 r1=>k _ H1 Z1 (hh1.set r1) s1⟩
end
end VL
namespace VL
open PySem PySem.Spec PyProof.Rows L2
section
variable {X:Cx} {e:Expr} {es:List Expr} {p pos:Pos} {fs:Dv->Option (List D)}
theorem aF {k:Nat} {x:Str} {g:List D->Option D} (C:Cal X.prog X.w X.K X.mg X.base x k g []) (hr:Room k X.A) (hg:Gl X x) (ha:AV X (e::es) fs) (hdb:(x==("__debug__":Str))=false:=by decide) (he:starEach (e::es) X.env=(false,eval e X.env)::starEach es X.env:=by rfl)
  (hpl:(backTo pos (starEach es X.env)).any (·.1)=false:=by rfl):EV X (.Call (.Name x p) (e::es) [] pos) (os fs g):=by
 have h:=yG C hr hg ha hdb he hpl (p:=p) (pos:=pos)
 have e:(fun as=>g (as++[]))=g:=by funext as; rw [List.append_nil]
 rw [e] at h
 exact h
end
noncomputable def za:Option Sl->Option (List D)
 | some (.own (.l ds))=>some ds
 | _=>none
@[simp] theorem Ie (ds:List D):za (some (.ow ds))=some ds:=rfl
theorem tK {o:Option Sl} {ds:List D} (h:za o=some ds):o=some (.ow ds):=by
 cases o with
 | none=>cases h
 | some x=>
  cases x with
  | own c=>
   cases c with
   | l es=>cases h; rfl
   | d es=>cases h
  | un=>cases h
  | fz d=>cases h
  | fr _=>cases h
@[simp] noncomputable def tN (i:Nat) (fs:Dv->Option (List D)):Sf:=fun δ=>(fs δ).bind fun ds=>if ds.length<=sizeLine then some (.nx,δ.set i (.ow ds)) else none
@[simp] noncomputable def Df (i:Nat) (f:Dv->Option D):Dv->Option D:=fun δ=>(za δ[i]?).bind fun ds=>(f δ).bind fun k=>aD (.list ds) k
@[simp] noncomputable def u6 (i:Nat):Dv->Option D:=fun δ=>(za δ[i]?).bind fun ds=>some (.int ds.length)
noncomputable def Fk (ds:List D) (k v:D):Option (List D):=match k with
 | .int j=>(Dz ds.length j).map fun n=>ds.set n v
 | _=>none
@[simp] theorem Fj (ds:List D) (j:Int) (v:D):Fk ds (.int j) v=(Dz ds.length j).map fun n=>ds.set n v:=rfl
@[simp] noncomputable def Ky (i:Nat) (fk fv:Dv->Option D):Sf:=fun δ=>(fv δ).bind fun v=>(fk δ).bind fun k=>(za δ[i]?).bind fun ds=>(Fk ds k v).bind fun ds'=>some (.nx,δ.set i (.ow ds'))
@[simp] noncomputable def pE (i:Nat) (f:Dv->Option D):Sf:=fun δ=>(f δ).bind fun v=>(za δ[i]?).bind fun ds=>if ds.length<sizeLine then some (.nx,δ.set i (.ow (ds++[v]))) else none
section
variable {X:Cx} {e b:Expr} {es:List Expr} {p pos tpos apos:Pos} {fs:Dv->Option (List D)} {f fk fv:Dv->Option D}
theorem kz (i:Nat) {x:Str} {pos':Pos} (hN:X.N.Nodup) (ha:AV X es fs) (hi:X.N[i]? = some x:=by rfl) (hx:wR X.env.scope x:=by first | exact Or.inl rfl | exact Or.inr rfl) (hs:swapsWith (.List es p) (some (.Name x pos')) pos.line X.env=pure false:=by rfl)
  (hf:X.fn x=true\/X.env.scope.names.lookup x=some .local:=by first | exact .inl rfl | exact .inr rfl | assumption):SV X (.Assign [.Name x pos'] (.List es p) pos) (tN i fs):=
 PS.imp (tP hN hi hx (xF ha) hs hf) fun D σ H h=>by
  obtain ⟨H₀,Z₀,Z,δ,r,hh,e,k⟩:=h
  obtain ⟨ds,e1,e⟩:=bind_some e
  by_cases hl:ds.length<=sizeLine
  ·rw [if_pos hl] at e
   cases e
   exact ⟨H₀,Z₀,Z,δ,ds,hh,e1,fun vs Z1 H1 hh1 t1 r1=>⟨by rw [r1.length]; exact hl,fun p hp=>k _ _ Z1 (hh1.setO hp r1) t1⟩⟩
  ·rw [if_neg hl] at e; cases e
theorem mK {K:Fg} {H₀ Z₀ Z:Hp} {δ:Dv} {σ:St} {H:Hp} (hh:Hold K H₀ Z₀ Z δ σ H) {i:Nat} {ds:List D} (h:za δ[i]? = some ds):∃ a xs,σ[i]? = some (some (V.ref a))/\H a=some (.lst xs)/\Reps K Z xs ds:=by
 obtain ⟨a,xs,h1,_,_,h4,h5⟩:=hh.ow i ds (tK h)
 exact ⟨a,xs,h1,h4,h5⟩
theorem DQ (i:Nat) {x:Str} (hb:EV X b f) (hs:qD b) (hN:X.N[i]? = some x:=by rfl) (hv:BO X.env.scope x:=by first | exact Or.inl rfl | exact Or.inr (Or.inl rfl) | exact Or.inr (Or.inr rfl)) (hd:(x==("__debug__":Str))=false:=by decide) (hcd:(x==("__classdict__":Str))=false:=by decide) :
  EV X (.Subscript (.Name x p) b pos) (Df i f):=
 PE.imp (BZ ix_list (jj hN hv hd hcd) hb hs) fun σ H Q h=>by
  obtain ⟨H₀,Z₀,Z,δ,d,hh,e,k⟩:=h
  obtain ⟨ds,e1,e⟩:=bind_some e
  obtain ⟨y,e2,e⟩:=bind_some e
  obtain ⟨a,xs,h1,h4,h5⟩:=mK hh e1
  refine ⟨_,h1,H₀,Z₀,Z,δ,y,hh,e2,fun v Z1 H1 hh1 t1 r1=>?_⟩
  obtain ⟨a',xs',g1,g4,g5⟩:=mK hh1 e1
  rw [h1] at g1
  cases g1
  cases r1 with
  | int j=>
   obtain ⟨w,ew,rw'⟩:=g5.at e
   exact ⟨_,_,_,w,rfl,rfl,SqL.of g4,ew,k w Z1 H1 hh1 t1 rw'⟩
  | _=>cases e
theorem vn (i:Nat) {x:Str} {p2:Pos} (hg:Gl X "len") (hm:X.mg "len" = none) (hN:X.N[i]? = some x:=by rfl) (hv:BO X.env.scope x:=by first | exact Or.inl rfl | exact Or.inr (Or.inl rfl) | exact Or.inr (Or.inr rfl)) (hd:(x==("__debug__":Str))=false:=by decide) (hcd:(x==("__classdict__":Str))=false:=by decide)
  (he:starEach [.Name x p2] X.env=(false,eval (.Name x p2) X.env)::starEach [] X.env:=by rfl) (hpl:(backTo pos (starEach [] X.env)).any (·.1)=false:=by rfl):EV X (.Call (.Name "len" p) [.Name x p2] [] pos) (u6 i):=
 PE.imp (mJ sO hg hm PySem.boot_len (gi (jj hN hv hd hcd) jk he) (by decide) (by decide) he hpl) fun σ H Q h=>by
  obtain ⟨H₀,Z₀,Z,δ,d,hh,e,k⟩:=h
  obtain ⟨ds,e1,e⟩:=bind_some e
  cases e
  obtain ⟨a,xs,h1,h4,h5⟩:=mK hh e1
  exact ⟨_,h1,_,_,rfl,.inl ⟨xs,SqL.of h4,rfl⟩,k _ Z H hh (Same.refl _) (by rw [h5.length]; exact .int _)⟩
theorem jg (i:Nat) {x:Str} {cpos:Pos} (hv':EV X e f) (hN:X.N[i]? = some x:=by rfl) (hv:BO X.env.scope x:=by first | exact Or.inl rfl | exact Or.inr (Or.inl rfl) | exact Or.inr (Or.inr rfl)) (hd:(x==("__debug__":Str))=false:=by decide) (hcd:(x==("__classdict__":Str))=false:=by decide)
  (hbase:attributeBase (.Name x p) "append" X.env (eval (.Name x p) X.env)=eval (.Name x p) X.env:=by rfl)
  (hfew:((backTo cpos (starEach [e] X.env)).all (fun x=>!x.1)&&(backToKw cpos (keywordEach [] X.env)).all (fun x=>x.1.isSome)
   && decide ([e].length+([]:List Keyword).length+(if ([]:List Keyword).isEmpty then 0 else 1)<30))=true:=by rfl)
  (hline:(apos.endLine==cpos.line)=true:=by rfl) (hs:starEach [e] X.env=(false,eval e X.env)::starEach [] X.env:=by rfl) (hplain:(backTo cpos (starEach [] X.env)).any (·.1)=false:=by rfl)
  (hsw:swapsWith (.Call (.Attribute (.Name x p) "append" apos) [e] [] cpos) none pos.line X.env=pure false:=by rfl):SV X (.Expr (.Call (.Attribute (.Name x p) "append" apos) [e] [] cpos) pos) (pE i f):=
 PS.imp (uY (B0 PySem.F.plainAttrs_list PySem.F.slot_list_append PySem.F.type_list_append wj (jj hN hv hd hcd) (gi hv' jk hs) hbase hfew hline hs hplain) hsw) fun D σ H h=>by
  obtain ⟨H₀,Z₀,Z,δ,r,hh,e,k⟩:=h
  obtain ⟨v,e1,e⟩:=bind_some e
  obtain ⟨ds,e2,e⟩:=bind_some e
  by_cases hl:ds.length<sizeLine
  ·rw [if_pos hl] at e
   cases e
   obtain ⟨a,xs,h1,h4,h5⟩:=mK hh e2
   refine ⟨_,h1,.inl ⟨rfl,xs,SqL.of h4⟩,H₀,Z₀,Z,δ,v,hh,e1,fun w Z1 H1 hh1 t1 r1=>?_⟩
   obtain ⟨a',xs',g1,g4,g5⟩:=mK hh1 e2
   rw [h1] at g1
   cases g1
   exact ⟨a,xs',w,rfl,rfl,g4,by rw [g5.length]; exact hl,k σ _ Z1 (hh1.chg (xs:=xs') (tK e2) h1 (g5.append (.cons r1 .nil))) t1⟩
  ·rw [if_neg hl] at e; cases e
end
end VL
namespace VL
open PySem PySem.Spec PyProof.Rows L2
section
def tH (wi:TI) (g:TG) (tt:TT) (te:TE) (vars:List Str) (caps:List (Nat×Str)):TE:=fun σ H Q=>wi σ H fun J H1=>∃ W:Nat->Nat->List V->Hp->Prop,(∃ m,W 0 m [] H1)/\∀ i m ys H,W i m ys H ->
 (J.stop i H/\ys.length<=sizeLine/\∀ p,H p=none->Q (.ref p) (upd H p (.lst ys))) \/
 (J.go i H/\ys.length<sizeLine/\∀ x H',J.yld i H x H'->g x (vars.map (fun _=>none)++gE σ caps) H' fun σ2 H2=>vH (vars.map (fun _=>none)++gE σ caps) σ2/\tt σ2 H2 fun b H3=>if b=true then te σ2 H3 fun y H4=>∃ m',m'<m/\W (i+1) m' (ys++[y]) H4 else ∃ m',m'<m/\W (i+1) m' ys H3)
theorem kO {prog:Program} {w:World} {A:Around} {R:Result->Shared->Prop} {s:Shared} {elt target iter cnd:Expr} {scope:Scope} {pos:Pos} {it acc:Value} {env:Env} (I:Nat->Shared->Prop)
  (turn:∀ n s,I n s->wpAny (model prog w) A (pyNext it) (fun r s₁=>match r with
   | none=>R (.ok .next) s₁
   | some v=>wpAny (model prog w) A (letOwnedTupleGo target it v) (fun _ s₁=>wpAny (model prog w) A (assign target env v) (fun _ s₂=>wpAny (model prog w) A (isTrue cnd env (eval cnd env)) (fun ok s₂=>if ok=true then wpAny (model prog w) A (eval elt env) (fun x s₃=>
     wpAny (model prog w) A (call (.builtin "list.append") [acc,x]) (fun _ s₄=>∃ m,m<n/\I m s₄) (fun _ _=>False) s₃) (fun _ _=>False) s₂ else ∃ m,m<n/\I m s₂) (fun _ _=>False) s₂) (fun _ _=>False) s₁) (fun _ _=>False) s₁) (fun _ _=>False) s)
  (n:Nat) (h:I n s):codeAny (model prog w) A (.compLoop (.ListComp elt [⟨target,iter,[cnd],0⟩] scope pos) 0 it acc env) R s:=by
 refine codeAny_loop rfl I (fun n s hI=>?_) n h
 show wpAny _ _ ((compTurn (.ListComp elt [⟨target,iter,[cnd],0⟩] scope pos) 0 it acc env).onRaise (fun x=>do noteFrame x env; theTreesLotGoes x)) _ _ s
 refine wpAny_noted ?_
 rw [compTurn_list]
 refine wpAny_bind (wpAny_standAt (wpAny_bind (wpAny_mono (turn n s hI) (fun r s₁ h₁=>?_) fun _ _ h'=>h'.elim)))
 cases r with
 | none=>exact wpAny_pure h₁
 | some v=>
  refine wpAny_bind (wpAny_mono h₁ (fun _ s₁ h₁=>?_) fun _ _ h'=>h'.elim)
  refine wpAny_bind (wpAny_mono h₁ (fun _ s₂ h₂=>?_) fun _ _ h'=>h'.elim)
  refine wpAny_bind (wpAny_tests_one (wpAny_mono h₂ (fun okb s₃ h₃=>?_) fun _ _ h'=>h'.elim))
  cases okb with
  | false=>exact wpAny_pure ⟨rfl,h₃⟩
  | true=>exact wpAny_bind (wpAny_bind (wpAny_mono h₃ (fun x s₄ h₄=>wpAny_bind (wpAny_mono h₄ (fun _ s₅ h₅=>wpAny_pure (wpAny_pure ⟨rfl,h₅⟩)) fun _ _ h'=>h'.elim)) fun _ _ h'=>h'.elim))
end
section
variable {X:Cx} {scope:Scope} {vars:List Str} {caps:List (Nat×Str)} {elt tg iter cnd:Expr} {pos:Pos} {wi:TI} {g:TG} {tt:TT} {te:TE}
theorem li {Cm:Cx->Prop} (B:BlkOk X.env.scope.names X.N scope vars caps)
  (hg:∀ C s₀ H₀ ex,PG (dy X scope (vars++caps.map (·.2)) C s₀ H₀ ex) tg g) (hb:∀ C s₀ H₀ ex,PT (dy X scope (vars++caps.map (·.2)) C s₀ H₀ ex) cnd tt) (he:∀ C s₀ H₀ ex,PE (dy X scope (vars++caps.map (·.2)) C s₀ H₀ ex) elt te)
  {pins:List (Addr×Obj)} {σ:St} {H2:Hp} {s2:Shared} {Q:VK} {it:Addr} {fp:List Addr} {tn:Nat->Heap->Prop} {J:It} (I2:Inv X pins σ H2 s2) (T:TurnG Cm X.prog X.w X.K tg J fp it tn) (st2:tn 0 s2.heap) (f2:∀ b∈fp,ju X pins H2 b) (hc:∀ C,Cm (dy X scope (vars++caps.map (·.2)) C s2 H2 fp))
  {W:Nat->Nat->List V->Hp->Prop} {m0:Nat} (w0:W 0 m0 [] H2) (turn:∀ i m ys H,W i m ys H ->
   (J.stop i H/\ys.length<=sizeLine/\∀ p,H p=none->Q (.ref p) (upd H p (.lst ys))) \/
   (J.go i H/\ys.length<sizeLine/\∀ x H',J.yld i H x H'->g x (vars.map (fun _=>none)++gE σ caps) H' fun σ2 H2=>vH (vars.map (fun _=>none)++gE σ caps) σ2/\tt σ2 H2 fun b H3=>if b=true then te σ2 H3 fun y H4=>∃ m',m'<m/\W (i+1) m' (ys++[y]) H4 else ∃ m',m'<m/\W (i+1) m' ys H3))
  {RR:Value->Addr->Result->Shared->Prop} {E:Value->Shared->Prop}
  (hRR:∀ D C s' m,s'.heap.Ns C m->D≠C->s2.heap.objs.size<=D->s2.heap.objs.size<=C->∀ H',H' C=none->(∀ h',Heap.SameBut C s'.heap h'->Inv X pins σ H' { s' with heap:=h' })->Q (.ref D) H'->RR (.ref D) C (.ok .next) s') :
  wpAny (model X.prog X.w) X.A (newList []) (fun acc s₃=>wpAny (model X.prog X.w) X.A (newFunctionEnv scope X.env.globals (jp X.env scope.names []) [] X.env.qual none .none (some X.env)) (fun cenv s₄=>
   codeAny (model X.prog X.w) X.A (.compStart (.ListComp elt [⟨tg,iter,[cnd],0⟩] scope pos) 0 (.ref it) acc { cenv with scope:=relabel scope X.env }) (RR acc cenv.locals) s₄) E s₃) E s2:=by
 refine wpAny_newObj_type (wpAny_newFunctionEnv B.cell (by intro y hy; simp at hy) (fun h₁ hns₁ hsb₁=>?_) B.kind)
 dsimp only at hns₁ hsb₁ ⊢
 generalize hP:s2.heap.push { cls:=.type "list",dict:=none,data:=.seq ([]:List Value).toArray }=HP at hns₁ hsb₁ ⊢
 have hCs:HP.objs.size=s2.heap.objs.size+1:=by rw [<- hP,Heap.size_push]
 have hDC:s2.heap.objs.size≠HP.objs.size:=by rw [hCs]; exact Nat.ne_of_lt (Nat.lt_succ_self _)
 have hCle:s2.heap.objs.size<=HP.objs.size:=by rw [hCs]; exact Nat.le_succ _
 have old:∀ b o,s2.heap.get? b=some o->h₁.get? b=some o:=fun b o e=>hsb₁.extBut b o (Nat.ne_of_lt (Nat.lt_of_lt_of_le (Heap.lt_size e) hCle)) (Heap.get?_push_of_some _ (hP ▸ Heap.get?_push_of_some _ e))
 have hacc:h₁.PlainList s2.heap.objs.size #[]:=⟨_,hsb₁.extBut _ _ hDC (Heap.get?_push_of_some _ (hP ▸ Heap.get?_push_size _ rfl))⟩
 have flt:∀ b∈fp,b<s2.heap.objs.size:=fun b hb=>by
  obtain ⟨o,e,_⟩:=T.obj _ _ st2 b hb
  exact Heap.lt_size e
 have st1:tn 0 h₁:=T.keep _ _ _ st2 fun b _ o e=>old b o e
 have loop:∀ s3:Shared,s3={ s2 with heap:=h₁,toks:=s2.toks+([]:List (Str×Value)).length } ->
   codeAny (model X.prog X.w) X.A (.compLoop (.ListComp elt [⟨tg,iter,[cnd],0⟩] scope pos) 0 (.ref it) (.ref s2.heap.objs.size) (compEnvC scope (jp X.env scope.names []) HP.objs.size X.env))
    (RR (.ref s2.heap.objs.size) HP.objs.size) s3:=by
  rintro s3 rfl
  have X':=dy X scope (vars++caps.map (·.2)) HP.objs.size s2 H2 fp
  have fpo:∀ {H':Hp},(∀ b∈fp,H' b=none)->∀ b∈fp,ju (dy X scope (vars++caps.map (·.2)) HP.objs.size s2 H2 fp) [] H' b:=fun hn b hb=>by
   have ok:=uF B I2 f2 flt hCle
   exact ⟨hn b hb,(ok.exf b hb).1,ok.exfs b hb,.inl hb,(ok.exf b hb).2,fun p hp=>absurd (show p∈([]:List (Addr×Obj)) from hp) (by simp)⟩
  refine kO (fun n s=>∃ i ys H its,Inv (dy X scope (vars++caps.map (·.2)) HP.objs.size s2 H2 fp) [] (vars.map (fun _=>none)++gE σ caps) H s/\tn i s.heap/\(∀ b∈fp,H b=none)/\s.heap.PlainList s2.heap.objs.size (List.toArray its)/\H s2.heap.objs.size=none/\Vals ys its/\W i n ys H) ?_ m0
   ⟨0,[],H2,[],vA B I2 f2 flt hCle hns₁ old,st1,fun b hb=>(f2 b hb).1,hacc,I2.hok.fresh (Nat.le_refl _),.nil,w0⟩
  rintro n s4 ⟨i,ys,H4,its,I4,st4,fr4,pl4,nD4,v4,w4⟩
  obtain ⟨nn,eD⟩:=id pl4
  have DnL:s2.heap.objs.size≠(dy X scope (vars++caps.map (·.2)) HP.objs.size s2 H2 fp).env.locals:=hDC
  have Dfs:s2.heap.objs.size ∉ (dy X scope (vars++caps.map (·.2)) HP.objs.size s2 H2 fp).fs:=fun z=>by
   rcases List.mem_cons.mp (I2.stkSub _ z) with q | q
   ·have:=I2.lt; rw [<- q] at this; exact Nat.lt_irrefl _ this
   ·exact I2.nofs (Nat.le_refl _) q
  have Dfp:∀ b∈fp,s2.heap.objs.size≠b:=fun b hb z=>by have:=flt b hb; rw [<- z] at this; exact Nat.lt_irrefl _ this
  have DnC:∀ x c,(dy X scope (vars++caps.map (·.2)) HP.objs.size s2 H2 fp).env.cells.lookup x=some c->c≠s2.heap.objs.size:=fun x c e z=>by
   rcases ce _ _ _ _ (B.cells I2) e with q | q
   ·cases q
   ·obtain ⟨v,o,ho,_⟩:=I2.cell x c q
    have:=Heap.lt_size ho
    rw [z] at this
    exact Nat.lt_irrefl _ this
  have pinD:∀ {σ':St} {H':Hp} {s':Shared},Inv (dy X scope (vars++caps.map (·.2)) HP.objs.size s2 H2 fp) [(s2.heap.objs.size,{ cls:=.type "list",data:=.seq its.toArray nn })] σ' H' s'->s'.heap.PlainList s2.heap.objs.size its.toArray/\H' s2.heap.objs.size=none:=fun {σ' H' s'} I'=>by
   obtain ⟨q1,q2,_⟩:=I'.pin (s2.heap.objs.size,{ cls:=.type "list",data:=.seq its.toArray nn }) (by simp [dy])
   exact ⟨⟨nn,q1⟩,q2⟩
  have I4p:Inv (dy X scope (vars++caps.map (·.2)) HP.objs.size s2 H2 fp) [(s2.heap.objs.size,{ cls:=.type "list",data:=.seq its.toArray nn })] (vars.map (fun _=>none)++gE σ caps) H4 s4:=
   I4.pins_of fun p hp=>by
    have e:p=(s2.heap.objs.size,{ cls:=.type "list",data:=.seq its.toArray nn }):=by simpa [dy] using hp
    subst e
    exact ⟨eD,nD4,DnL,Dfs,fun v z=>by cases z⟩
  have fpo':∀ {H':Hp},(∀ b∈fp,H' b=none)->∀ b∈fp,ju (dy X scope (vars++caps.map (·.2)) HP.objs.size s2 H2 fp) [(s2.heap.objs.size,{ cls:=.type "list",data:=.seq its.toArray nn })] H' b:=fun hn b hb=>by
   obtain ⟨q1,q2,q3,q4,q5,_⟩:=fpo hn b hb
   exact ⟨q1,q2,q3,q4,q5,fun p hp=>by
    have e:p=(s2.heap.objs.size,{ cls:=.type "list",data:=.seq its.toArray nn }):=by simpa [dy] using hp
    subst e
    exact Dfp b hb⟩
  have unp:∀ {pl:List (Addr×Obj)} {σ':St} {H':Hp} {s':Shared},Inv (dy X scope (vars++caps.map (·.2)) HP.objs.size s2 H2 fp) pl σ' H' s'->Inv (dy X scope (vars++caps.map (·.2)) HP.objs.size s2 H2 fp) [] σ' H' s':=fun {pl σ' H' s'} I'=>
   I'.pins_of fun p hp=>absurd (show p∈([]:List (Addr×Obj)) from hp) (by simp)
  rcases turn i n ys H4 w4 with ⟨stop,hz,qn⟩ | ⟨go,hz,step⟩
  ·refine cx (T.done (dy X scope (vars++caps.map (·.2)) HP.objs.size s2 H2 fp) rfl rfl rfl (hc _) i _ s4 _ H4 _ I4p (fpo' fr4) st4 stop) fun r s5 ⟨hr,I5⟩=>?_
   subst hr
   obtain ⟨p5,n5⟩:=pinD I5
   obtain ⟨m5,ns5,_⟩:=I5.loc
   refine hRR _ _ s5 m5 ns5 hDC (Nat.le_refl _) hCle _ ?_ (fun h' hs'=>vz I2 f2 hCle (Nat.le_refl _) hDC (unp I5) n5 p5 v4 hz hs') (qn _ n5)
   rw [aI hDC.symm]
   exact I5.free
  ·refine cx (T.item (dy X scope (vars++caps.map (·.2)) HP.objs.size s2 H2 fp) rfl rfl rfl (hc _) i _ s4 _ H4 _ I4p (fpo' fr4) st4 go) fun r s5 ⟨u,hr,h5⟩=>?_
   subst hr
   refine cx h5 fun _ s6 ⟨x,H6,I6,rx,yx,st6,fr6⟩=>?_
   have I6p:=I6.pinned (fpo' fr6) (T.obj _ _ st6)
   refine cx (hg _ _ _ _ _ s6 _ H6 x u _ I6p rx (step x H6 yx)) fun _ s7 ⟨σ7,H7,I7,kp,q7⟩=>?_
   refine cx (hb _ _ _ _ _ s7 σ7 H7 _ I7 q7) fun okb s7' q7'=>?_
   obtain ⟨H7',I7',q7'⟩:=q7'
   cases okb with
   | false=>
    obtain ⟨m',hm,w8⟩:=q7'
    rw [if_neg (by decide)]
    obtain ⟨p8,n8⟩:=pinD I7'.unpinned
    have st8:tn (i+1) s7'.heap:=T.keep _ _ _ st6 fun b hb o e=>(I7'.pin (b,o) (List.mem_append_right _ (List.mem_append_right _ (cT hb e)))).1
    have fr8:∀ b∈fp,H7' b=none:=fun b hb=>by
     obtain ⟨o,e,d⟩:=T.obj _ _ st6 b hb
     exact (I7'.pin (b,o) (List.mem_append_right _ (List.mem_append_right _ (cT hb e)))).2.1
    exact ⟨m',hm,i+1,ys,H7',its,(unp I7').weak kp.1 kp.2,st8,fr8,p8,n8,v4,w8⟩
   | true=>
   rw [if_pos rfl]
   rw [if_pos rfl] at q7'
   refine cx (he _ _ _ _ _ s7' σ7 H7' _ I7' q7') fun v s8 ⟨y,H8,I8,ry,m',hm,w8⟩=>?_
   obtain ⟨p8,n8⟩:=pinD I8.unpinned
   have st8:tn (i+1) s8.heap:=T.keep _ _ _ st6 fun b hb o e=>(I8.pin (b,o) (List.mem_append_right _ (List.mem_append_right _ (cT hb e)))).1
   have fr8:∀ b∈fp,H8 b=none:=fun b hb=>by
    obtain ⟨o,e,d⟩:=T.obj _ _ st6 b hb
    exact (I8.pin (b,o) (List.mem_append_right _ (List.mem_append_right _ (cT hb e)))).2.1
   have hl:=v4.length
   refine wpAny_list_append_plain p8 (fun h9 p9 sb9=>⟨m',hm,i+1,ys++[y],H8,its++[v],?_,?_,fr8,by simpa using p9,n8,v4.append (.cons ry .nil),w8⟩) (by simp; omega)
   ·have I9:Inv (dy X scope (vars++caps.map (·.2)) HP.objs.size s2 H2 fp) [] σ7 H8 { s8 with heap:=h9,toks:=s8.toks }:=
     (unp I8).turned (it:=s2.heap.objs.size) (fun b o hb e=>sb9.extBut b o hb e) n8 DnL (.inr (Nat.le_refl _)) DnC fun p hp=>absurd (show p∈([]:List (Addr×Obj)) from hp) (by simp)
    exact I9.weak kp.1 kp.2
   ·exact T.keep _ _ _ st8 fun b hb o e=>sb9.extBut b o (Dfp b hb).symm e
 exact codeAny_compStart_list (loop _ rfl) (T.self _ 0 _ _ _ st1 (loop _ rfl))
theorem xI (B:BlkOk X.env.scope.names X.N scope vars caps) (hc:X.calm=true) (hi:PI X tg iter wi)
  (hg:∀ C s₀ H₀ ex,PG (dy X scope (vars++caps.map (·.2)) C s₀ H₀ ex) tg g) (hb:∀ C s₀ H₀ ex,PT (dy X scope (vars++caps.map (·.2)) C s₀ H₀ ex) cnd tt) (he:∀ C s₀ H₀ ex,PE (dy X scope (vars++caps.map (·.2)) C s₀ H₀ ex) elt te) (hs:∀ x,foldedSetIterable iter X.env x=pure x:=by intro _; rfl) :
  PE X (.ListComp elt [⟨tg,iter,[cnd],0⟩] scope pos) (tH wi g tt te vars caps):=by
 intro pins s σ H Q I h
 rw [eval_ListComp]
 refine wpAny_comprehension_free (use:=none) rfl hs (eF (B.cells I)) B.kind B.names ?_
 show wpAny _ _ (eval iter X.env) _ _ s
 refine cx (hi pins s σ H _ I h) fun v s1 h1=>cx h1 fun itv s2 h2=>?_
 obtain ⟨it,fp,tn,J,H2,e,I2,T,st2,f2,W,⟨m0,w0⟩,turn⟩:=h2
 subst e
 exact li (Cm:=fun X=>X.calm=true) B hg hb he I2 T st2 f2 (fun _=>hc) w0 turn (RR:=fun acc C=>compPost (model X.prog X.w) X.A X.xe none (EP X pins σ Q) acc C) fun D C s' m ns _ _ _ H' _ k q=>⟨m,ns,fun h' hs'=>⟨.ref D,H',k h' hs',rfl,q⟩⟩
theorem xz {i:Nat} {y:Str} {py spos:Pos} (B:BlkOk X.env.scope.names X.N scope vars caps) (hc:X.calm=true) (hi:PI X tg iter wi)
  (hg:∀ C s₀ H₀ ex,PG (dy X scope (vars++caps.map (·.2)) C s₀ H₀ ex) tg g) (hb:∀ C s₀ H₀ ex,PT (dy X scope (vars++caps.map (·.2)) C s₀ H₀ ex) cnd tt) (he:∀ C s₀ H₀ ex,PE (dy X scope (vars++caps.map (·.2)) C s₀ H₀ ex) elt te)
  (hN:X.N.Nodup) (hy:X.N[i]? = some y) (hx:wR X.env.scope y) (hsw:swapsWith (.ListComp elt [⟨tg,iter,[cnd],0⟩] scope pos) (some (.Name y py)) spos.line X.env=pure true)
  (hf:X.fn y=true\/X.env.scope.names.lookup y=some .local) (hs:∀ x,foldedSetIterable iter X.env x=pure x:=by intro _; rfl) :
  PS X (.Assign [.Name y py] (.ListComp elt [⟨tg,iter,[cnd],0⟩] scope pos) spos) (fun D σ H=>tH wi g tt te vars caps σ H fun v H1=>D.nx (σ.set i (some v)) H1):=by
 intro pins s σ H DE I h
 rw [exec_Assign_Name_used _ _ _ _ hsw]
 refine wpAny_bind (wpAny_standAt (wpAny_bind ?_))
 show wpAny _ X.A (do let _ <- comprehension (.ListComp elt [⟨tg,iter,[cnd],0⟩] scope pos) scope X.env _ (newList []) false (eval iter X.env) (some (assign (.Name y py) X.env))) _ _ s
 refine wpAny_bind (wpAny_mono (wpAny_comprehension_free (use:=some (assign (.Name y py) X.env)) (Q:=fun _ s'=>SP X pins DE .next s') rfl hs (eF (B.cells I)) B.kind B.names
  (cx (hi pins s σ H _ I h) fun v s1 h1=>cx h1 fun itv s2 h2=>?_)) (fun _ s' hq=>wpAny_pure (wpAny_pure hq)) fun _ _ e=>e)
 obtain ⟨it,fp,tn,J,H2,e,I2,T,st2,f2,W,⟨m0,w0⟩,turn⟩:=h2
 subst e
 refine li (Cm:=fun X=>X.calm=true) (Q:=fun v H1=>DE.nx (σ.set i (some v)) H1) B hg hb he I2 T st2 f2 (fun _=>hc) w0 turn (RR:=fun acc C=>compPost (model X.prog X.w) X.A X.xe (some (assign (.Name y py) X.env)) (fun _ s'=>SP X pins DE .next s') acc C) ?_
 intro D C s' m ns hDC hD hC H' hHC k q
 obtain ⟨oC,es,ep,eC,dC,rC⟩:=ns
 have I':Inv X pins σ H' s':=k s'.heap (Heap.SameBut.refl ..)
 have nL:C≠X.env.locals:=fun z=>by have:=I2.lt; rw [<- z] at this; exact absurd (Nat.lt_of_lt_of_le this hC) (Nat.lt_irrefl _)
 have nF:C ∉ X.fs:=I2.nofs hC
 have nCell:∀ x c,X.env.cells.lookup x=some c->c≠C:=fun x c e z=>by
  obtain ⟨v,o,ho,_⟩:=I2.cell x c e
  have:=Heap.lt_size ho
  rw [z] at this
  exact absurd (Nat.lt_of_lt_of_le this hC) (Nat.lt_irrefl _)
 have nPin:∀ p∈X.pn++pins,p.1≠C:=fun p hp z=>by
  have:=Heap.lt_size (I2.pin p hp).1
  rw [z] at this
  exact absurd (Nat.lt_of_lt_of_le this hC) (Nat.lt_irrefl _)
 have Ip:Inv X (pins++[(C,oC)]) σ H' s':=I'.pins_of fun p hp=>by
  rcases List.mem_append.mp hp with z | z
  ·exact I'.pin p (List.mem_append_right _ z)
  ·have e:p=(C,oC):=by simpa using z
   subst e
   exact ⟨eC,hHC,nL,nF,fun v z=>by rw [dC] at z; cases z⟩
 refine cx (cG (pos:=py) hN hy hx hf _ s' σ H' (.ref D) (.ref D) (fun σ' H''=>σ' = σ.set i (some (.ref D))/\H''=H'/\DE.nx σ' H'') Ip rfl ⟨rfl,rfl,q⟩) fun _ s'' ⟨σ'',H'',I'',e1,e2,q''⟩=>?_
 subst e1 e2
 have eC'':s''.heap.get? C=some oC:=(I''.pin (C,oC) (List.mem_append_right _ (List.mem_append_right _ (by simp)))).1
 refine ⟨m,⟨oC,es,ep,eC'',dC,rC⟩,fun h' hs'=>⟨_,H'',?_,q''⟩⟩
 exact I''.unpinned.turned (t':=s''.toks) (it:=C) (fun b o hb e=>hs'.extBut b o hb e) hHC nL (.inr (Nat.le_trans I2.sz hC)) nCell nPin
end
noncomputable def hR (t:D->Option Bool) (f:D->Option D):List D->Option (List D)
 | []=>some []
 | d::ds=>(t d).bind fun b=>if b=true then (f d).bind fun e=>(hR t f ds).bind fun es=>some (e::es) else hR t f ds
@[simp] theorem GC {t:D->Option Bool} {f:D->Option D}:hR t f []=some []:=rfl
noncomputable def fJ (fi:Dv->Option (List D)) (caps:List (Nat×Str)) (bv:D->Option (List D)) (ft:Dv->Option Bool) (fe:Dv->Option D):Dv->Option D:=fun δ=>(fi δ).bind fun ds=>if ds.length<=sizeLine then (hR (fun d=>(bv d).bind fun vs=>ft (vs.map .fz++dS δ caps)) (fun d=>(bv d).bind fun vs=>fe (vs.map .fz++dS δ caps)) ds).bind fun es=>some (.list es) else none
theorem kN {t:D->Option Bool} {f:D->Option D}:∀ {ds es:List D} {i:Nat} {d:D},hR t f ds=some es->ds[i]? = some d->∃ xs,hR t f (ds.take i)=some xs/\∃ b,t d=some b/\(b=false->hR t f (ds.take (i+1))=some xs)/\(b=true->∃ e,f d=some e/\hR t f (ds.take (i+1))=some (xs++[e]))
 | [],es,i,d,h,q=>by simp at q
 | d::ds,es,i,d',h,q=>by
  obtain ⟨b,h1,h⟩:=bind_some h
  cases i with
  | zero=>
   simp at q; subst q
   refine ⟨[],rfl,b,h1,fun hb=>?_,fun hb=>?_⟩
   ·subst hb; simp [hR,h1]
   ·subst hb
    rw [if_pos rfl] at h
    obtain ⟨e,h2,h⟩:=bind_some h
    exact ⟨e,h2,by simp [hR,h1,h2]⟩
  | succ i=>
   simp at q
   cases b with
   | false=>
    rw [if_neg (by decide)] at h
    obtain ⟨xs,g1,b',g2,g3,g4⟩:=kN (i:=i) h q
    refine ⟨xs,by simp [hR,h1,g1],b',g2,fun hb=>by simpa [hR,h1] using g3 hb,fun hb=>?_⟩
    obtain ⟨e,k1,k2⟩:=g4 hb
    exact ⟨e,k1,by simpa [hR,h1] using k2⟩
   | true=>
    rw [if_pos rfl] at h
    obtain ⟨e0,h2,h⟩:=bind_some h
    obtain ⟨es',h3,h⟩:=bind_some h
    obtain ⟨xs,g1,b',g2,g3,g4⟩:=kN (i:=i) h3 q
    refine ⟨e0::xs,by simp [hR,h1,h2,g1],b',g2,fun hb=>by simp [hR,h1,h2,g3 hb],fun hb=>?_⟩
    obtain ⟨e,k1,k2⟩:=g4 hb
    exact ⟨e,k1,by simp [hR,h1,h2,k2]⟩
theorem qe {t:D->Option Bool} {f:D->Option D}:∀ {ds es:List D},hR t f ds=some es->es.length<=ds.length
 | [],es,h=>by cases h; exact Nat.le_refl _
 | d::ds,es,h=>by
  obtain ⟨b,h1,h⟩:=bind_some h
  cases b with
  | false=>rw [if_neg (by decide)] at h; exact Nat.le_succ_of_le (qe h)
  | true=>
   rw [if_pos rfl] at h
   obtain ⟨e0,h2,h⟩:=bind_some h
   obtain ⟨es',h3,h⟩:=bind_some h
   cases h
   exact Nat.succ_le_succ (qe h3)
section
variable {X:Cx} {scope:Scope} {vars:List Str} {caps:List (Nat×Str)} {elt tg iter cnd:Expr} {pos:Pos} {g:TG} {fi:Dv->Option (List D)} {ft:Dv->Option Bool} {fe:Dv->Option D} {bv:D->Option (List D)}
theorem ni (tk:uI X.K g vars.length bv) {σ:St} {H:Hp} {Q:VK} (h:tV X.K (fJ fi caps bv ft fe) σ H Q):tH (HH X.K fi) g (En X.K ft) (tV X.K fe) vars caps σ H Q:=by
 obtain ⟨H₀,Z₀,Z,δ,d,hh,e,k⟩:=h
 obtain ⟨ds,e1,e⟩:=bind_some e
 by_cases hz:ds.length<=sizeLine
 ·rw [if_pos hz] at e
  obtain ⟨es,e2,e⟩:=bind_some e
  cases e
  have hv:vars.map (fun _=>(none:Option V))=List.replicate vars.length none:=by rw [List.map_const']
  refine ⟨H₀,Z₀,Z,δ,ds,hh,e1,fun J Z1 H1 hh1 t1 ok=>?_⟩
  refine ⟨fun i m ys H=>m=ds.length-i/\i<=ds.length/\∃ Zc xs,Hold X.K H₀ Z₀ Zc δ σ H/\Same Z1 Zc/\hR (fun d=>(bv d).bind fun vs=>ft (vs.map .fz++dS δ caps)) (fun d=>(bv d).bind fun vs=>fe (vs.map .fz++dS δ caps)) (ds.take i)=some xs/\Reps X.K Zc ys xs,⟨ds.length,by simp,Nat.zero_le _,Z1,[],hh1,Same.refl _,rfl,.nil⟩,?_⟩
  rintro i m ys H2 ⟨rfl,hi2,Zc,xs,hhc,tc,fx,rc⟩
  have zh:Same Z1 H2:=tc.trans hhc.zh
  have ly:=rc.length
  have lx:=qe fx
  rw [List.length_take] at lx
  by_cases hlt:i<ds.length
  ·refine .inr ⟨ok.go i H2 zh hlt,by omega,fun x H3 y=>?_⟩
   have ed:ds[i]? = some ds[i]:=by simp [hlt]
   obtain ⟨rfl,rx⟩:=ok.yld i H2 x H3 _ zh ed y
   obtain ⟨xs',f0,b,fb,ff,ftr⟩:=kN e2 ed
   rw [fx] at f0
   cases f0
   obtain ⟨vs,f3,f1⟩:=bind_some fb
   rw [hv]
   refine tk x Zc ds[i] vs (gE σ caps) H3 _ (rx.same tc) hhc.zh f3 fun us ru hn=>⟨⟨by simp [hn],fun j v q=>?_⟩,?_⟩
   ·by_cases hj:j<vars.length
    ·rw [List.getElem?_append_left (by simpa using hj),List.getElem?_replicate] at q
     split at q <;> cases q
    ·rw [List.getElem?_append_right (by simpa using hj)] at q
     rw [List.getElem?_append_right (by simpa [hn] using hj)]
     simpa [hn] using q
   ·refine ⟨H3,Zc,Zc,_,b,sQ hhc ru,f1,fun Z3 H3' h3 t3=>?_⟩
    have hh3:=hhc.new ⟨t3,h3.h0,h3.zh,h3.zb,h3.nf⟩
    cases b with
    | false=>
     dsimp only
     rw [if_neg (by decide)]
     exact ⟨ds.length-(i+1),by omega,rfl,hlt,Z3,xs,hh3,tc.trans t3,ff rfl,rc.same t3⟩
    | true=>
     dsimp only
     rw [if_pos rfl]
     obtain ⟨ei,f2,f4⟩:=ftr rfl
     rw [f3] at f2
     refine ⟨H3,Zc,Z3,_,ei,h3,f2,fun v Z4 H4 h4 t4 r4=>⟨ds.length-(i+1),by omega,rfl,hlt,Z4,xs++[ei],?_,(tc.trans t3).trans t4,f4,((rc.same t3).same t4).append (.cons r4 .nil)⟩⟩
     exact hhc.new ⟨t3.trans t4,h4.h0,h4.zh,h4.zb,h4.nf⟩
  ·have hie:i=ds.length:=by omega
   subst hie
   refine .inl ⟨ok.stop _ H2 zh (Nat.le_refl _),by omega,fun p hp=>?_⟩
   rw [List.take_length,e2] at fx
   cases fx
   have n:=New.add hhc.zh hp (.lst ys)
   exact k _ _ _ (hhc.new n) ((t1.trans tc).trans n.z) (.lst (SqL.of aN) (rc.same n.z))
 ·rw [if_neg hz] at e; cases e
theorem iM (B:BlkOk X.env.scope.names X.N scope vars caps) (hc:X.calm=true) (hi:IV X tg iter fi) (tk:uI X.K g vars.length bv)
  (hg:∀ C s₀ H₀ ex,PG (dy X scope (vars++caps.map (·.2)) C s₀ H₀ ex) tg g) (hb:∀ C s₀ H₀ ex,TV (dy X scope (vars++caps.map (·.2)) C s₀ H₀ ex) cnd ft) (he:∀ C s₀ H₀ ex,EV (dy X scope (vars++caps.map (·.2)) C s₀ H₀ ex) elt fe) (hs:∀ x,foldedSetIterable iter X.env x=pure x:=by intro _; rfl) :
  EV X (.ListComp elt [⟨tg,iter,[cnd],0⟩] scope pos) (fJ fi caps bv ft fe):=
 PE.imp (xI (tt:=En X.K ft) (te:=tV X.K fe) B hc hi hg hb he hs) fun _ _ _ h=>ni tk h
theorem xg (i:Nat) {y:Str} {py spos:Pos} (hN:X.N.Nodup) (B:BlkOk X.env.scope.names X.N scope vars caps) (hc:X.calm=true) (hi:IV X tg iter fi) (tk:uI X.K g vars.length bv)
  (hg:∀ C s₀ H₀ ex,PG (dy X scope (vars++caps.map (·.2)) C s₀ H₀ ex) tg g) (hb:∀ C s₀ H₀ ex,TV (dy X scope (vars++caps.map (·.2)) C s₀ H₀ ex) cnd ft) (he:∀ C s₀ H₀ ex,EV (dy X scope (vars++caps.map (·.2)) C s₀ H₀ ex) elt fe)
  (hy:X.N[i]? = some y:=by rfl) (hx:wR X.env.scope y:=by first | exact Or.inl rfl | exact Or.inr rfl) (hsw:swapsWith (.ListComp elt [⟨tg,iter,[cnd],0⟩] scope pos) (some (.Name y py)) spos.line X.env=pure true:=by rfl)
  (hf:X.fn y=true\/X.env.scope.names.lookup y=some .local:=by first | exact .inl rfl | exact .inr rfl | assumption) (hs:∀ x,foldedSetIterable iter X.env x=pure x:=by intro _; rfl) :
  SV X (.Assign [.Name y py] (.ListComp elt [⟨tg,iter,[cnd],0⟩] scope pos) spos) (bP i (fJ fi caps bv ft fe)):=
 PS.imp (xz (tt:=En X.K ft) (te:=tV X.K fe) B hc hi hg hb he hN hy hx hsw hf hs) fun D σ H h=>by
  obtain ⟨H₀,Z₀,Z,δ,r,hh,e,k⟩:=h
  obtain ⟨x,e1,e⟩:=bind_some e
  cases e
  exact ni tk ⟨H₀,Z₀,Z,δ,x,hh,e1,fun v Z1 H1 hh1 s1 r1=>k _ H1 Z1 (hh1.set r1) s1⟩
end
end VL
namespace VL
open PySem PySem.Spec PyProof.Rows L2
noncomputable def wg (f1 f2 f3:Dv->Option D) (g g':D->D->Option D):Dv->Option D:=fun δ=>(f1 δ).bind fun a=>(f2 δ).bind fun b=>(g a b).bind fun r=>(asB r).bind fun k=>if k=true then (f3 δ).bind fun c=>g' b c else some (.bool false)
section
variable {X:Cx} {a b c:Expr} {pos:Pos} {f1 f2 f3:Dv->Option D}
theorem uC {K:Fg} {g g':D->D->Option D} {σ:St} {H:Hp} {Q:VK} (h:tV K (wg f1 f2 f3 g g') σ H Q):xb (rD K g) (rD K g') (tV K f1) (tV K f2) (tV K f3) σ H Q:=by
 obtain ⟨H₀,Z₀,Z,δ,d,hh,e,k⟩:=h
 obtain ⟨x,e1,ea⟩:=bind_some e
 obtain ⟨y,e2,eb⟩:=bind_some ea
 obtain ⟨r,e3,ec⟩:=bind_some eb
 obtain ⟨kk,e4,ed⟩:=bind_some ec
 clear e ea eb ec
 have er:=qB e4
 subst er
 refine ⟨H₀,Z₀,Z,δ,x,hh,e1,fun v1 Z1 H1 hh1 s1 r1=>⟨H₀,Z₀,Z1,δ,y,hh1,e2,fun v2 Z2 H2 hh2 s2 r2=>?_⟩⟩
 refine ⟨Z2,x,y,_,hh2.zh,r1.same s2,r2,e3,fun v3 Z3 H3 n r3=>⟨kk,r3.bl_eq,?_⟩⟩
 cases kk with
 | true=>
  rw [if_pos rfl] at ed ⊢
  obtain ⟨z,e5,e⟩:=bind_some ed
  refine ⟨H₀,Z₀,Z3,δ,z,hh2.new n,e5,fun v4 Z4 H4 hh4 s4 r4=>⟨Z4,y,z,d,hh4.zh,(r2.same n.z).same s4,r4,e,fun v5 Z5 H5 n5 r5=>?_⟩⟩
  exact k v5 Z5 H5 (hh4.new n5) ((((s1.trans s2).trans n.z).trans s4).trans n5.z) r5
 | false=>
  rw [if_neg (by decide)] at ed ⊢
  cases ed
  exact k _ Z3 H3 (hh2.new n) ((s1.trans s2).trans n.z) (.bl _)
theorem wY {op op':CmpOp} {g g':D->D->Option D} (ho:OpR X (compareOp op) (rD X.K g)) (ho':OpR X (compareOp op') (rD X.K g')) (ha:EV X a f1) (hb:EV X b f2) (hc:EV X c f3)
  (hm:lastMarks [op,op'] [b,c]=false:=by with_unfolding_all rfl):TV X (.Compare a [op,op'] [b,c] pos) (ob (wg f1 f2 f3 g g')):=
 PT.imp (xw ho ho' ha hb hc hm) fun _ _ _ h=>uC (HF h)
end
noncomputable def yB:D->Bool
 | .none=>true
 | .bool _=>true
 | .int _=>true
 | .str _=>true
 | _=>false
noncomputable def sB (x:D) (ds:List D):Bool:=ds.any fun y=>PyData.eqv y x
noncomputable def dP (neg:Bool):D->D->Option D:=fun a b=>(cY b).bind fun ds=>if yB a=true/\ds.all yB=true then some (.bool (if neg=true then !sB a ds else sB a ds)) else none
theorem Rep.flat {K:Fg} {Z:Hp} {v:V} {d:D} (r:Rep K Z v d):gk v=yB d:=by cases r <;> rfl
theorem Rep.eqF {K:Fg} {Z:Hp} {v u:V} {d e:D} (r:Rep K Z v d) (q:Rep K Z u e) (h1:yB d=true) (h2:yB e=true):zC v u=PyData.eqv d e:=by
 cases r <;> first | (cases q <;> first | rfl | cases h2) | cases h1
theorem Reps.allF {K:Fg} {Z:Hp}:∀ {vs:List V} {ds:List D},Reps K Z vs ds->vs.all gk=ds.all yB
 | _,_,.nil=>rfl
 | _,_,.cons r t=>by rw [List.all_cons,List.all_cons,r.flat,t.allF]
theorem Reps.inF {K:Fg} {Z:Hp} {x:V} {a:D} (q:Rep K Z x a) (h:yB a=true):∀ {vs:List V} {ds:List D},Reps K Z vs ds->ds.all yB=true->Hn x vs=sB a ds
 | _,_,.nil,_=>rfl
 | _,_,.cons r t,f=>by
  rw [List.all_cons,Bool.and_eq_true] at f
  show (zC _ x||Hn x _)=(PyData.eqv _ a||sB a _)
  rw [r.eqF q f.1 h,t.inF q h f.2]
theorem Bn {K:Fg} {neg:Bool} {x y:V} {H:Hp} {Q:VK} (h:rD K (dP neg) x y H Q):Ir K neg x y H Q:=by
 obtain ⟨Z,a,b,d,zh,ra,rb,e,k⟩:=h
 obtain ⟨ds,e1,e⟩:=bind_some e
 by_cases c:yB a=true/\ds.all yB=true
 ·rw [if_pos c] at e
  cases e
  have go:∀ (xs:List V),Reps K Z xs ds->(∃ p,y=.ref p/\(SqL K H p xs\/SqT K H p xs))->Ir K neg x y H Q:=fun xs r ⟨p,ey,hq⟩=>by
   refine ⟨p,xs,ey,hq,by rw [ra.flat]; exact c.1,by rw [r.allF]; exact c.2,?_⟩
   have:=r.inF ra c.1 c.2
   rw [this]
   exact k _ Z H (New.refl zh) (.bl _)
  cases rb with
  | lst h q=>cases e1; exact go _ q ⟨_,rfl,.inl (SqL.same h zh)⟩
  | tup h q=>cases e1; exact go _ q ⟨_,rfl,.inr (SqT.same h zh)⟩
  | _=>cases e1
 ·rw [if_neg c] at e; cases e
theorem lH {X:Cx}:OpR X (compareOp .In) (rD X.K (dP false)):=OpR.imp v9 fun _ _ _ _ h=>Bn h
noncomputable def gT:List (D->Dv->Option Dv)->List D->Dv->Option Dv
 | [],[],δ=>some δ
 | g::gs,d::ds,δ=>(g d δ).bind fun δ1=>gT gs ds δ1
 | _,_,_=>none
noncomputable def vi (gs:List (D->Dv->Option Dv)):D->Dv->Option Dv
 | .tuple ds,δ=>gT gs ds δ
 | _,_=>none
@[simp] theorem Jc (δ:Dv):gT [] [] δ = some δ:=rfl
@[simp] theorem Hv (g:D->Dv->Option Dv) (gs:List (D->Dv->Option Dv)) (d:D) (ds:List D) (δ:Dv):gT (g::gs) (d::ds) δ = (g d δ).bind fun δ1=>gT gs ds δ1:=rfl
@[simp] theorem Hu (gs:List (D->Dv->Option Dv)) (ds:List D) (δ:Dv):vi gs (.tuple ds) δ = gT gs ds δ:=rfl
theorem yz:∀ {gs:List (D->Dv->Option Dv)} {ds:List D} {δ δ':Dv},gT gs ds δ = some δ'->ds.length=gs.length
 | [],[],_,_,_=>rfl
 | [],_::_,_,_,h=>by cases h
 | _::_,[],_,_,h=>by cases h
 | g::gs,d::ds,δ,δ',h=>by
  obtain ⟨δ1,_,h⟩:=bind_some h
  exact congrArg (· + 1) (yz h)
noncomputable def HJ (K:Fg) (gs:List (D->Dv->Option Dv)):BP:=fun vs σ H Q=>∃ H₀ Z₀ Z δ ds δ',Hold K H₀ Z₀ Z δ σ H/\Reps K Z vs ds/\gT gs ds δ = some δ'/\∀ σ' H' Z',Hold K H₀ Z₀ Z' δ' σ' H'->Same Z Z'->Q σ' H'
def HA (X:Cx) (es:List Expr) (gs:List (D->Dv->Option Dv)):Prop:=PGs X es (HJ X.K gs)
section
variable {X:Cx} {pos:Pos} {e:Expr} {es:List Expr} {g:D->Dv->Option Dv} {gs:List (D->Dv->Option Dv)}
theorem PGs.imp {t t':BP} (h:PGs X es t) (i:∀ v σ H Q,t' v σ H Q->t v σ H Q):PGs X es t':=fun pins s σ H x v Q I r q=>h pins s σ H x v Q I r (i _ _ _ _ q)
theorem j0:HA X [] []:=PGs.imp Au fun vs σ H Q h=>by
 obtain ⟨H₀,Z₀,Z,δ,ds,δ',hh,r,e,k⟩:=h
 cases r with
 | nil=>cases e; exact ⟨rfl,k σ H Z hh (Same.refl _)⟩
 | cons _ _=>cases e
theorem dn (h1:GV X e g) (h2:HA X es gs) (hs:(assignEach (e::es) X.env).map (·.2)=assign e X.env::(assignEach es X.env).map (·.2):=by rfl):HA X (e::es) (g::gs):=
 PGs.imp (xC h1 h2 hs) fun vs σ H Q h=>by
  obtain ⟨H₀,Z₀,Z,δ,ds,δ',hh,r,e,k⟩:=h
  cases r with
  | nil=>cases e
  | cons r t=>
   obtain ⟨δ1,e1,e⟩:=bind_some e
   exact ⟨_,_,rfl,H₀,Z₀,Z,δ,_,δ1,hh,r,e1,fun σ1 H1 Z1 hh1 s1=>⟨H₀,Z₀,Z1,δ1,_,δ',hh1,t.same s1,e,fun σ2 H2 Z2 hh2 s2=>k σ2 H2 Z2 hh2 (s1.trans s2)⟩⟩
theorem m8 {k:Nat} (hc:X.calm=true) (h:HA X es gs) (hn:(assignEach es X.env).length=gs.length:=by rfl) (hst:(assignEach es X.env).findIdx? (·.1)=none:=by rfl):GV X (.Tuple es k pos) (vi gs):=
 PG.imp (C0 hc h hn hst) fun v σ H Q h=>by
  obtain ⟨H₀,Z₀,Z,δ,d,δ',hh,r,e,k⟩:=h
  cases r with
  | tup q t=>
   have el:_=gs.length:=yz (gs:=gs) e
   exact ⟨_,_,rfl,SqT.same q hh.zh,by rw [t.length]; exact el,H₀,Z₀,Z,δ,_,δ',hh,t,e,k⟩
  | _=>cases e
noncomputable def sAsg (f:Dv->Option D) (g:D->Dv->Option Dv):Sf:=fun δ=>(f δ).bind fun d=>(g d δ).bind fun δ'=>some (.nx,δ')
theorem xh {tg:Expr} {f:Dv->Option D} (he:EV X e f) (hg:GV X tg g) (hs:swapsWithSole [tg] e pos.line X.env=pure false:=by rfl) (hw:swappedStores [tg] e X.env=pure none:=by rfl)
  (h1:(assignEach [tg] X.env).map (·.2)=[assign tg X.env]:=by rfl):SV X (.Assign [tg] e pos) (sAsg f g):=
 PS.imp (CY he hg hs hw h1) fun D σ H h=>by
  obtain ⟨H₀,Z₀,Z,δ,r,hh,e,k⟩:=h
  obtain ⟨d,e1,e⟩:=bind_some e
  obtain ⟨δ',e2,e⟩:=bind_some e
  cases e
  exact ⟨H₀,Z₀,Z,δ,d,hh,e1,fun v Z1 H1 hh1 s1 r1=>⟨H₀,Z₀,Z1,δ,d,δ',hh1,r1,e2,fun σ' H' Z' hh' s'=>k σ' H' Z' hh' (s1.trans s')⟩⟩
end
noncomputable def wN:Nat:=1000000
theorem gS {t:Dv->Option Bool} {b:Sf}:∀ {n m:Nat} {δ:Dv} {r:Fl×Dv},eV t b n δ = some r->n<=m->eV t b m δ = some r
 | 0,_,_,_,h,_=>by cases h
 | n+1,0,_,_,_,hm=>by omega
 | n+1,m+1,δ,r,h,hm=>by
  have hm:n<=m:=by omega
  obtain ⟨c,h1,h⟩:=bind_some h
  show ((t δ).bind fun c=>_)=_
  rw [h1,Option.bind_some]
  cases c with
  | false=>exact h
  | true=>
   rw [if_pos rfl] at h ⊢
   obtain ⟨⟨fl,δ2⟩,h2,h⟩:=bind_some h
   rw [h2,Option.bind_some]
   cases fl with
   | nx=>exact gS h hm
   | ct=>exact gS h hm
   | bk=>exact h
   | rt d=>exact h
theorem mi {t:Dv->Option Bool} {b:Sf} {δ:Dv} (n:Nat) (h:t δ = some false):eV t b (n+1) δ = some (.nx,δ):=by
 show ((t δ).bind fun c=>_)=_
 rw [h]; rfl
theorem qL {t:Dv->Option Bool} {b:Sf} {δ δ2:Dv} {r:Fl×Dv} (n:Nat) (h:t δ = some true) (h2:b δ = some (.nx,δ2)) (h3:eV t b n δ2=some r):eV t b (n+1) δ = some r:=by
 show ((t δ).bind fun c=>_)=_
 rw [h,Option.bind_some,if_pos rfl,h2,Option.bind_some]
 exact h3
theorem bZ {g:D->Dv->Option Dv} {b:Sf} {d:D} {ds:List D} {δ δ1 δ2:Dv} (h1:g d δ = some δ1) (h2:b δ1=some (.nx,δ2)):loop g b (d::ds) δ = loop g b ds δ2:=by
 show ((g d δ).bind fun δ1=>_)=_
 rw [h1,Option.bind_some,h2]; rfl
theorem eM {g:D->Dv->Option Dv} {b:Sf} {d x:D} {ds:List D} {δ δ1 δ2:Dv} (h1:g d δ = some δ1) (h2:b δ1=some (.rt x,δ2)):loop g b (d::ds) δ = some (.rt x,δ2):=by
 show ((g d δ).bind fun δ1=>_)=_
 rw [h1,Option.bind_some,h2]; rfl
theorem vx {X:Cx} {ss:List Stmt}:BV X ss (fun _=>none):=fun pins s σ H D I h=>by
 obtain ⟨_,_,_,_,_,_,e,_⟩:=h
 cases e
end VL
namespace VL
open PySem PySem.Spec PyProof.Rows L2
def tO (K:Fg) (f:Dv->Option (List D)):TE:=fun σ H Q=>∃ H₀ Z₀ Z δ ds,Hold K H₀ Z₀ Z δ σ H/\f δ = some ds/\∀ p vs Z' H',Hold K H₀ Z₀ Z' δ σ H'->Same Z Z'->H' p=none->Reps K Z' vs ds->Q (.ref p) (upd H' p (.lst vs))
def EO (X:Cx) (e:Expr) (f:Dv->Option (List D)):Prop:=PE X e (tO X.K f)
noncomputable def IC (f:Dv->Option D):Dv->Option (List D):=fun δ=>(f δ).bind lstI
@[simp] noncomputable def JX (i:Nat) (f:Dv->Option (List D)):Sf:=fun δ=>(f δ).bind fun ds=>some (.nx,δ.set i (.ow ds))
noncomputable def vS (t:Sf):Fl×Dv->Option (Fl×Dv)
 | (.nx,δ)=>t δ
 | r=>some r
@[simp] theorem Hb (t:Sf) (δ:Dv):vS t (.nx,δ)=t δ:=rfl
@[simp] theorem Ha (t:Sf) (d:D) (δ:Dv):vS t (.rt d,δ)=some (.rt d,δ):=rfl
@[simp] theorem Hd (t:Sf) (δ:Dv):vS t (.bk,δ)=some (.bk,δ):=rfl
@[simp] theorem Hc (t:Sf) (δ:Dv):vS t (.ct,δ)=some (.ct,δ):=rfl
noncomputable def Hq (u w:Sf) (δ:Dv):Bool->Option (Fl×Dv)
 | true=>u δ
 | false=>w δ
@[simp] theorem J9 (u w:Sf) (δ:Dv):Hq u w δ true=u δ:=rfl
@[simp] theorem Ka (u w:Sf) (δ:Dv):Hq u w δ false=w δ:=rfl
theorem ah (s t:Sf) (δ:Dv):sSeq s t δ = (s δ).bind (vS t):=by
 unfold sSeq vS
 congr 1
theorem ao (t:Dv->Option Bool) (u w:Sf) (δ:Dv):sIf t u w δ = (t δ).bind (Hq u w δ):=by
 unfold sIf
 congr 1
 funext c
 cases c <;> rfl
end VL
namespace VL
open PySem PySem.Spec PyProof.Rows L2
noncomputable def qo:List D->Option (List Bool)
 | []=>some []
 | .bool b::r=>(qo r).map (b :: ·)
 | _=>none
noncomputable def yZ:List D->Option D
 | [.list xs]=>(qo xs).map fun bs=>.bool (bs.all id)
 | _=>none
theorem sP {α:Type} (f:α -> Bool):∀ xs:List α,qo (xs.map fun a=>.bool (f a))=some (xs.map f)
 | []=>rfl
 | a::r=>by simp [qo,sP f r]
theorem yY {α:Type} (f:α -> Bool) (xs:List α):yZ [.list (xs.map fun a=>.bool (f a))]=some (.bool (xs.all f)):=by
 simp [yZ,sP,List.all_map]
noncomputable def Fd:D->Option D
 | .list xs=>some (.list xs.reverse)
 | _=>none
@[simp] theorem CM (xs:List D):Fd (.list xs)=some (.list xs.reverse):=rfl
noncomputable def Fe:D->Option (List D)
 | .list xs=>some xs.reverse
 | .tuple xs=>some xs.reverse
 | _=>none
@[simp] theorem Er (xs:List D):Fe (.list xs)=some xs.reverse:=rfl
@[simp] theorem CN (xs:List D):Fe (.tuple xs)=some xs.reverse:=rfl
@[simp] noncomputable def JY:Sf:=fun _=>none
@[simp] noncomputable def KB (i:Nat) (f:Dv->Option D):Sf:=fun δ=>(f δ).bind fun v=>(cY v).bind fun es=>(za δ[i]?).bind fun ds=>if ds.length+es.length<=sizeLine then some (.nx,δ.set i (.ow (ds++es))) else none
section
variable {X:Cx} {e:Expr} {es:List Expr} {p pos tpos apos:Pos} {f:Dv->Option D} {st:Stmt}
theorem vy {K:Fg} {Z:Hp}:∀ {xs:List V} {ds:List D} {bs:List Bool} {its:List Value},Reps K Z xs ds->Vals xs its->qo ds=some bs->its.length=bs.length/\∀ (i:Nat) (v:Value),its[i]? = some v->∃ b,bs[i]? = some b/\v=.bool b
 | _,_,bs,_,.nil,.nil,h=>by cases h; exact ⟨rfl,fun i v q=>by simp at q⟩
 | _,_,bs,_,.cons r t,.cons q u,h=>by
  cases r with
  | bl b=>
   unfold qo at h
   cases g:qo _ with
   | none=>rw [g] at h; cases h
   | some cs=>
    rw [g] at h
    cases h
    obtain ⟨h1,h2⟩:=vy t u g
    refine ⟨by simp [h1],fun i v e=>?_⟩
    cases i with
    | zero=>simp at e; subst e; exact ⟨b,rfl,q⟩
    | succ i=>simp at e; simpa using h2 i v e
  | _=>cases h
theorem GW (hc:X.calm=true):CallR X (.builtin "all") (xu X.K yZ):=by
 intro pins s σ H xs us Q I rs q
 obtain ⟨Z,as,d,zh,ra,e,k⟩:=q
 cases ra with
 | nil=>cases e
 | cons r1 r2=>
  cases r2 with
  | cons _ _=>cases r1 <;> cases e
  | nil=>
   cases r1 with
   | @lst l ys ds h1 q1=>
    have e:(qo ds).map (fun bs=>PyData.bool (bs.all id))=some d:=e
    cases g:qo ds with
    | none=>rw [g] at e; cases e
    | some bs=>
     rw [g] at e
     cases e
     obtain ⟨u,rfl,ru⟩:=mm rs
     cases ru
     obtain ⟨its,rv,pl,hz⟩:=I.list (SqL.same h1 zh)
     obtain ⟨hlen,hget⟩:=vy q1 rv g
     have hl:=pl.isList
     have hlt:l<s.heap.objs.size:=by obtain ⟨_,e,_⟩:=hl; exact Heap.lt_size e
     refine call_all_walk (wpAny_pyIter_list hl ?_)
     refine ⟨s.heap.objs.size,[s.heap.objs.size,l],[s.heap.objs.size],its.toArray.size,_,_,fun i=>(bs[i]?).getD true,rfl,Walks.list (A:=X.A.in1) (I.ok.hd hc) _ l (Nat.ne_of_lt hlt) its.toArray,
      ⟨⟨_,Heap.get?_push_size _ rfl,rfl,rfl⟩,hl.push _⟩,fun i v s' Q' E' hP hQ=>?_,fun h' tk hk=>?_⟩
     ·obtain ⟨b,e,rfl⟩:=hget i v (by simpa using hP)
      simp only [e,Option.getD_some] at hQ
      exact wpAny_truthy_bool hQ
     ·have e:((List.range its.toArray.size).all fun i=>(bs[i]?).getD true)=bs.all id:=by
       rw [List.size_toArray,hlen]; exact LSm.range_all bs
      rw [e]
      exact ⟨.bl _,H,I.kept (t':=tk) (LSm.kept_iter hk),rfl,k _ Z H (New.refl zh) (.bl _)⟩
   | _=>cases e
theorem E7 {st:Stmt}:SV X st JY:=fun pins s σ H D I h=>by
 obtain ⟨_,_,_,_,_,_,e,_⟩:=h
 cases e
end
end VL
namespace VL
open PySem PySem.Spec PyProof.Rows L2
end VL
namespace VL
open PySem PySem.Spec PyProof.Rows L2
noncomputable def Ij:D->Option (List D)
 | .tuple xs=>some xs.reverse
 | _=>none
@[simp] theorem CL (xs:List D):Ij (.tuple xs)=some xs.reverse:=rfl
end VL
namespace VL
open PySem PySem.Spec PyProof.Rows L2
def F2 (h:Heap) (e:Addr):Prop:=∃ oe vs,h.get? e=some oe/\oe.data=.fields vs/\vs[2]? = some .none
def FlyX (base:Heap) (l:List Env) (e:Addr) (cls a0:Value) (h:Heap):Prop:=Heap.FlyingW base l e cls a0 h/\F2 h e
def Cu (base:Heap) (l:List Env) (e:Addr) (cls a0:Value) (L:Addr) (h:Heap):Prop:=Heap.HeldW base l e cls a0 L h/\F2 h e
structure Put (l:List Env) (e T:Addr) (oe:Obj) (fl:Value) (h h':Heap):Prop where
 new:h.get? T=none
 ex:h'.get? e=some (oe.mapFields (·.setIfInBounds 1 (.ref T)))
 tb:∃ oT ts,h'.get? T=some oT/\oT.data=.fields ts/\ts[3]? = some fl
 keep:∀ b o,b≠e->b ∉ iK l->h.get? b=some o->h'.get? b=some o
 slot:∀ b o,b≠e->h.get? b=some o->∃ sl,h'.get? b=some { o with slots:=sl }
section
variable {M:Model} {A:Around} {E:Value->Shared->Prop} {s:Shared}
theorem oA {base:Heap} {env:Env} {outer:List Env} {L e:Addr} {oe:Obj} {vs:Array Value} {head:Value} {nx:Bool} {Q:Unit->Shared->Prop}
  (hfr:A.frames=some (env::outer)) (hl:s.heap.FunFrames base (env::outer)) (hf:env.frame=some L) (he:s.heap.get? e=some oe) (hd:oe.data=.fields vs) (hsz:1<vs.size)
  (h:∀ h' T,Put (env::outer) e T oe (rawInt L) s.heap h'->Q () { s with heap:=h' }) :
  wpAny M A (do let a <- frameOf env; let pl <- entryPlaceOf L nx; let b <- EntryCells.newEntry head a .none (rawInt L) .none pl; setField (.ref e) 1 b) Q E s:=by
 have hene:e ∉ iK (env::outer):=fun hm=>by
  obtain ⟨_,o,ho,hnf⟩:=hl.mem hm
  rw [he] at ho; cases ho; exact hnf vs hd
 refine wpAny_bind (wpAny_frameOf_fun hfr hl hf fun h₁ hs₁=>wpAny_bind (wpAny_entryPlaceOf fun pl hpl=>?_))
 unfold EntryCells.newEntry newFields
 refine wpAny_bind (wpAny_newObj_type ?_ (hpl.sizeOk5 _ _ _ _ _))
 have he₁:h₁.get? e=some oe:=(hs₁.2.1 e hene).trans he
 have nT:s.heap.get? h₁.objs.size=none:=by
  cases q:s.heap.get? h₁.objs.size with
  | none=>rfl
  | some o=>
   obtain ⟨sl,q2⟩:=hs₁.2.2 _ o q
   exact absurd (Heap.lt_size q2) (Nat.lt_irrefl _)
 refine wpAny_setField (Heap.get?_push_of_some _ he₁) hd hsz (h _ h₁.objs.size ⟨nT,?_,?_,fun b o hb hbf q=>?_,fun b o hb q=>?_⟩)
 ·exact Heap.get?_update_self _ (Heap.get?_push_of_some _ he₁) (Obj.isFreed_of_fields (Obj.data_mapFields hd _))
 ·refine ⟨_,_,(Heap.get?_update_other _ _ (Nat.ne_of_lt (Heap.lt_size he₁))).trans (Heap.get?_push_size h₁ rfl),rfl,?_⟩
  first | (simp; done) | (rcases hpl with rfl | ⟨_,_,_,_,_,_,_,rfl⟩ <;> simp)
 ·rw [Heap.get?_update_other _ _ (Ne.symm hb)]
  exact Heap.get?_push_of_some _ ((hs₁.2.1 b hbf).trans q)
 ·obtain ⟨sl,q2⟩:=hs₁.2.2 b o q
  exact ⟨sl,by rw [Heap.get?_update_other _ _ (Ne.symm hb)]; exact Heap.get?_push_of_some _ q2⟩
theorem Put.flies {base h h':Heap} {l:List Env} {e T:Addr} {oe:Obj} {vs:Array Value} {fl a0:Value} (p:Put l e T oe fl h h') (hkb:base.StaysIn h) (hl:h.FunFrames base l) (hen:base.get? e=none) (he:h.get? e=some oe) (hd:oe.data=.fields vs) (h0:vs[0]? = some a0) (h2:vs[2]? = some .none) :
  base.StaysIn h'/\h'.FunFrames base l/\h'.TracedAtW base e oe.cls a0 fl/\F2 h' e/\h.UpToSlots h':=by
 have hsz:2<vs.size:=(Array.getElem?_eq_some_iff.mp h2).1
 have hd3:=Obj.data_mapFields hd (·.setIfInBounds 1 (Value.ref T))
 have hTe:T≠e:=fun z=>by subst z; rw [p.new] at he; cases he
 obtain ⟨oT,ts,q1,q2,q3⟩:=p.tb
 have ne:∀ b o,h.get? b=some o->(∀ ws,o.data≠.fields ws)->b≠e:=fun b o hb hnf z=>by subst z; rw [he] at hb; cases hb; exact hnf _ hd
 have nT:base.get? T=none:=by
  cases q:base.get? T with
  | none=>rfl
  | some o=>have:=hkb _ _ q; rw [p.new] at this; cases this
 refine ⟨fun b o hb=>p.keep b o (fun z=>by subst z; rw [hen] at hb; cases hb) (fun z=>?_) (hkb b o hb),hl.of_keeps fun b o hb hnf=>?_,⟨_,_,T,oT,ts,p.ex,⟨Obj.cls_mapFields _ _,by rw [Array.getElem?_setIfInBounds_ne (by decide)]; exact h0⟩,hd3,by rw [Array.getElem?_setIfInBounds_self,if_pos (by omega)],nT,hTe,q1,q2,q3⟩,⟨_,_,p.ex,hd3,by rw [Array.getElem?_setIfInBounds_ne (by decide)]; exact h2⟩,fun b o hb hnf=>p.slot b o (ne b o hb hnf) hb⟩
 ·rw [(hl.mem z).1] at hb; cases hb
 ·obtain ⟨sl,q⟩:=p.slot b o (ne b o hb hnf) hb
  exact ⟨_,q,rfl⟩
theorem oW {base:Heap} {l:List Env} {e:Addr} {cls a0 fl:Value} {Q:Unit->Shared->Prop} (hkb:base.StaysIn s.heap) (hl:s.heap.FunFrames base l) (ht:s.heap.TracedAtW base e cls a0 fl) (h2:F2 s.heap e)
  (h:∀ h',base.StaysIn h'->h'.FunFrames base l->h'.TracedW base e cls a0->F2 h' e->s.heap.UpToSlots h'->Q () { s with heap:=h' }):wpAny M A (setFlight (.ref e) none) Q E s:=by
 obtain ⟨oe,vs,T,oT,ts,he,hcls,hd,h1,hnT,hTe,hT,hdT,h3⟩:=ht
 have hsz3:3<ts.size:=(Array.getElem?_eq_some_iff.mp h3).1
 have other:∀ b,b≠T->(s.heap.update T (Obj.mapFields (·.setIfInBounds 3 ((none:Option Addr).elim Value.none fun f=>rawInt f)))).get? b=s.heap.get? b:=fun b hb=>Heap.get?_update_other _ _ (Ne.symm hb)
 have noR:∀ b o,s.heap.get? b=some o->(∀ ws,o.data≠.fields ws)->b≠T:=fun b o hb hnf q=>by
  subst q; rw [hT] at hb; cases hb; exact hnf _ hdT
 unfold setFlight
 refine wpAny_bind (wpAny_field he hd h1 ?_)
 rw [if_pos (show (Value.ref T != Value.none)=true from by simp)]
 refine wpAny_setField hT hdT hsz3 (h _ (fun b o hb=>(other b fun q=>by subst q; rw [hnT] at hb; cases hb).trans (hkb b o hb)) (hl.of_keeps fun b o hb hnf=>⟨o,(other b (noR b o hb hnf)).trans hb,rfl⟩) ?_ ?_ fun b o hb hnf=>⟨o.slots,(other b (noR b o hb hnf)).trans hb⟩)
 ·exact ⟨oe,vs,T,_,_,(other e (Ne.symm hTe)).trans he,hcls,hd,h1,hnT,hTe,Heap.get?_update_self _ hT (Obj.isFreed_of_fields (Obj.data_mapFields hdT _)),Obj.data_mapFields hdT _,by simp [hsz3]⟩
 ·obtain ⟨o2,v2,q1,q2,q3⟩:=h2
  exact ⟨o2,v2,(other e (Ne.symm hTe)).trans q1,q2,q3⟩
theorem u7 {base:Heap} {env:Env} {outer:List Env} {L e:Addr} {cls a0:Value} {Q:Unit->Shared->Prop} (hfr:A.frames=some (env::outer)) (hf:env.frame=some L) (hfl:FlyX base (env::outer) e cls a0 s.heap)
  (hQ:∀ h',Cu base (env::outer) e cls a0 L h'->s.heap.UpToSlots h'->Q () { s with heap:=h' }):wpAny M A (noteFrame (.ref e) env) Q E s:=by
 obtain ⟨⟨hkb,hen,hl,oe,vs,T,oT,ts,he,⟨hcls,h0⟩,hd,h1,hnT,hTe,hT,hdT,h3⟩,h2⟩:=hfl
 subst hcls
 have h2:vs[2]? = some .none:=by
  obtain ⟨o2,v2,q1,q2,q3⟩:=h2
  rw [he] at q1; cases q1; rw [hd] at q2; cases q2; exact q3
 have other:∀ b,b≠T->(s.heap.update T (Obj.mapFields (·.setIfInBounds 3 Value.none))).get? b=s.heap.get? b:=fun b hb=>Heap.get?_update_other _ _ (Ne.symm hb)
 have noR:∀ b o,s.heap.get? b=some o->(∀ ws,o.data≠.fields ws)->b≠T:=fun b o hb hnf q=>by
  subst q; rw [hT] at hb; cases hb; exact hnf _ hdT
 unfold noteFrame
 simp only [hf]
 refine wpAny_bind (wpAny_field he hd h1 ?_)
 rw [if_pos (show (Value.ref T != Value.none)=true from by simp)]
 refine wpAny_bind (wpAny_field hT hdT h3 ?_)
 rw [if_neg (show ¬ ((Value.none==rawInt L)=true) from by simp [rawInt])]
 refine wpAny_bind (wpAny_setField hT hdT (Array.getElem?_eq_some_iff.mp h3).1 ?_)
 have hl':(s.heap.update T (Obj.mapFields (·.setIfInBounds 3 Value.none))).FunFrames base (env::outer):=hl.of_keeps fun b o hb hnf=>⟨o,(other b (noR b o hb hnf)).trans hb,rfl⟩
 have he':=(other e (Ne.symm hTe)).trans he
 refine oA hfr hl' hf he' hd (Array.getElem?_eq_some_iff.mp h1).1 fun h' T' p=>?_
 obtain ⟨k1,k2,k3,k4,k5⟩:=p.flies (fun b o hb=>(other b fun q=>by subst q; rw [hnT] at hb; cases hb).trans (hkb b o hb)) hl' hen he' hd h0 h2
 exact hQ h' ⟨⟨k1,hen,k2,k3⟩,k4⟩ fun b o hb hnf=>k5 b o ((other b (noR b o hb hnf)).trans hb) hnf
theorem p0 {base:Heap} {l:List Env} {e L:Addr} {cls a0:Value} {Q:Unit->Shared->Prop} (hh:Cu base l e cls a0 L s.heap)
  (hQ:∀ h',FlyX base l e cls a0 h'->s.heap.UpToSlots h'->Q () { s with heap:=h' }):wpAny M A (setFlight (.ref e) none) Q E s:=by
 obtain ⟨⟨f1,f2,f3,f4⟩,f5⟩:=hh
 exact oW f1 f3 f4 f5 fun h' k1 k2 k3 k4 k5=>hQ h' ⟨⟨k1,f2,k2,k3⟩,k4⟩ k5
theorem nV {base:Heap} {l:List Env} {e:Addr} {cls a0:Value} {Q:Unit->Shared->Prop} (hh:FlyX base l e cls a0 s.heap)
  (hQ:∀ h',FlyX base l e cls a0 h'->s.heap.UpToSlots h'->Q () { s with heap:=h' }):wpAny M A (setFlight (.ref e) none) Q E s:=by
 obtain ⟨⟨f1,f2,f3,f4⟩,f5⟩:=hh
 exact oW f1 f3 f4.at f5 fun h' k1 k2 k3 k4 k5=>hQ h' ⟨⟨k1,f2,k2,k3⟩,k4⟩ k5
theorem FlyX.pop {base h:Heap} {env:Env} {l:List Env} {e:Addr} {cls a0:Value} (x:FlyX base (env::l) e cls a0 h):FlyX base l e cls a0 h:=
 let ⟨⟨k1,k2,⟨_,_,k3⟩,k4⟩,k5⟩:=x; ⟨⟨k1,k2,k3,k4⟩,k5⟩
theorem rZ {base:Heap} {env:Env} {outer:List Env} {L e:Addr} {cls a0:Value} {Q:Unit->Shared->Prop} (hfr:A.frames=some (env::outer)) (hf:env.frame=some L) (hfl:FlyX base (env::outer) e cls a0 s.heap)
  (hQ:∀ h',FlyX base outer e cls a0 h'->s.heap.UpToSlots h'->Q () { s with heap:=h' }):wpAny M A (leaving env (.ref e)) Q E s:=by
 unfold leaving
 refine wpAny_bind (u7 hfr hf hfl fun h1 x1 u1=>?_)
 exact p0 (s:={ s with heap:=h1 }) x1 fun h2 x2 u2=>hQ h2 x2.pop (u1.trans u2)
theorem nU {base h:Heap} {env:Env} {outer:List Env} {L e:Addr} {cls:Value} {args:List Value} {Q:Unit->Shared->Prop}
  (hfr:A.frames=some (env::outer)) (hf:env.frame=some L) (hkb:base.StaysIn h) (hl:h.FunFrames base (env::outer)) (hx:Heap.MadeExcOf h s.heap e cls args)
  (hQ:∀ h' t,FlyX base outer e cls (.ref t) h'->s.heap.UpToSlots h'->Q () { s with heap:=h' }):wpAny M A (leaving env (.ref e)) Q E s:=by
 obtain ⟨t,he,htn,ht⟩:=hx.there
 have fresh:∀ b,h.get? b=none->base.get? b=none:=fun b hb=>by
  cases hq:base.get? b with
  | none=>rfl
  | some o'=>have:=hkb b o' hq; rw [hb] at this; cases this
 have hl2:s.heap.FunFrames base (env::outer):=hl.of_keeps fun b o hb _=>⟨o,hx.keeps b o hb,rfl⟩
 unfold leaving noteFrame
 simp only [hf]
 refine wpAny_bind (wpAny_bind (wpAny_field he rfl (x:=.none) rfl ?_))
 rw [if_neg (by decide)]
 refine oA hfr hl2 hf he rfl (by simp) fun h1 T p=>?_
 obtain ⟨k1,k2,k3,k4,k5⟩:=p.flies (a0:=.ref t) (fun b o hb=>hx.keeps b o (hkb b o hb)) hl2 (fresh e hx.new) he rfl rfl rfl
 exact p0 (s:={ s with heap:=h1 }) (L:=L) ⟨⟨k1,fresh e hx.new,k2,k3⟩,k4⟩ fun h2 x2 u2=>hQ h2 t x2.pop (k5.trans u2)
end
end VL
namespace VL
open PySem PySem.Spec PyProof.Rows L2
noncomputable def fL (n:Str):D:=.dict [(.str "fn",.str n)]
abbrev Xf:=Dv->Option (Str×Dv)
@[simp] noncomputable def JD:Xf:=fun _=>none
@[simp] noncomputable def wS (n:Str) (f:Dv->Option D):Xf:=fun δ=>(f δ).bind fun _=>some (n,δ)
@[simp] noncomputable def xE (f:Dv->Option Str):Xf:=fun δ=>(f δ).bind fun n=>some (n,δ)
@[simp] noncomputable def JG (t:Dv->Option Bool) (u w:Xf):Xf:=fun δ=>(t δ).bind fun c=>if c=true then u δ else w δ
@[simp] noncomputable def HC (s:Sf) (u:Xf):Xf:=fun δ=>(s δ).bind fun r=>match r with
 | (.nx,δ')=>u δ'
 | _=>none
@[simp] noncomputable def JM (u1:Xf) (s:Sf) (u:Xf):Xf:=fun δ=>match u1 δ with
 | some r=>some r
 | none=>HC s u δ
noncomputable def vV (N:List Str) (m:Nat) (fx:Xf):List D->Option Str:=fun as=>if as.length=m then (fx (aj N as)).bind fun r=>some r.1 else none
@[simp] noncomputable def KN (fs:Dv->Option (List D)) (g:List D->Option Str):Dv->Option Str:=fun δ=>(fs δ).bind g
theorem la {P:Program} {w:World} {H:Hp} {h:Heap} {a:Addr} {o:HO} (x:ObjOk P w H h a o):∃ ob,h.get? a=some ob:=by
 cases o with
 | lst xs=>obtain ⟨_,_,_,_,e⟩:=x; exact ⟨_,e⟩
 | tup xs=>obtain ⟨_,_,_,⟨ob,e,_⟩,_⟩:=x; exact ⟨_,e⟩
 | dK kvs=>obtain ⟨_,_,_,_,o,_,_,e,_⟩:=x; exact ⟨_,e⟩
 | dT kvs=>obtain ⟨_,_,_,_,o,_,_,e,_⟩:=x; exact ⟨_,e⟩
 | set S n=>obtain ⟨o,_,_,_,e,_⟩:=x; exact ⟨_,e⟩
 | ins C dx fs=>obtain ⟨_,_,_,e,_⟩:=x; exact ⟨_,e⟩
 | own y=>exact x
 | xd fs=>obtain ⟨_,⟨_,_,_,e,_⟩,_⟩:=x; exact ⟨_,e⟩
 | rng lo hi=>obtain ⟨_,_,_,e⟩:=x; exact ⟨_,e⟩
 | frz ob u=>exact ⟨_,x.1⟩
 | tbl ps=>exact ⟨_,x⟩
 | met f y=>exact ⟨_,x⟩
 | ext φ=>exact x.2.1
theorem yF {P:Program} {w:World} {H:Hp} {h:Heap} {x C:Addr} {o:Obj} (e:h.get? x=some o) (c:o.cls=.ref C) (f:F2 h x):ObjOk P w H h x (n0 x C):=
 ⟨⟨o,e,c,by obtain ⟨o',vs,q1,q2⟩:=f; rw [e] at q1; cases q1; exact ⟨vs,q2⟩⟩,⟨o,e⟩,fun h1 h2 ⟨o',e',c'⟩ k=>⟨o',k o' e',c'⟩⟩
theorem FlyX.there {base h:Heap} {l:List Env} {e:Addr} {cls a0:Value} (x:FlyX base l e cls a0 h):∃ ob,h.get? e=some ob/\ob.cls=cls:=x.1.there
structure Thrown (P:Program) (w:World) (outer:List Env) (H:Hp) (s:Shared) (x C:Addr) (H':Hp) (s':Shared):Prop where
 os:s'.os=s.os
 bare:AllBare s'.gens
 un:Un (iK outer) [] H H' s.heap s'.heap
 hok:HOk P w H' s'.heap
 sm:Same H H'
 is:H' x=some (n0 x C)
 fly:∃ B t,FlyX B outer x (.ref C) t s'.heap/\(∀ b o,H' b=some o->b≠x->∃ ob,B.get? b=some ob)/\(∀ b o,s.heap.get? b=some o->H b=none->b ∉ iK outer->B.get? b=some o)
noncomputable def ti (P:Program) (w:World):uK:=fun outer H s E e s'=>∃ x C H',e=.ref x/\Thrown P w outer H s x C H' s'/\E (.ref C) (some x) H'
theorem vh {P:Program} {w:World} {H2:Hp} {B h2 h':Heap} {l l':List Env} {x C:Addr} {t t':Value} (ok:HOk P w H2 h2) (is:H2 x=some (n0 x C)) (k2:B.StaysIn h2) (fl':FlyX B l' x (.ref C) t' h')
  (hB:∀ b o,H2 b=some o->b≠x->∃ ob,B.get? b=some ob):HOk P w H2 h':=fun b o e=>by
 by_cases hb:b=x
 ·subst hb
  rw [is] at e; cases e
  obtain ⟨ob,h1,h2⟩:=fl'.there
  exact yF h1 h2 fl'.2
 ·refine (ok b o e).stay (fun c u hc q=>?_) (fun _ q=>q) fun _ _ q=>q
  have:∃ ob,B.get? c=some ob:=by
   rcases hc with rfl | hc
   ·exact hB c o e hb
   ·refine hB c _ hc fun z=>?_
    subst z; rw [is] at hc; cases hc
  obtain ⟨ob,hob⟩:=this
  have:=k2 c ob hob
  rw [q] at this; cases this
  exact fl'.1.1 c _ hob
section
variable {P:Program} {w:World} {K:PySem.W.Frag} {mg:Str->Option Value} {base:Heap} {N:List Str} {qual:Str} {scope:Scope} {f:Addr} {cd:Value} {A:Around} {outer:List Env} {s:Shared} {H:Hp} {E:XK} {pins:List (Addr×Obj)} {σ:St} {H1 H2:Hp} {s1 s2:Shared} {x C:Addr}
theorem ya (I:Inv (gO (ti P w) P w K mg base N qual scope f cd A outer s H E) pins σ H1 s1) (T:Thrown P w (gO (ti P w) P w K mg base N qual scope f cd A outer s H E).stack H1 s1 x C H2 s2) (hE:E (.ref C) (some x) H2) (h0:Same H H2) :
  (gO (ti P w) P w K mg base N qual scope f cd A outer s H E).xe (.ref x) s2:=by
 obtain ⟨B,t,fl,hB1,hB2⟩:=T.fly
 have hfr:=I.ok.frames
 have loc:∀ b o,s.heap.get? b=some o->b ∉ iK outer->b ∉ iK (gO (ti P w) P w K mg base N qual scope f cd A outer s H E).stack:=fun b o q hb z=>by
  rcases List.mem_cons.mp (I.stkSub b z) with e | e
  ·exact absurd (Heap.lt_size q) (by rw [e]; exact Nat.not_lt.mpr I.ok.above)
  ·exact hb e
 have keep:∀ b o,s.heap.get? b=some o->H b=none->b ∉ iK outer->B.get? b=some o:=fun b o q n hb=>
  hB2 b o (I.base.keep b o q n hb (fun z=>nomatch z)) (I.base.free b o q n (fun z=>nomatch z)) (loc b o q hb)
 refine rZ hfr rfl fl fun h' fl' sm=>?_
 have slot:∀ b o,s.heap.get? b=some o->H b=none->b∈iK outer->∃ sl,h'.get? b=some { o with slots:=sl }:=fun b o q n hb=>by
  obtain ⟨sl,e1⟩:=I.base.slot b o q n hb (fun z=>nomatch z)
  have hb':b∈iK (gO (ti P w) P w K mg base N qual scope f cd A outer s H E).stack:=by
   show b∈List.filterMap _ (_::outer)
   exact List.mem_filterMap.mpr (by obtain ⟨env,he,hf⟩:=List.mem_filterMap.mp hb; exact ⟨env,List.mem_cons_of_mem _ he,hf⟩)
  obtain ⟨sl2,e2⟩:=T.un.slot b _ e1 (I.base.free b o q n (fun z=>nomatch z)) hb' (fun z=>nomatch z)
  obtain ⟨_,o',ho',hd⟩:=I.ok.funs.mem hb
  have ho2:s.heap.get? b=some o':=ho'
  rw [q] at ho2; cases ho2
  obtain ⟨sl3,e3⟩:=sm b _ e2 hd
  exact ⟨sl3,e3⟩
 refine ⟨x,C,H2,rfl,⟨T.os.trans I.os,T.bare,⟨fun b o q n hb _=>fl'.1.1 b o (keep b o q n hb),fun b o q n hb _=>slot b o q n hb,fun b o q n _=>?_,fun b o q _=>?_,fun b xs e=>T.un.tups b xs (I.base.tups b xs e),fun b o u e=>T.un.frzs b o u (I.base.frzs b o u e),fun b ps e=>?_⟩,vh (l:=[]) (t:=t) T.hok T.is fl.1.1 fl' hB1,h0,T.is,⟨B,t,fl',hB1,keep⟩⟩,hE⟩
 ·obtain ⟨o1,e1⟩:=I.base.there b o q (fun z=>nomatch z)
  exact T.un.free b o1 e1 (I.base.free b o q n (fun z=>nomatch z)) (fun z=>nomatch z)
 ·cases q2:H2 b with
  | some ho=>
   by_cases hb:b=x
   ·subst hb; obtain ⟨ob,e1,_⟩:=fl'.there; exact ⟨ob,e1⟩
   ·obtain ⟨ob,e1⟩:=hB1 b ho q2 hb; exact ⟨ob,fl'.1.1 b ob e1⟩
  | none=>
   have n:H b=none:=by
    cases e:H b with
    | none=>rfl
    | some z=>rw [h0 b z e] at q2; cases q2
   by_cases hb:b∈iK outer
   ·obtain ⟨sl,e⟩:=slot b o q n hb; exact ⟨_,e⟩
   ·exact ⟨o,fl'.1.1 b o (keep b o q n hb)⟩
 ·obtain ⟨m1,e1⟩:=I.base.tbls b ps e
  obtain ⟨m2,e2⟩:=T.un.tbls b _ e1
  exact ⟨m1++m2,by rw [e2,Array.append_assoc]⟩
theorem uc {vs:List Value} (I:Inv (gO (ti P w) P w K mg base N qual scope f cd A outer s H E) pins σ H1 s1) (hs:s2={ s1 with heap:=s2.heap }) (hx:Heap.MadeExcOf s1.heap s2.heap x (.ref C) vs) (h0:Same H H1) (hE:H1 x=none->E (.ref C) (some x) (upd H1 x (n0 x C))) :
  (gO (ti P w) P w K mg base N qual scope f cd A outer s H E).xe (.ref x) s2:=by
 have hfr:=I.ok.frames
 have n1:H1 x=none:=by
  cases e:H1 x with
  | none=>rfl
  | some o=>obtain ⟨ob,h⟩:=la (I.hok x o e); rw [hx.new] at h; cases h
 have loc:∀ b o,s.heap.get? b=some o->b ∉ iK outer->b ∉ iK (gO (ti P w) P w K mg base N qual scope f cd A outer s H E).stack:=fun b o q hb z=>by
  rcases List.mem_cons.mp (I.stkSub b z) with e | e
  ·exact absurd (Heap.lt_size q) (by rw [e]; exact Nat.not_lt.mpr I.ok.above)
  ·exact hb e
 have hin:∀ env∈(gO (ti P w) P w K mg base N qual scope f cd A outer s H E).stack,∀ b,env.frame=some b->b∈iK (gO (ti P w) P w K mg base N qual scope f cd A outer s H E).stack:=fun env he b hb=>List.mem_filterMap.mpr ⟨env,he,hb⟩
 have keep:∀ b o,s.heap.get? b=some o->H b=none->b ∉ iK outer->(PySem.W.hideAll s1.heap (iK (gO (ti P w) P w K mg base N qual scope f cd A outer s H E).stack)).get? b=some o:=fun b o q n hb=>
  PySem.W.hideAll_get _ (I.base.keep b o q n hb (fun z=>nomatch z)) (loc b o q hb)
 have trk:∀ b o,H1 b=some o->∃ ob,(PySem.W.hideAll s1.heap (iK (gO (ti P w) P w K mg base N qual scope f cd A outer s H E).stack)).get? b=some ob:=fun b o e=>by
  obtain ⟨ob,h⟩:=la (I.hok b o e)
  refine ⟨ob,PySem.W.hideAll_get _ h fun z=>?_⟩
  rw [I.stkFree b z] at e; cases e
 refine nU hfr rfl (fun b o q=>PySem.W.of_hideAll _ q) (PySem.W.funFrames_hide I.stack hin) hx fun h' t fl sm=>?_
 have slot:∀ b o,s.heap.get? b=some o->H b=none->b∈iK outer->∃ sl,h'.get? b=some { o with slots:=sl }:=fun b o q n hb=>by
  obtain ⟨sl,e1⟩:=I.base.slot b o q n hb (fun z=>nomatch z)
  obtain ⟨_,o',ho',hd⟩:=I.ok.funs.mem hb
  have ho2:s.heap.get? b=some o':=ho'
  rw [q] at ho2; cases ho2
  obtain ⟨sl3,e3⟩:=sm b _ (hx.keeps b _ e1) hd
  exact ⟨sl3,e3⟩
 have ne:∀ b o,s1.heap.get? b=some o->b≠x:=fun b o q z=>by subst z; rw [hx.new] at q; cases q
 have os2:s2.os=s1.os:=by rw [hs]
 have g2:s2.gens=s1.gens:=by rw [hs]
 have hok2:HOk P w (upd H1 x (n0 x C)) h':=fun b o e=>by
  by_cases hb:b=x
  ·subst hb; rw [aN] at e; cases e; obtain ⟨ob,q1,q2⟩:=fl.there; exact yF q1 q2 fl.2
  ·rw [aI hb] at e
   refine (I.hok b o e).stay (fun c u hc q=>?_) (fun c q=>?_) fun c xs q=>?_
   ·have:∃ ho,H1 c=some ho:=by rcases hc with rfl | hc; exact ⟨_,e⟩; exact ⟨_,hc⟩
    obtain ⟨ho,hc⟩:=this
    obtain ⟨ob,hob⟩:=trk c ho hc
    have:=PySem.W.of_hideAll _ hob
    rw [q] at this; cases this
    exact fl.1.1 c _ hob
   ·rw [aI (bf q n1)]; exact q
   ·rw [aI (bf q n1)]; exact q
 refine ⟨x,C,upd H1 x (n0 x C),rfl,⟨os2.trans I.os,by rw [show ({ s2 with heap:=h' }:Shared).gens=s1.gens from g2]; exact I.bare,⟨fun b o q n hb _=>fl.1.1 b o (keep b o q n hb),fun b o q n hb _=>slot b o q n hb,fun b o q n _=>?_,fun b o q _=>?_,fun b xs e=>?_,fun b o u e=>?_,fun b ps e=>?_⟩,hok2,h0.trans (eK n1),aN,⟨_,_,fl,fun b o e hb=>?_,keep⟩⟩,hE n1⟩
 ·obtain ⟨o1,e1⟩:=I.base.there b o q (fun z=>nomatch z)
  rw [aI (ne b o1 e1)]
  exact I.base.free b o q n (fun z=>nomatch z)
 ·obtain ⟨o1,e1⟩:=I.base.there b o q (fun z=>nomatch z)
  cases q2:H1 b with
  | some ho=>obtain ⟨ob,e⟩:=trk b ho q2; exact ⟨ob,fl.1.1 b ob e⟩
  | none=>
   have n:H b=none:=by
    cases e:H b with
    | none=>rfl
    | some z=>rw [h0 b z e] at q2; cases q2
   by_cases hb:b∈iK outer
   ·obtain ⟨sl,e⟩:=slot b o q n hb; exact ⟨_,e⟩
   ·exact ⟨o,fl.1.1 b o (keep b o q n hb)⟩
 ·have:=I.base.tups b xs e
  rw [aI (bf this n1)]; exact this
 ·have:=I.base.frzs b o u e
  rw [aI (bf this n1)]; exact this
 ·obtain ⟨m1,e1⟩:=I.base.tbls b ps e
  exact ⟨m1,by rw [aI (bf e1 n1)]; exact e1⟩
 ·rw [aI hb] at e
  exact trk b o e
end
end VL
namespace VL
open PySem PySem.Spec PyProof.Rows L2
abbrev zL:List Value:=[.type "ValueError",.type "Exception",.type "BaseException",.type "object"]
structure ExcC (K:Fg) (n:Str) (C:Addr):Prop where
 nm:PySem.W.nsIn K mainGlobals n=some (some (.ref C))
 ex:PySem.W.excIn K C zL "ValueError.__new__" = true
 ga:PySem.W.findIn K (.ref C) "__getattribute__" = some (some (.builtin "BaseException.__getattribute__"))
 gt:PySem.W.findIn K (.ref C) "__getattr__" = some none
 cl:PySem.W.findIn K (.ref C) "__class__" = some (some (.builtin "object.__class__"))
 mo:PySem.W.mroIn K C (.type "object")=some true
 be:PySem.W.mroIn K C (.type "BaseException")=some true
theorem vm {K:Fg} {h:Heap} {C:Addr} {mB:List Value} {newId:String} (kin:K.In h) (q:PySem.W.excIn K C mB newId=true) :
  ∃ mr ns nm qn bs hd sn sub ab col dd a0 a1 a2 a3 a5 mN,h.get? C=some (excClassObj nm qn C ns bs mr hd sn sub ab col dd a0 a1 a2 a3 a5 newId)/\h.Ns ns mN/\mN "__init__" = none/\OwnTail h mB mr:=by
 unfold PySem.W.excIn at q
 split at q
 ·rename_i dct cda slo lk
  split at q
  ·rename_i C2 mr a0 a1 a2 a3 nw a5 em es
   simp only [Bool.and_eq_true,beq_iff_eq,Bool.not_eq_true'] at q
   obtain ⟨⟨⟨⟨⟨rfl,rfl⟩,nodel⟩,tl⟩,okn⟩,noini⟩:=q
   obtain ⟨nm,bs,mro,ns,qn,hd,sn,sub,ab,col,del⟩:=cda
   dsimp only at em nodel okn noini
   subst em nodel
   have esl:slo = #[a0,a1,a2,a3,some (.builtin nw),a5]:=by
    obtain ⟨ll⟩:=slo
    simp only at es
    rw [es]
   subst esl
   exact ⟨mr,ns,nm,qn,bs,hd,sn,sub,ab,col,dct,a0,a1,a2,a3,a5,_,kin _ _ lk,Heap.Ns.of_isNs (PySem.W.isNs_of_in kin okn),PySem.W.nsMap_none_of_in kin okn noini,PySem.W.tail_of_in kin tl⟩
  ·cases q
 ·cases q
section
variable {K:Fg} {n:Str} {C x:Addr}
theorem xZ {M:Model} {h:Heap} {o:Obj} (e:h.get? x=some o) (c:o.cls=.ref C):PySem.W.Looks M h (typeOf (.ref x)) (.ref C):=c ▸ (PySem.W.Looks.ld e).andThen .now
variable {prog:Program} {w:World} {A:Around} {E:Value->Shared->Prop}
open Builtin Builtin.ObjectAttr Builtin.Getset_descriptor in
end
end VL
namespace VL
open PySem PySem.Spec PyProof.Rows L2
end VL
namespace VL
open PySem PySem.Spec PyProof.Rows L2
theorem fm {H H':Hp} {b:Addr} (s:Same H H') (h:H' b=none):H b=none:=by
 cases e:H b with
 | none=>rfl
 | some o=>rw [s b o e] at h; cases h
inductive Flung (m:Bool) (X:Cx) (n:Str) (Z H:Hp) (s:Shared) (e:Value) (s':Shared):Prop
 | made {x C:Addr} {vs:List Value}:m=true->PySem.W.nsIn X.K mainGlobals n=some (some (.ref C))->e=.ref x->s'={ s with heap:=s'.heap }->Heap.MadeExcOf s.heap s'.heap x (.ref C) vs->Flung m X n Z H s e s'
 | thrown {x C:Addr} {H' Z':Hp}:PySem.W.nsIn X.K mainGlobals n=some (some (.ref C))->e=.ref x->Thrown X.prog X.w X.stack H s x C H' s'->New Z H Z' H'->Z' x=some (n0 x C)->H x=none->Flung m X n Z H s e s'
def JU (m:Bool) (X:Cx) (f:Xf):TS:=fun _ σ H=>∃ H₀ Z₀ Z δ r,Hold X.K H₀ Z₀ Z δ σ H/\f δ = some r/\∀ pins σ' H' Z' s e s',Hold X.K H₀ Z₀ Z' r.2 σ' H'->Same Z Z'->Inv X pins σ' H' s->Flung m X r.1 Z' H' s e s'->X.xe e s'
def Kv (m:Bool) (X:Cx) (f:Dv->Option Str):TE:=fun σ H _=>∃ H₀ Z₀ Z δ n,Hold X.K H₀ Z₀ Z δ σ H/\f δ = some n/\∀ pins σ' H' Z' s e s',Hold X.K H₀ Z₀ Z' δ σ' H'->Same Z Z'->Inv X pins σ' H' s->Flung m X n Z' H' s e s'->X.xe e s'
def SX (m:Bool) (X:Cx) (st:Stmt) (f:Xf):Prop:=PS X st (JU m X f)
def BX (m:Bool) (X:Cx) (st:List Stmt) (f:Xf):Prop:=PSs X st (JU m X f)
def EX (m:Bool) (X:Cx) (e:Expr) (f:Dv->Option Str):Prop:=PE X e (Kv m X f)
section
variable {m:Bool} {X:Cx} {e c:Expr} {es:List Expr} {f:Dv->Option D} {fs:Dv->Option (List D)} {ft:Dv->Option Bool} {fx:Dv->Option Str} {st:Stmt} {sts body orelse:List Stmt} {s1:Sf} {u u1 u2:Xf} {pos p:Pos}
theorem EV.lift (h:EV X.nox e f):EV X e f:=PE.nox h
theorem TV.lift (h:TV X.nox e ft):TV X e ft:=PT.nox h
theorem AV.lift (h:AV X.nox es fs):AV X es fs:=fun pos pins s σ H Q I hw=>
 wpAny_mono (h pos pins s σ H Q (I.wish _) hw) (fun _ _ ⟨vs,H',I',r,q⟩=>⟨vs,H',I'.unwish,r,q⟩) fun _ _ z=>False.elim z
theorem GX:BX m X sts JD:=fun _ _ _ _ _ _ ⟨_,_,_,_,_,_,e,_⟩=>nomatch e
theorem CD (i:Nat) {x:Str} {pos':Pos} (hN:X.N.Nodup) (he:EX m X e fx) (hi:X.N[i]? = some x:=by rfl) (hx:wR X.env.scope x:=by first | exact Or.inl rfl | exact Or.inr rfl) (hs:swapsWith e (some (.Name x pos')) pos.line X.env=pure false:=by rfl)
  (hf:X.fn x=true\/X.env.scope.names.lookup x=some .local:=by first | exact .inl rfl | exact .inr rfl | assumption):SX m X (.Assign [.Name x pos'] e pos) (xE fx):=
 PS.imp (tP hN hi hx he hs hf) fun D σ H q=>by
  obtain ⟨H₀,Z₀,Z,δ,r,hh,e,k⟩:=q
  obtain ⟨n,e1,e⟩:=bind_some e
  cases e
  exact ⟨H₀,Z₀,Z,δ,n,hh,e1,k⟩
theorem qm (h:SX m X st u):BX m X (st::sts) u:=
 PSs.imp (rj h (u:=fun _ _ _=>False) fun _ _ _ _ _ _ z=>z.elim) fun D σ H q=>q
theorem E6 (hc:TV X c ft) (ha:BX m X body u1) (hb:BX m X orelse u2):SX m X (.If c body orelse pos) (JG ft u1 u2):=
 PS.imp (BY hc ha hb) fun D σ H q=>by
  obtain ⟨H₀,Z₀,Z,δ,r,hh,e,k⟩:=q
  obtain ⟨x,e1,e⟩:=bind_some e
  refine ⟨H₀,Z₀,Z,δ,x,hh,e1,fun Z1 H1 hh1 t1=>?_⟩
  cases x with
  | true=>exact ⟨H₀,Z₀,Z1,δ,r,hh1,e,fun pins σ2 H2 Z2 s e s' hh2 t2 I fl=>k pins σ2 H2 Z2 s e s' hh2 (t1.trans t2) I fl⟩
  | false=>exact ⟨H₀,Z₀,Z1,δ,r,hh1,e,fun pins σ2 H2 Z2 s e s' hh2 t2 I fl=>k pins σ2 H2 Z2 s e s' hh2 (t1.trans t2) I fl⟩
structure ExcX (K:Fg) (n:Str):Prop where
 ex:∃ C,ExcC K n C
theorem xc {x:Str} {np cpos:Pos} (O:ExcX X.K x) (hg:Gl X x) (hc:X.calm=true) (ha:EV X e f) (hdb:(x==("__debug__":Str))=false:=by decide)
  (he:starEach (e::[]) X.env=(false,eval e X.env)::starEach [] X.env:=by rfl) (hpl:(backTo cpos (starEach [] X.env)).any (·.1)=false:=by rfl) :
  SX true X (.Raise (some (.Call (.Name x np) [e] [] cpos)) none pos) (wS x f):=by
 intro pins s σ H D I h
 obtain ⟨H₀,Z₀,Z,δ,r,hh,e0,k⟩:=h
 obtain ⟨d,e1,e0⟩:=bind_some e0
 cases e0
 obtain ⟨C,F⟩:=O.ex
 obtain ⟨mr,ns,nm,qn,bs,hd,sn,sub,ab,col,dd,a0,a1,a2,a3,a5,mN,hC,hN,hni,TL⟩:=vm I.ok.mod.kin F.ex
 have hm:=PySem.W.mg_of I.ok.mod.kin I.ok.mod.glob F.nm
 refine wpAny_Raise_call_subU (C:=C) (nm:=nm) (q:=qn) (N:=ns) (bs:=bs) (bm:=mr) (hdct:=hd) (sn:=sn) (sub:=sub) (ab:=ab) (col:=col) (dd:=dd) (k0:=a0) (k1:=a1) (k2:=a2) (k3:=a3) (k5:=a5) (bmB:=zL)
  PySem.F.excBase_ValueError (by decide +kernel) PySem.F.excBase_ValueError (mN:=mN) (TL.hasType (by decide +kernel)) (I.ok.hd hc) (by rw [he]; show (false||(backTo cpos (starEach [] X.env)).any (·.1))=false; rw [hpl]; rfl) hni (lT I hg hm ⟨rfl,?_⟩ hdb)
 rw [he]
 have one:wpAny (model X.prog X.w) X.A (spliced (backTo cpos (starEach (e::[]) X.env))) (AP X pins σ fun vs H1=>vs.length=1/\∃ Z1,Hold X.K H₀ Z₀ Z1 δ σ H1/\Same Z Z1) X.xe s:=
  (gi ha jk he) cpos pins s σ H _ I ⟨H₀,Z₀,Z,δ,d,hh,e1,fun v Z1 H1 hh1 t1 r1=>⟨rfl,Z1,hh1,t1⟩⟩
 rw [he] at one
 refine Calls.evalArgs_plain (wpAny_mono one (fun us s2 z=>?_) fun _ _ y=>y)
 obtain ⟨vs,H1,I1,rv,hl,Z1,hh1,t1⟩:=z
 have lu:us.length=1:=by rw [<- rv.length]; exact hl
 refine ⟨rfl,by show us.length<=sizeLine; rw [lu]; decide,I1.bk _ _ hC,hN.keeps I1.bk,TL.keeps I1.bk,fun h' ex hmd=>?_⟩
 exact k pins σ H1 Z1 s2 _ _ hh1 t1 I1 (.made rfl F.nm rfl rfl hmd)
def E8 (K:Fg) (g:List D->Option Str):Sp:=fun vs H _ E=>∃ Z as n,Same Z H/\Reps K Z vs as/\g as=some n/\∀ C x Z' H',PySem.W.nsIn K mainGlobals n=some (some (.ref C))->New Z H Z' H'->Z' x=some (n0 x C)->H x=none->E (.ref C) (some x) H'
structure CalX (P:Program) (w:World) (K:PySem.W.Frag) (mg:Str->Option Value) (base:Heap) (x:Str) (k:Nat) (g:List D->Option Str) (dd:List D):Prop where
 ex:∃ (fa:Addr) (fd:FuncData) (ps:List Str) (ds:List Value) (dv:List V),FnOk P w K mg base (ti P w) k fa fd ps (E8 K g)/\mg x=some (.ref fa)/\PySem.W.keepIn K (.ref fa)=true/\Binds K fd ps ds/\Vals dv ds/\∀ Z,Reps K Z dv dd
end
section
variable {P:Program} {w:World} {K:PySem.W.Frag} {mg:Str->Option Value} {base:Heap}
theorem Je {x qual:Str} {st:Stmt} {f:Addr} {fd:FuncData} {dV:Value} {N ps:List Str} {k:Nat} {fx:Xf} (F:FunV K x qual st f fd dV) (S:FnScope N ps (aw st))
  (hb:∀ (cdv:Value) (A:Around) (outer:List Env) (s:Shared) (H:Hp) (E:XK),Room k (A.deeper (envOfC qual (aw st) s.heap.objs.size f cdv))->BX true (gO (ti P w) P w K mg base N qual (aw st) f cdv A outer s H E) (cL st) fx) :
  FnOk P w K mg base (ti P w) (k+1) f fd ps (E8 K (vV N ps.length fx)):=by
 obtain ⟨oc,od,kV,doc,pm,an,cdv,ct,osl,rfl,lk,hcd⟩:=F.ex
 have some_of:∀ {as:List D} {n:Str},vV N ps.length fx as=some n->as.length=ps.length/\∃ δ',fx (aj N as)=some (n,δ'):=fun {as n} h=>by
  unfold vV at h
  split at h
  ·rename_i hl
   obtain ⟨⟨n',δ'⟩,e,h⟩:=bind_some h
   cases h
   exact ⟨hl,δ',e⟩
  ·cases h
 refine Cn lk hcd S (fun vs H Q E h=>?_) fun A outer s H vs Q E hr hsp=>?_
 ·obtain ⟨Z,as,n,zh,r,e,_⟩:=h
  rw [r.length]
  exact (some_of e).1
 ·refine ⟨_,hb cdv A outer s H E hr,?_⟩
  obtain ⟨Z,as,n,zh,r,e,kk⟩:=hsp
  obtain ⟨_,δ',e2⟩:=some_of e
  have hh:=m7 (N:=N) zh r
  refine ⟨H,Z,Z,_,(n,δ'),hh,e2,fun pins σ' H' Z' s1 ee s2 h' z' I fl=>?_⟩
  have nw:New Z H Z' H':=⟨z',h'.h0,h'.zh,h'.zb,h'.nf⟩
  cases fl with
  | @made xx C' vs' _ hC' he hs hmd=>
   subst he
   exact uc I hs hmd h'.h0 fun hn=>kk C' xx (upd Z' xx (n0 xx C')) _ hC' (nw.trans (New.add h'.zh hn _)) aN (fm h'.h0 hn)
  | @thrown xx C' H2 Z2 hC' he T n2 hx hn=>
   subst he
   exact ya I T (kk C' xx Z2 H2 hC' (nw.trans n2) hx (fm h'.h0 hn)) (h'.h0.trans n2.h)
end
end VL
namespace VL
open PySem PySem.Spec PyProof.Rows L2
theorem wF {K:Fg} {n:Str} {M:Model} {A:Around} {E:Value->Shared->Prop} {s:Shared} {x C W:Addr} {o:Obj} {Q:Bool->Shared->Prop} (kin:K.In s.heap) (F:ExcC K n C) (FW:PySem.W.excIn K W zL "ValueError.__new__" = true) (hs:PySem.W.subIn K (.ref C) (.ref W)=some true)
  (e:s.heap.get? x=some o) (c:o.cls=.ref C) (h:Q true s):wpAny M A (excMatches (.ref x) (.ref W)) Q E s:=by
 obtain ⟨mr,ns,nm,qn,bs,hd,sn,sub,ab,col,dd,a0,a1,a2,a3,a5,mN,hW,hN,hni,TL⟩:=vm kin FW
 obtain ⟨hh,g,d,t,os⟩:=s
 have cB:(Value.ref W::mr).contains (.type "BaseException")=true:=by rw [List.contains_cons,TL.hasType (b:=true) (by decide +kernel),Bool.or_true]
 have L:=PySem.W.looks_subIn (M:=M) kin hs
 have L0:=xZ (M:=M) e c
 have nt:=tc_notTuple
 unfold excMatches
 repeat (first | with_reducible refine L0.at ?_ | with_reducible refine L.at ?_ | with_reducible refine wpAny_loadPart_at hW ?_ | (with_reducible refine wpAny_isSubtype_exc hW ?_; rw [cB]) | wp_step)
 exact h
inductive HndL (K:Fg) (W:Addr):List Str->Prop
 | nil:HndL K W []
 | cons {n:Str} {t:List Str} {C:Addr}:ExcC K n C->PySem.W.subIn K (.ref C) (.ref W)=some true->HndL K W t->HndL K W (n::t)
theorem HndL.get {K:Fg} {W:Addr} {t:List Str} (h:HndL K W t) {n:Str} (e:t.contains n=true):∃ C,ExcC K n C/\PySem.W.subIn K (.ref C) (.ref W)=some true:=by
 induction h with
 | nil=>cases e
 | cons h1 h2 _ ih=>
  rw [List.contains_cons,Bool.or_eq_true] at e
  rcases e with e | e
  ·have:=eq_of_beq e; subst this; exact ⟨_,h1,h2⟩
  ·exact ih e
structure Hnd (K:Fg) (W:Str) (ns:List Str):Prop where
 ex:∃ wC,PySem.W.nsIn K mainGlobals W=some (some (.ref wC))/\PySem.W.excIn K wC zL "ValueError.__new__" = true/\HndL K wC ns
theorem Thrown.move {P:Program} {w:World} {l:List Env} {H H2:Hp} {s s2:Shared} {x C:Addr} (T:Thrown P w l H s x C H2 s2) (hf:∀ b∈iK l,∃ o,s.heap.get? b=some o/\∀ vs,o.data≠.fields vs) (hn:∀ b∈iK l,H b=none) :
  ∃ B t,FlyX B l x (.ref C) t s2.heap/\∀ h' t',FlyX B l x (.ref C) t' h'->s2.heap.UpToSlots h'->Thrown P w l H s x C H2 { s2 with heap:=h' }:=by
 obtain ⟨B,t,fl,hB1,hB2⟩:=T.fly
 refine ⟨B,t,fl,fun h' t' fl' sm=>?_⟩
 have slot:∀ b o,s.heap.get? b=some o->H b=none->b∈iK l->∃ sl,h'.get? b=some { o with slots:=sl }:=fun b o q n hb=>by
  obtain ⟨sl2,e2⟩:=T.un.slot b o q n hb (fun z=>nomatch z)
  obtain ⟨o',ho',hd⟩:=hf b hb
  rw [q] at ho'; cases ho'
  obtain ⟨sl3,e3⟩:=sm b _ e2 hd
  exact ⟨sl3,e3⟩
 refine ⟨T.os,T.bare,⟨fun b o q n hb _=>fl'.1.1 b o (hB2 b o q n hb),fun b o q n hb _=>slot b o q n hb,fun b o q n z=>T.un.free b o q n z,fun b o q _=>?_,T.un.tups,T.un.frzs,T.un.tbls⟩,vh (l:=[]) (t:=t) T.hok T.is fl.1.1 fl' hB1,T.sm,T.is,⟨B,t',fl',hB1,hB2⟩⟩
 cases q2:H2 b with
 | some ho=>
  by_cases hb:b=x
  ·subst hb; obtain ⟨ob,e1,_⟩:=fl'.there; exact ⟨ob,e1⟩
  ·obtain ⟨ob,e1⟩:=hB1 b ho q2 hb; exact ⟨ob,fl'.1.1 b ob e1⟩
 | none=>
  have n:H b=none:=by
   cases e:H b with
   | none=>rfl
   | some z=>rw [T.sm b z e] at q2; cases q2
  by_cases hb:b∈iK l
  ·obtain ⟨sl,e⟩:=slot b o q n hb; exact ⟨_,e⟩
  ·exact ⟨o,fl'.1.1 b o (hB2 b o q n hb)⟩
abbrev Jn (X:Cx) (pn:List (Addr×Obj)) (E:Value->Shared->Prop):Cx:={ X with pn:=pn,xe:=E }
abbrev Hw (X:Cx) (x:Addr):Cx:={ X with A:=X.A.mark (some (.ref x)),calm:=false,xe:=fun _ _=>False }
theorem Inv.toT {X:Cx} {pins:List (Addr×Obj)} {σ:St} {H:Hp} {s:Shared} (I:Inv X pins σ H s) (E:Value->Shared->Prop):Inv (Jn X (X.pn++pins) E) [] σ H s:=
 ⟨⟨I.ok.mod,I.ok.kind,I.ok.glob,I.ok.blt,I.ok.above,I.ok.inj,I.ok.has,I.ok.cab,I.ok.hd,I.ok.frames,I.ok.stk,I.ok.exf,I.ok.bs,I.ok.bsz,I.ok.noex,I.ok.exfs,I.ok.funs,I.ok.frf⟩,I.os,I.bare,I.base,I.loc,I.cell,I.free,I.freeC,fun p hp=>I.pin p (by simpa using hp),I.hok,I.len⟩
theorem Inv.ofT {X:Cx} {pins pins':List (Addr×Obj)} {σ:St} {H:Hp} {s:Shared} {E:Value->Shared->Prop} (I:Inv (Jn X (X.pn++pins) E) pins' σ H s):Inv X pins σ H s:=
 ⟨⟨I.ok.mod,I.ok.kind,I.ok.glob,I.ok.blt,I.ok.above,I.ok.inj,I.ok.has,I.ok.cab,I.ok.hd,I.ok.frames,I.ok.stk,I.ok.exf,I.ok.bs,I.ok.bsz,I.ok.noex,I.ok.exfs,I.ok.funs,I.ok.frf⟩,I.os,I.bare,I.base,I.loc,I.cell,I.free,I.freeC,fun p hp=>I.pin p (List.mem_append_left _ hp),I.hok,I.len⟩
theorem Inv.toH {X:Cx} {pins:List (Addr×Obj)} {σ:St} {H:Hp} {s:Shared} (I:Inv X pins σ H s) (x:Addr):Inv (Hw X x) pins σ H s:=
 ⟨⟨I.ok.mod,I.ok.kind,I.ok.glob,I.ok.blt,I.ok.above,I.ok.inj,I.ok.has,I.ok.cab,(fun z=>(nomatch z)),I.ok.frames,I.ok.stk,I.ok.exf,I.ok.bs,I.ok.bsz,I.ok.noex,I.ok.exfs,I.ok.funs,I.ok.frf⟩,I.os,I.bare,I.base,I.loc,I.cell,I.free,I.freeC,I.pin,I.hok,I.len⟩
theorem Inv.ofH {X:Cx} {pins:List (Addr×Obj)} {σ:St} {H:Hp} {s:Shared} {x:Addr} (hc:X.A.handled=none) (I:Inv (Hw X x) pins σ H s):Inv X pins σ H s:=
 ⟨⟨I.ok.mod,I.ok.kind,I.ok.glob,I.ok.blt,I.ok.above,I.ok.inj,I.ok.has,I.ok.cab,fun _=>hc,I.ok.frames,I.ok.stk,I.ok.exf,I.ok.bs,I.ok.bsz,I.ok.noex,I.ok.exfs,I.ok.funs,I.ok.frf⟩,I.os,I.bare,I.base,I.loc,I.cell,I.free,I.freeC,I.pin,I.hok,I.len⟩
theorem Inv.still {X:Cx} {pins:List (Addr×Obj)} {σ:St} {H:Hp} {s:Shared} {x C:Addr} {ob:Obj} (I:Inv X pins σ H s) (hx:H x=some (n0 x C)) (ho:s.heap.get? x=some ob):Inv X pins σ (upd H x (.frz ob (n0 x C))) s:=by
 have ne:∀ {b:Addr},H b=none->b≠x:=fun {b} h z=>by subst z; rw [hx] at h; cases h
 have up:∀ {b:Addr},H b=none->upd H x (.frz ob (n0 x C)) b=none:=fun {b} h=>by rw [aI (ne h)]; exact h
 refine ⟨I.ok,I.os,I.bare,⟨I.base.keep,I.base.slot,fun b o e n hb=>up (I.base.free b o e n hb),I.base.there,fun b xs e=>?_,fun b o u e=>?_,fun b ps e=>?_⟩,I.loc,I.cell,up I.free,fun y c e=>up (I.freeC y c e),fun p hp=>?_,fun b o e=>?_,I.len⟩
 ·have q:=I.base.tups b xs e
  by_cases hb:b=x
  ·subst hb; rw [hx] at q; cases q
  ·rw [aI hb]; exact q
 ·have q:=I.base.frzs b o u e
  by_cases hb:b=x
  ·subst hb; rw [hx] at q; cases q
  ·rw [aI hb]; exact q
 ·obtain ⟨m,q⟩:=I.base.tbls b ps e
  by_cases hb:b=x
  ·subst hb; rw [hx] at q; cases q
  ·exact ⟨m,by rw [aI hb]; exact q⟩
 ·obtain ⟨e,n,r⟩:=I.pin p hp
  exact ⟨e,up n,r⟩
 ·have st:∀ {b':Addr} {o':HO},ObjOk X.prog X.w H s.heap b' o'->ObjOk X.prog X.w (upd H x (.frz ob (n0 x C))) s.heap b' o':=fun {b' o'} q=>by
   refine q.stay (fun _ _ _ z=>z) (fun c z=>?_) fun c xs z=>?_
   ·by_cases hc:c=x
    ·subst hc; rw [hx] at z; cases z
    ·rw [aI hc]; exact z
   ·by_cases hc:c=x
    ·subst hc; rw [hx] at z; cases z
    ·rw [aI hc]; exact z
  by_cases hb:b=x
  ·subst hb
   rw [aN] at e
   cases e
   exact ⟨ho,st (I.hok b _ hx)⟩
  ·rw [aI hb] at e
   exact st (I.hok b o e)
theorem New.still {Z H Z2 H2:Hp} {x C:Addr} {ob:Obj} (n:New Z H Z2 H2) (zh:Same Z H) (hz:Z2 x=some (n0 x C)) (hn:H x=none):New Z H (upd Z2 x (.frz ob (n0 x C))) (upd H2 x (.frz ob (n0 x C))) where
 z:=fun b o e=>by rw [aI (bf (zh b o e) hn)]; exact n.z b o e
 h:=fun b o e=>by rw [aI (bf e hn)]; exact n.h b o e
 zh:=fun b o e=>by
  by_cases hb:b=x
  ·subst hb; rw [aN] at e ⊢; exact e
  ·rw [aI hb] at e ⊢; exact n.zh b o e
 o:=fun b hb=>by
  have:b≠x:=fun z=>hb (by rw [z]; exact hn)
  rw [aI this]; exact n.o b hb
 nf:=n.nf.upd x
end VL
namespace VL
open PySem PySem.Spec PyProof.Rows L2
noncomputable def nW:Sl->Bool
 | .own _=>true
 | _=>false
@[simp] theorem Hj (d:D):nW (.fz d)=false:=rfl
@[simp] theorem Hi:nW .un=false:=rfl
noncomputable def vP:Nat->Dv->Bool
 | _,[]=>true
 | 0,_::r=>r.all fun s=>!nW s
 | n+1,s::r=>!nW s&&vP n r
@[simp] theorem Eo (s:Sl) (r:Dv):vP 0 (s::r)=r.all fun s=>!nW s:=rfl
@[simp] theorem Ep (n:Nat) (s:Sl) (r:Dv):vP (n+1) (s::r)=(!nW s&&vP n r):=rfl
noncomputable def i8 (i:Nat) (ft:Dv->Option Bool):Dv->Option Bool:=fun δ=>if vP i δ = true then ft (dFz i δ) else none
theorem qV:∀ (i:Nat) (δ:Dv),vP i δ = true->∀ (j:Nat) (ds:Oc),δ[j]? = some (.own ds)->j=i
 | _,[],_,j,ds,e=>by simp at e
 | 0,s::r,h,0,ds,e=>rfl
 | 0,s::r,h,j+1,ds,e=>by
  have:=List.all_eq_true.mp h (.own ds) (List.mem_of_getElem? (by simpa using e))
  cases this
 | i+1,s::r,h,0,ds,e=>by
  have h:=(Bool.and_eq_true_iff.mp h).1
  have e:s=.own ds:=by simpa using e
  subst e; cases h
 | i+1,s::r,h,j+1,ds,e=>congrArg (· + 1) (qV i r (Bool.and_eq_true_iff.mp h).2 j ds (by simpa using e))
theorem zO {X:Cx} {e:Expr} {ft:Dv->Option Bool} (i:Nat) (h:TV X e ft):TV X e (i8 i ft):=
 PT.imp h fun σ H Q q=>by
  obtain ⟨H₀,Z₀,Z,δ,b,hh,e,k⟩:=q
  unfold i8 at e
  split at e
  rotate_left
  ·cases e
  rename_i hso
  unfold dFz at e
  split at e
  ·rename_i ds q
   obtain ⟨a,xs,h1,h2,h3,h4,h5⟩:=hh.ow i ds q
   have hl:i < δ.length:=(List.getElem?_eq_some_iff.mp q).1
   have sz:Same Z (upd Z a (.lst xs)):=eK h3
   have hh1:Hold X.K H₀ Z₀ (upd Z a (.lst xs)) (δ.set i (.fz (.list ds))) σ H:=by
    refine ⟨fun b o q=>?_,hh.h0,hh.z0.trans sz,fun b hb=>?_,by simp [hh.len],fun j d q=>?_,fun j d q=>?_,fun j k d1 d2 b hjk q1 q2=>?_,(hh.fr.same sz).put (fun _ z=>nomatch z) fun _ _=>rfl,hh.nf.upd a⟩
    ·by_cases hb:b=a
     ·subst hb; rw [aN] at q; cases q; exact h4
     ·rw [aI hb] at q; exact hh.zh b o q
    ·rw [aI (fun z=>hb (by rw [z]; exact h2))]; exact hh.zb b hb
    ·by_cases hj:i=j
     ·subst hj
      rw [List.getElem?_set_self hl] at q
      cases q
      exact ⟨.ref a,h1,.lst (SqL.of aN) (h5.same sz)⟩
     ·rw [List.getElem?_set_ne hj] at q
      obtain ⟨v,g1,g2⟩:=hh.fz j d q
      exact ⟨v,g1,g2.same sz⟩
    ·by_cases hj:i=j
     ·subst hj
      rw [List.getElem?_set_self hl] at q
      cases q
     ·rw [List.getElem?_set_ne hj] at q
      obtain ⟨b,ws,g1,g2,g3,g4,g5⟩:=hh.own j d q
      have:b≠a:=fun z=>by subst z; rename_i q0; exact hh.dja i j _ d b hj q0 q h1 g1
      exact ⟨b,ws,g1,g2,by rw [aI this]; exact g3,g4,g5.same sz⟩
    ·by_cases hj:i=j
     ·subst hj
      rw [List.getElem?_set_self hl] at q1
      cases q1
     ·by_cases hk:i=k
      ·subst hk
       rw [List.getElem?_set_self hl] at q2
       cases q2
      ·rw [List.getElem?_set_ne hj] at q1
       rw [List.getElem?_set_ne hk] at q2
       exact hh.dja j k d1 d2 b hjk q1 q2
   refine ⟨H₀,Z₀,_,_,b,hh1,e,fun Z2 H2 hh2 t2=>?_⟩
   have zl:Same Z (fun c=>if c=a then none else Z2 c):=fun c o q=>by
    have hc:c≠a:=bf q h3
    show (if c=a then none else Z2 c)=some o
    rw [if_neg hc]
    exact t2 c o (sz c o q)
   have back:Hold X.K H₀ Z₀ (fun c=>if c=a then none else Z2 c) δ σ H2:=by
    refine ⟨fun b o q=>?_,hh2.h0,hh.z0.trans zl,fun b hb=>?_,hh.len,fun j d q=>?_,fun j d q=>?_,hh.dja,hh.fr.same zl,fun b o xs q=>by
     have q:(if b=a then none else Z2 b)=_:=q
     split at q
     ·cases q
     ·exact hh2.nf b o xs q⟩
    ·have q:(if b=a then none else Z2 b)=some o:=q
     split at q
     ·cases q
     ·exact hh2.zh b o q
    ·show (if b=a then none else Z2 b)=_
     rw [if_neg (fun z=>hb (by rw [z]; exact h2))]
     exact hh2.zb b hb
    ·obtain ⟨v,g1,g2⟩:=hh.fz j d q
     exact ⟨v,g1,g2.same zl⟩
    ·by_cases hj:i=j
     ·subst hj
      rename_i q0
      rw [q0] at q
      cases q
      refine ⟨a,.lst xs,h1,h2,by simp,hh2.zh a _ (t2 a _ aN),.lst (h5.same zl)⟩
     ·exact absurd (qV i δ hso j d q) (Ne.symm hj)
   exact k _ H2 back zl
  ·exact ⟨H₀,Z₀,Z,_,b,hh,e,k⟩
end VL
namespace VL
open PySem PySem.Spec PyProof.Rows L2
@[simp] noncomputable def JC (f:Dv->Option D) (u:Dv->Option Str):Dv->Option Str:=fun δ=>(f δ).bind fun _=>u δ
end VL
namespace VL
open PySem PySem.Spec PyProof.Rows L2
noncomputable def iL:D->Option Str
 | .dict [(.str k,.str n)]=>if k = "fn" then some n else none
 | _=>none
theorem oS (n:Str):iL (fL n)=some n:=by simp [iL,fL]
noncomputable def g6 (i:Nat) (fs:Dv->Option (List D)) (tbl:List (Str×(List D->Option D))):Dv->Option D:=fun δ=>(oV i δ).bind fun d=>(iL d).bind fun n=>(tbl.lookup n).bind fun g=>(fs δ).bind g
@[simp] noncomputable def uU (i:Nat) (f:Dv->Option D):Sf:=fun δ=>(f δ).bind fun v=>(lstI v).bind fun es=>(za δ[i]?).bind fun ds=>if ds.length+es.length<=sizeLine then some (.nx,δ.set i (.ow (ds++es))) else none
theorem oU {d:D} {n:Str} (h:iL d=some n):d=fL n:=by
 unfold iL at h
 split at h
 ·split at h
  ·rename_i hk; subst hk; cases h; rfl
  ·cases h
 ·cases h
structure CalF (P:Program) (w:World) (K:PySem.W.Frag) (mg:Str->Option Value) (base:Heap) (x:Str) (k:Nat) (g:List D->Option D):Prop where
 ex:∃ (fa:Addr) (fd:FuncData) (ps:List Str),FnOk P w K mg base ez k fa fd ps (eX K g)/\PySem.W.nsIn K mainGlobals x=some (some (.ref fa))/\mg x=some (.ref fa)/\PySem.W.keepIn K (.ref fa)=true/\Binds K fd ps []
theorem qa {P:Program} {w:World} {K:PySem.W.Frag} {mg:Str->Option Value} {base:Heap} {k:Nat}:∀ n g,([]:List (Str×(List D->Option D))).lookup n=some g->∃ j,j<=k/\CalF P w K mg base n j g:=fun _ _ h=>by cases h
theorem lU {P:Program} {w:World} {K:PySem.W.Frag} {mg:Str->Option Value} {base:Heap} {k j:Nat} {c:Str} {gc:List D->Option D} {tbl:List (Str×(List D->Option D))} (hj:j<=k) (V:CalF P w K mg base c j gc) (h:∀ n g,tbl.lookup n=some g->∃ j,j<=k/\CalF P w K mg base n j g):∀ n g,((c,gc)::tbl).lookup n=some g->∃ j,j<=k/\CalF P w K mg base n j g:=fun n g e=>by
 rw [List.lookup_cons] at e
 split at e
 ·rename_i hn
  cases e
  have:n=c:=by simpa using hn
  subst this
  exact ⟨j,hj,V⟩
 ·exact h n g e
structure Fnm (K:PySem.W.Frag) (mg:Str->Option Value) (x:Str):Prop where
 ex:∃ fa,PySem.W.nsIn K mainGlobals x=some (some (.ref fa))/\mg x=some (.ref fa)
section
variable {X:Cx} {e:Expr} {es:List Expr} {p pos:Pos} {fs:Dv->Option (List D)}
theorem ng {x:Str} (F:Fnm X.K X.mg x) (hg:Gl X x) (hdb:(x==("__debug__":Str))=false:=by decide):EV X (.Name x pos) (oC (fL x)):=by
 obtain ⟨fa,h1,h2⟩:=F.ex
 exact yH (Av (v:=.ref fa) (u:=.ref fa) hg h2 rfl hdb) fun Z=>.opq (.fn h1)
theorem j5 (i:Nat) {x:Str} {k:Nat} {tbl:List (Str×(List D->Option D))} (hT:∀ n g,tbl.lookup n=some g->∃ j,j<=k/\CalF X.prog X.w X.K X.mg X.base n j g) (hr:Room k X.A) (ha:AV X (e::es) fs) (hN:X.N[i]? = some x:=by rfl) (hv:BO X.env.scope x:=by first | exact Or.inl rfl | exact Or.inr (Or.inl rfl) | exact Or.inr (Or.inr rfl)) (hdb:(x==("__debug__":Str))=false:=by decide) (hcd:(x==("__classdict__":Str))=false:=by decide)
  (he:starEach (e::es) X.env=(false,eval e X.env)::starEach es X.env:=by rfl) (hpl:(backTo pos (starEach es X.env)).any (·.1)=false:=by rfl):EV X (.Call (.Name x p) (e::es) [] pos) (g6 i fs tbl):=by
 intro pins s σ H Q I h
 obtain ⟨H₀,Z₀,Z,δ,d,hh,e0,kk⟩:=h
 unfold g6 at e0
 obtain ⟨c,e1,e0⟩:=bind_some e0
 obtain ⟨n,e2,e4⟩:=bind_some e0
 obtain ⟨g,e3,e5⟩:=bind_some e4
 have:=oU e2
 subst this
 obtain ⟨v,hσ,rv⟩:=hh.read e1
 obtain ⟨j,hj,CF⟩:=hT n g e3
 obtain ⟨fa,fd,ps,F,hns,hm,hk,hb⟩:=CF.ex
 have hva:v=.ref fa:=by
  cases rv with
  | opq o=>
   cases o with
   | fn h1=>rw [hns] at h1; cases h1; rfl
   | dct h1 _=>exact absurd h1 fun z=>vq z
 subst hva
 refine wpAny_Call_Name_kw (cx (jj hN hv hdb hcd pins s σ H (fun v' H'=>v'=.ref fa/\H'=H) I ⟨_,hσ,rfl,rfl⟩) fun u s1 hq=>?_)
 obtain ⟨v',H',I1,r1,hv',hH'⟩:=hq
 subst hv'
 subst hH'
 cases (show u=Value.ref fa from r1)
 have ht:tV X.K (os fs g) σ H' Q:=⟨H₀,Z₀,Z,δ,d,hh,e5,kk⟩
 obtain ⟨H₀',Z₀',Z',δ',xs,hh',ea,q⟩:=args ht
 refine PySem.W.callWith_K (h₀:=X.base) I1.ok.mod.kin hk (cx (ha pos pins s1 σ H' (fun vs H1=>eX X.K g (vs++[]) H1 Q E0) I1 ⟨H₀',Z₀',Z',δ',xs,hh',ea,fun vs Z1 H1 hh1 t1 r1=>?_⟩) fun us s2 ⟨vs,H1,I2,r,q2⟩=>⟨I2.kIn,xr F (hr.mono hj) hb .nil B1 I2 r q2⟩) he hpl
 show eX X.K g (vs++[]) H1 Q E0
 rw [List.append_nil]
 exact q vs Z1 H1 hh1 t1 r1
end
theorem uq (l:Addr) (items:Array Value) (n:Nat) (b:Addr) (items2:Array Value) (n2:Nat) (sl:Array (Option Value)) (hc0:¬(!items.isEmpty&&Builtin.List.listTooLong (items.size+items2.size))=true) (hc1:items.size<=sizeLine) (hs2:items.size+items2.size<=sizeLine+1) :
  Meets (Builtin.«list.extend» ⟨[.ref l,.ref b],[]⟩) (fun _ R s=>s.heap.get? l=some { cls:=.type "list",dict:=none,data:=.seq items n,slots:=#[] }/\s.heap.get? b=some { cls:=.type "list",dict:=none,data:=.seq items2 n2,slots:=sl }/\R (.ok (.ret Value.none)) { s with heap:=s.heap.update l (Obj.mapSeq fun x=>x++items2),toks:=s.toks }):=
 .of_wp fun prog w A R s h=>by
  obtain ⟨hp,g,d,tk,os⟩:=s; obtain ⟨hl,hb,h⟩:=h; have f1:=AutoSeq1.idx_int; have f2:=AutoSeq1.sub_tuple_tuple; have f3:=AutoSeq1.sub_list_list; have f4:=AutoSeq1.sub_tuple_list; have f5:=AutoSeq1.sub_list_tuple;
  have hz':(items++items2).size<=sizeLine+1:=by rw [Array.size_append]; exact hs2
  wp_walk using (wpAny_updateSeq hl rfl (hz:=hc1) (_hz':=hz')),AutoSeq1.wpAny_loadPart' hl,AutoSeq1.wpAny_loadPart' hb; exact ⟨_,rfl,h⟩
def Ff (K:Fg):V->List V->Hp->VK->Prop:=fun x vs H Q=>∃ l b xs zs,x=.ref l/\vs=[.ref b]/\H l=some (.lst xs)/\SqL K H b zs/\xs.length+zs.length<=sizeLine/\Q .non (upd H l (.lst (xs++zs)))
section
variable {X:Cx}
theorem AJ:Kh X "list.extend" (Ff X.K):=by
 intro pins s σ H x vs v us Q I rx rv h
 obtain ⟨l,b,xs,zs,rfl,rfl,hH,hB,hz,q⟩:=h
 cases rx
 obtain ⟨u,rfl,ru⟩:=rv.one
 cases ru
 obtain ⟨z,its,n,r,hl,e⟩:=I.lstM hH
 obtain ⟨its2,r2,⟨o2,n2,e2,hc,hd,hs⟩,z2⟩:=I.list hB
 have hl2:=r2.length
 obtain ⟨c2,d2,dt2,sl2⟩:=o2
 dsimp only at hc hd hs
 subst hc hd hs
 have hsz:its.toArray.size+its2.toArray.size<=sizeLine:=by rw [List.size_toArray,List.size_toArray]; omega
 have hlong:¬ (!its.toArray.isEmpty&&Builtin.List.listTooLong (its.toArray.size+its2.toArray.size))=true:=by
  rw [xR hsz,Bool.and_false]
  exact Bool.false_ne_true
 refine call_meets F.slot_list_extend ⟨_,e,rfl⟩ F.entry_list_extend (F.args_list_extend_2 _ _)
  (uq l its.toArray n b its2.toArray n2 sl2 hlong (by rw [List.size_toArray]; omega) (by omega)) ⟨e,e2,?_⟩
 refine ⟨.non,_,I.lset (its':=its++its2) hH e (by simp) (r.append r2) ?_,rfl,q⟩
 rw [List.length_append]
 omega
end
section
variable {X:Cx} {e:Expr} {f:Dv->Option D} {p pos apos:Pos}
theorem pj (i:Nat) {x:Str} {cpos:Pos} (hv':EV X e f) (hN:X.N[i]? = some x:=by rfl) (hv:BO X.env.scope x:=by first | exact Or.inl rfl | exact Or.inr (Or.inl rfl) | exact Or.inr (Or.inr rfl)) (hd:(x==("__debug__":Str))=false:=by decide) (hcd:(x==("__classdict__":Str))=false:=by decide)
  (hbase:attributeBase (.Name x p) "extend" X.env (eval (.Name x p) X.env)=eval (.Name x p) X.env:=by rfl)
  (hfew:((backTo cpos (starEach [e] X.env)).all (fun x=>!x.1)&&(backToKw cpos (keywordEach [] X.env)).all (fun x=>x.1.isSome)
   && decide ([e].length+([]:List Keyword).length+(if ([]:List Keyword).isEmpty then 0 else 1)<30))=true:=by rfl)
  (hline:(apos.endLine==cpos.line)=true:=by rfl) (hs:starEach [e] X.env=(false,eval e X.env)::starEach [] X.env:=by rfl) (hplain:(backTo cpos (starEach [] X.env)).any (·.1)=false:=by rfl)
  (hsw:swapsWith (.Call (.Attribute (.Name x p) "extend" apos) [e] [] cpos) none pos.line X.env=pure false:=by rfl):SV X (.Expr (.Call (.Attribute (.Name x p) "extend" apos) [e] [] cpos) pos) (uU i f):=
 PS.imp (uY (B0 PySem.F.plainAttrs_list PySem.F.slot_list_extend PySem.F.type_list_extend AJ (jj hN hv hd hcd) (gi hv' jk hs) hbase hfew hline hs hplain) hsw) fun D σ H h=>by
  obtain ⟨H₀,Z₀,Z,δ,r,hh,e,k⟩:=h
  obtain ⟨v,e1,e⟩:=bind_some e
  obtain ⟨es,e3,e⟩:=bind_some e
  obtain ⟨ds,e2,e⟩:=bind_some e
  by_cases hl:ds.length+es.length<=sizeLine
  ·rw [if_pos hl] at e
   cases e
   cases v with
   | list es'=>
    cases e3
    obtain ⟨a,xs,h1,h4,h5⟩:=mK hh e2
    refine ⟨_,h1,.inl ⟨rfl,xs,SqL.of h4⟩,H₀,Z₀,Z,δ,_,hh,e1,fun w Z1 H1 hh1 t1 r1=>?_⟩
    obtain ⟨a',xs',g1,g4,g5⟩:=mK hh1 e2
    rw [h1] at g1
    cases g1
    cases r1 with
    | lst q1 q2=>
     exact ⟨a,_,xs',_,rfl,rfl,g4,SqL.same q1 hh1.zh,by rw [g5.length,q2.length]; exact hl,k σ _ Z1 (hh1.chg (xs:=xs') (tK e2) h1 (g5.append q2)) t1⟩
   | _=>cases e3
  ·rw [if_neg hl] at e; cases e
end
end VL
namespace VL
open PySem PySem.Spec PyProof.Rows L2
end VL
namespace VL
open PySem PySem.Spec PyProof.Rows L2
end VL
namespace VL
open PySem PySem.Spec PyProof.Rows L2
theorem ub {α:Type}:∀ {us:List α},us.length=1->∃ a,us=[a]
 | [a],_=>⟨a,rfl⟩
theorem g9 {α:Type} {us:List α} (h:us.length=2):∃ a b,us=[a,b]:=by
 cases us with
 | nil=>cases h
 | cons a r=>
  obtain ⟨b,rfl⟩:=ub (Nat.succ.inj h)
  exact ⟨a,b,rfl⟩
theorem pZ {α:Type} {us:List α} (h:us.length=3):∃ a b c,us=[a,b,c]:=by
 cases us with
 | nil=>cases h
 | cons a r=>
  obtain ⟨b,c,rfl⟩:=g9 (Nat.succ.inj h)
  exact ⟨a,b,c,rfl⟩
theorem FT {α:Type} {us:List α} (h:us.length=4):∃ a b c d,us=[a,b,c,d]:=by
 cases us with
 | nil=>cases h
 | cons a r=>
  obtain ⟨b,c,d,rfl⟩:=pZ (Nat.succ.inj h)
  exact ⟨a,b,c,d,rfl⟩
end VL
namespace VL
open PySem PySem.Spec PyProof.Rows L2
end VL
namespace VL
open PySem PySem.Spec PyProof.Rows L2
end VL
namespace VL
open PySem PySem.Spec PyProof.Rows L2
def DefIn (K:PySem.W.Frag) (x y:Str) (st:Stmt):Prop:=∃ f fd,PySem.W.nsIn K mainGlobals x=some (some (.ref f))/\FunV K y y st f fd .none/\PySem.W.keepIn K (.ref f)=true
def bc (x:Str) (st:Stmt) (ps:List Str):Prop:=∀ (kV doc pm:Value) (an:Option Addr) (cdv ct:Value) (us:List Value),us.length=ps.length->bindArgs (PySem.W.fnOf x x (dw st) (cL st) (aw st) .none kV doc pm an cdv ct) ⟨us,[]⟩=pure (ps.zip us)
section
variable {P:Program} {w:World} {K:PySem.W.Frag} {mg:Str->Option Value} {base h:Heap} {x y:Str} {st:Stmt} {k:Nat} {ps:List Str}
theorem DefIn.mk {f:Addr} {oc:Value} {od an:Option Addr} {osl:Array (Option Value)} {kV doc pm cdv ct:Value} (a:PySem.W.nsIn K mainGlobals x=some (some (.ref f))) (l:K.lookup f=some ⟨oc,od,.func (PySem.W.fnOf y y (dw st) (cL st) (aw st) .none kV doc pm an cdv ct),osl⟩)
  (c:PySem.W.codeIn K cdv y=true) (k:PySem.W.keepIn K (.ref f)=true):DefIn K x y st:=⟨_,_,a,qb l c k,k⟩
variable (D:DefIn K x y st) (X:K.In h) (G:h.Ns mainGlobals mg) (b:bc y st ps)
include D X G
theorem DefIn.fnm:Fnm K mg x:=by
 obtain ⟨f,fd,a,F,hk⟩:=D
 exact ⟨⟨_,a,PySem.W.mg_of X G a⟩⟩
include b
theorem DefIn.cal {g:List VL.D->Option VL.D} (ok:∀ f fd,FunV K y y st f fd .none->FnOk P w K mg base ez k f fd ps (eX K g)):Cal P w K mg base x k g []:=by
 obtain ⟨f,fd,a,F,hk⟩:=D
 exact Cal.mk0 (ok f fd F) (PySem.W.mg_of X G a) hk (F.binds b)
theorem DefIn.calR {g:List VL.D->Option VL.D} (ok:∀ f fd,FunV K y y st f fd .none->mg x=some (.ref f)->PySem.W.keepIn K (.ref f)=true->Binds K fd ps []->FnOk P w K mg base ez k f fd ps (eX K g)):Cal P w K mg base x k g []:=by
 obtain ⟨f,fd,a,F,hk⟩:=D
 exact Cal.mk0 (ok f fd F (PySem.W.mg_of X G a) hk (F.binds b)) (PySem.W.mg_of X G a) hk (F.binds b)
theorem DefIn.calF {g:List VL.D->Option VL.D} (ok:∀ f fd,FunV K y y st f fd .none->FnOk P w K mg base ez k f fd ps (eX K g)):CalF P w K mg base x k g:=by
 obtain ⟨f,fd,a,F,hk⟩:=D
 exact ⟨⟨_,_,_,ok f fd F,a,PySem.W.mg_of X G a,hk,F.binds b⟩⟩
theorem DefIn.calX {g:List VL.D->Option Str} (ok:∀ f fd,FunV K y y st f fd .none->FnOk P w K mg base (ti P w) k f fd ps (E8 K g)):CalX P w K mg base x k g []:=by
 obtain ⟨f,fd,a,F,hk⟩:=D
 exact ⟨⟨_,_,_,[],[],ok f fd F,PySem.W.mg_of X G a,hk,F.binds b,.nil,fun _=>.nil⟩⟩
end
noncomputable def Kf (fd:FuncData) (us:List Value):{kk:Option (Array Value)->Sem (List (Str×Value)) // bindArgs fd ⟨us,[]⟩=seqItems? fd.defaults >>= kk}:=⟨_,rfl⟩
theorem FunV.bindsK {K:PySem.W.Frag} {x qual:Str} {st:Stmt} {f T:Addr} {fd:FuncData} {ps:List Str} {o:Obj} {items:Array Value} {n:Nat} {ds:List Value} (F:FunV K x qual st f fd (.ref T)) (ho:K.lookup T=some o) (hs:o.data=.seq items n) (nu:Nat) (hn:nu+ds.length=ps.length)
  (h:∀ (kV doc pm:Value) (an:Option Addr) (cdv ct:Value) (us:List Value),us.length=nu->(Kf (PySem.W.fnOf x qual (dw st) (cL st) (aw st) (.ref T) kV doc pm an cdv ct) us).1 (some items)=pure (ps.zip (us++ds))):Binds K fd ps ds:=
 F.bindsD ho hs nu hn fun kV doc pm an cdv ct us hl=>⟨_,(Kf (PySem.W.fnOf x qual (dw st) (cL st) (aw st) (.ref T) kV doc pm an cdv ct) us).2,h kV doc pm an cdv ct us hl⟩
end VL
namespace VL
open PySem PySem.Spec PyProof.Rows L2
open AutoSeq1 (wpAny_loadPart')
end VL
namespace VL
open PySem PySem.Spec PyProof.Rows L2
noncomputable def F8 (z:Bool):D->D->Option D
 | .bool a,.bool b=>some (.bool (z != (a==b)))
 | _,_=>none
@[simp] theorem F7 (z a b:Bool):F8 z (.bool a) (.bool b)=some (.bool (z != (a==b))):=rfl
theorem DK {z:Bool} {a b d:D} (h:F8 z a b=some d):∃ x y,a=.bool x/\b=.bool y/\d=.bool (z != (x==y)):=by
 cases a with
 | bool x=>
  cases b with
  | bool y=>exact ⟨x,y,rfl,rfl,(Option.some.inj h).symm⟩
  | _=>cases h
 | _=>cases h
section
variable {X:Cx}
theorem By:OpR X (compareOp .IsNot) (rD X.K (F8 true)):=by
 intro pins s σ H x y v u Q I rx ry q
 obtain ⟨Z,a,b,d,zh,ra,rb,e,k⟩:=q
 obtain ⟨c,c',rfl,rfl,rfl⟩:=DK e
 cases ra.bl_eq
 cases rb.bl_eq
 cases rx
 cases ry
 exact isnot_bool (yC I (k _ Z H (New.refl zh) (.bl _)) (by cases c <;> cases c' <;> rfl))
end
end VL
namespace VL
open PySem PySem.Spec PyProof.Rows L2
end VL
namespace L2
open PySem PySem.Spec PyProof.Rows
end L2
namespace L2
open PySem PySem.Spec PyProof.Rows
end L2
namespace L2
open PySem PySem.Spec PyProof.Rows
end L2
namespace L2
open PySem PySem.Spec PyProof.Rows
end L2
namespace L2
open PySem PySem.Spec PyProof.Rows
end L2
namespace L2
open PySem PySem.Spec PyProof.Rows
end L2
namespace L2
open PySem PySem.Spec PyProof.Rows
end L2
namespace L2
open PySem PySem.Spec PyProof.Rows
end L2
namespace L2
open PySem PySem.Spec PyProof.Rows
end L2
namespace L2
open PySem PySem.Spec PyProof.Rows
end L2
namespace L2
open PySem PySem.Spec PyProof.Rows
section
variable {κ:Type} [DecidableEq κ]
noncomputable def jB (kvs:List (κ × V)) (k:κ):Option V:=(kvs.find? fun kv=>decide (kv.1=k)).map (·.2)
noncomputable def kC (kvs:List (κ × V)) (k:κ) (v:V):List (κ × V):=
 if (kvs.any fun kv=>decide (kv.1=k))=true then kvs.map (fun kv=>if kv.1=k then (kv.1,v) else kv) else kvs++[(k,v)]
theorem jz {p:κ × V} {r:List (κ × V)} {k:κ} (e:p.1=k):jB (p::r) k=some p.2:=by simp [jB,List.find?_cons,e]
theorem jA {p:κ × V} {r:List (κ × V)} {k:κ} (e:¬ p.1=k):jB (p::r) k=jB r k:=by simp [jB,List.find?_cons,e]
theorem qM (k:κ):∀ kvs:List (κ × V),(kvs.any fun kv=>decide (kv.1=k))=(jB kvs k).isSome
 | []=>rfl
 | p::r=>by
  rw [List.any_cons]
  by_cases e:p.1=k
  ·simp only [jz e,decide_eq_true e,Bool.true_or,Option.isSome_some]
  ·rw [jA e,decide_eq_false e,Bool.false_or]; exact qM k r
theorem rX (kvs:List (κ × V)) (k:κ) (v:V):(kC kvs k v).length<=kvs.length+1:=by
 unfold kC
 split
 ·rw [List.length_map]; omega
 ·rw [List.length_append,List.length_cons,List.length_nil]; omega
theorem ri {kvs:List (κ × V)} {k:κ} (v:V) (h:jB kvs k=none):kC kvs k v=kvs++[(k,v)]:=by
 unfold kC
 rw [qM,h]
 exact if_neg (by decide)
theorem RelO.isSome_eq {o:Option V} {u:Option Value} (r:RelO o u):o.isSome=u.isSome:=by
 cases o with
 | none=>cases u with
  | none=>rfl
  | some _=>exact (show False from r).elim
 | some _=>cases u with
  | none=>exact (show False from r).elim
  | some _=>rfl
theorem RelO.getD {o:Option V} {u:Option Value} {d:V} {d':Value} (r:RelO o u) (rd:RelV d d'):RelV (o.getD d) (u.getD d'):=by
 cases o with
 | none=>cases u with
  | none=>exact rd
  | some _=>exact (show False from r).elim
 | some _=>cases u with
  | none=>exact (show False from r).elim
  | some _=>exact r
theorem KV.val {kvs:List (κ × V)} {vs:List (κ × Value)} (r:KV kvs vs) (k:κ):RelO (jB kvs k) (valueAt vs k):=by
 unfold KV at r
 induction r with
 | nil=>exact True.intro
 | @cons p q ps qs h t ih=>
  obtain ⟨h1,h2⟩:=h
  by_cases e:p.1=k
  ·have e':q.1=k:=h1.symm.trans e
   have b:valueAt (q::qs) k=some q.2:=by simp [valueAt,List.find?_cons,e']
   rw [jz e,b]; exact h2
  ·have e':¬ q.1=k:=fun z=>e (h1.trans z)
   have b:valueAt (q::qs) k=valueAt qs k:=by simp [valueAt,List.find?_cons,e']
   rw [jA e,b]; exact ih
theorem KV.any {kvs:List (κ × V)} {vs:List (κ × Value)} (r:KV kvs vs) (k:κ):(kvs.any fun kv=>decide (kv.1=k))=vs.any fun kv=>decide (kv.1=k):=by
 unfold KV at r
 induction r with
 | nil=>rfl
 | cons h t ih=>rw [List.any_cons,List.any_cons,ih,h.1]
theorem KV.repl {kvs:List (κ × V)} {vs:List (κ × Value)} (r:KV kvs vs) (k:κ) {y:V} {u:Value} (ry:RelV y u) :
  KV (kvs.map fun kv=>if kv.1=k then (kv.1,y) else kv) (vs.map fun kv=>if kv.1=k then (kv.1,u) else kv):=by
 unfold KV at r ⊢
 induction r with
 | nil=>exact .nil
 | @cons p q ps qs h t ih=>
  rw [List.map_cons,List.map_cons]
  refine .cons ?_ ih
  obtain ⟨h1,h2⟩:=h
  by_cases e:p.1=k
  ·rw [if_pos e,if_pos (h1.symm.trans e)]; exact ⟨h1,ry⟩
  ·rw [if_neg e,if_neg (fun z=>e (h1.trans z))]; exact ⟨h1,h2⟩
theorem KV.put {kvs:List (κ × V)} {vs:List (κ × Value)} (r:KV kvs vs) (k:κ) {y:V} {u:Value} (ry:RelV y u):KV (kC kvs k y) (stored vs k u):=by
 unfold kC stored
 rw [r.any k]
 by_cases e:(vs.any fun kv=>decide (kv.1=k))=true
 ·rw [if_pos e,if_pos e]; exact r.repl k ry
 ·rw [if_neg e,if_neg e]; exact Paired.snoc r ⟨rfl,ry⟩
end
theorem vb {P:Program} {w:World} {k:bi} {u:Value} (r:RelV (kV k) u):(cz P w).is k u=true:=by
 cases k with
 | inl i=>obtain ⟨t,e⟩:=(show ∃ t,u=Value.int i t from r); subst e; exact rK P w i t
 | inr x=>obtain ⟨t,e⟩:=(show ∃ t,u=Value.str x t from r); subst e; exact rJ P w x t
theorem oN {P:Program} {w:World}:∀ {ks:List bi} {us:List Value},Vals (ks.map kV) us->ItemsAre (cz P w) ks us
 | [],_,r=>by rw [List.map_nil] at r; cases r; exact .nil
 | k::ks,_,r=>by
  rw [List.map_cons] at r
  cases r with
  | cons h t=>exact .cons (vb h) (oN t)
abbrev KT (H:Hp):List (List bi×V)->List (List bi×Addr×Value)->Prop:=Paired fun p q=>p.1=q.1/\H q.2.1=some (.tup (p.1.map kV))/\RelV p.2 q.2.2
theorem KT.val {H:Hp} {kvs:List (List bi×V)} {xs:List (List bi×Addr×Value)} (r:KT H kvs xs) (k:List bi):RelO (jB kvs k) ((atKey xs k).map (·.2)):=by
 induction r with
 | nil=>exact True.intro
 | @cons p q ps qs h t ih=>
  obtain ⟨h1,_,h2⟩:=h
  by_cases e:p.1=k
  ·have e':q.1=k:=h1.symm.trans e
   have b:atKey (q::qs) k=some q.2:=by simp [atKey,List.find?_cons,e']
   rw [jz e,b]; exact h2
  ·have e':¬ q.1=k:=fun z=>e (h1.trans z)
   have b:atKey (q::qs) k=atKey qs k:=by simp [atKey,List.find?_cons,e']
   rw [jA e,b]; exact ih
section
variable {P:Program} {w:World} {H:Hp} {h:Heap} {a:Addr}
theorem BW {u:HO} (ok:HOk P w H h) (e:Rd H a u):ObjOk P w H h a u:=e.ok ok
theorem vo {kvs:List (bi×V)} (ok:HOk P w H h) (e:Rd H a (.dK kvs)):kvs.length<=sizeLine/\(a==sysModules)=false/\∃ vs,KV kvs vs/\h.DictOf (cz P w) a vs:=
 show ObjOk P w H h a (.dK kvs) from BW ok e
theorem GH {kvs:List (bi×V)} (ok:HOk P w H h) (e:H a=some (.dK kvs)):kvs.length<=sizeLine/\(a==sysModules)=false/\∃ vs,KV kvs vs/\h.DictOf (cz P w) a vs:=vo ok (.inl e)
theorem ud {ks:List bi} (ok:HOk P w H h) (e:H a=some (.tup (ks.map kV))):(tupleKind (cz P w)).is h ks a:=by
 obtain ⟨_,its,r,⟨o,h1,h2,n,h3⟩,_⟩:=(show ObjOk P w H h a (.tup (ks.map kV)) from ok a _ e)
 exact ⟨o,its.toArray,n,h1,h2,h3,by simpa using oN r⟩
theorem yM {kvs:List (List bi×V)} (ok:HOk P w H h) (e:Rd H a (.dT kvs)):kvs.length<=sizeLine/\(a==sysModules)=false /\
  ∃ xs,KT H kvs xs/\h.DictOfH (tupleKind (cz P w)) a xs:=by
 obtain ⟨z,y,xs,r,o,es,ep,h1,h2,h3,h4,h5⟩:=(show ObjOk P w H h a (.dT kvs) from BW ok e)
 refine ⟨z,y,xs,r,o,es,ep,h1,h2,h3,h4,fun x hx=>?_,h5⟩
 have all:∀ {l:List (List bi×V)} {m:List (List bi×Addr×Value)},KT H l m->∀ x∈m,(tupleKind (cz P w)).is h x.1 x.2.1:=by
  intro l m q
  induction q with
  | nil=>intro x hx; exact nomatch hx
  | @cons p q ps qs hq t ih=>
   intro x hx
   rcases List.mem_cons.mp hx with e | hx
   ·subst e
    exact ud ok (by rw [<- hq.1]; exact hq.2.1)
   ·exact ih x hx
 exact all r x hx
end
def DGet (H:Hp) (a:Addr) (y:V) (r:Option V):Prop:=
 (∃ kvs k,Rd H a (.dK kvs)/\y=kV k/\r=jB kvs k)\/∃ kvs k b,Rd H a (.dT kvs)/\y=.ref b/\H b=some (.tup (k.map kV))/\r=jB kvs k
theorem DGet.k {H:Hp} {a:Addr} {kvs:List (bi×V)} {k:bi} (e:H a=some (.dK kvs)):DGet H a (kV k) (jB kvs k):=.inl ⟨kvs,k,.inl e,rfl,rfl⟩
section
variable {X:Cx} {pins:List (Addr×Obj)} {σ:St} {H:Hp} {s:Shared} {a:Addr} {y v:V} {u r:Value} {o:Option V} {A:Around} {E:Value->Shared->Prop}
theorem Inv.big (I:Inv X pins σ H s):sysModules<s.heap.objs.size:=by
 have h:mainGlobals<s.heap.objs.size:=(I.mod.glob.keeps I.bk).lt
 exact Nat.lt_trans (by decide) h
theorem lH {Q:Value->Shared->Prop} (hu:A.units+1<cLine) (I:Inv X pins σ H s) (g:DGet H a y o) (ry:RelV y u) (h:∀ s',Inv X pins σ H s'->Q (.bool o.isSome) s') :
  wpAny (model X.prog X.w) A (compareOp .In u (.ref a)) Q E s:=by
 rcases g with ⟨kvs,k,e,ey,l⟩ | ⟨kvs,k,b,e,ey,eb,l⟩
 ·subst ey
  obtain ⟨z,hd,vs,rel,dd⟩:=vo I.hok e
  refine wpAny_in_of (vb ry) hd dd.mapOf ?_
  rw [<- (rel.val k).isSome_eq,<- l]
  exact h _ (I.tok _)
 ·subst ey
  cases (show u=Value.ref b from ry)
  obtain ⟨z,hd,xs,rel,dd⟩:=yM I.hok e
  refine wpAny_in_heap (tupleKind_room_in1 hu) (ud I.hok eb) hd dd ?_
  have q:=(rel.val k).isSome_eq
  rw [Option.isSome_map] at q
  rw [<- q,<- l]
  exact h _ (I.tok _)
theorem Bx {h':Heap} {t':Nat} {ob:HO} (I:Inv X pins σ H s) (mu:G5 (H a)) (hs:Heap.SameBut a s.heap h') (he:∃ q,h'.get? a=some q) (new:ObjOk X.prog X.w (upd H a ob) h' a ob) :
  Inv X pins σ (upd H a ob) { s with heap:=h',toks:=t' }:=
 I.write (x:=a) (e:=a) mu (.inl rfl) (fun b q hb z=>(hs.2 b hb).trans z) he new
theorem DY {P:Program} {w:World} {H':Hp} {h':Heap} {kvs:List (bi×V)} {vs:List (bi×Value)} (z:kvs.length<=sizeLine) (hd:(a==sysModules)=false) (rel:KV kvs vs) (dd:h'.DictOf (cz P w) a vs) :
  ObjOk P w H' h' a (.dK kvs):=⟨z,hd,vs,rel,dd⟩
end
theorem yN {P:Program} {w:World} {H:Hp} (h:Heap) (hb:sysModules<h.objs.size):ObjOk P w H (h.push { cls:=.type "dict",data:=.dict #[] }) h.objs.size (.dK []):=
 ⟨Nat.zero_le _,beq_eq_false_iff_ne.mpr (Ne.symm (Nat.ne_of_lt hb)),[],.nil,Heap.DictOf.new h⟩
def pi:List (TE×TE)->St->Hp->(List (V×V)->Hp->Prop)->Prop
 | [],_,H,Q=>Q [] H
 | (tk,tv)::r,σ,H,Q=>tk σ H fun x H1=>tv σ H1 fun y H2=>pi r σ H2 fun ps H3=>Q ((x,y)::ps) H3
abbrev VV:List (V×V)->List (Value×Value)->Prop:=Paired fun p q=>RelV p.1 q.1/\RelV p.2 q.2
def G4 (X:Cx) (pos:Pos) (keys:List (Option Expr)) (values:List Expr) (trs:List (TE×TE)):Prop:=
 ∀ (pins:List (Addr×Obj)) (s:Shared) (σ:St) (H:Hp) (Q:List (V×V)->Hp->Prop),Inv X pins σ H s->pi trs σ H Q ->
  wpAny (model X.prog X.w) X.A (evalPairs (pairTrees keys values X.env pos)) (fun vs s'=>∃ ps H',Inv X pins σ H' s'/\VV ps vs/\Q ps H') X.xe s
theorem Ap {X:Cx} {pos:Pos}:G4 X pos [] [] []:=fun pins s σ H Q I h=>pairTrees_nil_walk ⟨[],H,I,.nil,h⟩
theorem xA {X:Cx} {pos:Pos} {k v:Expr} {ks:List (Option Expr)} {vs:List Expr} {tk tv:TE} {trs:List (TE×TE)} (hk:PE X k tk) (hv:PE X v tv) (hr:G4 X pos ks vs trs) :
  G4 X pos (some k::ks) (v::vs) ((tk,tv)::trs):=fun pins s σ H Q I h=>
 pairTrees_cons_walk (cx (hk pins s σ H _ I h) fun u s1 ⟨x,H1,I1,rx,q1⟩=>cx (hv pins s1 σ H1 _ I1 q1) fun w2 s2 ⟨y,H2,I2,ry,q2⟩=>
  cx (hr pins s2 σ H2 _ I2 q2) fun ws s3 ⟨ps,H3,I3,rel,q3⟩=>⟨(x,y)::ps,H3,I3,.cons ⟨rx,ry⟩ rel,q3⟩)
noncomputable def g8 (kvs more:List (bi×V)):List (bi×V):=more.foldl (fun acc kv=>kC acc kv.1 kv.2) kvs
theorem KV.merge:∀ {more:List (bi×V)} {rs:List (bi×Value)} {kvs:List (bi×V)} {vs:List (bi×Value)},KV more rs->KV kvs vs->KV (g8 kvs more) (merged vs rs):=by
 intro more rs kvs vs r
 unfold KV at r
 induction r generalizing kvs vs with
 | nil=>intro q; exact q
 | @cons p q ps qs h t ih=>
  intro r0
  have e:KV (kC kvs p.1 p.2) (stored vs q.1 q.2):=by
   have:=r0.put p.1 h.2
   rw [<- h.1]; exact this
  exact ih e
theorem ja:∀ (more kvs:List (bi×V)),(g8 kvs more).length<=kvs.length+more.length
 | [],kvs=>by show kvs.length<=kvs.length+0; omega
 | p::r,kvs=>by
  have h1:=ja r (kC kvs p.1 p.2)
  have h2:=rX kvs p.1 p.2
  show (g8 (kC kvs p.1 p.2) r).length<=_
  rw [List.length_cons]; omega
theorem nk {P:Program} {w:World}:∀ {kvs:List (bi×V)} {ws:List (Value×Value)},VV (kvs.map fun kv=>(kV kv.1,kv.2)) ws->∃ rs,Carries (cz P w) ws rs/\KV kvs rs
 | [],_,r=>by rw [List.map_nil] at r; cases r; exact ⟨[],True.intro,.nil⟩
 | p::kvs,_,r=>by
  rw [List.map_cons] at r
  cases r with
  | @cons a b as bs h t=>
   obtain ⟨rs,c,q⟩:=nk (P:=P) (w:=w) t
   obtain ⟨b1,b2⟩:=b
   exact ⟨(p.1,b2)::rs,⟨vb h.1,rfl,c⟩,.cons ⟨rfl,h.2⟩ q⟩
def E1 (trs:List (TE×TE)):TE:=fun σ H Q=>∀ p,H p=none->pi trs σ (upd H p (.dK [])) fun ps H2=>H2 p=some (.dK [])/\∃ kvs:List (bi×V),ps=kvs.map (fun kv=>(kV kv.1,kv.2))/\kvs.length<=15/\Q (.ref p) (upd H2 p (.dK (g8 [] kvs)))
theorem Aw {X:Cx} {pos:Pos} {keys:List (Option Expr)} {values:List Expr} {trs:List (TE×TE)} (h:G4 X pos keys values trs) (hall:keys.all (·.isSome)=true) (hl:keys.length=values.length) (h0:keys≠[])
  (h15:keys.length<=15):PE X (.Dict keys values pos) (E1 trs):=by
 intro pins s σ H Q I q
 have hn:=I.hok.fresh (Nat.le_refl s.heap.objs.size)
 have I1:=I.laid (a:=s.heap.objs.size) (o:=.dK []) (h':=s.heap.push { cls:=.type "dict",data:=.dict #[] }) (t':=s.toks) (fun _ _ q=>Heap.get?_push_of_some _ q) (Nat.le_refl _) (yN s.heap I.big)
 refine wpAny_Dict_walk (knd:=cz X.prog X.w) hall hl h0 h15 (cx (h pins _ σ _ _ I1 (q _ hn)) fun ws s2 ⟨ps,H2,I2,rel,e,kvs,ep,lk,q2⟩=>?_)
 subst ep
 obtain ⟨rs,c,rk⟩:=nk (P:=X.prog) (w:=X.w) rel
 obtain ⟨z,hd,vs0,r0,dd⟩:=GH I2.hok e
 cases r0
 refine ⟨rs,c,dd,fun h' dd' hs=>⟨.ref s.heap.objs.size,_,?_,rfl,q2⟩⟩
 have hz:(g8 [] kvs).length<=sizeLine:=by
  have h1:=ja kvs []
  rw [List.length_nil] at h1
  rw [sizeLine_eq]; omega
 have he:∃ q,h'.get? s.heap.objs.size=some q:=let ⟨q,_,_,hq,_⟩:=dd'; ⟨q,hq⟩
 exact Bx I2 (by rw [e]; exact True.intro) hs he (DY hz hd (rk.merge .nil) dd')
structure M2 (X:Cx) (o:Expr) (m:Str) (apos:Pos) (e f:Expr) (cpos:Pos):Prop where
 base:attributeBase o m X.env (eval o X.env)=eval o X.env
 few:((backTo cpos (starEach [e,f] X.env)).all (fun x=>!x.1)&&(backToKw cpos (keywordEach [] X.env)).all (fun x=>x.1.isSome)
  && decide (([e,f]:List Expr).length+([]:List Keyword).length+(if ([]:List Keyword).isEmpty then 0 else 1)<30))=true
 line:(apos.endLine==cpos.line)=true
 trees:backTo cpos (starEach [e,f] X.env)=[(false,eval e X.env),(false,eval f X.env)]
def Kk (H:Hp) (a:Addr):Prop:=(∃ kvs,Rd H a (.dK kvs))\/∃ kvs,Rd H a (.dT kvs)
theorem DJ {X:Cx} {pins:List (Addr×Obj)} {σ:St} {H:Hp} {s:Shared} {a:Addr} (I:Inv X pins σ H s) (d:Kk H a) :
  s.TypeIs (.ref a) "dict" /\ (∀ b,Value.ref a=.ref b->∃ ob,s.heap.get? b=some ob/\ob.dict=none)/\(a==sysModules)=false:=by
 rcases d with ⟨kvs,e⟩ | ⟨kvs,e⟩
 ·obtain ⟨_,hd,vs,_,dd⟩:=vo I.hok e
  refine ⟨dd.typeIs,fun b q=>?_,hd⟩
  cases q
  obtain ⟨ob,_,_,h1,h2,_⟩:=dd
  exact ⟨ob,h1,h2.2.1⟩
 ·obtain ⟨_,hd,xs,_,dd⟩:=yM I.hok e
  refine ⟨dd.typeIs,fun b q=>?_,hd⟩
  cases q
  obtain ⟨ob,_,_,h1,h2,_⟩:=dd
  exact ⟨ob,h1,h2.2.1⟩
section
variable {X:Cx} {pins:List (Addr×Obj)} {σ:St} {H:Hp} {s:Shared} {a:Addr} {y d:V} {u r:Value} {o:Option V} {A:Around} {E:Value->Shared->Prop}
theorem D6 {Q:Value->Shared->Prop} (hu:A.units+1<cLine) (I:Inv X pins σ H s) (g:DGet H a y o) (ry:RelV y u) (rd:RelV d r) (h:∀ w' s',Inv X pins σ H s'->RelV (o.getD d) w'->Q w' s') :
  wpAny (model X.prog X.w) A (call (.builtin "dict.get") [.ref a,u,r]) Q E s:=by
 rcases g with ⟨kvs,k,e,ey,l⟩ | ⟨kvs,k,b,e,ey,eb,l⟩
 ·subst ey
  obtain ⟨z,hd,vs,rel,dd⟩:=vo I.hok e
  refine call_meetsIn PySem.F.slot_dict_get dd.typeIs PySem.F.entry_dict_get (PySem.F.args_dict_get_3 _ _ _) (meets_dict_get_default (cz X.prog X.w) a (vb ry) hd r) ⟨_,dd.mapOf,h _ _ (I.tok _) ?_⟩
  rw [l]
  exact (rel.val k).getD rd
 ·subst ey
  cases (show u=Value.ref b from ry)
  obtain ⟨z,hd,xs,rel,dd⟩:=yM I.hok e
  refine call_meetsIn PySem.F.slot_dict_get dd.typeIs PySem.F.entry_dict_get (PySem.F.args_dict_get_3 _ _ _) (meetsH_dict_get_default (tupleKind (cz X.prog X.w)) a b hd r) ⟨tupleKind_room_in1 hu,k,xs,ud I.hok eb,dd,h _ _ (I.tok _) ?_⟩
  rw [l]
  exact (rel.val k).getD rd
end
def CC (td ty tx:TE):TE:=fun σ H Q=>td σ H fun x H1=>∃ a,x=.ref a/\Kk H1 a/\ty σ H1 fun y H2=>tx σ H2 fun z H3=>∃ o,DGet H3 a y o/\Q (o.getD z) H3
section
variable {X:Cx} {o e f:Expr} {apos cpos:Pos} {td ty tx:TE}
theorem xH (hu:X.A.units+1<cLine) (ho:PE X o td) (he:PE X e ty) (hf:PE X f tx) (m:M2 X o "get" apos e f cpos):PE X (.Call (.Attribute o "get" apos) [e,f] [] cpos) (CC td ty tx):=by
 intro pins s σ H Q I h
 refine wpAny_Call_method m.base m.few m.line PySem.F.plainAttrs_dict PySem.F.slot_dict_get PySem.F.type_dict_get (cx (ho pins s σ H _ I h) fun u s1 ⟨x,H1,I1,rx,a,ex,d,q1⟩=>?_)
 subst ex
 obtain rfl:u=Value.ref a:=rx
 obtain ⟨t1,t2,_⟩:=DJ I1 d
 refine ⟨t1,t2,?_⟩
 rw [m.trees]
 refine Calls.callWith_builtin rfl (Calls.evalArgs_plain (Calls.spliced_cons (cx (he pins s1 σ H1 _ I1 q1) fun iv s2 ⟨y,H2,I2,ry,q2⟩=>
  Calls.spliced_cons (cx (hf pins s2 σ H2 _ I2 q2) fun fv s3 ⟨z,H3,I3,rz,ov,g,q3⟩=>Calls.spliced_nil ?_))))
 exact D6 hu I3 g ry rz fun w' s4 I4 rw'=>⟨_,H3,I4,rw',q3⟩
end
end L2
namespace Att
open PySem PySem.W PySem.Calls PyProof.Rows
end Att
namespace L2
open PySem PySem.Spec PyProof.Rows
end L2
namespace L2
open PySem PySem.Spec PyProof.Rows
end L2
namespace L2
open PySem PySem.Spec PyProof.Rows
end L2
namespace VL
open PySem PySem.Spec PyProof.Rows L2
noncomputable def sj:D->Option bi
 | .int i=>some (.inl i)
 | .str x=>some (.inr x)
 | _=>none
@[simp] theorem F0 (i:Int):sj (.int i)=some (.inl i):=rfl
noncomputable def Kx:Option Sl->Option (List (bi×D))
 | some (.own (.d es))=>some es
 | _=>none
@[simp] theorem Ig (es:List (bi×D)):Kx (some (.od es))=some es:=rfl
noncomputable def lG (es:List (bi×D)) (k:bi):Option D:=(es.find? fun p=>decide (p.1=k)).map (·.2)
theorem si {K:Fg} {Z:Hp} {v:V} {d:D} {k:bi} (r:Rep K Z v d) (h:sj d=some k):v=kV k:=by
 cases d with
 | int i=>cases h; exact r.int_eq
 | str x=>cases h; exact r.str_eq
 | _=>cases h
theorem q9 {K:Fg} {Z:Hp} {kvs:List (bi×V)} {es:List (bi×D)} (h:uJ K Z kvs es):kvs.length=es.length:=by
 have:=congrArg List.length h.1
 rw [List.length_map,List.length_map] at this
 exact this.symm
theorem vW {K:Fg} {Z:Hp} {kv:bi×V} {kvs:List (bi×V)} {es:List (bi×D)} (h:uJ K Z (kv::kvs) es):∃ d fs,es=(kv.1,d)::fs/\Rep K Z kv.2 d/\uJ K Z kvs fs:=by
 obtain ⟨h1,h2⟩:=h
 cases es with
 | nil=>cases h1
 | cons e fs=>
  obtain ⟨k,d⟩:=e
  rw [List.map_cons,List.map_cons,List.cons.injEq] at h1
  cases h2 with
  | cons r q=>exact ⟨d,fs,by rw [<- h1.1],r,h1.2,q⟩
theorem re {K:Fg} {Z:Hp} (k:bi):∀ {kvs:List (bi×V)} {es:List (bi×D)},uJ K Z kvs es->(jB kvs k=none/\lG es k=none)\/∃ v d,jB kvs k=some v/\lG es k=some d/\Rep K Z v d
 | [],es,h=>by
  have:es=[]:=List.length_eq_zero_iff.mp (q9 h).symm
  subst this
  exact .inl ⟨rfl,rfl⟩
 | kv::kvs,es,h=>by
  obtain ⟨d,fs,rfl,r,q⟩:=vW h
  by_cases e:kv.1=k
  ·exact .inr ⟨kv.2,d,jz e,by simp [lG,List.find?_cons,e],r⟩
  ·rw [jA e]
   have:lG ((kv.1,d)::fs) k=lG fs k:=by simp [lG,List.find?_cons,e]
   rw [this]
   exact re k q
theorem Km {n:Nat} (h:n+64<cLine):n+1<cLine:=by omega
end VL
namespace VL
open PySem PySem.Spec PyProof.Rows L2
noncomputable def su (x:Int):List Int->List Int
 | []=>[x]
 | y::r=>if x<=y then x::y::r else y::su x r
noncomputable def hG:List Int->List Int
 | []=>[]
 | x::r=>su x (hG r)
theorem kK (x:Int):∀ l:List Int,(su x l).Perm (x::l)
 | []=>.refl _
 | y::r=>by
  unfold su
  split
  ·exact .refl _
  ·exact ((kK x r).cons y).trans (.swap x y r)
theorem iJ:∀ l:List Int,(hG l).Perm l
 | []=>.refl _
 | x::r=>(kK x _).trans ((iJ r).cons x)
theorem vf (x:Int):∀ l:List Int,l.Pairwise (· <= ·)->(su x l).Pairwise (· <= ·)
 | [],_=>by simp [su]
 | y::r,h=>by
  obtain ⟨h1,h2⟩:=List.pairwise_cons.mp h
  unfold su
  split
  ·rename_i hx
   exact List.pairwise_cons.mpr ⟨fun z hz=>by rcases List.mem_cons.mp hz with rfl | hz; exact hx; exact Int.le_trans hx (h1 z hz),h⟩
  ·rename_i hx
   refine List.pairwise_cons.mpr ⟨fun z hz=>?_,vf x r h2⟩
   rcases List.mem_cons.mp ((kK x r).mem_iff.mp hz) with rfl | hz
   ·omega
   ·exact h1 z hz
theorem oQ:∀ l:List Int,(hG l).Pairwise (· <= ·)
 | []=>.nil
 | x::r=>vf x _ (oQ r)
theorem mE:∀ {a b:List Int},a.Perm b->a.Pairwise (· <= ·)->b.Pairwise (· <= ·)->a=b
 | [],b,p,_,_=>(List.nil_perm.mp p).symm
 | x::a,b,p,ha,hb=>by
  cases b with
  | nil=>exact absurd (List.perm_nil.mp p) (by simp)
  | cons y b=>
   obtain ⟨ha1,ha2⟩:=List.pairwise_cons.mp ha
   obtain ⟨hb1,hb2⟩:=List.pairwise_cons.mp hb
   have e:x=y:=by
    have h1:x∈y::b:=p.mem_iff.mp List.mem_cons_self
    have h2:y∈x::a:=p.mem_iff.mpr List.mem_cons_self
    rcases List.mem_cons.mp h1 with h1 | h1
    ·exact h1
    ·rcases List.mem_cons.mp h2 with h2 | h2
     ·exact h2.symm
     ·exact Int.le_antisymm (ha1 y h2) (hb1 x h1)
   subst e
   rw [mE (List.perm_cons x |>.mp p) ha2 hb2]
theorem wy {a b:List Int} (p:a.Perm b) (h:a.Pairwise (· <= ·)):a=hG b:=mE (p.trans (iJ b).symm) h (oQ b)
theorem gF:∀ {out:List Value} {l:List Int},IntsAre out l->Vals (l.map V.int) out
 | _,_,.nil=>.nil
 | _,_,.cons n t r=>.cons ⟨t,rfl⟩ (gF r)
theorem iH {h:Heap} {a b:Addr} {f:Obj->Obj} {o:Obj} (hab:b≠a) (e:h.get? b=some o):(h.update a f).get? b=some o:=(Heap.get?_update_other _ _ (Ne.symm hab)).trans e
end VL
namespace VL
open PySem PySem.Spec PyProof.Rows L2
end VL
namespace VL
open PySem PySem.Spec PyProof.Rows L2
noncomputable def EG:List D->Option D
 | [.list a,.list b]=>some (.list (List.zipWith (fun x y=>.tuple [x,y]) a b))
 | _=>none
@[simp] noncomputable def KO (fs:Dv->Option (List D)) (g:List D->Option D):Dv->Option D:=fun δ=>(fs δ).bind g
@[simp] theorem G6 (a b:List D):EG [.list a,.list b]=some (.list (List.zipWith (fun x y=>.tuple [x,y]) a b)):=rfl
noncomputable def As:List Addr->List (List V)->Addr->Option HO
 | a::as,t::ts,b=>if b=a then some (.tup t) else As as ts b
 | _,_,_=>none
end VL
namespace VL
open PySem PySem.Spec PyProof.Rows L2
theorem uf (k:bi):sj (jb k)=some k:=by cases k <;> rfl
end VL
namespace VL
open PySem PySem.Spec PyProof.Rows L2
noncomputable def Ck (neg:Bool):D->D->Option D
 | a,.list xs=>if kW a=true/\PyData.canLayAll0 xs=true then some (.bool (if neg=true then !sB a xs else sB a xs)) else none
 | a,.tuple xs=>if kW a=true/\PyData.canLayAll0 xs=true then some (.bool (if neg=true then !sB a xs else sB a xs)) else none
 | _,_=>none
theorem EN {k:Nat} {A:Around} (r:Room k A):A.units+65<cLine:=by have:=r.un; omega
section
variable {X:Cx}
theorem sI (hu:X.A.units+65<cLine):OpR X (compareOp .NotIn) (rD X.K (Ck true)):=by
 intro pins s σ H x y v u Q I rx ry q
 obtain ⟨Z,a,b,d,zh,ra,rb,e,k⟩:=q
 cases b with
 | list xs=>
  obtain ⟨hs,e⟩:=eN e
  cases e
  obtain ⟨as,r1⟩:=ra.reads I zh rx (fV hs.1)
  obtain ⟨bs,r2⟩:=rb.reads I zh ry hs.2
  exact SeqAt.notIn_list_reads r2 r1 hs.2 (fV hs.1) (room_in_shaped hs.1 hu) ⟨.bl _,H,I,rfl,k _ Z H (New.refl zh) (.bl _)⟩
 | tuple xs=>
  obtain ⟨hs,e⟩:=eN e
  cases e
  obtain ⟨as,r1⟩:=ra.reads I zh rx (fV hs.1)
  obtain ⟨bs,r2⟩:=rb.reads I zh ry hs.2
  exact SeqAt.notIn_tuple_reads r2 r1 hs.2 (fV hs.1) (room_in_shaped hs.1 hu) ⟨.bl _,H,I,rfl,k _ Z H (New.refl zh) (.bl _)⟩
 | _=>cases e
end
end VL
namespace VL
open PySem PySem.Spec PyProof.Rows L2
section
variable {cmp:Nat->Nat->(Bool->Shared->Prop)->Shared->Prop} {N:Nat} {key:Nat->Int}
noncomputable def ky (key:Nat->Int) (p:Array Nat) (i:Nat):Int:=key (p.getD i 0)
variable {s:Shared} (hinj:∀ i j,i<N->j<N->key i=key j->i=j) (hc:∀ i j,i<N->j<N->i≠j->∀ C:Bool->Shared->Prop,C (decide (key i<key j)) s->cmp i j C s)
end
end VL
namespace VL
open PySem PySem.Spec PyProof.Rows L2
end VL
namespace VL
open PySem PySem.Spec PyProof.Rows L2
end VL
namespace VL
open PySem PySem.Spec PyProof.Rows L2
end VL
namespace VL
open PySem PySem.Spec PyProof.Rows L2
end VL
namespace VL
open PySem PySem.Spec PyProof.Rows L2
end VL
namespace VL
open PySem PySem.Spec PyProof.Rows L2
end VL
namespace VL
open PySem PySem.Spec PyProof.Rows L2
end VL
namespace VL
open PySem PySem.Spec PyProof.Rows L2
section
variable {K:Fg} {H₀ Z₀ Z H:Hp} {δ:Dv} {σ:St} {p:Addr} {o:HO}
theorem Hold.aside (h:Hold K H₀ Z₀ Z δ σ H) (hp:H p=none) (o:HO):Hold K (upd H₀ p o) Z₀ Z δ σ (upd H p o) where
 zh:=h.zh.trans (eK hp)
 h0:=fun b u e=>by
  by_cases hb:b=p
  ·subst hb; rw [aN] at e ⊢; exact e
  ·rw [aI hb] at e ⊢; exact h.h0 b u e
 z0:=h.z0
 zb:=fun b hb=>by
  by_cases e:b=p
  ·subst e
   have z1:=j2 h.zh hp
   rw [z1,fm h.z0 z1]
  ·rw [aI e] at hb; exact h.zb b hb
 len:=h.len
 fz:=h.fz
 own:=fun i c e=>by
  obtain ⟨a,u,h1,h2,h3,h4,h5⟩:=h.own i c e
  have:a≠p:=fun z=>by rw [z,hp] at h4; cases h4
  exact ⟨a,u,h1,by rw [aI this]; exact h2,h3,by rw [aI this]; exact h4,h5⟩
 dja:=h.dja
 fr:=fun i ds e=>by
  obtain ⟨a,xs,h1,h2,h3,h4,h5⟩:=h.fr i ds e
  have:a≠p:=fun z=>by have:=h.zh _ _ h4; rw [z,hp] at this; cases this
  exact ⟨a,xs,h1,by rw [aI this]; exact h2,h3,h4,h5⟩
 nf:=h.nf
theorem Hold.inside (h:Hold K (upd H₀ p o) Z₀ Z δ σ H) (h0:H₀ p=none) (hz:Z₀ p=none):H p=some o/\Hold K H₀ Z₀ Z δ σ (fun b=>if b=p then none else H b):=by
 have hzp:Z p=none:=by rw [h.zb p (by rw [aN]; intro z; cases z)]; exact hz
 refine ⟨h.h0 p o aN,fun b u e=>?_,fun b u e=>?_,h.z0,fun b hb=>?_,h.len,h.fz,fun i c e=>?_,h.dja,fun i ds e=>?_,h.nf⟩
 ·show (if b=p then none else H b)=some u
  rw [if_neg (bf e hzp)]; exact h.zh b u e
 ·show (if b=p then none else H b)=some u
  have:=bf e h0
  rw [if_neg this]; exact h.h0 b u (by rw [aI this]; exact e)
 ·exact h.zb b (by rw [aI (fun z=>hb (by rw [z]; exact h0))]; exact hb)
 ·obtain ⟨a,u,h1,h2,h3,h4,h5⟩:=h.own i c e
  have:a≠p:=fun z=>by rw [z,aN] at h2; cases h2
  exact ⟨a,u,h1,by rw [aI this] at h2; exact h2,h3,by show (if a=p then none else H a)=_; rw [if_neg this]; exact h4,h5⟩
 ·obtain ⟨a,xs,h1,h2,h3,h4,h5⟩:=h.fr i ds e
  have:a≠p:=fun z=>by rw [z,aN] at h2; cases h2
  exact ⟨a,xs,h1,by rw [aI this] at h2; exact h2,h3,h4,h5⟩
end
end VL
namespace VL
open PySem PySem.Spec PyProof.Rows L2
end VL
namespace VL
open PySem PySem.Spec PyProof.Rows L2
end VL
namespace VL
open PySem PySem.Spec PyProof.Rows L2
noncomputable def uh:List D->Option (List Int)
 | []=>some []
 | .int i::r=>(uh r).bind fun l=>some (i::l)
 | _::_=>none
end VL
namespace VL
open PySem PySem.Spec PyProof.Rows L2
section
variable {X:Cx}
variable {e:Expr} {p p2 pos pos2:Pos} {te:TE} {f:Dv->Option D}
theorem je:∀ {l:List Int} {us:List Value},Vals (l.map V.int) us->IntsAre us l
 | [],[],.nil=>.nil
 | n::l,u::us,.cons h r=>by
  obtain ⟨t,rfl⟩:=h
  exact .cons n t (je r)
theorem sr {K:Fg} {Z:Hp}:∀ {vs:List V} {ds:List D} {l:List Int},Reps K Z vs ds->uh ds=some l->vs=l.map V.int
 | _,_,_,.nil,h=>by cases h; rfl
 | _,.int i::ds,l,.cons r rs,h=>by
  obtain ⟨l',e,h⟩:=bind_some h
  cases h
  rw [r.int_eq,sr rs e]
  rfl
 | _,.none::ds,l,.cons r rs,h=>by cases h
 | _,.bool _::ds,l,.cons r rs,h=>by cases h
 | _,.str _::ds,l,.cons r rs,h=>by cases h
 | _,.list _::ds,l,.cons r rs,h=>by cases h
 | _,.tuple _::ds,l,.cons r rs,h=>by cases h
 | _,.dict _::ds,l,.cons r rs,h=>by cases h
end
end VL
namespace VL
open PySem PySem.Spec PyProof.Rows
noncomputable def dQ:Bool->Keyed->Array Keyed->Nat->Nat->Nat->StateT SortSt Sem (Option Nat):=sortPriv% PySem.Builtin.gallop
noncomputable def de:Nat->StateT SortSt Sem Unit:=sortPriv% PySem.Builtin.setMinGallop
noncomputable def mR:Array Keyed->Array Keyed->StateT SortSt Sem (Array Keyed):=sortPriv% PySem.Builtin.mergeLo
noncomputable def mS:Array Keyed->Array Keyed->StateT SortSt Sem (Array Keyed):=sortPriv% PySem.Builtin.mergeHi
noncomputable def hZ (left:Bool) (key:Keyed) (arr:Array Keyed) (base i:Nat):StateT SortSt Sem (Option Bool):=do
 let x <- elem' arr (base+i)
 if left then lt' x key else return (<- lt' key x).map (!·)
theorem ul (left:Bool) (key:Keyed) (arr:Array Keyed) (base n hint:Nat):dQ left key arr base n hint=(do
 let mut lastofs:=0
 let mut ofs:=1
 let mut lo:=0
 let mut hi:=0
 let some right <- hZ left key arr base hint | return none
 if right then
  let maxofs:=n-hint
  for _ in [0:n] do
   if ofs>=maxofs then break
   let some more <- hZ left key arr base (hint+ofs) | return none
   if !more then break
   lastofs:=ofs
   ofs:=2*ofs+1
  lo:=hint+lastofs+1
  hi:=hint+min ofs maxofs
 else
  let maxofs:=hint+1
  for _ in [0:n] do
   if ofs>=maxofs then break
   let some found <- hZ left key arr base (hint-ofs) | return none
   if found then break
   lastofs:=ofs
   ofs:=2*ofs+1
  lo:=hint+1-min ofs maxofs
  hi:=hint-lastofs
 for _ in [0:n] do
  if lo>=hi then break
  let m:=lo+(hi-lo) / 2
  let some more <- hZ left key arr base m | return none
  if more then lo:=m+1 else hi:=m
 return some hi):=rfl
end VL
namespace VL
open PySem PySem.Spec PyProof.Rows
section
variable {M:Model} {A:Around} {E:Value->Shared->Prop} {s:Shared} {st:SortSt}
theorem lc {left:Bool} {key:Keyed} {arr:Array Keyed} {base n:Nat} {B:Nat->Bool} {lo hi:Nat} {Q:Option (Option Nat)×Nat×Nat->SortSt->Prop}
  (hb:∀ i,i<n->∀ Q:Option Bool->SortSt->Prop,Q (some (B i)) st->wpS M A E s (hZ left key arr base i) Q st) (mono:∀ i j,i<=j->j<n->B j=true->B i=true)
  (h1:lo<=hi) (h2:hi<=n) (hlo:∀ i,i<lo->B i=true) (hhi:∀ i,hi<=i->i<n->B i=false)
  (h:∀ r,r<=n->(∀ i,i<r->B i=true)->(∀ i,r<=i->i<n->B i=false)->Q (none,r,r) st) :
  wpS M A E s (forIn [0:n] ((none,lo,hi):Option (Option Nat)×Nat×Nat) fun _ c=>do
   if c.2.1>=c.2.2 then pure (ForInStep.done (none,c.2.1,c.2.2)) else do
    let x <- hZ left key arr base (c.2.1+(c.2.2-c.2.1) / 2)
    match x with
    | some more=>if more=true then pure (ForInStep.yield (none,c.2.1+(c.2.2-c.2.1) / 2+1,c.2.2)) else pure (ForInStep.yield (none,c.2.1,c.2.1+(c.2.2-c.2.1) / 2))
    | _=>pure (ForInStep.done (some none,c.2.1,c.2.2))) Q st:=by
 refine wpS_forRange (I:=fun t c st'=>st'=st/\∃ lo hi,c=(none,lo,hi)/\lo<=hi/\hi<=n/\hi-lo<=n-t/\(∀ i,i<lo->B i=true)/\(∀ i,hi<=i->i<n->B i=false)) ?step ?fin ⟨rfl,lo,hi,rfl,h1,h2,by omega,hlo,hhi⟩
 case fin=>
  rintro c st' ⟨rfl,lo,hi,rfl,a1,a2,a3,a4,a5⟩
  have:lo=hi:=by omega
  subst this
  exact h lo a2 a4 a5
 case step=>
  rintro t c st' _ ht ⟨rfl,lo,hi,rfl,a1,a2,a3,a4,a5⟩
  dsimp only
  by_cases q:lo>=hi
  ·rw [if_pos q]
   have:lo=hi:=by omega
   subst this
   exact wpS_pure (h lo a2 a4 a5)
  ·rw [if_neg q]
   refine wpS_bind (hb _ (by omega) _ ?_)
   dsimp only
   cases e:B (lo+(hi-lo) / 2) with
   | true=>
    simp only [if_true]
    refine wpS_pure ⟨rfl,_,_,rfl,by omega,a2,by omega,fun i hi'=>mono i _ (by omega) (by omega) e,a5⟩
   | false=>
    simp only [Bool.false_eq_true,if_false]
    refine wpS_pure ⟨rfl,_,_,rfl,by omega,by omega,by omega,a4,fun i h3 h4=>?_⟩
    cases e2:B i with
    | false=>rfl
    | true=>rw [mono _ i h3 h4 e2] at e; cases e
theorem tm {left:Bool} {key:Keyed} {arr:Array Keyed} {base n hint:Nat} {B:Nat->Bool} {Q:Option Nat->SortSt->Prop} (hh:hint<n)
  (hb:∀ i,i<n->∀ Q:Option Bool->SortSt->Prop,Q (some (B i)) st->wpS M A E s (hZ left key arr base i) Q st) (mono:∀ i j,i<=j->j<n->B j=true->B i=true)
  (h:∀ r,r<=n->(∀ i,i<r->B i=true)->(∀ i,r<=i->i<n->B i=false)->Q (some r) st) :
  wpS M A E s (dQ left key arr base n hint) Q st:=by
 rw [ul]
 refine wpS_bind (hb hint hh _ ?_)
 dsimp only
 cases e:B hint with
 | true=>
  simp only [if_true]
  refine wpS_bind (wpS_mono (wpS_forRange (I:=fun t c st'=>st'=st/\∃ last ofs,c=(none,last,ofs)/\last<ofs/\t+1<=ofs/\hint+last<n/\B (hint+last)=true)
   (Q:=fun c st'=>st'=st/\∃ last ofs,c=(none,last,ofs)/\last<ofs/\hint+last<n/\B (hint+last)=true/\(n-hint<=ofs\/B (hint+ofs)=false)) ?step ?fin ⟨rfl,0,1,rfl,by omega,by omega,by omega,by simpa using e⟩) ?post)
  case fin=>
   rintro c st' ⟨rfl,last,ofs,rfl,a1,a2,a3,a4⟩
   exact ⟨rfl,last,ofs,rfl,a1,a3,a4,.inl (by omega)⟩
  case step=>
   rintro t c st' _ ht ⟨rfl,last,ofs,rfl,a1,a2,a3,a4⟩
   dsimp only
   by_cases q:ofs>=n-hint
   ·rw [if_pos q]
    exact wpS_pure ⟨rfl,last,ofs,rfl,a1,a3,a4,.inl q⟩
   ·rw [if_neg q]
    refine wpS_bind (hb _ (by omega) _ ?_)
    dsimp only
    cases e2:B (hint+ofs) with
    | false=>
     simp only [Bool.not_false,if_true]
     exact wpS_pure ⟨rfl,last,ofs,rfl,a1,a3,a4,.inr e2⟩
    | true=>
     simp only [Bool.not_true,Bool.false_eq_true,if_false]
     exact wpS_pure ⟨rfl,ofs,2*ofs+1,rfl,by omega,by omega,by omega,e2⟩
  case post=>
   rintro c st' ⟨rfl,last,ofs,rfl,a1,a3,a4,a5⟩
   dsimp only
   refine wpS_bind (lc (lo:=hint+last+1) (hi:=hint+min ofs (n-hint)) hb mono (by omega) (by omega) (fun i hi=>mono i _ (by omega) a3 a4) (fun i h3 h4=>?_) fun r r1 r2 r3=>?_)
   ·rcases a5 with a5 | a5
    ·omega
    ·cases e2:B i with
     | false=>rfl
     | true=>rw [mono _ i (by omega) h4 e2] at a5; cases a5
   ·exact wpS_pure (h r r1 r2 r3)
 | false=>
  simp only [Bool.false_eq_true,if_false]
  refine wpS_bind (wpS_mono (wpS_forRange (I:=fun t c st'=>st'=st/\∃ last ofs,c=(none,last,ofs)/\last<ofs/\t+1<=ofs/\last<=hint/\B (hint-last)=false)
   (Q:=fun c st'=>st'=st/\∃ last ofs,c=(none,last,ofs)/\last<ofs/\last<=hint/\B (hint-last)=false/\(hint+1<=ofs\/B (hint-ofs)=true)) ?step ?fin ⟨rfl,0,1,rfl,by omega,by omega,by omega,by simpa using e⟩) ?post)
  case fin=>
   rintro c st' ⟨rfl,last,ofs,rfl,a1,a2,a3,a4⟩
   exact ⟨rfl,last,ofs,rfl,a1,a3,a4,.inl (by omega)⟩
  case step=>
   rintro t c st' _ ht ⟨rfl,last,ofs,rfl,a1,a2,a3,a4⟩
   dsimp only
   by_cases q:ofs>=hint+1
   ·rw [if_pos q]
    exact wpS_pure ⟨rfl,last,ofs,rfl,a1,a3,a4,.inl q⟩
   ·rw [if_neg q]
    refine wpS_bind (hb _ (by omega) _ ?_)
    dsimp only
    cases e2:B (hint-ofs) with
    | true=>
     simp only [if_true]
     exact wpS_pure ⟨rfl,last,ofs,rfl,a1,a3,a4,.inr e2⟩
    | false=>
     simp only [Bool.false_eq_true,if_false]
     exact wpS_pure ⟨rfl,ofs,2*ofs+1,rfl,by omega,by omega,by omega,e2⟩
  case post=>
   rintro c st' ⟨rfl,last,ofs,rfl,a1,a3,a4,a5⟩
   dsimp only
   refine wpS_bind (lc (lo:=hint+1-min ofs (hint+1)) (hi:=hint-last) hb mono (by omega) (by omega) (fun i hi=>?_) (fun i h3 h4=>?_) fun r r1 r2 r3=>?_)
   ·rcases a5 with a5 | a5
    ·omega
    ·exact mono i _ (by omega) (by omega) a5
   ·cases e2:B i with
    | false=>rfl
    | true=>rw [mono _ i (by omega) h4 e2] at a4; cases a4
   ·exact wpS_pure (h r r1 r2 r3)
end
end VL
namespace VL
open PySem PySem.Spec PyProof.Rows
section
variable {κ:Keyed->Int} {all out l ra rb:List Keyed} {m:Keyed}
def Asc (κ:Keyed->Int) (l:List Keyed):Prop:=l.Pairwise fun x y=>κ x <= κ y
theorem Asc.app (h1:Asc κ l) (h2:Asc κ ra) (h:∀ x∈l,∀ y∈ra,κ x <= κ y):Asc κ (l++ra):=List.pairwise_append.mpr ⟨h1,h2,h⟩
theorem Asc.left (h:Asc κ (l++ra)):Asc κ l:=(List.pairwise_append.mp h).1
theorem Asc.right (h:Asc κ (l++ra)):Asc κ ra:=(List.pairwise_append.mp h).2.1
theorem Asc.mid (h:Asc κ (l++ra)):∀ x∈l,∀ y∈ra,κ x <= κ y:=(List.pairwise_append.mp h).2.2
structure LI (κ:Keyed->Int) (all out ra rb:List Keyed):Prop where
 pm:(out++(ra++rb)).Perm all
 so:Asc κ out
 le:∀ x∈out,∀ y∈ra++rb,κ x <= κ y
 sa:Asc κ ra
 sb:Asc κ rb
theorem LI.mvA (h:LI κ all out (l++ra) rb) (q:∀ x∈l,∀ y∈rb,κ x <= κ y):LI κ all (out++l) ra rb where
 pm:=by
  have:=h.pm
  simpa [List.append_assoc] using this
 so:=h.so.app h.sa.left fun x hx y hy=>h.le x hx y (by simp [hy])
 le x hx y hy:=by
  rcases List.mem_append.mp hx with hx | hx
  ·exact h.le x hx y (by simp at hy ⊢; rcases hy with hy | hy <;> simp [hy])
  ·rcases List.mem_append.mp hy with hy | hy
   ·exact h.sa.mid x hx y hy
   ·exact q x hx y hy
 sa:=h.sa.right
 sb:=h.sb
theorem LI.swap (h:LI κ all out ra rb):LI κ all out rb ra where
 pm:=((List.Perm.refl out).append List.perm_append_comm).trans h.pm
 so:=h.so
 le x hx y hy:=h.le x hx y (by simp at hy ⊢; exact hy.symm)
 sa:=h.sb
 sb:=h.sa
theorem LI.mvB (h:LI κ all out ra (l++rb)) (q:∀ x∈l,∀ y∈ra,κ x <= κ y):LI κ all (out++l) ra rb:=(h.swap.mvA q).swap
theorem LI.endA (h:LI κ all out ra []):(out++ra).Perm all/\Asc κ (out++ra):=⟨by simpa using h.pm,h.so.app h.sa fun x hx y hy=>h.le x hx y (by simp [hy])⟩
theorem LI.endB (h:LI κ all out [] rb):(out++rb).Perm all/\Asc κ (out++rb):=h.swap.endA
theorem LI.last (h:LI κ all out [m] rb) (q:∀ y∈rb,κ y <= κ m):(out++(rb++[m])).Perm all/\Asc κ (out++(rb++[m])):=
 ⟨h.swap.pm,h.so.app (h.sb.app (List.pairwise_singleton _ _) fun x hx y hy=>by rw [List.mem_singleton.mp hy]; exact q x hx) fun x hx y hy=>h.le x hx y (by simp at hy ⊢; exact hy.symm)⟩
end
section
variable {M:Model} {A:Around} {E:Value->Shared->Prop} {s:Shared} {κ:Keyed->Int} {S:Keyed->Prop} {kd:SortKind}
def dJ (M:Model) (A:Around) (E:Value->Shared->Prop) (s:Shared) (kd:SortKind) (κ:Keyed->Int) (S:Keyed->Prop):Prop:=
 ∀ x y,S x->S y->∀ (st:SortSt) (Q:Option Bool->SortSt->Prop),kindOf st=kd->Q (some (decide (κ x < κ y))) st->wpS M A E s (lt' x y) Q st
theorem br {arr:Array Keyed} {i:Nat} {x:Keyed} {st:SortSt} {Q:Keyed->SortSt->Prop} (h:arr[i]? = some x) (q:Q x st):wpS M A E s (elem' arr i) Q st:=by
 rw [elem'_eq,h]; exact wpS_pure q
structure Stretch (κ:Keyed->Int) (S:Keyed->Prop) (arr:Array Keyed) (base n:Nat) (l:List Keyed):Prop where
 eq:(arr.toList.drop base).take n=l
 len:l.length=n
 all:∀ x∈l,S x
 asc:Asc κ l
theorem Stretch.get {arr:Array Keyed} {base n:Nat} {l:List Keyed} (h:Stretch κ S arr base n l) {i:Nat} (hi:i<l.length):arr[base+i]? = some l[i]:=by
 have e:((arr.toList.drop base).take n)[i]? = l[i]?:=by rw [h.eq]
 rw [List.getElem?_take_of_lt (by have:=h.len; omega),List.getElem?_drop,Array.getElem?_toList,List.getElem?_eq_getElem hi] at e
 exact e
theorem zI (T:dJ M A E s kd κ S) {left:Bool} {key:Keyed} {arr:Array Keyed} {base i:Nat} {x:Keyed} {st:SortSt} {Q:Option Bool->SortSt->Prop} (hk:S key) (hx:arr[base+i]? = some x) (sx:S x) (ek:kindOf st=kd)
  (q:Q (some (if left=true then decide (κ x < κ key) else !decide (κ key < κ x))) st):wpS M A E s (hZ left key arr base i) Q st:=by
 unfold hZ
 refine wpS_bind (br hx ?_)
 cases left with
 | true=>
  simp only [if_true] at q ⊢
  exact T x key sx hk st _ ek q
 | false=>
  simp only [Bool.false_eq_true,if_false] at q ⊢
  exact wpS_bind (T key x hk sx st _ ek (wpS_pure q))
theorem iT (T:dJ M A E s kd κ S) {left:Bool} {key:Keyed} {arr:Array Keyed} {base n hint:Nat} {l:List Keyed} {st:SortSt} {Q:Option Nat->SortSt->Prop} (hs:Stretch κ S arr base n l) (hk:S key) (ek:kindOf st=kd) (hh:hint<n)
  (h:∀ l1 l2,l=l1++l2->(∀ x∈l1,if left=true then κ x < κ key else κ x <= κ key)->(∀ x∈l2,if left=true then κ key <= κ x else κ key < κ x)->Q (some l1.length) st) :
  wpS M A E s (dQ left key arr base n hint) Q st:=by
 have hl:=hs.len
 refine tm (B:=fun i=>if left=true then decide (κ (l.getD i key) < κ key) else !decide (κ key < κ (l.getD i key))) hh (fun i hi Q' q=>?_) (fun i j hij hj e=>?_) fun r hr r1 r2=>?_
 ·have e:l.getD i key=l[i]:=by simp [hl,hi]
  rw [e] at q
  exact zI T hk (hs.get (by omega)) (hs.all _ (List.getElem_mem _)) ek q
 ·have e1:l.getD i key=l[i]'(by omega):=by simp [hl,show i<n by omega]
  have e2:l.getD j key=l[j]'(by omega):=by simp [hl,hj]
  have c:κ (l[i]'(by omega)) <= κ (l[j]'(by omega)):=by
   rcases Nat.lt_or_ge i j with q | q
   ·exact List.pairwise_iff_getElem.mp hs.asc i j (by omega) (by omega) q
   ·have:i=j:=by omega
    subst this; exact Int.le_refl _
  rw [e1]
  rw [e2] at e
  cases left with
  | true=>simp only [if_true,decide_eq_true_eq] at e ⊢; omega
  | false=>
   simp only [Bool.false_eq_true,if_false,Bool.not_eq_true',decide_eq_false_iff_not] at e ⊢
   omega
 ·have:=h (l.take r) (l.drop r) (List.take_append_drop r l).symm (fun x hx=>?_) (fun x hx=>?_)
  ·rw [List.length_take,hl,Nat.min_eq_left hr] at this; exact this
  ·obtain ⟨i,hi,rfl⟩:=List.mem_iff_getElem.mp hx
   rw [List.length_take] at hi
   have q:=r1 i (by omega)
   have e:l.getD i key=l[i]'(by omega):=by simp [hl,show i<n by omega]
   rw [e] at q
   rw [List.getElem_take]
   cases left with
   | true=>simpa using q
   | false=>simpa using q
  ·obtain ⟨i,hi,rfl⟩:=List.mem_iff_getElem.mp hx
   rw [List.length_drop] at hi
   have q:=r2 (r+i) (by omega) (by omega)
   have e:l.getD (r+i) key=l[r+i]'(by omega):=by simp [hl,show r+i<n by omega]
   rw [e] at q
   rw [List.getElem_drop]
   cases left with
   | true=>simpa using q
   | false=>simpa using q
end
end VL
namespace VL
open PySem PySem.Spec PyProof.Rows
theorem rL (a b:Array Keyed):mR a b=(do
 rule "list.sort.merge-lo"
 let mut out:Array Keyed:=#[<- elem' b 0]
 let mut ia:=0
 let mut ib:=1
 if ib==b.size then return out++a.extract ia a.size++b.extract ib b.size
 if ia+1==a.size then return out++b.extract ib b.size++a.extract ia a.size
 let mut minGallop:=gallopOf (<- get)
 for _ in [0:a.size+b.size] do
  let mut acount:=0
  let mut bcount:=0
  for _ in [0:a.size+b.size] do
   let some bWins <- lt' (<- elem' b ib) (<- elem' a ia) | return out++a.extract ia a.size++b.extract ib b.size
   if bWins then
    out:=out.push (<- elem' b ib); ib:=ib+1; bcount:=bcount+1; acount:=0
    if ib==b.size then return out++a.extract ia a.size++b.extract ib b.size
    if bcount>=minGallop then break
   else
    out:=out.push (<- elem' a ia); ia:=ia+1; acount:=acount+1; bcount:=0
    if ia+1==a.size then return out++b.extract ib b.size++a.extract ia a.size
    if acount>=minGallop then break
  rule "list.sort.gallop"
  minGallop:=minGallop+1
  for _ in [0:a.size+b.size] do
   if minGallop>1 then minGallop:=minGallop-1
   de minGallop
   let some k <- dQ false (<- elem' b ib) a ia (a.size-ia) 0 | return out++a.extract ia a.size++b.extract ib b.size
   acount:=k
   if k>0 then
    out:=out++a.extract ia (ia+k); ia:=ia+k
    if ia+1==a.size then return out++b.extract ib b.size++a.extract ia a.size
    if ia==a.size then return out++a.extract ia a.size++b.extract ib b.size
   out:=out.push (<- elem' b ib); ib:=ib+1
   if ib==b.size then return out++a.extract ia a.size++b.extract ib b.size
   let some k <- dQ true (<- elem' a ia) b ib (b.size-ib) 0 | return out++a.extract ia a.size++b.extract ib b.size
   bcount:=k
   if k>0 then
    out:=out++b.extract ib (ib+k); ib:=ib+k
    if ib==b.size then return out++a.extract ia a.size++b.extract ib b.size
   out:=out.push (<- elem' a ia); ia:=ia+1
   if ia+1==a.size then return out++b.extract ib b.size++a.extract ia a.size
   if acount<7&&bcount<7 then break
  minGallop:=minGallop+1
  de minGallop
 unsupported "internal:list.sort.merge-bound"):=rfl
section
variable {M:Model} {A:Around} {E:Value->Shared->Prop} {s:Shared} {κ:Keyed->Int} {S:Keyed->Prop} {kd:SortKind}
def SameBut (st st':SortSt):Prop:=kindOf st'=kindOf st/\arrOf st'=arrOf st/\pendingOf st'=pendingOf st/\failedOf st'=failedOf st
theorem SameBut.refl (st:SortSt):SameBut st st:=⟨rfl,rfl,rfl,rfl⟩
theorem jw {st0 st:SortSt} {g:Nat} {Q:Unit->SortSt->Prop} (sm:SameBut st0 st) (q:∀ st',SameBut st0 st'->Q () st'):wpS M A E s (de g) Q st:=by
 show wpS M A E s (modify fun x=>SortSt.mk' (kindOf x) (arrOf x) (pendingOf x) g (failedOf x)) Q st
 exact wpS_modify (q _ sm)
def MI (κ:Keyed->Int) (a b out:Array Keyed) (ia ib:Nat):Prop:=LI κ (a.toList++b.toList) out.toList (a.toList.drop ia) (b.toList.drop ib)
def jt (κ:Keyed->Int) (a b out:Array Keyed):Prop:=out.toList.Perm (a.toList++b.toList)/\Asc κ out.toList
variable {a b out:Array Keyed} {ia ib:Nat}
theorem j6 {xs:Array Keyed} {i:Nat} {x:Keyed} (h:xs[i]? = some x):xs.toList.drop i=[x]++xs.toList.drop (i+1):=by
 rw [<- Array.getElem?_toList] at h
 obtain ⟨q,e⟩:=List.getElem?_eq_some_iff.mp h
 rw [List.drop_eq_getElem_cons q,e]; rfl
theorem d9 {xs:Array Keyed} {i:Nat} (h:i<xs.size):∃ x,xs[i]? = some x:=⟨xs[i],Array.getElem?_eq_getElem h⟩
theorem j7 {xs:Array Keyed} {i k:Nat} {l1 l2:List Keyed} (h:xs.toList.drop i=l1++l2) (hk:l1.length=k):(xs.extract i (i+k)).toList=l1/\xs.toList.drop (i+k)=l2:=by
 constructor
 ·rw [Array.toList_extract,List.extract_eq_drop_take,h,show i+k-i=k by omega,<- hk,List.take_left]
 ·rw [<- List.drop_drop,h,<- hk,List.drop_left]
theorem Bq {xs:Array Keyed} (i:Nat):(xs.extract i xs.size).toList=xs.toList.drop i:=by
 rw [Array.toList_extract,List.extract_eq_drop_take,List.take_of_length_le (by simp)]
theorem MI.pushB (h:MI κ a b out ia ib) {y:Keyed} (hy:b[ib]? = some y) (q:∀ x∈a.toList.drop ia,κ y <= κ x):MI κ a b (out.push y) ia (ib+1):=by
 unfold MI at h ⊢
 rw [j6 hy] at h
 rw [Array.toList_push]
 exact h.mvB fun x hx z hz=>by rw [List.mem_singleton.mp hx]; exact q z hz
theorem MI.pushA (h:MI κ a b out ia ib) {y:Keyed} (hy:a[ia]? = some y) (q:∀ x∈b.toList.drop ib,κ y <= κ x):MI κ a b (out.push y) (ia+1) ib:=by
 unfold MI at h ⊢
 rw [j6 hy] at h
 rw [Array.toList_push]
 exact h.mvA fun x hx z hz=>by rw [List.mem_singleton.mp hx]; exact q z hz
theorem MI.appA (h:MI κ a b out ia ib) {l1 l2:List Keyed} (e:a.toList.drop ia=l1++l2) (q:∀ x∈l1,∀ y∈b.toList.drop ib,κ x <= κ y):MI κ a b (out++a.extract ia (ia+l1.length)) (ia+l1.length) ib:=by
 obtain ⟨e1,e2⟩:=j7 e rfl
 unfold MI at h ⊢
 rw [Array.toList_append,e1,e2]
 rw [e] at h
 exact h.mvA q
theorem MI.appB (h:MI κ a b out ia ib) {l1 l2:List Keyed} (e:b.toList.drop ib=l1++l2) (q:∀ x∈l1,∀ y∈a.toList.drop ia,κ x <= κ y):MI κ a b (out++b.extract ib (ib+l1.length)) ia (ib+l1.length):=by
 obtain ⟨e1,e2⟩:=j7 e rfl
 unfold MI at h ⊢
 rw [Array.toList_append,e1,e2]
 rw [e] at h
 exact h.mvB q
theorem MI.done (h:MI κ a b out ia ib) (e:ib=b.size\/ia=a.size):jt κ a b (out++a.extract ia a.size++b.extract ib b.size):=by
 unfold jt
 unfold MI at h
 rw [Array.toList_append,Array.toList_append,Bq,Bq]
 rcases e with e | e
 ·have:b.toList.drop ib=[]:=by rw [e]; exact List.drop_of_length_le (by simp)
  rw [this] at h ⊢
  rw [List.append_nil]
  exact h.endA
 ·have:a.toList.drop ia=[]:=by rw [e]; exact List.drop_of_length_le (by simp)
  rw [this] at h ⊢
  rw [List.append_nil]
  exact h.endB
theorem MI.last (h:MI κ a b out ia ib) (e:ia+1=a.size) (q:∀ x,a[a.size-1]? = some x->∀ y∈b.toList,κ y <= κ x):jt κ a b (out++b.extract ib b.size++a.extract ia a.size):=by
 unfold jt
 obtain ⟨x,hx⟩:=d9 (xs:=a) (i:=ia) (by omega)
 have hd:=j6 hx
 have:a.toList.drop (ia+1)=[]:=by rw [e]; exact List.drop_of_length_le (by simp)
 rw [this,List.append_nil] at hd
 unfold MI at h
 rw [Array.toList_append,Array.toList_append,Bq,Bq,hd,List.append_assoc]
 rw [hd] at h
 exact h.last fun y hy=>q x (by rw [show a.size-1=ia by omega]; exact hx) y (List.mem_of_mem_drop hy)
end
end VL
namespace VL
open PySem PySem.Spec PyProof.Rows
section
variable {M:Model} {A:Around} {E:Value->Shared->Prop} {s:Shared} {κ:Keyed->Int} {S:Keyed->Prop} {kd:SortKind}
variable {a b:Array Keyed}
theorem Asc.rest {xs:Array Keyed} (h:Asc κ xs.toList) (i:Nat):Asc κ (xs.toList.drop i):=List.Pairwise.drop h
theorem ki {xs:Array Keyed} (h:Asc κ xs.toList) {i:Nat} {x:Keyed} (e:xs[i]? = some x):∀ y∈xs.toList.drop i,κ x <= κ y:=fun y hy=>by
 have q:=h.rest i
 rw [j6 e] at q hy
 rcases List.mem_append.mp hy with hy | hy
 ·rw [List.mem_singleton.mp hy]; exact Int.le_refl _
 ·exact q.mid x (List.mem_singleton.mpr rfl) y hy
theorem fo {xs:Array Keyed} {i:Nat} {x:Keyed} (e:xs[i]? = some x):x∈xs.toList:=by
 rw [<- Array.getElem?_toList] at e; exact List.mem_of_getElem? e
theorem uO {xs:Array Keyed} (h:Asc κ xs.toList) (hS:∀ x∈xs.toList,S x) (i:Nat):Stretch κ S xs i (xs.size-i) (xs.toList.drop i) where
 eq:=List.take_of_length_le (by simp)
 len:=by simp
 all x hx:=hS x (List.mem_of_mem_drop hx)
 asc:=h.rest i
def y9 (κ:Keyed->Int) (a b:Array Keyed) (B:Nat) (ro:Option (Array Keyed)) (out:Array Keyed) (ia ib:Nat):Prop:=
 (∃ r,ro=some r/\jt κ a b r)\/(ro=none/\MI κ a b out ia ib/\ia+1<a.size/\ib<b.size/\(a.size-ia)+(b.size-ib)<=B)
abbrev Gs:Type:=Option (Array Keyed)×Array Keyed×Nat×Nat×Nat×Nat×Nat
def GsQ (κ:Keyed->Int) (a b:Array Keyed) (B:Nat) (st:SortSt) (r:ForInStep Gs) (st':SortSt):Prop:=SameBut st st'/\match r with
 | .done c=>y9 κ a b B c.1 c.2.1 c.2.2.1 c.2.2.2.1
 | .yield c=>c.1=none/\y9 κ a b B c.1 c.2.1 c.2.2.1 c.2.2.2.1
noncomputable def Hg (a b out:Array Keyed) (ia ib g k k1:Nat):StateT SortSt Sem (ForInStep Gs):=do
 let x <- elem' a ia
 if (ia+1+1==a.size)=true then pure (.done (some (out.push x++b.extract ib b.size++a.extract (ia+1) a.size),out.push x,ia+1,ib,g,k,k1))
 else if (decide (k<7)&&decide (k1<7))=true then pure (.done (none,out.push x,ia+1,ib,g,k,k1)) else pure (.yield (none,out.push x,ia+1,ib,g,k,k1))
noncomputable def J7 (a b out:Array Keyed) (ia ib g k n2:Nat):StateT SortSt Sem (ForInStep Gs):=do
 let y <- elem' b ib
 if (ib+1==b.size)=true then pure (.done (some (out.push y++a.extract ia a.size++b.extract (ib+1) b.size),out.push y,ia,ib+1,g,k,n2))
 else do
  let x <- elem' a ia
  let r <- dQ true x b (ib+1) (b.size-(ib+1)) 0
  match r with
  | some k1=>
   if k1>0 then
    if (ib+1+k1==b.size)=true then pure (.done (some (out.push y++b.extract (ib+1) (ib+1+k1)++a.extract ia a.size++b.extract (ib+1+k1) b.size),out.push y++b.extract (ib+1) (ib+1+k1),ia,ib+1+k1,g,k,k1))
    else Hg a b (out.push y++b.extract (ib+1) (ib+1+k1)) ia (ib+1+k1) g k k1
   else Hg a b (out.push y) ia (ib+1) g k k1
  | _=>pure (.done (some (out.push y++a.extract ia a.size++b.extract (ib+1) b.size),out.push y,ia,ib+1,g,k,n2))
theorem x4 {st st':SortSt} {out:Array Keyed} {ia ib g k k1 B:Nat} {x:Keyed} (m:MI κ a b out ia ib) (hx:a[ia]? = some x) (q:∀ z∈b.toList.drop ib,κ x <= κ z) (hl:∀ x,a[a.size-1]? = some x->∀ y∈b.toList,κ y <= κ x) (p1:ia+1<a.size) (p2:ib<b.size) (p3:(a.size-ia)+(b.size-ib)<=B) (sm:SameBut st st') :
  wpS M A E s (Hg a b out ia ib g k k1) (GsQ κ a b B st) st':=by
 unfold Hg
 refine wpS_bind (br hx ?_)
 have m':=m.pushA hx q
 by_cases c:(ia+1+1==a.size)=true
 ·rw [if_pos c]
  exact wpS_pure ⟨sm,.inl ⟨_,rfl,m'.last (by simpa using c) hl⟩⟩
 rw [if_neg c]
 have c:ia+1+1≠a.size:=by simpa using c
 have pt:y9 κ a b B none (out.push x) (ia+1) ib:=.inr ⟨rfl,m',by omega,p2,by omega⟩
 split
 ·exact wpS_pure ⟨sm,pt⟩
 ·exact wpS_pure ⟨sm,rfl,pt⟩
theorem x5 (T:dJ M A E s kd κ S) {st st':SortSt} {out:Array Keyed} {ia ib g k n2 B:Nat} {y:Keyed} (sa:Asc κ a.toList) (sb:Asc κ b.toList) (Sa:∀ x∈a.toList,S x) (Sb:∀ x∈b.toList,S x) (m:MI κ a b out ia ib) (hy:b[ib]? = some y) (q:∀ z∈a.toList.drop ia,κ y <= κ z) (hl:∀ x,a[a.size-1]? = some x->∀ y∈b.toList,κ y <= κ x)
  (p1:ia+1<a.size) (p2:ib<b.size) (p3:(a.size-ia)+(b.size-ib)<=B) (sm:SameBut st st') (ek:kindOf st=kd):wpS M A E s (J7 a b out ia ib g k n2) (GsQ κ a b B st) st':=by
 unfold J7
 refine wpS_bind (br hy ?_)
 have mB:=m.pushB hy q
 by_cases c3:(ib+1==b.size)=true
 ·rw [if_pos c3]
  exact wpS_pure ⟨sm,.inl ⟨_,rfl,mB.done (.inl (by simpa using c3))⟩⟩
 rw [if_neg c3]
 have c3:ib+1≠b.size:=by simpa using c3
 obtain ⟨x,hx⟩:=d9 (xs:=a) (i:=ia) (by omega)
 refine wpS_bind (br hx ?_)
 refine wpS_bind (iT T (uO sb Sb (ib+1)) (Sa x (fo hx)) (sm.1.trans ek) (by omega) fun k1 k2 ek2 f1 f2=>?_)
 simp only [if_true] at f1 f2
 dsimp only
 rcases Nat.eq_zero_or_pos k1.length with h1 | h1
 ·rw [if_neg (by omega)]
  have:k1=[]:=List.length_eq_zero_iff.mp h1
  subst this
  exact x4 mB hx (fun z hz=>f2 z (by rw [ek2,List.nil_append] at hz; exact hz)) hl p1 (by omega) (by omega) sm
 ·rw [if_pos h1]
  have mC:=mB.appB ek2 fun z hz u hu=>Int.le_trans (Int.le_of_lt (f1 z hz)) (ki sa hx u hu)
  have ln:k1.length+k2.length=b.size-(ib+1):=by
   have:=congrArg List.length ek2
   rw [List.length_append,List.length_drop,Array.length_toList] at this
   exact this.symm
  by_cases c4:(ib+1+k1.length==b.size)=true
  ·rw [if_pos c4]
   exact wpS_pure ⟨sm,.inl ⟨_,rfl,mC.done (.inl (by simpa using c4))⟩⟩
  rw [if_neg c4]
  have c4:ib+1+k1.length≠b.size:=by simpa using c4
  exact x4 mC hx (fun z hz=>f2 z (by rw [(j7 ek2 rfl).2] at hz; exact hz)) hl p1 (by omega) (by omega) sm
theorem GsQ.y {B:Nat} {st st':SortSt} {c:Gs} (h:GsQ κ a b B st (.yield c) st'):SameBut st st'/\∃ out ia ib g x y,c=(none,out,ia,ib,g,x,y)/\MI κ a b out ia ib/\ia+1<a.size/\ib<b.size/\(a.size-ia)+(b.size-ib)<=B:=by
 obtain ⟨sm,e,pt⟩:=h
 obtain ⟨ro,out,ia,ib,g,x,y⟩:=c
 have e:ro=none:=e
 subst e
 rcases pt with ⟨r,e,_⟩ | ⟨_,m,p1,p2,p3⟩
 ·cases e
 ·exact ⟨sm,out,ia,ib,g,x,y,rfl,m,p1,p2,p3⟩
theorem qH (T:dJ M A E s kd κ S) {st:SortSt} {Q:Array Keyed->SortSt->Prop} (sa:Asc κ a.toList) (sb:Asc κ b.toList) (Sa:∀ x∈a.toList,S x) (Sb:∀ x∈b.toList,S x) (na:1<=a.size) (nb:1<=b.size)
  (h0:∀ y,b[0]? = some y->∀ x∈a.toList,κ y <= κ x) (hl:∀ x,a[a.size-1]? = some x->∀ y∈b.toList,κ y <= κ x) (ek:kindOf st=kd) (h:∀ out st',jt κ a b out->SameBut st st'->Q out st'):wpS M A E s (mR a b) Q st:=by
 rw [rL]
 refine wpS_bind (wpS_lift (wpAny_rule ⟨rfl,?_⟩))
 obtain ⟨y0,hy0⟩:=d9 (xs:=b) (i:=0) (by omega)
 refine wpS_bind (br hy0 ?_)
 dsimp only
 have m0:MI κ a b #[] 0 0:=⟨by simp,List.Pairwise.nil,fun x hx=>by simp at hx,sa,sb⟩
 have m1:MI κ a b #[y0] 0 1:=m0.pushB hy0 fun x hx=>h0 y0 hy0 x hx
 by_cases c1:(1==b.size)=true
 ·rw [if_pos c1]
  exact wpS_pure (h _ _ (m1.done (.inl (by simpa using c1))) (.refl _))
 rw [if_neg c1]
 have c1:1≠b.size:=by simpa using c1
 by_cases c2:(0+1==a.size)=true
 ·rw [if_pos c2]
  exact wpS_pure (h _ _ (m1.last (by simpa using c2) hl) (.refl _))
 rw [if_neg c2]
 have c2:0+1≠a.size:=by simpa using c2
 refine wpS_bind (wpS_get ?_)
 refine wpS_bind (wpS_mono (wpS_forRange (I:=fun t c st'=>SameBut st st'/\∃ out ia ib g,c=(none,out,ia,ib,g)/\MI κ a b out ia ib/\ia+1<a.size/\ib<b.size/\(a.size-ia)+(b.size-ib)+t+1<=a.size+b.size)
  (Q:=fun c st'=>SameBut st st'/\∃ r,c.1=some r/\jt κ a b r) ?step ?fin ⟨.refl _,_,_,_,_,rfl,m1,by omega,by omega,by omega⟩) ?post)
 case fin=>
  rintro c st' ⟨sm,out,ia,ib,g,rfl,m,p1,p2,p3⟩
  omega
 case post=>
  rintro c st' ⟨sm,r,e,g⟩
  rw [e]
  exact wpS_pure (h r st' g sm)
 case step=>
  rintro t c st1 _ ht ⟨sm1,out,ia,ib,g,rfl,m,p1,p2,p3⟩
  dsimp only
  refine wpS_bind (wpS_mono (wpS_forRange (I:=fun u c st'=>SameBut st st'/\∃ out ia ib x y,c=(none,out,ia,ib,x,y)/\MI κ a b out ia ib/\ia+1<a.size/\ib<b.size/\(a.size-ia)+(b.size-ib)+t+1+min u 1<=a.size+b.size)
   (Q:=fun c st'=>SameBut st st'/\y9 κ a b (a.size+b.size-t-2) c.1 c.2.1 c.2.2.1 c.2.2.2.1) ?step1 ?fin1 ⟨sm1,_,_,_,_,_,rfl,m,p1,p2,by omega⟩) ?post1)
  case fin1=>
   rintro c st' ⟨sm,out,ia,ib,x,y,rfl,m,p1,p2,p3⟩
   exact ⟨sm,.inr ⟨rfl,m,p1,p2,show a.size-ia+(b.size-ib)<=_ by omega⟩⟩
  case step1=>
   rintro u c st2 _ hu ⟨sm2,out,ia,ib,n1,n2,rfl,m,p1,p2,p3⟩
   dsimp only
   obtain ⟨y,hy⟩:=d9 (xs:=b) (i:=ib) p2
   obtain ⟨x,hx⟩:=d9 (xs:=a) (i:=ia) (by omega)
   refine wpS_bind (br hy (wpS_bind (br hx (wpS_bind (T y x (Sb y (fo hy)) (Sa x (fo hx)) st2 _ (sm2.1.trans ek) ?_)))))
   dsimp only
   by_cases q:κ y < κ x
   ·simp only [q,decide_true,if_true]
    refine wpS_bind (br hy ?_)
    have m':=m.pushB hy fun z hz=>Int.le_trans (Int.le_of_lt q) (ki sa hx z hz)
    by_cases c3:(ib+1==b.size)=true
    ·rw [if_pos c3]
     exact wpS_pure ⟨sm2,.inl ⟨_,rfl,m'.done (.inl (by simpa using c3))⟩⟩
    rw [if_neg c3]
    have c3:ib+1≠b.size:=by simpa using c3
    split
    ·exact wpS_pure ⟨sm2,.inr ⟨rfl,m',p1,show ib+1<b.size by omega,show a.size-ia+(b.size-(ib+1))<=_ by omega⟩⟩
    ·exact wpS_pure ⟨sm2,_,_,_,_,_,rfl,m',p1,by omega,by omega⟩
   ·simp only [q,decide_false,Bool.false_eq_true,if_false]
    refine wpS_bind (br hx ?_)
    have m':=m.pushA hx fun z hz=>Int.le_trans (Int.not_lt.mp q) (ki sb hy z hz)
    by_cases c3:(ia+1+1==a.size)=true
    ·rw [if_pos c3]
     exact wpS_pure ⟨sm2,.inl ⟨_,rfl,m'.last (by simpa using c3) hl⟩⟩
    rw [if_neg c3]
    have c3:ia+1+1≠a.size:=by simpa using c3
    split
    ·exact wpS_pure ⟨sm2,.inr ⟨rfl,m',show ia+1+1<a.size by omega,p2,show a.size-(ia+1)+(b.size-ib)<=_ by omega⟩⟩
    ·exact wpS_pure ⟨sm2,_,_,_,_,_,rfl,m',by omega,p2,by omega⟩
  case post1=>
   rintro ⟨ro,out,ia,ib,n1,n2⟩ st2 ⟨sm2,pt⟩
   rcases pt with ⟨r,e,gd⟩ | ⟨e,m,p1,p2,p3⟩
   ·have e:ro=some r:=e
    subst e
    exact wpS_pure ⟨sm2,r,rfl,gd⟩
   have e:ro=none:=e
   subst e
   dsimp only at m p1 p2 p3 ⊢
   refine wpS_bind (wpS_lift (wpAny_rule ⟨rfl,?_⟩))
   refine wpS_bind (wpS_mono (wpS_forRange (I:=fun u c st'=>SameBut st st'/\∃ out ia ib g x y,c=(none,out,ia,ib,g,x,y)/\MI κ a b out ia ib/\ia+1<a.size/\ib<b.size/\(a.size-ia)+(b.size-ib)<=a.size+b.size-t-2)
    (Q:=fun c st'=>SameBut st st'/\y9 κ a b (a.size+b.size-t-2) c.1 c.2.1 c.2.2.1 c.2.2.2.1) ?step2 ?fin2 ⟨sm2,_,_,_,_,_,_,rfl,m,p1,p2,p3⟩) ?post2)
   case fin2=>
    rintro c st' ⟨sm,out,ia,ib,g,x,y,rfl,m,p1,p2,p3⟩
    exact ⟨sm,.inr ⟨rfl,m,p1,p2,p3⟩⟩
   case post2=>
    rintro ⟨ro,out,ia,ib,g,n1,n2⟩ st3 ⟨sm3,pt⟩
    rcases pt with ⟨r,e,gd⟩ | ⟨e,m,p1,p2,p3⟩
    ·have e:ro=some r:=e
     subst e
     exact wpS_pure ⟨sm3,r,rfl,gd⟩
    have e:ro=none:=e
    subst e
    dsimp only at m p1 p2 p3 ⊢
    exact wpS_bind (jw sm3 fun st4 sm4=>wpS_pure ⟨sm4,_,_,_,_,rfl,m,p1,p2,by omega⟩)
   case step2=>
    rintro u c st3 _ hu ⟨sm3,out,ia,ib,g,n1,n2,rfl,m,p1,p2,p3⟩
    dsimp only
    obtain ⟨y,hy⟩:=d9 (xs:=b) (i:=ib) p2
    have Sy:=Sb y (fo hy)
    rcases Nat.lt_or_ge 1 g with hg | hg
    all_goals
     first
     | rw [if_pos hg]
     | rw [if_neg (Nat.not_lt.mpr hg)]
     refine wpS_bind (jw sm3 fun st4 sm4=>?_)
     refine wpS_bind (br hy ?_)
     refine wpS_bind (iT T (uO sa Sa ia) Sy (sm4.1.trans ek) (by omega) fun l1 l2 el e1 e2=>?_)
     simp only [Bool.false_eq_true,if_false] at e1 e2
     dsimp only
     rcases Nat.eq_zero_or_pos l1.length with h1 | h1
     ·rw [if_neg (by omega)]
      have l1n:l1=[]:=List.length_eq_zero_iff.mp h1
      subst l1n
      refine wpS_mono (x5 (B:=a.size+b.size-t-2) (out:=out) (ia:=ia) (ib:=ib) (k:=0) (n2:=n2) T sa sb Sa Sb m hy (fun z hz=>Int.le_of_lt (e2 z (by rw [el,List.nil_append] at hz; exact hz))) hl p1 p2 p3 sm4 ek) fun r st5 gq=>?_
      cases r with
      | done c=>exact gq
      | yield c=>exact gq.y
     ·rw [if_pos h1]
      have mA:=m.appA el fun x hx z hz=>Int.le_trans (e1 x hx) (ki sb hy z hz)
      have ln:l1.length+l2.length=a.size-ia:=by
       have:=congrArg List.length el
       rw [List.length_append,List.length_drop,Array.length_toList] at this
       exact this.symm
      by_cases c3:(ia+l1.length+1==a.size)=true
      ·rw [if_pos c3]
       exact wpS_pure ⟨sm4,.inl ⟨_,rfl,mA.last (by simpa using c3) hl⟩⟩
      rw [if_neg c3]
      by_cases c4:(ia+l1.length==a.size)=true
      ·rw [if_pos c4]
       exact wpS_pure ⟨sm4,.inl ⟨_,rfl,mA.done (.inr (by simpa using c4))⟩⟩
      rw [if_neg c4]
      have c3:ia+l1.length+1≠a.size:=by simpa using c3
      have c4:ia+l1.length≠a.size:=by simpa using c4
      refine wpS_mono (x5 (B:=a.size+b.size-t-2) (out:=out++a.extract ia (ia+l1.length)) (ia:=ia+l1.length) (ib:=ib) (k:=l1.length) (n2:=n2) T sa sb Sa Sb mA hy (fun z hz=>Int.le_of_lt (e2 z (by rw [(j7 el rfl).2] at hz; exact hz))) hl (by omega) p2 (by omega) sm4 ek) fun r st5 gq=>?_
      cases r with
      | done c=>exact gq
      | yield c=>exact gq.y
end
end VL
namespace VL
open PySem PySem.Spec PyProof.Rows
theorem rM (a b:Array Keyed):mS a b=(do
 rule "list.sort.merge-hi"
 let mut na:=a.size-1
 let mut nb:=b.size
 let mut out:Array Keyed:=#[<- elem' a na]
 if na==0 then return a.extract 0 na++b.extract 0 nb++out.reverse
 if nb==1 then return b.extract 0 nb++a.extract 0 na++out.reverse
 let mut minGallop:=gallopOf (<- get)
 for _ in [0:a.size+b.size] do
  let mut acount:=0
  let mut bcount:=0
  for _ in [0:a.size+b.size] do
   let some aWins <- lt' (<- elem' b (nb-1)) (<- elem' a (na-1)) | return a.extract 0 na++b.extract 0 nb++out.reverse
   if aWins then
    na:=na-1; out:=out.push (<- elem' a na); acount:=acount+1; bcount:=0
    if na==0 then return a.extract 0 na++b.extract 0 nb++out.reverse
    if acount>=minGallop then break
   else
    nb:=nb-1; out:=out.push (<- elem' b nb); bcount:=bcount+1; acount:=0
    if nb==1 then return b.extract 0 nb++a.extract 0 na++out.reverse
    if bcount>=minGallop then break
  rule "list.sort.gallop"
  minGallop:=minGallop+1
  for _ in [0:a.size+b.size] do
   if minGallop>1 then minGallop:=minGallop-1
   de minGallop
   let some at_ <- dQ false (<- elem' b (nb-1)) a 0 na (na-1) | return a.extract 0 na++b.extract 0 nb++out.reverse
   let k:=na-at_
   acount:=k
   if k>0 then
    out:=out++(a.extract at_ na).reverse; na:=at_
    if na==0 then return a.extract 0 na++b.extract 0 nb++out.reverse
   nb:=nb-1; out:=out.push (<- elem' b nb)
   if nb==1 then return b.extract 0 nb++a.extract 0 na++out.reverse
   let some at_ <- dQ true (<- elem' a (na-1)) b 0 nb (nb-1) | return a.extract 0 na++b.extract 0 nb++out.reverse
   let k:=nb-at_
   bcount:=k
   if k>0 then
    out:=out++(b.extract at_ nb).reverse; nb:=at_
    if nb==1 then return b.extract 0 nb++a.extract 0 na++out.reverse
    if nb==0 then return a.extract 0 na++b.extract 0 nb++out.reverse
   na:=na-1; out:=out.push (<- elem' a na)
   if na==0 then return a.extract 0 na++b.extract 0 nb++out.reverse
   if acount<7&&bcount<7 then break
  minGallop:=minGallop+1
  de minGallop
 unsupported "internal:list.sort.merge-bound"):=rfl
section
variable {M:Model} {A:Around} {E:Value->Shared->Prop} {s:Shared} {κ:Keyed->Int} {S:Keyed->Prop} {kd:SortKind}
variable {a b out:Array Keyed} {na nb:Nat}
theorem asc_neg {l:List Keyed}:Asc (fun x=>- κ x) l↔Asc κ l.reverse:=by
 unfold Asc
 rw [List.pairwise_reverse]
 constructor
 ·intro h; exact h.imp fun {x y} (q:- κ x <= - κ y)=>(by omega:κ y <= κ x)
 ·intro h; exact h.imp fun {x y} (q:κ y <= κ x)=>(by omega:- κ x <= - κ y)
def HI (κ:Keyed->Int) (a b out:Array Keyed) (na nb:Nat):Prop:=LI (fun x=>- κ x) (a.toList++b.toList) out.toList (a.toList.take na).reverse (b.toList.take nb).reverse
theorem jE {xs:Array Keyed} {i:Nat} {x:Keyed} (h:xs[i]? = some x):(xs.toList.take (i+1)).reverse=[x]++(xs.toList.take i).reverse:=by
 rw [<- Array.getElem?_toList] at h
 rw [List.take_add_one,h]
 simp
theorem HI.pushB (h:HI κ a b out na (nb+1)) {y:Keyed} (hy:b[nb]? = some y) (q:∀ x∈a.toList.take na,κ x <= κ y):HI κ a b (out.push y) na nb:=by
 unfold HI at h ⊢
 rw [jE hy] at h
 rw [Array.toList_push]
 exact h.mvB fun x hx z hz=>by
  have:=q z (List.mem_reverse.mp hz)
  rw [List.mem_singleton.mp hx]
  omega
theorem HI.pushA (h:HI κ a b out (na+1) nb) {y:Keyed} (hy:a[na]? = some y) (q:∀ x∈b.toList.take nb,κ x <= κ y):HI κ a b (out.push y) na nb:=by
 unfold HI at h ⊢
 rw [jE hy] at h
 rw [Array.toList_push]
 exact h.mvA fun x hx z hz=>by
  have:=q z (List.mem_reverse.mp hz)
  rw [List.mem_singleton.mp hx]
  omega
theorem jF {xs:Array Keyed} {n:Nat} {l1 l2:List Keyed} (hn:n<=xs.size) (h:xs.toList.take n=l1++l2):(xs.extract l1.length n).reverse.toList=l2.reverse/\xs.toList.take l1.length=l1:=by
 have hl:l1.length+l2.length=n:=by
  have:=congrArg List.length h
  rw [List.length_append,List.length_take,Array.length_toList] at this
  omega
 constructor
 ·rw [Array.toList_reverse,Array.toList_extract,List.extract_eq_drop_take]
  congr 1
  have:(xs.toList.take n).drop l1.length=l2:=by rw [h,List.drop_left]
  rw [<- this,List.drop_take]
 ·have:(xs.toList.take n).take l1.length=l1:=by rw [h,List.take_left]
  rw [List.take_take,Nat.min_eq_left (by omega)] at this
  exact this
theorem HI.appA (h:HI κ a b out na nb) {l1 l2:List Keyed} (hn:na<=a.size) (e:a.toList.take na=l1++l2) (q:∀ x∈l2,∀ y∈b.toList.take nb,κ y <= κ x):HI κ a b (out++(a.extract l1.length na).reverse) l1.length nb:=by
 obtain ⟨e1,e2⟩:=jF hn e
 unfold HI at h ⊢
 rw [Array.toList_append,e1,e2]
 rw [e,List.reverse_append] at h
 exact h.mvA fun x hx y hy=>by have:=q x (List.mem_reverse.mp hx) y (List.mem_reverse.mp hy); omega
theorem HI.appB (h:HI κ a b out na nb) {l1 l2:List Keyed} (hn:nb<=b.size) (e:b.toList.take nb=l1++l2) (q:∀ x∈l2,∀ y∈a.toList.take na,κ y <= κ x):HI κ a b (out++(b.extract l1.length nb).reverse) na l1.length:=by
 obtain ⟨e1,e2⟩:=jF hn e
 unfold HI at h ⊢
 rw [Array.toList_append,e1,e2]
 rw [e,List.reverse_append] at h
 exact h.mvB fun x hx y hy=>by have:=q x (List.mem_reverse.mp hx) y (List.mem_reverse.mp hy); omega
theorem yD {xs:Array Keyed} (n:Nat):(xs.extract 0 n).toList=xs.toList.take n:=by
 rw [Array.toList_extract,List.extract_eq_drop_take,Nat.sub_zero,List.drop_zero]
theorem m9 {l:List Keyed} {r:Array Keyed} (e:r.toList=l.reverse) (h:l.Perm (a.toList++b.toList)/\Asc (fun x=>- κ x) l):jt κ a b r:=by
 unfold jt
 rw [e]
 exact ⟨(List.reverse_perm l).trans h.1,asc_neg.mp h.2⟩
theorem HI.done (h:HI κ a b out na nb) (e:na=0\/nb=0):jt κ a b (a.extract 0 na++b.extract 0 nb++out.reverse):=by
 unfold HI at h
 rcases e with rfl | rfl
 ·rw [List.take_zero,List.reverse_nil] at h
  exact m9 (by simp [yD]) h.endB
 ·rw [List.take_zero,List.reverse_nil] at h
  exact m9 (by simp [yD]) h.endA
theorem HI.first (h:HI κ a b out na nb) (e:nb=1) (q:∀ y,b[0]? = some y->∀ x∈a.toList,κ y <= κ x) (hb:1<=b.size):jt κ a b (b.extract 0 nb++a.extract 0 na++out.reverse):=by
 subst e
 obtain ⟨y,hy⟩:=d9 (xs:=b) (i:=0) (by omega)
 unfold HI at h
 have t:=jE hy
 rw [List.take_zero,List.reverse_nil,List.append_nil] at t
 have t:(b.toList.take 1).reverse=[y]:=t
 rw [t] at h
 have t2:b.toList.take 1=[y]:=by rw [<- List.reverse_reverse (b.toList.take 1),t]; rfl
 exact m9 (by simp [yD,t2]) (h.swap.last fun x hx=>by have:=q y hy x (List.mem_of_mem_take (List.mem_reverse.mp hx)); omega)
theorem kh {xs:Array Keyed} (h:Asc κ xs.toList) {i:Nat} {x:Keyed} (e:xs[i]? = some x):∀ y∈xs.toList.take (i+1),κ y <= κ x:=fun y hy=>by
 have q:Asc κ (xs.toList.take (i+1)):=List.Pairwise.take h
 have t:xs.toList.take (i+1)=xs.toList.take i++[x]:=by rw [<- List.reverse_reverse (xs.toList.take (i+1)),jE e]; simp
 rw [t] at q hy
 rcases List.mem_append.mp hy with hy | hy
 ·exact q.mid y hy x (List.mem_singleton.mpr rfl)
 ·rw [List.mem_singleton.mp hy]; exact Int.le_refl _
theorem qS {xs:Array Keyed} (h:Asc κ xs.toList) (hS:∀ x∈xs.toList,S x) {n:Nat} (hn:n<=xs.size):Stretch κ S xs 0 n (xs.toList.take n) where
 eq:=by rw [List.drop_zero]
 len:=by rw [List.length_take,Array.length_toList]; omega
 all x hx:=hS x (List.mem_of_mem_take hx)
 asc:=List.Pairwise.take h
end
end VL
namespace VL
open PySem PySem.Spec PyProof.Rows
section
variable {M:Model} {A:Around} {E:Value->Shared->Prop} {s:Shared} {κ:Keyed->Int} {S:Keyed->Prop} {kd:SortKind}
variable {a b:Array Keyed}
abbrev Hs:Type:=Option (Array Keyed)×Nat×Nat×Array Keyed×Nat×Nat×Nat
def sZ (κ:Keyed->Int) (a b:Array Keyed) (B:Nat) (ro:Option (Array Keyed)) (na nb:Nat) (out:Array Keyed):Prop:=
 (∃ r,ro=some r/\jt κ a b r)\/(ro=none/\HI κ a b out na nb/\1<=na/\2<=nb/\na<=a.size/\nb<=b.size/\na+nb<=B)
def HsQ (κ:Keyed->Int) (a b:Array Keyed) (B:Nat) (st:SortSt) (r:ForInStep Hs) (st':SortSt):Prop:=SameBut st st'/\match r with
 | .done c=>sZ κ a b B c.1 c.2.1 c.2.2.1 c.2.2.2.1
 | .yield c=>c.1=none/\sZ κ a b B c.1 c.2.1 c.2.2.1 c.2.2.2.1
noncomputable def Hr (a b out:Array Keyed) (na nb g k k1:Nat):StateT SortSt Sem (ForInStep Hs):=do
 let x <- elem' a (na-1)
 if (na-1==0)=true then pure (.done (some (a.extract 0 (na-1)++b.extract 0 nb++(out.push x).reverse),na-1,nb,out.push x,g,k,k1))
 else if (decide (k<7)&&decide (k1<7))=true then pure (.done (none,na-1,nb,out.push x,g,k,k1)) else pure (.yield (none,na-1,nb,out.push x,g,k,k1))
noncomputable def Kb (a b out:Array Keyed) (na nb g k n2:Nat):StateT SortSt Sem (ForInStep Hs):=do
 let y <- elem' b (nb-1)
 if (nb-1==1)=true then pure (.done (some (b.extract 0 (nb-1)++a.extract 0 na++(out.push y).reverse),na,nb-1,out.push y,g,k,n2))
 else do
  let x <- elem' a (na-1)
  let r <- dQ true x b 0 (nb-1) (nb-1-1)
  match r with
  | some k1=>
   if nb-1-k1>0 then
    if (k1==1)=true then pure (.done (some (b.extract 0 k1++a.extract 0 na++(out.push y++(b.extract k1 (nb-1)).reverse).reverse),na,k1,out.push y++(b.extract k1 (nb-1)).reverse,g,k,nb-1-k1))
    else if (k1==0)=true then pure (.done (some (a.extract 0 na++b.extract 0 k1++(out.push y++(b.extract k1 (nb-1)).reverse).reverse),na,k1,out.push y++(b.extract k1 (nb-1)).reverse,g,k,nb-1-k1))
    else Hr a b (out.push y++(b.extract k1 (nb-1)).reverse) na k1 g k (nb-1-k1)
   else Hr a b (out.push y) na (nb-1) g k (nb-1-k1)
  | _=>pure (.done (some (a.extract 0 na++b.extract 0 (nb-1)++(out.push y).reverse),na,nb-1,out.push y,g,k,n2))
theorem yv {st st':SortSt} {out:Array Keyed} {na nb g k k1 B:Nat} {x:Keyed} (m:HI κ a b out na nb) (hx:a[na-1]? = some x) (q:∀ z∈b.toList.take nb,κ z <= κ x) (p1:1<=na) (p2:2<=nb) (p4:na<=a.size) (p5:nb<=b.size) (p3:na+nb<=B) (sm:SameBut st st') :
  wpS M A E s (Hr a b out na nb g k k1) (HsQ κ a b B st) st':=by
 unfold Hr
 refine wpS_bind (br hx ?_)
 have m':HI κ a b (out.push x) (na-1) nb:=HI.pushA (by rw [show na-1+1=na by omega]; exact m) hx q
 by_cases c:(na-1==0)=true
 ·rw [if_pos c]
  exact wpS_pure ⟨sm,.inl ⟨_,rfl,m'.done (.inl (by simpa using c))⟩⟩
 rw [if_neg c]
 have c:na-1≠0:=by simpa using c
 have pt:sZ κ a b B none (na-1) nb (out.push x):=.inr ⟨rfl,m',by omega,p2,by omega,p5,by omega⟩
 split
 ·exact wpS_pure ⟨sm,pt⟩
 ·exact wpS_pure ⟨sm,rfl,pt⟩
theorem yw (T:dJ M A E s kd κ S) {st st':SortSt} {out:Array Keyed} {na nb g k n2 B:Nat} {y:Keyed} (sa:Asc κ a.toList) (sb:Asc κ b.toList) (Sa:∀ x∈a.toList,S x) (Sb:∀ x∈b.toList,S x) (m:HI κ a b out na nb) (hy:b[nb-1]? = some y) (q:∀ z∈a.toList.take na,κ z <= κ y) (h0:∀ y,b[0]? = some y->∀ x∈a.toList,κ y <= κ x)
  (p1:1<=na) (p2:2<=nb) (p4:na<=a.size) (p5:nb<=b.size) (p3:na+nb<=B) (sm:SameBut st st') (ek:kindOf st=kd):wpS M A E s (Kb a b out na nb g k n2) (HsQ κ a b B st) st':=by
 unfold Kb
 refine wpS_bind (br hy ?_)
 have mB:HI κ a b (out.push y) na (nb-1):=HI.pushB (by rw [show nb-1+1=nb by omega]; exact m) hy q
 by_cases c3:(nb-1==1)=true
 ·rw [if_pos c3]
  exact wpS_pure ⟨sm,.inl ⟨_,rfl,mB.first (by simpa using c3) h0 (by omega)⟩⟩
 rw [if_neg c3]
 have c3:nb-1≠1:=by simpa using c3
 obtain ⟨x,hx⟩:=d9 (xs:=a) (i:=na-1) (by omega)
 refine wpS_bind (br hx ?_)
 have ax:∀ u∈a.toList.take na,κ u <= κ x:=fun u hu=>kh sa hx u (by rw [show na-1+1=na by omega]; exact hu)
 refine wpS_bind (iT T (qS sb Sb (n:=nb-1) (by omega)) (Sa x (fo hx)) (sm.1.trans ek) (by omega) fun k1 k2 ek2 f1 f2=>?_)
 simp only [if_true] at f1 f2
 dsimp only
 have ln:k1.length+k2.length=nb-1:=by
  have:=congrArg List.length ek2
  rw [List.length_append,List.length_take,Array.length_toList] at this
  omega
 rcases Nat.eq_zero_or_pos (nb-1-k1.length) with h1 | h1
 ·rw [if_neg (by omega)]
  have:k2=[]:=List.length_eq_zero_iff.mp (by omega)
  subst this
  exact yv mB hx (fun z hz=>Int.le_of_lt (f1 z (by rw [ek2,List.append_nil] at hz; exact hz))) p1 (by omega) p4 (by omega) (by omega) sm
 ·rw [if_pos h1]
  have mC:=mB.appB (by omega) ek2 fun z hz u hu=>Int.le_trans (ax u hu) (f2 z hz)
  by_cases c4:(k1.length==1)=true
  ·rw [if_pos c4]
   exact wpS_pure ⟨sm,.inl ⟨_,rfl,mC.first (by simpa using c4) h0 (by omega)⟩⟩
  rw [if_neg c4]
  by_cases c5:(k1.length==0)=true
  ·rw [if_pos c5]
   exact wpS_pure ⟨sm,.inl ⟨_,rfl,mC.done (.inr (by simpa using c5))⟩⟩
  rw [if_neg c5]
  have c4:k1.length≠1:=by simpa using c4
  have c5:k1.length≠0:=by simpa using c5
  exact yv mC hx (fun z hz=>Int.le_of_lt (f1 z (by rw [(jF (by omega) ek2).2] at hz; exact hz))) p1 (by omega) p4 (by omega) (by omega) sm
theorem HsQ.y {B:Nat} {st st':SortSt} {c:Hs} (h:HsQ κ a b B st (.yield c) st'):SameBut st st'/\∃ na nb out g x y,c=(none,na,nb,out,g,x,y)/\HI κ a b out na nb/\1<=na/\2<=nb/\na<=a.size/\nb<=b.size/\na+nb<=B:=by
 obtain ⟨sm,e,pt⟩:=h
 obtain ⟨ro,na,nb,out,g,x,y⟩:=c
 have e:ro=none:=e
 subst e
 rcases pt with ⟨r,e,_⟩ | ⟨_,m,p1,p2,p3⟩
 ·cases e
 ·exact ⟨sm,na,nb,out,g,x,y,rfl,m,p1,p2,p3⟩
theorem qI (T:dJ M A E s kd κ S) {st:SortSt} {Q:Array Keyed->SortSt->Prop} (sa:Asc κ a.toList) (sb:Asc κ b.toList) (Sa:∀ x∈a.toList,S x) (Sb:∀ x∈b.toList,S x) (na:1<=a.size) (nb:1<=b.size)
  (h0:∀ y,b[0]? = some y->∀ x∈a.toList,κ y <= κ x) (hl:∀ x,a[a.size-1]? = some x->∀ y∈b.toList,κ y <= κ x) (ek:kindOf st=kd) (h:∀ out st',jt κ a b out->SameBut st st'->Q out st'):wpS M A E s (mS a b) Q st:=by
 rw [rM]
 refine wpS_bind (wpS_lift (wpAny_rule ⟨rfl,?_⟩))
 obtain ⟨x0,hx0⟩:=d9 (xs:=a) (i:=a.size-1) (by omega)
 refine wpS_bind (br hx0 ?_)
 dsimp only
 have m0:HI κ a b #[] a.size b.size:=by
  have e1:a.toList.take a.size=a.toList:=List.take_of_length_le (by simp)
  have e2:b.toList.take b.size=b.toList:=List.take_of_length_le (by simp)
  unfold HI
  rw [e1,e2]
  exact ⟨by rw [List.nil_append]; exact (List.reverse_perm _).append (List.reverse_perm _),List.Pairwise.nil,fun x hx=>by simp at hx,asc_neg.mpr (by rw [List.reverse_reverse]; exact sa),asc_neg.mpr (by rw [List.reverse_reverse]; exact sb)⟩
 have m1:HI κ a b #[x0] (a.size-1) b.size:=HI.pushA (out:=#[]) (nb:=b.size) (na:=a.size-1) (by rw [show a.size-1+1=a.size by omega]; exact m0) hx0 fun z hz=>hl x0 hx0 z (List.mem_of_mem_take hz)
 by_cases c1:(a.size-1==0)=true
 ·rw [if_pos c1]
  exact wpS_pure (h _ _ (m1.done (.inl (by simpa using c1))) (.refl _))
 rw [if_neg c1]
 have c1:a.size-1≠0:=by simpa using c1
 by_cases c2:(b.size==1)=true
 ·rw [if_pos c2]
  exact wpS_pure (h _ _ (m1.first (by simpa using c2) h0 nb) (.refl _))
 rw [if_neg c2]
 have c2:b.size≠1:=by simpa using c2
 refine wpS_bind (wpS_get ?_)
 refine wpS_bind (wpS_mono (wpS_forRange (I:=fun t c st'=>SameBut st st'/\∃ na nb out g,c=(none,na,nb,out,g)/\HI κ a b out na nb/\1<=na/\2<=nb/\na<=a.size/\nb<=b.size/\na+nb+t+1<=a.size+b.size)
  (Q:=fun c st'=>SameBut st st'/\∃ r,c.1=some r/\jt κ a b r) ?step ?fin ⟨.refl _,_,_,_,_,rfl,m1,by omega,by omega,by omega,by omega,by omega⟩) ?post)
 case fin=>
  rintro c st' ⟨sm,na,nb,out,g,rfl,m,p1,p2,p4,p5,p3⟩
  omega
 case post=>
  rintro c st' ⟨sm,r,e,g⟩
  rw [e]
  exact wpS_pure (h r st' g sm)
 case step=>
  rintro t c st1 _ ht ⟨sm1,na,nb,out,g,rfl,m,p1,p2,p4,p5,p3⟩
  dsimp only
  refine wpS_bind (wpS_mono (wpS_forRange (I:=fun u c st'=>SameBut st st'/\∃ na nb out x y,c=(none,na,nb,out,x,y)/\HI κ a b out na nb/\1<=na/\2<=nb/\na<=a.size/\nb<=b.size/\na+nb+t+1+min u 1<=a.size+b.size)
   (Q:=fun c st'=>SameBut st st'/\sZ κ a b (a.size+b.size-t-2) c.1 c.2.1 c.2.2.1 c.2.2.2.1) ?step1 ?fin1 ⟨sm1,_,_,_,_,_,rfl,m,p1,p2,p4,p5,by omega⟩) ?post1)
  case fin1=>
   rintro c st' ⟨sm,na,nb,out,x,y,rfl,m,p1,p2,p4,p5,p3⟩
   exact ⟨sm,.inr ⟨rfl,m,p1,p2,p4,p5,show na+nb<=_ by omega⟩⟩
  case step1=>
   rintro u c st2 _ hu ⟨sm2,na,nb,out,n1,n2,rfl,m,p1,p2,p4,p5,p3⟩
   dsimp only
   obtain ⟨y,hy⟩:=d9 (xs:=b) (i:=nb-1) (by omega)
   obtain ⟨x,hx⟩:=d9 (xs:=a) (i:=na-1) (by omega)
   have ax:∀ u∈a.toList.take na,κ u <= κ x:=fun u hu=>kh sa hx u (by rw [show na-1+1=na by omega]; exact hu)
   have bx:∀ u∈b.toList.take nb,κ u <= κ y:=fun u hu=>kh sb hy u (by rw [show nb-1+1=nb by omega]; exact hu)
   refine wpS_bind (br hy (wpS_bind (br hx (wpS_bind (T y x (Sb y (fo hy)) (Sa x (fo hx)) st2 _ (sm2.1.trans ek) ?_)))))
   dsimp only
   by_cases q:κ y < κ x
   ·simp only [q,decide_true,if_true]
    refine wpS_bind (br hx ?_)
    have m':HI κ a b (out.push x) (na-1) nb:=HI.pushA (by rw [show na-1+1=na by omega]; exact m) hx fun z hz=>Int.le_trans (bx z hz) (Int.le_of_lt q)
    by_cases c3:(na-1==0)=true
    ·rw [if_pos c3]
     exact wpS_pure ⟨sm2,.inl ⟨_,rfl,m'.done (.inl (by simpa using c3))⟩⟩
    rw [if_neg c3]
    have c3:na-1≠0:=by simpa using c3
    split
    ·exact wpS_pure ⟨sm2,.inr ⟨rfl,m',show 1<=na-1 by omega,p2,show na-1<=_ by omega,p5,show na-1+nb<=_ by omega⟩⟩
    ·exact wpS_pure ⟨sm2,_,_,_,_,_,rfl,m',by omega,p2,by omega,p5,by omega⟩
   ·simp only [q,decide_false,Bool.false_eq_true,if_false]
    refine wpS_bind (br hy ?_)
    have m':HI κ a b (out.push y) na (nb-1):=HI.pushB (by rw [show nb-1+1=nb by omega]; exact m) hy fun z hz=>Int.le_trans (ax z hz) (Int.not_lt.mp q)
    by_cases c3:(nb-1==1)=true
    ·rw [if_pos c3]
     exact wpS_pure ⟨sm2,.inl ⟨_,rfl,m'.first (by simpa using c3) h0 (by omega)⟩⟩
    rw [if_neg c3]
    have c3:nb-1≠1:=by simpa using c3
    split
    ·exact wpS_pure ⟨sm2,.inr ⟨rfl,m',p1,show 2<=nb-1 by omega,p4,show nb-1<=_ by omega,show na+(nb-1)<=_ by omega⟩⟩
    ·exact wpS_pure ⟨sm2,_,_,_,_,_,rfl,m',p1,by omega,p4,by omega,by omega⟩
  case post1=>
   rintro ⟨ro,na,nb,out,n1,n2⟩ st2 ⟨sm2,pt⟩
   rcases pt with ⟨r,e,gd⟩ | ⟨e,m,p1,p2,p4,p5,p3⟩
   ·have e:ro=some r:=e
    subst e
    exact wpS_pure ⟨sm2,r,rfl,gd⟩
   have e:ro=none:=e
   subst e
   dsimp only at m p1 p2 p3 p4 p5 ⊢
   refine wpS_bind (wpS_lift (wpAny_rule ⟨rfl,?_⟩))
   refine wpS_bind (wpS_mono (wpS_forRange (I:=fun u c st'=>SameBut st st'/\∃ na nb out g x y,c=(none,na,nb,out,g,x,y)/\HI κ a b out na nb/\1<=na/\2<=nb/\na<=a.size/\nb<=b.size/\na+nb<=a.size+b.size-t-2)
    (Q:=fun c st'=>SameBut st st'/\sZ κ a b (a.size+b.size-t-2) c.1 c.2.1 c.2.2.1 c.2.2.2.1) ?step2 ?fin2 ⟨sm2,_,_,_,_,_,_,rfl,m,p1,p2,p4,p5,p3⟩) ?post2)
   case fin2=>
    rintro c st' ⟨sm,na,nb,out,g,x,y,rfl,m,p⟩
    exact ⟨sm,.inr ⟨rfl,m,p⟩⟩
   case post2=>
    rintro ⟨ro,na,nb,out,g,n1,n2⟩ st3 ⟨sm3,pt⟩
    rcases pt with ⟨r,e,gd⟩ | ⟨e,m,p1,p2,p4,p5,p3⟩
    ·have e:ro=some r:=e
     subst e
     exact wpS_pure ⟨sm3,r,rfl,gd⟩
    have e:ro=none:=e
    subst e
    dsimp only at m p1 p2 p3 p4 p5 ⊢
    exact wpS_bind (jw sm3 fun st4 sm4=>wpS_pure ⟨sm4,_,_,_,_,rfl,m,p1,p2,p4,p5,by omega⟩)
   case step2=>
    rintro u c st3 _ hu ⟨sm3,na,nb,out,g,n1,n2,rfl,m,p1,p2,p4,p5,p3⟩
    dsimp only
    obtain ⟨y,hy⟩:=d9 (xs:=b) (i:=nb-1) (by omega)
    have Sy:=Sb y (fo hy)
    have bx:∀ u∈b.toList.take nb,κ u <= κ y:=fun u hu=>kh sb hy u (by rw [show nb-1+1=nb by omega]; exact hu)
    rcases Nat.lt_or_ge 1 g with hg | hg
    all_goals
     first
     | rw [if_pos hg]
     | rw [if_neg (Nat.not_lt.mpr hg)]
     refine wpS_bind (jw sm3 fun st4 sm4=>?_)
     refine wpS_bind (br hy ?_)
     refine wpS_bind (iT T (qS sa Sa p4) Sy (sm4.1.trans ek) (by omega) fun l1 l2 el e1 e2=>?_)
     simp only [Bool.false_eq_true,if_false] at e1 e2
     dsimp only
     have ln:l1.length+l2.length=na:=by
      have:=congrArg List.length el
      rw [List.length_append,List.length_take,Array.length_toList] at this
      omega
     rcases Nat.eq_zero_or_pos (na-l1.length) with h1 | h1
     ·rw [if_neg (by omega)]
      have l2n:l2=[]:=List.length_eq_zero_iff.mp (by omega)
      subst l2n
      refine wpS_mono (yw (B:=a.size+b.size-t-2) (out:=out) (na:=na) (nb:=nb) (k:=na-l1.length) (n2:=n2) T sa sb Sa Sb m hy (fun z hz=>e1 z (by rw [el,List.append_nil] at hz; exact hz)) h0 p1 p2 p4 p5 p3 sm4 ek) fun r st5 gq=>?_
      cases r with
      | done c=>exact gq
      | yield c=>exact gq.y
     ·rw [if_pos h1]
      have mA:=m.appA p4 el fun x hx z hz=>Int.le_trans (bx z hz) (Int.le_of_lt (e2 x hx))
      by_cases c3:(l1.length==0)=true
      ·rw [if_pos c3]
       exact wpS_pure ⟨sm4,.inl ⟨_,rfl,mA.done (.inl (by simpa using c3))⟩⟩
      rw [if_neg c3]
      have c3:l1.length≠0:=by simpa using c3
      refine wpS_mono (yw (B:=a.size+b.size-t-2) (out:=out++(a.extract l1.length na).reverse) (na:=l1.length) (nb:=nb) (k:=na-l1.length) (n2:=n2) T sa sb Sa Sb mA hy (fun z hz=>e1 z (by rw [(jF p4 el).2] at hz; exact hz)) h0 (by omega) p2 (by omega) p5 (by omega) sm4 ek) fun r st5 gq=>?_
      cases r with
      | done c=>exact gq
      | yield c=>exact gq.y
end
end VL
namespace VL
open PySem PySem.Spec PyProof.Rows
theorem rN (i:Nat):mergeAt' i=(do
 let s <- get
 let (some (sa,na,power),some (sb,nb,_)):=((pendingOf s)[i]?,(pendingOf s)[i+1]?) | unsupported "internal:list.sort.pending"
 set (setPending s (((pendingOf s).setIfInBounds i (sa,na+nb,power)).eraseIdxIfInBounds (i+1)))
 let some k <- dQ false (<- elem' (arrOf s) sb) (arrOf s) sa na 0 | return false
 let (sa,na):=(sa+k,na-k)
 if na==0 then return true
 let some nb <- dQ true (<- elem' (arrOf s) (sa+na-1)) (arrOf s) sb nb (nb-1) | return false
 if nb==0 then return true
 let x:=(arrOf s).extract sa sb
 let y:=(arrOf s).extract sb (sb+nb)
 let merged <- if na<=nb then mR x y else mS x y
 modify fun s=>setArr s (merged.toList.zipIdx.foldl (fun a (p,j)=>a.setIfInBounds (sa+j) p) (arrOf s))
 return (failedOf (<- get)).isNone):=rfl
section
variable {M:Model} {A:Around} {E:Value->Shared->Prop} {s:Shared} {κ:Keyed->Int} {S:Keyed->Prop} {kd:SortKind}
theorem zF {σ:Type} {x:σ} {Q:PUnit -> σ -> Prop} {st:σ} (h:Q ⟨⟩ x):wpS M A E s (set x:StateT σ Sem PUnit) Q st:=by
 unfold wpS; rw [StateT.run_set]; exact wpAny_pure ⟨rfl,h⟩
theorem md (o:Nat):∀ (l:List Keyed) (k:Nat) (xs:Array Keyed),o+k+l.length<=xs.size->((l.zipIdx k).foldl (fun (a:Array Keyed) (q:Keyed×Nat)=>a.setIfInBounds (o+q.2) q.1) xs).toList=xs.toList.take (o+k)++l++xs.toList.drop (o+k+l.length)
 | [],k,xs,_=>by simp
 | x::l,k,xs,h=>by
  rw [List.length_cons] at h
  rw [List.zipIdx_cons,List.foldl_cons,md o l (k+1) _ (by rw [Array.size_setIfInBounds]; omega),Array.toList_setIfInBounds]
  have hk:o+k<xs.toList.length:=by rw [Array.length_toList]; omega
  rw [show o+(k+1)=o+k+1 by omega,List.take_add_one,List.take_set_of_le (Nat.le_refl _),List.getElem?_set_self hk,List.drop_set_of_lt (by omega),List.length_cons,show o+k+1+l.length=o+k+(l.length+1) by omega]
  simp
theorem zE (T:dJ M A E s kd κ S) {st:SortSt} {L1 g1 g2 L2:List Keyed} {i pw pw2:Nat} {Q:Bool->SortSt->Prop} (ek:kindOf st=kd) (hf:failedOf st=none) (ha:(arrOf st).toList=L1++(g1++(g2++L2))) (a1:Asc κ g1) (a2:Asc κ g2) (n1:g1≠[]) (n2:g2≠[]) (hS:∀ x∈g1++g2,S x)
  (p1:(pendingOf st)[i]? = some (L1.length,g1.length,pw)) (p2:(pendingOf st)[i+1]? = some (L1.length+g1.length,g2.length,pw2))
  (h:∀ st' g,g.Perm (g1++g2)->Asc κ g->(arrOf st').toList=L1++(g++L2)->kindOf st'=kd->failedOf st'=none->pendingOf st'=((pendingOf st).setIfInBounds i (L1.length,g1.length+g2.length,pw)).eraseIdxIfInBounds (i+1)->Q true st') :
  wpS M A E s (mergeAt' i) Q st:=by
 rw [rN]
 refine wpS_bind (wpS_get ?_)
 rw [p1,p2]
 dsimp only
 refine wpS_bind (zF ?_)
 have sz:(arrOf st).size=L1.length+(g1.length+(g2.length+L2.length)):=by
  have:=congrArg List.length ha
  simpa using this
 have l1:1<=g1.length:=List.length_pos_iff.mpr n1
 have l2:1<=g2.length:=List.length_pos_iff.mpr n2
 have st1:Stretch κ S (arrOf st) L1.length g1.length g1:=⟨by rw [ha,List.drop_left,List.take_left],rfl,fun x hx=>hS x (by simp [hx]),a1⟩
 have st2:Stretch κ S (arrOf st) (L1.length+g1.length) g2.length g2:=⟨by rw [ha,<- List.drop_drop,List.drop_left,List.drop_left,List.take_left],rfl,fun x hx=>hS x (by simp [hx]),a2⟩
 have hb:=st2.get (i:=0) (by omega)
 rw [Nat.add_zero] at hb
 have Sb0:S g2[0]:=st2.all _ (List.getElem_mem _)
 have b0:∀ z∈g2,κ g2[0] <= κ z:=fun z hz=>by
  obtain ⟨j,hj,rfl⟩:=List.mem_iff_getElem.mp hz
  rcases Nat.eq_zero_or_pos j with q | q
  ·subst q; exact Int.le_refl _
  ·exact List.pairwise_iff_getElem.mp a2 0 j (by omega) hj q
 have same:∀ Z:SortSt,arrOf Z=arrOf st->kindOf Z=kindOf st->failedOf Z=failedOf st->pendingOf Z=((pendingOf st).setIfInBounds i (L1.length,g1.length+g2.length,pw)).eraseIdxIfInBounds (i+1)->(∀ x∈g1,∀ y∈g2,κ x <= κ y)->Q true Z:=fun Z e1 e2 e3 e4 q=>
  h Z (g1++g2) (List.Perm.refl _) (a1.app a2 q) (by rw [e1,ha,List.append_assoc]) (e2.trans ek) (e3.trans hf) e4
 refine wpS_bind (br hb ?_)
 refine wpS_bind (iT T st1 Sb0 ek (by omega) fun u1 u2 eu e1 e2=>?_)
 simp only [Bool.false_eq_true,if_false] at e1 e2
 dsimp only
 have lu:u1.length+u2.length=g1.length:=by rw [eu,List.length_append]
 by_cases c1:(g1.length-u1.length==0)=true
 ·rw [if_pos c1]
  have:u2=[]:=List.length_eq_zero_iff.mp (by have:g1.length-u1.length=0:=(by simpa using c1); omega)
  subst this
  rw [List.append_nil] at eu
  refine wpS_pure (same _ rfl rfl rfl rfl fun x hx y hy=>Int.le_trans (e1 x (eu ▸ hx)) (b0 y hy))
 rw [if_neg c1]
 have c1:g1.length-u1.length≠0:=by simpa using c1
 have hlast:(arrOf st)[L1.length+u1.length+(g1.length-u1.length)-1]? = some g1[g1.length-1]:=by
  rw [show L1.length+u1.length+(g1.length-u1.length)-1=L1.length+(g1.length-1) by omega]
  exact st1.get (by omega)
 have gl:∀ z∈g1,κ z <= κ g1[g1.length-1]:=fun z hz=>by
  obtain ⟨j,hj,rfl⟩:=List.mem_iff_getElem.mp hz
  rcases Nat.lt_or_ge j (g1.length-1) with q | q
  ·exact List.pairwise_iff_getElem.mp a1 j _ hj (by omega) q
  ·have:j=g1.length-1:=by omega
   subst this; exact Int.le_refl _
 refine wpS_bind (br hlast ?_)
 refine wpS_bind (iT T st2 (st1.all _ (List.getElem_mem _)) ek (by omega) fun v1 v2 ev f1 f2=>?_)
 simp only [if_true] at f1 f2
 dsimp only
 by_cases c2:(v1.length==0)=true
 ·rw [if_pos c2]
  have:v1=[]:=List.length_eq_zero_iff.mp (by simpa using c2)
  subst this
  rw [List.nil_append] at ev
  refine wpS_pure (same _ rfl rfl rfl rfl fun x hx y hy=>Int.le_trans (gl x hx) (f2 y (ev ▸ hy)))
 rw [if_neg c2]
 have c2:v1.length≠0:=by simpa using c2
 have lv:v1.length+v2.length=g2.length:=by rw [ev,List.length_append]
 have ex:((arrOf st).extract (L1.length+u1.length) (L1.length+g1.length)).toList=u2:=by
  rw [Array.toList_extract,List.extract_eq_drop_take,ha,eu,<- List.drop_drop,List.drop_left,List.append_assoc,List.drop_left,List.length_append,show L1.length+(u1.length+u2.length)-(L1.length+u1.length)=u2.length by omega,List.take_left]
 have ey:((arrOf st).extract (L1.length+g1.length) (L1.length+g1.length+v1.length)).toList=v1:=by
  rw [Array.toList_extract,List.extract_eq_drop_take,ha,<- List.drop_drop,List.drop_left,List.drop_left,ev,List.append_assoc,show L1.length+g1.length+v1.length-(L1.length+g1.length)=v1.length by omega,List.take_left]
 have hm:∀ (mg:Array Keyed) (st':SortSt),jt κ ((arrOf st).extract (L1.length+u1.length) (L1.length+g1.length)) ((arrOf st).extract (L1.length+g1.length) (L1.length+g1.length+v1.length)) mg->SameBut (setPending st (((pendingOf st).setIfInBounds i (L1.length,g1.length+g2.length,pw)).eraseIdxIfInBounds (i+1))) st' ->
   wpS M A E s (do
    modify fun s=>setArr s (mg.toList.zipIdx.foldl (fun (a:Array Keyed) (q:Keyed×Nat)=>a.setIfInBounds (L1.length+u1.length+q.2) q.1) (arrOf s))
    return (failedOf (<- get)).isNone) Q st':=fun mg st' gd sm=>by
  obtain ⟨gp,ga⟩:=gd
  rw [ex,ey] at gp
  have ea:arrOf st'=arrOf st:=sm.2.1
  have lm:mg.toList.length=u2.length+v1.length:=by rw [gp.length_eq,List.length_append]
  refine wpS_bind (wpS_modify (wpS_bind (wpS_get (wpS_pure ?_))))
  have fn:failedOf st'=none:=sm.2.2.2.trans hf
  show Q (failedOf st').isNone _
  rw [fn]
  refine h _ (u1++mg.toList++v2) ?_ ?_ ?_ (sm.1.trans ek) fn sm.2.2.1
  ·rw [eu,ev]
   have:=((List.Perm.refl u1).append gp).append (List.Perm.refl v2)
   simpa [List.append_assoc] using this
  ·have mem:∀ z,z∈mg.toList->z∈u2\/z∈v1:=fun z hz=>List.mem_append.mp (gp.mem_iff.mp hz)
   have au:=eu ▸ a1
   have av:=ev ▸ a2
   have v0:∀ z∈v1,κ g2[0] <= κ z:=fun z hz=>b0 z (by rw [ev]; simp [hz])
   refine (au.left.app ga fun x hx z hz=>?_).app av.right fun x hx z hz=>?_
   ·rcases mem z hz with q | q
    ·exact au.mid x hx z q
    ·exact Int.le_trans (e1 x hx) (v0 z q)
   ·rcases List.mem_append.mp hx with q | q
    ·exact Int.le_trans (gl x (by rw [eu]; simp [q])) (f2 z hz)
    ·rcases mem x q with q | q
     ·exact Int.le_trans (gl x (by rw [eu]; simp [q])) (f2 z hz)
     ·exact av.mid x q z hz
  ·show (mg.toList.zipIdx.foldl _ (arrOf st')).toList=_
   rw [ea,md (L1.length+u1.length) mg.toList 0 (arrOf st) (by rw [lm,sz]; omega),Nat.add_zero,ha,eu,ev,lm]
   have t1:(L1++(u1++u2++(v1++v2++L2))).take (L1.length+u1.length)=L1++u1:=by
    rw [show L1++(u1++u2++(v1++v2++L2))=(L1++u1)++(u2++(v1++v2++L2)) by simp [List.append_assoc],<- List.length_append,List.take_left]
   have t2:(L1++(u1++u2++(v1++v2++L2))).drop (L1.length+u1.length+(u2.length+v1.length))=v2++L2:=by
    rw [show L1++(u1++u2++(v1++v2++L2))=(L1++u1++(u2++v1))++(v2++L2) by simp [List.append_assoc],<- List.length_append,<- List.length_append,<- List.length_append,List.drop_left]
   rw [t1,t2]
   simp [List.append_assoc]
 have ax:Asc κ ((arrOf st).extract (L1.length+u1.length) (L1.length+g1.length)).toList:=by rw [ex]; exact (eu ▸ a1).right
 have ay:Asc κ ((arrOf st).extract (L1.length+g1.length) (L1.length+g1.length+v1.length)).toList:=by rw [ey]; exact (ev ▸ a2).left
 have SX:∀ x∈((arrOf st).extract (L1.length+u1.length) (L1.length+g1.length)).toList,S x:=by rw [ex]; exact fun x hx=>hS x (by rw [eu]; simp [hx])
 have SY:∀ x∈((arrOf st).extract (L1.length+g1.length) (L1.length+g1.length+v1.length)).toList,S x:=by rw [ey]; exact fun x hx=>hS x (by rw [ev]; simp [hx])
 have nX:1<=((arrOf st).extract (L1.length+u1.length) (L1.length+g1.length)).size:=by rw [<- Array.length_toList,ex]; omega
 have nY:1<=((arrOf st).extract (L1.length+g1.length) (L1.length+g1.length+v1.length)).size:=by rw [<- Array.length_toList,ey]; omega
 have h0:∀ y,((arrOf st).extract (L1.length+g1.length) (L1.length+g1.length+v1.length))[0]? = some y->∀ x∈((arrOf st).extract (L1.length+u1.length) (L1.length+g1.length)).toList,κ y <= κ x:=fun y hy x hx=>by
  rw [<- Array.getElem?_toList,ey] at hy
  have:g2[0]? = some y:=by rw [ev,List.getElem?_append_left (by omega)]; exact hy
  obtain ⟨_,e⟩:=List.getElem?_eq_some_iff.mp this
  rw [ex] at hx
  rw [<- e]
  exact Int.le_of_lt (e2 x hx)
 have hl:∀ x,((arrOf st).extract (L1.length+u1.length) (L1.length+g1.length))[((arrOf st).extract (L1.length+u1.length) (L1.length+g1.length)).size-1]? = some x->∀ y∈((arrOf st).extract (L1.length+g1.length) (L1.length+g1.length+v1.length)).toList,κ y <= κ x:=fun x hx y hy=>by
  rw [<- Array.length_toList,<- Array.getElem?_toList,ex] at hx
  have:g1[g1.length-1]? = some x:=by
   rw [<- hx]
   have:g1.length-1=u1.length+(u2.length-1):=by omega
   rw [this]
   conv=>lhs; rw [eu]
   rw [List.getElem?_append_right (by omega),Nat.add_sub_cancel_left]
  obtain ⟨_,e⟩:=List.getElem?_eq_some_iff.mp this
  rw [ey] at hy
  rw [<- e]
  exact Int.le_of_lt (f1 y hy)
 by_cases c3:g1.length-u1.length<=v1.length
 ·rw [if_pos c3]
  exact wpS_bind (qH T ax ay SX SY nX nY h0 hl ek fun mg st' gd sm=>hm mg st' gd sm)
 ·rw [if_neg c3]
  exact wpS_bind (qI T ax ay SX SY nX nY h0 hl ek fun mg st' gd sm=>hm mg st' gd sm)
end
end VL
namespace VL
open PySem PySem.Spec PyProof.Rows
noncomputable def KA (κ:Keyed->Int) (xs:Array Keyed) (i:Nat):Int:=match xs[i]? with
 | some p=>κ p
 | none=>0
def nD (κ:Keyed->Int) (xs:Array Keyed) (lo k:Nat):Prop:=∀ i j,i<=j->j<k->KA κ xs (lo+i)<=KA κ xs (lo+j)
def kT (κ:Keyed->Int) (xs:Array Keyed) (lo k:Nat):Prop:=∀ i j,i<=j->j<k->KA κ xs (lo+j)<=KA κ xs (lo+i)
section
variable {M:Model} {A:Around} {E:Value->Shared->Prop} {s:Shared} {κ:Keyed->Int} {S:Keyed->Prop} {kd:SortKind}
theorem iS {xs ys:Array Keyed} {i j:Nat} (h:xs[i]? = ys[j]?):KA κ xs i=KA κ ys j:=by unfold KA; rw [h]
theorem pe {xs:Array Keyed} {src d:Nat} (hs:src<xs.size) (hd:d<=src) (k:Nat) :
  KA κ (bubble xs src d) k=if k=src-d then KA κ xs src else if src-d<k/\k<=src then KA κ xs (k-1) else KA κ xs k:=by
 have e:=getElem?_bubble hs d hd k
 by_cases h1:k=src-d
 ·rw [if_pos h1] at e ⊢; exact iS e
 ·rw [if_neg h1] at e ⊢
  by_cases h2:src-d<k/\k<=src
  ·rw [if_pos h2] at e ⊢; exact iS e
  ·rw [if_neg h2] at e ⊢; exact iS e
theorem kS {xs:Array Keyed} {i j:Nat} (hj:j<=xs.size) (k:Nat):KA κ (mirror xs i j ((j-i) / 2)) k=if i<=k/\k<j then KA κ xs (i+j-1-k) else KA κ xs k:=by
 have e:=getElem?_mirror_all (i:=i) hj k
 by_cases h1:i<=k/\k<j
 ·rw [if_pos h1] at e ⊢; exact iS e
 ·rw [if_neg h1] at e ⊢; exact iS e
theorem cN {xs:Array Keyed} {i j:Nat} (hj:j<=xs.size) (heq:∀ k,i<=k->k<j->KA κ xs k=KA κ xs (j-1)) (k:Nat):KA κ (mirror xs i j ((j-i) / 2)) k=KA κ xs k:=by
 rw [kS hj]
 split
 ·rw [heq _ (by omega) (by omega),heq k (by omega) (by omega)]
 ·rfl
structure SB (S:Keyed->Prop) (kd:SortKind) (lo:Nat) (st0 st:SortSt):Prop where
 perm:(arrOf st).Perm (arrOf st0)
 pre:∀ k,k<lo->(arrOf st)[k]? = (arrOf st0)[k]?
 kind:kindOf st=kd
 failed:failedOf st=none
 pend:pendingOf st=pendingOf st0
 gal:gallopOf st=gallopOf st0
 all:∀ x∈(arrOf st0).toList,S x
theorem SB.size {lo:Nat} {st0 st:SortSt} (h:SB S kd lo st0 st):(arrOf st).size=(arrOf st0).size:=h.perm.size_eq
theorem SB.setArr {lo:Nat} {st0 st:SortSt} (h:SB S kd lo st0 st) {xs:Array Keyed} (hp:xs.Perm (arrOf st)) (hq:∀ k,k<lo->xs[k]? = (arrOf st)[k]?):SB S kd lo st0 (setArr st xs):=
 ⟨hp.trans h.perm,fun k hk=>(hq k hk).trans (h.pre k hk),h.kind,h.failed,h.pend,h.gal,h.all⟩
theorem SB.at {lo:Nat} {st0 st:SortSt} (h:SB S kd lo st0 st) {i:Nat} (hi:i<(arrOf st0).size):∃ x,(arrOf st)[i]? = some x/\S x /\ κ x=KA κ (arrOf st) i:=by
 obtain ⟨x,hx⟩:=d9 (xs:=arrOf st) (i:=i) (by rw [h.size]; exact hi)
 exact ⟨x,hx,h.all x ((Array.perm_iff_toList_perm.mp h.perm).mem_iff.mp (fo hx)),by unfold KA; rw [hx]⟩
theorem jx (T:dJ M A E s kd κ S) {lo:Nat} {st0 st:SortSt} {i j:Nat} {Q:Option Bool->SortSt->Prop} (hB:SB S kd lo st0 st) (hi:i<(arrOf st0).size) (hj:j<(arrOf st0).size)
  (h:Q (some (decide (KA κ (arrOf st) i<KA κ (arrOf st) j))) st):wpS M A E s (ltAt' i j) Q st:=by
 obtain ⟨x,e1,s1,k1⟩:=hB.at (κ:=κ) hi
 obtain ⟨y,e2,s2,k2⟩:=hB.at (κ:=κ) hj
 rw [ltAt'_eq]
 refine wpS_bind (wpS_get ?_)
 exact wpS_bind (br e1 (wpS_bind (br e2 (T x y s1 s2 st _ hB.kind (by rw [k1,k2]; exact h)))))
theorem g7 {xs:Array Keyed} {i j lo:Nat} (hj:j<=xs.size) (hi:lo<=i):∀ k,k<lo->(mirror xs i j ((j-i) / 2))[k]? = xs[k]?:=fun k hk=>by
 rw [getElem?_mirror_all hj,if_neg (by omega)]
theorem uE {xs:Array Keyed} {src d lo:Nat} (hs:src<xs.size) (hd:d<=src) (hl:lo<=src-d):∀ k,k<lo->(bubble xs src d)[k]? = xs[k]?:=fun k hk=>by
 rw [getElem?_bubble hs d hd,if_neg (by omega),if_neg (by omega)]
theorem zH (T:dJ M A E s kd κ S) {lo:Nat} {st0 st:SortSt} {n ok:Nat} {Q:Bool->SortSt->Prop} (hn:lo+n<=(arrOf st0).size) (hok:ok<=n) (hB:SB S kd lo st0 st) (hs:nD κ (arrOf st) lo ok)
  (h:∀ st',SB S kd lo st0 st'->nD κ (arrOf st') lo n->Q true st'):wpS M A E s (binarySort' lo n ok) Q st:=by
 rw [binarySort'_eq]
 refine wpS_bind (wpS_mono (wpS_forRange (I:=fun k c st'=>c=(none,())/\SB S kd lo st0 st'/\nD κ (arrOf st') lo (min k n))
  (Q:=fun c st'=>c=(none,())/\SB S kd lo st0 st'/\nD κ (arrOf st') lo n) ?step ?fin ?init) ?post)
 case post=>
  rintro c st' ⟨rfl,hB',hs'⟩
  exact wpS_pure (h st' hB' hs')
 case init=>
  refine ⟨rfl,hB,fun i j hij hj=>?_⟩
  by_cases h1:ok=0
  ·have:i=j:=by omega
   subst this; exact Int.le_refl _
  ·exact hs i j hij (by omega)
 case fin=>
  rintro c st' ⟨hc,hB',hs'⟩
  refine ⟨hc,hB',?_⟩
  rwa [show min (max (max ok 1) n) n=n by omega] at hs'
 case step=>
  rintro k c st' hak hkn ⟨rfl,hB',hs'⟩
  rw [show min k n=k by omega] at hs'
  have hk:lo+k<(arrOf st0).size:=by omega
  refine wpS_bind (wpS_mono (wpS_forRange (I:=fun x c st''=>st''=st'/\∃ l r,c=(none,l,r)/\l<=r/\r<=k/\r-l<=k-x /\
    (∀ i,i<l->KA κ (arrOf st') (lo+i)<=KA κ (arrOf st') (lo+k))/\(∀ i,r<=i->i<k->KA κ (arrOf st') (lo+k)<KA κ (arrOf st') (lo+i)))
   (Q:=fun c st''=>st''=st'/\∃ l r,c=(none,l,r)/\l<=k /\
    (∀ i,i<l->KA κ (arrOf st') (lo+i)<=KA κ (arrOf st') (lo+k))/\(∀ i,l<=i->i<k->KA κ (arrOf st') (lo+k)<KA κ (arrOf st') (lo+i))) ?istep ?ifin ?iinit) ?ipost)
  case iinit=>exact ⟨rfl,0,k,rfl,by omega,by omega,by omega,fun i hi=>by omega,fun i h1 h2=>by omega⟩
  case ifin=>
   rintro c st'' ⟨rfl,l,r,rfl,hlr,hrk,hm,hlo,hhi⟩
   have:l=r:=by omega
   subst this
   exact ⟨rfl,l,l,rfl,hrk,hlo,hhi⟩
  case istep=>
   rintro x c st'' _ hxk ⟨rfl,l,r,rfl,hlr,hrk,hm,hlo,hhi⟩
   dsimp only
   by_cases hge:l>=r
   ·rw [if_pos hge]
    have:l=r:=by omega
    subst this
    exact wpS_pure ⟨rfl,l,l,rfl,hrk,hlo,hhi⟩
   ·rw [if_neg hge]
    refine wpS_bind (jx T hB' hk (by omega) ?_)
    by_cases hless:KA κ (arrOf st'') (lo+k)<KA κ (arrOf st'') (lo+(l+r) / 2)
    ·simp only [hless,decide_true,if_true]
     refine wpS_pure ⟨rfl,l,(l+r) / 2,rfl,by omega,by omega,by omega,hlo,fun i h1 h2=>?_⟩
     exact Int.lt_of_lt_of_le hless (hs' _ _ h1 h2)
    ·simp only [hless,decide_false,Bool.false_eq_true,if_false]
     refine wpS_pure ⟨rfl,(l+r) / 2+1,r,rfl,by omega,by omega,by omega,fun i h1=>?_,hhi⟩
     exact Int.le_trans (hs' i ((l+r) / 2) (by omega) (by omega)) (Int.not_lt.mp hless)
  case ipost=>
   rintro c st'' ⟨rfl,l,r,rfl,hlk,hlo,hhi⟩
   show wpS _ _ _ _ (do moveDown' (lo+k) (lo+l); pure (ForInStep.yield (none,()))) _ _
   rw [moveDown'_eq]
   have hks:lo+k<(arrOf st'').size:=by rw [hB'.size]; exact hk
   refine wpS_bind (wpS_modify (wpS_pure ⟨rfl,hB'.setArr (bubble_perm _ _ _) (uE hks (by omega) (by omega)),?_⟩))
   rw [show min (k+1) n=k+1 by omega]
   intro i j hij hj
   show KA κ (bubble (arrOf st'') (lo+k) (lo+k-(lo+l))) (lo+i)<=KA κ (bubble (arrOf st'') (lo+k) (lo+k-(lo+l))) (lo+j)
   rw [pe hks (by omega),pe hks (by omega),show lo+k-(lo+k-(lo+l))=lo+l by omega]
   have r1:∀ i,l<i->lo+i-1=lo+(i-1):=fun i hi=>by omega
   repeat' split
   all_goals first
    | (exfalso; omega)
    | exact Int.le_refl _
    | exact hlo _ (by omega)
    | (rw [r1 _ (by omega)]; exact Int.le_of_lt (hhi _ (by omega) (by omega)))
    | (rw [r1 _ (by omega),r1 _ (by omega)]; exact hs' _ _ (by omega) (by omega))
    | (rw [r1 _ (by omega)]; exact hs' _ _ (by omega) (by omega))
    | exact hs' _ _ (by omega) (by omega)
end
end VL
namespace VL
open PySem PySem.Spec PyProof.Rows
noncomputable def ascL (lo a nrem:Nat):StateT SortSt Sem AscSt:=
 forIn [a:nrem] ((none,a):AscSt) fun _ c=>do
  let x <- ltAt' (lo+c.snd) (lo+c.snd-1)
  match x with
  | some smaller=>if smaller=true then pure (ForInStep.done (none,c.snd)) else pure (ForInStep.yield (none,c.snd+1))
  | _=>pure (ForInStep.done (some none,c.snd))
noncomputable def mz (lo n nrem:Nat):StateT SortSt Sem (Option Nat):=do
 reverseSlice' lo (lo+n)
 let c <- ascL lo n nrem
 match c.fst with
 | some r=>pure r
 | none=>pure (some c.snd)
noncomputable def vp (lo n nrem:Nat):StateT SortSt Sem DescSt:=
 forIn [n:nrem] ((none,n,0):DescSt) fun _ c=>do
  let x <- ltAt' (lo+c.snd.fst) (lo+c.snd.fst-1)
  match x with
  | some smaller=>
   if smaller=true then
    if c.snd.snd>0 then do
     reverseSlice' (lo+c.snd.fst-(c.snd.snd+1)) (lo+c.snd.fst)
     pure (ForInStep.yield (none,c.snd.fst+1,0))
    else pure (ForInStep.yield (none,c.snd.fst+1,0))
   else do
    let x <- ltAt' (lo+c.snd.fst-1) (lo+c.snd.fst)
    match x with
    | some larger=>
     if larger=true then pure (ForInStep.done (none,c.snd.fst,c.snd.snd))
     else pure (ForInStep.yield (none,c.snd.fst+1,c.snd.snd+1))
    | _=>pure (ForInStep.done (some none,c.snd.fst,c.snd.snd))
  | _=>pure (ForInStep.done (some none,c.snd.fst,c.snd.snd))
noncomputable def gL (lo n nrem:Nat):StateT SortSt Sem (Option Nat):=do
 liftM (rule "list.sort.descending-run")
 let c <- vp lo (n+1) nrem
 match c.fst with
 | some r=>pure r
 | none=>
  if c.snd.snd>0 then do
   reverseSlice' (lo+c.snd.fst-(c.snd.snd+1)) (lo+c.snd.fst)
   mz lo c.snd.fst nrem
  else mz lo c.snd.fst nrem
theorem qi (lo nrem:Nat):countRun' lo nrem=(do
  let c <- ascL lo 1 nrem
  match c.fst with
  | some r=>pure r
  | none=>
   if (c.snd==nrem)=true then pure (some c.snd)
   else if c.snd>1 then do
    let x <- ltAt' lo (lo+c.snd-1)
    match x with
    | some rose=>if rose=true then pure (some c.snd) else do
      reverseSlice' lo (lo+c.snd)
      gL lo c.snd nrem
    | _=>pure none
   else gL lo c.snd nrem):=by
 rw [countRun'_eq]
 unfold gL mz vp ascL
 dsimp only
 congr 1
 funext c
 obtain ⟨r,n⟩:=c
 cases r with
 | some r=>rfl
 | none=>
  dsimp only
  split
  ·rfl
  ·split
   ·congr 1
    funext x
    cases x with
    | none=>rfl
    | some rose=>
     dsimp only
     split
     ·rfl
     ·congr 1
      funext u0
      congr 1
      funext u1
      congr 1
      congr 1
      funext c2
      obtain ⟨r2,n2,q2⟩:=c2
      cases r2 with
      | some r2=>rfl
      | none=>
       dsimp only
       split
       ·congr 1
        funext u2
        congr 1
        funext u3
        congr 1
        funext c3
        obtain ⟨r3,n3⟩:=c3
        cases r3 <;> rfl
       ·congr 1
        funext u3
        congr 1
        funext c3
        obtain ⟨r3,n3⟩:=c3
        cases r3 <;> rfl
   ·congr 1
    funext u1
    congr 1
    congr 1
    funext c2
    obtain ⟨r2,n2,q2⟩:=c2
    cases r2 with
    | some r2=>rfl
    | none=>
     dsimp only
     split
     ·congr 1
      funext u2
      congr 1
      funext u3
      congr 1
      funext c3
      obtain ⟨r3,n3⟩:=c3
      cases r3 <;> rfl
     ·congr 1
      funext u3
      congr 1
      funext c3
      obtain ⟨r3,n3⟩:=c3
      cases r3 <;> rfl
section
variable {M:Model} {A:Around} {E:Value->Shared->Prop} {s:Shared} {κ:Keyed->Int} {S:Keyed->Prop} {kd:SortKind} {lo:Nat} {st0 st:SortSt}
theorem lK {i j:Nat} {Q:Unit->SortSt->Prop} (h:Q () (setArr st (mirror (arrOf st) i j ((j-i) / 2)))):wpS M A E s (reverseSlice' i j) Q st:=by
 rw [reverseSlice'_eq]; exact wpS_modify h
theorem qJ (T:dJ M A E s kd κ S) {a nrem:Nat} {Q:AscSt->SortSt->Prop} (hn:lo+nrem<=(arrOf st0).size) (ha:1<=a) (han:a<=nrem) (hB:SB S kd lo st0 st) (hs:nD κ (arrOf st) lo a)
  (h:∀ n,a<=n->n<=nrem->nD κ (arrOf st) lo n->(n=nrem\/KA κ (arrOf st) (lo+n)<KA κ (arrOf st) (lo+n-1))->Q (none,n) st):wpS M A E s (ascL lo a nrem) Q st:=by
 unfold ascL
 refine wpS_forRange (I:=fun x c st'=>st'=st/\c=(none,x)/\nD κ (arrOf st) lo x) ?step ?fin ⟨rfl,rfl,hs⟩
 case fin=>
  rintro c st' ⟨rfl,rfl,hs'⟩
  rw [show max a nrem=nrem by omega] at hs' ⊢
  exact h nrem han (Nat.le_refl _) hs' (.inl rfl)
 case step=>
  rintro x c st' hax hxn ⟨rfl,rfl,hs'⟩
  dsimp only
  refine wpS_bind (jx T hB (by omega) (by omega) ?_)
  by_cases hless:KA κ (arrOf st') (lo+x)<KA κ (arrOf st') (lo+x-1)
  ·simp only [hless,decide_true,if_true]
   exact wpS_pure (h x hax (by omega) hs' (.inr hless))
  ·simp only [hless,decide_false,Bool.false_eq_true,if_false]
   refine wpS_pure ⟨rfl,rfl,fun i j hij hj=>?_⟩
   by_cases hjx:j<x
   ·exact hs' i j hij hjx
   ·have hj':j=x:=by omega
    subst hj'
    by_cases hi':i=j
    ·subst hi'; exact Int.le_refl _
    ·rw [show lo+j-1=lo+(j-1) by omega] at hless
     exact Int.le_trans (hs' i (j-1) (by omega) (by omega)) (Int.not_lt.mp hless)
theorem mf (T:dJ M A E s kd κ S) {n nrem:Nat} {Q:Option Nat->SortSt->Prop} (hn:lo+nrem<=(arrOf st0).size) (h1:1<=n) (hnn:n<=nrem) (hB:SB S kd lo st0 st) (hs:kT κ (arrOf st) lo n)
  (h:∀ m st',SB S kd lo st0 st'->1<=m->m<=nrem->nD κ (arrOf st') lo m->Q (some m) st'):wpS M A E s (mz lo n nrem) Q st:=by
 unfold mz
 have hsz:lo+n<=(arrOf st).size:=by rw [hB.size]; omega
 refine wpS_bind (lK ?_)
 have hB':SB S kd lo st0 (setArr st (mirror (arrOf st) lo (lo+n) ((lo+n-lo) / 2))):=hB.setArr (mirror_perm _ _ _ _) (g7 hsz (Nat.le_refl _))
 refine wpS_bind (qJ T hn h1 hnn hB' ?_ fun m hm1 hm2 hsm _=>wpS_pure (h m _ hB' (by omega) hm2 hsm))
 intro i j hij hj
 show KA κ (mirror (arrOf st) lo (lo+n) ((lo+n-lo) / 2)) (lo+i)<=KA κ (mirror (arrOf st) lo (lo+n) ((lo+n-lo) / 2)) (lo+j)
 rw [kS hsz,kS hsz,if_pos (by omega),if_pos (by omega),show lo+(lo+n)-1-(lo+i)=lo+(n-1-i) by omega,show lo+(lo+n)-1-(lo+j)=lo+(n-1-j) by omega]
 exact hs _ _ (by omega) (by omega)
theorem vI (T:dJ M A E s kd κ S) {n nrem:Nat} {Q:DescSt->SortSt->Prop} (hn:lo+nrem<=(arrOf st0).size) (h1:1<=n) (hnn:n<=nrem) (hB:SB S kd lo st0 st) (hs:kT κ (arrOf st) lo n)
  (h:∀ m neq st',SB S kd lo st0 st'->n<=m->m<=nrem->kT κ (arrOf st') lo m->neq+1<=m->(∀ i,lo+m-(neq+1)<=i->i<lo+m->KA κ (arrOf st') i=KA κ (arrOf st') (lo+m-1))->Q (none,m,neq) st'):wpS M A E s (vp lo n nrem) Q st:=by
 unfold vp
 refine wpS_forRange (I:=fun x c st'=>∃ neq,c=(none,x,neq)/\SB S kd lo st0 st'/\kT κ (arrOf st') lo x/\neq+1<=x /\
   (∀ i,lo+x-(neq+1)<=i->i<lo+x->KA κ (arrOf st') i=KA κ (arrOf st') (lo+x-1))) ?step ?fin ⟨0,rfl,hB,hs,by omega,fun i h1 h2=>by congr 1; omega⟩
 case fin=>
  rintro c st' ⟨neq,rfl,hB',hs',hq,he⟩
  rw [show max n nrem=nrem by omega] at hs' hq he ⊢
  exact h nrem neq st' hB' hnn (Nat.le_refl _) hs' hq he
 case step=>
  rintro x c st' hax hxn ⟨neq,rfl,hB',hs',hq,he⟩
  dsimp only
  have hsz:lo+x<=(arrOf st').size:=by rw [hB'.size]; omega
  have e1:lo+x-1=lo+(x-1):=by omega
  refine wpS_bind (jx T hB' (by omega) (by omega) ?_)
  by_cases hless:KA κ (arrOf st') (lo+x)<KA κ (arrOf st') (lo+x-1)
  ·simp only [hless,decide_true,if_true]
   have step1:∀ xs:Array Keyed,(∀ k,KA κ xs k=KA κ (arrOf st') k)->kT κ xs lo (x+1):=by
    intro xs hk i j hij hj
    rw [hk,hk]
    by_cases hjx:j<x
    ·exact hs' i j hij hjx
    ·have hj':j=x:=by omega
     subst hj'
     by_cases hi':i=j
     ·subst hi'; exact Int.le_refl _
     ·rw [e1] at hless
      exact Int.le_trans (Int.le_of_lt hless) (hs' i (j-1) (by omega) (by omega))
   by_cases hneq:neq>0
   ·rw [if_pos hneq]
    refine wpS_bind (lK (wpS_pure ⟨0,rfl,hB'.setArr (mirror_perm _ _ _ _) (g7 hsz (by omega)),step1 _ (cN hsz he),by omega,fun i h1 h2=>by congr 1; omega⟩))
   ·rw [if_neg hneq]
    exact wpS_pure ⟨0,rfl,hB',step1 _ (fun _=>rfl),by omega,fun i h1 h2=>by congr 1; omega⟩
  ·simp only [hless,decide_false,Bool.false_eq_true,if_false]
   refine wpS_bind (jx T hB' (by omega) (by omega) ?_)
   by_cases hlarger:KA κ (arrOf st') (lo+x-1)<KA κ (arrOf st') (lo+x)
   ·simp only [hlarger,decide_true,if_true]
    exact wpS_pure (h x neq st' hB' hax (by omega) hs' hq he)
   ·simp only [hlarger,decide_false,Bool.false_eq_true,if_false]
    have heqx:KA κ (arrOf st') (lo+x)=KA κ (arrOf st') (lo+x-1):=by omega
    refine wpS_pure ⟨neq+1,rfl,hB',fun i j hij hj=>?_,by omega,fun i h1 h2=>?_⟩
    ·by_cases hjx:j<x
     ·exact hs' i j hij hjx
     ·have hj':j=x:=by omega
      subst hj'
      by_cases hi':i=j
      ·subst hi'; exact Int.le_refl _
      ·rw [heqx,e1]; exact hs' i (j-1) (by omega) (by omega)
    ·rw [show lo+(x+1)-1=lo+x by omega]
     by_cases hix:i=lo+x
     ·subst hix; rfl
     ·rw [heqx]; exact he i (by omega) (by omega)
theorem i3 (T:dJ M A E s kd κ S) {n nrem:Nat} {Q:Option Nat->SortSt->Prop} (hn:lo+nrem<=(arrOf st0).size) (hnn:n+1<=nrem) (hB:SB S kd lo st0 st) (hs:kT κ (arrOf st) lo (n+1))
  (h:∀ m st',SB S kd lo st0 st'->1<=m->m<=nrem->nD κ (arrOf st') lo m->Q (some m) st'):wpS M A E s (gL lo n nrem) Q st:=by
 unfold gL
 refine wpS_bind (wpS_lift (wpAny_rule ⟨rfl,?_⟩))
 refine wpS_bind (vI T hn (by omega) hnn hB hs fun m neq st' hB' hm1 hm2 hs' hq he=>?_)
 dsimp only
 have hsz:lo+m<=(arrOf st').size:=by rw [hB'.size]; omega
 by_cases hneq:neq>0
 ·rw [if_pos hneq]
  refine wpS_bind (lK (mf T hn (by omega) hm2 (hB'.setArr (mirror_perm _ _ _ _) (g7 hsz (by omega))) ?_ h))
  intro i j hij hj
  show KA κ (mirror (arrOf st') _ _ _) (lo+j)<=KA κ (mirror (arrOf st') _ _ _) (lo+i)
  rw [cN hsz he,cN hsz he]
  exact hs' i j hij hj
 ·rw [if_neg hneq]
  exact mf T hn (by omega) hm2 hB' hs' h
theorem zG (T:dJ M A E s kd κ S) {nrem:Nat} {Q:Option Nat->SortSt->Prop} (hn:lo+nrem<=(arrOf st0).size) (h1:1<=nrem) (hB:SB S kd lo st0 st)
  (h:∀ m st',SB S kd lo st0 st'->1<=m->m<=nrem->nD κ (arrOf st') lo m->Q (some m) st'):wpS M A E s (countRun' lo nrem) Q st:=by
 rw [qi]
 refine wpS_bind (qJ T hn (Nat.le_refl 1) h1 hB (fun i j hij hj=>by rw [show i=j by omega]; exact Int.le_refl _) fun n hn1 hn2 hsn hor=>?_)
 dsimp only
 by_cases hnn:n=nrem
 ·rw [if_pos (by simpa using hnn)]
  exact wpS_pure (h n st hB hn1 hn2 hsn)
 ·rw [if_neg (by simpa using hnn)]
  have hlt:KA κ (arrOf st) (lo+n)<KA κ (arrOf st) (lo+(n-1)):=by
   have:=hor.resolve_left hnn
   rwa [show lo+n-1=lo+(n-1) by omega] at this
  by_cases hgt:n>1
  ·rw [if_pos hgt]
   refine wpS_bind (jx T hB (by omega) (by omega) ?_)
   by_cases hrose:KA κ (arrOf st) lo<KA κ (arrOf st) (lo+n-1)
   ·simp only [hrose,decide_true,if_true]
    exact wpS_pure (h n st hB hn1 hn2 hsn)
   ·simp only [hrose,decide_false,Bool.false_eq_true,if_false]
    have hsz:lo+n<=(arrOf st).size:=by rw [hB.size]; omega
    have hall:∀ k,k<n->KA κ (arrOf st) (lo+k)=KA κ (arrOf st) (lo+n-1):=by
     intro k hk
     have a1:=hsn 0 k (by omega) hk
     have a2:=hsn k (n-1) (by omega) (by omega)
     rw [Nat.add_zero] at a1
     rw [show lo+n-1=lo+(n-1) by omega] at hrose ⊢
     omega
    have hall':∀ k,lo<=k->k<lo+n->KA κ (arrOf st) k=KA κ (arrOf st) (lo+n-1):=fun k k1 k2=>by
     have:=hall (k-lo) (by omega)
     rwa [show lo+(k-lo)=k by omega] at this
    refine wpS_bind (lK (i3 T hn (by omega) (hB.setArr (mirror_perm _ _ _ _) (g7 hsz (Nat.le_refl _))) ?_ h))
    intro i j hij hj
    show KA κ (mirror (arrOf st) _ _ _) (lo+j)<=KA κ (mirror (arrOf st) _ _ _) (lo+i)
    rw [cN hsz hall',cN hsz hall']
    by_cases hjn:j<n
    ·rw [hall i (by omega),hall j hjn]; exact Int.le_refl _
    ·have hj':j=n:=by omega
     subst hj'
     by_cases hi':i=j
     ·subst hi'; exact Int.le_refl _
     ·rw [hall i (by omega),show lo+j-1=lo+(j-1) by omega]; exact Int.le_of_lt hlt
  ·rw [if_neg hgt]
   have hn1':n=1:=by omega
   subst hn1'
   refine i3 T hn (by omega) hB ?_ h
   intro i j hij hj
   by_cases hi':i=j
   ·subst hi'; exact Int.le_refl _
   ·have hi0:i=0:=by omega
    have hj1:j=1:=by omega
    subst hi0; subst hj1
    exact Int.le_of_lt hlt
end
end VL
namespace VL
open PySem PySem.Spec PyProof.Rows
noncomputable def kx:Nat->List (List Keyed)->List (Nat×Nat)
 | _,[]=>[]
 | o,g::gs=>(o,g.length)::kx (o+g.length) gs
theorem jC:∀ (A B:List (List Keyed)) (o:Nat),kx o (A++B)=kx o A++kx (o+A.flatten.length) B
 | [],B,o=>by simp [kx]
 | g::A,B,o=>by
  rw [List.cons_append,kx,kx,jC A B,List.flatten_cons,List.length_append,Nat.add_assoc]; rfl
theorem mw:∀ (A:List (List Keyed)) (o:Nat),(kx o A).length=A.length
 | [],_=>rfl
 | g::A,o=>by rw [kx,List.length_cons,List.length_cons,mw A]
section
variable {M:Model} {A:Around} {E:Value->Shared->Prop} {s:Shared} {κ:Keyed->Int} {S:Keyed->Prop} {kd:SortKind} {all:List Keyed}
structure RS (κ:Keyed->Int) (S:Keyed->Prop) (kd:SortKind) (all:List Keyed) (st:SortSt) (segs:List (List Keyed)) (rest:List Keyed):Prop where
 arr:(arrOf st).toList=segs.flatten++rest
 tl:(pendingOf st).toList.map (fun e=>(e.1,e.2.1))=kx 0 segs
 asc:∀ g∈segs,Asc κ g
 ne:∀ g∈segs,g≠[]
 kind:kindOf st=kd
 failed:failedOf st=none
 perm:(arrOf st).toList.Perm all
 sall:∀ x∈all,S x
theorem RS.size {st:SortSt} {segs:List (List Keyed)} {rest:List Keyed} (h:RS κ S kd all st segs rest):(pendingOf st).size=segs.length:=by
 have:=congrArg List.length h.tl
 rw [List.length_map,Array.length_toList,mw] at this
 exact this
theorem Ea {α:Type} {l:List α} {i:Nat} (h:i+1<l.length):∃ A x y B,l=A++x::y::B/\A.length=i:=
 ⟨l.take i,l[i],l[i+1],l.drop (i+2),by
  conv=>lhs; rw [<- List.take_append_drop i l]
  rw [List.drop_eq_getElem_cons (by omega),List.drop_eq_getElem_cons h],by rw [List.length_take]; omega⟩
theorem mh (T:dJ M A E s kd κ S) {st:SortSt} {segs:List (List Keyed)} {rest:List Keyed} {i:Nat} {Q:Bool->SortSt->Prop} (h:RS κ S kd all st segs rest) (hi:i+1<segs.length)
  (q:∀ st' segs',RS κ S kd all st' segs' rest->segs'.length+1=segs.length->segs'.flatten.length=segs.flatten.length->Q true st'):wpS M A E s (mergeAt' i) Q st:=by
 obtain ⟨S1,g1,g2,S2,rfl,e⟩:=Ea hi
 have ha:(arrOf st).toList=S1.flatten++(g1++(g2++(S2.flatten++rest))):=by rw [h.arr]; simp [List.append_assoc]
 have ht:=h.tl
 rw [jC] at ht
 simp only [kx,Nat.zero_add] at ht
 obtain ⟨P1,P2,ep,e1,e2⟩:=List.map_eq_append_iff.mp ht
 obtain ⟨⟨a1,a2,pw⟩,P3,rfl,f1,e3⟩:=List.map_eq_cons_iff.mp e2
 obtain ⟨⟨b1,b2,pw2⟩,P4,rfl,f2,e4⟩:=List.map_eq_cons_iff.mp e3
 simp only [Prod.mk.injEq] at f1 f2
 obtain ⟨rfl,rfl⟩:=f1
 obtain ⟨rfl,rfl⟩:=f2
 have lP:P1.length=i:=by
  have:=congrArg List.length e1
  rw [List.length_map,mw] at this
  omega
 have p1:(pendingOf st)[i]? = some (S1.flatten.length,g1.length,pw):=by
  rw [<- Array.getElem?_toList,ep,List.getElem?_append_right (by omega),lP,Nat.sub_self]; rfl
 have p2:(pendingOf st)[i+1]? = some (S1.flatten.length+g1.length,g2.length,pw2):=by
  rw [<- Array.getElem?_toList,ep,List.getElem?_append_right (by omega),lP,show i+1-i=1 by omega]; rfl
 refine zE T h.kind h.failed ha (h.asc _ (by simp)) (h.asc _ (by simp)) (h.ne _ (by simp)) (h.ne _ (by simp)) (fun x hx=>h.sall x (h.perm.mem_iff.mp (by rw [ha]; simp at hx ⊢; rcases hx with hx | hx <;> simp [hx]))) p1 p2 fun st' g gp ga ea ek ef epd=>?_
 have lg:g.length=g1.length+g2.length:=by rw [gp.length_eq,List.length_append]
 refine q st' (S1++g::S2) ⟨by rw [ea]; simp [List.append_assoc],?_,fun x hx=>?_,fun x hx=>?_,ek,ef,?_,h.sall⟩ (by simp; omega) (by simp [lg]; omega)
 ·rw [epd,Array.toList_eraseIdxIfInBounds,Array.toList_setIfInBounds,ep,<- lP]
  have t1:(P1++(S1.flatten.length,g1.length,pw)::(S1.flatten.length+g1.length,g2.length,pw2)::P4).set P1.length (S1.flatten.length,g1.length+g2.length,pw)=P1++(S1.flatten.length,g1.length+g2.length,pw)::(S1.flatten.length+g1.length,g2.length,pw2)::P4:=by simp
  rw [t1]
  have t2:(P1++(S1.flatten.length,g1.length+g2.length,pw)::(S1.flatten.length+g1.length,g2.length,pw2)::P4).eraseIdx (P1.length+1)=P1++(S1.flatten.length,g1.length+g2.length,pw)::P4:=by
   rw [List.eraseIdx_append_of_length_le (by omega),show P1.length+1-P1.length=1 by omega]; rfl
  rw [t2,List.map_append,e1,List.map_cons,e4,jC,kx,lg,Nat.zero_add,Nat.add_assoc]
 ·rcases List.mem_append.mp hx with hx | hx
  ·exact h.asc x (by simp [hx])
  ·rcases List.mem_cons.mp hx with rfl | hx
   ·exact ga
   ·exact h.asc x (by simp [hx])
 ·rcases List.mem_append.mp hx with hx | hx
  ·exact h.ne x (by simp [hx])
  ·rcases List.mem_cons.mp hx with rfl | hx
   ·have:=h.ne g1 (by simp)
    intro z
    subst z
    have:=List.length_pos_iff.mpr this
    simp at lg
    omega
   ·exact h.ne x (by simp [hx])
 ·have hp:=h.perm
  rw [ha] at hp
  rw [ea]
  refine List.Perm.trans ((List.Perm.refl S1.flatten).append ?_) hp
  rw [<- List.append_assoc g1]
  exact gp.append_right _
end
end VL
namespace VL
open PySem PySem.Spec PyProof.Rows
section
variable {M:Model} {A:Around} {E:Value->Shared->Prop} {s:Shared} {κ:Keyed->Int} {S:Keyed->Prop} {kd:SortKind} {all:List Keyed}
theorem uV {st0 st:SortSt} {segs:List (List Keyed)} {rest:List Keyed} {n:Nat} (h:RS κ S kd all st0 segs rest) (hB:SB S kd segs.flatten.length st0 st) (hu:nD κ (arrOf st) segs.flatten.length n) (hn:segs.flatten.length+n<=(arrOf st0).size) :
  ∃ rest',RS κ S kd all st segs rest'/\Asc κ (rest'.take n)/\rest'.length=rest.length:=by
 have hp:(arrOf st).toList.Perm (arrOf st0).toList:=Array.perm_iff_toList_perm.mp hB.perm
 have pre0:∀ lo,(∀ k,k<lo->(arrOf st)[k]? = (arrOf st0)[k]?)->(arrOf st).toList.take lo=(arrOf st0).toList.take lo:=fun lo hq=>by
  apply List.ext_getElem?
  intro k
  by_cases hk:k<lo
  ·rw [List.getElem?_take_of_lt hk,List.getElem?_take_of_lt hk,Array.getElem?_toList,Array.getElem?_toList]
   exact hq k hk
  ·rw [List.getElem?_eq_none (by rw [List.length_take]; omega),List.getElem?_eq_none (by rw [List.length_take]; omega)]
 have pre:(arrOf st).toList.take segs.flatten.length=segs.flatten:=by rw [pre0 _ hB.pre,h.arr,List.take_left]
 have arr:(arrOf st).toList=segs.flatten++(arrOf st).toList.drop segs.flatten.length:=by
  conv=>lhs; rw [<- List.take_append_drop segs.flatten.length (arrOf st).toList,pre]
 have pm:=hp
 rw [arr,h.arr] at pm
 have pr:=(List.perm_append_left_iff _).mp pm
 refine ⟨_,⟨arr,by rw [hB.pend]; exact h.tl,h.asc,h.ne,hB.kind,hB.failed,hp.trans h.perm,h.sall⟩,?_,pr.length_eq⟩
 have get:∀ i,i<n->((arrOf st).toList.drop segs.flatten.length)[i]? = (arrOf st)[segs.flatten.length+i]?:=fun i _=>by rw [List.getElem?_drop,Array.getElem?_toList]
 refine List.pairwise_iff_getElem.mpr fun i j hi hj hij=>?_
 rw [List.length_take] at hi hj
 have:=hu i j (by omega) (by omega)
 unfold KA at this
 rw [<- get i (by omega),<- get j (by omega),List.getElem?_eq_getElem (by omega),List.getElem?_eq_getElem (by omega)] at this
 rw [List.getElem_take,List.getElem_take]
 exact this
theorem RS.push {st:SortSt} {segs:List (List Keyed)} {rest:List Keyed} {n pw:Nat} (h:RS κ S kd all st segs rest) (ha:Asc κ (rest.take n)) (h1:1<=n) (hn:n<=rest.length) :
  RS κ S kd all (setPending st ((pendingOf st).push (segs.flatten.length,n,pw))) (segs++[rest.take n]) (rest.drop n):=by
 have ln:(rest.take n).length=n:=by rw [List.length_take]; omega
 refine ⟨?_,?_,fun g hg=>?_,fun g hg=>?_,h.kind,h.failed,h.perm,h.sall⟩
 ·rw [List.flatten_append,List.append_assoc]
  simp only [List.flatten_cons,List.flatten_nil,List.append_nil]
  rw [List.take_append_drop]
  exact h.arr
 ·show ((pendingOf st).push _).toList.map _=_
  rw [Array.toList_push,List.map_append,h.tl,jC]
  simp [kx,ln]
 ·rcases List.mem_append.mp hg with hg | hg
  ·exact h.asc g hg
  ·rw [List.mem_singleton.mp hg]; exact ha
 ·rcases List.mem_append.mp hg with hg | hg
  ·exact h.ne g hg
  ·rw [List.mem_singleton.mp hg]
   intro z
   rw [z] at ln
   simp at ln
   omega
theorem RS.pow {st:SortSt} {segs:List (List Keyed)} {rest:List Keyed} {pw i:Nat} (h:RS κ S kd all st segs rest):RS κ S kd all (setPending st ((pendingOf st).modify i fun x=>(x.1,x.2.1,pw))) segs rest:=by
 refine ⟨h.arr,?_,h.asc,h.ne,h.kind,h.failed,h.perm,h.sall⟩
 rw [<- h.tl]
 show ((pendingOf st).modify i _).toList.map _=_
 rw [Array.toList_modify]
 apply List.ext_getElem?
 intro k
 rw [List.getElem?_map,List.getElem?_map,List.getElem?_modify]
 cases (pendingOf st).toList[k]? with
 | none=>rfl
 | some x=>
  by_cases e:i=k
  ·simp [e]
  ·simp [e]
noncomputable def oE (size pw:Nat):StateT SortSt Sem (Option Unit×Unit):=
 forIn [0:size] ((none,()):Option Unit×Unit) fun _ _=>do
  let d <- get
  match if (pendingOf d).size>1 then (pendingOf d)[(pendingOf d).size-2]? else none with
  | some (_,_,older)=>
   if older<=pw then pure (ForInStep.done (none,()))
   else do
    let ok <- mergeAt' ((pendingOf d).size-2)
    if (!ok)=true then pure (ForInStep.done (some (),())) else pure (ForInStep.yield (none,()))
  | _=>pure (ForInStep.done (none,()))
theorem jQ (T:dJ M A E s kd κ S) {st:SortSt} {segs:List (List Keyed)} {rest:List Keyed} {size pw:Nat} (r:RS κ S kd all st segs rest) :
  wpS M A E s (oE size pw) (fun c st'=>c=(none,())/\∃ segs',RS κ S kd all st' segs' rest/\segs'.flatten.length=segs.flatten.length) st:=by
 unfold oE
 refine wpS_forRange (I:=fun _ c st'=>c=(none,())/\∃ segs',RS κ S kd all st' segs' rest/\segs'.flatten.length=segs.flatten.length) ?step (fun _ _ h=>h) ⟨rfl,segs,r,rfl⟩
 rintro t c st' _ _ ⟨rfl,segs',r',e'⟩
 refine wpS_bind (wpS_get ?_)
 have hs:=r'.size
 by_cases c1:(pendingOf st').size>1
 ·rw [if_pos c1,Array.getElem?_eq_getElem (by omega)]
  dsimp only
  split
  ·exact wpS_pure ⟨rfl,segs',r',e'⟩
  ·refine wpS_bind (mh T r' (by omega) fun st2 segs2 r2 _ e2=>?_)
   simp only [Bool.not_true,Bool.false_eq_true,if_false]
   exact wpS_pure ⟨rfl,segs2,r2,e2.trans e'⟩
 ·rw [if_neg c1]
  exact wpS_pure ⟨rfl,segs',r',e'⟩
theorem lV {segs:List (List Keyed)} {rest:List Keyed} {n:Nat} {st2:SortSt} {segs2:List (List Keyed)} (r2:RS κ S kd all st2 segs2 rest) (ha:Asc κ (rest.take n)) (h1:1<=n) (hn:n<=rest.length) (e2:segs2.flatten.length=segs.flatten.length):wpS M A E s (do
   modify fun s=>setPending s ((pendingOf s).push (segs.flatten.length,n,0))
   pure (ForInStep.yield ((none:Option Unit),segs.flatten.length+n))) (fun c st'=>∃ segs' rest',c=.yield (none,segs'.flatten.length)/\RS κ S kd all st' segs' rest'/\segs'.flatten.length=segs.flatten.length+n) st2:=by
 have ln:(segs2++[rest.take n]).flatten.length=segs.flatten.length+n:=by
  rw [List.flatten_append,List.length_append,e2]
  simp
  omega
 refine wpS_bind (wpS_modify (wpS_pure ⟨segs2++[rest.take n],rest.drop n,by rw [ln],?_,ln⟩))
 rw [<- e2]
 exact r2.push ha h1 hn
theorem qG (T:dJ M A E s kd κ S) {st:SortSt} {Q:Unit->SortSt->Prop} (hk:kindOf st=kd) (hf:failedOf st=none) (hp:pendingOf st = #[]) (hS:∀ x∈(arrOf st).toList,S x)
  (h:∀ st',(arrOf st').toList.Perm (arrOf st).toList->failedOf st'=none->Asc κ (arrOf st').toList->Q () st'):wpS M A E s sortRuns' Q st:=by
 rw [sortRuns'_eq]
 refine wpS_bind (wpS_get ?_)
 dsimp only
 have r0:RS κ S kd (arrOf st).toList st [] (arrOf st).toList:=⟨rfl,by rw [hp]; rfl,(fun _ z=>nomatch z),(fun _ z=>nomatch z),hk,hf,List.Perm.refl _,hS⟩
 have sz:∀ {st':SortSt} {segs:List (List Keyed)} {rest:List Keyed},RS κ S kd (arrOf st).toList st' segs rest->(arrOf st').size=(arrOf st).size:=fun r=>by
  have:=r.perm.length_eq
  rwa [Array.length_toList,Array.length_toList] at this
 refine wpS_bind (wpS_mono (wpS_forRange (I:=fun t c st'=>∃ segs rest,c=(none,segs.flatten.length)/\RS κ S kd (arrOf st).toList st' segs rest/\t<=segs.flatten.length)
  (Q:=fun c st'=>∃ segs,c.1=none/\RS κ S kd (arrOf st).toList st' segs []) ?step ?fin ⟨[],_,rfl,r0,by simp⟩) ?post)
 case fin=>
  rintro c st' ⟨segs,rest,rfl,r,ht⟩
  have l:=congrArg List.length r.arr
  rw [List.length_append,Array.length_toList,sz r] at l
  have:rest=[]:=List.length_eq_zero_iff.mp (by omega)
  subst this
  exact ⟨segs,rfl,r⟩
 case post=>
  rintro c st' ⟨segs,hc,r⟩
  rw [hc]
  dsimp only
  have nl:segs.length<=(arrOf st).size:=by
   have l:=congrArg List.length r.arr
   rw [List.append_nil,Array.length_toList,sz r] at l
   have:∀ L:List (List Keyed),(∀ g∈L,g≠[])->L.length<=L.flatten.length:=by
    intro L
    induction L with
    | nil=>intro _; simp
    | cons g L ih=>
     intro hg
     have:=ih fun x hx=>hg x (List.mem_cons_of_mem _ hx)
     have:=List.length_pos_iff.mpr (hg g List.mem_cons_self)
     rw [List.flatten_cons,List.length_append,List.length_cons]
     omega
   have:=this segs r.ne
   omega
  refine wpS_bind (wpS_mono (wpS_forRange (I:=fun t c st'=>c=(none,())/\∃ segs,RS κ S kd (arrOf st).toList st' segs []/\(segs.length<=1\/segs.length+t<=(arrOf st).size))
   (Q:=fun c st'=>c=(none,())/\∃ segs,RS κ S kd (arrOf st).toList st' segs []/\segs.length<=1) ?step2 ?fin2 ⟨rfl,segs,r,.inr nl⟩) ?post2)
  case fin2=>
   rintro c st2 ⟨rfl,segs,r,hq⟩
   exact ⟨rfl,segs,r,by omega⟩
  case post2=>
   rintro c st2 ⟨rfl,segs,r,hq⟩
   refine wpS_pure (h st2 r.perm r.failed ?_)
   rw [r.arr,List.append_nil]
   match segs,hq with
   | [],_=>exact List.Pairwise.nil
   | [g],_=>simpa using r.asc g (by simp)
  case step2=>
   rintro t c st2 _ ht ⟨rfl,segs,r,hq⟩
   refine wpS_bind (wpS_get ?_)
   have hs:=r.size
   by_cases c1:(pendingOf st2).size<=1
   ·rw [if_pos c1]
    exact wpS_pure ⟨rfl,segs,r,by omega⟩
   ·rw [if_neg c1]
    have ix:∀ (c:Prop) [Decidable c],(if c then (pendingOf st2).size-2-1 else (pendingOf st2).size-2)+1<segs.length:=fun c _=>by split <;> omega
    refine wpS_bind (mh T r (ix _) fun st3 segs3 r3 e3 _=>?_)
    simp only [Bool.not_true,Bool.false_eq_true,if_false]
    exact wpS_pure ⟨rfl,segs3,r3,by omega⟩
 case step=>
  rintro t c st' _ ht ⟨segs,rest,rfl,r,hl⟩
  dsimp only
  have l:=congrArg List.length r.arr
  rw [List.length_append,Array.length_toList,sz r] at l
  by_cases c1:segs.flatten.length>=(arrOf st).size
  ·rw [if_pos c1]
   have:rest=[]:=List.length_eq_zero_iff.mp (by omega)
   subst this
   exact wpS_pure ⟨segs,rfl,r⟩
  rw [if_neg c1]
  have b0:SB S kd segs.flatten.length st' st':=⟨Array.Perm.refl _,fun _ _=>rfl,r.kind,r.failed,rfl,rfl,fun x hx=>hS x (r.perm.mem_iff.mp hx)⟩
  refine wpS_bind (zG T (by rw [sz r]; omega) (by omega) b0 fun m st2 b2 m1 m2 u2=>?_)
  dsimp only
  by_cases c2:m<minRun' (arrOf st).size (arrOf st).size 0
  ·rw [if_pos c2]
   refine wpS_bind (wpS_lift (wpAny_rule ⟨rfl,?_⟩))
   refine wpS_bind (zH T (by rw [sz r]; omega) (by omega) b2 u2 fun st3 b3 u3=>?_)
   simp only [Bool.not_true,Bool.false_eq_true,if_false]
   obtain ⟨rest',r3,a3,l3⟩:=uV r b3 u3 (by rw [sz r]; omega)
   refine wpS_mono (Q:=fun c st'=>∃ segs' rest',c=.yield (none,segs'.flatten.length)/\RS κ S kd (arrOf st).toList st' segs' rest'/\segs'.flatten.length=segs.flatten.length+(min ((arrOf st).size-segs.flatten.length) (minRun' (arrOf st).size (arrOf st).size 0))) ?_ ?_
   ·refine wpS_bind (wpS_get ?_)
    cases e:(pendingOf st3).back? with
    | none=>exact lV r3 a3 (by omega) (by omega) rfl
    | some x=>
     obtain ⟨s1,n1,p1⟩:=x
     dsimp only
     refine wpS_bind (wpS_mono (jQ (size:=(arrOf st).size) (pw:=power' (arrOf st).size (2*s1+n1) (2*s1+n1+n1+(min ((arrOf st).size-segs.flatten.length) (minRun' (arrOf st).size (arrOf st).size 0))) (arrOf st).size) T r3) ?_)
     rintro c st5 ⟨rfl,segs5,r5,e5⟩
     dsimp only
     exact wpS_bind (wpS_modify (lV r5.pow a3 (by omega) (by omega) e5))
   ·rintro c st4 ⟨segs',rest2,rfl,r4,e4⟩
    exact ⟨segs',rest2,rfl,r4,by omega⟩
  ·rw [if_neg c2]
   obtain ⟨rest',r3,a3,l3⟩:=uV r b2 u2 (by rw [sz r]; omega)
   refine wpS_mono (Q:=fun c st'=>∃ segs' rest',c=.yield (none,segs'.flatten.length)/\RS κ S kd (arrOf st).toList st' segs' rest'/\segs'.flatten.length=segs.flatten.length+m) ?_ ?_
   ·refine wpS_bind (wpS_get ?_)
    cases e:(pendingOf st2).back? with
    | none=>exact lV r3 a3 m1 (by omega) rfl
    | some x=>
     obtain ⟨s1,n1,p1⟩:=x
     dsimp only
     refine wpS_bind (wpS_mono (jQ (size:=(arrOf st).size) (pw:=power' (arrOf st).size (2*s1+n1) (2*s1+n1+n1+m) (arrOf st).size) T r3) ?_)
     rintro c st5 ⟨rfl,segs5,r5,e5⟩
     dsimp only
     exact wpS_bind (wpS_modify (lV r5.pow a3 m1 (by omega) e5))
   ·rintro c st4 ⟨segs',rest2,rfl,r4,e4⟩
    exact ⟨segs',rest2,rfl,r4,by omega⟩
end
end VL
namespace VL
open PySem PySem.Spec PyProof.Rows L2
section
variable {prog:Program} {w:World} {A:Around} {E:Value->Shared->Prop} {s:Shared}
theorem i9 {a:Addr} {vs:List Value} {n:Nat} {P:PySem.Fin->Shared->Prop} {kd:SortKind} {κ:Keyed->Int} {S:Keyed->Prop} (ho:s.heap.get? a=some (seqObj "list" vs.toArray n)) (PA:Heap->Prop) (x:PA s.heap) (keeps:∀ h h':Heap,PA h->(∀ b o,o.cls=.type "tuple" -> h.get? b=some o->h'.get? b=some o)->PA h')
  (kindw:2<=vs.length->∀ s':Shared,PA s'.heap->∀ Q:SortKind->Shared->Prop,Q kd s'->wpAny (model prog w) A (keyKind' vs.toArray) Q E s') (T:∀ s':Shared,PA s'.heap->dJ (model prog w) A E s' kd κ S) (hS:∀ v∈vs,S (v,v)) (hz:vs.length<=sizeLine)
  (h:∀ out:List Value,out.Perm vs->(out.Pairwise fun x y=>κ (x,x) <= κ (y,y))->P (.done (.ret .none)) { s with heap:=sortedHeap s.heap a vs out.toArray }) :
  wpAny (model prog w) A (Builtin.«list.sort» ⟨[.ref a],[]⟩) P E s:=by
 rw [list_sort_plain]
 have ha:a<s.heap.objs.size:=Heap.lt_size ho
 refine wpAny_bind (listItems_at ho rfl ?_)
 refine wpAny_bind (listUpdate_at ho rfl ?_)
 obtain ⟨e1,ho1⟩:∃ e1,(s.heap.update a (Obj.mapSeq fun _=>#[])).get? a=some (seqObj "list" #[] e1):=⟨_,get?_update_seq ho (fun _=>#[])⟩
 refine wpAny_bind (seqEpoch_at ho1 rfl ?_)
 refine wpAny_bind (wpAny_newTuple ?_)
 refine wpAny_bind (wpAny_newList ?_)
 refine wpAny_holding ?_
 have ho6:(((s.heap.update a (Obj.mapSeq fun _=>#[])).push (seqObj "tuple" vs.toArray 0)).push (seqObj "list" #[] 0)).get? a=some (seqObj "list" #[] e1):=Heap.get?_push_of_some _ (Heap.get?_push_of_some _ ho1)
 have kp:∀ b o,o.cls=.type "tuple" -> s.heap.get? b=some o->(((s.heap.update a (Obj.mapSeq fun _=>#[])).push (seqObj "tuple" vs.toArray 0)).push (seqObj "list" #[] 0)).get? b=some o:=fun b o hc eo=>by
  have hb:b≠a:=fun z=>by
   subst z
   rw [ho] at eo
   cases eo
   exact absurd hc (by intro z; injection z with z; exact absurd z (by decide))
  exact Heap.get?_push_of_some _ (Heap.get?_push_of_some _ (iH hb eo))
 have x6:=keeps _ _ x kp
 show wpAny (model prog w) A _ P E { s with heap:=((s.heap.update a (Obj.mapSeq fun _=>#[])).push (seqObj "tuple" vs.toArray 0)).push (seqObj "list" #[] 0) }
 dsimp only
 have fin:∀ st':SortSt,(arrOf st').toList.Perm (pairsOf vs).toList->failedOf st'=none->Asc κ (arrOf st').toList ->
   wpAny (model prog w) A (do
    let sorted:=(arrOf st').map (·.2)
    let touched:=(<- seqEpoch a) != e1
    Builtin.List.listUpdate (.ref a) fun _=>sorted
    if let some e:=failedOf st' then rule "list.sort.comparison-raised"; throw e
    if touched then rule "list.sort.modified"; raiseError "ValueError" "list modified during sort"
    ret .none) P E { s with heap:=((s.heap.update a (Obj.mapSeq fun _=>#[])).push (seqObj "tuple" vs.toArray 0)).push (seqObj "list" #[] 0) }:=fun st' hp hf hs=>by
  have hm:∀ p∈(arrOf st').toList,p=(p.2,p.2):=fun p hq=>by
   have:=hp.mem_iff.mp hq
   rw [pairsOf_toList] at this
   exact Prod.ext (mem_zip_self this).1 rfl
  have e2:((arrOf st').map (·.2)).toList=(arrOf st').toList.map (·.2):=Array.toList_map
  have pm:((arrOf st').toList.map (·.2)).Perm vs:=by
   have:=hp.map (·.2)
   rw [pairsOf_toList,List.map_snd_zip (Nat.le_refl _)] at this
   exact this
  have hsz:((arrOf st').map (·.2)).size=vs.length:=by rw [<- Array.length_toList,e2,pm.length_eq]
  refine wpAny_bind (seqEpoch_at ho6 rfl ?_)
  refine wpAny_bind (listUpdate_at ho6 rfl ?_ (hsz2:=by rw [hsz]; exact Nat.le_succ_of_le hz))
  rw [hf]
  simp only [bne_self_eq_false,Bool.false_eq_true,if_false]
  have ea:(arrOf st').map (·.2)=((arrOf st').toList.map (·.2)).toArray:=by rw [<- e2]
  refine wpAny_pure ?_
  have hh:=h ((arrOf st').toList.map (·.2)) pm ?_
  ·rw [<- ea] at hh
   exact hh
  ·rw [List.pairwise_map]
   refine List.Pairwise.imp_of_mem ?_ hs
   intro p q hp' hq' hle
   rw [hm p hp',hm q hq'] at hle
   exact hle
 by_cases h2:vs.toArray.size<2
 ·rw [if_pos h2,if_pos h2]
  refine wpAny_bind (wpAny_pure ?_)
  rw [StateT.run_pure]
  refine wpAny_bind (wpAny_pure ?_)
  refine fin (SortSt.mk' general' (vs.toArray.zip vs.toArray) #[] 7 none) (List.Perm.refl _) rfl ?_
  show Asc κ (pairsOf vs).toList
  rw [pairsOf_toList]
  match vs,h2 with
  | [],_=>exact List.Pairwise.nil
  | [v],_=>exact List.pairwise_singleton _ _
  | _::_::_,h2=>simp at h2; omega
 ·rw [if_neg h2,if_neg h2]
  refine wpAny_bind (kindw (by simp at h2; omega) _ x6 _ ?_)
  refine wpAny_bind (wpAny_mono (qG (T _ x6) (st:=SortSt.mk' kd (vs.toArray.zip vs.toArray) #[] 7 none)
   (Q:=fun _ st'=>(arrOf st').toList.Perm (pairsOf vs).toList/\failedOf st'=none/\Asc κ (arrOf st').toList) rfl rfl rfl (fun p hp=>?_) fun st' a1 a2 a3=>⟨a1,a2,a3⟩) ?_ fun _ _ e=>e)
  ·have hp:p∈(pairsOf vs).toList:=hp
   rw [pairsOf_toList] at hp
   obtain ⟨q1,q2⟩:=mem_zip_self hp
   have:p=(p.1,p.1):=Prod.ext rfl q1.symm
   rw [this]
   exact hS _ q2
  ·rintro ⟨⟨⟩,st'⟩ s' ⟨rfl,hp,hf,hs⟩
   exact fin st' hp hf hs
theorem tG:dJ (model prog w) A E s oneType' (fun p=>numOf p.1) (fun p=>∃ n t,p.1=Value.int n t):=fun x y hx hy st Q ek q=>by
 obtain ⟨n,t,e1⟩:=hx
 obtain ⟨m,u,e2⟩:=hy
 rw [lt'_eq]
 refine wpS_bind (wpS_get ?_)
 rw [ek,keyLt'_oneType,e1,e2]
 have q:Q (some (decide (numOf x.1<numOf y.1))) st:=q
 rw [e1,e2] at q
 exact wpS_bind (wpS_lift (wpAny_attempt (oneLt_int ⟨rfl,wpS_pure q⟩)))
theorem mW {a:Addr} {vs:List Value} {ns:List Int} {n:Nat} {P:PySem.Fin->Shared->Prop} (ho:s.heap.get? a=some (seqObj "list" vs.toArray n)) (hI:IntsAre vs ns) (hz:vs.length<=sizeLine)
  (h:∀ (out:Array Value) (ns':List Int),IntsAre out.toList ns'->ns'.Perm ns->ns'.Pairwise (· <= ·)->P (.done (.ret .none)) { s with heap:=sortedHeap s.heap a vs out }) :
  wpAny (model prog w) A (Builtin.«list.sort» ⟨[.ref a],[]⟩) P E s:=by
 refine i9 (kd:=oneType') (κ:=fun p=>numOf p.1) (S:=fun p=>∃ n t,p.1=Value.int n t) ho (fun _=>True) trivial (fun _ _ _ _=>trivial) (fun h2 s' _ Q q=>?_) (fun _ _=>tG) (fun v hv=>hI.all v hv) hz fun out pm hs=>?_
 ·obtain ⟨v₁,v₂,rest,rfl⟩:∃ v₁ v₂ rest,vs=v₁ :: v₂ :: rest:=by
   match vs,h2 with
   | v₁ :: v₂ :: rest,_=>exact ⟨v₁,v₂,rest,rfl⟩
  rw [keyKind_ints hI]
  exact wpAny_pure q
 ·refine h out.toArray (out.map numOf) (intsAre_map out fun v hv=>hI.all v (pm.mem_iff.mp hv)) ?_ ?_
  ·have:=pm.map numOf
   rwa [hI.nums] at this
  ·rw [List.pairwise_map]; exact hs
end
end VL
namespace VL
open PySem PySem.Spec PyProof.Rows L2
noncomputable def ij:bi->bi->Bool
 | .inl a,.inl b=>decide (a<b)
 | .inr a,.inr b=>decide (a.cps.toList<b.cps.toList)
 | .inl _,.inr _=>true
 | .inr _,.inl _=>false
noncomputable def eR:List bi->List bi->Bool
 | [],[]=>false
 | [],_::_=>true
 | _::_,[]=>false
 | a::r,b::t=>if a=b then eR r t else ij a b
noncomputable def wA (x:List bi):List (List bi)->List (List bi)
 | []=>[x]
 | y::r=>if eR y x then y::wA x r else x::y::r
noncomputable def eS:List (List bi)->List (List bi)
 | []=>[]
 | x::r=>wA x (eS r)
noncomputable def yk:List D->Option (List bi)
 | []=>some []
 | d::r=>(sj d).bind fun k=>(yk r).bind fun l=>some (k::l)
noncomputable def FZ:D->Option (List bi)
 | .tuple ds=>yk ds
 | _=>none
noncomputable def sh:List D->Option (List (List bi))
 | []=>some []
 | d::r=>(FZ d).bind fun k=>(sh r).bind fun l=>some (k::l)
noncomputable def Ew:bi->Bool
 | .inl _=>true
 | .inr _=>false
noncomputable def jD:List bi->Bool
 | .inr _::r=>r.all Ew
 | _=>false
noncomputable def sX:List bi->Bool
 | .inl _::r=>r.all Ew
 | _=>false
noncomputable def dc (d:D):Option D:=(cY d).bind fun ds=>match uh ds with
 | some l=>some (.list ((hG l).map .int))
 | none=>(sh ds).bind fun ks=>if ks.all jD||ks.all sX then some (.list ((eS ks).map fun k=>.tuple (k.map jb))) else none
theorem str_eq {x y:Str} (h:x.cps.toList=y.cps.toList):x=y:=by
 cases x; cases y
 simp only [Str.mk.injEq]
 exact Array.toList_inj.mp h
theorem wu (a:bi):ij a a=false:=by
 cases a with
 | inl a=>simp [ij]
 | inr a=>simp [ij,List.lt_irrefl]
theorem wt (a b:bi) (h:a≠b):ij a b=!ij b a:=by
 cases a with
 | inl a=>
  cases b with
  | inl b=>
   have:a≠b:=fun z=>h (by rw [z])
   simp only [ij]
   rcases Int.lt_trichotomy a b with q | q | q
   ·rw [decide_eq_true q,decide_eq_false (by omega)]; rfl
   ·exact absurd q this
   ·rw [decide_eq_false (by omega),decide_eq_true q]; rfl
  | inr b=>rfl
 | inr a=>
  cases b with
  | inl b=>rfl
  | inr b=>
   have:a.cps.toList≠b.cps.toList:=fun z=>h (by rw [str_eq z])
   simp only [ij]
   by_cases q:a.cps.toList<b.cps.toList
   ·rw [decide_eq_true q,decide_eq_false (List.lt_asymm q)]; rfl
   ·rw [decide_eq_false q]
    have q:=List.not_lt.mp q
    rcases List.le_iff_lt_or_eq.mp q with q | q
    ·rw [decide_eq_true q]; rfl
    ·exact absurd q.symm this
theorem yl {a b c:bi} (h1:ij a b=true) (h2:ij b c=true):ij a c=true:=by
 cases a <;> cases b <;> cases c <;> simp only [ij,decide_eq_true_eq,Bool.false_eq_true] at h1 h2 ⊢
 ·omega
 ·exact List.lt_trans h1 h2
theorem mX:∀ a:List bi,eR a a=false
 | []=>rfl
 | x::r=>by simp [eR,mX r]
theorem jT:∀ (a b:List bi),a≠b->eR a b=!eR b a
 | [],[],h=>absurd rfl h
 | [],_::_,_=>rfl
 | _::_,[],_=>rfl
 | x::r,y::t,h=>by
  by_cases e:x=y
  ·subst e
   simp only [eR,if_true]
   exact jT r t fun z=>h (by rw [z])
  ·simp only [eR]
   rw [if_neg e,if_neg (Ne.symm e)]
   exact wt x y e
theorem jU:∀ {a b c:List bi},eR a b=true->eR b c=true->eR a c=true
 | [],[],_,h,_=>by cases h
 | [],_::_,[],_,h=>by cases h
 | [],_::_,_::_,_,_=>rfl
 | _::_,[],_,h,_=>by cases h
 | _::_,_::_,[],_,h=>by cases h
 | x::r,y::t,z::u,h1,h2=>by
  simp only [eR] at h1 h2 ⊢
  by_cases e:x=y
  ·subst e
   rw [if_pos rfl] at h1
   by_cases e2:x=z
   ·subst e2
    rw [if_pos rfl] at h2 ⊢
    exact jU h1 h2
   ·rw [if_neg e2] at h2 ⊢
    exact h2
  ·rw [if_neg e] at h1
   by_cases e2:y=z
   ·subst e2
    rw [if_neg e]
    exact h1
   ·rw [if_neg e2] at h2
    have h3:=yl h1 h2
    by_cases e3:x=z
    ·subst e3
     rw [wu] at h3
     cases h3
    ·rw [if_neg e3]; exact h3
def r6 (a b:List bi):Prop:=eR b a=false
theorem yb {a b:List bi} (h1:r6 a b) (h2:r6 b a):a=b:=by
 by_cases e:a=b
 ·exact e
 ·have:=jT a b e
  unfold r6 at h1 h2
  rw [h1,h2] at this
  cases this
theorem Dm {a b c:List bi} (h1:r6 a b) (h2:r6 b c):r6 a c:=by
 unfold r6 at *
 cases h:eR c a with
 | false=>rfl
 | true=>
  by_cases e:b=c
  ·subst e; rw [h] at h1; cases h1
  ·have:=jT b c e
   rw [h2] at this
   rw [jU (by simpa using this) h] at h1
   cases h1
theorem kJ (x:List bi):∀ l,(wA x l).Perm (x::l)
 | []=>.refl _
 | y::r=>by
  unfold wA
  split
  ·exact ((kJ x r).cons y).trans (.swap x y r)
  ·exact .refl _
theorem gj:∀ l,(eS l).Perm l
 | []=>.refl _
 | x::r=>(kJ x _).trans ((gj r).cons x)
theorem ve (x:List bi):∀ l,l.Pairwise r6->(wA x l).Pairwise r6
 | [],_=>List.pairwise_singleton _ _
 | y::r,h=>by
  unfold wA
  obtain ⟨h1,h2⟩:=List.pairwise_cons.mp h
  split
  ·rename_i q
   refine List.pairwise_cons.mpr ⟨fun z hz=>?_,ve x r h2⟩
   rcases List.mem_cons.mp ((kJ x r).mem_iff.mp hz) with rfl | hz
   ·unfold r6
    cases e:eR z y with
    | false=>rfl
    | true=>
     have:=jU q e
     rw [mX] at this
     cases this
   ·exact h1 z hz
  ·rename_i q
   have q:r6 x y:=by simpa [r6] using q
   refine List.pairwise_cons.mpr ⟨fun z hz=>?_,h⟩
   rcases List.mem_cons.mp hz with rfl | hz
   ·exact q
   ·exact Dm q (h1 z hz)
theorem kI:∀ l,(eS l).Pairwise r6
 | []=>.nil
 | x::r=>ve x _ (kI r)
theorem kU:∀ {a b:List (List bi)},a.Perm b->a.Pairwise r6->b.Pairwise r6->a=b
 | [],b,p,_,_=>(List.nil_perm.mp p).symm
 | x::r,[],p,_,_=>absurd p.length_eq (by simp)
 | x::r,y::t,p,h1,h2=>by
  obtain ⟨a1,a2⟩:=List.pairwise_cons.mp h1
  obtain ⟨b1,b2⟩:=List.pairwise_cons.mp h2
  have e:x=y:=by
   rcases List.mem_cons.mp (p.mem_iff.mp (List.mem_cons_self (a:=x) (l:=r))) with e | e
   ·exact e
   ·rcases List.mem_cons.mp (p.mem_iff.mpr (List.mem_cons_self (a:=y) (l:=t))) with f | f
    ·exact f.symm
    ·exact yb (a1 y f) (b1 x e)
  subst e
  rw [kU ((List.perm_cons x).mp p) a2 b2]
theorem oO {a b:List (List bi)} (p:a.Perm b) (h:a.Pairwise r6):a=eS b:=kU (p.trans (gj b).symm) h (kI b)
theorem m4 {a b:List (List bi)} (p:a.Perm b):eS a=eS b:=oO ((gj a).trans p) (kI a)
end VL
namespace VL
open PySem PySem.Spec PyProof.Rows L2
section
variable {prog:Program} {w:World} {A:Around} {E:Value->Shared->Prop} {s:Shared}
def JA:bi->Value->Prop
 | .inl i,v=>∃ t,v=.int i t
 | .inr x,v=>∃ t,v=.str x t
inductive KVals:List bi->List Value->Prop
 | nil:KVals [] []
 | cons {k v ks vs}:JA k v->KVals ks vs->KVals (k::ks) (v::vs)
theorem KVals.one:∀ {k k':List bi} {vs:List Value},KVals k vs->KVals k' vs->k=k'
 | _,_,_,.nil,.nil=>rfl
 | _,_,_,.cons (k:=a) h1 r1,.cons (k:=b) h2 r2=>by
  have e:=KVals.one r1 r2
  subst e
  cases a <;> cases b <;> obtain ⟨t,rfl⟩:=h1 <;> obtain ⟨u,h2⟩:=h2 <;> first | cases h2; rfl | cases h2
noncomputable def gn:List bi->List bi->Bool
 | a::r,b::t=>if a=b then gn r t else Ew a==Ew b
 | _,_=>true
theorem x9 {fin:Bool} {Q:Bool->Shared->Prop}:∀ {k1 k2:List bi} {xs ys:List Value} {i:Nat},KVals k1 xs->KVals k2 ys->gn k1 k2=true->fin=decide (xs.length<ys.length)->Q (eR k1 k2) s->PySem.W.KatLex prog w A true fin Q (xs.zip ys) i s
 | _,_,_,_,i,.nil,.nil,_,hf,q=>by
  subst hf
  exact PySem.W.kat_nil q
 | _,_,_,_,i,.nil,.cons h r,_,hf,q=>by
  subst hf
  exact PySem.W.kat_nil (by simpa [eR] using q)
 | _,_,_,_,i,.cons h r,.nil,_,hf,q=>by
  subst hf
  rw [List.zip_nil_right]
  exact PySem.W.kat_nil (by simpa [eR] using q)
 | _,_,_,_,i,.cons (k:=a) (vs:=xs) h1 r1,.cons (k:=b) (vs:=ys) h2 r2,hc,hf,q=>by
  have hf:fin=decide (xs.length<ys.length):=by rw [hf]; simp
  rw [List.zip_cons_cons]
  refine PySem.W.kat_cons ?_
  simp only [eR,gn] at q hc
  by_cases e:a=b
  ·subst e
   rw [if_pos rfl] at q hc
   have go:=x9 (i:=i+1) r1 r2 hc hf q
   cases a with
   | inl a=>
    obtain ⟨t,rfl⟩:=h1
    obtain ⟨u,rfl⟩:=h2
    refine SeqAt.EqAt.int_int a t a u _ _ _ _ ?_
    rw [beq_self_eq_true]
    exact PySem.W.kat_yes go
   | inr a=>
    obtain ⟨t,rfl⟩:=h1
    obtain ⟨u,rfl⟩:=h2
    refine SeqAt.EqAt.str_str a t a u _ _ _ _ ?_
    rw [beq_self_eq_true]
    exact PySem.W.kat_yes go
  ·rw [if_neg e] at q hc
   cases a with
   | inl a=>
    cases b with
    | inr b=>cases hc
    | inl b=>
     obtain ⟨t,rfl⟩:=h1
     obtain ⟨u,rfl⟩:=h2
     refine SeqAt.EqAt.int_int a t b u _ _ _ _ ?_
     rw [beq_eq_false_iff_ne.mpr fun z=>e (by rw [z])]
     refine PySem.W.kat_no ?_
     cases i with
     | zero=>exact oneLt_int q
     | succ i=>exact PySem.W.kat_one _ _ (lt_int q)
   | inr a=>
    cases b with
    | inl b=>cases hc
    | inr b=>
     obtain ⟨t,rfl⟩:=h1
     obtain ⟨u,rfl⟩:=h2
     refine SeqAt.EqAt.str_str a t b u _ _ _ _ ?_
     rw [beq_eq_false_iff_ne.mpr fun z=>e (by rw [z])]
     refine PySem.W.kat_no ?_
     cases i with
     | zero=>exact oneLt_str q
     | succ i=>exact PySem.W.kat_one _ _ (lt_str q)
def KAt (h:Heap) (v:Value) (k:List bi):Prop:=∃ b o xs n,v=.ref b/\h.get? b=some o/\o.cls=.type "tuple" /\ o.data=.seq xs n/\KVals k xs.toList
theorem KAt.one {h:Heap} {v:Value} {k k':List bi} (h1:KAt h v k) (h2:KAt h v k'):k=k':=by
 obtain ⟨b,o,xs,n,rfl,e1,e2,e3,e4⟩:=h1
 obtain ⟨b',o',xs',n',q,f1,f2,f3,f4⟩:=h2
 cases q
 rw [e1] at f1
 cases f1
 rw [e3] at f3
 cases f3
 exact e4.one f4
theorem KAt.keeps {h h':Heap} {v:Value} {k:List bi} (x:KAt h v k) (kp:∀ b o,o.cls=.type "tuple" -> h.get? b=some o->h'.get? b=some o):KAt h' v k:=by
 obtain ⟨b,o,xs,n,rfl,e1,e2,e3,e4⟩:=x
 exact ⟨b,o,xs,n,rfl,kp b o e2 e1,e2,e3,e4⟩
theorem CA {x y:Value} {k1 k2:List bi} {Q:Bool->Shared->Prop} (h1:KAt s.heap x k1) (h2:KAt s.heap y k2) (hc:gn k1 k2=true) (q:Q (eR k1 k2) s):wpAny (model prog w) A (keyLt' (tuples' true) x y) Q E s:=by
 obtain ⟨b,o,xs,n,rfl,e1,e2,e3,e4⟩:=h1
 obtain ⟨b',o',xs',n',rfl,f1,f2,f3,f4⟩:=h2
 exact PySem.W.kat_lt e1 e3 f1 f3 (x9 e4 f4 hc (by simp) q)
noncomputable def jL (ks:List (List bi)) (k:List bi):Int:=((ks.filter fun x=>eR x k).length:Nat)
theorem kM {α:Type} {p q:α -> Bool}:∀ (l:List α),(∀ x∈l,p x=true->q x=true)->(l.filter p).length<=(l.filter q).length
 | [],_=>Nat.le_refl _
 | x::l,h=>by
  have ih:=kM l fun y hy=>h y (List.mem_cons_of_mem _ hy)
  have hx:=h x List.mem_cons_self
  rw [List.filter_cons,List.filter_cons]
  cases e:p x with
  | false=>
   rw [if_neg (by simp)]
   split
   ·rw [List.length_cons]; omega
   ·exact ih
  | true=>
   rw [if_pos rfl,if_pos (hx e),List.length_cons,List.length_cons]; omega
theorem oX {α:Type} {p q:α -> Bool}:∀ (l:List α),(∀ x∈l,p x=true->q x=true)->(∃ x∈l,p x=false/\q x=true)->(l.filter p).length<(l.filter q).length
 | [],_,⟨x,hx,_⟩=>by cases hx
 | x::l,h,⟨y,hy,h1,h2⟩=>by
  have ih:=kM l fun y hy=>h y (List.mem_cons_of_mem _ hy)
  have hx:=h x List.mem_cons_self
  rw [List.filter_cons,List.filter_cons]
  rcases List.mem_cons.mp hy with rfl | hy
  ·rw [if_neg (by rw [h1]; simp),if_pos h2,List.length_cons]; omega
  ·have ih:=oX l (fun y hy=>h y (List.mem_cons_of_mem _ hy)) ⟨y,hy,h1,h2⟩
   cases e:p x with
   | false=>
    rw [if_neg (by simp)]
    split
    ·rw [List.length_cons]; omega
    ·exact ih
   | true=>
    rw [if_pos rfl,if_pos (hx e),List.length_cons,List.length_cons]; omega
theorem rf {ks:List (List bi)} {x y:List bi} (hx:x∈ks):decide (jL ks x<jL ks y)=eR x y:=by
 unfold jL
 cases e:eR x y with
 | true=>
  refine decide_eq_true ?_
  exact Int.ofNat_lt.mpr (oX ks (fun z _ hz=>jU hz e) ⟨x,hx,mX x,e⟩)
 | false=>
  refine decide_eq_false ?_
  have:=kM (p:=fun z=>eR z y) (q:=fun z=>eR z x) ks fun z _ hz=>by
   by_cases q:y=x
   ·subst q; exact hz
   ·have:=jT y x q
    rw [e] at this
    exact jU hz this
  omega
open Classical in
noncomputable def ug (h:Heap) (v:Value):List bi:=if q:∃ k,KAt h v k then q.choose else []
theorem p6 {h:Heap} {v:Value} {k:List bi} (x:KAt h v k):ug h v=k:=by
 unfold ug
 have q:∃ k,KAt h v k:=⟨k,x⟩
 rw [dif_pos q]
 exact q.choose_spec.one x
theorem tF {h0:Heap} {ks:List (List bi)} (hc:∀ x∈ks,∀ y∈ks,gn x y=true) (kp:∀ b o,o.cls=.type "tuple" -> h0.get? b=some o->s.heap.get? b=some o) :
  dJ (model prog w) A E s (tuples' true) (fun p=>jL ks (ug h0 p.1)) (fun p=>∃ k∈ks,KAt h0 p.1 k):=fun x y hx hy st Q ek q=>by
 obtain ⟨k1,m1,a1⟩:=hx
 obtain ⟨k2,m2,a2⟩:=hy
 have q:Q (some (decide (jL ks (ug h0 x.1)<jL ks (ug h0 y.1)))) st:=q
 rw [p6 a1,p6 a2,rf m1] at q
 rw [lt'_eq]
 refine wpS_bind (wpS_get ?_)
 rw [ek]
 exact wpS_bind (wpS_lift (wpAny_attempt (CA (a1.keeps kp) (a2.keeps kp) (hc _ m1 _ m2) ⟨rfl,wpS_pure q⟩)))
theorem m6:∀ {a b:List bi},a.all Ew=true->b.all Ew=true->gn a b=true
 | [],_,_,_=>by simp [gn]
 | _::_,[],_,_=>by simp [gn]
 | x::r,y::t,h1,h2=>by
  simp only [List.all_cons,Bool.and_eq_true] at h1 h2
  simp only [gn]
  split
  ·exact m6 h1.2 h2.2
  ·rw [h1.1,h2.1]; rfl
theorem w9 {a b:List bi} (h1:jD a=true) (h2:jD b=true):gn a b=true:=by
 match a,b,h1,h2 with
 | .inr x::r,.inr y::t,h1,h2=>
  simp only [gn]
  split
  ·exact m6 h1 h2
  ·rfl
theorem BM {a b:List bi} (h1:sX a=true) (h2:sX b=true):gn a b=true:=by
 match a,b,h1,h2 with
 | .inl x::r,.inl y::t,h1,h2=>
  simp only [gn]
  split
  ·exact m6 h1 h2
  ·rfl
inductive KAts (h:Heap):List Value->List (List bi)->Prop
 | nil:KAts h [] []
 | cons {v k vs ks}:KAt h v k->KAts h vs ks->KAts h (v::vs) (k::ks)
theorem KAts.keeps {h h':Heap} (kp:∀ b o,o.cls=.type "tuple" -> h.get? b=some o->h'.get? b=some o):∀ {vs:List Value} {ks:List (List bi)},KAts h vs ks->KAts h' vs ks
 | _,_,.nil=>.nil
 | _,_,.cons x r=>.cons (x.keeps kp) (KAts.keeps kp r)
theorem KAts.map {h:Heap}:∀ {vs:List Value} {ks:List (List bi)},KAts h vs ks->vs.map (ug h)=ks
 | _,_,.nil=>rfl
 | _,_,.cons x r=>by rw [List.map_cons,p6 x,KAts.map r]
theorem KAts.mem {h:Heap}:∀ {vs:List Value} {ks:List (List bi)},KAts h vs ks->∀ v∈vs,∃ k∈ks,KAt h v k
 | _,_,.cons (k:=k) x r,v,hv=>by
  rcases List.mem_cons.mp hv with rfl | hv
  ·exact ⟨k,List.mem_cons_self,x⟩
  ·obtain ⟨k',m,y⟩:=KAts.mem r v hv
   exact ⟨k',List.mem_cons_of_mem _ m,y⟩
theorem KAts.of_map {h:Heap}:∀ {vs:List Value},(∀ v∈vs,∃ k,KAt h v k)->KAts h vs (vs.map (ug h))
 | [],_=>.nil
 | v::vs,H=>by
  obtain ⟨k,x⟩:=H v List.mem_cons_self
  rw [List.map_cons,p6 x]
  exact .cons x (KAts.of_map fun u hu=>H u (List.mem_cons_of_mem _ hu))
noncomputable def BQ:Bool->Value
 | true=>.type "str"
 | false=>.type "int"
theorem KAts.tups {h:Heap} {b:Bool}:∀ {vs:List Value} {ks:List (List bi)},KAts h vs ks->(∀ k∈ks,(if b then jD k else sX k)=true)->∃ fs:List Value,fs.length=vs.length/\PySem.W.KatTups h vs fs/\∀ v∈fs,∀ M:Model,PySem.W.Looks M h (typeOf v) (BQ b)
 | _,_,.nil,_=>⟨[],rfl,trivial,fun v h=>by cases h⟩
 | _,_,.cons (k:=k) x r,hk=>by
  obtain ⟨fs,h1,h2,h3⟩:=KAts.tups r fun k' m=>hk k' (List.mem_cons_of_mem _ m)
  obtain ⟨a,o,xs,n,rfl,e1,e2,e3,e4⟩:=x
  have hk:=hk k List.mem_cons_self
  obtain ⟨f,ef,lf⟩:∃ f,xs[0]? = some f/\∀ M:Model,PySem.W.Looks M h (typeOf f) (BQ b):=by
   cases b with
   | true=>
    match k,hk,e4 with
    | .inr y::t,_,e4=>
     generalize exs:xs.toList=l at e4
     cases e4 with
     | cons hv hr=>
      obtain ⟨u,rfl⟩:=hv
      refine ⟨_,by rw [<- Array.getElem?_toList,exs]; rfl,fun M=>PySem.W.Looks.of_pure rfl⟩
   | false=>
    match k,hk,e4 with
    | .inl y::t,_,e4=>
     generalize exs:xs.toList=l at e4
     cases e4 with
     | cons hv hr=>
      obtain ⟨u,rfl⟩:=hv
      refine ⟨_,by rw [<- Array.getElem?_toList,exs]; rfl,fun M=>PySem.W.Looks.of_pure rfl⟩
  refine ⟨f::fs,by rw [List.length_cons,List.length_cons,h1],⟨⟨a,o,xs,n,rfl,e1,e2,e3,ef⟩,h2⟩,fun v hv=>?_⟩
  rcases List.mem_cons.mp hv with rfl | hv
  ·exact lf
  ·exact h3 v hv
theorem vX {α β:Type} {f:α -> β} {R:β -> β -> Prop} {l:List α} (h:l.Pairwise fun x y=>R (f x) (f y)):(l.map f).Pairwise R:=List.pairwise_map.mpr h
theorem mV {a:Addr} {vs:List Value} {ks:List (List bi)} {n:Nat} {P:PySem.Fin->Shared->Prop} (ho:s.heap.get? a=some (seqObj "list" vs.toArray n)) (x:KAts s.heap vs ks) (hk:(ks.all jD||ks.all sX)=true) (hz:vs.length<=sizeLine)
  (h:∀ out:List Value,out.Perm vs->KAts s.heap out (eS ks)->P (.done (.ret .none)) { s with heap:=sortedHeap s.heap a vs out.toArray }) :
  wpAny (model prog w) A (Builtin.«list.sort» ⟨[.ref a],[]⟩) P E s:=by
 have hc:∀ x∈ks,∀ y∈ks,gn x y=true:=fun x hx y hy=>by
  rcases Bool.or_eq_true_iff.mp hk with q | q
  ·exact w9 (List.all_eq_true.mp q x hx) (List.all_eq_true.mp q y hy)
  ·exact BM (List.all_eq_true.mp q x hx) (List.all_eq_true.mp q y hy)
 obtain ⟨b,hb⟩:∃ b:Bool,∀ k∈ks,(if b then jD k else sX k)=true:=by
  rcases Bool.or_eq_true_iff.mp hk with q | q
  ·exact ⟨true,fun k m=>List.all_eq_true.mp q k m⟩
  ·exact ⟨false,fun k m=>List.all_eq_true.mp q k m⟩
 refine i9 (kd:=tuples' true) (κ:=fun p=>jL ks (ug s.heap p.1)) (S:=fun p=>∃ k∈ks,KAt s.heap p.1 k) ho (fun h'=>∀ (b:Addr) (o:Obj),o.cls=.type "tuple" -> s.heap.get? b=some o->h'.get? b=some o) (fun _ _ _ e=>e) (fun h1 h2 (p:∀ (b:Addr) (o:Obj),o.cls=.type "tuple" -> s.heap.get? b=some o->h1.get? b=some o) kp b o (ec:o.cls=.type "tuple") e=>kp b o ec (p b o ec e)) (fun h2 s' kp Q q=>?_) (fun s' kp=>tF hc kp) (fun v hv=>x.mem v hv) hz fun out pm hs=>?_
 ·obtain ⟨fs,f1,f2,f3⟩:=(x.keeps kp).tups hb
  refine PySem.W.kat_kind (T:=BQ b) f2 (by omega) (fun v hv=>f3 v hv _) (by cases b <;> decide) ?_
  have:(BQ b != Value.type "tuple")=true:=by cases b <;> decide
  rw [this]
  exact q
 ·have H:∀ v∈out,∃ k,KAt s.heap v k:=fun v hv=>by
   obtain ⟨k,_,y⟩:=x.mem v (pm.mem_iff.mp hv)
   exact ⟨k,y⟩
  have X:=KAts.of_map H
  have pk:(out.map (ug s.heap)).Perm ks:=by
   have:=pm.map (ug s.heap)
   rwa [x.map] at this
  have e:out.map (ug s.heap)=eS ks:=by
   refine oO pk ?_
   refine vX ?_
   refine List.Pairwise.imp_of_mem ?_ hs
   intro p q hp hq hle
   have m:ug s.heap q∈ks:=pk.mem_iff.mp (List.mem_map.mpr ⟨q,hq,rfl⟩)
   have:=rf (y:=ug s.heap p) m
   unfold r6
   rw [<- this]
   have hle:jL ks (ug s.heap p)<=jL ks (ug s.heap q):=hle
   exact decide_eq_false (by omega)
  rw [e] at X
  exact h out pm X
end
end VL
namespace VL
open PySem PySem.Spec PyProof.Rows L2
section
variable {X:Cx}
noncomputable def ue:bi->V
 | .inl i=>.int i
 | .inr x=>.str x
noncomputable def JT:Value->V
 | .ref b=>.ref b
 | _=>.non
inductive KeyVs (K:Fg) (H:Hp):List V->List (List bi)->Prop
 | nil:KeyVs K H [] []
 | cons {b k vs ks}:SqT K H b (k.map ue)->KeyVs K H vs ks->KeyVs K H (.ref b::vs) (k::ks)
theorem mZ:∀ {k:List bi} {us:List Value},Vals (k.map ue) us->KVals k us
 | [],_,.nil=>.nil
 | .inl i::k,_,.cons h r=>.cons h (mZ r)
 | .inr x::k,_,.cons h r=>.cons h (mZ r)
theorem ym {pins:List (Addr×Obj)} {σ:St} {H:Hp} {s:Shared} (I:Inv X pins σ H s) {b:Addr} {k:List bi} (h:SqT X.K H b (k.map ue)):KAt s.heap (.ref b) k:=by
 obtain ⟨its,r,⟨o,e1,e2,n,e3⟩,z⟩:=I.tuple h
 exact ⟨b,o,its.toArray,n,rfl,e1,e2,e3,by simpa using mZ r⟩
theorem sf {pins:List (Addr×Obj)} {σ:St} {Z H:Hp} {s:Shared} (I:Inv X pins σ H s) (zh:Same Z H):∀ {vs:List V} {ks:List (List bi)} {its:List Value},KeyVs X.K Z vs ks->Vals vs its->KAts s.heap its ks/\∀ u∈its,∃ (b:Addr) (k:List bi),u=.ref b/\SqT X.K Z b (k.map ue)
 | _,_,_,.nil,.nil=>⟨.nil,fun u h=>by cases h⟩
 | _,_,_,.cons (b:=b) (k:=k) h r,.cons hv hr=>by
  obtain ⟨a2,a3⟩:=sf I zh r hr
  have hv:=hv
  cases hv
  refine ⟨.cons (ym I (SqT.same h zh)) a2,fun u hu=>?_⟩
  rcases List.mem_cons.mp hu with rfl | hu
  ·exact ⟨b,k,rfl,h⟩
  ·exact a3 u hu
theorem m3 {pins:List (Addr×Obj)} {σ:St} {Z H:Hp} {s:Shared} (I:Inv X pins σ H s) (zh:Same Z H):∀ {out:List Value} {ks:List (List bi)},KAts s.heap out ks->(∀ u∈out,∃ (b:Addr) (k:List bi),u=.ref b/\SqT X.K Z b (k.map ue))->KeyVs X.K Z (out.map JT) ks/\Vals (out.map JT) out
 | _,_,.nil,_=>⟨.nil,.nil⟩
 | _,_,.cons h r,hs=>by
  obtain ⟨a1,a2⟩:=m3 I zh r fun u hu=>hs u (List.mem_cons_of_mem _ hu)
  obtain ⟨b,k',rfl,q⟩:=hs _ List.mem_cons_self
  have:=h.one (ym I (SqT.same q zh))
  subst this
  exact ⟨.cons q a1,.cons rfl a2⟩
def Hz (K:Fg) (H:Hp) (vs:List V) (P:List V->Prop):Prop:=
 (∃ l:List Int,vs=l.map V.int/\P ((hG l).map V.int))\/∃ ks,KeyVs K H vs ks/\(ks.all jD||ks.all sX)=true/\∀ vs',KeyVs K H vs' (eS ks)->P vs'
theorem tI {pins:List (Addr×Obj)} {σ:St} {H:Hp} {s:Shared} {a:Addr} {vs:List V} {Q:VK} {Z:Hp} (I:Inv X pins σ H s) (zh:Same Z H) (hs:SqL X.K H a vs\/SqT X.K H a vs) (hsrt:Hz X.K Z vs fun vs'=>∀ l,H l=none->Q (.ref l) (upd H l (.lst vs'))) :
  wpAny (model X.prog X.w) X.A (call (.builtin "sorted") [.ref a]) (EP X pins σ Q) X.xe s:=by
 obtain ⟨its,rv,T,o,n,hT,e1,e2,e3,hz⟩:∃ (its:List Value),Vals vs its/\∃ (T:String) (o:Obj) (n:Nat),(T = "list" \/ T = "tuple")/\s.heap.get? a=some o/\o.cls=.type T/\o.data=.seq its.toArray n/\its.length<=sizeLine:=by
  rcases hs with hs | hs
  ·obtain ⟨its,r,⟨o,n,e1,e2,e3,e4⟩,z⟩:=I.list hs
   exact ⟨its,r,"list",o,n,.inl rfl,e1,e2,e4,by rw [<- r.length]; exact z⟩
  ·obtain ⟨its,r,⟨o,e1,e2,n,e3⟩,z⟩:=I.tuple hs
   exact ⟨its,r,"tuple",o,n,.inr rfl,e1,e2,e3,by rw [<- r.length]; exact z⟩
 refine Calls.call_function_entry kind_sorted plain_sorted entry_sorted (args_sorted1 _) ?_
 unfold Builtin.«sorted»
 refine wpAny_bind (m:=checkCount "sorted" 1 1 _) (wpAny_pure ?_)
 refine wpAny_bind (wpAny_collect_seq a hT e1 e2 e3 (fun h' hk'=>?_) (by simpa using hz))
 show wpAny _ _ (newList its >>= _) _ _ { s with heap:=h' }
 refine wpAny_bind (wpAny_newList ?_ hz)
 have hoL:(h'.push (seqObj "list" its.toArray 0)).get? h'.objs.size=some (seqObj "list" its.toArray 0):=Heap.get?_push_size _ rfl
 have I1:Inv X pins σ H { s with heap:=h' }:=I.kept (t':=s.toks) hk'
 have I2:Inv X pins σ H { s with heap:=h'.push (seqObj "list" its.toArray 0) }:=I1.kept (t':=s.toks) fun b o eo=>Heap.get?_push_of_some _ eo
 have fin:∀ (out:List Value) (vs':List V),Vals vs' out->out.length=its.length->(∀ l,H l=none->Q (.ref l) (upd H l (.lst vs')))->EP X pins σ Q (.ref h'.objs.size) { s with heap:=sortedHeap (h'.push (seqObj "list" its.toArray 0)) h'.objs.size its out.toArray }:=fun out vs' r hl q=>by
  have kp:∀ b o,h'.get? b=some o->(sortedHeap (h'.push (seqObj "list" its.toArray 0)) h'.objs.size its out.toArray).get? b=some o:=fun b o eo=>by
   have hb:b≠h'.objs.size:=Nat.ne_of_lt (Heap.lt_size eo)
   exact iH hb (Heap.get?_push_of_some _ (Heap.get?_push_of_some _ (iH hb (Heap.get?_push_of_some _ eo))))
  obtain ⟨e1,ho1⟩:∃ e1,((h'.push (seqObj "list" its.toArray 0)).update h'.objs.size (Obj.mapSeq fun _=>#[])).get? h'.objs.size=some (seqObj "list" #[] e1):=⟨_,get?_update_seq hoL (fun _=>#[])⟩
  have ho2:=Heap.get?_push_of_some (seqObj "list" #[] 0) (Heap.get?_push_of_some (seqObj "tuple" its.toArray 0) ho1)
  have ho3:=get?_update_seq ho2 (fun _=>out.toArray)
  have L:=I1.laid (h':=sortedHeap (h'.push (seqObj "list" its.toArray 0)) h'.objs.size its out.toArray) (a:=h'.objs.size) (o:=.lst vs') (t':=s.toks) kp (Nat.le_refl _)
   (show ObjOk X.prog X.w _ _ _ (.lst vs') from ⟨by rw [r.length,hl]; exact hz,out,_,r,ho3⟩)
  exact ⟨.ref h'.objs.size,_,L,rfl,q _ (I1.hok.fresh (Nat.le_refl _))⟩
 rcases hsrt with ⟨l,rfl,q⟩ | ⟨ks,kv,ok,q⟩
 ·refine wpAny_bind (wpAny_holding (wpAny_call_entry slot_list_sort ⟨_,hoL,rfl⟩ entry_list_sort (mW hoL (je rv) hz fun out ns' a1 a2 a3=>⟨_,rfl,?_⟩) (args_list_sort _)))
  refine wpAny_pure ⟨_,rfl,?_⟩
  have e:=wy a2 a3
  subst e
  have:=fin out.toList _ (gF a1) (by rw [IntsAre.length a1,(iJ l).length_eq]; exact (IntsAre.length (je rv)).symm) q
  simpa using this
 ·obtain ⟨v2,v3⟩:=sf I2 zh kv rv
  refine wpAny_bind (wpAny_holding (wpAny_call_entry slot_list_sort ⟨_,hoL,rfl⟩ entry_list_sort (mV hoL v2 ok hz fun out pm ka=>⟨_,rfl,?_⟩) (args_list_sort _)))
  refine wpAny_pure ⟨_,rfl,?_⟩
  obtain ⟨b1,b2⟩:=m3 I2 zh ka fun u hu=>v3 u (pm.mem_iff.mp hu)
  exact fin out _ b2 pm.length_eq (q _ b1)
theorem oH {K:Fg} {Z:Hp}:∀ {us:List V} {ds:List D} {k:List bi},Reps K Z us ds->yk ds=some k->us=k.map ue
 | _,_,_,.nil,h=>by cases h; rfl
 | _,d::ds,_,.cons r rs,h=>by
  obtain ⟨x,e1,h⟩:=bind_some h
  obtain ⟨k',e2,h⟩:=bind_some h
  cases h
  rw [List.map_cons,<- oH rs e2]
  cases r <;> cases e1 <;> rfl
theorem oK {K:Fg} {Z:Hp}:∀ {vs:List V} {ds:List D} {ks:List (List bi)},Reps K Z vs ds->sh ds=some ks->KeyVs K Z vs ks
 | _,_,_,.nil,h=>by cases h; exact .nil
 | _,d::ds,_,.cons r rs,h=>by
  obtain ⟨k,e1,h⟩:=bind_some h
  obtain ⟨k',e2,h⟩:=bind_some h
  cases h
  cases r with
  | tup sq r2=>
   have e:=oH r2 e1
   subst e
   exact .cons sq (oK rs e2)
  | _=>cases e1
theorem kB {K:Fg} {Z:Hp}:∀ k:List bi,Reps K Z (k.map ue) (k.map jb)
 | []=>.nil
 | .inl i::k=>.cons (.int i) (kB k)
 | .inr x::k=>.cons (.str x) (kB k)
theorem oJ {K:Fg} {Z:Hp}:∀ {vs:List V} {ks:List (List bi)},KeyVs K Z vs ks->Reps K Z vs (ks.map fun k=>.tuple (k.map jb))
 | _,_,.nil=>.nil
 | _,_,.cons h r=>.cons (.tup h (kB _)) (oJ r)
variable {e:Expr} {p pos:Pos} {te:TE} {f:Dv->Option D}
def ET (K:Fg) (te:TE):TE:=fun σ H Q=>te σ H fun v H1=>∃ (a:Addr) (vs:List V) (Z:Hp),[v]=[V.ref a]/\Same Z H1/\(SqL K H1 a vs\/SqT K H1 a vs)/\Hz K Z vs fun vs'=>∀ l,H1 l=none->Q (.ref l) (upd H1 l (.lst vs'))
theorem v7 (hg:Gl X "sorted") (hm:X.mg "sorted" = none) (ha:PE X e te) (he:starEach [e] X.env=(false,eval e X.env)::starEach [] X.env:=by rfl) (hpl:(backTo pos (starEach [] X.env)).any (·.1)=false:=by rfl) :
  PE X (.Call (.Name "sorted" p) [e] [] pos) (ET X.K te):=by
 intro pins s σ H Q I h
 refine wpAny_Call_Name_kw (kG I hg hm (u:=.builtin "sorted") (by decide +kernel) ?_ (by decide) (by decide))
 refine PyProof.Rows.callWith_builtin1 (cx (gi ha jk he pos pins s σ H (fun xs H1=>∃ (a:Addr) (vs:List V) (Z:Hp),xs=[V.ref a]/\Same Z H1/\(SqL X.K H1 a vs\/SqT X.K H1 a vs)/\Hz X.K Z vs fun vs'=>∀ l,H1 l=none->Q (.ref l) (upd H1 l (.lst vs'))) I (by exact h)) fun us s1 ⟨vs,H1,I1,r1,q1⟩=>?_) he hpl
 obtain ⟨a,xs,Z,e1,zh,hsq,q⟩:=q1
 subst e1
 obtain ⟨u,rfl,rx⟩:=mm r1
 cases rx
 exact tI I1 zh hsq q
theorem Bv (hg:Gl X "sorted") (hm:X.mg "sorted" = none) (ha:EV X e f) (he:starEach [e] X.env=(false,eval e X.env)::starEach [] X.env:=by rfl) (hpl:(backTo pos (starEach [] X.env)).any (·.1)=false:=by rfl) :
  EO X (.Call (.Name "sorted" p) [e] [] pos) (IC (o1 f dc)):=
 PE.imp (v7 hg hm ha he hpl) fun σ H Q h=>by
  obtain ⟨H₀,Z₀,Z,δ,ds0,hh,e0,k⟩:=h
  obtain ⟨d,e,e0⟩:=bind_some e0
  obtain ⟨d1,e1,e⟩:=bind_some e
  refine ⟨H₀,Z₀,Z,δ,d1,hh,e1,fun v Z1 H1 hh1 t1 r1=>?_⟩
  unfold dc at e
  obtain ⟨ds,e2,e⟩:=bind_some e
  have key:∀ vs,Reps X.K Z1 vs ds->Hz X.K Z1 vs fun vs'=>∀ l,H1 l=none->Q (.ref l) (upd H1 l (.lst vs')):=fun vs rs=>by
   cases e3:uh ds with
   | some l=>
    rw [e3] at e
    cases e
    cases e0
    exact .inl ⟨l,sr rs e3,fun b hb=>k b _ Z1 H1 hh1 t1 hb (Reps.ints _)⟩
   | none=>
    rw [e3] at e
    obtain ⟨ks,e4,e⟩:=bind_some e
    obtain ⟨ok,e⟩:=eN e
    cases e
    cases e0
    exact .inr ⟨ks,oK rs e4,ok,fun vs' kv b hb=>k b _ Z1 H1 hh1 t1 hb (oJ kv)⟩
  cases r1 with
  | lst sq rs=>
   cases e2
   exact ⟨_,_,Z1,rfl,hh1.zh,.inl (SqL.same sq hh1.zh),key _ rs⟩
  | tup sq rs=>
   cases e2
   exact ⟨_,_,Z1,rfl,hh1.zh,.inr (SqT.same sq hh1.zh),key _ rs⟩
  | _=>cases e2
theorem GF {g:Dv->Option D} (h:EO X e (IC g)) (hl:∀ δ d,g δ = some d->∃ ds,d=.list ds):EV X e g:=
 PE.imp h fun σ H Q h=>by
  obtain ⟨H₀,Z₀,Z,δ,d,hh,e,k⟩:=h
  obtain ⟨ds,rfl⟩:=hl _ _ e
  refine ⟨H₀,Z₀,Z,δ,ds,hh,by unfold IC; rw [e]; rfl,fun p vs Z1 H1 hh1 t1 hp r1=>?_⟩
  have n:=New.add hh1.zh hp (.lst vs)
  exact k _ _ _ (hh1.new n) (t1.trans n.z) (.lst (SqL.of aN) (r1.same n.z))
theorem tJ {d d':D} (h:dc d=some d'):∃ ds,d'=.list ds:=by
 unfold dc at h
 obtain ⟨ds,_,h⟩:=bind_some h
 cases e3:uh ds with
 | some l=>rw [e3] at h; cases h; exact ⟨_,rfl⟩
 | none=>
  rw [e3] at h
  obtain ⟨ks,_,h⟩:=bind_some h
  obtain ⟨_,h⟩:=eN h
  cases h
  exact ⟨_,rfl⟩
theorem lW (hg:Gl X "sorted") (hm:X.mg "sorted" = none) (ha:EV X e f) (he:starEach [e] X.env=(false,eval e X.env)::starEach [] X.env:=by rfl) (hpl:(backTo pos (starEach [] X.env)).any (·.1)=false:=by rfl) :
  EV X (.Call (.Name "sorted" p) [e] [] pos) (o1 f dc):=
 GF (Bv hg hm ha he hpl) fun δ d e=>by
  obtain ⟨d1,_,e⟩:=bind_some e
  exact tJ e
end
end VL
namespace VL
open PySem PySem.Spec PyProof.Rows L2
end VL
namespace VL
open PySem PySem.Spec PyProof.Rows L2
noncomputable def Zp (A:List Addr) (H Z:Hp):Hp:=fun b=>if b∈A then H b else Z b
end VL
namespace VL
open PySem PySem.Spec PyProof.Rows L2
end VL
namespace VL
open PySem PySem.Spec PyProof.Rows L2
end VL
namespace VL
open PySem PySem.Spec PyProof.Rows L2
end VL
namespace VL
open PySem PySem.Spec PyProof.Rows L2
end VL
namespace VL
open PySem PySem.Spec PyProof.Rows L2
end VL
namespace VL
open PySem PySem.Spec PyProof.Rows L2
@[simp] noncomputable def Kz (i:Nat) (fk fv:Dv->Option D):Sf:=fun δ=>(fk δ).bind fun dk=>(fv δ).bind fun v=>(za δ[i]?).bind fun ds=>match dk with
 | .int k=>if 0<=k/\k.toNat<=ds.length/\ds.length<sizeLine then some (.nx,δ.set i (.ow (ds.take k.toNat++v::ds.drop k.toNat))) else none
 | _=>none
end VL
namespace VL
open PySem PySem.Spec PyProof.Rows L2
noncomputable def qN:List (D×D)->Option (List (bi×D))
 | []=>some []
 | p::r=>(sj p.1).bind fun k=>(qN r).bind fun es=>some ((k,p.2)::es)
noncomputable def zB (es:List (bi×D)):List (D×D):=es.map fun p=>(jb p.1,p.2)
theorem mn:∀ es:List (bi×D),qN (zB es)=some es
 | []=>rfl
 | (k,d)::r=>by
  have e:zB ((k,d)::r)=(jb k,d)::zB r:=rfl
  rw [e,qN,uf,Option.bind_some,mn r]
  rfl
noncomputable def tS:List D->Option (List (bi×D))
 | []=>some []
 | k::v::r=>(sj k).bind fun k=>(tS r).bind fun es=>some ((k,v)::es)
 | _=>none
noncomputable def sH:List bi->Bool
 | []=>true
 | k::r=>!(r.any fun x=>decide (x=k))&&sH r
noncomputable def qf (ds:List D):Option D:=(tS ds).bind fun es=>if sH (es.map (·.1))=true/\es.length<=15 then some (.dict ((.none,.none)::zB es)) else none
noncomputable def oR:List D->Option D
 | [.dict ((.none,.none)::l),k,y]=>(qN l).bind fun es=>(sj k).bind fun k=>some ((lG es k).getD y)
 | _=>none
section
variable {K:Fg}
theorem DO {Z:Hp} {v:V} {l:List (D×D)} {es:List (bi×D)} (r:Rep K Z v (.dict ((.none,.none)::l))) (h:qN l=some es):∃ a kvs,v=.ref a/\Z a=some (.dK kvs)/\uJ K Z kvs es:=by
 generalize hd:(PyData.dict ((PyData.none,PyData.none)::l):D)=d at r
 cases r with
 | @opq a _ q=>
  cases hd
  cases q with
  | dct h1 h2=>
   rename_i es
   cases es with
   | nil=>cases h1
   | cons e es=>simp [Bw] at h1
 | @gdc a kvs fs l' h1 h2 h3 h4=>
  cases hd
  have:qN (zB fs)=some es:=by rw [<- h]; exact congrArg qN h4.symm
  rw [mn] at this
  cases this
  exact ⟨a,kvs,rfl,h1,h2,h3⟩
 | _=>cases hd
theorem ri {κ:Type} [DecidableEq κ] {kvs:List (κ × V)} {k:κ} (v:V) (h:k ∉ kvs.map (·.1)):kC kvs k v=kvs++[(k,v)]:=by
 unfold kC
 rw [if_neg]
 intro q
 obtain ⟨p,hp,e⟩:=List.any_eq_true.mp q
 exact h (by rw [<- of_decide_eq_true e]; exact List.mem_map_of_mem hp)
theorem oD:∀ (more kvs:List (bi×V)),sH (more.map (·.1))=true->(∀ k∈more.map (·.1),k ∉ kvs.map (·.1))->g8 kvs more=kvs++more
 | [],kvs,_,_=>by simp [g8]
 | (k,v)::r,kvs,h,hn=>by
  have h':(!((r.map (·.1)).any fun x=>decide (x=k))&&sH (r.map (·.1)))=true:=h
  obtain ⟨h1,h2⟩:=Bool.and_eq_true_iff.mp h'
  have e:g8 kvs ((k,v)::r)=g8 (kC kvs k v) r:=rfl
  rw [e,ri v (hn k (by simp)),oD r _ h2,List.append_assoc]
  ·rfl
  ·intro x hx
   rw [List.map_append,List.mem_append]
   rintro (z | z)
   ·exact hn x (List.mem_cons_of_mem _ hx) z
   ·have:x=k:=by simpa using z
    subst this
    have:((r.map (·.1)).any fun y=>decide (y=x))=true:=List.any_eq_true.mpr ⟨x,hx,decide_eq_true rfl⟩
    rw [this] at h1
    cases h1
noncomputable def gk (ps:List (V×V)):List V:=ps.flatMap fun p=>[p.1,p.2]
theorem rn {Z:Hp}:∀ {ps:List (V×V)} {xs:List D} {es:List (bi×D)},Reps K Z (gk ps) xs->tS xs=some es->∃ kvs:List (bi×V),ps=kvs.map (fun kv=>(kV kv.1,kv.2))/\uJ K Z kvs es
 | [],xs,es,r,h=>by
  cases (show Reps K Z [] xs from r)
  cases h
  exact ⟨[],rfl,rfl,.nil⟩
 | (x,y)::ps,xs,es,r,h=>by
  have r':Reps K Z (x::y::gk ps) xs:=r
  match xs,r' with
  | _::_::_,.cons r1 (.cons r2 r3)=>
   obtain ⟨ky,e1,h⟩:=bind_some h
   obtain ⟨fs,e2,h⟩:=bind_some h
   cases h
   obtain ⟨kvs,rfl,q1,q2⟩:=rn r3 e2
   obtain rfl:=si r1 e1
   exact ⟨(ky,y)::kvs,rfl,by simp [q1],.cons r2 q2⟩
def Ko (K:Fg) (fs:Dv->Option (List D)) (σ:St) (H:Hp) (Q:List (V×V)->Hp->Prop):Prop:=
 ∃ H₀ Z₀ Z δ xs,Hold K H₀ Z₀ Z δ σ H/\fs δ = some xs/\∀ ps Z1 H1,Hold K H₀ Z₀ Z1 δ σ H1->Same Z Z1->Reps K Z1 (gk ps) xs->Q ps H1
end
def DV (X:Cx) (pos:Pos) (ks:List (Option Expr)) (vs:List Expr) (fs:Dv->Option (List D)):Prop:=∃ trs,G4 X pos ks vs trs/\∀ σ H Q,Ko X.K fs σ H Q->pi trs σ H Q
section
variable {X:Cx} {pos:Pos} {ks:List (Option Expr)} {vs:List Expr} {k v:Expr} {fs:Dv->Option (List D)} {fk fv:Dv->Option D}
theorem uz:DV X pos [] [] aq:=⟨[],Ap,fun σ H Q h=>by
 obtain ⟨H₀,Z₀,Z,δ,xs,hh,e,q⟩:=h
 cases e
 exact q [] Z H hh (fun _ _ e=>e) .nil⟩
theorem hU (hk:EV X k fk) (hv:EV X v fv) (hr:DV X pos ks vs fs):DV X pos (some k::ks) (v::vs) (ae fk (ae fv fs)):=by
 obtain ⟨trs,h1,h2⟩:=hr
 refine ⟨_,xA hk hv h1,fun σ H Q h=>?_⟩
 obtain ⟨H₀,Z₀,Z,δ,xs,hh,e,q⟩:=h
 obtain ⟨dk,e1,e⟩:=bind_some e
 obtain ⟨ys,e2,e⟩:=bind_some e
 cases e
 obtain ⟨dv,e3,e⟩:=bind_some e2
 obtain ⟨zs,e4,e⟩:=bind_some e
 cases e
 exact ⟨H₀,Z₀,Z,δ,dk,hh,e1,fun x Z1 H1 hh1 t1 r1=>⟨H₀,Z₀,Z1,δ,dv,hh1,e3,fun y Z2 H2 hh2 t2 r2=>h2 σ H2 _ ⟨H₀,Z₀,Z2,δ,zs,hh2,e4,fun ps Z3 H3 hh3 t3 r3=>q ((x,y)::ps) Z3 H3 hh3 (t1.trans (t2.trans t3)) (.cons ((r1.same t2).same t3) (.cons (r2.same t3) r3))⟩⟩⟩
theorem ut (h:DV X pos ks vs fs) (hall:ks.all (·.isSome)=true:=by rfl) (hl:ks.length=vs.length:=by rfl) (h0:ks≠[]:=by simp) (h15:ks.length<=15:=by decide):EV X (.Dict ks vs pos) (os fs qf):=by
 obtain ⟨trs,h1,h2⟩:=h
 refine PE.imp (Aw h1 hall hl h0 h15) fun σ H Q h=>?_
 obtain ⟨H₀,Z₀,Z,δ,d,hh,e,kk⟩:=h
 obtain ⟨xs,e1,e⟩:=bind_some e
 obtain ⟨es,e2,e⟩:=bind_some e
 obtain ⟨⟨hd,hl'⟩,e⟩:=eN e
 cases e
 intro p hp
 have z0:=fm hh.z0 (j2 hh.zh hp)
 have h0:H₀ p=none:=by
  cases e:H₀ p with
  | none=>rfl
  | some o=>rw [hh.h0 p o e] at hp; cases hp
 refine h2 σ _ _ ⟨_,Z₀,Z,δ,xs,hh.aside hp (.dK []),e1,fun ps Z1 H1 hh1 t1 r1=>?_⟩
 obtain ⟨g1,g2⟩:=hh1.inside h0 z0
 obtain ⟨kvs,rfl,rk⟩:=rn r1 e2
 have hn:(fun b=>if b=p then none else H1 b) p=none:=if_pos rfl
 have len:kvs.length=es.length:=q9 rk
 refine ⟨g1,kvs,rfl,by omega,?_⟩
 rw [oD kvs [] (by rw [<- rk.1]; exact hd) (fun k _ z=>nomatch z),List.nil_append]
 have n:=New.add g2.zh hn (.dK kvs)
 have eH:upd (fun b=>if b=p then none else H1 b) p (.dK kvs)=upd H1 p (.dK kvs):=funext fun b=>by
  by_cases hb:b=p
  ·subst hb; rw [aN,aN]
  ·rw [aI hb,aI hb]; exact if_neg hb
 have st:=g2.new n
 have nz:=n.z
 rw [eH] at st
 exact kk _ _ _ st (t1.trans nz) (.gdc aN rk.1 (rk.2.same nz) rfl)
theorem Br {a b c:Expr} {f fk fx:Dv->Option D} {apos cpos:Pos} (hu:X.A.units+1<cLine) (ha:EV X a f) (hb:EV X b fk) (hc:EV X c fx) (m:M2 X a "get" apos b c cpos):EV X (.Call (.Attribute a "get" apos) [b,c] [] cpos) (os (ae f (ae fk (ae fx aq))) oR):=
 PE.imp (xH hu ha hb hc m) fun σ H Q h=>by
  obtain ⟨H₀,Z₀,Z,δ,d,hh,e,k⟩:=h
  obtain ⟨xs,e0,e⟩:=bind_some e
  obtain ⟨x,e1,e0⟩:=bind_some e0
  obtain ⟨ys,e2,e0⟩:=bind_some e0
  cases e0
  obtain ⟨y,e3,e2⟩:=bind_some e2
  obtain ⟨zs,e4,e2⟩:=bind_some e2
  cases e2
  obtain ⟨z,e5,e4⟩:=bind_some e4
  obtain ⟨ws,e6,e4⟩:=bind_some e4
  cases e4
  cases e6
  match x,e with
  | .dict ((.none,.none)::l),e=>
   obtain ⟨es,e7,e⟩:=bind_some e
   obtain ⟨ky,e8,e⟩:=bind_some e
   cases e
   refine ⟨H₀,Z₀,Z,δ,_,hh,e1,fun v Z1 H1 hh1 t1 r1=>?_⟩
   obtain ⟨ad,kvs,rfl,g4,g5⟩:=DO r1 e7
   refine ⟨ad,rfl,.inl ⟨kvs,.inl (hh1.zh _ _ g4)⟩,H₀,Z₀,Z1,δ,y,hh1,e3,fun v Z2 H2 hh2 t2 r2=>⟨H₀,Z₀,Z2,δ,z,hh2,e5,fun u Z3 H3 hh3 t3 r3=>?_⟩⟩
   obtain rfl:=si r2 e8
   have g4':=hh3.zh _ _ (t3 _ _ (t2 _ _ g4))
   rcases re ky g5 with ⟨q,q'⟩ | ⟨w,d',q1,q2,rw'⟩
   ·refine ⟨none,q ▸ DGet.k g4',k u Z3 H3 hh3 (t1.trans (t2.trans t3)) ?_⟩
    rw [q']; exact r3
   ·refine ⟨some w,q1 ▸ DGet.k g4',k w Z3 H3 hh3 (t1.trans (t2.trans t3)) ?_⟩
    rw [q2]; exact (rw'.same t2).same t3
end
end VL
namespace VL
open PySem PySem.Spec PyProof.Rows L2
noncomputable def qZ (ns:List Str) (b:Sf) (bx:Xf) (bs:Sf):Sf:=fun δ=>match bx δ with
 | some (n,δ')=>if ns.contains n=true then bs δ' else none
 | none=>b δ
noncomputable def mP (i:Nat) (fs:Dv->Option (List D)) (tbl:List (Str×(List D->Option Str))):Dv->Option Str:=fun δ=>(oV i δ).bind fun d=>(iL d).bind fun n=>(tbl.lookup n).bind fun g=>(fs δ).bind g
section
variable {P:Program} {w:World} {K:PySem.W.Frag} {mg:Str->Option Value} {base:Heap}
theorem DM {k:Nat}:∀ n g,([]:List (Str×(List D->Option Str))).lookup n=some g->∃ j,j<=k/\CalX P w K mg base n j g []/\Fnm K mg n:=fun _ _ h=>by cases h
theorem Bo {k j j':Nat} {c:Str} {gc:List D->Option Str} {gv:List D->Option D} {tbl:List (Str×(List D->Option Str))} (hj:j<=k) (Y:CalX P w K mg base c j gc []) (V:CalF P w K mg base c j' gv) (h:∀ n g,tbl.lookup n=some g->∃ j,j<=k/\CalX P w K mg base n j g []/\Fnm K mg n):∀ n g,((c,gc)::tbl).lookup n=some g->∃ j,j<=k/\CalX P w K mg base n j g []/\Fnm K mg n:=fun n g e=>by
 rw [List.lookup_cons] at e
 split at e
 ·rename_i hn
  cases e
  have:n=c:=by simpa using hn
  subst this
  obtain ⟨fa,fd,ps,_,h1,h2,_,_⟩:=V.ex
  exact ⟨j,hj,Y,⟨fa,h1,h2⟩⟩
 ·exact h n g e
end
section
variable {m:Bool} {X:Cx} {e:Expr} {es:List Expr} {p pos:Pos} {fs:Dv->Option (List D)}
theorem yE (i:Nat) {x:Str} {k:Nat} {tbl:List (Str×(List D->Option Str))} (hT:∀ n g,tbl.lookup n=some g->∃ j,j<=k/\CalX X.prog X.w X.K X.mg X.base n j g []/\Fnm X.K X.mg n) (hr:Room k X.A) (ha:AV X (e::es) fs) (hN:X.N[i]? = some x:=by rfl) (hv:BO X.env.scope x:=by first | exact Or.inl rfl | exact Or.inr (Or.inl rfl) | exact Or.inr (Or.inr rfl)) (hdb:(x==("__debug__":Str))=false:=by decide) (hcd:(x==("__classdict__":Str))=false:=by decide)
  (he:starEach (e::es) X.env=(false,eval e X.env)::starEach es X.env:=by rfl) (hpl:(backTo pos (starEach es X.env)).any (·.1)=false:=by rfl):EX m X (.Call (.Name x p) (e::es) [] pos) (mP i fs tbl):=by
 intro pins s σ H Q I h
 obtain ⟨H₀,Z₀,Z,δ,n,hh,e0,k⟩:=h
 unfold mP at e0
 obtain ⟨c,e1,ea⟩:=bind_some e0
 obtain ⟨fnm,e2,eb⟩:=bind_some ea
 obtain ⟨g,e3,ec⟩:=bind_some eb
 obtain ⟨as,e4,ed⟩:=bind_some ec
 have:=oU e2
 subst this
 obtain ⟨v,hσ,rv⟩:=hh.read e1
 obtain ⟨j,hj,Y,⟨fb,hns,hmb⟩⟩:=hT fnm g e3
 obtain ⟨fa,fd,ps,ds,dv,F,hm,hk,hb,hd,hdd⟩:=Y.ex
 have hfa:fb=fa:=by have:=hmb.symm.trans hm; simpa using this
 subst hfa
 have hva:v=.ref fb:=by
  cases rv with
  | opq o=>
   cases o with
   | fn h1=>rw [hns] at h1; cases h1; rfl
   | dct h1 _=>exact absurd h1 fun z=>vq z
 subst hva
 refine wpAny_Call_Name_kw (cx (jj hN hv hdb hcd pins s σ H (fun v' H'=>v'=.ref fb/\H'=H) I ⟨_,hσ,rfl,rfl⟩) fun u s0 hq=>?_)
 obtain ⟨v',H',I0,r0,hv',hH'⟩:=hq
 subst hv'
 subst hH'
 cases (show u=Value.ref fb from r0)
 refine PySem.W.callWith_K (h₀:=X.base) I0.ok.mod.kin hk (cx (ha pos pins s0 σ H' (fun vs H1=>∃ Z1,Hold X.K H₀ Z₀ Z1 δ σ H1/\Same Z Z1/\Reps X.K Z1 vs as) I0 ⟨H₀,Z₀,Z,δ,as,hh,e4,fun vs Z1 H1 hh1 t1 r1=>⟨Z1,hh1,t1,r1⟩⟩) fun us s1 ⟨vs,H1,I1,r,Z1,hh1,t1,r1⟩=>⟨I1.kIn,?_⟩) he hpl
 have r2:Vals (vs++dv) (us++ds):=r.append hd
 have sp:E8 X.K g (vs++dv) H1 Q (fun c ox H2=>∃ C xx Z2,c=.ref C/\ox=some xx/\PySem.W.nsIn X.K mainGlobals n=some (some (.ref C))/\New Z1 H1 Z2 H2/\Z2 xx=some (n0 xx C)/\H1 xx=none):=⟨Z1,as++[],n,hh1.zh,r1.append (hdd Z1),by rw [List.append_nil]; exact ed,fun C xx Z2 H2 hC n2 h2 h3=>⟨C,xx,Z2,rfl,rfl,hC,n2,h2,h3⟩⟩
 have hl:(us++ds).length=ps.length:=by rw [<- r2.length]; exact F.len _ _ _ _ sp
 refine wpAny_call (codeAny_mono (F.run X.A X.stack s1 H1 ⟨us,[]⟩ (us++ds) (vs++dv) Q _ (hr.mono hj) I1.env0 (hb s1 us I1.kIn hl) r2 sp) fun res s' hq=>?_)
 cases res with
 | error ee=>
  obtain ⟨xx,C',H2,rfl,T,C,xx',Z2,hC',hx',hC,n2,h2,h3⟩:=hq
  cases hx'
  cases hC'
  exact k pins σ H1 Z1 s1 _ s' hh1 t1 I1 (.thrown hC rfl T n2 h2 h3)
 | ok fl=>
  cases fl with
  | ret z=>exact I1.after hq
  | next=>exact False.elim hq
  | brk=>exact False.elim hq
  | cont=>exact False.elim hq
end
section
variable {X:Cx} {body suite:List Stmt} {b₀:Stmt} {b bs:Sf} {bx:Xf} {np hpos pos:Pos}
theorem zT {W:Str} {ns:List Str} (O:Hnd X.K W ns) (hgW:Gl X W) (hcalm:X.calm=true) (hstk:X.stack=X.env::X.outer)
  (hb:BV X.nox body b) (hx:∀ pn E',BX false (Jn X pn E') body bx) (hs:∀ x,BV (Hw X x) (b₀ :: suite) bs) (hfrm:X.env.frame=some X.env.locals:=by rfl) (hdb:(W==("__debug__":Str))=false:=by decide) :
  SV X (.Try body [.ExceptHandler (some (.Name W np)) none (b₀ :: suite) hpos] [] [] pos) (qZ ns b bx bs):=by
 intro pins s σ H D I h
 obtain ⟨H₀,Z₀,Z,δ,r,hh,e,k⟩:=h
 unfold qZ at e
 cases hbx:bx δ with
 | none=>
  rw [hbx] at e
  refine wpAny_Try_except (wpAny_mono (hb pins s σ H D (I.wish _) ⟨H₀,Z₀,Z,δ,r,hh,e,k⟩) (fun f s1 q=>?_) fun _ _ z=>False.elim z)
  have q:=q.unwish
  cases f with
  | next=>exact wpAny_execs_nil q
  | brk=>exact q
  | cont=>exact q
  | ret u=>exact q
 | some pr=>
  obtain ⟨nm,δ'⟩:=pr
  rw [hbx] at e
  dsimp only at e
  split at e
  rotate_left
  ·cases e
  rename_i hcn
  obtain ⟨fl,δ2⟩:=r
  obtain ⟨wC,hW,FW,L⟩:=O.ex
  obtain ⟨C,F,hsub⟩:=L.get hcn
  have hhd:=I.ok.hd hcalm
  refine wpAny_Try_except (wpAny_mono (hx (X.pn++pins) _ [] s σ H ⟨fun _ _=>False,fun _ _=>False,fun _ _=>False,fun _ _=>False⟩ (Inv.toT I _) ⟨H₀,Z₀,Z,δ,(nm,δ'),hh,hbx,?_⟩) (fun f s1 q=>?_) fun _ _ z=>z)
  rotate_left
  ·cases f with
   | next=>obtain ⟨_,_,_,q⟩:=q; exact q.elim
   | brk=>obtain ⟨_,_,_,q⟩:=q; exact q.elim
   | cont=>obtain ⟨_,_,_,q⟩:=q; exact q.elim
   | ret u=>obtain ⟨_,_,_,_,_,q⟩:=q; exact q.elim
  intro pins' σ' H' Z' s1 e1 s2 hh' sm I1 fg
  cases fg with
  | made hm _ _ _ _=>cases hm
  | @thrown x C' H2 Z2 hC' he T nw hx2 hxn=>
   subst he
   have:C'=C:=by have:=hC'.symm.trans F.nm; simpa using this
   subst this
   have I1:Inv X pins σ' H' s1:=Inv.ofT I1
   have T:Thrown X.prog X.w X.stack H' s1 x C' H2 s2:=T
   have ff:∀ b∈iK X.stack,∃ o,s1.heap.get? b=some o/\∀ vs,o.data≠.fields vs:=fun b hb=>(I1.stack.mem hb).2
   obtain ⟨B,t,fl0,mv⟩:=T.move ff I1.stkFree
   have fl1:=fl0
   rw [hstk] at fl1
   refine u7 (by rw [I1.ok.frames,hstk]) hfrm fl1 fun h4 held4 sm4=>?_
   refine p0 held4 fun h5 fl5 sm5=>?_
   have fl5':=fl5
   rw [<- hstk] at fl5'
   have T5:=mv h5 t fl5' (sm4.trans sm5)
   have I5:Inv X pins σ' H2 { s2 with heap:=h5 }:=I1.call' T5.os T5.un T5.hok T5.bare (fun _ z=>nomatch z)
   have hmW:=PySem.W.mg_of I.ok.mod.kin I.ok.mod.glob hW
   refine wpAny_handleBy_cons (codeAny_handlers_test (lT (X:=Hw X x) (Inv.toH I5 x) hgW hmW ?_ hdb)) (by intro q; cases q)
   obtain ⟨oe,hoe,hoec⟩:=fl5.there
   refine wF I5.kIn F FW hsub hoe hoec (codeAny_handlers_suite ?_)
   refine nV fl5 fun h6 fl6 sm6=>?_
   have fl6':=fl6
   rw [<- hstk] at fl6'
   have T6:=mv h6 t fl6' ((sm4.trans sm5).trans sm6)
   have I6:Inv X pins σ' H2 { s2 with heap:=h6 }:=I1.call' T6.os T6.un T6.hok T6.bare (fun _ z=>nomatch z)
   obtain ⟨ob,hob,_,hF⟩:=(T6.hok x _ T6.is).1
   have I6':Inv X pins σ' (upd H2 x (.frz ob (n0 x C'))) { s2 with heap:=h6 }:=Inv.still I6 T.is hob
   have nw':=nw.still (ob:=ob) hh'.zh hx2 hxn
   have hh7:Hold X.K H₀ Z₀ (upd Z2 x (.frz ob (n0 x C'))) δ' σ' (upd H2 x (.frz ob (n0 x C'))):=hh'.new nw'
   refine wpAny_mono (hs x pins _ _ _ D (Inv.toH I6' x) ⟨H₀,Z₀,_,_,(fl,δ2),hh7,e,fun σ8 H8 Z8 hh8 t8=>k σ8 H8 Z8 hh8 ((sm.trans nw'.z).trans t8)⟩) (fun f s8 q=>?_) fun _ _ z=>False.elim z
   cases f with
   | next=>
    obtain ⟨σ8,H8,I8,q⟩:=q
    exact ⟨σ8,H8,Inv.ofH hhd I8,q⟩
   | brk=>
    obtain ⟨σ8,H8,I8,q⟩:=q
    exact ⟨σ8,H8,Inv.ofH hhd I8,q⟩
   | cont=>
    obtain ⟨σ8,H8,I8,q⟩:=q
    exact ⟨σ8,H8,Inv.ofH hhd I8,q⟩
   | ret u=>
    obtain ⟨v,σ8,H8,I8,rv,q⟩:=q
    exact ⟨v,σ8,H8,Inv.ofH hhd I8,rv,q⟩
end
end VL
namespace MA
open PySem
noncomputable def Kn (j most:Int):Int:=if j=0 then most else if (Builtin.Int.intBits (Builtin.bitAnd j (-j)):Int)-1<most then (Builtin.Int.intBits (Builtin.bitAnd j (-j)):Int)-1 else most
theorem vB {a:Int} {m:Nat} (h:a.natAbs<2 ^ m):Builtin.Int.intBits a<=m:=by
 unfold Builtin.Int.intBits
 split
 ·exact Nat.zero_le _
 ·rename_i h0
  have h0:a≠0:=by simpa using h0
  have:a.natAbs.log2<m:=(Nat.log2_lt (by omega)).mpr h
  omega
structure Q4 where
 a:Int
 b:Int
 c:Int
 d:Int
namespace Q4
end Q4
structure S2 where
 p:Int
 q:Int
namespace S2
end S2
inductive Row where
 | swing (j:Nat) | turn (j:Nat) (e:Nat) | flip (j:Nat) | tie (i j:Nat) | sign (i j:Nat) | cross (i j:Nat)
def Row.ok (n:Nat):Row->Prop
 | .swing j=>j<n
 | .turn j e=>j<n/\1<=e/\e<=7
 | .flip j=>j<n
 | .tie i j=>i<n/\j<n/\i≠j
 | .sign i j=>i<n/\j<n/\i≠j
 | .cross i j=>i<n/\j<n/\i≠j
noncomputable def Ke (n:Nat):Nat:=if n=0 then 0 else n % 2+Ke (n / 2)
termination_by n
decreasing_by omega
noncomputable def par (n:Nat):Nat:=Ke n % 2
def Sh (k:Nat) (d:PyData):Prop:=d.canLay0=true/\d.depth<=k
theorem Sh.int (k:Nat) (i:Int):Sh k (.int i):=⟨by simp [PyData.canLay0],by simp [PyData.depth]⟩
theorem Sh.all {k:Nat}:∀ (xs:List PyData),(∀ x∈xs,Sh k x)->PyData.canLayAll0 xs=true/\PyData.depthAll xs<=k
 | [],_=>⟨by simp [PyData.canLayAll0],by simp [PyData.depthAll]⟩
 | x::xs,h=>by
  obtain ⟨a,b⟩:=Sh.all xs fun y hy=>h y (List.mem_cons_of_mem _ hy)
  obtain ⟨c,d⟩:=h x List.mem_cons_self
  refine ⟨by simp [PyData.canLayAll0,a,c],?_⟩
  simp only [PyData.depthAll]
  omega
theorem Sh.tuple {k:Nat} {xs:List PyData} (h:∀ x∈xs,Sh k x):Sh (k+1) (.tuple xs):=by
 obtain ⟨a,b⟩:=Sh.all xs h
 exact ⟨by simp [PyData.canLay0,a],by simp only [PyData.depth]; omega⟩
theorem Sh.list {k:Nat} {xs:List PyData} (h:∀ x∈xs,Sh k x):Sh (k+1) (.list xs):=by
 obtain ⟨a,b⟩:=Sh.all xs h
 exact ⟨by simp [PyData.canLay0,a],by simp only [PyData.depth]; omega⟩
mutual
theorem nh:∀ d:PyData,d.canLay0=true->PyData.eqv d d=true
 | .none,_=>by simp [PyData.eqv]
 | .bool _,_=>by simp [PyData.eqv]
 | .int _,_=>by simp [PyData.eqv]
 | .str _,_=>by simp [PyData.eqv]
 | .list xs,h=>by
  simp only [PyData.eqv]
  exact eqvAll_self xs (by simpa [PyData.canLay0] using h)
 | .tuple xs,h=>by
  simp only [PyData.eqv]
  exact eqvAll_self xs (by simpa [PyData.canLay0] using h)
 | .dict _,h=>by simp [PyData.canLay0] at h
theorem eqvAll_self:∀ xs:List PyData,PyData.canLayAll0 xs=true->PyData.eqvAll xs xs=true
 | [],_=>by simp [PyData.eqvAll]
 | x::xs,h=>by
  have h':x.canLay0=true/\PyData.canLayAll0 xs=true:=by simpa [PyData.canLayAll0] using h
  simp only [PyData.eqvAll,nh x h'.1,eqvAll_self xs h'.2,Bool.and_self]
end
end MA
namespace GN
open PySem L2 VL
noncomputable def ir (i:Nat):Stmt:=PySem.Challenge.pw_wavewires_k65_chains_judged.main.body.getD i (.Pass ⟨0,0,0,0⟩)
noncomputable def iV:List Str:=["NoStep"]
abbrev gW:Stmt:=ir 4
abbrev eh:List Str:=["row"]
noncomputable def bS (G:List D->Option D):Sf:=sSeq (sIf (ob (o2 (o2 (oV 0) (oC (.int 0)) aD) (oC (.str "where")) aO)) (aY (os (ae (o2 (oV 0) (oC (.int 2)) aD) (aq)) G)) (cZ)) (sSeq (sIf (ob (o2 (o2 (oV 0) (oC (.int 0)) aD) (os (ae (oC (.str "tie")) (ae (oC (.str "sign")) (ae (oC (.str "cross")) (aq)))) bh) (dP false))) (aY (os (ae (os (ae (o2 (oV 0) (oC (.int 1)) aD) (ae (o2 (oV 0) (oC (.int 2)) aD) (aq))) AK) (ae (os (ae (o2 (oV 0) (oC (.int 1)) aD) (ae (o2 (oV 0) (oC (.int 2)) aD) (aq))) tY) (aq))) bh)) (cZ)) (aY (os (ae (o2 (oV 0) (oC (.int 1)) aD) (aq)) bh)))
noncomputable def ci:Nat->List D->Option D
 | 0=>runB eh 1 (fun _=>none)
 | m+1=>runB eh 1 (bS (ci m))
noncomputable def bt:List D->Option D:=ci 8
abbrev fW:Stmt:=ir 14
abbrev lq:List Str:=["one","other"]
noncomputable def dG:Sf:=sSeq (sIf (ob (o2 (o2 (oV 0) (oC (.int 0)) aD) (os (ae (oC (.str "turn")) (ae (oC (.str "look")) (aq))) bh) (dP false))) (aY (oC (.bool false))) (cZ)) (sSeq (sIf (ob (o2 (o2 (oV 0) (oC (.int 0)) aD) (os (ae (oC (.str "sign")) (ae (oC (.str "cross")) (aq))) bh) (dP false))) (aY (jP (o2 (o2 (oV 0) (oC (.int 0)) aD) (o2 (oV 1) (oC (.int 0)) aD) aO) (o2 (os (ae (oV 0) (aq)) bt) (os (ae (oV 1) (aq)) bt) aO))) (cZ)) (aY (o2 (oV 0) (oV 1) aO)))
noncomputable def bU:List D->Option D:=runB lq 2 dG
abbrev gY:Stmt:=ir 12
abbrev nG:List Str:=["row","look","mark"]
noncomputable def fQ:Sf:=aY (jP (o2 (o2 (oV 0) (oC (.int 0)) aD) (oC (.str "where")) aO) (jP (o2 (o2 (oV 1) (oC (.int 0)) aD) (oC (.str "look")) aO) (o2 (o2 (oV 0) (oC (.int 1)) aD) (oV 2) aO)))
noncomputable def b9:List D->Option D:=runB nG 3 fQ
abbrev lN:Stmt:=ir 10
abbrev vG:List Str:=["row","wire"]
noncomputable def dW:Sf:=sSeq (sIf (ob (o2 (o2 (oV 0) (oC (.int 0)) aD) (os (ae (oC (.str "swing")) (ae (oC (.str "cross")) (aq))) bh) (dP false))) (aY (oC .none)) (cZ)) (aY (FE (o2 (o2 (oV 0) (oC (.int 0)) aD) (oC (.str "flip")) aO) (jP (o2 (o2 (oV 0) (oC (.int 0)) aD) (oC (.str "tie")) aO) (o2 (o2 (oV 0) (oC (.int 2)) aD) (oV 1) aO))))
noncomputable def cv:List D->Option D:=runB vG 2 dW
abbrev eZ:Stmt:=ir 11
abbrev kn:List Str:=["one","other","wire","first"]
noncomputable def fA:Sf:=sSeq (bP 3 (os (ae (oV 0) (ae (oV 2) (aq))) cv)) (aY (jP (o2 (oV 3) (oC .none) jW) (o2 (oV 3) (os (ae (oV 1) (ae (oV 2) (aq))) cv) aO)))
noncomputable def ca:List D->Option D:=runB kn 3 fA
abbrev f7:Stmt:=ir 9
abbrev ls:List Str:=["row"]
noncomputable def dH:Sf:=aY (He (ob (o2 (o2 (oV 0) (oC (.int 0)) aD) (oC (.str "where")) aO)) (o2 (oV 0) (oC (.int 2)) aD) (oV 0))
noncomputable def bO:List D->Option D:=runB ls 1 dH
abbrev dF:Stmt:=ir 13
abbrev iW:List Str:=["one","other","mark","shared"]
noncomputable def jm:Dv->Option D:=fJ (oI (os (ae (oV 0) (aq)) bt) cY) [(1,"other")] uD (ob (o2 (oV 0) (os (ae (oV 1) (aq)) bt) (dP false))) (oV 0)
noncomputable def jl:Dv->Option D:=iE (oI (oV 3) cY) [(0,"one"),(1,"other")] uD (os (ae (os (ae (oV 1) (aq)) bO) (ae (os (ae (oV 2) (aq)) bO) (ae (oV 0) (aq)))) ca)
noncomputable def kQ:Sf:=sSeq (sIf (dB (ob (o2 (o2 (oV 0) (oC (.int 0)) aD) (oC (.str "look")) aO)) (ob (o2 (o2 (oV 1) (oC (.int 0)) aD) (oC (.str "look")) aO))) (aY (oC (.bool false))) (cZ)) (sSeq (sIf (wf (ob (os (ae (oV 0) (ae (oV 1) (ae (oV 2) (aq)))) b9)) (ob (os (ae (oV 1) (ae (oV 0) (ae (oV 2) (aq)))) b9))) (aY (oC (.bool false))) (cZ)) (sSeq (bP 3 (jm)) (aY (os (ae (jl) (aq)) yZ))))
noncomputable def cO:List D->Option D:=runB iW 3 kQ
abbrev dt:Stmt:=ir 15
abbrev ik:List Str:=["rows","p","steps","q"]
noncomputable def cf:Sf:=sSeq (sIf (ob (os (ae (o2 (oV 0) (oV 1) aD) (ae (o2 (oV 0) (oV 3) aD) (aq))) bU)) (pE 2 (os (ae (oC (.str "gone")) (ae (oV 1) (ae (oV 3) (aq)))) bh)) (cZ)) (sSeq (sIf (dB (ob (o2 (o2 (o2 (oV 0) (oV 1) aD) (oC (.int 0)) aD) (oC (.str "turn")) aO)) (ob (o2 (gC (o2 (oV 0) (oV 1) aD) (im) (oP (oC (.int 2)))) (gC (o2 (oV 0) (oV 3) aD) (im) (oP (oC (.int 2)))) aO))) (pE 2 (os (ae (oC (.str "joined")) (ae (oV 1) (ae (oV 3) (aq)))) bh)) (cZ)) (sIf (tX (ob (os (ae (o2 (oV 0) (oV 1) aD) (ae (o2 (oV 0) (oV 3) aD) (aq))) (fun as=>cO (as++[.none]))))) (fun δ=>(aY (oV 2)) (dFz 2 δ)) (cZ)))
noncomputable def dz:Sf:=sSeq (tN 2 (aq)) (sSeq (jK (oL (ae (o2 (oV 1) (oC (.int 1)) bd) (ae (os (ae (oV 0) (aq)) da) (aq))) d5) (gN 3) (cf)) (fun δ=>(aY (oV 2)) (dFz 2 δ)))
noncomputable def bG:List D->Option D:=runB ik 2 dz
abbrev fX:Stmt:=ir 16
abbrev bY:List Str:=["row","wire"]
noncomputable def aR (G:List D->Option D):Sf:=sSeq (sIf (ob (o2 (o2 (oV 0) (oC (.int 0)) aD) (oC (.str "where")) aO)) (aY (os (ae (oC (.str "where")) (ae (o2 (oV 0) (oC (.int 1)) aD) (ae (os (ae (o2 (oV 0) (oC (.int 2)) aD) (ae (oV 1) (aq))) G) (aq)))) bh)) (cZ)) (sSeq (sIf (ob (o2 (oV 0) (os (ae (oC (.str "flip")) (ae (oV 1) (aq))) bh) aO)) (aY (os (ae (oC (.str "turn")) (ae (oV 1) (ae (oC (.int 4)) (aq)))) bh)) (cZ)) (sSeq (sIf (ob (o2 (oV 0) (os (ae (oC (.str "turn")) (ae (oV 1) (ae (oC (.int 4)) (aq)))) bh) aO)) (aY (os (ae (oC (.str "flip")) (ae (oV 1) (aq))) bh)) (cZ)) (sSeq (sIf (dB (ob (o2 (o2 (oV 0) (oC (.int 0)) aD) (oC (.str "tie")) aO)) (ob (o2 (o2 (oV 0) (oC (.int 2)) aD) (oV 1) aO))) (aY (os (ae (oC (.str "sign")) (ae (o2 (oV 0) (oC (.int 1)) aD) (ae (oV 1) (aq)))) bh)) (cZ)) (sSeq (sIf (ob (o2 (o2 (oV 0) (oC (.int 0)) aD) (oC (.str "sign")) aO)) (aY (os (ae (oC (.str "tie")) (ae (He (ob (o2 (o2 (oV 0) (oC (.int 1)) aD) (oV 1) aO)) (o2 (oV 0) (oC (.int 2)) aD) (o2 (oV 0) (oC (.int 1)) aD)) (ae (oV 1) (aq)))) bh)) (cZ)) (aY (oC .none))))))
noncomputable def bp:Nat->List D->Option D
 | 0=>runB bY 2 (fun _=>none)
 | m+1=>runB bY 2 (aR (bp m))
noncomputable def cC:List D->Option D:=bp 8
abbrev cq:Stmt:=ir 17
abbrev dY:List Str:=["rows","p","wire","at"]
noncomputable def cH:Dv->Option D:=fJ (oL (ae (o2 (oV 1) (oC (.int 1)) bd) (ae (os (ae (oV 0) (aq)) da) (aq))) d5) [(0,"rows"),(2,"wire")] uD (ob (o2 (oV 2) (os (ae (o2 (oV 1) (oV 0) aD) (aq)) bt) (dP false))) (oV 0)
noncomputable def b8:Sf:=sSeq (sIf (ob (o2 (o2 (o2 (oV 0) (oV 1) aD) (oC (.int 0)) aD) (oC (.str "swing")) neD)) (aY (os (aq) cQ)) (cZ)) (sSeq (bP 2 (o2 (o2 (oV 0) (oV 1) aD) (oC (.int 1)) aD)) (sSeq (bP 3 (gC (cH) (im) (oP (oC (.int 2))))) (sSeq (sIf (dB (ob (o2 (os (ae (oV 3) (aq)) da) (oC (.int 2)) aO)) (dB (ob (o2 (o2 (oV 0) (o2 (oV 3) (oC (.int 1)) aD) aD) (o2 (oV 0) (oV 1) aD) aO)) (ob (o2 (os (ae (o2 (oV 0) (o2 (oV 3) (oC (.int 0)) aD) aD) (ae (oV 2) (aq))) cC) (oC .none) jW)))) (aY (os (ae (os (ae (oC (.str "swung")) (ae (oV 1) (ae (o2 (oV 3) (oC (.int 0)) aD) (ae (o2 (oV 3) (oC (.int 1)) aD) (aq))))) bh) (aq)) cQ)) (cZ)) (aY (os (aq) cQ)))))
noncomputable def aQ:List D->Option D:=runB dY 2 b8
abbrev fY:Stmt:=ir 18
abbrev N_slides_of:List Str:=["circuit","rows","steps","p"]
noncomputable def dO:Sf:=sSeq (uU 2 (os (ae (oV 1) (ae (oV 3) (aq))) bG)) (uU 2 (os (ae (oV 1) (ae (oV 3) (aq))) aQ))
noncomputable def iP:Sf:=sSeq (bP 1 (o2 (oV 0) (oC (.int 1)) aD)) (sSeq (tN 2 (aq)) (sSeq (jK (oL (ae (os (ae (oV 1) (aq)) da) (aq)) iw) (gN 3) (dO)) (fun δ=>(aY (o1 (oV 2) dc)) (dFz 2 δ))))
noncomputable def aW:List D->Option D:=runB N_slides_of 1 iP
abbrev jJ:Stmt:=ir 19
abbrev tf:List Str:=["one","other","e"]
noncomputable def kg:Sf:=sSeq (bP 2 (o2 (o2 (o2 (oV 0) (oC (.int 2)) aD) (o2 (oV 1) (oC (.int 2)) aD) bd) (oC (.int 8)) ck)) (aY (He (ob (o2 (oV 2) (oC (.int 0)) aO)) (oC .none) (os (ae (oC (.str "turn")) (ae (o2 (oV 0) (oC (.int 1)) aD) (ae (oV 2) (aq)))) bh)))
noncomputable def dR:List D->Option D:=runB tf 2 kg
abbrev eY:Stmt:=ir 20
abbrev km:List Str:=["rows","step"]
noncomputable def dX:Sf:=sSeq (sIf (ob (o2 (o2 (oV 1) (oC (.int 0)) aD) (oC (.str "gone")) aO)) (aY (os (ae (o2 (oV 1) (oC (.int 1)) aD) (ae (oC .none) (ae (o2 (oV 1) (oC (.int 2)) aD) (ae (oC .none) (aq))))) qf)) (cZ)) (sSeq (sIf (ob (o2 (o2 (oV 1) (oC (.int 0)) aD) (oC (.str "joined")) aO)) (aY (os (ae (o2 (oV 1) (oC (.int 1)) aD) (ae (oC .none) (ae (o2 (oV 1) (oC (.int 2)) aD) (ae (os (ae (o2 (oV 0) (o2 (oV 1) (oC (.int 1)) aD) aD) (ae (o2 (oV 0) (o2 (oV 1) (oC (.int 2)) aD) aD) (aq))) dR) (aq))))) qf)) (cZ)) (aY (os (ae (o2 (oV 1) (oC (.int 1)) aD) (ae (oC .none) (ae (o2 (oV 1) (oC (.int 2)) aD) (ae (os (ae (o2 (oV 0) (o2 (oV 1) (oC (.int 2)) aD) aD) (ae (o2 (o2 (oV 0) (o2 (oV 1) (oC (.int 1)) aD) aD) (oC (.int 1)) aD) (aq))) cC) (ae (o2 (oV 1) (oC (.int 3)) aD) (ae (oC .none) (aq))))))) qf)))
noncomputable def bB:List D->Option D:=runB km 2 dX
abbrev ji:Stmt:=ir 21
abbrev N_slid:List Str:=["circuit","step","changes","rows"]
noncomputable def pJ:Dv->Option D:=iE (oL (ae (os (ae (o2 (oV 0) (oC (.int 1)) aD) (aq)) da) (aq)) iw) [(0,"circuit"),(2,"changes")] uD (os (ae (oV 2) (ae (oV 0) (ae (o2 (o2 (oV 1) (oC (.int 1)) aD) (oV 0) aD) aq))) oR)
noncomputable def pI:Dv->Option D:=fJ (oI (oV 3) cY) [] uD (ob (o2 (oV 0) (oC .none) jW)) (oV 0)
noncomputable def uG:Sf:=sSeq (sIf (ob (o2 (oV 1) (os (ae (oV 0) (aq)) aW) (Ck true))) (JY) (cZ)) (sSeq (bP 2 (os (ae (o2 (oV 0) (oC (.int 1)) aD) (ae (oV 1) (aq))) bB)) (sSeq (bP 3 (pJ)) (aY (os (ae (o2 (oV 0) (oC (.int 0)) aD) (ae (os (ae (pI) (aq)) kw) (aq))) bh))))
noncomputable def eU:List D->Option D:=runB N_slid 2 uG
noncomputable def lZ:Xf:=JG (ob (o2 (oV 1) (os (ae (oV 0) (aq)) aW) (Ck true))) (wS "NoStep" (oC (.str "the step does not fit the circuit"))) (JD)
noncomputable def gy:List D->Option Str:=vV N_slid 2 lZ
abbrev jH:Stmt:=ir 6
abbrev s9:List Str:=["thing","steps_for","behind_step","chain","steps"]
noncomputable def gG:Dv->Option Bool:=ob (o2 (oV 4) (os (aq) cQ) neD)
noncomputable def gJ:Sf:=sSeq (pE 3 (o2 (oV 4) (oC (.int 0)) aD)) (sSeq (bP 0 (g6 2 (ae (oV 0) (ae (o2 (oV 4) (oC (.int 0)) aD) (aq))) (("slid",eU)::[]))) (bP 4 (g6 1 (ae (oV 0) (aq)) (("slides_of",aW)::[]))))
noncomputable def nA:Sf:=sSeq (tN 3 (aq)) (sSeq (bP 4 (g6 1 (ae (oV 0) (aq)) (("slides_of",aW)::[]))) (sSeq (fun δ=>eV (gG) (gJ) wN δ) (fun δ=>(aY (os (ae (oV 3) (ae (oV 0) (aq))) bh)) (dFz 3 δ))))
noncomputable def gK:List D->Option D:=runB s9 3 nA
abbrev gX:Stmt:=ir 7
abbrev nE:List Str:=["thing","steps","last","behind_step","step"]
noncomputable def bE:Sf:=qZ iV (bP 0 (g6 3 (ae (oV 0) (ae (oV 4) (aq))) (("slid",eU)::[]))) (xE (mP 3 (ae (oV 0) (ae (oV 4) (aq))) (("slid",gy)::[]))) (aY (oC (.bool false)))
noncomputable def h7:Sf:=sSeq (jK (oI (oV 1) cY) (gN 4) (bE)) (aY (o2 (oV 0) (oV 2) aO))
noncomputable def cV:List D->Option D:=runB nE 4 h7
abbrev fZ:Stmt:=ir 23
abbrev lr:List Str:=["circuit"]
noncomputable def iQ:Sf:=aY (os (ae (oV 0) (ae (oC (fL "slides_of")) (ae (oC (fL "slid")) (aq)))) gK)
noncomputable def cD:List D->Option D:=runB lr 1 iQ
abbrev dL:Stmt:=ir 24
abbrev iR:List Str:=["circuit","steps","last"]
noncomputable def dU:Sf:=aY (os (ae (oV 0) (ae (oV 1) (ae (oV 2) (ae (oC (fL "slid")) (aq))))) cV)
noncomputable def bg:List D->Option D:=runB iR 3 dU
abbrev gh:Stmt:=ir 26
abbrev lC:List Str:=["script","k"]
noncomputable def gx:Sf:=sSeq (sIf (ob (o2 (oV 1) (os (ae (oV 0) (aq)) da) rR)) (aY (o2 (oV 0) (oV 1) aD)) (cZ)) (aY (oC (.int 0)))
noncomputable def bW:List D->Option D:=runB lC 2 gx
abbrev f9:Stmt:=ir 27
abbrev lz:List Str:=["cell","prime","near"]
noncomputable def gw:Sf:=sSeq (bP 2 (o2 (oV 0) (oC (.int 1000003)) ck)) (aY (o2 (o2 (o2 (oV 2) (oC (.int 11)) bd) (o2 (oV 2) (oC (.int 48271)) bd) Dh) (oV 1) ck))
noncomputable def bH:List D->Option D:=runB lz 2 gw
abbrev gZ:Stmt:=ir 28
abbrev nH:List Str:=["cell","wires","looks","plain","seed","j","i"]
noncomputable def cm:Sf:=sSeq (bP 4 (o2 (os (ae (oV 0) (ae (oC (.int 2147483647)) (aq))) bH) (oC (.int 7)) il)) (sSeq (bP 5 (o2 (o2 (oV 4) (oC (.int 16)) il) (oV 1) ck)) (sSeq (bP 6 (o2 (o2 (o2 (oV 5) (oC (.int 1)) bd) (o2 (o2 (oV 4) (oC (.int 96)) il) (os (ae (oC (.int 1)) (ae (o2 (oV 1) (oC (.int 1)) CH) (aq))) tY) ck) bd) (oV 1) ck)) (sSeq (sIf (ob (o2 (o2 (oV 0) (oC (.int 16)) ck) (oC (.int 4)) rR)) (aY (os (ae (oC (.str "swing")) (ae (oV 5) (aq))) bh)) (cZ)) (sSeq (sIf (ob (o2 (o2 (oV 0) (oC (.int 16)) ck) (oC (.int 7)) rR)) (aY (os (ae (oC (.str "turn")) (ae (oV 5) (ae (o2 (oC (.int 1)) (o2 (o2 (oV 4) (oC (.int 600)) il) (oC (.int 7)) ck) bd) (aq)))) bh)) (cZ)) (sSeq (sIf (dB (ob (wg (oC (.int 7)) (o2 (oV 0) (oC (.int 16)) ck) (oC (.int 13)) rR rR)) (ob (o2 (oV 1) (oC (.int 1)) Ht))) (aY (os (ae (o2 (os (ae (oC (.str "tie")) (ae (oC (.str "sign")) (ae (oC (.str "cross")) (ae (oC (.str "tie")) (ae (oC (.str "sign")) (aq)))))) cQ) (o2 (o2 (oV 0) (oC (.int 16)) ck) (oC (.int 8)) CH) aD) (ae (oV 6) (ae (oV 5) (aq)))) bh)) (cZ)) (sSeq (sIf (wf (ob (o2 (o2 (oV 0) (oC (.int 16)) ck) (oC (.int 7)) aO)) (ob (oV 3))) (aY (os (ae (oC (.str "flip")) (ae (oV 5) (aq))) bh)) (cZ)) (sSeq (sIf (dB (ob (o2 (oV 2) (oC (.int 6)) rR)) (wf (ob (o2 (o2 (oV 0) (oC (.int 16)) ck) (oC (.int 14)) rR)) (ob (o2 (oV 2) (oC (.int 0)) aO)))) (aY (os (ae (oC (.str "look")) (ae (oV 5) (aq))) bh)) (cZ)) (sSeq (sIf (ob (o2 (oV 2) (oC (.int 0)) aO)) (aY (os (ae (oC (.str "swing")) (ae (oV 5) (aq))) bh)) (cZ)) (aY (os (ae (oC (.str "where")) (ae (o2 (o2 (oV 4) (oC (.int 4200)) il) (oV 2) ck) (ae (o2 (os (ae (os (ae (oC (.str "flip")) (ae (oV 5) (aq))) bh) (ae (os (ae (oC (.str "turn")) (ae (oV 5) (ae (oC (.int 4)) (aq)))) bh) (aq))) cQ) (o2 (o2 (oV 4) (oC (.int 29400)) il) (oC (.int 2)) ck) aD) (aq)))) bh))))))))))
noncomputable def aZ:List D->Option D:=runB nH 4 cm
abbrev e9:Stmt:=ir 30
abbrev kq:List Str:=["cells","wires","rows","looks","cell","row","seed"]
noncomputable def di:Sf:=sSeq (bP 5 (os (ae (oV 4) (ae (oV 1) (ae (oV 3) (ae (oC (.bool false)) (aq))))) aZ)) (sSeq (bP 6 (o2 (os (ae (o2 (oV 4) (oC (.int 5)) il) (ae (oC (.int 86028121)) (aq))) bH) (oC (.int 7)) il)) (sSeq (sIf (i8 2 (dB (ob (o2 (o2 (oV 4) (oC (.int 5)) ck) (oC (.int 2)) rR)) (dB (ob (o2 (oV 2) (os (aq) cQ) neD)) (ob (o2 (o2 (o2 (oV 2) (o2 (oV 6) (os (ae (oV 2) (aq)) da) ck) aD) (oC (.int 0)) aD) (oC (.str "look")) neD))))) (sSeq (bP 5 (Df 2 (o2 (oV 6) (u6 2) ck))) (sIf (dB (ob (o2 (o2 (oV 5) (oC (.int 0)) aD) (os (ae (oC (.str "sign")) (ae (oC (.str "cross")) (aq))) bh) (dP false))) (ob (o2 (o2 (o2 (oV 6) (oC (.int 64)) il) (oC (.int 2)) ck) (oC (.int 1)) aO))) (bP 5 (os (ae (o2 (oV 5) (oC (.int 0)) aD) (ae (o2 (oV 5) (oC (.int 2)) aD) (ae (o2 (oV 5) (oC (.int 1)) aD) (aq)))) bh)) (cZ))) (cZ)) (sSeq (sIf (dB (ob (o2 (o2 (oV 5) (oC (.int 0)) aD) (oC (.str "look")) aO)) (ob (o2 (oV 3) (oC (.int 3)) aO))) (bP 5 (os (ae (oC (.str "swing")) (ae (o2 (oV 5) (oC (.int 1)) aD) (aq))) bh)) (cZ)) (sSeq (bP 3 (o2 (oV 3) (os (ae (o2 (o2 (oV 5) (oC (.int 0)) aD) (oC (.str "look")) aO) (aq)) yp) bd)) (pE 2 (oV 5))))))
noncomputable def ic:Sf:=sSeq (tN 2 (aq)) (sSeq (bP 3 (oC (.int 0))) (sSeq (jK (oI (oV 0) cY) (gN 4) (di)) (fun δ=>(aY (os (ae (oV 1) (ae (os (ae (oV 2) (aq)) kw) (aq))) bh)) (dFz 2 δ))))
noncomputable def cJ:List D->Option D:=runB kq 2 ic
abbrev dM:Stmt:=ir 31
abbrev cM:List Str:=["row"]
noncomputable def gB (G:List D->Option D):Dv->Option D:=iE (oI (gC (oV 0) (oP (oC (.int 1))) (im)) cY) [] uD (os (ae (oV 0) (ae (oC (.str "other")) (aq))) bh)
noncomputable def bC (G:List D->Option D):Sf:=sSeq (sIf (ob (o2 (o2 (oV 0) (oC (.int 0)) aD) (oC (.str "where")) aO)) (aY (os (ae (o2 (oV 0) (oC (.int 2)) aD) (aq)) G)) (cZ)) (sSeq (sIf (wf (ob (o2 (o2 (oV 0) (oC (.int 0)) aD) (oC (.str "turn")) aO)) (ob (o2 (o2 (oV 0) (oC (.int 0)) aD) (oC (.str "look")) aO))) (aY (os (ae (os (ae (o2 (oV 0) (oC (.int 1)) aD) (ae (oC (.str "hold")) (aq))) bh) (aq)) cQ)) (cZ)) (sSeq (sIf (ob (o2 (o2 (oV 0) (oC (.int 0)) aD) (oC (.str "flip")) aO)) (aY (os (ae (os (ae (o2 (oV 0) (oC (.int 1)) aD) (ae (oC (.str "flip")) (aq))) bh) (aq)) cQ)) (cZ)) (sSeq (sIf (ob (o2 (o2 (oV 0) (oC (.int 0)) aD) (oC (.str "tie")) aO)) (aY (os (ae (os (ae (o2 (oV 0) (oC (.int 1)) aD) (ae (oC (.str "hold")) (aq))) bh) (ae (os (ae (o2 (oV 0) (oC (.int 2)) aD) (ae (oC (.str "flip")) (aq))) bh) (aq))) cQ)) (cZ)) (sSeq (sIf (ob (o2 (o2 (oV 0) (oC (.int 0)) aD) (oC (.str "sign")) aO)) (aY (os (ae (os (ae (o2 (oV 0) (oC (.int 1)) aD) (ae (oC (.str "hold")) (aq))) bh) (ae (os (ae (o2 (oV 0) (oC (.int 2)) aD) (ae (oC (.str "hold")) (aq))) bh) (aq))) cQ)) (cZ)) (aY (gB G))))))
noncomputable def bK:Nat->List D->Option D
 | 0=>runB cM 1 (fun _=>none)
 | m+1=>runB cM 1 (bC (bK m))
noncomputable def bN:List D->Option D:=bK 8
abbrev gg:Stmt:=ir 32
abbrev lB:List Str:=["one","other","mark","words","wire","kind","beside","what"]
noncomputable def cI:Sf:=sIf (dB (ob (o2 (oV 4) (oV 6) aO)) (wf (ob (o2 (oV 5) (oV 7) neD)) (ob (o2 (oV 5) (oC (.str "other")) aO)))) (aY (oC (.bool false))) (cZ)
noncomputable def dN:Sf:=jK (oI (os (ae (oV 1) (aq)) bN) cY) (vi [gN 6,gN 7]) (cI)
noncomputable def cF:Sf:=sSeq (bP 3 (os (ae (o2 (oV 0) (oC (.int 0)) aD) (ae (o2 (oV 1) (oC (.int 0)) aD) (aq))) cQ)) (sSeq (sIf (ob (o2 (oV 3) (os (ae (oC (.str "look")) (ae (oC (.str "look")) (aq))) cQ) aO)) (aY (oC (.bool false))) (cZ)) (sSeq (sIf (wf (dB (ob (o2 (oV 3) (os (ae (oC (.str "look")) (ae (oC (.str "where")) (aq))) cQ) aO)) (ob (o2 (o2 (oV 1) (oC (.int 1)) aD) (oV 2) aO))) (dB (ob (o2 (oV 3) (os (ae (oC (.str "where")) (ae (oC (.str "look")) (aq))) cQ) aO)) (ob (o2 (o2 (oV 0) (oC (.int 1)) aD) (oV 2) aO)))) (aY (oC (.bool false))) (cZ)) (sSeq (jK (oI (os (ae (oV 0) (aq)) bN) cY) (vi [gN 4,gN 5]) (dN)) (aY (oC (.bool true))))))
noncomputable def bI:List D->Option D:=runB lB 3 cF
abbrev cg:Stmt:=ir 33
abbrev dE:List Str:=["rows","place"]
noncomputable def eW:Dv->Option D:=fJ (oI (gC (oV 0) (im) (oP (oV 1))) cY) [] uD (ob (o2 (o2 (oV 0) (oC (.int 0)) aD) (oC (.str "look")) aO)) (oV 0)
noncomputable def dD:Sf:=aY (os (ae (eW) (aq)) da)
noncomputable def bw:List D->Option D:=runB dE 2 dD
abbrev fh:Stmt:=ir 34
abbrev kr:List Str:=["rows","p","q","place"]
noncomputable def dj:Sf:=sIf (tX (ob (os (ae (o2 (oV 0) (oV 1) aD) (ae (o2 (oV 0) (oV 3) aD) (ae (os (ae (oV 0) (ae (oV 3) (aq))) bw) (aq)))) bI))) (aY (oC (.bool false))) (cZ)
noncomputable def ie:Sf:=sSeq (jK (oL (ae (o2 (oV 1) (oC (.int 1)) bd) (ae (oV 2) (aq))) d5) (gN 3) (dj)) (aY (oC (.bool true)))
noncomputable def bT:List D->Option D:=runB kr 3 ie
abbrev f8:Stmt:=ir 35
abbrev lw:List Str:=["one","other"]
noncomputable def dI:Sf:=sSeq (sIf (ob (o2 (o2 (oV 0) (oC (.int 0)) aD) (os (ae (oC (.str "turn")) (ae (oC (.str "look")) (aq))) bh) (dP false))) (aY (oC (.bool false))) (cZ)) (sSeq (sIf (dB (ob (o2 (o2 (oV 0) (oC (.int 0)) aD) (os (ae (oC (.str "sign")) (ae (oC (.str "cross")) (aq))) bh) (dP false))) (ob (o2 (o2 (oV 0) (oC (.int 0)) aD) (o2 (oV 1) (oC (.int 0)) aD) aO))) (aY (o2 (o1 (gC (oV 0) (oP (oC (.int 1))) (im)) dc) (o1 (gC (oV 1) (oP (oC (.int 1))) (im)) dc) aO)) (cZ)) (aY (o2 (oV 0) (oV 1) aO)))
noncomputable def bV:List D->Option D:=runB lw 2 dI
abbrev cW:Stmt:=ir 36
abbrev bD:List Str:=["row","wire"]
noncomputable def i6 (G:List D->Option D):Dv->Option D:=iE (oI (os (ae (o2 (oV 0) (oC (.int 2)) aD) (ae (oV 1) (aq))) G) cY) [(0,"row")] uD (os (ae (oC (.str "where")) (ae (o2 (oV 1) (oC (.int 1)) aD) (ae (oV 0) (aq)))) bh)
noncomputable def eE (G:List D->Option D):Dv->Option D:=fJ (oI (gC (oV 0) (oP (oC (.int 1))) (im)) cY) [(1,"wire")] uD (ob (o2 (oV 0) (oV 1) neD)) (oV 0)
noncomputable def aK (G:List D->Option D):Sf:=sSeq (sIf (ob (o2 (o2 (oV 0) (oC (.int 0)) aD) (oC (.str "where")) aO)) (aY (i6 G)) (cZ)) (sSeq (sIf (ob (o2 (oV 0) (os (ae (oC (.str "flip")) (ae (oV 1) (aq))) bh) aO)) (aY (os (ae (os (ae (oC (.str "turn")) (ae (oV 1) (ae (oC (.int 4)) (aq)))) bh) (aq)) cQ)) (cZ)) (sSeq (sIf (ob (o2 (oV 0) (os (ae (oC (.str "turn")) (ae (oV 1) (ae (oC (.int 4)) (aq)))) bh) aO)) (aY (os (ae (os (ae (oC (.str "flip")) (ae (oV 1) (aq))) bh) (aq)) cQ)) (cZ)) (sSeq (sIf (dB (ob (o2 (o2 (oV 0) (oC (.int 0)) aD) (oC (.str "tie")) aO)) (ob (o2 (o2 (oV 0) (oC (.int 2)) aD) (oV 1) aO))) (aY (os (ae (os (ae (oC (.str "sign")) (ae (o2 (oV 0) (oC (.int 1)) aD) (ae (oV 1) (aq)))) bh) (aq)) cQ)) (cZ)) (sSeq (sIf (dB (ob (o2 (o2 (oV 0) (oC (.int 0)) aD) (oC (.str "sign")) aO)) (ob (o2 (oV 1) (gC (oV 0) (oP (oC (.int 1))) (im)) (dP false)))) (aY (os (ae (os (ae (oC (.str "tie")) (ae (o2 (eE G) (oC (.int 0)) aD) (ae (oV 1) (aq)))) bh) (aq)) cQ)) (cZ)) (aY (os (aq) cQ))))))
noncomputable def aP:Nat->List D->Option D
 | 0=>runB bD 2 (fun _=>none)
 | m+1=>runB bD 2 (aK (aP m))
noncomputable def cb:List D->Option D:=aP 8
abbrev fG:Stmt:=ir 37
abbrev js:List Str:=["rows","step","p","q","t","place"]
noncomputable def iy:Dv->Option D:=iE (oI (os (ae (o2 (oV 0) (oV 5) aD) (aq)) bN) cY) [] uD (o2 (oV 0) (oC (.int 0)) aD)
noncomputable def cU:Sf:=sIf (dB (ob (o2 (oV 5) (oV 3) neD)) (ob (o2 (o2 (o2 (oV 0) (oV 2) aD) (oC (.int 1)) aD) (iy) (dP false)))) (aY (oC (.bool false))) (cZ)
noncomputable def fR:Sf:=sSeq (sAsg (gC (oV 1) (oP (oC (.int 1))) (oP (oC (.int 3)))) (vi [gN 2,gN 3])) (sSeq (sIf (ob (o2 (o2 (oV 1) (oC (.int 0)) aD) (oC (.str "gone")) aO)) (aY (jP (os (ae (o2 (oV 0) (oV 2) aD) (ae (o2 (oV 0) (oV 3) aD) (aq))) bV) (os (ae (oV 0) (ae (oV 2) (ae (oV 3) (aq)))) bT))) (cZ)) (sSeq (sIf (ob (o2 (o2 (oV 1) (oC (.int 0)) aD) (oC (.str "joined")) aO)) (aY (jP (o2 (o2 (o2 (oV 0) (oV 2) aD) (oC (.int 0)) aD) (oC (.str "turn")) aO) (jP (o2 (gC (o2 (oV 0) (oV 3) aD) (im) (oP (oC (.int 2)))) (gC (o2 (oV 0) (oV 2) aD) (im) (oP (oC (.int 2)))) aO) (os (ae (oV 0) (ae (oV 2) (ae (oV 3) (aq)))) bT)))) (cZ)) (sSeq (bP 4 (o2 (oV 1) (oC (.int 3)) aD)) (sSeq (sIf (wf (ob (o2 (o2 (o2 (oV 0) (oV 2) aD) (oC (.int 0)) aD) (oC (.str "swing")) neD)) (wf (ob (o2 (o2 (oV 0) (oV 2) aD) (o2 (oV 0) (oV 4) aD) neD)) (ob (o2 (os (ae (o2 (oV 0) (oV 3) aD) (ae (o2 (o2 (oV 0) (oV 2) aD) (oC (.int 1)) aD) (aq))) cb) (os (aq) cQ) aO)))) (aY (oC (.bool false))) (cZ)) (sSeq (jK (oL (ae (o2 (oV 2) (oC (.int 1)) bd) (ae (oV 4) (aq))) d5) (gN 5) (cU)) (aY (oC (.bool true))))))))
noncomputable def bz:List D->Option D:=runB js 2 fR
abbrev cX:Stmt:=ir 38
abbrev fB:List Str:=["rows","found","many","p","q"]
noncomputable def gA:Dv->Option D:=iE (oL (ae (o2 (oV 4) (oC (.int 1)) bd) (ae (oV 2) (aq))) d5) [(3,"p"),(4,"q")] uD (os (ae (oC (.str "swung")) (ae (oV 1) (ae (oV 2) (ae (oV 0) (aq))))) bh)
noncomputable def gz:Dv->Option D:=fJ (oI (oV 1) cY) [(0,"rows")] uD (ob (os (ae (oV 1) (ae (oV 0) (aq))) bz)) (oV 0)
noncomputable def dh:Sf:=sSeq (pE 1 (os (ae (oC (.str "gone")) (ae (oV 3) (ae (oV 4) (aq)))) bh)) (sSeq (pE 1 (os (ae (oC (.str "joined")) (ae (oV 3) (ae (oV 4) (aq)))) bh)) (sIf (ob (o2 (o2 (o2 (oV 0) (oV 3) aD) (oC (.int 0)) aD) (oC (.str "swing")) aO)) (uU 1 (gA)) (cZ)))
noncomputable def dg:Sf:=jK (oL (ae (o2 (oV 3) (oC (.int 1)) bd) (ae (oV 2) (aq))) d5) (gN 4) (dh)
noncomputable def h8:Sf:=sSeq (tN 1 (aq)) (sSeq (bP 2 (os (ae (oV 0) (aq)) da)) (sSeq (jK (oL (ae (oV 2) (aq)) iw) (gN 3) (dg)) (fun δ=>(aY (o1 (gz) dc)) (dFz 1 δ))))
noncomputable def bM:List D->Option D:=runB fB 1 h8
abbrev gb:Stmt:=ir 39
abbrev lA:List Str:=["circuit","step","rows","p","q","eighths","t"]
noncomputable def eP:Sf:=sSeq (bP 2 (os (ae (o2 (oV 0) (oC (.int 1)) aD) (aq)) rW)) (sSeq (sAsg (gC (oV 1) (oP (oC (.int 1))) (oP (oC (.int 3)))) (vi [gN 3,gN 4])) (sSeq (sIf (ob (o2 (o2 (oV 1) (oC (.int 0)) aD) (oC (.str "gone")) aO)) (bP 2 (o2 (o2 (gC (oV 2) (im) (oP (oV 3))) (gC (oV 2) (oP (o2 (oV 3) (oC (.int 1)) bd)) (oP (oV 4))) bd) (gC (oV 2) (oP (o2 (oV 4) (oC (.int 1)) bd)) (im)) bd)) (sIf (ob (o2 (o2 (oV 1) (oC (.int 0)) aD) (oC (.str "joined")) aO)) (sSeq (bP 5 (o2 (o2 (o2 (o2 (oV 2) (oV 3) aD) (oC (.int 2)) aD) (o2 (o2 (oV 2) (oV 4) aD) (oC (.int 2)) aD) bd) (oC (.int 8)) ck)) (bP 2 (o2 (o2 (o2 (gC (oV 2) (im) (oP (oV 3))) (gC (oV 2) (oP (o2 (oV 3) (oC (.int 1)) bd)) (oP (oV 4))) bd) (gC (os (ae (os (ae (oC (.str "turn")) (ae (o2 (o2 (oV 2) (oV 4) aD) (oC (.int 1)) aD) (ae (oV 5) (aq)))) bh) (aq)) cQ) (im) (oP (oV 5))) bd) (gC (oV 2) (oP (o2 (oV 4) (oC (.int 1)) bd)) (im)) bd))) (sSeq (bP 6 (o2 (oV 1) (oC (.int 3)) aD)) (bP 2 (o2 (o2 (o2 (o2 (gC (oV 2) (im) (oP (oV 3))) (gC (oV 2) (oP (o2 (oV 3) (oC (.int 1)) bd)) (oP (oV 4))) bd) (os (ae (o2 (oV 2) (oV 4) aD) (ae (o2 (o2 (oV 2) (oV 3) aD) (oC (.int 1)) aD) (aq))) cb) bd) (gC (oV 2) (oP (o2 (oV 4) (oC (.int 1)) bd)) (oP (oV 6))) bd) (gC (oV 2) (oP (o2 (oV 6) (oC (.int 1)) bd)) (im)) bd))))) (aY (os (ae (o2 (oV 0) (oC (.int 0)) aD) (ae (os (ae (oV 2) (aq)) kw) (aq))) bh))))
noncomputable def bu:List D->Option D:=runB lA 2 eP
abbrev eA:Stmt:=ir 40
abbrev jc:List Str:=["circuit","steps","goal","step","last","place"]
noncomputable def bL:Sf:=sSeq (sIf (wf (ob (o2 (oV 5) (oV 4) J8)) (ob (o2 (oV 5) (os (ae (o2 (oV 0) (oC (.int 1)) aD) (aq)) da) Kc))) (aY (oC (.bool false))) (cZ)) (bP 4 (oV 5))
noncomputable def aV:Sf:=sSeq (bP 4 (o1 (oC (.int 1)) negD)) (sSeq (jK (oI (gC (oV 3) (oP (oC (.int 1))) (im)) cY) (gN 5) (bL)) (sSeq (sIf (tX (ob (os (ae (o2 (oV 0) (oC (.int 1)) aD) (ae (oV 3) (aq))) bz))) (aY (oC (.bool false))) (cZ)) (bP 0 (os (ae (oV 0) (ae (oV 3) (aq))) bu))))
noncomputable def eG:Sf:=sSeq (jK (oI (oV 1) cY) (gN 3) (aV)) (aY (o2 (oV 0) (oV 2) aO))
noncomputable def bJ:List D->Option D:=runB jc 3 eG
abbrev fj:Stmt:=ir 41
abbrev kt:List Str:=["circuit","cell","steps","fitting","step"]
noncomputable def cy:Dv->Option Bool:=dB (ob (o2 (oV 3) (os (aq) cQ) neD)) (ob (o2 (u6 2) (o2 (o2 (oV 1) (oC (.int 7)) il) (oC (.int 6)) ck) rR))
noncomputable def dl:Sf:=sSeq (bP 4 (o2 (oV 3) (o2 (oV 1) (os (ae (oV 3) (aq)) da) ck) aD)) (sSeq (pE 2 (oV 4)) (sSeq (bP 0 (os (ae (oV 0) (ae (oV 4) (aq))) bu)) (bP 3 (os (ae (o2 (oV 0) (oC (.int 1)) aD) (aq)) bM))))
noncomputable def ii:Sf:=sSeq (tN 2 (aq)) (sSeq (bP 3 (os (ae (o2 (oV 0) (oC (.int 1)) aD) (aq)) bM)) (sSeq (fun δ=>eV (cy) (dl) wN δ) (fun δ=>(aY (os (ae (oV 2) (ae (oV 0) (aq))) bh)) (dFz 2 δ))))
noncomputable def cw:List D->Option D:=runB kt 2 ii
abbrev eB:Stmt:=ir 42
abbrev jd:List Str:=["steps","goal","cell","way","at","more"]
noncomputable def bo:Sf:=sSeq (bP 3 (o2 (oV 2) (oC (.int 6)) ck)) (sSeq (sIf (dB (ob (o2 (oV 3) (oC (.int 4)) aO)) (ob (o2 (o2 (oV 1) (oC (.int 1)) aD) (os (aq) bh) neD))) (sSeq (bP 4 (o2 (o2 (oV 2) (oC (.int 6)) il) (os (ae (o2 (oV 1) (oC (.int 1)) aD) (aq)) da) ck)) (sIf (ob (o2 (o2 (o2 (o2 (oV 1) (oC (.int 1)) aD) (oV 4) aD) (oC (.int 0)) aD) (oC (.str "look")) neD)) (aY (os (ae (oV 0) (ae (os (ae (o2 (oV 1) (oC (.int 0)) aD) (ae (o2 (o2 (gC (o2 (oV 1) (oC (.int 1)) aD) (im) (oP (oV 4))) (os (ae (os (ae (oC (.str "flip")) (ae (oC (.int 0)) (aq))) bh) (aq)) bh) bd) (gC (o2 (oV 1) (oC (.int 1)) aD) (oP (o2 (oV 4) (oC (.int 1)) bd)) (im)) bd) (aq))) bh) (aq))) bh)) (cZ))) (cZ)) (sSeq (sIf (ob (o2 (oV 0) (os (aq) cQ) aO)) (aY (os (ae (oV 0) (ae (oV 1) (aq))) bh)) (cZ)) (sSeq (bP 4 (o2 (o2 (oV 2) (oC (.int 6)) il) (os (ae (oV 0) (aq)) da) ck)) (sSeq (sIf (ob (o2 (oV 3) (oC (.int 0)) aO)) (aY (os (ae (o2 (gC (oV 0) (im) (oP (oV 4))) (gC (oV 0) (oP (o2 (oV 4) (oC (.int 1)) bd)) (im)) bd) (ae (oV 1) (aq))) bh)) (cZ)) (sSeq (sIf (ob (o2 (oV 3) (oC (.int 1)) aO)) (aY (os (ae (o2 (o2 (gC (oV 0) (im) (oP (oV 4))) (os (ae (o2 (oV 0) (oV 4) aD) (aq)) cQ) bd) (gC (oV 0) (oP (oV 4)) (im)) bd) (ae (oV 1) (aq))) bh)) (cZ)) (sSeq (sIf (ob (o2 (oV 3) (oC (.int 2)) aO)) (aY (os (ae (o2 (o2 (gC (oV 0) (im) (oP (oV 4))) (gC (oV 0) (oP (o2 (oV 4) (oC (.int 1)) bd)) (im)) bd) (os (ae (o2 (oV 0) (oV 4) aD) (aq)) cQ) bd) (ae (oV 1) (aq))) bh)) (cZ)) (sSeq (sIf (ob (o2 (oV 3) (oC (.int 3)) aO)) (sSeq (bP 5 (o2 (o2 (gC (o2 (oV 0) (oV 4) aD) (im) (oP (oC (.int 2)))) (os (ae (o2 (o2 (o2 (oV 0) (oV 4) aD) (oC (.int 2)) aD) (oC (.int 1)) bd) (aq)) bh) bd) (gC (o2 (oV 0) (oV 4) aD) (oP (oC (.int 3))) (im)) bd)) (aY (os (ae (o2 (o2 (gC (oV 0) (im) (oP (oV 4))) (os (ae (oV 5) (aq)) cQ) bd) (gC (oV 0) (oP (o2 (oV 4) (oC (.int 1)) bd)) (im)) bd) (ae (oV 1) (aq))) bh))) (cZ)) (aY (os (ae (oV 0) (ae (oV 1) (aq))) bh)))))))))
noncomputable def aE:List D->Option D:=runB jd 3 bo
abbrev jI:Stmt:=ir 43
abbrev Ct:List Str:=["script","circuit","told","chain","steps","goal","handed","found"]
noncomputable def mY:Sf:=sSeq (bP 6 (os (ae (oV 4) (aq)) rW)) (sSeq (bP 7 (os (ae (oV 1) (ae (oV 6) (ae (oV 5) (aq)))) bg)) (sIf (wf (tX (ob (o1 (oV 7) (jX "bool")))) (wf (ob (o2 (oV 7) (os (ae (oV 1) (ae (oV 4) (ae (oV 5) (aq)))) bJ) neD)) (ob (o2 (oV 6) (oV 4) neD)))) (aY (oC (.bool false))) (cZ)))
noncomputable def yX:Sf:=sSeq (bP 1 (os (ae (gC (oV 0) (oP (oC (.int 2))) (oP (oC (.int 16)))) (ae (o2 (oC (.int 1)) (o2 (os (ae (oV 0) (ae (oC (.int 0)) (aq))) bW) (oC (.int 4)) ck) bd) (aq))) cJ)) (sSeq (bP 2 (os (ae (oV 1) (aq)) cD)) (sSeq (sIf (ob (o2 (os (ae (oV 1) (ae (o2 (oV 2) (oC (.int 0)) aD) (ae (o2 (oV 2) (oC (.int 1)) aD) (aq)))) bg) (oC (.bool true)) (F8 true))) (aY (oC (.bool false))) (cZ)) (sSeq (bP 3 (os (ae (oV 1) (ae (os (ae (oV 0) (ae (oC (.int 1)) (aq))) bW) (aq))) cw)) (sSeq (jK (oI (os (ae (oV 3) (ae (os (ae (o2 (oV 3) (oC (.int 0)) aD) (ae (o2 (oV 3) (oC (.int 1)) aD) (ae (o2 (os (ae (oV 0) (ae (oC (.int 1)) (aq))) bW) (oC (.int 42)) il) (aq)))) aE) (aq))) cQ) cY) (vi [gN 4,gN 5]) (mY)) (aY (oC (.bool true)))))))
noncomputable def sC:List D->Option D:=runB Ct 1 yX
open MA (Row)
inductive Rw where
 | pl (r:Row) | look (j:Nat) | wflip (m j:Nat) | wsign (m j:Nat)
noncomputable def rowD:Row->D
 | .swing j=>.tuple [.str "swing",.int j]
 | .turn j e=>.tuple [.str "turn",.int j,.int e]
 | .flip j=>.tuple [.str "flip",.int j]
 | .tie i j=>.tuple [.str "tie",.int i,.int j]
 | .sign i j=>.tuple [.str "sign",.int i,.int j]
 | .cross i j=>.tuple [.str "cross",.int i,.int j]
noncomputable def rwD:Rw->D
 | .pl r=>rowD r
 | .look j=>.tuple [.str "look",.int j]
 | .wflip m j=>.tuple [.str "where",.int m,.tuple [.str "flip",.int j]]
 | .wsign m j=>.tuple [.str "where",.int m,.tuple [.str "turn",.int j,.int 4]]
def Rw.ok (w l:Nat):Rw->Prop
 | .pl r=>r.ok w
 | .look j=>j<w/\l<6
 | .wflip m j=>m<l/\j<w
 | .wsign m j=>m<l/\j<w
noncomputable def Rw.isLook:Rw->Bool
 | .look _=>true
 | _=>false
noncomputable def Rw.isPl:Rw->Bool
 | .pl _=>true
 | _=>false
noncomputable def iZ (a:Str):Bool:=kW (.str a)
theorem du {a b:Str} (ha:iZ a=true) (hb:iZ b=true):aO (.str a) (.str b)=some (.bool (a==b)):=if_pos ⟨ha,hb⟩
theorem ID {a b:Str} (ha:iZ a=true) (hb:iZ b=true):neD (.str a) (.str b)=some (.bool (!(a==b))):=if_pos ⟨ha,hb⟩
theorem bb:iZ "swing" = true:=by decide +kernel
theorem aS:iZ "turn" = true:=by decide +kernel
theorem aT:iZ "flip" = true:=by decide +kernel
theorem bR:iZ "tie" = true:=by decide +kernel
theorem bF:iZ "sign" = true:=by decide +kernel
theorem cj:iZ "cross" = true:=by decide +kernel
theorem ba:iZ "look" = true:=by decide +kernel
theorem bn:iZ "where" = true:=by decide +kernel
@[simp] theorem yh:aO (.str "swing") (.str "swing")=some (.bool true):=(du bb bb).trans (congrArg (fun z=>some (PyData.bool z)) (show (("swing":Str)==("swing":Str))=true by decide +kernel))
@[simp] theorem zj:aO (.str "swing") (.str "turn")=some (.bool false):=(du bb aS).trans (congrArg (fun z=>some (PyData.bool z)) (show (("swing":Str)==("turn":Str))=false by decide +kernel))
@[simp] theorem zn:aO (.str "swing") (.str "flip")=some (.bool false):=(du bb aT).trans (congrArg (fun z=>some (PyData.bool z)) (show (("swing":Str)==("flip":Str))=false by decide +kernel))
@[simp] theorem A1:aO (.str "swing") (.str "tie")=some (.bool false):=(du bb bR).trans (congrArg (fun z=>some (PyData.bool z)) (show (("swing":Str)==("tie":Str))=false by decide +kernel))
@[simp] theorem zk:aO (.str "swing") (.str "sign")=some (.bool false):=(du bb bF).trans (congrArg (fun z=>some (PyData.bool z)) (show (("swing":Str)==("sign":Str))=false by decide +kernel))
@[simp] theorem zm:aO (.str "swing") (.str "look")=some (.bool false):=(du bb ba).trans (congrArg (fun z=>some (PyData.bool z)) (show (("swing":Str)==("look":Str))=false by decide +kernel))
@[simp] theorem yg:aO (.str "swing") (.str "where")=some (.bool false):=(du bb bn).trans (congrArg (fun z=>some (PyData.bool z)) (show (("swing":Str)==("where":Str))=false by decide +kernel))
@[simp] theorem zi:aO (.str "turn") (.str "swing")=some (.bool false):=(du aS bb).trans (congrArg (fun z=>some (PyData.bool z)) (show (("turn":Str)==("swing":Str))=false by decide +kernel))
@[simp] theorem AU:aO (.str "turn") (.str "turn")=some (.bool true):=(du aS aS).trans (congrArg (fun z=>some (PyData.bool z)) (show (("turn":Str)==("turn":Str))=true by decide +kernel))
@[simp] theorem AY:aO (.str "turn") (.str "flip")=some (.bool false):=(du aS aT).trans (congrArg (fun z=>some (PyData.bool z)) (show (("turn":Str)==("flip":Str))=false by decide +kernel))
@[simp] theorem Ca:aO (.str "turn") (.str "tie")=some (.bool false):=(du aS bR).trans (congrArg (fun z=>some (PyData.bool z)) (show (("turn":Str)==("tie":Str))=false by decide +kernel))
@[simp] theorem AW:aO (.str "turn") (.str "sign")=some (.bool false):=(du aS bF).trans (congrArg (fun z=>some (PyData.bool z)) (show (("turn":Str)==("sign":Str))=false by decide +kernel))
@[simp] theorem AX:aO (.str "turn") (.str "look")=some (.bool false):=(du aS ba).trans (congrArg (fun z=>some (PyData.bool z)) (show (("turn":Str)==("look":Str))=false by decide +kernel))
@[simp] theorem zg:aO (.str "turn") (.str "where")=some (.bool false):=(du aS bn).trans (congrArg (fun z=>some (PyData.bool z)) (show (("turn":Str)==("where":Str))=false by decide +kernel))
@[simp] theorem zu:aO (.str "flip") (.str "swing")=some (.bool false):=(du aT bb).trans (congrArg (fun z=>some (PyData.bool z)) (show (("flip":Str)==("swing":Str))=false by decide +kernel))
@[simp] theorem Ba:aO (.str "flip") (.str "turn")=some (.bool false):=(du aT aS).trans (congrArg (fun z=>some (PyData.bool z)) (show (("flip":Str)==("turn":Str))=false by decide +kernel))
@[simp] theorem Bd:aO (.str "flip") (.str "flip")=some (.bool true):=(du aT aT).trans (congrArg (fun z=>some (PyData.bool z)) (show (("flip":Str)==("flip":Str))=true by decide +kernel))
@[simp] theorem Ch:aO (.str "flip") (.str "tie")=some (.bool false):=(du aT bR).trans (congrArg (fun z=>some (PyData.bool z)) (show (("flip":Str)==("tie":Str))=false by decide +kernel))
@[simp] theorem Bb:aO (.str "flip") (.str "sign")=some (.bool false):=(du aT bF).trans (congrArg (fun z=>some (PyData.bool z)) (show (("flip":Str)==("sign":Str))=false by decide +kernel))
@[simp] theorem Bc:aO (.str "flip") (.str "look")=some (.bool false):=(du aT ba).trans (congrArg (fun z=>some (PyData.bool z)) (show (("flip":Str)==("look":Str))=false by decide +kernel))
@[simp] theorem zt:aO (.str "flip") (.str "where")=some (.bool false):=(du aT bn).trans (congrArg (fun z=>some (PyData.bool z)) (show (("flip":Str)==("where":Str))=false by decide +kernel))
@[simp] theorem A0:aO (.str "tie") (.str "swing")=some (.bool false):=(du bR bb).trans (congrArg (fun z=>some (PyData.bool z)) (show (("tie":Str)==("swing":Str))=false by decide +kernel))
@[simp] theorem Cb:aO (.str "tie") (.str "turn")=some (.bool false):=(du bR aS).trans (congrArg (fun z=>some (PyData.bool z)) (show (("tie":Str)==("turn":Str))=false by decide +kernel))
@[simp] theorem Ce:aO (.str "tie") (.str "flip")=some (.bool false):=(du bR aT).trans (congrArg (fun z=>some (PyData.bool z)) (show (("tie":Str)==("flip":Str))=false by decide +kernel))
@[simp] theorem Dr:aO (.str "tie") (.str "tie")=some (.bool true):=(du bR bR).trans (congrArg (fun z=>some (PyData.bool z)) (show (("tie":Str)==("tie":Str))=true by decide +kernel))
@[simp] theorem Cc:aO (.str "tie") (.str "sign")=some (.bool false):=(du bR bF).trans (congrArg (fun z=>some (PyData.bool z)) (show (("tie":Str)==("sign":Str))=false by decide +kernel))
@[simp] theorem Cd:aO (.str "tie") (.str "look")=some (.bool false):=(du bR ba).trans (congrArg (fun z=>some (PyData.bool z)) (show (("tie":Str)==("look":Str))=false by decide +kernel))
@[simp] theorem AZ:aO (.str "tie") (.str "where")=some (.bool false):=(du bR bn).trans (congrArg (fun z=>some (PyData.bool z)) (show (("tie":Str)==("where":Str))=false by decide +kernel))
@[simp] theorem zp:aO (.str "sign") (.str "swing")=some (.bool false):=(du bF bb).trans (congrArg (fun z=>some (PyData.bool z)) (show (("sign":Str)==("swing":Str))=false by decide +kernel))
@[simp] theorem A2:aO (.str "sign") (.str "turn")=some (.bool false):=(du bF aS).trans (congrArg (fun z=>some (PyData.bool z)) (show (("sign":Str)==("turn":Str))=false by decide +kernel))
@[simp] theorem A5:aO (.str "sign") (.str "flip")=some (.bool false):=(du bF aT).trans (congrArg (fun z=>some (PyData.bool z)) (show (("sign":Str)==("flip":Str))=false by decide +kernel))
@[simp] theorem Cf:aO (.str "sign") (.str "tie")=some (.bool false):=(du bF bR).trans (congrArg (fun z=>some (PyData.bool z)) (show (("sign":Str)==("tie":Str))=false by decide +kernel))
@[simp] theorem A3:aO (.str "sign") (.str "sign")=some (.bool true):=(du bF bF).trans (congrArg (fun z=>some (PyData.bool z)) (show (("sign":Str)==("sign":Str))=true by decide +kernel))
@[simp] theorem A4:aO (.str "sign") (.str "look")=some (.bool false):=(du bF ba).trans (congrArg (fun z=>some (PyData.bool z)) (show (("sign":Str)==("look":Str))=false by decide +kernel))
@[simp] theorem zo:aO (.str "sign") (.str "where")=some (.bool false):=(du bF bn).trans (congrArg (fun z=>some (PyData.bool z)) (show (("sign":Str)==("where":Str))=false by decide +kernel))
@[simp] theorem yj:aO (.str "cross") (.str "swing")=some (.bool false):=(du cj bb).trans (congrArg (fun z=>some (PyData.bool z)) (show (("cross":Str)==("swing":Str))=false by decide +kernel))
@[simp] theorem zv:aO (.str "cross") (.str "turn")=some (.bool false):=(du cj aS).trans (congrArg (fun z=>some (PyData.bool z)) (show (("cross":Str)==("turn":Str))=false by decide +kernel))
@[simp] theorem zy:aO (.str "cross") (.str "flip")=some (.bool false):=(du cj aT).trans (congrArg (fun z=>some (PyData.bool z)) (show (("cross":Str)==("flip":Str))=false by decide +kernel))
@[simp] theorem Be:aO (.str "cross") (.str "tie")=some (.bool false):=(du cj bR).trans (congrArg (fun z=>some (PyData.bool z)) (show (("cross":Str)==("tie":Str))=false by decide +kernel))
@[simp] theorem zw:aO (.str "cross") (.str "sign")=some (.bool false):=(du cj bF).trans (congrArg (fun z=>some (PyData.bool z)) (show (("cross":Str)==("sign":Str))=false by decide +kernel))
@[simp] theorem zx:aO (.str "cross") (.str "look")=some (.bool false):=(du cj ba).trans (congrArg (fun z=>some (PyData.bool z)) (show (("cross":Str)==("look":Str))=false by decide +kernel))
@[simp] theorem yi:aO (.str "cross") (.str "where")=some (.bool false):=(du cj bn).trans (congrArg (fun z=>some (PyData.bool z)) (show (("cross":Str)==("where":Str))=false by decide +kernel))
@[simp] theorem zr:aO (.str "look") (.str "swing")=some (.bool false):=(du ba bb).trans (congrArg (fun z=>some (PyData.bool z)) (show (("look":Str)==("swing":Str))=false by decide +kernel))
@[simp] theorem A6:aO (.str "look") (.str "turn")=some (.bool false):=(du ba aS).trans (congrArg (fun z=>some (PyData.bool z)) (show (("look":Str)==("turn":Str))=false by decide +kernel))
@[simp] theorem A9:aO (.str "look") (.str "flip")=some (.bool false):=(du ba aT).trans (congrArg (fun z=>some (PyData.bool z)) (show (("look":Str)==("flip":Str))=false by decide +kernel))
@[simp] theorem Cg:aO (.str "look") (.str "tie")=some (.bool false):=(du ba bR).trans (congrArg (fun z=>some (PyData.bool z)) (show (("look":Str)==("tie":Str))=false by decide +kernel))
@[simp] theorem A7:aO (.str "look") (.str "sign")=some (.bool false):=(du ba bF).trans (congrArg (fun z=>some (PyData.bool z)) (show (("look":Str)==("sign":Str))=false by decide +kernel))
@[simp] theorem A8:aO (.str "look") (.str "look")=some (.bool true):=(du ba ba).trans (congrArg (fun z=>some (PyData.bool z)) (show (("look":Str)==("look":Str))=true by decide +kernel))
@[simp] theorem zq:aO (.str "look") (.str "where")=some (.bool false):=(du ba bn).trans (congrArg (fun z=>some (PyData.bool z)) (show (("look":Str)==("where":Str))=false by decide +kernel))
@[simp] theorem yf:aO (.str "where") (.str "swing")=some (.bool false):=(du bn bb).trans (congrArg (fun z=>some (PyData.bool z)) (show (("where":Str)==("swing":Str))=false by decide +kernel))
@[simp] theorem ze:aO (.str "where") (.str "turn")=some (.bool false):=(du bn aS).trans (congrArg (fun z=>some (PyData.bool z)) (show (("where":Str)==("turn":Str))=false by decide +kernel))
@[simp] theorem zf:aO (.str "where") (.str "look")=some (.bool false):=(du bn ba).trans (congrArg (fun z=>some (PyData.bool z)) (show (("where":Str)==("look":Str))=false by decide +kernel))
@[simp] theorem ye:aO (.str "where") (.str "where")=some (.bool true):=(du bn bn).trans (congrArg (fun z=>some (PyData.bool z)) (show (("where":Str)==("where":Str))=true by decide +kernel))
@[simp] theorem EC:dP false (.str "swing") (.tuple [.str "swing",.str "turn",.str "flip",.str "tie",.str "sign",.str "cross"])=some (.bool true):=by rfl
@[simp] theorem Ey:dP false (.str "swing") (.tuple [.str "tie",.str "sign",.str "cross"])=some (.bool false):=by rfl
@[simp] theorem Gf:dP false (.str "turn") (.tuple [.str "swing",.str "turn",.str "flip",.str "tie",.str "sign",.str "cross"])=some (.bool true):=by rfl
@[simp] theorem Ga:dP false (.str "turn") (.tuple [.str "tie",.str "sign",.str "cross"])=some (.bool false):=by rfl
@[simp] theorem Gi:dP false (.str "flip") (.tuple [.str "swing",.str "turn",.str "flip",.str "tie",.str "sign",.str "cross"])=some (.bool true):=by rfl
@[simp] theorem Gd:dP false (.str "flip") (.tuple [.str "tie",.str "sign",.str "cross"])=some (.bool false):=by rfl
@[simp] theorem Hm:dP false (.str "tie") (.tuple [.str "swing",.str "turn",.str "flip",.str "tie",.str "sign",.str "cross"])=some (.bool true):=by rfl
@[simp] theorem Hl:dP false (.str "tie") (.tuple [.str "tie",.str "sign",.str "cross"])=some (.bool true):=by rfl
@[simp] theorem Gg:dP false (.str "sign") (.tuple [.str "swing",.str "turn",.str "flip",.str "tie",.str "sign",.str "cross"])=some (.bool true):=by rfl
@[simp] theorem Gb:dP false (.str "sign") (.tuple [.str "tie",.str "sign",.str "cross"])=some (.bool true):=by rfl
@[simp] theorem ED:dP false (.str "cross") (.tuple [.str "swing",.str "turn",.str "flip",.str "tie",.str "sign",.str "cross"])=some (.bool true):=by rfl
@[simp] theorem Ez:dP false (.str "cross") (.tuple [.str "tie",.str "sign",.str "cross"])=some (.bool true):=by rfl
@[simp] theorem Gh:dP false (.str "look") (.tuple [.str "swing",.str "turn",.str "flip",.str "tie",.str "sign",.str "cross"])=some (.bool false):=by rfl
@[simp] theorem Gc:dP false (.str "look") (.tuple [.str "tie",.str "sign",.str "cross"])=some (.bool false):=by rfl
@[simp] theorem EB:dP false (.str "where") (.tuple [.str "swing",.str "turn",.str "flip",.str "tie",.str "sign",.str "cross"])=some (.bool false):=by rfl
@[simp] theorem Ex:dP false (.str "where") (.tuple [.str "tie",.str "sign",.str "cross"])=some (.bool false):=by rfl
theorem xX (c:Int):∃ T:Nat,bH [.int c,.int 2147483647]=some (.int T):=by
 have h0:0<=c % 1000003:=Int.emod_nonneg _ (by decide)
 have h1:c % 1000003<1000003:=Int.emod_lt_of_pos _ (by decide)
 have m:IntMulOk (c % 1000003+11) (c % 1000003+48271):=.of_left (Nat.le_trans (MA.vB (m:=21) (by omega)) (by decide))
 have h2:0<=(c % 1000003+11)*(c % 1000003+48271) % 2147483647:=Int.emod_nonneg _ (by decide)
 refine ⟨((c % 1000003+11)*(c % 1000003+48271) % 2147483647).toNat,?_⟩
 rw [Int.toNat_of_nonneg h2]
 simp [-sSeq,-sIf,ah,ao,bH,runB,gw,aj,m]
theorem Fm (m:Int) (h1:7<m) (h2:m<13):∃ s:Str,lj [PyData.str "tie",.str "sign",.str "cross",.str "tie",.str "sign"] (m-8)=some (.str s)/\(s = "tie" \/ s = "sign" \/ s = "cross"):=by
 have:m=8\/m=9\/m=10\/m=11\/m=12:=by omega
 rcases this with h | h | h | h | h <;> subst h
 ·exact ⟨"tie",at0 _ _,.inl rfl⟩
 ·exact ⟨"sign",at1 _ _ _,.inr (.inl rfl)⟩
 ·exact ⟨"cross",Ed _ _ _ _,.inr (.inr rfl)⟩
 ·exact ⟨"tie",KJ _ _ _ _ _,.inl rfl⟩
 ·exact ⟨"sign",KI _ _ _ _ _ _,.inr (.inl rfl)⟩
section
variable (c w l T j t i mx q:Int) (hm0:0<=c % 16) (hm1:c % 16<16) (hT:bH [.int c,.int 2147483647]=some (.int T)) (hj:ck (.int (T / 7 / 16)) (.int w)=some (.int j)) (hx:tY [.int 1,.int (w-1)]=some (.int mx)) (ht:ck (.int (T / 7 / 96)) (.int mx)=some (.int t)) (hi:ck (.int (j+1+t)) (.int w)=some (.int i))
include hT hj hx ht hi
theorem tZ (p:Bool) (h:c % 16<4):aZ [.int c,.int w,.int l,.bool p]=some (.tuple [.str "swing",.int j]):=by
 simp [-sSeq,-sIf,ah,ao,-df,aZ,runB,cm,aj,hT,hj,hx,ht,hi,h]
theorem wn (p:Bool) (h:¬ c % 16<4) (h2:c % 16<7):aZ [.int c,.int w,.int l,.bool p]=some (.tuple [.str "turn",.int j,.int (1+T / 7 / 600 % 7)]):=by
 simp [-sSeq,-sIf,ah,ao,-df,aZ,runB,cm,aj,hT,hj,hx,ht,hi,h,h2]
theorem xY (p:Bool) (h:¬ c % 16<4) (h2:¬ c % 16<7) (h3:7<c % 16) (h4:c % 16<13) (h5:1<w) (s:D) (hs:lj [PyData.str "tie",.str "sign",.str "cross",.str "tie",.str "sign"] (c % 16-8)=some s):aZ [.int c,.int w,.int l,.bool p]=some (.tuple [s,.int i,.int j]):=by
 simp [-sSeq,-sIf,ah,ao,-df,aZ,runB,cm,aj,hT,hj,hx,ht,hi,h,h2,h3,h4,h5,wg,hs]
theorem wp (p:Bool) (h:¬ c % 16<4) (h2:¬ c % 16<7) (h3:¬ (7<c % 16/\c % 16<13/\1<w)) (h4:c % 16=7\/p=true):aZ [.int c,.int w,.int l,.bool p]=some (.tuple [.str "flip",.int j]):=by
 by_cases a:7<c % 16
 ·by_cases b:c % 16<13
  ·have d:¬ 1<w:=fun z=>h3 ⟨a,b,z⟩
   have e:¬ c % 16=7:=by omega
   have f:p=true:=by rcases h4 with z | z; exact absurd z e; exact z
   simp [-sSeq,-sIf,ah,ao,-df,aZ,runB,cm,aj,hT,hj,hx,ht,hi,h,h2,a,b,d,e,f,wg]
  ·have e:¬ c % 16=7:=by omega
   have f:p=true:=by rcases h4 with z | z; exact absurd z e; exact z
   simp [-sSeq,-sIf,ah,ao,-df,aZ,runB,cm,aj,hT,hj,hx,ht,hi,h,h2,a,b,e,f,wg]
 ·have e:c % 16=7:=by omega
  simp [-sSeq,-sIf,ah,ao,-df,aZ,runB,cm,aj,hT,hj,hx,ht,hi,e,wg]
theorem wo (h:¬ c % 16<4) (h2:¬ c % 16<7) (h3:¬ (7<c % 16/\c % 16<13/\1<w)) (h4:¬ c % 16=7) (h5:l<6) (h6:c % 16<14\/l=0):aZ [.int c,.int w,.int l,.bool false]=some (.tuple [.str "look",.int j]):=by
 have a:7<c % 16:=by omega
 have k:(dB (ob (wg (oC (.int 7)) (o2 (oV 0) (oC (.int 16)) ck) (oC (.int 13)) rR rR)) (ob (o2 (oV 1) (oC (.int 1)) Ht))) [.fz (.int c),.fz (.int w),.fz (.int l),.fz (.bool false),.fz (.int (T / 7)),.fz (.int j),.fz (.int i)]=some false:=by
  by_cases b:c % 16<13
  ·have d:¬ 1<w:=fun z=>h3 ⟨a,b,z⟩
   simp [wg,a,b,d]
  ·simp [wg,a,b]
 rcases h6 with z | z
 ·simp [-sSeq,-sIf,ah,ao,-dB,-df,aZ,runB,cm,aj,hT,hj,hx,ht,hi,h,h2,k,h4]
  simp [h5,z]
 ·simp [-sSeq,-sIf,ah,ao,-dB,-df,aZ,runB,cm,aj,hT,hj,hx,ht,hi,h,h2,k,h4]
  simp [h5,z]
theorem mU (h:¬ c % 16<4) (h2:¬ c % 16<7) (h3:¬ (7<c % 16/\c % 16<13/\1<w)) (h4:¬ c % 16=7) (h5:¬ (l<6/\(c % 16<14\/l=0))) (h6:¬ l=0) (hq:ck (.int (T / 7 / 4200)) (.int l)=some (.int q)) (s:D) (hs:lj [PyData.tuple [.str "flip",.int j],.tuple [.str "turn",.int j,.int 4]] (T / 7 / 29400 % 2)=some s):aZ [.int c,.int w,.int l,.bool false]=some (.tuple [.str "where",.int q,s]):=by
 have a:7<c % 16:=by omega
 have k:(dB (ob (wg (oC (.int 7)) (o2 (oV 0) (oC (.int 16)) ck) (oC (.int 13)) rR rR)) (ob (o2 (oV 1) (oC (.int 1)) Ht))) [.fz (.int c),.fz (.int w),.fz (.int l),.fz (.bool false),.fz (.int (T / 7)),.fz (.int j),.fz (.int i)]=some false:=by
  by_cases b:c % 16<13
  ·have d:¬ 1<w:=fun z=>h3 ⟨a,b,z⟩
   simp [wg,a,b,d]
  ·simp [wg,a,b]
 have k2:(dB (ob (o2 (oV 2) (oC (.int 6)) rR)) (wf (ob (o2 (o2 (oV 0) (oC (.int 16)) ck) (oC (.int 14)) rR)) (ob (o2 (oV 2) (oC (.int 0)) aO)))) [.fz (.int c),.fz (.int w),.fz (.int l),.fz (.bool false),.fz (.int (T / 7)),.fz (.int j),.fz (.int i)]=some false:=by
  by_cases b:l<6
  ·have d:¬ c % 16<14:=fun z=>h5 ⟨b,.inl z⟩
   simp [b,d,h6]
  ·simp [b]
 have h6':(l==0)=false:=by simpa using h6
 simp [-sSeq,-sIf,ah,ao,-dB,-df,aZ,runB,cm,aj,hT,hj,hx,ht,hi,h,h2,k,k2,h4,h6,h6',hq,hs]
end
theorem AR (c:Int) (w l:Nat) (hw:1<=w) (p:Bool):∃ r:Rw,aZ [.int c,.int w,.int l,.bool p]=some (rwD r)/\r.ok w l/\(p=true->r.isPl=true):=by
 obtain ⟨T,hT⟩:=xX c
 have hw0:(0:Int)<w:=by omega
 have a1:=Int.emod_nonneg ((T:Int) / 7 / 16) (show (w:Int)≠0 by omega)
 have a2:=Int.emod_lt_of_pos ((T:Int) / 7 / 16) hw0
 obtain ⟨j,hj⟩:∃ j:Nat,(T:Int) / 7 / 16 % w=j:=⟨((T:Int) / 7 / 16 % w).toNat,by omega⟩
 have ej:=fK (i:=(T:Int) / 7 / 16) hw0
 rw [hj] at ej a1 a2
 obtain ⟨mx,ex,x1,x2,x3⟩:=(⟨_,df 1 (w-1),by split <;> omega,by split <;> omega,by split <;> omega⟩:∃ m:Int,tY [.int 1,.int ((w:Int)-1)]=some (.int m)/\1<=m/\(w:Int)-1<=m/\(m=1\/m=w-1))
 have b1:=Int.emod_nonneg ((T:Int) / 7 / 96) (show mx≠0 by omega)
 have b2:=Int.emod_lt_of_pos ((T:Int) / 7 / 96) (show 0<mx by omega)
 have et:=fK (i:=(T:Int) / 7 / 96) (show 0<mx by omega)
 generalize (T:Int) / 7 / 96 % mx=t at *
 have c1:=Int.emod_nonneg ((j:Int)+1+t) (show (w:Int)≠0 by omega)
 have c2:=Int.emod_lt_of_pos ((j:Int)+1+t) hw0
 have ei:=fK (i:=(j:Int)+1+t) hw0
 obtain ⟨i,hi⟩:∃ i:Nat,((j:Int)+1+t) % w=i:=⟨(((j:Int)+1+t) % w).toNat,by omega⟩
 have hij:1<w->i≠j:=fun h1 z=>by
  have:t+1<w:=by omega
  by_cases hh:(j:Int)+1+t<w
  ·rw [Int.emod_eq_of_lt (by omega) hh] at hi; omega
  ·have:((j:Int)+1+t) % w=(j:Int)+1+t-w:=by
    rw [<- Int.sub_emod_right,Int.emod_eq_of_lt (by omega) (by omega)]
   omega
 rw [hi] at ei c1 c2
 have m0:0<=c % 16:=Int.emod_nonneg _ (by decide)
 by_cases h1:c % 16<4
 ·exact ⟨.pl (.swing j),tZ c w l T j t i mx hT ej ex et ei p h1,(show j<w by omega),fun _=>rfl⟩
 by_cases h2:c % 16<7
 ·obtain ⟨e,he⟩:∃ e:Nat,1+(T:Int) / 7 / 600 % 7=e:=⟨(1+(T:Int) / 7 / 600 % 7).toNat,by omega⟩
  have q:=wn c w l T j t i mx hT ej ex et ei p h1 h2
  rw [he] at q
  exact ⟨.pl (.turn j e),q,(show j<w/\1<=e/\e<=7 by omega),fun _=>rfl⟩
 by_cases h3:7<c % 16/\c % 16<13/\(1:Int)<w
 ·obtain ⟨s,hs,h⟩:=Fm (c % 16) h3.1 h3.2.1
  have q:=xY c w l T j t i mx hT ej ex et ei p h1 h2 h3.1 h3.2.1 h3.2.2 _ hs
  have k:i<w/\j<w/\i≠j:=⟨by omega,by omega,hij (by omega)⟩
  rcases h with rfl | rfl | rfl
  ·exact ⟨.pl (.tie i j),q,k,fun _=>rfl⟩
  ·exact ⟨.pl (.sign i j),q,k,fun _=>rfl⟩
  ·exact ⟨.pl (.cross i j),q,k,fun _=>rfl⟩
 by_cases h4:c % 16=7\/p=true
 ·exact ⟨.pl (.flip j),wp c w l T j t i mx hT ej ex et ei p h1 h2 h3 h4,(show j<w by omega),fun _=>rfl⟩
 have hp:p=false:=by cases p; rfl; exact absurd (.inr rfl) h4
 subst hp
 have h4':¬ c % 16=7:=fun z=>h4 (.inl z)
 by_cases h5:(l:Int)<6/\(c % 16<14\/(l:Int)=0)
 ·exact ⟨.look j,wo c w l T j t i mx hT ej ex et ei h1 h2 h3 h4' h5.1 h5.2,(show j<w/\l<6 by omega),fun z=>(nomatch z)⟩
 have h6:¬ (l:Int)=0:=by omega
 have hq:=fK (i:=(T:Int) / 7 / 4200) (show (0:Int)<l by omega)
 have d1:=Int.emod_nonneg ((T:Int) / 7 / 4200) (show (l:Int)≠0 by omega)
 have d2:=Int.emod_lt_of_pos ((T:Int) / 7 / 4200) (show (0:Int)<l by omega)
 obtain ⟨m,hm⟩:∃ m:Nat,(T:Int) / 7 / 4200 % l=m:=⟨((T:Int) / 7 / 4200 % l).toNat,by omega⟩
 rw [hm] at hq d1 d2
 have k:m<l/\j<w:=by omega
 have:(T:Int) / 7 / 29400 % 2=0\/(T:Int) / 7 / 29400 % 2=1:=by omega
 rcases this with z | z
 ·exact ⟨.wflip m j,mU c w l T j t i mx m hT ej ex et ei h1 h2 h3 h4' h5 h6 hq _ (by rw [z]; exact at0 _ _),k,fun z=>(nomatch z)⟩
 ·exact ⟨.wsign m j,mU c w l T j t i mx m hT ej ex et ei h1 h2 h3 h4' h5 h6 hq _ (by rw [z]; exact at1 _ _ _),k,fun z=>(nomatch z)⟩
@[simp] theorem Ho (u w:Sf) (δ:Dv) (a b:Int):Hq u w δ (a==b)=if a=b then u δ else w δ:=by
 by_cases h:a=b
 ·subst h; simp
 ·have:(a==b)=false:=by simpa using h
  rw [this,if_neg h]; rfl
theorem rP {α:Type} {f:D->Option D} {h k:α -> D}:∀ (xs:List α),(∀ x∈xs,f (h x)=some (k x))->wk f (xs.map h)=some (xs.map k)
 | [],_=>rfl
 | x::xs,H=>by
  show ((f (h x)).bind fun y=>_)=_
  rw [H x List.mem_cons_self]
  show ((wk f (xs.map h)).bind fun ys=>_)=_
  rw [rP xs fun y hy=>H y (List.mem_cons_of_mem _ hy)]
  rfl
theorem sE {α:Type} {t:D->Option Bool} {f:D->Option D} {h k:α -> D} {b:α -> Bool}:∀ (xs:List α),(∀ x∈xs,t (h x)=some (b x))->(∀ x∈xs,b x=true->f (h x)=some (k x))->hR t f (xs.map h)=some ((xs.filter b).map k)
 | [],_,_=>rfl
 | x::xs,H,G=>by
  have ih:=sE (k:=k) xs (fun y hy=>H y (List.mem_cons_of_mem _ hy)) (fun y hy=>G y (List.mem_cons_of_mem _ hy))
  show ((t (h x)).bind fun c=>_)=_
  rw [H x List.mem_cons_self,Option.bind_some]
  cases e:b x with
  | false=>simp [e,ih]
  | true=>simp [e,ih,G x List.mem_cons_self e]
theorem fO {α:Type} {fi:Dv->Option (List D)} {caps:List (Nat×Str)} {fe:Dv->Option D} {δ:Dv} {h k:α -> D} {xs:List α} (e:fi δ = some (xs.map h)) (hl:xs.length<=16777216) (H:∀ x∈xs,fe (.fz (h x)::dS δ caps)=some (k x)):iE fi caps uD fe δ = some (.list (xs.map k)):=by
 unfold iE
 rw [e,Option.bind_some,if_pos (by rw [List.length_map]; exact hl),rP xs (k:=k) fun x hx=>by
  show fe _=_
  exact H x hx]
 rfl
theorem fF {α:Type} {fi:Dv->Option (List D)} {caps:List (Nat×Str)} {ft:Dv->Option Bool} {fe:Dv->Option D} {δ:Dv} {h k:α -> D} {b:α -> Bool} {xs:List α} (e:fi δ = some (xs.map h)) (hl:xs.length<=16777216) (H:∀ x∈xs,ft (.fz (h x)::dS δ caps)=some (b x)) (G:∀ x∈xs,b x=true->fe (.fz (h x)::dS δ caps)=some (k x)):fJ fi caps uD ft fe δ = some (.list ((xs.filter b).map k)):=by
 unfold fJ
 rw [e,Option.bind_some,if_pos (by rw [List.length_map]; exact hl),sE xs (b:=b) (k:=k) (fun x hx=>by
  show ft _=_
  exact H x hx) (fun x hx hb=>by
  show fe _=_
  exact G x hx hb)]
 rfl
noncomputable def cirD (w:Nat) (rs:List Rw):D:=.tuple [.int w,.tuple (rs.map rwD)]
theorem rT {b:Sf} {k:Nat} (I:Nat->Dv->Prop) (n:Nat) (h:∀ i,i<n->∀ δ,I i δ -> ∃ δ2,b (δ.set k (.fz (.int i)))=some (.nx,δ2)/\I (i+1) δ2):∀ δ,I 0 δ -> ∃ δ',loop (gN k) b (nM 0 n) δ = some (.nx,δ')/\I n δ':=by
 have go:∀ (m i:Nat),i+m=n->∀ δ,I i δ -> ∃ δ',loop (gN k) b ((List.range' i m).map fun (k:Nat)=>PyData.int (0+(k:Int))) δ = some (.nx,δ')/\I n δ':=by
  intro m
  induction m with
  | zero=>intro i e δ h; exact ⟨δ,rfl,by rw [<- e]; exact h⟩
  | succ m ih=>
   intro i e δ hi
   obtain ⟨δ2,e2,h2⟩:=h i (by omega) δ hi
   obtain ⟨δ',e3,h3⟩:=ih (i+1) (by omega) δ2 h2
   refine ⟨δ',?_,h3⟩
   rw [<- e3,List.range'_succ,List.map_cons]
   exact bZ (δ1:=δ.set k (.fz (.int i))) (by simp) e2
 intro δ h0
 have:=go n 0 (by omega) δ h0
 rw [<- List.range_eq_range'] at this
 exact this
theorem mG {a b:Sf} {δ δ1:Dv} (h:a δ = some (.nx,δ1)):sSeq a b δ = b δ1:=by simp [h]
theorem AH:iZ "hold" = true:=by decide +kernel
theorem rq:iZ "other" = true:=by decide +kernel
def fq:Rw->Prop
 | .pl (.tie i j)=>i≠j
 | .pl (.sign i j)=>i≠j
 | .pl (.cross i j)=>i≠j
 | _=>True
theorem Bp {w l:Nat} {r:Rw} (h:r.ok w l):fq r:=by
 cases r with
 | pl r=>cases r <;> first | exact h.2.2 | exact trivial
 | _=>exact trivial
inductive Kd where
 | hold | flip | other
deriving DecidableEq
noncomputable def Kd.s:Kd->Str
 | .hold=>"hold"
 | .flip=>"flip"
 | .other=>"other"
theorem Kd.ok (k:Kd):iZ k.s=true:=by cases k; exact AH; exact aT; exact rq
theorem Kd.beq (a b:Kd):(a.s==b.s)=decide (a=b):=by cases a <;> cases b <;> decide +kernel
noncomputable def kl:Rw->List (Nat×Kd)
 | .pl (.swing j)=>[(j,.other)]
 | .pl (.turn j _)=>[(j,.hold)]
 | .pl (.flip j)=>[(j,.flip)]
 | .pl (.tie i j)=>[(i,.hold),(j,.flip)]
 | .pl (.sign i j)=>[(i,.hold),(j,.hold)]
 | .pl (.cross i j)=>[(i,.other),(j,.other)]
 | .look j=>[(j,.hold)]
 | .wflip _ j=>[(j,.flip)]
 | .wsign _ j=>[(j,.hold)]
noncomputable def oG (p:Nat×Kd):D:=.tuple [.int p.1,.str p.2.s]
theorem sl2 (a b:D):eJ (.tuple [a,b]) (some 1) none=some (.tuple [b]):=rfl
theorem sl3 (a b c:D):eJ (.tuple [a,b,c]) (some 1) none=some (.tuple [b,c]):=rfl
theorem KG (G:List D->Option D) (s:Str) (j:Int):gB G [.fz (.tuple [.str s,.int j])]=some (.list [.tuple [.int j,.str "other"]]):=by
 have:=fO (fi:=oI (gC (oV 0) (oP (oC (.int 1))) (im)) cY) (caps:=[]) (fe:=VL.os (ae (oV 0) (ae (oC (.str "other")) (aq))) bh) (δ:=[.fz (.tuple [.str s,.int j])]) (h:=PyData.int) (k:=fun x=>.tuple [.int x,.str "other"]) (xs:=[j]) (by simp [sl2]) (by simp) (fun x _=>by simp [dS])
 exact this
theorem KF (G:List D->Option D) (s:Str) (i j:Int):gB G [.fz (.tuple [.str s,.int i,.int j])]=some (.list [.tuple [.int i,.str "other"],.tuple [.int j,.str "other"]]):=by
 have:=fO (fi:=oI (gC (oV 0) (oP (oC (.int 1))) (im)) cY) (caps:=[]) (fe:=VL.os (ae (oV 0) (ae (oC (.str "other")) (aq))) bh) (δ:=[.fz (.tuple [.str s,.int i,.int j])]) (h:=PyData.int) (k:=fun x=>.tuple [.int x,.str "other"]) (xs:=[i,j]) (by simp [sl3]) (by simp) (fun x _=>by simp [dS])
 exact this
theorem t7 (G:List D->Option D) (r:Row):runB cM 1 (bC G) [rowD r]=some (.list ((kl (.pl r)).map oG)):=by
 cases r with
 | swing j=>have:=KG G "swing" j; simp [-sSeq,-sIf,ah,ao,runB,bC,aj,rowD,kl,oG,Kd.s,this]
 | cross i j=>have:=KF G "cross" i j; simp [-sSeq,-sIf,ah,ao,runB,bC,aj,rowD,kl,oG,Kd.s,this]
 | turn j e=>simp [-sSeq,-sIf,ah,ao,runB,bC,aj,rowD,kl,oG,Kd.s]
 | flip j=>simp [-sSeq,-sIf,ah,ao,runB,bC,aj,rowD,kl,oG,Kd.s]
 | tie i j=>simp [-sSeq,-sIf,ah,ao,runB,bC,aj,rowD,kl,oG,Kd.s]
 | sign i j=>simp [-sSeq,-sIf,ah,ao,runB,bC,aj,rowD,kl,oG,Kd.s]
theorem rV (G:List D->Option D) (m:Int) (I L:D) (h:G [I]=some L):runB cM 1 (bC G) [.tuple [.str "where",.int m,I]]=some L:=by
 simp [-sSeq,-sIf,ah,ao,runB,bC,aj,h]
theorem AS (G:List D->Option D) (j:Nat):runB cM 1 (bC G) [rwD (.look j)]=some (.list ((kl (.look j)).map oG)):=by
 simp [-sSeq,-sIf,ah,ao,runB,bC,aj,rwD,kl,oG,Kd.s]
theorem kF (r:Rw):bN [rwD r]=some (.list ((kl r).map oG)):=by
 cases r with
 | pl r=>exact t7 (bK 7) r
 | look j=>exact AS (bK 7) j
 | wflip m j=>exact rV (bK 7) m _ _ (t7 (bK 6) (.flip j))
 | wsign m j=>exact rV (bK 7) m _ _ (t7 (bK 6) (.turn j 4))
noncomputable def bad (p q:Nat×Kd):Bool:=(p.1==q.1)&&(decide (p.2≠q.2)||decide (p.2=.other))
theorem Gj (z0 z1 z2 z3:Sl) (a b:Int) (s t:Str) (h:¬ a=b):cI [z0,z1,z2,z3,.fz (.int a),.fz (.str s),.fz (.int b),.fz (.str t)]=some (.nx,[z0,z1,z2,z3,.fz (.int a),.fz (.str s),.fz (.int b),.fz (.str t)]):=by
 simp [-sSeq,-sIf,ah,ao,cI,h]
theorem Gm (z0 z1 z2 z3:Sl) (a:Int) (s t:Str) (c2 c3:Bool) (e1:neD (.str s) (.str t)=some (.bool c2)) (e2:aO (.str s) (.str "other")=some (.bool c3)):cI [z0,z1,z2,z3,.fz (.int a),.fz (.str s),.fz (.int a),.fz (.str t)]=some (if (c2||c3) then .rt (.bool false) else .nx,[z0,z1,z2,z3,.fz (.int a),.fz (.str s),.fz (.int a),.fz (.str t)]):=by
 cases c2 <;> cases c3 <;> simp [-sSeq,-sIf,ah,ao,cI,e1,e2]
theorem DL (z0 z1 z2 z3:Sl) (p q:Nat×Kd):cI [z0,z1,z2,z3,.fz (.int p.1),.fz (.str p.2.s),.fz (.int q.1),.fz (.str q.2.s)]=some (if bad p q then .rt (.bool false) else .nx,[z0,z1,z2,z3,.fz (.int p.1),.fz (.str p.2.s),.fz (.int q.1),.fz (.str q.2.s)]):=by
 obtain ⟨p1,p2⟩:=p
 obtain ⟨q1,q2⟩:=q
 dsimp only
 have e1:=ID p2.ok q2.ok
 have e2:aO (.str p2.s) (.str "other")=some (.bool (decide (p2=.other))):=(du p2.ok rq).trans (by rw [show ("other":Str)=Kd.other.s from rfl,Kd.beq])
 rw [Kd.beq] at e1
 by_cases h:p1=q1
 ·subst h
  rw [Gm z0 z1 z2 z3 p1 p2.s q2.s _ _ e1 e2]
  have:bad (p1,p2) (p1,q2)=(!decide (p2=q2)||decide (p2=.other)):=by
   unfold bad
   simp
  rw [this]
 ·have h':¬ (p1:Int)=q1:=by omega
  rw [Gj z0 z1 z2 z3 p1 q1 p2.s q2.s h']
  have:bad (p1,p2) (q1,q2)=false:=by
   unfold bad
   simp [h]
  rw [this]
  rfl
theorem vg (z0 z1 z2 z3:Sl) (p:Nat×Kd):∀ (qs:List (Nat×Kd)) (z6 z7:Sl),∃ y6 y7,loop (vi [gN 6,gN 7]) cI (qs.map oG) [z0,z1,z2,z3,.fz (.int p.1),.fz (.str p.2.s),z6,z7]=some (if qs.any (bad p) then .rt (.bool false) else .nx,[z0,z1,z2,z3,.fz (.int p.1),.fz (.str p.2.s),y6,y7])
 | [],z6,z7=>⟨z6,z7,rfl⟩
 | q::qs,z6,z7=>by
  obtain ⟨y6,y7,e⟩:=vg z0 z1 z2 z3 p qs (.fz (.int q.1)) (.fz (.str q.2.s))
  have st:=DL z0 z1 z2 z3 p q
  have g:vi [gN 6,gN 7] (oG q) [z0,z1,z2,z3,.fz (.int p.1),.fz (.str p.2.s),z6,z7]=some [z0,z1,z2,z3,.fz (.int p.1),.fz (.str p.2.s),.fz (.int q.1),.fz (.str q.2.s)]:=by simp [oG]
  cases h:bad p q with
  | true=>
   rw [h] at st
   refine ⟨.fz (.int q.1),.fz (.str q.2.s),?_⟩
   rw [List.map_cons,eM g st,List.any_cons,h]
   rfl
  | false=>
   rw [h] at st
   refine ⟨y6,y7,?_⟩
   rw [List.map_cons,bZ g st,e,List.any_cons,h]
   rfl
theorem AB (z0 z2 z3:Sl) (O:D) (p:Nat×Kd) (qs:List (Nat×Kd)) (hk:bN [O]=some (.list (qs.map oG))) (z6 z7:Sl):∃ y6 y7,dN [z0,.fz O,z2,z3,.fz (.int p.1),.fz (.str p.2.s),z6,z7]=some (if qs.any (bad p) then .rt (.bool false) else .nx,[z0,.fz O,z2,z3,.fz (.int p.1),.fz (.str p.2.s),y6,y7]):=by
 obtain ⟨y6,y7,e⟩:=vg z0 (.fz O) z2 z3 p qs z6 z7
 refine ⟨y6,y7,?_⟩
 rw [<- e]
 simp [dN,hk]
theorem rp (z0 z2 z3:Sl) (O:D) (qs:List (Nat×Kd)) (hk:bN [O]=some (.list (qs.map oG))):∀ (ps:List (Nat×Kd)) (z4 z5 z6 z7:Sl),∃ δ,loop (vi [gN 4,gN 5]) dN (ps.map oG) [z0,.fz O,z2,z3,z4,z5,z6,z7]=some (if ps.any (fun p=>qs.any (bad p)) then .rt (.bool false) else .nx,δ)
 | [],z4,z5,z6,z7=>⟨_,rfl⟩
 | p::ps,z4,z5,z6,z7=>by
  obtain ⟨y6,y7,st⟩:=AB z0 z2 z3 O p qs hk z6 z7
  have g:vi [gN 4,gN 5] (oG p) [z0,.fz O,z2,z3,z4,z5,z6,z7]=some [z0,.fz O,z2,z3,.fz (.int p.1),.fz (.str p.2.s),z6,z7]:=by simp [oG]
  cases h:qs.any (bad p) with
  | true=>
   rw [h] at st
   refine ⟨[z0,.fz O,z2,z3,.fz (.int p.1),.fz (.str p.2.s),y6,y7],?_⟩
   rw [List.map_cons,eM g st,List.any_cons,h]
   rfl
  | false=>
   rw [h] at st
   obtain ⟨δ,e⟩:=rp z0 z2 z3 O qs hk ps (.fz (.int p.1)) (.fz (.str p.2.s)) y6 y7
   refine ⟨δ,?_⟩
   rw [List.map_cons,bZ g st,e,List.any_cons,h]
   rfl
noncomputable def kR (r q:Rw) (m:Int):Bool:=match r with
 | .wflip k _=>q.isLook&&((k:Int)==m)
 | .wsign k _=>q.isLook&&((k:Int)==m)
 | _=>false
noncomputable def o0 (r q:Rw):Bool:=(kl r).any fun p=>(kl q).any (bad p)
noncomputable def jV (r q:Rw) (m:Int):Bool:=!(r.isLook&&q.isLook) && !(kR q r m||kR r q m) && !o0 r q
noncomputable def Rw.wd:Rw->Str
 | .pl (.swing _)=>"swing"
 | .pl (.turn _ _)=>"turn"
 | .pl (.flip _)=>"flip"
 | .pl (.tie _ _)=>"tie"
 | .pl (.sign _ _)=>"sign"
 | .pl (.cross _ _)=>"cross"
 | .look _=>"look"
 | .wflip _ _=>"where"
 | .wsign _ _=>"where"
theorem cp (r:Rw):aD (rwD r) (.int 0)=some (.str r.wd):=by
 cases r with
 | pl r=>cases r <;> exact at0 _ _
 | _=>exact at0 _ _
theorem eI (r:Rw):iZ r.wd=true:=by
 cases r with
 | pl r=>cases r; exact bb; exact aS; exact aT; exact bR; exact bF; exact cj
 | look j=>exact ba
 | wflip m j=>exact bn
 | wsign m j=>exact bn
noncomputable def Rw.isW:Rw->Bool
 | .wflip _ _=>true
 | .wsign _ _=>true
 | _=>false
theorem fU (r:Rw):(r.wd==("look":Str))=r.isLook:=by
 cases r with
 | pl r=>
  cases r
  ·exact (by decide +kernel:(("swing":Str) == "look")=false)
  ·exact (by decide +kernel:(("turn":Str) == "look")=false)
  ·exact (by decide +kernel:(("flip":Str) == "look")=false)
  ·exact (by decide +kernel:(("tie":Str) == "look")=false)
  ·exact (by decide +kernel:(("sign":Str) == "look")=false)
  ·exact (by decide +kernel:(("cross":Str) == "look")=false)
 | look j=>exact (by decide +kernel:(("look":Str) == "look")=true)
 | wflip m j=>exact (by decide +kernel:(("where":Str) == "look")=false)
 | wsign m j=>exact (by decide +kernel:(("where":Str) == "look")=false)
theorem mj (r:Rw):(r.wd==("where":Str))=r.isW:=by
 cases r with
 | pl r=>
  cases r
  ·exact (by decide +kernel:(("swing":Str) == "where")=false)
  ·exact (by decide +kernel:(("turn":Str) == "where")=false)
  ·exact (by decide +kernel:(("flip":Str) == "where")=false)
  ·exact (by decide +kernel:(("tie":Str) == "where")=false)
  ·exact (by decide +kernel:(("sign":Str) == "where")=false)
  ·exact (by decide +kernel:(("cross":Str) == "where")=false)
 | look j=>exact (by decide +kernel:(("look":Str) == "where")=false)
 | wflip m j=>exact (by decide +kernel:(("where":Str) == "where")=true)
 | wsign m j=>exact (by decide +kernel:(("where":Str) == "where")=true)
theorem gm (r:Rw):aO (.str r.wd) (.str "look")=some (.bool r.isLook):=by rw [du (eI r) ba,fU]
theorem lR (r:Rw):neD (.str r.wd) (.str "look")=some (.bool (!r.isLook)):=by rw [ID (eI r) ba,fU]
theorem sF (r:Rw):aO (.str r.wd) (.str "where")=some (.bool r.isW):=by rw [du (eI r) bn,mj]
theorem vR {a:Str} (h:iZ a=true):(PyData.str a).canLay0=true:=(Bool.and_eq_true_iff.mp h).1
theorem DW {a b c d:Str} (ha:iZ a=true) (hb:iZ b=true) (hc:iZ c=true) (hd:iZ d=true):aO (.list [.str a,.str b]) (.list [.str c,.str d])=some (.bool (a==c&&b==d)):=by
 have h1:kW (.list [.str a,.str b])=true:=by
  show (PyData.canLay0 _&&decide (PyData.depth _<=64))=true
  have x1:=vR ha; have x2:=vR hb
  simp [PyData.canLay0,PyData.canLayAll0,PyData.depth,PyData.depthAll] at x1 x2 ⊢
  exact ⟨x1,x2⟩
 have h2:kW (.list [.str c,.str d])=true:=by
  show (PyData.canLay0 _&&decide (PyData.depth _<=64))=true
  have x1:=vR hc; have x2:=vR hd
  simp [PyData.canLay0,PyData.canLayAll0,PyData.depth,PyData.depthAll] at x1 x2 ⊢
  exact ⟨x1,x2⟩
 unfold aO
 rw [if_pos ⟨h1,h2⟩]
 simp [PyData.eqv,PyData.eqvAll]
theorem xT {r:Rw} (h:r.isW=true):∃ k:Nat,aD (rwD r) (.int 1)=some (.int k)/\∀ q m,kR r q m=(q.isLook&&((k:Int)==m)):=by
 cases r with
 | wflip k j=>exact ⟨k,at1 _ _ _,fun _ _=>rfl⟩
 | wsign k j=>exact ⟨k,at1 _ _ _,fun _ _=>rfl⟩
 | _=>cases h
theorem qA {r:Rw} (h:r.isW=false) (q:Rw) (m:Int):kR r q m=false:=by
 cases r with
 | wflip k j=>cases h
 | wsign k j=>cases h
 | _=>rfl
theorem IK (A B:D) (m ka kb:Int) (a b:Str) (s1 s2 s3 c1 c2 cl:Bool) (δ:Dv) (a0:aD A (.int 0)=some (.str a)) (b0:aD B (.int 0)=some (.str b)) (L:List D) (hA:bN [A]=some (.list L))
  (e1:aO (.list [.str a,.str b]) (.list [.str "look",.str "look"])=some (.bool s1)) (e2:aO (.list [.str a,.str b]) (.list [.str "look",.str "where"])=some (.bool s2)) (e3:aO (.list [.str a,.str b]) (.list [.str "where",.str "look"])=some (.bool s3))
  (m1:s2=true->aD B (.int 1)=some (.int kb)/\(kb==m)=c1) (m2:s3=true->aD A (.int 1)=some (.int ka)/\(ka==m)=c2) (lp:loop (vi [gN 4,gN 5]) dN L [.fz A,.fz B,.fz (.int m),.fz (.list [.str a,.str b]),.un,.un,.un,.un]=some (if cl then .rt (.bool false) else .nx,δ)) :
  bI [A,B,.int m]=some (.bool (!s1 && !((s2&&c1)||(s3&&c2)) && !cl)):=by
 cases s1 with
 | true=>simp [-sSeq,-sIf,ah,ao,bI,runB,cF,aj,a0,b0,e1]
 | false=>
  cases s2 with
  | true=>
   obtain ⟨q1,q2⟩:=m1 rfl
   cases c1 with
   | true=>simp [-sSeq,-sIf,ah,ao,bI,runB,cF,aj,a0,b0,e1,e2,q1,q2]
   | false=>
    cases s3 with
    | true=>
     obtain ⟨q3,q4⟩:=m2 rfl
     cases c2 <;> cases cl <;> simp [-sSeq,-sIf,ah,ao,bI,runB,cF,aj,a0,b0,e1,e2,e3,q1,q2,q3,q4,hA] <;> simp [lp]
    | false=>cases cl <;> simp [-sSeq,-sIf,ah,ao,bI,runB,cF,aj,a0,b0,e1,e2,e3,q1,q2,hA] <;> simp [lp]
  | false=>
   cases s3 with
   | true=>
    obtain ⟨q3,q4⟩:=m2 rfl
    cases c2 <;> cases cl <;> simp [-sSeq,-sIf,ah,ao,bI,runB,cF,aj,a0,b0,e1,e2,e3,q3,q4,hA] <;> simp [lp]
   | false=>cases cl <;> simp [-sSeq,-sIf,ah,ao,bI,runB,cF,aj,a0,b0,e1,e2,e3,hA] <;> simp [lp]
theorem x8 (r q:Rw) (m:Int):bI [rwD r,rwD q,.int m]=some (.bool (jV r q m)):=by
 have e1:=DW (eI r) (eI q) ba ba
 have e2:=DW (eI r) (eI q) ba bn
 have e3:=DW (eI r) (eI q) bn ba
 rw [fU,fU] at e1
 rw [fU,mj] at e2
 rw [mj,fU] at e3
 obtain ⟨δ,lp⟩:=rp (.fz (rwD r)) (.fz (.int m)) (.fz (.list [.str r.wd,.str q.wd])) (rwD q) (kl q) (kF q) (kl r) .un .un .un .un
 obtain ⟨kb,c1,m1,w1⟩:∃ (kb:Int) (c1:Bool),((r.isLook&&q.isW)=true->aD (rwD q) (.int 1)=some (.int kb)/\(kb==m)=c1)/\((r.isLook&&q.isW&&c1)=kR q r m):=by
  cases h:q.isW with
  | true=>
   obtain ⟨k,h1,h2⟩:=xT h
   exact ⟨k,_,fun _=>⟨h1,rfl⟩,by rw [h2]; simp⟩
  | false=>exact ⟨0,false,fun z=>by simp at z,by rw [qA h]; simp⟩
 obtain ⟨ka,c2,m2,w2⟩:∃ (ka:Int) (c2:Bool),((r.isW&&q.isLook)=true->aD (rwD r) (.int 1)=some (.int ka)/\(ka==m)=c2)/\((r.isW&&q.isLook&&c2)=kR r q m):=by
  cases h:r.isW with
  | true=>
   obtain ⟨k,h1,h2⟩:=xT h
   exact ⟨k,_,fun _=>⟨h1,rfl⟩,by rw [h2]; simp⟩
  | false=>exact ⟨0,false,fun z=>by simp at z,by rw [qA h]; simp⟩
 have:=IK (rwD r) (rwD q) m ka kb _ _ _ _ _ c1 c2 (o0 r q) δ (cp r) (cp q) _ (kF r) e1 e2 e3 m1 m2 lp
 rw [w1,w2] at this
 exact this
noncomputable def wl:Rw->List Nat
 | .pl (.swing j)=>[j]
 | .pl (.turn j _)=>[j]
 | .pl (.flip j)=>[j]
 | .pl (.tie i j)=>[min i j,max i j]
 | .pl (.sign i j)=>[min i j,max i j]
 | .pl (.cross i j)=>[min i j,max i j]
 | .look j=>[j]
 | .wflip _ j=>[j]
 | .wsign _ j=>[j]
theorem tu (G:List D->Option D) (r:Row):runB eh 1 (bS G) [rowD r]=some (.tuple ((wl (.pl r)).map fun n:Nat=>.int n)):=by
 cases r with
 | swing j=>simp [-sSeq,-sIf,ah,ao,runB,bS,aj,rowD,wl]
 | turn j e=>simp [-sSeq,-sIf,ah,ao,runB,bS,aj,rowD,wl]
 | flip j=>simp [-sSeq,-sIf,ah,ao,runB,bS,aj,rowD,wl]
 | tie i j=>simp [-sSeq,-sIf,ah,ao,runB,bS,aj,rowD,wl]; refine ⟨?_,?_⟩ <;> split <;> omega
 | sign i j=>simp [-sSeq,-sIf,ah,ao,runB,bS,aj,rowD,wl]; refine ⟨?_,?_⟩ <;> split <;> omega
 | cross i j=>simp [-sSeq,-sIf,ah,ao,runB,bS,aj,rowD,wl]; refine ⟨?_,?_⟩ <;> split <;> omega
theorem qK (G:List D->Option D) (m:Int) (I L:D) (h:G [I]=some L):runB eh 1 (bS G) [.tuple [.str "where",.int m,I]]=some L:=by
 simp [-sSeq,-sIf,ah,ao,runB,bS,aj,h]
theorem zJ (G:List D->Option D) (j:Nat):runB eh 1 (bS G) [rwD (.look j)]=some (.tuple ((wl (.look j)).map fun n:Nat=>.int n)):=by
 simp [-sSeq,-sIf,ah,ao,runB,bS,aj,rwD,wl]
theorem jy (r:Rw):bt [rwD r]=some (.tuple ((wl r).map fun n:Nat=>.int n)):=by
 cases r with
 | pl r=>exact tu (ci 7) r
 | look j=>exact zJ (ci 7) j
 | wflip m j=>exact qK (ci 7) m _ _ (tu (ci 6) (.flip j))
 | wsign m j=>exact qK (ci 7) m _ _ (tu (ci 6) (.turn j 4))
noncomputable def inr:Rw->D
 | .wflip _ j=>.tuple [.str "flip",.int j]
 | .wsign _ j=>.tuple [.str "turn",.int j,.int 4]
 | r=>rwD r
theorem sv (r:Rw):bO [rwD r]=some (inr r):=by
 cases r with
 | pl r=>cases r <;> simp [-sSeq,-sIf,ah,ao,bO,runB,dH,aj,rwD,rowD,inr]
 | look j=>simp [-sSeq,-sIf,ah,ao,bO,runB,dH,aj,rwD,inr]
 | wflip m j=>simp [-sSeq,-sIf,ah,ao,bO,runB,dH,aj,rwD,inr]
 | wsign m j=>simp [-sSeq,-sIf,ah,ao,bO,runB,dH,aj,rwD,inr]
noncomputable def fl (r:Rw) (w:Nat):Option Bool:=match r with
 | .pl (.swing _)=>none
 | .pl (.cross _ _)=>none
 | .pl (.flip _)=>some true
 | .wflip _ _=>some true
 | .pl (.tie _ j)=>some (j==w)
 | _=>some false
noncomputable def nZ:Option Bool->D
 | none=>.none
 | some b=>.bool b
theorem wB:dP false (.str "swing") (.tuple [.str "swing",.str "cross"])=some (.bool true):=by rfl
theorem wD:dP false (.str "cross") (.tuple [.str "swing",.str "cross"])=some (.bool true):=by rfl
theorem sy:dP false (.str "turn") (.tuple [.str "swing",.str "cross"])=some (.bool false):=by rfl
theorem sA:dP false (.str "flip") (.tuple [.str "swing",.str "cross"])=some (.bool false):=by rfl
theorem Bm:dP false (.str "tie") (.tuple [.str "swing",.str "cross"])=some (.bool false):=by rfl
theorem yq:dP false (.str "sign") (.tuple [.str "swing",.str "cross"])=some (.bool false):=by rfl
theorem yr:dP false (.str "look") (.tuple [.str "swing",.str "cross"])=some (.bool false):=by rfl
theorem lS (a b:Nat):(((a:Int)==(b:Int)):Bool)=(a==b):=by
 rw [Bool.eq_iff_iff,beq_iff_eq,beq_iff_eq]; omega
theorem j3 (r:Rw) (w:Nat):cv [inr r,.int w]=some (nZ (fl r w)):=by
 cases r with
 | pl r=>
  cases r with
  | swing j=>simp [-sSeq,-sIf,ah,ao,cv,runB,dW,aj,rwD,rowD,inr,fl,nZ,wB]
  | turn j e=>simp [-sSeq,-sIf,ah,ao,cv,runB,dW,aj,rwD,rowD,inr,fl,nZ,sy]
  | flip j=>simp [-sSeq,-sIf,ah,ao,cv,runB,dW,aj,rwD,rowD,inr,fl,nZ,sA]
  | tie i j=>simp [-sSeq,-sIf,ah,ao,cv,runB,dW,aj,rwD,rowD,inr,fl,nZ,Bm]; exact lS j w
  | sign i j=>simp [-sSeq,-sIf,ah,ao,cv,runB,dW,aj,rwD,rowD,inr,fl,nZ,yq]
  | cross i j=>simp [-sSeq,-sIf,ah,ao,cv,runB,dW,aj,rwD,rowD,inr,fl,nZ,wD]
 | look j=>simp [-sSeq,-sIf,ah,ao,cv,runB,dW,aj,rwD,inr,fl,nZ,yr]
 | wflip m j=>simp [-sSeq,-sIf,ah,ao,cv,runB,dW,aj,inr,fl,nZ,sA]
 | wsign m j=>simp [-sSeq,-sIf,ah,ao,cv,runB,dW,aj,inr,fl,nZ,sy]
noncomputable def nC (r q:Rw) (w:Nat):Bool:=match fl r w with
 | none=>false
 | some b=>fl q w==some b
theorem DT (b:Bool):aO (.bool b) .none=some (.bool false):=by cases b <;> rfl
theorem yV (A B F G:D) (w:Int) (b1:Bool) (r:Bool) (f1:cv [A,.int w]=some F) (f2:cv [B,.int w]=some G) (h1:yo F=!b1) (h2:b1=true->aO F G=some (.bool r)):ca [A,B,.int w]=some (.bool (b1&&r)):=by
 cases b1 with
 | false=>simp [-sSeq,-sIf,ah,ao,ca,runB,fA,aj,f1,h1]
 | true=>have h2:=h2 rfl; simp [-sSeq,-sIf,ah,ao,ca,runB,fA,aj,f1,f2,h1,h2]
theorem BL (r q:Rw) (w:Nat):ca [inr r,inr q,.int w]=some (.bool (nC r q w)):=by
 unfold nC
 cases h:fl r w with
 | none=>exact yV _ _ _ _ w false false (j3 r w) (j3 q w) (by rw [h]; rfl) (fun z=>nomatch z)
 | some b=>
  have:=yV _ _ _ _ w true (fl q w==some b) (j3 r w) (j3 q w) (by rw [h]; rfl) (fun _=>by
   rw [h]
   cases h2:fl q w with
   | none=>exact DT b
   | some c=>show aO (.bool b) (.bool c)=_; rw [yL]; cases b <;> cases c <;> rfl)
  rw [Bool.true_and] at this
  exact this
theorem jY (w:Nat) (ws:List Nat):dP false (.int w) (.tuple (ws.map fun n:Nat=>.int n))=some (.bool (ws.any (· == w))):=by
 have h1:(ws.map fun n:Nat=>PyData.int n).all yB=true:=by rw [List.all_eq_true]; intro x hx; obtain ⟨r,_,rfl⟩:=List.mem_map.mp hx; rfl
 have h2:sB (.int w) (ws.map fun n:Nat=>PyData.int n)=ws.any (· == w):=by
  unfold sB
  rw [List.any_map]
  exact congrArg (fun z=>ws.any z) (funext fun n=>by
   show PyData.eqv (.int n) (.int w)=_
   simp only [PyData.eqv]
   exact lS n w)
 unfold dP
 show (if _ then _ else _)=_
 rw [if_pos ⟨rfl,h1⟩,h2]
 rfl
noncomputable def tL (r q:Rw):List Nat:=(wl r).filter fun w=>(wl q).any (· == w)
theorem wU (r:Rw):(wl r).length<=2:=by
 cases r with
 | pl r=>cases r <;> simp [wl]
 | _=>simp [wl]
theorem KD (r q:Rw) (z2 z3:Sl):jm [.fz (rwD r),.fz (rwD q),z2,z3]=some (.list ((tL r q).map fun n:Nat=>.int n)):=by
 have hr:=jy r
 have hq:=jy q
 have:=fF (fi:=oI (VL.os (ae (oV 0) (aq)) bt) cY) (caps:=[(1,"other")]) (ft:=ob (o2 (oV 0) (VL.os (ae (oV 1) (aq)) bt) (dP false))) (fe:=oV 0) (δ:=[.fz (rwD r),.fz (rwD q),z2,z3]) (h:=fun n:Nat=>PyData.int n) (k:=fun n:Nat=>PyData.int n) (b:=fun w=>(wl q).any (· == w)) (xs:=wl r) (by simp [hr]) (Nat.le_trans (wU r) (by decide)) (fun w _=>by simp [dS,hq,jY]) (fun w _ _=>by simp)
 exact this
theorem KC (r q:Rw) (z2:Sl):jl [.fz (rwD r),.fz (rwD q),z2,.fz (.list ((tL r q).map fun n:Nat=>.int n))]=some (.list ((tL r q).map fun w=>.bool (nC r q w))):=by
 have hr:=sv r
 have hq:=sv q
 have:=fO (fi:=oI (oV 3) cY) (caps:=[(0,"one"),(1,"other")]) (fe:=VL.os (ae (VL.os (ae (oV 1) (aq)) bO) (ae (VL.os (ae (oV 2) (aq)) bO) (ae (oV 0) (aq)))) ca) (δ:=[.fz (rwD r),.fz (rwD q),z2,.fz (.list ((tL r q).map fun n:Nat=>.int n))]) (h:=fun n:Nat=>PyData.int n) (k:=fun w=>.bool (nC r q w)) (xs:=tL r q) (by simp) (Nat.le_trans (List.length_filter_le _ _) (Nat.le_trans (wU r) (by decide))) (fun w _=>by simp [dS,hr,hq,BL])
 exact this
theorem G1 (A B M:D) (a b:Str) (k:D) (s1 s2 c:Bool) (a0:aD A (.int 0)=some (.str a)) (b0:aD B (.int 0)=some (.str b)) (e1:aO (.str a) (.str "where")=some (.bool s1)) (e2:aO (.str b) (.str "look")=some (.bool s2)) (h:s1=true->s2=true->aD A (.int 1)=some k/\aO k M=some (.bool c)):b9 [A,B,M]=some (.bool (s1&&s2&&c)):=by
 cases s1 with
 | false=>simp [-sSeq,-sIf,ah,ao,b9,runB,fQ,aj,a0,e1]
 | true=>
  cases s2 with
  | false=>simp [-sSeq,-sIf,ah,ao,b9,runB,fQ,aj,a0,b0,e1,e2]
  | true=>
   obtain ⟨h1,h2⟩:=h rfl rfl
   simp [-sSeq,-sIf,ah,ao,b9,runB,fQ,aj,a0,b0,e1,e2,h1,h2]
theorem vE (r q:Rw) (M:D) (m:Int) (hM:M=.int m\/(M=.none/\m = -1)):b9 [rwD r,rwD q,M]=some (.bool (kR r q m)):=by
 cases h:r.isW with
 | true=>
  obtain ⟨k,h1,h2⟩:=xT h
  have:=G1 (rwD r) (rwD q) M _ _ (.int k) true q.isLook ((k:Int)==m) (cp r) (cp q) (by rw [sF,h]) (gm q) (fun _ _=>⟨h1,by
   rcases hM with rfl | ⟨rfl,rfl⟩
   ·exact Bu _ _
   ·have:((k:Int) == -1)=false:=by
     have:¬ (k:Int) = -1:=by omega
     simpa using this
    rw [this]; rfl⟩)
  rw [h2]
  simpa using this
 | false=>
  have:=G1 (rwD r) (rwD q) M _ _ .none false q.isLook false (cp r) (cp q) (by rw [sF,h]) (gm q) (fun z=>nomatch z)
  rw [qA h]
  simpa using this
theorem IQ (A B M:D) (a b:Str) (s1 s2 c1 c2 r:Bool) (S L:D) (a0:aD A (.int 0)=some (.str a)) (b0:aD B (.int 0)=some (.str b)) (e1:aO (.str a) (.str "look")=some (.bool s1)) (e2:aO (.str b) (.str "look")=some (.bool s2)) (h1:b9 [A,B,M]=some (.bool c1)) (h2:b9 [B,A,M]=some (.bool c2)) (p1:jm [.fz A,.fz B,.fz M,.un]=some S) (p2:jl [.fz A,.fz B,.fz M,.fz S]=some L) (al:yZ [L]=some (.bool r)):cO [A,B,M]=some (.bool (!(s1&&s2) && !(c2||c1)&&r)):=by
 cases s1 <;> cases s2 <;> cases c1 <;> cases c2 <;> simp [-sSeq,-sIf,ah,ao,cO,runB,kQ,aj,a0,b0,e1,e2,h1,h2,p1,p2,al]
noncomputable def free (r q:Rw):Bool:=(tL r q).all (nC r q)
theorem ua (r q:Rw) (M:D) (m:Int) (hM:M=.int m\/(M=.none/\m = -1)):cO [rwD r,rwD q,M]=some (.bool (!(r.isLook&&q.isLook) && !(kR q r m||kR r q m)&&free r q)):=by
 refine IQ (rwD r) (rwD q) M _ _ _ _ _ _ _ _ _ (cp r) (cp q) (gm r) (gm q) (vE r q M m hM) (vE q r M m hM) (KD r q _ _) (KC r q _) ?_
 rw [yY]
 rfl
theorem ot {r:Rw} (w:Nat):w∈wl r↔∃ k,(w,k)∈kl r:=by
 cases r with
 | pl r=>
  cases r with
  | tie i j=>
   simp only [wl,kl,List.mem_cons,List.not_mem_nil,or_false,Prod.mk.injEq]
   constructor
   ·intro h
    have:w=i\/w=j:=by omega
    rcases this with h | h
    ·exact ⟨.hold,.inl ⟨h,rfl⟩⟩
    ·exact ⟨.flip,.inr ⟨h,rfl⟩⟩
   ·rintro ⟨k,⟨h,_⟩ | ⟨h,_⟩⟩ <;> omega
  | sign i j=>
   simp only [wl,kl,List.mem_cons,List.not_mem_nil,or_false,Prod.mk.injEq]
   constructor
   ·intro h
    have:w=i\/w=j:=by omega
    rcases this with h | h
    ·exact ⟨.hold,.inl ⟨h,rfl⟩⟩
    ·exact ⟨.hold,.inr ⟨h,rfl⟩⟩
   ·rintro ⟨k,⟨h,_⟩ | ⟨h,_⟩⟩ <;> omega
  | cross i j=>
   simp only [wl,kl,List.mem_cons,List.not_mem_nil,or_false,Prod.mk.injEq]
   constructor
   ·intro h
    have:w=i\/w=j:=by omega
    rcases this with h | h
    ·exact ⟨.other,.inl ⟨h,rfl⟩⟩
    ·exact ⟨.other,.inr ⟨h,rfl⟩⟩
   ·rintro ⟨k,⟨h,_⟩ | ⟨h,_⟩⟩ <;> omega
  | _=>simp [wl,kl]
 | _=>simp [wl,kl]
noncomputable def Kd.c:Kd->Option Bool
 | .hold=>some false
 | .flip=>some true
 | .other=>none
theorem vk {r:Rw} (h:fq r) {w:Nat} {k:Kd} (hk:(w,k)∈kl r):fl r w=k.c:=by
 cases r with
 | pl r=>
  cases r with
  | tie i j=>
   have h:i≠j:=h
   simp only [kl,List.mem_cons,Prod.mk.injEq,List.not_mem_nil,or_false] at hk
   rcases hk with ⟨rfl,rfl⟩ | ⟨rfl,rfl⟩
   ·have:(j==w)=false:=by simpa using (Ne.symm h)
    simp [fl,Kd.c,this]
   ·simp [fl,Kd.c]
  | swing j=>simp only [kl,List.mem_cons,Prod.mk.injEq,List.not_mem_nil,or_false] at hk; obtain ⟨rfl,rfl⟩:=hk; rfl
  | turn j e=>simp only [kl,List.mem_cons,Prod.mk.injEq,List.not_mem_nil,or_false] at hk; obtain ⟨rfl,rfl⟩:=hk; rfl
  | flip j=>simp only [kl,List.mem_cons,Prod.mk.injEq,List.not_mem_nil,or_false] at hk; obtain ⟨rfl,rfl⟩:=hk; rfl
  | sign i j=>simp only [kl,List.mem_cons,Prod.mk.injEq,List.not_mem_nil,or_false] at hk; rcases hk with ⟨rfl,rfl⟩ | ⟨rfl,rfl⟩ <;> rfl
  | cross i j=>simp only [kl,List.mem_cons,Prod.mk.injEq,List.not_mem_nil,or_false] at hk; rcases hk with ⟨rfl,rfl⟩ | ⟨rfl,rfl⟩ <;> rfl
 | look j=>simp only [kl,List.mem_cons,Prod.mk.injEq,List.not_mem_nil,or_false] at hk; obtain ⟨rfl,rfl⟩:=hk; rfl
 | wflip m j=>simp only [kl,List.mem_cons,Prod.mk.injEq,List.not_mem_nil,or_false] at hk; obtain ⟨rfl,rfl⟩:=hk; rfl
 | wsign m j=>simp only [kl,List.mem_cons,Prod.mk.injEq,List.not_mem_nil,or_false] at hk; obtain ⟨rfl,rfl⟩:=hk; rfl
theorem um {r q:Rw} (hr:fq r) (hq:fq q):free r q=!o0 r q:=by
 have key:free r q=true↔o0 r q=false:=by
  unfold free o0 tL
  rw [List.all_eq_true,List.any_eq_false]
  constructor
  ·intro h p hp z
   obtain ⟨q',hq',hb⟩:=List.any_eq_true.mp z
   obtain ⟨w,k⟩:=p
   obtain ⟨w',k'⟩:=q'
   unfold bad at hb
   obtain ⟨hb1,hb2⟩:=Bool.and_eq_true_iff.mp hb
   have e:w=w':=by simpa using hb1
   subst e
   have al:=h w (List.mem_filter.mpr ⟨ot w |>.mpr ⟨k,hp⟩,List.any_eq_true.mpr ⟨w,ot w |>.mpr ⟨k',hq'⟩,by simp⟩⟩)
   unfold nC at al
   rw [vk hr hp,vk hq hq'] at al
   cases k <;> cases k' <;> simp [Kd.c] at al hb2
  ·intro h w hw
   obtain ⟨h1,h2⟩:=List.mem_filter.mp hw
   obtain ⟨w2,h3,h4⟩:=List.any_eq_true.mp h2
   have e:w2=w:=by simpa using h4
   subst e
   obtain ⟨k,hk⟩:=(ot w2).mp h1
   obtain ⟨k',hk'⟩:=(ot w2).mp h3
   have nb:bad (w2,k) (w2,k')=false:=by
    cases e:bad (w2,k) (w2,k') with
    | false=>rfl
    | true=>exact absurd (List.any_eq_true.mpr ⟨_,hk',e⟩) (h _ hk)
   unfold nC
   rw [vk hr hk,vk hq hk']
   cases k <;> cases k' <;> simp [bad,Kd.c] at nb ⊢
 cases h1:free r q <;> cases h2:o0 r q <;> simp_all
theorem FV {r q:Rw} (hr:fq r) (hq:fq q) (M:D) (m:Int) (hM:M=.int m\/(M=.none/\m = -1)):cO [rwD r,rwD q,M]=some (.bool (jV r q m)):=by
 rw [ua r q M m hM,um hr hq]
 rfl
noncomputable def IB:Sf:=bP 5 (os (ae (oV 4) (ae (oV 1) (ae (oV 3) (ae (oC (.bool false)) (aq))))) aZ)
noncomputable def IA:Sf:=bP 6 (o2 (os (ae (o2 (oV 4) (oC (.int 5)) il) (ae (oC (.int 86028121)) (aq))) bH) (oC (.int 7)) il)
noncomputable def xQ:Sf:=sIf (i8 2 (dB (ob (o2 (o2 (oV 4) (oC (.int 5)) ck) (oC (.int 2)) rR)) (dB (ob (o2 (oV 2) (os (aq) cQ) neD)) (ob (o2 (o2 (o2 (oV 2) (o2 (oV 6) (os (ae (oV 2) (aq)) da) ck) aD) (oC (.int 0)) aD) (oC (.str "look")) neD))))) (sSeq (bP 5 (Df 2 (o2 (oV 6) (u6 2) ck))) (sIf (dB (ob (o2 (o2 (oV 5) (oC (.int 0)) aD) (os (ae (oC (.str "sign")) (ae (oC (.str "cross")) (aq))) bh) (dP false))) (ob (o2 (o2 (o2 (oV 6) (oC (.int 64)) il) (oC (.int 2)) ck) (oC (.int 1)) aO))) (bP 5 (os (ae (o2 (oV 5) (oC (.int 0)) aD) (ae (o2 (oV 5) (oC (.int 2)) aD) (ae (o2 (oV 5) (oC (.int 1)) aD) (aq)))) bh)) (cZ))) (cZ)
noncomputable def Es:Sf:=sIf (dB (ob (o2 (o2 (oV 5) (oC (.int 0)) aD) (oC (.str "look")) aO)) (ob (o2 (oV 3) (oC (.int 3)) aO))) (bP 5 (os (ae (oC (.str "swing")) (ae (o2 (oV 5) (oC (.int 1)) aD) (aq))) bh)) (cZ)
noncomputable def Iz:Sf:=bP 3 (o2 (oV 3) (os (ae (o2 (o2 (oV 5) (oC (.int 0)) aD) (oC (.str "look")) aO) (aq)) yp) bd)
noncomputable def Iy:Sf:=pE 2 (oV 5)
theorem xN:di=sSeq IB (sSeq IA (sSeq xQ (sSeq Es (sSeq Iz (Iy))))):=rfl
theorem AQ (c p:Int) (hp:0<p):∃ T:Nat,bH [.int c,.int p]=some (.int T):=by
 have h0:0<=c % 1000003:=Int.emod_nonneg _ (by decide)
 have h1:c % 1000003<1000003:=Int.emod_lt_of_pos _ (by decide)
 have m:IntMulOk (c % 1000003+11) (c % 1000003+48271):=.of_left (Nat.le_trans (MA.vB (m:=21) (by omega)) (by decide))
 have h2:0<=(c % 1000003+11)*(c % 1000003+48271) % p:=Int.emod_nonneg _ (by omega)
 refine ⟨((c % 1000003+11)*(c % 1000003+48271) % p).toNat,?_⟩
 rw [Int.toNat_of_nonneg h2]
 simp [-sSeq,-sIf,ah,ao,bH,runB,gw,aj,m,hp]
noncomputable def Fc (r:Rw):MA.Sh 2 (rwD r):=by
 have a:=fun k=>MA.Sh.int k
 have st:∀ (k:Nat) {s:Str},iZ s=true->MA.Sh k (.str s):=fun k s h=>⟨vR h,by simp [PyData.depth]⟩
 cases r with
 | pl r=>
  cases r <;> refine MA.Sh.tuple fun x hx=>?_ <;> simp only [List.mem_cons,List.not_mem_nil,or_false] at hx
  ·rcases hx with rfl | rfl; exact st 1 bb; exact a 1 _
  ·rcases hx with rfl | rfl | rfl; exact st 1 aS; exact a 1 _; exact a 1 _
  ·rcases hx with rfl | rfl; exact st 1 aT; exact a 1 _
  ·rcases hx with rfl | rfl | rfl; exact st 1 bR; exact a 1 _; exact a 1 _
  ·rcases hx with rfl | rfl | rfl; exact st 1 bF; exact a 1 _; exact a 1 _
  ·rcases hx with rfl | rfl | rfl; exact st 1 cj; exact a 1 _; exact a 1 _
 | look j=>
  refine MA.Sh.tuple fun x hx=>?_
  simp only [List.mem_cons,List.not_mem_nil,or_false] at hx
  rcases hx with rfl | rfl; exact st 1 ba; exact a 1 _
 | wflip m j=>
  refine MA.Sh.tuple fun x hx=>?_
  simp only [List.mem_cons,List.not_mem_nil,or_false] at hx
  rcases hx with rfl | rfl | rfl
  ·exact st 1 bn
  ·exact a 1 _
  ·refine MA.Sh.tuple fun x hx=>?_
   simp only [List.mem_cons,List.not_mem_nil,or_false] at hx
   rcases hx with rfl | rfl; exact st 0 aT; exact a 0 _
 | wsign m j=>
  refine MA.Sh.tuple fun x hx=>?_
  simp only [List.mem_cons,List.not_mem_nil,or_false] at hx
  rcases hx with rfl | rfl | rfl
  ·exact st 1 bn
  ·exact a 1 _
  ·refine MA.Sh.tuple fun x hx=>?_
   simp only [List.mem_cons,List.not_mem_nil,or_false] at hx
   rcases hx with rfl | rfl | rfl; exact st 0 aS; exact a 0 _; exact a 0 _
theorem Dg (rs:List Rw):neD (.list (rs.map rwD)) (.list [])=some (.bool (!rs.isEmpty)):=by
 have h:MA.Sh 3 (.list (rs.map rwD)):=MA.Sh.list fun x hx=>by obtain ⟨r,_,rfl⟩:=List.mem_map.mp hx; exact Fc r
 have h1:kW (.list (rs.map rwD))=true:=by
  show (PyData.canLay0 _&&decide (PyData.depth _<=64))=true
  rw [h.1,decide_eq_true (Nat.le_trans h.2 (by decide))]; rfl
 have h2:kW (.list ([]:List D))=true:=by rfl
 unfold neD
 rw [if_pos ⟨h1,h2⟩]
 cases rs with
 | nil=>rfl
 | cons r rs=>simp [PyData.eqv,PyData.eqvAll]
section
variable (z0 z1:Sl) (l c:Int) (hz0:nW z0=false) (hz1:nW z1=false)
include hz0 hz1
theorem Dd (rs:List Rw) (R:D) (sd:Int) (h:¬ c % 5<2\/rs=[]):xQ [z0,z1,.ow (rs.map rwD),.fz (.int l),.fz (.int c),.fz R,.fz (.int sd)]=some (.nx,[z0,z1,.ow (rs.map rwD),.fz (.int l),.fz (.int c),.fz R,.fz (.int sd)]):=by
 by_cases h1:c % 5<2
 ·have e:rs=[]:=by rcases h with h | h; exact absurd h1 h; exact h
  subst e
  have nn:neD (.list ([]:List D)) (.list [])=some (.bool false):=rfl
  simp [-sSeq,-sIf,ah,ao,xQ,i8,dFz,hz0,hz1,h1,nn]
 ·simp [-sSeq,-sIf,ah,ao,xQ,i8,dFz,hz0,hz1,h1]
theorem xP (ds:List D) (R Q:D) (q:Str) (sd k n:Int) (h1:c % 5<2) (nn:neD (.list ds) (.list [])=some (.bool true)) (hn:(ds.length:Int)=n) (hk:ck (.int sd) (.int n)=some (.int k)) (hQ:lj ds k=some Q) (q0:aD Q (.int 0)=some (.str q)) (ql:neD (.str q) (.str "look")=some (.bool false)):xQ [z0,z1,.ow ds,.fz (.int l),.fz (.int c),.fz R,.fz (.int sd)]=some (.nx,[z0,z1,.ow ds,.fz (.int l),.fz (.int c),.fz R,.fz (.int sd)]):=by
 simp [-sSeq,-sIf,ah,ao,xQ,i8,dFz,hz0,hz1,h1,nn,hn,hk,hQ,q0,ql]
theorem pT (ds:List D) (R Q Q':D) (q:Str) (sd k n:Int) (b:Bool) (h1:c % 5<2) (nn:neD (.list ds) (.list [])=some (.bool true)) (hn:(ds.length:Int)=n) (hk:ck (.int sd) (.int n)=some (.int k)) (hQ:lj ds k=some Q) (q0:aD Q (.int 0)=some (.str q)) (ql:neD (.str q) (.str "look")=some (.bool true)) (qs:dP false (.str q) (.tuple [.str "sign",.str "cross"])=some (.bool b)) (hb:b=true->∃ x y,aD Q (.int 1)=some x/\aD Q (.int 2)=some y/\Q'=.tuple [.str q,y,x]):xQ [z0,z1,.ow ds,.fz (.int l),.fz (.int c),.fz R,.fz (.int sd)]=some (.nx,[z0,z1,.ow ds,.fz (.int l),.fz (.int c),.fz (if b=true/\sd / 64 % 2=1 then Q' else Q),.fz (.int sd)]):=by
 cases b with
 | false=>simp [-sSeq,-sIf,ah,ao,xQ,i8,dFz,hz0,hz1,h1,nn,hn,hk,hQ,q0,ql,qs]
 | true=>
  obtain ⟨x,y,x1,y1,rfl⟩:=hb rfl
  by_cases h2:sd / 64 % 2=1
  ·simp [-sSeq,-sIf,ah,ao,xQ,i8,dFz,hz0,hz1,h1,nn,hn,hk,hQ,q0,ql,qs,x1,y1,h2]
  ·simp [-sSeq,-sIf,ah,ao,xQ,i8,dFz,hz0,hz1,h1,nn,hn,hk,hQ,q0,ql,qs,x1,y1,h2]
end
theorem IU (r:Rw):dP false (.str r.wd) (.tuple [.str "sign",.str "cross"])=some (.bool (match r with | .pl (.sign _ _)=>true | .pl (.cross _ _)=>true | _=>false)):=by
 cases r with
 | pl r=>cases r <;> rfl
 | _=>rfl
theorem De (z0 z1:Sl) (hz0:nW z0=false) (hz1:nW z1=false) (l c:Int) (rs:List Rw) (P:Rw->Prop) (hP1:∀ i j,P (.pl (.sign i j))->P (.pl (.sign j i))) (hP2:∀ i j,P (.pl (.cross i j))->P (.pl (.cross j i))) (hg:∀ r∈rs,P r) (r0:Rw) (h0:P r0) (sd:Nat):∃ r':Rw,P r'/\xQ [z0,z1,.ow (rs.map rwD),.fz (.int l),.fz (.int c),.fz (rwD r0),.fz (.int sd)]=some (.nx,[z0,z1,.ow (rs.map rwD),.fz (.int l),.fz (.int c),.fz (rwD r'),.fz (.int sd)]):=by
 by_cases h1:¬ c % 5<2\/rs=[]
 ·exact ⟨r0,h0,Dd z0 z1 l c hz0 hz1 rs _ sd h1⟩
 ·have h5:c % 5<2:=Classical.byContradiction fun z=>h1 (.inl z)
  have hne:rs≠[]:=fun z=>h1 (.inr z)
  have hlen:0<rs.length:=List.length_pos_iff.mpr hne
  have nn:=Dg rs
  have he:rs.isEmpty=false:=by cases rs; exact absurd rfl hne; rfl
  rw [he] at nn
  have hk:=fK (i:=(sd:Int)) (show (0:Int)<(rs.length:Int) by omega)
  have a1:=Int.emod_nonneg (sd:Int) (show (rs.length:Int)≠0 by omega)
  have a2:=Int.emod_lt_of_pos (sd:Int) (show (0:Int)<(rs.length:Int) by omega)
  obtain ⟨k,ek⟩:∃ k:Nat,(sd:Int) % (rs.length:Int)=k:=⟨_,(Int.toNat_of_nonneg a1).symm⟩
  rw [ek] at hk a2
  have hkl:k<rs.length:=by omega
  have hQ:lj (rs.map rwD) (k:Int)=some (rwD rs[k]):=fS (j:=k) rfl (by simp [hkl])
  have hgk:=hg rs[k] (List.getElem_mem hkl)
  generalize rs[k]=q at hQ hgk
  have hn:((rs.map rwD).length:Int)=(rs.length:Int):=by simp
  cases hl:q.isLook with
  | true=>exact ⟨r0,h0,xP z0 z1 l c hz0 hz1 _ _ _ _ sd k _ h5 nn hn hk hQ (cp q) (by rw [lR,hl]; rfl)⟩
  | false=>
   have ql:neD (.str q.wd) (.str "look")=some (.bool true):=by rw [lR,hl]; rfl
   have qs:=IU q
   by_cases hsc:(∃ i j,q=.pl (.sign i j))\/(∃ i j,q=.pl (.cross i j))
   ·rcases hsc with ⟨i,j,rfl⟩ | ⟨i,j,rfl⟩
    ·have st:=pT z0 z1 l c hz0 hz1 (rs.map rwD) (rwD r0) _ (rwD (.pl (.sign j i))) _ sd k _ true h5 nn hn hk hQ (cp _) ql qs (fun _=>⟨_,_,at1 _ _ _,Ed _ _ _ _,rfl⟩)
     by_cases h2:(sd:Int) / 64 % 2=1
     ·rw [if_pos ⟨rfl,h2⟩] at st; exact ⟨.pl (.sign j i),hP1 _ _ hgk,st⟩
     ·rw [if_neg (fun z=>h2 z.2)] at st; exact ⟨_,hgk,st⟩
    ·have st:=pT z0 z1 l c hz0 hz1 (rs.map rwD) (rwD r0) _ (rwD (.pl (.cross j i))) _ sd k _ true h5 nn hn hk hQ (cp _) ql qs (fun _=>⟨_,_,at1 _ _ _,Ed _ _ _ _,rfl⟩)
     by_cases h2:(sd:Int) / 64 % 2=1
     ·rw [if_pos ⟨rfl,h2⟩] at st; exact ⟨.pl (.cross j i),hP2 _ _ hgk,st⟩
     ·rw [if_neg (fun z=>h2 z.2)] at st; exact ⟨_,hgk,st⟩
   ·have qs':dP false (.str q.wd) (.tuple [.str "sign",.str "cross"])=some (.bool false):=by
     rw [qs]
     cases q with
     | pl r=>
      cases r with
      | sign i j=>exact absurd (.inl ⟨i,j,rfl⟩) hsc
      | cross i j=>exact absurd (.inr ⟨i,j,rfl⟩) hsc
      | _=>rfl
     | _=>rfl
    have st:=pT z0 z1 l c hz0 hz1 (rs.map rwD) (rwD r0) (rwD q) .none _ sd k _ false h5 nn hn hk hQ (cp _) ql qs' (fun z=>nomatch z)
    rw [if_neg (fun z=>nomatch z.1)] at st
    exact ⟨q,hgk,st⟩
theorem B2 (z0 z1 z2 z4 z6:Sl) (l:Int) (R j:D) (q:Str) (s:Bool) (q0:aD R (.int 0)=some (.str q)) (e:aO (.str q) (.str "look")=some (.bool s)) (hj:s=true->aD R (.int 1)=some j):Es [z0,z1,z2,.fz (.int l),z4,.fz R,z6]=some (.nx,[z0,z1,z2,.fz (.int l),z4,.fz (if s=true/\l=3 then .tuple [.str "swing",j] else R),z6]):=by
 cases s with
 | false=>simp [-sSeq,-sIf,ah,ao,Es,q0,e]
 | true=>
  have hj:=hj rfl
  by_cases h:l=3
  ·subst h
   simp [-sSeq,-sIf,ah,ao,Es,q0,e,hj]
  ·simp [-sSeq,-sIf,ah,ao,Es,q0,e,hj,h]
theorem Dc (z0 z1 z2 z4 z6:Sl) (l:Int) (r:Rw) (P:Rw->Prop) (hP:∀ j,P (.pl (.swing j))) (hr:P r):∃ r':Rw,P r'/\Es [z0,z1,z2,.fz (.int l),z4,.fz (rwD r),z6]=some (.nx,[z0,z1,z2,.fz (.int l),z4,.fz (rwD r'),z6]):=by
 cases h:r.isLook with
 | false=>
  have st:=B2 z0 z1 z2 z4 z6 l (rwD r) .none _ false (cp r) (by rw [gm,h]) (fun z=>nomatch z)
  rw [if_neg (fun z=>nomatch z.1)] at st
  exact ⟨r,hr,st⟩
 | true=>
  cases r with
  | look j=>
   have st:=B2 z0 z1 z2 z4 z6 l (rwD (.look j)) (.int j) _ true (cp _) (gm _) (fun _=>at1 _ _ _)
   by_cases hl:l=3
   ·rw [if_pos ⟨rfl,hl⟩] at st; exact ⟨.pl (.swing j),hP j,st⟩
   ·rw [if_neg (fun z=>hl z.2)] at st; exact ⟨_,hr,st⟩
  | _=>cases h
theorem FB (z0 z1 z2 z4 z6:Sl) (l l':Int) (R:D) (q:Str) (s:Bool) (q0:aD R (.int 0)=some (.str q)) (e:aO (.str q) (.str "look")=some (.bool s)) (hl:l+(if s=true then 1 else 0)=l'):Iz [z0,z1,z2,.fz (.int l),z4,.fz R,z6]=some (.nx,[z0,z1,z2,.fz (.int l'),z4,.fz R,z6]):=by
 simp [-sSeq,-sIf,ah,ao,Iz,q0,e,hl]
theorem FA (z0 z1 z3 z4 z6:Sl) (ds:List D) (R:D) (hs:ds.length<sizeLine):Iy [z0,z1,.ow ds,z3,z4,.fz R,z6]=some (.nx,[z0,z1,.ow (ds++[R]),z3,z4,.fz R,z6]):=by
 simp [-sSeq,-sIf,ah,ao,Iy,hs]
theorem FD (z0 z2 z6 z5:Sl) (w l c:Int) (R:D) (h:aZ [.int c,.int w,.int l,.bool false]=some R):IB [z0,.fz (.int w),z2,.fz (.int l),.fz (.int c),z5,z6]=some (.nx,[z0,.fz (.int w),z2,.fz (.int l),.fz (.int c),.fz R,z6]):=by
 simp [-sSeq,-sIf,ah,ao,IB,h]
theorem FC (z0 z1 z2 z3 z5 z6:Sl) (c T:Int) (h:bH [.int (c / 5),.int 86028121]=some (.int T)):IA [z0,z1,z2,z3,.fz (.int c),z5,z6]=some (.nx,[z0,z1,z2,z3,.fz (.int c),z5,.fz (.int (T / 7))]):=by
 simp [-sSeq,-sIf,ah,ao,IA,h]
def mb (l:Nat):Rw->Prop
 | .wflip m _=>m<l
 | .wsign m _=>m<l
 | _=>True
theorem FP {w l:Nat} {r:Rw} (h:r.ok w l):mb l r:=by
 cases r with
 | wflip m j=>exact h.1
 | wsign m j=>exact h.1
 | _=>exact trivial
theorem xU {l l':Nat} {r:Rw} (h:mb l r) (hl:l<=l'):mb l' r:=by
 cases r with
 | wflip m j=>exact Nat.lt_of_lt_of_le h hl
 | wsign m j=>exact Nat.lt_of_lt_of_le h hl
 | _=>exact trivial
noncomputable def gQ (rs:List Rw):Nat:=rs.countP Rw.isLook
structure Ord (rs:List Rw):Prop where
 gd:∀ r∈rs,fq r
 al:∀ r∈rs,mb (gQ rs) r
 at_:∀ i (h:i<rs.length),mb (gQ (rs.take i)) rs[i]
theorem pX (a b:List Rw):gQ (a++b)=gQ a+gQ b:=List.countP_append
theorem u9 (r:Rw):gQ [r]=if r.isLook=true then 1 else 0:=by simp [gQ]
theorem Ord.nil:Ord []:=⟨fun _ h=>(nomatch h),fun _ h=>(nomatch h),fun _ h=>absurd h (Nat.not_lt_zero _)⟩
theorem Ord.snoc {rs:List Rw} (h:Ord rs) {r:Rw} (g:fq r) (m:mb (gQ rs) r):Ord (rs++[r]):=by
 refine ⟨fun x hx=>?_,fun x hx=>?_,fun i hi=>?_⟩
 ·rcases List.mem_append.mp hx with z | z
  ·exact h.gd x z
  ·rw [List.mem_singleton.mp z]; exact g
 ·refine xU (l:=gQ rs) ?_ (by rw [pX]; omega)
  rcases List.mem_append.mp hx with z | z
  ·exact h.al x z
  ·rw [List.mem_singleton.mp z]; exact m
 ·by_cases q:i<rs.length
  ·rw [List.getElem_append_left q,List.take_append_of_le_length (by omega)]
   exact h.at_ i q
  ·have e:i=rs.length:=by simp at hi; omega
   subst e
   simpa using m
theorem tW (C:D) (w:Nat) (hw:1<=w) (l:Nat) (c:Int) (rs:List Rw) (hg:Ord rs) (hL:gQ rs=l) (hs:rs.length<1000) (z5 z6:Sl):∃ (r':Rw) (y5 y6:Sl),fq r'/\mb l r'/\di [.fz C,.fz (.int w),.ow (rs.map rwD),.fz (.int l),.fz (.int c),z5,z6]=some (.nx,[.fz C,.fz (.int w),.ow ((rs++[r']).map rwD),.fz (.int (gQ (rs++[r']):Nat)),.fz (.int c),y5,y6]):=by
 obtain ⟨r0,e0,ok0,_⟩:=AR c w l hw false
 obtain ⟨T,eT⟩:=AQ (c / 5) 86028121 (by decide)
 obtain ⟨r1,g1,e2⟩:=De (.fz C) (.fz (.int w)) rfl rfl l c rs (fun r=>fq r/\mb l r) (fun i j h=>⟨Ne.symm h.1,trivial⟩) (fun i j h=>⟨Ne.symm h.1,trivial⟩) (fun r hr=>⟨hg.gd r hr,hL ▸ hg.al r hr⟩) r0 ⟨Bp ok0,FP ok0⟩ (T / 7)
 obtain ⟨r2,g2,e3⟩:=Dc (.fz C) (.fz (.int w)) (.ow (rs.map rwD)) (.fz (.int c)) (.fz (.int ((T / 7:Nat):Int))) l r1 (fun r=>fq r/\mb l r) (fun _=>⟨trivial,trivial⟩) g1
 have e4:=FB (.fz C) (.fz (.int w)) (.ow (rs.map rwD)) (.fz (.int c)) (.fz (.int ((T / 7:Nat):Int))) l ((gQ (rs++[r2]):Nat):Int) (rwD r2) _ _ (cp r2) (gm r2) (by rw [pX,u9,hL]; cases r2.isLook <;> simp)
 have e5:=FA (.fz C) (.fz (.int w)) (.fz (.int ((gQ (rs++[r2]):Nat):Int))) (.fz (.int c)) (.fz (.int ((T / 7:Nat):Int))) (rs.map rwD) (rwD r2) (by rw [List.length_map]; show _<16777216; omega)
 refine ⟨r2,.fz (rwD r2),.fz (.int ((T / 7:Nat):Int)),g2.1,g2.2,?_⟩
 have e1:=FC (.fz C) (.fz (.int w)) (.ow (rs.map rwD)) (.fz (.int l)) (.fz (rwD r0)) z6 c T eT
 rw [show ((T:Int) / 7)=((T / 7:Nat):Int) by omega] at e1
 rw [xN,mG (FD (.fz C) (.ow (rs.map rwD)) z6 z5 w l c _ e0),mG e1,mG e2,mG e3,mG e4,e5]
 simp
theorem mO (C:D) (w:Nat) (hw:1<=w):∀ (cs:List Int) (l:Nat) (rs:List Rw),Ord rs->gQ rs=l->rs.length+cs.length<=1000->∀ z4 z5 z6,∃ (rs':List Rw) (y3 y4 y5 y6:Sl),Ord rs'/\rs'.length=rs.length+cs.length/\loop (gN 4) di (cs.map .int) [.fz C,.fz (.int w),.ow (rs.map rwD),.fz (.int l),z4,z5,z6]=some (.nx,[.fz C,.fz (.int w),.ow (rs'.map rwD),y3,y4,y5,y6])
 | [],l,rs,hg,_,_,z4,z5,z6=>⟨rs,.fz (.int l),z4,z5,z6,hg,by simp,rfl⟩
 | c::cs,l,rs,hg,hL,hl,z4,z5,z6=>by
  simp only [List.length_cons] at hl
  obtain ⟨r',y5,y6,g,m,st⟩:=tW C w hw l c rs hg hL (by omega) z5 z6
  obtain ⟨rs',y3,y4,y5',y6',h1,h2,e⟩:=mO C w hw cs _ (rs++[r']) (hg.snoc g (hL ▸ m)) rfl (by simp; omega) (.fz (.int c)) y5 y6
  refine ⟨rs',y3,y4,y5',y6',h1,by rw [h2]; simp; omega,?_⟩
  rw [List.map_cons,bZ (δ1:=[.fz C,.fz (.int w),.ow (rs.map rwD),.fz (.int l),.fz (.int c),z5,z6]) (by simp) st,e]
theorem xO (w:Nat) (hw:1<=w) (cs:List Int) (hl:cs.length<=1000):∃ rs:List Rw,Ord rs/\rs.length=cs.length/\cJ [.list (cs.map .int),.int w]=some (cirD w rs):=by
 obtain ⟨rs,y3,y4,y5,y6,h1,h2,e⟩:=mO (.list (cs.map .int)) w hw cs 0 [] Ord.nil rfl (by simpa using hl) .un .un .un
 refine ⟨rs,h1,by simpa using h2,?_⟩
 have e':loop (gN 4) di (cs.map .int) [.fz (.list (cs.map .int)),.fz (.int w),.ow [],.fz (.int 0),.un,.un,.un]=_:=e
 simp [-sSeq,-sIf,ah,ao,cJ,runB,ic,aj,e',dFz,cirD]
noncomputable def Rw.n1:Rw->Nat
 | .pl (.swing j)=>j
 | .pl (.turn j _)=>j
 | .pl (.flip j)=>j
 | .pl (.tie i _)=>i
 | .pl (.sign i _)=>i
 | .pl (.cross i _)=>i
 | .look j=>j
 | .wflip m _=>m
 | .wsign m _=>m
theorem Aa (r:Rw):eJ (rwD r) none (some 2)=some (.tuple [.str r.wd,.int r.n1]):=by
 cases r with
 | pl r=>cases r <;> rfl
 | _=>rfl
theorem rH (r:Rw):aD (rwD r) (.int 1)=some (.int r.n1):=by
 cases r with
 | pl r=>cases r <;> exact at1 _ _ _
 | _=>exact at1 _ _ _
noncomputable def Rw.isT:Rw->Bool
 | .pl (.turn _ _)=>true
 | _=>false
noncomputable def Rw.isS:Rw->Bool
 | .pl (.swing _)=>true
 | _=>false
noncomputable def Rw.isTL:Rw->Bool
 | .pl (.turn _ _)=>true
 | .look _=>true
 | _=>false
noncomputable def Rw.isSC:Rw->Bool
 | .pl (.sign _ _)=>true
 | .pl (.cross _ _)=>true
 | _=>false
theorem lX (r:Rw):aO (.str r.wd) (.str "turn")=some (.bool r.isT):=by
 cases r with
 | pl r=>cases r <;> simp [Rw.wd,Rw.isT]
 | _=>simp [Rw.wd,Rw.isT]
theorem sG (r:Rw):aO (.str r.wd) (.str "swing")=some (.bool r.isS):=by
 cases r with
 | pl r=>cases r <;> simp [Rw.wd,Rw.isS]
 | _=>simp [Rw.wd,Rw.isS]
theorem ip (r:Rw):(r.wd==("swing":Str))=r.isS:=by
 have h:=sG r
 rw [du (eI r) bb] at h
 simpa using h
theorem mQ (r:Rw):neD (.str r.wd) (.str "swing")=some (.bool (!r.isS)):=by rw [ID (eI r) bb,ip]
theorem F9 (r:Rw):dP false (.str r.wd) (.tuple [.str "turn",.str "look"])=some (.bool r.isTL):=by
 cases r with
 | pl r=>cases r <;> rfl
 | _=>rfl
theorem vd (r:Rw):dP false (.str r.wd) (.tuple [.str "sign",.str "cross"])=some (.bool r.isSC):=by
 cases r with
 | pl r=>cases r <;> rfl
 | _=>rfl
theorem d8 {k:Nat} {d:D} (h:MA.Sh k d) (hk:k<=64):kW d=true:=by
 show (PyData.canLay0 _&&decide (PyData.depth _<=64))=true
 rw [h.1,decide_eq_true (Nat.le_trans h.2 hk)]; rfl
theorem uR (r:Rw):kW (rwD r)=true:=d8 (Fc r) (by decide)
theorem tM {s:Str} (k:Nat) (h:iZ s=true):MA.Sh k (.str s):=⟨vR h,by simp [PyData.depth]⟩
theorem GG {a b:Str} (ha:iZ a=true) (hb:iZ b=true) (x y:Int):aO (.tuple [.str a,.int x]) (.tuple [.str b,.int y])=some (.bool (a==b&&x==y)):=by
 have h:∀ {a:Str},iZ a=true->∀ x:Int,kW (.tuple [.str a,.int x])=true:=fun ha x=>d8 (k:=1) (MA.Sh.tuple fun z hz=>by
  simp only [List.mem_cons,List.not_mem_nil,or_false] at hz
  rcases hz with rfl | rfl
  ·exact tM 0 ha
  ·exact MA.Sh.int 0 _) (by decide)
 unfold aO
 rw [if_pos ⟨h ha x,h hb y⟩]
 simp [PyData.eqv,PyData.eqvAll]
theorem Ji (a b c d:Int):aO (.tuple [.int a,.int b]) (.tuple [.int c,.int d])=some (.bool (a==c&&b==d)):=by
 have h:∀ x y:Int,kW (.tuple [.int x,.int y])=true:=fun x y=>d8 (k:=1) (MA.Sh.tuple fun z hz=>by
  simp only [List.mem_cons,List.not_mem_nil,or_false] at hz
  rcases hz with rfl | rfl <;> exact MA.Sh.int 0 _) (by decide)
 unfold aO
 rw [if_pos ⟨h a b,h c d⟩]
 simp [PyData.eqv,PyData.eqvAll]
theorem Jh (a b c d:Int):aO (.list [.int a,.int b]) (.list [.int c,.int d])=some (.bool (a==c&&b==d)):=by
 have h:∀ x y:Int,kW (.list [.int x,.int y])=true:=fun x y=>d8 (k:=1) (MA.Sh.list fun z hz=>by
  simp only [List.mem_cons,List.not_mem_nil,or_false] at hz
  rcases hz with rfl | rfl <;> exact MA.Sh.int 0 _) (by decide)
 unfold aO
 rw [if_pos ⟨h a b,h c d⟩]
 simp [PyData.eqv,PyData.eqvAll]
noncomputable def te (r q:Rw):Bool:=r.wd==q.wd&&((r.n1:Int)==q.n1)
theorem uN (r q:Rw):te r q=te q r:=by
 unfold te
 rw [Bool.beq_comm (a:=r.wd),Bool.beq_comm (a:=(r.n1:Int))]
theorem BS (r q:Rw):aO (.tuple [.str r.wd,.int r.n1]) (.tuple [.str q.wd,.int q.n1])=some (.bool (te r q)):=GG (eI r) (eI q) _ _
noncomputable def nI (r q:Rw):Bool:=PyData.eqv (rwD r) (rwD q)
theorem uw (r q:Rw):aO (rwD r) (rwD q)=some (.bool (nI r q)):=if_pos ⟨uR r,uR q⟩
theorem DS (r q:Rw):neD (rwD r) (rwD q)=some (.bool (!nI r q)):=if_pos ⟨uR r,uR q⟩
theorem mI (r:Rw):∃ t,rwD r=.tuple (.str r.wd::t):=by
 cases r with
 | pl r=>cases r <;> exact ⟨_,rfl⟩
 | _=>exact ⟨_,rfl⟩
theorem uu {r q:Rw} (h:nI r q=true):r.wd=q.wd:=by
 obtain ⟨t,e⟩:=mI r
 obtain ⟨u,f⟩:=mI q
 unfold nI at h
 rw [e,f] at h
 simp [PyData.eqv,PyData.eqvAll] at h
 exact h.1
theorem uv {r q:Rw} (h:(r.wd==q.wd)=false):nI r q=false:=by
 cases e:nI r q with
 | false=>rfl
 | true=>rw [uu e] at h; simp at h
theorem HD (A B:D) (a b:Str) (s1 s2 c v e:Bool) (a0:aD A (.int 0)=some (.str a)) (b0:aD B (.int 0)=some (.str b)) (h1:dP false (.str a) (.tuple [.str "turn",.str "look"])=some (.bool s1)) (h2:dP false (.str a) (.tuple [.str "sign",.str "cross"])=some (.bool s2)) (e1:aO (.str a) (.str b)=some (.bool c)) (hw:s2=true->c=true->∃ W V,bt [A]=some W/\bt [B]=some V/\aO W V=some (.bool v)) (he:aO A B=some (.bool e)):bU [A,B]=some (.bool (if s1 then false else if s2 then c&&v else e)):=by
 cases s1 with
 | true=>simp [-sSeq,-sIf,ah,ao,bU,runB,dG,aj,a0,h1]
 | false=>
  cases s2 with
  | false=>simp [-sSeq,-sIf,ah,ao,bU,runB,dG,aj,a0,h1,h2,he]
  | true=>
   cases c with
   | false=>simp [-sSeq,-sIf,ah,ao,bU,runB,dG,aj,a0,b0,h1,h2,e1]
   | true=>
    obtain ⟨W,V,w1,w2,w3⟩:=hw rfl rfl
    simp [-sSeq,-sIf,ah,ao,bU,runB,dG,aj,a0,b0,h1,h2,e1,w1,w2,w3]
theorem IF (A B:D) (a b:Str) (s1 s2 c v e:Bool) (a0:aD A (.int 0)=some (.str a)) (b0:aD B (.int 0)=some (.str b)) (h1:dP false (.str a) (.tuple [.str "turn",.str "look"])=some (.bool s1)) (h2:dP false (.str a) (.tuple [.str "sign",.str "cross"])=some (.bool s2)) (e1:aO (.str a) (.str b)=some (.bool c)) (hw:s2=true->c=true->∃ SA SB W V,eJ A (some 1) none=some SA/\eJ B (some 1) none=some SB/\dc SA=some W/\dc SB=some V/\aO W V=some (.bool v)) (he:aO A B=some (.bool e)):bV [A,B]=some (.bool (if s1 then false else if s2&&c then v else e)):=by
 cases s1 with
 | true=>simp [-sSeq,-sIf,ah,ao,bV,runB,dI,aj,a0,h1]
 | false=>
  cases s2 with
  | false=>simp [-sSeq,-sIf,ah,ao,bV,runB,dI,aj,a0,h1,h2,he]
  | true=>
   cases c with
   | false=>simp [-sSeq,-sIf,ah,ao,bV,runB,dI,aj,a0,b0,h1,h2,e1,he]
   | true=>
    obtain ⟨SA,SB,W,V,w1,w2,w3,w4,w5⟩:=hw rfl rfl
    simp [-sSeq,-sIf,ah,ao,bV,runB,dI,aj,a0,b0,h1,h2,e1,w1,w2,w3,w4,w5]
theorem Fa (i j:Nat):dc (.tuple [.int i,.int j])=some (.list [.int (min i j:Nat),.int (max i j:Nat)]):=by
 have h:hG [(i:Int),(j:Int)]=[((min i j:Nat):Int),((max i j:Nat):Int)]:=by
  simp only [hG,su]
  split
  ·rename_i h; rw [Nat.min_eq_left (by omega),Nat.max_eq_right (by omega)]
  ·rename_i h; rw [Nat.min_eq_right (by omega),Nat.max_eq_left (by omega)]
 show some (PyData.list ((hG [(i:Int),(j:Int)]).map .int))=_
 rw [h]; rfl
noncomputable def w2:Rw->Nat×Nat
 | .pl (.sign i j)=>(min i j,max i j)
 | .pl (.cross i j)=>(min i j,max i j)
 | _=>(0,0)
noncomputable def un (r q:Rw):Bool:=if r.isTL then false else if r.isSC then (r.wd==q.wd&&(((w2 r).1:Int)==(w2 q).1&&((w2 r).2:Int)==(w2 q).2)) else nI r q
theorem qX {r:Rw} (h:r.isSC=true):bt [rwD r]=some (.tuple [.int (w2 r).1,.int (w2 r).2]):=by
 have:=jy r
 cases r with
 | pl r=>cases r <;> first | exact this | cases h
 | _=>cases h
theorem uS {r:Rw} (h:r.isSC=true):∃ S,eJ (rwD r) (some 1) none=some S/\dc S=some (.list [.int (w2 r).1,.int (w2 r).2]):=by
 cases r with
 | pl r=>cases r <;> first | exact ⟨_,sl3 _ _ _,Fa _ _⟩ | cases h
 | _=>cases h
theorem uT {r q:Rw} (h:r.isSC=true) (e:(r.wd==q.wd)=true):q.isSC=true:=by
 have a:=vd r
 have b:=vd q
 rw [eq_of_beq e] at a
 rw [a] at b
 simp at b
 rw [<- b,h]
theorem EM (r q:Rw):bU [rwD r,rwD q]=some (.bool (un r q)):=by
 have:=HD (rwD r) (rwD q) r.wd q.wd r.isTL r.isSC (r.wd==q.wd) (((w2 r).1:Int)==(w2 q).1&&((w2 r).2:Int)==(w2 q).2) (nI r q) (cp r) (cp q) (F9 r) (vd r) (du (eI r) (eI q)) (fun h c=>⟨_,_,qX h,qX (uT h c),Ji _ _ _ _⟩) (uw r q)
 exact this
theorem FQ (r q:Rw):bV [rwD r,rwD q]=some (.bool (un r q)):=by
 have:=IF (rwD r) (rwD q) r.wd q.wd r.isTL r.isSC (r.wd==q.wd) (((w2 r).1:Int)==(w2 q).1&&((w2 r).2:Int)==(w2 q).2) (nI r q) (cp r) (cp q) (F9 r) (vd r) (du (eI r) (eI q)) (fun h c=>by
  obtain ⟨S,a1,a2⟩:=uS h
  obtain ⟨S',b1,b2⟩:=uS (uT h c)
  exact ⟨_,_,_,_,a1,b1,a2,b2,Jh _ _ _ _⟩) (uw r q)
 rw [this]
 unfold un
 cases h1:r.isTL with
 | true=>rfl
 | false=>
  cases h2:r.isSC with
  | false=>rfl
  | true=>
   cases h3:(r.wd==q.wd) with
   | true=>simp
   | false=>simp [uv h3]
noncomputable def cP (r:Rw) (w:Nat):Option Rw:=match r with
 | .pl (.flip j)=>if j=w then some (.pl (.turn w 4)) else none
 | .pl (.turn j e)=>if j=w/\e=4 then some (.pl (.flip w)) else none
 | .pl (.tie i j)=>if j=w then some (.pl (.sign i w)) else none
 | .pl (.sign i j)=>if i=w then some (.pl (.tie j w)) else if j=w then some (.pl (.tie i w)) else none
 | .wflip m j=>if j=w then some (.wsign m w) else none
 | .wsign m j=>if j=w then some (.wflip m w) else none
 | _=>none
theorem xf {r r':Rw} {w:Nat} (h:cP r w=some r'):w∈wl r:=by
 cases r with
 | pl r=>
  cases r with
  | flip j=>simp [cP] at h; simp [wl,h]
  | turn j e=>simp [cP] at h; simp [wl,h]
  | tie i j=>
   simp only [cP] at h
   split at h
   ·rename_i e; subst e
    simp only [wl,List.mem_cons,List.not_mem_nil,or_false]; omega
   ·cases h
  | sign i j=>
   simp only [cP] at h
   split at h
   ·rename_i e; subst e
    simp only [wl,List.mem_cons,List.not_mem_nil,or_false]; omega
   ·split at h
    ·rename_i e; subst e
     simp only [wl,List.mem_cons,List.not_mem_nil,or_false]; omega
    ·cases h
  | _=>cases h
 | look j=>cases h
 | wflip m j=>simp [cP] at h; simp [wl,h]
 | wsign m j=>simp [cP] at h; simp [wl,h]
noncomputable def lQ:Option Rw->D
 | some r=>rwD r
 | none=>.none
theorem G9 (s:Str) (h:iZ s=true) (l:List Int):kW (.tuple (.str s::l.map .int))=true:=d8 (k:=1) (MA.Sh.tuple fun z hz=>by
  rcases List.mem_cons.mp hz with rfl | hz
  ·exact tM 0 h
  ·obtain ⟨i,_,rfl⟩:=List.mem_map.mp hz
   exact MA.Sh.int 0 _) (by decide)
theorem wQ {a b:Str} (ha:iZ a=true) (hb:iZ b=true) (h:(a==b)=false) (l m:List Int):aO (.tuple (.str a::l.map .int)) (.tuple (.str b::m.map .int))=some (.bool false):=by
 unfold aO
 rw [if_pos ⟨G9 a ha l,G9 b hb m⟩]
 simp at h
 simp [PyData.eqv,PyData.eqvAll,h]
theorem eqF (j w:Int):aO (.tuple [.str "flip",.int j]) (.tuple [.str "flip",.int w])=some (.bool (j==w)):=by
 rw [GG aT aT]; simp
theorem uy (j e w f:Int):aO (.tuple [.str "turn",.int j,.int e]) (.tuple [.str "turn",.int w,.int f])=some (.bool (j==w&&e==f)):=by
 unfold aO
 rw [if_pos ⟨G9 _ aS [j,e],G9 _ aS [w,f]⟩]
 simp [PyData.eqv,PyData.eqvAll]
theorem EI (j e w:Int):aO (.tuple [.str "turn",.int j,.int e]) (.tuple [.str "flip",.int w])=some (.bool false):=wQ aS aT (by decide +kernel) [j,e] [w]
theorem JJ (j e w:Int):aO (.tuple [.str "flip",.int j]) (.tuple [.str "turn",.int w,.int e])=some (.bool false):=wQ aT aS (by decide +kernel) [j] [w,e]
theorem G8 (j e w:Int):aO (.tuple [.str "tie",.int j,.int e]) (.tuple [.str "flip",.int w])=some (.bool false):=wQ bR aT (by decide +kernel) [j,e] [w]
theorem G7 (j e w f:Int):aO (.tuple [.str "tie",.int j,.int e]) (.tuple [.str "turn",.int w,.int f])=some (.bool false):=wQ bR aS (by decide +kernel) [j,e] [w,f]
theorem EK (j e w:Int):aO (.tuple [.str "sign",.int j,.int e]) (.tuple [.str "flip",.int w])=some (.bool false):=wQ bF aT (by decide +kernel) [j,e] [w]
theorem EJ (j e w f:Int):aO (.tuple [.str "sign",.int j,.int e]) (.tuple [.str "turn",.int w,.int f])=some (.bool false):=wQ bF aS (by decide +kernel) [j,e] [w,f]
theorem JL (j e w:Int):aO (.tuple [.str "cross",.int j,.int e]) (.tuple [.str "flip",.int w])=some (.bool false):=wQ cj aT (by decide +kernel) [j,e] [w]
theorem JK (j e w f:Int):aO (.tuple [.str "cross",.int j,.int e]) (.tuple [.str "turn",.int w,.int f])=some (.bool false):=wQ cj aS (by decide +kernel) [j,e] [w,f]
theorem JI (j w:Int):aO (.tuple [.str "swing",.int j]) (.tuple [.str "flip",.int w])=some (.bool false):=wQ bb aT (by decide +kernel) [j] [w]
theorem JH (j w f:Int):aO (.tuple [.str "swing",.int j]) (.tuple [.str "turn",.int w,.int f])=some (.bool false):=wQ bb aS (by decide +kernel) [j] [w,f]
theorem JF (j w:Int):aO (.tuple [.str "look",.int j]) (.tuple [.str "flip",.int w])=some (.bool false):=wQ ba aT (by decide +kernel) [j] [w]
theorem JE (j w f:Int):aO (.tuple [.str "look",.int j]) (.tuple [.str "turn",.int w,.int f])=some (.bool false):=wQ ba aS (by decide +kernel) [j] [w,f]
section
variable (G:List D->Option D)
theorem uX (j w:Nat):runB bY 2 (aR G) [.tuple [.str "flip",.int j],.int w]=some (lQ (cP (.pl (.flip j)) w)):=by
 by_cases h:j=w
 ·subst h
  simp [-sSeq,-sIf,ah,ao,runB,aR,aj,eqF,cP,lQ,rwD,rowD]
 ·have h':¬ (j:Int)=w:=by omega
  simp [-sSeq,-sIf,ah,ao,runB,aR,aj,eqF,JJ,cP,lQ,rwD,rowD,h,h']
theorem uW (j e w:Nat):runB bY 2 (aR G) [.tuple [.str "turn",.int j,.int e],.int w]=some (lQ (cP (.pl (.turn j e)) w)):=by
 by_cases h:j=w/\e=4
 ·obtain ⟨rfl,rfl⟩:=h
  have:=EI j 4 j
  have:=uy j 4 j 4
  simp [-sSeq,-sIf,ah,ao,runB,aR,aj,EI,uy,cP,lQ,rwD,rowD]
 ·have h':(((j:Int)==w)&&((e:Int)==4))=false:=by
   cases q:(((j:Int)==w)&&((e:Int)==4)) with
   | false=>rfl
   | true=>simp at q; exact absurd ⟨by omega,by omega⟩ h
  have u:=uy j e w 4
  rw [h'] at u
  have s:cP (.pl (.turn j e)) w=none:=by simp only [cP]; rw [if_neg h]
  simp [-sSeq,-sIf,ah,ao,runB,aR,aj,EI,u,s,lQ]
theorem CO (i j w:Nat):runB bY 2 (aR G) [.tuple [.str "tie",.int i,.int j],.int w]=some (lQ (cP (.pl (.tie i j)) w)):=by
 by_cases h:j=w
 ·subst h
  simp [-sSeq,-sIf,ah,ao,runB,aR,aj,G8,G7,cP,lQ,rwD,rowD]
 ·have h':¬ (j:Int)=w:=by omega
  simp [-sSeq,-sIf,ah,ao,runB,aR,aj,G8,G7,cP,lQ,rwD,rowD,h,h']
theorem Ag (i j w:Nat) (hw:w=i\/w=j):runB bY 2 (aR G) [.tuple [.str "sign",.int i,.int j],.int w]=some (lQ (cP (.pl (.sign i j)) w)):=by
 by_cases h:i=w
 ·subst h
  simp [-sSeq,-sIf,ah,ao,runB,aR,aj,EK,EJ,cP,lQ,rwD,rowD]
 ·have h':¬ (i:Int)=w:=by omega
  have h2:j=w:=by omega
  subst h2
  simp [-sSeq,-sIf,ah,ao,runB,aR,aj,EK,EJ,cP,lQ,rwD,rowD,h,h']
theorem Ah (j w:Nat):runB bY 2 (aR G) [.tuple [.str "swing",.int j],.int w]=some .none:=by
 simp [-sSeq,-sIf,ah,ao,runB,aR,aj,JI,JH]
theorem xv (i j w:Nat):runB bY 2 (aR G) [.tuple [.str "cross",.int i,.int j],.int w]=some .none:=by
 simp [-sSeq,-sIf,ah,ao,runB,aR,aj,JL,JK]
theorem Ai (j w:Nat):runB bY 2 (aR G) [.tuple [.str "look",.int j],.int w]=some .none:=by
 simp [-sSeq,-sIf,ah,ao,runB,aR,aj,JF,JE]
theorem rh (m w:Int) (I J:D) (h:G [I,.int w]=some J):runB bY 2 (aR G) [.tuple [.str "where",.int m,I],.int w]=some (.tuple [.str "where",.int m,J]):=by
 simp [-sSeq,-sIf,ah,ao,runB,aR,aj,h]
theorem IE {i j w:Nat} (h:w∈[min i j,max i j]):w=i\/w=j:=by
 simp only [List.mem_cons,List.not_mem_nil,or_false] at h; omega
theorem J1 {r:Rw} {w:Nat} (h:w∈wl r):cC [rwD r,.int w]=some (lQ (cP r w)):=by
 cases r with
 | pl r=>
  cases r with
  | swing j=>exact Ah (bp 7) j w
  | turn j e=>exact uW (bp 7) j e w
  | flip j=>exact uX (bp 7) j w
  | tie i j=>exact CO (bp 7) i j w
  | sign i j=>exact Ag (bp 7) i j w (IE h)
  | cross i j=>exact xv (bp 7) i j w
 | look j=>exact Ai (bp 7) j w
 | wflip m j=>
  have e:w=j:=by simpa [wl] using h
  subst e
  have a:=rh (bp 7) m w _ _ (uX (bp 6) w w)
  have s:cP (.pl (.flip w)) w=some (.pl (.turn w 4)):=by simp [cP]
  have t:cP (.wflip m w) w=some (.wsign m w):=by simp [cP]
  rw [s] at a
  rw [t]
  exact a
 | wsign m j=>
  have e:w=j:=by simpa [wl] using h
  subst e
  have a:=rh (bp 7) m w _ _ (uW (bp 6) w 4 w)
  have s:cP (.pl (.turn w 4)) w=some (.pl (.flip w)):=by simp [cP]
  have t:cP (.wsign m w) w=some (.wflip m w):=by simp [cP]
  rw [s] at a
  rw [t]
  exact a
end
noncomputable def pK (o:Option Rw):D:=.list (o.toList.map rwD)
section
variable (G:List D->Option D)
theorem pV (j w:Nat):runB bD 2 (aK G) [.tuple [.str "flip",.int j],.int w]=some (pK (cP (.pl (.flip j)) w)):=by
 by_cases h:j=w
 ·subst h
  simp [-sSeq,-sIf,ah,ao,runB,aK,aj,eqF,cP,pK,rwD,rowD]
 ·have h':¬ (j:Int)=w:=by omega
  simp [-sSeq,-sIf,ah,ao,runB,aK,aj,eqF,JJ,cP,pK,rwD,rowD,h,h']
theorem pU (j e w:Nat):runB bD 2 (aK G) [.tuple [.str "turn",.int j,.int e],.int w]=some (pK (cP (.pl (.turn j e)) w)):=by
 by_cases h:j=w/\e=4
 ·obtain ⟨rfl,rfl⟩:=h
  simp [-sSeq,-sIf,ah,ao,runB,aK,aj,EI,uy,cP,pK,rwD,rowD]
 ·have h':(((j:Int)==w)&&((e:Int)==4))=false:=by
   cases q:(((j:Int)==w)&&((e:Int)==4)) with
   | false=>rfl
   | true=>simp at q; exact absurd ⟨by omega,by omega⟩ h
  have u:=uy j e w 4
  rw [h'] at u
  have s:cP (.pl (.turn j e)) w=none:=by simp only [cP]; rw [if_neg h]
  simp [-sSeq,-sIf,ah,ao,runB,aK,aj,EI,u,s,pK]
theorem Di (i j w:Nat):runB bD 2 (aK G) [.tuple [.str "tie",.int i,.int j],.int w]=some (pK (cP (.pl (.tie i j)) w)):=by
 by_cases h:j=w
 ·subst h
  simp [-sSeq,-sIf,ah,ao,runB,aK,aj,G8,G7,cP,pK,rwD,rowD]
 ·have h':¬ (j:Int)=w:=by omega
  simp [-sSeq,-sIf,ah,ao,runB,aK,aj,G8,G7,cP,pK,rwD,rowD,h,h']
theorem IX (w i j:Nat):dP false (.int w) (.tuple [.int i,.int j])=some (.bool ([i,j].any (· == w))):=jY w [i,j]
theorem Iu (i j w:Nat):eE G [.fz (.tuple [.str "sign",.int i,.int j]),.fz (.int w)]=some (.list (([i,j].filter fun x=>!(x==w)).map fun n:Nat=>.int n)):=by
 have:=fF (fi:=oI (gC (oV 0) (oP (oC (.int 1))) (im)) cY) (caps:=[(1,"wire")]) (ft:=ob (o2 (oV 0) (oV 1) neD)) (fe:=oV 0) (δ:=[.fz (.tuple [.str "sign",.int i,.int j]),.fz (.int w)]) (h:=fun n:Nat=>PyData.int n) (k:=fun n:Nat=>PyData.int n) (b:=fun x=>!(x==w)) (xs:=[i,j]) (by simp [sl3]) (by simp) (fun x _=>by
  simp [dS,lS]) (fun x _ _=>by simp)
 exact this
theorem AM (i j w:Nat) (hg:i≠j):runB bD 2 (aK G) [.tuple [.str "sign",.int i,.int j],.int w]=some (pK (cP (.pl (.sign i j)) w)):=by
 have p:=Iu G i j w
 have n:=IX w i j
 by_cases h:i=w
 ·subst h
  have n':dP false (.int i) (.tuple [.int i,.int j])=some (.bool true):=by rw [n]; simp
  have p':eE G [.fz (.tuple [.str "sign",.int i,.int j]),.fz (.int i)]=some (.list [.int j]):=by
   have q:(j==i)=false:=by simpa using Ne.symm hg
   rw [p]; simp [List.filter,q]
  simp [-sSeq,-sIf,ah,ao,runB,aK,aj,EK,EJ,sl3,n',p',cP,pK,rwD,rowD]
 ·by_cases h2:j=w
  ·subst h2
   have n':dP false (.int j) (.tuple [.int i,.int j])=some (.bool true):=by rw [n]; simp
   have p':eE G [.fz (.tuple [.str "sign",.int i,.int j]),.fz (.int j)]=some (.list [.int i]):=by
    have q:(i==j)=false:=by simpa using hg
    rw [p]; simp [List.filter,q]
   simp [-sSeq,-sIf,ah,ao,runB,aK,aj,EK,EJ,sl3,n',p',cP,pK,rwD,rowD,h]
  ·have n':dP false (.int w) (.tuple [.int i,.int j])=some (.bool false):=by rw [n]; simp [h,h2]
   simp [-sSeq,-sIf,ah,ao,runB,aK,aj,EK,EJ,sl3,n',cP,pK,rwD,rowD,h,h2]
theorem AN (j w:Nat):runB bD 2 (aK G) [.tuple [.str "swing",.int j],.int w]=some (.list []):=by
 simp [-sSeq,-sIf,ah,ao,runB,aK,aj,JI,JH]
theorem xW (i j w:Nat):runB bD 2 (aK G) [.tuple [.str "cross",.int i,.int j],.int w]=some (.list []):=by
 simp [-sSeq,-sIf,ah,ao,runB,aK,aj,JL,JK]
theorem AO (j w:Nat):runB bD 2 (aK G) [.tuple [.str "look",.int j],.int w]=some (.list []):=by
 simp [-sSeq,-sIf,ah,ao,runB,aK,aj,JF,JE]
theorem jR (m w:Nat) (I:D) (L:List Rw) (hL:L.length<=1) (h:G [I,.int w]=some (.list (L.map rwD))):runB bD 2 (aK G) [.tuple [.str "where",.int m,I],.int w]=some (.list (L.map fun r=>.tuple [.str "where",.int m,rwD r])):=by
 have c:=fO (fi:=oI (VL.os (ae (o2 (oV 0) (oC (.int 2)) aD) (ae (oV 1) (aq))) G) cY) (caps:=[(0,"row")]) (fe:=VL.os (ae (oC (.str "where")) (ae (o2 (oV 1) (oC (.int 1)) aD) (ae (oV 0) (aq)))) bh) (δ:=[.fz (.tuple [.str "where",.int m,I]),.fz (.int w)]) (h:=rwD) (k:=fun r=>.tuple [.str "where",.int m,rwD r]) (xs:=L) (by simp [h]) (by omega) (fun r _=>by simp [dS])
 have c':i6 G [.fz (.tuple [.str "where",.int m,I]),.fz (.int w)]=_:=c
 simp [-sSeq,-sIf,ah,ao,runB,aK,aj,c']
theorem J2 {r:Rw} {w:Nat} (h:fq r):cb [rwD r,.int w]=some (pK (cP r w)):=by
 cases r with
 | pl r=>
  cases r with
  | swing j=>exact AN (aP 7) j w
  | turn j e=>exact pU (aP 7) j e w
  | flip j=>exact pV (aP 7) j w
  | tie i j=>exact Di (aP 7) i j w
  | sign i j=>exact AM (aP 7) i j w h
  | cross i j=>exact xW (aP 7) i j w
 | look j=>exact AO (aP 7) j w
 | wflip m j=>
  by_cases q:j=w
  ·subst q
   have a:=jR (aP 7) m j _ [.pl (.turn j 4)] (Nat.le_refl 1) ((pV (aP 6) j j).trans (by simp [cP,pK]))
   have t:cP (.wflip m j) j=some (.wsign m j):=by simp [cP]
   rw [t]
   exact a
  ·have a:=jR (aP 7) m w _ [] (Nat.zero_le 1) ((pV (aP 6) j w).trans (by simp [cP,pK,q]))
   have t:cP (.wflip m j) w=none:=by simp [cP,q]
   rw [t]
   exact a
 | wsign m j=>
  by_cases q:j=w
  ·subst q
   have a:=jR (aP 7) m j _ [.pl (.flip j)] (Nat.le_refl 1) ((pU (aP 6) j 4 j).trans (by simp [cP,pK]))
   have t:cP (.wsign m j) j=some (.wflip m j):=by simp [cP]
   rw [t]
   exact a
  ·have a:=jR (aP 7) m w _ [] (Nat.zero_le 1) ((pU (aP 6) j 4 w).trans (by simp [cP,pK,q]))
   have t:cP (.wsign m j) w=none:=by simp [cP,q]
   rw [t]
   exact a
end
inductive Sp where
 | g (p q:Nat) | j (p q:Nat) | s (p q t:Nat)
deriving DecidableEq
def zpD:Sp->D
 | .g p q=>.tuple [.str "gone",.int p,.int q]
 | .j p q=>.tuple [.str "joined",.int p,.int q]
 | .s p q t=>.tuple [.str "swung",.int p,.int q,.int t]
noncomputable def ro (rs:List Rw) (q:Nat):Rw:=(rs[q]?).getD (.look 0)
theorem kZ {rs:List Rw} {q:Nat} (h:q<rs.length):ro rs q=rs[q]:=by simp [ro,h]
theorem cS {rs:List Rw} {q:Nat} (h:q<rs.length):aD (.tuple (rs.map rwD)) (.int (q:Int))=some (rwD (ro rs q)):=by
 rw [kZ h]
 exact fS (j:=q) rfl (by simp [h])
theorem q8 (a m:Nat):nM (a:Int) m=(List.range' a m).map fun q:Nat=>PyData.int q:=by
 rw [List.range'_eq_map_range,List.map_map]
 exact List.map_congr_left fun k _=>by simp
theorem Ae {i j:Int} (h:i<4611686018427387904) (h2:-4611686018427387904<=i) (h3:j<4611686018427387904) (h4:-4611686018427387904<=j):d5 [.int i,.int j]=some (nM i (j-i).toNat):=if_pos ⟨⟨h,h2⟩,h3,h4⟩
theorem gI {a b:Nat} (ha:a<=100000) (hb:b<=100000):d5 [.int (a:Int),.int (b:Int)]=some ((List.range' a (b-a)).map fun q:Nat=>PyData.int q):=by
 rw [<- q8,Ae (by omega) (by omega) (by omega) (by omega),show ((b:Int)-a).toNat=b-a by omega]
noncomputable def iq (rs:List Rw) (p q:Nat):List Sp:=(if un (ro rs p) (ro rs q) then [.g p q] else [])++(if (ro rs p).isT&&te (ro rs p) (ro rs q) then [.j p q] else [])
noncomputable def fT (rs:List Rw) (p:Nat):List Nat->List Sp
 | []=>[]
 | q::qs=>iq rs p q++(if jV (ro rs p) (ro rs q) (-1) then fT rs p qs else [])
theorem ER (R A B SA SB:D) (a:Str) (p q:Int) (ds:List D) (u t v l:Bool) (ra:aD R (.int p)=some A) (rb:aD R (.int q)=some B) (hu:bU [A,B]=some (.bool u)) (a0:aD A (.int 0)=some (.str a)) (et:aO (.str a) (.str "turn")=some (.bool t)) (sa:eJ A none (some 2)=some SA) (sb:eJ B none (some 2)=some SB) (ev:aO SA SB=some (.bool v)) (hl:cO [A,B,.none]=some (.bool l)) (h1:ds.length<sizeLine) (h2:ds.length+1<sizeLine):cf [.fz R,.fz (.int p),.ow ds,.fz (.int q)] =
  some (if l then .nx else .rt (.list (ds++((if u then [.tuple [.str "gone",.int p,.int q]] else [])++(if t&&v then [.tuple [.str "joined",.int p,.int q]] else [])))),[.fz R,.fz (.int p),(if l then .ow (ds++((if u then [.tuple [.str "gone",.int p,.int q]] else [])++(if t&&v then [.tuple [.str "joined",.int p,.int q]] else []))) else .fz (.list (ds++((if u then [.tuple [.str "gone",.int p,.int q]] else [])++(if t&&v then [.tuple [.str "joined",.int p,.int q]] else []))))),.fz (.int q)]):=by
 cases u <;> cases t <;> cases v <;> cases l <;> simp [-sSeq,-sIf,ah,ao,cf,ra,rb,hu,a0,et,sa,sb,ev,hl,h1,h2,dFz]
theorem zD (rs:List Rw) (p q:Nat):(iq rs p q).map zpD=(if un (ro rs p) (ro rs q) then [.tuple [.str "gone",.int p,.int q]] else [])++(if (ro rs p).isT&&te (ro rs p) (ro rs q) then [.tuple [.str "joined",.int p,.int q]] else []):=by
 unfold iq
 rw [List.map_append]
 congr 1 <;> split <;> rfl
theorem qQ (rs:List Rw) (p q:Nat):(iq rs p q).length<=2:=by
 unfold iq
 rw [List.length_append]
 split <;> split <;> simp
theorem wX {rs:List Rw} (ho:Ord rs) {p q:Nat} (hp:p<rs.length) (hq:q<rs.length) (ds:List D) (hd:ds.length+2<sizeLine):cf [.fz (.tuple (rs.map rwD)),.fz (.int (p:Int)),.ow ds,.fz (.int (q:Int))]=some (if jV (ro rs p) (ro rs q) (-1) then .nx else .rt (.list (ds++(iq rs p q).map zpD)),[.fz (.tuple (rs.map rwD)),.fz (.int (p:Int)),(if jV (ro rs p) (ro rs q) (-1) then .ow (ds++(iq rs p q).map zpD) else .fz (.list (ds++(iq rs p q).map zpD))),.fz (.int (q:Int))]):=by
 have gd:∀ {k},k<rs.length->fq (ro rs k):=fun h=>by rw [kZ h]; exact ho.gd _ (List.getElem_mem h)
 have:=ER (.tuple (rs.map rwD)) _ _ _ _ _ (p:Int) (q:Int) ds _ _ _ _ (cS hp) (cS hq) (EM (ro rs p) (ro rs q)) (cp _) (lX _) (Aa _) (Aa _) (BS (ro rs p) (ro rs q)) (FV (gd hp) (gd hq) .none (-1) (.inr ⟨rfl,rfl⟩)) (by omega) (by omega)
 rw [zD]
 exact this
theorem qO {rs:List Rw} (ho:Ord rs) {p:Nat} (hp:p<rs.length):∀ (qs:List Nat),(∀ q∈qs,q<rs.length)->∀ (ds:List D),ds.length+2*qs.length+2<sizeLine->∀ z,∃ fl δ,loop (gN 3) cf (qs.map fun q:Nat=>.int q) [.fz (.tuple (rs.map rwD)),.fz (.int (p:Int)),.ow ds,z]=some (fl,δ)/\(fl=.rt (.list (ds++(fT rs p qs).map zpD))\/(fl=.nx/\∃ y,δ = [.fz (.tuple (rs.map rwD)),.fz (.int (p:Int)),.ow (ds++(fT rs p qs).map zpD),y]))
 | [],_,ds,_,z=>⟨.nx,_,rfl,.inr ⟨rfl,z,by simp [fT]⟩⟩
 | q::qs,hq,ds,hd,z=>by
  simp only [List.length_cons] at hd
  have st:=wX ho hp (hq q List.mem_cons_self) ds (by omega)
  have g:gN 3 (.int (q:Int)) [.fz (.tuple (rs.map rwD)),.fz (.int (p:Int)),.ow ds,z]=some [.fz (.tuple (rs.map rwD)),.fz (.int (p:Int)),.ow ds,.fz (.int (q:Int))]:=by simp
  cases hl:jV (ro rs p) (ro rs q) (-1) with
  | false=>
   rw [hl] at st
   refine ⟨_,_,by rw [List.map_cons]; exact eM g st,.inl ?_⟩
   simp [fT,hl]
  | true=>
   rw [hl] at st
   have tl:=qQ rs p q
   obtain ⟨fl,δ,e,h⟩:=qO ho hp qs (fun x hx=>hq x (List.mem_cons_of_mem _ hx)) (ds++(iq rs p q).map zpD) (by simp only [List.length_append,List.length_map]; omega) (.fz (.int (q:Int)))
   refine ⟨fl,δ,by rw [List.map_cons,bZ g st]; exact e,?_⟩
   have ee:ds++(fT rs p (q::qs)).map zpD=ds++(iq rs p q).map zpD++(fT rs p qs).map zpD:=by
    rw [fT,hl,if_pos rfl,List.map_append,List.append_assoc]
   rw [ee]
   exact h
noncomputable def rest (rs:List Rw) (p:Nat):List Nat:=List.range' (p+1) (rs.length-(p+1))
theorem mem_rest {rs:List Rw} {p q:Nat}:q∈rest rs p↔p<q/\q<rs.length:=by
 unfold rest
 rw [List.mem_range'_1]
 omega
theorem eL (rs:List Rw) (p:Nat):(rest rs p).length<=rs.length:=by
 unfold rest
 rw [List.length_range']
 omega
theorem EQ (R:D) (p n:Int) (L:List D) (X:D) (fl:Fl) (δ:Dv) (xs:List D) (ln:da [R]=some (.int n)) (hr:d5 [.int (p+1),.int n]=some L) (lp:loop (gN 3) cf L [.fz R,.fz (.int p),.ow [],.un]=some (fl,δ)) (h:fl=.rt (.list xs)\/(fl=.nx/\∃ y,δ = [.fz R,.fz (.int p),.ow xs,y])):bG [R,.int p]=some (.list xs):=by
 rcases h with rfl | ⟨rfl,y,rfl⟩
 ·simp [-sSeq,-sIf,ah,ao,bG,runB,dz,aj,ln,hr,lp]
 ·simp [-sSeq,-sIf,ah,ao,bG,runB,dz,aj,ln,hr,lp,dFz]
theorem Cz {rs:List Rw} (ho:Ord rs) (hn:rs.length<=100) {p:Nat} (hp:p<rs.length):bG [.tuple (rs.map rwD),.int (p:Int)]=some (.list ((fT rs p (rest rs p)).map zpD)):=by
 have hl:=eL rs p
 obtain ⟨fl,δ,e,h⟩:=qO ho hp (rest rs p) (fun q hq=>(mem_rest.mp hq).2) [] (by show 0+_+2<16777216; omega) .un
 refine EQ _ p rs.length _ .none fl δ _ (by simp) ?_ e h
 have:=gI (a:=p+1) (b:=rs.length) (by omega) (by omega)
 exact this
noncomputable def zd (rs:List Rw) (p w:Nat):List Nat:=(rest rs p).filter fun q=>(wl (ro rs q)).any (· == w)
theorem Iw (R:D) (p n p':Int) (w:Nat) (z:Sl) (xs:List Nat) (b:Nat->Bool) (W:Nat->D) (hx:xs.length<=16777216) (hp:p+1=p') (ln:da [R]=some (.int n)) (hr:d5 [.int p',.int n]=some (xs.map fun q:Nat=>PyData.int q)) (hw:∀ q∈xs,∃ A,aD R (.int (q:Int))=some A/\bt [A]=some (W q)) (hb:∀ q∈xs,dP false (.int (w:Int)) (W q)=some (.bool (b q))):cH [.fz R,.fz (.int p),.fz (.int (w:Int)),z]=some (.list ((xs.filter b).map fun q:Nat=>.int q)):=by
 have:=fF (fi:=oL (ae (o2 (oV 1) (oC (.int 1)) bd) (ae (VL.os (ae (oV 0) (aq)) da) (aq))) d5) (caps:=[(0,"rows"),(2,"wire")]) (ft:=ob (o2 (oV 2) (VL.os (ae (o2 (oV 1) (oV 0) aD) (aq)) bt) (dP false))) (fe:=oV 0) (δ:=[.fz R,.fz (.int p),.fz (.int (w:Int)),z]) (h:=fun n:Nat=>PyData.int n) (k:=fun n:Nat=>PyData.int n) (b:=b) (xs:=xs) (by simp [ln,hp,hr]) hx (fun q hq=>by
  obtain ⟨A,h1,h2⟩:=hw q hq
  simp [dS,h1,h2,hb q hq]) (fun q _ _=>by simp)
 exact this
theorem xJ {rs:List Rw} (hn:rs.length<=100) {p:Nat} (hp:p<rs.length) (w:Nat) (z:Sl):cH [.fz (.tuple (rs.map rwD)),.fz (.int (p:Int)),.fz (.int (w:Int)),z]=some (.list ((zd rs p w).map fun q:Nat=>.int q)):=by
 have hr:=gI (a:=p+1) (b:=rs.length) (by omega) (by omega)
 exact Iw _ p rs.length ((p+1:Nat):Int) w z (rest rs p) (fun q=>(wl (ro rs q)).any (· == w)) _ (Nat.le_trans (eL rs p) (by omega)) (by omega) (by simp) hr (fun q hq=>⟨_,cS (mem_rest.mp hq).2,jy _⟩) (fun q _=>jY w _)
noncomputable def dA (rs:List Rw) (p:Nat):List Sp:=match ro rs p with
 | .pl (.swing w)=>match zd rs p w with
  | a::b::_=>if nI (ro rs b) (ro rs p)&&(cP (ro rs a) w).isSome then [.s p a b] else []
  | _=>[]
 | _=>[]
theorem wZ (R A:D) (a:Str) (p:Int) (ra:aD R (.int p)=some A) (a0:aD A (.int 0)=some (.str a)) (hs:neD (.str a) (.str "swing")=some (.bool true)):aQ [R,.int p]=some (.list []):=by
 simp [-sSeq,-sIf,ah,ao,aQ,runB,b8,aj,ra,a0,hs]
section
variable (R A:D) (a:Str) (p w:Int) (ra:aD R (.int p)=some A) (a0:aD A (.int 0)=some (.str a)) (hs:neD (.str a) (.str "swing")=some (.bool false)) (a1:aD A (.int 1)=some (.int w)) (L:D) (hp1:cH [.fz R,.fz (.int p),.fz (.int w),.un]=some L)
include ra a0 hs a1 hp1
theorem oy (M:List D) (sl:eJ L none (some 2)=some (.list M)) (hl:¬ M.length=2):aQ [R,.int p]=some (.list []):=by
 have h:¬ ((M.length:Nat):Int)=2:=by omega
 simp [-sSeq,-sIf,ah,ao,aQ,runB,b8,aj,ra,a0,hs,a1,hp1,sl,h]
theorem vL (x y:Int) (X Y W:D) (c n:Bool) (sl:eJ L none (some 2)=some (.list [.int x,.int y])) (rx:aD R (.int x)=some X) (ry:aD R (.int y)=some Y) (e:aO Y A=some (.bool c)) (sw:c=true->cC [X,.int w]=some W/\yo W=!n):aQ [R,.int p]=some (.list (if c&&n then [.tuple [.str "swung",.int p,.int x,.int y]] else [])):=by
 cases c with
 | false=>simp [-sSeq,-sIf,ah,ao,aQ,runB,b8,aj,ra,a0,hs,a1,hp1,sl,rx,ry,e]
 | true=>
  obtain ⟨s1,s2⟩:=sw rfl
  cases n <;> simp [-sSeq,-sIf,ah,ao,aQ,runB,b8,aj,ra,a0,hs,a1,hp1,sl,rx,ry,e,s1,jW,s2]
end
theorem yn (o:Option Rw):yo (lQ o)=!o.isSome:=by
 cases o with
 | none=>rfl
 | some r=>
  obtain ⟨t,e⟩:=mI r
  show yo (rwD r)=false
  rw [e]; rfl
theorem xl (l:List Nat):eJ (.list (l.map fun q:Nat=>PyData.int q)) none (some 2)=some (.list ((l.take 2).map fun q:Nat=>PyData.int q)):=by
 show some (PyData.list (dZ _ _ _))=_
 unfold dZ
 rw [List.length_map,<- List.map_drop,<- List.map_take]
 match l with
 | []=>rfl
 | [a]=>rfl
 | a::b::t=>
  have h1:HT.sIx (a::b::t).length (a::b::t).length (some 2)=2:=by
   simp [HT.sIx]
  rw [h1]
  rfl
theorem w6 {rs:List Rw} (hn:rs.length<=100) {p:Nat} (hp:p<rs.length):aQ [.tuple (rs.map rwD),.int (p:Int)]=some (.list ((dA rs p).map zpD)):=by
 have ra:=cS hp
 cases hS:(ro rs p).isS with
 | false=>
  rw [wZ _ _ _ _ ra (cp _) (by rw [mQ,hS]; rfl)]
  have:dA rs p=[]:=by
   unfold dA
   split
   ·rename_i w e; rw [e] at hS; cases hS
   ·rfl
  rw [this]; rfl
 | true=>
  obtain ⟨w,ew⟩:∃ w,ro rs p=.pl (.swing w):=by
   cases h:ro rs p with
   | pl r=>cases r <;> first | exact ⟨_,rfl⟩ | (rw [h] at hS; cases hS)
   | _=>rw [h] at hS; cases hS
  have a1:aD (rwD (ro rs p)) (.int 1)=some (.int (w:Int)):=by rw [rH,ew]; rfl
  have hs:neD (.str (ro rs p).wd) (.str "swing")=some (.bool false):=by rw [mQ,hS]; rfl
  have hp1:=xJ hn hp w .un
  have sl:=xl (zd rs p w)
  have mem:∀ q∈zd rs p w,q<rs.length/\w∈wl (ro rs q):=fun q hq=>by
   obtain ⟨h1,h2⟩:=List.mem_filter.mp hq
   obtain ⟨x,hx,e⟩:=List.any_eq_true.mp h2
   exact ⟨(mem_rest.mp h1).2,by rw [<- eq_of_beq e]; exact hx⟩
  have tE:dA rs p=match zd rs p w with
   | a::b::_=>if nI (ro rs b) (ro rs p)&&(cP (ro rs a) w).isSome then [.s p a b] else []
   | _=>[]:=by
   unfold dA
   rw [ew]
  rw [tE]
  match hL:zd rs p w with
  | []=>
   rw [hL] at sl hp1
   rw [oy _ _ _ _ _ ra (cp _) hs a1 _ hp1 _ sl (by simp)]; rfl
  | [a]=>
   rw [hL] at sl hp1
   rw [oy _ _ _ _ _ ra (cp _) hs a1 _ hp1 _ sl (by simp)]; rfl
  | a::b::t=>
   have ma:=mem a (by rw [hL]; exact List.mem_cons_self)
   have mb:=mem b (by rw [hL]; exact List.mem_cons_of_mem _ List.mem_cons_self)
   rw [hL] at sl hp1
   rw [vL _ _ _ _ _ ra (cp _) hs a1 _ hp1 (a:Int) (b:Int) _ _ _ _ (cP (ro rs a) w).isSome sl (cS ma.1) (cS mb.1) (uw _ _) (fun _=>⟨J1 ma.2,yn _⟩)]
   simp only
   split <;> rfl
noncomputable def kj (rs:List Rw) (m:Nat):List Sp:=(List.range m).flatMap fun p=>fT rs p (rest rs p)++dA rs p
theorem ms (rs:List Rw) (p:Nat):∀ qs,(fT rs p qs).length<=2*qs.length
 | []=>Nat.le_refl _
 | q::qs=>by
  have h1:=qQ rs p q
  have h2:=ms rs p qs
  rw [fT,List.length_append,List.length_cons]
  split
  ·omega
  ·simp; omega
theorem jf (rs:List Rw) (p:Nat):(dA rs p).length<=1:=by
 unfold dA
 split
 ·split
  ·split <;> simp
  ·simp
 ·simp
theorem pc (rs:List Rw) (m:Nat):kj rs (m+1)=kj rs m++(fT rs m (rest rs m)++dA rs m):=by
 unfold kj
 rw [List.range_succ,List.flatMap_append]
 simp
theorem nB (rs:List Rw):∀ m,(kj rs m).length<=m*(2*rs.length+1)
 | 0=>by simp [kj]
 | m+1=>by
  have h1:=ms rs m (rest rs m)
  have h2:=eL rs m
  have h3:=jf rs m
  have h4:=nB rs m
  rw [pc,List.length_append,List.length_append,Nat.succ_mul]
  omega
theorem z9 (C R:D) (p:Int) (ds:List D) (A B:List D) (h1:bG [R,.int p]=some (.list A)) (h2:aQ [R,.int p]=some (.list B)) (s1:ds.length+A.length<=sizeLine) (s2:ds.length+A.length+B.length<=sizeLine):dO [.fz C,.fz R,.ow ds,.fz (.int p)]=some (.nx,[.fz C,.fz R,.ow (ds++A++B),.fz (.int p)]):=by
 have s2':(ds++A).length+B.length<=sizeLine:=by rw [List.length_append]; exact s2
 simp [dO,h1,h2,s1,lstI]
 exact s2
theorem xj (C R:D) (n:Int) (L:List D) (xs:List D) (y:Sl) (X:D) (cr:aD C (.int 1)=some R) (ln:da [R]=some (.int n)) (hr:iw [.int n]=some L) (lp:loop (gN 3) dO L [.fz C,.fz R,.ow [],.un]=some (.nx,[.fz C,.fz R,.ow xs,y])) (hs:dc (.list xs)=some X):aW [C]=some X:=by
 simp [-sSeq,-sIf,ah,ao,aW,runB,iP,aj,cr,ln,hr,lp,dFz,hs]
theorem hV (w:Nat) (rs:List Rw):aD (cirD w rs) (.int 1)=some (.tuple (rs.map rwD)):=by simp [cirD]
theorem vQ {rs:List Rw} (ho:Ord rs) (hn:rs.length<=100) (w:Nat) (X:D) (hs:dc (.list ((kj rs rs.length).map zpD))=some X):aW [cirD w rs]=some X:=by
 obtain ⟨δ',lp,z,rfl⟩:=rT (b:=dO) (k:=3) (fun i δ=>∃ z,δ = [.fz (cirD w rs),.fz (.tuple (rs.map rwD)),.ow ((kj rs i).map zpD),z]) rs.length (by
  rintro i hi δ ⟨z,rfl⟩
  have l1:=ms rs i (rest rs i)
  have l2:=eL rs i
  have l3:=jf rs i
  have l4:=nB rs i
  have l5:i*(2*rs.length+1)<=100*201:=Nat.mul_le_mul (by omega) (by omega)
  have st:=z9 (cirD w rs) (.tuple (rs.map rwD)) i ((kj rs i).map zpD) _ _ (Cz ho hn hi) (w6 hn hi) (by simp only [List.length_map]; show _<=16777216; omega) (by simp only [List.length_map]; show _<=16777216; omega)
  refine ⟨_,st,.fz (.int i),?_⟩
  rw [pc,List.map_append,List.map_append,List.append_assoc]) [.fz (cirD w rs),.fz (.tuple (rs.map rwD)),.ow [],.un] ⟨_,rfl⟩
 exact xj _ _ rs.length _ _ z X (hV w rs) (by simp) (kA (j:=(rs.length:Int)) (by omega) (by omega)) lp hs
theorem zR (rs:List Rw) {x:Nat} (hx:x<=rs.length):eJ (.tuple (rs.map rwD)) none (some (x:Int))=some (.tuple ((rs.take x).map rwD)):=by
 show some (PyData.tuple (dZ _ _ _))=_
 unfold dZ
 rw [List.length_map]
 have h1:HT.sIx rs.length 0 none=0:=rfl
 have h2:HT.sIx rs.length rs.length (some (x:Int))=x:=by
  simp only [HT.sIx]
  rw [if_neg (by omega)]
  omega
 rw [h1,h2,<- List.map_drop,<- List.map_take]
 rfl
theorem AL (R T:D) (x:Int) (n:Nat) (xs:List Rw) (hl:xs.length<=16777216) (sl:eJ R none (some x)=some (.tuple (xs.map rwD))) (hc:gQ xs=n):bw [R,.int x]=some (.int n):=by
 have:=fF (fi:=oI (gC (oV 0) (im) (oP (oV 1))) cY) (caps:=[]) (ft:=ob (o2 (o2 (oV 0) (oC (.int 0)) aD) (oC (.str "look")) aO)) (fe:=oV 0) (δ:=[.fz R,.fz (.int x)]) (h:=rwD) (k:=rwD) (b:=Rw.isLook) (xs:=xs) (by simp [sl]) hl (fun r _=>by simp [dS,cp,gm]) (fun r _ _=>by simp)
 have e:eW [.fz R,.fz (.int x)]=_:=this
 have hc':((xs.filter Rw.isLook).length:Int)=n:=by rw [<- List.countP_eq_length_filter]; exact congrArg Nat.cast hc
 simp [-sSeq,-sIf,ah,ao,bw,runB,dD,aj,e,da,hc']
theorem xV {rs:List Rw} (hn:rs.length<=100) {x:Nat} (hx:x<=rs.length):bw [.tuple (rs.map rwD),.int (x:Int)]=some (.int (gQ (rs.take x))):=AL _ .none x _ _ (by rw [List.length_take]; omega) (zR rs hx) rfl
noncomputable def sL (rs:List Rw) (p:Nat) (xs:List Nat):Bool:=xs.all fun x=>jV (ro rs p) (ro rs x) (gQ (rs.take x))
theorem GP (R A B:D) (p q x m:Int) (l:Bool) (ra:aD R (.int p)=some A) (rb:aD R (.int x)=some B) (hm:bw [R,.int x]=some (.int m)) (hl:bI [A,B,.int m]=some (.bool l)):dj [.fz R,.fz (.int p),.fz (.int q),.fz (.int x)]=some (if l then .nx else .rt (.bool false),[.fz R,.fz (.int p),.fz (.int q),.fz (.int x)]):=by
 cases l <;> simp [-sSeq,-sIf,ah,ao,dj,ra,rb,hm,hl]
theorem sK {rs:List Rw} (hn:rs.length<=100) {p:Nat} (hp:p<rs.length) (q:Int):∀ (xs:List Nat),(∀ x∈xs,x<rs.length)->∀ z,∃ δ,loop (gN 3) dj (xs.map fun x:Nat=>.int x) [.fz (.tuple (rs.map rwD)),.fz (.int (p:Int)),.fz (.int q),z]=some (if sL rs p xs then .nx else .rt (.bool false),δ)
 | [],_,z=>⟨_,rfl⟩
 | x::xs,hx,z=>by
  have hx0:=hx x List.mem_cons_self
  have st:=GP (.tuple (rs.map rwD)) _ _ p q x _ _ (cS hp) (cS hx0) (xV hn (by omega)) (x8 (ro rs p) (ro rs x) (gQ (rs.take x)))
  have g:gN 3 (.int (x:Int)) [.fz (.tuple (rs.map rwD)),.fz (.int (p:Int)),.fz (.int q),z]=some [.fz (.tuple (rs.map rwD)),.fz (.int (p:Int)),.fz (.int q),.fz (.int (x:Int))]:=by simp
  cases hl:jV (ro rs p) (ro rs x) (gQ (rs.take x)) with
  | false=>
   rw [hl] at st
   refine ⟨[.fz (.tuple (rs.map rwD)),.fz (.int (p:Int)),.fz (.int q),.fz (.int (x:Int))],?_⟩
   rw [List.map_cons,eM g st]
   simp [sL,hl]
  | true=>
   rw [hl] at st
   obtain ⟨δ,e⟩:=sK hn hp q xs (fun y hy=>hx y (List.mem_cons_of_mem _ hy)) (.fz (.int (x:Int)))
   refine ⟨δ,?_⟩
   rw [List.map_cons,bZ g st,e]
   simp [sL,hl]
noncomputable def BK (p q:Nat):List Nat:=List.range' (p+1) (q-(p+1))
theorem mem_btw {p q x:Nat}:x∈BK p q↔p<x/\x<q:=by
 unfold BK
 rw [List.mem_range'_1]
 omega
theorem BA (R:D) (p p' q:Int) (L:List D) (b:Bool) (δ:Dv) (hp:p+1=p') (hr:d5 [.int p',.int q]=some L) (lp:loop (gN 3) dj L [.fz R,.fz (.int p),.fz (.int q),.un]=some (if b then .nx else .rt (.bool false),δ)):bT [R,.int p,.int q]=some (.bool b):=by
 cases b <;> simp at lp <;> simp [-sSeq,-sIf,ah,ao,bT,runB,ie,aj,hp,hr,lp]
theorem sM {rs:List Rw} (hn:rs.length<=100) {p q:Nat} (hp:p<rs.length) (hq:q<rs.length):bT [.tuple (rs.map rwD),.int (p:Int),.int (q:Int)]=some (.bool (sL rs p (BK p q))):=by
 obtain ⟨δ,lp⟩:=sK hn hp q (BK p q) (fun x hx=>by have:=mem_btw.mp hx; omega) .un
 exact BA _ p ((p+1:Nat):Int) q _ _ δ (by omega) (gI (by omega) (by omega)) lp
noncomputable def wO (r:Rw) (w:Nat):Bool:=(kl r).any (·.1==w)
def eO (rs:List Rw):Sp->Bool
 | .g p q=>un (ro rs p) (ro rs q)&&sL rs p (BK p q)
 | .j p q=>(ro rs p).isT&&(te (ro rs q) (ro rs p)&&sL rs p (BK p q))
 | .s p q t=>!(!(ro rs p).isS||(!nI (ro rs p) (ro rs t)||(cP (ro rs q) (ro rs p).n1).toList.isEmpty))&&(BK p t).all fun x=>!(!(x==q)&&wO (ro rs x) (ro rs p).n1)
theorem iz:iZ "gone" = true:=by decide +kernel
theorem fI:iZ "joined" = true:=by decide +kernel
theorem kD:iZ "swung" = true:=by decide +kernel
theorem k_gg:aO (.str "gone") (.str "gone")=some (.bool true):=(du iz iz).trans (congrArg (fun z=>some (PyData.bool z)) (show (("gone":Str)==("gone":Str))=true by decide +kernel))
theorem k_jg:aO (.str "joined") (.str "gone")=some (.bool false):=(du fI iz).trans (congrArg (fun z=>some (PyData.bool z)) (show (("joined":Str)==("gone":Str))=false by decide +kernel))
theorem k_jj:aO (.str "joined") (.str "joined")=some (.bool true):=(du fI fI).trans (congrArg (fun z=>some (PyData.bool z)) (show (("joined":Str)==("joined":Str))=true by decide +kernel))
theorem k_sg:aO (.str "swung") (.str "gone")=some (.bool false):=(du kD iz).trans (congrArg (fun z=>some (PyData.bool z)) (show (("swung":Str)==("gone":Str))=false by decide +kernel))
theorem k_sj:aO (.str "swung") (.str "joined")=some (.bool false):=(du kD fI).trans (congrArg (fun z=>some (PyData.bool z)) (show (("swung":Str)==("joined":Str))=false by decide +kernel))
theorem vt (s:Str) (p q:Int):eJ (.tuple [.str s,.int p,.int q]) (some 1) (some 3)=some (.tuple [.int p,.int q]):=rfl
theorem yQ (s:Str) (p q t:Int):eJ (.tuple [.str s,.int p,.int q,.int t]) (some 1) (some 3)=some (.tuple [.int p,.int q]):=rfl
theorem GA (R A B:D) (p q:Int) (u c:Bool) (ra:aD R (.int p)=some A) (rb:aD R (.int q)=some B) (hu:bV [A,B]=some (.bool u)) (hc:bT [R,.int p,.int q]=some (.bool c)):bz [R,.tuple [.str "gone",.int p,.int q]]=some (.bool (u&&c)):=by
 cases u <;> simp [-sSeq,-sIf,ah,ao,bz,runB,fR,aj,sAsg,vt,k_gg,ra,rb,hu,hc]
theorem Gz (R A B SA SB:D) (a:Str) (p q:Int) (t v c:Bool) (ra:aD R (.int p)=some A) (rb:aD R (.int q)=some B) (a0:aD A (.int 0)=some (.str a)) (et:aO (.str a) (.str "turn")=some (.bool t)) (sa:eJ A none (some 2)=some SA) (sb:eJ B none (some 2)=some SB) (ev:aO SB SA=some (.bool v)) (hc:bT [R,.int p,.int q]=some (.bool c)):bz [R,.tuple [.str "joined",.int p,.int q]]=some (.bool (t&&(v&&c))):=by
 cases t <;> cases v <;> simp [-sSeq,-sIf,ah,ao,bz,runB,fR,aj,sAsg,vt,k_jg,k_jj,ra,rb,a0,et,sa,sb,ev,hc]
theorem Gw (r:Rw) (z0 z1 z2 z3 z4:Sl) (R:D) (x:Int) (rx:aD R (.int x)=some (rwD r)):iy [.fz R,z1,z2,z3,z4,.fz (.int x)]=some (.list ((kl r).map fun k=>.int k.1)):=by
 have hk:(kl r).length<=2:=by
  cases r with
  | pl r=>cases r <;> simp [kl]
  | _=>simp [kl]
 have:=fO (fi:=oI (VL.os (ae (o2 (oV 0) (oV 5) aD) (aq)) bN) cY) (caps:=[]) (fe:=o2 (oV 0) (oC (.int 0)) aD) (δ:=[.fz R,z1,z2,z3,z4,.fz (.int x)]) (h:=oG) (k:=fun k=>.int k.1) (xs:=kl r) (by simp [rx,kF]) (by omega) (fun k _=>by simp [dS,oG])
 exact this
theorem Gk (w:Nat) (l:List (Nat×Kd)):dP false (.int w) (.list (l.map fun k=>.int k.1))=some (.bool (l.any (·.1==w))):=by
 have h:=jY w (l.map (·.1))
 rw [List.map_map] at h
 have e:dP false (.int w) (.list (l.map fun k=>.int k.1))=dP false (.int w) (.tuple (l.map fun k=>.int k.1)):=rfl
 rw [e,show (l.map fun k:Nat×Kd=>PyData.int k.1)=l.map ((fun n:Nat=>PyData.int n) ∘ (·.1)) from rfl,h,List.any_map]
 rfl
theorem Jg (R A S K:D) (p q t x w:Int) (c:Bool) (k:Bool) (ra:aD R (.int p)=some A) (a1:aD A (.int 1)=some (.int w)) (hp:iy [.fz R,.fz S,.fz (.int p),.fz (.int q),.fz (.int t),.fz (.int x)]=some K) (hc:(x==q)=c) (hi:dP false (.int w) K=some (.bool k)):cU [.fz R,.fz S,.fz (.int p),.fz (.int q),.fz (.int t),.fz (.int x)]=some (if !(!c&&k) then .nx else .rt (.bool false),[.fz R,.fz S,.fz (.int p),.fz (.int q),.fz (.int t),.fz (.int x)]):=by
 cases c with
 | true=>
  have h:x=q:=eq_of_beq hc
  subst h
  simp [-sSeq,-sIf,ah,ao,cU]
 | false=>
  have h:¬ x=q:=by simpa using hc
  cases k <;> simp [-sSeq,-sIf,ah,ao,cU,h,ra,a1,hp,hi]
theorem vj {rs:List Rw} {p:Nat} (hp:p<rs.length) (S:D) (q t:Nat):∀ (xs:List Nat),(∀ x∈xs,x<rs.length)->∀ z,∃ δ,loop (gN 5) cU (xs.map fun x:Nat=>.int x) [.fz (.tuple (rs.map rwD)),.fz S,.fz (.int (p:Int)),.fz (.int (q:Int)),.fz (.int (t:Int)),z]=some (if xs.all fun x=>!(!(x==q)&&wO (ro rs x) (ro rs p).n1) then .nx else .rt (.bool false),δ)
 | [],_,z=>⟨_,rfl⟩
 | x::xs,hx,z=>by
  have hx0:=hx x List.mem_cons_self
  have st:=Jg (.tuple (rs.map rwD)) _ S _ p q t x _ (x==q) _ (cS hp) (rH _) (Gw _ .un _ _ _ _ _ _ (cS hx0)) (lS x q) (Gk _ _)
  have g:gN 5 (.int (x:Int)) [.fz (.tuple (rs.map rwD)),.fz S,.fz (.int (p:Int)),.fz (.int (q:Int)),.fz (.int (t:Int)),z]=some [.fz (.tuple (rs.map rwD)),.fz S,.fz (.int (p:Int)),.fz (.int (q:Int)),.fz (.int (t:Int)),.fz (.int (x:Int))]:=by simp
  have st:cU [.fz (.tuple (rs.map rwD)),.fz S,.fz (.int (p:Int)),.fz (.int (q:Int)),.fz (.int (t:Int)),.fz (.int (x:Int))]=some (if !(!(x==q)&&wO (ro rs x) (ro rs p).n1) then .nx else .rt (.bool false),[.fz (.tuple (rs.map rwD)),.fz S,.fz (.int (p:Int)),.fz (.int (q:Int)),.fz (.int (t:Int)),.fz (.int (x:Int))]):=st
  cases hl:!(!(x==q)&&wO (ro rs x) (ro rs p).n1) with
  | false=>
   rw [hl] at st
   refine ⟨[.fz (.tuple (rs.map rwD)),.fz S,.fz (.int (p:Int)),.fz (.int (q:Int)),.fz (.int (t:Int)),.fz (.int (x:Int))],?_⟩
   rw [List.map_cons,eM g st,List.all_cons,hl]
   rfl
  | true=>
   rw [hl] at st
   obtain ⟨δ,e⟩:=vj hp S q t xs (fun y hy=>hx y (List.mem_cons_of_mem _ hy)) (.fz (.int (x:Int)))
   refine ⟨δ,?_⟩
   rw [List.map_cons,bZ g st,e,List.all_cons,hl,Bool.true_and]
theorem ix3 (s:Str) (p q t:Int):aD (.tuple [.str s,.int p,.int q,.int t]) (.int 3)=some (.int t):=rfl
theorem Gy (R A B T W:D) (a:Str) (p p' q t w:Int) (s e v b:Bool) (L:List D) (δ:Dv) (ra:aD R (.int p)=some A) (a0:aD A (.int 0)=some (.str a)) (es:neD (.str a) (.str "swing")=some (.bool (!s))) (rt:aD R (.int t)=some T) (he:neD A T=some (.bool (!e))) (a1:aD A (.int 1)=some (.int w)) (rb:aD R (.int q)=some B) (hw:cb [B,.int w]=some W) (hv:aO W (.list [])=some (.bool v)) (hp:p+1=p') (hr:d5 [.int p',.int t]=some L) (lp:loop (gN 5) cU L [.fz R,.fz (.tuple [.str "swung",.int p,.int q,.int t]),.fz (.int p),.fz (.int q),.fz (.int t),.un]=some (if b then .nx else .rt (.bool false),δ)):bz [R,.tuple [.str "swung",.int p,.int q,.int t]]=some (.bool (!(!s||(!e||v))&&b)):=by
 cases s <;> cases e <;> cases v <;> cases b <;> simp at lp es he <;> simp [-sSeq,-sIf,ah,ao,bz,runB,fR,aj,sAsg,yQ,k_sg,k_sj,ix3,ra,a0,es,rt,he,a1,rb,hw,hv,hp,hr,lp]
theorem DU (o:Option Rw):aO (pK o) (.list [])=some (.bool o.toList.isEmpty):=by
 cases o with
 | none=>rfl
 | some r=>
  have h:MA.Sh 3 (.list ([r].map rwD)):=MA.Sh.list fun x hx=>by obtain ⟨r,_,rfl⟩:=List.mem_map.mp hx; exact Fc r
  have h2:kW (.list ([]:List D))=true:=by rfl
  show aO (.list ([r].map rwD)) (.list [])=_
  unfold aO
  rw [if_pos ⟨d8 h (by decide),h2⟩]
  simp [PyData.eqv,PyData.eqvAll]
def EE (n:Nat):Sp->Prop
 | .g p q=>p<n/\q<n
 | .j p q=>p<n/\q<n
 | .s p q t=>p<n/\q<n/\t<n
theorem uo {rs:List Rw} (ho:Ord rs) (hn:rs.length<=100) (x:Sp) (hx:EE rs.length x):bz [.tuple (rs.map rwD),zpD x]=some (.bool (eO rs x)):=by
 have gd:∀ {k},k<rs.length->fq (ro rs k):=fun h=>by rw [kZ h]; exact ho.gd _ (List.getElem_mem h)
 cases x with
 | g p q=>exact GA _ _ _ p q _ _ (cS hx.1) (cS hx.2) (FQ _ _) (sM hn hx.1 hx.2)
 | j p q=>exact Gz _ _ _ _ _ _ p q _ _ _ (cS hx.1) (cS hx.2) (cp _) (lX _) (Aa _) (Aa _) (BS _ _) (sM hn hx.1 hx.2)
 | s p q t=>
  obtain ⟨h1,h2,h3⟩:=hx
  obtain ⟨δ,lp⟩:=vj h1 (.tuple [.str "swung",.int (p:Int),.int (q:Int),.int (t:Int)]) q t (BK p t) (fun x hx=>by have:=mem_btw.mp hx; omega) .un
  exact Gy _ _ _ _ _ _ p ((p+1:Nat):Int) q t _ _ _ _ _ _ δ (cS h1) (cp _) (mQ _) (cS h3) (DS _ _) (rH _) (cS h2) (J2 (gd h2)) (DU _) (by omega) (gI (by omega) (by omega)) lp
noncomputable def gu (rs:List Rw) (p q:Nat):List Sp:=.g p q :: .j p q::(if (ro rs p).isS then (rest rs q).map (Sp.s p q) else [])
noncomputable def iO (rs:List Rw) (p:Nat) (qs:List Nat):List Sp:=qs.flatMap (gu rs p)
noncomputable def d0 (rs:List Rw) (m:Nat):List Sp:=(List.range m).flatMap fun p=>iO rs p (rest rs p)
theorem Is (z0 z1:Sl) (n p q q':Int) (ts:List Nat) (ht:ts.length<=16777216) (hq:q+1=q') (hr:d5 [.int q',.int n]=some (ts.map fun t:Nat=>PyData.int t)):gA [z0,z1,.fz (.int n),.fz (.int p),.fz (.int q)]=some (.list (ts.map fun t:Nat=>.tuple [.str "swung",.int p,.int q,.int t])):=by
 have:=fO (fi:=oL (ae (o2 (oV 4) (oC (.int 1)) bd) (ae (oV 2) (aq))) d5) (caps:=[(3,"p"),(4,"q")]) (fe:=VL.os (ae (oC (.str "swung")) (ae (oV 1) (ae (oV 2) (ae (oV 0) (aq))))) bh) (δ:=[z0,z1,.fz (.int n),.fz (.int p),.fz (.int q)]) (h:=fun t:Nat=>PyData.int t) (k:=fun t:Nat=>.tuple [.str "swung",.int p,.int q,.int t]) (xs:=ts) (by simp [hq,hr]) ht (fun t _=>by simp [dS])
 exact this
theorem Jp (R A:D) (a:Str) (n p q:Int) (s:Bool) (ds E:List D) (ra:aD R (.int p)=some A) (a0:aD A (.int 0)=some (.str a)) (es:aO (.str a) (.str "swing")=some (.bool s)) (hp:∀ z,gA [.fz R,z,.fz (.int n),.fz (.int p),.fz (.int q)]=some (.list E)) (h1:ds.length<sizeLine) (h2:ds.length+1<sizeLine) (h3:ds.length+1+1+E.length<=sizeLine):dh [.fz R,.ow ds,.fz (.int n),.fz (.int p),.fz (.int q)]=some (.nx,[.fz R,.ow (ds++(.tuple [.str "gone",.int p,.int q] :: .tuple [.str "joined",.int p,.int q]::(if s then E else []))),.fz (.int n),.fz (.int p),.fz (.int q)]):=by
 cases s <;> simp [-sSeq,-sIf,ah,ao,dh,ra,a0,es,hp,h1,h2,h3,lstI]
theorem wG (rs:List Rw) (p q:Nat):(gu rs p q).map zpD=.tuple [.str "gone",.int p,.int q] :: .tuple [.str "joined",.int p,.int q]::(if (ro rs p).isS then (rest rs q).map fun t:Nat=>.tuple [.str "swung",.int p,.int q,.int t] else []):=by
 unfold gu
 rw [List.map_cons,List.map_cons]
 congr 2
 split
 ·rw [List.map_map]; rfl
 ·rfl
theorem o4 (rs:List Rw) (p q:Nat):(gu rs p q).length<=rs.length+2:=by
 have:=eL rs q
 unfold gu
 rw [List.length_cons,List.length_cons]
 split
 ·rw [List.length_map]; omega
 ·simp
theorem vv {rs:List Rw} (hn:rs.length<=100) {p:Nat} (hp:p<rs.length):∀ (qs:List Nat),(∀ q∈qs,q<rs.length)->∀ (ds:List D),ds.length+qs.length*(rs.length+2)+2<sizeLine->∀ z,∃ y,loop (gN 4) dh (qs.map fun q:Nat=>.int q) [.fz (.tuple (rs.map rwD)),.ow ds,.fz (.int (rs.length:Int)),.fz (.int (p:Int)),z]=some (.nx,[.fz (.tuple (rs.map rwD)),.ow (ds++(iO rs p qs).map zpD),.fz (.int (rs.length:Int)),.fz (.int (p:Int)),y])
 | [],_,ds,_,z=>⟨z,by simp [iO]⟩
 | q::qs,hq,ds,hd,z=>by
  rw [List.length_cons,Nat.succ_mul] at hd
  have hq0:=hq q List.mem_cons_self
  have rl:=eL rs q
  have cl:=o4 rs p q
  have st:=Jp (.tuple (rs.map rwD)) _ _ rs.length p q _ ds _ (cS hp) (cp _) (sG _) (fun z=>Is _ z rs.length p q ((q+1:Nat):Int) (rest rs q) (by omega) (by omega) (gI (a:=q+1) (b:=rs.length) (by omega) (by omega))) (by omega) (by omega) (by rw [List.length_map]; omega)
  rw [<- wG] at st
  obtain ⟨y,e⟩:=vv hn hp qs (fun x hx=>hq x (List.mem_cons_of_mem _ hx)) (ds++(gu rs p q).map zpD) (by rw [List.length_append,List.length_map]; omega) (.fz (.int (q:Int)))
  refine ⟨y,?_⟩
  rw [List.map_cons,bZ (δ1:=[.fz (.tuple (rs.map rwD)),.ow ds,.fz (.int (rs.length:Int)),.fz (.int (p:Int)),.fz (.int (q:Int))]) (by simp) st,e,iO,iO,List.flatMap_cons,List.map_append,List.append_assoc]
theorem o3 (rs:List Rw) (m:Nat):d0 rs (m+1)=d0 rs m++iO rs m (rest rs m):=by
 unfold d0
 rw [List.range_succ,List.flatMap_append]
 simp
theorem o5 (rs:List Rw) (p:Nat):∀ qs,(iO rs p qs).length<=qs.length*(rs.length+2)
 | []=>by simp [iO]
 | q::qs=>by
  have h1:=o4 rs p q
  have h2:=o5 rs p qs
  rw [iO,List.flatMap_cons,List.length_append,List.length_cons,Nat.succ_mul]
  unfold iO at h2
  omega
theorem nq (rs:List Rw):∀ m,(d0 rs m).length<=m*(rs.length*(rs.length+2))
 | 0=>by simp [d0]
 | m+1=>by
  have h1:=o5 rs m (rest rs m)
  have h2:=Nat.mul_le_mul_right (rs.length+2) (eL rs m)
  have h3:=nq rs m
  rw [o3,List.length_append,Nat.succ_mul]
  omega
theorem IR (R:D) (n p p':Int) (L ds es:List D) (z y:Sl) (hp:p+1=p') (hr:d5 [.int p',.int n]=some L) (lp:loop (gN 4) dh L [.fz R,.ow ds,.fz (.int n),.fz (.int p),z]=some (.nx,[.fz R,.ow es,.fz (.int n),.fz (.int p),y])):dg [.fz R,.ow ds,.fz (.int n),.fz (.int p),z]=some (.nx,[.fz R,.ow es,.fz (.int n),.fz (.int p),y]):=by
 simp [dg,hp,hr,lp]
theorem Iv (R:D) (z2 z3 z4:Sl) (xs:List Sp) (b:Sp->Bool) (hl:xs.length<=16777216) (hb:∀ x∈xs,bz [R,zpD x]=some (.bool (b x))):gz [.fz R,.fz (.list (xs.map zpD)),z2,z3,z4]=some (.list ((xs.filter b).map zpD)):=by
 have:=fF (fi:=oI (oV 1) cY) (caps:=[(0,"rows")]) (ft:=ob (VL.os (ae (oV 1) (ae (oV 0) (aq))) bz)) (fe:=oV 0) (δ:=[.fz R,.fz (.list (xs.map zpD)),z2,z3,z4]) (h:=zpD) (k:=zpD) (b:=b) (xs:=xs) (by simp) hl (fun x hx=>by simp [dS,hb x hx]) (fun x _ _=>by simp)
 exact this
theorem IG (R X F:D) (n:Int) (L xs:List D) (z3 z4:Sl) (ln:da [R]=some (.int n)) (hr:iw [.int n]=some L) (lp:loop (gN 3) dg L [.fz R,.ow [],.fz (.int n),.un,.un]=some (.nx,[.fz R,.ow xs,.fz (.int n),z3,z4])) (h2:gz [.fz R,.fz (.list xs),.fz (.int n),z3,z4]=some F) (hs:dc F=some X):bM [R]=some X:=by
 simp [-sSeq,-sIf,ah,ao,bM,runB,h8,aj,ln,hr,lp,dFz,h2,hs]
theorem BI {rs:List Rw} {x:Sp} (h:x∈d0 rs rs.length):EE rs.length x:=by
 obtain ⟨p,hp,h⟩:=List.mem_flatMap.mp h
 obtain ⟨q,hq,h⟩:=List.mem_flatMap.mp h
 have hp:=List.mem_range.mp hp
 have hq:=mem_rest.mp hq
 unfold gu at h
 rcases List.mem_cons.mp h with rfl | h
 ·exact ⟨hp,hq.2⟩
 rcases List.mem_cons.mp h with rfl | h
 ·exact ⟨hp,hq.2⟩
 split at h
 ·obtain ⟨t,ht,rfl⟩:=List.mem_map.mp h
  exact ⟨hp,hq.2,(mem_rest.mp ht).2⟩
 ·cases h
theorem wm {rs:List Rw} (ho:Ord rs) (hn:rs.length<=100) (X:D) (hs:dc (.list (((d0 rs rs.length).filter (eO rs)).map zpD))=some X):bM [.tuple (rs.map rwD)]=some X:=by
 have big:∀ i,i<=rs.length->i*(rs.length*(rs.length+2))<=100*(100*102):=fun i hi=>Nat.mul_le_mul (by omega) (Nat.mul_le_mul hn (by omega))
 obtain ⟨δ',lp,z3,z4,rfl⟩:=rT (b:=dg) (k:=3) (fun i δ=>∃ z3 z4,δ = [.fz (.tuple (rs.map rwD)),.ow ((d0 rs i).map zpD),.fz (.int (rs.length:Int)),z3,z4]) rs.length (by
  rintro i hi δ ⟨z3,z4,rfl⟩
  have l2:=eL rs i
  have l4:=nq rs i
  have l5:=big i (by omega)
  have l6:(rest rs i).length*(rs.length+2)<=100*102:=Nat.mul_le_mul (by omega) (by omega)
  obtain ⟨y,e⟩:=vv hn hi (rest rs i) (fun q hq=>(mem_rest.mp hq).2) ((d0 rs i).map zpD) (by rw [List.length_map]; show _<16777216; omega) z4
  have st:=IR (.tuple (rs.map rwD)) rs.length i ((i+1:Nat):Int) _ _ _ z4 y (by omega) (gI (a:=i+1) (b:=rs.length) (by omega) (by omega)) e
  refine ⟨_,st,.fz (.int (i:Int)),y,?_⟩
  rw [o3,List.map_append]) [.fz (.tuple (rs.map rwD)),.ow [],.fz (.int (rs.length:Int)),.un,.un] ⟨_,_,rfl⟩
 have l4:=nq rs rs.length
 have l5:=big rs.length (Nat.le_refl _)
 exact IG _ X _ rs.length _ _ z3 z4 (by simp) (kA (j:=(rs.length:Int)) (by omega) (by omega)) lp (Iv _ _ _ _ (d0 rs rs.length) (eO rs) (by omega) (fun x hx=>uo ho hn x (BI hx))) hs
theorem oF {rs:List Rw} (ho:Ord rs) {p x:Nat} (hp:p<x) (hx:x<rs.length):jV (ro rs p) (ro rs x) (gQ (rs.take x))=jV (ro rs p) (ro rs x) (-1):=by
 have le:∀ {a b:Nat},a<=b->gQ (rs.take a)<=gQ (rs.take b):=fun {a b} h=>by
  have e:rs.take a=(rs.take b).take a:=by rw [List.take_take,Nat.min_eq_left h]
  rw [e]
  exact List.Sublist.countP_le (List.take_sublist _ _)
 have no:∀ {r q:Rw} {m:Nat},mb m r->∀ n:Nat,m<=n->kR r q n=kR r q (-1):=fun {r q m} h n hn=>by
  cases r with
  | wflip k j=>
   have h:k<m:=h
   simp only [kR]
   rw [show (((k:Int)==(n:Int)):Bool)=false by simp; omega,show (((k:Int) == -1):Bool)=false by simp]
  | wsign k j=>
   have h:k<m:=h
   simp only [kR]
   rw [show (((k:Int)==(n:Int)):Bool)=false by simp; omega,show (((k:Int) == -1):Bool)=false by simp]
  | _=>rfl
 have h1:=no (q:=ro rs p) (ho.at_ x hx) (gQ (rs.take x)) (Nat.le_refl _)
 have h2:=no (q:=ro rs x) (ho.at_ p (by omega)) (gQ (rs.take x)) (le (by omega))
 rw [<- kZ hx] at h1
 rw [<- kZ (show p<rs.length by omega)] at h2
 unfold jV
 rw [h1,h2]
theorem mem_twoS {rs:List Rw} {p q:Nat} {x:Sp}:x∈iq rs p q↔(x=.g p q/\un (ro rs p) (ro rs q)=true)\/(x=.j p q/\(ro rs p).isT=true/\te (ro rs p) (ro rs q)=true):=by
 unfold iq
 rw [List.mem_append]
 cases un (ro rs p) (ro rs q) <;> cases (ro rs p).isT <;> cases te (ro rs p) (ro rs q) <;> simp
theorem mem_twoL {rs:List Rw} {p:Nat} {x:Sp}:∀ {m a:Nat},x∈fT rs p (List.range' a m)↔∃ q,a<=q/\q<a+m/\x∈iq rs p q/\∀ y,a<=y->y<q->jV (ro rs p) (ro rs y) (-1)=true
 | 0,a=>by
  simp only [List.range'_zero,fT,List.not_mem_nil,false_iff]
  rintro ⟨q,h1,h2,_⟩
  omega
 | m+1,a=>by
  rw [List.range'_succ,fT,List.mem_append]
  constructor
  ·rintro (h | h)
   ·exact ⟨a,Nat.le_refl _,by omega,h,fun y h1 h2=>absurd h1 (by omega)⟩
   ·split at h
    ·rename_i hl
     obtain ⟨q,h1,h2,h3,h4⟩:=mem_twoL.mp h
     refine ⟨q,by omega,by omega,h3,fun y y1 y2=>?_⟩
     by_cases e:y=a
     ·rw [e]; exact hl
     ·exact h4 y (by omega) y2
    ·cases h
  ·rintro ⟨q,h1,h2,h3,h4⟩
   by_cases e:q=a
   ·subst e; exact .inl h3
   ·refine .inr ?_
    rw [if_pos (h4 a (Nat.le_refl _) (by omega))]
    exact mem_twoL.mpr ⟨q,by omega,by omega,h3,fun y y1 y2=>h4 y (by omega) y2⟩
theorem wT (r:Rw) (w:Nat):(wl r).any (· == w)=wO r w:=by
 unfold wO
 rw [Bool.eq_iff_iff,List.any_eq_true,List.any_eq_true]
 constructor
 ·rintro ⟨x,hx,e⟩
  have e:=eq_of_beq e
  subst e
  obtain ⟨k,hk⟩:=(ot x).mp hx
  exact ⟨_,hk,by simp⟩
 ·rintro ⟨k,hk,e⟩
  have e:=eq_of_beq e
  exact ⟨w,(ot w).mpr ⟨k.2,by rw [<- e]; exact hk⟩,by simp⟩
theorem sD (f:Nat->Bool) {q:Nat} {l:List Nat}:∀ {m a:Nat},(List.range' a m).filter f=q::l↔a<=q/\q<a+m/\f q=true/\(∀ x,a<=x->x<q->f x=false)/\l=(List.range' (q+1) (a+m-(q+1))).filter f
 | 0,a=>by
  simp only [List.range'_zero,List.filter_nil]
  constructor
  ·intro h; cases h
  ·rintro ⟨h1,h2,_⟩; omega
 | m+1,a=>by
  rw [List.range'_succ,List.filter_cons]
  split
  ·rename_i hf
   constructor
   ·intro h
    obtain ⟨rfl,rfl⟩:=List.cons.inj h
    exact ⟨Nat.le_refl _,by omega,hf,fun x h1 h2=>absurd h1 (by omega),by rw [show a+(m+1)-(a+1)=m by omega]⟩
   ·rintro ⟨h1,h2,h3,h4,h5⟩
    have e:q=a:=by
     by_cases e:q=a
     ·exact e
     ·have:=h4 a (Nat.le_refl _) (by omega)
      rw [hf] at this
      cases this
    subst e
    rw [h5,show q+(m+1)-(q+1)=m by omega]
  ·rename_i hf
   rw [sD f (m:=m) (a:=a+1)]
   constructor
   ·rintro ⟨h1,h2,h3,h4,h5⟩
    refine ⟨by omega,by omega,h3,fun x x1 x2=>?_,by rw [h5,show a+1+m=a+(m+1) by omega]⟩
    by_cases e:x=a
    ·rw [e]; simpa using hf
    ·exact h4 x (by omega) x2
   ·rintro ⟨h1,h2,h3,h4,h5⟩
    have e:q≠a:=fun e=>by rw [e] at h3; exact hf h3
    exact ⟨by omega,by omega,h3,fun x x1 x2=>h4 x (by omega) x2,by rw [h5,show a+1+m=a+(m+1) by omega]⟩
theorem GB (f:Nat->Bool) {q t m a:Nat}:(∃ l,(List.range' a m).filter f=q::t::l)↔a<=q/\q<t/\t<a+m/\f q=true/\f t=true/\∀ x,a<=x->x<t->x≠q->f x=false:=by
 constructor
 ·rintro ⟨l,h⟩
  obtain ⟨h1,h2,h3,h4,h5⟩:=(sD f).mp h
  obtain ⟨k1,k2,k3,k4,_⟩:=(sD f).mp h5.symm
  refine ⟨h1,by omega,by omega,h3,k3,fun x x1 x2 x3=>?_⟩
  by_cases e:x<q
  ·exact h4 x x1 e
  ·exact k4 x (by omega) x2
 ·rintro ⟨h1,h2,h3,h4,h5,h6⟩
  refine ⟨(List.range' (t+1) (q+1+(a+m-(q+1))-(t+1))).filter f,(sD f).mpr ⟨h1,by omega,h4,fun x x1 x2=>h6 x x1 (by omega) (by omega),?_⟩⟩
  exact ((sD f).mpr ⟨by omega,by omega,h5,fun x x1 x2=>h6 x (by omega) x2 (by omega),rfl⟩).symm
theorem hJ {r:Rw} (h:r.isS=true):r=.pl (.swing r.n1):=by
 cases r with
 | pl r=>cases r <;> first | rfl | cases h
 | _=>cases h
theorem DH {r q:Rw} (h:r.isS=true) (hq:q.isS=false):(r.wd==q.wd)=false:=by
 have a:=ip r
 have b:=ip q
 rw [h] at a
 rw [eq_of_beq a,Bool.beq_comm,b,hq]
theorem yJ (w:Nat) (r:Rw):nI (.pl (.swing w)) r=nI r (.pl (.swing w)):=by
 cases h:r.isS with
 | false=>
  have a:=DH (r:=.pl (.swing w)) (q:=r) rfl h
  rw [uv a,uv (by rw [Bool.beq_comm]; exact a)]
 | true=>
  rw [hJ h]
  simp only [nI,rwD,rowD,PyData.eqv,PyData.eqvAll]
  simp [Bool.beq_comm]
theorem oY {w:Nat} {r:Rw} (h:nI (.pl (.swing w)) r=true):r=.pl (.swing w):=by
 have e:=uu h
 have hS:r.isS=true:=by rw [<- ip,<- e]; exact ip (.pl (.swing w))
 rw [hJ hS] at h ⊢
 simp only [nI,rwD,rowD,PyData.eqv,PyData.eqvAll] at h
 simp at h
 have:w=r.n1:=by omega
 rw [this]
theorem mem_cand_g {rs:List Rw} {p q:Nat}:Sp.g p q∈d0 rs rs.length↔p<q/\q<rs.length:=by
 constructor
 ·intro h
  obtain ⟨p',hp,h⟩:=List.mem_flatMap.mp h
  obtain ⟨q',hq,h⟩:=List.mem_flatMap.mp h
  have hq:=mem_rest.mp hq
  unfold gu at h
  rcases List.mem_cons.mp h with h | h
  ·cases h; exact hq
  rcases List.mem_cons.mp h with h | h
  ·cases h
  split at h
  ·obtain ⟨t,ht,h⟩:=List.mem_map.mp h
   cases h
  ·cases h
 ·intro h
  exact List.mem_flatMap.mpr ⟨p,List.mem_range.mpr (by omega),List.mem_flatMap.mpr ⟨q,mem_rest.mpr h,List.mem_cons_self⟩⟩
theorem mem_cand_j {rs:List Rw} {p q:Nat}:Sp.j p q∈d0 rs rs.length↔p<q/\q<rs.length:=by
 constructor
 ·intro h
  obtain ⟨p',hp,h⟩:=List.mem_flatMap.mp h
  obtain ⟨q',hq,h⟩:=List.mem_flatMap.mp h
  have hq:=mem_rest.mp hq
  unfold gu at h
  rcases List.mem_cons.mp h with h | h
  ·cases h
  rcases List.mem_cons.mp h with h | h
  ·cases h; exact hq
  split at h
  ·obtain ⟨t,ht,h⟩:=List.mem_map.mp h
   cases h
  ·cases h
 ·intro h
  exact List.mem_flatMap.mpr ⟨p,List.mem_range.mpr (by omega),List.mem_flatMap.mpr ⟨q,mem_rest.mpr h,List.mem_cons_of_mem _ List.mem_cons_self⟩⟩
theorem mem_cand_s {rs:List Rw} {p q t:Nat}:Sp.s p q t∈d0 rs rs.length↔(ro rs p).isS=true/\p<q/\q<t/\t<rs.length:=by
 constructor
 ·intro h
  obtain ⟨p',hp,h⟩:=List.mem_flatMap.mp h
  obtain ⟨q',hq,h⟩:=List.mem_flatMap.mp h
  have hq:=mem_rest.mp hq
  unfold gu at h
  rcases List.mem_cons.mp h with h | h
  ·cases h
  rcases List.mem_cons.mp h with h | h
  ·cases h
  split at h
  ·rename_i hS
   obtain ⟨t',ht,h⟩:=List.mem_map.mp h
   have ht:=mem_rest.mp ht
   cases h
   exact ⟨hS,hq.1,ht.1,ht.2⟩
  ·cases h
 ·rintro ⟨hS,h1,h2,h3⟩
  refine List.mem_flatMap.mpr ⟨p,List.mem_range.mpr (by omega),List.mem_flatMap.mpr ⟨q,mem_rest.mpr ⟨h1,by omega⟩,List.mem_cons_of_mem _ (List.mem_cons_of_mem _ ?_)⟩⟩
  rw [if_pos hS]
  exact List.mem_map.mpr ⟨t,mem_rest.mpr ⟨h2,h3⟩,rfl⟩
theorem lY {rs:List Rw} (ho:Ord rs) {p q:Nat} (hq:q<rs.length):sL rs p (BK p q)=true↔∀ y,p+1<=y->y<q->jV (ro rs p) (ro rs y) (-1)=true:=by
 unfold sL
 rw [List.all_eq_true]
 constructor
 ·intro h y h1 h2
  rw [<- oF ho (show p<y by omega) (by omega)]
  exact h y (mem_btw.mpr ⟨by omega,h2⟩)
 ·intro h y hy
  have hy:=mem_btw.mp hy
  rw [oF ho hy.1 (by omega)]
  exact h y (by omega) hy.2
theorem mem_threeL {rs:List Rw} {p:Nat} {x:Sp}:x∈dA rs p↔∃ q t,x=.s p q t/\(ro rs p).isS=true/\(∃ l,zd rs p (ro rs p).n1=q::t::l)/\nI (ro rs t) (ro rs p)=true/\(cP (ro rs q) (ro rs p).n1).isSome=true:=by
 constructor
 ·intro h
  unfold dA at h
  split at h
  ·rename_i w ew
   split at h
   ·rename_i a b l hl
    split at h
    ·rename_i hc
     have hc:=Bool.and_eq_true_iff.mp hc
     refine ⟨a,b,List.mem_singleton.mp h,by rw [ew]; rfl,⟨l,by rw [ew]; exact hl⟩,hc.1,by rw [ew]; exact hc.2⟩
    ·cases h
   ·cases h
  ·cases h
 ·rintro ⟨q,t,rfl,hS,⟨l,hl⟩,h1,h2⟩
  unfold dA
  have ew:=hJ hS
  generalize ro rs p=r at ew hl h1 h2 hS ⊢
  rw [ew]
  simp only
  rw [hl]
  simp only
  rw [<- ew,h1,h2]
  simp
theorem xo {rs:List Rw} (ho:Ord rs) (x:Sp):x∈kj rs rs.length↔x∈(d0 rs rs.length).filter (eO rs):=by
 rw [List.mem_filter]
 have two:∀ {p q:Nat} {x:Sp},x∈fT rs p (rest rs p)↔∃ q,p<q/\q<rs.length/\x∈iq rs p q/\∀ y,p+1<=y->y<q->jV (ro rs p) (ro rs y) (-1)=true:=fun {p q x}=>by
  unfold rest
  rw [mem_twoL]
  constructor
  ·rintro ⟨q,h1,h2,h3⟩; exact ⟨q,by omega,by omega,h3⟩
  ·rintro ⟨q,h1,h2,h3⟩; exact ⟨q,by omega,by omega,h3⟩
 have all:x∈kj rs rs.length↔∃ p,p<rs.length/\(x∈fT rs p (rest rs p)\/x∈dA rs p):=by
  unfold kj
  rw [List.mem_flatMap]
  constructor
  ·rintro ⟨p,hp,h⟩; exact ⟨p,List.mem_range.mp hp,List.mem_append.mp h⟩
  ·rintro ⟨p,hp,h⟩; exact ⟨p,List.mem_range.mpr hp,List.mem_append.mpr h⟩
 rw [all]
 cases x with
 | g p q=>
  rw [mem_cand_g]
  simp only [eO,Bool.and_eq_true]
  constructor
  ·rintro ⟨p',hp,h | h⟩
   ·obtain ⟨q',h1,h2,h3,h4⟩:=(two (q:=0)).mp h
    rcases mem_twoS.mp h3 with ⟨e,hu⟩ | ⟨e,_⟩
    ·cases e
     exact ⟨⟨h1,h2⟩,hu,(lY ho h2).mpr h4⟩
    ·cases e
   ·obtain ⟨q,t,e,_⟩:=mem_threeL.mp h
    cases e
  ·rintro ⟨⟨h1,h2⟩,hu,hc⟩
   exact ⟨p,by omega,.inl ((two (q:=0)).mpr ⟨q,h1,h2,mem_twoS.mpr (.inl ⟨rfl,hu⟩),(lY ho h2).mp hc⟩)⟩
 | j p q=>
  rw [mem_cand_j]
  simp only [eO,Bool.and_eq_true]
  constructor
  ·rintro ⟨p',hp,h | h⟩
   ·obtain ⟨q',h1,h2,h3,h4⟩:=(two (q:=0)).mp h
    rcases mem_twoS.mp h3 with ⟨e,hu⟩ | ⟨e,ht,hv⟩
    ·cases e
    ·cases e
     exact ⟨⟨h1,h2⟩,ht,by rw [uN]; exact hv,(lY ho h2).mpr h4⟩
   ·obtain ⟨q,t,e,_⟩:=mem_threeL.mp h
    cases e
  ·rintro ⟨⟨h1,h2⟩,ht,hv,hc⟩
   exact ⟨p,by omega,.inl ((two (q:=0)).mpr ⟨q,h1,h2,mem_twoS.mpr (.inr ⟨rfl,ht,by rw [uN]; exact hv⟩),(lY ho h2).mp hc⟩)⟩
 | s p q t=>
  rw [mem_cand_s]
  have fit:eO rs (.s p q t)=true↔(ro rs p).isS=true/\nI (ro rs p) (ro rs t)=true/\(cP (ro rs q) (ro rs p).n1).isSome=true/\∀ x,p<x->x<t->x≠q->wO (ro rs x) (ro rs p).n1=false:=by
   have he:∀ o:Option Rw,o.toList.isEmpty=!o.isSome:=fun o=>by cases o <;> rfl
   simp only [eO,he,Bool.and_eq_true,List.all_eq_true,mem_btw]
   constructor
   ·rintro ⟨h1,h2⟩
    have h1:((ro rs p).isS=true/\nI (ro rs p) (ro rs t)=true/\(cP (ro rs q) (ro rs p).n1).isSome=true):=by
     simpa using h1
    refine ⟨h1.1,h1.2.1,h1.2.2,fun x x1 x2 x3=>?_⟩
    have:=h2 x ⟨x1,x2⟩
    have n:(x==q)=false:=by simpa using x3
    rw [n] at this
    simpa using this
   ·rintro ⟨h1,h2,h3,h4⟩
    refine ⟨by rw [h1,h2,h3]; rfl,fun x hx=>?_⟩
    by_cases e:x=q
    ·subst e; simp
    ·rw [h4 x hx.1 hx.2 e]; simp
  rw [fit]
  have fw:∀ w,(∃ l,zd rs p w=q::t::l)↔p+1<=q/\q<t/\t<p+1+(rs.length-(p+1))/\wO (ro rs q) w=true/\wO (ro rs t) w=true/\∀ x,p+1<=x->x<t->x≠q->wO (ro rs x) w=false:=fun w=>by
   have e:zd rs p w=(List.range' (p+1) (rs.length-(p+1))).filter fun q=>wO (ro rs q) w:=by
    unfold zd rest
    exact List.filter_congr fun q _=>wT _ _
   rw [e]
   exact GB _
  constructor
  ·rintro ⟨p',hp,h | h⟩
   ·obtain ⟨q',h1,h2,h3,h4⟩:=(two (q:=0)).mp h
    rcases mem_twoS.mp h3 with ⟨e,_⟩ | ⟨e,_⟩ <;> cases e
   ·obtain ⟨q',t',e,hS,hl,he,hw⟩:=mem_threeL.mp h
    cases e
    obtain ⟨a1,a2,a3,a4,a5,a6⟩:=(fw _).mp hl
    refine ⟨⟨hS,by omega,a2,by omega⟩,hS,?_,hw,fun x x1 x2 x3=>a6 x (by omega) x2 x3⟩
    rw [hJ hS,yJ,<- hJ hS]
    exact he
  ·rintro ⟨⟨hS,h1,h2,h3⟩,_,he,hw,hx⟩
   refine ⟨p,by omega,.inr (mem_threeL.mpr ⟨q,t,rfl,hS,(fw _).mpr ⟨by omega,h2,by omega,?_,?_,fun x x1 x2 x3=>hx x (by omega) x2 x3⟩,?_,hw⟩)⟩
   ·obtain ⟨r',e⟩:=Option.isSome_iff_exists.mp hw
    rw [<- wT]
    exact List.any_eq_true.mpr ⟨_,xf e,by simp⟩
   ·rw [hJ hS] at he
    rw [oY he]
    simp [wO,kl]
   ·rw [hJ hS] at he ⊢
    rw [<- yJ]
    exact he
def Sp.pp:Sp->Nat
 | .g p _=>p
 | .j p _=>p
 | .s p _ _=>p
def Sp.qq:Sp->Nat
 | .g _ q=>q
 | .j _ q=>q
 | .s _ q _=>q
theorem xt (a m:Nat):(List.range' a m).Pairwise (· < ·):=List.pairwise_lt_range'
theorem iG (a m:Nat):(List.range' a m).Pairwise (· ≠ ·):=(xt a m).imp fun h=>Nat.ne_of_lt h
theorem CQ {α β:Type} (f:α -> β) {R:β -> β -> Prop} {S:α -> α -> Prop} {l:List α} (h:l.Pairwise S) (hf:∀ a b,S a b->R (f a) (f b)):(l.map f).Pairwise R:=List.pairwise_map.mpr (h.imp fun h=>hf _ _ h)
theorem kc {rs:List Rw} {p q:Nat} {x:Sp} (h:x∈gu rs p q):x.pp=p/\x.qq=q:=by
 unfold gu at h
 rcases List.mem_cons.mp h with rfl | h
 ·exact ⟨rfl,rfl⟩
 rcases List.mem_cons.mp h with rfl | h
 ·exact ⟨rfl,rfl⟩
 split at h
 ·obtain ⟨t,_,rfl⟩:=List.mem_map.mp h
  exact ⟨rfl,rfl⟩
 ·cases h
theorem yT (rs:List Rw) (p q:Nat):(gu rs p q).Pairwise (· ≠ ·):=by
 unfold gu
 have hs:∀ x∈(if (ro rs p).isS then (rest rs q).map (Sp.s p q) else []),∃ t,x=.s p q t:=fun x hx=>by
  split at hx
  ·obtain ⟨t,_,rfl⟩:=List.mem_map.mp hx
   exact ⟨t,rfl⟩
  ·cases hx
 refine List.pairwise_cons.mpr ⟨fun x hx e=>?_,List.pairwise_cons.mpr ⟨fun x hx e=>?_,?_⟩⟩
 ·rcases List.mem_cons.mp hx with h | h
  ·rw [<- e] at h; cases h
  ·obtain ⟨t,h⟩:=hs x h
   rw [<- e] at h; cases h
 ·obtain ⟨t,h⟩:=hs x hx
  rw [<- e] at h; cases h
 ·split
  ·exact CQ (Sp.s p q) (iG _ _) fun a b h e=>h (by cases e; rfl)
  ·exact .nil
theorem BH (rs:List Rw) (m:Nat):(d0 rs m).Pairwise (· ≠ ·):=by
 unfold d0
 refine List.pairwise_flatMap.mpr ⟨fun p _=>?_,?_⟩
 ·unfold iO
  refine List.pairwise_flatMap.mpr ⟨fun q _=>yT rs p q,?_⟩
  refine (iG _ _).imp fun {a b} h x hx y hy e=>h ?_
  rw [<- (kc hx).2,<- (kc hy).2,e]
 ·have:(List.range m).Pairwise (· ≠ ·):=by rw [List.range_eq_range']; exact iG _ _
  refine this.imp fun {a b} h x hx y hy e=>h ?_
  obtain ⟨q,_,hx⟩:=List.mem_flatMap.mp hx
  obtain ⟨q',_,hy⟩:=List.mem_flatMap.mp hy
  rw [<- (kc hx).1,<- (kc hy).1,e]
theorem zN (rs:List Rw) (p q:Nat):(iq rs p q).Pairwise (· ≠ ·):=by
 unfold iq
 split <;> split <;> simp
theorem uL {rs:List Rw} {p q:Nat} {x:Sp} (h:x∈iq rs p q):x.pp=p/\x.qq=q:=by
 rcases mem_twoS.mp h with ⟨rfl,_⟩ | ⟨rfl,_⟩ <;> exact ⟨rfl,rfl⟩
theorem mq {rs:List Rw} {p:Nat} {x:Sp}:∀ {qs:List Nat},x∈fT rs p qs->x.pp=p/\x.qq∈qs/\∀ a b t,x≠.s a b t
 | [],h=>by cases h
 | q::qs,h=>by
  rw [fT] at h
  rcases List.mem_append.mp h with h | h
  ·have:=uL h
   refine ⟨this.1,by rw [this.2]; exact List.mem_cons_self,fun a b t e=>?_⟩
   rcases mem_twoS.mp h with ⟨f,_⟩ | ⟨f,_⟩ <;> rw [e] at f <;> cases f
  ·split at h
   ·have:=mq h
    exact ⟨this.1,List.mem_cons_of_mem _ this.2.1,this.2.2⟩
   ·cases h
theorem uM (rs:List Rw) (p:Nat):∀ {qs:List Nat},qs.Pairwise (· ≠ ·)->(fT rs p qs).Pairwise (· ≠ ·)
 | [],_=>.nil
 | q::qs,h=>by
  obtain ⟨h1,h2⟩:=List.pairwise_cons.mp h
  rw [fT]
  refine List.pairwise_append.mpr ⟨zN rs p q,?_,fun x hx y hy e=>?_⟩
  ·split
   ·exact uM rs p h2
   ·exact .nil
  ·split at hy
   ·have a:=(uL hx).2
    have b:=(mq hy).2.1
    rw [<- e,a] at b
    exact h1 q b rfl
   ·cases hy
theorem BN (rs:List Rw) (m:Nat):(kj rs m).Pairwise (· ≠ ·):=by
 unfold kj
 have three:∀ {p x},x∈dA rs p->x.pp=p/\∃ a b t,x=.s a b t:=fun h=>by
  obtain ⟨q,t,rfl,_⟩:=mem_threeL.mp h
  exact ⟨rfl,_,_,_,rfl⟩
 refine List.pairwise_flatMap.mpr ⟨fun p _=>?_,?_⟩
 ·refine List.pairwise_append.mpr ⟨uM rs p (iG _ _),?_,fun x hx y hy e=>?_⟩
  ·have:=jf rs p
   match h:dA rs p with
   | []=>exact .nil
   | [a]=>exact List.pairwise_singleton _ _
   | a::b::l=>rw [h] at this; simp at this
  ·obtain ⟨_,a,b,t,h⟩:=three hy
   exact (mq hx).2.2 a b t (e.trans h)
 ·have:(List.range m).Pairwise (· ≠ ·):=by rw [List.range_eq_range']; exact iG _ _
  refine this.imp fun {a b} h x hx y hy e=>h ?_
  have pa:x.pp=a:=by
   rcases List.mem_append.mp hx with z | z
   ·exact (mq z).1
   ·exact (three z).1
  have pb:y.pp=b:=by
   rcases List.mem_append.mp hy with z | z
   ·exact (mq z).1
   ·exact (three z).1
  rw [<- pa,<- pb,e]
theorem vU {rs:List Rw} (ho:Ord rs):(kj rs rs.length).Perm ((d0 rs rs.length).filter (eO rs)):=
 (List.perm_ext_iff_of_nodup (BN rs _) ((BH rs _).sublist List.filter_sublist)).mpr fun x=>xo ho x
def spK:Sp->List bi
 | .g p q=>[.inr "gone",.inl p,.inl q]
 | .j p q=>[.inr "joined",.inl p,.inl q]
 | .s p q t=>[.inr "swung",.inl p,.inl q,.inl t]
theorem B8:(("gone":Str) == "joined")=false:=by decide +kernel
theorem B7:(("gone":Str) == "swung")=false:=by decide +kernel
theorem B6:(("joined":Str) == "gone")=false:=by decide +kernel
theorem B5:(("joined":Str) == "swung")=false:=by decide +kernel
theorem B4:(("swung":Str) == "gone")=false:=by decide +kernel
theorem B3:(("swung":Str) == "joined")=false:=by decide +kernel
theorem zX {a b:Sp} (h:spK a=spK b):a=b:=by
 have n1:=B8; have n2:=B7; have n3:=B6; have n4:=B5; have n5:=B4; have n6:=B3
 simp only [beq_eq_false_iff_ne,ne_eq] at n1 n2 n3 n4 n5 n6
 cases a <;> cases b <;> simp [spK,n1,n2,n3,n4,n5,n6] at h ⊢ <;> omega
theorem E9 (x:Sp):PyData.tuple ((spK x).map jb)=zpD x:=by cases x <;> rfl
theorem Bf (x:Sp):FZ (zpD x)=some (spK x):=by cases x <;> rfl
theorem sg:∀ xs:List Sp,sh (xs.map zpD)=some (xs.map spK)
 | []=>rfl
 | x::xs=>by
  rw [List.map_cons,sh,Bf,Option.bind_some,sg xs,Option.bind_some,List.map_cons]
theorem zQ (x:Sp):jD (spK x)=true:=by cases x <;> rfl
theorem Bk (x:Sp) (l:List D):uh (zpD x::l)=none:=by cases x <;> rfl
theorem zZ (xs:List Sp):dc (.list (xs.map zpD))=some (.list ((eS (xs.map spK)).map fun k=>.tuple (k.map jb))):=by
 cases xs with
 | nil=>rfl
 | cons x xs=>
  have h1:uh ((x::xs).map zpD)=none:=Bk x _
  have h2:=sg (x::xs)
  have h3:(((x::xs).map spK).all jD||((x::xs).map spK).all sX)=true:=by
   rw [Bool.or_eq_true]
   refine .inl (List.all_eq_true.mpr fun k hk=>?_)
   obtain ⟨y,_,rfl⟩:=List.mem_map.mp hk
   exact zQ y
  generalize (x::xs)=ys at h1 h2 h3
  show ((cY (.list (ys.map zpD))).bind _)=_
  have h0:cY (.list (ys.map zpD))=some (ys.map zpD):=rfl
  rw [h0,Option.bind_some]
  simp only [h1,h2,Option.bind_some]
  rw [if_pos h3]
theorem zY (xs:List Sp):∃ zs:List Sp,(zs.length=xs.length/\∀ x,x∈zs↔x∈xs)/\dc (.list (xs.map zpD))=some (.list (zs.map zpD))/\∀ ys:List Sp,ys.Perm xs->dc (.list (ys.map zpD))=some (.list (zs.map zpD)):=by
 have pull:∀ l:List (List bi),(∀ k∈l,∃ x,k=spK x)->∃ zs:List Sp,l=zs.map spK:=by
  intro l
  induction l with
  | nil=>exact fun _=>⟨[],rfl⟩
  | cons k l ih=>
   intro h
   obtain ⟨x,rfl⟩:=h k List.mem_cons_self
   obtain ⟨zs,rfl⟩:=ih fun k hk=>h k (List.mem_cons_of_mem _ hk)
   exact ⟨x::zs,rfl⟩
 have pm:=gj (xs.map spK)
 obtain ⟨zs,hz⟩:=pull (eS (xs.map spK)) fun k hk=>by
  obtain ⟨x,_,e⟩:=List.mem_map.mp (pm.mem_iff.mp hk)
  exact ⟨x,e.symm⟩
 have hl:zs.length=xs.length:=by
  have:=pm.length_eq
  rw [hz,List.length_map,List.length_map] at this
  exact this
 have key:∀ ys:List Sp,ys.Perm xs->dc (.list (ys.map zpD))=some (.list (zs.map zpD)):=fun ys p=>by
  rw [zZ,m4 (p.map spK),hz,List.map_map]
  congr 2
  exact List.map_congr_left fun x _=>E9 x
 have inj:∀ {a b:Sp},spK a=spK b->a=b:=fun h=>zX h
 have hm:∀ x,x∈zs↔x∈xs:=fun x=>by
  have:=pm.mem_iff (a:=spK x)
  rw [hz] at this
  constructor
  ·intro h
   obtain ⟨y,hy,e⟩:=List.mem_map.mp (this.mp (List.mem_map_of_mem h))
   rw [<- inj e]; exact hy
  ·intro h
   obtain ⟨y,hy,e⟩:=List.mem_map.mp (this.mpr (List.mem_map_of_mem h))
   rw [<- inj e]; exact hy
 exact ⟨zs,⟨hl,hm⟩,key xs (.refl _),key⟩
theorem fP {rs:List Rw} (ho:Ord rs) (hn:rs.length<=100) (w:Nat):∃ zs:List Sp,(zs.length<=100000/\∀ x,x∈zs↔x∈(d0 rs rs.length).filter (eO rs))/\aW [cirD w rs]=some (.list (zs.map zpD))/\bM [.tuple (rs.map rwD)]=some (.list (zs.map zpD)):=by
 obtain ⟨zs,⟨hl,hm⟩,h1,h2⟩:=zY ((d0 rs rs.length).filter (eO rs))
 have p:=vU ho
 have l1:=nB rs rs.length
 have l2:rs.length*(2*rs.length+1)<=100*201:=Nat.mul_le_mul hn (by omega)
 exact ⟨zs,⟨by rw [hl,<- p.length_eq]; omega,hm⟩,vQ ho hn w _ (h2 _ p),wm ho hn _ h1⟩
inductive Zp where
 | g (p q:Int) | j (p q:Int) | s (p q t:Int)
noncomputable def zqD:Zp->D
 | .g p q=>.tuple [.str "gone",.int p,.int q]
 | .j p q=>.tuple [.str "joined",.int p,.int q]
 | .s p q t=>.tuple [.str "swung",.int p,.int q,.int t]
def up:Sp->Zp
 | .g p q=>.g p q
 | .j p q=>.j p q
 | .s p q t=>.s p q t
theorem jv (x:Sp):zqD (up x)=zpD x:=by cases x <;> rfl
theorem Ii (s:Str) (h:iZ s=true) (l:List Int):MA.Sh 1 (.tuple (.str s::l.map .int)):=MA.Sh.tuple fun z hz=>by
  rcases List.mem_cons.mp hz with rfl | hz
  ·exact tM 0 h
  ·obtain ⟨i,_,rfl⟩:=List.mem_map.mp hz
   exact MA.Sh.int 0 _
theorem qW (z:Zp):MA.Sh 1 (zqD z):=by
 cases z with
 | g p q=>exact Ii _ iz [p,q]
 | j p q=>exact Ii _ fI [p,q]
 | s p q t=>exact Ii _ kD [p,q,t]
theorem yI (x:Sp) (z:Zp):PyData.eqv (zpD x) (zqD z)=true↔up x=z:=by
 have a:=B8; have b:=B7; have c:=B6; have d:=B5; have e:=B4; have f:=B3
 simp only [beq_eq_false_iff_ne,ne_eq] at a b c d e f
 cases x <;> cases z <;> simp [zpD,zqD,up,PyData.eqv,PyData.eqvAll,a,b,c,d,e,f]
theorem ui (z:Zp) (zs:List Sp):sB (zqD z) (zs.map zpD)=true↔∃ x∈zs,up x=z:=by
 unfold sB
 rw [List.any_map,List.any_eq_true]
 constructor
 ·rintro ⟨x,hx,e⟩; exact ⟨x,hx,(yI x z).mp e⟩
 ·rintro ⟨x,hx,e⟩; exact ⟨x,hx,(yI x z).mpr e⟩
theorem yc:∀ zs:List Sp,PyData.canLayAll0 (zs.map zpD)=true
 | []=>rfl
 | x::zs=>by
  have h:(zpD x).canLay0=true:=by rw [<- jv]; exact (qW (up x)).1
  rw [List.map_cons,PyData.canLayAll0,h,yc zs]
  rfl
theorem uj (z:Zp) (zs:List Sp):Ck true (zqD z) (.list (zs.map zpD))=some (.bool (!sB (zqD z) (zs.map zpD))):=if_pos ⟨d8 (qW z) (by decide),yc zs⟩
theorem CJ (w n:Int) (R S L X:D) (V:List D) (F:List D) (h:aW [.tuple [.int w,R]]=some L) (hi:Ck true S L=some (.bool false)) (hc:bB [R,S]=some X) (h1:pJ [.fz (.tuple [.int w,R]),.fz S,.fz X,.un]=some (.list V)) (h2:pI [.fz (.tuple [.int w,R]),.fz S,.fz X,.fz (.list V)]=some (.list F)):eU [.tuple [.int w,R],S]=some (.tuple [.int w,.tuple F]):=by
 simp [-sSeq,-sIf,ah,ao,eU,runB,uG,aj,h,hi,hc,h1,h2]
theorem Ft (C R X z:D) (S:Sl) (n:Int) (ks:List Nat) (V:Nat->D) (hk:ks.length<=16777216) (cr:aD C (.int 1)=some R) (ln:da [R]=some (.int n)) (hr:iw [.int n]=some (ks.map fun k:Nat=>PyData.int k)) (hv:∀ k∈ks,∃ A,aD R (.int (k:Int))=some A/\oR [X,.int (k:Int),A]=some (V k)):pJ [.fz C,S,.fz X,.un]=some (.list (ks.map V)):=by
 have:=fO (fi:=oL (ae (VL.os (ae (o2 (oV 0) (oC (.int 1)) aD) (aq)) da) (aq)) iw) (caps:=[(0,"circuit"),(2,"changes")]) (fe:=VL.os (ae (oV 2) (ae (oV 0) (ae (o2 (o2 (oV 1) (oC (.int 1)) aD) (oV 0) aD) aq))) oR) (δ:=[.fz C,S,.fz X,.un]) (h:=fun k:Nat=>PyData.int k) (k:=V) (xs:=ks) (by simp [cr,ln,hr]) hk (fun k hq=>by
  obtain ⟨A,a1,a2⟩:=hv k hq
  simp [dS,cr,a1,a2])
 exact this
theorem qd (f:Nat->Option Rw):∀ ks:List Nat,(ks.filter fun k=>(f k).isSome).map (fun k=>lQ (f k))=(ks.filterMap f).map rwD
 | []=>rfl
 | k::ks=>by
  rw [List.filter_cons,List.filterMap_cons]
  cases e:f k with
  | none=>simpa using qd f ks
  | some r=>
   have ih:=qd f ks
   simp only [Option.isSome_some,if_true,List.map_cons,e]
   rw [ih]; rfl
theorem Fs (z0 z1 z2:Sl) (ks:List Nat) (f:Nat->Option Rw) (hk:ks.length<=16777216):pI [z0,z1,z2,.fz (.list (ks.map fun k=>lQ (f k)))]=some (.list ((ks.filterMap f).map rwD)):=by
 have:=fF (fi:=oI (oV 3) cY) (caps:=[]) (ft:=ob (o2 (oV 0) (oC .none) jW)) (fe:=oV 0) (δ:=[z0,z1,z2,.fz (.list (ks.map fun k=>lQ (f k)))]) (h:=fun k=>lQ (f k)) (k:=fun k=>lQ (f k)) (b:=fun k=>(f k).isSome) (xs:=ks) (by simp) hk (fun k _=>by simp [dS,jW,yn]) (fun k _ _=>by simp)
 rw [qd] at this
 exact this
def mid (rs:List Rw):Sp->Option Rw
 | .g _ _=>none
 | .j p q=>match ro rs p,ro rs q with
  | .pl (.turn a e),.pl (.turn _ f)=>if (e+f) % 8=0 then none else some (.pl (.turn a ((e+f) % 8)))
  | _,_=>none
 | .s p q _=>cP (ro rs q) (ro rs p).n1
def ku (rs:List Rw) (x:Sp) (k:Nat):Option Rw:=match x with
 | .g p q=>if k=p then none else if k=q then none else some (ro rs k)
 | .j p q=>if k=p then none else if k=q then mid rs (.j p q) else some (ro rs k)
 | .s p q t=>if k=p then none else if k=q then mid rs (.s p q t) else if k=t then none else some (ro rs k)
noncomputable def kX (rs:List Rw) (a b:Nat):List Rw:=(List.range' a (b-a)).map (ro rs)
def newR (rs:List Rw) (x:Sp):List Rw:=match x with
 | .g p q=>kX rs 0 p++kX rs (p+1) q++kX rs (q+1) rs.length
 | .j p q=>kX rs 0 p++kX rs (p+1) q++(mid rs (.j p q)).toList++kX rs (q+1) rs.length
 | .s p q t=>kX rs 0 p++kX rs (p+1) q++(mid rs (.s p q t)).toList++kX rs (q+1) t++kX rs (t+1) rs.length
theorem fM {α:Type} (f:Nat->Option α) {a b p:Nat} (h1:a<=p) (h2:p<b):(List.range' a (b-a)).filterMap f=(List.range' a (p-a)).filterMap f++((f p).toList++(List.range' (p+1) (b-(p+1))).filterMap f):=by
 have e:List.range' a (b-a)=List.range' a (p-a)++p::List.range' (p+1) (b-(p+1)):=by
  have h3:b-a=(p-a)+((b-(p+1))+1):=by omega
  rw [h3,<- List.range'_append_1,List.range'_succ]
  rw [show a+(p-a)=p by omega]
 rw [e,List.filterMap_append,List.filterMap_cons]
 cases f p <;> simp
theorem Co {α:Type} {f:Nat->Option α} {g:Nat -> α}:∀ {l:List Nat},(∀ k∈l,f k=some (g k))->l.filterMap f=l.map g
 | [],_=>rfl
 | k::l,h=>by
  rw [List.filterMap_cons,h k List.mem_cons_self,List.map_cons,Co fun x hx=>h x (List.mem_cons_of_mem _ hx)]
theorem gD (rs:List Rw) {f:Nat->Option Rw} {a b:Nat} (h:∀ k,a<=k->k<b->f k=some (ro rs k)):(List.range' a (b-a)).filterMap f=kX rs a b:=by
 unfold kX
 refine Co fun k hk=>?_
 have:=List.mem_range'_1.mp hk
 exact h k (by omega) (by omega)
theorem BB {rs:List Rw} {x:Sp} (hx:x∈d0 rs rs.length):(List.range rs.length).filterMap (ku rs x)=newR rs x:=by
 rw [List.range_eq_range',show List.range' 0 rs.length=List.range' 0 (rs.length-0) by simp]
 cases x with
 | g p q=>
  obtain ⟨h1,h2⟩:=mem_cand_g.mp hx
  rw [fM _ (Nat.zero_le p) (by omega),fM _ (show p+1<=q by omega) h2,gD rs (a:=0) (b:=p) (fun k a b=>?_),gD rs (a:=p+1) (b:=q) (fun k a b=>?_),gD rs (a:=q+1) (b:=rs.length) (fun k a b=>?_)]
  ·simp [ku,newR]
  ·simp only [ku]; rw [if_neg (by omega),if_neg (by omega)]
  ·simp only [ku]; rw [if_neg (by omega),if_neg (by omega)]
  ·simp only [ku]; rw [if_neg (by omega),if_neg (by omega)]
 | j p q=>
  obtain ⟨h1,h2⟩:=mem_cand_j.mp hx
  rw [fM _ (Nat.zero_le p) (by omega),fM _ (show p+1<=q by omega) h2,gD rs (a:=0) (b:=p) (fun k a b=>?_),gD rs (a:=p+1) (b:=q) (fun k a b=>?_),gD rs (a:=q+1) (b:=rs.length) (fun k a b=>?_)]
  ·have e1:ku rs (.j p q) p=none:=by simp [ku]
   have e2:ku rs (.j p q) q=mid rs (.j p q):=by simp only [ku]; rw [if_neg (by omega)]; simp
   rw [e1,e2]
   simp [newR]
  ·simp only [ku]; rw [if_neg (by omega),if_neg (by omega)]
  ·simp only [ku]; rw [if_neg (by omega),if_neg (by omega)]
  ·simp only [ku]; rw [if_neg (by omega),if_neg (by omega)]
 | s p q t=>
  obtain ⟨_,h1,h2,h3⟩:=mem_cand_s.mp hx
  rw [fM _ (Nat.zero_le p) (by omega),fM _ (show p+1<=q by omega) (show q<rs.length by omega),fM _ (show q+1<=t by omega) h3,gD rs (a:=0) (b:=p) (fun k a b=>?_),gD rs (a:=p+1) (b:=q) (fun k a b=>?_),gD rs (a:=q+1) (b:=t) (fun k a b=>?_),gD rs (a:=t+1) (b:=rs.length) (fun k a b=>?_)]
  ·have e1:ku rs (.s p q t) p=none:=by simp [ku]
   have e2:ku rs (.s p q t) q=mid rs (.s p q t):=by simp only [ku]; rw [if_neg (by omega)]; simp
   have e3:ku rs (.s p q t) t=none:=by simp only [ku]; rw [if_neg (by omega),if_neg (by omega)]; simp
   rw [e1,e2,e3]
   simp [newR]
  ·simp only [ku]; rw [if_neg (by omega),if_neg (by omega),if_neg (by omega)]
  ·simp only [ku]; rw [if_neg (by omega),if_neg (by omega),if_neg (by omega)]
  ·simp only [ku]; rw [if_neg (by omega),if_neg (by omega),if_neg (by omega)]
  ·simp only [ku]; rw [if_neg (by omega),if_neg (by omega),if_neg (by omega)]
theorem IT (A B:D) (a e f k:Int) (h1:aD A (.int 1)=some (.int a)) (h2:aD A (.int 2)=some (.int e)) (h3:aD B (.int 2)=some (.int f)) (hk:(e+f) % 8=k):dR [A,B]=some (if k=0 then .none else .tuple [.str "turn",.int a,.int k]):=by
 by_cases h:k=0
 ·subst h
  simp [-sSeq,-sIf,ah,ao,dR,runB,kg,aj,h2,h3,hk]
 ·simp [-sSeq,-sIf,ah,ao,dR,runB,kg,aj,h1,h2,h3,hk,h]
theorem DP {rs:List Rw} {p q:Nat} (h:eO rs (.j p q)=true):∃ a e f,ro rs p=.pl (.turn a e)/\ro rs q=.pl (.turn a f):=by
 simp only [eO,Bool.and_eq_true] at h
 obtain ⟨h1,h2,_⟩:=h
 obtain ⟨a,e,hp⟩:∃ a e,ro rs p=.pl (.turn a e):=by
  cases hr:ro rs p with
  | pl r=>cases r <;> first | exact ⟨_,_,rfl⟩ | (rw [hr] at h1; cases h1)
  | _=>rw [hr] at h1; cases h1
 unfold te at h2
 obtain ⟨h3,h4⟩:=Bool.and_eq_true_iff.mp h2
 have hT:(ro rs q).isT=true:=by
  have:=lX (ro rs q)
  rw [eq_of_beq h3,hp] at this
  have k:aO (.str (Rw.pl (.turn a e)).wd) (.str "turn")=some (.bool true):=lX (.pl (.turn a e))
  rw [k] at this
  simpa using this.symm
 obtain ⟨b,f,hq⟩:∃ b f,ro rs q=.pl (.turn b f):=by
  cases hr:ro rs q with
  | pl r=>cases r <;> first | exact ⟨_,_,rfl⟩ | (rw [hr] at hT; cases hT)
  | _=>rw [hr] at hT; cases hT
 rw [hp,hq] at h4
 have:b=a:=by
  have:=eq_of_beq h4
  simp [Rw.n1] at this
  omega
 subst this
 exact ⟨b,e,f,hp,hq⟩
theorem wx {rs:List Rw} {p q:Nat} (h:eO rs (.j p q)=true):dR [rwD (ro rs p),rwD (ro rs q)]=some (lQ (mid rs (.j p q))):=by
 obtain ⟨a,e,f,hp,hq⟩:=DP h
 rw [hp,hq,IT (rwD (.pl (.turn a e))) (rwD (.pl (.turn a f))) a e f (((e+f) % 8:Nat):Int) (at1 _ _ _) (Ed _ _ _ _) (Ed _ _ _ _) (by omega)]
 simp only [mid,hp,hq]
 by_cases z:(e+f) % 8=0
 ·rw [if_pos (by omega),if_pos z]; rfl
 ·rw [if_neg (by omega),if_neg z]; rfl
def Hx (rs:List Rw):Sp->List (bi×D)
 | .g p q=>[(.inl p,.none),(.inl q,.none)]
 | .j p q=>[(.inl p,.none),(.inl q,lQ (mid rs (.j p q)))]
 | .s p q t=>[(.inl p,.none),(.inl q,lQ (mid rs (.s p q t))),(.inl t,.none)]
def GQ (rs:List Rw) (x:Sp):D:=.dict ((.none,.none)::zB (Hx rs x))
theorem Hh {a b:Nat} (h:a≠b):decide ((Sum.inl (b:Int):bi)=.inl (a:Int))=false:=decide_eq_false fun z=>h (by have:=Sum.inl.inj z; omega)
theorem GJ (p q:Nat) (a b:D) (h:p≠q):qf [.int p,a,.int q,b]=some (.dict ((.none,.none)::zB [(.inl p,a),(.inl q,b)])):=by
 have hd:sH ([((.inl (p:Int):bi),a),(.inl (q:Int),b)].map (·.1))=true:=by simp only [List.map_cons,List.map_nil,sH,List.any_cons,List.any_nil,Hh h]; rfl
 exact if_pos ⟨hd,by simp⟩
theorem Jj (p q t:Nat) (a b c:D) (h:p≠q) (h2:p≠t) (h3:q≠t):qf [.int p,a,.int q,b,.int t,c]=some (.dict ((.none,.none)::zB [(.inl p,a),(.inl q,b),(.inl t,c)])):=by
 have hd:sH ([((.inl (p:Int):bi),a),(.inl (q:Int),b),(.inl (t:Int),c)].map (·.1))=true:=by simp only [List.map_cons,List.map_nil,sH,List.any_cons,List.any_nil,Hh h,Hh h2,Hh h3]; rfl
 exact if_pos ⟨hd,by simp⟩
theorem Js (R:D) (p q:Int) (X:D) (h:qf [.int p,.none,.int q,.none]=some X):bB [R,.tuple [.str "gone",.int p,.int q]]=some X:=by
 simp [-sSeq,-sIf,ah,ao,bB,runB,dX,aj,k_gg,h]
theorem Jr (R A B M:D) (p q:Int) (X:D) (ra:aD R (.int p)=some A) (rb:aD R (.int q)=some B) (hj:dR [A,B]=some M) (h:qf [.int p,.none,.int q,M]=some X):bB [R,.tuple [.str "joined",.int p,.int q]]=some X:=by
 simp [-sSeq,-sIf,ah,ao,bB,runB,dX,aj,k_jg,k_jj,ra,rb,hj,h]
theorem Jq (R A B M:D) (p q t w:Int) (X:D) (ra:aD R (.int p)=some A) (a1:aD A (.int 1)=some (.int w)) (rb:aD R (.int q)=some B) (hj:cC [B,.int w]=some M) (h:qf [.int p,.none,.int q,M,.int t,.none]=some X):bB [R,.tuple [.str "swung",.int p,.int q,.int t]]=some X:=by
 simp [-sSeq,-sIf,ah,ao,bB,runB,dX,aj,k_sg,k_sj,ix3,ra,a1,rb,hj,h]
theorem GR {rs:List Rw} {x:Sp} (hx:x∈d0 rs rs.length) (hf:eO rs x=true):bB [.tuple (rs.map rwD),zpD x]=some (GQ rs x):=by
 cases x with
 | g p q=>
  obtain ⟨h1,h2⟩:=mem_cand_g.mp hx
  exact Js _ p q _ (GJ p q _ _ (by omega))
 | j p q=>
  obtain ⟨h1,h2⟩:=mem_cand_j.mp hx
  exact Jr _ _ _ _ p q _ (cS (by omega)) (cS h2) (wx hf) (GJ p q _ _ (by omega))
 | s p q t=>
  obtain ⟨hS,h1,h2,h3⟩:=mem_cand_s.mp hx
  have hw:(cP (ro rs q) (ro rs p).n1).isSome=true:=by
   simp only [eO,Bool.and_eq_true] at hf
   cases e:cP (ro rs q) (ro rs p).n1 with
   | some r=>rfl
   | none=>rw [e] at hf; simp at hf
  obtain ⟨r',e⟩:=Option.isSome_iff_exists.mp hw
  exact Jq _ _ _ _ p q t _ _ (cS (by omega)) (rH _) (cS (by omega)) (J1 (xf e)) (Jj p q t _ _ _ (by omega) (by omega) (by omega))
theorem Gr (es:List (bi×D)) (k:Int) (A:D):oR [.dict ((.none,.none)::zB es),.int k,A]=some ((lG es (.inl k)).getD A):=by
 show ((qN (zB es)).bind fun es=>(sj (.int k)).bind fun k=>some ((lG es k).getD A))=_
 rw [mn]
 rfl
theorem ke (a b:Nat):decide ((Sum.inl (a:Int):bi)=.inl (b:Int))=decide (b=a):=by
 rw [decide_eq_decide]
 constructor
 ·intro z; have:=Sum.inl.inj z; omega
 ·rintro rfl; rfl
theorem kL (a k:Nat) (d:D) (es:List (bi×D)):lG ((.inl (a:Int),d)::es) (.inl (k:Int))=if k=a then some d else lG es (.inl (k:Int)):=by
 unfold lG
 rw [List.find?_cons]
 simp only [ke]
 by_cases h:k=a
 ·simp [h]
 ·simp [h]
theorem DN (rs:List Rw) (x:Sp) (k:Nat):oR [GQ rs x,.int (k:Int),rwD (ro rs k)]=some (lQ (ku rs x k)):=by
 unfold GQ
 rw [Gr]
 cases x with
 | g p q=>
  simp only [Hx,ku,kL]
  split
  ·rfl
  ·split <;> rfl
 | j p q=>
  simp only [Hx,ku,kL]
  split
  ·rfl
  ·split <;> rfl
 | s p q t=>
  simp only [Hx,ku,kL]
  split
  ·rfl
  ·split
   ·rfl
   ·split <;> rfl
theorem uQ {rs:List Rw} (ho:Ord rs) (hn:rs.length<=100) (w:Nat) {x:Sp} (hx:x∈d0 rs rs.length) (hf:eO rs x=true) (L:D) (h:aW [cirD w rs]=some L) (hi:Ck true (zpD x) L=some (.bool false)):eU [cirD w rs,zpD x]=some (cirD w (newR rs x)):=by
 have hr:iw [.int (rs.length:Int)]=some ((List.range rs.length).map fun k:Nat=>PyData.int k):=by
  rw [kA (j:=(rs.length:Int)) (by omega) (by omega),Int.toNat_natCast,List.range_eq_range']
  exact congrArg some (q8 0 rs.length)
 have p1:=Ft (cirD w rs) (.tuple (rs.map rwD)) (GQ rs x) .none (.fz (zpD x)) rs.length (List.range rs.length) (fun k=>lQ (ku rs x k)) (by simp; omega) (hV w rs) (by simp) hr (fun k hk=>⟨_,cS (List.mem_range.mp hk),DN rs x k⟩)
 have p2:=Fs (.fz (cirD w rs)) (.fz (zpD x)) (.fz (GQ rs x)) (List.range rs.length) (ku rs x) (by simp; omega)
 rw [BB hx] at p2
 exact CJ w rs.length _ _ L _ _ _ h hi (GR hx hf) p1 p2
theorem lM (rs:List Rw) {a b:Nat} (hb:b<=rs.length):(rs.drop a).take (b-a)=kX rs a b:=by
 unfold kX
 refine List.ext_getElem ?_ fun i h1 h2=>?_
 ·rw [List.length_take,List.length_drop,List.length_map,List.length_range']; omega
 ·rw [List.length_map,List.length_range'] at h2
  rw [List.getElem_take,List.getElem_drop,List.getElem_map,List.getElem_range',kZ (by omega)]
  simp
theorem BU (n:Nat) (d:Nat) {a:Nat} (h:a<=n):HT.sIx n d (some (a:Int))=a:=by
 simp only [HT.sIx]
 rw [if_neg (by omega)]
 omega
theorem qh (rs:List Rw) {a b:Nat} (ha:a<=rs.length) (hb:b<=rs.length):eJ (.list (rs.map rwD)) (some (a:Int)) (some (b:Int))=some (.list ((kX rs a b).map rwD)):=by
 show some (PyData.list (dZ _ _ _))=_
 unfold dZ
 rw [List.length_map,BU _ _ ha,BU _ _ hb,<- List.map_drop,<- List.map_take,lM rs hb]
theorem yO (rs:List Rw) {b:Nat} (hb:b<=rs.length):eJ (.list (rs.map rwD)) none (some (b:Int))=some (.list ((kX rs 0 b).map rwD)):=by
 show some (PyData.list (dZ _ _ _))=_
 unfold dZ
 have h1:HT.sIx rs.length 0 none=0:=rfl
 rw [List.length_map,h1,BU _ _ hb,<- List.map_drop,<- List.map_take,lM rs hb]
theorem yP (rs:List Rw) {a:Nat} (ha:a<=rs.length):eJ (.list (rs.map rwD)) (some (a:Int)) none=some (.list ((kX rs a rs.length).map rwD)):=by
 show some (PyData.list (dZ _ _ _))=_
 unfold dZ
 have h1:HT.sIx rs.length rs.length none=rs.length:=rfl
 rw [List.length_map,h1,BU _ _ ha,<- List.map_drop,<- List.map_take,lM rs (Nat.le_refl _)]
theorem Ac (rs:List Rw) (a b:Nat):(kX rs a b).length<=b:=by unfold kX; rw [List.length_map,List.length_range']; omega
theorem ad {A B:List Rw} (h:A.length+B.length<=16777216):bd (.list (A.map rwD)) (.list (B.map rwD))=some (.list ((A++B).map rwD)):=by
 rw [pd (by simpa using h),List.map_append]
theorem IJ (w p p' q q':Int) (T:List D) (A B C E F:D) (L:List D) (hp:p+1=p') (hq:q+1=q') (s1:eJ (.list T) none (some p)=some A) (s2:eJ (.list T) (some p') (some q)=some B) (s3:eJ (.list T) (some q') none=some C) (a1:bd A B=some E) (a2:bd E C=some (.list L)):bu [.tuple [.int w,.tuple T],.tuple [.str "gone",.int p,.int q]]=some (.tuple [.int w,.tuple L]):=by
 simp [-sSeq,-sIf,ah,ao,bu,runB,eP,aj,sAsg,vt,k_gg,hp,hq,s1,s2,s3,a1,a2]
theorem II (w p p' q q' a e f k:Int) (T:List D) (X Y A B C M E F:D) (L:List D) (hp:p+1=p') (hq:q+1=q') (tp:aD (.list T) (.int p)=some X) (tq:aD (.list T) (.int q)=some Y) (x2:aD X (.int 2)=some (.int e)) (y2:aD Y (.int 2)=some (.int f)) (y1:aD Y (.int 1)=some (.int a)) (hk:(e+f) % 8=k) (s1:eJ (.list T) none (some p)=some A) (s2:eJ (.list T) (some p') (some q)=some B) (s4:eJ (.list [.tuple [.str "turn",.int a,.int k]]) none (some k)=some M) (s3:eJ (.list T) (some q') none=some C) (a1:bd A B=some E) (a2:bd E M=some F) (a3:bd F C=some (.list L)):bu [.tuple [.int w,.tuple T],.tuple [.str "joined",.int p,.int q]]=some (.tuple [.int w,.tuple L]):=by
 simp [-sSeq,-sIf,ah,ao,bu,runB,eP,aj,sAsg,vt,k_jg,k_jj,hp,hq,tp,tq,x2,y2,y1,hk,s1,s2,s3,s4,a1,a2,a3]
theorem IH (w p p' q q' t t' v:Int) (T:List D) (X Y A B C M E F G H:D) (L:List D) (hp:p+1=p') (hq:q+1=q') (ht:t+1=t') (tp:aD (.list T) (.int p)=some X) (tq:aD (.list T) (.int q)=some Y) (x1:aD X (.int 1)=some (.int v)) (hm:cb [Y,.int v]=some M) (s1:eJ (.list T) none (some p)=some A) (s2:eJ (.list T) (some p') (some q)=some B) (s3:eJ (.list T) (some q') (some t)=some C) (s4:eJ (.list T) (some t') none=some H) (a1:bd A B=some E) (a2:bd E M=some F) (a3:bd F C=some G) (a4:bd G H=some (.list L)):bu [.tuple [.int w,.tuple T],.tuple [.str "swung",.int p,.int q,.int t]]=some (.tuple [.int w,.tuple L]):=by
 simp [-sSeq,-sIf,ah,ao,bu,runB,eP,aj,sAsg,yQ,k_sg,k_sj,ix3,hp,hq,ht,tp,tq,x1,hm,s1,s2,s3,s4,a1,a2,a3,a4]
theorem Jo (a k:Nat) (hk:k<8):eJ (.list [.tuple [.str "turn",.int (a:Int),.int (k:Int)]]) none (some (k:Int))=some (.list ((if k=0 then (none:Option Rw) else some (.pl (.turn a k))).toList.map rwD)):=by
 by_cases h:k=0
 ·subst h; rfl
 ·rw [if_neg h]
  show some (PyData.list (dZ _ _ _))=_
  unfold dZ
  have h1:HT.sIx ([PyData.tuple [.str "turn",.int (a:Int),.int (k:Int)]]:List D).length 0 none=0:=rfl
  have h2:HT.sIx ([PyData.tuple [.str "turn",.int (a:Int),.int (k:Int)]]:List D).length ([PyData.tuple [.str "turn",.int (a:Int),.int (k:Int)]]:List D).length (some (k:Int))=1:=by
   simp only [HT.sIx,List.length_cons,List.length_nil]
   rw [if_neg (by omega)]
   omega
  rw [h1,h2]
  rfl
theorem pF {rs:List Rw} {q:Nat} (h:q<rs.length):aD (.list (rs.map rwD)) (.int (q:Int))=some (rwD (ro rs q)):=by
 rw [kZ h]
 exact fS (j:=q) rfl (by simp [h])
theorem rS {rs:List Rw} (ho:Ord rs) (hn:rs.length<=100) (w:Nat) {x:Sp} (hx:x∈d0 rs rs.length) (hf:eO rs x=true):bu [cirD w rs,zpD x]=some (cirD w (newR rs x)):=by
 have gd:∀ {k},k<rs.length->fq (ro rs k):=fun h=>by rw [kZ h]; exact ho.gd _ (List.getElem_mem h)
 have L:=Ac rs
 have ml:∀ o:Option Rw,o.toList.length<=1:=fun o=>by cases o <;> simp
 cases x with
 | g p q=>
  obtain ⟨h1,h2⟩:=mem_cand_g.mp hx
  have l1:=L 0 p; have l2:=L (p+1) q; have l3:=L (q+1) rs.length
  exact IJ w p ((p+1:Nat):Int) q ((q+1:Nat):Int) _ _ _ _ _ .none _ (by omega) (by omega) (yO rs (by omega)) (qh rs (by omega) (by omega)) (yP rs (by omega)) (ad (by omega)) (ad (by rw [List.length_append]; omega))
 | j p q=>
  obtain ⟨h1,h2⟩:=mem_cand_j.mp hx
  have l1:=L 0 p; have l2:=L (p+1) q; have l3:=L (q+1) rs.length
  obtain ⟨a,e,f,ep,eq⟩:=DP hf
  have tp:=pF (rs:=rs) (q:=p) (by omega)
  have tq:=pF (rs:=rs) (q:=q) (by omega)
  rw [ep] at tp
  rw [eq] at tq
  have hm:mid rs (.j p q)=if (e+f) % 8=0 then none else some (.pl (.turn a ((e+f) % 8))):=by simp only [mid,ep,eq]
  have s4:=Jo a ((e+f) % 8) (by omega)
  rw [<- hm] at s4
  have m1:=ml (mid rs (.j p q))
  exact II w p ((p+1:Nat):Int) q ((q+1:Nat):Int) a e f (((e+f) % 8:Nat):Int) _ _ _ _ _ _ _ _ _ _ (by omega) (by omega) tp tq (Ed _ _ _ _) (Ed _ _ _ _) (at1 _ _ _) (by omega) (yO rs (by omega)) (qh rs (by omega) (by omega)) s4 (yP rs (by omega)) (ad (by omega)) (ad (by rw [List.length_append]; omega)) (ad (by rw [List.length_append,List.length_append]; omega))
 | s p q t=>
  obtain ⟨hS,h1,h2,h3⟩:=mem_cand_s.mp hx
  have l1:=L 0 p; have l2:=L (p+1) q; have l3:=L (q+1) t; have l4:=L (t+1) rs.length
  have m1:=ml (mid rs (.s p q t))
  have hm:cb [rwD (ro rs q),.int ((ro rs p).n1:Int)]=some (.list ((mid rs (.s p q t)).toList.map rwD)):=J2 (gd (by omega))
  exact IH w p ((p+1:Nat):Int) q ((q+1:Nat):Int) t ((t+1:Nat):Int) _ _ _ _ _ _ _ _ _ _ _ _ _ (by omega) (by omega) (by omega) (pF (by omega)) (pF (by omega)) (rH _) hm (yO rs (by omega)) (qh rs (by omega) (by omega)) (qh rs (by omega) (by omega)) (yP rs (by omega)) (ad (by omega)) (ad (by rw [List.length_append]; omega)) (ad (by rw [List.length_append,List.length_append]; omega)) (ad (by rw [List.length_append,List.length_append,List.length_append]; omega))
def jr (l:Nat):List Rw->Prop
 | []=>True
 | r::rs=>fq r/\mb l r/\jr (l+gQ [r]) rs
theorem jS (r:Rw) (rs:List Rw):gQ (r::rs)=gQ [r]+gQ rs:=pX [r] rs
theorem ordF_app:∀ {a b:List Rw} {l:Nat},jr l (a++b)↔jr l a/\jr (l+gQ a) b
 | [],b,l=>by simp [jr,gQ]
 | r::a,b,l=>by
  show (fq r/\mb l r/\jr (l+gQ [r]) (a++b))↔(fq r/\mb l r/\jr (l+gQ [r]) a)/\jr (l+gQ (r::a)) b
  rw [ordF_app,jS r a,Nat.add_assoc,and_assoc,and_assoc]
theorem uZ:∀ {rs:List Rw} {l:Nat},(∀ r∈rs,fq r)->(∀ i (h:i<rs.length),mb (l+gQ (rs.take i)) rs[i])->jr l rs
 | [],_,_,_=>trivial
 | r::rs,l,hg,hm=>by
  refine ⟨hg r List.mem_cons_self,hm 0 (by simp),uZ (fun x hx=>hg x (List.mem_cons_of_mem _ hx)) fun i hi=>?_⟩
  have:=hm (i+1) (by simp; omega)
  rw [List.take_succ_cons,jS,<- Nat.add_assoc] at this
  exact this
theorem u5:∀ {rs:List Rw} {l:Nat},jr l rs->(∀ r∈rs,fq r/\mb (l+gQ rs) r)/\∀ i (h:i<rs.length),mb (l+gQ (rs.take i)) rs[i]
 | [],_,_=>⟨fun _ h=>(nomatch h),fun _ h=>absurd h (Nat.not_lt_zero _)⟩
 | r::rs,l,h=>by
  obtain ⟨h1,h2,h3⟩:=h
  obtain ⟨a,b⟩:=u5 h3
  refine ⟨fun x hx=>?_,fun i hi=>?_⟩
  ·rw [jS]
   rcases List.mem_cons.mp hx with rfl | hx
   ·exact ⟨h1,xU h2 (by omega)⟩
   ·have:=a x hx
    rw [Nat.add_assoc] at this
    exact this
  ·match i,hi with
   | 0,_=>exact xU h2 (by omega)
   | i+1,hi=>
    have:=b i (by simp at hi; omega)
    rw [List.take_succ_cons,jS,<- Nat.add_assoc]
    exact this
theorem ord_iff {rs:List Rw}:Ord rs↔jr 0 rs:=by
 constructor
 ·intro h
  exact uZ h.gd fun i hi=>by rw [Nat.zero_add]; exact h.at_ i hi
 ·intro h
  obtain ⟨a,b⟩:=u5 h
  refine ⟨fun r hr=>(a r hr).1,fun r hr=>?_,fun i hi=>?_⟩
  ·have:=(a r hr).2; rw [Nat.zero_add] at this; exact this
  ·have:=b i hi; rw [Nat.zero_add] at this; exact this
theorem fC {a b:List Rw} {r:Rw} {l:Nat} (h:jr l (a++r::b)) (hr:gQ [r]=0):jr l (a++b):=by
 obtain ⟨h1,_,_,h2⟩:=ordF_app.mp h
 rw [hr,Nat.add_zero] at h2
 exact ordF_app.mpr ⟨h1,h2⟩
theorem oB {a b:List Rw} {r r':Rw} {l:Nat} (h:jr l (a++r::b)) (hr:gQ [r]=0) (hr':gQ [r']=0) (hg:fq r->fq r') (hm:∀ l,mb l r->mb l r'):jr l (a++r'::b):=by
 obtain ⟨h1,g,m,h2⟩:=ordF_app.mp h
 rw [hr] at h2
 exact ordF_app.mpr ⟨h1,hg g,hm _ m,by rw [hr']; exact h2⟩
theorem Ad (rs:List Rw):kX rs 0 rs.length=rs:=by
 rw [<- lM rs (Nat.le_refl _)]
 simp
theorem jh (rs:List Rw) {a b p:Nat} (h1:a<=p) (h2:p<b):kX rs a b=kX rs a p++ro rs p::kX rs (p+1) b:=by
 unfold kX
 have e:List.range' a (b-a)=List.range' a (p-a)++p::List.range' (p+1) (b-(p+1)):=by
  have h3:b-a=(p-a)+((b-(p+1))+1):=by omega
  rw [h3,<- List.range'_append_1,List.range'_succ]
  rw [show a+(p-a)=p by omega]
 rw [e,List.map_append,List.map_cons]
theorem pY {r:Rw} (h:r.isLook=false):gQ [r]=0:=by rw [u9,h]; rfl
theorem ou {r q:Rw} (h:r.wd=q.wd) (hr:r.isLook=false):q.isLook=false:=by rw [<- fU,<- h,fU,hr]
theorem vJ {r q:Rw} (h:un r q=true):r.isLook=false/\q.isLook=false:=by
 have hr:r.isTL=false:=by
  cases e:r.isTL with
  | false=>rfl
  | true=>unfold un at h; rw [e] at h; cases h
 have hl:r.isLook=false:=by cases r <;> first | rfl | cases hr
 refine ⟨hl,?_⟩
 unfold un at h
 rw [hr] at h
 cases hs:r.isSC with
 | true=>
  rw [hs] at h
  simp only [Bool.false_eq_true,if_false,if_true] at h
  exact ou (eq_of_beq (Bool.and_eq_true_iff.mp h).1) hl
 | false=>
  rw [hs] at h
  simp only [Bool.false_eq_true,if_false] at h
  exact ou (uu h) hl
theorem CG {r r':Rw} {w:Nat} (h:cP r w=some r'):r.isLook=false/\r'.isLook=false/\(fq r->fq r')/\∀ l,mb l r->mb l r':=by
 cases r with
 | pl r=>
  cases r with
  | flip j=>simp only [cP] at h; split at h; (· cases h; exact ⟨rfl,rfl,fun _=>trivial,fun _ _=>trivial⟩); (· cases h)
  | turn j e=>simp only [cP] at h; split at h; (· cases h; exact ⟨rfl,rfl,fun _=>trivial,fun _ _=>trivial⟩); (· cases h)
  | tie i j=>
   simp only [cP] at h
   split at h
   ·rename_i e; subst e; cases h; exact ⟨rfl,rfl,fun g=>g,fun _ _=>trivial⟩
   ·cases h
  | sign i j=>
   simp only [cP] at h
   split at h
   ·rename_i e; subst e; cases h; exact ⟨rfl,rfl,fun g=>Ne.symm g,fun _ _=>trivial⟩
   ·split at h
    ·rename_i e; subst e; cases h; exact ⟨rfl,rfl,fun g=>g,fun _ _=>trivial⟩
    ·cases h
  | _=>cases h
 | look j=>cases h
 | wflip m j=>simp only [cP] at h; split at h; (· cases h; exact ⟨rfl,rfl,fun _=>trivial,fun _ q=>q⟩); (· cases h)
 | wsign m j=>simp only [cP] at h; split at h; (· cases h; exact ⟨rfl,rfl,fun _=>trivial,fun _ q=>q⟩); (· cases h)
theorem Gx {rs:List Rw} {p q t:Nat} (h:eO rs (.s p q t)=true):(ro rs p).isS=true/\nI (ro rs p) (ro rs t)=true/\∃ r',cP (ro rs q) (ro rs p).n1=some r':=by
 simp only [eO,Bool.and_eq_true] at h
 obtain ⟨h1,_⟩:=h
 have he:∀ o:Option Rw,o.toList.isEmpty=!o.isSome:=fun o=>by cases o <;> rfl
 rw [he] at h1
 have h1:(ro rs p).isS=true/\nI (ro rs p) (ro rs t)=true/\(cP (ro rs q) (ro rs p).n1).isSome=true:=by simpa using h1
 exact ⟨h1.1,h1.2.1,Option.isSome_iff_exists.mp h1.2.2⟩
theorem lO {rs:List Rw} (ho:Ord rs) {x:Sp} (hx:x∈d0 rs rs.length) (hf:eO rs x=true):Ord (newR rs x):=by
 have h0:=ord_iff.mp ho
 rw [<- Ad rs] at h0
 refine ord_iff.mpr ?_
 cases x with
 | g p q=>
  obtain ⟨h1,h2⟩:=mem_cand_g.mp hx
  simp only [eO,Bool.and_eq_true] at hf
  obtain ⟨n1,n2⟩:=vJ hf.1
  rw [jh rs (Nat.zero_le p) (by omega),jh rs (show p+1<=q by omega) h2] at h0
  have h3:=fC h0 (pY n1)
  rw [<- List.append_assoc] at h3
  exact fC h3 (pY n2)
 | j p q=>
  obtain ⟨h1,h2⟩:=mem_cand_j.mp hx
  obtain ⟨a,e,f,ep,eq⟩:=DP hf
  have n1:(ro rs p).isLook=false:=by rw [ep]; rfl
  have n2:(ro rs q).isLook=false:=by rw [eq]; rfl
  rw [jh rs (Nat.zero_le p) (by omega),jh rs (show p+1<=q by omega) h2] at h0
  have h3:=fC h0 (pY n1)
  rw [<- List.append_assoc] at h3
  simp only [newR]
  have hm:mid rs (.j p q)=if (e+f) % 8=0 then none else some (.pl (.turn a ((e+f) % 8))):=by simp only [mid,ep,eq]
  rw [hm]
  by_cases z:(e+f) % 8=0
  ·rw [if_pos z]
   simpa using fC h3 (pY n2)
  ·rw [if_neg z]
   have h4:=oB (r':=.pl (.turn a ((e+f) % 8))) h3 (pY n2) rfl (fun _=>trivial) (fun _ _=>trivial)
   simpa using h4
 | s p q t=>
  obtain ⟨_,h1,h2,h3⟩:=mem_cand_s.mp hx
  obtain ⟨hS,he,r',hr⟩:=Gx hf
  obtain ⟨n2,n2',g2,m2⟩:=CG hr
  have n1:(ro rs p).isLook=false:=by rw [hJ hS]; rfl
  have n3:(ro rs t).isLook=false:=by rw [hJ hS] at he; rw [oY he]; rfl
  rw [jh rs (Nat.zero_le p) (by omega),jh rs (show p+1<=q by omega) (by omega),jh rs (show q+1<=t by omega) h3] at h0
  have k1:=fC h0 (pY n1)
  rw [<- List.append_assoc] at k1
  have k2:=oB (r':=r') k1 (pY n2) (pY n2') g2 m2
  rw [<- List.cons_append,<- List.append_assoc] at k2
  have k3:=fC k2 (pY n3)
  simp only [newR,mid,hr]
  simpa using k3
theorem mH (rs:List Rw) (a b:Nat):(kX rs a b).length=b-a:=by unfold kX; rw [List.length_map,List.length_range']
theorem iF {rs:List Rw} {x:Sp} (hx:x∈d0 rs rs.length):(newR rs x).length<rs.length:=by
 have ml:∀ o:Option Rw,o.toList.length<=1:=fun o=>by cases o <;> simp
 cases x with
 | g p q=>
  obtain ⟨h1,h2⟩:=mem_cand_g.mp hx
  simp only [newR,List.length_append,mH]; omega
 | j p q=>
  obtain ⟨h1,h2⟩:=mem_cand_j.mp hx
  have:=ml (mid rs (.j p q))
  simp only [newR,List.length_append,mH]; omega
 | s p q t=>
  obtain ⟨_,h1,h2,h3⟩:=mem_cand_s.mp hx
  have:=ml (mid rs (.s p q t))
  simp only [newR,List.length_append,mH]; omega
theorem Gq:("NoStep":Str)∈iV:=List.mem_cons_self
theorem HB (w:Int) (R S L:D) (h:aW [.tuple [.int w,R]]=some L) (hi:Ck true S L=some (.bool true)):gy [.tuple [.int w,R],S]=some ("NoStep":Str):=by
 simp [gy,vV,lZ,aj,h,hi]
theorem EH (w:Int) (R S L:D) (h:aW [.tuple [.int w,R]]=some L) (hi:Ck true S L=some (.bool false)):gy [.tuple [.int w,R],S]=none:=by
 simp [gy,vV,lZ,aj,h,hi]
theorem qc:iL (fL "slid")=some "slid":=oS _
theorem FR (C S:D) (z1 z2:Sl) (hx:gy [C,S]=some ("NoStep":Str)):bE [.fz C,z1,z2,.fz (fL "slid"),.fz S]=some (.rt (.bool false),[.fz C,z1,z2,.fz (fL "slid"),.fz S]):=by
 simp [bE,qZ,mP,qc,hx,Gq]
theorem Dj (C S C':D) (z1 z2:Sl) (hx:gy [C,S]=none) (hs:eU [C,S]=some C'):bE [.fz C,z1,z2,.fz (fL "slid"),.fz S]=some (.nx,[.fz C',z1,z2,.fz (fL "slid"),.fz S]):=by
 simp [bE,qZ,mP,g6,qc,hx,hs]
def qF (rs:List Rw) (x:Sp):Prop:=x∈d0 rs rs.length/\eO rs x=true
theorem rm {rs:List Rw} (ho:Ord rs) (hn:rs.length<=100) (w:Nat) {x:Sp} (hf:qF rs x) (z1 z2:Sl):bE [.fz (cirD w rs),z1,z2,.fz (fL "slid"),.fz (zpD x)]=some (.nx,[.fz (cirD w (newR rs x)),z1,z2,.fz (fL "slid"),.fz (zpD x)]):=by
 obtain ⟨zs,⟨hz,hm⟩,h1,_⟩:=fP ho hn w
 have ig:=uj (up x) zs
 have hin:sB (zqD (up x)) (zs.map zpD)=true:=(ui _ _).mpr ⟨x,(hm x).mpr (List.mem_filter.mpr hf),rfl⟩
 rw [hin,jv] at ig
 exact Dj _ _ _ z1 z2 (EH w _ _ _ h1 ig) (uQ ho hn w hf.1 hf.2 _ h1 ig)
theorem Ao {rs:List Rw} (ho:Ord rs) (hn:rs.length<=100) (w:Nat) {z:Zp} (hf:¬ ∃ x,z=up x/\qF rs x) (z1 z2:Sl):bE [.fz (cirD w rs),z1,z2,.fz (fL "slid"),.fz (zqD z)]=some (.rt (.bool false),[.fz (cirD w rs),z1,z2,.fz (fL "slid"),.fz (zqD z)]):=by
 obtain ⟨zs,⟨hz,hm⟩,h1,_⟩:=fP ho hn w
 have ig:=uj z zs
 have hin:sB (zqD z) (zs.map zpD)=false:=by
  cases e:sB (zqD z) (zs.map zpD) with
  | false=>rfl
  | true=>
   obtain ⟨x,hx,rfl⟩:=(ui _ _).mp e
   exact absurd ⟨x,rfl,List.mem_filter.mp ((hm x).mp hx)⟩ hf
 rw [hin] at ig
 exact FR _ _ z1 z2 (HB w _ _ _ h1 ig)
noncomputable def tj (n:Int):Int->List Int->Bool
 | _,[]=>true
 | l,x::xs=>decide (l<x)&&(decide (x<n)&&tj n x xs)
theorem HX (C R S G z:D) (z1 z3:Sl) (n l x:Int) (cr:aD C (.int 1)=some R) (ln:da [R]=some (.int n)):bL [.fz C,z1,.fz G,.fz S,.fz (.int l),.fz (.int x)]=some (if decide (l<x)&&decide (x<n) then .nx else .rt (.bool false),[.fz C,z1,.fz G,.fz S,(if decide (l<x)&&decide (x<n) then .fz (.int x) else .fz (.int l)),.fz (.int x)]):=by
 by_cases h1:l<x
 ·have a:¬ x<=l:=by omega
  by_cases h2:x<n
  ·have b:¬ n<=x:=by omega
   simp [-sSeq,-sIf,ah,ao,bL,cr,ln,a,b,h1,h2]
  ·have b:n<=x:=by omega
   simp [-sSeq,-sIf,ah,ao,bL,cr,ln,a,b,h1,h2]
 ·have a:x<=l:=by omega
  simp [-sSeq,-sIf,ah,ao,bL,cr,ln,a,h1]
theorem pq (C R S G:D) (z1:Sl) (n:Int) (cr:aD C (.int 1)=some R) (ln:da [R]=some (.int n)):∀ (xs:List Int) (l:Int) (z:Sl),∃ y2 y3,loop (gN 5) bL (xs.map .int) [.fz C,z1,.fz G,.fz S,.fz (.int l),z]=some (if tj n l xs then .nx else .rt (.bool false),[.fz C,z1,.fz G,.fz S,y2,y3])
 | [],l,z=>⟨_,_,rfl⟩
 | x::xs,l,z=>by
  have st:=HX C R S G .none z1 .un n l x cr ln
  have g:gN 5 (.int x) [.fz C,z1,.fz G,.fz S,.fz (.int l),z]=some [.fz C,z1,.fz G,.fz S,.fz (.int l),.fz (.int x)]:=by simp
  cases h:(decide (l<x)&&decide (x<n)) with
  | false=>
   rw [h] at st
   refine ⟨.fz (.int l),.fz (.int x),?_⟩
   have e:tj n l (x::xs)=false:=by rw [tj,<- Bool.and_assoc,h]; rfl
   rw [List.map_cons,eM g st,e]
   rfl
  | true=>
   rw [h] at st
   obtain ⟨y2,y3,e⟩:=pq C R S G z1 n cr ln xs x (.fz (.int x))
   refine ⟨y2,y3,?_⟩
   have:tj n l (x::xs)=tj n x xs:=by rw [tj,<- Bool.and_assoc,h]; rfl
   rw [List.map_cons,bZ g st,this]
   exact e
theorem Dq (C S G:D) (z1 z4 z5 y4 y5:Sl) (P:List D) (sl:eJ S (some 1) none=some (.tuple P)) (lp:loop (gN 5) bL P [.fz C,z1,.fz G,.fz S,.fz (.int (-1)),z5]=some (.rt (.bool false),[.fz C,z1,.fz G,.fz S,y4,y5])):aV [.fz C,z1,.fz G,.fz S,z4,z5]=some (.rt (.bool false),[.fz C,z1,.fz G,.fz S,y4,y5]):=by
 simp [-sSeq,-sIf,ah,ao,aV,sl,lp]
theorem Dp (C R S G:D) (z1 z4 z5 y4 y5:Sl) (P:List D) (cr:aD C (.int 1)=some R) (sl:eJ S (some 1) none=some (.tuple P)) (lp:loop (gN 5) bL P [.fz C,z1,.fz G,.fz S,.fz (.int (-1)),z5]=some (.nx,[.fz C,z1,.fz G,.fz S,y4,y5])) (hf:bz [R,S]=some (.bool false)):aV [.fz C,z1,.fz G,.fz S,z4,z5]=some (.rt (.bool false),[.fz C,z1,.fz G,.fz S,y4,y5]):=by
 simp [-sSeq,-sIf,ah,ao,aV,sl,lp,cr,hf]
theorem Do (C R S G C':D) (z1 z4 z5 y4 y5:Sl) (P:List D) (cr:aD C (.int 1)=some R) (sl:eJ S (some 1) none=some (.tuple P)) (lp:loop (gN 5) bL P [.fz C,z1,.fz G,.fz S,.fz (.int (-1)),z5]=some (.nx,[.fz C,z1,.fz G,.fz S,y4,y5])) (hf:bz [R,S]=some (.bool true)) (hs:bu [C,S]=some C'):aV [.fz C,z1,.fz G,.fz S,z4,z5]=some (.nx,[.fz C',z1,.fz G,.fz S,y4,y5]):=by
 simp [-sSeq,-sIf,ah,ao,aV,sl,lp,cr,hf,hs]
noncomputable def wM:Zp->List Int
 | .g p q=>[p,q]
 | .j p q=>[p,q]
 | .s p q t=>[p,q,t]
theorem tQ (z:Zp):eJ (zqD z) (some 1) none=some (.tuple ((wM z).map .int)):=by cases z <;> rfl
def jZ (n:Nat):Sp->Prop
 | .g p q=>p<q/\q<n
 | .j p q=>p<q/\q<n
 | .s p q t=>p<q/\q<t/\t<n
theorem Eb {n:Nat} {z:Zp} (h:tj n (-1) (wM z)=true):∃ x:Sp,z=up x/\jZ n x:=by
 cases z with
 | g p q=>
  simp [wM,tj] at h
  refine ⟨.g p.toNat q.toNat,?_,by simp only [jZ]; omega⟩
  simp only [up]; congr <;> omega
 | j p q=>
  simp [wM,tj] at h
  refine ⟨.j p.toNat q.toNat,?_,by simp only [jZ]; omega⟩
  simp only [up]; congr <;> omega
 | s p q t=>
  simp [wM,tj] at h
  refine ⟨.s p.toNat q.toNat t.toNat,?_,by simp only [jZ]; omega⟩
  simp only [up]; congr <;> omega
theorem Cv {n:Nat} {x:Sp} (h:jZ n x):tj n (-1) (wM (up x))=true:=by
 cases x with
 | g p q=>simp only [jZ] at h; simp [wM,up,tj]; omega
 | j p q=>simp only [jZ] at h; simp [wM,up,tj]; omega
 | s p q t=>simp only [jZ] at h; simp [wM,up,tj]; omega
theorem BG {rs:List Rw} {x:Sp} (h:x∈d0 rs rs.length):jZ rs.length x:=by
 cases x with
 | g p q=>exact mem_cand_g.mp h
 | j p q=>exact mem_cand_j.mp h
 | s p q t=>exact (mem_cand_s.mp h).2
theorem zM {rs:List Rw} {x:Sp} (h:jZ rs.length x) (hf:eO rs x=true):x∈d0 rs rs.length:=by
 cases x with
 | g p q=>exact mem_cand_g.mpr h
 | j p q=>exact mem_cand_j.mpr h
 | s p q t=>exact mem_cand_s.mpr ⟨(Gx hf).1,h⟩
theorem wW {n:Nat} {x:Sp} (h:jZ n x):EE n x:=by
 cases x with
 | g p q=>simp only [jZ] at h; simp only [EE]; omega
 | j p q=>simp only [jZ] at h; simp only [EE]; omega
 | s p q t=>simp only [jZ] at h; simp only [EE]; omega
theorem AT {rs:List Rw} (ho:Ord rs) (hn:rs.length<=100) (w:Nat) {x:Sp} (hf:qF rs x) (G:D) (z1 z4 z5:Sl):∃ y4 y5,aV [.fz (cirD w rs),z1,.fz G,.fz (zpD x),z4,z5]=some (.nx,[.fz (cirD w (newR rs x)),z1,.fz G,.fz (zpD x),y4,y5]):=by
 have hu:=BG hf.1
 have hc:=Cv hu
 obtain ⟨y4,y5,lp⟩:=pq (cirD w rs) _ (zpD x) G z1 rs.length (hV w rs) (by simp) (wM (up x)) (-1) z5
 rw [hc] at lp
 have sl:=tQ (up x)
 rw [jv] at sl
 exact ⟨y4,y5,Do _ _ _ _ _ z1 z4 z5 y4 y5 _ (hV w rs) sl lp (by rw [uo ho hn x (wW hu),hf.2]) (rS ho hn w hf.1 hf.2)⟩
theorem Dn {rs:List Rw} (ho:Ord rs) (hn:rs.length<=100) (w:Nat) {z:Zp} (hf:¬ ∃ x,z=up x/\qF rs x) (G:D) (z1 z4 z5:Sl):∃ y4 y5,aV [.fz (cirD w rs),z1,.fz G,.fz (zqD z),z4,z5]=some (.rt (.bool false),[.fz (cirD w rs),z1,.fz G,.fz (zqD z),y4,y5]):=by
 obtain ⟨y4,y5,lp⟩:=pq (cirD w rs) _ (zqD z) G z1 rs.length (hV w rs) (by simp) (wM z) (-1) z5
 refine ⟨y4,y5,?_⟩
 cases h:tj rs.length (-1) (wM z) with
 | false=>
  rw [h] at lp
  exact Dq _ _ _ z1 z4 z5 y4 y5 _ (tQ z) lp
 | true=>
  rw [h] at lp
  obtain ⟨x,rfl,hu⟩:=Eb h
  have hf':eO rs x=false:=by
   cases e:eO rs x with
   | false=>rfl
   | true=>exact absurd ⟨x,rfl,zM hu e,e⟩ hf
  have ft:=uo ho hn x (wW hu)
  rw [<- jv,hf'] at ft
  exact Dp _ _ _ _ z1 z4 z5 y4 y5 _ (hV w rs) (tQ (up x)) lp ft
theorem qU (w:Nat) (G:D):∀ (zl:List Zp) (rs:List Rw),Ord rs->rs.length<=100 ->
  (∀ z1 z3 z4 z5,(∃ δ,loop (gN 4) bE (zl.map zqD) [.fz (cirD w rs),z1,.fz G,.fz (fL "slid"),z4]=some (.rt (.bool false),δ))/\∃ δ,loop (gN 3) aV (zl.map zqD) [.fz (cirD w rs),z1,.fz G,z3,z4,z5]=some (.rt (.bool false),δ)) \/
  ∃ qs,∀ z1 z3 z4 z5,(∃ y,loop (gN 4) bE (zl.map zqD) [.fz (cirD w rs),z1,.fz G,.fz (fL "slid"),z4]=some (.nx,[.fz (cirD w qs),z1,.fz G,.fz (fL "slid"),y]))/\∃ y3 y4 y5,loop (gN 3) aV (zl.map zqD) [.fz (cirD w rs),z1,.fz G,z3,z4,z5]=some (.nx,[.fz (cirD w qs),z1,.fz G,y3,y4,y5])
 | [],rs,_,_=>.inr ⟨rs,fun z1 z3 z4 z5=>⟨⟨z4,rfl⟩,z3,z4,z5,rfl⟩⟩
 | z::zl,rs,ho,hn=>by
  by_cases hf:∃ x,z=up x/\qF rs x
  ·obtain ⟨x,rfl,hf⟩:=hf
   have hl:=iF hf.1
   have p:∀ z1 z4,loop (gN 4) bE ((up x::zl).map zqD) [.fz (cirD w rs),z1,.fz G,.fz (fL "slid"),z4]=loop (gN 4) bE (zl.map zqD) [.fz (cirD w (newR rs x)),z1,.fz G,.fz (fL "slid"),.fz (zpD x)]:=fun z1 z4=>by
    rw [List.map_cons,jv,bZ (δ1:=[.fz (cirD w rs),z1,.fz G,.fz (fL "slid"),.fz (zpD x)]) (by simp) (rm ho hn w hf z1 (.fz G))]
   have q:∀ z1 z3 z4 z5,∃ y4 y5,loop (gN 3) aV ((up x::zl).map zqD) [.fz (cirD w rs),z1,.fz G,z3,z4,z5]=loop (gN 3) aV (zl.map zqD) [.fz (cirD w (newR rs x)),z1,.fz G,.fz (zpD x),y4,y5]:=fun z1 z3 z4 z5=>by
    obtain ⟨y4,y5,st⟩:=AT ho hn w hf G z1 z4 z5
    refine ⟨y4,y5,?_⟩
    rw [List.map_cons,jv,bZ (δ1:=[.fz (cirD w rs),z1,.fz G,.fz (zpD x),z4,z5]) (by simp) st]
   rcases qU w G zl (newR rs x) (lO ho hf.1 hf.2) (by omega) with h | ⟨qs,h⟩
   ·refine .inl fun z1 z3 z4 z5=>?_
    obtain ⟨y4,y5,e⟩:=q z1 z3 z4 z5
    rw [p,e]
    exact ⟨(h z1 (.fz (zpD x)) (.fz (zpD x)) z5).1,(h z1 (.fz (zpD x)) y4 y5).2⟩
   ·refine .inr ⟨qs,fun z1 z3 z4 z5=>?_⟩
    obtain ⟨y4,y5,e⟩:=q z1 z3 z4 z5
    rw [p,e]
    exact ⟨(h z1 (.fz (zpD x)) (.fz (zpD x)) z5).1,(h z1 (.fz (zpD x)) y4 y5).2⟩
  ·refine .inl fun z1 z3 z4 z5=>⟨⟨[.fz (cirD w rs),z1,.fz G,.fz (fL "slid"),.fz (zqD z)],?_⟩,?_⟩
   ·rw [List.map_cons,eM (δ1:=[.fz (cirD w rs),z1,.fz G,.fz (fL "slid"),.fz (zqD z)]) (by simp) (Ao ho hn w hf z1 (.fz G))]
   ·obtain ⟨y4,y5,st⟩:=Dn ho hn w hf G z1 z4 z5
    refine ⟨[.fz (cirD w rs),z1,.fz G,.fz (zqD z),y4,y5],?_⟩
    rw [List.map_cons,eM (δ1:=[.fz (cirD w rs),z1,.fz G,.fz (zqD z),z4,z5]) (by simp) st]
theorem px (w:Nat) (rs:List Rw):MA.Sh 4 (cirD w rs):=MA.Sh.tuple fun d hd=>by
 simp only [List.mem_cons,List.not_mem_nil,or_false] at hd
 rcases hd with rfl | rfl
 ·exact MA.Sh.int 3 _
 ·refine MA.Sh.tuple fun d hd=>?_
  obtain ⟨r,_,rfl⟩:=List.mem_map.mp hd
  exact Fc r
theorem ux (w:Nat) (rs:List Rw) (v:Nat) (qs:List Rw):aO (cirD w rs) (cirD v qs)=some (.bool (PyData.eqv (cirD w rs) (cirD v qs))):=if_pos ⟨d8 (px w rs) (by decide),d8 (px v qs) (by decide)⟩
theorem jM (C L G C':D) (ds:List D) (b:Bool) (y:Sl) (hL:L=.list ds) (lp:loop (gN 4) bE ds [.fz C,.fz L,.fz G,.fz (fL "slid"),.un]=some (.nx,[.fz C',.fz L,.fz G,.fz (fL "slid"),y])) (he:aO C' G=some (.bool b)):bg [C,L,G]=some (.bool b):=by
 subst hL
 have h:cV [C,.list ds,G,fL "slid"]=some (.bool b):=by simp [-sSeq,-sIf,ah,ao,cV,runB,h7,aj,lp,he]
 simp [-sSeq,-sIf,ah,ao,bg,runB,dU,aj,h]
theorem pG (C L G:D) (ds:List D) (δ:Dv) (hL:L=.list ds) (lp:loop (gN 4) bE ds [.fz C,.fz L,.fz G,.fz (fL "slid"),.un]=some (.rt (.bool false),δ)):bg [C,L,G]=some (.bool false):=by
 subst hL
 have h:cV [C,.list ds,G,fL "slid"]=some (.bool false):=by simp [-sSeq,-sIf,ah,ao,cV,runB,h7,aj,lp]
 simp [-sSeq,-sIf,ah,ao,bg,runB,dU,aj,h]
theorem r9 (C L G C':D) (ds:List D) (b:Bool) (y3 y4 y5:Sl) (hL:L=.list ds) (lp:loop (gN 3) aV ds [.fz C,.fz L,.fz G,.un,.un,.un]=some (.nx,[.fz C',.fz L,.fz G,y3,y4,y5])) (he:aO C' G=some (.bool b)):bJ [C,L,G]=some (.bool b):=by
 subst hL
 simp [-sSeq,-sIf,ah,ao,bJ,runB,eG,aj,lp,he]
theorem se (C L G:D) (ds:List D) (δ:Dv) (hL:L=.list ds) (lp:loop (gN 3) aV ds [.fz C,.fz L,.fz G,.un,.un,.un]=some (.rt (.bool false),δ)):bJ [C,L,G]=some (.bool false):=by
 subst hL
 simp [-sSeq,-sIf,ah,ao,bJ,runB,eG,aj,lp]
theorem nr {rs:List Rw} (ho:Ord rs) (hn:rs.length<=100) (w:Nat) (zl:List Zp) (v:Nat) (gs:List Rw):∃ b,bg [cirD w rs,.list (zl.map zqD),cirD v gs]=some (.bool b)/\bJ [cirD w rs,.list (zl.map zqD),cirD v gs]=some (.bool b):=by
 rcases qU w (cirD v gs) zl rs ho hn with h | ⟨qs,h⟩
 ·obtain ⟨⟨δ,a⟩,δ',b⟩:=h (.fz (.list (zl.map zqD))) .un .un .un
  exact ⟨false,pG _ _ _ _ δ rfl a,se _ _ _ _ δ' rfl b⟩
 ·obtain ⟨⟨y,a⟩,y3,y4,y5,b⟩:=h (.fz (.list (zl.map zqD))) .un .un .un
  exact ⟨_,jM _ _ _ _ _ _ y rfl a (ux w qs v gs),r9 _ _ _ _ _ _ y3 y4 y5 rfl b (ux w qs v gs)⟩
inductive Run:List Rw->List Sp->List Rw->Prop
 | nil (rs:List Rw):Run rs [] rs
 | cons {rs qs:List Rw} {x:Sp} {xs:List Sp}:qF rs x->Run (newR rs x) xs qs->Run rs (x::xs) qs
theorem xq (w:Nat) (G:D) {rs qs:List Rw} {xs:List Sp} (r:Run rs xs qs):Ord rs->rs.length<=100->∀ z1 z4,∃ y,loop (gN 4) bE (xs.map zpD) [.fz (cirD w rs),z1,.fz G,.fz (fL "slid"),z4]=some (.nx,[.fz (cirD w qs),z1,.fz G,.fz (fL "slid"),y]):=by
 induction r with
 | nil rs=>exact fun _ _ z1 z4=>⟨z4,rfl⟩
 | @cons rs qs x xs hf r ih=>
  intro ho hn z1 z4
  have hl:=iF hf.1
  obtain ⟨y,e⟩:=ih (lO ho hf.1 hf.2) (by omega) z1 (.fz (zpD x))
  refine ⟨y,?_⟩
  rw [List.map_cons,bZ (δ1:=[.fz (cirD w rs),z1,.fz G,.fz (fL "slid"),.fz (zpD x)]) (by simp) (rm ho hn w hf z1 (.fz G)),e]
theorem Bt (w:Nat) (rs:List Rw):PyData.eqv (cirD w rs) (cirD w rs)=true:=MA.nh _ (px w rs).1
theorem xp (w:Nat) {rs qs:List Rw} {xs:List Sp} (r:Run rs xs qs) (ho:Ord rs) (hn:rs.length<=100):bg [cirD w rs,.list (xs.map zpD),cirD w qs]=some (.bool true):=by
 obtain ⟨y,e⟩:=xq w (cirD w qs) r ho hn (.fz (.list (xs.map zpD))) .un
 exact jM _ _ _ _ _ _ y rfl e (by rw [ux,Bt])
theorem Cl:iL (fL "slides_of")=some "slides_of":=oS _
theorem xS (zs:List Sp):neD (.list (zs.map zpD)) (.list [])=some (.bool (!zs.isEmpty)):=by
 have h:MA.Sh 2 (.list (zs.map zpD)):=MA.Sh.list fun x hx=>by
  obtain ⟨r,_,rfl⟩:=List.mem_map.mp hx
  rw [<- jv]; exact qW _
 have h2:kW (.list ([]:List D))=true:=by rfl
 unfold neD
 rw [if_pos ⟨d8 h (by decide),h2⟩]
 cases zs with
 | nil=>rfl
 | cons r rs=>simp [PyData.eqv,PyData.eqvAll]
theorem Cp (zs:List Zp):aO (.list (zs.map zqD)) (.list [])=some (.bool zs.isEmpty):=by
 have h:MA.Sh 2 (.list (zs.map zqD)):=MA.Sh.list fun x hx=>by
  obtain ⟨r,_,rfl⟩:=List.mem_map.mp hx
  exact qW _
 have h2:kW (.list ([]:List D))=true:=by rfl
 unfold aO
 rw [if_pos ⟨d8 h (by decide),h2⟩]
 cases zs with
 | nil=>rfl
 | cons r rs=>simp [PyData.eqv,PyData.eqvAll]
theorem FU (z0 z1 z2 z3:Sl) (L:D) (b:Bool) (h:neD L (.list [])=some (.bool b)):gG [z0,z1,z2,z3,.fz L]=some b:=by
 simp [gG,h]
theorem IM (C C' S L L':D) (ds:List D) (hs:aD L (.int 0)=some S) (hl:ds.length<sizeLine) (h1:eU [C,S]=some C') (h2:aW [C']=some L'):gJ [.fz C,.fz (fL "slides_of"),.fz (fL "slid"),.ow ds,.fz L]=some (.nx,[.fz C',.fz (fL "slides_of"),.fz (fL "slid"),.ow (ds++[S]),.fz L']):=by
 simp [gJ,g6,qc,Cl,hs,hl,h1,h2]
theorem xk {rs:List Rw} (ho:Ord rs) (hn:rs.length<=100) (w:Nat) {x:Sp} (hf:qF rs x):eU [cirD w rs,zpD x]=some (cirD w (newR rs x)):=by
 obtain ⟨zs,⟨hz,hm⟩,h1,_⟩:=fP ho hn w
 have ig:=uj (up x) zs
 have hin:sB (zqD (up x)) (zs.map zpD)=true:=(ui _ _).mpr ⟨x,(hm x).mpr (List.mem_filter.mpr hf),rfl⟩
 rw [hin,jv] at ig
 exact uQ ho hn w hf.1 hf.2 _ h1 ig
theorem rY (w:Nat):∀ (N:Nat) (rs:List Rw),Ord rs->rs.length<=N->N<=100->∀ (zs:List Sp),(∀ x,x∈zs↔qF rs x)->∀ ds:List D,ds.length+N<=1000->∃ xs qs y,Run rs xs qs/\xs.length<=N/\eV gG gJ (N+1) [.fz (cirD w rs),.fz (fL "slides_of"),.fz (fL "slid"),.ow ds,.fz (.list (zs.map zpD))]=some (.nx,[.fz (cirD w qs),.fz (fL "slides_of"),.fz (fL "slid"),.ow (ds++xs.map zpD),y])
 | N,rs,ho,hN,hn,[],_,ds,_=>⟨[],rs,.fz (.list []),.nil rs,Nat.zero_le _,by rw [mi N (FU _ _ _ _ _ _ (xS []))]; simp⟩
 | 0,rs,ho,hN,hn,x::zs,hm,ds,_=>by
  have hf:=(hm x).mp List.mem_cons_self
  have:=iF hf.1
  omega
 | N+1,rs,ho,hN,hn,x::zs,hm,ds,hd=>by
  have hf:=(hm x).mp List.mem_cons_self
  have hl:=iF hf.1
  have ho':=lO ho hf.1 hf.2
  obtain ⟨zs',⟨hz,hm'⟩,h1,_⟩:=fP ho' (by omega) w
  obtain ⟨xs,qs,y,hr,hx,e⟩:=rY w N (newR rs x) ho' (by omega) (by omega) zs' (fun z=>(hm' z).trans List.mem_filter) (ds++[zpD x]) (by simp; omega)
  refine ⟨x::xs,qs,y,.cons hf hr,by simp; omega,?_⟩
  have st:=IM (cirD w rs) (cirD w (newR rs x)) (zpD x) (.list ((x::zs).map zpD)) _ ds (at0 _ _) (by show _<16777216; omega) (xk ho (by omega) w hf) h1
  rw [qL (N+1) (FU _ _ _ _ _ _ (xS (x::zs))) st e]
  simp
theorem Ab (C L C':D) (ds:List D) (y:Sl) (h:aW [C]=some L) (lp:eV gG gJ wN [.fz C,.fz (fL "slides_of"),.fz (fL "slid"),.ow [],.fz L]=some (.nx,[.fz C',.fz (fL "slides_of"),.fz (fL "slid"),.ow ds,y])):cD [C]=some (.tuple [.list ds,C']):=by
 have k:gK [C,fL "slides_of",fL "slid"]=some (.tuple [.list ds,C']):=by simp [-sSeq,-sIf,ah,ao,gK,runB,nA,aj,g6,Cl,h,lp,dFz]
 simp [-sSeq,-sIf,ah,ao,cD,runB,iQ,aj,k]
theorem xm {rs:List Rw} (ho:Ord rs) (hn:rs.length<=100) (w:Nat):∃ xs qs,Run rs xs qs/\cD [cirD w rs]=some (.tuple [.list (xs.map zpD),cirD w qs]):=by
 obtain ⟨zs,⟨hz,hm⟩,h1,_⟩:=fP ho hn w
 obtain ⟨xs,qs,y,hr,_,e⟩:=rY w 100 rs ho hn (Nat.le_refl _) zs (fun z=>(hm z).trans List.mem_filter) [] (by simp)
 rw [List.nil_append] at e
 exact ⟨xs,qs,hr,Ab _ _ _ _ y h1 (gS e (by show 101<=1000000; decide))⟩
theorem IP (z0 z4:Sl) (L:D) (c m k:Int) (ds:List D) (b d:Bool) (h:neD L (.list [])=some (.bool b)) (hk:(ds.length:Int)=k) (hm:c / 7 % 6=m) (hd:decide (k<m)=d):cy [z0,.fz (.int c),.ow ds,.fz L,z4]=some (b&&d):=by
 cases b with
 | false=>simp [-sSeq,-sIf,ah,ao,cy,h]
 | true=>
  by_cases q:k<m
  ·rw [decide_eq_true q] at hd
   subst hd
   simp [-sSeq,-sIf,ah,ao,cy,h,hk,hm,q]
  ·rw [decide_eq_false q] at hd
   subst hd
   simp [-sSeq,-sIf,ah,ao,cy,h,hk,hm,q]
theorem IN (C C' R S L L':D) (c n i:Int) (ds:List D) (z4:Sl) (ln:da [L]=some (.int n)) (hi:ck (.int c) (.int n)=some (.int i)) (hs:aD L (.int i)=some S) (hl:ds.length<sizeLine) (h1:bu [C,S]=some C') (cr:aD C' (.int 1)=some R) (h2:bM [R]=some L'):dl [.fz C,.fz (.int c),.ow ds,.fz L,z4]=some (.nx,[.fz C',.fz (.int c),.ow (ds++[S]),.fz L',.fz S]):=by
 simp [-sSeq,-sIf,ah,ao,dl,ln,hi,hs,hl,h1,cr,h2]
theorem va (w:Nat) (c:Int):∀ (N:Nat) (rs:List Rw),Ord rs->rs.length<=N->N<=100->∀ (zs:List Sp),zs.length<=100000->(∀ x,x∈zs↔qF rs x)->∀ (ys:List Sp) (z4:Sl),ys.length+N<=1000->∃ (xs:List Sp) (qs:List Rw) (y3 y4:Sl),(xs.length<=ys.length+N/\qs.length<=N)/\eV cy dl (N+1) [.fz (cirD w rs),.fz (.int c),.ow (ys.map zpD),.fz (.list (zs.map zpD)),z4]=some (.nx,[.fz (cirD w qs),.fz (.int c),.ow (xs.map zpD),y3,y4])
 | N,rs,ho,hN,hn,zs,hz,hm,ys,z4,hd=>by
  have t:=IP (.fz (cirD w rs)) z4 (.list (zs.map zpD)) c _ _ (ys.map zpD) _ _ (xS zs) rfl rfl rfl
  cases hb:(!zs.isEmpty&&decide (((ys.map zpD).length:Int)<c / 7 % 6)) with
  | false=>
   rw [hb] at t
   exact ⟨ys,rs,_,_,⟨by omega,hN⟩,mi N t⟩
  | true=>
   rw [hb] at t
   have hne:zs≠[]:=fun e=>by rw [e] at hb; simp at hb
   have hlen:0<zs.length:=List.length_pos_iff.mpr hne
   have hk:=fK (i:=c) (show (0:Int)<(zs.length:Int) by omega)
   have a1:=Int.emod_nonneg c (show (zs.length:Int)≠0 by omega)
   have a2:=Int.emod_lt_of_pos c (show (0:Int)<(zs.length:Int) by omega)
   obtain ⟨k,ek⟩:∃ k:Nat,c % (zs.length:Int)=k:=⟨_,(Int.toNat_of_nonneg a1).symm⟩
   rw [ek] at hk a2
   have hkl:k<zs.length:=by omega
   have hf:=(hm zs[k]).mp (List.getElem_mem hkl)
   have hS:aD (.list (zs.map zpD)) (.int (k:Int))=some (zpD zs[k]):=fS (j:=k) rfl (by simp [hkl])
   generalize zs[k]=x at hf hS
   have hl:=iF hf.1
   have ho':=lO ho hf.1 hf.2
   match N,hN,hn,hd with
   | 0,hN,_,_=>omega
   | N+1,hN,hn,hd=>
    obtain ⟨zs',⟨hz',hm'⟩,_,h2⟩:=fP ho' (by omega) w
    have st:=IN (cirD w rs) _ _ (zpD x) (.list (zs.map zpD)) _ c zs.length k (ys.map zpD) z4 (by simp) hk hS (by rw [List.length_map]; show _<16777216; omega) (rS ho (by omega) w hf.1 hf.2) (hV w (newR rs x)) h2
    rw [<- List.map_singleton (f:=zpD),<- List.map_append] at st
    obtain ⟨xs,qs,y3,y4,⟨b1,b2⟩,e⟩:=va w c N (newR rs x) ho' (by omega) (by omega) zs' hz' (fun z=>(hm' z).trans List.mem_filter) (ys++[x]) (.fz (zpD x)) (by simp; omega)
    exact ⟨xs,qs,y3,y4,⟨by simp at b1; omega,by omega⟩,qL (N+1) t st e⟩
theorem BC (C R L C':D) (c:Int) (ds:List D) (y3 y4:Sl) (cr:aD C (.int 1)=some R) (h:bM [R]=some L) (lp:eV cy dl wN [.fz C,.fz (.int c),.ow [],.fz L,.un]=some (.nx,[.fz C',.fz (.int c),.ow ds,y3,y4])):cw [C,.int c]=some (.tuple [.list ds,C']):=by
 simp [-sSeq,-sIf,ah,ao,cw,runB,ii,aj,cr,h,lp,dFz]
theorem yR {rs:List Rw} (ho:Ord rs) (hn:rs.length<=100) (w:Nat) (c:Int):∃ (xs:List Sp) (qs:List Rw),(xs.length<=100/\qs.length<=100)/\cw [cirD w rs,.int c]=some (.tuple [.list (xs.map zpD),cirD w qs]):=by
 obtain ⟨zs,⟨hz,hm⟩,_,h2⟩:=fP ho hn w
 obtain ⟨xs,qs,y3,y4,⟨b1,b2⟩,e⟩:=va w c 100 rs ho hn (Nat.le_refl _) zs hz (fun z=>(hm z).trans List.mem_filter) [] .un (by simp)
 exact ⟨xs,qs,⟨by simpa using b1,b2⟩,BC _ _ _ _ c _ y3 y4 (hV w rs) h2 (gS e (by show 101<=1000000; decide))⟩
theorem GO (L:List D) {a:Nat} (h:a<=L.length):eJ (.list L) none (some (a:Int))=some (.list (L.take a)):=by
 show some (PyData.list (dZ _ _ _))=_
 unfold dZ
 have h1:HT.sIx L.length 0 none=0:=rfl
 rw [h1,BU _ _ h]; rfl
theorem Cr (L:List D) {a:Nat} (h:a<=L.length):eJ (.list L) (some (a:Int)) none=some (.list (L.drop a)):=by
 show some (PyData.list (dZ _ _ _))=_
 unfold dZ
 have h1:HT.sIx L.length L.length none=L.length:=rfl
 rw [h1,BU _ _ h,List.take_of_length_le (by rw [List.length_drop]; omega)]
theorem GL (L:List D) {a:Nat} (h:a<=L.length):eJ (.tuple L) none (some (a:Int))=some (.tuple (L.take a)):=by
 show some (PyData.tuple (dZ _ _ _))=_
 unfold dZ
 have h1:HT.sIx L.length 0 none=0:=rfl
 rw [h1,BU _ _ h]; rfl
theorem GM (L:List D) {a:Nat} (h:a<=L.length):eJ (.tuple L) (some (a:Int)) none=some (.tuple (L.drop a)):=by
 show some (PyData.tuple (dZ _ _ _))=_
 unfold dZ
 have h1:HT.sIx L.length L.length none=L.length:=rfl
 rw [h1,BU _ _ h,List.take_of_length_le (by rw [List.length_drop]; omega)]
section
variable (S G R:D) (c y:Int) (gr:aD G (.int 1)=some R) (hy:c % 6=y)
include gr hy
theorem zW (g0:D) (Q:D) (q:Str) (n a a':Int) (A B E:D) (h4:y=4) (ne:neD R (.tuple [])=some (.bool true)) (ln:da [R]=some (.int n)) (ha:ck (.int (c / 6)) (.int n)=some (.int a)) (hQ:aD R (.int a)=some Q) (q0:aD Q (.int 0)=some (.str q)) (ql:neD (.str q) (.str "look")=some (.bool true)) (hg0:aD G (.int 0)=some g0) (a1:a+1=a') (s1:eJ R none (some a)=some A) (s2:eJ R (some a') none=some B) (d1:bd A (.tuple [.tuple [.str "flip",.int 0]])=some E) (F:D) (d2:bd E B=some F):aE [S,G,.int c]=some (.tuple [S,.tuple [g0,F]]):=by
 subst h4
 simp [-sSeq,-sIf,ah,ao,aE,runB,bo,aj,hy,gr,ne,ln,ha,hQ,q0,ql,hg0,a1,s1,s2,d1,d2]
def Jx (R:D) (c y:Int):Prop:=y≠4\/neD R (.tuple [])=some (.bool false)\/∃ (n a:Int) (Q:D) (q:Str),y=4/\neD R (.tuple [])=some (.bool true)/\da [R]=some (.int n)/\ck (.int (c / 6)) (.int n)=some (.int a)/\aD R (.int a)=some Q/\aD Q (.int 0)=some (.str q)/\neD (.str q) (.str "look")=some (.bool false)
theorem CI (no:Jx R c y) (e:aO S (.list [])=some (.bool true)):aE [S,G,.int c]=some (.tuple [S,G]):=by
 by_cases h4:y=4
 ·rcases no with no | no | ⟨n,a,Q,q,_,b1,b2,b3,b4,b5,b6⟩
  ·exact absurd h4 no
  ·subst h4; simp [-sSeq,-sIf,ah,ao,aE,runB,bo,aj,hy,gr,no,e]
  ·subst h4; simp [-sSeq,-sIf,ah,ao,aE,runB,bo,aj,hy,gr,b1,b2,b3,b4,b5,b6,e]
 ·simp [-sSeq,-sIf,ah,ao,aE,runB,bo,aj,hy,gr,h4,e]
theorem zV (no:Jx R c y) (n a:Int) (e:aO S (.list [])=some (.bool false)) (ln:da [S]=some (.int n)) (ha:ck (.int (c / 6)) (.int n)=some (.int a)) (h4:y=4):aE [S,G,.int c]=some (.tuple [S,G]):=by
 subst h4
 rcases no with no | no | ⟨m,a',Q,q,_,b1,b2,b3,b4,b5,b6⟩
 ·exact absurd rfl no
 ·simp [-sSeq,-sIf,ah,ao,aE,runB,bo,aj,hy,gr,no,e,ln,ha]
 ·simp [-sSeq,-sIf,ah,ao,aE,runB,bo,aj,hy,gr,b1,b2,b3,b4,b5,b6,e,ln,ha]
variable (n a a':Int) (A B B' X:D) (e:aO S (.list [])=some (.bool false)) (ln:da [S]=some (.int n)) (ha:ck (.int (c / 6)) (.int n)=some (.int a)) (a1:a+1=a') (s1:eJ S none (some a)=some A) (s2:eJ S (some a') none=some B) (s3:eJ S (some a) none=some B') (hX:aD S (.int a)=some X)
include e ln ha a1 s1 s2 s3 hX
theorem Ia (E:D) (h:y=0) (d1:bd A B=some E):aE [S,G,.int c]=some (.tuple [E,G]):=by
 subst h
 simp [-sSeq,-sIf,ah,ao,aE,runB,bo,aj,hy,gr,e,ln,ha,a1,s1,s2,d1]
theorem H9 (E F:D) (h:y=1) (d1:bd A (.list [X])=some E) (d2:bd E B'=some F):aE [S,G,.int c]=some (.tuple [F,G]):=by
 subst h
 simp [-sSeq,-sIf,ah,ao,aE,runB,bo,aj,hy,gr,e,ln,ha,a1,s1,s3,hX,d1,d2]
theorem H0 (E F:D) (h:y=2) (d1:bd A B=some E) (d2:bd E (.list [X])=some F):aE [S,G,.int c]=some (.tuple [F,G]):=by
 subst h
 simp [-sSeq,-sIf,ah,ao,aE,runB,bo,aj,hy,gr,e,ln,ha,a1,s1,s2,hX,d1,d2]
theorem HZ (E F T U V W:D) (m:Int) (h:y=3) (x1:eJ X none (some 2)=some T) (x2:aD X (.int 2)=some (.int m)) (x3:eJ X (some 3) none=some U) (d3:bd T (.tuple [.int (m+1)])=some V) (d4:bd V U=some W) (d1:bd A (.list [W])=some E) (d2:bd E B=some F):aE [S,G,.int c]=some (.tuple [F,G]):=by
 subst h
 simp [-sSeq,-sIf,ah,ao,aE,runB,bo,aj,hy,gr,e,ln,ha,a1,s1,s2,hX,x1,x2,x3,d3,d4,d1,d2]
theorem HY (h:y=5):aE [S,G,.int c]=some (.tuple [S,G]):=by
 subst h
 simp [-sSeq,-sIf,ah,ao,aE,runB,bo,aj,hy,gr,e,ln,ha]
end
noncomputable def GY:Zp->Zp
 | .g p q=>.g p (q+1)
 | .j p q=>.j p (q+1)
 | .s p q t=>.s p (q+1) t
theorem BJ (z:Zp):∃ (T U V:D) (m:Int),eJ (zqD z) none (some 2)=some T/\aD (zqD z) (.int 2)=some (.int m)/\eJ (zqD z) (some 3) none=some U/\bd T (.tuple [.int (m+1)])=some V/\bd V U=some (zqD (GY z)):=by
 cases z with
 | g p q=>exact ⟨_,_,_,q,rfl,rfl,rfl,rfl,rfl⟩
 | j p q=>exact ⟨_,_,_,q,rfl,rfl,rfl,rfl,rfl⟩
 | s p q t=>exact ⟨_,_,_,q,rfl,rfl,rfl,rfl,rfl⟩
theorem FK (rs:List Rw):neD (.tuple (rs.map rwD)) (.tuple [])=some (.bool (!rs.isEmpty)):=by
 have h:MA.Sh 3 (.tuple (rs.map rwD)):=MA.Sh.tuple fun x hx=>by obtain ⟨r,_,rfl⟩:=List.mem_map.mp hx; exact Fc r
 have h2:kW (.tuple ([]:List D))=true:=by rfl
 unfold neD
 rw [if_pos ⟨d8 h (by decide),h2⟩]
 cases rs with
 | nil=>rfl
 | cons r rs=>simp [PyData.eqv,PyData.eqvAll]
theorem Ef {A B:List Zp} (h:A.length+B.length<=16777216):bd (.list (A.map zqD)) (.list (B.map zqD))=some (.list ((A++B).map zqD)):=by
 rw [pd (by simpa using h),List.map_append]
theorem As (c:Int) (n:Nat) (h:0<n):∃ a:Nat,a<n/\ck (.int c) (.int (n:Int))=some (.int (a:Int)):=by
 have hk:=fK (i:=c) (show (0:Int)<(n:Int) by omega)
 have a1:=Int.emod_nonneg c (show (n:Int)≠0 by omega)
 have a2:=Int.emod_lt_of_pos c (show (0:Int)<(n:Int) by omega)
 obtain ⟨k,ek⟩:∃ k:Nat,c % (n:Int)=k:=⟨_,(Int.toNat_of_nonneg a1).symm⟩
 rw [ek] at hk a2
 exact ⟨k,by omega,hk⟩
theorem vO (zl:List Zp) (hz:zl.length<=1000) (w:Nat) (qs:List Rw) (hq:qs.length<=1000) (c:Int):∃ (zl':List Zp) (gs:List Rw),aE [.list (zl.map zqD),cirD w qs,.int c]=some (.tuple [.list (zl'.map zqD),cirD w gs]):=by
 have gr:=hV w qs
 obtain ⟨y,hy⟩:∃ y,c % 6=y:=⟨_,rfl⟩
 have y0:=Int.emod_nonneg c (show (6:Int)≠0 by decide)
 have y1:=Int.emod_lt_of_pos c (show (0:Int)<6 by decide)
 rw [hy] at y0 y1
 have four:Jx (.tuple (qs.map rwD)) c y\/∃ gs:List Rw,aE [.list (zl.map zqD),cirD w qs,.int c]=some (.tuple [.list (zl.map zqD),cirD w gs]):=by
  by_cases h4:y=4
  ·have ne:=FK qs
   cases qs with
   | nil=>exact .inl (.inr (.inl ne))
   | cons r0 qs0=>
    generalize hqs:r0::qs0=qs at *
    have hpos:0<qs.length:=by rw [<- hqs]; simp
    have hne:qs.isEmpty=false:=by rw [<- hqs]; rfl
    rw [hne] at ne
    obtain ⟨a,hal,ha⟩:=As (c / 6) qs.length hpos
    have hQ:=cS hal
    cases hl:(ro qs a).isLook with
    | true=>exact .inl (.inr (.inr ⟨qs.length,a,_,_,h4,ne,by simp,ha,hQ,cp _,by rw [lR,hl]; rfl⟩))
    | false=>
     refine .inr ⟨qs.take a++[.pl (.flip 0)]++qs.drop (a+1),?_⟩
     have s1:=GL (qs.map rwD) (a:=a) (by rw [List.length_map]; omega)
     have s2:=GM (qs.map rwD) (a:=a+1) (by rw [List.length_map]; omega)
     have d1:bd (.tuple ((qs.map rwD).take a)) (.tuple [.tuple [.str "flip",.int 0]])=some (.tuple ((qs.map rwD).take a++[.tuple [.str "flip",.int 0]])):=sY (by simp; omega)
     have d2:bd (.tuple ((qs.map rwD).take a++[.tuple [.str "flip",.int 0]])) (.tuple ((qs.map rwD).drop (a+1)))=some (.tuple ((qs.map rwD).take a++[.tuple [.str "flip",.int 0]]++(qs.map rwD).drop (a+1))):=sY (by simp; omega)
     have:=zW (.list (zl.map zqD)) (cirD w qs) _ c y gr hy (.int w) _ _ qs.length a ((a+1:Nat):Int) _ _ _ h4 ne (by simp) ha hQ (cp _) (by rw [lR,hl]; rfl) (at0 _ _) (by omega) s1 s2 d1 _ d2
     rw [this]
     simp [cirD,List.map_take,List.map_drop,rwD,rowD]
  ·exact .inl (.inl h4)
 rcases four with no | ⟨gs,e⟩
 rotate_left
 ·exact ⟨zl,gs,e⟩
 cases zl with
 | nil=>exact ⟨[],qs,CI _ _ _ c y gr hy no (Cp [])⟩
 | cons z0 zl0=>
  have en:=Cp (z0::zl0)
  generalize hzl:z0::zl0=zl at *
  have hpos:0<zl.length:=by rw [<- hzl]; simp
  have hne:zl.isEmpty=false:=by rw [<- hzl]; rfl
  rw [hne] at en
  obtain ⟨a,hal,ha⟩:=As (c / 6) zl.length hpos
  have ln:da [.list (zl.map zqD)]=some (.int (zl.length:Int)):=by simp
  have s1:=GO (zl.map zqD) (a:=a) (by rw [List.length_map]; omega)
  have s2:=Cr (zl.map zqD) (a:=a+1) (by rw [List.length_map]; omega)
  have s3:=Cr (zl.map zqD) (a:=a) (by rw [List.length_map]; omega)
  rw [<- List.map_take] at s1
  rw [<- List.map_drop] at s2 s3
  have hX:aD (.list (zl.map zqD)) (.int (a:Int))=some (zqD zl[a]):=fS (j:=a) rfl (by simp [hal])
  generalize zl[a]=z at hX
  have lt:(zl.take a).length<=1000:=by rw [List.length_take]; omega
  have ld:(zl.drop (a+1)).length<=1000:=by rw [List.length_drop]; omega
  have ld':(zl.drop a).length<=1000:=by rw [List.length_drop]; omega
  have cs:y=0\/y=1\/y=2\/y=3\/y=4\/y=5:=by omega
  rcases cs with h | h | h | h | h | h
  ·exact ⟨_,qs,Ia _ _ _ c y gr hy zl.length a ((a+1:Nat):Int) _ _ _ _ en ln ha (by omega) s1 s2 s3 hX _ h (Ef (by omega))⟩
  ·exact ⟨_,qs,H9 _ _ _ c y gr hy zl.length a ((a+1:Nat):Int) _ _ _ _ en ln ha (by omega) s1 s2 s3 hX _ _ h (Ef (B:=[z]) (by simp; omega)) (Ef (by simp; omega))⟩
  ·exact ⟨_,qs,H0 _ _ _ c y gr hy zl.length a ((a+1:Nat):Int) _ _ _ _ en ln ha (by omega) s1 s2 s3 hX _ _ h (Ef (by omega)) (Ef (B:=[z]) (by simp; omega))⟩
  ·obtain ⟨T,U,V,m,b1,b2,b3,b4,b5⟩:=BJ z
   exact ⟨_,qs,HZ _ _ _ c y gr hy zl.length a ((a+1:Nat):Int) _ _ _ _ en ln ha (by omega) s1 s2 s3 hX _ _ _ _ _ _ m h b1 b2 b3 b4 b5 (Ef (B:=[GY z]) (by simp; omega)) (Ef (by simp; omega))⟩
  ·exact ⟨_,qs,zV _ _ _ c y gr hy no zl.length a en ln ha h⟩
  ·exact ⟨_,qs,HY _ _ _ c y gr hy zl.length a ((a+1:Nat):Int) _ _ _ _ en ln ha (by omega) s1 s2 s3 hX h⟩
theorem r8 (ns:List Int) (k:Int) (hk:0<=k):∃ c,bW [.list (ns.map .int),.int k]=some (.int c):=by
 by_cases h:k<ns.length
 ·have hk':k.toNat<ns.length:=by omega
  refine ⟨ns[k.toNat],?_⟩
  have e:lj (ns.map PyData.int) k=some (.int ns[k.toNat]):=fS (j:=k.toNat) (by omega) (by simp [hk'])
  simp [bW,runB,gx,aj,h,e]
 ·exact ⟨0,by simp [bW,runB,gx,aj,h]⟩
theorem Bz (ns:List Int) (lo hi:Option Int):∃ cs:List Int,cs.length<=ns.length/\eJ (.list (ns.map .int)) lo hi=some (.list (cs.map .int)):=by
 refine ⟨(ns.drop (HT.sIx ns.length 0 lo)).take (HT.sIx ns.length ns.length hi-HT.sIx ns.length 0 lo),?_,?_⟩
 ·rw [List.length_take,List.length_drop]; omega
 ·show some (PyData.list (dZ _ _ _))=_
  unfold dZ
  rw [List.length_map,<- List.map_drop,<- List.map_take]
theorem DF (b:Bool):jX "bool" (.bool b)=some (.bool true):=rfl
theorem FL (b:Bool):neD (.bool b) (.bool b)=some (.bool false):=by cases b <;> rfl
theorem u8 (zl:List Zp):neD (.list (zl.map zqD)) (.list (zl.map zqD))=some (.bool false):=by
 have h:MA.Sh 2 (.list (zl.map zqD)):=MA.Sh.list fun x hx=>by
  obtain ⟨r,_,rfl⟩:=List.mem_map.mp hx
  exact qW _
 have s:=d8 h (by decide)
 unfold neD
 rw [if_pos ⟨s,s⟩,MA.nh _ h.1]
 rfl
theorem yt (z0 z2 z3 z6 z7:Sl) (C G:D) (ds:List D) (b:Bool) (h1:bg [C,.list ds,G]=some (.bool b)) (h2:bJ [C,.list ds,G]=some (.bool b)) (h3:neD (.list ds) (.list ds)=some (.bool false)):∃ y6 y7,mY [z0,.fz C,z2,z3,.fz (.list ds),.fz G,z6,z7]=some (.nx,[z0,.fz C,z2,z3,.fz (.list ds),.fz G,y6,y7]):=by
 have e:=FL b
 have i:=DF b
 refine ⟨.fz (.list ds),.fz (.bool b),?_⟩
 simp [-sSeq,-sIf,ah,ao,mY,h1,h2,i,e,h3]
theorem FX (S B C Rs T T0 T1 K K0 K1 P:D) (c c1 w d:Int) (δ:Dv) (h0:bW [S,.int 0]=some (.int c)) (hw:1+c % 4=w) (sl:eJ S (some 2) (some 16)=some B) (k1:cJ [B,.int w]=some C) (hs:cD [C]=some T) (t0:aD T (.int 0)=some T0) (t1:aD T (.int 1)=some T1) (hst:bg [C,T0,T1]=some (.bool true)) (h1:bW [S,.int 1]=some (.int c1)) (hk:cw [C,.int c1]=some K) (k0':aD K (.int 0)=some K0) (k1':aD K (.int 1)=some K1) (hd:c1 / 42=d) (hp:aE [K0,K1,.int d]=some P) (lp:loop (vi [gN 4,gN 5]) mY [K,P] [.fz S,.fz C,.fz T,.fz K,.un,.un,.un,.un]=some (.nx,δ)):sC [S]=some (.bool true):=by
 have ib:F8 true (.bool true) (.bool true)=some (.bool false):=rfl
 simp [-sSeq,-sIf,ah,ao,sC,runB,yX,aj,h0,hw,sl,k1,hs,t0,t1,hst,ib,h1,hk,k0',k1',hd,hp,lp]
theorem law_true (ns:List Int) (hl:ns.length<=63):sC [.list (ns.map .int)]=some (.bool true):=by
 obtain ⟨c,hc⟩:=r8 ns 0 (by decide)
 obtain ⟨c1,hc1⟩:=r8 ns 1 (by decide)
 obtain ⟨w,hw⟩:∃ w:Nat,1+c % 4=(w:Int):=⟨(1+c % 4).toNat,by omega⟩
 obtain ⟨cs,hcl,hsl⟩:=Bz ns (some 2) (some 16)
 obtain ⟨rs,ho,hlen,he⟩:=xO w (by omega) cs (by omega)
 have hn:rs.length<=100:=by omega
 obtain ⟨xs,qs,hr,hsh⟩:=xm ho hn w
 obtain ⟨ys,gs,⟨b1,b2⟩,hch⟩:=yR ho hn w c1
 have mu:ys.map zpD=(ys.map up).map zqD:=by rw [List.map_map]; exact List.map_congr_left fun x _=>(jv x).symm
 rw [mu] at hch
 obtain ⟨zl,gs',hsp⟩:=vO (ys.map up) (by rw [List.length_map]; omega) w gs (by omega) (c1 / 42)
 obtain ⟨b,p1,p2⟩:=nr ho hn w (ys.map up) w gs
 obtain ⟨b',q1,q2⟩:=nr ho hn w zl w gs'
 obtain ⟨y6,y7,e1⟩:=yt (.fz (.list (ns.map .int))) (.fz (.tuple [.list (xs.map zpD),cirD w qs])) (.fz (.tuple [.list ((ys.map up).map zqD),cirD w gs])) .un .un _ _ _ b p1 p2 (u8 _)
 obtain ⟨y6',y7',e2⟩:=yt (.fz (.list (ns.map .int))) (.fz (.tuple [.list (xs.map zpD),cirD w qs])) (.fz (.tuple [.list ((ys.map up).map zqD),cirD w gs])) y6 y7 _ _ _ b' q1 q2 (u8 _)
 have lp:loop (vi [gN 4,gN 5]) mY [.tuple [.list ((ys.map up).map zqD),cirD w gs],.tuple [.list (zl.map zqD),cirD w gs']] [.fz (.list (ns.map .int)),.fz (cirD w rs),.fz (.tuple [.list (xs.map zpD),cirD w qs]),.fz (.tuple [.list ((ys.map up).map zqD),cirD w gs]),.un,.un,.un,.un]=some (.nx,[.fz (.list (ns.map .int)),.fz (cirD w rs),.fz (.tuple [.list (xs.map zpD),cirD w qs]),.fz (.tuple [.list ((ys.map up).map zqD),cirD w gs]),.fz (.list (zl.map zqD)),.fz (cirD w gs'),y6',y7']):=by
  rw [bZ (δ1:=[.fz (.list (ns.map .int)),.fz (cirD w rs),.fz (.tuple [.list (xs.map zpD),cirD w qs]),.fz (.tuple [.list ((ys.map up).map zqD),cirD w gs]),.fz (.list ((ys.map up).map zqD)),.fz (cirD w gs),.un,.un]) (by simp) e1,bZ (δ1:=[.fz (.list (ns.map .int)),.fz (cirD w rs),.fz (.tuple [.list (xs.map zpD),cirD w qs]),.fz (.tuple [.list ((ys.map up).map zqD),cirD w gs]),.fz (.list (zl.map zqD)),.fz (cirD w gs'),y6,y7]) (by simp) e2]
  rfl
 exact FX _ _ _ .none _ _ _ _ _ _ _ c c1 w _ _ hc hw hsl he hsh (at0 _ _) (at1 _ _ _) (xp w hr ho hn) hc1 hch (at0 _ _) (at1 _ _ _) rfl hsp lp
end GN
namespace GN
open PySem PySem.Spec PyProof.Rows L2 VL
structure Txt (mg:Str->Option Value):Prop where
 min:mg "min" = none
 max:mg "max" = none
 all:mg "all" = none
 range:mg "range" = none
 len:mg "len" = none
 sorted:mg "sorted" = none
 tuple:mg "tuple" = none
 int:mg "int" = none
 list:mg "list" = none
 isinstance:mg "isinstance" = none
 bool:mg "bool" = none
section
variable {P:Program} {w:World} {K:PySem.W.Frag} {mg:Str->Option Value} {base:Heap}
theorem kY:FnScope eh ["row"] (aw gW):=⟨rfl,rfl,rfl,by decide +kernel,rfl,by decide +kernel,by decide +kernel⟩
theorem jN {f:Addr} {fd:FuncData} {dV:Value} (F:FunV K "wires_of" "wires_of" gW f fd dV) (T:Txt mg) (hm:mg "wires_of" = some (.ref f)) (hk:PySem.W.keepIn K (.ref f)=true) (hb:Binds K fd ["row"] []):∀ m,FnOk P w K mg base ez (1+m) f fd ["row"] (eX K (ci m))
 | 0=>cK (k:=0) (b:=fun _=>none) F kY fun cdv A outer s H E hr=>vx
 | m+1=>by
  have C_wires_of:Cal P w K mg base "wires_of" (1+m) (ci m) []:=Cal.mk0 (jN F T hm hk hb m) hm hk hb
  exact cK (k:=1+m) (b:=bS (ci m)) F kY fun cdv A outer s H E hr=>(ai (aU (aA (bq hr.units) (ak aB (aa 0) af (fun _ _=>rfl)) ar (az _)) (ap (aC (aF C_wires_of (hr.mono (by omega)) rfl (ac (ak aB (aa 0) af (fun _ _=>rfl)) ag)))) aJ) (ai (aU (aA lH (ak aB (aa 0) af (fun _ _=>rfl)) (aH (ac ar (ac ar (ac ar ag)))) (by with_unfolding_all rfl)) (ap (aC (aH (ac (bX (GS rfl) rfl T.min (by decide +kernel) (ac (ak aB (aa 0) af (fun _ _=>rfl)) (ac (ak aB (aa 0) af (fun _ _=>rfl)) ag))) (ac (bX (Cs rfl) rfl T.max (by decide +kernel) (ac (ak aB (aa 0) af (fun _ _=>rfl)) (ac (ak aB (aa 0) af (fun _ _=>rfl)) ag))) ag))))) aJ) (ap (aC (aH (ac (ak aB (aa 0) af (fun _ _=>rfl)) ag))))))
theorem pz:FnScope lq ["one","other"] (aw fW):=⟨rfl,rfl,rfl,by decide +kernel,rfl,by decide +kernel,by decide +kernel⟩
theorem pL {f:Addr} {fd:FuncData} {dV:Value} (F:FunV K "undone_by" "undone_by" fW f fd dV) (T:Txt mg) (C_wires_of:Cal P w K mg base "wires_of" 9 bt []):FnOk P w K mg base ez 10 f fd ["one","other"] (eX K bU):=
 cK (k:=9) (b:=dG) F pz fun cdv A outer s H E hr=>(ai (aU (aA lH (ak aB (aa 0) af (fun _ _=>rfl)) (aH (ac ar (ac ar ag))) (by with_unfolding_all rfl)) (ap (aC dq)) aJ) (ai (aU (aA lH (ak aB (aa 0) af (fun _ _=>rfl)) (aH (ac ar (ac ar ag))) (by with_unfolding_all rfl)) (ap (aC (iN (cR (bq hr.units) (ak aB (aa 0) af (fun _ _=>rfl)) (ak aB (aa 1) af (fun _ _=>rfl)) (az _)) (jo (cR (bq hr.units) (aF C_wires_of (hr.mono (by decide)) rfl (ac (aa 0) ag)) (aF C_wires_of (hr.mono (by decide)) rfl (ac (aa 1) ag)) (az _)))))) aJ) (ap (aC (cR (bq hr.units) (aa 0) (aa 1) (az _))))))
theorem qY:FnScope nG ["row","look","mark"] (aw gY):=⟨rfl,rfl,rfl,by decide +kernel,rfl,by decide +kernel,by decide +kernel⟩
theorem rB {f:Addr} {fd:FuncData} {dV:Value} (F:FunV K "asks_for" "asks_for" gY f fd dV) (T:Txt mg):FnOk P w K mg base ez 1 f fd ["row","look","mark"] (eX K b9):=
 cK (k:=0) (b:=fQ) F qY fun cdv A outer s H E hr=>(ap (aC (iN (cR (bq hr.units) (ak aB (aa 0) af (fun _ _=>rfl)) ar (az _)) (iN (cR (bq hr.units) (ak aB (aa 1) af (fun _ _=>rfl)) ar (az _)) (jo (cR (bq hr.units) (ak aB (aa 0) af (fun _ _=>rfl)) (aa 2) (az _)))))))
theorem xn:FnScope vG ["row","wire"] (aw lN):=⟨rfl,rfl,rfl,by decide +kernel,rfl,by decide +kernel,by decide +kernel⟩
theorem xM {f:Addr} {fd:FuncData} {dV:Value} (F:FunV K "flips" "flips" lN f fd dV) (T:Txt mg):FnOk P w K mg base ez 1 f fd ["row","wire"] (eX K cv):=
 cK (k:=0) (b:=dW) F xn fun cdv A outer s H E hr=>(ai (aU (aA lH (ak aB (aa 0) af (fun _ _=>rfl)) (aH (ac ar (ac ar ag))) (by with_unfolding_all rfl)) (ap (aC fN)) aJ) (ap (aC (GE (cR (bq hr.units) (ak aB (aa 0) af (fun _ _=>rfl)) ar (az _)) (jo (iN (cR (bq hr.units) (ak aB (aa 0) af (fun _ _=>rfl)) ar (az _)) (jo (cR (bq hr.units) (ak aB (aa 0) af (fun _ _=>rfl)) (aa 1) (az _)))))))))
theorem sc_both_alike:FnScope kn ["one","other","wire"] (aw eZ):=⟨rfl,rfl,rfl,by decide +kernel,rfl,by decide +kernel,by decide +kernel⟩
theorem nO {f:Addr} {fd:FuncData} {dV:Value} (F:FunV K "both_alike" "both_alike" eZ f fd dV) (T:Txt mg) (C_flips:Cal P w K mg base "flips" 1 cv []):FnOk P w K mg base ez 2 f fd ["one","other","wire"] (eX K ca):=
 cK (k:=1) (b:=fA) F sc_both_alike fun cdv A outer s H E hr=>(ai (aX 3 sc_both_alike.nd (aF C_flips (hr.mono (by decide)) rfl (ac (aa 0) (ac (aa 2) ag)))) (ap (aC (iN (cR uA (aa 3) fN (az _)) (jo (cR (bq hr.units) (aa 3) (aF C_flips (hr.mono (by decide)) rfl (ac (aa 1) (ac (aa 2) ag))) (az _)))))))
theorem pB:FnScope ls ["row"] (aw f7):=⟨rfl,rfl,rfl,by decide +kernel,rfl,by decide +kernel,by decide +kernel⟩
theorem pN {f:Addr} {fd:FuncData} {dV:Value} (F:FunV K "inner_row" "inner_row" f7 f fd dV) (T:Txt mg):FnOk P w K mg base ez 1 f fd ["row"] (eX K bO):=
 cK (k:=0) (b:=dH) F pB fun cdv A outer s H E hr=>(ap (aC (ur (aA (bq hr.units) (ak aB (aa 0) af (fun _ _=>rfl)) ar (az _)) (ak aB (aa 0) af (fun _ _=>rfl)) (aa 0))))
theorem sc_lets_by:FnScope iW ["one","other","mark"] (aw dF):=⟨rfl,rfl,rfl,by decide +kernel,rfl,by decide +kernel,by decide +kernel⟩
theorem tU {f:Addr} {fd:FuncData} {dV:Value} (F:FunV K "lets_by" "lets_by" dF f fd dV) (T:Txt mg) (C_asks_for:Cal P w K mg base "asks_for" 1 b9 []) (C_wires_of:Cal P w K mg base "wires_of" 9 bt []) (C_both_alike:Cal P w K mg base "both_alike" 2 ca []) (C_inner_row:Cal P w K mg base "inner_row" 1 bO []):FnOk P w K mg base ez 10 f fd ["one","other","mark"] (eX K cO):=
 cK (k:=9) (b:=kQ) F sc_lets_by fun cdv A outer s H E hr=>(ai (aU (WV.tv (cA (aA (bq hr.units) (ak aB (aa 0) af (fun _ _=>rfl)) ar (az _)) (cn (aA (bq hr.units) (ak aB (aa 1) af (fun _ _=>rfl)) ar (az _))))) (ap (aC dq)) aJ) (ai (aU (WV.tv (io (gU (aF C_asks_for (hr.mono (by decide)) rfl (ac (aa 0) (ac (aa 1) (ac (aa 2) ag))))) (gR (gU (aF C_asks_for (hr.mono (by decide)) rfl (ac (aa 1) (ac (aa 0) (ac (aa 2) ag)))))))) (ap (aC dq)) aJ) (ai (xg 3 sc_lets_by.nd (vars:=["wire"]) (caps:=[(1,"other")]) (by change BlkOk (aw dF).names iW _ _ _; exact ⟨rfl,by decide +kernel,by decide +kernel,by decide +kernel,by decide +kernel⟩) rfl (db (aF C_wires_of (hr.mono (by decide)) rfl (ac (aa 0) ag))) eQ (fun _ _ _ _=>cG (i:=0) (show (["wire","other"]:List Str).Nodup by decide +kernel) rfl (Or.inl rfl) (.inr rfl)) (fun _ _ _ _=>(aA lH (aa 0) (aF C_wires_of (hr.mono (by decide)) rfl (ac (aa 1) ag)) (by with_unfolding_all rfl))) (fun _ _ _ _=>(aa 0))) (ap (aC (bX (GW rfl) rfl T.all (by decide +kernel) (ac (j4 (vars:=["wire"]) (caps:=[(0,"one"),(1,"other")]) (by change BlkOk (aw dF).names iW _ _ _; exact ⟨rfl,by decide +kernel,by decide +kernel,by decide +kernel,by decide +kernel⟩) rfl (db (aa 3)) eQ (fun _ _ _ _=>cG (i:=0) (show (["wire","one","other"]:List Str).Nodup by decide +kernel) rfl (Or.inl rfl) (.inr rfl)) (fun _ _ _ _=>(aF C_both_alike (hr.mono (by decide)) rfl (ac (aF C_inner_row (hr.mono (by decide)) rfl (ac (aa 1) ag)) (ac (aF C_inner_row (hr.mono (by decide)) rfl (ac (aa 2) ag)) (ac (aa 0) ag)))))) ag)))))))
theorem sc_steps_for_two:FnScope ik ["rows","p"] (aw dt):=⟨rfl,rfl,rfl,by decide +kernel,rfl,by decide +kernel,by decide +kernel⟩
theorem kE {f:Addr} {fd:FuncData} {dV:Value} (F:FunV K "steps_for_two" "steps_for_two" dt f fd dV) (T:Txt mg) (C_undone_by:Cal P w K mg base "undone_by" 10 bU []) (C_lets_by1:Cal P w K mg base "lets_by" 10 cO [.none]):FnOk P w K mg base ez 11 f fd ["rows","p"] (eX K bG):=
 cK (k:=10) (b:=dz) F sc_steps_for_two fun cdv A outer s H E hr=>(ai (kz 2 sc_steps_for_two.nd ag) (ai (d7 PassesOwn.never rfl (fD rfl T.range (ac (aG bA (aa 1) af) (ac (bX gP rfl T.len (by decide +kernel) (ac (aa 0) ag)) ag))) (b7 3 sc_steps_for_two.nd) (ai (aU (gU (aF C_undone_by (hr.mono (by decide)) rfl (ac (ak aB (aa 0) (aa 1) (fun _ _=>rfl)) (ac (ak aB (aa 0) (aa 3) (fun _ _=>rfl)) ag)))) (ap (jg 2 (aH (ac ar (ac (aa 1) (ac (aa 3) ag)))))) aJ) (ai (aU (WV.tv (cA (aA (bq hr.units) (ak aB (ak aB (aa 0) (aa 1) (fun _ _=>rfl)) af (fun _ _=>rfl)) ar (az _)) (cn (aA (bq hr.units) (aL (ak aB (aa 0) (aa 1) (fun _ _=>rfl)) bj (aM af)) (aL (ak aB (aa 0) (aa 3) (fun _ _=>rfl)) bj (aM af)) (az _))))) (ap (jg 2 (aH (ac ar (ac (aa 1) (ac (aa 3) ag)))))) aJ) (ap (aU (pf (gU (yG C_lets_by1 (hr.mono (by decide)) rfl (ac (ak aB (aa 0) (aa 1) (fun _ _=>rfl)) (ac (ak aB (aa 0) (aa 3) (fun _ _=>rfl)) ag))))) (ap (mD 2 (aC (aa 2)))) aJ))))) (ap (mD 2 (aC (aa 2))))))
theorem jG:FnScope bY ["row","wire"] (aw fX):=⟨rfl,rfl,rfl,by decide +kernel,rfl,by decide +kernel,by decide +kernel⟩
theorem i7 {f:Addr} {fd:FuncData} {dV:Value} (F:FunV K "swung_row" "swung_row" fX f fd dV) (T:Txt mg) (hm:mg "swung_row" = some (.ref f)) (hk:PySem.W.keepIn K (.ref f)=true) (hb:Binds K fd ["row","wire"] []):∀ m,FnOk P w K mg base ez (1+m) f fd ["row","wire"] (eX K (bp m))
 | 0=>cK (k:=0) (b:=fun _=>none) F jG fun cdv A outer s H E hr=>vx
 | m+1=>by
  have C_swung_row:Cal P w K mg base "swung_row" (1+m) (bp m) []:=Cal.mk0 (i7 F T hm hk hb m) hm hk hb
  exact cK (k:=1+m) (b:=aR (bp m)) F jG fun cdv A outer s H E hr=>(ai (aU (aA (bq hr.units) (ak aB (aa 0) af (fun _ _=>rfl)) ar (az _)) (ap (aC (aH (ac ar (ac (ak aB (aa 0) af (fun _ _=>rfl)) (ac (aF C_swung_row (hr.mono (by omega)) rfl (ac (ak aB (aa 0) af (fun _ _=>rfl)) (ac (aa 1) ag))) ag)))))) aJ) (ai (aU (aA (bq hr.units) (aa 0) (aH (ac ar (ac (aa 1) ag))) (az _)) (ap (aC (aH (ac ar (ac (aa 1) (ac af ag)))))) aJ) (ai (aU (aA (bq hr.units) (aa 0) (aH (ac ar (ac (aa 1) (ac af ag)))) (az _)) (ap (aC (aH (ac ar (ac (aa 1) ag))))) aJ) (ai (aU (WV.tv (cA (aA (bq hr.units) (ak aB (aa 0) af (fun _ _=>rfl)) ar (az _)) (cn (aA (bq hr.units) (ak aB (aa 0) af (fun _ _=>rfl)) (aa 1) (az _))))) (ap (aC (aH (ac ar (ac (ak aB (aa 0) af (fun _ _=>rfl)) (ac (aa 1) ag)))))) aJ) (ai (aU (aA (bq hr.units) (ak aB (aa 0) af (fun _ _=>rfl)) ar (az _)) (ap (aC (aH (ac ar (ac (ur (aA (bq hr.units) (ak aB (aa 0) af (fun _ _=>rfl)) (aa 1) (az _)) (ak aB (aa 0) af (fun _ _=>rfl)) (ak aB (aa 0) af (fun _ _=>rfl))) (ac (aa 1) ag)))))) aJ) (ap (aC fN)))))))
theorem sc_steps_for_three:FnScope dY ["rows","p"] (aw cq):=⟨rfl,rfl,rfl,by decide +kernel,rfl,by decide +kernel,by decide +kernel⟩
theorem jn {f:Addr} {fd:FuncData} {dV:Value} (F:FunV K "steps_for_three" "steps_for_three" cq f fd dV) (T:Txt mg) (C_swung_row:Cal P w K mg base "swung_row" 9 cC []) (C_wires_of:Cal P w K mg base "wires_of" 9 bt []):FnOk P w K mg base ez 10 f fd ["rows","p"] (eX K aQ):=
 cK (k:=9) (b:=b8) F sc_steps_for_three fun cdv A outer s H E hr=>(ai (aU (aA (j8 hr.units) (ak aB (ak aB (aa 0) (aa 1) (fun _ _=>rfl)) af (fun _ _=>rfl)) ar (az _)) (ap (aC (bQ ag))) aJ) (ai (aX 2 sc_steps_for_three.nd (ak aB (ak aB (aa 0) (aa 1) (fun _ _=>rfl)) af (fun _ _=>rfl))) (ai (aX 3 sc_steps_for_three.nd (aL (iM (vars:=["q"]) (caps:=[(0,"rows"),(2,"wire")]) (by change BlkOk (aw cq).names dY _ _ _; exact ⟨rfl,by decide +kernel,by decide +kernel,by decide +kernel,by decide +kernel⟩) rfl (fD rfl T.range (ac (aG bA (aa 1) af) (ac (bX gP rfl T.len (by decide +kernel) (ac (aa 0) ag)) ag))) eQ (fun _ _ _ _=>cG (i:=0) (show (["q","rows","wire"]:List Str).Nodup by decide +kernel) rfl (Or.inl rfl) (.inr rfl)) (fun _ _ _ _=>(aA lH (aa 2) (aF C_wires_of (hr.mono (by decide)) rfl (ac (ak aB (aa 1) (aa 0) (fun _ _=>rfl)) ag)) (by with_unfolding_all rfl))) (fun _ _ _ _=>(aa 0))) bj (aM af))) (ai (aU (WV.tv (cA (aA (bq hr.units) (bX gP rfl T.len (by decide +kernel) (ac (aa 3) ag)) af (az _)) (cA (aA (bq hr.units) (ak aB (aa 0) (ak aB (aa 3) af (fun _ _=>rfl)) (fun _ _=>rfl)) (ak aB (aa 0) (aa 1) (fun _ _=>rfl)) (az _)) (cn (aA uA (aF C_swung_row (hr.mono (by decide)) rfl (ac (ak aB (aa 0) (ak aB (aa 3) af (fun _ _=>rfl)) (fun _ _=>rfl)) (ac (aa 2) ag))) fN (az _)))))) (ap (aC (bQ (ac (aH (ac ar (ac (aa 1) (ac (ak aB (aa 3) af (fun _ _=>rfl)) (ac (ak aB (aa 3) af (fun _ _=>rfl)) ag))))) ag)))) aJ) (ap (aC (bQ ag)))))))
theorem sc_slides_of:FnScope N_slides_of ["circuit"] (aw fY):=⟨rfl,rfl,rfl,by decide +kernel,rfl,by decide +kernel,by decide +kernel⟩
theorem jO {f:Addr} {fd:FuncData} {dV:Value} (F:FunV K "slides_of" "slides_of" fY f fd dV) (T:Txt mg) (C_steps_for_two:Cal P w K mg base "steps_for_two" 11 bG []) (C_steps_for_three:Cal P w K mg base "steps_for_three" 10 aQ []):FnOk P w K mg base ez 12 f fd ["circuit"] (eX K aW):=
 cK (k:=11) (b:=iP) F sc_slides_of fun cdv A outer s H E hr=>(ai (aX 1 sc_slides_of.nd (ak aB (aa 0) af (fun _ _=>rfl))) (ai (kz 2 sc_slides_of.nd ag) (ai (d7 PassesOwn.never rfl (kH rfl T.range (ac (bX gP rfl T.len (by decide +kernel) (ac (aa 1) ag)) ag)) (b7 3 sc_slides_of.nd) (ai (pj 2 (aF C_steps_for_two (hr.mono (by decide)) rfl (ac (aa 1) (ac (aa 3) ag)))) (ap (pj 2 (aF C_steps_for_three (hr.mono (by decide)) rfl (ac (aa 1) (ac (aa 3) ag))))))) (ap (mD 2 (aC (lW rfl T.sorted (aa 2))))))))
theorem sc_joined:FnScope tf ["one","other"] (aw jJ):=⟨rfl,rfl,rfl,by decide +kernel,rfl,by decide +kernel,by decide +kernel⟩
theorem wb {f:Addr} {fd:FuncData} {dV:Value} (F:FunV K "joined" "joined" jJ f fd dV) (T:Txt mg):FnOk P w K mg base ez 1 f fd ["one","other"] (eX K dR):=
 cK (k:=0) (b:=kg) F sc_joined fun cdv A outer s H E hr=>(ai (aX 2 sc_joined.nd (aG cE (aG bA (ak aB (aa 0) af (fun _ _=>rfl)) (ak aB (aa 1) af (fun _ _=>rfl))) af)) (ap (aC (ur (aA (bq hr.units) (aa 2) af (az _)) fN (aH (ac ar (ac (ak aB (aa 0) af (fun _ _=>rfl)) (ac (aa 2) ag))))))))
theorem nK:FnScope km ["rows","step"] (aw eY):=⟨rfl,rfl,rfl,by decide +kernel,rfl,by decide +kernel,by decide +kernel⟩
theorem nN {f:Addr} {fd:FuncData} {dV:Value} (F:FunV K "changed_by" "changed_by" eY f fd dV) (T:Txt mg) (C_swung_row:Cal P w K mg base "swung_row" 9 cC []) (C_joined:Cal P w K mg base "joined" 1 dR []):FnOk P w K mg base ez 10 f fd ["rows","step"] (eX K bB):=
 cK (k:=9) (b:=dX) F nK fun cdv A outer s H E hr=>(ai (aU (aA (bq hr.units) (ak aB (aa 1) af (fun _ _=>rfl)) ar (az _)) (ap (aC (ut (hU (ak aB (aa 1) af (fun _ _=>rfl)) fN (hU (ak aB (aa 1) af (fun _ _=>rfl)) fN uz))))) aJ) (ai (aU (aA (bq hr.units) (ak aB (aa 1) af (fun _ _=>rfl)) ar (az _)) (ap (aC (ut (hU (ak aB (aa 1) af (fun _ _=>rfl)) fN (hU (ak aB (aa 1) af (fun _ _=>rfl)) (aF C_joined (hr.mono (by decide)) rfl (ac (ak aB (aa 0) (ak aB (aa 1) af (fun _ _=>rfl)) (fun _ _=>rfl)) (ac (ak aB (aa 0) (ak aB (aa 1) af (fun _ _=>rfl)) (fun _ _=>rfl)) ag))) uz))))) aJ) (ap (aC (ut (hU (ak aB (aa 1) af (fun _ _=>rfl)) fN (hU (ak aB (aa 1) af (fun _ _=>rfl)) (aF C_swung_row (hr.mono (by decide)) rfl (ac (ak aB (aa 0) (ak aB (aa 1) af (fun _ _=>rfl)) (fun _ _=>rfl)) (ac (ak aB (ak aB (aa 0) (ak aB (aa 1) af (fun _ _=>rfl)) (fun _ _=>rfl)) af (fun _ _=>rfl)) ag))) (hU (ak aB (aa 1) af (fun _ _=>rfl)) fN uz))))))))
theorem sc_slid:FnScope N_slid ["circuit","step"] (aw ji):=⟨rfl,rfl,rfl,by decide +kernel,rfl,by decide +kernel,by decide +kernel⟩
theorem xL {f:Addr} {fd:FuncData} {dV:Value} (F:FunV K "slid" "slid" ji f fd dV) (T:Txt mg) (C_changed_by:Cal P w K mg base "changed_by" 10 bB []) (C_slides_of:Cal P w K mg base "slides_of" 12 aW []) (E_NoStep:ExcX K "NoStep"):FnOk P w K mg base (ti P w) 13 f fd ["circuit","step"] (E8 K gy):=
 Je (k:=12) (fx:=lZ) F sc_slid fun cdv A outer s H E hr=>(qm (E6 (TV.lift (aA (sI (EN hr)) (aa 1) (aF C_slides_of (hr.mono (by decide)) rfl (ac (aa 0) ag)) (by with_unfolding_all rfl))) (qm (xc E_NoStep rfl rfl (EV.lift ar))) GX))
theorem AG {f:Addr} {fd:FuncData} {dV:Value} (F:FunV K "slid" "slid" ji f fd dV) (T:Txt mg) (C_changed_by:Cal P w K mg base "changed_by" 10 bB []) (C_slides_of:Cal P w K mg base "slides_of" 12 aW []):FnOk P w K mg base ez 13 f fd ["circuit","step"] (eX K eU):=
 cK (k:=12) (b:=uG) F sc_slid fun cdv A outer s H E hr=>(ai (aU (aA (sI (EN hr)) (aa 1) (aF C_slides_of (hr.mono (by decide)) rfl (ac (aa 0) ag)) (by with_unfolding_all rfl)) (ap E7) aJ) (ai (aX 2 sc_slid.nd (aF C_changed_by (hr.mono (by decide)) rfl (ac (ak aB (aa 0) af (fun _ _=>rfl)) (ac (aa 1) ag)))) (ai (zU 3 sc_slid.nd (vars:=["k"]) (caps:=[(0,"circuit"),(2,"changes")]) (by change BlkOk (aw ji).names N_slid _ _ _; exact ⟨rfl,by decide +kernel,by decide +kernel,by decide +kernel,by decide +kernel⟩) rfl (kH rfl T.range (ac (bX gP rfl T.len (by decide +kernel) (ac (ak aB (aa 0) af (fun _ _=>rfl)) ag)) ag)) eQ (fun _ _ _ _=>cG (i:=0) (show (["k","circuit","changes"]:List Str).Nodup by decide +kernel) rfl (Or.inl rfl) (.inr rfl)) (fun _ _ _ _=>(Br (Km hr.units) (aa 2) (aa 0) (ak aB (ak aB (aa 1) af (fun _ _=>rfl)) (aa 0) (fun _ _=>rfl)) ⟨rfl,rfl,rfl,rfl⟩))) (ap (aC (aH (ac (ak aB (aa 0) af (fun _ _=>rfl)) (ac (fE qk rfl T.tuple (by decide +kernel) (ac (iM (vars:=["row"]) (caps:=[]) (by change BlkOk (aw ji).names N_slid _ _ _; exact ⟨rfl,by decide +kernel,by decide +kernel,by decide +kernel,by decide +kernel⟩) rfl (db (aa 3)) eQ (fun _ _ _ _=>cG (i:=0) (show (["row"]:List Str).Nodup by decide +kernel) rfl (Or.inl rfl) (.inr rfl)) (fun _ _ _ _=>(aA uA (aa 0) fN (az _))) (fun _ _ _ _=>(aa 0))) ag)) ag))))))))
theorem sc_led_on:FnScope s9 ["thing","steps_for","behind_step"] (aw jH):=⟨rfl,rfl,rfl,by decide +kernel,rfl,by decide +kernel,by decide +kernel⟩
theorem wa {f:Addr} {fd:FuncData} {dV:Value} (F:FunV K "led_on" "led_on" jH f fd dV) (T:Txt mg) (V_slides_of:CalF P w K mg base "slides_of" 12 aW) (V_slid:CalF P w K mg base "slid" 13 eU):FnOk P w K mg base ez 14 f fd ["thing","steps_for","behind_step"] (eX K gK):=
 cK (k:=13) (b:=nA) F sc_led_on fun cdv A outer s H E hr=>(ai (kz 3 sc_led_on.nd ag) (ai (aX 4 sc_led_on.nd (j5 1 (k:=12) (lU (by decide) V_slides_of qa) (hr.mono (by decide)) (ac (aa 0) ag))) (ai (qR (fun _=>wN) PassesOwn.never (aA (j8 hr.units) (aa 4) (bQ ag) (az _)) (ai (jg 3 (ak aB (aa 4) af (fun _ _=>rfl))) (ai (aX 0 sc_led_on.nd (j5 2 (k:=13) (lU (by decide) V_slid qa) (hr.mono (by decide)) (ac (aa 0) (ac (ak aB (aa 4) af (fun _ _=>rfl)) ag)))) (ap (aX 4 sc_led_on.nd (j5 1 (k:=12) (lU (by decide) V_slides_of qa) (hr.mono (by decide)) (ac (aa 0) ag))))))) (ap (mD 3 (aC (aH (ac (aa 3) (ac (aa 0) ag)))))))))
theorem sc_leads_to:FnScope nE ["thing","steps","last","behind_step"] (aw gX):=⟨rfl,rfl,rfl,by decide +kernel,rfl,by decide +kernel,by decide +kernel⟩
theorem rA {f:Addr} {fd:FuncData} {dV:Value} (F:FunV K "leads_to" "leads_to" gX f fd dV) (T:Txt mg) (V_slid:CalF P w K mg base "slid" 13 eU) (Y_slid:CalX P w K mg base "slid" 13 gy []) (H_NoStep:Hnd K "NoStep" iV):FnOk P w K mg base ez 14 f fd ["thing","steps","last","behind_step"] (eX K cV):=
 cK (k:=13) (b:=h7) F sc_leads_to fun cdv A outer s H E hr=>(ai (d7 PassesOwn.never rfl (db (aa 1)) (b7 4 sc_leads_to.nd) (ap (zT H_NoStep rfl rfl rfl (ap (aX 0 sc_leads_to.nd (j5 3 (k:=13) (lU (by decide) V_slid qa) (hr.mono (by decide)) (ac (aa 0) (ac (aa 4) ag))))) (fun _ _=>(qm (CD 0 sc_leads_to.nd (yE 3 (k:=13) (Bo (by decide) Y_slid V_slid DM) (hr.mono (by decide)) (AV.lift (ac (aa 0) (ac (aa 4) ag))))))) (fun _=>(ap (aC dq)))))) (ap (aC (cR (bq hr.units) (aa 0) (aa 2) (az _)))))
theorem pA:FnScope lr ["circuit"] (aw fZ):=⟨rfl,rfl,rfl,by decide +kernel,rfl,by decide +kernel,by decide +kernel⟩
theorem pM {f:Addr} {fd:FuncData} {dV:Value} (F:FunV K "shortened" "shortened" fZ f fd dV) (T:Txt mg) (C_led_on:Cal P w K mg base "led_on" 14 gK []) (N_slid:Fnm K mg "slid") (N_slides_of:Fnm K mg "slides_of"):FnOk P w K mg base ez 15 f fd ["circuit"] (eX K cD):=
 cK (k:=14) (b:=iQ) F pA fun cdv A outer s H E hr=>(ap (aC (aF C_led_on (hr.mono (by decide)) rfl (ac (aa 0) (ac (ng N_slides_of rfl) (ac (ng N_slid rfl) ag))))))
theorem lD:FnScope iR ["circuit","steps","last"] (aw dL):=⟨rfl,rfl,rfl,by decide +kernel,rfl,by decide +kernel,by decide +kernel⟩
theorem lE {f:Addr} {fd:FuncData} {dV:Value} (F:FunV K "slides_stand" "slides_stand" dL f fd dV) (T:Txt mg) (C_leads_to:Cal P w K mg base "leads_to" 14 cV []) (N_slid:Fnm K mg "slid"):FnOk P w K mg base ez 15 f fd ["circuit","steps","last"] (eX K bg):=
 cK (k:=14) (b:=dU) F lD fun cdv A outer s H E hr=>(ap (aC (aF C_leads_to (hr.mono (by decide)) rfl (ac (aa 0) (ac (aa 1) (ac (aa 2) (ac (ng N_slid rfl) ag)))))))
theorem pD:FnScope lC ["script","k"] (aw gh):=⟨rfl,rfl,rfl,by decide +kernel,rfl,by decide +kernel,by decide +kernel⟩
theorem pS {f:Addr} {fd:FuncData} {dV:Value} (F:FunV K "_law_cell" "_law_cell" gh f fd dV) (T:Txt mg):FnOk P w K mg base ez 1 f fd ["script","k"] (eX K bW):=
 cK (k:=0) (b:=gx) F pD fun cdv A outer s H E hr=>(ai (aU (aA qg (aa 1) (bX gP rfl T.len (by decide +kernel) (ac (aa 0) ag)) (az _)) (ap (aC (ak aB (aa 0) (aa 1) (fun _ _=>rfl)))) aJ) (ap (aC af)))
theorem sc__law_turn:FnScope lz ["cell","prime"] (aw f9):=⟨rfl,rfl,rfl,by decide +kernel,rfl,by decide +kernel,by decide +kernel⟩
theorem pP {f:Addr} {fd:FuncData} {dV:Value} (F:FunV K "_law_turn" "_law_turn" f9 f fd dV) (T:Txt mg):FnOk P w K mg base ez 1 f fd ["cell","prime"] (eX K bH):=
 cK (k:=0) (b:=gw) F sc__law_turn fun cdv A outer s H E hr=>(ai (aX 2 sc__law_turn.nd (aG cE (aa 0) af)) (ap (aC (aG cE (aG DZ (aG bA (aa 2) af) (aG bA (aa 2) af)) (aa 1)))))
theorem sc__law_row:FnScope nH ["cell","wires","looks","plain"] (aw gZ):=⟨rfl,rfl,rfl,by decide +kernel,rfl,by decide +kernel,by decide +kernel⟩
theorem rE {f:Addr} {fd:FuncData} {dV:Value} (F:FunV K "_law_row" "_law_row" gZ f fd dV) (T:Txt mg) (C__law_turn:Cal P w K mg base "_law_turn" 1 bH []):FnOk P w K mg base ez 2 f fd ["cell","wires","looks","plain"] (eX K aZ):=
 cK (k:=1) (b:=cm) F sc__law_row fun cdv A outer s H E hr=>(ai (aX 4 sc__law_row.nd (aG gM (aF C__law_turn (hr.mono (by decide)) rfl (ac (aa 0) (ac af ag))) af)) (ai (aX 5 sc__law_row.nd (aG cE (aG gM (aa 4) af) (aa 1))) (ai (aX 6 sc__law_row.nd (aG cE (aG bA (aG bA (aa 5) af) (aG cE (aG gM (aa 4) af) (bX (Cs rfl) rfl T.max (by decide +kernel) (ac af (ac (aG Cq (aa 1) af) ag))))) (aa 1))) (ai (aU (aA qg (aG cE (aa 0) af) af (az _)) (ap (aC (aH (ac ar (ac (aa 5) ag))))) aJ) (ai (aU (aA qg (aG cE (aa 0) af) af (az _)) (ap (aC (aH (ac ar (ac (aa 5) (ac (aG bA af (aG cE (aG gM (aa 4) af) af)) ag)))))) aJ) (ai (aU (WV.tv (cA (wY qg qg af (aG cE (aa 0) af) af) (cn (aA Jl (aa 1) af (az _))))) (ap (aC (aH (ac (ak aB (bQ (ac ar (ac ar (ac ar (ac ar (ac ar ag)))))) (aG Cq (aG cE (aa 0) af) af) (fun _ _=>rfl)) (ac (aa 6) (ac (aa 5) ag)))))) aJ) (ai (aU (WV.tv (io (aA (bq hr.units) (aG cE (aa 0) af) af (az _)) (gR (gU (aa 3))))) (ap (aC (aH (ac ar (ac (aa 5) ag))))) aJ) (ai (aU (WV.tv (cA (aA qg (aa 2) af (az _)) (cn (WV.tv (io (aA qg (aG cE (aa 0) af) af (az _)) (gR (aA (bq hr.units) (aa 2) af (az _)))))))) (ap (aC (aH (ac ar (ac (aa 5) ag))))) aJ) (ai (aU (aA (bq hr.units) (aa 2) af (az _)) (ap (aC (aH (ac ar (ac (aa 5) ag))))) aJ) (ap (aC (aH (ac ar (ac (aG cE (aG gM (aa 4) af) (aa 2)) (ac (ak aB (bQ (ac (aH (ac ar (ac (aa 5) ag))) (ac (aH (ac ar (ac (aa 5) (ac af ag)))) ag))) (aG cE (aG gM (aa 4) af) af) (fun _ _=>rfl)) ag)))))))))))))))
theorem sc__law_often:FnScope kq ["cells","wires"] (aw e9):=⟨rfl,rfl,rfl,by decide +kernel,rfl,by decide +kernel,by decide +kernel⟩
theorem nQ {f:Addr} {fd:FuncData} {dV:Value} (F:FunV K "_law_often" "_law_often" e9 f fd dV) (T:Txt mg) (C__law_row:Cal P w K mg base "_law_row" 2 aZ []) (C__law_turn:Cal P w K mg base "_law_turn" 1 bH []):FnOk P w K mg base ez 3 f fd ["cells","wires"] (eX K cJ):=
 cK (k:=2) (b:=ic) F sc__law_often fun cdv A outer s H E hr=>(ai (kz 2 sc__law_often.nd ag) (ai (aX 3 sc__law_often.nd af) (ai (d7 PassesOwn.never rfl (db (aa 0)) (b7 4 sc__law_often.nd) (ai (aX 5 sc__law_often.nd (aF C__law_row (hr.mono (by decide)) rfl (ac (aa 4) (ac (aa 1) (ac (aa 3) (ac dq ag)))))) (ai (aX 6 sc__law_often.nd (aG gM (aF C__law_turn (hr.mono (by decide)) rfl (ac (aG gM (aa 4) af) (ac af ag))) af)) (ai (aU (zO 2 (WV.tv (cA (aA qg (aG cE (aa 4) af) af (az _)) (cA (aA (j8 hr.units) (aa 2) (bQ ag) (az _)) (cn (aA (j8 hr.units) (ak aB (ak aB (aa 2) (aG cE (aa 6) (bX gP rfl T.len (by decide +kernel) (ac (aa 2) ag))) (fun _ _=>rfl)) af (fun _ _=>rfl)) ar (az _))))))) (ai (aX 5 sc__law_often.nd (DQ 2 (aG cE (aa 6) (vn 2 rfl T.len)) (fun _ _=>rfl))) (ap (aU (WV.tv (cA (aA lH (ak aB (aa 5) af (fun _ _=>rfl)) (aH (ac ar (ac ar ag))) (by with_unfolding_all rfl)) (cn (aA (bq hr.units) (aG cE (aG gM (aa 6) af) af) af (az _))))) (ap (aX 5 sc__law_often.nd (aH (ac (ak aB (aa 5) af (fun _ _=>rfl)) (ac (ak aB (aa 5) af (fun _ _=>rfl)) (ac (ak aB (aa 5) af (fun _ _=>rfl)) ag)))))) aJ))) aJ) (ai (aU (WV.tv (cA (aA (bq hr.units) (ak aB (aa 5) af (fun _ _=>rfl)) ar (az _)) (cn (aA (bq hr.units) (aa 3) af (az _))))) (ap (aX 5 sc__law_often.nd (aH (ac ar (ac (ak aB (aa 5) af (fun _ _=>rfl)) ag))))) aJ) (ai (aX 3 sc__law_often.nd (aG bA (aa 3) (fE GU rfl T.int (by decide +kernel) (ac (cR (bq hr.units) (ak aB (aa 5) af (fun _ _=>rfl)) ar (az _)) ag)))) (ap (jg 2 (aa 5))))))))) (ap (mD 2 (aC (aH (ac (aa 1) (ac (fE qk rfl T.tuple (by decide +kernel) (ac (aa 2) ag)) ag)))))))))
theorem i5:FnScope cM ["row"] (aw dM):=⟨rfl,rfl,rfl,by decide +kernel,rfl,by decide +kernel,by decide +kernel⟩
theorem iD {f:Addr} {fd:FuncData} {dV:Value} (F:FunV K "_law_kinds" "_law_kinds" dM f fd dV) (T:Txt mg) (hm:mg "_law_kinds" = some (.ref f)) (hk:PySem.W.keepIn K (.ref f)=true) (hb:Binds K fd ["row"] []):∀ m,FnOk P w K mg base ez (1+m) f fd ["row"] (eX K (bK m))
 | 0=>cK (k:=0) (b:=fun _=>none) F i5 fun cdv A outer s H E hr=>vx
 | m+1=>by
  have C__law_kinds:Cal P w K mg base "_law_kinds" (1+m) (bK m) []:=Cal.mk0 (iD F T hm hk hb m) hm hk hb
  exact cK (k:=1+m) (b:=bC (bK m)) F i5 fun cdv A outer s H E hr=>(ai (aU (aA (bq hr.units) (ak aB (aa 0) af (fun _ _=>rfl)) ar (az _)) (ap (aC (aF C__law_kinds (hr.mono (by omega)) rfl (ac (ak aB (aa 0) af (fun _ _=>rfl)) ag)))) aJ) (ai (aU (WV.tv (io (aA (bq hr.units) (ak aB (aa 0) af (fun _ _=>rfl)) ar (az _)) (gR (aA (bq hr.units) (ak aB (aa 0) af (fun _ _=>rfl)) ar (az _))))) (ap (aC (bQ (ac (aH (ac (ak aB (aa 0) af (fun _ _=>rfl)) (ac ar ag))) ag)))) aJ) (ai (aU (aA (bq hr.units) (ak aB (aa 0) af (fun _ _=>rfl)) ar (az _)) (ap (aC (bQ (ac (aH (ac (ak aB (aa 0) af (fun _ _=>rfl)) (ac ar ag))) ag)))) aJ) (ai (aU (aA (bq hr.units) (ak aB (aa 0) af (fun _ _=>rfl)) ar (az _)) (ap (aC (bQ (ac (aH (ac (ak aB (aa 0) af (fun _ _=>rfl)) (ac ar ag))) (ac (aH (ac (ak aB (aa 0) af (fun _ _=>rfl)) (ac ar ag))) ag))))) aJ) (ai (aU (aA (bq hr.units) (ak aB (aa 0) af (fun _ _=>rfl)) ar (az _)) (ap (aC (bQ (ac (aH (ac (ak aB (aa 0) af (fun _ _=>rfl)) (ac ar ag))) (ac (aH (ac (ak aB (aa 0) af (fun _ _=>rfl)) (ac ar ag))) ag))))) aJ) (ap (aC (j4 (vars:=["wire"]) (caps:=[]) (by change BlkOk (aw dM).names cM _ _ _; exact ⟨rfl,by decide +kernel,by decide +kernel,by decide +kernel,by decide +kernel⟩) rfl (db (aL (aa 0) (aM af) bj)) eQ (fun _ _ _ _=>cG (i:=0) (show (["wire"]:List Str).Nodup by decide +kernel) rfl (Or.inl rfl) (.inr rfl)) (fun _ _ _ _=>(aH (ac (aa 0) (ac ar ag))))))))))))
theorem sc__law_lets:FnScope lB ["one","other","mark"] (aw gg):=⟨rfl,rfl,rfl,by decide +kernel,rfl,by decide +kernel,by decide +kernel⟩
theorem pR {f:Addr} {fd:FuncData} {dV:Value} (F:FunV K "_law_lets" "_law_lets" gg f fd dV) (T:Txt mg) (C__law_kinds:Cal P w K mg base "_law_kinds" 9 bN []):FnOk P w K mg base ez 10 f fd ["one","other","mark"] (eX K bI):=
 cK (k:=9) (b:=cF) F sc__law_lets fun cdv A outer s H E hr=>(ai (aX 3 sc__law_lets.nd (bQ (ac (ak aB (aa 0) af (fun _ _=>rfl)) (ac (ak aB (aa 1) af (fun _ _=>rfl)) ag)))) (ai (aU (aA (bq hr.units) (aa 3) (bQ (ac ar (ac ar ag))) (az _)) (ap (aC dq)) aJ) (ai (aU (WV.tv (io (WV.tv (cA (aA (bq hr.units) (aa 3) (bQ (ac ar (ac ar ag))) (az _)) (cn (aA (bq hr.units) (ak aB (aa 1) af (fun _ _=>rfl)) (aa 2) (az _))))) (gR (WV.tv (cA (aA (bq hr.units) (aa 3) (bQ (ac ar (ac ar ag))) (az _)) (cn (aA (bq hr.units) (ak aB (aa 0) af (fun _ _=>rfl)) (aa 2) (az _)))))))) (ap (aC dq)) aJ) (ai (d7 PassesOwn.never rfl (db (aF C__law_kinds (hr.mono (by decide)) rfl (ac (aa 0) ag))) (m8 rfl (dn (b7 4 sc__law_lets.nd) (dn (b7 5 sc__law_lets.nd) j0))) (ap (d7 PassesOwn.never rfl (db (aF C__law_kinds (hr.mono (by decide)) rfl (ac (aa 1) ag))) (m8 rfl (dn (b7 6 sc__law_lets.nd) (dn (b7 7 sc__law_lets.nd) j0))) (ap (aU (WV.tv (cA (aA (bq hr.units) (aa 4) (aa 6) (az _)) (cn (WV.tv (io (aA (j8 hr.units) (aa 5) (aa 7) (az _)) (gR (aA (bq hr.units) (aa 5) ar (az _)))))))) (ap (aC dq)) aJ))))) (ap (aC dq))))))
theorem iX:FnScope dE ["rows","place"] (aw cg):=⟨rfl,rfl,rfl,by decide +kernel,rfl,by decide +kernel,by decide +kernel⟩
theorem iY {f:Addr} {fd:FuncData} {dV:Value} (F:FunV K "_law_marks_ahead" "_law_marks_ahead" cg f fd dV) (T:Txt mg):FnOk P w K mg base ez 1 f fd ["rows","place"] (eX K bw):=
 cK (k:=0) (b:=dD) F iX fun cdv A outer s H E hr=>(ap (aC (bX gP rfl T.len (by decide +kernel) (ac (iM (vars:=["row"]) (caps:=[]) (by change BlkOk (aw cg).names dE _ _ _; exact ⟨rfl,by decide +kernel,by decide +kernel,by decide +kernel,by decide +kernel⟩) rfl (db (aL (aa 0) bj (aM (aa 1)))) eQ (fun _ _ _ _=>cG (i:=0) (show (["row"]:List Str).Nodup by decide +kernel) rfl (Or.inl rfl) (.inr rfl)) (fun _ _ _ _=>(aA (bq hr.units) (ak aB (aa 0) af (fun _ _=>rfl)) ar (az _))) (fun _ _ _ _=>(aa 0))) ag))))
theorem sc__law_clear:FnScope kr ["rows","p","q"] (aw fh):=⟨rfl,rfl,rfl,by decide +kernel,rfl,by decide +kernel,by decide +kernel⟩
theorem nR {f:Addr} {fd:FuncData} {dV:Value} (F:FunV K "_law_clear" "_law_clear" fh f fd dV) (T:Txt mg) (C__law_lets:Cal P w K mg base "_law_lets" 10 bI []) (C__law_marks_ahead:Cal P w K mg base "_law_marks_ahead" 1 bw []):FnOk P w K mg base ez 11 f fd ["rows","p","q"] (eX K bT):=
 cK (k:=10) (b:=ie) F sc__law_clear fun cdv A outer s H E hr=>(ai (d7 PassesOwn.never rfl (fD rfl T.range (ac (aG bA (aa 1) af) (ac (aa 2) ag))) (b7 3 sc__law_clear.nd) (ap (aU (pf (gU (aF C__law_lets (hr.mono (by decide)) rfl (ac (ak aB (aa 0) (aa 1) (fun _ _=>rfl)) (ac (ak aB (aa 0) (aa 3) (fun _ _=>rfl)) (ac (aF C__law_marks_ahead (hr.mono (by decide)) rfl (ac (aa 0) (ac (aa 3) ag))) ag)))))) (ap (aC dq)) aJ))) (ap (aC dq)))
theorem pC:FnScope lw ["one","other"] (aw f8):=⟨rfl,rfl,rfl,by decide +kernel,rfl,by decide +kernel,by decide +kernel⟩
theorem pO {f:Addr} {fd:FuncData} {dV:Value} (F:FunV K "_law_undo" "_law_undo" f8 f fd dV) (T:Txt mg):FnOk P w K mg base ez 1 f fd ["one","other"] (eX K bV):=
 cK (k:=0) (b:=dI) F pC fun cdv A outer s H E hr=>(ai (aU (aA lH (ak aB (aa 0) af (fun _ _=>rfl)) (aH (ac ar (ac ar ag))) (by with_unfolding_all rfl)) (ap (aC dq)) aJ) (ai (aU (WV.tv (cA (aA lH (ak aB (aa 0) af (fun _ _=>rfl)) (aH (ac ar (ac ar ag))) (by with_unfolding_all rfl)) (cn (aA (bq hr.units) (ak aB (aa 0) af (fun _ _=>rfl)) (ak aB (aa 1) af (fun _ _=>rfl)) (az _))))) (ap (aC (cR (bq hr.units) (lW rfl T.sorted (aL (aa 0) (aM af) bj)) (lW rfl T.sorted (aL (aa 1) (aM af) bj)) (az _)))) aJ) (ap (aC (cR (bq hr.units) (aa 0) (aa 1) (az _))))))
theorem i4:FnScope bD ["row","wire"] (aw cW):=⟨rfl,rfl,rfl,by decide +kernel,rfl,by decide +kernel,by decide +kernel⟩
theorem iA {f:Addr} {fd:FuncData} {dV:Value} (F:FunV K "_law_swung" "_law_swung" cW f fd dV) (T:Txt mg) (hm:mg "_law_swung" = some (.ref f)) (hk:PySem.W.keepIn K (.ref f)=true) (hb:Binds K fd ["row","wire"] []):∀ m,FnOk P w K mg base ez (1+m) f fd ["row","wire"] (eX K (aP m))
 | 0=>cK (k:=0) (b:=fun _=>none) F i4 fun cdv A outer s H E hr=>vx
 | m+1=>by
  have C__law_swung:Cal P w K mg base "_law_swung" (1+m) (aP m) []:=Cal.mk0 (iA F T hm hk hb m) hm hk hb
  exact cK (k:=1+m) (b:=aK (aP m)) F i4 fun cdv A outer s H E hr=>(ai (aU (aA (bq hr.units) (ak aB (aa 0) af (fun _ _=>rfl)) ar (az _)) (ap (aC (j4 (vars:=["part"]) (caps:=[(0,"row")]) (by change BlkOk (aw cW).names bD _ _ _; exact ⟨rfl,by decide +kernel,by decide +kernel,by decide +kernel,by decide +kernel⟩) rfl (db (aF C__law_swung (hr.mono (by omega)) rfl (ac (ak aB (aa 0) af (fun _ _=>rfl)) (ac (aa 1) ag)))) eQ (fun _ _ _ _=>cG (i:=0) (show (["part","row"]:List Str).Nodup by decide +kernel) rfl (Or.inl rfl) (.inr rfl)) (fun _ _ _ _=>(aH (ac ar (ac (ak aB (aa 1) af (fun _ _=>rfl)) (ac (aa 0) ag)))))))) aJ) (ai (aU (aA (bq hr.units) (aa 0) (aH (ac ar (ac (aa 1) ag))) (az _)) (ap (aC (bQ (ac (aH (ac ar (ac (aa 1) (ac af ag)))) ag)))) aJ) (ai (aU (aA (bq hr.units) (aa 0) (aH (ac ar (ac (aa 1) (ac af ag)))) (az _)) (ap (aC (bQ (ac (aH (ac ar (ac (aa 1) ag))) ag)))) aJ) (ai (aU (WV.tv (cA (aA (bq hr.units) (ak aB (aa 0) af (fun _ _=>rfl)) ar (az _)) (cn (aA (bq hr.units) (ak aB (aa 0) af (fun _ _=>rfl)) (aa 1) (az _))))) (ap (aC (bQ (ac (aH (ac ar (ac (ak aB (aa 0) af (fun _ _=>rfl)) (ac (aa 1) ag)))) ag)))) aJ) (ai (aU (WV.tv (cA (aA (bq hr.units) (ak aB (aa 0) af (fun _ _=>rfl)) ar (az _)) (cn (aA lH (aa 1) (aL (aa 0) (aM af) bj) (by with_unfolding_all rfl))))) (ap (aC (bQ (ac (aH (ac ar (ac (ak aB (iM (vars:=["part"]) (caps:=[(1,"wire")]) (by change BlkOk (aw cW).names bD _ _ _; exact ⟨rfl,by decide +kernel,by decide +kernel,by decide +kernel,by decide +kernel⟩) rfl (db (aL (aa 0) (aM af) bj)) eQ (fun _ _ _ _=>cG (i:=0) (show (["part","wire"]:List Str).Nodup by decide +kernel) rfl (Or.inl rfl) (.inr rfl)) (fun _ _ _ _=>(aA (j8 hr.units) (aa 0) (aa 1) (az _))) (fun _ _ _ _=>(aa 0))) af (fun _ _=>rfl)) (ac (aa 1) ag)))) ag)))) aJ) (ap (aC (bQ ag))))))))
theorem sc__law_fit:FnScope js ["rows","step"] (aw fG):=⟨rfl,rfl,rfl,by decide +kernel,rfl,by decide +kernel,by decide +kernel⟩
theorem rF {f:Addr} {fd:FuncData} {dV:Value} (F:FunV K "_law_fit" "_law_fit" fG f fd dV) (T:Txt mg) (C__law_undo:Cal P w K mg base "_law_undo" 1 bV []) (C__law_clear:Cal P w K mg base "_law_clear" 11 bT []) (C__law_swung:Cal P w K mg base "_law_swung" 9 cb []) (C__law_kinds:Cal P w K mg base "_law_kinds" 9 bN []):FnOk P w K mg base ez 12 f fd ["rows","step"] (eX K bz):=
 cK (k:=11) (b:=fR) F sc__law_fit fun cdv A outer s H E hr=>(ai (xh (aL (aa 1) (aM af) (aM af)) (m8 rfl (dn (b7 2 sc__law_fit.nd) (dn (b7 3 sc__law_fit.nd) j0)))) (ai (aU (aA (bq hr.units) (ak aB (aa 1) af (fun _ _=>rfl)) ar (az _)) (ap (aC (iN (aF C__law_undo (hr.mono (by decide)) rfl (ac (ak aB (aa 0) (aa 2) (fun _ _=>rfl)) (ac (ak aB (aa 0) (aa 3) (fun _ _=>rfl)) ag))) (jo (aF C__law_clear (hr.mono (by decide)) rfl (ac (aa 0) (ac (aa 2) (ac (aa 3) ag)))))))) aJ) (ai (aU (aA (bq hr.units) (ak aB (aa 1) af (fun _ _=>rfl)) ar (az _)) (ap (aC (iN (cR (bq hr.units) (ak aB (ak aB (aa 0) (aa 2) (fun _ _=>rfl)) af (fun _ _=>rfl)) ar (az _)) (iN (cR (bq hr.units) (aL (ak aB (aa 0) (aa 3) (fun _ _=>rfl)) bj (aM af)) (aL (ak aB (aa 0) (aa 2) (fun _ _=>rfl)) bj (aM af)) (az _)) (jo (aF C__law_clear (hr.mono (by decide)) rfl (ac (aa 0) (ac (aa 2) (ac (aa 3) ag))))))))) aJ) (ai (aX 4 sc__law_fit.nd (ak aB (aa 1) af (fun _ _=>rfl))) (ai (aU (WV.tv (io (aA (j8 hr.units) (ak aB (ak aB (aa 0) (aa 2) (fun _ _=>rfl)) af (fun _ _=>rfl)) ar (az _)) (io (aA (j8 hr.units) (ak aB (aa 0) (aa 2) (fun _ _=>rfl)) (ak aB (aa 0) (aa 4) (fun _ _=>rfl)) (az _)) (gR (aA (bq hr.units) (aF C__law_swung (hr.mono (by decide)) rfl (ac (ak aB (aa 0) (aa 3) (fun _ _=>rfl)) (ac (ak aB (ak aB (aa 0) (aa 2) (fun _ _=>rfl)) af (fun _ _=>rfl)) ag))) (bQ ag) (az _)))))) (ap (aC dq)) aJ) (ai (d7 PassesOwn.never rfl (fD rfl T.range (ac (aG bA (aa 2) af) (ac (aa 4) ag))) (b7 5 sc__law_fit.nd) (ap (aU (WV.tv (cA (aA (j8 hr.units) (aa 5) (aa 3) (az _)) (cn (aA lH (ak aB (ak aB (aa 0) (aa 2) (fun _ _=>rfl)) af (fun _ _=>rfl)) (j4 (vars:=["pair"]) (caps:=[]) (by change BlkOk (aw fG).names js _ _ _; exact ⟨rfl,by decide +kernel,by decide +kernel,by decide +kernel,by decide +kernel⟩) rfl (db (aF C__law_kinds (hr.mono (by decide)) rfl (ac (ak aB (aa 0) (aa 5) (fun _ _=>rfl)) ag))) eQ (fun _ _ _ _=>cG (i:=0) (show (["pair"]:List Str).Nodup by decide +kernel) rfl (Or.inl rfl) (.inr rfl)) (fun _ _ _ _=>(ak aB (aa 0) af (fun _ _=>rfl)))) (by with_unfolding_all rfl))))) (ap (aC dq)) aJ))) (ap (aC dq))))))))
theorem sc__law_steps:FnScope fB ["rows"] (aw cX):=⟨rfl,rfl,rfl,by decide +kernel,rfl,by decide +kernel,by decide +kernel⟩
theorem nP {f:Addr} {fd:FuncData} {dV:Value} (F:FunV K "_law_steps" "_law_steps" cX f fd dV) (T:Txt mg) (C__law_fit:Cal P w K mg base "_law_fit" 12 bz []):FnOk P w K mg base ez 13 f fd ["rows"] (eX K bM):=
 cK (k:=12) (b:=h8) F sc__law_steps fun cdv A outer s H E hr=>(ai (kz 1 sc__law_steps.nd ag) (ai (aX 2 sc__law_steps.nd (bX gP rfl T.len (by decide +kernel) (ac (aa 0) ag))) (ai (d7 PassesOwn.never rfl (kH rfl T.range (ac (aa 2) ag)) (b7 3 sc__law_steps.nd) (ap (d7 PassesOwn.never rfl (fD rfl T.range (ac (aG bA (aa 3) af) (ac (aa 2) ag))) (b7 4 sc__law_steps.nd) (ai (jg 1 (aH (ac ar (ac (aa 3) (ac (aa 4) ag))))) (ai (jg 1 (aH (ac ar (ac (aa 3) (ac (aa 4) ag))))) (ap (aU (aA (bq hr.units) (ak aB (ak aB (aa 0) (aa 3) (fun _ _=>rfl)) af (fun _ _=>rfl)) ar (az _)) (ap (pj 1 (j4 (vars:=["t"]) (caps:=[(3,"p"),(4,"q")]) (by change BlkOk (aw cX).names fB _ _ _; exact ⟨rfl,by decide +kernel,by decide +kernel,by decide +kernel,by decide +kernel⟩) rfl (fD rfl T.range (ac (aG bA (aa 4) af) (ac (aa 2) ag))) eQ (fun _ _ _ _=>cG (i:=0) (show (["t","p","q"]:List Str).Nodup by decide +kernel) rfl (Or.inl rfl) (.inr rfl)) (fun _ _ _ _=>(aH (ac ar (ac (aa 1) (ac (aa 2) (ac (aa 0) ag))))))))) aJ))))))) (ap (mD 1 (aC (lW rfl T.sorted (iM (vars:=["step"]) (caps:=[(0,"rows")]) (by change BlkOk (aw cX).names fB _ _ _; exact ⟨rfl,by decide +kernel,by decide +kernel,by decide +kernel,by decide +kernel⟩) rfl (db (aa 1)) eQ (fun _ _ _ _=>cG (i:=0) (show (["step","rows"]:List Str).Nodup by decide +kernel) rfl (Or.inl rfl) (.inr rfl)) (fun _ _ _ _=>(gU (aF C__law_fit (hr.mono (by decide)) rfl (ac (aa 1) (ac (aa 0) ag))))) (fun _ _ _ _=>(aa 0))))))))))
theorem sc__law_slid:FnScope lA ["circuit","step"] (aw gb):=⟨rfl,rfl,rfl,by decide +kernel,rfl,by decide +kernel,by decide +kernel⟩
theorem pQ {f:Addr} {fd:FuncData} {dV:Value} (F:FunV K "_law_slid" "_law_slid" gb f fd dV) (T:Txt mg) (C__law_swung:Cal P w K mg base "_law_swung" 9 cb []):FnOk P w K mg base ez 10 f fd ["circuit","step"] (eX K bu):=
 cK (k:=9) (b:=eP) F sc__law_slid fun cdv A outer s H E hr=>(ai (aX 2 sc__law_slid.nd (fE yU rfl T.list (by decide +kernel) (ac (ak aB (aa 0) af (fun _ _=>rfl)) ag))) (ai (xh (aL (aa 1) (aM af) (aM af)) (m8 rfl (dn (b7 3 sc__law_slid.nd) (dn (b7 4 sc__law_slid.nd) j0)))) (ai (aU (aA (bq hr.units) (ak aB (aa 1) af (fun _ _=>rfl)) ar (az _)) (ap (aX 2 sc__law_slid.nd (aG bA (aG bA (aL (aa 2) bj (aM (aa 3))) (aL (aa 2) (aM (aG bA (aa 3) af)) (aM (aa 4)))) (aL (aa 2) (aM (aG bA (aa 4) af)) bj)))) (ap (aU (aA (bq hr.units) (ak aB (aa 1) af (fun _ _=>rfl)) ar (az _)) (ai (aX 5 sc__law_slid.nd (aG cE (aG bA (ak aB (ak aB (aa 2) (aa 3) (fun _ _=>rfl)) af (fun _ _=>rfl)) (ak aB (ak aB (aa 2) (aa 4) (fun _ _=>rfl)) af (fun _ _=>rfl))) af)) (ap (aX 2 sc__law_slid.nd (aG bA (aG bA (aG bA (aL (aa 2) bj (aM (aa 3))) (aL (aa 2) (aM (aG bA (aa 3) af)) (aM (aa 4)))) (aL (bQ (ac (aH (ac ar (ac (ak aB (ak aB (aa 2) (aa 4) (fun _ _=>rfl)) af (fun _ _=>rfl)) (ac (aa 5) ag)))) ag)) bj (aM (aa 5)))) (aL (aa 2) (aM (aG bA (aa 4) af)) bj))))) (ai (aX 6 sc__law_slid.nd (ak aB (aa 1) af (fun _ _=>rfl))) (ap (aX 2 sc__law_slid.nd (aG bA (aG bA (aG bA (aG bA (aL (aa 2) bj (aM (aa 3))) (aL (aa 2) (aM (aG bA (aa 3) af)) (aM (aa 4)))) (aF C__law_swung (hr.mono (by decide)) rfl (ac (ak aB (aa 2) (aa 4) (fun _ _=>rfl)) (ac (ak aB (ak aB (aa 2) (aa 3) (fun _ _=>rfl)) af (fun _ _=>rfl)) ag)))) (aL (aa 2) (aM (aG bA (aa 4) af)) (aM (aa 6)))) (aL (aa 2) (aM (aG bA (aa 6) af)) bj)))))))) (ap (aC (aH (ac (ak aB (aa 0) af (fun _ _=>rfl)) (ac (fE qk rfl T.tuple (by decide +kernel) (ac (aa 2) ag)) ag))))))))
theorem sc__law_stands:FnScope jc ["circuit","steps","goal"] (aw eA):=⟨rfl,rfl,rfl,by decide +kernel,rfl,by decide +kernel,by decide +kernel⟩
theorem mL {f:Addr} {fd:FuncData} {dV:Value} (F:FunV K "_law_stands" "_law_stands" eA f fd dV) (T:Txt mg) (C__law_slid:Cal P w K mg base "_law_slid" 10 bu []) (C__law_fit:Cal P w K mg base "_law_fit" 12 bz []):FnOk P w K mg base ez 13 f fd ["circuit","steps","goal"] (eX K bJ):=
 cK (k:=12) (b:=eG) F sc__law_stands fun cdv A outer s H E hr=>(ai (d7 PassesOwn.never rfl (db (aa 1)) (b7 3 sc__law_stands.nd) (ai (aX 4 sc__law_stands.nd (GD GK af)) (ai (d7 PassesOwn.never rfl (db (aL (aa 3) (aM af) bj)) (b7 5 sc__law_stands.nd) (ai (aU (WV.tv (io (aA Jk (aa 5) (aa 4) (az _)) (gR (aA Jm (aa 5) (bX gP rfl T.len (by decide +kernel) (ac (ak aB (aa 0) af (fun _ _=>rfl)) ag)) (az _))))) (ap (aC dq)) aJ) (ap (aX 4 sc__law_stands.nd (aa 5))))) (ai (aU (pf (gU (aF C__law_fit (hr.mono (by decide)) rfl (ac (ak aB (aa 0) af (fun _ _=>rfl)) (ac (aa 3) ag))))) (ap (aC dq)) aJ) (ap (aX 0 sc__law_stands.nd (aF C__law_slid (hr.mono (by decide)) rfl (ac (aa 0) (ac (aa 3) ag))))))))) (ap (aC (cR (bq hr.units) (aa 0) (aa 2) (az _)))))
theorem sc__law_chain:FnScope kt ["circuit","cell"] (aw fj):=⟨rfl,rfl,rfl,by decide +kernel,rfl,by decide +kernel,by decide +kernel⟩
theorem nS {f:Addr} {fd:FuncData} {dV:Value} (F:FunV K "_law_chain" "_law_chain" fj f fd dV) (T:Txt mg) (C__law_steps:Cal P w K mg base "_law_steps" 13 bM []) (C__law_slid:Cal P w K mg base "_law_slid" 10 bu []):FnOk P w K mg base ez 14 f fd ["circuit","cell"] (eX K cw):=
 cK (k:=13) (b:=ii) F sc__law_chain fun cdv A outer s H E hr=>(ai (kz 2 sc__law_chain.nd ag) (ai (aX 3 sc__law_chain.nd (aF C__law_steps (hr.mono (by decide)) rfl (ac (ak aB (aa 0) af (fun _ _=>rfl)) ag))) (ai (qR (fun _=>wN) PassesOwn.never (WV.tv (cA (aA (j8 hr.units) (aa 3) (bQ ag) (az _)) (cn (aA qg (vn 2 rfl T.len) (aG cE (aG gM (aa 1) af) af) (az _))))) (ai (aX 4 sc__law_chain.nd (ak aB (aa 3) (aG cE (aa 1) (bX gP rfl T.len (by decide +kernel) (ac (aa 3) ag))) (fun _ _=>rfl))) (ai (jg 2 (aa 4)) (ai (aX 0 sc__law_chain.nd (aF C__law_slid (hr.mono (by decide)) rfl (ac (aa 0) (ac (aa 4) ag)))) (ap (aX 3 sc__law_chain.nd (aF C__law_steps (hr.mono (by decide)) rfl (ac (ak aB (aa 0) af (fun _ _=>rfl)) ag)))))))) (ap (mD 2 (aC (aH (ac (aa 2) (ac (aa 0) ag)))))))))
theorem sc__law_spoilt:FnScope jd ["steps","goal","cell"] (aw eB):=⟨rfl,rfl,rfl,by decide +kernel,rfl,by decide +kernel,by decide +kernel⟩
theorem mM {f:Addr} {fd:FuncData} {dV:Value} (F:FunV K "_law_spoilt" "_law_spoilt" eB f fd dV) (T:Txt mg):FnOk P w K mg base ez 1 f fd ["steps","goal","cell"] (eX K aE):=
 cK (k:=0) (b:=bo) F sc__law_spoilt fun cdv A outer s H E hr=>(ai (aX 3 sc__law_spoilt.nd (aG cE (aa 2) af)) (ai (aU (WV.tv (cA (aA (bq hr.units) (aa 3) af (az _)) (cn (aA (j8 hr.units) (ak aB (aa 1) af (fun _ _=>rfl)) (aH ag) (az _))))) (ai (aX 4 sc__law_spoilt.nd (aG cE (aG gM (aa 2) af) (bX gP rfl T.len (by decide +kernel) (ac (ak aB (aa 1) af (fun _ _=>rfl)) ag)))) (ap (aU (aA (j8 hr.units) (ak aB (ak aB (ak aB (aa 1) af (fun _ _=>rfl)) (aa 4) (fun _ _=>rfl)) af (fun _ _=>rfl)) ar (az _)) (ap (aC (aH (ac (aa 0) (ac (aH (ac (ak aB (aa 1) af (fun _ _=>rfl)) (ac (aG bA (aG bA (aL (ak aB (aa 1) af (fun _ _=>rfl)) bj (aM (aa 4))) (aH (ac (aH (ac ar (ac af ag))) ag))) (aL (ak aB (aa 1) af (fun _ _=>rfl)) (aM (aG bA (aa 4) af)) bj)) ag))) ag))))) aJ))) aJ) (ai (aU (aA (bq hr.units) (aa 0) (bQ ag) (az _)) (ap (aC (aH (ac (aa 0) (ac (aa 1) ag))))) aJ) (ai (aX 4 sc__law_spoilt.nd (aG cE (aG gM (aa 2) af) (bX gP rfl T.len (by decide +kernel) (ac (aa 0) ag)))) (ai (aU (aA (bq hr.units) (aa 3) af (az _)) (ap (aC (aH (ac (aG bA (aL (aa 0) bj (aM (aa 4))) (aL (aa 0) (aM (aG bA (aa 4) af)) bj)) (ac (aa 1) ag))))) aJ) (ai (aU (aA (bq hr.units) (aa 3) af (az _)) (ap (aC (aH (ac (aG bA (aG bA (aL (aa 0) bj (aM (aa 4))) (bQ (ac (ak aB (aa 0) (aa 4) (fun _ _=>rfl)) ag))) (aL (aa 0) (aM (aa 4)) bj)) (ac (aa 1) ag))))) aJ) (ai (aU (aA (bq hr.units) (aa 3) af (az _)) (ap (aC (aH (ac (aG bA (aG bA (aL (aa 0) bj (aM (aa 4))) (aL (aa 0) (aM (aG bA (aa 4) af)) bj)) (bQ (ac (ak aB (aa 0) (aa 4) (fun _ _=>rfl)) ag))) (ac (aa 1) ag))))) aJ) (ai (aU (aA (bq hr.units) (aa 3) af (az _)) (ai (aX 5 sc__law_spoilt.nd (aG bA (aG bA (aL (ak aB (aa 0) (aa 4) (fun _ _=>rfl)) bj (aM af)) (aH (ac (aG bA (ak aB (ak aB (aa 0) (aa 4) (fun _ _=>rfl)) af (fun _ _=>rfl)) af) ag))) (aL (ak aB (aa 0) (aa 4) (fun _ _=>rfl)) (aM af) bj))) (ap (aC (aH (ac (aG bA (aG bA (aL (aa 0) bj (aM (aa 4))) (bQ (ac (aa 5) ag))) (aL (aa 0) (aM (aG bA (aa 4) af)) bj)) (ac (aa 1) ag)))))) aJ) (ap (aC (aH (ac (aa 0) (ac (aa 1) ag)))))))))))))
theorem sc_law:FnScope Ct ["script"] (aw jI):=⟨rfl,rfl,rfl,by decide +kernel,rfl,by decide +kernel,by decide +kernel⟩
theorem Db {f:Addr} {fd:FuncData} {dV:Value} (F:FunV K "law" "law" jI f fd dV) (T:Txt mg) (C__law_often:Cal P w K mg base "_law_often" 3 cJ []) (C_shortened:Cal P w K mg base "shortened" 15 cD []) (C__law_chain:Cal P w K mg base "_law_chain" 14 cw []) (C_slides_stand:Cal P w K mg base "slides_stand" 15 bg []) (C__law_cell:Cal P w K mg base "_law_cell" 1 bW []) (C__law_spoilt:Cal P w K mg base "_law_spoilt" 1 aE []) (C__law_stands:Cal P w K mg base "_law_stands" 13 bJ []):FnOk P w K mg base ez 16 f fd ["script"] (eX K sC):=
 cK (k:=15) (b:=yX) F sc_law fun cdv A outer s H E hr=>(ai (aX 1 sc_law.nd (aF C__law_often (hr.mono (by decide)) rfl (ac (aL (aa 0) (aM af) (aM af)) (ac (aG bA af (aG cE (aF C__law_cell (hr.mono (by decide)) rfl (ac (aa 0) (ac af ag))) af)) ag)))) (ai (aX 2 sc_law.nd (aF C_shortened (hr.mono (by decide)) rfl (ac (aa 1) ag))) (ai (aU (aA By (aF C_slides_stand (hr.mono (by decide)) rfl (ac (aa 1) (ac (ak aB (aa 2) af (fun _ _=>rfl)) (ac (ak aB (aa 2) af (fun _ _=>rfl)) ag)))) dq (az _)) (ap (aC dq)) aJ) (ai (aX 3 sc_law.nd (aF C__law_chain (hr.mono (by decide)) rfl (ac (aa 1) (ac (aF C__law_cell (hr.mono (by decide)) rfl (ac (aa 0) (ac af ag))) ag)))) (ai (d7 PassesOwn.never rfl (db (bQ (ac (aa 3) (ac (aF C__law_spoilt (hr.mono (by decide)) rfl (ac (ak aB (aa 3) af (fun _ _=>rfl)) (ac (ak aB (aa 3) af (fun _ _=>rfl)) (ac (aG gM (aF C__law_cell (hr.mono (by decide)) rfl (ac (aa 0) (ac af ag))) af) ag)))) ag)))) (m8 rfl (dn (b7 4 sc_law.nd) (dn (b7 5 sc_law.nd) j0))) (ai (aX 6 sc_law.nd (fE yU rfl T.list (by decide +kernel) (ac (aa 4) ag))) (ai (aX 7 sc_law.nd (aF C_slides_stand (hr.mono (by decide)) rfl (ac (aa 1) (ac (aa 6) (ac (aa 5) ag))))) (ap (aU (WV.tv (io (pf (gU (DR (T:="bool") rfl T.isinstance rfl T.bool (by decide +kernel) (by decide) (by decide) (aa 7)))) (io (aA (j8 hr.units) (aa 7) (aF C__law_stands (hr.mono (by decide)) rfl (ac (aa 1) (ac (aa 4) (ac (aa 5) ag)))) (az _)) (gR (aA (j8 hr.units) (aa 6) (aa 4) (az _)))))) (ap (aC dq)) aJ))))) (ap (aC dq)))))))
end
theorem sR:bc "wires_of" gW ["row"]:=fun _ _ _ _ _ _ us hl=>by obtain ⟨_,rfl⟩:=ub hl; exact rfl
theorem qp:bc "undone_by" fW ["one","other"]:=fun _ _ _ _ _ _ us hl=>by obtain ⟨_,_,rfl⟩:=g9 hl; exact rfl
theorem sT:bc "asks_for" gY ["row","look","mark"]:=fun _ _ _ _ _ _ us hl=>by obtain ⟨_,_,_,rfl⟩:=pZ hl; exact rfl
theorem yW:bc "flips" lN ["row","wire"]:=fun _ _ _ _ _ _ us hl=>by obtain ⟨_,_,rfl⟩:=g9 hl; exact rfl
theorem oh:bc "both_alike" eZ ["one","other","wire"]:=fun _ _ _ _ _ _ us hl=>by obtain ⟨_,_,_,rfl⟩:=pZ hl; exact rfl
theorem qu:bc "inner_row" f7 ["row"]:=fun _ _ _ _ _ _ us hl=>by obtain ⟨_,rfl⟩:=ub hl; exact rfl
theorem kP:bc "steps_for_two" dt ["rows","p"]:=fun _ _ _ _ _ _ us hl=>by obtain ⟨_,_,rfl⟩:=g9 hl; exact rfl
theorem qr:bc "swung_row" fX ["row","wire"]:=fun _ _ _ _ _ _ us hl=>by obtain ⟨_,_,rfl⟩:=g9 hl; exact rfl
theorem jq:bc "steps_for_three" cq ["rows","p"]:=fun _ _ _ _ _ _ us hl=>by obtain ⟨_,_,rfl⟩:=g9 hl; exact rfl
theorem kf:bc "slides_of" fY ["circuit"]:=fun _ _ _ _ _ _ us hl=>by obtain ⟨_,rfl⟩:=ub hl; exact rfl
theorem wL:bc "joined" jJ ["one","other"]:=fun _ _ _ _ _ _ us hl=>by obtain ⟨_,_,rfl⟩:=g9 hl; exact rfl
theorem og:bc "changed_by" eY ["rows","step"]:=fun _ _ _ _ _ _ us hl=>by obtain ⟨_,_,rfl⟩:=g9 hl; exact rfl
theorem vC:bc "slid" ji ["circuit","step"]:=fun _ _ _ _ _ _ us hl=>by obtain ⟨_,_,rfl⟩:=g9 hl; exact rfl
theorem wK:bc "led_on" jH ["thing","steps_for","behind_step"]:=fun _ _ _ _ _ _ us hl=>by obtain ⟨_,_,_,rfl⟩:=pZ hl; exact rfl
theorem sS:bc "leads_to" gX ["thing","steps","last","behind_step"]:=fun _ _ _ _ _ _ us hl=>by obtain ⟨_,_,_,_,rfl⟩:=FT hl; exact rfl
theorem qt:bc "shortened" fZ ["circuit"]:=fun _ _ _ _ _ _ us hl=>by obtain ⟨_,rfl⟩:=ub hl; exact rfl
theorem lJ:bc "slides_stand" dL ["circuit","steps","last"]:=fun _ _ _ _ _ _ us hl=>by obtain ⟨_,_,_,rfl⟩:=pZ hl; exact rfl
theorem qz:bc "_law_cell" gh ["script","k"]:=fun _ _ _ _ _ _ us hl=>by obtain ⟨_,_,rfl⟩:=g9 hl; exact rfl
theorem qw:bc "_law_turn" f9 ["cell","prime"]:=fun _ _ _ _ _ _ us hl=>by obtain ⟨_,_,rfl⟩:=g9 hl; exact rfl
theorem sU:bc "_law_row" gZ ["cell","wires","looks","plain"]:=fun _ _ _ _ _ _ us hl=>by obtain ⟨_,_,_,_,rfl⟩:=FT hl; exact rfl
theorem ol:bc "_law_often" e9 ["cells","wires"]:=fun _ _ _ _ _ _ us hl=>by obtain ⟨_,_,rfl⟩:=g9 hl; exact rfl
theorem om:bc "_law_kinds" dM ["row"]:=fun _ _ _ _ _ _ us hl=>by obtain ⟨_,rfl⟩:=ub hl; exact rfl
theorem qy:bc "_law_lets" gg ["one","other","mark"]:=fun _ _ _ _ _ _ us hl=>by obtain ⟨_,_,_,rfl⟩:=pZ hl; exact rfl
theorem i0:bc "_law_marks_ahead" cg ["rows","place"]:=fun _ _ _ _ _ _ us hl=>by obtain ⟨_,_,rfl⟩:=g9 hl; exact rfl
theorem oo:bc "_law_clear" fh ["rows","p","q"]:=fun _ _ _ _ _ _ us hl=>by obtain ⟨_,_,_,rfl⟩:=pZ hl; exact rfl
theorem qv:bc "_law_undo" f8 ["one","other"]:=fun _ _ _ _ _ _ us hl=>by obtain ⟨_,_,rfl⟩:=g9 hl; exact rfl
theorem oi:bc "_law_swung" cW ["row","wire"]:=fun _ _ _ _ _ _ us hl=>by obtain ⟨_,_,rfl⟩:=g9 hl; exact rfl
theorem sV:bc "_law_fit" fG ["rows","step"]:=fun _ _ _ _ _ _ us hl=>by obtain ⟨_,_,rfl⟩:=g9 hl; exact rfl
theorem oj:bc "_law_steps" cX ["rows"]:=fun _ _ _ _ _ _ us hl=>by obtain ⟨_,rfl⟩:=ub hl; exact rfl
theorem qx:bc "_law_slid" gb ["circuit","step"]:=fun _ _ _ _ _ _ us hl=>by obtain ⟨_,_,rfl⟩:=g9 hl; exact rfl
theorem nv:bc "_law_stands" eA ["circuit","steps","goal"]:=fun _ _ _ _ _ _ us hl=>by obtain ⟨_,_,_,rfl⟩:=pZ hl; exact rfl
theorem oq:bc "_law_chain" fj ["circuit","cell"]:=fun _ _ _ _ _ _ us hl=>by obtain ⟨_,_,rfl⟩:=g9 hl; exact rfl
theorem ny:bc "_law_spoilt" eB ["steps","goal","cell"]:=fun _ _ _ _ _ _ us hl=>by obtain ⟨_,_,_,rfl⟩:=pZ hl; exact rfl
theorem Ee {l:PySem.W.OpenLaw} {w:World} {K:PySem.W.Frag} {h:Heap} {mg:Str->Option Value} {fa f6 f34 t6 xc_NoStep:Addr} {od6 an6 od34 an34 td6:Option Addr} {sl6 sl34 ts6:Array (Option Value)} {oc6 kV6 dc6 pm6 cd6 ct6 oc34 kV34 dc34 pm34 cd34 ct34 tc6:Value} {tn6:Nat} (X:K.In h) (G:h.Ns mainGlobals mg) (hfa:mg "law" = some (.ref fa))
  (D0:DefIn K "wires_of" "wires_of" gW)
  (D1:DefIn K "undone_by" "undone_by" fW)
  (D2:DefIn K "asks_for" "asks_for" gY)
  (D3:DefIn K "flips" "flips" lN)
  (D4:DefIn K "both_alike" "both_alike" eZ)
  (D5:DefIn K "inner_row" "inner_row" f7)
  (a6:PySem.W.nsIn K mainGlobals "lets_by" = some (some (.ref f6))) (l6:K.lookup f6=some ⟨oc6,od6,.func (PySem.W.fnOf "lets_by" "lets_by" (dw dF) (cL dF) (aw dF) (.ref t6) kV6 dc6 pm6 an6 cd6 ct6),sl6⟩) (c6:PySem.W.codeIn K cd6 "lets_by" = true) (k6:PySem.W.keepIn K (.ref f6)=true)
  (d6:K.lookup t6=some ⟨tc6,td6,.seq #[.none] tn6,ts6⟩)
  (D7:DefIn K "steps_for_two" "steps_for_two" dt)
  (D8:DefIn K "swung_row" "swung_row" fX)
  (D9:DefIn K "steps_for_three" "steps_for_three" cq)
  (D10:DefIn K "slides_of" "slides_of" fY)
  (D11:DefIn K "joined" "joined" jJ)
  (D12:DefIn K "changed_by" "changed_by" eY)
  (D13:DefIn K "slid" "slid" ji)
  (D14:DefIn K "led_on" "led_on" jH)
  (D15:DefIn K "leads_to" "leads_to" gX)
  (D16:DefIn K "shortened" "shortened" fZ)
  (D17:DefIn K "slides_stand" "slides_stand" dL)
  (D18:DefIn K "_law_cell" "_law_cell" gh)
  (D19:DefIn K "_law_turn" "_law_turn" f9)
  (D20:DefIn K "_law_row" "_law_row" gZ)
  (D21:DefIn K "_law_often" "_law_often" e9)
  (D22:DefIn K "_law_kinds" "_law_kinds" dM)
  (D23:DefIn K "_law_lets" "_law_lets" gg)
  (D24:DefIn K "_law_marks_ahead" "_law_marks_ahead" cg)
  (D25:DefIn K "_law_clear" "_law_clear" fh)
  (D26:DefIn K "_law_undo" "_law_undo" f8)
  (D27:DefIn K "_law_swung" "_law_swung" cW)
  (D28:DefIn K "_law_fit" "_law_fit" fG)
  (D29:DefIn K "_law_steps" "_law_steps" cX)
  (D30:DefIn K "_law_slid" "_law_slid" gb)
  (D31:DefIn K "_law_stands" "_law_stands" eA)
  (D32:DefIn K "_law_chain" "_law_chain" fj)
  (D33:DefIn K "_law_spoilt" "_law_spoilt" eB)
  (a34:PySem.W.nsIn K mainGlobals "law" = some (some (.ref f34))) (l34:K.lookup f34=some ⟨oc34,od34,.func (PySem.W.fnOf "law" "law" (dw jI) (cL jI) (aw jI) .none kV34 dc34 pm34 an34 cd34 ct34),sl34⟩) (c34:PySem.W.codeIn K cd34 "law" = true) (k34:PySem.W.keepIn K (.ref f34)=true)
  (z_min:PySem.W.nsIn K mainGlobals "min" = some none)
  (z_max:PySem.W.nsIn K mainGlobals "max" = some none)
  (z_all:PySem.W.nsIn K mainGlobals "all" = some none)
  (z_range:PySem.W.nsIn K mainGlobals "range" = some none)
  (z_len:PySem.W.nsIn K mainGlobals "len" = some none)
  (z_sorted:PySem.W.nsIn K mainGlobals "sorted" = some none)
  (z_tuple:PySem.W.nsIn K mainGlobals "tuple" = some none)
  (z_int:PySem.W.nsIn K mainGlobals "int" = some none)
  (z_list:PySem.W.nsIn K mainGlobals "list" = some none)
  (z_isinstance:PySem.W.nsIn K mainGlobals "isinstance" = some none)
  (z_bool:PySem.W.nsIn K mainGlobals "bool" = some none)
  (xn_NoStep:PySem.W.nsIn K mainGlobals "NoStep" = some (some (.ref xc_NoStep)))
  (xe_NoStep:PySem.W.excIn K xc_NoStep [.type "ValueError",.type "Exception",.type "BaseException",.type "object"] "ValueError.__new__" = true)
  (xga_NoStep:PySem.W.findIn K (.ref xc_NoStep) "__getattribute__" = some (some (.builtin "BaseException.__getattribute__")))
  (xgt_NoStep:PySem.W.findIn K (.ref xc_NoStep) "__getattr__" = some none)
  (xcl_NoStep:PySem.W.findIn K (.ref xc_NoStep) "__class__" = some (some (.builtin "object.__class__")))
  (xmo_NoStep:PySem.W.mroIn K xc_NoStep (.type "object")=some true)
  (xbe_NoStep:PySem.W.mroIn K xc_NoStep (.type "BaseException")=some true)
  (xs_NoStep_NoStep:PySem.W.subIn K (.ref xc_NoStep) (.ref xc_NoStep)=some true)
   :∃ fd:FuncData,(∀ (s:Shared) (v:Value),BindsTo s fd ⟨[v],[]⟩ [("script",v)])/\∀ base:Heap,K.In base->base.Ns mainGlobals mg->FnOk l.prog w K mg base ez 16 fa fd ["script"] (uP K):=by
 have e:=hfa.symm.trans (PySem.W.mg_of X G a34)
 cases e
 have T:Txt mg:=⟨PySem.W.mg_none_of X G z_min,PySem.W.mg_none_of X G z_max,PySem.W.mg_none_of X G z_all,PySem.W.mg_none_of X G z_range,PySem.W.mg_none_of X G z_len,PySem.W.mg_none_of X G z_sorted,PySem.W.mg_none_of X G z_tuple,PySem.W.mg_none_of X G z_int,PySem.W.mg_none_of X G z_list,PySem.W.mg_none_of X G z_isinstance,PySem.W.mg_none_of X G z_bool⟩
 have F6:=qb (st:=dF) l6 c6 k6
 have F34:=qb (st:=jI) l34 c34 k34
 have N_slides_of:Fnm K mg "slides_of":=D10.fnm X G
 have N_slid:Fnm K mg "slid":=D13.fnm X G
 have F_NoStep:ExcC K "NoStep" xc_NoStep:=⟨xn_NoStep,xe_NoStep,xga_NoStep,xgt_NoStep,xcl_NoStep,xmo_NoStep,xbe_NoStep⟩
 have E_NoStep:ExcX K "NoStep":=⟨⟨_,F_NoStep⟩⟩
 have H_NoStep:Hnd K "NoStep" iV:=⟨⟨_,xn_NoStep,xe_NoStep,(.cons F_NoStep xs_NoStep_NoStep .nil)⟩⟩
 refine ⟨PySem.W.fnOf "law" "law" (dw jI) (cL jI) (aw jI) .none kV34 dc34 pm34 an34 cd34 ct34,fun s v=>.of_eq rfl,fun base _ _=>?_⟩
 have C_wires_of:Cal l.prog w K mg base "wires_of" 9 bt []:=D0.calR X G sR fun _ _ F m k b=>jN F T m k b 8
 have C_undone_by:Cal l.prog w K mg base "undone_by" 10 bU []:=D1.cal X G qp fun _ _ F=>pL F T C_wires_of
 have C_asks_for:Cal l.prog w K mg base "asks_for" 1 b9 []:=D2.cal X G sT fun _ _ F=>rB F T
 have C_flips:Cal l.prog w K mg base "flips" 1 cv []:=D3.cal X G yW fun _ _ F=>xM F T
 have C_both_alike:Cal l.prog w K mg base "both_alike" 2 ca []:=D4.cal X G oh fun _ _ F=>nO F T C_flips
 have C_inner_row:Cal l.prog w K mg base "inner_row" 1 bO []:=D5.cal X G qu fun _ _ F=>pN F T
 have O6:FnOk l.prog w K mg base ez 10 _ _ _ (eX K cO):=tU F6 T C_asks_for C_wires_of C_both_alike C_inner_row
 have C_lets_by1:Cal l.prog w K mg base "lets_by" 10 cO [.none]:=⟨⟨_,_,_,[.none],[.non],O6,PySem.W.mg_of X G a6,k6,F6.bindsK d6 rfl (ps:=["one","other","mark"]) 2 rfl (fun _ _ _ _ _ _ us hl=>by obtain ⟨_,_,rfl⟩:=g9 hl; exact rfl),.cons (by first | exact ⟨_,rfl⟩ | rfl) (.nil),fun _=>.cons (by constructor) (.nil)⟩⟩
 have C_steps_for_two:Cal l.prog w K mg base "steps_for_two" 11 bG []:=D7.cal X G kP fun _ _ F=>kE F T C_undone_by C_lets_by1
 have C_swung_row:Cal l.prog w K mg base "swung_row" 9 cC []:=D8.calR X G qr fun _ _ F m k b=>i7 F T m k b 8
 have C_steps_for_three:Cal l.prog w K mg base "steps_for_three" 10 aQ []:=D9.cal X G jq fun _ _ F=>jn F T C_swung_row C_wires_of
 have V_slides_of:CalF l.prog w K mg base "slides_of" 12 aW:=D10.calF X G kf fun _ _ F=>jO F T C_steps_for_two C_steps_for_three
 have C_slides_of:Cal l.prog w K mg base "slides_of" 12 aW []:=D10.cal X G kf fun _ _ F=>jO F T C_steps_for_two C_steps_for_three
 have C_joined:Cal l.prog w K mg base "joined" 1 dR []:=D11.cal X G wL fun _ _ F=>wb F T
 have C_changed_by:Cal l.prog w K mg base "changed_by" 10 bB []:=D12.cal X G og fun _ _ F=>nN F T C_swung_row C_joined
 have Y_slid:CalX l.prog w K mg base "slid" 13 gy []:=D13.calX X G vC fun _ _ F=>xL F T C_changed_by C_slides_of E_NoStep
 have V_slid:CalF l.prog w K mg base "slid" 13 eU:=D13.calF X G vC fun _ _ F=>AG F T C_changed_by C_slides_of
 have C_led_on:Cal l.prog w K mg base "led_on" 14 gK []:=D14.cal X G wK fun _ _ F=>wa F T V_slides_of V_slid
 have C_leads_to:Cal l.prog w K mg base "leads_to" 14 cV []:=D15.cal X G sS fun _ _ F=>rA F T V_slid Y_slid H_NoStep
 have C_shortened:Cal l.prog w K mg base "shortened" 15 cD []:=D16.cal X G qt fun _ _ F=>pM F T C_led_on N_slid N_slides_of
 have C_slides_stand:Cal l.prog w K mg base "slides_stand" 15 bg []:=D17.cal X G lJ fun _ _ F=>lE F T C_leads_to N_slid
 have C__law_cell:Cal l.prog w K mg base "_law_cell" 1 bW []:=D18.cal X G qz fun _ _ F=>pS F T
 have C__law_turn:Cal l.prog w K mg base "_law_turn" 1 bH []:=D19.cal X G qw fun _ _ F=>pP F T
 have C__law_row:Cal l.prog w K mg base "_law_row" 2 aZ []:=D20.cal X G sU fun _ _ F=>rE F T C__law_turn
 have C__law_often:Cal l.prog w K mg base "_law_often" 3 cJ []:=D21.cal X G ol fun _ _ F=>nQ F T C__law_row C__law_turn
 have C__law_kinds:Cal l.prog w K mg base "_law_kinds" 9 bN []:=D22.calR X G om fun _ _ F m k b=>iD F T m k b 8
 have C__law_lets:Cal l.prog w K mg base "_law_lets" 10 bI []:=D23.cal X G qy fun _ _ F=>pR F T C__law_kinds
 have C__law_marks_ahead:Cal l.prog w K mg base "_law_marks_ahead" 1 bw []:=D24.cal X G i0 fun _ _ F=>iY F T
 have C__law_clear:Cal l.prog w K mg base "_law_clear" 11 bT []:=D25.cal X G oo fun _ _ F=>nR F T C__law_lets C__law_marks_ahead
 have C__law_undo:Cal l.prog w K mg base "_law_undo" 1 bV []:=D26.cal X G qv fun _ _ F=>pO F T
 have C__law_swung:Cal l.prog w K mg base "_law_swung" 9 cb []:=D27.calR X G oi fun _ _ F m k b=>iA F T m k b 8
 have C__law_fit:Cal l.prog w K mg base "_law_fit" 12 bz []:=D28.cal X G sV fun _ _ F=>rF F T C__law_undo C__law_clear C__law_swung C__law_kinds
 have C__law_steps:Cal l.prog w K mg base "_law_steps" 13 bM []:=D29.cal X G oj fun _ _ F=>nP F T C__law_fit
 have C__law_slid:Cal l.prog w K mg base "_law_slid" 10 bu []:=D30.cal X G qx fun _ _ F=>pQ F T C__law_swung
 have C__law_stands:Cal l.prog w K mg base "_law_stands" 13 bJ []:=D31.cal X G nv fun _ _ F=>mL F T C__law_slid C__law_fit
 have C__law_chain:Cal l.prog w K mg base "_law_chain" 14 cw []:=D32.cal X G oq fun _ _ F=>nS F T C__law_steps C__law_slid
 have C__law_spoilt:Cal l.prog w K mg base "_law_spoilt" 1 aE []:=D33.cal X G ny fun _ _ F=>mM F T
 have O34:FnOk l.prog w K mg base ez 16 _ _ _ (eX K sC):=Db F34 T C__law_often C_shortened C__law_chain C_slides_stand C__law_cell C__law_spoilt C__law_stands
 exact FY O34 fun ns hl=>law_true ns hl
end GN
open PySem PySem.W PyProof.Rows
set_option maxRecDepth 1000000 in
set_option maxHeartbeats 0 in
theorem PySem.Challenge.cw_wavewires_k65_chains_judged_holds : PySem.Challenge.rw_wavewires_k65_chains_judged.Holds := by
  refine topT ?_
  k_fill
  refine VL.EL (k := 16) (l := PySem.Challenge.rw_wavewires_k65_chains_judged) rfl ⟨rfl, by decide, by decide⟩ rfl (fun w h Y => PySem.W.kIn_of Y) ?F
  case F =>
    intro w mg fa h KX G hmg
    refine' GN.Ee KX G hmg (VL.DefIn.mk ?a0 ?l0 ?c0 ?k0) (VL.DefIn.mk ?a1 ?l1 ?c1 ?k1) (VL.DefIn.mk ?a2 ?l2 ?c2 ?k2) (VL.DefIn.mk ?a3 ?l3 ?c3 ?k3) (VL.DefIn.mk ?a4 ?l4 ?c4 ?k4) (VL.DefIn.mk ?a5 ?l5 ?c5 ?k5) ?a6 ?l6 ?c6 ?k6 ?d6 (VL.DefIn.mk ?a7 ?l7 ?c7 ?k7) (VL.DefIn.mk ?a8 ?l8 ?c8 ?k8) (VL.DefIn.mk ?a9 ?l9 ?c9 ?k9) (VL.DefIn.mk ?a10 ?l10 ?c10 ?k10) (VL.DefIn.mk ?a11 ?l11 ?c11 ?k11) (VL.DefIn.mk ?a12 ?l12 ?c12 ?k12) (VL.DefIn.mk ?a13 ?l13 ?c13 ?k13) (VL.DefIn.mk ?a14 ?l14 ?c14 ?k14) (VL.DefIn.mk ?a15 ?l15 ?c15 ?k15) (VL.DefIn.mk ?a16 ?l16 ?c16 ?k16) (VL.DefIn.mk ?a17 ?l17 ?c17 ?k17) (VL.DefIn.mk ?a18 ?l18 ?c18 ?k18) (VL.DefIn.mk ?a19 ?l19 ?c19 ?k19) (VL.DefIn.mk ?a20 ?l20 ?c20 ?k20) (VL.DefIn.mk ?a21 ?l21 ?c21 ?k21) (VL.DefIn.mk ?a22 ?l22 ?c22 ?k22) (VL.DefIn.mk ?a23 ?l23 ?c23 ?k23) (VL.DefIn.mk ?a24 ?l24 ?c24 ?k24) (VL.DefIn.mk ?a25 ?l25 ?c25 ?k25) (VL.DefIn.mk ?a26 ?l26 ?c26 ?k26) (VL.DefIn.mk ?a27 ?l27 ?c27 ?k27) (VL.DefIn.mk ?a28 ?l28 ?c28 ?k28) (VL.DefIn.mk ?a29 ?l29 ?c29 ?k29) (VL.DefIn.mk ?a30 ?l30 ?c30 ?k30) (VL.DefIn.mk ?a31 ?l31 ?c31 ?k31) (VL.DefIn.mk ?a32 ?l32 ?c32 ?k32) (VL.DefIn.mk ?a33 ?l33 ?c33 ?k33) ?a34 ?l34 ?c34 ?k34 ?z_min ?z_max ?z_all ?z_range ?z_len ?z_sorted ?z_tuple ?z_int ?z_list ?z_isinstance ?z_bool ?xn_NoStep ?xe_NoStep ?xga_NoStep ?xgt_NoStep ?xcl_NoStep ?xmo_NoStep ?xbe_NoStep ?xs_NoStep_NoStep
    (case a0 => k_is)
    (case l0 => k_is)
    (case c0 => k_is)
    (case k0 => k_is)
    (case a1 => k_is)
    (case l1 => k_is)
    (case c1 => k_is)
    (case k1 => k_is)
    (case a2 => k_is)
    (case l2 => k_is)
    (case c2 => k_is)
    (case k2 => k_is)
    (case a3 => k_is)
    (case l3 => k_is)
    (case c3 => k_is)
    (case k3 => k_is)
    (case a4 => k_is)
    (case l4 => k_is)
    (case c4 => k_is)
    (case k4 => k_is)
    (case a5 => k_is)
    (case l5 => k_is)
    (case c5 => k_is)
    (case k5 => k_is)
    (case a6 => k_is)
    (case l6 => k_is)
    (case c6 => k_is)
    (case k6 => k_is)
    (case d6 => k_is)
    (case a7 => k_is)
    (case l7 => k_is)
    (case c7 => k_is)
    (case k7 => k_is)
    (case a8 => k_is)
    (case l8 => k_is)
    (case c8 => k_is)
    (case k8 => k_is)
    (case a9 => k_is)
    (case l9 => k_is)
    (case c9 => k_is)
    (case k9 => k_is)
    (case a10 => k_is)
    (case l10 => k_is)
    (case c10 => k_is)
    (case k10 => k_is)
    (case a11 => k_is)
    (case l11 => k_is)
    (case c11 => k_is)
    (case k11 => k_is)
    (case a12 => k_is)
    (case l12 => k_is)
    (case c12 => k_is)
    (case k12 => k_is)
    (case a13 => k_is)
    (case l13 => k_is)
    (case c13 => k_is)
    (case k13 => k_is)
    (case a14 => k_is)
    (case l14 => k_is)
    (case c14 => k_is)
    (case k14 => k_is)
    (case a15 => k_is)
    (case l15 => k_is)
    (case c15 => k_is)
    (case k15 => k_is)
    (case a16 => k_is)
    (case l16 => k_is)
    (case c16 => k_is)
    (case k16 => k_is)
    (case a17 => k_is)
    (case l17 => k_is)
    (case c17 => k_is)
    (case k17 => k_is)
    (case a18 => k_is)
    (case l18 => k_is)
    (case c18 => k_is)
    (case k18 => k_is)
    (case a19 => k_is)
    (case l19 => k_is)
    (case c19 => k_is)
    (case k19 => k_is)
    (case a20 => k_is)
    (case l20 => k_is)
    (case c20 => k_is)
    (case k20 => k_is)
    (case a21 => k_is)
    (case l21 => k_is)
    (case c21 => k_is)
    (case k21 => k_is)
    (case a22 => k_is)
    (case l22 => k_is)
    (case c22 => k_is)
    (case k22 => k_is)
    (case a23 => k_is)
    (case l23 => k_is)
    (case c23 => k_is)
    (case k23 => k_is)
    (case a24 => k_is)
    (case l24 => k_is)
    (case c24 => k_is)
    (case k24 => k_is)
    (case a25 => k_is)
    (case l25 => k_is)
    (case c25 => k_is)
    (case k25 => k_is)
    (case a26 => k_is)
    (case l26 => k_is)
    (case c26 => k_is)
    (case k26 => k_is)
    (case a27 => k_is)
    (case l27 => k_is)
    (case c27 => k_is)
    (case k27 => k_is)
    (case a28 => k_is)
    (case l28 => k_is)
    (case c28 => k_is)
    (case k28 => k_is)
    (case a29 => k_is)
    (case l29 => k_is)
    (case c29 => k_is)
    (case k29 => k_is)
    (case a30 => k_is)
    (case l30 => k_is)
    (case c30 => k_is)
    (case k30 => k_is)
    (case a31 => k_is)
    (case l31 => k_is)
    (case c31 => k_is)
    (case k31 => k_is)
    (case a32 => k_is)
    (case l32 => k_is)
    (case c32 => k_is)
    (case k32 => k_is)
    (case a33 => k_is)
    (case l33 => k_is)
    (case c33 => k_is)
    (case k33 => k_is)
    (case a34 => k_is)
    (case l34 => k_is)
    (case c34 => k_is)
    (case k34 => k_is)
    (case z_min => k_is)
    (case z_max => k_is)
    (case z_all => k_is)
    (case z_range => k_is)
    (case z_len => k_is)
    (case z_sorted => k_is)
    (case z_tuple => k_is)
    (case z_int => k_is)
    (case z_list => k_is)
    (case z_isinstance => k_is)
    (case z_bool => k_is)
    (case xn_NoStep => k_is)
    (case xe_NoStep => k_exc)
    (case xga_NoStep => k_is)
    (case xgt_NoStep => k_is)
    (case xcl_NoStep => k_is)
    (case xmo_NoStep => k_is)
    (case xbe_NoStep => k_is)
    (case xs_NoStep_NoStep => k_is)

end